import PyProof.Rows.All
import Wide.All
import OpenK.AllK
import Wide.FinOn
import Lean
import PyProof.EqAt
import PyProof.EqKinds
import PyProof.TupleCall
import PySem.Challenge.RW_rootspan_k59_roots_turned
set_option Elab.async false
set_option linter.all false
set_option maxRecDepth 100000
local macro_rules | `(tactic|omega)=>`(tactic|first |lia |omega (splitDisjunctions:=true))
noncomputable section
namespace Al
def No:=@List.length_map
def Np:=@Rat.le_of_lt
def Nq:=@List.length_append
def Nt:=@Rat.le_refl
def Nv:=@Nat.le_refl
def Nw:=@Nat.zero_le
def Nx:=@Rat.div_mul_cancel
def Ny:=@List.length_cons
def Nz:=@List.length_pos_iff
def NB:=@List.mem_cons_of_mem
def NC:=@Rat.intCast_mul
def ND:=@Rat.mul_nonneg
def NE:=@Rat.mul_le_mul_of_nonneg_left
def NF:=@List.mem_map
def NG:=@Rat.le_total
def NH:=@Int.mul_pos
def NI:=@List.map_append
def NJ:=@Rat.intCast_lt_intCast
def NK:=@List.mem_cons_self
def NM:=@Int.one_mul
def NN:=@List.nil_append
def NO:=@Int.pow_succ
def NP:=@Nat.le_trans
def NQ:=@Int.mul_zero
def NR:=@List.mem_cons
def NS:=@List.length_reverse
def NT:=@List.mem_append
def NU:=@List.mem_singleton
def NV:=@Rat.mul_pos
def NW:=@Nat.ne_of_lt
def NX:=@List.size_toArray
def NY:=@List.append_assoc
def NZ:=@Rat.le_trans
def N0:=@List.map_cons
def N3:=@Int.mul_ne_zero
def N4:=@Int.natAbs_mul
def N6:=@List.mem_append_right
def N7:=@List.map_map
def N8:=@Nat.lt_of_lt_of_le
def N9:=@Int.ne_of_gt
def Oa:=@List.map_congr_left
def Ob:=@List.cons_append
def Oc:=@Int.mul_one
def Oe:=@List.length_take
def Of:=@Int.add_zero
def Og:=@Rat.pow_succ
def Oh:=@Rat.mul_le_mul_of_nonneg_right
def Oi:=@Rat.not_lt
def Oj:=@Int.le_of_lt
def Ol:=@List.length_nil
def Om:=@Int.mul_comm
def On:=@Int.pow_zero
def Oo:=@Rat.mul_eq_zero
def Op:=@Nat.lt_irrefl
def Os:=@List.eq_nil_of_length_eq_zero
def Ot:=@List.length_drop
def Ou:=@Nat.lt_of_le_of_lt
def Ov:=@Int.zero_mul
def Ow:=@Rat.intCast_neg
def Ox:=@Nat.le_of_eq
def Oy:=@Nat.sub_self
def Oz:=@List.mem_range
def OA:=@Nat.sub_zero
def OB:=@Rat.not_le
def OC:=@Rat.pow_pos
def OD:=@Rat.pow_zero
def OE:=@Int.zero_add
def OF:=@Int.natAbs_natCast
def OG:=@Int.pow_pos
def OH:=@List.mem_append_left
def OI:=@List.getElem_mem
def OJ:=@List.length_range
def OK:=@Int.natAbs_pos
def OL:=@Rat.intCast_le_intCast
def OM:=@Nat.lt_succ_self
def ON:=@Nat.le_of_not_lt
def OO:=@Int.le_refl
def OP:=@List.take_add_one
def OQ:=@List.length_eq_zero_iff
def OR:=@List.map_id
def OS:=@Nat.mul_le_mul_left
def OT:=@Nat.pow_pos
def OU:=@Int.mul_assoc
def OV:=@Rat.intCast_inj
def OW:=@Rat.mul_lt_mul_of_pos_right
def OX:=@Rat.neg_neg
def OY:=@Nat.add_comm
def OZ:=@Nat.gcd_dvd_left
def O0:=@Nat.le_mul_of_pos_left
def O1:=@Nat.le_zero
def O2:=@Nat.mul_le_mul_right
def O3:=@List.drop_zero
def O4:=@Rat.ne_of_gt
def O5:=@List.length_set
def O6:=@List.reverse_cons
def O7:=@List.lookup_cons
def O8:=@List.take_length
def O9:=@Nat.add_mul
def Pa:=@Int.mul_eq_zero
def Pb:=@Rat.intCast_natCast
def Pc:=@List.pairwise_cons
def Pd:=@Bool.false_ne_true
def Pe:=@List.append_nil
def Pf:=@List.replicate_succ
def Ph:=@Nat.pow_succ
def Pi:=@Nat.gcd_dvd_right
def Pj:=@Int.ofNat_dvd_left
def Pk:=@Rat.intCast_add
def Pl:=@Rat.natCast_le_natCast
def Pm:=@Rat.natCast_add
def Pn:=@Nat.zero_add
def Pp:=@Int.pow_ne_zero
def Pq:=@Nat.not_lt_zero
def Ps:=@Rat.zero_mul
def Pt:=@Rat.intCast_sub
def Pu:=@Int.ofNat_lt
def Pw:=@Nat.le_of_lt
def Px:=@Nat.ne_of_gt
def Py:=@List.nodup_cons
def Pz:=@Nat.succ_mul
def PB:=@Int.natAbs_add_le
def PC:=@List.sum_append
def PD:=@List.reverse_append
def PF:=@List.reverse_reverse
def PH:=@List.drop_eq_getElem_cons
def PJ:=@Nat.dvd_trans
def PK:=@Nat.mul_le_mul
def PL:=@Int.mul_le_mul_of_nonneg_right
def PM:=@Int.eq_of_mul_eq_mul_left
def PN:=@Rat.mul_lt_mul_of_pos_left
def PP:=@Int.emod_nonneg
def PQ:=@Int.emod_lt_of_pos
def PR:=@Nat.pow_lt_pow_iff_right
def PU:=@List.flatten_cons
def PV:=@Nat.add_sub_cancel
def PX:=@Nat.gcd_zero_left
def PY:=@List.mem_of_mem_take
def PZ:=@Rat.intCast_pow
def P4:=@Int.natCast_pow
def P5:=@List.append_of_mem
def P6:=@List.range_succ
def P7:=@List.drop_length
def P8:=@Int.natAbs_dvd_natAbs
def P9:=@Int.eq_ofNat_of_zero_le
def Qa:=@Int.natCast_nonneg
def Qb:=@Nat.le_mul_of_pos_right
def Qd:=@List.mem_iff_getElem
def Qe:=@List.mem_of_mem_drop
def Qf:=@List.pairwise_append
def Qg:=@List.drop_eq_nil_of_le
def Qh:=@Int.eq_of_mul_eq_mul_right
def Qi:=@Nat.mod_two_eq_zero_or_one
def Qj:=@List.mem_or_eq_of_mem_set
def Qk:=@Int.natAbs_ediv_le_natAbs
end Al
open Al
abbrev Ex:=List Int
namespace PySem.W
structure Fast:Prop where(tw10031154576371960046 tw10041554817430485485 tw10109300339407601016 tw10136356429424898807 tw10171380756645153434 tw10353266778227986016 tw10379395324322580287 tw10380843959321652138 tw10569893077036857098 tw10571707003021988321 tw10619791106592599461 tw10666493799481853446 tw10667936577683482814 tw10739746973867002539 tw10787775371322753968 tw11097927975846403215 tw11123779504411677848 tw11276613507441247113 tw11357918576493289247 tw1135820831085455541 tw11360888866429720624 tw11370207968833476330 tw11379248392293153597 tw11446033256855888494 tw11887998983170618717 tw1198032032275537668 tw12041035001064155140 tw1206832744944243226 tw12117893489899591937 tw12132473545759755567 tw12139392833406312262 tw1216946981183042335 tw1217143407304298030 tw12319231411259298537 tw12385347624342292967 tw12617564536091677008 tw12632716357139405131 tw12744873279564521720 tw1282712128272922826 tw12972829986603046127 tw12999685562545307682 tw13185794561382686864 tw13207734139083943659 tw13283221574178226852 tw13369267254111506801 tw13505398588232472107 tw13606123515266686999 tw13610418921797322601 tw13650735038034627274 tw13870823551929202946 tw13917579554397232733 tw13927315217586784446 tw14042248411685082115 tw14146284279769495280 tw14226713604930228216 tw14312695603976069868 tw14377137783458156395 tw14425348516946696898 tw14441464383866582484 tw14471922069008184918 tw14498047446672402875 tw14541438993777427402 tw1463788060292921524 tw14689958584622150133 tw14753232031115726483 tw14759259978664676702 tw14790468992194631367 tw14828146455123666557 tw14860958751039034562 tw14950199564343946879 tw15241176846604475209 tw15380955597907366646 tw15382841108716376829 tw15455409969989156227 tw1550042730482439802 tw15558456732490891832 tw15831174298451794544 tw15990049811874369770 tw16147506629454609198 tw16467025931873184434 tw16755812289161144135 tw1680652640160233855 tw16810784665688921454 tw16829841682227472889 tw16834966511526451819 tw16837278578244937865 tw1688974658271881506 tw17011132773241907309 tw17036415404219179931 tw17169620760344839130 tw17317620968575864199 tw17541703567242859973 tw17556318459081748074 tw1760446776452979230 tw17657546192194796595 tw17754706413038282076 tw17817895115039438438 tw17982351497330796111 tw1800305116137999753 tw18033040412746416174 tw18077057446443142365 tw18081843167981811788 tw18095337656035472904 tw18157017626461715791 tw18174186263946383219 tw18239170311390852325 tw1835011959352700835 tw18364656764184429577 tw18380764967178028908 tw18411479702266783632 tw1892195243978378463 tw1954557098471526220 tw1970186902604440656 tw2049100126841244715 tw2084359331315644201 tw2114141611543543529 tw2207085898360919519 tw2229688977221758586 tw2316217481864056453 tw2339419251682067850 tw2352035765903447967 tw2365651579716030674 tw2678432462354357516 tw2820340525747257574 tw2855634080119471749 tw2928705972137424151 tw3071128833978994430 tw3141020262577940319 tw3174088512173349063 tw3202657941500498563 tw323238405193763670 tw3276654710570782707 tw3326553489210990594 tw3338562615378615625 tw3394005831191640650 tw3676857850930828256 tw3891857225216846470 tw3924025146664875123 tw408358058000240808 tw4177220522130807389 tw4224213403701223406 tw4316535917828679121 tw4378469389102438883 tw4531072761743550711 tw4579346506372185583 tw4628650561844077531 tw4648595270181516585 tw4773358324502625799 tw4859498285795600783 tw5019698803630320043 tw5152668762784034736 tw5192979623972936257 tw5308796779896062178 tw5508836024084650645 tw5640371700270442316 tw5759314344481332019 tw5980917662526747929 tw6024906897437668947 tw6073465174142009576 tw6219406549650416863 tw6282041997839888548 tw6287789022390590416 tw6299954746407958487 tw6485662168555170982 tw6595282622330098024 tw671502834195981824 tw6741215970563757596 tw6846828457443894899 tw6849762238780392062 tw6860941334045942861 tw6889875839995312293 tw6902067620754044181 tw6910849292716060907 tw7063467415151453656 tw7066604109189292517 tw7210291941737318660 tw7228245565644950611 tw7257116539438489859 tw7282124114833500140 tw7365414853748682881 tw7426510718105603616 tw7469398977950881002 tw7530135231460746701 tw7593379599879873681 tw7866782946525574318 tw7883527597349045311 tw7978152212525283680 tw8008885698902969233 tw8023413189553659752 tw8166631561312250249 tw8176383647403910515 tw8197669927120692032 tw8260766452104880802 tw8293875890326218862 tw8451013494337122655 tw8608346187120375557 tw8618518468211643617 tw8728845010655057503 tw8754431653293711995 tw8794494886273164191 tw8912826741413222774 tw8929101723871860750 tw9016861821860173769 tw9069027944886116724 tw9261133985273259274 tw9376871462896820502 tw9393093928959838265 tw9458229113541352018 tw9513050864191211181 tw9609458185106119290 tw9650249073684731303 tw9854213739918308227 tw9861201521859342952 tw986627902590216437 tw9927901537079740333:True)
end PySem.W
namespace L2
open PySem PySem.Spec PyProof.Rows
abbrev Key:=Sum Int Str
noncomputable def Ae:Key->Value->Bool
 |.inl k,v=>Value.isInt k v
 |.inr x,v=>Value.isStrOf x v
noncomputable def Iq(w:World):Key->Int
 |.inl k=>hashInt k
 |.inr x=>hashStr w x
theorem hE:∀{k:Key} {v:Value},Ae k v=true->(∃i t,k=Sum.inl i/\v=Value.int i t)\/(∃x t,k=Sum.inr x/\v=Value.str x t)
 |.inl i,v,h=>by obtain⟨t,e⟩:=Value.isInt_shape (k:=i) (v:=v) h;exact .inl ⟨i,t,rfl,e⟩
 |.inr x,v,h=>by obtain⟨t,e⟩:=Value.isStrOf_shape (x:=x) (v:=v) h;exact .inr ⟨x,t,rfl,e⟩
def Io(a b:Int):decide ((Sum.inl a:Key)=Sum.inl b)=(a == b):=by
 by_cases e:a=b
 ·subst e;simp
 ·have h:¬(Sum.inl a:Key)=Sum.inl b:=λq=>e (Sum.inl.inj q)
  rw[decide_eq_false h];exact(beq_eq_false_iff_ne.mpr e).symm
def Ik(a b:Str):decide ((Sum.inr a:Key)=Sum.inr b)=decide (a=b):=by
 by_cases e:a=b
 ·subst e;simp
 ·have h:¬(Sum.inr a:Key)=Sum.inr b:=λq=>e (Sum.inr.inj q)
  rw[decide_eq_false h,decide_eq_false e]
def Im(a:Int)(b:Str):decide ((Sum.inl a:Key)=Sum.inr b)=false:=decide_eq_false (λq=>nomatch q)
def Il(a:Str)(b:Int):decide ((Sum.inr a:Key)=Sum.inl b)=false:=decide_eq_false (λq=>nomatch q)
noncomputable def uj(prog:Program)(w:World):PySem.KeyKind prog w Key where
 is:=Ae
 hash:=Iq w
 inj:=λv a b ha hb=>by
  rcases hE ha with⟨i,t,rfl,rfl⟩ |⟨x,t,rfl,rfl⟩
  ·rcases hE hb with⟨j,u,rfl,e⟩ |⟨y,u,rfl,e⟩
   ·injection e with e1 _;rw[e1]
   ·exact nomatch e
  ·rcases hE hb with⟨j,u,rfl,e⟩ |⟨y,u,rfl,e⟩
   ·exact nomatch e
   ·injection e with e1 _;rw[e1]
 byValue:=λk v h=>by rcases hE h with⟨i,t,rfl,rfl⟩ |⟨x,t,rfl,rfl⟩<;>rfl
 pyHash:=λhv h=>by
  rcases hE hv with⟨i,t,rfl,rfl⟩ |⟨x,t,rfl,rfl⟩
  ·exact wpAny_pyHash_int h
  ·exact wpAny_pyHash_str h
 eqBool:=λhu hv h=>by
  rcases hE hu with⟨i,t,rfl,rfl⟩ |⟨x,t,rfl,rfl⟩
  ·rcases hE hv with⟨j,u,rfl,rfl⟩ |⟨y,u,rfl,rfl⟩
   ·rw[Io]at h;exact wpAny_eqBool_int h
   ·rw[Im]at h;exact SeqAt.EqAt.int_str i t y u _ _ _ _ h
  ·rcases hE hv with⟨j,u,rfl,rfl⟩ |⟨y,u,rfl,rfl⟩
   ·rw[Il]at h;exact SeqAt.EqAt.str_int x t j u _ _ _ _ h
   ·rw[Ik]at h;exact wpAny_eqBool_str h
 «strs»:=λk x t v h=>by
  rcases hE h with⟨i,u,rfl,e⟩ |⟨y,u,rfl,e⟩
  ·exact nomatch e
  ·injection e with e1 _
   subst e1;cases v<;>rfl
inductive V where
 |non |bl (b:Bool) |int (i:Int) |str (x:Str) |byt (b:Array UInt8) |flt (b:UInt64) |ref (a:Addr) |ty (n:String)
 deriving DecidableEq
noncomputable def RelV:V->Value->Prop
 |.non,u=>u=Value.none
 |.bl b,u=>u=Value.bool b
 |.int i,u=>∃t,u=Value.int i t
 |.str x,u=>∃t,u=Value.str x t
 |.byt b,u=>∃t,u=Value.bytes b t
 |.flt b,u=>∃t,u=Value.float b t
 |.ref a,u=>u=Value.ref a
 |.ty n,u=>u=Value.type n
abbrev Vals:List V->List Value->Prop:=Paired RelV
def Vals.length{xs:List V}{us:List Value}(r:Vals xs us):xs.length=us.length:=Paired.length r
theorem Vals.get:∀{xs:List V} {us:List Value} {i:Nat} {x:V},Vals xs us->xs[i]?=some x->∃u,us[i]?=some u/\RelV x u
 |_,_,_,_,.nil,e=>by simp at e
 |_,_,0,_,.cons r _,e=>by simp at e;subst e;exact⟨_,rfl,r⟩
 |_,_,i+1,x,.cons _ t,e=>by obtain⟨u,h1,h2⟩:=Vals.get (i:=i) (x:=x) t (by simpa using e);exact⟨u,by simpa using h1,h2⟩
theorem Vals.set{x:V}{u:Value}(r:RelV x u):∀{xs:List V} {us:List Value} (i:Nat),Vals xs us->Vals (xs.set i x) (us.set i u)
 |_,_,_,.nil=>.nil
 |_,_,0,.cons _ t=>.cons r t
 |_,_,i+1,.cons q t=>.cons q (Vals.set r i t)
theorem Vals.append:∀{xs ys:List V} {us ws:List Value},Vals xs us->Vals ys ws->Vals (xs++ys) (us++ws)
 |_,_,_,_,.nil,s=>s
 |_,_,_,_,.cons r t,s=>.cons r (Vals.append t s)
theorem Vals.take:∀{xs:List V} {us:List Value} (n:Nat),Vals xs us->Vals (xs.take n) (us.take n)
 |_,_,0,_=>.nil
 |_,_,_+1,.nil=>.nil
 |_,_,n+1,.cons r t=>.cons r (Vals.take n t)
theorem Vals.drop:∀{xs:List V} {us:List Value} (n:Nat),Vals xs us->Vals (xs.drop n) (us.drop n)
 |_,_,0,r=>r
 |_,_,_+1,.nil=>.nil
 |_,_,n+1,.cons _ t=>Vals.drop n t
noncomputable def RelO:Option V->Option Value->Prop
 |some v,some u=>RelV v u
 |none,none=>True
 |_,_=>False
def KV{κ:Type}:List (κ×V)->List (κ×Value)->Prop:=Paired λ(p:κ×V) (q:κ×Value)=>p.1=q.1/\RelV p.2 q.2
def kV:Key->V
 |.inl i=>.int i
 |.inr x=>.str x
inductive HO where
 |lst (xs:List V)
 |tup (xs:List V)
 |dK (kvs:List (Key×V)) |dT (kvs:List (List Key×V))
 |set (S:Int->Bool) (n:Nat)
 |ins (C dx:Addr) (fs:List (Str×V))
 |own (x:Addr)
 |xd (fs:List (Str×V))
 |met (f x:Addr)
 |rng (lo hi:Int)
 |frz (o:Obj) (u:HO)
 |tbl (ps:Array Value)
 |ext (φ:Heap->Prop)
abbrev Hp:=Addr->Option HO
def upd(H:Hp)(a:Addr)(o:HO):Hp:=λb=>if b=a then some o else H b
def ax{H:Hp}{a:Addr}{o:HO}:upd H a o a=some o:=by unfold upd;rw[if_pos rfl]
def upd_ne{H:Hp}{a b:Addr}{o:HO}(h:b≠a):upd H a o b=H b:=by unfold upd;rw[if_neg h]
def mI{H:Hp}{a:Addr}{o u:HO}:upd (upd H a o) a u=upd H a u:=by funext b;unfold upd;split<;>rfl
def bn{H:Hp}{a b:Addr}{o:HO}(h:H a=some o)(h':H b=none):a≠b:=by intro e;subst e;rw[h]at h';cases h'
section
variable (P:Program)(w:World)
noncomputable def ObjOk(H:Hp)(h:Heap)(a:Addr):HO->Prop
 |.lst xs=>xs.length<=sizeLine/\∃(its:List Value) (n:Nat),Vals xs its/\h.get? a=some { cls:=.type "list",data:=.seq its.toArray n }
 |.tup xs=>xs.length<=sizeLine/\∃its:List Value,Vals xs its/\IsTup h a its.toArray
 |.dK kvs=>kvs.length<=sizeLine/\(a == sysModules)=false/\∃vs,KV kvs vs/\h.DictOf (uj P w) a vs
 |.dT kvs=>kvs.length<=sizeLine/\(a == sysModules)=false/\∃xs:List (List Key×Addr×Value),
  Paired (λ(p:List Key×V) (q:List Key×Addr×Value)=>p.1=q.1/\H q.2.1=some (.tup (p.1.map kV))/\RelV p.2 q.2.2) kvs xs /\
  ∃o es ep,h.get? a=some o/\o.ExactDict/\o.data=.dict es ep/\es.toList=xs.map (entryOfKey (tupleKind (uj P w)))/\(xs.map (·.1)).Nodup
 |.set S n=>h.SetOf (intKind P w) a S n
 |.ins C dx fs=>H dx=some (.own a)/\fs.length<=1000/\dx≠a/\h.get? a=some (PySem.W.instObj C dx) /\
  ∃mA,h.Ns1 dx mA/\(∀f,RelO (fs.lookup f) (mA f))/\PySem.Within mA (fs.map (·.1))
 |.own _=>∃o,h.get? a=some o
 |.xd fs=>∃mA,h.Ns1 a mA/\∀f,RelO (fs.lookup f) (mA f)
 |.rng lo hi=>∃t u v,h.get? a=some { cls:=.type "range",data:=.fields #[.int lo t,.int hi u,.int 1 v] }
 |.frz o u=>h.get? a=some o/\ObjOk H h a u
 |.tbl ps=>h.get? a=some { cls:=.none,data:=.fields ps }
 |.met f x=>h.get? a=some (PySem.W.methodObj (.ref f) (.ref x))
 |.ext φ=>φ h/\(∃o,h.get? a=some o)/\∀h1 h2:Heap,φ h1->(∀o,h1.get? a=some o->h2.get? a=some o)->φ h2
def HOk(H:Hp)(h:Heap):Prop:=∀a o,H a=some o->ObjOk P w H h a o
end
section
variable {P:Program}{w:World}{H H':Hp}{h h':Heap}{a:Addr}{o:HO}
def ObjOk.lt(x:ObjOk P w H h a o):a<h.objs.size:=by
 cases o with
 |lst xs=>obtain⟨_,_,_,_,e⟩:=x;exact Heap.lt_size e
 |tup xs=>obtain⟨_,_,_,p⟩:=x;exact p.lt
 |dK kvs=>obtain⟨_,_,_,_,o,_,_,e,_⟩:=x;exact Heap.lt_size e
 |dT kvs=>obtain⟨_,_,_,_,o,_,_,e,_⟩:=x;exact Heap.lt_size e
 |set S n=>obtain⟨o,_,_,_,e,_⟩:=x;exact Heap.lt_size e
 |ins C dx fs=>obtain⟨_,_,_,e,_⟩:=x;exact Heap.lt_size e
 |own y=>obtain⟨_,e⟩:=x;exact Heap.lt_size e
 |xd fs=>obtain⟨_,⟨_,_,_,e,_⟩,_⟩:=x;exact Heap.lt_size e
 |rng lo hi=>obtain⟨_,_,_,e⟩:=x;exact Heap.lt_size e
 |frz ob u=>obtain⟨e,_⟩:=x;exact Heap.lt_size e
 |tbl ps=>exact Heap.lt_size (show h.get? a=some _ from x)
 |met f y=>exact Heap.lt_size (show h.get? a=some _ from x)
 |ext φ=>obtain⟨_,⟨_,e⟩,_⟩:=x;exact Heap.lt_size e
theorem Paired.mapP{α β:Type}{F G:α->β->Prop}:∀{l₁:List α} {l₂:List β},Paired F l₁ l₂->(∀a b,F a b->G a b)->Paired G l₁ l₂
 |_,_,.nil,_=>.nil
 |_,_,.cons r t,f=>.cons (f _ _ r) (Paired.mapP t f)
theorem ObjOk.stay(x:ObjOk P w H h a o)(k:∀b u,(b=a\/H b=some (.own a))->h.get? b=some u->h'.get? b=some u)
 (ho:∀b,H b=some (.own a)->H' b=some (.own a)) (ht:∀b xs,H b=some (.tup xs)->H' b=some (.tup xs)):ObjOk P w H' h' a o:=by
 induction o with
 |lst xs=>obtain⟨z,its,n,r,e⟩:=x;exact⟨z,its,n,r,k _ _ (.inl rfl) e⟩
 |tup xs=>obtain⟨z,its,r,ob,e,c⟩:=x;exact⟨z,its,r,ob,k _ _ (.inl rfl) e,c⟩
 |dK kvs=>obtain⟨z,y,vs,r,ob,es,ep,e,c⟩:=x;exact⟨z,y,vs,r,ob,es,ep,k _ _ (.inl rfl) e,c⟩
 |dT kvs =>obtain⟨z,y,xs,r,ob,es,ep,e,c⟩:=x;exact⟨z,y,xs,Paired.mapP r λp q z=>⟨z.1,ht _ _ z.2.1,z.2.2⟩,ob,es,ep,k _ _ (.inl rfl) e,c⟩
 |set S n=>obtain⟨ob,es,ep,t,e,c⟩:=x;exact⟨ob,es,ep,t,k _ _ (.inl rfl) e,c⟩
 |ins C dx fs =>obtain⟨d,z,ne,e,mA,⟨od,es,ep,e2,c⟩,r⟩:=x;exact⟨ho _ d,z,ne,k _ _ (.inl rfl) e,mA,⟨od,es,ep,k _ _ (.inr d) e2,c⟩,r⟩
 |own y=>obtain⟨ob,e⟩:=x;exact⟨ob,k _ _ (.inl rfl) e⟩
 |xd fs=>obtain⟨mA,⟨od,es,ep,e,c⟩,r⟩:=x;exact⟨mA,⟨od,es,ep,k _ _ (.inl rfl) e,c⟩,r⟩
 |rng lo hi=>obtain⟨t,u,v,e⟩:=x;exact⟨t,u,v,k _ _ (.inl rfl) e⟩
 |frz ob u ih=>obtain⟨e,q⟩:=x;exact⟨k _ _ (.inl rfl) e,ih q⟩
 |tbl ps =>have e:h.get? a=some { cls:=.none,data:=.fields ps }:=x;show h'.get? a=some { cls:=.none,data:=.fields ps };exact k a _ (.inl rfl) e
 |met f y =>have e:h.get? a=some (PySem.W.methodObj (.ref f) (.ref y)):=x;show h'.get? a=some (PySem.W.methodObj (.ref f) (.ref y));exact k a _ (.inl rfl) e
 |ext φ=>obtain⟨p,⟨o,e⟩,st⟩:=x;exact⟨st _ _ p λo q=>k _ _ (.inl rfl) q,⟨o,k _ _ (.inl rfl) e⟩,st⟩
def HOk.lt(x:HOk P w H h)(e:H a=some o):a<h.objs.size:=(x a o e).lt
def HOk.fresh(x:HOk P w H h)(e:h.objs.size<=a):H a=none:=by
 cases q:H a with
 |none=>rfl
 |some u=>exact absurd (N8 (x.lt q) e) (Op _)
def HOk.kept(x:HOk P w H h)(k:∀b u,h.get? b=some u->h'.get? b=some u):HOk P w H h':=λa o e =>(x a o e).stay (λb u _ q=>k b u q) (λ_ q=>q) λ_ _ q=>q
def HOk.laid(x:HOk P w H h)(k:∀b u,h.get? b=some u->h'.get? b=some u)(hp:h.objs.size<=a)(new:ObjOk P w (upd H a o) h' a o):HOk P w (upd H a o) h':=λb u e=>by
 have hn:=x.fresh hp;by_cases hb:b=a
 ·subst hb;rw[ax]at e;cases e;exact new
 ·rw[upd_ne hb]at e;exact(x b u e).stay (λc v _ q=>k c v q) (λc q=>by rw[upd_ne (bn q hn)];exact q) λc xs q=>by rw[upd_ne (bn q hn)];exact q
end
def Rd(H:Hp)(a:Addr)(u:HO):Prop:=H a=some u\/∃o,H a=some (.frz o u)
def Rd.of{H:Hp}{a:Addr}{u:HO}(h:H a=some u):Rd H a u:=.inl h
def Rd.ok{P:Program}{w:World}{H:Hp}{h:Heap}{a:Addr}{u:HO}(r:Rd H a u)(x:HOk P w H h):ObjOk P w H h a u:=by
 rcases r with r |⟨o,r⟩
 ·exact x a u r
 ·obtain⟨_,q⟩:=x a _ r;exact q
noncomputable def Mut:Option HO->Prop
 |some (.lst _)=>True
 |some (.dK _)=>True
 |some (.dT _)=>True
 |some (.set _ _)=>True
 |some (.ins _ _ _)=>True
 |some (.ext _)=>True
 |_=>False
section
variable {P:Program}{w:World}{H:Hp}{h h':Heap}{x e:Addr}{o':HO}
def HOk.write(ok:HOk P w H h)(mu:Mut (H x))(he:e=x\/H e=some (.own x))(k:∀b u,b≠e->h.get? b=some u->h'.get? b=some u)(heo:∃u,h'.get? e=some u)
 (new:ObjOk P w (upd H x o') h' x o'):HOk P w (upd H x o') h':=λb u q=>by
 have nown:∀c y,H c=some (.own y)->c≠x:=λc y r z=>by subst z;rw[r]at mu;exact mu
 have ntup:∀c xs,H c=some (.tup xs)->c≠x:=λc xs r z=>by subst z;rw[r]at mu;exact mu
 by_cases hb:b=x
 ·subst hb;rw[ax]at q;cases q;exact new
 ·rw[upd_ne hb]at q;by_cases hbe:b=e
  ·have q':H b=some (.own x):=by
    rcases he with z |z
    ·exact absurd (hbe.trans z) hb
    ·rw[hbe];exact z
   rw[q]at q';cases q';obtain⟨v,hv⟩:=heo;exact⟨v,by rw[hbe];exact hv⟩
  ·refine(ok b u q).stay (λc v hc r=>k c v ?_ r) (λc r=>by rw[upd_ne (nown c b r)];exact r) λc xs r=>by rw[upd_ne (ntup c xs r)];exact r
   rcases hc with rfl |hc
   ·exact hbe
   ·rintro rfl;rcases he with z |z
    ·exact nown c b hc z
    ·rw[hc]at z;cases z;exact hb rfl
end
structure Un(fs ex:List Addr)(H H':Hp)(h h':Heap):Prop where
 keep:∀b o,h.get? b=some o->H b=none->b∉fs->b∉ex->h'.get? b=some o
 slot:∀b o,h.get? b=some o->H b=none->b∈fs->b∉ex->∃sl,h'.get? b=some { o with slots:=sl }
 free:∀b o,h.get? b=some o->H b=none->b∉ex->H' b=none
 there:∀b o,h.get? b=some o->b∉ex->∃o',h'.get? b=some o'
 tups:∀b xs,H b=some (.tup xs)->H' b=some (.tup xs)
 frzs:∀b o u,H b=some (.frz o u)->H' b=some (.frz o u)
 tbls:∀b ps,H b=some (.tbl ps)->∃more,H' b=some (.tbl (ps++more))
section
variable {fs fs' ex ex':List Addr}{H H1 H2:Hp}{h h1 h2 h':Heap}{a x e:Addr}{o:HO}
def Un.any(u:Un fs ex H H1 h h1){b:Addr}{ob:Obj}(q:h.get? b=some ob)(n:H b=none)(hx:b∉ex):∃sl,h1.get? b=some { ob with slots:=sl }:=by
 by_cases hb:b∈fs
 ·exact u.slot b ob q n hb hx
 ·exact⟨ob.slots,u.keep b ob q n hb hx⟩
def Un.kept(k:∀b u,h.get? b=some u->h'.get? b=some u):Un fs ex H H h h' :=
 ⟨λb ob q _ _ _=>k b ob q,λb ob q _ _ _=>⟨ob.slots,k b ob q⟩,λ_ _ _ n _=>n,λb ob q _=>⟨ob,k b ob q⟩,λ_ _ q=>q,λ_ _ _ q=>q,λ_ ps q=>⟨#[],by rw[q];simp⟩⟩
def Un.refl:Un fs ex H H h h:=Un.kept λ_ _ q=>q
def Un.laid(k:∀b u,h.get? b=some u->h'.get? b=some u)(hp:h.objs.size<=a)(hn:H a=none):Un fs ex H (upd H a o) h h' where
 keep:=λb u q _ _ _=>k b u q
 slot:=λb u q _ _ _=>⟨u.slots,k b u q⟩
 free:=λb u q n _=>by rw[upd_ne (NW (N8 (Heap.lt_size q) hp))];exact n
 there:=λb u q _=>⟨u,k b u q⟩
 tups:=λb xs q=>by rw[upd_ne (bn q hn)];exact q
 frzs:=λb u xs q=>by rw[upd_ne (bn q hn)];exact q
 tbls:=λb ps q=>⟨#[],by rw[upd_ne (bn q hn),q];simp⟩
def Un.write(mu:Mut (H x))(he:e=x\/H e=some (.own x))(k:∀b u,b≠e->h.get? b=some u->h'.get? b=some u)(heo:∃u,h'.get? e=some u):Un fs ex H (upd H x o) h h':=by
 have hx:∀b,H b=none->b≠x:=λb n z=>by subst z;rw[n]at mu;exact mu
 have hb:∀b,H b=none->b≠e:=λb n z=>by
  subst z;rcases he with r |r
  ·exact hx b n r
  ·rw[n]at r;cases r
 have hm:∀b u,H b=some u->¬Mut (some u)->b≠x:=λb u q nm z=>by subst z;rw[q]at mu;exact nm mu
 refine⟨λb u q n _ _=>k b u (hb b n) q,λb u q n _ _=>⟨u.slots,k b u (hb b n) q⟩,λb u q n _=>by rw[upd_ne (hx b n)];exact n,λb u q _=>?_,
  λb xs q=>by rw[upd_ne (hm b _ q λz=>z)];exact q,λb u xs q=>by rw[upd_ne (hm b _ q λz=>z)];exact q,λb ps q=>⟨#[],by rw[upd_ne (hm b _ q λz=>z),q];simp⟩⟩
 by_cases hbe:b=e
 ·subst hbe;exact heo
 ·exact⟨u,k b u hbe q⟩
end
def trk(h:Heap)(H:Hp):List Addr:=(List.range h.objs.size).filter λa=>(H a).isSome
def gL(h:Heap)(H:Hp):Heap:=PySem.W.hideAll h (trk h H)
def IL(h:Heap)(H:Hp):(gL h H).objs.size=h.objs.size:=PySem.W.hideAll_size _ _
def IM{h:Heap}{H:Hp}{b:Addr}{o:Obj}(e:h.get? b=some o)(n:H b=none):(gL h H).get? b=some o :=
 PySem.W.hideAll_get _ e λhm=>by have q:(H b).isSome=true:=(List.mem_filter.mp hm).2;rw[n]at q;simp at q
def Hh{h:Heap}{H:Hp}{b:Addr}{o:Obj}(e:(gL h H).get? b=some o):h.get? b=some o/\H b=none:=by
 have e':h.get? b=some o:=PySem.W.of_hideAll (trk h H) e;refine⟨e',?_⟩;cases q:H b with
 |none=>rfl
 |some x =>have hm:b∈trk h H:=List.mem_filter.mpr ⟨Oz.mpr (Heap.lt_size e'),by simp[q]⟩;have z:(gL h H).get? b=none:=PySem.W.hideAll_none (trk h H) hm;rw[z]at e;cases e
def KE(g h:Heap)(L:Addr):List (Addr×Obj):=(List.range h.objs.size).filterMap λa=>if a=L\/(g.get? a).isSome=true then none else(h.get? a).map λo=>(a,o)
def rest(g h:Heap)(L d:Addr):List (Addr×Obj):=(KE g h L).filter λp=>decide (p.1≠d)
structure Mod(K:PySem.W.Frag)(mg:Str->Option Value)(base:Heap):Prop where
 kin:K.In base
 glob:base.Ns mainGlobals mg
 blt:∃mb,base.Ns builtinsNs mb/\∀x:Str,x≠"__name__"->mb x=bootBuiltins x
 nolimit:base.NoLimit
structure Cx where
 prog:Program
 w:World
 K:PySem.W.Frag
 mg:Str->Option Value
 base:Heap
 A:Around
 N:List Str
 s₀:Shared
 H₀:Hp
 env:Env
 outer:List Env
 stack:List Env
 ex:List Addr
 fn:Str->Bool
 calm:Bool
 pn:List (Addr×Obj)
 xe:Value->Shared->Prop
def frs(l:List Env):List Addr:=l.filterMap (·.frame)
abbrev Cx.fs(X:Cx):List Addr:=frs X.outer
def Vis(sc:Scope)(x:Str):Prop:=sc.names.lookup x=some .local\/sc.names.lookup x=some .cell\/sc.names.lookup x=some .free
def Loc(sc:Scope)(x:Str):Prop:=sc.names.lookup x=some .local\/sc.names.lookup x=some .cell
def KM(env:Env)(h:Heap)(m:Str->Option Value)(x:Str)(u:Value):Prop :=
 (env.kindOf x=some .local/\m x=some u)\/((env.kindOf x=some .cell\/env.kindOf x=some .free)/\∃c,env.cells.lookup x=some c/\h.IsCell c (some u))
structure Cx.Ok(X:Cx):Prop where
 mod:Mod X.K X.mg X.base
 kind:X.env.scope.kind=.function
 glob:X.env.globals=mainGlobals
 blt:X.env.builtins=builtinsNs
 above:X.s₀.heap.objs.size<=X.env.locals
 inj:∀x y c,X.env.cells.lookup x=some c->X.env.cells.lookup y=some c->x=y
 has:∀x,(X.env.kindOf x=some .cell\/X.env.kindOf x=some .free)->∃c,X.env.cells.lookup x=some c
 cab:∀x c,X.fn x=true->X.env.cells.lookup x=some c->X.s₀.heap.objs.size<=c
 hd:X.calm=true->X.A.handled=none
 frames:X.A.frames=some X.stack
 stk:X.stack=X.outer\/(X.stack=X.env::X.outer/\X.env.frame=some X.env.locals)
 exf:∀b∈X.ex,b≠X.env.locals/\∀x c,X.env.cells.lookup x=some c->c≠b
 bs:∀b o,X.base.get? b=some o->X.s₀.heap.get? b=some o/\X.H₀ b=none
 bsz:X.base.objs.size<=X.s₀.heap.objs.size
 noex:∀b o,X.base.get? b=some o->b∉X.ex
 exfs:∀b∈X.ex,b∉X.fs
 funs:X.s₀.heap.FunFrames X.base X.outer
 frf:∀b∈X.fs,X.H₀ b=none
structure Inv(X:Cx)(pins:List (Addr×Obj))(σ:List (Option V))(H:Hp)(s:Shared):Prop where
 ok:X.Ok
 os:s.os=X.s₀.os
 bare:AllBare s.gens
 base:Un X.fs X.ex X.H₀ H X.s₀.heap s.heap
 loc:∃m,s.heap.Ns X.env.locals m/\∀(i:Nat) (x:Str) (v:V),X.N[i]?=some x->σ[i]?=some (some v)->Vis X.env.scope x->∃u,RelV v u/\KM X.env s.heap m x u
 cell:∀x c,X.env.cells.lookup x=some c->∃v,s.heap.IsCell c v
 free:H X.env.locals=none
 freeC:∀x c,X.env.cells.lookup x=some c->H c=none
 pin:∀p∈X.pn++pins,s.heap.get? p.1=some p.2/\H p.1=none/\p.1≠X.env.locals/\p.1∉X.fs/\∀v,p.2.data≠.cell v
 hok:HOk X.prog X.w H s.heap
 len:σ.length=X.N.length
section
variable {X:Cx}{pins:List (Addr×Obj)}{σ:List (Option V)}{H H':Hp}{s:Shared}{h':Heap}
def Cx.Ok.nofr(ok:X.Ok){b:Addr}{o:Obj}(e:X.base.get? b=some o):b∉X.fs:=λhb=>by have:=(ok.funs.mem hb).1;rw[e]at this;cases this
def Inv.bs(I:Inv X pins σ H s):∀b o,X.base.get? b=some o->s.heap.get? b=some o/\H b=none:=λb o e =>⟨I.base.keep b o (I.ok.bs b o e).1 (I.ok.bs b o e).2 (I.ok.nofr e) (I.ok.noex b o e),I.base.free b o (I.ok.bs b o e).1 (I.ok.bs b o e).2 (I.ok.noex b o e)⟩
def Inv.bk(I:Inv X pins σ H s):∀b o,X.base.get? b=some o->s.heap.get? b=some o:=λb o e=>(I.bs b o e).1
def Inv.mod(I:Inv X pins σ H s):Mod X.K X.mg X.base:=I.ok.mod
def Inv.kIn(I:Inv X pins σ H s):X.K.In s.heap:=I.ok.mod.kin.keeps I.bk
def Inv.nolimit(I:Inv X pins σ H s):s.heap.NoLimit:=I.ok.mod.nolimit.keeps I.bk
def Inv.lt(I:Inv X pins σ H s):X.env.locals<s.heap.objs.size:=let⟨_,hn,_⟩:=I.loc;hn.lt
def Inv.sz(I:Inv X pins σ H s):X.s₀.heap.objs.size<=s.heap.objs.size:=NP I.ok.above (Pw I.lt)
def Inv.nofs(I:Inv X pins σ H s){a:Addr}(h:s.heap.objs.size<=a):a∉X.fs:=λhb=>by obtain⟨_,o,ho,_⟩:=I.ok.funs.mem hb;exact absurd (N8 (Heap.lt_size ho) (NP I.sz h)) (Op _)
def Inv.cne(I:Inv X pins σ H s):∀x c,X.env.cells.lookup x=some c->c≠X.env.locals:=λx c e z=>by obtain⟨v,o,ho,hd⟩:=I.cell x c e;obtain⟨m,⟨o',es,ep,ho',hd',_⟩,_⟩:=I.loc;rw[z,ho']at ho;cases ho;rw[hd']at hd;cases hd
def Inv.funs(I:Inv X pins σ H s):s.heap.FunFrames X.base X.outer:=by
 have all:∀(l:List Env),(∀b∈frs l,b∈X.fs)->X.s₀.heap.FunFrames X.base l->s.heap.FunFrames X.base l:=by
  intro l
  induction l with
  |nil=>intro _ _;trivial
  |cons env r ih =>
   intro hs hl;obtain⟨hk,⟨L,o,hf,hn,ho,hd⟩,hr⟩:=hl;have hL:L∈X.fs:=hs L (by unfold frs;rw[List.filterMap_cons,hf];exact NK);obtain⟨sl,e⟩:=I.base.slot L o ho (I.ok.frf L hL) hL λz=>I.ok.exfs L z hL
   exact⟨hk,⟨L,_,hf,hn,e,hd⟩,ih (λb hb=>hs b (by unfold frs;rw[List.filterMap_cons,hf];exact NB _ hb)) hr⟩
 exact all X.outer (λ_ hb=>hb) I.ok.funs
def Inv.stack(I:Inv X pins σ H s):s.heap.FunFrames X.base X.stack:=by
 rcases I.ok.stk with e |⟨e,hf⟩
 ·rw[e];exact I.funs
 ·rw[e];obtain⟨m,hn,_⟩:=I.loc;refine .cons (by rw[I.ok.kind];decide) hf hn ?_ I.funs;exact Heap.get?_none_of_le (NP I.ok.bsz I.ok.above)
def Inv.stkSub(I:Inv X pins σ H s):∀b∈frs X.stack,b∈X.env.locals::X.fs:=λb hb=>by
 rcases I.ok.stk with e |⟨e,hf⟩
 ·rw[e]at hb;exact NB _ hb
 ·rw[e]at hb;unfold frs at hb
  rw[List.filterMap_cons,hf]at hb;exact hb
def Inv.stkFree(I:Inv X pins σ H s):∀b∈frs X.stack,H b=none:=λb hb=>by
 rcases NR.mp (I.stkSub b hb)with e |hb
 ·rw[e];exact I.free
 ·obtain⟨_,o,ho,_⟩:=I.ok.funs.mem hb;exact I.base.free b o ho (I.ok.frf b hb) λz=>I.ok.exfs b z hb
def Inv.step{g':Array GenState}{t':Nat}{d':Drawn}{ch:List Addr}(I:Inv X pins σ H s)
 (hch:∀b∈ch,(b∈X.ex\/X.s₀.heap.objs.size<=b)/\b≠X.env.locals/\(∀x c,X.env.cells.lookup x=some c->c≠b)/\∀p∈X.pn++pins,p.1≠b)
 (keep:∀b o,b≠X.env.locals->b∉X.fs->b∉ch->s.heap.get? b=some o->H b=none->h'.get? b=some o)
 (slot:∀b o,b≠X.env.locals->b∈X.fs->b∉ch->s.heap.get? b=some o->H b=none->∃sl,h'.get? b=some { o with slots:=sl }) (free:∀b o,b∉ch->s.heap.get? b=some o->H b=none->H' b=none)
 (there:∀b o,b∉ch->s.heap.get? b=some o->∃o',h'.get? b=some o')
 (tups:∀b xs,H b=some (.tup xs)->H' b=some (.tup xs)) (frzs:∀b o u,H b=some (.frz o u)->H' b=some (.frz o u)) (tbls:∀b ps,H b=some (.tbl ps)->∃more,H' b=some (.tbl (ps++more)))
 (ns:∀m,s.heap.Ns X.env.locals m->h'.Ns X.env.locals m) (hok:HOk X.prog X.w H' h') (hg:AllBare g') :
 Inv X pins σ H' { s with heap:=h',gens:=g',drawn:=d',toks:=t' }:=by
 have neL:∀b o,X.s₀.heap.get? b=some o->b≠X.env.locals:=λb o e=>NW (N8 (Heap.lt_size e) I.ok.above)
 have neC:∀b o,X.s₀.heap.get? b=some o->b∉X.ex->b∉ch:=λb o e hx hb=>by
  rcases(hch b hb).1 with z |z
  ·exact hx z
  ·exact absurd (N8 (Heap.lt_size e) z) (Op _)
 have cellK:∀x c,X.env.cells.lookup x=some c->∀v,s.heap.IsCell c v->h'.IsCell c v:=λx c e v ⟨o,ho,hd⟩=>by
  have nch:c∉ch:=λz=>(hch c z).2.2.1 x c e rfl
  by_cases hc:c∈X.fs
  ·obtain⟨sl,q⟩:=slot c o (I.cne x c e) hc nch ho (I.freeC x c e);exact⟨_,q,hd⟩
  ·exact⟨o,keep c o (I.cne x c e) hc nch ho (I.freeC x c e),hd⟩
 refine⟨I.ok,I.os,hg,⟨λb o e n hb hx=>?_,λb o e n hb hx=>?_,λb o e n hx=>?_,λb o e hx=>?_,λb xs e=>tups b xs (I.base.tups b xs e),λb o xs e=>frzs b o xs (I.base.frzs b o xs e),λb ps e=>?_⟩,?_,λx c e=>?_,?_,λx c e=>?_,λp hp=>?_,hok,I.len⟩
 ·exact keep b o (neL b o e) hb (neC b o e hx) (I.base.keep b o e n hb hx) (I.base.free b o e n hx)
 ·obtain⟨sl,e1⟩:=I.base.slot b o e n hb hx;obtain⟨sl',e2⟩:=slot b _ (neL b o e) hb (neC b o e hx) e1 (I.base.free b o e n hx);exact⟨sl',e2⟩
 ·obtain⟨o',e1⟩:=I.base.there b o e hx;exact free b o' (neC b o e hx) e1 (I.base.free b o e n hx)
 ·obtain⟨o',e1⟩:=I.base.there b o e hx;exact there b o' (neC b o e hx) e1
 ·obtain⟨m1,e1⟩:=I.base.tbls b ps e;obtain⟨m2,e2⟩:=tbls b _ e1;exact⟨m1++m2,by rw[e2,Array.append_assoc]⟩
 ·obtain⟨m,hn,hl⟩:=I.loc;refine⟨m,ns m hn,λi x v e1 e2 e3=>?_⟩;obtain⟨u,r,l⟩:=hl i x v e1 e2 e3;refine⟨u,r,?_⟩;rcases l with l |⟨k,c,e,z⟩
  ·exact .inl l
  ·exact .inr ⟨k,c,e,cellK x c e _ z⟩
 ·obtain⟨v,z⟩:=I.cell x c e;exact⟨v,cellK x c e v z⟩
 ·obtain⟨m,⟨o,_,_,ho,_⟩,_⟩:=I.loc;exact free _ o (λz=>(hch _ z).2.1 rfl) ho I.free
 ·obtain⟨v,o,ho,hd⟩:=I.cell x c e;exact free c o (λz=>(hch c z).2.2.1 x c e rfl) ho (I.freeC x c e)
 ·obtain⟨e,n,ne,nf,d⟩:=I.pin p hp;have nch:p.1∉ch:=λz=>(hch p.1 z).2.2.2 p hp rfl
  exact⟨keep p.1 p.2 ne nf nch e n,free p.1 p.2 nch e n,ne,nf,d⟩
def Inv.un{t':Nat}(I:Inv X pins σ H s)(u:Un X.fs [] H H' s.heap h')(hok:HOk X.prog X.w H' h'):Inv X pins σ H' { s with heap:=h',toks:=t' }:=by
 obtain⟨m,⟨o,es,ep,ho,r⟩,_⟩:=id I.loc;obtain⟨sl,hL⟩:=u.any ho I.free (by simp)
 exact I.step (g':=s.gens) (d':=s.drawn) (ch:=[]) (λ_ z=>nomatch z) (λb o _ hb _ e n=>u.keep b o e n hb (by simp)) (λb o _ hb _ e n=>u.slot b o e n hb (by simp)) (λb o _ e n=>u.free b o e n (by simp)) (λb o _ e=>u.there b o e (by simp)) u.tups u.frzs u.tbls (λm' hm=>by
  obtain⟨o',es',ep',ho',r'⟩:=hm;rw[ho]at ho';cases ho'
  exact⟨_,es',ep',hL,r'⟩) hok I.bare
def Inv.call{g':Array GenState}{t':Nat}{d':Drawn}{ch:List Addr}(I:Inv X pins σ H s)(u:Un (frs X.stack) ch H H' s.heap h')(hok:HOk X.prog X.w H' h')(hg:AllBare g')
 (hch:∀b∈ch,(b∈X.ex\/X.s₀.heap.objs.size<=b)/\b≠X.env.locals/\(∀x c,X.env.cells.lookup x=some c->c≠b)/\∀p∈X.pn++pins,p.1≠b) :
 Inv X pins σ H' { s with heap:=h',gens:=g',drawn:=d',toks:=t' }:=by
 obtain⟨m,⟨o,es,ep,ho,r⟩,_⟩:=id I.loc;obtain⟨sl,hL⟩:=u.any ho I.free λz=>(hch _ z).2.1 rfl
 exact I.step (ch:=ch) hch (λb o hL hb hc e n=>u.keep b o e n (λz=>(NR.mp (I.stkSub b z)).elim hL hb) hc) (λb o _ _ hc e n=>u.any e n hc) (λb o hc e n=>u.free b o e n hc) (λb o hc e=>u.there b o e hc) u.tups u.frzs u.tbls (λm' hm=>by
  obtain⟨o',es',ep',ho',r'⟩:=hm;rw[ho]at ho';cases ho'
  exact⟨_,es',ep',hL,r'⟩) hok hg
def Inv.turned{t':Nat}{it:Addr}(I:Inv X pins σ H s)(k:∀b o,b≠it->s.heap.get? b=some o->h'.get? b=some o)(hn:H it=none)(hL:it≠X.env.locals)
 (h1:it∈X.ex\/X.s₀.heap.objs.size<=it) (h2:∀x c,X.env.cells.lookup x=some c->c≠it) (h3:∀p∈X.pn++pins,p.1≠it):Inv X pins σ H { s with heap:=h',toks:=t' }:=by
 have nit:∀b u,H b=some u->b≠it:=λb u e z=>by rw[z,hn]at e;cases e
 refine I.step (g':=s.gens) (d':=s.drawn) (ch:=[it]) (λb hb=>?_) (λb o _ _ hc e _=>k b o (λz=>hc (by simp[z])) e) (λb o _ _ hc e _=>⟨o.slots,k b o (λz=>hc (by simp[z])) e⟩) (λ_ _ _ _ n=>n)
  (λb o hc e=>⟨o,k b o (λz=>hc (by simp[z])) e⟩) (λ_ _ e=>e) (λ_ _ _ e=>e) (λb ps e=>⟨#[],by rw[e];simp⟩) (λm hm=>?_) (λb u e=>?_) I.bare
 ·have e:b=it:=by simpa using hb
  subst e;exact⟨h1,hL,h2,h3⟩
 ·obtain⟨o,es,ep,ho,r⟩:=hm;exact⟨o,es,ep,k _ o (Ne.symm hL) ho,r⟩
 ·refine(I.hok b u e).stay (λc v hc q=>k c v ?_ q) (λ_ q=>q) λ_ _ q=>q
  rcases hc with z |z
  ·rw[z];exact nit b u e
  ·exact nit c _ z
def Inv.tok(I:Inv X pins σ H s)(t:Nat):Inv X pins σ H { s with toks:=t }:=I.un (h':=s.heap) (t':=t) Un.refl I.hok
def Inv.kept{t':Nat}(I:Inv X pins σ H s)(k:∀b u,s.heap.get? b=some u->h'.get? b=some u):Inv X pins σ H { s with heap:=h',toks:=t' }:=I.un (Un.kept k) (I.hok.kept k)
def Inv.laid{a:Addr}{o:HO}{t':Nat}(I:Inv X pins σ H s)(k:∀b u,s.heap.get? b=some u->h'.get? b=some u)(hp:s.heap.objs.size<=a)(new:ObjOk X.prog X.w (upd H a o) h' a o) :
 Inv X pins σ (upd H a o) { s with heap:=h',toks:=t' }:=I.un (Un.laid k hp (I.hok.fresh hp)) (I.hok.laid k hp new)
def Inv.write{x e:Addr}{o:HO}{t':Nat}(I:Inv X pins σ H s)(mu:Mut (H x))(he:e=x\/H e=some (.own x))(k:∀b u,b≠e->s.heap.get? b=some u->h'.get? b=some u)(heo:∃u,h'.get? e=some u)
 (new:ObjOk X.prog X.w (upd H x o) h' x o):Inv X pins σ (upd H x o) { s with heap:=h',toks:=t' }:=I.un (Un.write mu he k heo) (I.hok.write mu he k heo new)
def Inv.pins_of{pins':List (Addr×Obj)}(I:Inv X pins σ H s)(h:∀p∈pins',s.heap.get? p.1=some p.2/\H p.1=none/\p.1≠X.env.locals/\p.1∉X.fs/\∀v,p.2.data≠.cell v):Inv X pins' σ H s :=
 ⟨I.ok,I.os,I.bare,I.base,I.loc,I.cell,I.free,I.freeC,λp hp=>(NT.mp hp).elim (λz=>I.pin p (OH _ z)) (h p),I.hok,I.len⟩
def zp{N:List Str}(hN:N.Nodup){i j:Nat}{x:Str}(a:N[i]?=some x)(b:N[j]?=some x):i=j:=by obtain⟨h1,e1⟩:=List.getElem?_eq_some_iff.mp a;obtain⟨h2,e2⟩:=List.getElem?_eq_some_iff.mp b;exact(List.getElem_inj hN).mp (e1.trans e2.symm)
def qi{M:Model}{A:Around}{E:Value->Shared->Prop}{i:Nat}{x:Str}{v:V}{u:Value}{Q:Unit->Shared->Prop}(I:Inv X pins σ H s)(hN:X.N.Nodup)(hi:X.N[i]?=some x)(hx:Loc X.env.scope x)(r:RelV v u)
 (h:∀s',Inv X pins (σ.set i (some v)) H s'->(∃a,Heap.SameBut a s.heap s'.heap/\(a=X.env.locals\/X.env.cells.lookup x=some a))->Q () s') (hf:X.fn x=true\/X.env.scope.names.lookup x=some .local:=by first |exact .inl rfl |exact .inr rfl |assumption):wpAny M A (storeName X.env x u) Q E s:=by
 obtain⟨m,hn,hl⟩:=id I.loc;have hcls:(X.env.scope.kind == .class || (X.env.scope.kind == .module&&X.env.locals != X.env.globals))=false:=by rw[I.ok.kind];rfl
 have hiσ:i<σ.length:=by rw[I.len];exact(List.getElem?_eq_some_iff.mp hi).1
 have cne:=I.cne
 have tracked:∀{a:Addr} {h':Heap},(∃o,s.heap.get? a=some o/\H a=none)->Heap.SameBut a s.heap h'->HOk X.prog X.w H h':=λ{a h'} ha hs b ob e=>by
  obtain⟨_,_,hfree⟩:=ha;refine(I.hok b ob e).stay (λc w' hc q=>(hs.2 c ?_).trans q) (λ_ q=>q) λ_ _ q=>q
  rintro rfl;rcases hc with rfl |hc
  ·rw[hfree]at e;cases e
  ·rw[hfree]at hc;cases hc
 rcases hx with hk |hk
 ·refine wpAny_storeName_local hk hn (λh' hn' hs=>?_) hcls;obtain⟨oL,_,_,hoL,_⟩:=id hn;refine h _ ⟨I.ok,I.os,I.bare,⟨λb o e n hb hx=>?_,λb o e n hb hx=>?_,I.base.free,λb o e hx=>?_,I.base.tups,I.base.frzs,I.base.tbls⟩,⟨_,hn',λj y v' e1 e2 e3=>?_⟩,λy c e=>?_,I.free,I.freeC,λp hp=>?_,tracked ⟨oL,hoL,I.free⟩ hs,by simpa using I.len⟩ ⟨_,hs,.inl rfl⟩
  ·exact(hs.2 b (NW (N8 (Heap.lt_size e) I.ok.above))).trans (I.base.keep b o e n hb hx)
  ·obtain⟨sl,e1⟩:=I.base.slot b o e n hb hx;exact⟨sl,(hs.2 b (NW (N8 (Heap.lt_size e) I.ok.above))).trans e1⟩
  ·obtain⟨o',e1⟩:=I.base.there b o e hx;exact⟨o',(hs.2 b (NW (N8 (Heap.lt_size e) I.ok.above))).trans e1⟩
  ·by_cases hj:j=i
   ·subst hj;rw[hi]at e1;cases e1;rw[List.getElem?_set_self hiσ]at e2;cases e2;exact⟨u,r,.inl ⟨hk,by simp⟩⟩
   ·rw[List.getElem?_set_ne (Ne.symm hj)]at e2;obtain⟨u',r',q⟩:=hl j y v' e1 e2 e3;refine⟨u',r',?_⟩;rcases q with⟨k,e⟩ |⟨k,c,e,z⟩
    ·refine .inl ⟨k,?_⟩;have:y≠x:=λe=>hj (zp hN e1 (e ▸ hi))
     simp[this,e]
    ·exact .inr ⟨k,c,e,z.sameBut hs (cne y c e)⟩
  ·obtain⟨w',z⟩:=I.cell y c e;exact⟨w',z.sameBut hs (cne y c e)⟩
  ·obtain⟨e,n,ne,nf,d⟩:=I.pin p hp;exact⟨(hs.2 p.1 ne).trans e,n,ne,nf,d⟩
 ·have hfn:X.fn x=true:=by
   rcases hf with z |z
   ·exact z
   ·rw[z]at hk;cases hk
  obtain⟨c,hc⟩:=I.ok.has x (.inl hk);obtain⟨w',z⟩:=I.cell x c hc;refine wpAny_storeName_cell I.ok.kind hk hc z (λh' hc' hs=>?_);obtain⟨oc,hoc,hocd⟩:=id z;refine h { s with heap:=h' } ⟨I.ok,I.os,I.bare,⟨λb o e n hb hx=>?_,λb o e n hb hx=>?_,I.base.free,λb o e hx=>?_,I.base.tups,I.base.frzs,I.base.tbls⟩,⟨m,hn.sameBut hs (Ne.symm (cne x c hc)),λj y v' e1 e2 e3=>?_⟩,λy c' e=>?_,I.free,I.freeC,λp hp=>?_,tracked ⟨oc,hoc,I.freeC x c hc⟩ hs,by simpa using I.len⟩ ⟨c,hs,.inr hc⟩
  ·exact(hs.2 b (NW (N8 (Heap.lt_size e) (I.ok.cab x c hfn hc)))).trans (I.base.keep b o e n hb hx)
  ·obtain⟨sl,e1⟩:=I.base.slot b o e n hb hx;exact⟨sl,(hs.2 b (NW (N8 (Heap.lt_size e) (I.ok.cab x c hfn hc)))).trans e1⟩
  ·obtain⟨o',e1⟩:=I.base.there b o e hx;exact⟨o',(hs.2 b (NW (N8 (Heap.lt_size e) (I.ok.cab x c hfn hc)))).trans e1⟩
  ·by_cases hj:j=i
   ·subst hj;rw[hi]at e1;cases e1;rw[List.getElem?_set_self hiσ]at e2;cases e2;exact⟨u,r,.inr ⟨.inl hk,c,hc,hc'⟩⟩
   ·rw[List.getElem?_set_ne (Ne.symm hj)]at e2;obtain⟨u',r',q⟩:=hl j y v' e1 e2 e3;refine⟨u',r',?_⟩;rcases q with q |⟨k,c',e,z'⟩
    ·exact .inl q
    ·refine .inr ⟨k,c',e,z'.sameBut hs ?_⟩;rintro rfl;exact hj (zp hN e1 (I.ok.inj _ _ _ e hc ▸ hi))
  ·by_cases hcc:c'=c
   ·subst hcc;exact⟨_,hc'⟩
   ·obtain⟨w2,z2⟩:=I.cell y c' e;exact⟨w2,z2.sameBut hs hcc⟩
  ·obtain⟨e,n,ne,nf,d⟩:=I.pin p hp;refine⟨(hs.2 p.1 ?_).trans e,n,ne,nf,d⟩;intro q;rw[q,hoc]at e;have q':oc=p.2:=Option.some.inj e;exact d w' (by rw[<- q'];exact hocd)
def wJ{M:Model}{A:Around}{E:Value->Shared->Prop}{i:Nat}{x:Str}{v:V}{u:Value}{Q:Unit->Shared->Prop}(I:Inv X pins σ H s)(hN:X.N.Nodup)(hi:X.N[i]?=some x)(hx:Loc X.env.scope x)(r:RelV v u)
 (h:∀s',Inv X pins (σ.set i (some v)) H s'->Q () s') (hf:X.fn x=true\/X.env.scope.names.lookup x=some .local:=by first |exact .inl rfl |exact .inr rfl |assumption):wpAny M A (storeName X.env x u) Q E s :=
 qi I hN hi hx r (λs' I' _=>h s' I') hf
def Inv.call'{s':Shared}{ch:List Addr}(I:Inv X pins σ H s)(ho:s'.os=s.os)(u:Un (frs X.stack) ch H H' s.heap s'.heap)(hok:HOk X.prog X.w H' s'.heap)(hg:AllBare s'.gens)
 (hch:∀b∈ch,(b∈X.ex\/X.s₀.heap.objs.size<=b)/\b≠X.env.locals/\(∀x c,X.env.cells.lookup x=some c->c≠b)/\∀p∈X.pn++pins,p.1≠b):Inv X pins σ H' s':=by
 obtain⟨h',g',d',t',o'⟩:=s';have e:o'=s.os:=ho;subst e;exact I.call (g':=g') (t':=t') (d':=d') u hok hg hch
end
abbrev XK:=Value->Option Addr->Hp->Prop
abbrev St:=List (Option V)
abbrev VK:=V->Hp->Prop
abbrev TE:=St->Hp->VK->Prop
abbrev TT:=St->Hp->(Bool->Hp->Prop)->Prop
abbrev TA:=St->Hp->(List V->Hp->Prop)->Prop
structure Ends where
 nx:St->Hp->Prop
 rt:VK
 bk:St->Hp->Prop:=λ_ _=>False
 ct:St->Hp->Prop:=λ_ _=>False
abbrev TS:=Ends->St->Hp->Prop
def EP(X:Cx)(pins:List (Addr×Obj))(σ:St)(Q:VK)(u:Value)(s':Shared):Prop:=∃v H',Inv X pins σ H' s'/\RelV v u/\Q v H'
def TP(X:Cx)(pins:List (Addr×Obj))(σ:St)(Q:Bool->Hp->Prop)(b:Bool)(s':Shared):Prop:=∃H',Inv X pins σ H' s'/\Q b H'
def AP(X:Cx)(pins:List (Addr×Obj))(σ:St)(Q:List V->Hp->Prop)(us:List Value)(s':Shared):Prop:=∃vs H',Inv X pins σ H' s'/\Vals vs us/\Q vs H'
def SP(X:Cx)(pins:List (Addr×Obj))(D:Ends)(f:Flow)(s':Shared):Prop :=
 match f with
 |.next=>∃Q2 H',Inv X pins Q2 H' s'/\D.nx Q2 H'
 |.brk=>∃Q2 H',Inv X pins Q2 H' s'/\D.bk Q2 H'
 |.cont=>∃Q2 H',Inv X pins Q2 H' s'/\D.ct Q2 H'
 |.ret u=>∃v Q2 H',Inv X pins Q2 H' s'/\RelV v u/\D.rt v H'
def PE(X:Cx)(e:Expr)(t:TE):Prop :=
 ∀(pins:List (Addr×Obj)) (s:Shared) (σ:St) (H:Hp) (Q:VK),Inv X pins σ H s->t σ H Q->wpAny (model X.prog X.w) X.A (eval e X.env) (EP X pins σ Q) X.xe s
def PT(X:Cx)(e:Expr)(t:TT):Prop :=
 ∀(pins:List (Addr×Obj)) (s:Shared) (σ:St) (H:Hp) (Q:Bool->Hp->Prop),Inv X pins σ H s->t σ H Q->wpAny (model X.prog X.w) X.A (isTrue e X.env (eval e X.env)) (TP X pins σ Q) X.xe s
def PW(X:Cx)(e:Expr)(t:TT):Prop :=
 ∀(whole:Sem Value) (pins:List (Addr×Obj)) (s:Shared) (σ:St) (H:Hp) (Q:Bool->Hp->Prop),Inv X pins σ H s->t σ H Q->wpAny (model X.prog X.w) X.A (isTrue e X.env whole) (TP X pins σ Q) X.xe s
def PW.pt{X:Cx}{e:Expr}{t:TT}(h:PW X e t):PT X e t:=h _
def PA(X:Cx)(es:List Expr)(t:TA):Prop :=
 ∀(pos:Pos) (pins:List (Addr×Obj)) (s:Shared) (σ:St) (H:Hp) (Q:List V->Hp->Prop),Inv X pins σ H s->t σ H Q->wpAny (model X.prog X.w) X.A (spliced (backTo pos (starEach es X.env))) (AP X pins σ Q) X.xe s
def PS(X:Cx)(st:Stmt)(t:TS):Prop :=
 ∀(pins:List (Addr×Obj)) (s:Shared) (σ:St) (H:Hp) (D:Ends),Inv X pins σ H s->t D σ H->wpAny (model X.prog X.w) X.A (exec st X.env) (SP X pins D) X.xe s
def PSs(X:Cx)(st:List Stmt)(t:TS):Prop :=
 ∀(pins:List (Addr×Obj)) (s:Shared) (σ:St) (H:Hp) (D:Ends),Inv X pins σ H s->t D σ H->wpAny (model X.prog X.w) X.A (execs st X.env) (SP X pins D) X.xe s
def aI{α:Type}{t:Sem α}{Q Q':α->Shared->Prop}{M:Model}{A:Around}{E:Value->Shared->Prop}{s:Shared}(h:wpAny M A t Q E s)(hQ:∀a s,Q a s->Q' a s):wpAny M A t Q' E s:=wpAny_mono h hQ λ_ _ x=>x
section
variable {X:Cx}
def mN(i:Nat):TE:=λσ H Q=>∃v,σ[i]?=some (some v)/\Q v H
def tC(v:V):TE:=λ_ H Q=>Q v H
def Ft{i:Nat}{x:Str}{pos:Pos}(hN:X.N[i]?=some x)(hv:Vis X.env.scope x)(hd:(x == ("__debug__":Str))=false:=by decide)(hcd:(x == ("__classdict__":Str))=false:=by decide):PE X (.Name x pos) (mN i):=by
 intro pins s σ H Q I h;obtain⟨v,e,h⟩:=h;obtain⟨m,hn,hl⟩:=I.loc;obtain⟨u,r,l⟩:=hl i x v hN e hv;have fin:EP X pins σ Q u s:=⟨v,H,I,r,h⟩;rcases l with⟨hk,hm⟩ |⟨hk,c,hc,hcell⟩
 ·exact wpAny_Name (wpAny_loadName_local I.ok.kind hk hn hm fin) hd
 ·rcases hk with hk |hk
  ·exact wpAny_Name (wpAny_loadName_cell I.ok.kind hk hc hcell fin) hd
  ·exact wpAny_Name (wpAny_loadName_free I.ok.kind hk hc hcell fin hcd) hd
def af{i j pos}:PE X (.Constant (.int i) j pos) (tC (.int i)):=λ_ _ _ H _ I h=>wpAny_Constant_int ⟨.int i,H,I.tok _,⟨_,rfl⟩,h⟩
def gZ{b j pos}:PE X (.Constant (.bool b) j pos) (tC (.bl b)):=λ_ _ _ H _ I h=>Constant_bool ⟨.bl b,H,I,rfl,h⟩
def Gl(X:Cx)(x:Str):Prop:=X.env.kindOf x=some .globalImplicit
def ur{E:Value->Shared->Prop}{pins:List (Addr×Obj)}{s:Shared}{σ:St}{H:Hp}{x:Str}{u:Value}{pos:Pos}{Q:Value->Shared->Prop}(I:Inv X pins σ H s)(hg:Gl X x)(hm:X.mg x=some u)(h:Q u s)
 (hd:(x == ("__debug__":Str))=false:=by decide):wpAny (model X.prog X.w) X.A (eval (.Name x pos) X.env) Q E s :=
 Calls.Name_function_global I.ok.kind hg (Calls.loadGlobal_global (by rw[I.ok.glob];exact I.mod.glob.keeps I.bk) hm h) hd
def gg{E:Value->Shared->Prop}{pins:List (Addr×Obj)}{s:Shared}{σ:St}{H:Hp}{x:Str}{u:Value}{pos:Pos}{Q:Value->Shared->Prop}(I:Inv X pins σ H s)(hg:Gl X x)(hm:X.mg x=none)(hv:bootBuiltins x=some u)(h:Q u s)
 (hn:x≠"__name__":=by decide) (hd:(x == ("__debug__":Str))=false:=by decide):wpAny (model X.prog X.w) X.A (eval (.Name x pos) X.env) Q E s:=by
 obtain⟨mb,h1,h2⟩:=I.mod.blt;exact Calls.Name_function_global I.ok.kind hg (Calls.loadGlobal_builtin (by rw[I.ok.glob];exact I.mod.glob.keeps I.bk) hm (by rw[I.ok.blt];exact h1.keeps I.bk) ((h2 x hn).trans hv) h) hd
def om{x:Str}{v:V}{u:Value}{pos:Pos}(hg:Gl X x)(hm:X.mg x=some u)(r:RelV v u)(hd:(x == ("__debug__":Str))=false:=by decide):PE X (.Name x pos) (tC v) :=
 λ_ _ _ H _ I h=>ur I hg hm ⟨v,H,I,r,h⟩ hd
def za{x:Str}{v:V}{u:Value}{pos:Pos}(hg:Gl X x)(hm:X.mg x=none)(hv:bootBuiltins x=some u)(r:RelV v u)(hn:x≠"__name__":=by decide)(hd:(x == ("__debug__":Str))=false:=by decide):PE X (.Name x pos) (tC v) :=
 λ_ _ _ H _ I h=>gg I hg hm hv ⟨v,H,I,r,h⟩ hn hd
variable {a b:Expr}{ta tb:TE}{pos:Pos}
def tB(t:TE):TT:=λσ H Q=>t σ H λx H1=>∃c,x=.bl c/\Q c H1
def iD{e:Expr}{t:TE}(h:PE X e t)(he:∀whole,isTrue e X.env whole=(do let v <- whole;standAt e.pos;holding [v] (truthy v)):=by intro _;rfl):PT X e (tB t):=by intro pins s σ H Q I hw;refine isTrue_plain (aI (h pins s σ H _ I hw) ?_) (he _);rintro v s1 ⟨x,H1,I1,r1,q1⟩;obtain⟨d,rfl,q⟩:=q1;cases r1;exact wpAny_truthy_bool ⟨H1,I1,q⟩
variable {tA tB':TT}{rest:List Expr}
def wB(t u:TT):TT:=λσ H Q=>t σ H λc H1=>if c=true then u σ H1 Q else Q false H1
def tOr(t u:TT):TT:=λσ H Q=>t σ H λc H1=>if c=true then Q true H1 else u σ H1 Q
def wt(t:TT):TT:=λσ H Q=>t σ H λc H1=>Q (!c) H1
def lw(ha:PT X a tA):PW X (.BoolOp .And [a] pos) tA:=by
 intro wh pins s σ H Q I h;refine isTrue_and (aI (ha pins s σ H Q I h) λc s1 e=>?_);cases c with
 |true=>exact isTrue_and_nil e
 |false=>exact e
def nZ(ha:PT X a tA):PW X (.BoolOp .Or [a] pos) tA:=by
 intro wh pins s σ H Q I h;refine isTrue_or (aI (ha pins s σ H Q I h) λc s1 e=>?_);cases c with
 |false=>exact isTrue_or_nil e
 |true=>exact e
def ly(ha:PT X a tA)(hb:PW X (.BoolOp .And (b::rest) pos) tB'):PW X (.BoolOp .And (a::b::rest) pos) (wB tA tB'):=by
 intro wh pins s σ H Q I h;refine isTrue_and (aI (ha pins s σ H _ I h) ?_);rintro c s1 ⟨H1,I1,q1⟩;cases c with
 |true=>exact hb wh pins s1 σ H1 Q I1 q1
 |false=>exact⟨H1,I1,q1⟩
def lu(ha:PT X a tA)(hb:PW X (.BoolOp .Or (b::rest) pos) tB'):PW X (.BoolOp .Or (a::b::rest) pos) (tOr tA tB'):=by
 intro wh pins s σ H Q I h;refine isTrue_or (aI (ha pins s σ H _ I h) ?_);rintro c s1 ⟨H1,I1,q1⟩;cases c with
 |true=>exact⟨H1,I1,q1⟩
 |false=>exact hb wh pins s1 σ H1 Q I1 q1
def ja(ha:PT X a tA):PT X (.UnaryOp .Not a pos) (wt tA):=by intro pins s σ H Q I h;exact isTrue_not (ha pins s σ H (λc H1=>Q (!c) H1) I h)
def wA(ta tb:TE):TE:=λσ H Q=>ta σ H λx H1=>∃c,x=.bl c/\if c=true then tb σ H1 Q else Q (.bl false) H1
def Fu{op}{t:TE}(h:PE X a t):PE X (.BoolOp op [a] pos) t:=λpins s σ H Q I hw=>BoolOp_one (h pins s σ H Q I hw)
def FB(ha:PE X a ta)(hb:PE X (.BoolOp .And (b::rest) pos) tb):PE X (.BoolOp .And (a::b::rest) pos) (wA ta tb):=by
 intro pins s σ H Q I h;refine BoolOp_and (aI (ha pins s σ H _ I h) ?_);rintro v s1 ⟨x,H1,I1,r1,q1⟩;obtain⟨c,rfl,q1⟩:=q1;cases r1;refine wpAny_truthy_bool ?_;cases c with
 |true=>exact hb pins s1 σ H1 Q I1 q1
 |false=>exact⟨.bl false,H1,I1,rfl,q1⟩
def tIf(t:TT)(ta tb:TE):TE:=λσ H Q=>t σ H λc H1=>if c=true then ta σ H1 Q else tb σ H1 Q
def y7{c:Expr}(hc:PT X c tA)(ha:PE X a ta)(hb:PE X b tb):PE X (.IfExp c a b pos) (tIf tA ta tb):=by
 intro pins s σ H Q I h;refine wpAny_IfExp (aI (hc pins s σ H _ I h) ?_);rintro d s1 ⟨H1,I1,q1⟩;cases d with
 |true=>exact ha pins s1 σ H1 Q I1 q1
 |false=>exact hb pins s1 σ H1 Q I1 q1
end
def SqL(K:PySem.W.Frag)(H:Hp)(a:Addr)(xs:List V):Prop :=
 Rd H a (.lst xs) \/
  ∃(o:Obj) (its:Array Value) (n:Nat),K.lookup a=some o/\o.cls=.type "list"/\o.dict=none/\o.data=.seq its n/\its.size<=sizeLine/\Vals xs its.toList
def SqT(K:PySem.W.Frag)(H:Hp)(a:Addr)(xs:List V):Prop :=
 Rd H a (.tup xs) \/
  ∃(o:Obj) (its:Array Value) (n:Nat),K.lookup a=some o/\o.cls=.type "tuple"/\o.data=.seq its n/\its.size<=sizeLine/\Vals xs its.toList
noncomputable def KH:Value->Option V
 |.none=>some .non
 |.bool b=>some (.bl b)
 |.int i _=>some (.int i)
 |.str x _=>some (.str x)
 |.bytes b _=>some (.byt b)
 |.float b _=>some (.flt b)
 |.ref a=>some (.ref a)
 |.type n=>some (.ty n)
 |_=>none
def RelV.abs{x:V}{u:Value}(r:RelV x u):KH u=some x:=by
 cases x with
 |non=>cases r;rfl
 |bl _=>cases r;rfl
 |int _=>obtain⟨t,rfl⟩:=r;rfl
 |str _=>obtain⟨t,rfl⟩:=r;rfl
 |byt _=>obtain⟨t,rfl⟩:=r;rfl
 |flt _=>obtain⟨t,rfl⟩:=r;rfl
 |ref _=>cases r;rfl
 |ty _=>cases r;rfl
def RelV.inj{x y:V}{u:Value}(r:RelV x u)(q:RelV y u):x=y:=Option.some.inj (r.abs.symm.trans q.abs)
theorem Vals.inj:∀{xs ys:List V} {us:List Value},Vals xs us->Vals ys us->xs=ys
 |_,_,_,.nil,.nil=>rfl
 |_,_,_,.cons r t,.cons r' t'=>by rw[r.inj r',Vals.inj t t']
section
variable {X:Cx}{pins:List (Addr×Obj)}{σ:St}{H:Hp}{s:Shared}{a:Addr}{xs ys:List V}
def SqL.of{K:PySem.W.Frag}(h:H a=some (.lst xs)):SqL K H a xs:=.inl (.inl h)
def SqT.of{K:PySem.W.Frag}(h:H a=some (.tup xs)):SqT K H a xs:=.inl (.inl h)
def Inv.list(I:Inv X pins σ H s)(h:SqL X.K H a xs):∃its:List Value,Vals xs its/\PlainL s.heap a its.toArray/\xs.length<=sizeLine:=by
 rcases h with h |⟨o,its,n,hk,hc,hd,hs,hz,r⟩
 ·obtain⟨z,its,n,r,e⟩:=h.ok I.hok;exact⟨its,r,⟨_,n,e,rfl,rfl,rfl⟩,z⟩
 ·refine⟨its.toList,r,⟨o,n,I.kIn a o hk,hc,hd,by simpa using hs⟩,?_⟩;have e:=r.length;simp only[Array.length_toList]at e;omega
def Inv.tuple(I:Inv X pins σ H s)(h:SqT X.K H a xs):∃its:List Value,Vals xs its/\IsTup s.heap a its.toArray/\xs.length<=sizeLine:=by
 rcases h with h |⟨o,its,n,hk,hc,hs,hz,r⟩
 ·obtain⟨z,its,r,p⟩:=h.ok I.hok;exact⟨its,r,p,z⟩
 ·refine⟨its.toList,r,⟨o,I.kIn a o hk,hc,n,by simpa using hs⟩,?_⟩;have e:=r.length;simp only[Array.length_toList]at e;omega
def Inv.list_inj(I:Inv X pins σ H s)(h:SqL X.K H a xs)(h':SqL X.K H a ys):xs=ys:=by
 obtain⟨its,r,⟨o,n,e,_,_,d⟩,_⟩:=I.list h;obtain⟨its',r',⟨o',n',e',_,_,d'⟩,_⟩:=I.list h';rw[e]at e';cases e';rw[d]at d'
 injection d' with d1 _
 have:its=its':=by simpa using congrArg Array.toList d1
 subst this;exact r.inj r'
def Inv.tuple_inj(I:Inv X pins σ H s)(h:SqT X.K H a xs)(h':SqT X.K H a ys):xs=ys:=by
 obtain⟨its,r,⟨o,e,_,n,d⟩,_⟩:=I.tuple h;obtain⟨its',r',⟨o',e',_,n',d'⟩,_⟩:=I.tuple h';rw[e]at e';cases e';rw[d]at d'
 injection d' with d1 _
 have:its=its':=by simpa using congrArg Array.toList d1
 subst this;exact r.inj r'
end
abbrev Cx.wish(X:Cx)(E:Value->Shared->Prop):Cx:={ X with xe:=E }
abbrev Cx.nox(X:Cx):Cx:=X.wish λ_ _=>False
def Cx.Ok.wish{X:Cx}(ok:X.Ok)(E:Value->Shared->Prop):(X.wish E).Ok :=
 ⟨ok.mod,ok.kind,ok.glob,ok.blt,ok.above,ok.inj,ok.has,ok.cab,ok.hd,ok.frames,ok.stk,ok.exf,ok.bs,ok.bsz,ok.noex,ok.exfs,ok.funs,ok.frf⟩
def Cx.Ok.unwish{X:Cx}{E:Value->Shared->Prop}(ok:(X.wish E).Ok):X.Ok :=
 ⟨ok.mod,ok.kind,ok.glob,ok.blt,ok.above,ok.inj,ok.has,ok.cab,ok.hd,ok.frames,ok.stk,ok.exf,ok.bs,ok.bsz,ok.noex,ok.exfs,ok.funs,ok.frf⟩
section
variable {X:Cx}{pins:List (Addr×Obj)}{σ:St}{H:Hp}{s:Shared}{E:Value->Shared->Prop}
def Inv.wish(I:Inv X pins σ H s)(E:Value->Shared->Prop):Inv (X.wish E) pins σ H s:=⟨I.ok.wish E,I.os,I.bare,I.base,I.loc,I.cell,I.free,I.freeC,I.pin,I.hok,I.len⟩
def Inv.unwish(I:Inv (X.wish E) pins σ H s):Inv X pins σ H s:=⟨I.ok.unwish,I.os,I.bare,I.base,I.loc,I.cell,I.free,I.freeC,I.pin,I.hok,I.len⟩
def SP.unwish{D:Ends}{f:Flow}{s':Shared}(h:SP (X.wish E) pins D f s'):SP X pins D f s':=by
 cases f with
 |next=>obtain⟨Q2,H',I,q⟩:=h;exact⟨Q2,H',I.unwish,q⟩
 |brk=>obtain⟨Q2,H',I,q⟩:=h;exact⟨Q2,H',I.unwish,q⟩
 |cont=>obtain⟨Q2,H',I,q⟩:=h;exact⟨Q2,H',I.unwish,q⟩
 |ret u=>obtain⟨v,Q2,H',I,r,q⟩:=h;exact⟨v,Q2,H',I.unwish,r,q⟩
def PSs.nox{st:List Stmt}{t:TS}(h:PSs X.nox st t):PSs X st t:=λpins s σ H D I hw =>wpAny_mono (h pins s σ H D (I.wish _) hw) (λ_ _ q=>q.unwish) λ_ _ z=>False.elim z
end
section
variable {X:Cx}{st:Stmt}{rest:List Stmt}{t u:TS}{e:Expr}{te:TE}{pos:Pos}
def wu:TS:=λD σ H=>D.nx σ H
def d8(t u:TS):TS:=λD σ H=>t { D with nx:=u D } σ H
def aV:PSs X [] wu:=λ_ _ σ H _ I h=>wpAny_execs_nil ⟨σ,H,I,h⟩
def ah(h1:PS X st t)(h2:PSs X rest u):PSs X (st::rest) (d8 t u):=by
 intro pins s σ H D I h;refine wpAny_execs_cons (aI (h1 pins s σ H { D with nx:=u D } I h) λf s1 q=>?_);cases f with
 |next =>obtain⟨Q2,H',I',q⟩:=q;exact h2 pins s1 Q2 H' D I' q
 |ret v=>exact q
 |brk=>exact q
 |cont=>exact q
def ak(h1:PS X st t):PSs X [st] t:=by
 intro pins s σ H D I h;refine wpAny_execs_cons (aI (h1 pins s σ H D I h) λf s1 q=>?_);cases f with
 |next=>exact wpAny_execs_nil q
 |ret v=>exact q
 |brk=>exact q
 |cont=>exact q
def Inv.quiet{pins:List (Addr×Obj)}{σ:St}{H:Hp}{s:Shared}(I:Inv X pins σ H s):interactive X.env=false:=by simp[interactive,I.ok.kind]
def mO(te:TE):TS:=λD σ H=>te σ H λ_ H1=>D.nx σ H1
def iE(he:PE X e te)(hs:swapsWith e none pos.line X.env=pure false:=by rfl):PS X (.Expr e pos) (mO te):=by intro pins s σ H D I h;exact wpAny_Expr_any (aI (he pins s σ H _ I h) λv s1 ⟨x,H1,I1,r1,q1⟩=>⟨σ,H1,I1,q1⟩) I.quiet hs
def wq(te:TE):TS:=λD σ H=>te σ H D.rt
def az(he:PE X e te):PS X (.Return (some e) pos) (wq te):=by intro pins s σ H D I h;exact wpAny_Return_some (aI (he pins s σ H _ I h) λv s1 ⟨x,H1,I1,r1,q1⟩=>⟨x,σ,H1,I1,r1,q1⟩)
def kQ(c:TT)(t u:TS):TS:=λD σ H=>c σ H λb H1=>if b=true then t D σ H1 else u D σ H1
def aT{c:Expr}{a b:List Stmt}{tc:TT}(hc:PT X c tc)(ha:PSs X a t)(hb:PSs X b u):PS X (.If c a b pos) (kQ tc t u):=by
 intro pins s σ H D I h;refine wpAny_If (aI (hc pins s σ H _ I h) ?_);rintro d s1 ⟨H1,I1,q1⟩;cases d with
 |true=>exact ha pins s1 σ H1 D I1 q1
 |false=>exact hb pins s1 σ H1 D I1 q1
def CZ:TS:=λ_ _ _=>False
def jb:PS X st CZ:=λ_ _ _ _ _ _ h=>h.elim
end
abbrev TG:=V->St->Hp->(St->Hp->Prop)->Prop
abbrev TGs:=List V->St->Hp->(St->Hp->Prop)->Prop
def PG(X:Cx)(target:Expr)(t:TG):Prop :=
 ∀(pins:List (Addr×Obj)) (s:Shared) (σ:St) (H:Hp) (v:V) (u:Value) (Q:St->Hp->Prop),Inv X pins σ H s->RelV v u->t v σ H Q ->
  wpAny (model X.prog X.w) X.A (assign target X.env u) (λ_ s'=>∃Q2 H',Inv X pins Q2 H' s'/\Q Q2 H') X.xe s
def PGs(X:Cx)(ts:List Expr)(t:TGs):Prop :=
 ∀(pins:List (Addr×Obj)) (s:Shared) (σ:St) (H:Hp) (vs:List V) (us:List Value) (Q:St->Hp->Prop),Inv X pins σ H s->Vals vs us->t vs σ H Q ->
  wpAny (model X.prog X.w) X.A (assignInOrder ((assignEach ts X.env).map (·.2)) us) (λ_ s'=>∃Q2 H',Inv X pins Q2 H' s'/\Q Q2 H') X.xe s
abbrev vp:=V->V->V->Hp->(Hp->Prop)->Prop
def BR(X:Cx)(t:vp):Prop :=
 ∀(pins:List (Addr×Obj)) (s:Shared) (σ:St) (H:Hp) (o i v:V) (ov iv u:Value) (Q:Hp->Prop),Inv X pins σ H s->RelV o ov->RelV i iv->RelV v u->t o i v H Q ->
  wpAny (model X.prog X.w) X.A (setItem ov iv u) (λ_ s'=>∃H',Inv X pins σ H' s'/\Q H') X.xe s
section
variable {X:Cx}{pos:Pos}
def fC(i:Nat):TG:=λv σ H Q=>Q (σ.set i (some v)) H
def df{i:Nat}{x:Str}(hN:X.N.Nodup)(hi:X.N[i]?=some x)(hx:Loc X.env.scope x)(hf:X.fn x=true\/X.env.scope.names.lookup x=some .local:=by first |exact .inl rfl |exact .inr rfl |assumption):PG X (.Name x pos) (fC i):=by intro pins s σ H v u Q I r h;exact wpAny_assign_Name (wJ I hN hi hx r (λs' I'=>⟨_,H,I',h⟩) hf)
def Je:TGs:=λvs σ H Q=>vs=[]/\Q σ H
def Jf(t:TG)(u:TGs):TGs:=λvs σ H Q=>∃v r,vs=v::r/\t v σ H λQ2 H'=>u r Q2 H' Q
def oi:PGs X [] Je:=by intro pins s σ H vs us Q I r h;obtain⟨e,h⟩:=h;subst e;cases r;exact assignInOrder_nil ⟨σ,H,I,h⟩
theorem iG{e:Expr}{es:List Expr}{t:TG}{u:TGs}(h1:PG X e t)(h2:PGs X es u)
 (hs:(assignEach (e::es) X.env).map (·.2)=assign e X.env::(assignEach es X.env).map (·.2):=by rfl):PGs X (e::es) (Jf t u):=by
 intro pins s σ H vs us Q I r h;obtain⟨v,vr,e1,h⟩:=h;subst e1;cases r with
 |cons r rr =>rw[hs];refine assignInOrder_cons (aI (h1 pins s σ H _ _ _ I r h) ?_);rintro _ s1 ⟨Q8,H1,I1,q1⟩;exact h2 pins s1 Q8 H1 _ _ Q I1 rr q1
def Az(K:PySem.W.Frag)(n:Nat)(t:TGs):TG:=λv σ H Q=>∃a xs,v=.ref a/\SqT K H a xs/\xs.length=n/\t xs σ H Q
def oj{es:List Expr}{k:Nat}{t:TGs}{n:Nat}(hc:X.calm=true)(h:PGs X es t)
 (hn:(assignEach es X.env).length=n:=by rfl) (hst:(assignEach es X.env).findIdx? (·.1)=none:=by rfl):PG X (.Tuple es k pos) (Az X.K n t):=by
 intro pins s σ H v u Q I r hw;obtain⟨a,xs,e1,hq,hl,hw⟩:=hw;subst e1;cases r;obtain⟨its,rv,ht,hz⟩:=I.tuple hq;refine assign_Tuple_tuple (I.ok.hd hc) ht (by simp[hn,<- hl,rv.length]) hst λh' hx=>?_
 have I1:Inv X pins σ H { s with heap:=h' }:=I.kept (t':=s.toks) λb o e=>hx b o (NW (Heap.lt_size e)) e
 exact h pins _ σ H xs _ Q I1 (by simpa using rv) hw
def Jd(to ti:TE)(t:vp):TG:=λv σ H Q=>to σ H λo H1=>ti σ H1 λi H2=>t o i v H2 λH3=>Q σ H3
def ka{o i:Expr}{to ti:TE}{t:vp}(ho:PE X o to)(hi:PE X i ti)(hs:BR X t)
 (ha:∀v,assign (.Subscript o i pos) X.env v=(do
   let ov <- holding [v] (eval o X.env)
   let iv <- holding [v,ov] (eval i X.env)
   standAt pos
   holding [v,ov,iv] (setItem ov iv v)
   release [v,ov,iv] []):=by intro _;rfl):PG X (.Subscript o i pos) (Jd to ti t):=by
 intro pins s σ H v u Q I r h;rw[ha];refine wpAny_bind (wpAny_holding (aI (ho pins s σ H _ I h) ?_));rintro ov s1 ⟨x,H1,I1,r1,q1⟩;refine wpAny_bind (wpAny_holding (aI (hi pins s1 σ H1 _ I1 q1) ?_));rintro iv s2 ⟨y,H2,I2,r2,q2⟩;refine wpAny_bind (wpAny_standAt (wpAny_bind (wpAny_holding (aI (hs pins s2 σ H2 x y v ov iv u _ I2 r1 r2 r q2) ?_))));rintro _ s3 ⟨H3,I3,q3⟩;exact wpAny_release ⟨σ,H3,I3,q3⟩
def gz(te:TE)(g:TG):TS:=λD σ H=>te σ H λx H1=>g x σ H1 D.nx
def j8{tg e:Expr}{te:TE}{g:TG}(he:PE X e te)(hg:PG X tg g)(hs:swapsWithSole [tg] e pos.line X.env=pure false:=by rfl)(hw:swappedStores [tg] e X.env=pure none:=by rfl)
 (h1:(assignEach [tg] X.env).map (·.2)=[assign tg X.env]:=by rfl):PS X (.Assign [tg] e pos) (gz te g):=by
 intro pins s σ H D I h;refine wpAny_Assign_stores (aI (he pins s σ H _ I h) ?_) hs hw;rintro v s1 ⟨x,H1,I1,r1,q1⟩;rw[h1];exact aI (hg pins s1 σ H1 x v _ I1 r1 q1) λ_ s2 q=>q
def Fd{i:Nat}{x:Str}{e:Expr}{te:TE}{pos':Pos}(hN:X.N.Nodup)(hi:X.N[i]?=some x)(hx:Loc X.env.scope x)(he:PE X e te)(hs:swapsWith e (some (.Name x pos')) pos.line X.env=pure false:=by rfl)(hf:X.fn x=true\/X.env.scope.names.lookup x=some .local:=by first |exact .inl rfl |exact .inr rfl |assumption) :
 PS X (.Assign [.Name x pos'] e pos) (gz te (fC i)):=by
 intro pins s σ H D I h;refine wpAny_Assign_Name (aI (he pins s σ H _ I h) ?_) hs;rintro v s1 ⟨y,H1,I1,r1,q1⟩;exact wJ I1 hN hi hx r1 (λs2 I2=>⟨_,H1,I2,q1⟩) hf
end
section
variable {X:Cx}{pos:Pos}
def CU(c:TT)(tb:TS):TS:=λD σ H=>∃W:Nat->St->Hp->Prop,(∃m,W m σ H)/\∀m σ H,W m σ H ->
 c σ H λb H1=>if b=true then ∃N:St->Hp->Prop,(∀Q2 H',N Q2 H'->∃m',m'<m/\W m' Q2 H')/\tb { D with nx:=N,ct:=N,bk:=D.nx } σ H1 else D.nx σ H1
def gY{c:Expr}{body:List Stmt}{tc:TT}{tb:TS}(hp:PassesOwn (model X.prog X.w) X.A X.env X.xe)(hc:PT X c tc)(hb:PSs X body tb):PS X (.While c body [] pos) (CU tc tb):=by
 intro pins s σ H D I h;obtain⟨W,⟨m0,w0⟩,turn⟩:=h;refine wpAny_While (codeAny_whileLoop (λn s'=>∃Q2 H',Inv X pins Q2 H' s'/\W n Q2 H') ?_ m0 ⟨σ,H,I,w0⟩);rintro n s1 ⟨Q8,H1,I1,w1⟩;refine wpAny_passesOwn hp (aI (hc pins s1 Q8 H1 _ I1 (turn n Q8 H1 w1)) ?_);rintro b s2 ⟨H2,I2,q2⟩;cases b with
 |true =>
  obtain⟨N,hN,q2⟩:=q2;rw[if_pos rfl];refine wpAny_passesOwn hp (aI (hb pins s2 Q8 H2 _ I2 q2) λf s3 q3=>?_);cases f with
  |next =>obtain⟨Q4,H3,I3,n3⟩:=q3;obtain⟨m',hm,w3⟩:=hN Q4 H3 n3;exact⟨m',hm,Q4,H3,I3,w3⟩
  |cont =>obtain⟨Q4,H3,I3,n3⟩:=q3;obtain⟨m',hm,w3⟩:=hN Q4 H3 n3;exact⟨m',hm,Q4,H3,I3,w3⟩
  |brk=>exact q3
  |ret v=>exact q3
 |false =>rw[if_neg Pd];exact wpAny_execs_nil ⟨Q8,H2,I2,q2⟩
end
structure It where
 go:Nat->Hp->Prop
 yld:Nat->Hp->V->Hp->Prop
 stop:Nat->Hp->Prop
def f6(X:Cx)(pins:List (Addr×Obj))(H:Hp)(b:Addr):Prop :=
 H b=none/\b≠X.env.locals/\b∉X.fs/\(b∈X.ex\/X.s₀.heap.objs.size<=b)/\(∀x c,X.env.cells.lookup x=some c->c≠b)/\∀p∈X.pn++pins,p.1≠b
def Inv.fpOk{X:Cx}{pins:List (Addr×Obj)}{σ:St}{H H':Hp}{s:Shared}{b:Addr}(I:Inv X pins σ H s)(hb:s.heap.objs.size<=b)(hn:H' b=none):f6 X pins H' b:=by
 refine⟨hn,Px (N8 I.lt hb),I.nofs hb,.inr (NP I.sz hb),λx c e z=>?_,λp hp z=>?_⟩
 ·obtain⟨v,q⟩:=I.cell x c e;exact absurd (N8 q.lt (by rw[z];exact hb)) (Op _)
 ·exact absurd (N8 (Heap.lt_size (I.pin p hp).1) (by rw[z];exact hb)) (Op _)
structure Turn(P:Program)(w:World)(K:PySem.W.Frag)(tg:Expr)(J:It)(fp:List Addr)(it:Addr)(tn:Nat->Heap->Prop):Prop where
 mem:it∈fp
 obj:∀i h,tn i h->∀b∈fp,∃o,h.get? b=some o/\∀v,o.data≠.cell v
 keep:∀i h h',tn i h->(∀b∈fp,∀o,h.get? b=some o->h'.get? b=some o)->tn i h'
 item:∀(X:Cx),X.prog=P->X.w=w->X.K=K->X.calm=true->∀(i:Nat) (pins:List (Addr×Obj)) (s:Shared) (σ:St) (H:Hp) (E:Value->Shared->Prop),Inv X pins σ H s->(∀b∈fp,f6 X pins H b)->tn i s.heap->J.go i H ->
  wpAny (model P w) X.A (pyNext (.ref it)) (λr s1=>∃u,r=some u /\
   wpAny (model P w) X.A (letOwnedTupleGo tg (.ref it) u) (λ_ s2=>∃x H',Inv X pins σ H' s2/\RelV x u/\J.yld i H x H'/\tn (i+1) s2.heap/\∀b∈fp,H' b=none) E s1) E s
 done:∀(X:Cx),X.prog=P->X.w=w->X.K=K->X.calm=true->∀(i:Nat) (pins:List (Addr×Obj)) (s:Shared) (σ:St) (H:Hp) (E:Value->Shared->Prop),Inv X pins σ H s->(∀b∈fp,f6 X pins H b)->tn i s.heap->J.stop i H ->
  wpAny (model P w) X.A (pyNext (.ref it)) (λr s1=>r=none/\Inv X pins σ H s1) E s
 self:∀(A:Around) (i:Nat) (s:Shared) (Q:Value->Shared->Prop) (E:Value->Shared->Prop),tn i s.heap->Q (.ref it) s->wpAny (model P w) A (pyIter (.ref it)) Q E s
abbrev TI:=St->Hp->(It->Hp->Prop)->Prop
def PIE(X:Cx)(pins:List (Addr×Obj))(σ:St)(tg:Expr)(R:It->Hp->Prop)(itv:Value)(s2:Shared):Prop :=
 ∃(it:Addr) (fp:List Addr) (tn:Nat->Heap->Prop) (J:It) (H':Hp),itv=.ref it/\Inv X pins σ H' s2/\Turn X.prog X.w X.K tg J fp it tn/\tn 0 s2.heap/\(∀b∈fp,f6 X pins H' b)/\R J H'
def PI(X:Cx)(tg iter:Expr)(wi:TI):Prop :=
 ∀(pins:List (Addr×Obj)) (s:Shared) (σ:St) (H:Hp) (R:It->Hp->Prop),Inv X pins σ H s->wi σ H R ->
  wpAny (model X.prog X.w) X.A (eval iter X.env) (λv s1=>wpAny (model X.prog X.w) X.A (pyIter v) (PIE X pins σ tg R) X.xe s1) X.xe s
theorem md{M:Model}{A:Around}{E:Value->Shared->Prop}{s:Shared}{tg:Expr}{it:Addr}{u:Value}{o:Obj}{n:String}{vs:Array Value}{Q:Unit->Shared->Prop}(ho:s.heap.get? it=some o)(hc:o.cls=.type n)(hd:o.data=.fields vs)
 (hn:["enumerate","zip","dict_itemiterator","dict_reverseitemiterator","odict_iterator","itertools.zip_longest","itertools.pairwise"].contains n=false) (hQ:Q () s):wpAny M A (letOwnedTupleGo tg (.ref it) u) Q E s:=by
 unfold letOwnedTupleGo
 cases tg<;>first
  |exact wpAny_pure hQ
  | (cases u<;>first
      |exact wpAny_pure hQ
      | (refine wpAny_bind (wpAny_load ho ?_)
         rw[hc,hd];show wpAny M A (if(["enumerate","zip","dict_itemiterator","dict_reverseitemiterator","odict_iterator","itertools.zip_longest","itertools.pairwise"].contains n&&vs[0]? == some (rawInt _))=true then _ else _) Q E s;rw[if_neg (by intro h;rw[hn,Bool.false_and]at h;cases h)]
         exact wpAny_pure hQ))
noncomputable def Itl(K:PySem.W.Frag)(a:Addr):It :=
 ⟨λi H=>∃xs x,SqL K H a xs/\xs[i]?=some x,λi H x H'=>H'=H/\∀xs,SqL K H a xs->xs[i]?=some x,λi H=>∃xs,SqL K H a xs/\xs.length<=i⟩
noncomputable def Itt(K:PySem.W.Frag)(a:Addr):It :=
 ⟨λi H=>∃xs x,SqT K H a xs/\xs[i]?=some x,λi H x H'=>H'=H/\∀xs,SqT K H a xs->xs[i]?=some x,λi H=>∃xs,SqT K H a xs/\xs.length<=i⟩
def Itr(lo:Int)(n:Nat):It:=⟨λi _=>i<n,λi H x H'=>H'=H/\x=.int (lo+i),λi _=>n<=i⟩
def Cy{P:Program}{w:World}{K:PySem.W.Frag}{tg:Expr}(a it:Addr):Turn P w K tg (Itl K a) [it] it (λi h=>h.IsListIter it a i) where
 mem:=by simp
 obj:=λi h st b hb=>by
  have e:b=it:=by simpa using hb
  subst e;obtain⟨o,e,c,d⟩:=st;exact⟨o,e,λv z=>by rw[d]at z;cases z⟩
 keep:=λi h h' st k=>st.at λo e=>k it (by simp) o e
 item:=by
  intro X hP hw hK hc i pins s σ H E I hf st hg;subst hP hw hK;obtain⟨xs,x,hq,hx⟩:=hg;obtain⟨its,rv,p,hz⟩:=I.list hq;obtain⟨u,hu,ru⟩:=rv.get hx;obtain⟨f0,f1,f2,f3,f4,f5⟩:=hf it (by simp);refine wpAny_pyNext_list_item st p.isList (x:=u) (by simpa using hu) λh' st' sb=>?_
  have I1:Inv X pins σ H { s with heap:=h' }:=I.turned (t':=s.toks) (λb o hb e=>(sb.2 b hb).trans e) f0 f1 f3 f4 f5;obtain⟨o,e,c,d⟩:=id st';exact⟨u,rfl,md (s:={ s with heap:=h' }) e c d (by decide) ⟨x,H,I1,ru,⟨rfl,λys hy=>by rw[I.list_inj hy hq];exact hx⟩,st',λb hb=>(hf b hb).1⟩⟩
 done:=by intro X hP hw hK hc i pins s σ H E I hf st hg;subst hP hw hK;obtain⟨xs,hq,hx⟩:=hg;obtain⟨its,rv,p,hz⟩:=I.list hq;obtain⟨f0,f1,f2,f3,f4,f5⟩:=hf it (by simp);have hl:=rv.length;exact wpAny_pyNext_list_end (I.ok.hd hc) st p.isList (by simp;omega) λh' eb=>⟨rfl,I.turned (t':=s.toks) (λb o hb e=>eb b o hb e) f0 f1 f3 f4 f5⟩
 self:=λ_ _ _ _ _ st h=>wpAny_pyIter_listiter st h
def Ct{P:Program}{w:World}{K:PySem.W.Frag}{tg:Expr}(a it:Addr):Turn P w K tg (Itt K a) [it] it (λi h=>h.IsTupleIter it a i) where
 mem:=by simp
 obj:=λi h st b hb=>by
  have e:b=it:=by simpa using hb
  subst e;obtain⟨o,e,c,d⟩:=st;exact⟨o,e,λv z=>by rw[d]at z;cases z⟩
 keep:=λi h h' st k=>st.at λo e=>k it (by simp) o e
 item:=by
  intro X hP hw hK hc i pins s σ H E I hf st hg;subst hP hw hK;obtain⟨xs,x,hq,hx⟩:=hg;obtain⟨its,rv,p,hz⟩:=I.tuple hq;obtain⟨u,hu,ru⟩:=rv.get hx;obtain⟨f0,f1,f2,f3,f4,f5⟩:=hf it (by simp);refine wpAny_pyNext_tuple_item st (show s.heap.IsTuple a its.toArray from p) (x:=u) (by simpa using hu) λh' st' sb=>?_
  have I1:Inv X pins σ H { s with heap:=h' }:=I.turned (t':=s.toks) (λb o hb e=>(sb.2 b hb).trans e) f0 f1 f3 f4 f5;obtain⟨o,e,c,d⟩:=id st';exact⟨u,rfl,md (s:={ s with heap:=h' }) e c d (by decide) ⟨x,H,I1,ru,⟨rfl,λys hy=>by rw[I.tuple_inj hy hq];exact hx⟩,st',λb hb=>(hf b hb).1⟩⟩
 done:=by intro X hP hw hK hc i pins s σ H E I hf st hg;subst hP hw hK;obtain⟨xs,hq,hx⟩:=hg;obtain⟨its,rv,p,hz⟩:=I.tuple hq;obtain⟨f0,f1,f2,f3,f4,f5⟩:=hf it (by simp);have hl:=rv.length;exact wpAny_pyNext_tuple_end (I.ok.hd hc) st (show s.heap.IsTuple a its.toArray from p) (by simp;omega) λh' eb=>⟨rfl,I.turned (t':=s.toks) (λb o hb e=>eb b o hb e) f0 f1 f3 f4 f5⟩
 self:=λ_ _ _ _ _ st h=>wpAny_pyIter_tupleiter st h
def Cw{P:Program}{w:World}{K:PySem.W.Frag}{tg:Expr}(it:Addr)(lo:Int)(n:Nat):Turn P w K tg (Itr lo n) [it] it (λi h=>IsRangeIter h it (lo+(i:Nat)*1) ((n:Int)-(i:Nat)) 1) where
 mem:=by simp
 obj:=λi h st b hb=>by
  have e:b=it:=by simpa using hb
  subst e
  exact⟨_,st,λv z=>by
   have z':Data.fields _=Data.cell v:=z
   cases z'⟩
 keep:=λi h h' st k=>k it (by simp) _ st
 item:=by
  intro X hP hw hK hc i pins s σ H E I hf st hg;subst hP hw hK;obtain⟨f0,f1,f2,f3,f4,f5⟩:=hf it (by simp);have W:=Walks.range (prog:=X.prog) (w:=X.w) (I.ok.hd hc) it lo 1 n;refine W.item i s _ _ hg st λv h' tk hv st' kk=>?_
  obtain⟨t,rfl⟩:=hv;have I1:Inv X pins σ H { s with heap:=h',toks:=tk }:=I.turned (λb o hb e=>kk b o (by simpa using hb) e) f0 f1 f3 f4 f5;refine⟨_,rfl,md (s:={ s with heap:=h',toks:=tk }) (n:="range_iterator") st' rfl rfl (by decide) ⟨.int (lo+i),H,I1,⟨t,?_⟩,⟨rfl,rfl⟩,st',λb hb=>(hf b hb).1⟩⟩;rw[Oc]
 done:=by intro X hP hw hK hc i pins s σ H E I hf st hg;subst hP hw hK;obtain⟨f0,f1,f2,f3,f4,f5⟩:=hf it (by simp);exact wpAny_pyNext_range_end (I.ok.hd hc) st (by have:n<=i:=hg;omega) λh' eb=>⟨rfl,I.turned (t':=s.toks) (λb o hb e=>eb b o hb e) f0 f1 f3 f4 f5⟩
 self:=λ_ _ _ _ _ st h=>wpAny_pyIter_rangeiter st h
section
variable {X:Cx}{tg:Expr}
def Ao(K:PySem.W.Frag)(tl:TE):TI:=λσ H R=>tl σ H λx H1=>∃a,x=.ref a/\(∃xs,SqL K H1 a xs)/\R (Itl K a) H1
def An(K:PySem.W.Frag)(tl:TE):TI:=λσ H R=>tl σ H λx H1=>∃a,x=.ref a/\(∃xs,SqT K H1 a xs)/\R (Itt K a) H1
def Fp{l:Expr}{tl:TE}(hl:PE X l tl):PI X tg l (Ao X.K tl):=by
 intro pins s σ H R I h;refine aI (hl pins s σ H _ I h) λv s1 ⟨x,H1,I1,r1,q1⟩=>?_
 obtain⟨a,e,⟨xs,hq⟩,q⟩:=q1;subst e;cases r1;obtain⟨its,rv,p,hz⟩:=I1.list hq;refine wpAny_pyIter_list p.isList ?_;refine⟨s1.heap.objs.size,[s1.heap.objs.size],_,_,H1,rfl,I1.kept (t':=s1.toks) λb o e=>Heap.get?_push_of_some _ e,Cy a _,⟨_,Heap.get?_push_size _ rfl,rfl,rfl⟩,λb hb=>?_,q⟩;have e:b=s1.heap.objs.size:=by simpa using hb
 subst e;exact I1.fpOk (Nv _) (I1.hok.fresh (Nv _))
def Fn{l:Expr}{tl:TE}(hl:PE X l tl):PI X tg l (An X.K tl):=by
 intro pins s σ H R I h;refine aI (hl pins s σ H _ I h) λv s1 ⟨x,H1,I1,r1,q1⟩=>?_
 obtain⟨a,e,⟨xs,hq⟩,q⟩:=q1;subst e;cases r1;obtain⟨its,rv,p,hz⟩:=I1.tuple hq;refine wpAny_pyIter_tuple (show s1.heap.IsTuple a its.toArray from p) ?_;refine⟨s1.heap.objs.size,[s1.heap.objs.size],_,_,H1,rfl,I1.kept (t':=s1.toks) λb o e=>Heap.get?_push_of_some _ e,Ct a _,⟨_,Heap.get?_push_size _ rfl,rfl,rfl⟩,λb hb=>?_,q⟩;have e:b=s1.heap.objs.size:=by simpa using hb
 subst e;exact I1.fpOk (Nv _) (I1.hok.fresh (Nv _))
def yH{pins:List (Addr×Obj)}{σ:St}{H:Hp}{s:Shared}{R:It->Hp->Prop}{E:Value->Shared->Prop}{lo hi:Int}{t u v:Tok}{tk:Nat}(I:Inv X pins σ H s)(h1 : -(2^62)<=lo)(h2:lo<2^62)(h3 : -(2^62)<=hi)(h4:hi<2^62)
 (q:R (Itr lo (hi-lo).toNat) H):wpAny (model X.prog X.w) X.A (pyIter (.ref s.heap.objs.size)) (PIE X pins σ tg R) E { s with heap:=s.heap.push { cls:=.type "range",data:=.fields #[.int lo t,.int hi u,.int 1 v] },toks:=tk }:=by
 refine wpAny_pyIter_range (IsRange.new ..) (small_one h1 h2 h3 h4) ?_;have I1:Inv X pins σ H { s with heap:=s.heap.push { cls:=.type "range",data:=.fields #[.int lo t,.int hi u,.int 1 v] },toks:=tk }:=I.kept λb o e=>Heap.get?_push_of_some _ e
 refine⟨(s.heap.push { cls:=.type "range",data:=.fields #[.int lo t,.int hi u,.int 1 v] }).objs.size,[(s.heap.push { cls:=.type "range",data:=.fields #[.int lo t,.int hi u,.int 1 v] }).objs.size],_,_,H,rfl,
  I1.kept (t':=tk) λb o e=>Heap.get?_push_of_some _ e,Cw _ lo (hi-lo).toNat,?_,λb hb=>?_,q⟩
 ·have e1:lo+((0:Nat):Int)*1=lo:=by simp
  have e2:(((hi-lo).toNat:Nat):Int)-((0:Nat):Int)=Builtin.Range.rangeSize lo hi 1:=by rw[rangeSize_one];split<;>omega
  show IsRangeIter _ _ (lo+((0:Nat):Int)*1) ((((hi-lo).toNat:Nat):Int)-((0:Nat):Int)) 1;rw[e1,e2];exact Heap.get?_push_size _ rfl
 ·have e:b=(s.heap.push { cls:=.type "range",data:=.fields #[.int lo t,.int hi u,.int 1 v] }).objs.size:=by simpa using hb
  subst e;exact I1.fpOk (Nv _) (I1.hok.fresh (Nv _))
def IG(ta:TA):TI:=λσ H R=>ta σ H λvs H1=>∃j:Int,vs=[.int j] /\ -(2^62)<=j/\j<2^62/\R (Itr 0 j.toNat) H1
def IF(ta:TA):TI:=λσ H R=>ta σ H λvs H1=>∃i j:Int,vs=[.int i,.int j]/\(-(2^62)<=i/\i<2^62 /\ -(2^62)<=j/\j<2^62)/\R (Itr i (j-i).toNat) H1
def jf{a:Expr}{ta:TA}{p pos:Pos}(hg:Gl X "range")(hm:X.mg "range"=none)(ha:PA X [a] ta)(hs:starEach [a] X.env=[(false,eval a X.env)]:=by rfl):PI X tg (.Call (.Name "range" p) [a] [] pos) (IG ta):=by
 intro pins s σ H R I h;refine Call_ (gg I hg hm boot_range (PyProof.Rows.callWith_type1 (aI (ha pos pins s σ H _ I h) ?_) hs rfl));rintro us s1 ⟨vs,H1,I1,r1,q1⟩;obtain⟨j,e,q1,q2,q⟩:=q1;subst e;cases r1 with
 |cons r rr =>cases rr;obtain⟨t,rfl⟩:=r;exact call_range_1 (yH I1 (by omega) (by omega) q1 q2 (by simpa using q))
def Fo{a b:Expr}{ta:TA}{p pos:Pos}(hg:Gl X "range")(hm:X.mg "range"=none)(ha:PA X [a,b] ta)(hs:starEach [a,b] X.env=[(false,eval a X.env),(false,eval b X.env)]:=by rfl)(hs2:starEach [b] X.env=[(false,eval b X.env)]:=by rfl) :
 PI X tg (.Call (.Name "range" p) [a,b] [] pos) (IF ta):=by
 intro pins s σ H R I h;refine Call_ (gg I hg hm boot_range (PyProof.Rows.callWith_type1 (aI (ha pos pins s σ H _ I h) ?_) (by rw[hs,hs2]) (by rw[hs2];rfl)));rintro us s1 ⟨vs,H1,I1,r1,q1⟩;obtain⟨i,j,e,⟨q1,q2,q3,q4⟩,q⟩:=q1;subst e;cases r1 with
 |cons r rr =>
  cases rr with
  |cons r' rr =>cases rr;obtain⟨t,rfl⟩:=r;obtain⟨t',rfl⟩:=r';exact call_range_2 (yH I1 q1 q2 q3 q4 q)
def Dc(wi:TI)(g:TG)(tb:TS):TS:=λD σ H=>wi σ H λJ H1=>∃W:Nat->Nat->St->Hp->Prop,(∃m,W 0 m σ H1)/\∀i m σ H,W i m σ H ->
 (J.stop i H/\D.nx σ H)\/(J.go i H/\∃N:St->Hp->Prop,(∀Q2 H',N Q2 H'->∃m',m'<m/\W (i+1) m' Q2 H')/\∀x H',J.yld i H x H'->g x σ H' λQ3 H2=>tb { D with nx:=N,ct:=N,bk:=D.nx } Q3 H2)
def og(fp:List Addr)(h:Heap):List (Addr×Obj):=fp.filterMap λb=>(h.get? b).map λo=>(b,o)
def iJ{fp:List Addr}{h:Heap}{b:Addr}{o:Obj}(hb:b∈fp)(e:h.get? b=some o):(b,o)∈og fp h:=List.mem_filterMap.mpr ⟨b,hb,by rw[e];rfl⟩
def Hg{fp:List Addr}{h:Heap}{p:Addr×Obj}(hp:p∈og fp h):p.1∈fp/\h.get? p.1=some p.2:=by
 obtain⟨b,hb,e⟩:=List.mem_filterMap.mp hp;cases q:h.get? b with
 |none=>rw[q]at e;cases e
 |some o =>rw[q]at e;have e':(b,o)=p:=Option.some.inj e;subst e';exact⟨hb,q⟩
def Inv.pinned{pins:List (Addr×Obj)}{σ:St}{H:Hp}{s:Shared}{fp:List Addr}(I:Inv X pins σ H s)(hf:∀b∈fp,f6 X pins H b)(ho:∀b∈fp,∃o,s.heap.get? b=some o/\∀v,o.data≠.cell v):Inv X (pins++og fp s.heap) σ H s :=
 I.pins_of λp hp=>(NT.mp hp).elim (λz=>I.pin p (N6 _ z)) λz=>by obtain⟨hb,e⟩:=Hg z;obtain⟨f0,f1,f2,_⟩:=hf p.1 hb;obtain⟨o,e',d⟩:=ho p.1 hb;rw[e]at e';cases e';exact⟨e,f0,f1,f2,d⟩
def Inv.unpinned{pins pl:List (Addr×Obj)}{σ:St}{H:Hp}{s:Shared}(I:Inv X (pins++pl) σ H s):Inv X pins σ H s:=I.pins_of λp hp=>I.pin p (N6 _ (OH _ hp))
theorem dQ{iter:Expr}{body:List Stmt}{wi:TI}{g:TG}{tb:TS}{pos:Pos}(hp:PassesOwn (model X.prog X.w) X.A X.env X.xe)(hc:X.calm=true)(hi:PI X tg iter wi)(hg:PG X tg g)(hb:PSs X body tb)
 (hs:∀x,foldedSetIterable iter X.env x=pure x:=by intro _;rfl):PS X (.For tg iter body [] pos) (Dc wi g tb):=by
 intro pins s σ H D I h;refine wpAny_For (aI (hi pins s σ H _ I h) λv s1 h1=>aI h1 λitv s2 h2=>?_) hs;obtain⟨it,fp,tn,J,H2,e,I2,T,st2,f2,W,⟨m0,w0⟩,turn⟩:=h2;subst e;have stat:∀{H':Hp},(∀b∈fp,H' b=none)->∀b∈fp,f6 X pins H' b:=λhn b hb=>⟨hn b hb,(f2 b hb).2⟩
 refine codeAny_forLoop_any (λn s'=>∃i Q2 H',Inv X pins Q2 H' s'/\tn i s'.heap/\(∀b∈fp,H' b=none)/\W i n Q2 H') ?_ m0 ⟨0,σ,H2,I2,st2,λb hb=>(f2 b hb).1,w0⟩;rintro n s3 ⟨i,Q4,H3,I3,st3,fr3,w3⟩;rcases turn i n Q4 H3 w3 with⟨stop,qn⟩ |⟨go,N,hN,step⟩
 ·refine wpAny_passesOwn hp (aI (T.done X rfl rfl rfl hc i pins s3 Q4 H3 X.xe I3 (stat fr3) st3 stop) λr s4 ⟨hr,I4⟩=>?_);subst hr;exact wpAny_execs_nil ⟨Q4,H3,I4,qn⟩
 ·refine wpAny_passesOwn hp (aI (T.item X rfl rfl rfl hc i pins s3 Q4 H3 X.xe I3 (stat fr3) st3 go) λr s4 ⟨u,hr,h4⟩=>?_);subst hr;refine wpAny_passesOwn hp (aI h4 ?_);rintro _ s5 ⟨x,H5,I5,r5,y5,st5,fr5⟩;have I5':=I5.pinned (stat fr5) (T.obj _ _ st5);refine wpAny_passesOwn hp (aI (hg _ s5 Q4 H5 x u _ I5' r5 (step x H5 y5)) ?_);rintro _ s6 ⟨Q5,H6,I6,q6⟩;refine wpAny_passesOwn hp (aI (hb _ s6 Q5 H6 _ I6 q6) λf s7 q7=>?_)
  have again:∀{Q7:St} {H7:Hp},Inv X (pins++og fp s5.heap) Q7 H7 s7->N Q7 H7->∃m,m<n/\∃i Q2 H',Inv X pins Q2 H' s7/\tn i s7.heap/\(∀b∈fp,H' b=none)/\W i m Q2 H':=λ{Q7 H7} I7 n7=>by obtain⟨m',hm,w7⟩:=hN Q7 H7 n7;refine⟨m',hm,i+1,Q7,H7,I7.unpinned,T.keep _ _ _ st5 λb hb o e=>(I7.pin (b,o) (N6 _ (N6 _ (iJ hb e)))).1,λb hb=>?_,w7⟩;obtain⟨o,e,d⟩:=T.obj _ _ st5 b hb;exact(I7.pin (b,o) (N6 _ (N6 _ (iJ hb e)))).2.1
  cases f with
  |next=>obtain⟨Q7,H7,I7,n7⟩:=q7;exact again I7 n7
  |cont=>obtain⟨Q7,H7,I7,n7⟩:=q7;exact again I7 n7
  |brk=>obtain⟨Q7,H7,I7,q7⟩:=q7;exact⟨Q7,H7,I7.unpinned,q7⟩
  |ret v=>obtain⟨x7,Q7,H7,I7,r7,q7⟩:=q7;exact⟨x7,Q7,H7,I7.unpinned,r7,q7⟩
end
def uF{K:PySem.W.Frag}{a:Addr}{xs:List V}{g:TG}{tb:TS}{D:Ends}{σ:St}{H:Hp}(Pv:Nat->St->Hp->Prop)(h0:Pv 0 σ H)(hl:∀i σ H,i<=xs.length->Pv i σ H->SqL K H a xs)
 (hs:∀i x σ H,xs[i]?=some x->Pv i σ H->g x σ H λQ3 H2=>tb { D with nx:=Pv (i+1),ct:=Pv (i+1),bk:=D.nx } Q3 H2) (hd:∀σ H,Pv xs.length σ H->D.nx σ H) :
 ∃W:Nat->Nat->St->Hp->Prop,(∃m,W 0 m σ H)/\∀i m σ H,W i m σ H ->
  ((Itl K a).stop i H/\D.nx σ H)\/((Itl K a).go i H/\∃N:St->Hp->Prop,(∀Q2 H',N Q2 H'->∃m',m'<m/\W (i+1) m' Q2 H')/\∀x H',(Itl K a).yld i H x H'->g x σ H' λQ3 H2=>tb { D with nx:=N,ct:=N,bk:=D.nx } Q3 H2):=by
 refine⟨λi m σ H=>m=xs.length-i/\i<=xs.length/\Pv i σ H,⟨xs.length,by simp,Nw _,h0⟩,?_⟩;rintro i m σ H ⟨rfl,hi,p⟩;have q:=hl i σ H hi p;by_cases hlt:i<xs.length
 ·refine .inr ⟨⟨xs,xs[i],q,by simp[hlt]⟩,Pv (i+1),λQ2 H' p'=>⟨xs.length-(i+1),by omega,rfl,hlt,p'⟩,λx H' y=>?_⟩;obtain⟨e,y⟩:=y;subst e;exact hs i x σ _ (y xs q) p
 ·have e:i=xs.length:=by omega
  subst e;exact .inl ⟨⟨xs,q,Nv _⟩,hd σ H p⟩
def Jh{K:PySem.W.Frag}{a:Addr}{xs:List V}{g:TG}{tb:TS}{D:Ends}{σ:St}{H:Hp}(Pv:Nat->St->Hp->Prop)(h0:Pv 0 σ H)(hl:∀i σ H,i<=xs.length->Pv i σ H->SqT K H a xs)
 (hs:∀i x σ H,xs[i]?=some x->Pv i σ H->g x σ H λQ3 H2=>tb { D with nx:=Pv (i+1),ct:=Pv (i+1),bk:=D.nx } Q3 H2) (hd:∀σ H,Pv xs.length σ H->D.nx σ H) :
 ∃W:Nat->Nat->St->Hp->Prop,(∃m,W 0 m σ H)/\∀i m σ H,W i m σ H ->
  ((Itt K a).stop i H/\D.nx σ H)\/((Itt K a).go i H/\∃N:St->Hp->Prop,(∀Q2 H',N Q2 H'->∃m',m'<m/\W (i+1) m' Q2 H')/\∀x H',(Itt K a).yld i H x H'->g x σ H' λQ3 H2=>tb { D with nx:=N,ct:=N,bk:=D.nx } Q3 H2):=by
 refine⟨λi m σ H=>m=xs.length-i/\i<=xs.length/\Pv i σ H,⟨xs.length,by simp,Nw _,h0⟩,?_⟩;rintro i m σ H ⟨rfl,hi,p⟩;have q:=hl i σ H hi p;by_cases hlt:i<xs.length
 ·refine .inr ⟨⟨xs,xs[i],q,by simp[hlt]⟩,Pv (i+1),λQ2 H' p'=>⟨xs.length-(i+1),by omega,rfl,hlt,p'⟩,λx H' y=>?_⟩;obtain⟨e,y⟩:=y;subst e;exact hs i x σ _ (y xs q) p
 ·have e:i=xs.length:=by omega
  subst e;exact .inl ⟨⟨xs,q,Nv _⟩,hd σ H p⟩
def uE{lo:Int}{n:Nat}{g:TG}{tb:TS}{D:Ends}{σ:St}{H:Hp}(Pv:Nat->St->Hp->Prop)(h0:Pv 0 σ H)
 (hs:∀i σ H,i<n->Pv i σ H->g (.int (lo+i)) σ H λQ3 H2=>tb { D with nx:=Pv (i+1),ct:=Pv (i+1),bk:=D.nx } Q3 H2) (hd:∀σ H,Pv n σ H->D.nx σ H) :
 ∃W:Nat->Nat->St->Hp->Prop,(∃m,W 0 m σ H)/\∀i m σ H,W i m σ H ->
  ((Itr lo n).stop i H/\D.nx σ H)\/((Itr lo n).go i H/\∃N:St->Hp->Prop,(∀Q2 H',N Q2 H'->∃m',m'<m/\W (i+1) m' Q2 H')/\∀x H',(Itr lo n).yld i H x H'->g x σ H' λQ3 H2=>tb { D with nx:=N,ct:=N,bk:=D.nx } Q3 H2):=by
 refine⟨λi m σ H=>m=n-i/\i<=n/\Pv i σ H,⟨n,by simp,Nw _,h0⟩,?_⟩;rintro i m σ H ⟨rfl,hi,p⟩;by_cases hlt:i<n
 ·refine .inr ⟨hlt,Pv (i+1),λQ2 H' p'=>⟨n-(i+1),by omega,rfl,hlt,p'⟩,λx H' y=>?_⟩;obtain⟨e,y⟩:=y;subst e y;exact hs i σ _ hlt p
 ·have e:i=n:=by omega
  subst e;exact .inl ⟨Nv _,hd σ H p⟩
abbrev R2:=V->V->Hp->VK->Prop
def ci(X:Cx)(f:Value->Value->Sem Value)(r:R2):Prop :=
 ∀(pins:List (Addr×Obj)) (s:Shared) (σ:St) (H:Hp) (x y:V) (v u:Value) (Q:VK),Inv X pins σ H s->RelV x v->RelV y u->r x y H Q ->
  wpAny (model X.prog X.w) X.A (f v u) (EP X pins σ Q) X.xe s
def UnR(X:Cx)(f:Value->Sem Value)(r:V->Hp->VK->Prop):Prop :=
 ∀(pins:List (Addr×Obj)) (s:Shared) (σ:St) (H:Hp) (x:V) (v:Value) (Q:VK),Inv X pins σ H s->RelV x v->r x H Q ->
  wpAny (model X.prog X.w) X.A (f v) (EP X pins σ Q) X.xe s
def fD(X:Cx)(f:Value)(r:List V->Hp->VK->Prop):Prop :=
 ∀(pins:List (Addr×Obj)) (s:Shared) (σ:St) (H:Hp) (xs:List V) (us:List Value) (Q:VK),Inv X pins σ H s->Vals xs us->r xs H Q ->
  wpAny (model X.prog X.w) X.A (call f us) (EP X pins σ Q) X.xe s
def KL(X:Cx)(r:V->Hp->(Bool->Hp->Prop)->Prop):Prop :=
 ∀(pins:List (Addr×Obj)) (s:Shared) (σ:St) (H:Hp) (x:V) (v:Value) (Q:Bool->Hp->Prop),Inv X pins σ H s->RelV x v->r x H Q ->
  wpAny (model X.prog X.w) X.A (truthy v) (TP X pins σ Q) X.xe s
def tOp(r:R2)(ta tb:TE):TE:=λσ H Q=>ta σ H λx H1=>tb σ H1 λy H2=>r x y H2 Q
def tUn(r:V->Hp->VK->Prop)(ta:TE):TE:=λσ H Q=>ta σ H λx H1=>r x H1 Q
def rI(C:Int->Int->Prop)(g:Int->Int->V):R2:=λx y H Q=>∃i j,x=.int i/\y=.int j/\C i j/\Q (g i j) H
def rI0(g:Int->Int->V):R2:=λx y H Q=>∃i j,x=.int i/\y=.int j/\Q (g i j) H
def rU(g:Int->V):V->Hp->VK->Prop:=λx H Q=>∃i,x=.int i/\Q (g i) H
section
variable {X:Cx}{a b c:Expr}{ta tb tc:TE}{pos:Pos}
def vh(ha:PE X a ta)(hb:PE X b tb){pins:List (Addr×Obj)}{s:Shared}{σ:St}{H:Hp}{R:V->V->Hp->Prop}(I:Inv X pins σ H s)
 (h:ta σ H λx H1=>tb σ H1 λy H2=>R x y H2) {Q:Value->Shared->Prop} {f:Value->Value->Sem Value}
 (hf:∀v u s2 x y H2,Inv X pins σ H2 s2->RelV x v->RelV y u->R x y H2->wpAny (model X.prog X.w) X.A (f v u) Q X.xe s2) :
 wpAny (model X.prog X.w) X.A (eval a X.env) (λv s₁=>wpAny (model X.prog X.w) X.A (eval b X.env) (λu s₂=>wpAny (model X.prog X.w) X.A (f v u) Q X.xe s₂) X.xe s₁) X.xe s:=by
 refine aI (ha pins s σ H _ I h) λv s1 ⟨x,H1,I1,r1,q1⟩=>?_
 refine aI (hb pins s1 σ H1 _ I1 q1) λu s2 ⟨y,H2,I2,r2,q2⟩=>?_
 exact hf v u s2 x y H2 I2 r1 r2 q2
def av{op:Operator}{r:R2}(ho:ci X (binaryOp op) r)(ha:PE X a ta)(hb:PE X b tb):PE X (.BinOp a op b pos) (tOp r ta tb):=by intro pins s σ H Q I h;exact wpAny_BinOp (vh ha hb I h λv u s2 x y H2 I2 rx ry q=>ho pins s2 σ H2 x y v u Q I2 rx ry q)
def cq{op:UnaryOp}{r:V->Hp->VK->Prop}(ho:UnR X (unaryOp op) r)(ha:PE X a ta):PE X (.UnaryOp op a pos) (tUn r ta):=by intro pins s σ H Q I h;exact UnaryOp_ (aI (ha pins s σ H _ I h) λv s1 ⟨x,H1,I1,r1,q1⟩=>ho pins s1 σ H1 x v Q I1 r1 q1)
def opI{f:Value->Value->Sem Value}{C:Int->Int->Prop}{g:Int->Int->Int}
 (rule:∀(i j:Int) (t u:Tok) (s:Shared) (Q:Value->Shared->Prop) (E:Value->Shared->Prop),C i j->Q (.int (g i j) s.toks) { s with toks:=s.toks+1 }->wpAny (model X.prog X.w) X.A (f (.int i t) (.int j u)) Q E s) :
 ci X f (rI C λi j=>.int (g i j)):=by
 intro pins s σ H x y v u Q I rx ry h;obtain⟨i,j,rfl,rfl,hc,q⟩:=h;obtain⟨t,rfl⟩:=rx;obtain⟨t',rfl⟩:=ry;exact rule i j t t' s _ _ hc ⟨.int (g i j),H,I.tok _,⟨_,rfl⟩,q⟩
def zi{f:Value->Value->Sem Value}{g:Int->Int->Int}
 (rule:∀(i j:Int) (t u:Tok) (s:Shared) (Q:Value->Shared->Prop) (E:Value->Shared->Prop),Q (.int (g i j) s.toks) { s with toks:=s.toks+1 }->wpAny (model X.prog X.w) X.A (f (.int i t) (.int j u)) Q E s) :
 ci X f (rI0 λi j=>.int (g i j)):=by
 intro pins s σ H x y v u Q I rx ry h;obtain⟨i,j,rfl,rfl,q⟩:=h;obtain⟨t,rfl⟩:=rx;obtain⟨t',rfl⟩:=ry;exact rule i j t t' s _ _ ⟨.int (g i j),H,I.tok _,⟨_,rfl⟩,q⟩
def kg{f:Value->Value->Sem Value}{g:Int->Int->Bool}
 (rule:∀(i j:Int) (t u:Tok) (s:Shared) (Q:Value->Shared->Prop) (E:Value->Shared->Prop),Q (.bool (g i j)) s->wpAny (model X.prog X.w) X.A (f (.int i t) (.int j u)) Q E s) :
 ci X f (rI0 λi j=>.bl (g i j)):=by
 intro pins s σ H x y v u Q I rx ry h;obtain⟨i,j,rfl,rfl,q⟩:=h;obtain⟨t,rfl⟩:=rx;obtain⟨t',rfl⟩:=ry;exact rule i j t t' s _ _ ⟨.bl (g i j),H,I,rfl,q⟩
def LK(i j:Int):Prop:=0<=j/\j<=1000000/\i.natAbs<2^64
def cJ:ci X (binaryOp .Add) (rI0 λi j=>.int (i+j)):=zi λ_ _ _ _ _ _ _ q=>add_int q
def di:ci X (binaryOp .Sub) (rI0 λi j=>.int (i-j)):=zi λ_ _ _ _ _ _ _ q=>sub_int q
def FI:ci X (binaryOp .Mod) (rI (λ_ j=>0<j) λi j=>.int (i%j)):=opI λi j _ _ _ _ _ hc q=>by have h1:(0:Int)<j:=hc;exact mod_int' (by omega) (by rw[Int.fmod_eq_emod_of_nonneg i (by omega)];exact q)
def tU:ci X (binaryOp .Pow) (rI LK λi j=>.int (i^j.toNat)):=opI λ_ _ _ _ _ _ _ hc q=>pow_int_small hc.1 hc.2.1 hc.2.2 q
def unI{f:Value->Sem Value}{g:Int->Int}
 (rule:∀(i:Int) (t:Tok) (s:Shared) (Q:Value->Shared->Prop) (E:Value->Shared->Prop),Q (.int (g i) s.toks) { s with toks:=s.toks+1 }->wpAny (model X.prog X.w) X.A (f (.int i t)) Q E s) :
 UnR X f (rU λi=>.int (g i)):=by
 intro pins s σ H x v Q I rx h;obtain⟨i,rfl,q⟩:=h;obtain⟨t,rfl⟩:=rx;exact rule i t s _ _ ⟨.int (g i),H,I.tok _,⟨_,rfl⟩,q⟩
def ck:UnR X (unaryOp .USub) (rU λi=>.int (-i)):=unI λ_ _ _ _ _ q=>neg_int q
end
section
variable {X:Cx}{a b c:Expr}{ta tb tc:TE}{pos:Pos}
def fO:ci X (compareOp .Lt) (rI0 λi j=>.bl (decide (i<j))):=kg λ_ _ _ _ _ _ _ q=>lt_int q
def tV:ci X (compareOp .LtE) (rI0 λi j=>.bl (decide (i<=j))):=kg λ_ _ _ _ _ _ _ q=>le_int q
def fP:ci X (compareOp .Gt) (rI0 λi j=>.bl (decide (j<i))):=kg λ_ _ _ _ _ _ _ q=>gt_int q
def ze:ci X (compareOp .GtE) (rI0 λi j=>.bl (decide (j<=i))):=kg λ_ _ _ _ _ _ _ q=>ge_int q
def zo(b:Expr){op:CmpOp}(h:op≠.In:=by decide)(h2:op≠.NotIn:=by decide):behindInMarks op b=false:=by
 have e1:(op == CmpOp.In)=false:=by cases op<;>first |rfl |exact absurd rfl h
 have e2:(op == CmpOp.NotIn)=false:=by cases op<;>first |rfl |exact absurd rfl h2
 cases b<;>simp[behindInMarks,e1,e2]
def Fy{op:CmpOp}{r:R2}(ho:ci X (compareOp op) r)(ha:PE X a ta)(hb:PE X b tb)(hm:behindInMarks op b=false):PE X (.Compare a [op] [b] pos) (tOp r ta tb):=by intro pins s σ H Q I h;exact wpAny_Compare1 (vh ha hb I h λv u s2 x y H2 I2 rx ry q=>ho pins s2 σ H2 x y v u Q I2 rx ry q) hm
def wo(t:TE):TT:=λσ H Q=>t σ H λx H'=>∃k,x=.bl k/\Q k H'
def Fb{op:CmpOp}{r:R2}(ho:ci X (compareOp op) r)(ha:PE X a ta)(hb:PE X b tb)(hm:behindInMarks op b=false):PT X (.Compare a [op] [b] pos) (wo (tOp r ta tb)):=by
 intro pins s σ H Q I h
 refine wpAny_isTrue_Compare1 (aI (ha pins s σ H _ I h) λv s1 ⟨x,H1,I1,r1,q1⟩=>aI (hb pins s1 σ H1 _ I1 q1) λu s2 ⟨y,H2,I2,r2,q2⟩ =>aI (ho pins s2 σ H2 x y v u _ I2 r1 r2 q2) λc s3 ⟨z,H3,I3,r3,k,e,q3⟩=>?_) hm
 subst e;cases r3;exact wpAny_truthy_bool ⟨H3,I3,q3⟩
def BQ(K:PySem.W.Frag)(x:V)(H:Hp)(k:Bool):Prop :=
 match x with
 |.non=>k=false
 |.bl b=>k=b
 |.int i=>k=(i != 0)
 |.str y=>y.length<=sizeLine/\k=((y.length:Int) != 0)
 |.byt y=>y.size<=sizeLine/\k=((y.size:Int) != 0)
 |.ref p=>(∃xs,SqL K H p xs/\k=!xs.isEmpty)\/(∃xs,SqT K H p xs/\k=!xs.isEmpty)\/∃kvs,H p=some (.dK kvs)/\k=!kvs.isEmpty
 |_=>False
def Iz{κ:Type}{kvs:List (κ×V)}{vs:List (κ×Value)}(r:KV kvs vs):(!vs.isEmpty)=!kvs.isEmpty:=by cases r<;>rfl
def Ai{xs:List V}{its:List Value}(r:Vals xs its):(!its.toArray.isEmpty)=!xs.isEmpty:=by cases r<;>simp
def lV:(sizeLine:Nat)<2^63:=by rw[sizeLine_eq];decide
def CA:KL X (λx H Q=>∃k,BQ X.K x H k/\Q k H):=by
 intro pins s σ H x v Q I rx h;obtain⟨k,e,q⟩:=h;have hl:=lV;have hs:sizeLine=16777216:=sizeLine_eq;cases x with
 |non =>cases rx;have e':k=false:=e;subst e';exact truthy_none ⟨H,I,q⟩
 |bl b =>cases rx;have e':k=b:=e;subst e';exact wpAny_truthy_bool ⟨H,I,q⟩
 |int i =>obtain⟨t,rfl⟩:=rx;have e':k=(i != 0):=e;subst e';exact PySem.P.truthy_int ⟨H,I,q⟩
 |str y =>obtain⟨t,rfl⟩:=rx;obtain⟨hy,e'⟩:y.length<=sizeLine/\k=((y.length:Int) != 0):=e;subst e';exact PySem.P.truthy_str (by omega) ⟨H,I.tok _,q⟩
 |byt y =>obtain⟨t,rfl⟩:=rx;obtain⟨hy,e'⟩:y.size<=sizeLine/\k=((y.size:Int) != 0):=e;subst e';exact PySem.W.truthy_bytes (by omega) ⟨H,I.tok _,q⟩
 |ref p =>
  cases rx;have e':(∃xs,SqL X.K H p xs/\k=!xs.isEmpty)\/(∃xs,SqT X.K H p xs/\k=!xs.isEmpty)\/∃kvs,H p=some (.dK kvs)/\k=!kvs.isEmpty:=e;rcases e' with⟨xs,hx,e'⟩ |⟨xs,hx,e'⟩ |⟨kvs,hx,e'⟩
  ·subst e';obtain⟨its,r,pl,hz⟩:=I.list hx;have hlen:=r.length;exact wpAny_truthy_list pl.isList (by simp only[NX];omega) ⟨H,I.tok _,by rw[Ai r];exact q⟩
  ·subst e';obtain⟨its,r,pl,hz⟩:=I.tuple hx;have hlen:=r.length;exact truthy_tuple pl (by simp only[NX];omega) ⟨H,I.tok _,by rw[Ai r];exact q⟩
  ·subst e';obtain⟨hz,hS,vs,r,m⟩:kvs.length<=sizeLine/\(p == sysModules)=false/\∃vs,KV kvs vs/\s.heap.DictOf (uj X.prog X.w) p vs:=I.hok p _ hx;have hlen:kvs.length=vs.length:=Paired.length r;exact wpAny_truthy_dict hS m (by omega) ⟨H,I.tok _,by rw[Iz r];exact q⟩
 |_=>exact(show False from e).elim
def Fa(ha:PE X a ta)(he:∀whole,isTrue a X.env whole=(do let v <- whole;standAt a.pos;holding [v] (truthy v))) :
 PT X a (λσ H Q=>ta σ H λx H'=>∃k,BQ X.K x H' k/\Q k H'):=by
 intro pins s σ H Q I h;exact isTrue_plain (aI (ha pins s σ H _ I h) λv s1 ⟨x,H1,I1,r1,q1⟩=>CA pins s1 σ H1 x v Q I1 r1 q1) (he _)
def iu{x:V}{us:List Value}(r:Vals [x] us):∃u,us=[u]/\RelV x u:=by
 cases r with
 |cons r1 r2=>cases r2;exact⟨_,rfl,r1⟩
def Cn{x y:V}{us:List Value}(r:Vals [x,y] us):∃u w',us=[u,w']/\RelV x u/\RelV y w':=by
 cases r with
 |cons r1 r2 =>
  cases r2 with
  |cons r3 r4=>cases r4;exact⟨_,_,rfl,r1,r3⟩
def kB:fD X (.builtin "abs") (λxs H Q=>∃i,xs=[.int i]/\Q (.int (if i<0 then -i else i)) H):=by intro pins s σ H xs us Q I r h;obtain⟨i,rfl,q⟩:=h;obtain⟨u,rfl,t,rfl⟩:=iu r;exact call_abs_int λu tk=>⟨.int (if i<0 then -i else i),H,I.tok _,⟨_,rfl⟩,q⟩
def Bz(hc:X.calm=true):fD X (.builtin "max") (λxs H Q=>∃i j,xs=[.int i,.int j]/\Q (.int (if j>i then j else i)) H):=by
 intro pins s σ H xs us Q I r h;obtain⟨i,j,rfl,q⟩:=h;obtain⟨u,w',rfl,⟨t,rfl⟩,⟨t',rfl⟩⟩:=Cn r;refine max_two_ints (I.ok.hd hc) λh' tk k=>⟨_,H,I.kept k,?_,q⟩
 by_cases hj:j>i
 ·rw[if_pos hj,if_pos hj];exact⟨_,rfl⟩
 ·rw[if_neg hj,if_neg hj];exact⟨_,rfl⟩
def BA:fD X (.type "int") (λxs H Q=>(∃i,xs=[.int i]/\Q (.int i) H)\/∃k,xs=[.bl k]/\Q (.int (if k then 1 else 0)) H):=by
 intro pins s σ H xs us Q I r h;rcases h with⟨i,rfl,q⟩ |⟨k,rfl,q⟩
 ·obtain⟨u,rfl,t,rfl⟩:=iu r;exact call_int_int ⟨.int i,H,I,⟨_,rfl⟩,q⟩
 ·obtain⟨u,rfl,r1⟩:=iu r;cases r1;exact call_int_bool ⟨.int (if k then 1 else 0),H,I.tok _,⟨_,rfl⟩,q⟩
end
structure ObjM(h:Heap)(x dx C:Addr)(mA:Str->Option Value):Prop where
 obj:h.get? x=some (PySem.W.instObj C dx)
 ns:h.Ns1 dx mA
 ne:dx≠x
def Ie{h:Heap}{dx:Addr}{mA:Str->Option Value}(n:h.Ns1 dx mA):∃od,h.get? dx=some od/\∀name,PySem.W.lookIn name od=some (mA name):=by
 obtain⟨o,es,ep,ho,hd,hk,_,hm⟩:=n;refine⟨o,ho,λname=>?_⟩;have e:=hm name;unfold nsFind findBy at e
 rw[<- Array.find?_toList]at e;unfold PySem.W.lookIn;rw[hd];dsimp only
 split
 ·rename_i y q
  rw[q]at e;exact congrArg some e
 ·rename_i q
  rw[q]at e
  have a:es.toList.any (·.refKey)=false:=by rw[List.any_eq_false];intro y hy;obtain⟨z,t,hkey⟩:=hk y (Array.mem_toList_iff.mp hy);simp[DictEntry.refKey,hkey]
  have a':¬es.toList.any (·.refKey)=true:=by rw[a];exact Pd
  rw[if_neg a'];exact congrArg some e
def ObjM.look{h:Heap}{x dx C:Addr}{mA:Str->Option Value}(I:ObjM h x dx C mA):∃od,PySem.W.InstAt h x (PySem.W.instObj C dx) C (some od)/\∀name,PySem.W.lookIn name od=some (mA name) :=
 let⟨od,ho,hl⟩:=Ie I.ns
 ⟨od,⟨I.obj,rfl,rfl,ho⟩,hl⟩
section
variable {prog:Program}{w:World}{A:Around}{E:Value->Shared->Prop}{s:Shared}{K:PySem.W.Frag}{x dx C f:Addr}{mA:Str->Option Value}{name:Str}{v:Value}
def IW{expr:Bool}{Q:Value->Shared->Prop}(X:K.In s.heap)(I:ObjM s.heap x dx C mA)(hg:PySem.W.plainGet K C name=true)(hh:PySem.W.hasDictIn K C=true)
 (ha:PySem.W.findIn K (.ref C) name=some none) (hv:mA name=some v) (hv':PySem.W.handedIn v=true) (h:Q v { s with toks:=s.toks+1 }) :
 wpAny (model prog w) A (getAttr (.ref x) name expr) Q E s:=by
 obtain⟨od,J,hl⟩:=I.look;exact PySem.W.get_value X J (PySem.W.plainGet_of hg).1 (PySem.W.findObj_own hh ha rfl (by rw[hl,hv])) hv' h
def IV{pl:Sem Bool}{Q:Value×List Value->Shared->Prop}(X:K.In s.heap)(I:ObjM s.heap x dx C mA)(hg:PySem.W.plainGet K C name=true)
 (hf:PySem.W.findIn K (.ref C) name=some (some (.ref f))) (ht:PySem.W.isFn K (.ref f)=true) (hv:mA name=none) (h:Q (.ref f,[.ref x]) s) :
 wpAny (model prog w) A (getMethod (.ref x) name pl) Q E s:=by
 obtain⟨od,J,hl⟩:=I.look;exact PySem.W.method_fn X J (PySem.W.plainGet_of hg).1 (PySem.W.plainGet_of hg).2 hf (beq_iff_eq.mp ht) (by show(PySem.W.lookIn name od).map (·.isSome)=some false;rw[hl,hv];rfl) h
def qI{ns:List Str}{Q:Unit->Shared->Prop}(X:K.In s.heap)(I:ObjM s.heap x dx C mA)
 (hs:PySem.W.findIn K (.ref C) "__setattr__"=some (some (.builtin "object.__setattr__"))) (hp:PySem.W.plainOver K C=true) (ht:PySem.W.takerIn K C name=some none) (hh:PySem.W.hasDictIn K C=true)
 (hw:PySem.Within mA ns) (hsz:ns.length<=sizeLine)
 (h:∀h',ObjM h' x dx C (λy=>if y=name then some v else mA y)->Heap.SameBut dx s.heap h'->Q () { s with heap:=h',toks:=s.toks+2 }) :
 wpAny (model prog w) A (setAttr (.ref x) name v) Q E s:=by
 obtain⟨od,J,hl⟩:=I.look;refine PySem.W.set_plain X J hs (PySem.W.osa_open (s:={ s with toks:=s.toks+1 }) (r:=none) X J hp ht λb=>?_);obtain⟨cd,hc,hd'⟩:=PySem.W.any_some hh;have hx:s.heap.get? x=some ⟨.ref C,some dx,.plain,#[]⟩:=I.obj;refine wpAny_bind (wpAny_pure (wpAny_bind (wpAny_bind (wpAny_loadPart hx (wpAny_bind (PySem.W.Looks.here (s:={ s with toks:=s.toks+1 }) (PySem.W.looks_clsIn X hc) ?_))))));rw[hd'];refine wpAny_pure (a:=some dx) (wpAny_bind (wpAny_pure (wpAny_bind ?_)));refine wpAny_nsSet1 (s:={ s with toks:=s.toks+1 }) I.ns λh' hn2 hs2=>?_
 obtain⟨oD,esD,epD,hoD,hdD,hcD⟩:=hn2.count (PySem.Within.cons name v hw);refine wpAny_bind (wpAny_lookBehind hoD (by rw[hdD];exact pastItsLine_dict (NP hcD (by rw[Ny];omega))) ?_);exact wpAny_pure (h _ ⟨(hs2.2 _ (Ne.symm I.ne)).trans I.obj,hn2,I.ne⟩ hs2)
def HV{R:Result->Shared->Prop}{vs:List Value}{kw:List (Str×Value)}(X:K.In s.heap)(hm:PySem.W.makesIn K C=true)
 (hi:PySem.W.findIn K (.ref C) "__init__"=some (some (.ref f))) (hf:PySem.W.typeIn K (.ref f)=some (.type "function"))
 (h:codeAny (model prog w) (A.under (.builtin "type.__call__" ⟨.ref C::vs,kw⟩)) (.call (.ref f) ⟨.ref (s.heap.objs.size+1)::vs,kw⟩) (PySem.W.InitBack (s.heap.objs.size+1) R)
   { s with heap:=(s.heap.push PySem.W.emptyDict).push (PySem.W.instObj C s.heap.objs.size) }) :
 codeAny (model prog w) A (.call (.ref C) ⟨vs,kw⟩) R s:=by
 obtain⟨hh,g,d,t,os⟩:=s;exact PySem.W.make_core (PySem.W.makes_of X hm) (PySem.W.looks_findIn X hi) (λself=>PySem.W.bind_fn X self hf) (.inl rfl) h
end
noncomputable def cW(f:Str)(v:V):List (Str×V)->List (Str×V)
 | []=>[(f,v)]
 | (g,x)::r=>if g=f then(g,v)::r else(g,x)::cW f v r
theorem fA(f g:Str)(v:V):∀fs:List (Str×V),(cW f v fs).lookup g=if g=f then some v else fs.lookup g
 | []=>by
  show List.lookup g [(f,v)]=_;by_cases h:g=f
  ·have hb:(g == f)=true:=beq_iff_eq.mpr h;simp only[List.lookup,hb,if_pos h]
  ·have hb:(g == f)=false:=beq_eq_false_iff_ne.mpr h;simp only[List.lookup,hb,if_neg h]
 | (k,x)::r=>by
  have ih:=fA f g v r;rw[show cW f v ((k,x)::r)=(if k=f then(k,v)::r else(k,x)::cW f v r)from rfl];by_cases hk:k=f
  ·rw[if_pos hk];by_cases h:g=k
   ·have hb:(g == k)=true:=beq_iff_eq.mpr h;simp only[List.lookup,hb,if_pos (h.trans hk)]
   ·have hb:(g == k)=false:=beq_eq_false_iff_ne.mpr h;simp only[List.lookup,hb,if_neg (λe:g=f=>h (e.trans hk.symm))]
  ·rw[if_neg hk];by_cases h:g=k
   ·have hb:(g == k)=true:=beq_iff_eq.mpr h;simp only[List.lookup,hb,if_neg (λe:g=f=>hk (h.symm.trans e))]
   ·have hb:(g == k)=false:=beq_eq_false_iff_ne.mpr h;simp only[List.lookup,hb];exact ih
theorem uz(f:Str)(v:V):∀fs:List (Str×V),f∈(cW f v fs).map (·.1)/\∀g,g∈fs.map (·.1)->g∈(cW f v fs).map (·.1)
 | []=>⟨by simp[cW],λg h=>by simp at h⟩
 | (k,x)::r=>by
  obtain⟨i1,i2⟩:=uz f v r;rw[show cW f v ((k,x)::r)=(if k=f then(k,v)::r else(k,x)::cW f v r)from rfl];by_cases hk:k=f
  ·rw[if_pos hk];subst hk;exact⟨by simp,λg h=>by simpa using h⟩
  ·rw[if_neg hk];refine⟨?_,λg h=>?_⟩
   ·rw[N0];exact NB _ i1
   ·rw[N0]at h ⊢;rcases NR.mp h with e |e
    ·exact NR.mpr (.inl e)
    ·exact NB _ (i2 g e)
theorem zU(f:Str)(v:V):∀fs:List (Str×V),(cW f v fs).length<=fs.length+1
 | []=>by simp[cW]
 | (k,x)::r=>by
  have ih:=zU f v r;rw[show cW f v ((k,x)::r)=(if k=f then(k,v)::r else(k,x)::cW f v r)from rfl];by_cases hk:k=f
  ·rw[if_pos hk,Ny,Ny];omega
  ·rw[if_neg hk,Ny,Ny];omega
def RelO.some_of{v:V}{o:Option Value}(r:RelO (some v) o):∃u,o=some u/\RelV v u:=by
 cases o with
 |none=>exact(show False from r).elim
 |some u=>exact⟨u,rfl,r⟩
def RelO.none_of{o:Option Value}(r:RelO none o):o=none:=by
 cases o with
 |none=>rfl
 |some u=>exact(show False from r).elim
def IN{v:V}{u:Value}(r:RelV v u):PySem.W.handedIn u=true:=by
 cases v with
 |non=>cases(show u=Value.none from r);rfl
 |bl b=>cases(show u=Value.bool b from r);rfl
 |int i=>obtain⟨t,e⟩:=(show ∃t,u=Value.int i t from r);cases e;rfl
 |str x=>obtain⟨t,e⟩:=(show ∃t,u=Value.str x t from r);cases e;rfl
 |byt b=>obtain⟨t,e⟩:=(show ∃t,u=Value.bytes b t from r);cases e;rfl
 |flt b=>obtain⟨t,e⟩:=(show ∃t,u=Value.float b t from r);cases e;rfl
 |ref a=>cases(show u=Value.ref a from r);rfl
 |ty n=>cases(show u=Value.type n from r);rfl
section
variable {P:Program}{w:World}{H H':Hp}{h h':Heap}{a C dx:Addr}{fs fs':List (Str×V)}
def oH(hok:HOk P w H h)(e:H a=some (.ins C dx fs)):∃mA,ObjM h a dx C mA/\(∀f,RelO (fs.lookup f) (mA f))/\PySem.Within mA (fs.map (·.1))/\fs.length<=1000/\H dx=some (.own a):=by obtain⟨d,z,ne,ob,mA,n,r,q⟩:=(show ObjOk P w H h a (.ins C dx fs)from hok a _ e);exact⟨mA,⟨ob,n,ne⟩,r,q,z,d⟩
end
structure Cls(K:PySem.W.Frag)(C:Addr):Prop where
 pg:PySem.W.plainGet K C Str.empty=true
 hd:PySem.W.hasDictIn K C=true
 po:PySem.W.plainOver K C=true
 sa:PySem.W.findIn K (.ref C) "__setattr__"=some (some (.builtin "object.__setattr__"))
def Cls.get{K:PySem.W.Frag}{C:Addr}(c:Cls K C)(f:Str):PySem.W.plainGet K C f=true:=c.pg
def NoAttr(K:PySem.W.Frag)(C:Addr)(f:Str):Prop:=PySem.W.findIn K (.ref C) f=some none
def NoAttr.taker{K:PySem.W.Frag}{C:Addr}{f:Str}(n:NoAttr K C f):PySem.W.takerIn K C f=some none:=by unfold PySem.W.takerIn;rw[show PySem.W.findIn K (.ref C) f=some none from n];rfl
structure Meth(K:PySem.W.Frag)(C:Addr)(m:Str)(f:Addr):Prop where
 at_:PySem.W.findIn K (.ref C) m=some (some (.ref f))
 fn:PySem.W.isFn K (.ref f)=true
 kp:PySem.W.keepIn K (.ref f)=true
section
variable {X:Cx}{pins:List (Addr×Obj)}{σ:St}{H:Hp}{s:Shared}{a C dx:Addr}{fs:List (Str×V)}{f:Str}{v:V}{A:Around}{E:Value->Shared->Prop}
def IU{b:Bool}{Q:Value->Shared->Prop}(I:Inv X pins σ H s)(e:H a=some (.ins C dx fs))(c:Cls X.K C)(n:NoAttr X.K C f)(l:fs.lookup f=some v)
 (h:∀u s',Inv X pins σ H s'->RelV v u->Q u s'):wpAny (model X.prog X.w) A (getAttr (.ref a) f b) Q E s:=by
 obtain⟨mA,O,r,_,_,_⟩:=oH I.hok e;obtain⟨u,hu,ru⟩:=RelO.some_of (v:=v) (o:=mA f) (by rw[<- l];exact r f);exact IW I.kIn O (c.get f) c.hd n hu (IN ru) (h u _ (I.tok _) ru)
def Aw{m:Str}{g:Addr}{pl:Sem Bool}{Q:Value×List Value->Shared->Prop}(I:Inv X pins σ H s)(e:H a=some (.ins C dx fs))(c:Cls X.K C)(k:Meth X.K C m g)(l:fs.lookup m=none)
 (h:Q (.ref g,[.ref a]) s):wpAny (model X.prog X.w) A (getMethod (.ref a) m pl) Q E s:=by
 obtain⟨mA,O,r,_,_,_⟩:=oH I.hok e;have hn:mA m=none:=RelO.none_of (by rw[<- l];exact r m);exact IV I.kIn O (c.get m) k.at_ k.fn hn h
def DO{y:V}{u:Value}{Q:Unit->Shared->Prop}(I:Inv X pins σ H s)(e:H a=some (.ins C dx fs))(c:Cls X.K C)(n:NoAttr X.K C f)(hl:fs.length<1000)(ry:RelV y u)
 (h:∀s',Inv X pins σ (upd H a (.ins C dx (cW f y fs))) s'->Q () s'):wpAny (model X.prog X.w) A (setAttr (.ref a) f u) Q E s:=by
 obtain⟨mA,O,r,wi,_,ho⟩:=oH I.hok e;have hz:(fs.map (·.1)).length<=sizeLine:=by rw[No,sizeLine_eq];omega
 refine qI I.kIn O c.sa c.po n.taker c.hd wi hz λh' O' sb=>h _ ?_
 have hd:∃o,h'.get? dx=some o:=let⟨o,_,_,e',_⟩:=O'.ns;⟨o,e'⟩;refine I.write (x:=a) (e:=dx) (by rw[e];exact True.intro) (.inr ho) (λb q hb z=>(sb.2 b hb).trans z) hd ?_;refine⟨by rw[upd_ne O.ne];exact ho,?_,O.ne,O'.obj,_,O'.ns,λg=>?_,λg hg=>?_⟩
 ·have:=zU f y fs;omega
 ·show RelO ((cW f y fs).lookup g) (if g=f then some u else mA g);rw[fA];by_cases q:g=f
  ·rw[if_pos q,if_pos q];exact ry
  ·rw[if_neg q,if_neg q];exact r g
 ·by_cases q:g=f
  ·rw[q];exact(uz f y fs).1
  ·refine(uz f y fs).2 g (wi g λz=>hg ?_);show(if g=f then some u else mA g)=none;rw[if_neg q];exact z
def Inv.made(I:Inv X pins σ H s):Inv X pins σ (upd (upd H s.heap.objs.size (.own (s.heap.objs.size+1))) (s.heap.objs.size+1) (.ins C s.heap.objs.size []))
 { s with heap:=(s.heap.push PySem.W.emptyDict).push (PySem.W.instObj C s.heap.objs.size) }:=by
 have e1:(s.heap.push PySem.W.emptyDict).get? s.heap.objs.size=some PySem.W.emptyDict:=Heap.get?_push_size s.heap rfl
 have e2:((s.heap.push PySem.W.emptyDict).push (PySem.W.instObj C s.heap.objs.size)).get? (s.heap.objs.size+1)=some (PySem.W.instObj C s.heap.objs.size):=by
  have:=Heap.get?_push_size (s.heap.push PySem.W.emptyDict) (o:=PySem.W.instObj C s.heap.objs.size) rfl
  rwa [Heap.size_push]at this
 have e3:(s.heap.push PySem.W.emptyDict).Ns s.heap.objs.size (λ_=>none):=⟨PySem.W.emptyDict,#[],_,e1,rfl,(λe he=>absurd he (by simp)),λ_=>rfl⟩;have I1:=I.laid (a:=s.heap.objs.size) (o:=.own (s.heap.objs.size+1)) (h':=s.heap.push PySem.W.emptyDict) (t':=s.toks) (λb u q=>Heap.get?_push_of_some _ q) (Nv _) ⟨_,e1⟩;refine I1.laid (a:=s.heap.objs.size+1) (o:=.ins C s.heap.objs.size []) (t':=s.toks) (λb u q=>Heap.get?_push_of_some _ q) (Ox (Heap.size_push _ _)) ?_;have ne:s.heap.objs.size≠s.heap.objs.size+1:=NW (OM _);refine⟨by rw[upd_ne ne,ax],Nw _,ne,e2,λ_=>none,(Heap.Ns1.of_empty e3).at λo q=>Heap.get?_push_of_some _ q,λ_=>True.intro,λy hy=>absurd rfl hy⟩
def Kx{prog:Program}{w:World}{env:Env}{e:Expr}{f:Str}{pos:Pos}{s:Shared}{Q:Value->Shared->Prop}(hb:attributeBase e f env (eval e env)=eval e env)
 (h:wpAny (model prog w) A (eval e env) (λo s₁=>wpAny (model prog w) A (getAttr o f true) Q E s₁) E s):wpAny (model prog w) A (eval (.Attribute e f pos) env) Q E s :=
 Attribute_any_ h (by rw[arm_eval_Attribute,hb])
end
def wx(K:PySem.W.Frag)(ta:TE)(f:Str):TE:=λσ H Q=>ta σ H λx H1=>∃a C dx fs v,x=.ref a/\H1 a=some (.ins C dx fs)/\Cls K C/\NoAttr K C f/\fs.lookup f=some v/\Q v H1
def Ep(K:PySem.W.Frag)(ta tv:TE)(f:Str):TS:=λD σ H=>tv σ H λy H1=>ta σ H1 λx H2=>∃a C dx fs,x=.ref a/\H2 a=some (.ins C dx fs)/\Cls K C/\NoAttr K C f/\fs.length<1000 /\
 D.nx σ (upd H2 a (.ins C dx (cW f y fs)))
section
variable {X:Cx}{o e value:Expr}{f:Str}{pos pos' tpos:Pos}{ta tv:TE}
def Fx(he:PE X e ta)(hb:attributeBase e f X.env (eval e X.env)=eval e X.env):PE X (.Attribute e f pos) (wx X.K ta f):=by intro pins s σ H Q I h;refine Kx hb (aI (he pins s σ H _ I h) ?_);rintro u s1 ⟨x,H1,I1,rx,a,C,dx,fs,v,ex,ea,c,n,l,q⟩;subst ex;obtain rfl:u=Value.ref a:=rx;exact IU I1 ea c n l λu' s2 I2 ru=>⟨v,H1,I2,ru,q⟩
def lB(ha:PE X o ta)(hv:PE X value tv)(hs:swapsWith value (some (.Attribute o f pos')) pos.line X.env=pure false):PS X (.Assign [.Attribute o f pos'] value pos) (Ep X.K ta tv f):=by intro pins s σ H D I h;refine plainObj_wpAny_Assign_Attribute (aI (hv pins s σ H _ I h) λu s1 ⟨y,H1,I1,ry,q⟩=>aI (ha pins s1 σ H1 _ I1 q) ?_) hs;rintro ov s2 ⟨x,H2,I2,rx,a,C,dx,fs,ex,ea,c,n,l,q2⟩;subst ex;obtain rfl:ov=Value.ref a:=rx;exact DO I2 ea c n l ry λs3 I3=>⟨σ,_,I3,q2⟩
end
section
variable {X:Cx}{pins:List (Addr×Obj)}{σ:St}{H:Hp}{s:Shared}{A:Around}{E:Value->Shared->Prop}{Q:Value->Shared->Prop}{c:Value}{b:Bool}
inductive TyOf(K:PySem.W.Frag)(H:Hp):V->Value->Prop where
 |non:TyOf K H .non (.type "NoneType")
 |bl (x:Bool):TyOf K H (.bl x) (.type "bool")
 |int (i:Int):TyOf K H (.int i) (.type "int")
 |str (x:Str):TyOf K H (.str x) (.type "str")
 |flt (x:UInt64):TyOf K H (.flt x) (.type "float")
 |lst {a:Addr} {xs:List V} (e:H a=some (.lst xs)):TyOf K H (.ref a) (.type "list")
 |frz {a:Addr} {o:Obj} {xs:List V} (e:H a=some (.frz o (.lst xs))):TyOf K H (.ref a) (.type "list")
 |tup {a:Addr} {xs:List V} (e:H a=some (.tup xs)):TyOf K H (.ref a) (.type "tuple")
 |dK {a:Addr} {kvs:List (Key×V)} (e:H a=some (.dK kvs)):TyOf K H (.ref a) (.type "dict")
 |dT {a:Addr} {kvs:List (List Key×V)} (e:H a=some (.dT kvs)):TyOf K H (.ref a) (.type "dict")
 |ins {a C dx:Addr} {fs:List (Str×V)} (e:H a=some (.ins C dx fs)) (cl:Cls K C) (ha:PySem.W.findIn K (.ref C) "__class__"=some (some (.builtin "object.__class__")))
  (hn:PySem.W.specialIn K (.builtin "object.__class__") "__get__"=some (some (.builtin "getset_descriptor.__get__"))) (htk:PySem.W.takesIn K (.builtin "object.__class__")=some true)
  (hm:PySem.W.mroIn K C (.type "object")=some true):TyOf K H (.ref a) (.ref C)
def Iy{x:V}{u t:Value}(I:Inv X pins σ H s)(rx:RelV x u)(ty:TyOf X.K H x t)(e:PySem.W.kitOne X.K t c=some b)(h:∀tk,Q (.bool b) { s with toks:=tk }) :
 wpAny (model X.prog X.w) A (call (.builtin "isinstance") [u,c]) Q E s:=by
 cases ty with
 |non=>cases(show u=Value.none from rx);exact PySem.W.kia_one PySem.W.kitx_none I.kIn True.intro e (λz=>nomatch z) h
 |bl y=>cases(show u=Value.bool y from rx);exact PySem.W.kia_one PySem.W.kitx_bool I.kIn True.intro e (λz=>nomatch z) h
 |int i=>obtain⟨t,q⟩:=(show ∃t,u=Value.int i t from rx);cases q;exact PySem.W.kia_one PySem.W.kitx_int I.kIn True.intro e (λz=>nomatch z) h
 |str y=>obtain⟨t,q⟩:=(show ∃t,u=Value.str y t from rx);cases q;exact PySem.W.kia_one PySem.W.kitx_str I.kIn True.intro e (λz=>nomatch z) h
 |flt y=>obtain⟨t,q⟩:=(show ∃t,u=Value.float y t from rx);cases q;exact PySem.W.kia_one PySem.W.kitx_float I.kIn True.intro e (λz=>nomatch z) h
 | @lst a xs ea =>cases(show u=Value.ref a from rx);obtain⟨_,_,n,_,h1⟩:=(show ObjOk X.prog X.w H s.heap a (.lst xs)from I.hok a _ ea);exact PySem.W.kia_one PySem.W.kitx_list I.kIn ⟨_,h1,rfl⟩ e (λz=>nomatch z) h
 | @frz a ob xs ea =>cases(show u=Value.ref a from rx);obtain⟨_,_,_,n,_,h1⟩:=(show ObjOk X.prog X.w H s.heap a (.frz ob (.lst xs))from I.hok a _ ea);exact PySem.W.kia_one PySem.W.kitx_list I.kIn ⟨_,h1,rfl⟩ e (λz=>nomatch z) h
 | @tup a xs ea =>cases(show u=Value.ref a from rx);obtain⟨_,_,_,p⟩:=(show ObjOk X.prog X.w H s.heap a (.tup xs)from I.hok a _ ea);obtain⟨o,h1,h2,_⟩:=p;exact PySem.W.kia_one PySem.W.kitx_tuple I.kIn ⟨o,h1,h2⟩ e (λz=>nomatch z) h
 | @dK a kvs ea =>cases(show u=Value.ref a from rx);obtain⟨_,_,vs,_,p⟩:=(show ObjOk X.prog X.w H s.heap a (.dK kvs)from I.hok a _ ea);obtain⟨o,es,ep,h1,h2,_⟩:=p;exact PySem.W.kia_one PySem.W.kitx_dict I.kIn ⟨o,h1,h2.1⟩ e (λz=>nomatch z) h
 | @dT a kvs ea =>cases(show u=Value.ref a from rx);obtain⟨_,_,xs,_,o,es,ep,h1,h2,_⟩:=(show ObjOk X.prog X.w H s.heap a (.dT kvs)from I.hok a _ ea);exact PySem.W.kia_one PySem.W.kitx_dict I.kIn ⟨o,h1,h2.1⟩ e (λz=>nomatch z) h
 | @ins a C dx fs ea cl ha hn htk hm =>cases(show u=Value.ref a from rx);obtain⟨mA,O,_⟩:=oH I.hok ea;obtain⟨od,J,_⟩:=O.look;exact PySem.W.kia_one (PySem.W.kitx_own (cl.get _) cl.hd ha hn htk hm) I.kIn J e (λz=>nomatch z) h
end
structure Room(k:Nat)(A:Around):Prop where
 hd:A.handled=none
 dp:A.depth+3*k+5<recursionLimit
 un:A.units+16*k+200<cLine
def Room.mono{j k:Nat}{A:Around}(r:Room k A)(h:j<=k:=by decide):Room j A:=⟨r.hd,by have:=r.dp;omega,by have:=r.un;omega⟩
def Room.deeper{k:Nat}{A:Around}(r:Room (k+1) A)(env:Env):Room k (A.deeper env) :=
 ⟨r.hd,by have:=r.dp;show A.depth+1+3*k+5<_;omega,by have:=r.un;show A.units+3+16*k+200<_;omega⟩
def HW{A:Around}{C:Addr}{us:List Value}{kw:List (Str×Value)}:(A.under (.builtin "type.__call__" ⟨.ref C::us,kw⟩)).depth=A.depth+1:=by first |rfl |simp[Around.under,Code.weight,Code.isCreation,Code.isGuard,Code.isCaller,Code.frames,Code.isFrame,guardIds]
def HU{A:Around}{C:Addr}{us:List Value}{kw:List (Str×Value)}:(A.under (.builtin "type.__call__" ⟨.ref C::us,kw⟩)).units=A.units+1:=by first |rfl |simp[Around.under,Code.cUnits,Code.frames,Code.isFrame]
def Room.make{k:Nat}{A:Around}(r:Room (k+1) A)(C:Addr)(us:List Value)(kw:List (Str×Value)):Room k (A.under (.builtin "type.__call__" ⟨.ref C::us,kw⟩)) :=
 ⟨r.hd,by have:=r.dp;rw[HW];omega,by have:=r.un;rw[HU];omega⟩
def Room.depth{k:Nat}{A:Around}(r:Room k A):A.depth<recursionLimit:=by have:=r.dp;omega
def Room.units{k:Nat}{A:Around}(r:Room k A):A.units+64<cLine:=by have:=r.un;omega
def qa:TA:=λ_ H Q=>Q [] H
def qb(ta:TE)(tr:TA):TA:=λσ H Q=>ta σ H λx H1=>tr σ H1 λxs H2=>Q (x::xs) H2
section
variable {X:Cx}{e:Expr}{es:List Expr}{te:TE}{t:TA}{pos:Pos}
def ae:PA X [] qa:=λ_ _ _ _ H Q I h=>Calls.spliced_nil ⟨[],H,I,.nil,h⟩
def aa(ha:PE X e te)(hr:PA X es t)(hs:starEach (e::es) X.env=(false,eval e X.env)::starEach es X.env:=by rfl):PA X (e::es) (qb te t):=by intro pos pins s σ H Q I h;rw[hs];show wpAny _ _ (spliced ((false,eval e X.env)::backTo pos (starEach es X.env))) _ _ s;refine Calls.spliced_cons (aI (ha pins s σ H _ I h) ?_);rintro u s1 ⟨x,H1,I1,r1,q1⟩;exact aI (hr pos pins s1 σ H1 _ I1 q1) λus s2 ⟨xs,H2,I2,r2,q2⟩=>⟨x::xs,H2,I2,.cons r1 r2,q2⟩
def CV(t:TA):TE:=λσ H Q=>t σ H λxs H1=>xs.length<=sizeLine/\∀p,H1 p=none->Q (.ref p) (upd H1 p (.tup xs))
def Da(t:TA):TE:=λσ H Q=>t σ H λxs H1=>xs.length<=sizeLine/\∀p,H1 p=none->Q (.ref p) (upd H1 p (.lst xs))
def fN{x1}(h:PA X es t):PE X (.Tuple es x1 pos) (CV t):=by intro pins s σ H Q I hq;refine wpAny_Tuple_spliced (aI (h pos pins s σ H _ I hq) λus s1 ⟨xs,H1,I1,r,z,q⟩=>⟨by rw[<- r.length];exact z,?_⟩);have hf:H1 s1.heap.objs.size=none:=I1.hok.fresh (Nv _);refine⟨.ref s1.heap.objs.size,upd H1 s1.heap.objs.size (.tup xs),I1.laid (t':=s1.toks) (λb u e=>Heap.get?_push_of_some _ e) (Nv _) ?_,rfl,q _ hf⟩;exact⟨z,us,r,⟨_,Heap.get?_push_size _ rfl,rfl,_,rfl⟩⟩
def cg(h:PA X es t):PE X (.List es pos) (Da t):=by intro pins s σ H Q I hq;refine wpAny_List_spliced (aI (h pos pins s σ H _ I hq) λus s1 ⟨xs,H1,I1,r,z,q⟩=>⟨by rw[<- r.length];exact z,?_⟩);have hf:H1 s1.heap.objs.size=none:=I1.hok.fresh (Nv _);refine⟨.ref s1.heap.objs.size,upd H1 s1.heap.objs.size (.lst xs),I1.laid (t':=s1.toks) (λb u e=>Heap.get?_push_of_some _ e) (Nv _) ?_,rfl,q _ hf⟩;exact⟨z,us,0,r,Heap.get?_push_size _ rfl⟩
end
abbrev Sp:=List V->Hp->VK->XK->Prop
abbrev CXT:=List Env->Hp->Shared->XK->Value->Shared->Prop
structure Env0(P:Program)(w:World)(K:PySem.W.Frag)(mg:Str->Option Value)(base:Heap)(A:Around)(outer:List Env)(s:Shared)(H:Hp):Prop where
 frames:A.frames=some outer
 mod:Mod K mg base
 bs:∀b o,base.get? b=some o->s.heap.get? b=some o/\H b=none
 bsz:base.objs.size<=s.heap.objs.size
 funs:s.heap.FunFrames base outer
 frf:∀b∈frs outer,H b=none
 hok:HOk P w H s.heap
 bare:AllBare s.gens
def CE(outer:List Env)(P:Program)(w:World)(H:Hp)(s:Shared)(Q:VK)(u:Value)(s':Shared):Prop :=
 ∃v H',s'.os=s.os/\AllBare s'.gens/\Un (frs outer) [] H H' s.heap s'.heap/\HOk P w H' s'.heap/\RelV v u/\Q v H'
def CR(CX:CXT)(outer:List Env)(P:Program)(w:World)(H:Hp)(s:Shared)(Q:VK)(E:XK)(r:Result)(s':Shared):Prop :=
 match r with
 |.ok (.ret u)=>CE outer P w H s Q u s'
 |.ok _=>False
 |.error e=>CX outer H s E e s'
structure FnOk(P:Program)(w:World)(K:PySem.W.Frag)(mg:Str->Option Value)(base:Heap)(CX:CXT)(k:Nat)(f:Addr)(fd:FuncData)(ps:List Str)(sp:Sp):Prop where
 len:∀vs H Q E,sp vs H Q E->vs.length=ps.length
 run:∀(A:Around) (outer:List Env) (s:Shared) (H:Hp) (args:Args) (us:List Value) (vs:List V) (Q:VK) (E:XK),Room k A->Env0 P w K mg base A outer s H->BindsTo s fd args (ps.zip us)->Vals vs us->sp vs H Q E ->
  codeAny (model P w) A (.call (.ref f) args) (CR CX outer P w H s Q E) s
def Env0.make{P:Program}{w:World}{K:PySem.W.Frag}{mg:Str->Option Value}{base:Heap}{A:Around}{outer:List Env}{s:Shared}{H:Hp}(e:Env0 P w K mg base A outer s H)(C:Addr)(us:List Value)(kw:List (Str×Value)) :
 Env0 P w K mg base (A.under (.builtin "type.__call__" ⟨.ref C::us,kw⟩)) outer s H:=⟨by first |exact e.frames | (simpa[Around.under,Code.envs,Code.isFrame,pushEnvs]using e.frames),e.mod,e.bs,e.bsz,e.funs,e.frf,e.hok,e.bare⟩
section
variable {X:Cx}{pins:List (Addr×Obj)}{σ:St}{H:Hp}{s s':Shared}
def Inv.env0(I:Inv X pins σ H s):Env0 X.prog X.w X.K X.mg X.base X.A X.stack s H :=
 ⟨I.ok.frames,I.ok.mod,I.bs,NP I.ok.bsz I.sz,I.stack,I.stkFree,I.hok,I.bare⟩
def Inv.after{Q:VK}{u:Value}(I:Inv X pins σ H s)(h:CE X.stack X.prog X.w H s Q u s'):EP X pins σ Q u s':=by obtain⟨v,H',os,bare,un,hok,r,q⟩:=h;obtain⟨hh,g,d,t,os'⟩:=s';obtain rfl:os'=s.os:=os;exact⟨v,H',I.call (h':=hh) (g':=g) (d':=d) (t':=t) (ch:=[]) un hok bare (λb z=>absurd z (by simp)),r,q⟩
end
def wz(sp:Sp)(dvs:List V)(E:XK)(t:TA):TE:=λσ H Q=>t σ H λvs H1=>sp (vs++dvs) H1 Q E
def ww(C:Addr)(m:Str)(sp:Sp)(dvs:List V)(E:XK)(ta:TE)(t:TA):TE:=λσ H Q=>ta σ H λx H1=>∃a dx fs,x=.ref a/\H1 a=some (.ins C dx fs)/\fs.lookup m=none /\
 t σ H1 λvs H2=>sp (x::(vs++dvs)) H2 Q E
def C4(C:Addr)(sp:Sp)(dvs:List V)(E:XK)(t:TA):TE:=λσ H Q=>t σ H λvs H1=>∀x dx,H1 x=none->H1 dx=none->dx≠x ->
 sp (.ref x::(vs++dvs)) (upd (upd H1 dx (.own x)) x (.ins C dx [])) (λv H2=>v=.non/\Q (.ref x) H2) E
def Binds(K:PySem.W.Frag)(fd:FuncData)(ps:List Str)(ds:List Value):Prop :=
 ∀(s:Shared) (us:List Value),K.In s.heap->(us++ds).length=ps.length->BindsTo s fd ⟨us,[]⟩ (ps.zip (us++ds))
def Binds.all{K:PySem.W.Frag}{fd:FuncData}{ps:List Str}(h:∀us:List Value,us.length=ps.length->bindArgs fd ⟨us,[]⟩=pure (ps.zip us)):Binds K fd ps []:=λs us _ hl=>by rw[Pe]at hl ⊢;exact .of_eq (h us hl)
def jz(CX:CXT)(X:Cx)(E:XK):Prop:=∀(pins:List (Addr×Obj)) (σ:St) (H:Hp) (s:Shared) (e:Value) (s':Shared),Inv X pins σ H s->CX X.stack H s E e s'->X.xe e s'
section
variable {X:Cx}{CX:CXT}{k:Nat}{f C:Addr}{fd:FuncData}{ps:List Str}{sp:Sp}{dvs:List V}{ds:List Value}{E:XK}{x m:Str}{p pos apos:Pos}{e o:Expr}{es:List Expr}{ta:TE}{t:TA}
theorem sU{pins:List (Addr×Obj)}{σ:St}{H:Hp}{s:Shared}{Q:VK}{us:List Value}{vs:List V}(F:FnOk X.prog X.w X.K X.mg X.base CX k f fd ps sp)(hr:Room k X.A)(hb:Binds X.K fd ps ds)(hd:Vals dvs ds)(hx:jz CX X E)
 (I:Inv X pins σ H s) (r:Vals vs us) (h:sp (vs++dvs) H Q E):wpAny (model X.prog X.w) X.A (call (.ref f) us) (EP X pins σ Q) X.xe s:=by
 have r2:Vals (vs++dvs) (us++ds):=r.append hd;have hl:(us++ds).length=ps.length:=by rw[<- r2.length];exact F.len _ _ _ _ h
 refine wpAny_call (codeAny_mono (F.run X.A X.stack s H ⟨us,[]⟩ (us++ds) (vs++dvs) Q E hr I.env0 (hb s us I.kIn hl) r2 h) λr s' hq=>?_);cases r with
 |error e=>exact hx pins σ H s e s' I hq
 |ok fl =>
  cases fl with
  |ret u=>exact I.after hq
  |next=>exact False.elim hq
  |brk=>exact False.elim hq
  |cont=>exact False.elim hq
def Fz(F:FnOk X.prog X.w X.K X.mg X.base CX k f fd ps sp)(hr:Room k X.A)(hg:Gl X x)(hm:X.mg x=some (.ref f))(hk:PySem.W.keepIn X.K (.ref f)=true)(hb:Binds X.K fd ps ds)(hd:Vals dvs ds)(hx:jz CX X E)
 (ha:PA X (e::es) t) (hdb:(x == ("__debug__":Str))=false:=by decide) (he:starEach (e::es) X.env=(false,eval e X.env)::starEach es X.env:=by rfl) (hpl:(backTo pos (starEach es X.env)).any (·.1)=false:=by rfl) :
 PE X (.Call (.Name x p) (e::es) [] pos) (wz sp dvs E t):=by
 intro pins s σ H Q I h;refine wpAny_Call_Name_kw (ur I hg hm ?_ hdb);refine PySem.W.callWith_K (h₀:=X.base) I.ok.mod.kin hk (aI (ha pos pins s σ H _ I h) λus s1 ⟨vs,H1,I1,r,q⟩=>⟨I1.kIn,?_⟩) he hpl;exact sU F hr hb hd hx I1 r q
def cN{pl:Sem Bool}(he:PE X o ta)(c:Cls X.K C)(hm:Meth X.K C m f)(F:FnOk X.prog X.w X.K X.mg X.base CX k f fd ps sp)(hr:Room k X.A)(hb:Binds X.K fd ps ds)(hd:Vals dvs ds)(hx:jz CX X E)(ha:PA X (e::es) t)
 (hst:starEach (e::es) X.env=(false,eval e X.env)::starEach es X.env:=by rfl) (hpl:(backTo pos (starEach es X.env)).any (·.1)=false:=by rfl)
 (ht:eval (.Call (.Attribute o m apos) (e::es) [] pos) X.env=(do
   let ov <- eval o X.env
   standAt apos.atName
   let(f,first) <- holding [ov] (getMethod ov m pl)
   callWith pos f first (backTo pos (starEach (e::es) X.env)) (backToKw pos (keywordEach [] X.env))):=by rfl) :
 PE X (.Call (.Attribute o m apos) (e::es) [] pos) (ww C m sp dvs E ta t):=by
 intro pins s σ H Q I h;refine PySem.W.methodCall_KW (pl:=pl) (aI (he pins s σ H _ I h) ?_) ht;rintro u s1 ⟨x,H1,I1,rx,a,dx,fs,ex,ea,l,q⟩;subst ex;obtain rfl:u=Value.ref a:=rx;refine Aw I1 ea c hm l ?_;refine PySem.W.callWith_K (first:=[.ref a]) (h₀:=X.base) I.ok.mod.kin hm.kp (aI (ha pos pins s1 σ H1 _ I1 q) λus s2 ⟨vs,H2,I2,r,q2⟩=>⟨I2.kIn,?_⟩) hst hpl;exact sU (us:=.ref a::us) (vs:=.ref a::vs) F hr hb hd hx I2 (.cons rfl r) q2
def tI{pl:Sem Bool}(he:PE X o ta)(c:Cls X.K C)(hm:Meth X.K C m f)(F:FnOk X.prog X.w X.K X.mg X.base CX k f fd ps sp)(hr:Room k X.A)(hb:Binds X.K fd ps ds)(hd:Vals dvs ds)(hx:jz CX X E)
 (ht:eval (.Call (.Attribute o m apos) [] [] pos) X.env=(do
   let ov <- eval o X.env
   standAt apos.atName
   let(f,first) <- holding [ov] (getMethod ov m pl)
   callWith pos f first (backTo pos (starEach [] X.env)) (backToKw pos (keywordEach [] X.env))):=by rfl) :
 PE X (.Call (.Attribute o m apos) [] [] pos) (ww C m sp dvs E ta qa):=by
 intro pins s σ H Q I h;refine PySem.W.methodCall_KW (pl:=pl) (aI (he pins s σ H _ I h) ?_) ht;rintro u s1 ⟨x,H1,I1,rx,a,dx,fs,ex,ea,l,q⟩;subst ex;obtain rfl:u=Value.ref a:=rx;refine Aw I1 ea c hm l ?_;exact PySem.W.callWith_K0 (first:=[.ref a]) I1.kIn hm.kp (sU (us:=[.ref a]) (vs:=[.ref a]) F hr hb hd hx I1 (.cons rfl .nil) q)
structure Mk(K:PySem.W.Frag)(C f:Addr):Prop where
 makes:PySem.W.makesIn K C=true
 init:PySem.W.findIn K (.ref C) "__init__"=some (some (.ref f))
 fn:PySem.W.isFn K (.ref f)=true
 kp:PySem.W.keepIn K (.ref C)=true
theorem Er{pins:List (Addr×Obj)}{σ:St}{H:Hp}{s:Shared}{Q:VK}{us:List Value}{vs:List V}(M:Mk X.K C f)(F:FnOk X.prog X.w X.K X.mg X.base CX k f fd ps sp)(hr:Room (k+1) X.A)(hb:Binds X.K fd ps ds)(hd:Vals dvs ds)
 (hx:jz CX X E) (I:Inv X pins σ H s) (r:Vals vs us)
 (h:∀x dx,H x=none->H dx=none->dx≠x->sp (.ref x::(vs++dvs)) (upd (upd H dx (.own x)) x (.ins C dx [])) (λv H2=>v=.non/\Q (.ref x) H2) E) :
 wpAny (model X.prog X.w) X.A (call (.ref C) us) (EP X pins σ Q) X.xe s:=by
 have hq:=h (s.heap.objs.size+1) s.heap.objs.size (I.hok.fresh (Nat.le_succ _)) (I.hok.fresh (Nv _)) (NW (OM _));have I2:=Inv.made (C:=C) I;have r2:Vals (V.ref (s.heap.objs.size+1)::(vs++dvs)) (Value.ref (s.heap.objs.size+1)::(us++ds)):=.cons rfl (r.append hd)
 have hl:(Value.ref (s.heap.objs.size+1)::us++ds).length=ps.length:=by have e:=r2.length;rw[F.len _ _ _ _ hq]at e;exact e.symm
 refine wpAny_call (HV (f:=f) I.kIn M.makes M.init (beq_iff_eq.mp M.fn) (codeAny_mono (F.run _ X.stack _ _ ⟨Value.ref (s.heap.objs.size+1)::us,[]⟩ (Value.ref (s.heap.objs.size+1)::(us++ds)) _ _ E (hr.make C us [])
  (I2.env0.make C us []) (hb _ (Value.ref (s.heap.objs.size+1)::us) I2.kIn hl) r2 hq) λr s' hq'=>?_))
 cases r with
 |error e=>exact hx pins σ _ _ e s' I2 hq'
 |ok fl =>
  cases fl with
  |ret u =>obtain⟨v,H',I3,rv,ev,q3⟩:=I2.after hq';subst ev;exact⟨rv,⟨V.ref (s.heap.objs.size+1),H',I3,rfl,q3⟩⟩
  |next=>exact False.elim hq'
  |brk=>exact False.elim hq'
  |cont=>exact False.elim hq'
def cD(M:Mk X.K C f)(F:FnOk X.prog X.w X.K X.mg X.base CX k f fd ps sp)(hr:Room (k+1) X.A)(hg:Gl X x)(hm:X.mg x=some (.ref C))(hb:Binds X.K fd ps ds)(hd:Vals dvs ds)(hx:jz CX X E)
 (ha:PA X (e::es) t) (hdb:(x == ("__debug__":Str))=false:=by decide) (he:starEach (e::es) X.env=(false,eval e X.env)::starEach es X.env:=by rfl) (hpl:(backTo pos (starEach es X.env)).any (·.1)=false:=by rfl) :
 PE X (.Call (.Name x p) (e::es) [] pos) (C4 C sp dvs E t):=by
 intro pins s σ H Q I h;refine wpAny_Call_Name_kw (ur I hg hm ?_ hdb);refine PySem.W.callWith_K (h₀:=X.base) I.ok.mod.kin M.kp (aI (ha pos pins s σ H _ I h) λus s1 ⟨vs,H1,I1,r,q⟩=>⟨I1.kIn,?_⟩) he hpl;exact Er M F hr hb hd hx I1 r q
end
section
variable {X:Cx}{CX:CXT}{k:Nat}{f C:Addr}{fd:FuncData}{ps ks:List Str}{sp:Sp}{E:XK}{x m:Str}{p pos apos kpos:Pos}{e o:Expr}{es:List Expr}{kws:List Keyword}{te ta:TE}{t tk:TA}{nm:Option Str}
variable {g:List Value->List Value->List Value}{gV:List V->List V->List V}
end
structure FnScope(N P:List Str)(sc:Scope):Prop where
 kind:sc.kind=.function
 co:sc.isCoroutine=false
 gen:sc.isGenerator=false
 nd:N.Nodup
 pre:N.take P.length=P
 par:∀x∈P,sc.names.lookup x=some .local\/sc.names.lookup x=some .cell
 nofree:∀y∈sc.names,y.2≠.free
theorem BC{kindOf:Str->Option NameKind}{x:Str}:∀{binds:List (Str×Value)} {m:Str->Option Value},(∀v,(x,v)∉binds)->bindL kindOf binds m x=m x
 | [],_,_=>rfl
 | (n,v)::r,m,h=>by
  unfold bindL;rw[BC λw hw=>h w (NB _ hw)];split
  ·have:x≠n:=by rintro rfl;exact h v NK
   simp[this]
  ·rfl
theorem BF{kindOf:Str->Option NameKind}{x:Str}:∀{binds:List (Str×Value)} {m:Str->Option Value},(∀v,(x,v)∉binds)->bindC kindOf binds m x=m x
 | [],_,_=>rfl
 | (n,v)::r,m,h=>by
  unfold bindC;rw[BF λw hw=>h w (NB _ hw)];split
  ·rfl
  ·have:x≠n:=by rintro rfl;exact h v NK
   simp[this]
theorem BE{kindOf:Str->Option NameKind}{x:Str}{v:Value}:∀{P:List Str} {vs:List Value} {i:Nat} {m:Str->Option Value},P.Nodup->P[i]?=some x->vs[i]?=some v->kindOf x=some .local ->
 bindL kindOf (P.zip vs) m x=some v
 | [],_,_,_,_,h,_,_=>by simp at h
 |_::_,[],_,_,_,_,h,_=>by simp at h
 |p::P,w::vs,0,m,nd,h1,h2,hk=>by
  simp at h1 h2;subst h1;subst h2
  show bindL kindOf ((p,w)::P.zip vs) m p=_;unfold bindL;rw[BC λv hv=>(Py.mp nd).1 (List.of_mem_zip hv).1,if_pos hk];simp
 |p::P,w::vs,i+1,m,nd,h1,h2,hk=>by show bindL kindOf ((p,w)::P.zip vs) m x=_;unfold bindL;exact BE (i:=i) (Py.mp nd).2 (by simpa using h1) (by simpa using h2) hk
theorem BG{kindOf:Str->Option NameKind}{x:Str}{v:Value}:∀{P:List Str} {vs:List Value} {i:Nat} {m:Str->Option Value},P.Nodup->P[i]?=some x->vs[i]?=some v->kindOf x≠some .local ->
 bindC kindOf (P.zip vs) m x=some v
 | [],_,_,_,_,h,_,_=>by simp at h
 |_::_,[],_,_,_,_,h,_=>by simp at h
 |p::P,w::vs,0,m,nd,h1,h2,hk=>by
  simp at h1 h2;subst h1;subst h2
  show bindC kindOf ((p,w)::P.zip vs) m p=_;unfold bindC;rw[BF λv hv=>(Py.mp nd).1 (List.of_mem_zip hv).1,if_neg hk];simp
 |p::P,w::vs,i+1,m,nd,h1,h2,hk=>by show bindC kindOf ((p,w)::P.zip vs) m x=_;unfold bindC;exact BG (i:=i) (Py.mp nd).2 (by simpa using h1) (by simpa using h2) hk
def start(N:List Str)(vs:List V):St:=vs.map some++List.replicate (N.length-vs.length) none
noncomputable def jr(CX:CXT)(P:Program)(w:World)(K:PySem.W.Frag)(mg:Str->Option Value)(base:Heap)(N:List Str)(qual:Str)(scope:Scope)(f:Addr)(cd:Value)(A:Around)(outer:List Env)(s:Shared)(H:Hp)(E:XK):Cx where
 prog:=P
 w:=w
 K:=K
 mg:=mg
 base:=base
 A:=A.deeper (envOfC qual scope s.heap.objs.size f cd)
 N:=N
 s₀:=s
 H₀:=H
 env:=envOfC qual scope s.heap.objs.size f cd
 outer:=outer
 stack:=envOfC qual scope s.heap.objs.size f cd::outer
 ex:=[]
 calm:=true
 fn:=λ_=>true
 pn:=[]
 xe:=λe s'=>wpAny (model P w) (A.deeper (envOfC qual scope s.heap.objs.size f cd)) (leaving (envOfC qual scope s.heap.objs.size f cd) e) (λ_ s''=>CX outer H s E e s'') (λe' s''=>CX outer H s E e' s'') s'
def By{sc:Scope}{n:Nat}{x:Str}(h:sc.names.lookup x=some .cell):∃c,(cellsFrom n sc.names []).lookup x=some c:=by have q:=PySem.W.cellsFrom_some sc.names n [] (.inl h);exact Option.isSome_iff_exists.mp q
theorem IA{CX:CXT}{P:Program}{w:World}{K:PySem.W.Frag}{mg:Str->Option Value}{base:Heap}{N ps:List Str}{qual:Str}{scope:Scope}{f:Addr}{cd:Value}{A:Around}{outer:List Env}{s s1:Shared}{H:Hp}{E:XK}{us:List Value}{vs:List V}
 (S:FnScope N ps scope) (hd:A.handled=none) (e0:Env0 P w K mg base A outer s H) (hl:vs.length=ps.length) (r:Vals vs us)
 (x:InCallC s s.heap.objs.size (bindL (envOfC qual scope s.heap.objs.size f cd).kindOf (ps.zip us) λ_=>none) (cellsFrom (s.heap.objs.size+1) scope.names []) (bindC (envOfC qual scope s.heap.objs.size f cd).kindOf (ps.zip us) λ_=>none) s1) :
 Inv (jr CX P w K mg base N qual scope f cd A outer s H E) [] (start N vs) H s1:=by
 have hpl:ps.length<=N.length:=by have:=congrArg List.length S.pre;rw[Oe]at this;omega
 obtain⟨h1,tk,rfl,hk⟩:=x.done;have noA:∀b:Addr,b∉(jr CX P w K mg base N qual scope f cd A outer s H E).ex:=λb z=>absurd (show b∈([]:List Addr)from z) (by simp)
 refine⟨⟨e0.mod,S.kind,rfl,rfl,Nv _,λy z c h1 h2=>?_,λy hy=>?_,λy c _ h=>?_,λ_=>hd,Around.frames_deeper e0.frames,.inr ⟨rfl,rfl⟩,λb z=>absurd z (noA b),e0.bs,e0.bsz,λb _ _=>noA b,λb z=>absurd z (noA b),e0.funs,e0.frf⟩,
  rfl,e0.bare,Un.kept hk,⟨_,x.toInCall.ns,λi y v h1 h2 h3=>?_⟩,λy c h=>⟨_,x.cell y c h⟩,e0.hok.fresh (Nv _),λy c h=>?_,λp hp=>absurd (show p∈([]:List (Addr×Obj))from hp) (by simp),e0.hok.kept hk,?_⟩
 ·exact name_of_addr x.apart (PySem.mem_of_lookup h1) (PySem.mem_of_lookup h2)
 ·have hy:scope.names.lookup y=some .cell\/scope.names.lookup y=some .free:=hy;rcases hy with hy |hy
  ·exact By hy
  ·exact absurd rfl (S.nofree _ (PySem.mem_of_lookup hy))
 ·exact Pw (x.above y c (PySem.mem_of_lookup h))
 ·have hi:i<vs.length:=by
   unfold start at h2
   by_cases hi:i<vs.length
   ·exact hi
   ·rw[List.getElem?_append_right (by simpa using hi)]at h2;rw[List.getElem?_replicate]at h2;split at h2<;>cases h2
  have ha:vs[i]?=some v:=by
   unfold start at h2
   rw[List.getElem?_append_left (by simpa using hi),List.getElem?_map]at h2;cases e:vs[i]? with
   |none=>rw[e]at h2;cases h2
   |some a=>rw[e]at h2;cases h2;rfl
  obtain⟨u,hu,rv⟩:=r.get ha
  have hp:ps[i]?=some y:=by rw[<- S.pre,List.getElem?_take_of_lt (by omega)];exact h1
  have ndP:ps.Nodup:=by rw[<- S.pre];exact S.nd.sublist (List.take_sublist _ _)
  refine⟨u,rv,?_⟩;rcases S.par y (List.mem_of_getElem? hp)with k |k
  ·exact .inl ⟨k,BE ndP hp hu k⟩
  ·obtain⟨c,e⟩:=By (n:=s.heap.objs.size+1) k;refine .inr ⟨.inl k,c,e,?_⟩;have q:=x.cell y c e;rw[BG ndP hp hu (by show scope.names.lookup y≠_;rw[k];decide)]at q;exact q
 ·exact e0.hok.fresh (Pw (x.above y c (PySem.mem_of_lookup h)))
 ·unfold start;show _=N.length;rw[Nq,No,List.length_replicate];omega
theorem AD{CX:CXT}{P:Program}{w:World}{K:PySem.W.Frag}{mg:Str->Option Value}{base:Heap}{k:Nat}{f:Addr}{name qual:Str}{params:Arguments}{body:List Stmt}{scope:Scope}{dV kV doc pm cdv ct oc:Value}{an od:Option Addr}
 {osl:Array (Option Value)} {N ps:List Str} {sp:Sp} (lk:K.lookup f=some ⟨oc,od,.func (PySem.W.fnOf name qual params body scope dV kV doc pm an cdv ct),osl⟩) (hcd:PySem.W.codeIn K cdv qual=true) (S:FnScope N ps scope)
 (len:∀vs H Q E,sp vs H Q E->vs.length=ps.length)
 (hbody:∀(A:Around) (outer:List Env) (s:Shared) (H:Hp) (vs:List V) (Q:VK) (E:XK),Room k (A.deeper (envOfC qual scope s.heap.objs.size f cdv))->sp vs H Q E ->
   ∃t,PSs (jr CX P w K mg base N qual scope f cdv A outer s H E) body t/\t { nx:=λ_ H'=>Q .non H',rt:=Q } (start N vs) H) :
 FnOk P w K mg base CX (k+1) f (PySem.W.fnOf name qual params body scope dV kV doc pm an cdv ct) ps sp:=by
 refine⟨len,λA outer s H args us vs Q E hr e0 hb r hsp=>?_⟩;have hl:=len _ _ _ _ hsp;have KX:K.In s.heap:=e0.mod.kin.keeps λb o e=>(e0.bs b o e).1
 have lim:s.heap.NoLimit:=e0.mod.nolimit.keeps λb o e=>(e0.bs b o e).1
 have hkind:∀y∈ps.zip us,scope.names.lookup y.1=some .local\/(scope.names.lookup y.1=some .cell/\((cellsFrom (s.heap.objs.size+1) scope.names []).lookup y.1).isSome=true):=λ⟨n,v⟩ hy=>by
  rcases S.par n (List.of_mem_zip hy).1 with q |q
  ·exact .inl q
  ·exact .inr ⟨q,PySem.W.cellsFrom_some _ _ _ (.inl q)⟩
 refine codeAny_call_function hr.depth (KX _ _ lk) rfl S.co S.gen rfl (PySem.W.codeRec_of KX hcd) (hb _ _ _ _ ?_);refine wpAny_newFunctionEnv_cells S.kind hkind λenv he s1 x=>?_
 subst he;refine⟨lim.keeps x.toInCall.keep,codeAny_func ?_⟩;obtain⟨t,ht,hq⟩:=hbody A outer s H vs Q E (hr.deeper _) hsp;have I:Inv (jr CX P w K mg base N qual scope f cdv A outer s H E) [] (start N vs) H s1:=IA S hr.hd e0 hl r x;refine wpAny_mono (ht [] s1 (start N vs) H _ I hq) (λfl s' hs=>?_) λe s' hs=>hs
 have fin:∀{Q2:St} {H':Hp} {v:V} {u:Value},Inv (jr CX P w K mg base N qual scope f cdv A outer s H E) [] Q2 H' s'->RelV v u->Q v H'->CE outer P w H s Q u s' :=
  λ{Q2 H' v u} J rv q=>⟨v,H',J.os,J.bare,J.base,J.hok,rv,q⟩
 cases fl with
 |ret u =>obtain⟨v,Q2,H',J,rv,q⟩:=hs;exact fin J rv q
 |next =>obtain⟨Q2,H',J,q⟩:=hs;exact fin (v:=V.non) (u:=Value.none) J rfl q
 |brk =>obtain⟨_,_,_,q⟩:=hs;exact False.elim q
 |cont =>obtain⟨_,_,_,q⟩:=hs;exact False.elim q
section
variable {X:Cx}{x:Str}{p pos:Pos}{e:Expr}{es:List Expr}{t:TA}{id T:String}{r:List V->Hp->VK->Prop}
def tCB(r:List V->Hp->VK->Prop)(t:TA):TE:=λσ H Q=>t σ H λvs H1=>r vs H1 Q
def dS(hc:fD X (.builtin id) r)(hg:Gl X x)(hm:X.mg x=none)(hv:bootBuiltins x=some (.builtin id))(ha:PA X (e::es) t)(hn:x≠"__name__":=by decide)(hdb:(x == ("__debug__":Str))=false:=by decide)
 (he:starEach (e::es) X.env=(false,eval e X.env)::starEach es X.env:=by rfl) (hpl:(backTo pos (starEach es X.env)).any (·.1)=false:=by rfl):PE X (.Call (.Name x p) (e::es) [] pos) (tCB r t):=by
 intro pins s σ H Q I h;refine wpAny_Call_Name_kw (gg I hg hm hv ?_ hn hdb);exact PyProof.Rows.callWith_builtin1 (aI (ha pos pins s σ H _ I h) λus s1 ⟨vs,H1,I1,r1,q1⟩=>hc pins s1 σ H1 vs us Q I1 r1 q1) he hpl
def lD(hc:fD X (.type T) r)(hg:Gl X x)(hm:X.mg x=none)(hv:bootBuiltins x=some (.type T))(ha:PA X (e::es) t)(hn:x≠"__name__":=by decide)(hdb:(x == ("__debug__":Str))=false:=by decide)
 (he:starEach (e::es) X.env=(false,eval e X.env)::starEach es X.env:=by rfl) (hpl:(backTo pos (starEach es X.env)).any (·.1)=false:=by rfl):PE X (.Call (.Name x p) (e::es) [] pos) (tCB r t):=by
 intro pins s σ H Q I h;refine wpAny_Call_Name_kw (gg I hg hm hv ?_ hn hdb);exact PyProof.Rows.callWith_type1 (aI (ha pos pins s σ H _ I h) λus s1 ⟨vs,H1,I1,r1,q1⟩=>hc pins s1 σ H1 vs us Q I1 r1 q1) he hpl
end
end L2
namespace HT
open PySem PyProof.Rows
section
open PySem.SeqAt
open PySem.AutoSeq1 (wpAny_loadPart')
open PySem.MeetsSeq PySem.MeetsSeq2 PySem.MeetsSeq3
end
section
variable {prog:Program}{w:World}{A:Around}{E:Value->Shared->Prop}{s:Shared}
noncomputable def sIx(n d:Nat):Option Int->Nat
 |none=>d
 |some v=>if v<0 then(v+(n:Int)).toNat else min v.toNat n
def sIx_none(n d:Nat):sIx n d none=d:=rfl
def sIx_nat(n d k:Nat):sIx n d (some (k:Int))=min k n:=by show(if(k:Int)<0 then((k:Int)+(n:Int)).toNat else min (k:Int).toNat n)=min k n;rw[if_neg (by omega),Int.toNat_natCast]
end
end HT
namespace L2
open PySem PySem.Spec PyProof.Rows
abbrev TO:=St->Hp->(Option Int->Hp->Prop)->Prop
def PO(X:Cx)(e:Option Expr)(t:TO):Prop :=
 ∀(pins:List (Addr×Obj)) (s:Shared) (σ:St) (H:Hp) (Q:Option Int->Hp->Prop),Inv X pins σ H s->t σ H Q ->
  wpAny (model X.prog X.w) X.A (evalPart e X.env) (λu s'=>∃o H',Inv X pins σ H' s'/\IsPart u o/\Q o H') X.xe s
def CY:TO:=λ_ H Q=>Q none H
def CW(t:TE):TO:=λσ H Q=>t σ H λx H1=>∃i,x=.int i/\Q (some i) H1
def oG{ns:Ex}:∀{us:List Value},Vals (ns.map V.int) us->IntsAre us ns:=by
 induction ns with
 |nil=>intro us r;rw[List.map_nil]at r;cases r;exact .nil
 |cons n ns ih =>
  intro us r;rw[N0]at r;cases r with
  |cons r1 r2 =>obtain⟨t,e⟩:=r1;subst e;exact .cons n t (ih r2)
section
variable {X:Cx}{e:Expr}{te:TE}{lo hi:Option Expr}{tl th:TO}{pos p2:Pos}
def oe:PO X none CY:=by intro pins s σ H Q I h;rw[evalPart_none];exact wpAny_pure ⟨none,H,I,.none,h⟩
def oa(h:PE X e te):PO X (some e) (CW te):=by
 intro pins s σ H Q I hw;rw[evalPart_some];refine aI (h pins s σ H _ I hw) λu s1 ⟨x,H1,I1,r1,q1⟩=>?_
 obtain⟨i,rfl,q⟩:=q1;obtain⟨t,rfl⟩:=r1;exact⟨some i,H1,I1,.int i t,q⟩
def SlR(X:Cx)(r:V->Option Int->Option Int->Hp->VK->Prop):Prop :=
 ∀(pins:List (Addr×Obj)) (s:Shared) (σ:St) (H:Hp) (x:V) (v vl vu:Value) (lo hi:Option Int) (sl:Addr) (Q:VK),Inv X pins σ H s->RelV x v->s.heap.IsSliceOf sl vl vu .none->IsPart vl lo->IsPart vu hi->r x lo hi H Q ->
  ∃T id,typeLookup (.type T) "__getitem__"=pure (some (.builtin id))/\s.TypeIs v T/\wpAny (model X.prog X.w) X.A (getItem v (.ref sl)) (EP X pins σ Q) X.xe s
def tSl(r:V->Option Int->Option Int->Hp->VK->Prop)(te:TE)(tl th:TO):TE:=λσ H Q=>te σ H λx H1=>tl σ H1 λl H2=>th σ H2 λu H3=>r x l u H3 Q
def ol{r:V->Option Int->Option Int->Hp->VK->Prop}(hr:SlR X r)(he:PE X e te)(hl:PO X lo tl)(hu:PO X hi th):PE X (.Subscript e (.Slice lo hi none p2) pos) (tSl r te tl th):=by
 intro pins s σ H Q I h;refine Subscript_ (aI (he pins s σ H _ I h) ?_);rintro v s1 ⟨x,H1,I1,r1,q1⟩;refine wpAny_Slice (aI (hl pins s1 σ H1 _ I1 q1) λvl s2 ⟨l,H2,I2,pl,q2⟩=>aI (hu pins s2 σ H2 _ I2 q2) ?_);rintro vu s3 ⟨u,H3,I3,pu,q3⟩;rw[evalPart_none];refine wpAny_pure ?_;have I4:Inv X pins σ H3 { s3 with heap:=s3.heap.push { cls:=.type "slice",data:=.fields #[vl,vu,.none] } }:=I3.kept (t':=s3.toks) λb ob q=>Heap.get?_push_of_some _ q
 obtain⟨T,id,hT,ht,hg⟩:=hr pins { s3 with heap:=s3.heap.push { cls:=.type "slice",data:=.fields #[vl,vu,.none] } } σ H3 x v vl vu l u s3.heap.objs.size Q I4 r1 (Heap.IsSliceOf.new ..) pl pu q3;show wpAny (model X.prog X.w) X.A (subscriptTail e (.Slice lo hi none p2) v (.ref s3.heap.objs.size)) (EP X pins σ Q) X.xe { s3 with heap:=s3.heap.push { cls:=.type "slice",data:=.fields #[vl,vu,.none] } };exact tail_any (ops:=[.ref s3.heap.objs.size,v]) ht hT hg (by with_unfolding_all rfl)
def iO(xs:List V)(lo hi:Option Int):List V:=(xs.drop (HT.sIx xs.length 0 lo)).take (HT.sIx xs.length xs.length hi-HT.sIx xs.length 0 lo)
def J9(xs:List V)(lo hi:Option Int):(iO xs lo hi).length<=xs.length:=by unfold iO;rw[Oe,Ot];omega
end
def ixN(n:Nat)(i:Int):Option Nat:=if 0<=i then(if i<n then some i.toNat else none)else if -(n:Int)<=i then some (i+n).toNat else none
def atI{α:Type}(xs:List α)(i:Int):Option α:=(ixN xs.length i).bind λj=>xs[j]?
def Af{n:Nat}{i:Int}{j:Nat}(h:ixN n i=some j):seqIndex? i n=some j/\j<n /\ -(n:Int)<=i/\i<n:=by
 unfold ixN at h
 by_cases h0:0<=i
 ·rw[if_pos h0]at h;by_cases h1:i<n
  ·rw[if_pos h1]at h;have e:i.toNat=j:=Option.some.inj h;exact⟨by rw[seqIndex_of h0 h1,e],by omega,by omega,h1⟩
  ·rw[if_neg h1]at h;cases h
 ·rw[if_neg h0]at h;by_cases h1 : -(n:Int)<=i
  ·rw[if_pos h1]at h;have e:(i+n).toNat=j:=Option.some.inj h;exact⟨by rw[seqIndex_neg (by omega) h1,e],by omega,h1,by omega⟩
  ·rw[if_neg h1]at h;cases h
def BL{α:Type}{xs:List α}{i:Int}{v:α}(h:atI xs i=some v):∃j,seqIndex? i xs.length=some j/\xs[j]?=some v/\j<xs.length /\ -(xs.length:Int)<=i/\i<xs.length:=by
 unfold atI at h
 cases e:ixN xs.length i with
 |none=>rw[e]at h;cases h
 |some j =>rw[e]at h;obtain⟨h1,h2,h3,h4⟩:=Af e;exact⟨j,h1,h,h2,h3,h4⟩
def ie{α:Type}{xs:List α}{j:Nat}{v:α}(h:xs[j]?=some v):atI xs (j:Int)=some v:=by
 have hj:j<xs.length:=(List.getElem?_eq_some_iff.mp h).1
 have e:ixN xs.length (j:Int)=some j:=by unfold ixN;rw[if_pos (by omega),if_pos (by omega)];simp
 unfold atI;rw[e];exact h
def vk{α:Type}(xs:List α)(v:α):atI (xs++[v]) (-1)=some v:=by
 have hl:(xs++[v]).length=xs.length+1:=by simp
 have e:ixN (xs++[v]).length (-1)=some xs.length:=by
  unfold ixN;rw[hl,if_neg (by decide),if_pos (by omega)]
  congr 1
  omega
 unfold atI;rw[e];show(xs++[v])[xs.length]?=some v;simp
def vq(b:Expr):Prop:=∀o i,subscripted b false o i=operate [o,i] (getItem o i)
def IxR(X:Cx)(r:R2):Prop :=
 ∀(value slice:Expr) (pins:List (Addr×Obj)) (s:Shared) (σ:St) (H:Hp) (x y:V) (v u:Value) (Q:VK),Inv X pins σ H s->RelV x v->RelV y u->r x y H Q ->
  subscripted slice false v u=operate [v,u] (getItem v u)->wpAny (model X.prog X.w) X.A (subscriptTail value slice v u) (EP X pins σ Q) X.xe s
def MtR(X:Cx)(id:String)(r:V->List V->Hp->VK->Prop):Prop :=
 ∀(pins:List (Addr×Obj)) (s:Shared) (σ:St) (H:Hp) (x:V) (xs:List V) (v:Value) (us:List Value) (Q:VK),Inv X pins σ H s->RelV x v->Vals xs us->r x xs H Q ->
  wpAny (model X.prog X.w) X.A (call (.builtin id) (v::us)) (EP X pins σ Q) X.xe s
section
variable {X:Cx}{a b:Expr}{ta tb:TE}{pos:Pos}
def y6{r:R2}(hr:IxR X r)(ha:PE X a ta)(hb:PE X b tb)(hs:vq b):PE X (.Subscript a b pos) (tOp r ta tb):=by intro pins s σ H Q I h;exact Subscript_ (vh ha hb I h λv u s2 x y H2 I2 rx ry q=>hr a b pins s2 σ H2 x y v u Q I2 rx ry q (hs _ _))
def nX(K:PySem.W.Frag):R2:=λx y H Q=>∃p xs i v,x=.ref p/\y=.int i/\SqL K H p xs/\atI xs i=some v/\Q v H
def nV(K:PySem.W.Frag):R2:=λx y H Q=>∃p xs i v,x=.ref p/\y=.int i/\SqT K H p xs/\atI xs i=some v/\Q v H
def Iv:IxR X (nX X.K):=by
 intro value slice pins s σ H x y v u Q I rx ry h hs;obtain⟨p,xs,i,z,rfl,rfl,hq,he,q⟩:=h;cases rx;obtain⟨t,rfl⟩:=ry;obtain⟨its,r,pl,hz⟩:=I.list hq;obtain⟨j,h1,h2,h3,h4,h5⟩:=BL he;obtain⟨w,ew,rw'⟩:=r.get h2;have hl:=r.length;have hn:=lV;have fin:EP X pins σ Q w s:=⟨z,H,I,rw',q⟩;by_cases h0:0<=i
 ·have hj:i.toNat=j:=by rw[seqIndex_of h0 h5]at h1;exact Option.some.inj h1
  exact item_listR pl.isList h0 (by omega) (by rw[hj];simpa using ew) fin hs
 ·have hj:(i+(its.toArray.size:Int)).toNat=j:=by rw[seqIndex_neg (by omega) h4]at h1;rw[NX,<- hl];exact Option.some.inj h1
  exact subscriptTail_builtinR (x:=w) pl.isList.typeIs slot_list_getitem.lookup
   (wpAny_getItem_list_neg (Q:=λr s'=>r=w/\EP X pins σ Q r s') pl.isList (by omega) (by rw[NX]<;>omega) (by omega) (by rw[hj];simpa using ew) ⟨rfl,fin⟩) hs
def Is:IxR X (nV X.K):=by
 intro value slice pins s σ H x y v u Q I rx ry h hs;obtain⟨p,xs,i,z,rfl,rfl,hq,he,q⟩:=h;cases rx;obtain⟨t,rfl⟩:=ry;obtain⟨its,r,pl,hz⟩:=I.tuple hq;obtain⟨j,h1,h2,h3,h4,h5⟩:=BL he;obtain⟨w,ew,rw'⟩:=r.get h2;have hl:=r.length;have hn:=lV;have fin:EP X pins σ Q w s:=⟨z,H,I,rw',q⟩
 exact subscriptTail_builtinR (x:=w) pl.typeIs slot_tuple_getitem.lookup
  (getItem_tuple (j:=j) (Q:=λr s'=>r=w/\EP X pins σ Q r s') pl (by omega) (by omega) (by rw[NX,<- hl];exact h1) (by simpa using ew) ⟨rfl,fin⟩) hs
def HS(its:List Value)(n j:Nat)(u:Value):Obj.mapSeq (·.setIfInBounds j u) { cls:=.type "list",data:=.seq its.toArray n }={ cls:=.type "list",data:=.seq (its.set j u).toArray n }:=by simp[Obj.mapSeq]
def Inv.lst{pins:List (Addr×Obj)}{σ:St}{H:Hp}{s:Shared}{p:Addr}{xs:List V}(I:Inv X pins σ H s)(h:H p=some (.lst xs)) :
 ∃(its:List Value) (n:Nat),Vals xs its/\s.heap.get? p=some { cls:=.type "list",data:=.seq its.toArray n }/\xs.length<=sizeLine:=by
 obtain⟨z,its,n,r,e⟩:=I.hok p _ h;exact⟨its,n,r,e,z⟩
def Inv.lstUpd{pins:List (Addr×Obj)}{σ:St}{H:Hp}{s:Shared}{p:Addr}{xs ys:List V}{its its':List Value}{n n':Nat}{f:Obj->Obj}(I:Inv X pins σ H s)(h:H p=some (.lst xs))
 (ho:s.heap.get? p=some { cls:=.type "list",data:=.seq its.toArray n }) (hf:f { cls:=.type "list",data:=.seq its.toArray n }={ cls:=.type "list",data:=.seq its'.toArray n' }) (r:Vals ys its') (hz:ys.length<=sizeLine) (t:Nat) :
 Inv X pins σ (upd H p (.lst ys)) { s with heap:=s.heap.update p f,toks:=t }:=by
 have e:(s.heap.update p f).get? p=some { cls:=.type "list",data:=.seq its'.toArray n' }:=by rw[Heap.get?_update_self f ho (by rw[hf]<;>rfl),hf]
 refine I.write (x:=p) (e:=p) (by rw[h];trivial) (.inl rfl) (λb u hb q=>(Heap.get?_update_other _ _ (Ne.symm hb)).trans q) ⟨_,e⟩ ?_;exact⟨hz,its',n',r,e⟩
def E1:V->V->V->Hp->(Hp->Prop)->Prop:=λo i v H Q=>∃p xs k j,o=.ref p/\i=.int k/\H p=some (.lst xs)/\ixN xs.length k=some j/\Q (upd H p (.lst (xs.set j v)))
def jQ:BR X E1:=by
 intro pins s σ H o i v ov iv u Q I ro ri rv h;obtain⟨p,xs,k,j,rfl,rfl,hp,hj,q⟩:=h;cases ro;obtain⟨t,rfl⟩:=ri;obtain⟨its,n,r,ho,hz⟩:=I.lst hp;obtain⟨h1,h2,h3,h4⟩:=Af hj;have hl:=r.length;have hn:=lV
 have I':Inv X pins σ (upd H p (.lst (xs.set j v))) { s with heap:=s.heap.update p (Obj.mapSeq (·.setIfInBounds j u)) } :=
  I.lstUpd hp ho (HS its n j u) (r.set rv j) (by rw[O5];exact hz) s.toks
 by_cases h0:0<=k
 ·have hk:k.toNat=j:=by rw[seqIndex_of h0 h4]at h1;exact Option.some.inj h1
  exact PySem.W.ki_setAt ho h0 (by omega) (by rw[NX,<- hl];exact h4) (by rw[hk];exact⟨_,I',q⟩)
 ·have hk:(k+(its.toArray.size:Int)).toNat=j:=by rw[seqIndex_neg (by omega) h3]at h1;rw[NX,<- hl];exact Option.some.inj h1
  exact PySem.W.ki_setBack ho (by omega) (by rw[NX,<- hl];exact h3) (by omega) (by rw[hk];exact⟨_,I',q⟩)
def Dr(lo hi:Option Int)(n:Nat):(sliceBounds lo hi none n).1=((HT.sIx n 0 lo:Nat):Int)/\(sliceBounds lo hi none n).2.1=((HT.sIx n n hi:Nat):Int)/\(sliceBounds lo hi none n).2.2=1:=by
 refine⟨?_,?_,rfl⟩
 ·cases lo with
  |none=>simp[sliceBounds,HT.sIx]
  |some i =>
   simp only[sliceBounds,HT.sIx,Option.getD_none,show(1:Int)>0 by decide,if_true];by_cases h:i<0
   ·simp only[h,if_true]<;>omega
   ·simp only[h,if_false]<;>omega
 ·cases hi with
  |none=>simp[sliceBounds,HT.sIx]
  |some i =>
   simp only[sliceBounds,HT.sIx,Option.getD_none,show(1:Int)>0 by decide,if_true];by_cases h:i<0
   ·simp only[h,if_true]<;>omega
   ·simp only[h,if_false]<;>omega
def Ds(its:List Value)(lo hi:Option Int):slicePick its.toArray lo hi none=((its.drop (HT.sIx its.length 0 lo)).take (HT.sIx its.length its.length hi-HT.sIx its.length 0 lo)).toArray:=by obtain⟨h1,h2,h3⟩:=Dr lo hi its.toArray.size;unfold slicePick;rw[h1,h2,h3];simp only[sliceRange_one,pick_run,NX]<;>rfl
def tj(K:PySem.W.Frag):V->Option Int->Option Int->Hp->VK->Prop:=λx lo hi H Q=>∃a xs,x=.ref a/\SqL K H a xs/\∀p,H p=none->Q (.ref p) (upd H p (.lst (iO xs lo hi)))
def Dt:SlR X (tj X.K):=by intro pins s σ H x v vl vu lo hi sl Q I rx hs pl pu h;obtain⟨a,xs,rfl,hx,q⟩:=h;cases rx;obtain⟨its,r,ht,hz⟩:=I.list hx;have hlen:=r.length;refine⟨"list",_,slot_list_getitem.lookup,ht.isList.typeIs,?_⟩;refine wpAny_getItem_list_slice ht.isList hs pl pu .none (by simp) ?_ (by rw[NX]<;>omega);rw[Ds,<- hlen];refine⟨.ref s.heap.objs.size,_,I.laid (t':=s.toks) (o:=.lst (iO xs lo hi)) (λb ob q=>Heap.get?_push_of_some _ q) (Nv _) ?_,rfl,q _ (I.hok.fresh (Nv _))⟩;exact⟨NP (J9 xs lo hi) hz,_,0,(r.drop (HT.sIx xs.length 0 lo)).take (HT.sIx xs.length xs.length hi-HT.sIx xs.length 0 lo),Heap.get?_push_size _ rfl⟩
def Kn:fD X (.builtin "len") (λxs H Q=>∃p ys,xs=[.ref p]/\(SqL X.K H p ys\/SqT X.K H p ys)/\Q (.int ys.length) H):=by
 intro pins s σ H xs us Q I r h;obtain⟨p,ys,rfl,hq,q⟩:=h;obtain⟨u,rfl,rx⟩:=iu r;cases rx;have hn:=lV;rcases hq with hq |hq
 ·obtain⟨its,r',pl,hz⟩:=I.list hq;have hlen:=r'.length;exact Calls.call_len_list pl.isList (by simp only[NX]<;>omega) ⟨.int ys.length,H,I.tok _,⟨s.toks+1,by rw[NX,hlen]⟩,q⟩
 ·obtain⟨its,r',pl,hz⟩:=I.tuple hq;have hlen:=r'.length;exact len_tuple pl (by simp only[NX]<;>omega) ⟨.int ys.length,H,I.tok _,⟨s.toks+1,by rw[NX,hlen]⟩,q⟩
def Km:fD X (.type "list") (λxs H Q=>∃p ys,xs=[.ref p]/\(SqL X.K H p ys\/SqT X.K H p ys)/\∀l,H l=none->Q (.ref l) (upd H l (.lst ys))):=by
 intro pins s σ H xs us Q I r h;obtain⟨p,ys,rfl,hq,q⟩:=h;obtain⟨u,rfl,rx⟩:=iu r;cases rx
 have fin:∀(its:List Value),Vals ys its->ys.length<=sizeLine->∀(h':Heap) (c':Nat),(∀b o',s.heap.get? b=some o'->h'.get? b=some o') ->
  h'.get? s.heap.objs.size=some { cls:=.type "list",dict:=none,data:=.seq its.toArray c',slots:=#[] }->EP X pins σ Q (.ref s.heap.objs.size) { s with heap:=h' }:=λits r' hz h' c' kp e =>
  ⟨.ref s.heap.objs.size,_,I.laid (t':=s.toks) kp (Nv _) (show ObjOk X.prog X.w _ h' _ (.lst ys)from⟨hz,its,c',r',e⟩),rfl,q _ (I.hok.fresh (Nv _))⟩
 rcases hq with hq |hq
 ·obtain⟨its,r',pl,hz⟩:=I.list hq;have hlen:=r'.length;obtain⟨o,ho,hc,n,hd⟩:=pl.isList;exact call_list_seq p (.inl rfl) ho hc hd (λh' c' kp e=>fin its r' hz h' c' kp e) (by simp only[NX]<;>omega)
 ·obtain⟨its,r',pl,hz⟩:=I.tuple hq;have hlen:=r'.length;obtain⟨o,ho,hc,n,hd⟩:=pl;exact call_list_seq p (.inr rfl) ho hc hd (λh' c' kp e=>fin its r' hz h' c' kp e) (by simp only[NX]<;>omega)
def tyV(K:PySem.W.Frag)(T:String)(x:V)(H:Hp):Prop:=match x with
 |.str _=>T="str"
 |.int _=>T="int"
 |.ref p=>(T="list"/\∃xs,SqL K H p xs)\/(T="tuple"/\∃o,K.lookup p=some o/\o.cls=.type "tuple"/\o.dict=none) \/
  (T="dict"/\((∃kvs,H p=some (.dK kvs))\/∃kvs,H p=some (.dT kvs)))\/(T="set"/\∃S n,H p=some (.set S n))
 |_=>False
theorem v9{pins:List (Addr×Obj)}{σ:St}{H:Hp}{s:Shared}{T:String}{x:V}{v:Value}(I:Inv X pins σ H s)(r:RelV x v)(ty:tyV X.K T x H) :
 s.TypeIs v T/\∀a,v=.ref a->∃ob,s.heap.get? a=some ob/\ob.dict=none:=by
 cases x with
 |str z =>obtain⟨t,rfl⟩:=r;cases(show T="str" from ty);exact⟨typeIs_str s z t,λ_ e=>nomatch e⟩
 |int i =>obtain⟨t,rfl⟩:=r;cases(show T="int" from ty);exact⟨typeIs_int s i t,λ_ e=>nomatch e⟩
 |ref p =>
  cases r;rcases ty with⟨rfl,xs,hq⟩ |⟨rfl,o,hk,hc,hd⟩ |⟨rfl,hk⟩ |⟨rfl,S,n,hk⟩
  ·obtain⟨its,_,pl,_⟩:=I.list hq;refine⟨pl.isList.typeIs,λa e=>?_⟩;cases e;obtain⟨o,n,e,c,hd,_⟩:=pl;exact⟨o,e,hd⟩
  ·refine⟨⟨o,I.kIn p o hk,hc⟩,λa e=>?_⟩;cases e;exact⟨o,I.kIn _ o hk,hd⟩
  ·have z:∃o,s.heap.get? p=some o/\o.ExactDict:=by
    rcases hk with⟨kvs,hk⟩ |⟨kvs,hk⟩
    ·obtain⟨_,_,_,_,o,_,_,e,ex,_⟩:=I.hok p _ hk;exact⟨o,e,ex⟩
    ·obtain⟨_,_,_,_,o,_,_,e,ex,_⟩:=I.hok p _ hk;exact⟨o,e,ex⟩
   obtain⟨o,e,ex⟩:=z;refine⟨⟨o,e,ex.1⟩,λa e2=>?_⟩;cases e2;exact⟨o,e,ex.2.1⟩
  ·obtain⟨o,_,_,_,e,ex,_⟩:=I.hok p _ hk;refine⟨⟨o,e,ex.1⟩,λa e2=>?_⟩;cases e2;exact⟨o,e,ex.2.1⟩
 |_=>exact False.elim ty
def De(K:PySem.W.Frag)(T:String)(r:V->List V->Hp->VK->Prop)(to:TE):TE:=λσ H Q=>to σ H λx H1=>tyV K T x H1/\r x [] H1 Q
def tBM(K:PySem.W.Frag)(T:String)(r:V->List V->Hp->VK->Prop)(to:TE)(t:TA):TE:=λσ H Q=>to σ H λx H1=>tyV K T x H1/\t σ H1 λxs H2=>r x xs H2 Q
variable {o e:Expr}{es:List Expr}{to:TE}{t:TA}{name:Str}{apos cpos:Pos}{T id:String}{r:V->List V->Hp->VK->Prop}
def y9(pa:PlainAttrs T)(slot:Slot T name id)(hty:typeOf (.builtin id)=pure (.type "method_descriptor"))(hm:MtR X id r)(ho:PE X o to)
 (hbase:attributeBase o name X.env (eval o X.env)=eval o X.env:=by rfl) (hline:(apos.endLine == cpos.line)=true:=by rfl):PE X (.Call (.Attribute o name apos) [] [] cpos) (De X.K T r to):=by
 intro pins s σ H Q I h;refine wpAny_Call_method0_late hbase hline (aI (ho pins s σ H _ I h) ?_);rintro v s1 ⟨x,H1,I1,r1,ty,q1⟩;obtain⟨h1,h2⟩:=v9 I1 r1 ty;exact⟨T,id,pa,slot,hty,h1,h2,Calls.callWith_builtin rfl (PySem.evalArgs_none (hm pins s1 σ H1 x [] v [] Q I1 r1 .nil q1))⟩
def FA(pa:PlainAttrs T)(slot:Slot T name id)(hty:typeOf (.builtin id)=pure (.type "method_descriptor"))(hm:MtR X id r)(ho:PE X o to)(ha:PA X (e::es) t)
 (hbase:attributeBase o name X.env (eval o X.env)=eval o X.env:=by rfl)
 (hfew:((backTo cpos (starEach (e::es) X.env)).all (λx=>!x.1)&&(backToKw cpos (keywordEach [] X.env)).all (λx=>x.1.isSome)
   && decide ((e::es).length+([]:List Keyword).length+(if([]:List Keyword).isEmpty then 0 else 1)<30))=true:=by rfl)
 (hline:(apos.endLine == cpos.line)=true:=by rfl) (hs:starEach (e::es) X.env=(false,eval e X.env)::starEach es X.env:=by rfl) (hplain:(backTo cpos (starEach es X.env)).any (·.1)=false:=by rfl) :
 PE X (.Call (.Attribute o name apos) (e::es) [] cpos) (tBM X.K T r to t):=by
 intro pins s σ H Q I h;refine wpAny_Call_method_late hbase hfew hline rfl (aI (ho pins s σ H _ I h) ?_);rintro v s1 ⟨x,H1,I1,r1,ty,q1⟩;obtain⟨h1,h2⟩:=v9 I1 r1 ty;refine⟨T,id,pa,slot,hty,h1,h2,?_⟩;have hA:=ha cpos pins s1 σ H1 _ I1 q1;rw[hs]at hA ⊢;refine Calls.callWith_builtin (by show(false || (backTo cpos (starEach es X.env)).any (·.1))=false;rw[hplain]<;>rfl) (Calls.evalArgs_plain ?_);exact aI hA λus s2 ⟨vs,H2,I2,r2,q2⟩=>hm pins s2 σ H2 x vs v us Q I2 r1 r2 q2
end
def MtM(X:Cx)(id:String)(r:V->List V->Hp->VK->Prop):Prop :=
 ∀(pins:List (Addr×Obj)) (s:Shared) (σ:St) (H:Hp) (x:V) (xs:List V) (v:Value) (us:List Value) (Q:VK),Inv X pins σ H s->RelV x v->Vals xs us->r x xs H Q ->
  wpAny (model X.prog X.w) X.A (call (.builtin id) (v::us)) (EP X pins σ Q) X.xe s
def Vals.one:∀{x:V} {us:List Value},Vals [x] us->∃u,us=[u]/\RelV x u:=@λ_ _ h=>by cases h with |cons r t=>cases t;exact⟨_,rfl,r⟩
def Vals.two:∀{x y:V} {us:List Value},Vals [x,y] us->∃u v,us=[u,v]/\RelV x u/\RelV y v:=@λ_ _ _ h=>by cases h with |cons r t=>obtain⟨v,rfl,q⟩:=Vals.one t;exact⟨_,v,rfl,r,q⟩
theorem Vals.zero:∀{us:List Value},Vals [] us->us=[]
 |_,.nil=>rfl
def Vals.dropLast{xs:List V}{us:List Value}(h:Vals xs us):Vals xs.dropLast us.dropLast:=by
 induction h with
 |nil=>exact .nil
 |cons r t ih =>
  cases t with
  |nil=>exact .nil
  |cons q t'=>exact .cons r ih
def Vals.reverse{xs:List V}{us:List Value}(h:Vals xs us):Vals xs.reverse us.reverse:=by
 induction h with
 |nil=>exact .nil
 |cons r t ih=>rw[O6,O6];exact Vals.append ih (.cons r .nil)
theorem Vals.rep{xs:List V}{us:List Value}(h:Vals xs us):∀k:Nat,Vals (List.replicate k xs).flatten (List.replicate k us).flatten
 |0=>.nil
 |k+1=>by rw[Pf,Pf,PU,PU];exact Vals.append h (Vals.rep h k)
def JX{α:Type}(l:List α):l.eraseIdx (l.length-1)=l.dropLast:=by
 induction l with
 |nil=>rfl
 |cons a r ih =>
  cases r with
  |nil=>rfl
  |cons b r =>
   have e:(a::b::r).length-1=((b::r).length-1)+1:=by have h1:(a::b::r).length=r.length+2:=rfl;have h2:(b::r).length=r.length+1:=rfl;omega
   rw[e,List.eraseIdx_cons_succ,ih]
   all_goals rfl
theorem AC(its:List Value):∀(k:Nat) (acc:List Value),
 List.foldl (λx1 x2=>x1++x2) acc.toArray (List.replicate k its.toArray)=(acc++(List.replicate k its).flatten).toArray
 |0,acc=>by simp
 |k+1,acc=>by
  have e:acc.toArray++its.toArray=(acc++its).toArray:=by simp
  have e2:(acc++its)++(List.replicate k its).flatten=acc++(List.replicate (k+1) its).flatten:=by rw[Pf,PU,NY]
  rw[<- e2,<- AC its k (acc++its),<- e,Pf,List.foldl_cons]
section
variable {X:Cx}{pins:List (Addr×Obj)}{σ:St}{H:Hp}{s:Shared}{l b:Addr}{xs ys zs:List V}
def Inv.lset{its its':List Value}{n:Nat}{f:Array Value->Array Value}{t':Nat}(I:Inv X pins σ H s)(hH:H l=some (.lst xs))
 (e:s.heap.get? l=some { cls:=.type "list",data:=.seq its.toArray n }) (hf:f its.toArray=its'.toArray) (hv:Vals ys its') (hz:ys.length<=sizeLine) :
 Inv X pins σ (upd H l (.lst ys)) { s with heap:=s.heap.update l (Obj.mapSeq f),toks:=t' }:=by
 have q:=PySem.IsL.update e f;rw[hf]at q;refine I.write (x:=l) (e:=l) (by rw[hH];exact trivial) (.inl rfl) (λb' u hb hu=>(Heap.get?_update_other s.heap (Obj.mapSeq f) (Ne.symm hb)).trans hu) ⟨_,q⟩ ?_;exact⟨hz,its',_,hv,q⟩
def Inv.lnew{its:List Value}{t':Nat}(I:Inv X pins σ H s)(hv:Vals ys its)(hz:ys.length<=sizeLine) :
 Inv X pins σ (upd H s.heap.objs.size (.lst ys)) { s with heap:=s.heap.push { cls:=.type "list",data:=.seq its.toArray },toks:=t' } :=
 I.laid (λ_ _ q=>Heap.get?_push_of_some _ q) (Nv _) ⟨hz,its,0,hv,Heap.get?_push_size _ rfl⟩
def Inv.fresh(I:Inv X pins σ H s):H s.heap.objs.size=none:=I.hok.fresh (Nv _)
def Inv.lstM(I:Inv X pins σ H s)(hH:H l=some (.lst xs)):xs.length<=sizeLine/\∃(its:List Value) (n:Nat),Vals xs its/\xs.length=its.length/\s.heap.get? l=some { cls:=.type "list",data:=.seq its.toArray n }:=by obtain⟨z,its,n,r,e⟩:=I.hok l _ hH;exact⟨z,its,n,r,r.length,e⟩
def Hk{n:Nat}(h:n<=sizeLine):Builtin.List.listTooLong n=false:=by unfold Builtin.List.listTooLong;exact decide_eq_false (by omega)
end
section
variable {X:Cx}
def yN:V->List V->Hp->VK->Prop:=λx vs H Q=>∃l xs y,x=.ref l/\vs=[y]/\H l=some (.lst xs)/\xs.length<sizeLine/\Q .non (upd H l (.lst (xs++[y])))
def HE:MtM X "list.append" yN:=by intro pins s σ H x vs v us Q I rx rv h;obtain⟨l,xs,y,rfl,rfl,hH,hz,q⟩:=h;cases rx;obtain⟨u,rfl,ru⟩:=rv.one;obtain⟨z,its,n,r,hl,e⟩:=I.lstM hH;refine call_meets F.slot_list_append ⟨_,e,rfl⟩ F.entry_list_append (F.args_list_append_2 _ _) (PySem.list_append l its.toArray n u (by rw[NX];omega)) ⟨e,?_⟩;refine⟨.non,_,I.lset (its':=its++[u]) hH e (by simp) (r.append (.cons ru .nil)) ?_,rfl,q⟩;rw[Nq,List.length_singleton];omega
def E4:V->List V->Hp->VK->Prop:=λx vs H Q=>∃l xs y,x=.ref l/\vs=[]/\H l=some (.lst xs)/\xs[xs.length-1]?=some y/\Q y (upd H l (.lst xs.dropLast))
def HD:MtM X "list.pop" E4:=by
 intro pins s σ H x vs v us Q I rx rv h;obtain⟨l,xs,y,rfl,rfl,hH,hy,q⟩:=h;cases rx;have hus:=rv.zero;subst hus;obtain⟨z,its,n,r,hl,e⟩:=I.lstM hH;obtain⟨u,hu,ru⟩:=r.get hy
 have hy':its.toArray[its.toArray.size-1]?=some u:=by show its.toArray[its.length-1]?=some u;rw[<- Array.getElem?_toList,<- hl];exact hu
 refine call_meets F.slot_list_pop ⟨_,e,rfl⟩ F.entry_list_pop (F.args_list_pop_1 _) (MeetsSeq.list_pop_last l its.toArray n u hy' (by rw[NX];omega)) ⟨e,?_⟩;refine⟨y,_,I.lset (its':=its.dropLast) hH e ?_ r.dropLast ?_,ru,q⟩
 ·show its.toArray.eraseIdxIfInBounds (its.toArray.size-1)=its.dropLast.toArray;rw[NX,List.eraseIdxIfInBounds_toArray,JX]
 ·rw[List.length_dropLast];omega
def E2:V->List V->Hp->VK->Prop:=λx vs H Q=>∃l xs,x=.ref l/\vs=[]/\H l=some (.lst xs)/\Q .non (upd H l (.lst xs.reverse))
def HC:MtM X "list.reverse" E2:=by intro pins s σ H x vs v us Q I rx rv h;obtain⟨l,xs,rfl,rfl,hH,q⟩:=h;cases rx;have hus:=rv.zero;subst hus;obtain⟨z,its,n,r,hl,e⟩:=I.lstM hH;refine call_meets F.slot_list_reverse ⟨_,e,rfl⟩ F.entry_list_reverse (F.args_list_reverse_1 _) (AutoSeq1.list_reverse_list_0 l its.toArray n (by rw[NX];omega)) ⟨e,?_⟩;refine⟨.non,_,I.lset (its':=its.reverse) hH e (by simp) r.reverse ?_,rfl,q⟩;rw[NS];omega
def E7:R2:=λx y H Q=>∃l b xs zs,x=.ref l/\y=.ref b/\H l=some (.lst xs)/\H b=some (.lst zs)/\xs.length+zs.length<=sizeLine/\∀p,H p=none->Q (.ref p) (upd H p (.lst (xs++zs)))
def FL:ci X (binaryOp .Add) E7:=by
 intro pins s σ H x y v u Q I rx ry h;obtain⟨l,b,xs,zs,rfl,rfl,hH,hB,hz,q⟩:=h;cases rx;cases ry;obtain⟨z,its,n,r,hl,e⟩:=I.lstM hH;obtain⟨z2,its2,n2,r2,hl2,e2⟩:=I.lstM hB;refine PySem.P.add_list e e2 ?_ (by rw[NX,NX];omega);have ea:its.toArray++its2.toArray=(its++its2).toArray:=by simp
 rw[ea];exact⟨.ref _,_,I.lnew (t':=s.toks) (r.append r2) (by rw[Nq];omega),rfl,q _ I.fresh⟩
def E3:R2:=λx y H Q=>∃l k xs,x=.ref l/\y=.int k/\H l=some (.lst xs) /\ -(2^63)<=k/\k<2^63/\xs.length*k.toNat<=sizeLine /\
 ∀p,H p=none->Q (.ref p) (upd H p (.lst (List.replicate k.toNat xs).flatten))
def Ii{α:Type}(xs:List α)(k:Nat):(List.replicate k xs).flatten.length=k*xs.length:=by
 induction k with
 |zero=>simp
 |succ k ih=>rw[Pf,PU,Nq,ih,Pz,OY]
def zb:ci X (binaryOp .Mult) E3:=by
 intro pins s σ H x y v u Q I rx ry h;obtain⟨l,k,xs,rfl,rfl,hH,h1,h2,hz,q⟩:=h;cases rx;obtain⟨t,rfl⟩:=ry;obtain⟨z,its,n,r,hl,e⟩:=I.lstM hH;have hlen:its.toArray.size*k.toNat<=sizeLine:=by rw[NX,<- hl];exact hz
 have hcap:¬its.toArray.size*k.toNat>(2^63-1)/8:=by
  have:(sizeLine:Nat)<=(2^63-1)/8:=by decide
  omega
 have hfit:¬(!Builtin.List.listFitsIndex k)=true:=by rw[fitsIndex_both h1 h2];exact Pd
 have hlong:¬Builtin.List.listTooLong (its.toArray.size*k.toNat)=true:=by rw[Hk hlen];exact Pd
 have hnew:List.foldl (λx1 x2=>x1++x2) #[] (List.replicate (if its.toArray.isEmpty=true then 0 else k.toNat) its.toArray)=(List.replicate k.toNat its).flatten.toArray:=by
  have f0:∀m:Nat,List.foldl (λx1 x2=>x1++x2) #[] (List.replicate m its.toArray)=(List.replicate m its).flatten.toArray:=λm=>by have:=AC its m [];rw[NN]at this;exact this
  rw[f0];cases its with
  |nil=>simp
  |cons a r'=>rw[if_neg (by simp)]
 refine wpAny_binaryOp_repeat_ref (T:="list") (U:="int") (by decide) ⟨_,e,rfl⟩ (λs'=>typeIs_int s' k t) noFill_list_mul F.fills_int_mul F.slot_int_rmul repeat_list F.slot_int_index.lookup
  (call_meets F.slot_int_rmul (typeIs_int s k t) F.entry_int_rmul (F.args_int_rmul_2 _ _) (int___rmul___int_list k t l its.toArray n)
    ⟨e,rfl,⟨_,e,rfl⟩,call_meets F.slot_list_mul ⟨_,e,rfl⟩ F.entry_list_mul (F.args_list_mul_2 _ _) (AutoListH.list___mul___list_int_3 l its.toArray n k t hfit hcap hlong) ⟨e,?_⟩⟩)
 rw[hnew];exact⟨.ref _,_,I.lnew (t':=s.toks) (r.rep k.toNat) (by rw[Ii,Nat.mul_comm];exact hz),rfl,q _ I.fresh⟩
end
section
variable {prog:Program}{w:World}{A:Around}{E:Value->Shared->Prop}{s:Shared}
end
section
variable {X:Cx}
end
end L2
namespace Att
open PySem PySem.W PySem.Calls PyProof.Rows
def ID{P:Params}{h:Heap}:∀(ns:Ex) (vs:List Value),WellAll P h vs (ns.map WData.int)->IntsAre vs ns:=by
 intro ns
 induction ns with
 |nil =>intro vs w;rw[List.map_nil]at w;cases w;exact .nil
 |cons n ns ih =>
  intro vs w;rw[N0]at w;cases w with
  |cons a b =>cases a;exact .cons _ _ (ih _ b)
theorem DP{l:OpenLaw}{n:Nat}(hn:l.most=some n){P:Params}{h:Heap}{args:List WData}{vals:List Value}
 (hpre:l.row.toRowW.claim.pre args=true) (hwl:WellAll P h vals args) :
 ∃a vs ns,vals=[Value.ref a]/\args=[WData.list (ns.map WData.int)]/\h.get? a=some { cls:=.type "list",data:=.seq vs.toArray }/\IntsAre vs ns/\ns.length<=n:=by
 have hsh:WShape.hasAll [] args [.list .int]=true:=(pre_splitW hpre).1;have hc:l.pre.holds [] { args:=args }=true:=(pre_splitW hpre).2;obtain⟨d,r,rfl,h1,h2⟩:=hasAllW_cons hsh;obtain rfl:=hasAllW_nil h2;obtain⟨xs,rfl,h3⟩:=hasW_list h1;obtain⟨ns,rfl⟩:=items_int h3
 have hlen:ns.length<=n:=by
  unfold OpenLaw.pre at hc
  have h4:(WTm.not (.lt (.lit (.int (n:Int))) (.len (.arg 0)))).holds [] { args:=[.list (ns.map .int)] }=true:=by have h4:=(holds_andW hc).1;rw[hn]at h4;exact h4
  have h5:=condW_of h4 (w_not (w_lt w_lit (w_len_list (w_arg rfl))));rw[No]at h5;refine ON λq=>?_
  have q':(n:Int)<((ns.length:Nat):Int):=by omega
  first
   | (rw[decide_eq_true q']at h5;exact absurd h5 (by decide))
   | (simp at h5;omega)
 cases hwl with
 |cons w1 w2 =>
  cases w2;cases w1 with
  |list ho hall=>exact⟨_,_,ns,rfl,rfl,ho,ID ns _ hall,hlen⟩
def Fh(l:OpenLaw)(args:List WData):l.row.toRowW.claim.post args (.bool true) args=true :=
 postW_of (r:=l.row.toRowW) (X:=(true == true))
  (show WShape.has [] (.bool true) .bool=true by first |rfl |decide |simp[WShape.has,WShape.arms,WShape.armsAll])
  (show(WTm.eq .res (.lit (.bool true))).value [] { args:=args,res:=some (.bool true),after:=args }=some (.bool (true == true))from w_eq_bool (w_res rfl) w_lit) rfl
def attach_call{l:OpenLaw}{n:Nat}{q:Program}{loose:List Str}{XP:(Str->Option Value)->Heap->Prop}{YP:World->Heap->Prop}{d:DefRec}
 (hn:l.most=some n) (hdf:d.params.defaults=[])
 (call:∀(w:World) (s₀ s₁:Shared) (mg mb:Str->Option Value) (fa:Addr) (o:Obj) (pm cd doc:Value) (a:Addr) (vs:List Value) (ns:Ex),
   Ground q loose [] XP w s₀ mg mb s₁.heap->YP w s₁.heap ->
   s₁.heap.get? fa=some o->o.data=.func (docDef d.name d.params d.body d.scope pm cd doc)->s₁.heap.CodeRec cd d.name->mg d.name=some (.ref fa) ->
   s₁.heap.get? a=some { cls:=.type "list",data:=.seq vs.toArray }->IntsAre vs ns->ns.length<=n->s₁.gens=#[] ->
   codeAny (model l.prog w) callerA (.call (.ref fa) ⟨[.ref a],[]⟩) (λr s'=>r=.ok (.ret (.bool true))/\OldK s₁.heap s'.heap/\s'.os=s₁.os/\AllBare s'.gens) s₁) :
 WalkO q loose XP YP l.row.toRowW d [] (λf vs=>PySem.call f vs):=by
 intro w s₀ s₁ mg mb G Y fa o pm cd doc dV kV ho hd hcd hD hmg hg args vals as hpre hlay hrd hwl hlo;obtain rfl:dV=.none:=Dflts.none hD hdf;obtain rfl:kV=.none:=Dflts.noKw hD;obtain⟨a,vs,ns,rfl,rfl,hobj,hints,hlen⟩:=DP hn hpre hwl;refine enter_call (codeAny_mono (call w s₀ s₁ mg mb fa o pm cd doc a vs ns G Y ho (fd_plain hd) hcd hmg hobj hints hlen hg) λr s' hq=>?_);obtain⟨rfl,h2,h3,h4⟩:=hq;exact⟨.inl ⟨.bool true,.bool true,[],rfl,λ_=>rfl,.bool true,Fh l _,λ_=>⟨List.Pairwise.nil,λ_ hm=>(nomatch hm)⟩⟩,h2,h3,h4⟩
section
variable {prog:Program}{w:World}{A:Around}{E:Value->Shared->Prop}{s:Shared}{K:Frag}
end
end Att
namespace L2
open PySem PySem.Spec PyProof.Rows
theorem v6:∀{vs:List Value} {ns:Ex},IntsAre vs ns->Vals (ns.map V.int) vs
 |_,_,.nil=>.nil
 |_,_,.cons n t h=>.cons ⟨t,rfl⟩ (v6 h)
def vt(H:Hp):Prop:=∀b,H b=none\/∃o xs,H b=some (.frz o (.lst xs))
noncomputable def hZ(s:Stmt)(j:Nat):Stmt:=match s with
 |.ClassDef _ _ _ body _ _ _ _ _ _ _=>body.getD j (.Pass ⟨0,0,0,0⟩)
 |_=>.Pass ⟨0,0,0,0⟩
noncomputable def fX(s:Stmt):Arguments:=match s with
 |.FunctionDef _ a _ _ _ _ _ _ _ _=>a
 |_=>{ posonlyargs:=[],args:=[],vararg:=none,kwonlyargs:=[],kw_defaults:=[],kwarg:=none,defaults:=[] }
noncomputable def eY(s:Stmt):List Stmt:=match s with
 |.FunctionDef _ _ b _ _ _ _ _ _ _=>b
 |_=>[]
noncomputable def aD(s:Stmt):Scope:=match s with
 |.FunctionDef _ _ _ _ _ _ sc _ _ _=>sc
 |_=>{ kind:=.function,names:=[],isGenerator:=false,isCoroutine:=false }
abbrev aG:CXT:=λ_ _ _ _ _ _=>False
abbrev E0:XK:=λ_ _ _=>False
def aR{X:Cx}:jz aG X E0:=λ_ _ _ _ _ _ _ h=>h.elim
structure Fun(K:PySem.W.Frag)(x qual:Str)(st:Stmt)(f:Addr)(fd:FuncData):Prop where
 ex:∃(oc:Value) (od:Option Addr) (kV doc pm:Value) (an:Option Addr) (cdv ct:Value) (osl:Array (Option Value)),
  fd=PySem.W.fnOf x qual (fX st) (eY st) (aD st) .none kV doc pm an cdv ct/\K.lookup f=some ⟨oc,od,.func fd,osl⟩/\PySem.W.codeIn K cdv qual=true
 kp:PySem.W.keepIn K (.ref f)=true
section
variable {P:Program}{w:World}{K:PySem.W.Frag}{mg:Str->Option Value}{base:Heap}
def Fun.ok{x qual:Str}{st:Stmt}{f:Addr}{fd:FuncData}{N ps:List Str}{k:Nat}{sp:Sp}(F:Fun K x qual st f fd)(S:FnScope N ps (aD st))(len:∀vs H Q E,sp vs H Q E->vs.length=ps.length)
 (hbody:∀(cdv:Value) (A:Around) (outer:List Env) (s:Shared) (H:Hp) (vs:List V) (Q:VK) (E:XK),Room k (A.deeper (envOfC qual (aD st) s.heap.objs.size f cdv))->sp vs H Q E ->
   ∃t,PSs (jr aG P w K mg base N qual (aD st) f cdv A outer s H E).nox (eY st) t/\t { nx:=λ_ H'=>Q .non H',rt:=Q } (start N vs) H):FnOk P w K mg base aG (k+1) f fd ps sp:=by
 obtain⟨oc,od,kV,doc,pm,an,cdv,ct,osl,rfl,lk,hcd⟩:=F.ex;refine AD lk hcd S len λA outer s H vs Q E hr hsp=>?_
 obtain⟨t,h,q⟩:=hbody cdv A outer s H vs Q E hr hsp;exact⟨t,h.nox,q⟩
def Fun.binds{x qual:Str}{st:Stmt}{f:Addr}{fd:FuncData}{ps:List Str}(F:Fun K x qual st f fd)
 (h:∀(kV doc pm:Value) (an:Option Addr) (cdv ct:Value) (us:List Value),us.length=ps.length->bindArgs (PySem.W.fnOf x qual (fX st) (eY st) (aD st) .none kV doc pm an cdv ct) ⟨us,[]⟩=pure (ps.zip us)):Binds K fd ps []:=by
 obtain⟨oc,od,kV,doc,pm,an,cdv,ct,osl,rfl,lk,hcd⟩:=F.ex;exact .all (h kV doc pm an cdv ct)
def AA{x qual:Str}{st:Stmt}{f:Addr}{oc:Value}{od an:Option Addr}{osl:Array (Option Value)}{kV doc pm cdv ct:Value}(l:K.lookup f=some ⟨oc,od,.func (PySem.W.fnOf x qual (fX st) (eY st) (aD st) .none kV doc pm an cdv ct),osl⟩)
 (c:PySem.W.codeIn K cdv qual=true) (k:PySem.W.keepIn K (.ref f)=true):Fun K x qual st f (PySem.W.fnOf x qual (fX st) (eY st) (aD st) .none kV doc pm an cdv ct):=⟨⟨oc,od,kV,doc,pm,an,cdv,ct,osl,rfl,l,c⟩,k⟩
end
section
variable {X:Cx}
def pv(i:Nat){x:Str}{pos:Pos}(hN:X.N[i]?=some x:=by rfl)(hv:Vis X.env.scope x:=by first |exact Or.inl rfl |exact Or.inr (Or.inl rfl) |exact Or.inr (Or.inr rfl))(hd:(x == ("__debug__":Str))=false:=by decide)
 (hcd:(x == ("__classdict__":Str))=false:=by decide):PE X (.Name x pos) (mN i):=Ft hN hv hd hcd
end
def Same(H H':Hp):Prop:=∀b o,H b=some o->H' b=some o
def Same.refl(H:Hp):Same H H:=λ_ _ h=>h
def Same.trans{H H1 H2:Hp}(a:Same H H1)(b:Same H1 H2):Same H H2:=λc o h=>b c o (a c o h)
def Same.free{H H':Hp}(e:Same H H'){l:Addr}(h:H' l=Option.none):H l=Option.none:=by
 cases q:H l with
 |none=>rfl
 |some o =>rw[e l o q]at h;cases h
def Same.seq{K:PySem.W.Frag}{H H':Hp}{a:Addr}{xs:List V}(e:Same H H')(h:SqL K H a xs):SqL K H' a xs:=by
 rcases h with(h |⟨o,h⟩) |h
 ·exact .inl (.inl (e _ _ h))
 ·exact .inl (.inr ⟨o,e _ _ h⟩)
 ·exact .inr h
end L2
set_option maxHeartbeats 4000000
namespace L2
open PySem PySem.Spec PyProof.Rows
noncomputable def dG(X:Cx)(N:List Str)(scope:Scope)(cl:List (Str×Addr))(C:Addr)(s₀:Shared)(H₀:Hp)(ex:List Addr):Cx where
 prog:=X.prog
 w:=X.w
 K:=X.K
 mg:=X.mg
 base:=X.base
 A:=X.A
 N:=N
 s₀:=s₀
 H₀:=H₀
 env:=compEnvC scope cl C X.env
 outer:=X.stack
 stack:=X.stack
 ex:=ex
 fn:=λ_=>false
 calm:=X.calm
 pn:=[]
 xe:=λ_ _=>False
structure CompOk(X:Cx)(fr:List Str)(js:List Nat)(scope:Scope)(cl:List (Str×Addr)):Prop where
 clos:closureFor scope X.env=pure cl
 cell:∀y∈scope.names,y.2≠.cell
 kind:scope.kind=.function
 names:∀y∈scope.names,y.2=.local->scope.names.lookup y.1=some .local
 clin:∀p∈cl,X.env.cells.lookup p.1=some p.2
 has:scope.names.all (λp=>p.2 != .free || (cl.lookup p.1).isSome)=true
 fre:Paired (λ(x:Str) (j:Nat)=>X.N[j]?=some x/\(X.env.scope.names.lookup x=some .cell\/X.env.scope.names.lookup x=some .free)/\scope.names.lookup x=some .free) fr js
theorem sY{env:Env}{x:Str}{k':NameKind}:∀{names:List (Str×NameKind)},
 (names.map λ(n,k)=>if(k == NameKind.free&&env.scope.kind == .function&&env.kindOf n == some .cell)then(n,NameKind.cell)else(n,k)).lookup x=some k' ->
 ∃k,names.lookup x=some k/\(k'=k\/(k=.free/\k'=.cell))
 | [],h=>by simp at h
 | (n,k)::r,h=>by
  have ih:=@sY env x k' r;change List.lookup x ((if(k == NameKind.free&&env.scope.kind == .function&&env.kindOf n == some .cell)=true then(n,NameKind.cell)else(n,k))::_)=_ at h
  by_cases hc:(k == NameKind.free&&env.scope.kind == .function&&env.kindOf n == some .cell)=true
  ·rw[if_pos hc]at h;cases hx:x == n with
   |true =>simp only[O7,hx]at h ⊢;cases h;refine⟨k,rfl,.inr ⟨?_,rfl⟩⟩;simp only[Bool.and_eq_true,beq_iff_eq]at hc;exact hc.1.1
   |false =>simp only[O7,hx]at h ⊢;exact ih h
  ·rw[if_neg hc]at h;cases hx:x == n with
   |true =>simp only[O7,hx]at h ⊢;cases h;exact⟨_,rfl,.inl rfl⟩
   |false =>simp only[O7,hx]at h ⊢;exact ih h
theorem yA{env:Env}{x:Str}:∀{names:List (Str×NameKind)},names.lookup x=some .free ->
 (names.map λ(n,k)=>if(k == NameKind.free&&env.scope.kind == .function&&env.kindOf n == some .cell)then(n,NameKind.cell)else(n,k)).lookup x=some .cell \/
 (names.map λ(n,k)=>if(k == NameKind.free&&env.scope.kind == .function&&env.kindOf n == some .cell)then(n,NameKind.cell)else(n,k)).lookup x=some .free
 | [],h=>by simp at h
 | (n,k)::r,h=>by
  have ih:=@yA env x r;show List.lookup x ((if(k == NameKind.free&&env.scope.kind == .function&&env.kindOf n == some .cell)=true then(n,NameKind.cell)else(n,k))::_)=_\/List.lookup x ((if(k == NameKind.free&&env.scope.kind == .function&&env.kindOf n == some .cell)=true then(n,NameKind.cell)else(n,k))::_)=_;by_cases hc:(k == NameKind.free&&env.scope.kind == .function&&env.kindOf n == some .cell)=true
  ·rw[if_pos hc];cases hx:x == n with
   |true=>simp only[O7,hx];exact .inl trivial
   |false=>simp only[O7,hx]at h ⊢;exact ih h
  ·rw[if_neg hc];cases hx:x == n with
   |true =>simp only[O7,hx]at h ⊢;cases h;exact .inr rfl
   |false=>simp only[O7,hx]at h ⊢;exact ih h
def fT(n:Nat)(js:List Nat)(σ:St):St:=List.replicate n none++js.map λj=>(σ[j]?).join
def mD(n:Nat)(js:List Nat)(g:TG)(te:TE)(σ:St)(Q:VK)(J:It)(H1:Hp):Prop:=∃W:Nat->Nat->List V->St->Hp->Prop,(∃m,W 0 m [] (fT n js σ) H1) /\
 ∀i m ys Q2 H',W i m ys Q2 H' ->
  (J.stop i H'/\∀p,H' p=none->Q (.ref p) (upd H' p (.lst ys))) \/
  (J.go i H'/\ys.length<sizeLine/\∃N:V->St->Hp->Prop,(∀y Q1 H'',N y Q1 H''->∃m',m'<m/\W (i+1) m' (ys++[y]) Q1 H'')/\∀x H2,J.yld i H' x H2->g x Q2 H2 λQ4 H3=>te Q4 H3 λy H4=>N y Q4 H4)
def wy(n:Nat)(js:List Nat)(wi:TI)(g:TG)(te:TE):TE:=λσ H Q=>wi σ H λJ H1=>mD n js g te σ Q J H1
def B9(X:Cx)(pins:List (Addr×Obj))(σ:St)(Q:VK)(D C:Addr)(s':Shared):Prop :=
 ∃H2,Inv X pins σ H2 s'/\Q (.ref D) H2/\H2 C=none/\C≠X.env.locals/\X.s₀.heap.objs.size<=C/\(∀x c,X.env.cells.lookup x=some c->c≠C)/\(∀p∈X.pn++pins,p.1≠C)/\∃m,s'.heap.Ns C m
section
variable {X:Cx}{own fr:List Str}{js:List Nat}{scope:Scope}{cl:List (Str×Addr)}{elt target iter:Expr}{pos:Pos}{wi:TI}{g:TG}{te:TE}
def gN(O:CompOk X fr js scope cl){x:Str}{c:Addr}(e:cl.lookup x=some c):X.env.cells.lookup x=some c:=O.clin (x,c) (PySem.mem_of_lookup e)
def uR{pins:List (Addr×Obj)}{σ:St}{H:Hp}{s:Shared}{fp:List Addr}{C:Addr}(O:CompOk X fr js scope cl)(I:Inv X pins σ H s)(hC:s.heap.objs.size<=C)(hf:∀b∈fp,f6 X pins H b)(ho:∀b∈fp,b<s.heap.objs.size) :
 (dG X (own++fr) scope cl C s H fp).Ok:=by
 refine⟨I.ok.mod,O.kind,I.ok.glob,I.ok.blt,hC,λx y c h1 h2=>I.ok.inj x y c (gN O h1) (gN O h2),λx hx=>?_,λx c h=>(by cases h),I.ok.hd,I.ok.frames,.inl rfl,λb hb=>?_,I.bs,?_,λb o e hb=>?_,λb hb hb'=>?_,I.stack,I.stkFree⟩
 ·have key:scope.names.lookup x=some .free:=by
   have hx':(scope.names.map λ(n,k)=>if(k == NameKind.free&&X.env.scope.kind == .function&&X.env.kindOf n == some .cell)then(n,NameKind.cell)else(n,k)).lookup x=some .cell \/
    (scope.names.map λ(n,k)=>if(k == NameKind.free&&X.env.scope.kind == .function&&X.env.kindOf n == some .cell)then(n,NameKind.cell)else(n,k)).lookup x=some .free:=hx
   rcases hx' with h |h
   ·obtain⟨k,e,z⟩:=sY h;rcases z with z |⟨z,_⟩
    ·subst z;exact absurd rfl (O.cell _ (PySem.mem_of_lookup e))
    ·subst z;exact e
   ·obtain⟨k,e,z⟩:=sY h;rcases z with z |⟨_,z⟩
    ·subst z;exact e
    ·cases z
  have hm:=List.all_eq_true.mp O.has _ (PySem.mem_of_lookup key);have hs:(cl.lookup x).isSome=true:=by simpa using hm
  exact Option.isSome_iff_exists.mp hs
 ·obtain⟨f0,f1,f2,f3,f4,f5⟩:=hf b hb;exact⟨NW (N8 (ho b hb) hC),λx c e=>f4 x c (gN O e)⟩
 ·exact NP I.ok.bsz I.sz
 ·obtain⟨f0,f1,f2,f3,f4,f5⟩:=hf b hb;rcases f3 with z |z
  ·exact I.ok.noex b o e z
  ·exact absurd (N8 (Heap.lt_size e) (NP I.ok.bsz z)) (Op _)
 ·obtain⟨f0,f1,f2,f3,f4,f5⟩:=hf b hb;rcases NR.mp (I.stkSub b hb')with z |z
  ·exact f1 z
  ·exact f2 z
theorem Paired.idx{α β:Type}{F:α->β->Prop}:∀{l₁:List α} {l₂:List β},Paired F l₁ l₂->∀(i:Nat) (a:α) (b:β),l₁[i]?=some a->l₂[i]?=some b->F a b
 |_,_,.nil,_,_,_,h,_=>by simp at h
 |_,_,.cons r _,0,a,b,h1,h2=>by simp at h1 h2;subst h1;subst h2;exact r
 |_,_,.cons _ t,i+1,a,b,h1,h2=>Paired.idx t i a b (by simpa using h1) (by simpa using h2)
theorem Bb{pins:List (Addr×Obj)}{σ:St}{H:Hp}{s s':Shared}{fp:List Addr}{C:Addr}{m:Str->Option Value}(O:CompOk X fr js scope cl)(hl:fr.length=js.length)(I:Inv X pins σ H s)(hC:s.heap.objs.size<=C)(hf:∀b∈fp,f6 X pins H b)
 (ho:∀b∈fp,b<s.heap.objs.size) (os:s'.os=s.os) (hg:s'.gens=s.gens) (old:∀b o,s.heap.get? b=some o->s'.heap.get? b=some o) (hn:s'.heap.Ns C m) :
 Inv (dG X (own++fr) scope cl C s H fp) [] (fT own.length js σ) H s':=by
 refine⟨uR O I hC hf ho,os,by rw[hg];exact I.bare,Un.kept old,⟨m,hn,λi x v e1 e2 e3=>?_⟩,λx c e=>?_,I.hok.fresh hC,λx c e=>I.freeC x c (gN O e),λp hp=>absurd (show p∈([]:List (Addr×Obj))from hp) (by simp),I.hok.kept old,?_⟩
 ·unfold fT at e2
  have e1':(own++fr)[i]?=some x:=e1;by_cases hi:i<own.length
  ·rw[List.getElem?_append_left (by simpa using hi),List.getElem?_replicate]at e2;split at e2<;>cases e2
  ·have hi':own.length<=i:=ON hi;rw[List.getElem?_append_right (by simpa using hi'),List.length_replicate,List.getElem?_map]at e2;rw[List.getElem?_append_right hi']at e1';cases ej:js[i-own.length]? with
   |none=>rw[ej]at e2;cases e2
   |some j =>
    rw[ej]at e2;have e2':(σ[j]?).join=some v:=Option.some.inj e2
    have eσ:σ[j]?=some (some v):=by
     cases q:σ[j]? with
     |none=>rw[q]at e2';cases e2'
     |some o=>rw[q]at e2';simp at e2';rw[e2']
    obtain⟨hN,hk,hs⟩:=Paired.idx O.fre _ x j e1' ej;obtain⟨mo,hmo,hlo⟩:=I.loc;have vis:Vis X.env.scope x:=hk.elim (λz=>.inr (.inl z)) λz=>.inr (.inr z)
    obtain⟨u,r,l⟩:=hlo j x v hN eσ vis;refine⟨u,r,.inr ⟨yA hs,?_⟩⟩;have hm:=List.all_eq_true.mp O.has _ (PySem.mem_of_lookup hs);have hs':(cl.lookup x).isSome=true:=by simpa using hm
    obtain⟨c,ec⟩:=Option.isSome_iff_exists.mp hs';refine⟨c,ec,?_⟩;rcases l with⟨k,_⟩ |⟨_,c',e',z⟩
    ·have k':X.env.scope.names.lookup x=some .local:=k;rcases hk with q |q<;>(rw[q]at k';cases k')
    ·have:=gN O ec;rw[e']at this;cases this;obtain⟨oc,hoc,hd⟩:=z;exact⟨oc,old _ _ hoc,hd⟩
 ·obtain⟨v,oc,hoc,hd⟩:=I.cell x c (gN O e);exact⟨v,oc,old _ _ hoc,hd⟩
 ·unfold fT;show _=(own++fr).length;rw[Nq,Nq,List.length_replicate,No,hl]
def Un.adopt{fs ex:List Addr}{H H1:Hp}{h h1:Heap}{a:Addr}{o:HO}(u:Un fs ex H H1 h h1)(ha:h.objs.size<=a)(hn:H a=none):Un fs ex H (upd H1 a o) h h1 where
 keep:=u.keep
 slot:=u.slot
 free:=λb ob q n hx=>by rw[upd_ne (NW (N8 (Heap.lt_size q) ha))];exact u.free b ob q n hx
 there:=u.there
 tups:=λb xs q=>by rw[upd_ne (bn q hn)];exact u.tups b xs q
 frzs:=λb ob xs q=>by rw[upd_ne (bn q hn)];exact u.frzs b ob xs q
 tbls:=λb ps q=>by rw[upd_ne (bn q hn)];exact u.tbls b ps q
def HOk.adopt{P:Program}{w:World}{H:Hp}{h:Heap}{a:Addr}{o:HO}(x:HOk P w H h)(hn:H a=none)(new:ObjOk P w (upd H a o) h a o):HOk P w (upd H a o) h:=λb u e=>by
 by_cases hb:b=a
 ·subst hb;rw[ax]at e;cases e;exact new
 ·rw[upd_ne hb]at e;exact(x b u e).stay (λc v _ q=>q) (λc q=>by rw[upd_ne (bn q hn)];exact q) λc xs q=>by rw[upd_ne (bn q hn)];exact q
def Bl{pins:List (Addr×Obj)}{σ:St}{H:Hp}{s:Shared}{fp:List Addr}{it:Addr}{tn:Nat->Heap->Prop}{J:It}{E:Value->Shared->Prop}{Q:VK}{RR:Value->Addr->Result->Shared->Prop}(O:CompOk X fr js scope cl)(hl:fr.length=js.length)(hcm:X.calm=true)
 (I:Inv X pins σ H s) (T:Turn X.prog X.w X.K target J fp it tn) (st:tn 0 s.heap) (hf:∀b∈fp,f6 X pins H b)
 (hg:∀C s₀ H₀ ex,PG (dG X (own++fr) scope cl C s₀ H₀ ex) target g) (he:∀C s₀ H₀ ex,PE (dG X (own++fr) scope cl C s₀ H₀ ex) elt te)
 (W:Nat->Nat->List V->St->Hp->Prop) {m0:Nat} (w0:W 0 m0 [] (fT own.length js σ) H)
 (turn:∀i m ys Q2 H',W i m ys Q2 H' ->
   (J.stop i H'/\∀p,H' p=none->Q (.ref p) (upd H' p (.lst ys))) \/
   (J.go i H'/\ys.length<sizeLine/\∃N:V->St->Hp->Prop,(∀y Q1 H'',N y Q1 H''->∃m',m'<m/\W (i+1) m' (ys++[y]) Q1 H'')/\∀x H2,J.yld i H' x H2->g x Q2 H2 λQ4 H3=>te Q4 H3 λy H4=>N y Q4 H4))
 (hRR:∀D C s',B9 X pins σ Q D C s'->RR (.ref D) C (.ok .next) s') :
 wpAny (model X.prog X.w) X.A (newList []) (λacc s₃=>wpAny (model X.prog X.w) X.A (newFunctionEnv scope X.env.globals cl [] X.env.qual none .none (some X.env)) (λcenv s₄ =>
  codeAny (model X.prog X.w) X.A (.compStart (.ListComp elt [⟨target,iter,[],0⟩] scope pos) 0 (.ref it) acc { cenv with scope:=relabel scope X.env }) (RR acc cenv.locals) s₄) E s₃) E s:=by
 refine wpAny_newObj_type (wpAny_newFunctionEnv O.cell (by intro y hy;simp at hy) (λh₁ hns₁ hsb₁=>?_) O.kind);dsimp only at hns₁ hsb₁ ⊢
 generalize hH2:s.heap.push { cls:=.type "list",dict:=none,data:=.seq ([]:List Value).toArray }=H2 at hns₁ hsb₁ ⊢
 have hCs:H2.objs.size=s.heap.objs.size+1:=by rw[<- hH2,Heap.size_push]
 have hDC:s.heap.objs.size≠H2.objs.size:=by rw[hCs];exact NW (OM _)
 have hCge:s.heap.objs.size<=H2.objs.size:=by rw[hCs];exact Nat.le_succ _
 have below:∀b,b<s.heap.objs.size->b≠H2.objs.size/\b≠s.heap.objs.size:=λb hb=>⟨by rw[hCs];exact NW (Nat.lt_succ_of_lt hb),NW hb⟩
 have old:∀b o,s.heap.get? b=some o->h₁.get? b=some o:=λb o e=>hsb₁.extBut b o (below b (Heap.lt_size e)).1 (Heap.get?_push_of_some _ (hH2 ▸ Heap.get?_push_of_some _ e))
 have hacc:h₁.get? s.heap.objs.size=some { cls:=.type "list",data:=.seq ([]:List Value).toArray 0 }:=hsb₁.extBut _ _ hDC (Heap.get?_push_of_some _ (hH2 ▸ Heap.get?_push_size _ rfl));have ho:∀b∈fp,b<s.heap.objs.size:=λb hb=>by obtain⟨o,e,_⟩:=T.obj 0 _ st b hb;exact Heap.lt_size e
 generalize hDe:s.heap.objs.size=D at *
 generalize hCe:H2.objs.size=C at *
 let X':Cx:=dG X (own++fr) scope cl C s H fp
 have ok':X'.Ok:=uR O I (by rw[hDe];exact hCge) hf (by rw[hDe];exact ho)
 have hDfs:D∉X'.fs:=by
  intro z;rcases NR.mp (I.stkSub D z)with q |q
  ·exact absurd I.lt (by rw[<- q,hDe];exact Op _)
  ·exact I.nofs (Ox hDe) q
 have hDfp:∀b∈fp,D≠b:=λb hb z=>absurd (ho b hb) (by rw[z];exact Op _)
 have hDcell:∀x c,cl.lookup x=some c->c≠D:=λx c e z=>by obtain⟨v,q⟩:=I.cell x c (gN O e);exact absurd q.lt (by rw[z,hDe];exact Op _)
 have fpok:∀{H':Hp} {pins':List (Addr×Obj)},(∀p∈pins',p.1=D)->(∀b∈fp,H' b=none)->∀b∈fp,f6 X' pins' H' b:=λ{H' pins'} hp hn b hb=>by
  obtain⟨f0,f1,f2,f3,f4,f5⟩:=hf b hb;refine⟨hn b hb,(below b (ho b hb)).1,λz=>?_,.inl hb,λx c e=>f4 x c (gN O e),λp hp'=>?_⟩
  ·rcases NR.mp (I.stkSub b z)with q |q
   ·exact f1 q
   ·exact f2 q
  ·have hp'':p∈pins':=by simpa[X',dG]using hp'
   rw[hp p hp''];exact hDfp b hb
 have loop:∀s₃:Shared,s₃={ s with heap:=h₁,toks:=s.toks+([]:List (Str×Value)).length } ->
  codeAny (model X.prog X.w) X.A (.compLoop (.ListComp elt [⟨target,iter,[],0⟩] scope pos) 0 (.ref it) (.ref D) (compEnvC scope cl C X.env)) (RR (.ref D) C) s₃:=by
  rintro s₃ rfl
  refine PySem.W.kcp_loop (λk s'=>∃i Q2 H' ys its nn,Inv X' [] Q2 H' s'/\tn i s'.heap/\(∀b∈fp,H' b=none)/\H' D=none/\s'.heap.get? D=some { cls:=.type "list",data:=.seq (its:List Value).toArray nn }/\Vals ys its/\ys.length<=sizeLine/\W i k ys Q2 H') ?_ m0
   ⟨0,_,H,[],[],0,Bb O hl I (by rw[hDe];exact hCge) hf (by rw[hDe];exact ho) rfl rfl (by intro b o e;exact old b o e) hns₁,T.keep _ _ _ st λb _ o e=>old b o e,λb hb=>(hf b hb).1,I.hok.fresh (Ox hDe),hacc,.nil,Nw _,w0⟩
  rintro k s' ⟨i,Q2,H',ys,its,nn,I',st',hfn,hDn,hDo,rv,hz,w⟩;have hlen:=rv.length;have hpD:∀p∈[(D,({ cls:=.type "list",data:=.seq its.toArray nn }:Obj))],p.1=D:=λp hp=>by rw[NU.mp hp]
  have Ip:Inv X' [(D,({ cls:=.type "list",data:=.seq its.toArray nn }:Obj))] Q2 H' s':=I'.pins_of λp hp=>by rw[NU.mp hp];exact⟨hDo,hDn,hDC,hDfs,λv z=>by cases z⟩
  rcases turn i k ys Q2 H' w with⟨stop,fin⟩ |⟨go,hlt,N,hN,step⟩
  ·refine wpAny_mono (T.done X' rfl rfl rfl hcm i _ s' Q2 H' (λ_ _=>False) Ip (fpok hpD hfn) st' stop) (λr s4 ⟨hr,I4⟩=>?_) λ_ _ z=>False.elim z
   subst hr;refine hRR D C s4 ?_;have hD4:s4.heap.get? D=some { cls:=.type "list",data:=.seq its.toArray nn }:=(I4.pin _ (N6 _ (NU.mpr rfl))).1;have un:Un (frs X.stack) fp H (upd H' D (.lst ys)) s.heap s4.heap:=Un.adopt I4.base (Ox hDe) (I.hok.fresh (Ox hDe));have hok:HOk X.prog X.w (upd H' D (.lst ys)) s4.heap:=HOk.adopt I4.hok hDn ⟨hz,its,nn,rv,hD4⟩;refine⟨upd H' D (.lst ys),I.call' I4.os un hok I4.bare λb hb=>?_,fin D hDn,?_,?_,?_,λx c e z=>?_,λp hp z=>?_,?_⟩
   ·obtain⟨f0,f1,f2,f3,f4,f5⟩:=hf b hb;exact⟨f3,f1,f4,f5⟩
   ·rw[upd_ne (Ne.symm hDC)];exact I4.free
   ·exact Px (N8 I.lt (by rw[hDe];exact hCge))
   ·exact NP I.sz (by rw[hDe];exact hCge)
   ·obtain⟨v,q⟩:=I.cell x c e;exact absurd (N8 q.lt (by rw[hDe,z];exact hCge)) (Op _)
   ·exact absurd (N8 (Heap.lt_size (I.pin p hp).1) (by rw[hDe,z];exact hCge)) (Op _)
   ·obtain⟨m',hn',_⟩:=I4.loc;exact⟨m',hn'⟩
  ·refine wpAny_mono (T.item X' rfl rfl rfl hcm i _ s' Q2 H' (λ_ _=>False) Ip (fpok hpD hfn) st' go) (λr s4 ⟨u,hr,h4⟩=>?_) λ_ _ z=>False.elim z
   subst hr;refine wpAny_mono h4 (?_) λ_ _ z=>False.elim z
   rintro _ s5 ⟨x,H5,I5,r5,y5,st5,fr5⟩;have I5':=I5.pinned (fpok hpD fr5) (T.obj _ _ st5);refine wpAny_mono (hg C s H fp _ s5 Q2 H5 x u _ I5' r5 (step x H5 y5)) (?_) λ_ _ z=>False.elim z
   rintro _ s6 ⟨Q5,H6,I6,q6⟩;refine wpAny_mono (he C s H fp _ s6 Q5 H6 _ I6 q6) (?_) λ_ _ z=>False.elim z
   rintro v s7 ⟨y,H7,I7,r7,n7⟩;obtain⟨m',hm',w7⟩:=hN y Q5 H7 n7;have hD7:=I7.pin (D,{ cls:=.type "list",data:=.seq its.toArray nn }) (N6 _ (OH _ (NU.mpr rfl)));refine append_at hD7.1 (λh8 sb hD8=>?_) (by rw[NX,<- hlen];exact hz);have I7':Inv X' [] Q5 H7 s7:=I7.pins_of λp hp=>absurd hp (by simp)
   have I8:Inv X' [] Q5 H7 { s7 with heap:=h8 }:=I7'.turned (t':=s7.toks) (it:=D) (λb o hb e=>(sb.2 b hb).trans e) hD7.2.1 hDC (.inr (Ox hDe)) hDcell (λp hp=>absurd (show p∈([]:List (Addr×Obj))from hp) (by simp));refine⟨m',hm',i+1,Q5,H7,ys++[y],its++[v],nn+1,I8,T.keep _ _ _ st5 λb hb o e=>?_,λb hb=>?_,hD7.2.1,?_,rv.append (.cons r7 .nil),?_,w7⟩
   ·exact(sb.2 b (λz=>hDfp b hb z.symm)).trans (I7.pin (b,o) (N6 _ (N6 _ (iJ hb e)))).1
   ·obtain⟨o,e,d⟩:=T.obj _ _ st5 b hb;exact(I7.pin (b,o) (N6 _ (N6 _ (iJ hb e)))).2.1
   ·rw[hD8,List.push_toArray]
   ·rw[Nq,List.length_singleton];exact hlt
 exact codeAny_compStart_list (loop _ rfl) (T.self _ 0 _ _ _ (T.keep _ _ _ st λb _ o e=>old b o e) (loop _ rfl))
def eT(O:CompOk X fr js scope cl)(hcm:X.calm=true)(hi:PI X target iter wi)(hg:∀C s₀ H₀ ex,PG (dG X (own++fr) scope cl C s₀ H₀ ex) target g)(he:∀C s₀ H₀ ex,PE (dG X (own++fr) scope cl C s₀ H₀ ex) elt te)
 (hs:∀x,foldedSetIterable iter X.env x=pure x:=by intro _;rfl):PE X (.ListComp elt [⟨target,iter,[],0⟩] scope pos) (wy own.length js wi g te):=by
 intro pins s σ H Q I h;rw[eval_ListComp];refine wpAny_comprehension_free (use:=none) rfl hs O.clos O.kind O.names (aI (hi pins s σ H _ I h) λx s1 h1=>aI h1 λitv s2 h2=>?_);obtain⟨it,fp,tn,J,H2,rfl,I2,T,st,hf,W,⟨m0,w0⟩,turn⟩:=h2;refine Bl (RR:=λacc C=>compPost (model X.prog X.w) X.A X.xe none (EP X pins σ Q) acc C) O (Paired.length O.fre) hcm I2 T st hf hg he W w0 turn ?_;rintro D C s' ⟨H3,I3,q,c1,c2,c3,c4,c5,m,hn⟩;exact⟨m,hn,λh' sb=>⟨.ref D,H3,I3.turned (t':=s'.toks) (it:=C) (λb o hb e=>(sb.2 b hb).trans e) c1 c2 (.inr c3) c4 c5,rfl,q⟩⟩
def Fc{i:Nat}{y:Str}{py spos:Pos}(hN:X.N.Nodup)(hy:X.N[i]?=some y)(hly:Loc X.env.scope y)(O:CompOk X fr js scope cl)(hcm:X.calm=true)(hi:PI X target iter wi)(hg:∀C s₀ H₀ ex,PG (dG X (own++fr) scope cl C s₀ H₀ ex) target g)
 (he:∀C s₀ H₀ ex,PE (dG X (own++fr) scope cl C s₀ H₀ ex) elt te) (hsw:swapsWith (.ListComp elt [⟨target,iter,[],0⟩] scope pos) (some (.Name y py)) spos.line X.env=pure true)
 (hf:X.fn y=true\/X.env.scope.names.lookup y=some .local:=by first |exact .inl rfl |exact .inr rfl |assumption) (hs:∀x,foldedSetIterable iter X.env x=pure x:=by intro _;rfl) :
 PS X (.Assign [.Name y py] (.ListComp elt [⟨target,iter,[],0⟩] scope pos) spos) (gz (wy own.length js wi g te) (fC i)):=by
 intro pins s σ H D I h;rw[exec_Assign_Name_used _ _ _ _ hsw];refine wpAny_bind (wpAny_standAt (wpAny_bind ?_));show wpAny _ X.A (do let _ <- comprehension (.ListComp elt [⟨target,iter,[],0⟩] scope pos) scope X.env _ (newList []) false (eval iter X.env) (some (assign (.Name y py) X.env))) _ _ s
 refine wpAny_bind (wpAny_mono (wpAny_comprehension_free (use:=some (assign (.Name y py) X.env)) (Q:=λ_ s'=>SP X pins D .next s') rfl hs O.clos O.kind O.names
  (aI (hi pins s σ H _ I h) λx s1 h1=>aI h1 λitv s2 h2=>?_)) (λ_ s' hq=>wpAny_pure (wpAny_pure hq)) λ_ _ e=>e)
 obtain⟨it,fp,tn,J,H2,rfl,I2,T,st,hfp,W,⟨m0,w0⟩,turn⟩:=h2;refine Bl (Q:=λx H1=>fC i x σ H1 D.nx) (RR:=λacc C=>compPost (model X.prog X.w) X.A X.xe (some (assign (.Name y py) X.env)) (λ_ s'=>SP X pins D .next s') acc C) O (Paired.length O.fre) hcm I2 T st hfp hg he W w0 turn ?_;rintro DD C s' ⟨H3,I3,q,c1,c2,c3,c4,c5,m,hn⟩;show wpAny _ _ (assign (.Name y py) X.env (.ref DD)) _ _ s';refine wpAny_assign_Name (qi I3 hN hy hly (v:=.ref DD) rfl (?_) hf);rintro s4 I4 ⟨a,sb,ha⟩
 have hCa:C≠a:=by
  rcases ha with rfl |ha
  ·exact c2
  ·exactλz=>c4 y a ha z.symm
 refine⟨m,hn.sameBut sb hCa,λh' sb'=>⟨_,H3,I4.turned (t':=s4.toks) (it:=C) (λb o hb e=>(sb'.2 b hb).trans e) c1 c2 (.inr c3) c4 c5,q⟩⟩
end
def jt{n:Nat}{js:List Nat}{K:PySem.W.Frag}{a:Addr}{xs:List V}{g:TG}{te:TE}{Q6:St}{H:Hp}{Q:VK}(Pv:Nat->List V->St->Hp->Prop)(hz:xs.length<=sizeLine)(h0:Pv 0 [] (fT n js Q6) H)(hl:∀i ys σ H,i<=xs.length->Pv i ys σ H->SqL K H a xs/\ys.length<=i)
 (hs:∀i x ys σ H,xs[i]?=some x->Pv i ys σ H->g x σ H λQ3 H2=>te Q3 H2 λy H3=>Pv (i+1) (ys++[y]) Q3 H3) (hd:∀ys σ H p,Pv xs.length ys σ H->H p=none->Q (.ref p) (upd H p (.lst ys))) :
 mD n js g te Q6 Q (Itl K a) H:=by
 refine⟨λi m ys σ H=>m=xs.length-i/\i<=xs.length/\Pv i ys σ H,⟨xs.length,by simp,Nw _,h0⟩,?_⟩;rintro i m ys σ H ⟨rfl,hi,p⟩;obtain⟨q,hy⟩:=hl i ys σ H hi p;by_cases hlt:i<xs.length
 ·refine .inr ⟨⟨xs,xs[i],q,by simp[hlt]⟩,by omega,λy Q1 H''=>Pv (i+1) (ys++[y]) Q1 H'',λy Q2 H' p'=>⟨xs.length-(i+1),by omega,rfl,hlt,p'⟩,λx H' y=>?_⟩;obtain⟨e,y⟩:=y;subst e;exact hs i x ys σ _ (y xs q) p
 ·have e:i=xs.length:=by omega
  subst e;exact .inl ⟨⟨xs,q,Nv _⟩,λr hr=>hd ys σ H r p hr⟩
def mj{k:Nat}{js:List Nat}{lo:Int}{n:Nat}{g:TG}{te:TE}{Q6:St}{H:Hp}{Q:VK}(Pv:Nat->List V->St->Hp->Prop)(hz:n<=sizeLine)(h0:Pv 0 [] (fT k js Q6) H)(hl:∀i ys σ H,i<=n->Pv i ys σ H->ys.length<=i)
 (hs:∀i ys σ H,i<n->Pv i ys σ H->g (.int (lo+i)) σ H λQ3 H2=>te Q3 H2 λy H3=>Pv (i+1) (ys++[y]) Q3 H3) (hd:∀ys σ H p,Pv n ys σ H->H p=none->Q (.ref p) (upd H p (.lst ys))) :
 mD k js g te Q6 Q (Itr lo n) H:=by
 refine⟨λi m ys σ H=>m=n-i/\i<=n/\Pv i ys σ H,⟨n,by simp,Nw _,h0⟩,?_⟩;rintro i m ys σ H ⟨rfl,hi,p⟩;have hy:=hl i ys σ H hi p;by_cases hlt:i<n
 ·refine .inr ⟨hlt,by omega,λy Q1 H''=>Pv (i+1) (ys++[y]) Q1 H'',λy Q2 H' p'=>⟨n-(i+1),by omega,rfl,hlt,p'⟩,λx H' y=>?_⟩;obtain⟨e,y⟩:=y;subst e y;exact hs i ys σ _ hlt p
 ·have e:i=n:=by omega
  subst e;exact .inl ⟨Nv _,λr hr=>hd ys σ H r p hr⟩
def Bits(k:Nat)(i:Int):Prop:=i.natAbs<2^k
def Bits.mono{j k:Nat}{i:Int}(h:Bits j i)(hk:j<=k:=by decide):Bits k i:=N8 h (Nat.pow_le_pow_right (by decide) hk)
def Bits.mul{j k:Nat}{a b:Int}(ha:Bits j a)(hb:Bits k b):Bits (j+k) (a*b):=by
 unfold Bits at *
 rw[N4,Nat.pow_add];exact Nat.mul_lt_mul_of_lt_of_lt ha hb
def Bits.add{k:Nat}{a b:Int}(ha:Bits k a)(hb:Bits k b):Bits (k+1) (a+b):=by
 unfold Bits at *
 have:=PB a b;rw[Ph];omega
def Bits.neg{k:Nat}{a:Int}(ha:Bits k a):Bits k (-a):=by unfold Bits at *;rwa [Int.natAbs_neg]
def Bits.sub{k:Nat}{a b:Int}(ha:Bits k a)(hb:Bits k b):Bits (k+1) (a-b):=by rw[Int.sub_eq_add_neg];exact ha.add hb.neg
def Bits.of_le{k:Nat}{a b:Int}(hb:Bits k b)(h:a.natAbs<=b.natAbs):Bits k a:=Ou h hb
def Bits.zero{k:Nat}:Bits k 0:=OT (by decide)
def Bits.log{k:Nat}{i:Int}(h:Bits k i)(hk:0<k):i.natAbs.log2<k:=by
 by_cases h0:i.natAbs=0
 ·rw[h0];simpa using hk
 ·exact(Nat.log2_lt h0).mpr h
def Bits.int{k:Nat}{i:Int}(h:Bits k i)(hk:k<=1000000):Builtin.Int.intBits i<=2^20:=by
 have e:(2:Nat)^20=1048576:=by decide
 unfold Builtin.Int.intBits;split
 ·exact Nw _
 ·rename_i hn
  have h0:i.natAbs≠0:=by intro z;have:i=0:=Int.natAbs_eq_zero.mp z;exact hn (by simp[this])
  have:=(Nat.log2_lt h0).mpr h;omega
section
variable {X:Cx}{a b:Expr}{ta tb:TE}{pos:Pos}
def LL(i j:Int):Prop:=Bits 1000000 i/\Bits 1000000 j
def aS:ci X (binaryOp .Mult) (rI LL λi j=>.int (i*j)):=opI λ_ _ _ _ _ _ _ hc q=>mul_int q (.of_bits (hc.1.int (Nv _)) (hc.2.int (Nv _)))
def gG:ci X (binaryOp .Mod) (rI (λ_ j=>0<j) λi j=>.int (i%j)):=FI
def LM(_ j:Int):Prop:=0<j/\Bits 9000 j
def jg:ci X (binaryOp .FloorDiv) (rI LM λi j=>.int (i/j)):=opI λi j _ _ _ _ _ hc q=>by refine floordiv_int (N9 hc.1) ?_ (.inl (PyProof.noPylong_of_log2 (hc.2.log (by decide))));rw[Int.fdiv_eq_ediv_of_nonneg _ (Oj hc.1)];exact q
def LN(_ j:Int):Prop:=j≠0/\Bits 9000 j
def zg:ci X (binaryOp .FloorDiv) (rI LN λi j=>.int (i.fdiv j)):=opI λ_ _ _ _ _ _ _ hc q=>floordiv_int hc.1 q (.inl (PyProof.noPylong_of_log2 (hc.2.log (by decide))))
def cI:ci X (compareOp .Eq) (rI0 λi j=>.bl (decide (i=j))):=kg λ_ _ _ _ _ _ _ q=>eq_int (by rw[Bool.beq_eq_decide_eq];exact q)
def kf:ci X (compareOp .NotEq) (rI0 λi j=>.bl (!decide (i=j))):=kg λ_ _ _ _ _ _ _ q=>ne_int (by rw[bne,Bool.beq_eq_decide_eq];exact q)
def yM(K:PySem.W.Frag):R2:=λx y H Q=>∃(a b:Addr) (ns ms:Ex),x=.ref a/\y=.ref b/\SqL K H a (ns.map V.int)/\SqL K H b (ms.map V.int)/\Q (.bl (decide (ns=ms))) H
def yJ(K:PySem.W.Frag):R2:=λx y H Q=>∃(a b:Addr) (ns ms:Ex),x=.ref a/\y=.ref b/\SqL K H a (ns.map V.int)/\SqL K H b (ms.map V.int)/\Q (.bl (!decide (ns=ms))) H
def FK(hu:X.A.units+64<cLine):ci X (compareOp .Eq) (yM X.K):=by intro pins s σ H x y v u Q I rx ry h;obtain⟨a,b,ns,ms,rfl,rfl,ha,hb,q⟩:=h;cases rx;cases ry;obtain⟨i1,r1,p1,_⟩:=I.list ha;obtain⟨i2,r2,p2,_⟩:=I.list hb;exact PySem.W.eq_intsK p1.isList (oG r1) p2.isList (oG r2) hu ⟨.bl _,H,I,rfl,q⟩
def FH(hu:X.A.units+64<cLine):ci X (compareOp .NotEq) (yJ X.K):=by intro pins s σ H x y v u Q I rx ry h;obtain⟨a,b,ns,ms,rfl,rfl,ha,hb,q⟩:=h;cases rx;cases ry;obtain⟨i1,r1,p1,_⟩:=I.list ha;obtain⟨i2,r2,p2,_⟩:=I.list hb;exact PySem.W.ne_intsK p1.isList (oG r1) p2.isList (oG r2) hu ⟨.bl _,H,I,rfl,q⟩
def j5(K:PySem.W.Frag):List V->Hp->VK->Prop:=λxs H Q=>∃(x:V) (t c:Value) (n:V) (k:Bool),xs=[x,n]/\RelV n c/\(∀u,RelV n u->u=c)/\TyOf K H x t/\PySem.W.kitOne K t c=some k/\Q (.bl k) H
def Kp:fD X (.builtin "isinstance") (j5 X.K):=by intro pins s σ H xs us Q I r h;obtain⟨x,t,c,n,k,rfl,rn,hn,ty,e,q⟩:=h;obtain⟨u1,u2,rfl,r1,r2⟩:=r.two;obtain rfl:=hn u2 r2;exact Iy I r1 ty e λtk=>⟨.bl k,H,I.tok tk,rfl,q⟩
def Ah{K:PySem.W.Frag}{H:Hp}{Q:VK}{x:V}{n:String}{t:Value}{k:Bool}(ty:TyOf K H x t)(e:PySem.W.kitOne K t (.type n)=some k)(q:Q (.bl k) H):j5 K [x,.ty n] H Q :=
 ⟨x,t,.type n,.ty n,k,rfl,rfl,λ_ h=>h,ty,e,q⟩
def uA{K:PySem.W.Frag}{H:Hp}{Q:VK}{x:V}{C:Addr}{t:Value}{k:Bool}(ty:TyOf K H x t)(e:PySem.W.kitOne K t (.ref C)=some k)(q:Q (.bl k) H):j5 K [x,.ref C] H Q :=
 ⟨x,t,.ref C,.ref C,k,rfl,rfl,λ_ h=>h,ty,e,q⟩
end
section
variable {D:Ends}{σ:St}{H:Hp}{Q:VK}{t u:TS}{te ta tb:TE}{c:TT}{i:Nat}{v:V}{r:R2}
def ET(P:St->Hp->Prop)(h1:∀Q2 H',P Q2 H'->u D Q2 H')(h2:(∀Q2 H',P Q2 H'->u D Q2 H')->t { D with nx:=u D } σ H):d8 t u D σ H:=h2 h1
def yD(P:St->Hp->Prop)(h:P σ H)(h1:∀Q2 H',P Q2 H'->u D Q2 H'):u D σ H:=h1 σ H h
def aA(h:te σ H λx H1=>u D (σ.set i (some x)) H1):d8 (gz te (fC i)) u D σ H:=h
def j1(h:te σ H λ_ H1=>u D σ H1):d8 (mO te) u D σ H:=h
def bV{t1:TS}(h:c σ H λb H1=>if b=true then t1 { D with nx:=u D } σ H1 else u D σ H1):d8 (kQ c t1 wu) u D σ H:=h
def lg{K:PySem.W.Frag}{n:V}(h:ta σ H λx H1=>j5 K [x,n] H1 Q):tCB (j5 K) (qb ta (qb (tC n) qa)) σ H Q:=h
def gU{t1 t2:TS}(P:St->Hp->Prop)(h1:∀Q2 H',P Q2 H'->u D Q2 H')(h2:(∀Q2 H',P Q2 H'->u D Q2 H')->c σ H λb H1=>if b=true then t1 { D with nx:=u D } σ H1 else t2 { D with nx:=u D } σ H1):d8 (kQ c t1 t2) u D σ H:=h2 h1
def fk(h:te σ H λx H1=>D.nx (σ.set i (some x)) H1):gz te (fC i) D σ H:=h
def aY(h:te σ H D.rt):wq te D σ H:=h
def yE(h:te σ H λ_ H1=>D.nx σ H1):mO te D σ H:=h
def j2(h:c σ H λb H1=>if b=true then t D σ H1 else u D σ H1):kQ c t u D σ H:=h
def lj{K:Bool->Hp->Prop}(h:te σ H λx H'=>∃k,x=.bl k/\K k H'):tB te σ H K:=h
def i6{K:Bool->Hp->Prop}{tt:TT}(h:tt σ H λk H1=>K (!k) H1):wt tt σ H K:=h
def j3{K:Bool->Hp->Prop}{t1 t2:TT}(h:t1 σ H λk H1=>if k=true then t2 σ H1 K else K false H1):wB t1 t2 σ H K:=h
def nJ{K:Bool->Hp->Prop}{t1 t2:TT}(h:t1 σ H λk H1=>if k=true then K true H1 else t2 σ H1 K):tOr t1 t2 σ H K:=h
def EU(h:ta σ H λx H1=>∃k,x=.bl k/\if k=true then tb σ H1 Q else Q (.bl false) H1):wA ta tb σ H Q:=h
def ES{tt:TT}(h:tt σ H λk H1=>if k=true then ta σ H1 Q else tb σ H1 Q):tIf tt ta tb σ H Q:=h
def yB{A B:Prop}(h:A):if true=true then A else B:=by rw[if_pos rfl];exact h
def f9{A B:Prop}(h:B):if false=true then A else B:=by rw[if_neg Pd];exact h
def aQ{p A B:Prop}[Decidable p](h1:p->A)(h2:¬p->B):if decide p=true then A else B:=by
 by_cases hp:p
 ·rw[if_pos (decide_eq_true hp)];exact h1 hp
 ·rw[if_neg (by rw[decide_eq_false hp];exact Pd)];exact h2 hp
def eR{p A B:Prop}[Decidable p](h1:¬p->A)(h2:p->B):if(!decide p)=true then A else B:=by
 by_cases hp:p
 ·rw[if_neg (by rw[decide_eq_true hp];exact Pd)];exact h2 hp
 ·rw[if_pos (by rw[decide_eq_false hp];rfl)];exact h1 hp
end
structure Cal(P:Program)(w:World)(K:PySem.W.Frag)(mg:Str->Option Value)(base:Heap)(k:Nat)(x:Str)(ps:List Str)(sp:Sp)(f:Addr)(fd:FuncData):Prop where
 ok:FnOk P w K mg base aG k f fd ps sp
 mg:mg x=some (.ref f)
 kp:PySem.W.keepIn K (.ref f)=true
 bd:Binds K fd ps []
def Same.upd_new{H:Hp}{p:Addr}{o:HO}(h:H p=none):Same H (upd H p o):=λb u e=>by rw[upd_ne (bn e h)];exact e
def Same.then_new{H H1:Hp}{p:Addr}{o:HO}(s:Same H H1)(h:H1 p=none):Same H (upd H1 p o):=s.trans (Same.upd_new h)
def Same.ne{H H1:Hp}{a p:Addr}{o:HO}(s:Same H H1)(e:H a=some o)(h:H1 p=none):a≠p:=bn (s a o e) h
section
variable {X:Cx}{K:PySem.W.Frag}
def Iu(h:X.K=K):IxR X (nX K):=by subst h;exact Iv
def Ir(h:X.K=K):IxR X (nV K):=by subst h;exact Is
def mY(h:X.K=K):SlR X (tj K):=by subst h;exact Dt
def yL(K:PySem.W.Frag):List V->Hp->VK->Prop:=λxs H Q=>∃p ys,xs=[.ref p]/\(SqL K H p ys\/SqT K H p ys)/\Q (.int ys.length) H
def Ko(h:X.K=K):fD X (.builtin "len") (yL K):=by subst h;exact Kn
def E6(K:PySem.W.Frag):List V->Hp->VK->Prop:=λxs H Q=>∃p ys,xs=[.ref p]/\(SqL K H p ys\/SqT K H p ys)/\∀l,H l=none->Q (.ref l) (upd H l (.lst ys))
def vc(h:X.K=K):fD X (.type "list") (E6 K):=by subst h;exact Km
def jh(h:X.K=K)(hu:X.A.units+64<cLine):ci X (compareOp .Eq) (yM K):=by subst h;exact FK hu
def lH(h:X.K=K)(hu:X.A.units+64<cLine):ci X (compareOp .NotEq) (yJ K):=by subst h;exact FH hu
def mv(h:X.K=K):fD X (.builtin "isinstance") (j5 K):=by subst h;exact Kp
def gF{tg l:Expr}{tl:TE}(h:X.K=K)(hl:PE X l tl):PI X tg l (Ao K tl):=by subst h;exact Fp hl
def Fm{tg l:Expr}{tl:TE}(h:X.K=K)(hl:PE X l tl):PI X tg l (An K tl):=by subst h;exact Fn hl
def aB{e:Expr}{ta:TE}{f:Str}{pos:Pos}(h:X.K=K)(he:PE X e ta)(hb:attributeBase e f X.env (eval e X.env)=eval e X.env):PE X (.Attribute e f pos) (wx K ta f):=by subst h;exact Fx he hb
end
noncomputable def Ite(K:PySem.W.Frag)(a:Addr):It :=
 ⟨λi H=>∃xs x,SqL K H a xs/\xs[i]?=some x,λi H x H'=>∃v p,x=.ref p/\H p=none/\H'=upd H p (.tup [.int i,v])/\∀xs,SqL K H a xs->xs[i]?=some v,λi H=>∃xs,SqL K H a xs/\xs.length<=i⟩
def Cz{P:Program}{w:World}{K:PySem.W.Frag}{es:List Expr}{x1:Nat}{tp:Pos}(a e it:Addr)(hne:e≠it):Turn P w K (.Tuple es x1 tp) (Ite K a) [e,it] e (λi h=>(∃old,IsEnum h e it (i:Int) old)/\h.IsListIter it a i) where
 mem:=by simp
 obj:=λi h st b hb=>by
  obtain⟨⟨old,he⟩,hi⟩:=st;rcases NR.mp hb with rfl |hb
  ·exact⟨_,he,λv z=>by cases z⟩
  ·have q:b=it:=by simpa using hb
   subst q;obtain⟨o,e,c,d⟩:=hi;exact⟨o,e,λv z=>by rw[d]at z;cases z⟩
 keep:=λi h h' st k=>by obtain⟨⟨old,he⟩,hi⟩:=st;exact⟨⟨old,k e (by simp) _ he⟩,hi.at λo q=>k it (by simp) o q⟩
 item:=by
  intro X hP hw hK hc i pins s σ H E I hf st hg;subst hP hw hK;obtain⟨⟨old,he⟩,hi⟩:=st;obtain⟨xs,x,hq,hx⟩:=hg;obtain⟨its,rv,p,hz⟩:=I.list hq;obtain⟨u,hu,ru⟩:=rv.get hx;refine wpAny_pyNext_enum_item he hi p.isList (x:=u) (by simpa using hu) hne λh' out hit' htup hsz kk=>?_
  have hfp:H s.heap.objs.size=none:=I.hok.fresh (Nv _);have nfp:∀b o,H b=some o->b≠e/\b≠it:=λb o q=>⟨λz=>(by rw[z,(hf e (by simp)).1]at q;cases q),λz=>(by rw[z,(hf it (by simp)).1]at q;cases q)⟩
  have I1:Inv X pins σ (upd H s.heap.objs.size (.tup [.int i,x])) { s with heap:=h',toks:=s.toks+1 }:=by
   refine I.step (g':=s.gens) (d':=s.drawn) (ch:=[e,it]) (λb hb=>?_) (λb o _ _ hc q _=>kk b o (λz=>hc (by simp[z])) (λz=>hc (by simp[z])) q)
    (λb o _ _ hc q _=>⟨o.slots,kk b o (λz=>hc (by simp[z])) (λz=>hc (by simp[z])) q⟩) (λb o _ q n=>by rw[upd_ne (NW (Heap.lt_size q))];exact n)
    (λb o hc q=>⟨o,kk b o (λz=>hc (by simp[z])) (λz=>hc (by simp[z])) q⟩) (λb ys q=>by rw[upd_ne (bn q hfp)];exact q) (λb o ys q=>by rw[upd_ne (bn q hfp)];exact q)
    (λb ps q=>⟨#[],by rw[upd_ne (bn q hfp),q];simp⟩) (λm hm=>?_) (λb o q=>?_) I.bare
   ·obtain⟨f0,f1,f2,f3,f4,f5⟩:=hf b hb;exact⟨f3,f1,f4,f5⟩
   ·obtain⟨o,es',ep',ho,r⟩:=hm;exact⟨o,es',ep',kk _ o (Ne.symm (hf e (by simp)).2.1) (Ne.symm (hf it (by simp)).2.1) ho,r⟩
   ·by_cases hb:b=s.heap.objs.size
    ·subst hb;rw[ax]at q;cases q;exact⟨by show 2<=sizeLine;decide,[.int i s.toks,u],.cons ⟨_,rfl⟩ (.cons ru .nil),⟨_,htup,rfl,_,rfl⟩⟩
    ·rw[upd_ne hb]at q;refine(I.hok b o q).stay (λc v hc z=>?_) (λc z=>by rw[upd_ne (bn z hfp)];exact z) λc ys z=>by rw[upd_ne (bn z hfp)];exact z
     rcases hc with rfl |hc
     ·exact kk c v (nfp c o q).1 (nfp c o q).2 z
     ·exact kk c v (nfp c _ hc).1 (nfp c _ hc).2 z
  refine⟨_,rfl,wpAny_letOwnedTupleGo_enum out λh'' he'' sb=>?_⟩;obtain⟨f0,f1,f2,f3,f4,f5⟩:=hf e (by simp)
  have hen:upd H s.heap.objs.size (.tup [.int i,x]) e=none:=by rw[upd_ne (NW (Heap.lt_size he))];exact f0
  have I2:=I1.turned (h':=h'') (t':=s.toks+1) (it:=e) (λb o hb q=>(sb.2 b hb).trans q) hen f1 f3 f4 f5;refine⟨.ref s.heap.objs.size,_,I2,rfl,⟨x,_,rfl,hfp,rfl,λys hy=>by rw[I.list_inj hy hq];exact hx⟩,⟨⟨u,?_⟩,hit'.at λo q=>(sb.2 it (Ne.symm hne)).trans q⟩,λb hb=>?_⟩
  ·have:((i+1:Nat):Int)=(i:Int)+1:=by omega
   rw[this];exact he''
  ·have hlt:b<s.heap.objs.size:=by
    rcases NR.mp hb with rfl |hb
    ·exact Heap.lt_size he
    ·have q:b=it:=by simpa using hb
     subst q;obtain⟨o,e1,_⟩:=hi;exact Heap.lt_size e1
   rw[upd_ne (NW hlt)];exact(hf b hb).1
 done:=by intro X hP hw hK hc i pins s σ H E I hf st hg;subst hP hw hK;obtain⟨⟨old,he⟩,hi⟩:=st;obtain⟨xs,hq,hx⟩:=hg;obtain⟨its,rv,p,hz⟩:=I.list hq;obtain⟨f0,f1,f2,f3,f4,f5⟩:=hf it (by simp);have hl:=rv.length;exact wpAny_pyNext_enum_end (I.ok.hd hc) he hi p.isList (by simp;omega) λh' eb=>⟨rfl,I.turned (t':=s.toks) (λb o hb e=>eb b o hb e) f0 f1 f3 f4 f5⟩
 self:=λ_ _ _ _ _ st h=>by obtain⟨⟨old,he⟩,hi⟩:=st;exact wpAny_pyIter_enum he h
section
variable {X:Cx}
def II(K:PySem.W.Frag)(ta:TA):TI:=λσ H R=>ta σ H λvs H1=>∃a,vs=[.ref a]/\(∃xs,SqL K H1 a xs)/\R (Ite K a) H1
def oh{es:List Expr}{x1:Nat}{tp:Pos}{a:Expr}{ta:TA}{p pos:Pos}(hg:Gl X "enumerate")(hm:X.mg "enumerate"=none)(ha:PA X [a] ta)(hs:starEach [a] X.env=[(false,eval a X.env)]:=by rfl):PI X (.Tuple es x1 tp) (.Call (.Name "enumerate" p) [a] [] pos) (II X.K ta):=by
 intro pins s σ H R I h;refine Call_ (gg I hg hm boot_enumerate (PyProof.Rows.callWith_type1 (aI (ha pos pins s σ H _ I h) ?_) hs rfl));rintro us s1 ⟨vs,H1,I1,r1,q1⟩;obtain⟨a',e,⟨xs,hq⟩,q⟩:=q1;subst e;obtain⟨u,rfl,ru⟩:=r1.one;cases ru;obtain⟨its,rv,pl,hz⟩:=I1.list hq;refine call_enumerate_list pl.isList λh' he hit hsz hk=>?_
 have I2:Inv X pins σ H1 { s1 with heap:=h' }:=I1.kept (t':=s1.toks) hk;refine wpAny_pyIter_enum he ?_;refine⟨s1.heap.objs.size+1,[s1.heap.objs.size+1,s1.heap.objs.size],_,_,H1,rfl,I2,Cz a' _ _ (Nat.succ_ne_self _),⟨⟨_,he⟩,hit⟩,λb hb=>?_,q⟩
 have hb':s1.heap.objs.size<=b:=by
  rcases NR.mp hb with rfl |hb
  ·exact Nat.le_succ _
  ·have q:b=s1.heap.objs.size:=by simpa using hb
   subst q;exact Nv _
 exact I1.fpOk hb' (I1.hok.fresh hb')
end
def uG{K:PySem.W.Frag}{a:Addr}{xs:List V}{g:TG}{tb:TS}{D:Ends}{σ:St}{H:Hp}(Pv:Nat->St->Hp->Prop)(h0:Pv 0 σ H)(hl:∀i σ H,i<=xs.length->Pv i σ H->SqL K H a xs)
 (hs:∀i x σ H p,xs[i]?=some x->Pv i σ H->H p=none->g (.ref p) σ (upd H p (.tup [.int i,x])) λQ3 H2=>tb { D with nx:=Pv (i+1),ct:=Pv (i+1),bk:=D.nx } Q3 H2) (hd:∀σ H,Pv xs.length σ H->D.nx σ H) :
 ∃W:Nat->Nat->St->Hp->Prop,(∃m,W 0 m σ H)/\∀i m σ H,W i m σ H ->
  ((Ite K a).stop i H/\D.nx σ H)\/((Ite K a).go i H/\∃N:St->Hp->Prop,(∀Q2 H',N Q2 H'->∃m',m'<m/\W (i+1) m' Q2 H')/\∀x H',(Ite K a).yld i H x H'->g x σ H' λQ3 H2=>tb { D with nx:=N,ct:=N,bk:=D.nx } Q3 H2):=by
 refine⟨λi m σ H=>m=xs.length-i/\i<=xs.length/\Pv i σ H,⟨xs.length,by simp,Nw _,h0⟩,?_⟩;rintro i m σ H ⟨rfl,hi,p⟩;have q:=hl i σ H hi p;by_cases hlt:i<xs.length
 ·refine .inr ⟨⟨xs,xs[i],q,by simp[hlt]⟩,Pv (i+1),λQ2 H' p'=>⟨xs.length-(i+1),by omega,rfl,hlt,p'⟩,λx H' y=>?_⟩;obtain⟨v,r,rfl,hr,rfl,y⟩:=y;exact hs i v σ _ r (y xs q) p hr
 ·have e:i=xs.length:=by omega
  subst e;exact .inl ⟨⟨xs,q,Nv _⟩,hd σ H p⟩
def Kb{n:Nat}{js:List Nat}{K:PySem.W.Frag}{a:Addr}{xs:List V}{g:TG}{te:TE}{Q6:St}{H:Hp}{Q:VK}(Pv:Nat->List V->St->Hp->Prop)(hz:xs.length<=sizeLine)(h0:Pv 0 [] (fT n js Q6) H)(hl:∀i ys σ H,i<=xs.length->Pv i ys σ H->SqL K H a xs/\ys.length<=i)
 (hs:∀i x ys σ H p,xs[i]?=some x->Pv i ys σ H->H p=none->g (.ref p) σ (upd H p (.tup [.int i,x])) λQ3 H2=>te Q3 H2 λy H3=>Pv (i+1) (ys++[y]) Q3 H3) (hd:∀ys σ H p,Pv xs.length ys σ H->H p=none->Q (.ref p) (upd H p (.lst ys))) :
 mD n js g te Q6 Q (Ite K a) H:=by
 refine⟨λi m ys σ H=>m=xs.length-i/\i<=xs.length/\Pv i ys σ H,⟨xs.length,by simp,Nw _,h0⟩,?_⟩;rintro i m ys σ H ⟨rfl,hi,p⟩;obtain⟨q,hy⟩:=hl i ys σ H hi p;by_cases hlt:i<xs.length
 ·refine .inr ⟨⟨xs,xs[i],q,by simp[hlt]⟩,by omega,λy Q1 H''=>Pv (i+1) (ys++[y]) Q1 H'',λy Q2 H' p'=>⟨xs.length-(i+1),by omega,rfl,hlt,p'⟩,λx H' y=>?_⟩;obtain⟨v,r,rfl,hr,rfl,y⟩:=y;exact hs i v ys σ _ r (y xs q) p hr
 ·have e:i=xs.length:=by omega
  subst e;exact .inl ⟨⟨xs,q,Nv _⟩,λr hr=>hd ys σ H r p hr⟩
noncomputable def Itv(K:PySem.W.Frag)(a:Addr)(xs:List V):It :=
 ⟨λi H=>SqL K H a xs/\i<xs.length,λi H x H'=>H'=H/\xs[xs.length-1-i]?=some x,λi H=>xs.length<=i⟩
def Cu{P:Program}{w:World}{K:PySem.W.Frag}{tg:Expr}(a it:Addr)(xs:List V):Turn P w K tg (Itv K a xs) [it] it (λi h=>i<=xs.length/\h.IsRevIter it a ((xs.length:Int)-1-i)) where
 mem:=by simp
 obj:=λi h st b hb=>by
  have e:b=it:=by simpa using hb
  subst e;obtain⟨_,o,e,c,d⟩:=st;exact⟨o,e,λv z=>by rw[d]at z;cases z⟩
 keep:=λi h h' st k=>⟨st.1,st.2.at λo e=>k it (by simp) o e⟩
 item:=by
  intro X hP hw hK hc i pins s σ H E I hf st hg;subst hP hw hK;obtain⟨hq,hlt⟩:=hg;obtain⟨its,rv,p,hz⟩:=I.list hq;have hl:=rv.length;obtain⟨x,hx⟩:∃x,xs[xs.length-1-i]?=some x:=⟨_,List.getElem?_eq_getElem (by omega)⟩;obtain⟨u,hu,ru⟩:=rv.get hx;obtain⟨f0,f1,f2,f3,f4,f5⟩:=hf it (by simp);have e1:(xs.length:Int)-1-i=((xs.length-1-i:Nat):Int):=by omega
  have hit:=st.2;rw[e1]at hit;refine wpAny_pyNext_rev_item hit p.isList (x:=u) (by simpa using hu) λh' st' sb=>?_
  have I1:Inv X pins σ H { s with heap:=h' }:=I.turned (t':=s.toks) (λb o hb e=>(sb.2 b hb).trans e) f0 f1 f3 f4 f5;obtain⟨o,e,c,d⟩:=id st';refine⟨u,rfl,md (s:={ s with heap:=h' }) e c d (by decide) ⟨x,H,I1,ru,⟨rfl,hx⟩,⟨hlt,?_⟩,λb hb=>(hf b hb).1⟩⟩;have e2:(xs.length:Int)-1-((i+1:Nat):Int)=((xs.length-1-i:Nat):Int)-1:=by omega
  rw[e2];exact st'
 done:=by
  intro X hP hw hK hc i pins s σ H E I hf st hg;subst hP hw hK;obtain⟨f0,f1,f2,f3,f4,f5⟩:=hf it (by simp);have hle:xs.length<=i:=hg;have e1:(xs.length:Int)-1-i = -1:=by have:=st.1;omega
  have hit:=st.2;rw[e1]at hit;exact wpAny_pyNext_rev_end (I.ok.hd hc) hit λh' eb=>⟨rfl,I.turned (t':=s.toks) (λb o hb e=>eb b o hb e) f0 f1 f3 f4 f5⟩
 self:=λ_ _ _ _ _ st h=>wpAny_pyIter_revIter st.2 h
section
variable {X:Cx}{tg:Expr}
def IH(K:PySem.W.Frag)(ta:TA):TI:=λσ H R=>ta σ H λvs H1=>∃a xs,vs=[.ref a]/\SqL K H1 a xs/\R (Itv K a xs) H1
def iF{a:Expr}{ta:TA}{p pos:Pos}(hg:Gl X "reversed")(hm:X.mg "reversed"=none)(ha:PA X [a] ta)(hs:starEach [a] X.env=[(false,eval a X.env)]:=by rfl):PI X tg (.Call (.Name "reversed" p) [a] [] pos) (IH X.K ta):=by
 intro pins s σ H R I h;refine Call_ (gg I hg hm boot_reversed (PyProof.Rows.callWith_type1 (aI (ha pos pins s σ H _ I h) ?_) hs rfl));rintro us s1 ⟨vs,H1,I1,r1,q1⟩;obtain⟨a',xs,e,hq,q⟩:=q1;subst e;obtain⟨u,rfl,ru⟩:=r1.one;cases ru;obtain⟨its,rv,pl,hz⟩:=I1.list hq;have hl:=rv.length;refine call_reversed_list pl.isList ?_
 have hit:(s1.heap.push (revObj a' ((its.toArray.size:Int)-1))).IsRevIter s1.heap.objs.size a' ((xs.length:Int)-1-((0:Nat):Int)):=by
  have e1:(xs.length:Int)-1-((0:Nat):Int)=(its.toArray.size:Int)-1:=by rw[NX];omega
  rw[e1];exact⟨_,Heap.get?_push_size _ rfl,rfl,rfl⟩
 have I2:Inv X pins σ H1 { s1 with heap:=s1.heap.push (revObj a' ((its.toArray.size:Int)-1)) }:=I1.kept (t':=s1.toks) λb o e=>Heap.get?_push_of_some _ e
 refine wpAny_pyIter_revIter (s:={ s1 with heap:=s1.heap.push (revObj a' ((its.toArray.size:Int)-1)) }) hit ?_;refine⟨s1.heap.objs.size,[s1.heap.objs.size],_,_,H1,rfl,I2,Cu a' _ xs,⟨Nw _,hit⟩,λb hb=>?_,q⟩;have e:b=s1.heap.objs.size:=by simpa using hb
 subst e;exact I1.fpOk (Nv _) (I1.hok.fresh (Nv _))
end
def oO{K:PySem.W.Frag}{a:Addr}{xs:List V}{g:TG}{tb:TS}{D:Ends}{σ:St}{H:Hp}(Pv:Nat->St->Hp->Prop)(h0:Pv 0 σ H)(hl:∀i σ H,i<=xs.length->Pv i σ H->SqL K H a xs)
 (hs:∀i x σ H,i<xs.length->xs[xs.length-1-i]?=some x->Pv i σ H->g x σ H λQ3 H2=>tb { D with nx:=Pv (i+1),ct:=Pv (i+1),bk:=D.nx } Q3 H2) (hd:∀σ H,Pv xs.length σ H->D.nx σ H) :
 ∃W:Nat->Nat->St->Hp->Prop,(∃m,W 0 m σ H)/\∀i m σ H,W i m σ H ->
  ((Itv K a xs).stop i H/\D.nx σ H)\/((Itv K a xs).go i H/\∃N:St->Hp->Prop,(∀Q2 H',N Q2 H'->∃m',m'<m/\W (i+1) m' Q2 H')/\∀x H',(Itv K a xs).yld i H x H'->g x σ H' λQ3 H2=>tb { D with nx:=N,ct:=N,bk:=D.nx } Q3 H2):=by
 refine⟨λi m σ H=>m=xs.length-i/\i<=xs.length/\Pv i σ H,⟨xs.length,by simp,Nw _,h0⟩,?_⟩;rintro i m σ H ⟨rfl,hi,p⟩;by_cases hlt:i<xs.length
 ·refine .inr ⟨⟨hl i σ H hi p,hlt⟩,Pv (i+1),λQ2 H' p'=>⟨xs.length-(i+1),by omega,rfl,hlt,p'⟩,λx H' y=>?_⟩;obtain⟨e,y⟩:=y;subst e;exact hs i x σ _ hlt y p
 ·have e:i=xs.length:=by omega
  subst e;exact .inl ⟨Nv _,hd σ H p⟩
structure FunD(K:PySem.W.Frag)(x qual:Str)(st:Stmt)(dV:Value)(f:Addr)(fd:FuncData):Prop where
 ex:∃(oc:Value) (od:Option Addr) (kV doc pm:Value) (an:Option Addr) (cdv ct:Value) (osl:Array (Option Value)),
  fd=PySem.W.fnOf x qual (fX st) (eY st) (aD st) dV kV doc pm an cdv ct/\K.lookup f=some ⟨oc,od,.func fd,osl⟩/\PySem.W.codeIn K cdv qual=true
 kp:PySem.W.keepIn K (.ref f)=true
section
variable {P:Program}{w:World}{K:PySem.W.Frag}{mg:Str->Option Value}{base:Heap}
def FunD.ok{x qual:Str}{st:Stmt}{dV:Value}{f:Addr}{fd:FuncData}{N ps:List Str}{k:Nat}{sp:Sp}(F:FunD K x qual st dV f fd)(S:FnScope N ps (aD st))(len:∀vs H Q E,sp vs H Q E->vs.length=ps.length)
 (hbody:∀(cdv:Value) (A:Around) (outer:List Env) (s:Shared) (H:Hp) (vs:List V) (Q:VK) (E:XK),Room k (A.deeper (envOfC qual (aD st) s.heap.objs.size f cdv))->sp vs H Q E ->
   ∃t,PSs (jr aG P w K mg base N qual (aD st) f cdv A outer s H E).nox (eY st) t/\t { nx:=λ_ H'=>Q .non H',rt:=Q } (start N vs) H):FnOk P w K mg base aG (k+1) f fd ps sp:=by
 obtain⟨oc,od,kV,doc,pm,an,cdv,ct,osl,rfl,lk,hcd⟩:=F.ex;refine AD lk hcd S len λA outer s H vs Q E hr hsp=>?_
 obtain⟨t,h,q⟩:=hbody cdv A outer s H vs Q E hr hsp;exact⟨t,h.nox,q⟩
def FunD.bindsD{x qual:Str}{st:Stmt}{T:Addr}{f:Addr}{fd:FuncData}{ps:List Str}{ds tup:List Value}{o:Obj}{n:Nat}(m:Nat)(F:FunD K x qual st (.ref T) f fd)(lo:K.lookup T=some o)(hs:o.data=.seq tup.toArray n)(hm:m+ds.length=ps.length)
 (h:∀(kV doc pm:Value) (an:Option Addr) (cdv ct:Value) (us:List Value),us.length=m->∃k:Option (Array Value)->Sem (List (Str×Value)),
   bindArgs (PySem.W.fnOf x qual (fX st) (eY st) (aD st) (.ref T) kV doc pm an cdv ct) ⟨us,[]⟩=seqItems? (.ref T) >>= k/\k (some tup.toArray)=pure (ps.zip (us++ds))):Binds K fd ps ds:=by
 obtain⟨oc,od,kV,doc,pm,an,cdv,ct,osl,rfl,lk,hcd⟩:=F.ex;intro s us KX hl;rw[Nq]at hl;obtain⟨k,h1,h2⟩:=h kV doc pm an cdv ct us (by omega);exact PySem.W.binds_K (k:=k) KX rfl lo hs h1 h2
def Jg{x qual:Str}{st:Stmt}{f:Addr}{oc:Value}{od an:Option Addr}{osl:Array (Option Value)}{dV kV doc pm cdv ct:Value}(l:K.lookup f=some ⟨oc,od,.func (PySem.W.fnOf x qual (fX st) (eY st) (aD st) dV kV doc pm an cdv ct),osl⟩)
 (c:PySem.W.codeIn K cdv qual=true) (k:PySem.W.keepIn K (.ref f)=true):FunD K x qual st dV f (PySem.W.fnOf x qual (fX st) (eY st) (aD st) dV kV doc pm an cdv ct):=⟨⟨oc,od,kV,doc,pm,an,cdv,ct,osl,rfl,l,c⟩,k⟩
end
structure MCal(P:Program)(w:World)(K:PySem.W.Frag)(mg:Str->Option Value)(base:Heap)(k:Nat)(C:Addr)(m:Str)(ps:List Str)(sp:Sp)(f:Addr)(fd:FuncData):Prop where
 ok:FnOk P w K mg base aG k f fd ps sp
 mt:Meth K C m f
 bd:Binds K fd ps []
structure KCal(P:Program)(w:World)(K:PySem.W.Frag)(mg:Str->Option Value)(base:Heap)(k:Nat)(C:Addr)(x:Str)(ps:List Str)(sp:Sp)(f:Addr)(fd:FuncData)(ds:List Value)(dvs:List V):Prop where
 ok:FnOk P w K mg base aG k f fd ps sp
 mkr:Mk K C f
 mg:mg x=some (.ref C)
 bd:Binds K fd ps []
 bdD:Binds K fd ps ds
 vd:Vals dvs ds
section
variable {X:Cx}{k j:Nat}{f:Addr}{fd:FuncData}{ps P:List Str}{sp:Sp}{x:Str}{p pos apos cpos pos':Pos}{e o a b:Expr}{es:List Expr}{ta tb te to:TE}{t:TA}{sc:Scope}{op:CmpOp}{r:R2}
def am(C:Cal X.prog X.w X.K X.mg X.base k x ps sp f fd)(hr:Room j X.A)(ha:PA X (e::es) t)(hj:k<=j:=by decide)(hg:Gl X x:=by rfl)(hdb:(x == ("__debug__":Str))=false:=by decide)(he:starEach (e::es) X.env=(false,eval e X.env)::starEach es X.env:=by rfl)(hpl:(backTo pos (starEach es X.env)).any (·.1)=false:=by rfl) :
 PE X (.Call (.Name x p) (e::es) [] pos) (wz sp [] E0 t):=Fz C.ok (hr.mono hj) hg C.mg C.kp C.bd .nil aR ha hdb he hpl
def ap(i:Nat)(S:FnScope X.N P sc)(he:PE X e te)(hi:X.N[i]?=some x:=by rfl)(hx:Loc X.env.scope x:=by first |exact Or.inl rfl |exact Or.inr rfl)(hs:swapsWith e (some (.Name x pos')) pos.line X.env=pure false:=by rfl)(hf:X.fn x=true\/X.env.scope.names.lookup x=some .local:=by first |exact .inl rfl |exact .inr rfl |assumption) :
 PS X (.Assign [.Name x pos'] e pos) (gz te (fC i)):=Fd S.nd hi hx he hs hf
def de(i:Nat)(S:FnScope X.N P sc)(hi:X.N[i]?=some x:=by rfl)(hx:Loc X.env.scope x:=by first |exact Or.inl rfl |exact Or.inr rfl)(hf:X.fn x=true\/X.env.scope.names.lookup x=some .local:=by first |exact .inl rfl |exact .inr rfl |assumption):PG X (.Name x pos) (fC i):=df S.nd hi hx hf
def aN(ho:ci X (compareOp op) r)(ha:PE X a ta)(hb:PE X b tb)(hm:behindInMarks op b=false:=by exact zo _):PT X (.Compare a [op] [b] pos) (wo (tOp r ta tb)):=Fb ho ha hb hm
def ke(ho:ci X (compareOp op) r)(ha:PE X a ta)(hb:PE X b tb)(hm:behindInMarks op b=false:=by exact zo _):PE X (.Compare a [op] [b] pos) (tOp r ta tb):=Fy ho ha hb hm
def cH(K:PySem.W.Frag)(ha:PE X a ta)(hb:PE X b tb)(h:X.K=K:=by rfl)(hs:vq b:=by exactλ_ _=>rfl):PE X (.Subscript a b pos) (tOp (nX K) ta tb):=y6 (Iu h) ha hb hs
def aZ(K:PySem.W.Frag)(ha:PE X a ta)(hb:PE X b tb)(h:X.K=K:=by rfl)(hs:vq b:=by exactλ_ _=>rfl):PE X (.Subscript a b pos) (tOp (nV K) ta tb):=y6 (Ir h) ha hb hs
def dg(K:PySem.W.Frag)(hm:X.mg "len"=none)(ha:PA X (e::es) t)(h:X.K=K:=by rfl)(hg:Gl X "len":=by rfl)(he:starEach (e::es) X.env=(false,eval e X.env)::starEach es X.env:=by rfl)(hpl:(backTo pos (starEach es X.env)).any (·.1)=false:=by rfl):PE X (.Call (.Name "len" p) (e::es) [] pos) (tCB (yL K) t):=dS (Ko h) hg hm PySem.boot_len ha (by decide) (by decide) he hpl
def lE(ho:PE X o to)(ha:PA X (e::es) t)
 (hbase:attributeBase o "append" X.env (eval o X.env)=eval o X.env:=by rfl)
 (hfew:((backTo cpos (starEach (e::es) X.env)).all (λx=>!x.1)&&(backToKw cpos (keywordEach [] X.env)).all (λx=>x.1.isSome)
   && decide ((e::es).length+([]:List Keyword).length+(if([]:List Keyword).isEmpty then 0 else 1)<30))=true:=by rfl)
 (hline:(apos.endLine == cpos.line)=true:=by rfl) (hs:starEach (e::es) X.env=(false,eval e X.env)::starEach es X.env:=by rfl) (hplain:(backTo cpos (starEach es X.env)).any (·.1)=false:=by rfl) :
 PE X (.Call (.Attribute o "append" apos) (e::es) [] cpos) (tBM X.K "list" yN to t):=FA PySem.F.plainAttrs_list PySem.F.slot_list_append PySem.F.type_list_append HE ho ha hbase hfew hline hs hplain
end
section
variable {P:Program}{w:World}{K:PySem.W.Frag}{mg:Str->Option Value}{base:Heap}{N:List Str}{qual:Str}{scope:Scope}{f:Addr}{cd:Value}{A:Around}{outer:List Env}{s:Shared}{H:Hp}{E:XK}{pins:List (Addr×Obj)}{σ:St}{H1:Hp}{s1:Shared}
end
def kG(lo:Int)(n:Nat):It:=⟨λi _=>i<n,λi H x H'=>H'=H/\x=.int (lo+i * -1),λi _=>n<=i⟩
def Cv{P:Program}{w:World}{K:PySem.W.Frag}{tg:Expr}(it:Addr)(lo:Int)(n:Nat):Turn P w K tg (kG lo n) [it] it (λi h=>IsRangeIter h it (lo+(i:Nat) * -1) ((n:Int)-(i:Nat)) (-1)) where
 mem:=by simp
 obj:=λi h st b hb=>by
  have e:b=it:=by simpa using hb
  subst e
  exact⟨_,st,λv z=>by
   have z':Data.fields _=Data.cell v:=z
   cases z'⟩
 keep:=λi h h' st k=>k it (by simp) _ st
 item:=by
  intro X hP hw hK hc i pins s σ H E I hf st hg;subst hP hw hK;obtain⟨f0,f1,f2,f3,f4,f5⟩:=hf it (by simp);have W:=Walks.range (prog:=X.prog) (w:=X.w) (I.ok.hd hc) it lo (-1) n;refine W.item i s _ _ hg st λv h' tk hv st' kk=>?_
  obtain⟨t,rfl⟩:=hv;have I1:Inv X pins σ H { s with heap:=h',toks:=tk }:=I.turned (λb o hb e=>kk b o (by simpa using hb) e) f0 f1 f3 f4 f5;exact⟨_,rfl,md (s:={ s with heap:=h',toks:=tk }) (n:="range_iterator") st' rfl rfl (by decide) ⟨.int (lo+i * -1),H,I1,⟨t,rfl⟩,⟨rfl,rfl⟩,st',λb hb=>(hf b hb).1⟩⟩
 done:=by intro X hP hw hK hc i pins s σ H E I hf st hg;subst hP hw hK;obtain⟨f0,f1,f2,f3,f4,f5⟩:=hf it (by simp);exact wpAny_pyNext_range_end (I.ok.hd hc) st (by have:n<=i:=hg;omega) λh' eb=>⟨rfl,I.turned (t':=s.toks) (λb o hb e=>eb b o hb e) f0 f1 f3 f4 f5⟩
 self:=λ_ _ _ _ _ st h=>wpAny_pyIter_rangeiter st h
def yI(a b:Int):Builtin.Range.rangeSize a b (-1)=if b<a then a-b else 0:=by unfold Builtin.Range.rangeSize;rw[if_neg (by decide)];show(if a>b then(a-b-1)/1+1 else 0)=_;rw[Int.ediv_one];split<;>omega
def Dl{a b:Int}(ha : -(2^61)<=a)(ha':a<2^61)(hb : -(2^61)<=b)(hb':b<2^61):Builtin.Range.small a b (-1)=true:=by unfold Builtin.Range.small;rw[yI];simp only[Builtin.Range.rangeFitsLong,Bool.and_eq_true,Bool.or_eq_true,decide_eq_true_eq,beq_iff_eq,show ¬((-1:Int)>0) by decide,if_false];split<;>omega
section
variable {X:Cx}{tg:Expr}
def EY{pins:List (Addr×Obj)}{σ:St}{H:Hp}{s:Shared}{R:It->Hp->Prop}{E:Value->Shared->Prop}{lo hi:Int}{t u v:Tok}{tk:Nat}(I:Inv X pins σ H s)(h1 : -(2^61)<=lo)(h2:lo<2^61)(h3 : -(2^61)<=hi)(h4:hi<2^61)
 (q:R (kG lo (lo-hi).toNat) H):wpAny (model X.prog X.w) X.A (pyIter (.ref s.heap.objs.size)) (PIE X pins σ tg R) E { s with heap:=s.heap.push { cls:=.type "range",data:=.fields #[.int lo t,.int hi u,.int (-1) v] },toks:=tk }:=by
 refine wpAny_pyIter_range (IsRange.new ..) (Dl h1 h2 h3 h4) ?_;have I1:Inv X pins σ H { s with heap:=s.heap.push { cls:=.type "range",data:=.fields #[.int lo t,.int hi u,.int (-1) v] },toks:=tk }:=I.kept λb o e=>Heap.get?_push_of_some _ e
 refine⟨(s.heap.push { cls:=.type "range",data:=.fields #[.int lo t,.int hi u,.int (-1) v] }).objs.size,[(s.heap.push { cls:=.type "range",data:=.fields #[.int lo t,.int hi u,.int (-1) v] }).objs.size],_,_,H,rfl,
  I1.kept (t':=tk) λb o e=>Heap.get?_push_of_some _ e,Cv _ lo (lo-hi).toNat,?_,λb hb=>?_,q⟩
 ·have e1:lo+((0:Nat):Int) * -1=lo:=by simp
  have e2:(((lo-hi).toNat:Nat):Int)-((0:Nat):Int)=Builtin.Range.rangeSize lo hi (-1):=by rw[yI];split<;>omega
  show IsRangeIter _ _ (lo+((0:Nat):Int) * -1) ((((lo-hi).toNat:Nat):Int)-((0:Nat):Int)) (-1);rw[e1,e2];exact Heap.get?_push_size _ rfl
 ·have e:b=(s.heap.push { cls:=.type "range",data:=.fields #[.int lo t,.int hi u,.int (-1) v] }).objs.size:=by simpa using hb
  subst e;exact I1.fpOk (Nv _) (I1.hok.fresh (Nv _))
def IE(ta:TA):TI:=λσ H R=>ta σ H λvs H1=>∃i j:Int,vs=[.int i,.int j,.int (-1)]/\(-(2^61)<=i/\i<2^61 /\ -(2^61)<=j/\j<2^61)/\R (kG i (i-j).toNat) H1
def y4{a b c:Expr}{ta:TA}{p pos:Pos}(hg:Gl X "range")(hm:X.mg "range"=none)(ha:PA X [a,b,c] ta)(hs:starEach [a,b,c] X.env=[(false,eval a X.env),(false,eval b X.env),(false,eval c X.env)]:=by rfl)(hs2:starEach [b,c] X.env=[(false,eval b X.env),(false,eval c X.env)]:=by rfl) :
 PI X tg (.Call (.Name "range" p) [a,b,c] [] pos) (IE ta):=by
 intro pins s σ H R I h;refine Call_ (gg I hg hm boot_range (PyProof.Rows.callWith_type1 (aI (ha pos pins s σ H _ I h) ?_) (by rw[hs,hs2]) (by rw[hs2];rfl)));rintro us s1 ⟨vs,H1,I1,r1,q1⟩;obtain⟨i,j,e,⟨q1,q2,q3,q4⟩,q⟩:=q1;subst e;cases r1 with
 |cons r rr =>
  cases rr with
  |cons r' rr =>
   cases rr with
   |cons r'' rr =>cases rr;obtain⟨t,rfl⟩:=r;obtain⟨t',rfl⟩:=r';obtain⟨t'',rfl⟩:=r'';exact call_range_3 (by decide) (EY I1 q1 q2 q3 q4 q) (Or.inl (PyProof.noPylong_small (by decide)))
end
def AB{lo:Int}{n:Nat}{g:TG}{tb:TS}{D:Ends}{σ:St}{H:Hp}(Pv:Nat->St->Hp->Prop)(h0:Pv 0 σ H)
 (hs:∀i σ H,i<n->Pv i σ H->g (.int (lo+i * -1)) σ H λQ3 H2=>tb { D with nx:=Pv (i+1),ct:=Pv (i+1),bk:=D.nx } Q3 H2) (hd:∀σ H,Pv n σ H->D.nx σ H) :
 ∃W:Nat->Nat->St->Hp->Prop,(∃m,W 0 m σ H)/\∀i m σ H,W i m σ H ->
  ((kG lo n).stop i H/\D.nx σ H)\/((kG lo n).go i H/\∃N:St->Hp->Prop,(∀Q2 H',N Q2 H'->∃m',m'<m/\W (i+1) m' Q2 H')/\∀x H',(kG lo n).yld i H x H'->g x σ H' λQ3 H2=>tb { D with nx:=N,ct:=N,bk:=D.nx } Q3 H2):=by
 refine⟨λi m σ H=>m=n-i/\i<=n/\Pv i σ H,⟨n,by simp,Nw _,h0⟩,?_⟩;rintro i m σ H ⟨rfl,hi,p⟩;by_cases hlt:i<n
 ·refine .inr ⟨hlt,Pv (i+1),λQ2 H' p'=>⟨n-(i+1),by omega,rfl,hlt,p'⟩,λx H' y=>?_⟩;obtain⟨e,y⟩:=y;subst e y;exact hs i σ _ hlt p
 ·have e:i=n:=by omega
  subst e;exact .inl ⟨Nv _,hd σ H p⟩
section
variable {X:Cx}{K:PySem.W.Frag}
end
theorem Ij{P:Program}{w:World}{K:PySem.W.Frag}{mg mb:Str->Option Value}{CX:CXT}{k:Nat}{fa a:Addr}{fd:FuncData}{x:Str}{sp:Sp}{s₁:Shared}{vs:List Value}{ns:Ex}
 (KX:K.In s₁.heap) (hns:s₁.heap.Ns mainGlobals mg) (hb:s₁.heap.Ns builtinsNs mb) (hbb:∀x:Str,x≠"__name__"->mb x=bootBuiltins x) (hlim:s₁.heap.NoLimit) (hse:s₁.heap.NoSeer) (hg:s₁.gens=#[])
 (ha:s₁.heap.get? a=some { cls:=.type "list",data:=.seq vs.toArray }) (hi:IntsAre vs ns) (hl:ns.length<=sizeLine) (hr:Room k callerA)
 (F:∀base:Heap,K.In base->base.Ns mainGlobals mg->base.NoSeer->FnOk P w K mg base CX k fa fd [x] sp) (hbind:∀(s:Shared) (u:Value),BindsTo s fd ⟨[u],[]⟩ [(x,u)])
 (hsp:∀H:Hp,vt H->SqL K H a (ns.map V.int)->sp [.ref a] H (λv _=>v=.bl true) λ_ _ _=>False)
 (hCX:∀H e s',CX [] H s₁ (λ_ _ _=>False) e s'->False) :
 codeAny (model P w) callerA (.call (.ref fa) ⟨[.ref a],[]⟩) (λr s'=>r=.ok (.ret (.bool true))/\OldK s₁.heap s'.heap/\s'.os=s₁.os/\AllBare s'.gens) s₁:=by
 have rv:=v6 hi;have lenV:=hi.length
 have core:∀H:Hp,vt H->SqL K H a (ns.map V.int)->HOk P w H s₁.heap->(∀b,H b≠none->b=a)->(H a≠none->K.lookup a=none) ->
  codeAny (model P w) callerA (.call (.ref fa) ⟨[.ref a],[]⟩) (λr s'=>r=.ok (.ret (.bool true))/\OldK s₁.heap s'.heap/\s'.os=s₁.os/\AllBare s'.gens) s₁:=by
  intro H hO hS hok hA hK;have base_of:∀{b:Addr} {o:Obj},s₁.heap.get? b=some o->H b=none->(gL s₁.heap H).get? b=some o:=λe n=>IM e n
  have noA:∀{b:Addr} {o:Obj} {es:Array DictEntry} {ep:Nat},s₁.heap.get? b=some o->o.data=.dict es ep->H b=none:=λ{b o es ep} e d=>by
   cases q:H b with
   |none=>rfl
   |some u =>have e':b=a:=hA b (by rw[q];simp);subst e';rw[ha]at e;cases e;have d':Data.seq vs.toArray _=Data.dict es ep:=d;cases d'
  have nsK:∀{b:Addr} {m:Str->Option Value},s₁.heap.Ns b m->(gL s₁.heap H).Ns b m:=λ{b m} ⟨o,es,ep,e,d,r⟩=>⟨o,es,ep,base_of e (noA e d),d,r⟩
  have hKb:K.In (gL s₁.heap H):=λb o e=>base_of (KX b o e) (by
   cases q:H b with
   |none=>rfl
   |some u =>
    have e':b=a:=hA b (by rw[q];simp);subst e'
    rw[hK (by rw[q];simp)]at e;cases e)
  have hM:Mod K mg (gL s₁.heap H):=⟨hKb,nsK hns,⟨mb,nsK hb,hbb⟩,let⟨mc,h1,h2⟩:=hlim;⟨mc,nsK h1,h2⟩⟩
  have hSb:(gL s₁.heap H).NoSeer:=by
   obtain⟨⟨mc,c1,c2,c3⟩,⟨mm,m1,m2⟩,⟨mb',b1,b2⟩,⟨mg',bm,ob,g1,g2,g3,g4,g5⟩⟩:=hse;refine⟨⟨mc,nsK c1,c2,c3⟩,⟨mm,nsK m1,m2⟩,⟨mb',nsK b1,b2⟩,⟨mg',bm,ob,nsK g1,g2,base_of g3 ?_,g4,g5⟩⟩;cases q:H bm with
   |none=>rfl
   |some u =>have e':bm=a:=hA bm (by rw[q];simp);rw[e',ha]at g3;cases g3;exact absurd (Value.type.inj g4) (by decide)
  have e0:Env0 P w K mg (gL s₁.heap H) callerA [] s₁ H:=⟨rfl,hM,λb o e=>Hh e,Ox (IL _ _),trivial,λb hb=>absurd (show b∈([]:List Addr)from hb) (by simp),hok,.of_eq hg⟩;refine codeAny_mono ((F _ hKb (nsK hns) hSb).run callerA [] s₁ H ⟨[.ref a],[]⟩ [.ref a] [.ref a] _ _ hr e0 (hbind s₁ (.ref a)) (.cons rfl .nil) (hsp H hO hS)) λr s' h=>?_
  cases r with
  |error e=>exact(hCX H e s' h).elim
  |ok fl =>
   cases fl with
   |next=>exact False.elim h
   |brk=>exact False.elim h
   |cont=>exact False.elim h
   |ret u =>
    obtain⟨v,H',os,bare,un,hok',r',q⟩:=h;have q':v=.bl true:=q;subst q';obtain rfl:u=Value.bool true:=r';refine⟨rfl,OldK.of_keep λb o e=>?_,os,bare⟩;cases q:H b with
    |none=>exact un.keep b o e q (by intro z;exact absurd (show b∈([]:List Addr)from z) (by simp)) (by simp)
    |some u =>
     rcases hO b with z |⟨ob,xs,z⟩
     ·rw[q]at z;cases z
     ·have z2:=un.frzs b ob _ z;obtain⟨e1,_⟩:=hok b _ z;obtain⟨e2,_⟩:=hok' b _ z2;rw[e]at e1;cases e1;exact e2
 cases hk:K.lookup a with
 |some o =>have e:=KX a o hk;rw[ha]at e;cases e;refine core (λ_=>none) (λ_=>.inl rfl) (.inr ⟨_,vs.toArray,_,hk,rfl,rfl,rfl,by rw[NX,lenV];exact hl,by simpa using rv⟩) (λb u z=>by have z':(none:Option HO)=some u:=z;cases z') (λb z=>absurd rfl z) λz=>absurd rfl z
 |none =>
  refine core (λb=>if b=a then some (.frz { cls:=.type "list",data:=.seq vs.toArray } (.lst (ns.map V.int)))else none) (λb=>?_) (.inl (.inr ⟨{ cls:=.type "list",data:=.seq vs.toArray },if_pos rfl⟩)) (λb u z=>?_) (λb z=>?_) λ_=>hk
  ·by_cases hb:b=a
   ·exact .inr ⟨_,_,if_pos hb⟩
   ·exact .inl (if_neg hb)
  ·by_cases hb:b=a
   ·have z':=(if_pos hb).symm.trans z;cases z';subst hb;exact⟨ha,by rw[No];exact hl,vs,_,rv,ha⟩
   ·have z':=(if_neg hb).symm.trans z;cases z'
  ·by_cases hb:b=a
   ·exact hb
   ·exact absurd (if_neg hb) z
def walk_ofS{l:PySem.W.OpenLaw}{n k:Nat}{q:Program}{loose:List Str}{XP:(Str->Option Value)->Heap->Prop}{YP:World->Heap->Prop}{d:DefRec}{K:Params->PySem.W.Frag}{CX:World->CXT}{sp:World->Sp}{x:Str}
 (hi:PyProof.Rows.importsNone q=true) (hn:l.most=some n) (hn2:n<=sizeLine) (hdf:d.params.defaults=[]) (hr:Room k callerA)
 (hY:∀(w:World) (h:Heap),YP w h->(K w.params).In h)
 (F:∀(w:World) (mg:Str->Option Value) (fa:Addr) (h:Heap),(K w.params).In h->h.Ns mainGlobals mg->mg d.name=some (.ref fa) ->
   ∃fd:FuncData,(∀(s:Shared) (u:Value),BindsTo s fd ⟨[u],[]⟩ [(x,u)]) /\
    ∀base:Heap,(K w.params).In base->base.Ns mainGlobals mg->base.NoSeer->FnOk l.prog w (K w.params) mg base (CX w) k fa fd [x] (sp w))
 (hsp:∀(w:World) (H:Hp) (a:Addr) (ns:Ex),ns.length<=n->vt H->SqL (K w.params) H a (ns.map V.int)->sp w [.ref a] H (λv _=>v=.bl true) λ_ _ _=>False)
 (hCX:∀(w:World) (H:Hp) (s:Shared) (e:Value) (s':Shared),CX w [] H s (λ_ _ _=>False) e s'->False) :
 PySem.W.WalkO q loose XP YP l.row.toRowW d [] (λf vs=>PySem.call f vs):=by
 refine Att.attach_call hn hdf λw s₀ s₁ mg mb fa o pm cd doc a vs ns G Y ho hd hcd hmg hobj hints hlen hg=>?_
 have KX:=hY w _ Y;obtain⟨fd,hb,hF⟩:=F w mg fa _ KX G.T.g hmg;exact Ij KX G.T.g G.T.b G.T.builtins G.T.nolimit (G.T.seer hi) hg hobj hints (NP hlen hn2) hr hF hb (λH hO hS=>hsp w H a ns hlen hO hS) λH e s'=>hCX w H s₁ e s'
section
variable {X:Cx}{e:Env}{l:List Env}
def Ez{pins:List (Addr×Obj)}{σ:St}{H:Hp}{s:Shared}(hs:X.base.NoSeer)(ht:X.prog.given.tree=none)(hd:X.A.depth+100<recursionLimit)(hst:X.stack=e::l)(h1:e.scope.isGenerator=false)(h2:e.scope.isCoroutine=false)(h3:e.builtins=builtinsNs)(h4:e.globals=mainGlobals)(I:Inv X pins σ H s):PylongRoom (model X.prog X.w) X.A s :=
 PylongRoom.of (I.ok.mod.nolimit.keeps I.bk) hd (SeerAt.of (hs.keeps I.bk) ht (by rw[I.ok.frames,hst]) h1 h2 h3 h4)
def FJ(hs:X.base.NoSeer)(ht:X.prog.given.tree=none)(hd:X.A.depth+100<recursionLimit)(hst:X.stack=e::l)(h1:e.scope.isGenerator=false)(h2:e.scope.isCoroutine=false)(h3:e.builtins=builtinsNs)(h4:e.globals=mainGlobals):ci X (binaryOp .FloorDiv) (rI (λ_ j=>0<j) λi j=>.int (i/j)):=by intro pins s σ H x y v u Q I rx ry h;obtain⟨i,j,rfl,rfl,hj,q⟩:=h;obtain⟨t,rfl⟩:=rx;obtain⟨t',rfl⟩:=ry;have hj':(0:Int)<j:=hj;refine floordiv_int (N9 hj') ?_ (.inr (Ez hs ht hd hst h1 h2 h3 h4 I));rw[Int.fdiv_eq_ediv_of_nonneg _ (Oj hj')];exact⟨.int (i/j),H,I.tok _,⟨_,rfl⟩,q⟩
end
def Kz(a v:Value):argsOk "max" ⟨[a],[(Str.ofString "default",v)]⟩:=by unfold argsOk;kernel_rfl
def Top(val:Nat->Int)(n:Nat)(M:Int):Prop:=(∃i,i<n/\val i=M)/\∀i,i<n->val i<=M
def Top.more{val:Nat->Int}{n:Nat}{M:Int}(h:Top val n M)(hn:val n>M):Top val (n+1) (val n) :=
 ⟨⟨n,by omega,rfl⟩,λi hi=>by
   by_cases e:i=n
   ·subst e;exact OO _
   ·have:=h.2 i (by omega);omega⟩
def Top.less{val:Nat->Int}{n:Nat}{M:Int}(h:Top val n M)(hn:¬val n>M):Top val (n+1) M :=
 ⟨let⟨i,hi,e⟩:=h.1;⟨i,by omega,e⟩,λi hi=>by
  by_cases e:i=n
  ·subst e;omega
  ·exact h.2 i (by omega)⟩
section
variable {prog:Program}{w:World}{A:Around}{R:Result->Shared->Prop}{I S:Addr}{fp wr:List Addr}{n:Nat}{P:Nat->Value->Prop}{St:Nat->Heap->Prop}{val:Nat->Int}{d:Value}
def oz:(toString "max"++toString ".loop":String)="max.loop":=by decide
theorem HN(W:Walks prog w A.in1 I fp wr n P St)(hval:∀i v,P i v->∃t,v=.int (val i) t)(hSf:S∉fp) :
 ∀(k j:Nat) (s:Shared) (m:Int) (t:Tok) (c:Nat),n-j=k->j<=n->St j s.heap->Top val j m ->
 s.heap.get? S=some { cls:=.type "list",dict:=none,data:=.seq #[.int m t,.int m t] c,slots:=#[] } ->
 (∀M t h' tk,Top val n M->(∀b o,b∉wr->b≠S->s.heap.get? b=some o->h'.get? b=some o)->R (.ok (.ret (.int M t))) { s with heap:=h',toks:=tk }) ->
 codeAny (model prog w) A (.builtin "max.loop" ⟨[.ref I,.none,.ref S],[("default",d)]⟩) R s:=by
 have hSw:S∉wr:=λh=>hSf (W.sub _ h)
 have cm:=CmpOf.ints_gt (prog:=prog) (w:=w) (A:=A.in1) (P:=λi v=>∃t,v=.int (val i) t) val (λ_ _ h=>h);intro k
 induction k with
 |zero =>
  intro j s m t c hk hj hst hT hS hR;have hin:j=n:=by omega
  subst hin;refine codeAny_builtin F.entry_max_loop ?_;rw[Around.under_plainId F.plain_max_loop _];refine wpAny_bind (wpAny_seqItems hS rfl ?_);show wpAny _ A.in1 (tryCatch (pyNext (.ref I)) _ >>= _) _ _ s;refine wpAny_bind (wpAny_tryCatch (W.done s _ _ hst λh' tk hk'=>?_));show wpAny _ A.in1 (updateSeq S (λ_=>#[]) >>= _) _ _ _;refine wpAny_bind (wpAny_updateSeq (hk' S _ hSw hS) rfl (wpAny_bind (wpAny_letGo (wpAny_pure ?_))));exact hR m t _ tk hT λb o hb hbS e=>(Heap.get?_update_other _ _ (Ne.symm hbS)).trans (hk' b o hb e)
 |succ k ih =>
  intro j s m t c hk hj hst hT hS hR;have hlt:j<n:=by omega
  refine codeAny_builtin F.entry_max_loop ?_;rw[Around.under_plainId F.plain_max_loop _];refine wpAny_bind (wpAny_seqItems hS rfl ?_);show wpAny _ A.in1 (tryCatch (pyNext (.ref I)) _ >>= _) _ _ s;refine wpAny_bind (wpAny_tryCatch (W.item j s _ _ hlt hst λv h' tk hP hst' hk'=>?_));have hS':=hk' S _ hSw hS;obtain⟨u,rfl⟩:=hval j v hP;obtain⟨i0,_,e0⟩:=hT.1;show wpAny _ A.in1 (tryCatch (holding [_,_] (richCompare .Gt (.int (val j) u) (.int m t) >>= _)) _ >>= _) _ _ _;refine wpAny_bind (wpAny_tryCatch (wpAny_holding (wpAny_bind (cm j i0 _ _ _ _ _ ⟨u,rfl⟩ ⟨t,by rw[e0]⟩ ?_))));refine wpAny_bind (wpAny_holding (wpAny_truthy_bool ?_));refine wpAny_bind (wpAny_letGo (wpAny_pure ?_));show wpAny _ A.in1 (if decide (val j>val i0)=true then _ else _) _ _ _;rw[e0];by_cases hb:val j>m
  ·rw[decide_eq_true hb];simp only[if_true];refine wpAny_bind ?_;refine wpAny_updateSeq hS' rfl (wpAny_bind (wpAny_letGo ?_));rw[oz];refine wpAny_pure ⟨plainId_quiet F.plain_max_loop _,ih (j+1) _ (val j) u _ (by omega) hlt (W.frame _ _ _ hst' λb hbf o e=>?_) (hT.more hb) (Heap.get?_update_self _ hS' rfl) λM t' h'' tk'' hM hk''=>?_⟩
   ·exact(Heap.get?_update_other _ _ (λh:S=b=>hSf (h ▸ hbf))).trans e
   ·exact hR M t' h'' tk'' hM λb o hbw hbS e=>hk'' b o hbw hbS ((Heap.get?_update_other _ _ (Ne.symm hbS)).trans (hk' b o hbw e))
  ·rw[decide_eq_false hb];simp only[Bool.false_eq_true,if_false];refine wpAny_bind (wpAny_letGo ?_);rw[oz];refine wpAny_pure ⟨plainId_quiet F.plain_max_loop _,ih (j+1) _ m t c (by omega) hlt hst' (hT.less hb) hS' λM t' h'' tk'' hM hk''=>?_⟩;exact hR M t' h'' tk'' hM λb o hbw hbS e=>hk'' b o hbw hbS (hk' b o hbw e)
def HP(W:Walks prog w A.in1 I fp wr n P St)(hval:∀i v,P i v->∃t,v=.int (val i) t)(hSf:S∉fp){s:Shared}{c:Nat}(hst:St 0 s.heap)
 (hS:s.heap.get? S=some { cls:=.type "list",dict:=none,data:=.seq #[] c,slots:=#[] })
 (h0:n=0->∀h' tk,(∀b o,b∉wr->b≠S->s.heap.get? b=some o->h'.get? b=some o)->R (.ok (.ret d)) { s with heap:=h',toks:=tk })
 (hR:∀M t h' tk,Top val n M->(∀b o,b∉wr->b≠S->s.heap.get? b=some o->h'.get? b=some o)->R (.ok (.ret (.int M t))) { s with heap:=h',toks:=tk }) :
 codeAny (model prog w) A (.builtin "max.loop" ⟨[.ref I,.none,.ref S],[("default",d)]⟩) R s:=by
 have hSw:S∉wr:=λh=>hSf (W.sub _ h)
 refine codeAny_builtin F.entry_max_loop ?_;rw[Around.under_plainId F.plain_max_loop _];refine wpAny_bind (wpAny_seqItems hS rfl ?_);show wpAny _ A.in1 (tryCatch (pyNext (.ref I)) _ >>= _) _ _ s;by_cases hn:n=0
 ·subst hn;refine wpAny_bind (wpAny_tryCatch (W.done s _ _ hst λh' tk hk'=>?_));refine wpAny_bind (wpAny_rule (wpAny_pure ?_));exact h0 rfl h' tk λb o hb _ e=>hk' b o hb e
 ·refine wpAny_bind (wpAny_tryCatch (W.item 0 s _ _ (by omega) hst λv h' tk hP hst' hk'=>?_));have hS':=hk' S _ hSw hS;obtain⟨u,rfl⟩:=hval 0 v hP;show wpAny _ A.in1 (updateSeq S (λ_=>#[.int (val 0) u,.int (val 0) u]) >>= _) _ _ _;refine wpAny_bind (wpAny_updateSeq hS' rfl ?_);rw[oz];refine wpAny_pure ⟨plainId_quiet F.plain_max_loop _,HN W hval hSf _ 1 _ (val 0) u _ rfl (by omega) (W.frame _ _ _ hst' λb hbf o e=>?_) ⟨⟨0,by omega,rfl⟩,λi hi=>?_⟩ (Heap.get?_update_self _ hS' rfl) λM t h'' tk'' hM hk''=>?_⟩
  ·exact(Heap.get?_update_other _ _ (λh:S=b=>hSf (h ▸ hbf))).trans e
  ·have:i=0:=by omega
   subst this;exact OO _
  ·exact hR M t h'' tk'' hM λb o hbw hbS e=>hk'' b o hbw hbS ((Heap.get?_update_other _ _ (Ne.symm hbS)).trans (hk' b o hbw e))
end
section
variable {prog:Program}{w:World}{A:Around}{E:Value->Shared->Prop}{s:Shared}{l:Addr}{xs:Array (Int×Tok)}{d:Value}
theorem Kl{Q:Value->Shared->Prop}(hh:A.handled=none)(hl:s.heap.IsList l (intItems xs))
 (h0:xs.size=0->∀h' tk,(∀b o,s.heap.get? b=some o->h'.get? b=some o)->Q d { s with heap:=h',toks:=tk })
 (h:∀M t h' tk,Top (numAt xs) xs.size M->(∀b o,s.heap.get? b=some o->h'.get? b=some o)->Q (.int M t) { s with heap:=h',toks:=tk }) :
 wpAny (model prog w) A (call (.builtin "max") [.ref l] [("default",d)]) Q E s:=by
 refine wpAny_call (codeAny_call_builtin F.plain_max F.entry_max ?_);simp only[checkBuiltinCall,F.kind_max]
 have key:wpAny (model prog w) A.in1 (Builtin.«max» ⟨[.ref l],[("default",d)]⟩) (λfin s'=>match fin with
  |.done f=>(match(Except.ok f:Result)with |.ok (.ret v)=>Q v s' |.ok _=>False |.error e=>E e s')
  |.again c'=>c'.quiet=true/\codeAny (model prog w) A c' (λr s'=>match r with |.ok (.ret v)=>Q v s' |.ok _=>False |.error e=>E e s') s') E s:=by
  show wpAny _ A.in1 (Builtin.Builtins.bindParams "max" ["key","default"] 0 ⟨[],[("default",d)]⟩ >>= _) _ _ s;refine wpAny_bind (wpAny_of_eq (show Builtin.Builtins.bindParams "max" ["key","default"] 0 ⟨[],[("default",d)]⟩=pure [none,some d]from rfl) ?_);refine wpAny_bind (wpAny_pure ?_);refine wpAny_bind (iter_intList hl λs₂ e st hfp hlI=>?_);subst e;refine wpAny_bind (wpAny_newObj_type ?_);rw[oz];have W:=Walks.list (prog:=prog) (w:=w) (A:=A.in1) hh _ l hlI (intItems xs);have sz:(intItems xs).size=xs.size:=by simp[intItems]
  refine wpAny_pure ⟨plainId_quiet F.plain_max_loop _,HP W (val:=numAt xs) (λi v=>intItems_at) (λhm=>Op _ (hfp _ hm)) (W.frame _ _ _ st λb _ o e=>Heap.get?_push_of_some _ e) (Heap.get?_push_size _ rfl) (λhn h' tk hk=>?_) λM t h' tk hM hk=>?_⟩
  ·exact h0 (sz ▸ hn) h' tk (old_kept λb o hb e=>hk b o hb (NW (Heap.lt_size e)) (Heap.get?_push_of_some _ e))
  ·exact h M t h' tk (sz ▸ hM) (old_kept λb o hb e=>hk b o hb (NW (Heap.lt_size e)) (Heap.get?_push_of_some _ e))
 cases hsig:Manifest.signature? "max" with
 |none=>exact wpAny_pure key
 |some sig =>
  have ha':Bind.checkArgs "max" sig ⟨[.ref l],[("default",d)]⟩=pure ():=by simpa only[argsOk,hsig]using Kz (.ref l) d
  simp only[ha'];exact wpAny_pure key
end
def yK(K:PySem.W.Frag):R2:=λx y H Q=>∃(p:Addr) (ns:Ex),x=.ref p/\SqL K H p (ns.map V.int)/\(ns=[]->Q y H)/\∀M,M∈ns->(∀a∈ns,a<=M)->Q (.int M) H
theorem Am:∀{ns:Ex} {us:List Value},Vals (ns.map V.int) us->∃ts:List (Int×Tok),us.toArray=intItems ts.toArray/\ts.map (·.1)=ns
 | [],_,h=>by cases h;exact⟨[],by simp[intItems],rfl⟩
 |n::ns,_,h=>by
  cases h with
  |cons r rr =>obtain⟨t,rfl⟩:=r;obtain⟨ts,e1,e2⟩:=Am rr;refine⟨(n,t)::ts,?_,by rw[N0,e2]⟩;have e3:=congrArg Array.toList e1;simp only[intItems,List.map_toArray]at e3 ⊢;simpa using e3
def CK{ts:List (Int×Tok)}{M:Int}(h:Top (numAt ts.toArray) ts.toArray.size M):M∈ts.map (·.1)/\∀a∈ts.map (·.1),a<=M:=by
 have g:∀(i:Nat) (hi:i<ts.length),numAt ts.toArray i=(ts[i]).1:=λi hi=>by simp[numAt,hi]
 obtain⟨⟨i,hi,e⟩,h2⟩:=h;have hi':i<ts.length:=by simpa using hi
 constructor
 ·rw[<- e,g i hi'];exact NF.mpr ⟨_,OI hi',rfl⟩
 ·intro a ha;obtain⟨p,hp,rfl⟩:=NF.mp ha;obtain⟨j,hj,rfl⟩:=List.getElem_of_mem hp;rw[<- g j hj];exact h2 j (by simpa using hj)
section
variable {X:Cx}{K:PySem.W.Frag}{e ed:Expr}{ta td:TE}{p pos kp:Pos}
theorem Fv(hK:X.K=K)(hc:X.calm=true)(hg:Gl X "max")(hm:X.mg "max"=none)(ha:PE X e ta)(hd:PE X ed td)
 (he:starEach [e] X.env=(false,eval e X.env)::starEach [] X.env:=by rfl):PE X (.Call (.Name "max" p) [e] [⟨some "default",ed,kp⟩] pos) (tOp (yK K) ta td):=by
 subst hK;intro pins s σ H Q I h;refine wpAny_Call_Name_kw (gg I hg hm boot_max ?_ (by decide) (by decide));refine callWith_kw (aI (aa ha ae he pos pins s σ H (λvs H1=>match vs with | [x]=>td σ H1 λy H2=>yK X.K x y H2 Q |_=>False) I h) ?_) (by rw[he];rfl) (by rw[he];rfl) rfl rfl;rintro us s1 ⟨vs,H1,I1,r1,q1⟩
 obtain⟨x,rfl⟩:∃x,vs=[x]:=by
  match vs,q1 with
  | [x],_=>exact⟨x,rfl⟩
 obtain⟨u,rfl,ru⟩:=iu r1;refine kws_cons (aI (hd pins s1 σ H1 _ I1 q1) λv s2 ⟨y,H2,I2,ry,q2⟩=>kws_nil ?_);obtain⟨a,ns,rfl,hq,k0,k1⟩:=q2;cases ru;obtain⟨its,r',pl,hz⟩:=I2.list hq;obtain⟨ts,e1,e2⟩:=Am r';have il:=pl.isList;rw[e1]at il;refine Kl (I2.ok.hd hc) il (λh0 h' tk k=>⟨y,H2,I2.kept k,ry,k0 ?_⟩) λM t h' tk hM k=>⟨.int M,H2,I2.kept k,⟨t,rfl⟩,?_⟩
 ·have:ts=[]:=by simpa using h0
  rw[<- e2,this];rfl
 ·obtain⟨m1,m2⟩:=CK hM;rw[e2]at m1 m2;exact k1 M m1 m2
end
theorem BB:∀{bs:List Bool} {us:List Value},Vals (bs.map V.bl) us->us=bs.map Value.bool
 | [],_,h=>by cases h;rfl
 |b::bs,_,h=>by
  cases h with
  |cons r rr =>cases r;rw[BB rr];rfl
def KC(bs:List Bool):(List.range bs.length).any (λi=>bs.getD i false)=bs.any id:=by
 rw[Bool.eq_iff_iff,List.any_eq_true,List.any_eq_true];constructor
 ·rintro⟨i,hi,e⟩;have hi':=Oz.mp hi;refine⟨bs[i],OI hi',?_⟩;simpa[List.getD,List.getElem?_eq_getElem hi']using e
 ·rintro⟨b,hb,e⟩;obtain⟨i,hi,rfl⟩:=List.getElem_of_mem hb;refine⟨i,Oz.mpr hi,?_⟩;simpa[List.getD,List.getElem?_eq_getElem hi]using e
def Kq{X:Cx}{K:PySem.W.Frag}(hK:X.K=K)(hc:X.calm=true):fD X (.builtin "any") (λxs H Q=>∃(p:Addr) (bs:List Bool),xs=[.ref p]/\SqL K H p (bs.map V.bl)/\Q (.bl (bs.any id)) H):=by
 subst hK;intro pins s σ H xs us Q I r h;obtain⟨p,bs,rfl,hq,q⟩:=h;obtain⟨u,rfl,rx⟩:=iu r;cases rx;obtain⟨its,r',pl,hz⟩:=I.list hq;have e:=BB r';subst e;have hl:=pl.isList;have hlt:p<s.heap.objs.size:=by obtain⟨_,e,_⟩:=hl;exact Heap.lt_size e
 refine call_any_walk (wpAny_pyIter_list hl ?_);refine⟨_,_,_,_,_,_,λi=>bs.getD i false,rfl,Walks.list (A:=X.A.in1) (I.ok.hd hc) _ p (NW hlt) _,⟨⟨_,Heap.get?_push_size _ rfl,rfl,rfl⟩,hl.push _⟩,λi v s' Q' E' hP hQ=>?_,λh' tk hk=>?_⟩
 ·have e:v=.bool (bs.getD i false):=by have hP':((bs.map Value.bool).toArray)[i]?=some v:=hP;simp only[List.getElem?_toArray,List.getElem?_map,Option.map_eq_some_iff]at hP';obtain⟨b,hb,rfl⟩:=hP';simp[List.getD,hb]
  subst e;exact wpAny_truthy_bool hQ
 ·refine⟨.bl (bs.any id),H,I.kept (old_kept hk),?_,q⟩;show Value.bool _=Value.bool _;rw[<- KC bs];simp
section
variable {X:Cx}
end
theorem Ak:∀{ns:Ex} {us:List Value},Vals (ns.map V.int) us->∃l:List (Int×Tok),us=l.map (λp=>Value.int p.1 p.2)/\l.map (·.1)=ns
 | [],_,h=>by cases h;exact⟨[],rfl,rfl⟩
 |n::ns,_,h=>by
  cases h with
  |cons r rr =>obtain⟨t,rfl⟩:=r;obtain⟨l,rfl,e⟩:=Ak rr;exact⟨(n,t)::l,rfl,by rw[N0,e]⟩
theorem yV:∀(l:List (Int×Tok)) (n:Nat),n<=l.length->preSum (numAt l.toArray) n=((l.take n).map (·.1)).sum
 |l,0,_=>rfl
 |l,n+1,h=>by rw[preSum,yV l n (by omega),OP,List.getElem?_eq_getElem (by omega)];unfold numAt;rw[List.getElem?_toArray,List.getElem?_eq_getElem (by omega),Option.toList_some,NI,PC];show _=_+(l[n].1+0);rw[Of];rfl
def Kk{X:Cx}{K:PySem.W.Frag}(hK:X.K=K)(hc:X.calm=true):fD X (.builtin "sum") (λxs H Q=>∃(p:Addr) (ns:Ex),xs=[.ref p]/\SqL K H p (ns.map V.int)/\Q (.int ns.sum) H):=by
 subst hK;intro pins s σ H xs us Q I r h;obtain⟨p,ns,rfl,hq,q⟩:=h;obtain⟨u,rfl,rx⟩:=iu r;cases rx;obtain⟨its,r',pl,hz⟩:=I.list hq;obtain⟨l,rfl,e⟩:=Ak r'
 have hl:s.heap.IsList p (intItems l.toArray):=by
  have h1:=pl.isList;have e2:(l.map (λp=>Value.int p.1 p.2)).toArray=intItems l.toArray:=by unfold intItems;simp
  rw[<- e2];exact h1
 refine sum_intListG (I.ok.hd hc) hl λh' tk t' hk=>⟨.int ns.sum,H,I.kept hk,⟨t',?_⟩,q⟩
 have e3:preSum (numAt l.toArray) l.toArray.size=ns.sum:=by rw[NX,yV l l.length (Nv _),O8,e]
 rw[e3]
section
variable {X:Cx}{K:PySem.W.Frag}
end
section
variable {X:Cx}{K:PySem.W.Frag}
end
section
variable {prog:Program}{w:World}{A:Around}{E:Value->Shared->Prop}{s:Shared}
def Ia:typeLookup (.type "list_reverseiterator") "__len__"=pure none:=by rw[typeLookup_type,builtinLookup_eq_fast];kernel_rfl
def Ib:typeLookup (.type "list_reverseiterator") "__length_hint__"=pure (some (.builtin "list_reverseiterator.__length_hint__")):=by rw[typeLookup_type,builtinLookup_eq_fast];kernel_rfl
def EI{r:Addr}{Q:Bool->Shared->Prop}(hT:s.TypeIs (.ref r) "list_reverseiterator")(h:Q false s):wpAny (model prog w) A (Builtin.List.listLengthHint (.ref r)) Q E s:=by
 unfold Builtin.List.listLengthHint;refine wpAny_bind (wpAny_specialOf hT Ia ?_);show wpAny _ A (specialOf (Value.ref r) (Str.ofString "__length_hint__") >>= _) _ _ _;refine wpAny_bind (wpAny_specialOf hT Ib ?_);generalize hid:("list_reverseiterator.__length_hint__":String)=id0
 wp_delta
 rw[show splitId id0=some ("list_reverseiterator","__length_hint__")from by subst hid;decide +kernel];subst hid;refine wpAny_bind (wpAny_isInstance (T:="list_reverseiterator") (b:=true) hT (by rw[isSubtype_type];kernel_rfl) ?_);refine wpAny_ite_split (λhab=>absurd hab (by decide)) (λ_=>?_);refine wpAny_ite_split (λ_=>?_) (λhab=>absurd (by decide +kernel) hab);refine wpAny_ite_split (λhab=>absurd hab (by decide +kernel)) (λ_=>?_);exact wpAny_pure h
def EJ{R:Result->Shared->Prop}{I l:Addr}{items:Array Value}(hh:A.handled=none)(hit:s.heap.IsRevIter I l ((items.size:Int)-1))(hl:s.heap.IsList l items)(hne:l≠I)(S:Addr)(hSI:S≠I)(hSl:S≠l)(res:Value)(c₀:Nat)
 (hS:s.heap.get? S=some { cls:=.type "list",data:=.seq #[] c₀ })
 (hR:∀h' tk acc' c',(∀b o,b≠S->b≠I->s.heap.get? b=some o->h'.get? b=some o)->h'.get? S=some { cls:=.type "list",dict:=none,data:=.seq acc' c',slots:=#[] }->ItemsOf (λi v=>items[items.size-1-i]?=some v) acc' items.size->R (.ok (.ret res)) { s with heap:=h',toks:=tk }) (hn:items.size<=sizeLine) :
 wpAny (model prog w) A.in1 (Builtin.List.listExtendWith (.ref S) (.ref I) res)
  (λfin s'=>match fin with |.done f=>R (.ok f) s' |.again c'=>c'.quiet=true/\codeAny (model prog w) A c' R s') (λe s'=>R (.error e) s') s:=by
 have hSf:S∉[I,l]:=by simp only[NR,List.not_mem_nil,or_false,not_or];exact⟨hSI,hSl⟩
 have W:=Walks.listRev (prog:=prog) (w:=w) (A:=A.in1) hh I l hne items;have st:0<=items.size/\s.heap.IsRevIter I l ((items.size:Int)-1-((0:Nat):Int))/\s.heap.IsList l items:=⟨Nw _,by rw[show(items.size:Int)-1-((0:Nat):Int)=(items.size:Int)-1 by omega];exact hit,hl⟩;unfold Builtin.List.listExtendWith;refine wpAny_bind (wpAny_typeOf (T:="list_reverseiterator") hit.typeIs ?_);have h1:Builtin.List.listSameRef (.ref S) (.ref I)=false:=by simp[Builtin.List.listSameRef,hSI]
 have h2:(Value.type "list_reverseiterator" == Value.type "list")=false:=by decide
 have h3:(Value.type "list_reverseiterator" == Value.type "tuple")=false:=by decide
 simp only[h1,h2,h3,Bool.or_false,Bool.false_eq_true,if_false];refine wpAny_bind (wpAny_pyIter_revIter hit ?_);refine wpAny_bind (wpAny_holding (EI hit.typeIs ?_));refine wpAny_ite_split (λhab=>absurd hab (by decide)) (λ_=>wpAny_pure ⟨plainId_quiet PySem.F.plain_extend_loop _,?_⟩);refine codeAny_extend_loopS W.toS hn S hSf res items.size 0 _ #[] c₀ rfl (Nw _) st hS (ItemsOf.nil _) λs' acc' c' hm hS' hacc=>?_
 rw[Moved.eq_with hm];refine hR s'.heap s'.toks acc' c' (λb o hb hb' e=>hm.heap b o (λhmem=>?_) e) hS' hacc;rcases NR.mp hmem with e' |hmem
 ·exact hb e'
 ·exact hb' (NU.mp hmem)
def EH{R:Result->Shared->Prop}{I l:Addr}{items:Array Value}(hh:A.handled=none)(hit:s.heap.IsRevIter I l ((items.size:Int)-1))(hl:s.heap.IsList l items)(hne:l≠I)(S:Addr)(hSI:S≠I)(hSl:S≠l)
 (hS:s.heap.get? S=some { cls:=.type "list",data:=.seq #[] })
 (hR:∀h' tk acc' c',(∀b o,b≠S->b≠I->s.heap.get? b=some o->h'.get? b=some o)->h'.get? S=some { cls:=.type "list",dict:=none,data:=.seq acc' c',slots:=#[] }->ItemsOf (λi v=>items[items.size-1-i]?=some v) acc' items.size->R (.ok (.ret .none)) { s with heap:=h',toks:=tk }) (hn:items.size<=sizeLine) :
 wpAny (model prog w) A.in1 (Builtin.«list.__init__» ⟨[.ref S,.ref I],[]⟩)
  (λfin s'=>match fin with |.done f=>R (.ok f) s' |.again c'=>c'.quiet=true/\codeAny (model prog w) A c' R s') (λe s'=>R (.error e) s') s:=by
 show wpAny _ _ (do let old <- Builtin.List.listItems (.ref S);Builtin.List.listUpdate (.ref S) (λ_=>#[]);letGo old.toList.reverse;Builtin.List.listExtendWith (.ref S) (.ref I) .none) _ _ s;refine wpAny_bind ?_;unfold Builtin.List.listItems;refine wpAny_bind (wpAny_seqItems hS rfl (wpAny_pure ?_));show wpAny _ _ (updateSeq S (λ_=>#[]) >>= λ_=>letGo (#[]:Array Value).toList.reverse >>= λ_=>Builtin.List.listExtendWith (.ref S) (.ref I) .none) _ _ s;refine wpAny_bind (wpAny_updateSeq hS rfl ?_);have hS₂:=Heap.get?_update_self (Obj.mapSeq (λ_=>(#[]:Array Value))) hS rfl
 have oth:∀b o,b≠S->s.heap.get? b=some o->(s.heap.update S (Obj.mapSeq (λ_=>(#[]:Array Value)))).get? b=some o :=
  λb o hb e=>(Heap.get?_update_other _ _ (Ne.symm hb)).trans e
 refine wpAny_bind (wpAny_letGo ?_);refine EJ hh (hit.at λo e=>oth I o hSI.symm e) (hl.at λo e=>oth l o hSl.symm e) hne S hSI hSl .none _ hS₂ (λh' tk acc' c' hk hS' hacc=>?_) hn;exact hR h' tk acc' c' (λb o hb hb' e=>hk b o hb hb' (oth b o hb e)) hS' hacc
def EK{Q:Value->Shared->Prop}{I l:Addr}{items:Array Value}(hh:A.handled=none)(hit:s.heap.IsRevIter I l ((items.size:Int)-1))(hl:s.heap.IsList l items)(hne:l≠I)(hn:items.size<=sizeLine)
 (hQ:∀h' tk acc' c',(∀b o,b≠I->s.heap.get? b=some o->h'.get? b=some o)->h'.get? s.heap.objs.size=some { cls:=.type "list",dict:=none,data:=.seq acc' c',slots:=#[] }->ItemsOf (λi v=>items[items.size-1-i]?=some v) acc' items.size->Q (.ref s.heap.objs.size) { s with heap:=h',toks:=tk }) :
 wpAny (model prog w) A (call (.type "list") [.ref I]) Q E s:=by
 refine callType_codes (Q₁:=λobj s₁=>obj=.ref s.heap.objs.size/\s₁={ s with heap:=s.heap.push { cls:=.type "list",data:=.seq #[] } }) PySem.F.called_list (PySem.F.typeCall_list_1 _) PySem.F.entry_list_init
  (code_list_new _ ⟨rfl,rfl⟩) λobj s₁ h₁=>?_
 obtain⟨rfl,rfl⟩:=h₁;have hS:(s.heap.push { cls:=.type "list",data:=.seq #[] }).get? s.heap.objs.size=some { cls:=.type "list",data:=.seq #[] }:=Heap.get?_push_size _ rfl;have hI:I<s.heap.objs.size:=by obtain⟨o,e,_⟩:=hit;exact Heap.lt_size e
 have hl':l<s.heap.objs.size:=by obtain⟨o,e,_⟩:=hl;exact Heap.lt_size e
 refine⟨⟨_,hS,rfl⟩,PySem.F.args_list_init_2 _ _,EH (A:=A.in1) hh (hit.at λo e=>Heap.get?_push_of_some _ e) (hl.at λo e=>Heap.get?_push_of_some _ e) hne _ (Px hI) (Px hl') hS (λh' tk acc' c' hk hS' hacc=>?_) hn⟩;exact⟨rfl,hQ h' tk acc' c' (λb o hb e=>hk b o (NW (Heap.lt_size e)) hb (Heap.get?_push_of_some _ e)) hS' hacc⟩
end
def EG{xs:List V}{its:List Value}{acc:Array Value}(r:Vals xs its)(h:ItemsOf (λi v=>its.toArray[its.toArray.size-1-i]?=some v) acc its.toArray.size):Vals xs.reverse acc.toList:=by
 have e:acc.toList=its.reverse:=by
  apply List.ext_getElem?;intro i;have hs:acc.size=its.length:=by have:=h.1;simpa using this
  by_cases hi:i<its.length
  ·obtain⟨v,hv⟩:∃v,acc[i]?=some v:=⟨_,Array.getElem?_eq_getElem (by omega)⟩;have q:=h.2 i v hv;rw[List.getElem?_reverse hi,Array.getElem?_toList,hv];simpa using q.symm
  ·rw[List.getElem?_eq_none_iff.mpr (by simp;omega),List.getElem?_eq_none_iff.mpr (by simp;omega)]
 rw[e];exact r.reverse
section
variable {X:Cx}{K:PySem.W.Frag}
def Db(K:PySem.W.Frag)(ta:TA):TE:=λσ H Q=>ta σ H λvs H1=>∃a xs,vs=[.ref a]/\SqL K H1 a xs/\∀p,H1 p=none->Q (.ref p) (upd H1 p (.lst xs.reverse))
def Fw{a:Expr}{ta:TA}{p1 p2 pos1 pos2:Pos}(hK:X.K=K)(hc:X.calm=true)(hg:Gl X "list")(hm:X.mg "list"=none)(hg2:Gl X "reversed")(hm2:X.mg "reversed"=none)(ha:PA X [a] ta)(hs:starEach [a] X.env=[(false,eval a X.env)]:=by rfl)
 (hs2:starEach [.Call (.Name "reversed" p2) [a] [] pos2] X.env=[(false,eval (.Call (.Name "reversed" p2) [a] [] pos2) X.env)]:=by rfl):PE X (.Call (.Name "list" p1) [.Call (.Name "reversed" p2) [a] [] pos2] [] pos1) (Db K ta):=by
 subst hK;intro pins s σ H Q I h;refine Call_ (gg I hg hm PyProof.Rows.boot_list (PyProof.Rows.callWith_type1 ?_ hs2 rfl));rw[hs2];show wpAny _ _ (spliced ((false,eval (.Call (.Name "reversed" p2) [a] [] pos2) X.env)::[])) _ _ s;refine Calls.spliced_cons (Call_ (gg I hg2 hm2 boot_reversed (PyProof.Rows.callWith_type1 (aI (ha pos2 pins s σ H _ I h) ?_) hs rfl)));rintro us s1 ⟨vs,H1,I1,r1,q1⟩;obtain⟨a',xs,e,hq,q⟩:=q1;subst e;obtain⟨u,rfl,ru⟩:=r1.one;cases ru;obtain⟨its,rv,pl,hz⟩:=I1.list hq;have hlen:=rv.length;refine call_reversed_list pl.isList (Calls.spliced_nil ?_);have hlt:a'<s1.heap.objs.size:=by obtain⟨o,e,_⟩:=pl.isList;exact Heap.lt_size e
 refine EK (s:={ s1 with heap:=s1.heap.push (revObj a' ((its.toArray.size:Int)-1)) }) (I.ok.hd hc) ⟨_,Heap.get?_push_size _ rfl,rfl,rfl⟩ (pl.isList.at λo e=>Heap.get?_push_of_some _ e) (NW hlt) (by rw[NX];omega) λh' tk acc' c' hk hS' hacc=>?_
 have hsz:(s1.heap.push (revObj a' ((its.toArray.size:Int)-1))).objs.size=s1.heap.objs.size+1:=Heap.size_push ..;have kept:∀b o,s1.heap.get? b=some o->h'.get? b=some o:=λb o e=>hk b o (NW (Heap.lt_size e)) (Heap.get?_push_of_some _ e)
 have hge:s1.heap.objs.size<=(s1.heap.push (revObj a' ((its.toArray.size:Int)-1))).objs.size:=by rw[hsz];exact Nat.le_succ _
 have hf:H1 (s1.heap.push (revObj a' ((its.toArray.size:Int)-1))).objs.size=none:=I1.hok.fresh hge;have rvv:=EG rv hacc;refine⟨.ref _,_,I1.laid (t':=tk) kept hge ?_,rfl,q _ hf⟩;exact⟨by rw[NS];exact hz,acc'.toList,c',rvv,by rw[Array.toArray_toList];exact hS'⟩
def Fr{pos:Pos}{es:List Expr}{k:Nat}{t:TGs}{n:Nat}(hK:X.K=K)(hc:X.calm=true)(h:PGs X es t)(hn:(assignEach es X.env).length=n)(hst:(assignEach es X.env).findIdx? (·.1)=none):PG X (.Tuple es k pos) (Az K n t):=by subst hK;exact oj hc h hn hst
end
theorem Ic{prog:Program}{w:World}{A:Around}{s:Shared}{elt target iter cond:Expr}{scope:Scope}{pos:Pos}{it acc:Value}{env:Env}{R:Result->Shared->Prop}(J:Nat->Shared->Prop)
 (turn:∀n s,J n s->wpAny (model prog w) A (pyNext it) (λr a=>match r with
   |none=>R (.ok .next) a
   |some v=>wpAny (model prog w) A (letOwnedTupleGo target it v) (λ_ b=>wpAny (model prog w) A (assign target env v) (λ_ c =>
    wpAny (model prog w) A (isTrue cond env (eval cond env)) (λok d =>
     if ok=true then wpAny (model prog w) A (eval elt env) (λx f =>wpAny (model prog w) A (call (.builtin "list.append") [acc,x]) (λ_ g=>∃m,m<n/\J m g) (notedBy (model prog w) A env λe z=>R (.error e) z) f) (notedBy (model prog w) A env λe z=>R (.error e) z) d
     else ∃m,m<n/\J m d) (notedBy (model prog w) A env λe z=>R (.error e) z) c)
    (notedBy (model prog w) A env λe z=>R (.error e) z) b) (notedBy (model prog w) A env λe z=>R (.error e) z) a) (notedBy (model prog w) A env λe z=>R (.error e) z) s)
 (n:Nat) (h:J n s):codeAny (model prog w) A (.compLoop (.ListComp elt [⟨target,iter,[cond],0⟩] scope pos) 0 it acc env) R s:=by
 refine codeAny_loop rfl J (λn s hJ=>?_) n h;change wpAny _ A ((compTurn (.ListComp elt [⟨target,iter,[cond],0⟩] scope pos) 0 it acc env).onRaise (λx=>do noteFrame x env;theTreesLotGoes x)) _ _ s;refine wpAny_noted ?_;rw[compTurn_list];refine wpAny_bind (wpAny_standAt (wpAny_bind (wpAny_mono (turn n s hJ) (λr a h1=>?_) λ_ _ z=>z)));cases r with
 |none=>exact wpAny_pure h1
 |some v =>
  refine wpAny_bind (wpAny_mono h1 (λ_ b h2=>?_) λ_ _ z=>z);refine wpAny_bind (wpAny_mono h2 (λ_ c h3=>?_) λ_ _ z=>z);refine wpAny_bind (wpAny_tests_one (wpAny_mono h3 (λok d h4=>?_) λ_ _ z=>z));cases ok with
  |false=>exact wpAny_pure ⟨rfl,h4⟩
  |true=>exact wpAny_bind (wpAny_bind (wpAny_mono h4 (λx f h5=>wpAny_bind (wpAny_mono h5 (λ_ g h6=>wpAny_pure (wpAny_pure ⟨rfl,h6⟩)) λ_ _ z=>z)) λ_ _ z=>z))
def B8(n:Nat)(js:List Nat)(g:TG)(tt:TT)(te:TE)(σ:St)(Q:VK)(J:It)(H1:Hp):Prop:=∃W:Nat->Nat->List V->St->Hp->Prop,(∃m,W 0 m [] (fT n js σ) H1) /\
 ∀i m ys Q2 H',W i m ys Q2 H' ->
  (J.stop i H'/\∀p,H' p=none->Q (.ref p) (upd H' p (.lst ys))) \/
  (J.go i H'/\ys.length<sizeLine/\∃N:Option V->St->Hp->Prop,(∀y Q1 H'',N y Q1 H''->∃m',m'<m/\W (i+1) m' (ys++y.toList) Q1 H'')/\∀x H2,J.yld i H' x H2->g x Q2 H2 λQ4 H3=>tt Q4 H3 λkk H4=>if kk=true then te Q4 H4 λy H5=>N (some y) Q4 H5 else N none Q4 H4)
def Dd(n:Nat)(js:List Nat)(wi:TI)(g:TG)(tt:TT)(te:TE):TE:=λσ H Q=>wi σ H λJ H1=>B8 n js g tt te σ Q J H1
section
variable {X:Cx}{own fr:List Str}{js:List Nat}{scope:Scope}{cl:List (Str×Addr)}{elt target iter:Expr}{pos:Pos}{wi:TI}{g:TG}{te:TE}{cond:Expr}{tt:TT}
theorem Kc{pins:List (Addr×Obj)}{σ:St}{H:Hp}{s:Shared}{fp:List Addr}{it:Addr}{tn:Nat->Heap->Prop}{J:It}{E:Value->Shared->Prop}{Q:VK}{RR:Value->Addr->Result->Shared->Prop}(O:CompOk X fr js scope cl)(hl:fr.length=js.length)(hcm:X.calm=true)
 (I:Inv X pins σ H s) (T:Turn X.prog X.w X.K target J fp it tn) (st:tn 0 s.heap) (hf:∀b∈fp,f6 X pins H b)
 (hg:∀C s₀ H₀ ex,PG (dG X (own++fr) scope cl C s₀ H₀ ex) target g) (he:∀C s₀ H₀ ex,PE (dG X (own++fr) scope cl C s₀ H₀ ex) elt te) (hc:∀C s₀ H₀ ex,PT (dG X (own++fr) scope cl C s₀ H₀ ex) cond tt)
 (W:Nat->Nat->List V->St->Hp->Prop) {m0:Nat} (w0:W 0 m0 [] (fT own.length js σ) H)
 (turn:∀i m ys Q2 H',W i m ys Q2 H' ->
   (J.stop i H'/\∀p,H' p=none->Q (.ref p) (upd H' p (.lst ys))) \/
   (J.go i H'/\ys.length<sizeLine/\∃N:Option V->St->Hp->Prop,(∀y Q1 H'',N y Q1 H''->∃m',m'<m/\W (i+1) m' (ys++y.toList) Q1 H'')/\∀x H2,J.yld i H' x H2->g x Q2 H2 λQ4 H3=>tt Q4 H3 λkk H4=>if kk=true then te Q4 H4 λy H5=>N (some y) Q4 H5 else N none Q4 H4))
 (hRR:∀D C s',B9 X pins σ Q D C s'->RR (.ref D) C (.ok .next) s') :
 wpAny (model X.prog X.w) X.A (newList []) (λacc s₃=>wpAny (model X.prog X.w) X.A (newFunctionEnv scope X.env.globals cl [] X.env.qual none .none (some X.env)) (λcenv s₄ =>
  codeAny (model X.prog X.w) X.A (.compStart (.ListComp elt [⟨target,iter,[cond],0⟩] scope pos) 0 (.ref it) acc { cenv with scope:=relabel scope X.env }) (RR acc cenv.locals) s₄) E s₃) E s:=by
 refine wpAny_newObj_type (wpAny_newFunctionEnv O.cell (by intro y hy;simp at hy) (λh₁ hns₁ hsb₁=>?_) O.kind);dsimp only at hns₁ hsb₁ ⊢
 generalize hH2:s.heap.push { cls:=.type "list",dict:=none,data:=.seq ([]:List Value).toArray }=H2 at hns₁ hsb₁ ⊢
 have hCs:H2.objs.size=s.heap.objs.size+1:=by rw[<- hH2,Heap.size_push]
 have hDC:s.heap.objs.size≠H2.objs.size:=by rw[hCs];exact NW (OM _)
 have hCge:s.heap.objs.size<=H2.objs.size:=by rw[hCs];exact Nat.le_succ _
 have below:∀b,b<s.heap.objs.size->b≠H2.objs.size/\b≠s.heap.objs.size:=λb hb=>⟨by rw[hCs];exact NW (Nat.lt_succ_of_lt hb),NW hb⟩
 have old:∀b o,s.heap.get? b=some o->h₁.get? b=some o:=λb o e=>hsb₁.extBut b o (below b (Heap.lt_size e)).1 (Heap.get?_push_of_some _ (hH2 ▸ Heap.get?_push_of_some _ e))
 have hacc:h₁.get? s.heap.objs.size=some { cls:=.type "list",data:=.seq ([]:List Value).toArray 0 }:=hsb₁.extBut _ _ hDC (Heap.get?_push_of_some _ (hH2 ▸ Heap.get?_push_size _ rfl));have ho:∀b∈fp,b<s.heap.objs.size:=λb hb=>by obtain⟨o,e,_⟩:=T.obj 0 _ st b hb;exact Heap.lt_size e
 generalize hDe:s.heap.objs.size=D at *
 generalize hCe:H2.objs.size=C at *
 let X':Cx:=dG X (own++fr) scope cl C s H fp
 have ok':X'.Ok:=uR O I (by rw[hDe];exact hCge) hf (by rw[hDe];exact ho)
 have hDfs:D∉X'.fs:=by
  intro z;rcases NR.mp (I.stkSub D z)with q |q
  ·exact absurd I.lt (by rw[<- q,hDe];exact Op _)
  ·exact I.nofs (Ox hDe) q
 have hDfp:∀b∈fp,D≠b:=λb hb z=>absurd (ho b hb) (by rw[z];exact Op _)
 have hDcell:∀x c,cl.lookup x=some c->c≠D:=λx c e z=>by obtain⟨v,q⟩:=I.cell x c (gN O e);exact absurd q.lt (by rw[z,hDe];exact Op _)
 have fpok:∀{H':Hp} {pins':List (Addr×Obj)},(∀p∈pins',p.1=D)->(∀b∈fp,H' b=none)->∀b∈fp,f6 X' pins' H' b:=λ{H' pins'} hp hn b hb=>by
  obtain⟨f0,f1,f2,f3,f4,f5⟩:=hf b hb;refine⟨hn b hb,(below b (ho b hb)).1,λz=>?_,.inl hb,λx c e=>f4 x c (gN O e),λp hp'=>?_⟩
  ·rcases NR.mp (I.stkSub b z)with q |q
   ·exact f1 q
   ·exact f2 q
  ·have hp'':p∈pins':=by simpa[X',dG]using hp'
   rw[hp p hp''];exact hDfp b hb
 have loop:∀s₃:Shared,s₃={ s with heap:=h₁,toks:=s.toks+([]:List (Str×Value)).length } ->
  codeAny (model X.prog X.w) X.A (.compLoop (.ListComp elt [⟨target,iter,[cond],0⟩] scope pos) 0 (.ref it) (.ref D) (compEnvC scope cl C X.env)) (RR (.ref D) C) s₃:=by
  rintro s₃ rfl
  refine Ic (λk s'=>∃i Q2 H' ys its nn,Inv X' [] Q2 H' s'/\tn i s'.heap/\(∀b∈fp,H' b=none)/\H' D=none/\s'.heap.get? D=some { cls:=.type "list",data:=.seq (its:List Value).toArray nn }/\Vals ys its/\ys.length<=sizeLine/\W i k ys Q2 H') ?_ m0
   ⟨0,_,H,[],[],0,Bb O hl I (by rw[hDe];exact hCge) hf (by rw[hDe];exact ho) rfl rfl (by intro b o e;exact old b o e) hns₁,T.keep _ _ _ st λb _ o e=>old b o e,λb hb=>(hf b hb).1,I.hok.fresh (Ox hDe),hacc,.nil,Nw _,w0⟩
  rintro k s' ⟨i,Q2,H',ys,its,nn,I',st',hfn,hDn,hDo,rv,hz,w⟩;have hlen:=rv.length;have hpD:∀p∈[(D,({ cls:=.type "list",data:=.seq its.toArray nn }:Obj))],p.1=D:=λp hp=>by rw[NU.mp hp]
  have Ip:Inv X' [(D,({ cls:=.type "list",data:=.seq its.toArray nn }:Obj))] Q2 H' s':=I'.pins_of λp hp=>by rw[NU.mp hp];exact⟨hDo,hDn,hDC,hDfs,λv z=>by cases z⟩
  rcases turn i k ys Q2 H' w with⟨stop,fin⟩ |⟨go,hlt,N,hN,step⟩
  ·refine wpAny_mono (T.done X' rfl rfl rfl hcm i _ s' Q2 H' (λ_ _=>False) Ip (fpok hpD hfn) st' stop) (λr s4 ⟨hr,I4⟩=>?_) λ_ _ z=>False.elim z
   subst hr;refine hRR D C s4 ?_;have hD4:s4.heap.get? D=some { cls:=.type "list",data:=.seq its.toArray nn }:=(I4.pin _ (N6 _ (NU.mpr rfl))).1;have un:Un (frs X.stack) fp H (upd H' D (.lst ys)) s.heap s4.heap:=Un.adopt I4.base (Ox hDe) (I.hok.fresh (Ox hDe));have hok:HOk X.prog X.w (upd H' D (.lst ys)) s4.heap:=HOk.adopt I4.hok hDn ⟨hz,its,nn,rv,hD4⟩;refine⟨upd H' D (.lst ys),I.call' I4.os un hok I4.bare λb hb=>?_,fin D hDn,?_,?_,?_,λx c e z=>?_,λp hp z=>?_,?_⟩
   ·obtain⟨f0,f1,f2,f3,f4,f5⟩:=hf b hb;exact⟨f3,f1,f4,f5⟩
   ·rw[upd_ne (Ne.symm hDC)];exact I4.free
   ·exact Px (N8 I.lt (by rw[hDe];exact hCge))
   ·exact NP I.sz (by rw[hDe];exact hCge)
   ·obtain⟨v,q⟩:=I.cell x c e;exact absurd (N8 q.lt (by rw[hDe,z];exact hCge)) (Op _)
   ·exact absurd (N8 (Heap.lt_size (I.pin p hp).1) (by rw[hDe,z];exact hCge)) (Op _)
   ·obtain⟨m',hn',_⟩:=I4.loc;exact⟨m',hn'⟩
  ·refine wpAny_mono (T.item X' rfl rfl rfl hcm i _ s' Q2 H' (λ_ _=>False) Ip (fpok hpD hfn) st' go) (λr s4 ⟨u,hr,h4⟩=>?_) λ_ _ z=>False.elim z
   subst hr;refine wpAny_mono h4 (?_) λ_ _ z=>False.elim z
   rintro _ s5 ⟨x,H5,I5,r5,y5,st5,fr5⟩;have I5':=I5.pinned (fpok hpD fr5) (T.obj _ _ st5);refine wpAny_mono (hg C s H fp _ s5 Q2 H5 x u _ I5' r5 (step x H5 y5)) (?_) λ_ _ z=>False.elim z
   rintro _ s6 ⟨Q5,H6,I6,q6⟩;refine wpAny_mono (hc C s H fp _ s6 Q5 H6 _ I6 q6) (λok s6' hok=>?_) λ_ _ z=>False.elim z
   obtain⟨H6',I6',q6'⟩:=hok;cases ok with
   |false =>
    obtain⟨m',hm',w7⟩:=hN none Q5 H6' q6';have hD7:=I6'.pin (D,{ cls:=.type "list",data:=.seq its.toArray nn }) (N6 _ (OH _ (NU.mpr rfl)));have I7':Inv X' [] Q5 H6' s6':=I6'.pins_of λp hp=>absurd hp (by simp)
    refine⟨m',hm',i+1,Q5,H6',ys,its,nn,I7',T.keep _ _ _ st5 λb hb o e=>?_,λb hb=>?_,hD7.2.1,hD7.1,rv,hz,by simpa using w7⟩
    ·exact(I6'.pin (b,o) (N6 _ (N6 _ (iJ hb e)))).1
    ·obtain⟨o,e,d⟩:=T.obj _ _ st5 b hb;exact(I6'.pin (b,o) (N6 _ (N6 _ (iJ hb e)))).2.1
   |true =>
    refine wpAny_mono (he C s H fp _ s6' Q5 H6' _ I6' q6') (?_) λ_ _ z=>False.elim z
    rintro v s7 ⟨y,H7,I7,r7,n7⟩;obtain⟨m',hm',w7⟩:=hN (some y) Q5 H7 n7;have hD7:=I7.pin (D,{ cls:=.type "list",data:=.seq its.toArray nn }) (N6 _ (OH _ (NU.mpr rfl)));refine append_at hD7.1 (λh8 sb hD8=>?_) (by rw[NX,<- hlen];exact hz);have I7':Inv X' [] Q5 H7 s7:=I7.pins_of λp hp=>absurd hp (by simp)
    have I8:Inv X' [] Q5 H7 { s7 with heap:=h8 }:=I7'.turned (t':=s7.toks) (it:=D) (λb o hb e=>(sb.2 b hb).trans e) hD7.2.1 hDC (.inr (Ox hDe)) hDcell (λp hp=>absurd (show p∈([]:List (Addr×Obj))from hp) (by simp));refine⟨m',hm',i+1,Q5,H7,ys++[y],its++[v],nn+1,I8,T.keep _ _ _ st5 λb hb o e=>?_,λb hb=>?_,hD7.2.1,?_,rv.append (.cons r7 .nil),?_,w7⟩
    ·exact(sb.2 b (λz=>hDfp b hb z.symm)).trans (I7.pin (b,o) (N6 _ (N6 _ (iJ hb e)))).1
    ·obtain⟨o,e,d⟩:=T.obj _ _ st5 b hb;exact(I7.pin (b,o) (N6 _ (N6 _ (iJ hb e)))).2.1
    ·rw[hD8,List.push_toArray]
    ·rw[Nq,List.length_singleton];exact hlt
 exact codeAny_compStart_list (loop _ rfl) (T.self _ 0 _ _ _ (T.keep _ _ _ st λb _ o e=>old b o e) (loop _ rfl))
def yU{i:Nat}{y:Str}{py spos:Pos}(hN:X.N.Nodup)(hy:X.N[i]?=some y)(hly:Loc X.env.scope y)(O:CompOk X fr js scope cl)(hcm:X.calm=true)(hi:PI X target iter wi)(hg:∀C s₀ H₀ ex,PG (dG X (own++fr) scope cl C s₀ H₀ ex) target g)
 (he:∀C s₀ H₀ ex,PE (dG X (own++fr) scope cl C s₀ H₀ ex) elt te) (hc:∀C s₀ H₀ ex,PT (dG X (own++fr) scope cl C s₀ H₀ ex) cond tt) (hsw:swapsWith (.ListComp elt [⟨target,iter,[cond],0⟩] scope pos) (some (.Name y py)) spos.line X.env=pure true)
 (hf:X.fn y=true\/X.env.scope.names.lookup y=some .local:=by first |exact .inl rfl |exact .inr rfl |assumption) (hs:∀x,foldedSetIterable iter X.env x=pure x:=by intro _;rfl) :
 PS X (.Assign [.Name y py] (.ListComp elt [⟨target,iter,[cond],0⟩] scope pos) spos) (gz (Dd own.length js wi g tt te) (fC i)):=by
 intro pins s σ H D I h;rw[exec_Assign_Name_used _ _ _ _ hsw];refine wpAny_bind (wpAny_standAt (wpAny_bind ?_));show wpAny _ X.A (do let _ <- comprehension (.ListComp elt [⟨target,iter,[cond],0⟩] scope pos) scope X.env _ (newList []) false (eval iter X.env) (some (assign (.Name y py) X.env))) _ _ s
 refine wpAny_bind (wpAny_mono (wpAny_comprehension_free (use:=some (assign (.Name y py) X.env)) (Q:=λ_ s'=>SP X pins D .next s') rfl hs O.clos O.kind O.names
  (aI (hi pins s σ H _ I h) λx s1 h1=>aI h1 λitv s2 h2=>?_)) (λ_ s' hq=>wpAny_pure (wpAny_pure hq)) λ_ _ e=>e)
 obtain⟨it,fp,tn,J,H2,rfl,I2,T,st,hfp,W,⟨m0,w0⟩,turn⟩:=h2;refine Kc (Q:=λx H1=>fC i x σ H1 D.nx) (RR:=λacc C=>compPost (model X.prog X.w) X.A X.xe (some (assign (.Name y py) X.env)) (λ_ s'=>SP X pins D .next s') acc C) O (Paired.length O.fre) hcm I2 T st hfp hg he hc W w0 turn ?_;rintro DD C s' ⟨H3,I3,q,c1,c2,c3,c4,c5,m,hn⟩;show wpAny _ _ (assign (.Name y py) X.env (.ref DD)) _ _ s';refine wpAny_assign_Name (qi I3 hN hy hly (v:=.ref DD) rfl (?_) hf);rintro s4 I4 ⟨a,sb,ha⟩
 have hCa:C≠a:=by
  rcases ha with rfl |ha
  ·exact c2
  ·exactλz=>c4 y a ha z.symm
 refine⟨m,hn.sameBut sb hCa,λh' sb'=>⟨_,H3,I4.turned (t':=s4.toks) (it:=C) (λb o hb e=>(sb'.2 b hb).trans e) c1 c2 (.inr c3) c4 c5,q⟩⟩
end
section
variable {prog:Program}{w:World}{A:Around}{E:Value->Shared->Prop}{s:Shared}
end
section
variable {X:Cx}{tg:Expr}
end
end L2
namespace RM
def cf(l:Ex)(k:Nat):Int:=l.getD k 0
def bw(k:Nat):cf [] k=0:=by simp[cf]
def pe(x:Int)(l:Ex):cf (x::l) 0=x:=rfl
def kz(x:Int)(l:Ex)(k:Nat):cf (x::l) (k+1)=cf l k:=rfl
def bQ{l:Ex}{k:Nat}(h:l.length<=k):cf l k=0:=by unfold cf;rw[List.getD,List.getElem?_eq_none_iff.mpr h];rfl
def cU{l:Ex}{k:Nat}(h:k<l.length):cf l k=l[k]:=by unfold cf;rw[List.getD,List.getElem?_eq_getElem h];rfl
def pj{l:Ex}{k:Nat}{x:Int}(h:l[k]?=some x):cf l k=x:=by unfold cf;rw[List.getD,h];rfl
def iL{l:Ex}{k:Nat}(h:k<l.length):l[k]?=some (cf l k):=by rw[cU h,List.getElem?_eq_getElem h]
def Bw{l r:Ex}{k:Nat}(h:k<l.length):cf (l++r) k=cf l k:=by unfold cf;rw[List.getD,List.getD,List.getElem?_append_left h]
def pC{l r:Ex}{k:Nat}(h:l.length<=k):cf (l++r) k=cf r (k-l.length):=by unfold cf;rw[List.getD,List.getD,List.getElem?_append_right h]
def iP{l:Ex}{j k:Nat}{x:Int}(h:j<l.length):cf (l.set j x) k=if k=j then x else cf l k:=by
 unfold cf;rw[List.getD,List.getD,List.getElem?_set];by_cases e:j=k
 ·subst e;simp[h]
 ·rw[if_neg e,if_neg (λz=>e z.symm)]
def uZ(n k:Nat):cf (List.replicate n 0) k=0:=by unfold cf;rw[List.getD,List.getElem?_replicate];split<;>rfl
def kA(f:Nat->Int)(n k:Nat):cf ((List.range n).map f) k=if k<n then f k else 0:=by
 unfold cf;rw[List.getD,List.getElem?_map];by_cases h:k<n
 ·rw[if_pos h,List.getElem?_range h];rfl
 ·rw[if_neg h,List.getElem?_eq_none_iff.mpr (by simpa using h)];rfl
def gm{a b:Ex}(hl:a.length=b.length)(h:∀k,k<a.length->cf a k=cf b k):a=b:=by apply List.ext_getElem hl;intro k h1 h2;rw[<- cU h1,<- cU h2];exact h k h1
def trim(l:Ex):Ex:=(l.reverse.dropWhile (· == 0)).reverse
def kP(l:Ex):trim (l++[0])=trim l:=by unfold trim;rw[PD];rfl
def jG(l:Ex){x:Int}(h:x≠0):trim (l++[x])=l++[x]:=by unfold trim;rw[PD];show((x::l.reverse).dropWhile (· == 0)).reverse=_;rw[List.dropWhile_cons_of_neg (by simpa using h)];simp
def Tr(l:Ex):Prop:=∀n,l.length=n+1->cf l n≠0
def dP(l:Ex):l=[]\/∃r x,l=r++[x]:=by
 cases h:l.reverse with
 |nil=>left;simpa using h
 |cons x r=>right;exact⟨r.reverse,x,by rw[<- PF l,h];simp⟩
def mn(r:Ex)(x:Int):cf (r++[x]) r.length=x:=by rw[pC (Nv _),Oy];rfl
def CH:Tr []:=λn h=>by simp at h
def tr_snoc{r:Ex}{x:Int}:Tr (r++[x])↔x≠0:=by
 constructor
 ·intro h;have:=h r.length (by simp)
  rwa [mn]at this
 ·intro h n hn;have e:n=r.length:=by simp at hn;omega
  subst e
  rwa [mn]
theorem mL:∀(n:Nat) (l:Ex),l.length=n->Tr (trim l)/\(trim l).length<=l.length/\∀k,cf (trim l) k=cf l k
 |0,l,h=>by have:l=[]:=OQ.mp h;subst this;exact⟨CH,Nv _,λ_=>rfl⟩
 |n+1,l,h=>by
  rcases dP l with rfl |⟨r,x,rfl⟩
  ·simp at h
  ·by_cases hx:x=0
   ·subst hx;obtain⟨h1,h2,h3⟩:=mL n r (by simpa using h);rw[kP];refine⟨h1,by rw[Nq];exact NP h2 (Nat.le_add_right _ _),λk=>?_⟩;rw[h3];by_cases hk:k<r.length
    ·rw[Bw hk]
    ·rw[pC (ON hk),bQ (ON hk)];cases e:k-r.length with
     |zero=>rfl
     |succ j=>rw[kz,bw]
   ·rw[jG r hx];exact⟨tr_snoc.mpr hx,Nv _,λ_=>rfl⟩
def fH(l:Ex):Tr (trim l):=(mL _ l rfl).1
def uo(l:Ex):(trim l).length<=l.length:=(mL _ l rfl).2.1
def eZ(l:Ex)(k:Nat):cf (trim l) k=cf l k:=(mL _ l rfl).2.2 k
def pZ{l:Ex}(h:Tr l):trim l=l:=by
 rcases dP l with rfl |⟨r,x,rfl⟩
 ·rfl
 ·exact jG r (tr_snoc.mp h)
def kx{a b:Ex}(ha:Tr a)(hb:Tr b)(h:∀k,cf a k=cf b k):a=b:=by
 have le:∀{a b:Ex},Tr a->(∀k,cf a k=cf b k)->a.length<=b.length:=λ{a b} ha h=>by
  cases e:a.length with
  |zero=>exact Nw _
  |succ n =>apply Classical.byContradiction;intro hn;exact ha n e (by rw[h n,bQ (by omega)])
 have hl:a.length=b.length:=Nat.le_antisymm (le ha h) (le hb λk=>(h k).symm);exact gm hl λk _=>h k
def CB{l:Ex}{n:Nat}(hn:n<l.length)(h:cf l n=0):trim (l.take (n+1))=trim (l.take n):=by rw[OP,iL hn,h];exact kP _
def CC{l:Ex}{n:Nat}(hn:n<l.length)(h:cf l n≠0):trim (l.take (n+1))=l.take (n+1):=by rw[OP,iL hn];exact jG _ h
def dX(f:Int)(a b:Ex):Ex:=(List.range (max a.length b.length)).map λk=>cf a k+f*cf b k
def gu(f:Int)(a b:Ex)(k:Nat):cf (dX f a b) k=cf a k+f*cf b k:=by
 unfold dX;rw[kA];by_cases h:k<max a.length b.length
 ·rw[if_pos h]
 ·have h1:a.length<=k:=by omega
  have h2:b.length<=k:=by omega
  rw[if_neg h,bQ h1,bQ h2];simp
def iR(a b:Ex):Ex:=trim (dX 1 a b)
def cV(a b:Ex):Ex:=trim (dX (-1) a b)
def tm(a b:Ex)(n i:Nat):Int:=if i<=n then cf a i*cf b (n-i)else 0
noncomputable def sm(a b:Ex)(n:Nat):Nat->Int
 |0=>0
 |j+1=>sm a b n j+tm a b n j
def aw(a b:Ex)(n:Nat):Int:=sm a b n a.length
def ag(a b:Ex):Ex:=if a=[]\/b=[]then[]else(List.range (a.length+b.length-1)).map (aw a b)
def CL{a b:Ex}{n i:Nat}(h:a.length<=i):tm a b n i=0:=by
 unfold tm;split
 ·rw[bQ h,Ov]
 ·rfl
def mM{a b:Ex}{n i:Nat}(h:b.length<=n-i):tm a b n i=0:=by
 unfold tm;split
 ·rw[bQ h,NQ]
 ·rfl
theorem kU{a b:Ex}{n:Nat}:∀{j:Nat},(∀i,i<j->tm a b n i=0)->sm a b n j=0
 |0,_=>rfl
 |j+1,h=>by rw[sm,kU λi hi=>h i (Nat.lt_succ_of_lt hi),h j (OM _)];rfl
def zx{a b:Ex}{n:Nat}(h:a.length+b.length<=n+1):aw a b n=0:=by apply kU;intro i hi;exact mM (by omega)
def ud{a b:Ex}{la lb:Nat}(ha:a.length=la+1)(hb:b.length=lb+1):aw a b (la+lb)=cf a la*cf b lb:=by unfold aw;rw[ha,sm,kU λi hi=>mM (by omega)];unfold tm;rw[if_pos (Nat.le_add_right _ _),Nat.add_sub_cancel_left,OE]
def ay(a b:Ex)(n:Nat):cf (ag a b) n=aw a b n:=by
 unfold ag;by_cases h:a=[]\/b=[]
 ·rw[if_pos h,bw]
  symm
  apply kU;intro i hi;rcases h with rfl |rfl
  ·simp at hi
  ·exact mM (Nw _)
 ·rw[if_neg h,kA];by_cases hn:n<a.length+b.length-1
  ·rw[if_pos hn]
  ·rw[if_neg hn,zx (by omega)]
def fI{a b:Ex}(ha:Tr a)(hb:Tr b):Tr (ag a b):=by
 intro n hn;rw[ay];by_cases h:a=[]\/b=[]
 ·unfold ag at hn;rw[if_pos h]at hn;simp at hn
 ·have h1:a≠[]:=λz=>h (.inl z)
  have h2:b≠[]:=λz=>h (.inr z)
  obtain⟨la,ea⟩:∃la,a.length=la+1:=⟨a.length-1,by have:=Nz.mpr h1;omega⟩;obtain⟨lb,eb⟩:∃lb,b.length=lb+1:=⟨b.length-1,by have:=Nz.mpr h2;omega⟩;unfold ag at hn
  rw[if_neg h,No,OJ]at hn;have e:n=la+lb:=by omega
  subst e;rw[ud ea eb];exact N3 (ha la ea) (hb lb eb)
def Hv{a b acc:Ex}{j k:Nat}(hj:j<a.length)(hk:k<b.length)(hl:j+k<acc.length)
 (h:∀n,n<acc.length->cf acc n=sm a b n j+(if j<=n/\n-j<k then tm a b n j else 0)) :
 ∀n,n<(acc.set (j+k) (cf acc (j+k)+cf a j*cf b k)).length->cf (acc.set (j+k) (cf acc (j+k)+cf a j*cf b k)) n=sm a b n j+(if j<=n/\n-j<k+1 then tm a b n j else 0):=by
 intro n hn;rw[O5]at hn;rw[iP hl];by_cases e:n=j+k
 ·subst e;rw[if_pos rfl,h _ hl,if_neg (by omega),if_pos ⟨by omega,by omega⟩];unfold tm;rw[if_pos (by omega),Nat.add_sub_cancel_left,Of]
 ·rw[if_neg e,h n hn]
  congr 1
  by_cases h1:j<=n/\n-j<k
  ·rw[if_pos h1,if_pos ⟨h1.1,by omega⟩]
  ·rw[if_neg h1,if_neg (by omega)]
def Hx{a b acc:Ex}{j:Nat}(h:∀n,n<acc.length->cf acc n=sm a b n j+(if j<=n/\n-j<b.length then tm a b n j else 0)):∀n,n<acc.length->cf acc n=sm a b n (j+1):=by
 intro n hn;rw[h n hn,sm]
 congr 1
 by_cases h1:j<=n/\n-j<b.length
 ·rw[if_pos h1]
 ·rw[if_neg h1];by_cases h2:j<=n
  ·rw[mM (by omega)]
  ·unfold tm;rw[if_neg h2]
def Hw{a b acc:Ex}{j:Nat}(h:∀n,n<acc.length->cf acc n=sm a b n j):∀n,n<acc.length->cf acc n=sm a b n j+(if j<=n/\n-j<0 then tm a b n j else 0):=by intro n hn;rw[if_neg (by omega),Of];exact h n hn
def Hy{a b acc:Ex}(hl:a.length+b.length<=acc.length+1)(h:∀n,n<acc.length->cf acc n=sm a b n a.length)(n:Nat):cf acc n=aw a b n:=by
 by_cases hn:n<acc.length
 ·exact h n hn
 ·rw[bQ (ON hn),zx (by omega)]
def KF(a b:Ex):trim ((List.range (max a.length b.length)).map λk=>cf a k+cf b k)=iR a b:=by
 unfold iR dX
 congr 2;funext k;rw[NM]
def Dg(a b:Ex):trim ((List.range (max a.length b.length)).map λk=>cf a k-cf b k)=cV a b:=by
 unfold cV dX
 congr 2;funext k;omega
def dv(t b:Int):Int:=if b<0 then -((Nat.gcd t.natAbs b.natAbs:Nat):Int)else((Nat.gcd t.natAbs b.natAbs:Nat):Int)
def rt(t b:Int):Int:=t.fdiv (dv t b)
def rb(t b:Int):Int:=b.fdiv (dv t b)
def kn{t b:Int}(hb:b≠0):0<Nat.gcd t.natAbs b.natAbs:=Nat.gcd_pos_of_pos_right _ (OK.mpr hb)
def o3{t b:Int}(hb:b≠0):dv t b≠0:=by have:=@kn t b hb;unfold dv;split<;>omega
def jp(t b:Int):(dv t b).natAbs=Nat.gcd t.natAbs b.natAbs:=by unfold dv;split<;>omega
def J1(t b:Int):dv t b∣t:=P8.mp (by rw[jp];exact OZ _ _)
def J0(t b:Int):dv t b∣b:=P8.mp (by rw[jp];exact Pi _ _)
def AG{a d:Int}(hd:d≠0)(h:d∣a):d*a.fdiv d=a:=by obtain⟨c,rfl⟩:=h;rw[Int.mul_fdiv_cancel_left c hd]
def jZ{t b:Int}(hb:b≠0):dv t b*rt t b=t:=AG (o3 hb) (J1 t b)
def i7{t b:Int}(hb:b≠0):dv t b*rb t b=b:=AG (o3 hb) (J0 t b)
def cG{t b:Int}(hb:b≠0):0<rb t b:=by
 have h1:=@i7 t b hb;have h2:=@kn t b hb;by_cases hn:b<0
 ·have hd:dv t b<0:=by unfold dv;rw[if_pos hn];omega
  apply Classical.byContradiction;intro h;have:0<=dv t b*rb t b:=Int.mul_nonneg_of_nonpos_of_nonpos (Oj hd) (by omega);omega
 ·have hd:0<dv t b:=by unfold dv;rw[if_neg hn];omega
  apply Classical.byContradiction;intro h;have:dv t b*rb t b<=0:=Int.mul_nonpos_of_nonneg_of_nonpos (Oj hd) (by omega);omega
def gX{t b:Int}(hb:b≠0):Nat.gcd (rt t b).natAbs (rb t b).natAbs=1:=by
 have h1:t.natAbs=Nat.gcd t.natAbs b.natAbs*(rt t b).natAbs:=by rw[<- jp,<- N4,jZ hb]
 have h2:b.natAbs=Nat.gcd t.natAbs b.natAbs*(rb t b).natAbs:=by rw[<- jp,<- N4,i7 hb]
 have hp:=@kn t b hb
 have e:Nat.gcd t.natAbs b.natAbs=Nat.gcd t.natAbs b.natAbs*Nat.gcd (rt t b).natAbs (rb t b).natAbs:=by rw[<- Nat.gcd_mul_left,<- h1,<- h2]
 exact(Nat.eq_of_mul_eq_mul_left hp (by rw[Nat.mul_one];exact e)).symm
def d9{t b:Int}(hb:b≠0):rt t b*b=t*rb t b:=by
 have e1:=@jZ t b hb;have e2:=@i7 t b hb
 calc rt t b*b=rt t b*(dv t b*rb t b):=by rw[e2]
  _=(dv t b*rt t b)*rb t b:=by rw[<- OU,Om (rt t b)]
  _=t*rb t b:=by rw[e1]
def Ev{t b:Int}(hb:b≠0):(rt t b).natAbs<=t.natAbs:=by
 have h1:t.natAbs=Nat.gcd t.natAbs b.natAbs*(rt t b).natAbs:=by rw[<- jp,<- N4,jZ hb]
 rw[h1];exact O0 _ (kn hb)
def EX{t b:Int}(hb:b≠0):(rb t b).natAbs<=b.natAbs:=by
 have h1:b.natAbs=Nat.gcd t.natAbs b.natAbs*(rb t b).natAbs:=by rw[<- jp,<- N4,i7 hb]
 rw[h1];exact O0 _ (kn hb)
def sg(x:Int):Int:=if x<0 then -1 else if 0<x then 1 else 0
def DH(x:Int):sg (-x) = -sg x:=by unfold sg;split<;>split<;>(try split)<;>(try split)<;>omega
def DI{x p:Int}(hp:0<p):sg (x*p)=sg x:=by
 unfold sg;by_cases h1:x<0
 ·rw[if_pos h1,if_pos (Int.mul_neg_of_neg_of_pos h1 hp)]
 ·by_cases h2:0<x
  ·have:=NH h2 hp;rw[if_neg h1,if_pos h2,if_neg (by omega),if_pos this]
  ·obtain rfl:x=0:=by omega
   simp
noncomputable def hv(t b:Int):Ex->Int
 | []=>0
 |v::l=>v*b^(l.length+1)+t*hv t b l
def As(t b:Int):hv t b []=0:=rfl
def ma(t b v:Int)(l:Ex):hv t b (v::l)=v*b^(l.length+1)+t*hv t b l:=rfl
noncomputable def mb(a b:Int):Int->Ex->Ex
 |c,[]=>[c]
 |c,x::l=>(-a*x+c)::mb a b (b*x) l
theorem oy(a b:Int):∀(c:Int) (l:Ex),(mb a b c l).length=l.length+1
 |c,[]=>rfl
 |c,x::l=>by show(mb a b (b*x) l).length+1=_;rw[oy];rfl
theorem jv(a b:Int):∀(c:Int) (l:Ex) (k:Nat),cf (mb a b c l) k = -a*cf l k+(if k=0 then c else b*cf l (k-1))
 |c,[],0=>by show c=_;rw[bw];simp
 |c,[],k+1=>by show cf [] k=_;rw[bw,bw];simp[bw]
 |c,x::l,0=>rfl
 |c,x::l,k+1=>by
  show cf (mb a b (b*x) l) k=_;rw[jv a b (b*x) l k,kz,if_neg (Nat.succ_ne_zero k)];cases k with
  |zero=>rfl
  |succ k=>rw[if_neg (Nat.succ_ne_zero k)];rfl
theorem At(t u a b:Int):∀(c:Int) (l:Ex),hv t u (mb a b c l)=c*u^(l.length+1)+(b*t-a*u)*hv t u l
 |c,[]=>by show c*u^1+t*0=c*u^1+(b*t-a*u)*0;simp
 |c,x::l=>by show(-a*x+c)*u^((mb a b (b*x) l).length+1)+t*hv t u (mb a b (b*x) l)=c*u^(l.length+1+1)+(b*t-a*u)*(x*u^(l.length+1)+t*hv t u l);rw[At t u a b (b*x) l,oy];generalize hv t u l=h;rw[NO u (l.length+1)];generalize u^(l.length+1)=p;grind
def Ki(x y:Int)(k:Nat):cf [x,y] k=if k=0 then x else if k=1 then y else 0:=by
 rcases k with _ |_ |k
 ·rfl
 ·rfl
 ·rw[if_neg (by omega),if_neg (by omega)];exact bQ (by simp)
theorem xH(l:Ex)(x y:Int)(n:Nat):∀j,sm l [x,y] n j=(if n<j then cf l n*x else 0)+(if 1<=n/\n-1<j then cf l (n-1)*y else 0)
 |0=>by rw[if_neg (by omega),if_neg (by omega)];rfl
 |j+1=>by
  show sm l [x,y] n j+tm l [x,y] n j=_;rw[xH l x y n j];unfold tm;rw[Ki];by_cases h1:n<j
  ·rw[if_pos h1,if_neg (show ¬j<=n by omega),if_pos (show n<j+1 by omega),Of];by_cases h2:1<=n
   ·rw[if_pos ⟨h2,by omega⟩,if_pos ⟨h2,by omega⟩]
   ·rw[if_neg (λz=>h2 z.1),if_neg (λz=>h2 z.1)]
  ·rw[if_neg h1,if_pos (show j<=n by omega),OE];by_cases h2:n=j
   ·subst h2;rw[Oy,if_pos rfl,if_pos (OM _),Int.add_comm];by_cases h3:1<=n
    ·rw[if_pos ⟨h3,by omega⟩,if_pos ⟨h3,by omega⟩]
    ·rw[if_neg (λz=>h3 z.1),if_neg (λz=>h3 z.1)]
   ·rw[if_neg (show ¬n-j=0 by omega),if_neg (show ¬n<j+1 by omega),OE,if_neg (show ¬(1<=n/\n-1<j) by omega),OE];by_cases h3:n-j=1
    ·rw[if_pos h3,if_pos (show 1<=n/\n-1<j+1 by omega),show n-1=j by omega]
    ·rw[if_neg h3,if_neg (show ¬(1<=n/\n-1<j+1) by omega),NQ]
def Hu{a b:Int}{l:Ex}(h:l≠[]):ag l [-a,b]=mb a b 0 l:=by
 apply gm
 ·rw[oy];unfold ag;rw[if_neg (by simp[h]),No,OJ];simp
 ·intro k _;rw[ay,jv];unfold aw;rw[xH]
  have e1:(if k<l.length then cf l k * -a else 0) = -a*cf l k:=by
   by_cases hk:k<l.length
   ·rw[if_pos hk,Om]
   ·rw[if_neg hk,bQ (ON hk),NQ]
  have e2:(if 1<=k/\k-1<l.length then cf l (k-1)*b else 0)=if k=0 then 0 else b*cf l (k-1):=by
   by_cases h0:k=0
   ·rw[if_neg (by omega),if_pos h0]
   ·rw[if_neg h0];by_cases hk:k-1<l.length
    ·rw[if_pos (by omega),Om]
    ·rw[if_neg (by omega),bQ (ON hk),NQ]
  rw[e1,e2]
theorem oI(g t b:Int):∀l:Ex,hv (g*t) (g*b) l=g^l.length*hv t b l
 | []=>by simp[As]
 |v::l=>by rw[ma,ma,oI g t b l,Int.mul_pow];show v*(g^(l.length+1)*b^(l.length+1))+g*t*(g^l.length*hv t b l)=g^(l.length+1)*(v*b^(l.length+1)+t*hv t b l);rw[NO g l.length];generalize b^(l.length+1)=p;generalize g^l.length=q;generalize hv t b l=h;grind
def J3(t b:Int){l:Ex}{n:Nat}(h:n<l.length):hv t b (l.drop n)=cf l n*b^(l.length-n)+t*hv t b (l.drop (n+1)):=by
 rw[PH h,ma,Ot,cU h];have e:l.length-(n+1)+1=l.length-n:=by omega
 rw[e]
noncomputable def lv(t b:Int):Ex->Int
 | []=>0
 |v::l=>v*b^l.length+t*lv t b l
theorem oK(t b:Int):∀l:Ex,hv t b l=b*lv t b l
 | []=>by show(0:Int)=b*0;simp
 |v::l=>by show v*b^(l.length+1)+t*hv t b l=b*(v*b^l.length+t*lv t b l);rw[oK t b l,NO];generalize b^l.length=p;generalize lv t b l=x;grind
def chF(z:Int×Int)(s:Int):Int×Int:=(if s*z.2<0 then z.1+1 else z.1,if s=0 then z.2 else s)
def chS(l:Ex):Int×Int:=l.foldl chF (0,0)
def Bq(l:Ex)(s:Int):chS (l++[s])=chF (chS l) s:=by unfold chS;rw[List.foldl_append];rfl
theorem Br:∀(n:Nat) (l:Ex),l.length=n->(∀s∈l,s.natAbs<=1)->(chS l).2.natAbs<=1/\0<=(chS l).1/\(chS l).1<=l.length
 |n,l,hn,h=>by
  rcases dP l with rfl |⟨r,s,rfl⟩
  ·decide
  ·have hr:r.length+1=n:=by rw[<- hn,Nq];rfl
   obtain⟨i1,i2,i3⟩:=Br (n-1) r (by omega) (λx hx=>h x (OH _ hx));have hs:=h s (by simp);rw[Bq];unfold chF;refine⟨?_,?_,?_⟩
   ·dsimp only;split
    ·exact i1
    ·exact hs
   ·dsimp only;split<;>omega
   ·dsimp only;rw[Nq];show _<=((r.length+1:Nat):Int);split<;>omega
termination_by n=>n
def Kh(l:Ex)(h:∀s∈l,s.natAbs<=1):(chS l).2.natAbs<=1/\0<=(chS l).1/\(chS l).1<=l.length:=Br _ l rfl h
def m8(x:Int):(sg x).natAbs<=1:=by unfold sg;split<;>(try split)<;>decide
theorem xK{q q' b:Ex}{c l:Int}{p n:Nat}(h:∀k,cf q' k=c*cf q k+(if k=p then l else 0)) :
 ∀j,sm q' b n j=c*sm q b n j+(if p<j/\p<=n then l*cf b (n-p)else 0)
 |0=>by rw[sm,sm,if_neg (by omega)];simp
 |j+1=>by
  rw[sm,sm,xK h j];unfold tm;by_cases hj:j<=n
  ·rw[if_pos hj,if_pos hj,h j];by_cases e:j=p
   ·subst e;rw[if_pos rfl,if_neg (by omega),if_pos ⟨by omega,hj⟩];grind
   ·rw[if_neg e];by_cases h2:p<j/\p<=n
    ·rw[if_pos h2,if_pos ⟨by omega,h2.2⟩];grind
    ·rw[if_neg h2,if_neg (by omega)];grind
  ·rw[if_neg hj,if_neg hj];by_cases h2:p<j/\p<=n
   ·rw[if_pos h2,if_pos ⟨by omega,h2.2⟩];grind
   ·rw[if_neg h2,if_neg (by omega)];grind
def Ht{q q' b:Ex}{c l:Int}{p n:Nat}(hl:q'.length=q.length)(hp:p<q.length)(h:∀k,cf q' k=c*cf q k+(if k=p then l else 0)) :
 aw q' b n=c*aw q b n+(if p<=n then l*cf b (n-p)else 0):=by
 unfold aw;rw[hl,xK h];by_cases h2:p<=n
 ·rw[if_pos h2,if_pos ⟨hp,h2⟩]
 ·rw[if_neg h2,if_neg (by omega)]
def aE(c:Int)(l:Ex):Ex:=l.map λx=>c*x
def dk(c:Int)(l:Ex):(aE c l).length=l.length:=by unfold aE;rw[No]
def aK(c:Int)(l:Ex)(k:Nat):cf (aE c l) k=c*cf l k:=by
 by_cases h:k<l.length
 ·unfold cf aE;simp[h]
 ·rw[bQ (by rw[dk];omega),bQ (by omega)];simp
def jl(r b:Ex)(p:Nat)(l:Int):Ex:=(List.range (r.length-1)).map λk=>cf r k-(if p<=k then l*cf b (k-p)else 0)
def zV(r b:Ex)(p:Nat)(l:Int):(jl r b p l).length=r.length-1:=by unfold jl;simp
def pA(r b:Ex)(p:Nat)(l:Int)(k:Nat):cf (jl r b p l) k=if k<r.length-1 then cf r k-(if p<=k then l*cf b (k-p)else 0)else 0:=by unfold jl;rw[kA]
def DC(x:Int):sg x*x=(x.natAbs:Int):=by unfold sg;split<;>(try split)<;>omega
noncomputable def dD(b:Ex)(z:Ex×Ex)(i:Nat):Ex×Ex :=
 let s:Int:=((cf b (b.length-1)).natAbs:Int)
 let l:=sg (cf b (b.length-1))*cf z.2 (z.2.length-1)
 ((aE s z.1).set i l,jl (aE s z.2) b i l)
noncomputable def aU(a b:Ex):Nat->Ex×Ex
 |0=>(List.replicate (a.length+1-b.length) 0,a)
 |i+1=>dD b (aU a b i) (a.length+1-b.length-1-i)
structure DivInv(a b:Ex)(i:Nat):Prop where
 lq:(aU a b i).1.length=a.length+1-b.length
 lr:(aU a b i).2.length=a.length-i
 low:∀k,k+i<a.length+1-b.length->cf (aU a b i).1 k=0
 eqn:∀n,((cf b (b.length-1)).natAbs:Int)^i*cf a n=aw (aU a b i).1 b n+cf (aU a b i).2 n
def uc{a b:Ex}{n:Nat}(h:∀k,cf a k=0):aw a b n=0:=by apply kU;intro i _;unfold tm;rw[h i];simp
def J6{A B i:Nat}(hi:i+1<=A+1-B)(hb:0<B):∃p,A+1-B=p+i+1/\p+i+B=A:=⟨A-B-i,by omega,by omega⟩
def Ba(p i:Nat):p<p+i+1:=Nat.lt_succ_of_le (Nat.le_add_right _ _)
def o7{P A C M R:Int}(en:P*A=M+R):P*C*A=C*M+C*R:=by rw[Int.mul_right_comm,en,Om,Int.mul_add]
def J7(x y z:Int):x+y=x+z+(y-z):=by omega
theorem jq{a b:Ex}(hb:b≠[]):∀i,i<=a.length+1-b.length->DivInv a b i
 |0,_=>⟨by simp[aU],by simp[aU],λk _=>by show cf (List.replicate _ 0) k=0;rw[uZ],λn=>by
  show _=aw (List.replicate _ 0) b n+cf a n
  rw[uc λk=>uZ _ _];simp⟩
 |i+1,hi=>by
  obtain⟨lq,lr,low,eqn⟩:=jq (a:=a) hb i (Nat.le_of_succ_le hi);have hbl:=Nz.mpr hb;have e:aU a b (i+1)=dD b (aU a b i) (a.length+1-b.length-1-i):=rfl;generalize aU a b i=z at e lq lr low eqn
  obtain⟨p,ep,ed⟩:=J6 hi hbl;rw[ep,show p+i+1-1-i=p from PV _ _]at e;rw[ep]at lq low;have lz:z.2.length=p+b.length:=by rw[lr,<- ed,Nat.add_right_comm,PV]
  have hp:p<(aE ((cf b (b.length-1)).natAbs:Int) z.1).length:=by rw[dk,lq];exact Ba p i
  have hq:∀k,cf (dD b z p).1 k=((cf b (b.length-1)).natAbs:Int)*cf z.1 k+(if k=p then sg (cf b (b.length-1))*cf z.2 (z.2.length-1)else 0):=by
   intro k;unfold dD;dsimp only
   rw[iP hp,aK];by_cases h:k=p
   ·rw[if_pos h,if_pos h,low k (by rw[h];exact OM _)];simp
   ·rw[if_neg h,if_neg h];simp
  have hlq:(dD b z p).1.length=p+i+1:=by unfold dD;dsimp only;rw[O5,dk,lq]
  refine⟨?_,?_,?_,?_⟩
  ·rw[e,hlq,ep]
  ·rw[e];unfold dD;dsimp only;rw[zV,dk,lr];rfl
  ·intro k hk;rw[ep]at hk;have hk':k<p:=by clear lq lr low eqn hp hq hlq lz e ep ed;omega
   rw[e,hq,if_neg (NW hk'),low k (Nat.lt_trans (Nat.add_lt_add_right hk' i) (OM _))];simp
  ·intro n;rw[e,Ht (by rw[hlq,lq]) (by rw[lq];exact Ba p i) hq,NO];have en:=eqn n;unfold dD;dsimp only
   rw[pA,dk,aK,lz];clear lq lr low eqn hp hq hlq e ep ed;by_cases h1:n<p+b.length-1
   ·rw[if_pos h1];by_cases h2:p<=n
    ·rw[if_pos h2,o7 en];exact J7 _ _ _
    ·rw[if_neg h2,o7 en,Of,Int.sub_zero]
   ·rw[if_neg h1];have h2:p<=n:=by clear en;omega
    by_cases h3:n=p+b.length-1
    ·have h4:n-p=b.length-1:=by clear en;omega
     rw[if_pos h2,h4];have sg:=DC (cf b (b.length-1));rw[<- h3,o7 en,Of,Int.mul_right_comm,sg]
    ·have hc:cf z.2 n=0:=bQ (by rw[lz];clear en;omega);rw[if_pos h2,bQ (l:=b) (k:=n-p) (by clear en;omega),o7 en,hc,NQ,NQ,Of,Of]
theorem A8{a b:Ex}(hb:b≠[])(ha:Tr a)(hbt:Tr b):∀i,i+1<=a.length+1-b.length->cf (aU a b (i+1)).1 (a.length+1-b.length-1)≠0
 |0,h=>by
  obtain⟨lq,lr,_,_⟩:=jq (a:=a) hb 0 (by omega);have hbl:=Nz.mpr hb;show cf (dD b (aU a b 0) _).1 _≠0;unfold dD;dsimp only
  rw[iP (by rw[dk,lq];omega),if_pos (by omega)];have hb1:=hbt (b.length-1) (by omega);have ha1:=ha (a.length-1) (by omega);refine N3 ?_ ?_
  ·unfold sg;split<;>(try split)<;>omega
  ·rw[lr];exact ha1
 |i+1,h=>by
  have ih:=A8 hb ha hbt i (by omega);obtain⟨lq,lr,_,_⟩:=jq (a:=a) hb (i+1) (by omega);have hbl:=Nz.mpr hb;show cf (dD b (aU a b (i+1)) _).1 _≠0;unfold dD;dsimp only
  have hN:∀n,i+1+1<=n->¬n-1=n-1-(i+1):=λn hn e=>by omega
  rw[iP (by rw[dk,lq];omega),if_neg (hN _ h),aK];have hb1:=hbt (b.length-1) (by omega);refine N3 ?_ ih;omega
def aW(a b:Ex):Nat:=a.length+1-b.length
def bM(a b:Ex):Int:=((cf b (b.length-1)).natAbs:Int)^aW a b
def bZ(a b:Ex):Ex:=(aU a b (aW a b)).1
def aO(a b:Ex):Ex:=trim (aU a b (aW a b)).2
def gt{a b:Ex}(hb:b≠[])(n:Nat):bM a b*cf a n=aw (bZ a b) b n+cf (aO a b) n:=by unfold aO bZ bM;rw[eZ];exact(jq hb (aW a b) (Nv _)).eqn n
def gs{a b:Ex}(hb:b≠[]):(aO a b).length<b.length:=by
 have h:=(jq (a:=a) hb (aW a b) (Nv _)).lr;have h2:=uo (aU a b (aW a b)).2;have hbl:=Nz.mpr hb;unfold aO;unfold aW at *
 omega
def o5{a b:Ex}(hb:b≠[]):(bZ a b).length=aW a b:=(jq (a:=a) hb (aW a b) (Nv _)).lq
def uQ{a b:Ex}(hb:b≠[])(ha:Tr a)(hbt:Tr b):Tr (bZ a b):=by
 intro n hn;rw[o5 hb]at hn;have h:=A8 hb ha hbt n (by unfold aW at hn;omega);unfold bZ;rw[hn];have:a.length+1-b.length-1=n:=by unfold aW at hn;rw[hn];rfl
 rwa [this]at h
def fW(a b:Ex):Tr (aO a b):=fH _
theorem xN{a a' b b':Ex}{n:Nat}(h1:∀k,cf a k=cf a' k)(h2:∀k,cf b k=cf b' k):∀j,sm a b n j=sm a' b' n j
 |0=>rfl
 |j+1=>by rw[sm,sm,xN h1 h2 j];unfold tm;rw[h1 j,h2 (n-j)]
theorem xL{a b:Ex}{n:Nat}:∀d,sm a b n (a.length+d)=aw a b n
 |0=>rfl
 |d+1=>by rw[<- Nat.add_assoc,sm,xL d,CL (by omega)];omega
def kW{a b:Ex}{n N:Nat}(h:a.length<=N):sm a b n N=aw a b n:=by obtain⟨d,rfl⟩:=Nat.exists_eq_add_of_le h;exact xL d
def zw{a a' b b':Ex}{n:Nat}(h1:∀k,cf a k=cf a' k)(h2:∀k,cf b k=cf b' k):aw a b n=aw a' b' n:=by rw[<- kW (Nat.le_max_left a.length a'.length),<- kW (Nat.le_max_right a.length a'.length)];exact xN h1 h2 _
theorem xJ{a b c q:Ex}{x y:Int}{n:Nat}(h:∀k,cf c k=x*cf a k+y*cf b k):∀j,sm c q n j=x*sm a q n j+y*sm b q n j
 |0=>by simp[sm]
 |j+1=>by
  rw[sm,sm,sm,xJ h j];unfold tm;rw[h j];by_cases hj:j<=n
  ·rw[if_pos hj,if_pos hj,if_pos hj];grind
  ·rw[if_neg hj,if_neg hj,if_neg hj];grind
def g6{a b c q:Ex}{x y:Int}{n:Nat}(h:∀k,cf c k=x*cf a k+y*cf b k):aw c q n=x*aw a q n+y*aw b q n:=by
 have h1:a.length<=a.length+b.length+c.length:=by omega
 have h2:b.length<=a.length+b.length+c.length:=by omega
 have h3:c.length<=a.length+b.length+c.length:=by omega
 rw[<- kW h1,<- kW h2,<- kW h3];exact xJ h _
theorem xI{a b b':Ex}{c:Int}{n:Nat}(h:∀k,cf b' k=c*cf b k):∀j,sm a b' n j=c*sm a b n j
 |0=>by simp[sm]
 |j+1=>by
  rw[sm,sm,xI h j];unfold tm;rw[h (n-j)];by_cases hj:j<=n
  ·rw[if_pos hj,if_pos hj];grind
  ·rw[if_neg hj,if_neg hj];grind
def eA{a b b':Ex}{c:Int}{n:Nat}(h:∀k,cf b' k=c*cf b k):aw a b' n=c*aw a b n:=xI h _
def gb(c:Int)(l:Ex)(n:Nat):aw [c] l n=c*cf l n:=by unfold aw;show sm [c] l n 0+tm [c] l n 0=_;unfold sm tm;rw[if_pos (Nw _),pe,OA,OE]
def tX{l:Ex}(ht:Tr l)(h:∀k,cf l k=0):l=[]:=by
 refine Classical.byContradiction λhne=>?_
 have hl:=Nz.mpr hne;exact ht (l.length-1) (by omega) (h _)
def zt{d q:Ex}(hq:q≠[])(hqt:Tr q)(h:∀n,q.length<=n+1->aw d q n=0):∀k,cf d k=0:=by
 have e:trim d=[]:=by
  refine Classical.byContradiction λhne=>?_
  have hl:=Nz.mpr hne;have hql:=Nz.mpr hq;have ht:=fH d ((trim d).length-1) (by omega);have hb:=hqt (q.length-1) (by omega);have h1:=h ((trim d).length-1+(q.length-1)) (by omega);rw[<- zw (a:=trim d) (b:=q) (λk=>eZ d k) (λ_=>rfl),ud (la:=(trim d).length-1) (lb:=q.length-1) (by omega) (by omega)]at h1;exact N3 ht hb h1
 intro k;rw[<- eZ,e,bw]
def iN{a b:Ex}(hb:b≠[])(hbt:Tr b):bM a b≠0:=by
 have hbl:=Nz.mpr hb;have h:=hbt (b.length-1) (by omega);have h1:((cf b (b.length-1)).natAbs:Int)≠0:=by omega
 unfold bM;generalize aW a b=n
 induction n with
 |zero=>rw[On];decide
 |succ n ih=>rw[NO];exact N3 ih h1
def fU(d:Nat)(l:Ex):Nat:=l.foldl (λd v=>Nat.gcd d v.natAbs) d
def aC(l:Ex):Nat:=fU 0 l
def Jb(d:Nat):fU d []=d:=rfl
def Jc(d:Nat)(v:Int)(l:Ex):fU d (v::l)=fU (Nat.gcd d v.natAbs) l:=rfl
def Ja(d:Nat)(l:Ex)(v:Int):fU d (l++[v])=Nat.gcd (fU d l) v.natAbs:=by unfold fU;rw[List.foldl_append];rfl
def IY(l:Ex)(v:Int):aC (l++[v])=Nat.gcd (aC l) v.natAbs:=Ja 0 l v
theorem AX{m:Nat}:∀{l:Ex} {d:Nat},m∣fU d l↔m∣d/\∀v∈l,m∣v.natAbs
 | [],d=>by simp[Jb]
 |v::l,d=>by rw[Jc,AX,Nat.dvd_gcd_iff];simp only[NR,forall_eq_or_imp];exact⟨λ⟨⟨a,b⟩,c⟩=>⟨a,b,c⟩,λ⟨a,b,c⟩=>⟨⟨a,b⟩,c⟩⟩
def dvd_gcdL{m:Nat}{l:Ex}:m∣aC l↔∀v∈l,m∣v.natAbs:=by unfold aC;rw[AX];exact⟨λh=>h.2,λh=>⟨Nat.dvd_zero m,h⟩⟩
def oN{l:Ex}{v:Int}(h:v∈l):aC l∣v.natAbs:=dvd_gcdL.mp (Nat.dvd_refl _) v h
def I0(v:Int):aC [v]=v.natAbs:=by show Nat.gcd 0 v.natAbs=_;exact PX _
def IX{a b:Int}(ha:0<=a)(hb:0<b):Nat.gcd b.natAbs (a%b).natAbs=Nat.gcd a.natAbs b.natAbs:=by
 have e:(a%b).natAbs=a.natAbs%b.natAbs:=by obtain⟨x,rfl⟩:=P9 ha;obtain⟨y,rfl⟩:=P9 (Oj hb);rfl
 rw[e,Nat.gcd_comm,<- Nat.gcd_rec,Nat.gcd_comm]
def aj(l:Ex):Ex:=l.map λx=>x/(aC l:Int)
def ao(l:Ex):Int:=cf l (l.length-1)
def gj(r:Ex)(x:Int):ao (r++[x])=x:=by unfold ao;rw[Nq];exact mn r x
def cS(l:Ex):Ex:=if ao l<0 then l.map λx => -x else l
def aq(l:Ex):Ex:=cS (aj l)
theorem wc{c:Int->Int}(h0:∀x,c x=0↔x=0):∀(n:Nat) (l:Ex),l.length=n->trim (l.map c)=(trim l).map c
 |0,l,h=>by rw[OQ.mp h];rfl
 |n+1,l,h=>by
  rcases dP l with rfl |⟨r,x,rfl⟩
  ·rfl
  ·rw[NI];show trim (r.map c++[c x])=_;by_cases hx:x=0
   ·subst hx;rw[(h0 0).mpr rfl,kP,kP];exact wc h0 n r (by simpa using h)
   ·rw[jG r hx,jG _ (λz=>hx ((h0 x).mp z)),NI];rfl
def kE(l:Ex):Prop:=l=[]\/aC l=1
def qF{l:Ex}(h:kE l):aj l=l:=by
 rcases h with rfl |h
 ·rfl
 ·unfold aj;rw[h]
  conv=>rhs;rw[<- OR l]
  apply Oa;intro x _;show x/1=x;exact Int.ediv_one x
def I9{l:Ex}{s:Int}(hs:s=1\/s = -1):aC (l.map λx=>x*s)=aC l:=by
 have key:∀m:Nat,m∣aC (l.map λx=>x*s)↔m∣aC l:=by
  intro m;rw[dvd_gcdL,dvd_gcdL]
  have e:∀x:Int,(x*s).natAbs=x.natAbs:=λx=>by
   rcases hs with rfl |rfl
   ·rw[Oc]
   ·rw[Int.mul_neg,Oc,Int.natAbs_neg]
  constructor
  ·intro h v hv;have:=h (v*s) (NF.mpr ⟨v,hv,rfl⟩)
   rwa [e]at this
  ·intro h v hv;obtain⟨u,hu,rfl⟩:=NF.mp hv;rw[e];exact h u hu
 exact Nat.dvd_antisymm ((key _).mp (Nat.dvd_refl _)) ((key _).mpr (Nat.dvd_refl _))
def Ff{l:Ex}(h:kE l):kE (l.map λx => -x):=by
 rcases h with rfl |h
 ·exact .inl rfl
 ·right
  have e:(l.map λx => -x)=l.map λx=>x*(-1):=by apply Oa;intro x _;omega
  rw[e,I9 (.inr rfl),h]
def zY(l:Ex):ao (l.map λx => -x) = -ao l:=by
 rcases dP l with rfl |⟨r,x,rfl⟩
 ·rfl
 ·rw[NI];show ao (r.map _++[-x])=_;rw[gj,gj]
def Fe{l:Ex}(h:kE l):kE (cS l):=by
 unfold cS;split
 ·exact Ff h
 ·exact h
def CI{c:Int->Int}(h0:∀x,c x=0↔x=0){l:Ex}(h:Tr l):Tr (l.map c):=by rw[<- pZ h,<- wc h0 _ l rfl];exact fH _
def CF{l:Ex}(h:Tr l):Tr (cS l):=by
 unfold cS;split
 ·exact CI (λx=>by omega) h
 ·exact h
theorem Ay(c:Int):∀(l:Ex) (d:Nat),fU (c.natAbs*d) (aE c l)=c.natAbs*fU d l
 | [],d=>rfl
 |v::l,d=>by show fU (Nat.gcd (c.natAbs*d) (c*v).natAbs) (aE c l)=c.natAbs*fU (Nat.gcd d v.natAbs) l;rw[N4,Nat.gcd_mul_left,Ay c l]
def oM(c:Int)(l:Ex):aC (aE c l)=c.natAbs*aC l:=by have h:=Ay c l 0;rw[Nat.mul_zero]at h;exact h
def km{l:Ex}{x:Int}(h:x∈l):(aC l:Int)∣x:=Pj.mpr (oN h)
def Du{c:Int}(hc:0<c)(l:Ex):aj (aE c l)=aj l:=by
 unfold aj;rw[oM];unfold aE;rw[N7];refine Oa λx _=>?_
 show c*x/((c.natAbs*aC l:Nat):Int)=x/(aC l:Int);have e:((c.natAbs*aC l:Nat):Int)=c*(aC l:Int):=by rw[Int.natCast_mul];congr 1;omega
 rw[e,Int.mul_ediv_mul_of_pos _ _ hc]
def Dw{c:Int}(hc:c<0)(l:Ex):aj (aE c l)=(aj l).map λx => -x:=by
 unfold aj;rw[oM];unfold aE;rw[N7,N7];refine Oa λx hx=>?_
 show c*x/((c.natAbs*aC l:Nat):Int) = -(x/(aC l:Int));have e:((c.natAbs*aC l:Nat):Int)=(-c)*(aC l:Int):=by rw[Int.natCast_mul];congr 1;omega
 have e2:c*x=(-c)*(-x):=by rw[Int.neg_mul_neg]
 rw[e,e2,Int.mul_ediv_mul_of_pos _ _ (by omega:0 < -c),Int.neg_ediv_of_dvd (km hx)]
def Fi{m:Ex}(h:Tr m):cS (m.map λx => -x)=cS m:=by
 rcases dP m with rfl |⟨r,x,rfl⟩
 ·rfl
 have hx:x≠0:=tr_snoc.mp h;have h1:=zY (r++[x]);rw[gj]at h1;unfold cS;rw[h1,gj];by_cases hn:x<0
 ·rw[if_neg (by omega),if_pos hn]
 ·rw[if_pos (by omega),if_neg hn,N7];rw[show((λx:Int => -x) ∘ λx:Int => -x)=id from by funext y;simp];exact OR _
def f8{l:Ex}(h:Tr l):Tr (aj l):=by
 intro n hn;have hl:l.length=n+1:=by rw[<- hn];unfold aj;rw[No]
 have hx:=h n hl;have hm:cf l n∈l:=by rw[cU (by omega)];exact OI _
 have e:cf (aj l) n=cf l n/(aC l:Int):=by
  have h1:n<l.length:=by omega
  unfold aj cf;simp[List.getD,h1]
 rw[e];intro z;have d:=km hm;have:=Int.mul_ediv_cancel' d;rw[z,NQ]at this;exact hx this.symm
def je{c:Int}(hc:c≠0){l:Ex}(h:Tr l):aq (aE c l)=aq l:=by
 unfold aq;by_cases hp:0<c
 ·rw[Du hp]
 ·rw[Dw (by omega),Fi (f8 h)]
def eO{c:Int}(hc:c≠0){l:Ex}(h:Tr l):Tr (aE c l):=by intro n hn;rw[dk]at hn;rw[aK];exact N3 hc (h n hn)
def y0{a b:Ex}{x y:Int}(hx:x≠0)(hy:y≠0)(ha:Tr a)(hb:Tr b)(h:∀k,x*cf a k=y*cf b k):aq a=aq b:=by
 have e:aE x a=aE y b:=kx (eO hx ha) (eO hy hb) λk=>by rw[aK,aK,h k]
 rw[<- je hx ha,e,je hy hb]
def slopeL(l:Ex):Ex:=(List.range (l.length-1)).map λ(k:Nat)=>((k:Int)+1)*cf l (k+1)
def turnL(l:Ex):Ex:=(List.range l.length).map λk=>if k%2=0 then cf l k else -cf l k
def dO(l:Ex):(turnL l).length=l.length:=by simp[turnL]
def dZ(l:Ex)(k:Nat):cf (turnL l) k=if k%2=0 then cf l k else -cf l k:=by
 unfold turnL;rw[kA];by_cases h:k<l.length
 ·rw[if_pos h]
 ·rw[if_neg h,bQ (ON h)];simp
def mK(l:Ex):turnL (turnL l)=l:=by
 apply gm
 ·rw[dO,dO]
 ·intro k _;rw[dZ,dZ];by_cases h:k%2=0
  ·rw[if_pos h,if_pos h]
  ·rw[if_neg h,if_neg h];omega
def uI(l:Ex):Ex:=trim l.reverse
def rst(one other:Ex):Ex:=if other=[]then[]else aO one other
def aJ(one other:Ex):Ex:=aj (cV [] (rst one other))
noncomputable def bj:Nat->Ex->Ex->List Ex
 |0,_,_=>[]
 |n+1,one,other=>if one=[]then[]else one::bj n other (aJ one other)
def k8(n:Nat)(o:Ex):bj n [] o=[]:=by cases n with |zero=>rfl |succ n=>show(if([]:Ex)=[]then _ else _)=_;rw[if_pos rfl]
def kR{r:Ex}(h:Tr r):cV [] r=aE (-1) r:=by
 refine kx (fH _) (eO (by decide) h) λk=>?_
 unfold cV;rw[eZ,gu,aK,bw];omega
def J5{a b:Ex}(hb:b≠[])(hbt:Tr b):0<bM a b:=by
 have h:=iN (a:=a) hb hbt
 have h2:0<=bM a b:=by
  unfold bM;generalize aW a b=n
  induction n with
  |zero=>rw[On];decide
  |succ n ih=>rw[NO];exact Int.mul_nonneg ih (Qa _)
 omega
def Ey{n:Nat}{one:Ex}(h:one≠[])(hn:0<n):bj n one []=[one]:=by obtain⟨m,rfl⟩:∃m,n=m+1:=⟨n-1,by omega⟩;show(if one=[]then[]else one::bj m [] (aJ one []))=_;rw[if_neg h,k8]
noncomputable def Ends:Nat->Ex->Ex->Prop
 |0,one,_=>one=[]
 |n+1,one,other=>one=[]\/Ends n other (aJ one other)
noncomputable def gr(B:Nat):Nat->Nat
 |0=>B
 |1=>2*B
 |k+2=>2*gr B (k+1)+gr B k
theorem IT(B:Nat):∀k,gr B k<=gr B (k+1)
 |0=>by show B<=2*B;omega
 |k+1=>by show gr B (k+1)<=2*gr B (k+1)+gr B k;omega
def gk(B:Nat){j k:Nat}(h:j<=k):gr B j<=gr B k:=by
 induction h with
 |refl=>exact Nv _
 |step _ ih=>exact NP ih (IT B _)
theorem uC(B j:Nat):∀d,gr B j+(d+2)*gr B (j+1)<=gr B (j+2+d)
 |0=>by show gr B j+2*gr B (j+1)<=2*gr B (j+1)+gr B j;omega
 |d+1=>by
  have ih:=uC B j d
  have e:gr B (j+2+(d+1))=2*gr B (j+2+d)+gr B (j+1+d):=by
   have:j+2+(d+1)=(j+1+d)+2:=by omega
   rw[this];show 2*gr B (j+1+d+1)+gr B (j+1+d)=_;have e2:j+1+d+1=j+2+d:=by omega
   rw[e2]
  have hm:gr B (j+1)<=gr B (j+1+d):=gk B (by omega);rw[e,O9]at *;have e3:(d+1)*gr B (j+1)=d*gr B (j+1)+gr B (j+1):=by rw[O9,Nat.one_mul]
  omega
def up(f:Nat->Int)(n:Nat):Int:=if n=0 then 0 else f (n-1)
theorem xM(x:Int)(a b:Ex)(n:Nat):∀j,sm (x::a) b n (j+1)=x*cf b n+(if n=0 then 0 else sm a b (n-1) j)
 |0=>by
  show 0+tm (x::a) b n 0=_;unfold tm;rw[if_pos (Nw _)];rw[pe,OA];by_cases h:n=0
  ·rw[if_pos h];omega
  ·rw[if_neg h];show _=_+0;omega
 |j+1=>by
  show sm (x::a) b n (j+1)+tm (x::a) b n (j+1)=_;rw[xM x a b n j];by_cases h:n=0
  ·rw[if_pos h,if_pos h];unfold tm;rw[if_neg (by omega)];omega
  ·rw[if_neg h,if_neg h];show _=_+(sm a b (n-1) j+tm a b (n-1) j)
   have e:tm (x::a) b n (j+1)=tm a b (n-1) j:=by
    unfold tm;rw[kz];by_cases h2:j+1<=n
    ·rw[if_pos h2,if_pos (by omega)]
     congr 2;omega
    ·rw[if_neg h2,if_neg (by omega)]
   rw[e];omega
def dB(x:Int)(a b:Ex)(n:Nat):aw (x::a) b n=x*cf b n+up (aw a b) n:=xM x a b n a.length
def dN(b:Ex)(n:Nat):aw [] b n=0:=rfl
def pB(x:Int)(a:Ex)(n:Nat):cf (x::a) n=(if n=0 then x else 0)+up (cf a) n:=by
 cases n with
 |zero=>show x=x+0;omega
 |succ n=>show cf a n=0+cf a n;omega
theorem ue(y:Int)(b:Ex):∀(a:Ex) (n:Nat),aw a (y::b) n=y*cf a n+up (aw a b) n
 | [],n=>by
  rw[dN,bw];unfold up;split
  ·simp
  ·rw[dN];simp
 |x::a,n=>by
  rw[dB,pB,pB];cases n with
  |zero =>show x*(y+0)+0=y*(x+0)+0;simp only[Of];exact Om _ _
  |succ n =>show x*(0+cf b n)+aw a (y::b) n=y*(0+cf a n)+aw (x::a) b n;rw[ue y b a n,dB];simp only[OE];omega
theorem zv:∀(a:Ex) (n:Nat),aw a [] n=0
 | [],n=>rfl
 |x::a,n=>by
  rw[dB,bw];unfold up;split
  ·simp
  ·rw[zv a];simp
theorem eD:∀(a b:Ex) (n:Nat),aw a b n=aw b a n
 | [],b,n=>by rw[zv];rfl
 |x::a,b,n=>by
  rw[dB,ue]
  congr 1
  unfold up;split
  ·rfl
  ·exact eD a b _
def Hs{a b c q:Ex}{x y:Int}{n:Nat}(h:∀k,cf c k=x*cf a k+y*cf b k):aw q c n=x*aw q a n+y*aw q b n:=by rw[eD q c,g6 h,eD q a,eD q b]
def pz(a:Ex)(n:Nat):cf (0::a) n=up (cf a) n:=by rw[pB];split<;>omega
def zu(a b:Ex)(n:Nat):aw (0::a) b n=up (aw a b) n:=by rw[dB];omega
theorem lJ:∀(a b c:Ex) (n:Nat),aw (ag a b) c n=aw a (ag b c) n
 | [],b,c,n=>by rw[dN,uc λk=>by rw[ay,dN]]
 |x::a,b,c,n=>by
  rw[dB,ay]
  have e:∀k,cf (ag (x::a) b) k=x*cf b k+1*cf (0::ag a b) k:=λk=>by
   rw[ay,dB,pz,NM]
   congr 1
   unfold up;split
   ·rfl
   ·rw[ay]
  rw[g6 e,zu,NM]
  congr 1
  unfold up;split
  ·rfl
  ·exact lJ a b c _
def Dv(d p:Ex):Prop:=∃(c:Int) (q:Ex),c≠0/\∀n,c*cf p n=aw q d n
def Dv.refl(d:Ex):Dv d d:=⟨1,[1],by decide,λn=>by rw[gb]⟩
def Dv.nil(d:Ex):Dv d []:=⟨1,[],by decide,λn=>by rw[bw,dN];rfl⟩
def Dv.trans{d e p:Ex}(h1:Dv d e)(h2:Dv e p):Dv d p:=by obtain⟨c1,q1,hc1,e1⟩:=h1;obtain⟨c2,q2,hc2,e2⟩:=h2;refine⟨c1*c2,ag q2 q1,N3 hc1 hc2,λn=>?_⟩;rw[lJ,OU,e2,<- eA (b':=ag q1 d) (λk=>by rw[ay,e1])]
def Dv.up{d a b r q:Ex}{f:Int}(hf:f≠0)(h:∀n,f*cf a n=aw q b n+cf r n)(hb:Dv d b)(hr:Dv d r):Dv d a:=by obtain⟨c1,q1,hc1,e1⟩:=hb;obtain⟨c2,q2,hc2,e2⟩:=hr;refine⟨c1*c2*f,dX c1 (aE c2 (ag q q1)) q2,N3 (N3 hc1 hc2) hf,λn=>?_⟩;rw[g6 (a:=ag q q1) (b:=q2) (x:=c2) (y:=c1) (λk=>by rw[gu,aK]),lJ,<- e2,eA (b:=b) (b':=ag q1 d) (c:=c1) (λk=>by rw[ay,e1])];have:=h n;grind
def Dv.down{d a b r q:Ex}{f:Int}(h:∀n,f*cf a n=aw q b n+cf r n)(ha:Dv d a)(hb:Dv d b):Dv d r:=by obtain⟨c1,q1,hc1,e1⟩:=ha;obtain⟨c2,q2,hc2,e2⟩:=hb;refine⟨c1*c2,dX (-c1) (aE (f*c2) q1) (ag q q2),N3 hc1 hc2,λn=>?_⟩;rw[g6 (a:=q1) (b:=ag q q2) (x:=f*c2) (y := -c1) (λk=>by rw[gu,aK]),lJ,<- e1,eA (b:=b) (b':=ag q2 d) (c:=c2) (λk=>by rw[ay,e2])];have:=h n;grind
def Dv.prop_right{d p p':Ex}{x y:Int}(hx:x≠0)(h:∀n,x*cf p' n=y*cf p n)(hd:Dv d p):Dv d p':=by obtain⟨c,q,hc,e⟩:=hd;refine⟨c*x,aE y q,N3 hc hx,λn=>?_⟩;rw[g6 (a:=q) (b:=[]) (x:=y) (y:=0) (λk=>by rw[aK];simp),<- e];have:=h n;grind
def Dv.prop_left{d d' p:Ex}{x y:Int}(hx:x≠0)(hy:y≠0)(h:∀n,x*cf d' n=y*cf d n)(hd:Dv d p):Dv d' p :=
 Dv.trans (Dv.prop_right hy (λn=>(h n).symm) (Dv.refl d')) hd
def yZ{l:Ex}(h:Tr l):∃g:Int,g≠0/\∀n,cf l n=g*cf (aq l) n:=by
 by_cases hl:l=[]
 ·subst hl;exact⟨1,by decide,λn=>by rw[bw];show 0=1*cf [] n;rw[bw];rfl⟩
 have hg:(aC l:Int)≠0:=by obtain⟨r,x,rfl⟩:=(dP l).resolve_left hl;have hx:x≠0:=tr_snoc.mp h;have h1:0<aC (r++[x]):=Nat.pos_of_dvd_of_pos (oN (by simp:x∈r++[x])) (OK.mpr hx);omega
 have e1:∀n,cf l n=(aC l:Int)*cf (aj l) n:=λn=>by
  unfold aj;by_cases hn:n<l.length
  ·rw[cU hn,cU (by rw[No];exact hn),List.getElem_map];exact(Int.mul_ediv_cancel' (km (OI hn))).symm
  ·rw[bQ (by omega),bQ (by rw[No];omega),NQ]
 unfold aq cS;split
 ·refine⟨-(aC l:Int),by omega,λn=>?_⟩
  have e2:cf ((aj l).map λx => -x) n = -cf (aj l) n:=by
   by_cases hn:n<(aj l).length
   ·rw[cU hn,cU (by rw[No];exact hn),List.getElem_map]
   ·rw[bQ (l:=aj l) (by omega),bQ (l:=(aj l).map λx => -x) (by rw[No];omega)];rfl
  rw[e1,e2];grind
 ·exact⟨_,hg,e1⟩
def Dv.plain{d p:Ex}(hp:Tr p):Dv d (aq p)↔Dv d p:=by obtain⟨g,hg,e⟩:=yZ hp;exact⟨λh=>Dv.prop_right (x:=1) (y:=g) (by decide) (λn=>by rw[e];omega) h,λh=>Dv.prop_right (x:=g) (y:=1) hg (λn=>by rw[<- e];omega) h⟩
def plain_len(l:Ex):(aq l).length=l.length:=by unfold aq cS aj;split<;>simp
def ix{l:Ex}(h:Tr l):Tr (aq l):=CF (f8 h)
noncomputable def c7:Nat->Ex->Ex->Ex
 |0,one,_=>one
 |n+1,one,other=>if other=[]then one else c7 n other (aq (aO one other))
def Bn(n:Nat)(one:Ex):c7 n one []=one:=by cases n<;>rfl
def Kd{n:Nat}{one other:Ex}(h:other≠[]):c7 (n+1) one other=c7 n other (aq (aO one other)):=by show(if other=[]then one else c7 n other (aq (aO one other)))=_;rw[if_neg h]
theorem Bm:∀(n:Nat) (one other:Ex),other.length<=n->Tr one->Tr other->Tr (c7 n one other)/\Dv (c7 n one other) one/\Dv (c7 n one other) other/\(∀d,Dv d one->Dv d other->Dv d (c7 n one other))/\(one≠[]\/other≠[]->c7 n one other≠[])/\(c7 n one other=one\/c7 n one other=other\/∃l,Tr l/\c7 n one other=aq l)
 |n,one,[],_,t1,_=>by rw[Bn];exact⟨t1,Dv.refl _,Dv.nil _,λd h _=>h,λh=>h.resolve_right λz=>z rfl,.inl rfl⟩
 |0,one,x::o,h,_,_=>absurd h (Nat.not_succ_le_zero _)
 |n+1,one,x::o,h,t1,t2=>by
  have hne:x::o≠[]:=λz=>nomatch z
  rw[Kd hne];generalize x::o=other at h t2 hne
  have tr:=fW one other;have hl:=gs (a:=one) hne;obtain⟨c1,c2,c3,c4,c5,c6⟩:=Bm n other (aq (aO one other)) (by rw[plain_len];omega) t2 (ix tr);have eq:=λk=>gt (a:=one) hne k
  refine⟨c1,Dv.up (iN (a:=one) hne t2) eq c2 ((Dv.plain tr).mp c3),c2,λd h1 h2=>c4 d h2 ((Dv.plain tr).mpr (Dv.down eq h1 h2)),λ_=>c5 (.inl hne),?_⟩;rcases c6 with e |e |e
  ·exact .inr (.inl e)
  ·exact .inr (.inr ⟨_,tr,e⟩)
  ·exact .inr (.inr e)
def Cop(a:Ex)(m:Nat):Prop:=∀k:Nat,k∣m->(∀n,(k:Int)∣cf a n)->k=1
theorem uD:∀(N:Nat) (a b:Ex) (m:Nat),a.length+b.length<=N->Cop a m->Cop b m->(∀n,(m:Int)∣aw a b n)->m=1
 |_,[],b,m,_,h1,_,_=>h1 m (Nat.dvd_refl _) λn=>by rw[bw];exact Int.dvd_zero _
 |_,_::_,[],m,_,_,h2,_=>h2 m (Nat.dvd_refl _) λn=>by rw[bw];exact Int.dvd_zero _
 |0,_::_,_::_,_,h,_,_,_=>absurd h (by simp)
 |N+1,x::a,y::b,m,h,h1,h2,h3=>by
  have d1:Nat.gcd m x.natAbs=1:=by
   refine uD N a (y::b) _ (by simp at h ⊢;omega) (λk hk hn=>h1 k (PJ hk (OZ _ _)) λn=>?_) (λk hk=>h2 k (PJ hk (OZ _ _))) λn=>?_
   ·cases n with
    |zero=>exact Pj.mpr (PJ hk (Pi _ _))
    |succ n=>exact hn n
   ·have e:=dB x a (y::b) (n+1);have g1:((Nat.gcd m x.natAbs:Nat):Int)∣aw (x::a) (y::b) (n+1):=Int.dvd_trans (Int.ofNat_dvd.mpr (OZ _ _)) (h3 _);have g2:((Nat.gcd m x.natAbs:Nat):Int)∣x*cf (y::b) (n+1):=Int.dvd_mul_of_dvd_left (Pj.mpr (Pi _ _))
    have e2:aw a (y::b) n=aw (x::a) (y::b) (n+1)-x*cf (y::b) (n+1):=by rw[e];show _=_+aw a (y::b) n-_;omega
    rw[e2];exact Int.dvd_sub g1 g2
  have d2:Nat.gcd m y.natAbs=1:=by
   refine uD N (x::a) b _ (by simp at h ⊢;omega) (λk hk=>h1 k (PJ hk (OZ _ _))) (λk hk hn=>h2 k (PJ hk (OZ _ _)) λn=>?_) λn=>?_
   ·cases n with
    |zero=>exact Pj.mpr (PJ hk (Pi _ _))
    |succ n=>exact hn n
   ·have e:=ue y b (x::a) (n+1);have g1:((Nat.gcd m y.natAbs:Nat):Int)∣aw (x::a) (y::b) (n+1):=Int.dvd_trans (Int.ofNat_dvd.mpr (OZ _ _)) (h3 _);have g2:((Nat.gcd m y.natAbs:Nat):Int)∣y*cf (x::a) (n+1):=Int.dvd_mul_of_dvd_left (Pj.mpr (Pi _ _))
    have e2:aw (x::a) b n=aw (x::a) (y::b) (n+1)-y*cf (x::a) (n+1):=by rw[e];show _=_+aw (x::a) b n-_;omega
    rw[e2];exact Int.dvd_sub g1 g2
  have h0:=h3 0;rw[dB]at h0
  have h0':m∣x.natAbs*y.natAbs:=by
   rw[<- N4];refine Pj.mp ?_
   have e:x*cf (y::b) 0+up (aw a (y::b)) 0=x*y:=by show x*y+0=x*y;omega
   rwa [e]at h0
  have h4:m∣y.natAbs:=Nat.Coprime.dvd_of_dvd_mul_left d1 h0';rw[Nat.gcd_eq_left h4]at d2;exact d2
def g8{l:Ex}{v:Int}(h:v∈l):∃n,n<l.length/\cf l n=v:=by obtain⟨n,hn,e⟩:=List.getElem_of_mem h;exact⟨n,hn,by rw[cU hn,e]⟩
def Bi{a:Ex}{m:Nat}(h:aC a=1):Cop a m:=λk _ hn=>by
 have:k∣aC a:=dvd_gcdL.mpr λv hv=>by obtain⟨n,_,rfl⟩:=g8 hv;exact Pj.mp (hn n)
 rw[h]at this;exact Nat.dvd_one.mp this
def Fg{a b:Ex}(ha:aC a=1)(hb:aC b=1):aC (ag a b)=1:=by
 refine uD _ a b _ (Nv _) (Bi ha) (Bi hb) λn=>?_
 rw[<- ay];by_cases hn:n<(ag a b).length
 ·rw[cU hn];exact km (OI hn)
 ·rw[bQ (by omega)];exact Int.dvd_zero _
structure Pln(l:Ex):Prop where
 tr:Tr l
 ne:l≠[]
 prim:aC l=1
 pos:0<ao l
def ut{l:Ex}(h:Tr l)(hne:l≠[]):ao l≠0:=by have:=Nz.mpr hne;exact h (l.length-1) (by omega)
def Pln.plain{l:Ex}(h:Pln l):aq l=l:=by unfold aq;rw[qF (.inr h.prim)];unfold cS;rw[if_neg (by have:=h.pos;omega)]
def mZ{l:Ex}:aE (aC l:Int) (aj l)=l:=by unfold aE aj;rw[N7];refine(Oa (g:=id) λx hx=>?_).trans (OR _);exact Int.mul_ediv_cancel' (km hx)
def cX{l:Ex}(h:Tr l)(hne:l≠[]):Pln (aq l):=by
 have hg:0<aC l:=by obtain⟨r,x,rfl⟩:=(dP l).resolve_left hne;have hx:x≠0:=tr_snoc.mp h;exact Nat.pos_of_dvd_of_pos (oN (by simp:x∈r++[x])) (OK.mpr hx)
 have h1:aC (aj l)=1:=by have e:=oM (aC l:Int) (aj l);rw[mZ,OF]at e;exact Nat.eq_of_mul_eq_mul_left hg (by rw[<- e,Nat.mul_one])
 have hs:aj l≠[]:=λz=>hne (by have:=congrArg List.length z;unfold aj at this;simpa using this)
 have hl:=ut (f8 h) hs
 have hp:aC (aq l)=1:=by
  rcases Fe (.inr h1:kE (aj l))with z |z
  ·exact absurd (congrArg List.length z) (by
    have:=plain_len l;unfold aq at this
    rw[this]
    exactλq=>hne (OQ.mp q))
  ·exact z
 refine⟨ix h,λz=>hne (OQ.mp (by rw[<- plain_len,z];rfl)),hp,?_⟩;unfold aq cS;split
 ·rw[zY];omega
 ·omega
def bK{a b:Ex}(ha:a≠[])(hb:b≠[]):(ag a b).length=a.length+b.length-1:=by unfold ag;rw[if_neg (λz=>z.elim ha hb),No,OJ]
def zW{a b:Ex}(ha:a≠[])(hb:b≠[]):ao (ag a b)=ao a*ao b:=by
 have h1:=Nz.mpr ha;have h2:=Nz.mpr hb;unfold ao;rw[bK ha hb,ay];have e:a.length+b.length-1-1=(a.length-1)+(b.length-1):=by omega
 rw[e,ud (by omega) (by omega)]
def Pln.mul{a b:Ex}(ha:Pln a)(hb:Pln b):Pln (ag a b):=by
 refine⟨fI ha.tr hb.tr,λz=>?_,Fg ha.prim hb.prim,by rw[zW ha.ne hb.ne];exact NH ha.pos hb.pos⟩;have h1:=Nz.mpr ha.ne;have h2:=Nz.mpr hb.ne;have:=bK ha.ne hb.ne;rw[z]at this;simp at this
 omega
def Fk{p q d:Ex}{c:Int}(hc:c≠0)(hp:Tr p)(hpn:p≠[])(hq:Tr q)(hd:Pln d)(h:∀n,c*cf p n=aw q d n):ag (aq q) d=aq p:=by
 have hqn:q≠[]:=λz=>by have h1:=Nz.mpr hpn;have h2:=h (p.length-1);rw[z,dN]at h2;exact N3 hc (hp (p.length-1) (by omega)) h2
 obtain⟨g,hg,e⟩:=yZ hq;have hm:=(cX hq hqn).mul hd;rw[<- hm.plain];refine y0 hg hc hm.tr hp λk=>?_
 rw[h,ay,g6 (a:=aq q) (b:=[]) (x:=g) (y:=0) (c:=q) (λk=>by rw[e];simp),dN];simp
def Dv.trim{d p:Ex}(h:Dv d p):∃(c:Int) (q:Ex),c≠0/\Tr q/\∀n,c*cf p n=aw q d n:=by obtain⟨c,q,hc,e⟩:=h;exact⟨c,RM.trim q,hc,fH q,λn=>by rw[e];exact(zw (λk=>eZ q k) λ_=>rfl).symm⟩
def Dv.fellow{d p:Ex}(hd:Pln d)(hp:Tr p)(hpn:p≠[])(h:Dv d p):∃q,Pln q/\ag q d=aq p:=by
 obtain⟨c,q,hc,hq,e⟩:=h.trim
 have hqn:q≠[]:=λz=>by have h1:=Nz.mpr hpn;have h2:=e (p.length-1);rw[z,dN]at h2;exact N3 hc (hp (p.length-1) (by omega)) h2
 exact⟨aq q,cX hq hqn,Fk hc hp hpn hq hd e⟩
def Pln.const{l:Ex}(h:Pln l)(h1:l.length=1):l=[1]:=by
 obtain⟨x,rfl⟩:∃x,l=[x]:=List.length_eq_one_iff.mp h1;have h2:=h.prim;rw[I0]at h2;have h3:0<x:=h.pos;have:x=1:=by omega
 rw[this]
def one_mul(l:Ex)(h:Tr l):ag [1] l=l:=by
 refine kx (fI (tr_snoc (r:=[]).mpr (by decide)) h) h λk=>?_
 rw[ay,gb];omega
def Fj{a b:Ex}(ha:Pln a)(hb:Pln b)(h1:Dv a b)(h2:Dv b a):a=b:=by obtain⟨q,hq,e⟩:=h1.fellow ha hb.tr hb.ne;obtain⟨r,hr,e'⟩:=h2.fellow hb ha.tr ha.ne;rw[hb.plain]at e;rw[ha.plain]at e';have l1:=bK hq.ne ha.ne;have l2:=bK hr.ne hb.ne;rw[e]at l1;rw[e']at l2;have p1:=Nz.mpr hq.ne;have p2:=Nz.mpr hr.ne;have p3:=Nz.mpr ha.ne;have hq1:=hq.const (by omega);rw[hq1,one_mul a ha.tr]at e;exact e
def Dv.short{d r:Ex}(hd:d≠[])(hdt:Tr d)(hr:Tr r)(hl:r.length<d.length)(h:Dv d r):r=[]:=by
 obtain⟨c,q,hc,e⟩:=h;have z:=zt hd hdt (d:=q) λn hn=>by rw[<- e,bQ (by omega),NQ]
 refine tX hr λk=>?_
 have h1:=e k;rw[uc z]at h1;exact(Pa.mp h1).resolve_left hc
def Dv.rest{d p:Ex}(hd:d≠[])(hdt:Tr d)(h:Dv d p):aO p d=[] :=
 Dv.short hd hdt (fW _ _) (gs hd) (Dv.down (λn=>gt (a:=p) hd n) h (Dv.refl d))
def Dv.mul_right(a b:Ex):Dv b (ag a b):=⟨1,a,by decide,λn=>by rw[ay];omega⟩
def Dv.mul_left(a b:Ex):Dv a (ag a b):=⟨1,b,by decide,λn=>by rw[ay,eD];omega⟩
def ev(t:Int):Ex->Int
 | []=>0
 |v::l=>v+t*ev t l
def uY(l:Ex)(k:Nat):cf l.tail k=cf l (k+1):=by
 cases l with
 |nil=>rw[List.tail_nil,bw,bw]
 |cons v l=>rfl
def uN(t:Int)(l:Ex):ev t l=cf l 0+t*ev t l.tail:=by
 cases l with
 |nil=>show(0:Int)=cf [] 0+t*0;rw[bw];simp
 |cons v l=>rfl
theorem AT{t x y:Int}:∀(n:Nat) (a b c:Ex),a.length<=n->b.length<=n->c.length<=n->(∀k,cf c k=x*cf a k+y*cf b k)->ev t c=x*ev t a+y*ev t b
 |0,a,b,c,ha,hb,hc,_=>by rw[OQ.mp (O1.mp ha),OQ.mp (O1.mp hb),OQ.mp (O1.mp hc)];show(0:Int)=x*0+y*0;simp
 |n+1,a,b,c,ha,hb,hc,h=>by
  have ih:=AT (t:=t) (x:=x) (y:=y) n a.tail b.tail c.tail (by rw[List.length_tail];omega) (by rw[List.length_tail];omega) (by rw[List.length_tail];omega) λk=>by rw[uY,uY,uY,h]
  rw[uN t a,uN t b,uN t c,ih,h 0];grind
def AS{t x y:Int}{a b c:Ex}(h:∀k,cf c k=x*cf a k+y*cf b k):ev t c=x*ev t a+y*ev t b :=
 AT (max a.length (max b.length c.length)) a b c (by omega) (by omega) (by omega) h
theorem AR(t:Int):∀a b:Ex,ev t (ag a b)=ev t a*ev t b
 | [],b=>by
  have:ag [] b=[]:=by unfold ag;rw[if_pos (.inl rfl)]
  rw[this];show(0:Int)=0*_;simp
 |x::a,b=>by
  have e:∀k,cf (ag (x::a) b) k=x*cf b k+1*cf (0::ag a b) k:=λk=>by
   rw[ay,dB,pz,NM]
   congr 1
   unfold up;split
   ·rfl
   ·rw[ay]
  rw[AS e];show x*ev t b+1*(0+t*ev t (ag a b))=(x+t*ev t a)*ev t b;rw[AR t a b];grind
noncomputable def cx(t:Int):Ex->Ex
 | []=>[]
 |_::l=>dX t l (cx t l)
theorem qd(t:Int):∀l:Ex,(cx t l).length<=l.length-1
 | []=>Nv _
 |v::l=>by have:=qd t l;show((List.range (max l.length (cx t l).length)).map _).length<=(v::l).length-1;rw[No,OJ,Ny];omega
theorem qf(t u:Int):∀l:Ex,ev u l=ev t l+(u-t)*ev u (cx t l)
 | []=>by show(0:Int)=0+(u-t)*0;simp
 |v::l=>by
  have ih:=qf t u l;have e:ev u (dX t l (cx t l))=1*ev u l+t*ev u (cx t l):=AS λk=>by rw[gu];omega
  show v+u*ev u l=v+t*ev t l+(u-t)*ev u (dX t l (cx t l));rw[e];grind
theorem mP(t:Int):∀(l:Ex) (k:Nat),cf l k=(if k=0 then ev t l else 0)+up (cf (cx t l)) k-t*cf (cx t l) k
 | [],k=>by show cf [] k=(if k=0 then 0 else 0)+up (cf []) k-t*cf [] k;unfold up;simp only[bw];split<;>simp
 |v::l,k=>by
  show cf (v::l) k=(if k=0 then v+t*ev t l else 0)+up (cf (dX t l (cx t l))) k-t*cf (dX t l (cx t l)) k;cases k with
  |zero =>have ih:=mP t l 0;rw[gu,pe];show v=(v+t*ev t l)+0-t*(cf l 0+t*cf (cx t l) 0);have ih':cf l 0=ev t l+0-t*cf (cx t l) 0:=ih;grind
  |succ k =>have ih:=mP t l (k+1);have ih':cf l (k+1)=0+cf (cx t l) k-t*cf (cx t l) (k+1):=ih;rw[kz,gu];show cf l k=0+cf (dX t l (cx t l)) k-t*(cf l (k+1)+t*cf (cx t l) (k+1));rw[gu];grind
theorem yr:∀(n:Nat) (l ts:Ex),l.length<=n->ts.length=n->ts.Nodup->(∀t∈ts,ev t l=0)->∀k,cf l k=0
 |0,l,ts,h,_,_,_=>λk=>bQ (by omega)
 |n+1,l,[],_,h,_,_=>absurd h (by simp)
 |n+1,l,t::ts,h1,h2,h3,h4=>by
  have h3':=Py.mp h3;have e0:=h4 t (NK ..)
  have z:=yr n (cx t l) ts (by have:=qd t l;omega) (by simpa using h2) h3'.2 λu hu=>by
   have e:=qf t u l;rw[h4 u (NB _ hu),e0]at e
   have hne:u-t≠0:=λz=>h3'.1 (by have:u=t:=by omega
                                 exact this ▸ hu)
   have e':(u-t)*ev u (cx t l)=0:=by omega
   exact(Pa.mp e').resolve_left hne
  intro k;rw[mP t l k,e0];unfold up;simp only[z];split<;>simp
def KI{a b c:Int}{A B C D:Nat}(ha:a.natAbs<=A)(hb:b.natAbs<=B)(hc:c.natAbs<=C)(h:A+B+C<=D):(c+a-b).natAbs<=D:=NP (Int.natAbs_sub_le (c+a) b) (NP (Nat.add_le_add (PB c a) (Nv _)) (by omega))
theorem AM:∀(n:Nat) (l ts:Ex) (V:Nat),l.length<=n->ts.length=n->ts.Nodup->(∀t∈ts,t.natAbs<=6/\(ev t l).natAbs<=V)->∀k,(cf l k).natAbs<=16^n*V
 |0,l,ts,V,h,_,_,_=>λk=>by rw[bQ (by omega)];exact Nw _
 |n+1,l,[],_,_,h,_,_=>absurd h (by simp)
 |n+1,l,t::ts,V,h1,h2,h3,h4=>by
  have h3':=Py.mp h3;obtain⟨t6,e0⟩:=h4 t (NK ..)
  have z:=AM n (cx t l) ts (2*V) (by have:=qd t l;omega) (by simpa using h2) h3'.2 λu hu=>by
   obtain⟨u6,eu⟩:=h4 u (NB _ hu);refine⟨u6,?_⟩;have e:=qf t u l
   have hne:u-t≠0:=λz=>h3'.1 (by have:u=t:=by omega
                                 exact this ▸ hu)
   have e':(u-t)*ev u (cx t l)=ev u l-ev t l:=by omega
   have e2:=congrArg Int.natAbs e';rw[N4]at e2;have h5:1<=(u-t).natAbs:=OK.mpr hne
   have h6:(ev u l-ev t l).natAbs<=2*V:=by have:=Int.natAbs_sub_le (ev u l) (ev t l);omega
   exact NP (O0 _ h5) (by rw[e2];exact h6)
  intro k;have hW:∀j,(cf (cx t l) j).natAbs<=16^n*(2*V):=z
  have hup:(up (cf (cx t l)) k).natAbs<=16^n*(2*V):=by
   unfold up;split
   ·exact Nw _
   ·exact hW _
  have hmul:(t*cf (cx t l) k).natAbs<=6*(16^n*(2*V)):=by rw[N4];exact PK t6 (hW k)
  have hif:(if k=0 then ev t l else 0).natAbs<=V:=by
   split
   ·exact e0
   ·exact Nw _
  rw[mP t l k];have e16:16^(n+1)*V=16*(16^n*V):=by rw[Ph];grind
  have e2V:16^n*(2*V)=2*(16^n*V):=by grind
  have hV:V<=16^n*V:=O0 _ (OT (by decide));rw[e2V]at hup hmul;rw[e16];clear z hW h4 h3 h3' e2V e16 h1 h2;generalize 16^n*V=Y at *
  generalize up (cf (cx t l)) k=a at *
  generalize t*cf (cx t l) k=b at *
  generalize (if k=0 then ev t l else 0)=c at *
  exact KI hup hmul hif (by omega)
theorem AU{t:Int}(ht:t.natAbs<=6){M:Nat}:∀l:Ex,(∀x∈l,x.natAbs<=M)->(ev t l).natAbs<=M*7^l.length
 | [],_=>Nw _
 |v::l,h=>by
  have ih:=AU ht l λx hx=>h x (NB _ hx)
  have hv:=h v (NK ..)
  have hm:(t*ev t l).natAbs<=6*(M*7^l.length):=by rw[N4];exact PK ht ih
  have e:M*7^(v::l).length=7*(M*7^l.length):=by rw[Ny,Ph];grind
  have hM:M<=M*7^l.length:=Qb _ (OT (by decide));rw[e];show(v+t*ev t l).natAbs<=_;have:=PB v (t*ev t l);omega
def pts:Ex:=[-6,-5,-4,-3,-2,-1,0,1,2,3,4,5,6]
theorem AF(f:Int->Bool):∀l:Ex,(l.filter f).length+(l.filter λx=>!f x).length=l.length
 | []=>rfl
 |v::l=>by have ih:=AF f l;rw[List.filter_cons,List.filter_cons];cases f v<;>simp<;>omega
def uL{q d p:Ex}{M:Nat}(hp:Tr p)(hne:p≠[])(hm:ag q d=p)(hl:p.length<=7)(hM:∀x∈p,x.natAbs<=M)(k:Nat):(cf d k).natAbs<=16^7*(M*7^7):=by
 have hq:q≠[]:=λz=>hne (by rw[<- hm,z];unfold ag;rw[if_pos (.inl rfl)])
 have hd:d≠[]:=λz=>hne (by rw[<- hm,z];unfold ag;rw[if_pos (.inr rfl)])
 have hdl:d.length<=7:=by have:=bK hq hd;have h1:=Nz.mpr hq;rw[hm]at this;omega
 have nd:pts.Nodup:=by decide
 have hr:(pts.filter λt=>decide (ev t p=0)).length<=6:=by
  refine Classical.byContradiction λh=>?_
  have z:=yr 7 p ((pts.filter λt=>decide (ev t p=0)).take 7) hl (by rw[Oe];omega) ((nd.filter _).sublist (List.take_sublist _ _)) λt ht=>by have:=(List.mem_filter.mp (PY ht)).2;exact of_decide_eq_true this
  have h1:=Nz.mpr hne;exact hp (p.length-1) (by omega) (z _)
 have hs:=AF (λt=>decide (ev t p=0)) pts;have h13:pts.length=13:=rfl;refine AM 7 d ((pts.filter λt=>!decide (ev t p=0)).take 7) _ hdl (by rw[Oe];omega) ((nd.filter _).sublist (List.take_sublist _ _)) (λt ht=>?_) k;obtain⟨m1,m2⟩:=List.mem_filter.mp (PY ht)
 have t6:t.natAbs<=6:=by
  have:∀t∈pts,t.natAbs<=6:=by decide
  exact this t m1
 have hz:ev t p≠0:=by simpa using m2
 refine⟨t6,?_⟩;have e:=AR t q d;rw[hm]at e;have hq0:ev t q≠0:=λz=>hz (by rw[e,z,Ov])
 have h1:1<=(ev t q).natAbs:=OK.mpr hq0;have h2:=AU t6 p hM
 have h3:(ev t d).natAbs<=(ev t p).natAbs:=by rw[e,N4];exact O0 _ h1
 exact NP h3 (NP h2 (OS _ (Nat.pow_le_pow_right (by decide) hl)))
def iI(a:Ex):ag [] a=[]:=by unfold ag;rw[if_pos (.inl rfl)]
def g7(a:Ex):ag a []=[]:=by unfold ag;rw[if_pos (.inr rfl)]
def ug(a b:Ex):ag a b=ag b a:=by
 by_cases ha:a=[]
 ·rw[ha,iI,g7]
 by_cases hb:b=[]
 ·rw[hb,iI,g7]
 refine gm ?_ λk _=>?_
 ·rw[bK ha hb,bK hb ha];omega
 ·rw[ay,ay,eD]
def uf{a b:Ex}(ha:a≠[])(hb:b≠[]):ag a b≠[]:=λz=>by have:=bK ha hb;rw[z,Ol]at this;have:=Nz.mpr ha;have:=Nz.mpr hb;omega
def zA(a b c:Ex):ag (ag a b) c=ag a (ag b c):=by
 by_cases ha:a=[]
 ·rw[ha,iI,iI,iI]
 by_cases hb:b=[]
 ·rw[hb,iI,g7,iI]
 by_cases hc:c=[]
 ·rw[hc,g7,g7,g7]
 have h1:=uf ha hb;have h2:=uf hb hc;refine gm ?_ λk _=>?_
 ·have:=Nz.mpr hb;rw[bK h1 hc,bK ha h2,bK ha hb,bK hb hc];obtain⟨y,ey⟩:=Nat.exists_eq_succ_of_ne_zero (Px this);rw[ey,Nat.succ_add,Nat.add_succ,Nat.succ_sub_one,Nat.succ_sub_one,Nat.add_assoc]
 ·rw[ay,ay,lJ]
instance:Std.Commutative ag:=⟨ug⟩
instance:Std.Associative ag:=⟨zA⟩
def HB(a:Ex):ag [1] a=a:=by
 by_cases ha:a=[]
 ·rw[ha,g7]
 refine gm ?_ λk _=>?_
 ·rw[bK (by simp) ha];simp
 ·rw[ay,gb];omega
def HA(a:Ex):ag a [1]=a:=by rw[ug,HB]
def Dv.cancel{d a b:Ex}(hd:d≠[])(ht:Tr d)(h:Dv (ag d a) (ag d b)):Dv a b:=by
 obtain⟨c,q,hc,e⟩:=h
 have key:∀k,cf (dX (-1) (aE c b) (ag q a)) k=0:=by
  refine zt hd ht λn _=>?_
  rw[g6 (a:=b) (b:=ag q a) (x:=c) (y := -1) (λk=>by rw[gu,aK])]
  have e1:aw (ag q a) d n=aw q (ag d a) n:=by
   rw[<- ay,<- ay]
   congr 1
   rw[zA,ug a d]
  have e2:=e n;rw[ay,eD]at e2;rw[e1,<- e2];omega
 refine⟨c,q,hc,λn=>?_⟩;have:=key n;rw[gu,aK,ay]at this;omega
def cu(l:Ex)(n:Nat):cf (slopeL l) n=((n:Int)+1)*cf l (n+1):=by
 unfold slopeL;rw[kA];by_cases h:n<l.length-1
 ·rw[if_pos h]
 ·rw[if_neg h,bQ (l:=l) (by omega),NQ]
def xT(x:Int)(a:Ex)(n:Nat):cf (slopeL (x::a)) n=1*cf a n+1*cf (0::slopeL a) n:=by
 rw[cu,kz,pz];cases n with
 |zero=>show(((0:Nat):Int)+1)*cf a 0=1*cf a 0+1*0;omega
 |succ n =>
  show(((n+1:Nat):Int)+1)*cf a (n+1)=1*cf a (n+1)+1*cf (slopeL a) n;rw[cu];have:((n+1:Nat):Int)=(n:Int)+1:=by omega
  rw[this,Int.add_mul];omega
theorem iU:∀(a b:Ex) (n:Nat),cf (slopeL (ag a b)) n=aw (slopeL a) b n+aw a (slopeL b) n
 | [],b,n=>by rw[iI];show cf (slopeL []) n=aw (slopeL []) b n+aw [] (slopeL b) n;have:slopeL []=[]:=rfl;rw[this,bw,dN,dN];omega
 |x::a,b,n=>by
  rw[cu,ay,dB,g6 (q:=b) (xT x a),zu,dB,cu];show((n:Int)+1)*(x*cf b (n+1)+aw a b n)=_;cases n with
  |zero =>show(((0:Nat):Int)+1)*(x*cf b 1+aw a b 0)=1*aw a b 0+1*0+(x*((((0:Nat):Int)+1)*cf b 1)+0);simp;omega
  |succ n =>
   have ih:=iU a b n;rw[cu,ay]at ih;show(((n+1:Nat):Int)+1)*(x*cf b (n+1+1)+aw a b (n+1))=1*aw a b (n+1)+1*aw (slopeL a) b n+(x*((((n+1:Nat):Int)+1)*cf b (n+1+1))+aw a (slopeL b) n);have:((n+1:Nat):Int)=(n:Int)+1:=by omega
   rw[this];generalize aw a b (n+1)=z at *
   generalize aw (slopeL a) b n=z1 at *
   generalize aw a (slopeL b) n=z2 at *
   generalize cf b (n+1+1)=z3 at *
   generalize (n:Int)=m at *
   grind
noncomputable def pw(s:Ex):Nat->Ex
 |0=>[1]
 |n+1=>ag s (pw s n)
def E9(s:Ex):pw s 1=s:=HA s
theorem xS(s:Ex):∀(k n:Nat),cf (slopeL (pw s (k+1))) n=((k:Int)+1)*aw (slopeL s) (pw s k) n
 |0,n=>by rw[E9];show _=(((0:Nat):Int)+1)*aw (slopeL s) [1] n;rw[eD,gb];omega
 |k+1,n=>by
  show cf (slopeL (ag s (pw s (k+1)))) n=_;rw[iU];have e:aw s (slopeL (pw s (k+1))) n=((k:Int)+1)*aw s (ag (slopeL s) (pw s k)) n:=eA λj=>by rw[xS s k j,ay]
  have e2:aw s (ag (slopeL s) (pw s k)) n=aw (slopeL s) (pw s (k+1)) n:=by
   show _=aw (slopeL s) (ag s (pw s k)) n;rw[<- ay,<- ay]
   congr 1
   ac_rfl
  rw[e,e2];have:((k+1:Nat):Int)=(k:Int)+1:=by omega
  rw[this,Int.add_mul ((k:Int)+1) 1];omega
def fB(l:Ex):(slopeL l).length=l.length-1:=by unfold slopeL;simp
def jH{l:Ex}(h:Tr l):Tr (slopeL l):=λn hn=>by rw[fB]at hn;rw[cu];exact N3 (by omega) (h (n+1) (by omega))
def JY{s a:Ex}(hs:s≠[])(ht:Tr s)(h:aO a s=[]):Dv s a :=
 ⟨bM a s,bZ a s,iN hs ht,λn=>by rw[gt hs,h,bw];omega⟩
variable {us:List (Ex×Nat)}
theorem yO{s:Ex}(h:s≠[]):∀n,(pw s n).length=1+n*(s.length-1)/\pw s n≠[]
 |0=>⟨by rw[Nat.zero_mul];rfl,by simp[pw]⟩
 |n+1=>by obtain⟨a,b⟩:=yO h n;have:=Nz.mpr h;refine⟨?_,uf h b⟩;show(ag s (pw s n)).length=_;rw[bK h b,a,Pz];omega
noncomputable def cP:Ex->Ex
 | []=>[]
 |v::l=>2^l.length*v::cP l
theorem mQ:∀l,(cP l).length=l.length
 | []=>rfl
 |v::l=>by show(cP l).length+1=_;rw[mQ l];rfl
theorem Ar(p q:Int):∀l,2*hv p q (cP l)=hv p (2*q) l
 | []=>by show 2*0=(0:Int);rfl
 |v::l=>by have ih:=Ar p q l;show 2*(2^l.length*v*q^((cP l).length+1)+p*hv p q (cP l))=v*(2*q)^(l.length+1)+p*hv p (2*q) l;rw[mQ,<- ih,Int.mul_pow,NO 2];grind
noncomputable def cF:Ex->Ex
 | []=>[]
 |v::l=>(v+(cF l).headD 0)::cF l
theorem jI:∀l,(cF l).length=l.length
 | []=>rfl
 |v::l=>by show(cF l).length+1=_;rw[jI l];rfl
theorem wG(p q:Int):∀l,hv (p+q) q l=(cF l).headD 0*q^l.length+p*hv (p+q) q ((cF l).tail)
 | []=>by show(0:Int)=0*q^0+p*0;omega
 |v::l=>by
  have ih:=wG p q l;show v*q^(l.length+1)+(p+q)*hv (p+q) q l=(v+(cF l).headD 0)*q^(l.length+1)+p*hv (p+q) q (cF l);cases hs:cF l with
  |nil =>
   have hl:l=[]:=by have:=jI l;rw[hs]at this;exact Os this.symm
   subst hl;show v*q^1+(p+q)*0=(v+0)*q^1+p*0;grind
  |cons g r =>
   rw[hs]at ih;have hl:r.length+1=l.length:=by have:=jI l;rw[hs]at this;exact this
   have ih':hv (p+q) q l=g*q^l.length+p*hv (p+q) q r:=ih;show v*q^(l.length+1)+(p+q)*hv (p+q) q l=(v+g)*q^(l.length+1)+p*(g*q^(r.length+1)+(p+q)*hv (p+q) q r);rw[ih',hl,NO];grind
noncomputable def fm:Nat->Ex->Ex
 |0,m=>cF m
 |_+1,[]=>[]
 |i+1,c::m=>c::fm i m
theorem tJ:∀(i:Nat) (m:Ex),(fm i m).length=m.length
 |0,m=>jI m
 |_+1,[]=>rfl
 |i+1,c::m=>by show(fm i m).length+1=_;rw[tJ i m];rfl
noncomputable def gJ(p q:Int):Nat->Ex->Int
 |0,m=>hv (p+q) q m
 |_+1,[]=>0
 |i+1,c::m=>c*q^(m.length+1)+p*gJ p q i m
theorem zI(p q:Int):∀(i:Nat) (m:Ex),gJ p q (i+1) (fm i m)=gJ p q i m
 |0,m=>by
  show gJ p q 1 (cF m)=hv (p+q) q m;rw[wG];cases hs:cF m with
  |nil =>show(0:Int)=0*q^m.length+p*hv (p+q) q [];rw[As];omega
  |cons g r =>
   have hl:r.length+1=m.length:=by have:=jI m;rw[hs]at this;exact this
   show g*q^(r.length+1)+p*hv (p+q) q r=g*q^m.length+p*hv (p+q) q r;rw[hl]
 |i+1,[]=>rfl
 |i+1,c::m=>by show c*q^((fm i m).length+1)+p*gJ p q (i+1) (fm i m)=c*q^(m.length+1)+p*gJ p q i m;rw[zI p q i m,tJ]
theorem zK(p q:Int):∀(i:Nat) (m:Ex),m.length<=i+1->gJ p q i m=hv p q m
 |0,[],_=>rfl
 |0,[c],_=>by show c*q^1+(p+q)*0=c*q^1+p*0;omega
 |0,_::_::_,h=>absurd h (by simp)
 |_+1,[],_=>rfl
 |i+1,c::m,h=>by show c*q^(m.length+1)+p*gJ p q i m=c*q^(m.length+1)+p*hv p q m;rw[zK p q i m (by simpa using h)]
noncomputable def gf:Nat->Ex->Ex
 |0,l=>l
 |i+1,l=>fm i (gf i l)
theorem ox:∀(i:Nat) (l:Ex),(gf i l).length=l.length
 |0,_=>rfl
 |i+1,l=>by show(fm i (gf i l)).length=_;rw[tJ,ox i l]
theorem zJ(p q:Int):∀(i:Nat) (l:Ex),gJ p q i (gf i l)=hv (p+q) q l
 |0,_=>rfl
 |i+1,l=>by show gJ p q (i+1) (fm i (gf i l))=_;rw[zI,zJ p q i l]
def lK(l:Ex):Ex:=gf (l.length-1) l
def zG(l:Ex):(lK l).length=l.length:=ox _ _
def IK(p q:Int)(l:Ex):hv p q (lK l)=hv (p+q) q l:=by rw[<- zJ p q (l.length-1) l];exact(zK p q (l.length-1) _ (by rw[zG];omega)).symm
theorem Ap:∀l:Ex,hv 1 1 l=l.sum
 | []=>rfl
 |v::l=>by show v*1^(l.length+1)+1*hv 1 1 l=v+l.sum;rw[Ap l,Int.one_pow];omega
noncomputable def cp(m s0 s1:Int):Ex->Ex
 | []=>[]
 |v::l=>mb (-s0) s1 (v*m^l.length) (cp m s0 s1 l)
theorem jJ(m s0 s1:Int):∀l,(cp m s0 s1 l).length=l.length
 | []=>rfl
 |v::l=>by show(mb _ _ _ _).length=_;rw[oy,jJ m s0 s1 l];rfl
theorem Aq(m s0 s1 p q:Int):∀l,m*hv p q (cp m s0 s1 l)=hv (s0*q+s1*p) (m*q) l
 | []=>by show m*0=(0:Int);omega
 |v::l=>by have ih:=Aq m s0 s1 p q l;show m*hv p q (mb (-s0) s1 (v*m^l.length) (cp m s0 s1 l))=v*(m*q)^(l.length+1)+(s0*q+s1*p)*hv (s0*q+s1*p) (m*q) l;rw[At,jJ,<- ih,Int.mul_pow,NO m];grind
theorem wH(m s0 s1:Int):∀l,cf (cp m s0 s1 l) (l.length-1)=cf l (l.length-1)*s1^(l.length-1)
 | []=>by show(0:Int)=0*_;omega
 | [v]=>by show cf (mb (-s0) s1 (v*m^0) []) 0=v*s1^0;rw[jv,if_pos rfl,bw,On,On];omega
 |v::u::l=>by have ih:=wH m s0 s1 (u::l);show cf (mb (-s0) s1 _ (cp m s0 s1 (u::l))) (l.length+1)=cf (u::l) l.length*s1^(l.length+1);rw[jv,if_neg (by omega)];have e1:cf (cp m s0 s1 (u::l)) (l.length+1)=0:=bQ (by rw[jJ];exact Nv _);have e2:cf (cp m s0 s1 (u::l)) (l.length+1-1)=cf (u::l) l.length*s1^l.length:=ih;rw[e1,e2,NO];grind
def iW{x p:Int}(hp:0<p):sg (p*x)=sg x:=by rw[Om];exact DI hp
def wC(sq due:Int):Int:=if due<0\/due*due<sq then 1 else 0-(if sq<due*due then 1 else 0)
def xV(l:Ex)(t n:Int):Int:=if 0<cf l 3 then wC (cf l 1*n*n) (cf l 2*t-cf l 0*n)else 0-wC (cf l 1*n*n) (0-(cf l 2*t-cf l 0*n))
def DJ(x y:Int):sg (x*y)=sg x*sg y:=by
 rcases Int.lt_trichotomy x 0 with hx |hx |hx
 ·have h1:sg x = -1:=by unfold sg;rw[if_pos hx]
  have e:x*y = -((-x)*y):=by grind
  rw[e,DH,iW (by omega),h1];omega
 ·subst hx;rw[Ov];show(0:Int)=0*_;rw[Ov]
 ·have h1:sg x=1:=by unfold sg;rw[if_neg (by omega),if_pos hx]
  rw[iW hx,h1,NM]
def inS(l:Ex)(A B D:Int):Prop:=0<xV l A D/\xV l B D<=0
instance (l:Ex) (A B D:Int):Decidable (inS l A B D):=inferInstanceAs (Decidable (_/\_))
noncomputable def pv:Ex->Rat->Rat
 | [],_=>0
 |c::l,x=>(c:Rat)+x*pv l x
theorem yS:∀(N:Nat) (a b c:Ex) (u v:Int) (x:Rat),a.length<=N->b.length<=N->c.length<=N->(∀n,cf c n=u*cf a n+v*cf b n)->pv c x=(u:Rat)*pv a x+(v:Rat)*pv b x
 |0,a,b,c,u,v,x,ha,hb,hc,_=>by rw[Os (O1.mp ha),Os (O1.mp hb),Os (O1.mp hc)];show(0:Rat)=u*0+v*0;grind
 |N+1,a,b,c,u,v,x,ha,hb,hc,h=>by
  have key:∀l:Ex,l.length<=N+1->pv l x=(cf l 0:Rat)+x*pv l.tail x/\l.tail.length<=N/\∀n,cf l.tail n=cf l (n+1):=λl hl=>by
   cases l with
   |nil=>exact⟨by show(0:Rat)=((0:Int):Rat)+x*0;grind,Nw _,λn=>by rw[bw];rfl⟩
   |cons y l=>exact⟨rfl,by simpa using hl,λn=>rfl⟩
  obtain⟨a1,a2,a3⟩:=key a ha;obtain⟨b1,b2,b3⟩:=key b hb;obtain⟨c1,c2,c3⟩:=key c hc;have ih:=yS N a.tail b.tail c.tail u v x a2 b2 c2 λn=>by rw[a3,b3,c3,h]
  have h0:(cf c 0:Rat)=(u:Rat)*(cf a 0:Rat)+(v:Rat)*(cf b 0:Rat):=by rw[h 0,Pk,NC,NC]
  rw[a1,b1,c1,ih,h0];grind
def i9{a b c:Ex}{u v:Int}(x:Rat)(h:∀n,cf c n=u*cf a n+v*cf b n):pv c x=(u:Rat)*pv a x+(v:Rat)*pv b x :=
 yS (a.length+b.length+c.length) a b c u v x (by omega) (by omega) (by omega) h
def db{a c:Ex}{u:Int}(x:Rat)(h:∀n,cf c n=u*cf a n):pv c x=(u:Rat)*pv a x:=by
 have:=i9 (a:=a) (b:=[]) (c:=c) (u:=u) (v:=0) x λn=>by rw[h n,Ov,Of]
 rw[this];show _+((0:Int):Rat)*0=_;grind
theorem eh(x:Rat):∀(a b c:Ex),(∀n,cf c n=aw a b n)->pv c x=pv a x*pv b x
 | [],b,c,h=>by
  have:=db (a:=[]) (c:=c) (u:=0) x λn=>by rw[h n,dN];simp
  rw[this];show _=(0:Rat)*_;show((0:Int):Rat)*0=0*_;grind
 |y::a,b,c,h=>by
  have ih:=eh x a b (ag a b) (ay a b)
  have:=i9 (a:=b) (b:=0::ag a b) (c:=c) (u:=y) (v:=1) x λn=>by
   rw[h n,dB,pz,NM]
   congr 1
   unfold up;split
   ·rfl
   ·rw[ay]
  rw[this];show(y:Rat)*pv b x+((1:Int):Rat)*(((0:Int):Rat)+x*pv (ag a b) x)=((y:Rat)+x*pv a x)*pv b x;rw[ih];grind
def cw{a b:Rat}(ha:0<a)(hb:0<b):0<a/b:=by rw[Rat.div_def];exact NV ha (Rat.inv_pos.mpr hb)
def Bd(M v:Rat):Prop := -M<=v/\v<=M
def Bd.mul{M N u v:Rat}(h1:Bd M u)(h2:Bd N v):Bd (M*N) (u*v):=by obtain⟨a,b⟩:=h1;obtain⟨c,d⟩:=h2;have p1:0<=(M-u)*(N-v):=ND (by grind) (by grind);have p2:0<=(M+u)*(N+v):=ND (by grind) (by grind);have p3:0<=(M-u)*(N+v):=ND (by grind) (by grind);have p4:0<=(M+u)*(N-v):=ND (by grind) (by grind);constructor<;>grind
def Bd.add{M N u v:Rat}(h1:Bd M u)(h2:Bd N v):Bd (M+N) (u+v):=by obtain⟨a,b⟩:=h1;obtain⟨c,d⟩:=h2;constructor<;>grind
def Bd.mono{M N u:Rat}(h1:Bd M u)(h:M<=N):Bd N u:=by obtain⟨a,b⟩:=h1;constructor<;>grind
def Nice(f:Rat->Rat):Prop:=∀R:Rat,0<=R->∃M:Rat,0<=M/\(∀x,Bd R x->Bd M (f x))/\∀x y,Bd R x->Bd R y->x<=y->Bd (M*(y-x)) (f y-f x)
def ga(c:Rat):Nice λ_=>c:=λR _=>by
 rcases NG (a:=0) (b:=c)with h |h
 ·exact⟨c,h,λx _=>⟨by grind,by grind⟩,λx y _ _ hxy=>by
   have:=ND h (show 0<=y-x by grind)
   exact⟨by grind,by grind⟩⟩
 ·exact⟨-c,by grind,λx _=>⟨by grind,by grind⟩,λx y _ _ hxy=>by
   have:=ND (show 0 <= -c by grind) (show 0<=y-x by grind)
   exact⟨by grind,by grind⟩⟩
def nice_id:Nice λx=>x:=λR hR=>by refine⟨R+1,by grind,λx h=>h.mono (by grind),λx y _ _ hxy=>?_⟩;have:=ND hR (show 0<=y-x by grind);exact⟨by grind,by grind⟩
def Nice.add{f g:Rat->Rat}(hf:Nice f)(hg:Nice g):Nice λx=>f x+g x:=λR hR=>by
 obtain⟨M,m0,m1,m2⟩:=hf R hR;obtain⟨N,n0,n1,n2⟩:=hg R hR;refine⟨M+N,by grind,λx h=>(m1 x h).add (n1 x h),λx y hx hy hxy=>?_⟩;have:=(m2 x y hx hy hxy).add (n2 x y hx hy hxy);have e1:M*(y-x)+N*(y-x)=(M+N)*(y-x):=by grind
 have e2:f y-f x+(g y-g x)=f y+g y-(f x+g x):=by grind
 rwa [e1,e2]at this
def Nice.mul{f g:Rat->Rat}(hf:Nice f)(hg:Nice g):Nice λx=>f x*g x:=λR hR=>by
 obtain⟨M,m0,m1,m2⟩:=hf R hR;obtain⟨N,n0,n1,n2⟩:=hg R hR;have p:=ND m0 n0;refine⟨2*(M*N),by grind,λx h=>((m1 x h).mul (n1 x h)).mono (by grind),λx y hx hy hxy=>?_⟩;have:=((m2 x y hx hy hxy).mul (n1 y hy)).add ((m1 x hx).mul (n2 x y hx hy hxy));have e1:M*(y-x)*N+M*(N*(y-x))=2*(M*N)*(y-x):=by grind
 have e2:(f y-f x)*g y+f x*(g y-g x)=f y*g y-f x*g x:=by grind
 rwa [e1,e2]at this
theorem cY:∀l:Ex,Nice (pv l)
 | []=>ga 0
 |c::l=>(ga (c:Rat)).add (nice_id.mul (cY l))
theorem n6:∀(l:Ex) (R:Rat),0<=R->∃M:Rat,0<=M/\∀x y,Bd R x->Bd R y->x<=y->Bd (M*((y-x)*(y-x))) (pv l y-pv l x-(y-x)*pv (slopeL l) x)
 | [],R,_=>⟨0,by grind,λx y _ _ _=>by
  have e:pv [] y-pv [] x-(y-x)*pv (slopeL []) x=0:=by show(0:Rat)-0-(y-x)*0=0;grind
  rw[e];constructor<;>grind⟩
 |c::l,R,hR=>by
  obtain⟨M,m0,m1⟩:=n6 l R hR;obtain⟨N,n0,n1,n2⟩:=cY l R hR;have p:=ND hR m0;refine⟨N+R*M,by grind,λx y hx hy hxy=>?_⟩
  have hd:pv (slopeL (c::l)) x=pv l x+x*pv (slopeL l) x:=by
   have:=i9 (a:=l) (b:=0::slopeL l) (c:=slopeL (c::l)) (u:=1) (v:=1) x λn=>xT c l n
   rw[this];show((1:Int):Rat)*pv l x+((1:Int):Rat)*(((0:Int):Rat)+x*pv (slopeL l) x)=_;grind
  have hz:Bd (y-x) (y-x):=⟨by grind,by grind⟩;have:=(hz.mul (n2 x y hx hy hxy)).add (hx.mul (m1 x y hx hy hxy));have e1:(y-x)*(N*(y-x))+R*(M*((y-x)*(y-x)))=(N+R*M)*((y-x)*(y-x)):=by grind
  have e2:(y-x)*(pv l y-pv l x)+x*(pv l y-pv l x-(y-x)*pv (slopeL l) x)=pv (c::l) y-pv (c::l) x-(y-x)*pv (slopeL (c::l)) x:=by rw[hd];show _=((c:Rat)+y*pv l y)-((c:Rat)+x*pv l x)-_;grind
  rwa [e1,e2]at this
def ai(v:Rat):Int:=if v<0 then -1 else if 0<v then 1 else 0
def bh(v:Rat):(v<0/\ai v = -1)\/(v=0/\ai v=0)\/(0<v/\ai v=1):=by
 unfold ai;by_cases h:v<0
 ·exact .inl ⟨h,by rw[if_pos h]⟩
 ·by_cases h2:0<v
  ·exact .inr (.inr ⟨h2,by rw[if_neg h,if_pos h2]⟩)
  ·exact .inr (.inl ⟨by grind,by rw[if_neg h,if_neg h2]⟩)
def Sta(f:Rat->Rat)(x y:Rat):Prop:=ai (f x)=ai (f y)/\ai (f x)≠0
def lI{f:Rat->Rat}{x y D:Rat}(h:¬Sta f x y)(hd:Bd D (f y-f x)):Bd D (f x)/\Bd D (f y):=by
 obtain⟨d1,d2⟩:=hd
 have key:(f x<=0/\0<=f y)\/(0<=f x/\f y<=0):=by
  rcases bh (f x)with⟨a,b⟩ |⟨a,b⟩ |⟨a,b⟩<;>rcases bh (f y)with⟨c,d⟩ |⟨c,d⟩ |⟨c,d⟩
  ·exact absurd ⟨by rw[b,d],by rw[b];decide⟩ h
  ·exact .inl ⟨by grind,by grind⟩
  ·exact .inl ⟨by grind,by grind⟩
  ·exact .inr ⟨by grind,by grind⟩
  ·exact .inl ⟨by grind,by grind⟩
  ·exact .inl ⟨by grind,by grind⟩
  ·exact .inr ⟨by grind,by grind⟩
  ·exact .inr ⟨by grind,by grind⟩
  ·exact absurd ⟨by rw[b,d],by rw[b];decide⟩ h
 rcases key with⟨a,b⟩ |⟨a,b⟩
 ·exact⟨⟨by grind,by grind⟩,⟨by grind,by grind⟩⟩
 ·exact⟨⟨by grind,by grind⟩,⟨by grind,by grind⟩⟩
inductive SRow:List Ex->Prop
 |last {c:Int} (h:c≠0):SRow [[c]]
 |two {a:Ex} {c:Int} (h:c≠0):SRow [a,[c]]
 |cons {a b c:Ex} {r:List Ex} {q:Ex} {α β:Rat} (hα:0<α) (hβ:0<β) (e:∀x,α*pv a x=pv q x*pv b x-β*pv c x) (h:SRow (b::c::r)):SRow (a::b::c::r)
def j6(c:Int)(x:Rat):pv [c] x=(c:Rat):=by show(c:Rat)+x*0=c;grind
theorem bez:∀{row:List Ex},SRow row->∀a b r,row=a::b::r->∃(A B:Rat->Rat) (k:Rat),Nice A/\Nice B/\k≠0/\∀x,A x*pv a x+B x*pv b x=k
 |_,.last h,a,b,r,e=>by cases e
 |_,.two (c:=c) h,a,b,r,e=>by cases e;refine⟨λ_=>0,λ_=>1,(c:Rat),ga 0,ga 1,λz=>h (OV.mp (by rw[z];rfl)),λx=>?_⟩;rw[j6];grind
 |_,.cons (a:=a0) (b:=b0) (c:=c) (q:=q) (α:=α) (β:=β) hα hβ eq h,a,b,r,e=>by
  cases e;obtain⟨A,B,k,nA,nB,hk,hAB⟩:=bez h _ _ _ rfl;refine⟨λx=>(-α)*B x,λx=>β*A x+B x*pv q x,β*k,(ga (-α)).mul nB,((ga β).mul nA).add (nB.mul (cY q)),λz=>?_,λx=>?_⟩
  ·rcases Oo.mp z with y |y
   ·grind
   ·exact hk y
  ·have h1:=hAB x;have h2:=eq x;have:(-α)*B x*pv a0 x+(β*A x+B x*pv q x)*pv b0 x=B x*(pv q x*pv b0 x-α*pv a0 x)+β*A x*pv b0 x:=by grind
   rw[this,h2];have:B x*(pv q x*pv b0 x-(pv q x*pv b0 x-β*pv c x))+β*A x*pv b0 x=β*(A x*pv b0 x+B x*pv c x):=by grind
   rw[this,h1]
def tL{a b:Rat->Rat}(na:Nice a)(nb:Nice b){A B:Rat->Rat}{k:Rat}(nA:Nice A)(nB:Nice B)(hk:0<k)(hAB:∀x,A x*a x+B x*b x=k\/A x*a x+B x*b x = -k){R:Rat}(hR:0<=R) :
 ∃(δ κ:Rat),0<δ/\0<κ/\∀x y,Bd R x->Bd R y->x<y->y-x<=δ->¬Sta a x y->Sta b x y/\(κ<=b x\/b x <= -κ)/\(κ<=b y\/b y <= -κ):=by
 obtain⟨M1,p1,q1,r1⟩:=na R hR;obtain⟨M2,p2,q2,r2⟩:=nb R hR;obtain⟨M3,p3,q3,_⟩:=nA R hR;obtain⟨M4,p4,q4,_⟩:=nB R hR;have h31:=ND p3 p1;have h42:=ND p4 p2;have hT:0<2*(M3*M1+M4*M2+1):=by grind
 have hT4:0<2*(M4+1):=by grind
 refine⟨k/(2*(M3*M1+M4*M2+1)),k/(2*(M4+1)),cw hk hT,cw hk hT4,λx y hx hy hxy hd hs=>?_⟩
 have hd':(y-x)*(2*(M3*M1+M4*M2+1))<=k:=by
  have:=Oh hd (Np hT)
  rwa [Nx (by grind)]at this
 have hyx:0<y-x:=by grind
 obtain⟨a1,a2⟩:=lI hs (r1 x y hx hy (by grind));have hM1:0<=M1*(y-x):=ND p1 (Np hyx)
 have far:∀z,Bd R z->Bd (M1*(y-x)) (a z)->k/(2*(M4+1))<=b z\/b z <= -(k/(2*(M4+1))):=λz hz ha=>by
  have e1:=(q3 z hz).mul ha
  have e2:2*(M3*(M1*(y-x)))<=k:=by have h1:=ND h42 (Np hyx);grind
  have hB:(k<=2*(B z*b z))\/(2*(B z*b z) <= -k):=by
   obtain⟨f1,f2⟩:=e1;rcases hAB z with g |g
   ·left;grind
   ·right;grind
  rcases NG (a:=k/(2*(M4+1))) (b:=b z)with g |g
  ·exact .inl g
  ·rcases NG (a:=b z) (b := -(k/(2*(M4+1))))with g2 |g2
   ·exact .inr g2
   ·exfalso;have hb:Bd (k/(2*(M4+1))) (b z):=⟨g2,g⟩;obtain⟨f1,f2⟩:=(q4 z hz).mul hb
    have e3:2*(M4*(k/(2*(M4+1))))<k:=by
     have e4:k/(2*(M4+1))*(2*(M4+1))=k:=Nx (by grind);have e5:=cw hk hT4;generalize k/(2*(M4+1))=w at *
     grind
    rcases hB with g3 |g3<;>grind
 refine⟨Classical.byContradiction λhs2=>?_,far x hx a1,far y hy a2⟩;obtain⟨b1,b2⟩:=lI hs2 (r2 x y hx hy (by grind));obtain⟨e1,e2⟩:=(q3 x hx).mul a1;obtain⟨e3,e4⟩:=(q4 x hx).mul b1;have hM:0<=(M3*M1+M4*M2)*(y-x):=ND (by grind) (Np hyx);have e5:M3*(M1*(y-x))+M4*(M2*(y-x))=(M3*M1+M4*M2)*(y-x):=by grind
 have e6:(y-x)*(2*(M3*M1+M4*M2+1))=2*((M3*M1+M4*M2)*(y-x))+2*(y-x):=by grind
 rcases hAB x with g |g<;>grind
def pH{row:List Ex}(h:SRow row){a b:Ex}{r:List Ex}(e:row=a::b::r):∃(A B:Rat->Rat) (k:Rat),Nice A/\Nice B/\0<k/\∀x,A x*pv a x+B x*pv b x=k\/A x*pv a x+B x*pv b x = -k:=by
 obtain⟨A,B,k,nA,nB,hk,hAB⟩:=bez h a b r e;rcases NG (a:=0) (b:=k)with g |g
 ·exact⟨A,B,k,nA,nB,by grind,λx=>.inl (hAB x)⟩
 ·exact⟨A,B,-k,nA,nB,by grind,λx=>.inr (by rw[hAB x];grind)⟩
noncomputable def vr:Int->Ex->Int
 |_,[]=>0
 |b,s::r=>(if s*b<0 then 1 else 0)+vr (if s=0 then b else s) r
theorem Bp:∀(l:Ex) (n b:Int),l.foldl chF (n,b)=(n+vr b l,(l.foldl chF (n,b)).2)
 | [],n,b=>by show(n,b)=(n+0,b);rw[Of]
 |s::r,n,b=>by
  show r.foldl chF (chF (n,b) s)=(n+((if s*b<0 then 1 else 0)+vr (if s=0 then b else s) r),(r.foldl chF (chF (n,b) s)).2)
  have e:chF (n,b) s=(n+(if s*b<0 then 1 else 0),if s=0 then b else s):=by
   unfold chF;by_cases h:s*b<0
   ·rw[if_pos h,if_pos h]
   ·rw[if_neg h,if_neg h,Of]
  rw[e];have:=Bp r (n+(if s*b<0 then 1 else 0)) (if s=0 then b else s);rw[Int.add_assoc]at this;exact this
def Bs(l:Ex):(chS l).1=vr 0 l:=by unfold chS;rw[Bp l 0 0];show 0+vr 0 l=_;omega
def jy(s:Int):Prop:=s=1\/s=0\/s = -1
inductive Al:Int->Ex->Ex->Prop
 |nil {b:Int}:Al b [] []
 |stab {b s:Int} {r r':Ex} (h:s≠0) (t:Al s r r'):Al b (s::r) (s::r')
 |unst {b s s':Int} {r r':Ex} (h1:jy s) (h2:jy s') (t:Al (-b) r r'):Al b (s :: -b::r) (s' :: -b::r')
def vY{b s:Int}(hb:b=1\/b = -1)(hs:jy s)(r:Ex):vr b (s :: -b::r)=1+vr (-b) r:=by
 have hb0:¬(-b=0):=by omega
 rcases hs with rfl |rfl |rfl
 ·rcases hb with rfl |rfl<;>simp[vr]
 ·rcases hb with rfl |rfl<;>simp[vr]
 ·rcases hb with rfl |rfl<;>simp[vr]
theorem Al.vr:∀{b:Int} {r r':Ex},Al b r r'->(b=1\/b = -1)->(∀s∈r,jy s)->RM.vr b r=RM.vr b r'
 |_,_,_,.nil,_,_=>rfl
 |b,_,_,.stab (s:=s) (r:=r) (r':=r') h t,hb,hu=>by
  have hs:jy s:=hu s (NK ..);have hs':s=1\/s = -1:=by rcases hs with z |z |z;exact .inl z;exact absurd z h;exact .inr z
  have ih:=Al.vr t hs' λx hx=>hu x (NB _ hx)
  show _+RM.vr (if s=0 then b else s) r=_+RM.vr (if s=0 then b else s) r';rw[if_neg h,ih]
 |b,_,_,.unst h1 h2 t,hb,hu=>by
  have ih:=Al.vr t (by omega) λx hx=>hu x (NB _ (NB _ hx))
  rw[vY hb h1,vY hb h2,ih]
def sgX(row:List Ex)(x:Rat):Ex:=row.map λf=>ai (pv f x)
def ni(v:Rat):jy (ai v):=by
 rcases bh v with⟨_,h⟩ |⟨_,h⟩ |⟨_,h⟩<;>rw[h]
 ·exact .inr (.inr rfl)
 ·exact .inr (.inl rfl)
 ·exact .inl rfl
def xZ(row:List Ex)(x:Rat):∀s∈sgX row x,jy s:=λs hs=>by obtain⟨f,_,rfl⟩:=NF.mp hs;exact ni _
def BS(row:List Ex)(R:Rat):Prop:=∃δ:Rat,0<δ/\∀x y,Bd R x->Bd R y->x<y->y-x<=δ->∀a r,row=a::r->Sta (pv a) x y->Al (ai (pv a x)) (sgX r x) (sgX r y)
def DN{c:Int}(h:c≠0):ai (c:Rat)≠0:=by
 rcases bh (c:Rat)with⟨_,e⟩ |⟨z,_⟩ |⟨_,e⟩
 ·rw[e];decide
 ·exact absurd (OV.mp (by rw[z];rfl)) h
 ·rw[e];decide
theorem zO:∀{row:List Ex},SRow row->∀R:Rat,0<=R->BS row R/\BS row.tail R
 |_,.last h,R,_=>⟨⟨1,by grind,λx y _ _ _ _ a r e _=>by cases e;exact .nil⟩,⟨1,by grind,λx y _ _ _ _ a r e _=>by cases e⟩⟩
 |_,.two (c:=c) h,R,_=>by refine⟨⟨1,by grind,λx y _ _ _ _ a r e _=>?_⟩,⟨1,by grind,λx y _ _ _ _ a r e _=>by cases e;exact .nil⟩⟩;cases e;show Al _ [ai (pv [c] x)] [ai (pv [c] y)];rw[j6,j6];exact .stab (DN h) .nil
 |_,.cons (a:=a) (b:=b) (c:=c) (r:=r) (q:=q) (α:=α) (β:=β) hα hβ eq h,R,hR=>by
  obtain⟨⟨δ1,d1,l1⟩,⟨δ2,d2,l2⟩⟩:=zO h R hR;refine⟨?_,⟨δ1,d1,l1⟩⟩;obtain⟨A,B,k,nA,nB,hk,hAB⟩:=pH h rfl;obtain⟨δ3,κ,d3,hκ,l3⟩:=tL (cY b) (cY c) nA nB hk hAB hR;obtain⟨M,m0,m1,m2⟩:=cY b R hR;obtain⟨N,n0,n1,_⟩:=cY q R hR;have hMN:=ND n0 m0;have hT:0<N*M+1:=by grind
  have hβκ:=NV hβ hκ
  obtain⟨δ,hδ,g1,g2,g3,g4⟩:∃δ:Rat,0<δ/\δ<=δ1/\δ<=δ2/\δ<=δ3/\δ*(N*M+1)<=β*κ:=by
   have hw:=cw hβκ hT;have hw2:β*κ/(N*M+1)*(N*M+1)=β*κ:=Nx (by grind)
   have two:∀u v:Rat,0<u->0<v->∃w:Rat,0<w/\w<=u/\w<=v:=λu v hu hv=>by
    rcases NG (a:=u) (b:=v)with z |z
    ·exact⟨u,hu,Nt,z⟩
    ·exact⟨v,hv,z,Nt⟩
   obtain⟨u,hu,u1,u2⟩:=two δ1 δ2 d1 d2;obtain⟨v,hv,v1,v2⟩:=two u δ3 hu d3;obtain⟨w,hw',w1,w2⟩:=two v _ hv hw;refine⟨w,hw',by grind,by grind,by grind,?_⟩;have:=Oh w2 (Np hT)
   rwa [hw2]at this
  refine⟨δ,hδ,λx y hx hy hxy hd a' r' e sa=>?_⟩;cases e;show Al (ai (pv a x)) (ai (pv b x)::sgX (c::r) x) (ai (pv b y)::sgX (c::r) y);by_cases sb:Sta (pv b) x y
  ·have t:=l1 x y hx hy hxy (by grind) b (c::r) rfl sb;rw[<- sb.1];exact .stab sb.2 t
  ·obtain⟨sc,c1,c2⟩:=l3 x y hx hy hxy (by grind) sb;obtain⟨b1,_⟩:=lI sb (m2 x y hx hy (by grind));have hyx:0<y-x:=by grind
   have hop:ai (pv c x) = -ai (pv a x):=by
    obtain⟨f1,f2⟩:=(n1 x hx).mul b1;have e1:=eq x
    have e2:N*(M*(y-x))<β*κ:=by have h1:(y-x)*(N*M+1)<=δ*(N*M+1):=Oh hd (Np hT);grind
    rcases c1 with z |z
    ·have h2:β*κ<=β*pv c x:=NE z (Np hβ);have h3:α*pv a x<0:=by grind
     have h4:pv a x<0:=by
      rcases NG (a:=0) (b:=pv a x)with w |w
      ·have:=ND (Np hα) w;grind
      ·rcases bh (pv a x)with⟨w2,_⟩ |⟨w2,_⟩ |⟨w2,_⟩
       ·exact w2
       ·rw[w2]at h3;grind
       ·grind
     rcases bh (pv c x)with⟨w,_⟩ |⟨w,_⟩ |⟨_,w⟩
     ·grind
     ·grind
     ·rcases bh (pv a x)with⟨_,v⟩ |⟨v,_⟩ |⟨v,_⟩
      ·rw[w,v];decide
      ·grind
      ·grind
    ·have h2:β*pv c x<=β*(-κ):=NE z (Np hβ);have h3:0<α*pv a x:=by grind
     have h4:0<pv a x:=by
      rcases bh (pv a x)with⟨w2,_⟩ |⟨w2,_⟩ |⟨w2,_⟩
      ·have:=ND (Np hα) (show 0 <= -pv a x by grind);grind
      ·rw[w2]at h3;grind
      ·exact w2
     rcases bh (pv c x)with⟨_,w⟩ |⟨w,_⟩ |⟨w,_⟩
     ·rcases bh (pv a x)with⟨v,_⟩ |⟨v,_⟩ |⟨_,v⟩
      ·grind
      ·grind
      ·rw[w,v]
     ·grind
     ·grind
   have hop':ai (pv c y) = -ai (pv a x):=by rw[<- sc.1];exact hop
   have t:Al (ai (pv c x)) (sgX r x) (sgX r y):=l2 x y hx hy hxy (by grind) c r rfl sc;rw[hop]at t;show Al _ (_::ai (pv c x)::sgX r x) (_::ai (pv c y)::sgX r y);rw[hop,hop'];exact .unst (ni _) (ni _) t
def bH(f:Rat->Rat)(x y:Rat):Int:=if ai (f x)≠0/\ai (f y)≠ai (f x)then 1 else 0
def cE(row:List Ex)(x:Rat):Int:=vr 0 (sgX row x)
def Ci{s:Int}(r:Ex):vr 0 (s::r)=vr s r:=by
 show(if s*0<0 then 1 else 0)+vr (if s=0 then 0 else s) r=_;rw[NQ,if_neg (by decide),OE];split
 ·rename_i h;rw[h]
 ·rfl
def qh{F0 F1:Ex}{r:List Ex}(h:SRow (F0::F1::r)){γ:Rat}(hγ:0<γ)(hd:∀x,pv (slopeL F0) x=γ*pv F1 x){R:Rat}(hR:0<=R) :
 ∃δ:Rat,0<δ/\∀x y,Bd R x->Bd R y->x<y->y-x<=δ->cE (F0::F1::r) x-cE (F0::F1::r) y=bH (pv F0) x y:=by
 obtain⟨⟨δ1,d1,l1⟩,⟨δ2,d2,l2⟩⟩:=zO h R hR;obtain⟨A,B,k,nA,nB,hk,hAB⟩:=pH h rfl;obtain⟨δ3,κ,d3,hκ,l3⟩:=tL (cY F0) (cY F1) nA nB hk hAB hR;obtain⟨M,m0,m1⟩:=n6 F0 R hR;have hγκ:=NV hγ hκ
 obtain⟨δ,hδ,g1,g2,g3,g4⟩:∃δ:Rat,0<δ/\δ<=δ1/\δ<=δ2/\δ<=δ3/\δ*(M+1)<=γ*κ:=by
  have hT:0<M+1:=by grind
  have hw:=cw hγκ hT;have hw2:γ*κ/(M+1)*(M+1)=γ*κ:=Nx (by grind)
  have two:∀u v:Rat,0<u->0<v->∃w:Rat,0<w/\w<=u/\w<=v:=λu v hu hv=>by
   rcases NG (a:=u) (b:=v)with z |z
   ·exact⟨u,hu,Nt,z⟩
   ·exact⟨v,hv,z,Nt⟩
  obtain⟨u,hu,u1,u2⟩:=two δ1 δ2 d1 d2;obtain⟨v,hv,v1,v2⟩:=two u δ3 hu d3;obtain⟨w,hw',w1,w2⟩:=two v _ hv hw;refine⟨w,hw',by grind,by grind,by grind,?_⟩;have:=Oh w2 (Np hT)
  rwa [hw2]at this
 refine⟨δ,hδ,λx y hx hy hxy hyd=>?_⟩;have e0:∀z,cE (F0::F1::r) z=vr (ai (pv F0 z)) (sgX (F1::r) z):=λz=>Ci _
 have nz:∀{v:Rat},ai v≠0->ai v=1\/ai v = -1:=λ{v} hv=>by rcases ni v with z |z |z;exact .inl z;exact absurd z hv;exact .inr z
 rw[e0,e0];by_cases s0:Sta (pv F0) x y
 ·have t:=(l1 x y hx hy hxy (by grind) F0 (F1::r) rfl s0).vr (nz s0.2) (xZ _ _);rw[<- s0.1,t];unfold bH;rw[if_neg (λz=>z.2 s0.1.symm)];omega
 ·obtain⟨s1,c1,c2⟩:=l3 x y hx hy hxy (by grind) s0;have t:=(l2 x y hx hy hxy (by grind) F1 r rfl s1).vr (nz s1.2) (xZ _ _);have hyx:0<y-x:=by grind
  have hyy:0<(y-x)*(y-x):=NV hyx hyx;obtain⟨f1,f2⟩:=m1 x y hx hy (by grind)
  have small:M*((y-x)*(y-x))<(y-x)*(γ*κ):=by
   have h1:(y-x)*(M+1)<=γ*κ:=by have:=Oh hyd (show 0<=M+1 by grind);grind
   have h2:(y-x)*((y-x)*(M+1))<=(y-x)*(γ*κ):=NE h1 (Np hyx);grind
  rw[hd]at f1 f2;show vr (ai (pv F0 x)) (ai (pv F1 x)::sgX r x)-vr (ai (pv F0 y)) (ai (pv F1 y)::sgX r y)=_
  have hu:∀(b s:Int) (l:Ex),s≠0->vr b (s::l)=(if s*b<0 then 1 else 0)+vr s l:=λb s l hs=>by show _+vr (if s=0 then b else s) l=_;rw[if_neg hs]
  have s1':ai (pv F1 y)=ai (pv F1 x):=s1.1.symm;rw[s1',hu _ _ _ s1.2,hu _ _ _ s1.2,t];unfold bH;rcases c1 with z |z
  ·
   have h1:γ*κ<=γ*pv F1 x:=NE z (Np hγ);have h2:(y-x)*(γ*κ)<=(y-x)*(γ*pv F1 x):=NE h1 (Np hyx);have rise:pv F0 x<pv F0 y:=by grind
   have s1p:ai (pv F1 x)=1:=by
    rcases bh (pv F1 x)with⟨w,_⟩ |⟨w,_⟩ |⟨_,w⟩
    ·grind
    ·grind
    ·exact w
   rw[s1p];rcases bh (pv F0 x)with⟨a1,a2⟩ |⟨a1,a2⟩ |⟨a1,a2⟩<;>rcases bh (pv F0 y)with⟨b1,b2⟩ |⟨b1,b2⟩ |⟨b1,b2⟩
   ·exact absurd ⟨by rw[a2,b2],by rw[a2];decide⟩ s0
   ·rw[a2,b2];simp
   ·rw[a2,b2];simp
   ·grind
   ·grind
   ·rw[a2,b2];simp
   ·grind
   ·grind
   ·exact absurd ⟨by rw[a2,b2],by rw[a2];decide⟩ s0
  ·have h1:γ*pv F1 x<=γ*(-κ):=NE z (Np hγ);have h2:(y-x)*(γ*pv F1 x)<=(y-x)*(γ*(-κ)):=NE h1 (Np hyx);have fall:pv F0 y<pv F0 x:=by grind
   have s1p:ai (pv F1 x) = -1:=by
    rcases bh (pv F1 x)with⟨_,w⟩ |⟨w,_⟩ |⟨w,_⟩
    ·exact w
    ·grind
    ·grind
   rw[s1p];rcases bh (pv F0 x)with⟨a1,a2⟩ |⟨a1,a2⟩ |⟨a1,a2⟩<;>rcases bh (pv F0 y)with⟨b1,b2⟩ |⟨b1,b2⟩ |⟨b1,b2⟩
   ·exact absurd ⟨by rw[a2,b2],by rw[a2];decide⟩ s0
   ·grind
   ·grind
   ·rw[a2,b2];simp
   ·grind
   ·grind
   ·rw[a2,b2];simp
   ·rw[a2,b2];simp
   ·exact absurd ⟨by rw[a2,b2],by rw[a2];decide⟩ s0
def KA(q:Rat):∃n:Nat,q<=(n:Rat):=by refine⟨q.ceil.toNat,NZ (Rat.le_ceil (x:=q)) ?_⟩;have h:q.ceil<=(q.ceil.toNat:Int):=Int.self_le_toNat _;have h2:=OL.mpr h;exact h2
def Hm(n:Nat):(n:Rat)<=2^n:=by
 induction n with
 |zero=>decide
 |succ n ih =>
  have h1:((1:Nat):Rat)<=2^n:=by
   have:(1:Nat)<=2^n:=OT (by decide);have h2:((1:Nat):Rat)<=((2^n:Nat):Rat):=Pl.mpr this
   rwa [Rat.natCast_pow]at h2
  rw[Og,Pm];grind
def dC{n:Int}(hn:n≠0):(n:Rat)≠0:=λz=>hn (OV.mp (show((n:Int):Rat)=((0:Int):Rat) by rw[z];rfl))
def nK{t n t' n':Int}(hn:0<n)(hn':0<n'):(t:Rat)/(n:Rat)<(t':Rat)/(n':Rat)↔t*n'<t'*n:=by
 have p1:(0:Rat)<(n:Rat):=NJ.mpr hn;have p2:(0:Rat)<(n':Rat):=NJ.mpr hn';have e1:(t:Rat)/(n:Rat)*(n:Rat)=(t:Rat):=Nx (by grind);have e2:(t':Rat)/(n':Rat)*(n':Rat)=(t':Rat):=Nx (by grind);generalize (t:Rat)/(n:Rat)=q at e1 ⊢
 generalize (t':Rat)/(n':Rat)=q' at e2 ⊢
 rw[<- NJ,NC,NC,<- e1,<- e2];have p3:=NV p1 p2;have e3:q*(n:Rat)*(n':Rat)=q*((n:Rat)*(n':Rat)):=by grind
 have e4:q'*(n':Rat)*(n:Rat)=q'*((n:Rat)*(n':Rat)):=by grind
 rw[e3,e4];constructor
 ·intro h;exact OW h p3
 ·intro h;refine OB.mp λz=>?_
  have:=Oh z (Np p3);grind
def gR{p v:Rat}(hp:0<p):ai (p*v)=ai v:=by
 rcases bh v with⟨a,b⟩ |⟨a,b⟩ |⟨a,b⟩
 ·have:p*v<0:=by have:=NV hp (show 0 < -v by grind);grind
  rcases bh (p*v)with⟨_,d⟩ |⟨c,d⟩ |⟨c,d⟩
  ·rw[b,d]
  ·grind
  ·grind
 ·rw[a];have:p*0=0:=by grind
  rw[this]
 ·have:=NV hp a;rcases bh (p*v)with⟨c,d⟩ |⟨c,d⟩ |⟨_,d⟩
  ·grind
  ·grind
  ·rw[b,d]
def x4(z:Int):ai (z:Rat)=sg z:=by
 rcases bh (z:Rat)with⟨a,b⟩ |⟨a,b⟩ |⟨a,b⟩
 ·have:z<0:=NJ.mp a;rw[b];unfold sg;rw[if_pos this]
 ·have:z=0:=OV.mp a;rw[this];rfl
 ·have:0<z:=NJ.mp a;rw[b];unfold sg;rw[if_neg (by omega),if_pos this]
theorem oJ{t n:Int}(hn:0<n):∀l:Ex,(hv t n l:Rat)=(n:Rat)^l.length*pv l ((t:Rat)/(n:Rat))
 | []=>by show((0:Int):Rat)=_*0;grind
 |c::l=>by
  have hn':(n:Rat)≠0:=dC (by omega);have hq:(t:Rat)/(n:Rat)*(n:Rat)=(t:Rat):=Nx hn';rw[ma,Pk,NC,NC,oJ hn l,PZ];show _=(n:Rat)^(l.length+1)*((c:Rat)+(t:Rat)/(n:Rat)*pv l ((t:Rat)/(n:Rat)));rw[Og];generalize hqq:(t:Rat)/(n:Rat)=q at *
  rw[<- hq];grind
def cA{t n:Int}(hn:0<n)(l:Ex):sg (hv t n l)=ai (pv l ((t:Rat)/(n:Rat))):=by rw[<- x4,oJ hn];exact gR (OC (NJ.mpr hn))
def Cop2(a b:Ex):Prop:=∀d,d≠[]->Tr d->Dv d a->Dv d b->d.length<=1
def Hi{one other:Ex}(ho:other≠[]):∀n,bM one other*cf one n=aw (bZ one other) other n-(aC (cV [] (aO one other)):Int)*cf (aJ one other) n:=λn=>by
 have h1:=gt (a:=one) ho n;have e:aJ one other=aj (cV [] (aO one other)):=by unfold aJ rst;rw[if_neg ho]
 have h2:=congrArg (λl=>cf l n) (mZ (l:=cV [] (aO one other)));simp only[aK]at h2
 have h3:cf (cV [] (aO one other)) n = -cf (aO one other) n:=by rw[kR (fW _ _),aK];omega
 rw[e,h2,h3,h1];omega
def CG(one other:Ex):Tr (aJ one other):=by unfold aJ;exact f8 (by unfold cV;exact fH _)
def Hj{one other:Ex}(ho:other≠[]):(aJ one other).length<other.length:=by
 have h1:=gs (a:=one) ho;unfold aJ rst;rw[if_neg ho,kR (fW _ _)]
 have h2:(aj (aE (-1) (aO one other))).length<=(aE (-1) (aO one other)).length:=by unfold aj;rw[No];exact Nv _
 rw[dk]at h2;omega
def lW{l:Ex}(h:l.length<=1)(hne:l≠[]):∃c,l=[c]:=List.length_eq_one_iff.mp (by have:=Nz.mpr hne;omega)
theorem nI:∀(n:Nat) (one other:Ex),other.length<=n->Tr one->one≠[]->Tr other->Cop2 one other->SRow (bj (n+1) one other)
 |0,one,other,hl,to,no,tt,hc=>by have e0:other=[]:=Os (O1.mp hl);subst e0;have h1:=hc one no to (Dv.refl _) (Dv.nil _);obtain⟨c,rfl⟩:=lW h1 no;show SRow (if([c]:Ex)=[]then _ else[c]::bj 0 [] (aJ [c] []));rw[if_neg no];exact .last (tr_snoc (r:=[]) |>.mp to)
 |n+1,one,other,hl,to,no,tt,hc=>by
  have e:bj (n+1+1) one other=one::bj (n+1) other (aJ one other):=by show(if one=[]then _ else _)=_;rw[if_neg no]
  rw[e];by_cases ho:other=[]
  ·subst ho;have h1:=hc one no to (Dv.refl _) (Dv.nil _);obtain⟨c,rfl⟩:=lW h1 no;rw[k8];exact .last (tr_snoc (r:=[]) |>.mp to)
  have hs:=Hi (one:=one) ho;have hlen:=Hj (one:=one) ho;have tn:=CG one other;have fp:0<bM one other:=J5 ho tt;by_cases hn:aJ one other=[]
  ·
   have hdv:Dv other one:=⟨bM one other,bZ one other,by omega,λk=>by rw[hs k,hn,bw];omega⟩;have h1:=hc other ho tt hdv (Dv.refl _);obtain⟨c,rfl⟩:=lW h1 ho;rw[hn,Ey ho (by omega)];exact .two (tr_snoc (r:=[]) |>.mp tt)
  ·have hc2:Cop2 other (aJ one other):=λd dn dt h1 h2=>by
    refine hc d dn dt ?_ h1;refine Dv.up (f:=bM one other) (q:=bZ one other) (r:=aE (-(aC (cV [] (aO one other)):Int)) (aJ one other)) (by omega) (λk=>?_) h1 ?_
    ·rw[hs k,aK,Int.neg_mul];omega
    ·exact Dv.prop_right (x:=1) (y := -(aC (cV [] (aO one other)):Int)) (by decide) (λk=>by rw[aK];omega) h2
   have ih:=nI n other (aJ one other) (by omega) tt ho tn hc2;have e2:bj (n+1) other (aJ one other)=other::bj n (aJ one other) (aJ other (aJ one other)):=by show(if other=[]then _ else _)=_;rw[if_neg ho]
   have n1:0<n:=by have:=Nz.mpr hn;omega
   obtain⟨m,rfl⟩:∃m,n=m+1:=⟨n-1,by omega⟩;have e3:bj (m+1) (aJ one other) (aJ other (aJ one other))=aJ one other::bj m (aJ other (aJ one other)) (aJ (aJ one other) (aJ other (aJ one other))):=by show(if aJ one other=[]then _ else _)=_;rw[if_neg hn]
   rw[e2,e3]at ih ⊢
   have gp:0<(aC (cV [] (aO one other)):Int):=by
    rcases Nat.eq_zero_or_pos (aC (cV [] (aO one other)))with z |z
    ·exfalso;apply hn;refine tX tn λk=>?_
     have e:aJ one other=aj (cV [] (aO one other)):=by unfold aJ rst;rw[if_neg ho]
     rw[e];unfold aj;rw[z];unfold cf;simp[List.getD];cases(cV [] (aO one other))[k]? with
     |none=>rfl
     |some v=>simp
    ·omega
   refine .cons (q:=bZ one other) (α:=(bM one other:Rat)) (β:=((aC (cV [] (aO one other)):Int):Rat)) (NJ.mpr fp) (NJ.mpr gp) (λx=>?_) ih;have h1:=db (a:=one) (c:=aE (bM one other) one) (u:=bM one other) x λk=>aK _ _ _
   have h2:=eh x (bZ one other) other (ag (bZ one other) other) (ay _ _);have h3:=i9 (a:=ag (bZ one other) other) (b:=aJ one other) (c:=aE (bM one other) one) (u:=1) (v := -(aC (cV [] (aO one other)):Int)) x λk=>by rw[aK,hs k,ay,Int.neg_mul];omega
   rw[<- h1,h3,h2,Ow];show((1:Int):Rat)*_+_=_;grind
def iB{l:Ex}(h:Tr l)(hne:l≠[]):0<(aC l:Int)/\Tr (aj l)/\aj l≠[]/\∀n,cf l n=(aC l:Int)*cf (aj l) n:=by
 have e:=mZ (l:=l)
 have ec:∀n,cf l n=(aC l:Int)*cf (aj l) n:=λn=>by have:=congrArg (λz=>cf z n) e;simp only[aK]at this;exact this.symm
 have hl:(aj l).length=l.length:=by unfold aj;rw[No]
 refine⟨?_,f8 h,λz=>by rw[z]at hl;exact hne (Os hl.symm),ec⟩;rcases Nat.eq_zero_or_pos (aC l)with z |z
 ·exfalso;refine hne (tX h λk=>?_);rw[ec k,z];simp
 ·omega
def Cop2.shr{a b:Ex}(h:Cop2 a b)(ha:Tr a)(hna:a≠[])(hb:Tr b):Cop2 (aj a) (aj b):=λd dn dt h1 h2=>by
 obtain⟨_,_,_,ea⟩:=iB ha hna;refine h d dn dt (Dv.prop_right (x:=1) (y:=(aC a:Int)) (by decide) (λn=>by rw[ea n];omega) h1) ?_;by_cases hnb:b=[]
 ·rw[hnb];exact Dv.nil _
 ·obtain⟨_,_,_,eb⟩:=iB hb hnb;exact Dv.prop_right (x:=1) (y:=(aC b:Int)) (by decide) (λn=>by rw[eb n];omega) h2
def sgv(row:List Ex)(t n:Int):Ex:=row.map λf=>sg (hv t n f)
def Dz{t n:Int}(hn:0<n)(row:List Ex):sgv row t n=sgX row ((t:Rat)/(n:Rat)):=by unfold sgv sgX;exact Oa λf _=>cA hn f
theorem ve{C:Rat->Rat->Prop}(hadd:∀x y z,x<y->y<z->C x y->C y z->C x z){δ a b:Rat}(hδ:0<δ)(h:∀x y,a<=x->y<=b->x<y->y-x<=δ->C x y):∀(n:Nat) (x y:Rat),a<=x->y<=b->x<y->y-x<=2^n*δ->C x y
 |0,x,y,hx,hy,hxy,hd=>h x y hx hy hxy (by rw[OD]at hd;grind)
 |n+1,x,y,hx,hy,hxy,hd=>by
  have m1:x<(x+y)/2:=by grind
  have m2:(x+y)/2<y:=by grind
  rw[Og]at hd;exact hadd x _ y m1 m2 (ve hadd hδ h n x _ hx (by grind) m1 (by grind)) (ve hadd hδ h n _ y (by grind) hy m2 (by grind))
def Dk{δ:Rat}(hδ:0<δ)(w:Rat):∃n:Nat,w<=2^n*δ:=by
 obtain⟨n,hn⟩:=KA (w/δ);refine⟨n,?_⟩;have h1:w/δ<=2^n:=NZ hn (Hm n);have h2:=Oh h1 (Np hδ)
 rwa [Nx (by grind)]at h2
def ig(v:Rat):∃w:Rat,0<=w/\Bd w v:=by
 rcases NG (a:=0) (b:=v)with z |z
 ·exact⟨v,z,by grind,by grind⟩
 ·exact⟨-v,by grind,by grind,by grind⟩
structure Dya(B:Int)(d:Nat)(l1 l2 h1 h2:Int):Prop where
 l2p:0<l2
 h2p:0<h2
 gl:Nat.gcd l1.natAbs l2.natAbs=1
 gh:Nat.gcd h1.natAbs h2.natAbs=1
 at':∃m:Int,0<=m/\m+1<=2^d/\l1*2^d=(2*m*B-B*2^d)*l2/\h1*2^d=(2*(m+1)*B-B*2^d)*h2
def AW{X l1 l2:Int}{d k:Nat}(l2p:0<l2)(g:Nat.gcd l1.natAbs l2.natAbs=1)(e:l1*2^d=X*l2)(hX:X.natAbs<=2^k)(hk:d<=k):l1.natAbs<=2^k/\l2.natAbs<=2^k:=by
 have e':l1.natAbs*2^d=X.natAbs*l2.natAbs:=by have:=congrArg Int.natAbs e;rw[N4,N4,Int.natAbs_pow]at this;exact this
 have hd:l2.natAbs∣2^d:=by refine Nat.Coprime.dvd_of_dvd_mul_left (k:=l2.natAbs) (m:=l1.natAbs) (by rw[Nat.Coprime,Nat.gcd_comm];exact g) ?_;exact⟨X.natAbs,by rw[e',Nat.mul_comm]⟩
 have p2:0<2^d:=OT (by decide);have hle:=Nat.le_of_dvd p2 hd;refine⟨?_,NP hle (Nat.pow_le_pow_right (by decide) hk)⟩;have h1:l1.natAbs*2^d<=X.natAbs*2^d:=by rw[e'];exact OS _ hle
 exact NP (Nat.le_of_mul_le_mul_right h1 p2) hX
def zm{B D m:Int}{N:Nat}(hN:(N:Int)=B*D)(B0:0<B)(m0:0<=m)(m1:m<=D):(2*m*B-B*D).natAbs<=N:=by
 have k1:0<=m*B:=Int.mul_nonneg m0 (Oj B0);have k2:m*B<=D*B:=PL m1 (Oj B0);have k4:D*B=B*D:=Om _ _;have k5:2*m*B=2*(m*B):=OU _ _ _;rw[k5];generalize m*B=x at *
 generalize B*D=y at *
 omega
def Dya.bits{kb d:Nat}{l1 l2 h1 h2:Int}(h:Dya (2^kb) d l1 l2 h1 h2):(l1.natAbs<=2^(kb+d)/\l2.natAbs<=2^(kb+d))/\h1.natAbs<=2^(kb+d)/\h2.natAbs<=2^(kb+d):=by
 obtain⟨l2p,h2p,gl,gh,m,m0,m1,e1,e2⟩:=h;have B0:(0:Int)<2^kb:=OG (by decide);have eq:(((2:Nat)^(kb+d):Nat):Int)=2^kb*2^d:=by rw[P4,Int.pow_add];rfl
 exact⟨AW l2p gl e1 (zm eq B0 m0 (by omega)) (by omega),AW h2p gh e2 (zm eq B0 (by omega) m1) (by omega)⟩
def Dya.width{B:Int}{d:Nat}{l1 l2 h1 h2:Int}(h:Dya B d l1 l2 h1 h2):(h1*l2-l1*h2)*2^d=2*B*(l2*h2):=by obtain⟨l2p,h2p,gl,gh,m,m0,m1,e1,e2⟩:=h;grind
def Dya.lt{B:Int}(hB:0<B){d:Nat}{l1 l2 h1 h2:Int}(h:Dya B d l1 l2 h1 h2):l1*h2<h1*l2:=by
 have w:=h.width;have p:(0:Int)<2^d:=OG (by decide);have q:0<2*B*(l2*h2):=NH (by omega) (NH h.l2p h.h2p);rw[<- w]at q
 have:0<h1*l2-l1*h2:=Int.not_le.mp λz=>by have:=Int.mul_nonpos_of_nonpos_of_nonneg z (Oj p);omega
 omega
def Dya.start{B:Int}:Dya B 0 (-B) 1 B 1:=⟨by decide,by decide,Nat.gcd_one_right _,Nat.gcd_one_right _,0,by decide,by decide,by grind,by grind⟩
def Dya.half{B:Int}{d:Nat}{l1 l2 h1 h2 c1 c2:Int}(h:Dya B d l1 l2 h1 h2)(c2p:0<c2)(gc:Nat.gcd c1.natAbs c2.natAbs=1)(e:c1*(2*l2*h2)=(l1*h2+h1*l2)*c2):Dya B (d+1) l1 l2 c1 c2/\Dya B (d+1) c1 c2 h1 h2:=by
 obtain⟨l2p,h2p,gl,gh,m,m0,m1,e1,e2⟩:=h
 have ec:c1*2^(d+1)=(2*(2*m+1)*B-B*2^(d+1))*c2:=by
  have hp:0<l2*h2:=NH l2p h2p;refine Qh (a:=l2*h2) (by omega) ?_;rw[NO];have q1:c1*(2^d*2)*(l2*h2)=c1*(2*l2*h2)*2^d:=by grind
  rw[q1,e];have q2:(l1*h2+h1*l2)*c2*2^d=(l1*2^d*h2+h1*2^d*l2)*c2:=by grind
  rw[q2,e1,e2];grind
 have p2:(2:Int)^(d+1)=2^d*2:=NO ..;refine⟨⟨l2p,c2p,gl,gc,2*m,by omega,by omega,?_,ec⟩,⟨c2p,h2p,gc,gh,2*m+1,by omega,by omega,ec,?_⟩⟩
 ·rw[p2,<- OU,e1];grind
 ·rw[p2,<- OU,e2];grind
abbrev Rw:=Nat->Int
def tl(r:Rw):Rw:=λj=>r (j+1)
def aX(a:Int)(r:Rw)(b:Int)(s:Rw):Rw:=λj=>a*r j+b*s j
noncomputable def bv(f:List Rw->Int):List Rw->List Rw->Int
 |_,[]=>0
 |pre,r::rs=>r 0*f (pre++rs)-bv f (pre++[r]) rs
noncomputable def D:Nat->List Rw->Int
 |0,_=>1
 |n+1,rows=>bv (λm=>D n (m.map tl)) [] rows
def KR(n:Nat)(rows:List Rw):D (n+1) rows=bv (λm=>D n (m.map tl)) [] rows:=rfl
def CS(a:Int)(r:Rw)(b:Int)(s:Rw):tl (aX a r b s)=aX a (tl r) b (tl s):=rfl
theorem f7:∀(n:Nat) (pre post:List Rw) (r s:Rw) (a b:Int),pre.length+1+post.length=n->D n (pre++aX a r b s::post)=a*D n (pre++r::post)+b*D n (pre++s::post)
 |0,pre,post,r,s,a,b,h=>by omega
 |n+1,pre,post,r,s,a,b,h=>by
  have fl:∀p q:List Rw,p.length+1+q.length=n->D n ((p++aX a r b s::q).map tl)=a*D n ((p++r::q).map tl)+b*D n ((p++s::q).map tl):=λp q hl=>by rw[NI,N0,NI,N0,NI,N0,CS];exact f7 n (p.map tl) (q.map tl) (tl r) (tl s) a b (by simpa using hl)
  have A:∀(rows p q:List Rw),p.length+1+q.length+rows.length=n+1->bv (λm=>D n (m.map tl)) (p++aX a r b s::q) rows=a*bv (λm=>D n (m.map tl)) (p++r::q) rows+b*bv (λm=>D n (m.map tl)) (p++s::q) rows:=by
   intro rows
   induction rows with
   |nil=>intro p q _;simp[bv]
   |cons x xs ih =>intro p q hl;rw[Ny]at hl;have h1:=fl p (q++xs) (by rw[Nq];omega);have h2:=ih p (q++[x]) (by rw[Nq];show p.length+1+(q.length+1)+xs.length=n+1;omega);show x 0*D n ((p++aX a r b s::q++xs).map tl)-bv _ (p++aX a r b s::q++[x]) xs=a*(x 0*D n ((p++r::q++xs).map tl)-bv _ (p++r::q++[x]) xs)+b*(x 0*D n ((p++s::q++xs).map tl)-bv _ (p++s::q++[x]) xs);simp only[NY,Ob]at h1 h2 ⊢;rw[h1,h2];grind
  have B:∀(p p0:List Rw),p0.length+p.length+1+post.length=n+1->bv (λm=>D n (m.map tl)) p0 (p++aX a r b s::post)=a*bv (λm=>D n (m.map tl)) p0 (p++r::post)+b*bv (λm=>D n (m.map tl)) p0 (p++s::post):=by
   intro p
   induction p with
   |nil =>intro p0 hl;have h2:=A post p0 [] (by simpa using hl);show aX a r b s 0*D n ((p0++post).map tl)-bv _ (p0++[aX a r b s]) post=a*(r 0*D n ((p0++post).map tl)-bv _ (p0++[r]) post)+b*(s 0*D n ((p0++post).map tl)-bv _ (p0++[s]) post);rw[h2];show(a*r 0+b*s 0)*_-_=_;grind
   |cons x xs ih =>intro p0 hl;rw[Ny]at hl;have h1:=fl (p0++xs) post (by rw[Nq];omega);have h2:=ih (p0++[x]) (by rw[Nq];show p0.length+1+xs.length+1+post.length=n+1;omega);show x 0*D n ((p0++(xs++aX a r b s::post)).map tl)-bv _ (p0++[x]) (xs++aX a r b s::post)=a*(x 0*D n ((p0++(xs++r::post)).map tl)-bv _ (p0++[x]) (xs++r::post))+b*(x 0*D n ((p0++(xs++s::post)).map tl)-bv _ (p0++[x]) (xs++s::post));simp only[NY]at h1;rw[h1,h2];grind
  exact B pre [] (by simpa using h)
theorem jB:∀(n:Nat) (pre post:List Rw) (r:Rw),pre.length+2+post.length=n->D n (pre++r::r::post)=0
 |0,pre,post,r,h=>by omega
 |n+1,pre,post,r,h=>by
  have fl:∀p q:List Rw,p.length+2+q.length=n->D n ((p++r::r::q).map tl)=0:=λp q hl=>by rw[NI,N0,N0];exact jB n (p.map tl) (q.map tl) (tl r) (by simpa using hl)
  have A:∀(rows p q:List Rw),p.length+2+q.length+rows.length=n+1->bv (λm=>D n (m.map tl)) (p++r::r::q) rows=0:=by
   intro rows
   induction rows with
   |nil=>intro p q _;rfl
   |cons x xs ih =>intro p q hl;rw[Ny]at hl;have h1:=fl p (q++xs) (by rw[Nq];omega);have h2:=ih p (q++[x]) (by rw[Nq];show p.length+2+(q.length+1)+xs.length=n+1;omega);show x 0*D n ((p++r::r::q++xs).map tl)-bv _ (p++r::r::q++[x]) xs=0;simp only[NY,Ob]at h1 h2 ⊢;rw[h1,h2,NQ];rfl
  have B:∀(p p0:List Rw),p0.length+p.length+2+post.length=n+1->bv (λm=>D n (m.map tl)) p0 (p++r::r::post)=0:=by
   intro p
   induction p with
   |nil =>intro p0 hl;have h2:=A post p0 [] (by simpa using hl);show r 0*D n ((p0++r::post).map tl)-(r 0*D n ((p0++[r]++post).map tl)-bv _ (p0++[r]++[r]) post)=0;simp only[NY,Ob,NN]at h2 ⊢;rw[h2];omega
   |cons x xs ih =>intro p0 hl;rw[Ny]at hl;have h1:=fl (p0++xs) post (by rw[Nq];omega);have h2:=ih (p0++[x]) (by rw[Nq];show p0.length+1+xs.length+2+post.length=n+1;omega);show x 0*D n ((p0++(xs++r::r::post)).map tl)-bv _ (p0++[x]) (xs++r::r::post)=0;simp only[NY]at h1;rw[h1,h2,NQ];rfl
  exact B pre [] (by simpa using h)
def KP{n:Nat}{pre post:List Rw}{r s:Rw}(h:pre.length+2+post.length=n):D n (pre++r::s::post) =-D n (pre++s::r::post):=by have e0:=jB n pre post (aX 1 r 1 s) h;rw[f7 n pre (aX 1 r 1 s::post) r s 1 1 (by rw[Ny];omega)]at e0;have e1:=f7 n (pre++[r]) post r s 1 1 (by rw[Nq];show pre.length+1+1+post.length=n;omega);have e2:=f7 n (pre++[s]) post r s 1 1 (by rw[Nq];show pre.length+1+1+post.length=n;omega);simp only[NY,Ob,NN]at e1 e2;have e3:=jB n pre post r h;have e4:=jB n pre post s h;rw[e1,e2,e3,e4]at e0;omega
theorem mB{n:Nat}{h:Rw}{post:List Rw}:∀(pre q:List Rw),q.length+pre.length+1+post.length=n->D n (q++pre++h::post)=(-1)^pre.length*D n (q++h::pre++post)
 | [],q,_=>by simp
 |x::pre,q,hl=>by rw[Ny]at hl;have ih:=mB (n:=n) (h:=h) (post:=post) pre (q++[x]) (by rw[Nq];show q.length+1+pre.length+1+post.length=n;omega);have e:=KP (n:=n) (pre:=q) (post:=pre++post) (r:=x) (s:=h) (by rw[Nq];omega);simp only[NY,Ob,NN]at ih e ⊢;rw[ih,e,Ny,NO];grind
def pM{n:Nat}{h:Rw}{q pre post:List Rw}(hl:q.length+pre.length+2+post.length=n):D n (q++h::pre++h::post)=0:=by have e:=mB (n:=n) (h:=h) (post:=post) pre (q++[h]) (by rw[Nq];show q.length+1+pre.length+1+post.length=n;omega);have e2:=jB n q (pre++post) h (by rw[Nq];omega);simp only[NY,Ob,NN]at e e2 ⊢;rw[e,e2,NQ]
theorem uu{f:List Rw->Int}:∀(X pre:List Rw),(∀x∈X,x 0=0)->bv f pre X=0
 | [],_,_=>rfl
 |x::X,pre,h=>by show x 0*_-bv f (pre++[x]) X=0;rw[h x (NK ..),uu X (pre++[x]) λy hy=>h y (NB _ hy)];omega
def pL{m:Nat}{h:Rw}{X:List Rw}(hX:∀x∈X,x 0=0):D (m+1) (h::X)=h 0*D m (X.map tl):=by show h 0*D m (([]++X).map tl)-bv _ ([]++[h]) X=_;rw[uu X _ hX,NN];omega
def pK{m:Nat}{X:List Rw}(hX:∀x∈X,x 0=0):D (m+1) X=0:=uu X [] hX
theorem B5{n:Nat}{h:Rw}:∀(R q:List Rw),1+q.length+R.length=n->D n (h::(q++R.map λr=>aX (h 0) r (-(r 0)) h))=h 0^R.length*D n (h::(q++R))
 | [],q,_=>by simp
 |r::R,q,hl=>by rw[Ny]at hl;have e:=f7 n (h::q) (R.map λr=>aX (h 0) r (-(r 0)) h) r h (h 0) (-(r 0)) (by rw[No,Ny];omega);have e2:=pM (n:=n) (h:=h) (q:=[]) (pre:=q) (post:=R.map λr=>aX (h 0) r (-(r 0)) h) (by rw[No,Ol];omega);have ih:=B5 (n:=n) (h:=h) R (q++[r]) (by rw[Nq];show 1+(q.length+1)+R.length=n;omega);simp only[NY,Ob,NN]at e e2 ih ⊢;rw[N0,e,e2,ih,Ny,NO];grind
theorem Ad{f:List Rw->Int}{B F:Nat}{S:Rw->Prop}(hS:∀r,S r->(r 0).natAbs<=B):∀(rows pre:List Rw),(∀r∈pre,S r)->(∀r∈rows,S r)->(∀l:List Rw,l.length+1=pre.length+rows.length->(∀r∈l,S r)->(f l).natAbs<=F)->(bv f pre rows).natAbs<=rows.length*(B*F)
 | [],_,_,_,_=>by simp[bv]
 |r::rs,pre,h1,h2,h3=>by
  have a1:=hS r (h2 r (NK ..));have a2:=h3 (pre++rs) (by rw[Nq,Ny];omega) (λx hx=>(NT.mp hx).elim (h1 x) λz=>h2 x (NB _ z));have a3:=Ad hS rs (pre++[r]) (λx hx=>(NT.mp hx).elim (h1 x) λz=>by rw[NU.mp z];exact h2 r (NK ..)) (λx hx=>h2 x (NB _ hx)) (λl hl=>h3 l (by rw[Nq]at hl;rw[Ny];have:([r]:List Rw).length=1:=rfl;omega));show(r 0*f (pre++rs)-bv f (pre++[r]) rs).natAbs<=(rs.length+1)*(B*F);have a4:(r 0*f (pre++rs)).natAbs<=B*F:=by rw[N4];exact PK a1 a2
  rw[O9,Nat.one_mul];have:=Int.natAbs_sub_le (r 0*f (pre++rs)) (bv f (pre++[r]) rs);omega
def sh(k:Nat)(r:Rw):Rw:=λj=>r (j+k)
noncomputable def dp:Nat->List Rw->Int
 |_,[]=>1
 |k,r::rs=>r k*dp (k+1) rs
theorem BX:∀(R:List Rw) (k:Nat),(∀(i:Nat) (r:Rw),R[i]?=some r->∀j,j<i->r (j+k)=0)->D R.length (R.map (sh k))=dp k R
 | [],_,_=>rfl
 |h::X,k,hz=>by
  have ih:=BX X (k+1) λi r hr j hj=>by
   have:=hz (i+1) r hr (j+1) (by omega);have e:j+1+k=j+(k+1):=by omega
   rw[e]at this;exact this
  show D (X.length+1) (sh k h::X.map (sh k))=h k*dp (k+1) X
  rw[pL (λx hx=>by
   obtain⟨y,hy,rfl⟩:=NF.mp hx;obtain⟨i,hi,rfl⟩:=Qd.mp hy
   exact hz (i+1) X[i] (by rw[List.getElem?_cons_succ];exact List.getElem?_eq_getElem hi) 0 (by omega)),<- ih,N7]
  have e0:sh k h 0=h k:=by show h (0+k)=h k;rw[Pn]
  rw[e0]
  congr 2
  refine Oa λr _=>?_
  funext j
  show r (j+1+k)=r (j+(k+1))
  congr 1;omega
variable {ι:Type}
noncomputable def cT(h:ι->Int)(f:List ι->Int):List ι->List ι->Int
 |_,[]=>0
 |pre,r::rs=>h r*f (pre++rs)-cT h f (pre++[r]) rs
theorem Ac(F:ι->Rw)(f:List Rw->Int):∀rows pre:List ι,bv f (pre.map F) (rows.map F)=cT (λi=>F i 0) (λm=>f (m.map F)) pre rows
 | [],_=>rfl
 |r::rs,pre=>by show F r 0*f (pre.map F++rs.map F)-bv f (pre.map F++[F r]) (rs.map F)=F r 0*f ((pre++rs).map F)-cT _ _ (pre++[r]) rs;rw[<- Ac F f rs (pre++[r]),NI,NI,N0,List.map_nil]
def iS(n:Nat)(F:ι->Rw)(l:List ι):D (n+1) (l.map F)=cT (λi=>F i 0) (λm=>D n (m.map λi=>tl (F i))) [] l:=by
 have:=Ac F (λm=>D n (m.map tl)) l [];rw[KR];rw[List.map_nil]at this;rw[this]
 congr 1
 funext m
 rw[N7];rfl
theorem zZ(x y:Int)(h1 h2:ι->Int)(f:List ι->Int):∀rows pre:List ι,cT (λi=>x*h1 i+y*h2 i) f pre rows=x*cT h1 f pre rows+y*cT h2 f pre rows
 | [],_=>by simp[cT]
 |r::rs,pre=>by show(x*h1 r+y*h2 r)*f (pre++rs)-cT _ f (pre++[r]) rs=x*(h1 r*f (pre++rs)-cT h1 f (pre++[r]) rs)+y*(h2 r*f (pre++rs)-cT h2 f (pre++[r]) rs);rw[zZ x y h1 h2 f rs (pre++[r])];grind
theorem Aa(x y:Int)(h:ι->Int)(f f1 f2:List ι->Int)(hf:∀m,f m=x*f1 m+y*f2 m):∀rows pre:List ι,cT h f pre rows=x*cT h f1 pre rows+y*cT h f2 pre rows
 | [],_=>by simp[cT]
 |r::rs,pre=>by show h r*f (pre++rs)-cT h f (pre++[r]) rs=x*(h r*f1 (pre++rs)-cT h f1 (pre++[r]) rs)+y*(h r*f2 (pre++rs)-cT h f2 (pre++[r]) rs);rw[Aa x y h f f1 f2 hf rs (pre++[r]),hf];grind
theorem Ab{S:ι->Prop}{h1 h2:ι->Int}{f1 f2:List ι->Int}(hh:∀i,S i->h1 i=h2 i)(hf:∀m,(∀i∈m,S i)->f1 m=f2 m):∀rows pre:List ι,(∀i∈pre,S i)->(∀i∈rows,S i)->cT h1 f1 pre rows=cT h2 f2 pre rows
 | [],_,_,_=>rfl
 |r::rs,pre,hp,hr=>by
  show h1 r*f1 (pre++rs)-cT h1 f1 (pre++[r]) rs=h2 r*f2 (pre++rs)-cT h2 f2 (pre++[r]) rs
  rw[hh r (hr r (NK ..)),hf (pre++rs) (λi hi=>(NT.mp hi).elim (hp i) λz=>hr i (NB _ z)),
   Ab hh hf rs (pre++[r]) (λi hi=>(NT.mp hi).elim (hp i) λz=>by rw[NU.mp z];exact hr r (NK ..)) (λi hi=>hr i (NB _ hi))]
theorem B4:∀(n:Nat) (l:List ι) (g g':ι->Rw),(∀i∈l,∀j,j<n->g i j=g' i j)->D n (l.map g)=D n (l.map g')
 |0,_,_,_,_=>rfl
 |n+1,l,g,g',h=>by rw[iS,iS];refine Ab (S:=λi=>∀j,j<n+1->g i j=g' i j) (λi hi=>hi 0 (by omega)) (λm hm=>?_) l [] (λ_ h=>nomatch h) h;exact B4 n m (λi=>tl (g i)) (λi=>tl (g' i)) λi hi j hj=>hm i hi (j+1) (by omega)
def rc(k:Nat)(c:Int)(r:Rw):Rw:=λj=>if j=k then c else r j
def CQ(k:Nat)(c:Int)(r:Rw):tl (rc (k+1) c r)=rc k c (tl r):=by
 funext j
 show(if j+1=k+1 then c else r (j+1))=if j=k then c else r (j+1)
 by_cases h:j=k
 ·rw[if_pos h,if_pos (by omega)]
 ·rw[if_neg h,if_neg (by omega)]
def CP(c:Int)(r:Rw):tl (rc 0 c r)=tl r:=by
 funext j
 show(if j+1=0 then c else r (j+1))=r (j+1);rw[if_neg (by omega)]
theorem mC:∀(k n:Nat) (l:List ι) (g:ι->Rw) (c d:ι->Int) (x y:Int),k<n->D n (l.map λi=>rc k (x*c i+y*d i) (g i))=x*D n (l.map λi=>rc k (c i) (g i))+y*D n (l.map λi=>rc k (d i) (g i))
 |_,0,_,_,_,_,_,_,h=>by omega
 |0,n+1,l,g,c,d,x,y,_=>by
  rw[iS,iS,iS];simp only[CP];have e:∀c:ι->Int,(λi=>rc 0 (c i) (g i) 0)=c:=λc=>by funext i;rfl
  rw[e (λi=>x*c i+y*d i),e c,e d];exact zZ x y c d _ l []
 |k+1,n+1,l,g,c,d,x,y,h=>by
  rw[iS,iS,iS];simp only[CQ];have e:∀c:ι->Int,(λi=>rc (k+1) (c i) (g i) 0)=λi=>g i 0:=λc=>by funext i;show(if 0=k+1 then _ else _)=_;rw[if_neg (by omega)]
  rw[e (λi=>x*c i+y*d i),e c,e d];exact Aa x y _ _ _ _ (λm=>mC k n m (λi=>tl (g i)) c d x y (by omega)) l []
def KT{n:Nat}{rows:List Rw}(hn:rows.length=n)(h2:2<=n)(h:∀r∈rows,r 1=r 0):D n rows=0:=by
 by_cases hz:∀r∈rows,r 0=0
 ·obtain⟨m,rfl⟩:∃m,n=m+1:=⟨n-1,by omega⟩;exact pK hz
 ·obtain⟨hd,hmem,hne⟩:∃r,r∈rows/\r 0≠0:=by refine Classical.byContradiction λz=>hz λr hr=>Classical.byContradiction λz2=>z ⟨r,hr,z2⟩
  obtain⟨pre,post,rfl⟩:=P5 hmem;rw[Nq,Ny]at hn;have e:=mB (n:=n) (h:=hd) (post:=post) pre [] (by rw[Ol];omega);rw[NN,NN,Ob]at e;rw[e]
  have hR:∀r∈pre++post,r 1=r 0:=λr hr=>h r (by
   rcases NT.mp hr with z |z
   ·exact OH _ z
   ·exact N6 _ (NB _ z))
  have hd1:=h hd (by simp);have hl:(pre++post).length+1=n:=by rw[Nq];omega
  generalize pre++post=R at hR hl
  obtain⟨m,hm⟩:∃m,R.length=m+1:=⟨R.length-1,by omega⟩;have c:=B5 (n:=n) (h:=hd) R [] (by rw[Ol];omega);rw[NN,NN]at c
  have z:D n (hd::R.map λr=>aX (hd 0) r (-(r 0)) hd)=0:=by
   obtain⟨n',rfl⟩:∃n',n=n'+2:=⟨n-2,by omega⟩
   rw[pL (λx hx=>by
    obtain⟨r,_,rfl⟩:=NF.mp hx;show hd 0*r 0 + -(r 0)*hd 0=0
    grind)]
   rw[pK (λx hx=>by
    obtain⟨y,hy,rfl⟩:=NF.mp hx;obtain⟨r,hr,rfl⟩:=NF.mp hy;show hd 0*r 1 + -(r 0)*hd 1=0;rw[hR r hr,hd1]
    grind),NQ]
  rw[z]at c;rcases Pa.mp c.symm with z1 |z1
  ·exact absurd z1 (Pp hne)
  ·rw[z1,NQ]
theorem uw{f:List Rw->Int}{S:Rw->Prop}:∀(rows pre:List Rw),(∀r∈pre,S r)->(∀r∈rows,S r)->(∀m:List Rw,m.length+1=pre.length+rows.length->(∀r∈m,S r)->f m=0)->bv f pre rows=0
 | [],_,_,_,_=>rfl
 |r::rs,pre,h1,h2,h3=>by
  show r 0*f (pre++rs)-bv f (pre++[r]) rs=0
  rw[h3 (pre++rs) (by rw[Nq,Ny];omega) (λx hx=>(NT.mp hx).elim (h1 x) λz=>h2 x (NB _ z)),
   uw rs (pre++[r]) (λx hx=>(NT.mp hx).elim (h1 x) λz=>by rw[NU.mp z];exact h2 r (NK ..)) (λx hx=>h2 x (NB _ hx)) (λm hm=>h3 m (by rw[Nq]at hm;rw[Ny];have:([r]:List Rw).length=1:=rfl;omega))]
  simp
theorem vC:∀(k n:Nat) (rows:List Rw),rows.length=n->k+2<=n->(∀r∈rows,r (k+1)=r k)->D n rows=0
 |0,n,rows,hl,hn,h=>KT hl hn h
 |k+1,0,rows,hl,hn,h=>by omega
 |k+1,n+1,rows,hl,hn,h=>by
  refine uw (S:=λr=>r (k+2)=r (k+1)) rows [] (λ_ z=>nomatch z) h (λm hm hS=>?_)
  exact vC k n (m.map tl) (by rw[No];rw[Ol]at hm;omega) (by omega) (λr hr=>by
   obtain⟨x,hx,rfl⟩:=NF.mp hr
   exact hS x hx)
theorem vA:∀(n:Nat) (rows:List Rw),rows.length=n+1->(∀r∈rows,r n=0)->D (n+1) rows=0
 |0,rows,_,h=>pK h
 |n+1,rows,hl,h=>by
  refine uw (S:=λr=>r (n+1)=0) rows [] (λ_ z=>nomatch z) h (λm hm hS=>?_)
  exact vA n (m.map tl) (by rw[No];rw[Ol]at hm;omega) (λr hr=>by
   obtain⟨x,hx,rfl⟩:=NF.mp hr
   exact hS x hx)
theorem BZ:∀(n:Nat) (rows:List Rw) (u:Rw),rows.length=n->(∀r∈rows,r n=0)->D (n+1) (rows++[u])=u n*D n rows
 |0,rows,u,hl,_=>by obtain rfl:=OQ.mp hl;show u 0*1-0=u 0*1;omega
 |n+1,rows,u,hl,h=>by
  have A:∀(rs pre:List Rw),pre.length+rs.length=n+1->(∀r∈pre,r (n+1)=0)->(∀r∈rs,r (n+1)=0)->bv (λm=>D (n+1) (m.map tl)) pre (rs++[u])=u (n+1)*bv (λm=>D n (m.map tl)) pre rs:=by
   intro rs
   induction rs with
   |nil =>
    intro pre hl' hp _;show u 0*D (n+1) ((pre++[]).map tl)-0=u (n+1)*0
    rw[Pe,vA n _ (by rw[No];simpa using hl') (λr hr=>by
     obtain⟨x,hx,rfl⟩:=NF.mp hr
     exact hp x hx)]
    simp
   |cons x xs ih =>
    intro pre hl' hp hr;rw[Ny]at hl';have h1:=ih (pre++[x]) (by rw[Nq];show pre.length+1+xs.length=n+1;omega) (λr hr'=>(NT.mp hr').elim (hp r) λz=>by rw[NU.mp z];exact hr x (NK ..)) (λr hr'=>hr r (NB _ hr'))
    have h2:=BZ n ((pre++xs).map tl) (tl u) (by rw[No,Nq];omega) (λr hr'=>by
     obtain⟨y,hy,rfl⟩:=NF.mp hr';rcases NT.mp hy with z |z
     ·exact hp y z
     ·exact hr y (NB _ z))
    show x 0*D (n+1) ((pre++(xs++[u])).map tl)-bv _ (pre++[x]) (xs++[u])=u (n+1)*(x 0*D n ((pre++xs).map tl)-bv _ (pre++[x]) xs);rw[h1,<- NY,NI,N0,List.map_nil,h2];show x 0*(u (n+1)*_)-_=_;grind
  exact A rows [] (by simpa using hl) (λ_ z=>nomatch z) h
def shr(k:Nat)(f:Rw):Rw:=λj=>if j<k then 0 else f (j-k)
def aP(f:Rw)(n:Nat):List Rw:=(List.range n).map λk=>shr k f
def ce(f g:Rw)(n m:Nat):List Rw:=aP f n++aP g m
def dY(f:Rw)(n:Nat):(aP f n).length=n:=by unfold aP;simp
noncomputable def wj(a b:Int)(h:Rw):Nat->Int
 |0=>h 0
 |j+1=>wj a b h j*a+h (j+1)*b^(j+1)
def Cg(a b:Int)(f:Rw)(m:Nat):(∀j,j<m->wj a b (shr m f) j=0)/\∀t,wj a b (shr m f) (m+t)=b^m*wj a b f t:=by
 have z:∀j,j<m->wj a b (shr m f) j=0:=by
  intro j
  induction j with
  |zero=>intro h;show(if 0<m then 0 else f (0-m))=0;rw[if_pos h]
  |succ j ih =>intro h;show wj a b (shr m f) j*a+(if j+1<m then 0 else f (j+1-m))*b^(j+1)=0;rw[ih (by omega),if_pos h];simp
 refine⟨z,λt=>?_⟩
 induction t with
 |zero =>
  cases m with
  |zero=>show(if 0<0 then 0 else f (0-0))=b^0*f 0;simp
  |succ m =>show wj a b (shr (m+1) f) m*a+(if m+1<m+1 then 0 else f (m+1-(m+1)))*b^(m+1)=b^(m+1)*f 0;rw[z m (by omega),if_neg (by omega),Oy];grind
 |succ t ih =>
  show wj a b (shr m f) (m+t)*a+(if m+t+1<m then 0 else f (m+t+1-m))*b^(m+t+1)=b^m*(wj a b f t*a+f (t+1)*b^(t+1));rw[ih,if_neg (by omega)];have e1:m+t+1-m=t+1:=by omega
  have e2:m+t+1=m+(t+1):=by omega
  rw[e1,e2,Int.pow_add];grind
def EM{c:Int}{n:Nat}{f g:Rw}(hf0:f 0=c)(hf:∀j,0<j->f j=0):D (n+0) (ce f g n 0)=c^n:=by
 have e:ce f g n 0=aP f n:=by unfold ce aP;simp
 rw[e]
 have e1:=BX (aP f n) 0 (λi r hr j hj=>by
  unfold aP at hr
  rw[List.getElem?_map]at hr;by_cases hi:i<n
  ·rw[List.getElem?_range hi]at hr;obtain rfl:=Option.some.inj hr;show(if j+0<i then 0 else f (j+0-i))=0;rw[if_pos (by omega)]
  ·rw[List.getElem?_eq_none_iff.mpr (by simp;omega)]at hr
   cases hr)
 have e2:(aP f n).map (sh 0)=aP f n:=by
  have:(aP f n).map (sh 0)=(aP f n).map id:=Oa λx _=>rfl
  rw[this,OR]
 rw[e2,dY]at e1
 have e3:∀m k,dp k ((List.range' k m).map λk=>shr k f)=c^m:=by
  intro m
  induction m with
  |zero=>intro k;show(1:Int)=c^0;simp
  |succ m ih =>
   intro k;rw[List.range'_succ,N0];show shr k f k*dp (k+1) _=_;rw[ih (k+1)];have:shr k f k=c:=by show(if k<k then 0 else f (k-k))=c;rw[if_neg (by omega),Oy,hf0]
   rw[this,NO,Om]
 rw[Nat.add_zero,e1];unfold aP;rw[List.range_eq_range'];exact e3 n 0
theorem vD{n:Nat}:∀(B q A:List Rw),q.length+A.length+B.length=n->D n (q++A++B)=(-1)^(A.length*B.length)*D n (q++B++A)
 | [],q,A,_=>by simp
 |x::B,q,A,h=>by rw[Ny]at h;have e:=mB (n:=n) (h:=x) (post:=B) A q (by omega);have ih:=vD (n:=n) B (q++[x]) A (by rw[Nq];show q.length+1+A.length+B.length=n;omega);simp only[NY,Ob,NN]at e ih ⊢;rw[e,ih,Ny,Nat.mul_succ,Int.pow_add];grind
def dH(l:Ex)(j:Nat):cf l.reverse j=if j<l.length then cf l (l.length-1-j)else 0:=by
 by_cases h:j<l.length
 ·rw[if_pos h,cU (by rw[NS];exact h),List.getElem_reverse,cU (by omega)]
 ·rw[if_neg h,bQ (by rw[NS];omega)]
def ca(p q:Ex):Int:=D (q.length-1+(p.length-1)) (ce (cf p.reverse) (cf q.reverse) (q.length-1) (p.length-1))
def ld{l:Ex}(j:Nat)(h:l.length-1<j):cf l.reverse j=0:=by rw[dH,if_neg (by omega)]
def EO(c:Int)(q:Ex):ca [c] q=c^(q.length-1):=by unfold ca;exact EM (f:=cf [c].reverse) rfl (λj hj=>ld j (by simpa using hj))
def sX(p q:Ex):ca q p=(-1)^((p.length-1)*(q.length-1))*ca p q:=by unfold ca ce;have:=vD (n:=p.length-1+(q.length-1)) (aP (cf p.reverse) (q.length-1)) [] (aP (cf q.reverse) (p.length-1)) (by rw[dY,dY];simp);rw[NN,NN,dY,dY]at this;rw[this,OY (q.length-1)]
structure AltF(n:Nat)(F:List Rw->Int):Prop where
 lin:∀(pre post:List Rw) (r s:Rw) (a b:Int),pre.length+1+post.length=n->F (pre++aX a r b s::post)=a*F (pre++r::post)+b*F (pre++s::post)
 alt:∀(pre post:List Rw) (r:Rw),pre.length+2+post.length=n->F (pre++r::r::post)=0
def AltF.ofD(n:Nat):AltF n (D n):=⟨f7 n,jB n⟩
def AltF.swap{n:Nat}{F:List Rw->Int}(hF:AltF n F){pre post:List Rw}{r s:Rw}(h:pre.length+2+post.length=n):F (pre++r::s::post) =-F (pre++s::r::post):=by have e0:=hF.alt pre post (aX 1 r 1 s) h;rw[hF.lin pre (aX 1 r 1 s::post) r s 1 1 (by rw[Ny];omega)]at e0;have e1:=hF.lin (pre++[r]) post r s 1 1 (by rw[Nq];show pre.length+1+1+post.length=n;omega);have e2:=hF.lin (pre++[s]) post r s 1 1 (by rw[Nq];show pre.length+1+1+post.length=n;omega);simp only[NY,Ob,NN]at e1 e2;have e3:=hF.alt pre post r h;have e4:=hF.alt pre post s h;rw[e1,e2,e3,e4]at e0;omega
theorem AltF.move{n:Nat}{F:List Rw->Int}(hF:AltF n F){h:Rw}{post:List Rw}:∀(pre q:List Rw),q.length+pre.length+1+post.length=n->F (q++pre++h::post)=(-1)^pre.length*F (q++h::pre++post)
 | [],q,_=>by simp
 |x::pre,q,hl=>by rw[Ny]at hl;have ih:=hF.move (h:=h) (post:=post) pre (q++[x]) (by rw[Nq];show q.length+1+pre.length+1+post.length=n;omega);have e:=hF.swap (pre:=q) (post:=pre++post) (r:=x) (s:=h) (by rw[Nq];omega);simp only[NY,Ob,NN]at ih e ⊢;rw[ih,e,Ny,NO];grind
def AltF.dup{n:Nat}{F:List Rw->Int}(hF:AltF n F){h:Rw}{q pre post:List Rw}(hl:q.length+pre.length+2+post.length=n):F (q++h::pre++h::post)=0:=by have e:=hF.move (h:=h) (post:=post) pre (q++[h]) (by rw[Nq];show q.length+1+pre.length+1+post.length=n;omega);have e2:=hF.alt q (pre++post) h (by rw[Nq];omega);simp only[NY,Ob,NN]at e e2 ⊢;rw[e,e2,NQ]
theorem AltF.clear{n:Nat}{F:List Rw->Int}(hF:AltF n F){h:Rw}{c:Int}{d:Rw->Int}:∀(R q:List Rw),1+q.length+R.length=n->F (h::(q++R.map λr=>aX c r (-(d r)) h))=c^R.length*F (h::(q++R))
 | [],q,_=>by simp
 |r::R,q,hl=>by rw[Ny]at hl;have e:=hF.lin (h::q) (R.map λr=>aX c r (-(d r)) h) r h c (-(d r)) (by rw[No,Ny];omega);have e2:=hF.dup (h:=h) (q:=[]) (pre:=q) (post:=R.map λr=>aX c r (-(d r)) h) (by rw[No,Ol];omega);have ih:=hF.clear (h:=h) (c:=c) (d:=d) R (q++[r]) (by rw[Nq];show 1+(q.length+1)+R.length=n;omega);simp only[NY,Ob,NN]at e e2 ih ⊢;rw[N0,e,e2,ih,Ny,NO];grind
def AltF.cons{n:Nat}{F:List Rw->Int}(hF:AltF (n+1) F)(h:Rw):AltF n (λR=>F (h::R)) :=
 ⟨λpre post r s a b hl=>hF.lin (h::pre) post r s a b (by rw[Ny];omega),λpre post r hl=>hF.alt (h::pre) post r (by rw[Ny];omega)⟩
def AltF.zero{n:Nat}{F:List Rw->Int}(hF:AltF n F){pre post:List Rw}{z:Rw}(hl:pre.length+1+post.length=n)(hz:∀j,z j=0):F (pre++z::post)=0:=by
 have e:=hF.lin pre post z z 0 0 hl;have e2:aX 0 z 0 z=z:=by funext j;show 0*z j+0*z j=z j;rw[hz j];simp
 rw[e2]at e;omega
def Sup(k n:Nat)(r:Rw):Prop:=∀j,(j<k\/k+n<=j)->r j=0
def wD{k n:Nat}{h r:Rw}(hh:Sup k (n+1) h)(hr:Sup k (n+1) r):Sup (k+1) n (aX (h k) r (-(r k)) h):=λj hj=>by
 show h k*r j + -(r k)*h j=0;by_cases e:j=k
 ·subst e;grind
 ·rw[hr j (by omega),hh j (by omega)];simp
theorem AltF.over:∀(n k:Nat) (F:List Rw->Int),AltF (n+1) F->∀rows:List Rw,rows.length=n+1->(∀r∈rows,Sup k n r)->F rows=0
 |0,k,F,hF,rows,hl,hS=>by obtain⟨r,rfl⟩:=List.length_eq_one_iff.mp hl;exact hF.zero (pre:=[]) (post:=[]) (by simp) (λj=>hS r (by simp) j (by omega))
 |n+1,k,F,hF,rows,hl,hS=>by
  by_cases hz:∀r∈rows,r k=0
  ·obtain⟨h,R,rfl⟩:∃h R,rows=h::R:=by cases rows with
    |nil=>simp at hl
    |cons h R=>exact⟨h,R,rfl⟩
   refine AltF.over n (k+1) (λR=>F (h::R)) (hF.cons h) R (by simpa using hl) (λr hr j hj=>?_);by_cases e:j=k
   ·subst e;exact hz r (NB _ hr)
   ·exact hS r (NB _ hr) j (by omega)
  ·obtain⟨h,hmem,hne⟩:∃r,r∈rows/\r k≠0:=Classical.byContradiction λz=>hz λr hr=>Classical.byContradiction λz2=>z ⟨r,hr,z2⟩
   obtain⟨pre,post,rfl⟩:=P5 hmem;rw[Nq,Ny]at hl;have e:=hF.move (h:=h) (post:=post) pre [] (by rw[Ol];omega);rw[NN,NN,Ob]at e;rw[e]
   have hR:∀r∈pre++post,Sup k (n+1) r:=λr hr=>hS r (by
    rcases NT.mp hr with z |z
    ·exact OH _ z
    ·exact N6 _ (NB _ z))
   have hh:=hS h hmem;have hlR:(pre++post).length=n+1:=by rw[Nq];omega
   generalize pre++post=R at hR hlR
   have c:=hF.clear (h:=h) (c:=h k) (d:=λr=>r k) R [] (by rw[Ol,hlR];omega);rw[NN,NN]at c
   have z:=AltF.over n (k+1) (λR=>F (h::R)) (hF.cons h) (R.map λr=>aX (h k) r (-(r k)) h) (by rw[No,hlR]) (λr hr=>by
    obtain⟨x,hx,rfl⟩:=NF.mp hr
    exact wD hh (hR x hx))
   rw[z]at c;rcases Pa.mp c.symm with z1 |z1
   ·exact absurd z1 (Pp hne)
   ·rw[z1,NQ]
def bU(k:Nat):Rw:=λj=>if j=k then 1 else 0
noncomputable def units:Nat->Nat->List Rw
 |_,0=>[]
 |k,n+1=>bU k::units (k+1) n
def CO(k:Nat)(r:Rw):tl (sh k r)=sh (k+1) r:=by
 funext j
 show r (j+1+k)=r (j+(k+1))
 congr 1;omega
theorem AltF.uniq:∀(n k:Nat) (F:List Rw->Int),AltF n F->∀rows:List Rw,rows.length=n->(∀r∈rows,Sup k n r)->F rows=D n (rows.map (sh k))*F (units k n)
 |0,k,F,hF,rows,hl,hS=>by obtain rfl:=OQ.mp hl;show F []=1*F [];omega
 |n+1,k,F,hF,rows,hl,hS=>by
  by_cases hz:∀r∈rows,r k=0
  ·rw[AltF.over n (k+1) F hF rows hl (λr hr j hj=>by
    by_cases e:j=k
    ·subst e;exact hz r hr
    ·exact hS r hr j (by omega))]
   rw[pK (λx hx=>by
    obtain⟨r,hr,rfl⟩:=NF.mp hx;show r (0+k)=0
    rw[Pn];exact hz r hr),Ov]
  ·obtain⟨h,hmem,hne⟩:∃r,r∈rows/\r k≠0:=Classical.byContradiction λz=>hz λr hr=>Classical.byContradiction λz2=>z ⟨r,hr,z2⟩
   obtain⟨pre,post,rfl⟩:=P5 hmem;rw[Nq,Ny]at hl;have e:=hF.move (h:=h) (post:=post) pre [] (by rw[Ol];omega);have e':=(AltF.ofD (n+1)).move (h:=sh k h) (post:=post.map (sh k)) (pre.map (sh k)) [] (by rw[No,No,Ol];omega);rw[NN,NN,Ob]at e e';rw[NI,N0,e,e',No,<- NI]
   have hR:∀r∈pre++post,Sup k (n+1) r:=λr hr=>hS r (by
    rcases NT.mp hr with z |z
    ·exact OH _ z
    ·exact N6 _ (NB _ z))
   have hh:=hS h hmem;have hlR:(pre++post).length=n:=by rw[Nq];omega
   generalize pre++post=R at hR hlR
   suffices hs:F (h::R)=D (n+1) (sh k h::R.map (sh k))*F (units k (n+1)) by rw[hs];grind
   have c:=hF.clear (h:=h) (c:=h k) (d:=λr=>r k) R [] (by rw[Ol,hlR];omega);rw[NN,NN,hlR]at c;have c':=(AltF.ofD (n+1)).clear (h:=sh k h) (c:=h k) (d:=λr=>r 0) (R.map (sh k)) [] (by rw[Ol,No,hlR];omega);rw[NN,NN,No,hlR,N7]at c';have hpn:h k^n≠0:=Pp hne;refine PM hpn ?_;rw[<- c,<- OU,<- c']
   have hR':∀r∈R.map (λr=>aX (h k) r (-(r k)) h),Sup (k+1) n r:=λr hr=>by obtain⟨x,hx,rfl⟩:=NF.mp hr;exact wD hh (hR x hx)
   have hmap:(R.map ((λr=>aX (h k) r (-(r 0)) (sh k h)) ∘ sh k))=(R.map (λr=>aX (h k) r (-(r k)) h)).map (sh k):=by
    rw[N7];refine Oa λr _=>?_
    funext j
    show h k*r (j+k) + -(r (0+k))*h (j+k)=h k*r (j+k) + -(r k)*h (j+k);rw[Pn]
   rw[hmap];have hlR':(R.map (λr=>aX (h k) r (-(r k)) h)).length=n:=by rw[No,hlR]
   generalize R.map (λr=>aX (h k) r (-(r k)) h)=R' at hR' hlR'
   rw[pL (λx hx=>by
    obtain⟨r,hr,rfl⟩:=NF.mp hx;show r (0+k)=0
    rw[Pn];exact hR' r hr k (by omega)),N7]
   have ht:R'.map (tl ∘ sh k)=R'.map (sh (k+1)):=Oa λr _=>CO k r
   rw[ht];have hsh:sh k h 0=h k:=by show h (0+k)=h k;rw[Pn]
   rw[hsh]
   have hd:h=aX (h k) (bU k) 1 (rc k 0 h):=by
    funext j
    show h j=h k*(if j=k then 1 else 0)+1*(if j=k then 0 else h j);by_cases e:j=k
    ·subst e;rw[if_pos rfl,if_pos rfl];omega
    ·rw[if_neg e,if_neg e];omega
   have e1:=hF.lin [] R' (bU k) (rc k 0 h) (h k) 1 (by rw[Ol,hlR'];omega);rw[<- hd,NN,NN,NN]at e1
   have e2:=AltF.over n (k+1) F hF (rc k 0 h::R') (by rw[Ny,hlR']) (λr hr j hj=>by
    rcases NR.mp hr with rfl |hr
    ·show(if j=k then 0 else h j)=0;by_cases e:j=k
     ·rw[if_pos e]
     ·rw[if_neg e];exact hh j (by omega)
    ·exact hR' r hr j hj)
   have e3:=AltF.uniq n (k+1) (λR=>F (bU k::R)) (hF.cons (bU k)) R' hlR' hR';rw[e1,e2,e3];show _=_*F (bU k::units (k+1) n);grind
noncomputable def aL:Ex->Rw->Rw
 | [],_=>λ_=>0
 |c::l,f=>λj=>c*f j+shr 1 (aL l f) j
def xW(f:Rw):shr 0 f=f:=by funext j;show(if j<0 then 0 else f (j-0))=f j;rw[if_neg (by omega),OA]
def iV(a b:Nat)(f:Rw):shr a (shr b f)=shr (a+b) f:=by
 funext j
 show(if j<a then 0 else if j-a<b then 0 else f (j-a-b))=if j<a+b then 0 else f (j-(a+b))
 by_cases h1:j<a
 ·rw[if_pos h1,if_pos (show j<a+b by omega)]
 ·rw[if_neg h1];by_cases h2:j-a<b
  ·rw[if_pos h2,if_pos (show j<a+b by omega)]
  ·rw[if_neg h2,if_neg (show ¬j<a+b by omega)]
   congr 1;omega
def jO(k:Nat)(a:Int)(f:Rw)(b:Int)(g:Rw):shr k (aX a f b g)=aX a (shr k f) b (shr k g):=by
 funext j
 show(if j<k then 0 else a*f (j-k)+b*g (j-k))=a*(if j<k then 0 else f (j-k))+b*(if j<k then 0 else g (j-k));by_cases h:j<k
 ·rw[if_pos h,if_pos h,if_pos h];simp
 ·rw[if_neg h,if_neg h,if_neg h]
def gM(c:Int)(l:Ex)(f:Rw):aL (c::l) f=aX c f 1 (shr 1 (aL l f)):=by
 funext j
 show c*f j+shr 1 (aL l f) j=c*f j+1*shr 1 (aL l f) j;omega
theorem Be(a:Int)(f:Rw)(b:Int)(g:Rw):∀l,aL l (aX a f b g)=aX a (aL l f) b (aL l g)
 | []=>by funext j;show 0=a*0+b*0;simp
 |c::l=>by
  rw[gM,gM,gM,Be a f b g l,jO]
  funext j
  show c*(a*f j+b*g j)+1*(a*shr 1 (aL l f) j+b*shr 1 (aL l g) j)=a*(c*f j+1*shr 1 (aL l f) j)+b*(c*g j+1*shr 1 (aL l g) j);grind
theorem uS(k:Nat)(f:Rw):∀l,aL l (shr k f)=shr k (aL l f)
 | []=>by funext j;show 0=if j<k then 0 else 0;simp
 |c::l=>by rw[gM,gM,uS k f l,jO,iV,iV,OY]
def Cq(k:Nat):bU k=shr k (bU 0):=by
 funext j
 show(if j=k then 1 else 0)=if j<k then 0 else if j-k=0 then 1 else 0
 by_cases h1:j<k
 ·rw[if_pos h1,if_neg (show ¬j=k by omega)]
 ·rw[if_neg h1];by_cases h2:j=k
  ·rw[if_pos h2,if_pos (show j-k=0 by omega)]
  ·rw[if_neg h2,if_neg (show ¬j-k=0 by omega)]
theorem Bc:∀l,aL l (bU 0)=cf l
 | []=>by funext j;show 0=cf [] j;rw[bw]
 |c::l=>by
  rw[gM,Bc l]
  funext j
  show c*(if j=0 then 1 else 0)+1*(if j<1 then 0 else cf l (j-1))=cf (c::l) j;cases j with
  |zero=>rw[if_pos rfl,if_pos (by decide),pe];omega
  |succ j=>rw[if_neg (by omega),if_neg (by omega),kz];simp
def J8(l:Ex)(k:Nat):aL l (bU k)=shr k (cf l):=by rw[Cq,uS,Bc]
theorem Bf(f:Rw):∀p q:Ex,aL (p++q) f=aX 1 (aL p f) 1 (shr p.length (aL q f))
 | [],q=>by
  rw[NN,Ol,xW]
  funext j;show _=1*0+1*_;omega
 |c::p,q=>by
  rw[Ob,gM,Bf f p q,gM,jO,iV,Ny,OY 1]
  funext j
  show c*f j+1*(1*shr 1 (aL p f) j+1*shr (p.length+1) (aL q f) j)=1*(c*f j+1*shr 1 (aL p f) j)+1*shr (p.length+1) (aL q f) j;omega
theorem sW{b:Ex}(hb:b≠[]):∀a:Ex,a≠[]->cf (ag a b).reverse=aL a.reverse (cf b.reverse)
 | [x],_=>by
  have e:ag [x] b=aE x b:=by
   apply gm
   ·rw[bK (by simp) hb,dk];simp
   ·intro k _;rw[ay,gb,aK]
  rw[e]
  funext j
  show _=x*cf b.reverse j+shr 1 (aL [] (cf b.reverse)) j;have z:shr 1 (aL [] (cf b.reverse)) j=0:=by show(if j<1 then 0 else 0)=(0:Int);simp
  rw[z,dH,dH,dk];by_cases h:j<b.length
  ·rw[if_pos h,if_pos h,aK];omega
  ·rw[if_neg h,if_neg h];simp
 |x::y::a,_=>by
  have ih:=sW hb (y::a) (by simp);have hbl:=Nz.mpr hb;have l1:=bK (a:=x::y::a) (b:=b) (by simp) hb;have l2:=bK (a:=y::a) (b:=b) (by simp) hb;rw[O6,Bf,<- ih,NS];generalize hA:y::a=A at *
  have hAl:1<=A.length:=by rw[<- hA,Ny];omega
  rw[Ny]at l1
  funext j
  show _=1*cf (ag A b).reverse j+1*shr A.length (aL [x] (cf b.reverse)) j
  have e3:shr A.length (aL [x] (cf b.reverse)) j=if j<A.length then 0 else x*cf b.reverse (j-A.length):=by show(if j<A.length then 0 else x*cf b.reverse (j-A.length)+(if j-A.length<1 then 0 else 0))=_;simp
  rw[e3,dH,dH,l1,l2];by_cases h:j<A.length+1+b.length-1
  ·rw[if_pos h,ay,dB]
   have e4:x*cf b (A.length+1+b.length-1-1-j)=if j<A.length then 0 else x*cf b.reverse (j-A.length):=by
    by_cases h1:j<A.length
    ·rw[if_pos h1,bQ (l:=b) (by omega),NQ]
    ·rw[if_neg h1,dH,if_pos (show j-A.length<b.length by omega)]
     congr 2;omega
   rw[e4]
   have e5:up (aw A b) (A.length+1+b.length-1-1-j)=if j<A.length+b.length-1 then cf (ag A b) (A.length+b.length-1-1-j)else 0:=by
    unfold up;by_cases h2:j<A.length+b.length-1
    ·rw[if_pos h2,if_neg (show ¬A.length+1+b.length-1-1-j=0 by omega),ay]
     congr 1;omega
    ·rw[if_neg h2,if_pos (show A.length+1+b.length-1-1-j=0 by omega)]
   rw[e5];omega
  ·rw[if_neg h,if_neg (show ¬j<A.length+b.length-1 by omega),if_neg (show ¬j<A.length by omega),dH,if_neg (show ¬j-A.length<b.length by omega)];simp
theorem vE{n:Nat}{A rest:List Rw}{f:Rw}:∀(l:Ex) (k:Nat),A.length+1+rest.length=n->(∀i,i<l.length->shr (k+i) f∈A\/shr (k+i) f∈rest)->D n (A++shr k (aL l f)::rest)=0
 | [],k,hl,_=>(AltF.ofD n).zero hl (λj=>by show(if j<k then 0 else 0)=(0:Int);simp)
 |c::l,k,hl,h=>by
  have e:shr k (aL (c::l) f)=aX c (shr k f) 1 (shr (k+1) (aL l f)):=by rw[gM,jO,iV]
  rw[e,f7 n A rest _ _ c 1 hl,vE l (k+1) hl (λi hi=>by have:=h (i+1) (by rw[Ny];omega);rw[show k+1+i=k+(i+1) by omega];exact this)]
  have z:D n (A++shr k f::rest)=0:=by
   rcases h 0 (by rw[Ny];omega)with h0 |h0
   ·obtain⟨p,q,rfl⟩:=P5 h0;rw[Nat.add_zero];have:=pM (n:=n) (h:=shr k f) (q:=p) (pre:=q) (post:=rest) (by rw[Nq,Ny]at hl;omega);simp only[NY,Ob]at this ⊢;exact this
   ·obtain⟨p,q,rfl⟩:=P5 h0;rw[Nat.add_zero];have:=pM (n:=n) (h:=shr k f) (q:=A) (pre:=p) (post:=q) (by rw[Nq,Ny]at hl;omega);simp only[NY,Ob]at this ⊢;exact this
  rw[z];omega
def Dy(a k:Nat)(f:Rw):sh a (shr (a+k) f)=shr k f:=by
 funext j
 show(if j+a<a+k then 0 else f (j+a-(a+k)))=if j<k then 0 else f (j-k)
 by_cases h:j<k
 ·rw[if_pos h,if_pos (show j+a<a+k by omega)]
 ·rw[if_neg h,if_neg (show ¬j+a<a+k by omega)]
  congr 1;omega
def Dq(f:Rw)(n:Nat):aP f (n+1)=f::(aP f n).map (shr 1):=by
 unfold aP;rw[List.range_succ_eq_map,N0,N7,N7,xW]
 congr 1
 refine Oa λk _=>?_
 show shr (k+1) f=shr 1 (shr k f);rw[iV,OY]
def CM(f:Rw):tl (shr 1 f)=f:=by
 funext j
 show(if j+1<1 then 0 else f (j+1-1))=f j;rw[if_neg (by omega)];rfl
theorem vB{f:Rw}{q:Nat}:∀(n:Nat) (X:List Rw),(∀x∈X,∀j,j<n->x j=0)->D (n+q) (aP f n++X)=f 0^n*D q (X.map (sh n))
 |0,X,_=>by
  have e:X.map (sh 0)=X:=by
   have:X.map (sh 0)=X.map id:=Oa λx _=>rfl
   rw[this,OR]
  show D (0+q) ([]++X)=_;rw[NN,Pn,e];simp
 |n+1,X,h=>by
  rw[Dq,Ob];have hn:n+1+q=n+q+1:=by omega
  rw[hn,pL (λx hx=>by
   rcases NT.mp hx with z |z
   ·obtain⟨y,_,rfl⟩:=NF.mp z;rfl
   ·exact h x z 0 (by omega)),NI,N7]
  have e1:(aP f n).map (tl ∘ shr 1)=aP f n:=by
   have:(aP f n).map (tl ∘ shr 1)=(aP f n).map id:=Oa λx _=>CM x
   rw[this,OR]
  rw[e1,vB n (X.map tl) (λx hx j hj=>by
   obtain⟨y,hy,rfl⟩:=NF.mp hx
   exact h y hy (j+1) (by omega)),N7]
  have e2:X.map (sh n ∘ tl)=X.map (sh (n+1)):=Oa λx _=>by
   funext j
   show x (j+n+1)=x (j+(n+1))
   congr 1
  rw[e2,NO];grind
def dL(f:Rw)(a n:Nat):List Rw:=(List.range n).map λt=>shr (a+t) f
def mW(f:Rw)(a n:Nat):aP f (a+n)=aP f a++dL f a n:=by unfold aP dL;rw[List.range_add,NI,N7];rfl
def uq(f:Rw)(a n:Nat):(dL f a n).length=n:=by unfold dL;simp
def mX(f:Rw)(a n:Nat):(dL f a n).map (sh a)=aP f n:=by unfold dL aP;rw[N7];exact Oa λt _=>Dy a t f
def xU(l:Ex)(f:Rw)(n:Nat):(aP f n).map (aL l)=aP (aL l f) n:=by unfold aP;rw[N7];exact Oa λk _=>uS k f l
theorem v7(l:Ex):∀(n k:Nat),(units k n).map (aL l)=(List.range' k n).map λi=>shr i (cf l)
 |0,_=>rfl
 |n+1,k=>by show aL l (bU k)::(units (k+1) n).map (aL l)=_;rw[v7 l n (k+1),J8,List.range'_succ,N0]
def Co(l:Ex)(n:Nat):(units 0 n).map (aL l)=aP (cf l) n:=by rw[v7];unfold aP;rw[List.range_eq_range']
theorem B6{l:Ex}{c:Int}{f:Rw}{N r:Nat}(hr:l.length=r){B:List Rw}:∀(n:Nat) (s:Nat),n+s+r+B.length=N->D N (aP (aL (c::l) f) n++dL f n (s+r)++B)=c^n*D N (aP f (n+(s+r))++B)
 |0,s,_=>by rw[mW f 0 (s+r)];show D N ([]++dL f 0 (s+r)++B)=c^0*D N ([]++dL f 0 (s+r)++B);simp
 |n+1,s,hN=>by
  have e1:aP (aL (c::l) f) (n+1)=aP (aL (c::l) f) n++[shr n (aL (c::l) f)]:=by rw[mW (aL (c::l) f) n 1];rfl
  have e2:shr n (aL (c::l) f)=aX c (shr n f) 1 (shr (n+1) (aL l f)):=by rw[gM,jO,iV]
  have ih:=B6 (l:=l) (c:=c) (f:=f) (N:=N) (r:=r) hr (B:=B) n (s+1) (by omega)
  have e3:dL f n (s+1+r)=shr n f::dL f (n+1) (s+r):=by
   unfold dL;rw[show s+1+r=(s+r)+1 by omega,List.range_succ_eq_map,N0,N7]
   congr 1
   refine Oa λt _=>?_
   show shr (n+(t+1)) f=shr (n+1+t) f;rw[show n+(t+1)=n+1+t by omega]
  have ab:=vE (n:=N) (A:=aP (aL (c::l) f) n) (rest:=dL f (n+1) (s+r)++B) (f:=f) l (n+1) (by rw[dY,Nq,uq];omega) (λi hi=>.inr (OH _ (NF.mpr ⟨i,Oz.mpr (by omega),rfl⟩)));have li:=f7 N (aP (aL (c::l) f) n) (dL f (n+1) (s+r)++B) (shr n f) (shr (n+1) (aL l f)) c 1 (by rw[dY,Nq,uq];omega);rw[ab]at li;rw[e3]at ih;rw[e1,e2];simp only[NY,Ob,NN]at ih li ⊢;rw[li,ih,NO,show n+(s+1+r)=n+1+(s+r) by omega];grind
def zy{a b:Ex}:ag a b=ag b a:=by
 by_cases ha:a=[]
 ·subst ha;unfold ag;rw[if_pos (.inl rfl),if_pos (.inr rfl)]
 ·by_cases hb:b=[]
  ·subst hb;unfold ag;rw[if_pos (.inr rfl),if_pos (.inl rfl)]
  ·apply gm
   ·rw[bK ha hb,bK hb ha];omega
   ·intro k _;rw[ay,ay,eD]
def EN{p q r:Ex}(hp:p≠[])(hq:q≠[])(hr:r≠[])(h0:ao r≠0):ca p (ag q r)=ca p q*ca p r:=by
 have hpl:=Nz.mpr hp;have hql:=Nz.mpr hq;have hrl:=Nz.mpr hr;obtain⟨m,em⟩:∃m,p.length=m+1:=⟨p.length-1,by omega⟩;obtain⟨n,en⟩:∃n,q.length=n+1:=⟨q.length-1,by omega⟩;obtain⟨t,et⟩:∃t,r.length=t+1:=⟨r.length-1,by omega⟩;have hm:p.length-1=m:=by omega
 have hn:q.length-1=n:=by omega
 have ht:r.length-1=t:=by omega
 have hqr:(ag q r).length-1=n+t:=by rw[bK hq hr];omega
 obtain⟨c,l,el⟩:∃c l,r.reverse=c::l:=by
  cases e:r.reverse with
  |nil=>exact absurd (List.reverse_eq_nil_iff.mp e) hr
  |cons c l=>exact⟨c,l,rfl⟩
 have hc:c=ao r:=by
  have e1:cf r.reverse 0=c:=by rw[el];rfl
  rw[<- e1,dH,if_pos (by omega)];rfl
 have hll:l.length=t:=by have:=congrArg List.length el;rw[NS,Ny]at this;omega
 have hc0:c≠0:=by rw[hc];exact h0
 let N:=n+m+t
 let C:=dL (cf p.reverse) n t
 let F:List Rw->Int:=λus=>D N (us.map (aL r.reverse)++C)
 have hCl:C.length=t:=uq _ _ _
 have hF:AltF (n+m) F:=⟨λpre post x y a b hl=>by
  show D N ((pre++aX a x b y::post).map (aL r.reverse)++C)=_;have:=f7 N (pre.map (aL r.reverse)) (post.map (aL r.reverse)++C) (aL r.reverse x) (aL r.reverse y) a b (by rw[No,Nq,No,hCl];show _=n+m+t;omega);rw[<- Be]at this;show _=a*D N ((pre++x::post).map (aL r.reverse)++C)+b*D N ((pre++y::post).map (aL r.reverse)++C);simp only[NI,N0,NY,Ob]at this ⊢;exact this,λpre post x hl=>by
  show D N ((pre++x::x::post).map (aL r.reverse)++C)=0;have:=jB N (pre.map (aL r.reverse)) (post.map (aL r.reverse)++C) (aL r.reverse x) (by rw[No,Nq,No,hCl];show _=n+m+t;omega);simp only[NI,N0,NY,Ob]at this ⊢
  exact this⟩
 have un:=AltF.uniq (n+m) 0 F hF (ce (cf p.reverse) (cf q.reverse) n m) (by unfold ce;rw[Nq,dY,dY]) (λx hx j hj=>by
  have hj':n+m<=j:=by omega
  rcases NT.mp hx with z |z
  ·obtain⟨k,hk,rfl⟩:=NF.mp z;have:=Oz.mp hk;show(if j<k then 0 else cf p.reverse (j-k))=0;rw[if_neg (by omega)];exact ld _ (by omega)
  ·obtain⟨k,hk,rfl⟩:=NF.mp z;have:=Oz.mp hk;show(if j<k then 0 else cf q.reverse (j-k))=0
   rw[if_neg (by omega)];exact ld _ (by omega))
 have e0:(ce (cf p.reverse) (cf q.reverse) n m).map (sh 0)=ce (cf p.reverse) (cf q.reverse) n m:=by
  have:(ce (cf p.reverse) (cf q.reverse) n m).map (sh 0)=(ce (cf p.reverse) (cf q.reverse) n m).map id:=Oa λx _=>rfl
  rw[this,OR]
 rw[e0]at un
 have eU:F (units 0 (n+m))=c^n*((-1)^(m*t)*ca p r):=by
  show D N ((units 0 (n+m)).map (aL r.reverse)++C)=_;rw[Co,mW (cf r.reverse) n m,NY];have hN:N=n+(m+t):=by show n+m+t=_;omega
  rw[hN,vB n _ (λx hx j hj=>by
   rcases NT.mp hx with z |z
   ·obtain⟨k,_,rfl⟩:=NF.mp z;show(if j<n+k then 0 else _)=(0:Int);rw[if_pos (by omega)]
   ·obtain⟨k,_,rfl⟩:=NF.mp z;show(if j<n+k then 0 else _)=(0:Int)
    rw[if_pos (by omega)]),NI,mX]
  have:(dL (cf p.reverse) n t).map (sh n)=aP (cf p.reverse) t:=mX _ _ _;rw[show C.map (sh n)=aP (cf p.reverse) t from this];have h1:cf r.reverse 0=c:=by rw[el];rfl
  rw[h1];have h2:D (m+t) (aP (cf r.reverse) m++aP (cf p.reverse) t)=ca r p:=by unfold ca ce;rw[hm,ht]
  rw[h2,sX p r,hm,ht]
 have eV:F (ce (cf p.reverse) (cf q.reverse) n m)=(-1)^(m*t)*(c^n*ca p (ag q r)):=by
  show D N ((ce (cf p.reverse) (cf q.reverse) n m).map (aL r.reverse)++C)=_;unfold ce;rw[NI,xU,xU];have hqr2:aL r.reverse (cf q.reverse)=cf (ag q r).reverse:=by rw[zy,sW hq r hr]
  rw[hqr2,el];have b1:=vD (n:=N) C (aP (aL (c::l) (cf p.reverse)) n) (aP (cf (ag q r).reverse) m) (by rw[dY,dY,hCl]);rw[dY,hCl]at b1;rw[b1];have b2:=B6 (l:=l) (c:=c) (f:=cf p.reverse) (N:=N) (r:=t) hll (B:=aP (cf (ag q r).reverse) m) n 0 (by rw[dY];show n+0+t+m=n+m+t;omega);rw[Pn]at b2;rw[b2]
  have h3:D N (aP (cf p.reverse) (n+t)++aP (cf (ag q r).reverse) m)=ca p (ag q r):=by unfold ca ce;rw[hm,hqr];show D (n+m+t) _=_;rw[show n+m+t=n+t+m by omega]
  rw[h3]
 rw[eU,eV]at un;have h4:D (n+m) (ce (cf p.reverse) (cf q.reverse) n m)=ca p q:=by unfold ca;rw[hm,hn]
 rw[h4]at un;have hs:((-1:Int)^(m*t))≠0:=Pp (by decide);have hcn:c^n≠0:=Pp hc0;refine PM (N3 hs hcn) ?_;grind
theorem BY{N:Nat}{A:List Rw}{u v:Nat->Rw}:∀(ks:List Nat) (q:List Rw),(∀k∈ks,∀q' post:List Rw,A.length+q'.length+1+post.length=N->D N (A++q'++u k::post)=0)->A.length+q.length+ks.length=N->D N (A++q++ks.map λk=>aX 1 (u k) 1 (v k))=D N (A++q++ks.map v)
 | [],_,_,_=>rfl
 |k::ks,q,h,hl=>by rw[Ny]at hl;have e1:=f7 N (A++q) (ks.map λk=>aX 1 (u k) 1 (v k)) (u k) (v k) 1 1 (by rw[Nq,No];omega);have e2:=h k (NK ..) q (ks.map λk=>aX 1 (u k) 1 (v k)) (by rw[No];omega);have ih:=BY (N:=N) (A:=A) (u:=u) (v:=v) ks (q++[v k]) (λk' hk'=>h k' (NB _ hk')) (by rw[Nq];show A.length+(q.length+1)+ks.length=N;omega);rw[e2]at e1;rw[N0,N0,e1];simp only[NY,Ob,NN]at ih ⊢;rw[ih];omega
def EQ{p h low high:Ex}(hp:2<=p.length)(hh:h≠[])(hlow:low≠[])(hll:low.length<p.length)(hlen:high.length=(ag p h).length)(hcf:∀k,cf high k=aw p h k+cf low k):ca p high*ao p^(low.length-1)=ca p low*ao p^(high.length-1):=by
 have hp':p≠[]:=λz=>by rw[z]at hp;simp at hp
 have hhl:=Nz.mpr hh;have hlp:=Nz.mpr hlow;have hpl:=bK hp' hh;obtain⟨m,em⟩:∃m,p.length=m+1:=⟨p.length-1,by omega⟩;obtain⟨l,el⟩:∃l,low.length=l+1:=⟨low.length-1,by omega⟩;obtain⟨t,et⟩:∃t,h.length=t+1:=⟨h.length-1,by omega⟩;have hm:p.length-1=m:=by omega
 have hl:low.length-1=l:=by omega
 have hd:high.length=m+t+1:=by rw[hlen,hpl];omega
 have hd1:high.length-1=m+t:=by omega
 obtain⟨s,es⟩:∃s,m+t=s+l:=⟨m+t-l,by omega⟩
 have hf:cf high.reverse=aX 1 (aL h.reverse (cf p.reverse)) 1 (shr s (cf low.reverse)):=by
  rw[<- sW hp' h hh];have hl2:(ag h p).length=m+t+1:=by rw[bK hh hp'];omega
  funext j
  show _=1*cf (ag h p).reverse j+1*(if j<s then 0 else cf low.reverse (j-s));rw[dH,dH,hd,hl2];by_cases hj:j<m+t+1
  ·rw[if_pos hj,if_pos hj,hcf,ay,eD];by_cases hs:j<s
   ·rw[if_pos hs,bQ (l:=low) (by omega)];omega
   ·rw[if_neg hs,dH,if_pos (show j-s<low.length by omega)];have:low.length-1-(j-s)=m+t+1-1-j:=by omega
    rw[this];omega
  ·rw[if_neg hj,if_neg hj,if_neg (show ¬j<s by omega),dH,if_neg (show ¬j-s<low.length by omega)];simp
 have e1:ca p high=ao p^s*ca p low:=by
  unfold ca ce;rw[hm,hd1,hl]
  have er:aP (cf high.reverse) m=(List.range m).map λk=>aX 1 (shr k (aL h.reverse (cf p.reverse))) 1 (shr (s+k) (cf low.reverse)):=by
   unfold aP;refine Oa λk _=>?_
   rw[hf,jO,iV,OY]
  rw[er]
  have b:=BY (N:=m+t+m) (A:=aP (cf p.reverse) (m+t)) (u:=λk=>shr k (aL h.reverse (cf p.reverse))) (v:=λk=>shr (s+k) (cf low.reverse)) (List.range m) [] (λk hk q' post hN=>by
   have hk':=Oz.mp hk;have:=vE (n:=m+t+m) (A:=aP (cf p.reverse) (m+t)++q') (rest:=post) (f:=cf p.reverse) h.reverse k (by rw[Nq];omega) (λi hi=>.inl (OH _ (NF.mpr ⟨k+i,Oz.mpr (by rw[NS]at hi;omega),rfl⟩)))
   exact this) (by rw[dY,OJ,Ol];omega)
  rw[Pe]at b;rw[b];have e2:(List.range m).map (λk=>shr (s+k) (cf low.reverse))=dL (cf low.reverse) s m:=rfl
  rw[e2,es,mW (cf p.reverse) s l,NY,show s+l+m=s+(l+m) by omega,vB s _ (λx hx j hj=>by
   rcases NT.mp hx with z |z
   ·obtain⟨k,_,rfl⟩:=NF.mp z;show(if j<s+k then 0 else _)=(0:Int);rw[if_pos (by omega)]
   ·obtain⟨k,_,rfl⟩:=NF.mp z;show(if j<s+k then 0 else _)=(0:Int)
    rw[if_pos (by omega)]),NI,mX,mX]
  have h1:cf p.reverse 0=ao p:=by rw[dH,if_pos (by omega)];rfl
  rw[h1]
 rw[e1,hl,hd1,es,Int.pow_add];grind
theorem vW{a b:Int}{f g:Rw}:∀n,(∀j,j<=n->f j=g j)->wj a b f n=wj a b g n
 |0,h=>h 0 (Nv _)
 |n+1,h=>by show wj a b f n*a+f (n+1)*b^(n+1)=wj a b g n*a+g (n+1)*b^(n+1);rw[vW n λj hj=>h j (by omega),h (n+1) (Nv _)]
theorem pX(a b:Int):∀l:Ex,l≠[]->wj a b (cf l.reverse) (l.length-1)=lv a b l
 | [v],_=>by show v=v*b^0+a*0;simp
 |v::x::l,_=>by
  have ih:=pX a b (x::l) (by simp);generalize hA:x::l=A at *
  have hl:1<=A.length:=by rw[<- hA,Ny];omega
  obtain⟨n,hn⟩:∃n,A.length=n+1:=⟨A.length-1,by omega⟩;rw[Ny,hn];show wj a b (cf (v::A).reverse) n*a+cf (v::A).reverse (n+1)*b^(n+1)=v*b^A.length+a*lv a b A;rw[O6];have e1:wj a b (cf (A.reverse++[v])) n=wj a b (cf A.reverse) n:=vW n λj hj=>Bw (by rw[NS];omega)
  have e2:cf (A.reverse++[v]) (n+1)=v:=by
   have:n+1=A.reverse.length:=by rw[NS,hn]
   rw[this];exact mn _ _
  have e3:A.length-1=n:=by omega
  rw[e3]at ih;rw[e1,e2,ih,hn,Om (lv a b A)];omega
def z0(n:Nat)(r:Rw):Rw:=λj=>if j=n then 0 else r j
def vT(n:Nat)(r:Rw):r=aX 1 (z0 n r) (r n) (bU n):=by
 funext j
 show r j=1*(if j=n then 0 else r j)+r n*(if j=n then 1 else 0);split
 ·next h=>rw[h];omega
 ·omega
theorem BV{N n:Nat}{pre:List Rw}:∀(ps mid:List Rw),pre.length+1+mid.length+ps.length=N->D N (pre++bU n::mid++ps)=D N (pre++bU n::mid++ps.map (z0 n))
 | [],mid,_=>by simp
 |p::ps,mid,hl=>by
  rw[Ny]at hl;have hA:(pre++bU n::mid).length+1+ps.length=N:=by rw[Nq,Ny];omega
  have e1:=f7 N (pre++bU n::mid) ps (z0 n p) (bU n) 1 (p n) hA;rw[<- vT]at e1;have e2:D N (pre++bU n::mid++bU n::ps)=0:=pM (q:=pre) (pre:=mid) (post:=ps) (by omega);rw[e1,e2,NQ,Of,NM];have ih:=BV (N:=N) (n:=n) (pre:=pre) ps (mid++[z0 n p]) (by rw[Nq];show pre.length+1+(mid.length+1)+ps.length=N;omega);have a1:pre++bU n::(mid++[z0 n p])++ps=pre++bU n::mid++z0 n p::ps:=by simp
  have a2:pre++bU n::(mid++[z0 n p])++ps.map (z0 n)=pre++bU n::mid++(p::ps).map (z0 n):=by simp
  rw[a1,a2]at ih;exact ih
def KS{N:Nat}{pre post:List Rw}{h:Rw}(hl:pre.length+1+post.length=N):(D N (pre++h::post)).natAbs=(D N (pre++post++[h])).natAbs:=by
 have e:=mB (n:=N) (h:=h) (post:=[]) post pre (by rw[Ol];omega);rw[e,Pe,N4]
 have:((-1:Int)^post.length).natAbs=1:=by rw[Int.natAbs_pow];show 1^post.length=1;exact Nat.one_pow _
 rw[this,Nat.one_mul]
def Zd(n:Nat)(rows:List Rw)(r:Rw):Prop:=r n=0/\∃r0∈rows,∀j,j<n->r j=r0 j
def pV{n:Nat}{rows:List Rw}{r:Rw}(h:r∈rows):Zd n rows (z0 n r):=⟨by show(if n=n then(0:Int)else _)=0;rw[if_pos rfl],r,h,λj hj=>by show(if j=n then(0:Int)else r j)=r j;rw[if_neg (by omega)]⟩
theorem B2{n B:Nat}{rows:List Rw}(hB:∀sub:List Rw,sub.length=n->(∀r∈sub,∃r0∈rows,∀j,j<n->r j=r0 j)->(D n sub).natAbs<=B):∀(post pre:List Rw),pre.length+post.length=n+1->(∀r∈pre,Zd n rows r)->(∀r∈post,r∈rows)->(D (n+1) (pre++post)).natAbs<=(post.map λr=>(r n).natAbs).sum*B
 | [],pre,hl,hp,_=>by rw[Pe,vA n pre (by simpa using hl) λr hr=>(hp r hr).1];simp
 |r::ps,pre,hl,hp,hr=>by
  rw[Ny]at hl;have e1:=f7 (n+1) pre ps (z0 n r) (bU n) 1 (r n) (by omega);rw[<- vT]at e1;have ih:=B2 hB ps (pre++[z0 n r]) (by rw[Nq];show pre.length+1+ps.length=n+1;omega) (λx hx=>(NT.mp hx).elim (hp x) λz=>by rw[NU.mp z];exact pV (hr r (NK ..))) λx hx=>hr x (NB _ hx)
  have a1:pre++[z0 n r]++ps=pre++z0 n r::ps:=by simp
  rw[a1]at ih
  have e2:(D (n+1) (pre++bU n::ps)).natAbs<=B:=by
   have z:=BV (N:=n+1) (n:=n) (pre:=pre) ps [] (by rw[Ol];omega);have a2:pre++bU n::[]++ps=pre++bU n::ps:=by simp
   have a3:pre++bU n::[]++ps.map (z0 n)=pre++bU n::ps.map (z0 n):=by simp
   rw[a2,a3]at z;rw[z,KS (by rw[No];omega),BZ n (pre++ps.map (z0 n)) (bU n) (by rw[Nq,No];omega) λx hx=>?_]
   ·have u1:bU n n=1:=by show(if n=n then(1:Int)else 0)=1;rw[if_pos rfl]
    rw[u1,NM];refine hB _ (by rw[Nq,No];omega) λx hx=>?_
    rcases NT.mp hx with y |y
    ·exact(hp x y).2
    ·obtain⟨q,hq,rfl⟩:=NF.mp y;exact(pV (hr q (NB _ hq))).2
   ·rcases NT.mp hx with y |y
    ·exact(hp x y).1
    ·obtain⟨q,hq,rfl⟩:=NF.mp y;exact(pV (rows:=rows) (hr q (NB _ hq))).1
  rw[e1,NM,N0,List.sum_cons,O9];have e3:(r n*D (n+1) (pre++bU n::ps)).natAbs<=(r n).natAbs*B:=by rw[N4];exact OS _ e2
  have e4:=PB (D (n+1) (pre++z0 n r::ps)) (r n*D (n+1) (pre++bU n::ps));omega
def gD(k:Nat)(c:Int)(r:Rw):rc k c r k=c:=by show(if k=k then c else _)=c;rw[if_pos rfl]
def fM{k j:Nat}(c:Int)(r:Rw)(h:j≠k):rc k c r j=r j:=by show(if j=k then c else r j)=r j;rw[if_neg h]
def yF(k:Nat)(r:Rw):rc k (r k) r=r:=by
 funext j
 by_cases h:j=k
 ·rw[h,gD]
 ·rw[fM _ _ h]
def EV{k l:Nat}(h:k≠l)(c d:Int)(r:Rw):rc k c (rc l d r)=rc l d (rc k c r):=by
 funext j
 by_cases h1:j=k
 ·subst h1;rw[gD,fM _ _ h,gD]
 ·by_cases h2:j=l
  ·subst h2;rw[fM _ _ h1,gD,gD]
  ·rw[fM _ _ h1,fM _ _ h2,fM _ _ h2,fM _ _ h1]
def KQ{n k:Nat}{rows:List Rw}(hl:rows.length=n)(hk:k+2<=n):D n (rows.map λr=>rc k (r (k+1)) (rc (k+1) (r k) r)) =-D n rows:=by
 have lin1:∀(c1 c2 d:Rw->Int),D n (rows.map λr=>rc k (c1 r+c2 r) (rc (k+1) (d r) r))=D n (rows.map λr=>rc k (c1 r) (rc (k+1) (d r) r))+D n (rows.map λr=>rc k (c2 r) (rc (k+1) (d r) r)):=λc1 c2 d=>by have e:=mC k n rows (λr=>rc (k+1) (d r) r) c1 c2 1 1 (by omega);simp only[NM]at e;exact e
 have lin2:∀(c d1 d2:Rw->Int),D n (rows.map λr=>rc k (c r) (rc (k+1) (d1 r+d2 r) r))=D n (rows.map λr=>rc k (c r) (rc (k+1) (d1 r) r))+D n (rows.map λr=>rc k (c r) (rc (k+1) (d2 r) r)):=λc d1 d2=>by
  have e:=mC (k+1) n rows (λr=>rc k (c r) r) d1 d2 1 1 (by omega);simp only[NM]at e;have cm:∀d:Rw->Int,(λr=>rc (k+1) (d r) (rc k (c r) r))=λr=>rc k (c r) (rc (k+1) (d r) r):=λd=>funext λr=>(EV (by omega) _ _ _).symm
  rw[cm d1,cm d2,cm λr=>d1 r+d2 r]at e;exact e
 have same:∀c:Rw->Int,D n (rows.map λr=>rc k (c r) (rc (k+1) (c r) r))=0:=λc=>by
  refine vC k n _ (by rw[No];exact hl) hk λx hx=>?_
  obtain⟨r,_,rfl⟩:=NF.mp hx;rw[fM _ _ (by omega),gD,gD]
 have s:=same λr=>r k+r (k+1)
 rw[lin1,lin2,lin2,same,same]at s;have own:(λr:Rw=>rc k (r k) (rc (k+1) (r (k+1)) r))=id:=funext λr=>by rw[yF,yF];rfl
 rw[own,OR]at s;omega
theorem BW:∀(d:Nat) {n k:Nat} {rows:List Rw},rows.length=n->k+d+2<=n->(∀r∈rows,r (k+d+1)=r k)->D n rows=0
 |0,n,k,rows,hl,hk,h=>vC k n rows hl hk h
 |d+1,n,k,rows,hl,hk,h=>by
  have e:=KQ (n:=n) (k:=k+d+1) hl (by omega)
  have z:=BW d (n:=n) (k:=k) (rows:=rows.map λr=>rc (k+d+1) (r (k+d+1+1)) (rc (k+d+1+1) (r (k+d+1)) r)) (by rw[No];exact hl) (by omega) λx hx=>by obtain⟨r,hr,rfl⟩:=NF.mp hx;have hr':r (k+d+1+1)=r k:=h r hr;rw[gD,fM _ _ (by omega),fM _ _ (by omega)];exact hr'
  omega
def KO{n k:Nat}(rows:List Rw)(hl:rows.length=n+1)(hk:k+1<=n):D (n+1) (rows.map λr=>rc n (r k) (id r))=0:=by
 obtain⟨d,rfl⟩:∃d,n=k+d+1:=⟨n-k-1,by omega⟩;refine BW d (k:=k) (by rw[No];exact hl) (by omega) λx hx=>?_
 obtain⟨r,_,rfl⟩:=NF.mp hx;rw[gD,fM _ _ (by omega)];rfl
theorem B7{n:Nat}(rows:List Rw)(hl:rows.length=n+1)(w:Nat->Int):∀k,k<=n->D (n+1) (rows.map λr=>rc n (w n*r n+((List.range k).map λj=>w j*r j).sum) r)=w n*D (n+1) rows
 |0,_=>by
  have e:=mC n (n+1) rows id (λr=>r n) (λ_=>0) (w n) 0 (by omega)
  have a:∀r:Rw,rc n (r n) r=r:=λr=>by
   funext j
   show(if j=n then r n else r j)=r j;split
   ·next h=>rw[h]
   ·rfl
  have b:(λr:Rw=>rc n (w n*r n+((List.range 0).map λj=>w j*r j).sum) r)=λr=>rc n (w n*r n+0*0) (id r):=by funext r;simp
  rw[b,e,Ov,Of]
  have c:(rows.map λr=>rc n (r n) (id r))=rows:=by
   have:(λr:Rw=>rc n (r n) (id r))=id:=funext λr=>a r
   rw[this,OR]
  rw[c]
 |k+1,hk=>by
  have ih:=B7 rows hl w k (by omega);have e:=mC n (n+1) rows id (λr=>w n*r n+((List.range k).map λj=>w j*r j).sum) (λr=>r k) 1 (w k) (by omega)
  have b:(λr:Rw=>rc n (w n*r n+((List.range (k+1)).map λj=>w j*r j).sum) r)=λr=>rc n (1*(w n*r n+((List.range k).map λj=>w j*r j).sum)+w k*r k) (id r):=by
   funext r
   rw[P6,NI,PC];show rc n (_+(_+(w k*r k+0))) r=rc n _ r
   congr 1
   omega
  rw[b,e,NM];have z:D (n+1) (rows.map λr=>rc n (r k) (id r))=0:=KO rows hl hk;rw[z,NQ,Of];exact ih
theorem wE(a:Int)(f:Nat->Int):∀l:List Nat,(l.map λj=>a*f j).sum=a*(l.map f).sum
 | []=>by simp
 |x::l=>by rw[N0,List.sum_cons,N0,List.sum_cons,wE a f l,Int.mul_add]
theorem vU(a b:Int)(r:Rw):∀n,b^n*r n+((List.range n).map λj=>a^(n-j)*b^j*r j).sum=wj a b r n
 |0=>by rw[On,NM];show r 0+0=r 0;omega
 |n+1=>by
  have ih:=vU a b r n;show _=wj a b r n*a+r (n+1)*b^(n+1);rw[<- ih,P6,NI,PC]
  have e1:((List.range n).map λj=>a^(n+1-j)*b^j*r j)=(List.range n).map λj=>a*(a^(n-j)*b^j*r j):=Oa λj hj=>by have:j<n:=Oz.mp hj;rw[show n+1-j=n-j+1 by omega,NO];grind
  rw[e1,wE];show _+(_+(a^(n+1-n)*b^n*r n+0))=_;rw[show n+1-n=1 by omega,Int.pow_one];grind
theorem vX{a b:Int}{h:Rw}{t:Nat}(hz:∀j,t<j->h j=0):∀e,wj a b h (t+e)=wj a b h t*a^e
 |0=>by rw[On,Oc];rfl
 |e+1=>by show wj a b h (t+e)*a+h (t+e+1)*b^(t+e+1)=_;rw[vX hz e,hz _ (by omega),Ov,Of,NO,OU]
def vV{a b:Int}{f:Rw}{m n k N:Nat}(hf:∀j,m<j->f j=0)(hk:k<n)(hN:N+1=n+m):wj a b (shr k f) N=b^k*wj a b f m*a^(n-1-k):=by
 have e:N=(k+m)+(n-1-k):=by omega
 rw[e,vX (λj hj=>?_),(Cg a b f k).2 m];show(if j<k then 0 else f (j-k))=0;split
 ·rfl
 ·exact hf _ (by omega)
def EL{f g:Rw}{n m N B:Nat}(hN:N+1=n+m)(a b:Int)(hf:∀j,m<j->f j=0)(hg:∀j,n<j->g j=0)
 (hB:∀sub:List Rw,sub.length=N->(∀r∈sub,∃r0∈ce f g n m,∀j,j<N->r j=r0 j)->(D N sub).natAbs<=B) :
 (b^N).natAbs*(D (N+1) (ce f g n m)).natAbs<=(((List.range n).map λk=>(b^k*wj a b f m*a^(n-1-k)).natAbs).sum+((List.range m).map λk=>(b^k*wj a b g n*a^(m-1-k)).natAbs).sum)*B:=by
 have hl:(ce f g n m).length=N+1:=by unfold ce;rw[Nq,dY,dY];omega
 have e:=B7 (ce f g n m) hl (λj=>a^(N-j)*b^j) N (Nv _)
 have e0:(λr:Rw=>rc N (a^(N-N)*b^N*r N+((List.range N).map λj=>a^(N-j)*b^j*r j).sum) r)=λr=>rc N (wj a b r N) r:=funext λr=>by rw[Oy,On,NM,vU]
 rw[e0,Oy,On,NM]at e
 have q:=B2 (n:=N) (B:=B) (rows:=(ce f g n m).map λr=>rc N (wj a b r N) r) (λsub h1 h2=>hB sub h1 λr hr=>by
  obtain⟨r0,hr0,hj⟩:=h2 r hr;obtain⟨r1,hr1,rfl⟩:=NF.mp hr0
  exact⟨r1,hr1,λj hlt=>by rw[hj j hlt,fM _ _ (by omega)]⟩) ((ce f g n m).map λr=>rc N (wj a b r N) r) [] (by rw[No,hl];simp) (λr h=>nomatch h) λr h=>h
 rw[NN,e,N4]at q;refine NP q (O2 _ (Ox ?_));rw[N7];have c:((λr:Rw=>(r N).natAbs) ∘ λr=>rc N (wj a b r N) r)=λr=>(wj a b r N).natAbs:=funext λr=>by show(rc N (wj a b r N) r N).natAbs=_;rw[gD]
 rw[c];unfold ce aP;rw[NI,PC,N7,N7]
 congr 1
 ·congr 1
  exact Oa λk hk=>by show(wj a b (shr k f) N).natAbs=_;rw[vV hf (Oz.mp hk) hN]
 ·congr 1
  exact Oa λk hk=>by show(wj a b (shr k g) N).natAbs=_;rw[vV hg (Oz.mp hk) (by omega)]
def HX{t n:Int}(hn:0<n){l:Ex}(hl:l≠[]):(lv t n l:Rat)=(n:Rat)^(l.length-1)*pv l ((t:Rat)/(n:Rat)):=by
 have h1:=oJ (t:=t) hn l;rw[oK,NC]at h1;obtain⟨k,ek⟩:∃k,l.length=k+1:=⟨l.length-1,by have:=Nz.mpr hl;omega⟩;have hN:(n:Rat)≠0:=by have:(0:Rat)<(n:Rat):=NJ.mpr hn;grind
 rw[ek,Og]at h1;rw[ek,PV];generalize (lv t n l:Rat)=L at *
 generalize (n:Rat)^k=P at *
 generalize pv l ((t:Rat)/(n:Rat))=Q at *
 generalize (n:Rat)=y at *
 have h2:y*(L-P*Q)=0:=by grind
 rcases Oo.mp h2 with z |z
 ·exact absurd z hN
 ·grind
theorem yG(x y:Rat):∀n:Nat,(x*y)^n=x^n*y^n
 |0=>by rw[OD,OD,OD,Rat.mul_one]
 |n+1=>by rw[Og,Og,Og,yG x y n];grind
theorem ll(x:Rat)(m:Nat):∀n:Nat,x^(m+n)=x^m*x^n
 |0=>by rw[OD,Rat.mul_one];rfl
 |n+1=>by rw[<- Nat.add_assoc,Og,Og,ll x m n,Rat.mul_assoc]
def KG{z:Int}{c:Rat}(h:Bd c (z:Rat)):((z.natAbs:Nat):Rat)<=c:=by
 obtain⟨h1,h2⟩:=h;rcases Int.natAbs_eq z with e |e
 ·have:((z.natAbs:Nat):Rat)=(z:Rat):=by have q:((z.natAbs:Nat):Int)=z:=e.symm;rw[<- Pb,q]
  grind
 ·have:((z.natAbs:Nat):Rat) = -(z:Rat):=by
   have q:((z.natAbs:Nat):Int) = -z:=by omega
   rw[<- Pb,q,Ow]
  grind
theorem qg{f:Nat->Nat}{c:Rat}:∀l:List Nat,(∀k∈l,(f k:Rat)<=c)->(((l.map f).sum:Nat):Rat)<=(l.length:Rat)*c
 | [],_=>by simp
 |k::l,h=>by
  have ih:=qg l λx hx=>h x (NB _ hx)
  have h1:=h k (NK ..);rw[N0,List.sum_cons,Ny,Pm,Pm];have e:((1:Nat):Rat)=1:=rfl;rw[e];grind
theorem Bd.pow{M x:Rat}(hM:1<=M)(hx:Bd M x):∀{k n:Nat},k<=n->Bd (M^n) (x^k)
 |0,n,_=>by
  rw[OD]
  have:(1:Rat)<=M^n:=by
   induction n with
   |zero=>rw[OD];exact Nt
   |succ n ih =>have ih:=ih (Nw _);rw[Og];have:=NE hM (show(0:Rat)<=M^n by grind);grind
  constructor<;>grind
 |k+1,0,h=>by omega
 |k+1,n+1,h=>by rw[Og,Og];exact(Bd.pow hM hx (Nat.le_of_succ_le_succ h)).mul hx
def Df{p q:Ex}{n m bt:Nat}(bp:∀j,(cf p j).natAbs<=2^bt)(bq:∀j,(cf q j).natAbs<=2^bt):∀r∈ce (cf p.reverse) (cf q.reverse) n m,∀j,(r j).natAbs<=2^bt:=by
 have rv:∀{l:Ex},(∀j,(cf l j).natAbs<=2^bt)->∀j,(cf l.reverse j).natAbs<=2^bt:=λ{l} h j=>by
  rw[dH];split
  ·exact h _
  ·show 0<=_;exact Nw _
 have sd:∀{f:Rw} {n:Nat},(∀j,(f j).natAbs<=2^bt)->∀r∈aP f n,∀j,(r j).natAbs<=2^bt:=λ{f n} h r hr j=>by
  unfold aP at hr
  obtain⟨k,_,rfl⟩:=NF.mp hr;show(if j<k then(0:Int)else f (j-k)).natAbs<=_;split
  ·show 0<=_;exact Nw _
  ·exact h _
 intro r hr;rcases NT.mp hr with h |h
 ·exact sd (rv bp) r h
 ·exact sd (rv bq) r h
def fc:Nat->Nat
 |0=>1
 |n+1=>(n+1)*fc n
theorem B3{b:Nat}:∀(n:Nat) (rows:List Rw),rows.length=n->(∀r∈rows,∀j,(r j).natAbs<=2^b)->(D n rows).natAbs<=fc n*2^(b*n)
 |0,_,_,_=>by show(1:Int).natAbs<=1*2^0;decide
 |n+1,rows,hl,h=>by
  have:=Ad (f:=λm=>D n (m.map tl)) (B:=2^b) (F:=fc n*2^(b*n)) (S:=λr=>∀j,(r j).natAbs<=2^b) (λr hr=>hr 0) rows [] (λr hr=>nomatch hr) h (λl hl2 hs=>B3 n (l.map tl) (by rw[No];rw[Ol]at hl2;omega) (λr hr j=>by
   obtain⟨x,hx,rfl⟩:=NF.mp hr
   exact hs x hx (j+1)))
  refine NP this ?_;rw[hl];have e:b*(n+1)=b+b*n:=by rw[Nat.mul_add];omega
  show _<=(n+1)*fc n*2^(b*(n+1));rw[e,Nat.pow_add 2 b];exact Ox (by generalize 2^b=u;generalize 2^(b*n)=v;rw[Nat.mul_left_comm u,Nat.mul_assoc])
def HK{N bt:Nat}{rows sub:List Rw}(hr:∀r∈rows,∀j,(r j).natAbs<=2^bt)(hl:sub.length=N)(hs:∀r∈sub,∃r0∈rows,∀j,j<N->r j=r0 j):(D N sub).natAbs<=fc N*2^(bt*N):=by
 have e:=B4 N sub id (λr j=>if j<N then r j else 0) λr _ j hj=>by show r j=if j<N then r j else 0;rw[if_pos hj]
 rw[OR]at e;rw[e];refine B3 N _ (by rw[No];exact hl) λr hr' j=>?_
 obtain⟨r1,h1,rfl⟩:=NF.mp hr';obtain⟨r0,h0,hj⟩:=hs r1 h1;show(if j<N then r1 j else 0).natAbs<=_;split
 ·next z=>rw[hj j z];exact hr r0 h0 j
 ·show 0<=_;exact Nw _
def wn{a b:Int}(hb:0<b){p:Ex}(hp:p≠[]){n N k:Nat}{M ε:Rat}(hM:1<=M)(hx:Bd M ((a:Rat)/(b:Rat)))(hε:Bd ε (pv p ((a:Rat)/(b:Rat))))(hk:k<n)(hN:N+1=n+(p.length-1)) :
 (((b^k*lv a b p*a^(n-1-k)).natAbs:Nat):Rat)<=(b:Rat)^N*(M^(n-1)*ε):=by
 refine KG ?_;have B0:(0:Rat)<(b:Rat):=NJ.mpr hb;rw[NC,NC,PZ,PZ,HX hb hp];have ea:(a:Rat)=(a:Rat)/(b:Rat)*(b:Rat):=(Nx (by grind)).symm;have bd:=(Bd.pow hM hx (show n-1-k<=n-1 by omega)).mul hε;generalize pv p ((a:Rat)/(b:Rat))=P at *
 rw[show(a:Rat)^(n-1-k)=((a:Rat)/(b:Rat))^(n-1-k)*(b:Rat)^(n-1-k) by rw[<- yG,<- ea]];generalize (a:Rat)/(b:Rat)=x at *
 have eN:N=k+(p.length-1)+(n-1-k):=by omega
 have e:(b:Rat)^k*((b:Rat)^(p.length-1)*P)*(x^(n-1-k)*(b:Rat)^(n-1-k))=(b:Rat)^N*(x^(n-1-k)*P):=by rw[eN,ll,ll];generalize (b:Rat)^k=u;generalize (b:Rat)^(p.length-1)=v;generalize (b:Rat)^(n-1-k)=w;generalize x^(n-1-k)=y;grind
 rw[e];have bp:(0:Rat)<=(b:Rat)^N:=Np (OC B0);generalize (b:Rat)^N=W at *
 generalize x^(n-1-k)*P=z at *
 generalize M^(n-1)*ε=c at *
 obtain⟨b1,b2⟩:=bd;have m1:=NE b1 bp;have m2:=NE b2 bp;constructor
 ·have:W * -c = -(W*c):=by grind
  grind
 ·exact m2
def Ks{p q:Ex}{N bt:Nat}(hp:p≠[])(hq:q≠[])(hN:N+1=(q.length-1)+(p.length-1))(bp:∀j,(cf p j).natAbs<=2^bt)(bq:∀j,(cf q j).natAbs<=2^bt)(hR:ca p q≠0){x M ε δ:Rat}(hM:1<=M)(hx:Bd M x)(hε:Bd ε (pv p x))(hδ:Bd δ (pv q x)) :
 1<=(((q.length-1:Nat):Rat)*(M^(q.length-2)*ε)+((p.length-1:Nat):Rat)*(M^(p.length-2)*δ))*(fc N*2^(bt*N):Nat):=by
 have hb:(0:Int)<(x.den:Int):=by have:=x.den_pos;omega
 have ex:(x.num:Rat)/((x.den:Int):Rat)=x:=by rw[<- Rat.divInt_eq_div];exact Rat.num_divInt_den x
 generalize (x.den:Int)=b at hb ex
 generalize x.num=a at ex
 have v:=EL (f:=cf p.reverse) (g:=cf q.reverse) (n:=q.length-1) (m:=p.length-1) (N:=N) (B:=fc N*2^(bt*N)) hN a b (λj hj=>ld j hj) (λj hj=>ld j hj) λsub h1 h2=>HK (Df bp bq) h1 h2
 rw[pX a b p hp,pX a b q hq]at v
 have hres:1<=(D (N+1) (ce (cf p.reverse) (cf q.reverse) (q.length-1) (p.length-1))).natAbs:=by
  have:ca p q=D (N+1) (ce (cf p.reverse) (cf q.reverse) (q.length-1) (p.length-1)):=by unfold ca;rw[hN]
  rw[<- this];exact OK.mpr hR
 have B0:(0:Rat)<(b:Rat):=NJ.mpr hb;rw[<- ex]at hx hε hδ;have s1:=qg (f:=λk=>(b^k*lv a b p*a^(q.length-1-1-k)).natAbs) (List.range (q.length-1)) λk hk=>wn (n:=q.length-1) (N:=N) hb hp hM hx hε (Oz.mp hk) hN
 have s2:=qg (f:=λk=>(b^k*lv a b q*a^(p.length-1-1-k)).natAbs) (List.range (p.length-1)) λk hk=>wn (n:=p.length-1) (N:=N) hb hq hM hx hδ (Oz.mp hk) (by omega)
 rw[OJ]at s1 s2;have v1:(b^N).natAbs*1<=_:=NP (OS _ hres) v;rw[Nat.mul_one]at v1;have v2:=Pl.mpr v1;rw[Rat.natCast_mul,Pm]at v2
 have eb:(((b^N).natAbs:Nat):Rat)=(b:Rat)^N:=by
  have h0:0<b^N:=OG hb;have q:(((b^N).natAbs:Nat):Int)=b^N:=by omega
  rw[<- Pb,q,PZ]
 rw[eb]at v2;have W0:(0:Rat)<(b:Rat)^N:=OC B0;have eq1:q.length-1-1=q.length-2:=by omega
 have eq2:p.length-1-1=p.length-2:=by omega
 rw[eq1]at s1 v2;rw[eq2]at s2 v2;have C0:(0:Rat)<=((fc N*2^(bt*N):Nat):Rat):=Rat.natCast_nonneg;generalize ((fc N*2^(bt*N):Nat):Rat)=Cc at *
 generalize (b:Rat)^N=W at *
 generalize (((List.range (q.length-1)).map λk=>(b^k*lv a b p*a^(q.length-2-k)).natAbs).sum:Nat)=S1 at *
 generalize (((List.range (p.length-1)).map λk=>(b^k*lv a b q*a^(p.length-2-k)).natAbs).sum:Nat)=S2 at *
 generalize ((q.length-1:Nat):Rat)=n1 at *
 generalize ((p.length-1:Nat):Rat)=n2 at *
 generalize M^(q.length-2)*ε=u at *
 generalize M^(p.length-2)*δ=w at *
 have h3:(S1:Rat)+(S2:Rat)<=W*(n1*u+n2*w):=by
  have e1:n1*(W*u)=W*(n1*u):=by grind
  have e2:n2*(W*w)=W*(n2*w):=by grind
  grind
 have h4:=Oh h3 C0;refine Oi.mp λz=>?_
 have h5:=PN z W0;have e3:W*(n1*u+n2*w)*Cc=W*((n1*u+n2*w)*Cc):=Rat.mul_assoc _ _ _;grind
theorem yy:∀(n:Nat) (p q:Ex),q.length<=n->q.length<p.length->Tr p->Tr q->q≠[]->Cop2 p q->ca p q≠0
 |0,p,q,h,_,_,_,hq,_=>absurd (OQ.mp (O1.mp h)) hq
 |n+1,p,q,hn,hlt,hp,htq,hq,hc=>by
  have ql:=Nz.mpr hq;have hpn:p≠[]:=λz=>by rw[z]at hlt;exact absurd hlt (Pq _)
  by_cases h1:q.length=1
  ·obtain⟨c,rfl⟩:∃c,q=[c]:=by
    match q,h1 with
    | [c],_=>exact⟨c,rfl⟩
   have hc0:c≠0:=htq 0 rfl;have e:=sX p [c];rw[EO]at e;intro z;rw[z,NQ]at e;exact absurd e (Pp hc0)
  ·have h2:2<=q.length:=by omega
   have lR:=gs (a:=p) hq;have hQ:(bZ p q).length+q.length=p.length+1:=by rw[o5 hq];unfold aW;omega
   have hQn:bZ p q≠[]:=λz=>by rw[z,Ol]at hQ;omega
   have hRn:aO p q≠[]:=λz=>by have:=hc q hq htq ⟨bM p q,bZ p q,iN hq htq,λk=>by rw[gt hq k,z];show _+0=_;omega⟩ (Dv.refl q);omega
   have tR:Tr (aO p q):=fW _ _;have cR:Cop2 q (aO p q):=λd dn dt d1 d2=>hc d dn dt (Dv.up (iN (a:=p) hq htq) (λk=>gt hq k) d1 d2) d1
   have ih:=yy n q (aO p q) (by omega) lR htq tR hRn cR;have lq:ao q≠0:=ut htq hq;have lm:(ag [bM p q] p).length=p.length:=by rw[bK (by simp) hpn];show 1+p.length-1=_;omega
   have ad:=EQ (p:=q) (h:=bZ p q) (low:=aO p q) (high:=ag [bM p q] p) h2 hQn hRn lR (by rw[lm,bK hq hQn];omega) λk=>by
    have e:=gt (a:=p) hq k;have e2:cf (ag [bM p q] p) k=bM p q*cf p k:=by rw[ay,gb]
    rw[e2,e,eD]
   have nz:ca q (ag [bM p q] p)≠0:=λz=>by rw[z,Ov]at ad;exact absurd ad.symm (N3 ih (Pp lq))
   rw[EN hq (by simp) hpn (ut hp hpn)]at nz;have nz2:ca q p≠0:=λz=>nz (by rw[z,NQ])
   intro z;have e:=sX p q;rw[z,NQ]at e;exact nz2 e
noncomputable def iv(t:Int):Ex->Int
 | []=>0
 |c::l=>c+t*iv t l
theorem kj(t:Int):∀l:Ex,(iv t l:Rat)=pv l (t:Rat)
 | []=>rfl
 |c::l=>by show((c+t*iv t l:Int):Rat)=(c:Rat)+(t:Rat)*pv l (t:Rat);rw[Pk,NC,kj t l]
def Iw(t:Int){a b c:Ex}(h:∀n,cf c n=aw a b n):iv t c=iv t a*iv t b :=
 OV.mp (by rw[NC,kj,kj,kj];exact eh _ a b c h)
def lX{f g h:Int}{B:Int}(e:f=g*h)(hz:h=0->g=0)(hf : -B<=f/\f<=B)(hB:0<=B) : -B<=g/\g<=B:=by
 by_cases h0:h=0
 ·rw[hz h0];omega
 ·have h1:f.natAbs=g.natAbs*h.natAbs:=by rw[e,N4]
  have h2:1<=h.natAbs:=OK.mpr h0;have:=OS g.natAbs h2;omega
def yP(a b:Ex)(x:Rat):pv (slopeL (ag a b)) x=pv (slopeL a) x*pv b x+pv a x*pv (slopeL b) x:=by
 have:=i9 (a:=ag (slopeL a) b) (b:=ag a (slopeL b)) (c:=slopeL (ag a b)) (u:=1) (v:=1) x λn=>by rw[iU,ay,ay];omega
 rw[this,eh x (slopeL a) b _ (ay _ _),eh x a (slopeL b) _ (ay _ _)];show((1:Int):Rat)*_+((1:Int):Rat)*_=_;grind
def tY{f g:Rat->Rat}(hf:Nice f)(hg:Nice g):Nice λx=>f x-g x:=by
 have:=hf.add ((ga (-1)).mul hg);have e:(λx=>f x+(-1)*g x)=λx=>f x-g x:=funext λx=>by grind
 rwa [e]at this
def Hl{f:Rat->Rat}(hf:Nice f){n:Rat}(h:∀x,x≠n->f x=0):f n=0:=by
 obtain⟨w,w0,hw⟩:=ig n;obtain⟨M,m0,_,m2⟩:=hf (w+1) (by grind)
 have key:∀e:Rat,0<e->e<=1->Bd (M*e) (f n):=λe e0 e1=>by
  have:=m2 n (n+e) ⟨by have:=hw.1;grind,by have:=hw.2;grind⟩ ⟨by have:=hw.1;grind,by have:=hw.2;grind⟩ (by grind);rw[h (n+e) (by grind)]at this;obtain⟨p,q⟩:=this;have ee:n+e-n=e:=by grind
  rw[ee]at p q;constructor<;>grind
 by_cases z:f n=0
 ·exact z
 ·exfalso
  obtain⟨v,v0,hv⟩:∃v:Rat,0<v/\¬Bd v (f n):=by
   rcases(show f n<0\/0<f n by grind)with q |q
   ·exact⟨-(f n)/2,by grind,λb=>by have:=b.1;grind⟩
   ·exact⟨f n/2,by grind,λb=>by have:=b.2;grind⟩
  have mp:0<M+1:=by grind
  have mvp:0<M+1+v:=by grind
  have ep:0<v/(M+1+v):=cw v0 mvp;have em:v/(M+1+v)*(M+1+v)=v:=Nx (by grind);refine hv ((key (v/(M+1+v)) ep ?_).mono ?_)
  ·refine Oi.mp λlt=>?_
   have:=OW lt mvp;rw[em]at this;grind
  ·have p1:0<=v/(M+1+v)*(1+v):=ND (by grind) (by grind);grind
def yu{H:Ex}{n:Int}(ht:Tr H)(hne:H≠[])(h:pv H (n:Rat)=0):∃(c:Int) (H1:Ex),c≠0/\Tr H1/\H1≠[]/\H1.length<H.length/\∀k,c*cf H k=aw H1 [-n,1] k:=by
 have sne:[-n,(1:Int)]≠[]:=by simp
 have str:Tr [-n,(1:Int)]:=λk hk=>by
  have:k=1:=by simp at hk;omega
  subst this;show(1:Int)≠0;decide
 have dne:=iN (a:=H) sne str
 have hR:aO H [-n,1]=[]:=by
  have hl:(aO H [-n,1]).length<2:=gs sne;by_cases z:aO H [-n,1]=[]
  ·exact z
  ·exfalso;obtain⟨c,ec⟩:=lW (by omega) z;have tr:=fW H [-n,1];rw[ec]at tr;have c0:c≠0:=tr 0 rfl
   have e:=i9 (a:=ag (bZ H [-n,1]) [-n,1]) (b:=aO H [-n,1]) (c:=aE (bM H [-n,1]) H) (u:=1) (v:=1) (n:Rat) λk=>by rw[aK,gt sne,ay];omega
   rw[db (a:=H) (u:=bM H [-n,1]) _ (aK _ _),h,eh _ _ _ _ (ay _ _),ec,j6]at e
   have s0:pv [-n,1] (n:Rat)=0:=by show((-n:Int):Rat)+(n:Rat)*(((1:Int):Rat)+(n:Rat)*0)=0;rw[Ow];show -(n:Rat)+(n:Rat)*(1+(n:Rat)*0)=0;grind
   rw[s0]at e
   have:(c:Rat)=0:=by have e1:((1:Int):Rat)=1:=rfl;rw[e1]at e;grind
   exact dC c0 this
 have h2:2<=H.length:=by
  have:=Nz.mpr hne;by_cases q:2<=H.length
  ·exact q
  ·exfalso;obtain⟨c,rfl⟩:=lW (by omega) hne;rw[j6]at h;exact dC (ht 0 rfl) h
 have hq:(bZ H [-n,1]).length=H.length+1-2:=o5 sne;refine⟨bM H [-n,1],bZ H [-n,1],dne,uQ sne ht str,λz=>?_,by omega,λk=>?_⟩
 ·rw[z]at hq;simp at hq;omega
 ·rw[gt sne,hR,bw,Of]
def yt{H H1:Ex}{c n:Int}(h:∀k,c*cf H k=aw H1 [-n,1] k)(x:Rat):(c:Rat)*pv H x=(x-(n:Rat))*pv H1 x/\(c:Rat)*pv (slopeL H) x=pv H1 x+(x-(n:Rat))*pv (slopeL H1) x:=by
 have s0:pv [-n,1] x=x-(n:Rat):=by show((-n:Int):Rat)+x*(((1:Int):Rat)+x*0)=_;rw[Ow];show -(n:Rat)+x*(1+x*0)=_;grind
 have s1:pv (slopeL [-n,1]) x=1:=by show((((0:Nat):Int)+1)*1:Int)+x*0=(1:Rat);grind
 have e1:=eh x H1 [-n,1] (aE c H) λk=>by rw[aK,h]
 rw[db (a:=H) (u:=c) _ (aK _ _),s0]at e1;have e2:=yP H1 [-n,1] x;rw[s0,s1]at e2
 have e3:=db (a:=slopeL H) (c:=slopeL (ag H1 [-n,1])) (u:=c) x λk=>by rw[cu,cu,ay,<- h];grind
 rw[e3]at e2;exact⟨by rw[e1];grind,by rw[e2];grind⟩
theorem xX{n:Int}{g R:Rat->Rat}(ng:Nice g)(nR:Nice R)(hg:g (n:Rat)≠0):∀(m:Nat) (H:Ex),H.length<=m->Tr H->H≠[]->∀k:Rat,0<k->(∀x,g x*(k*pv H x+(x-(n:Rat))*pv (slopeL H) x)=R x*((x-(n:Rat))*pv H x))->False
 |0,H,hl,_,hne,_,_,_=>hne (Os (O1.mp hl))
 |m+1,H,hl,ht,hne,k,hk,h=>by
  have h0:=h (n:Rat);have e0:(n:Rat)-(n:Rat)=0:=by grind
  rw[e0]at h0
  have hz:pv H (n:Rat)=0:=by
   have p:g (n:Rat)*(k*pv H (n:Rat))=0:=by grind
   rcases Oo.mp p with q |q
   ·exact absurd q hg
   ·rcases Oo.mp q with q |q
    ·exact absurd q (by grind)
    ·exact q
  obtain⟨c,H1,hc,ht1,hne1,hl1,e⟩:=yu ht hne hz;have hcr:=dC hc;have nd:Nice λx=>x-(n:Rat):=tY nice_id (ga _)
  have nf:Nice λx=>g x*((k+1)*pv H1 x+(x-(n:Rat))*pv (slopeL H1) x)-R x*((x-(n:Rat))*pv H1 x) :=
   tY (ng.mul (((ga _).mul (cY _)).add (nd.mul (cY _)))) (nR.mul (nd.mul (cY _)))
  have beside:∀x,x≠(n:Rat)->g x*((k+1)*pv H1 x+(x-(n:Rat))*pv (slopeL H1) x)-R x*((x-(n:Rat))*pv H1 x)=0:=λx hx=>by
   obtain⟨a1,a2⟩:=yt e x;have hh:=h x
   have p:(x-(n:Rat))*(g x*((k+1)*pv H1 x+(x-(n:Rat))*pv (slopeL H1) x)-R x*((x-(n:Rat))*pv H1 x))=0:=by
    have b1:(c:Rat)*(g x*(k*pv H x+(x-(n:Rat))*pv (slopeL H) x))=g x*(k*((c:Rat)*pv H x)+(x-(n:Rat))*((c:Rat)*pv (slopeL H) x)):=by grind
    have b2:(c:Rat)*(R x*((x-(n:Rat))*pv H x))=R x*((x-(n:Rat))*((c:Rat)*pv H x)):=by grind
    rw[hh,b2,a1,a2]at b1;generalize x-(n:Rat)=d at *
    grind
   rcases Oo.mp p with q |q
   ·exact absurd (show x=(n:Rat) by grind) hx
   ·exact q
  have at0:=Hl nf beside;refine xX ng nR hg m H1 (by omega) ht1 hne1 (k+1) (by grind) λx=>?_
  by_cases hx:x=(n:Rat)
  ·subst hx;have:∀u v:Rat,u-v=0->u=v:=λu v q=>by grind
   exact this _ _ at0
  ·have:∀u v:Rat,u-v=0->u=v:=λu v q=>by grind
   exact this _ _ (beside x hx)
def Dx{G H Q:Ex}{c n:Int}(ht:Tr H)(hne:H≠[])(hc:c≠0)(h:∀k,c*cf (slopeL (ag G H)) k=aw Q H k)(hz:pv H (n:Rat)=0):pv G (n:Rat)=0:=by
 by_cases hG:pv G (n:Rat)=0
 ·exact hG
 ·exfalso;obtain⟨d,H1,hd,ht1,hne1,hl1,e⟩:=yu ht hne hz;have hcr:=dC hc;refine xX (n:=n) (g:=λx=>(c:Rat)*pv G x) (R:=λx=>pv Q x-(c:Rat)*pv (slopeL G) x) ((ga _).mul (cY _)) (tY (cY _) ((ga _).mul (cY _))) ?_ _ H1 (Nv _) ht1 hne1 1 (by decide) λx=>?_
  ·intro z;rcases Oo.mp z with q |q
   ·exact hcr q
   ·exact hG q
  ·obtain⟨a1,a2⟩:=yt e x;have e1:=eh x Q H (aE c (slopeL (ag G H))) λk=>by rw[aK,h]
   rw[db (a:=slopeL (ag G H)) (u:=c) _ (aK _ _),yP]at e1;have b1:(d:Rat)*((c:Rat)*(pv (slopeL G) x*pv H x+pv G x*pv (slopeL H) x))=(c:Rat)*(pv (slopeL G) x*((d:Rat)*pv H x)+pv G x*((d:Rat)*pv (slopeL H) x)):=by grind
   have b2:(d:Rat)*(pv Q x*pv H x)=pv Q x*((d:Rat)*pv H x):=by grind
   rw[e1,b2,a1,a2]at b1;show(c:Rat)*pv G x*(1*pv H1 x+(x-(n:Rat))*pv (slopeL H1) x)=(pv Q x-(c:Rat)*pv (slopeL G) x)*((x-(n:Rat))*pv H1 x);generalize x-(n:Rat)=t at *
   grind
def i8(a b:Rat):∃R:Rat,0<=R/\∀z,a<=z->z<=b->Bd R z:=by
 obtain⟨u,u0,u1⟩:=ig a;obtain⟨v,v0,v1⟩:=ig b
 exact⟨u+v,by grind,λz h1 h2=>by
  obtain⟨p1,p2⟩:=u1;obtain⟨p3,p4⟩:=v1
  constructor<;>grind⟩
def ia{C:Rat->Rat->Prop}{a b:Rat}(hab:a<b)(hadd:∀x y z,a<=x->x<y->y<z->z<=b->C x y->C y z->C x z){δ:Rat}(hδ:0<δ)(h:∀x y,a<=x->y<=b->x<y->y-x<=δ->C x y):C a b:=by
 obtain⟨n,hn⟩:=Dk hδ (b-a)
 exact ve (C:=λx y=>a<=x->y<=b->C x y) (λx y z h1 h2 c1 c2 g1 g2=>hadd x y z g1 h1 h2 g2 (c1 g1 (by grind)) (c2 (by grind) g2)) hδ (a:=a) (b:=b)
  (λx y hx hy hxy hd _ _=>h x y hx hy hxy hd) n a b Nt Nt hab hn Nt Nt
def o9(f:Rat->Rat)(x y:Rat):0<=bH f x y/\bH f x y<=1:=by unfold bH;split<;>omega
def Ke{F0 F1:Ex}{r:List Ex}(h:SRow (F0::F1::r)){γ:Rat}(hγ:0<γ)(hd:∀x,pv (slopeL F0) x=γ*pv F1 x){a b:Rat}(hab:a<b)
 (hs:∀x,a<=x->x<=b->ai (pv F0 x)=ai (pv F0 a)):cE (F0::F1::r) b=cE (F0::F1::r) a:=by
 obtain⟨R,hR,hB⟩:=i8 a b;obtain⟨δ,hδ,hp⟩:=qh h hγ hd hR;refine ia (C:=λx y=>cE (F0::F1::r) y=cE (F0::F1::r) x) hab (λx y z _ _ _ _ h1 h2=>h2.trans h1) hδ λx y hx hy hxy hyd=>?_
 have:=hp x y (hB x hx (by grind)) (hB y (by grind) hy) hxy hyd
 have e:bH (pv F0) x y=0:=by unfold bH;rw[if_neg λz=>z.2 (by rw[hs y (by grind) hy,hs x hx (by grind)])]
 show _=_;omega
def Bo{F0 F1:Ex}{r:List Ex}(h:SRow (F0::F1::r)){γ:Rat}(hγ:0<γ)(hd:∀x,pv (slopeL F0) x=γ*pv F1 x){a b:Rat}(hab:a<b)
 (hm:(∀x y,a<=x->x<y->y<=b->pv F0 x<=pv F0 y)\/(∀x y,a<=x->x<y->y<=b->pv F0 y<=pv F0 x)):cE (F0::F1::r) a<=cE (F0::F1::r) b+1:=by
 obtain⟨R,hR,hB⟩:=i8 a b;obtain⟨δ,hδ,hp⟩:=qh h hγ hd hR
 have key:cE (F0::F1::r) a-cE (F0::F1::r) b=bH (pv F0) a b:=by
  refine ia (C:=λx y=>cE (F0::F1::r) x-cE (F0::F1::r) y=bH (pv F0) x y) hab (λx y z g1 g2 g3 g4 h1 h2=>?_) hδ λx y hx hy hxy hyd=>hp x y (hB x hx (by grind)) (hB y (by grind) hy) hxy hyd
  have e:bH (pv F0) x z=bH (pv F0) x y+bH (pv F0) y z:=by
   have hy:=λq=>hm.elim (λm=>Or.inl (m x y g1 g2 q)) (λm=>Or.inr (m x y g1 g2 q))
   rcases hm with m |m
   ·have m1:=m x y g1 g2 (by grind);have m2:=m y z (by grind) g3 g4;unfold bH;rcases bh (pv F0 x)with⟨p1,p2⟩ |⟨p1,p2⟩ |⟨p1,p2⟩<;>rcases bh (pv F0 y)with⟨q1,q2⟩ |⟨q1,q2⟩ |⟨q1,q2⟩<;>rcases bh (pv F0 z)with⟨s1,s2⟩ |⟨s1,s2⟩ |⟨s1,s2⟩<;>rw[p2,q2,s2]<;>first |rfl | (exfalso;grind)
   ·have m1:=m x y g1 g2 (by grind);have m2:=m y z (by grind) g3 g4;unfold bH;rcases bh (pv F0 x)with⟨p1,p2⟩ |⟨p1,p2⟩ |⟨p1,p2⟩<;>rcases bh (pv F0 y)with⟨q1,q2⟩ |⟨q1,q2⟩ |⟨q1,q2⟩<;>rcases bh (pv F0 z)with⟨s1,s2⟩ |⟨s1,s2⟩ |⟨s1,s2⟩<;>rw[p2,q2,s2]<;>first |rfl | (exfalso;grind)
  show cE _ x-cE _ z=_;rw[e,<- h1,<- h2];omega
 have:=(o9 (pv F0) a b).2;omega
def xP(l:Ex){a b κ:Rat}(hab:a<b)(hκ:0<κ)(h:∀x,a<=x->x<=b->κ<=pv (slopeL l) x):pv l a<=pv l b:=by
 obtain⟨R,hR,hB⟩:=i8 a b;obtain⟨M,m0,m1⟩:=n6 l R hR;have hT:0<M+1:=by grind
 refine ia (C:=λx y=>pv l x<=pv l y) hab (λx y z _ _ _ _ h1 h2=>NZ h1 h2) (cw hκ hT) λx y hx hy hxy hyd=>?_
 have h1:=(m1 x y (hB x hx (by grind)) (hB y (by grind) hy) (by grind)).1
 have h2:(y-x)*(M+1)<=κ:=by
  have:=Oh hyd (Np hT)
  rwa [Nx (by grind)]at this
 have hyx:0<y-x:=by grind
 have h3:=NE h2 (Np hyx);have h4:=NE (h x hx (by grind)) (Np hyx);have h5:=NV hyx hyx;show pv l x<=pv l y;generalize y-x=t at *
 grind
def Do(l:Ex){a b κ:Rat}(hab:a<b)(hκ:0<κ)(h:∀x,a<=x->x<=b->pv (slopeL l) x <= -κ):pv l b<=pv l a:=by
 have e:∀x,pv (aE (-1) l) x = -pv l x:=λx=>by rw[db (a:=l) (u := -1) x (aK _ _)];show((-1:Int):Rat)*_=_;have:((-1:Int):Rat) = -1:=rfl;rw[this];grind
 have e':∀x,pv (slopeL (aE (-1) l)) x = -pv (slopeL l) x:=λx=>by rw[db (a:=slopeL l) (u := -1) x (λk=>by rw[cu,cu,aK];grind)];have:((-1:Int):Rat) = -1:=rfl;rw[this];grind
 have:=xP (aE (-1) l) hab hκ λx hx hy=>by rw[e'];have:=h x hx hy;grind
 rw[e,e]at this;grind
theorem yT{M B:Rat}(hM:1<=M)(hB:0<=B):∀(l:Ex) {x:Rat},(∀c∈l,Bd B (c:Rat))->Bd M x->Bd (B*(l.length:Rat)*M^l.length) (pv l x)
 | [],x,_,_=>by
  show Bd _ (0:Rat);have:B*(([]:Ex).length:Rat)*M^([]:Ex).length=0:=by show B*((0:Nat):Rat)*_=0;have:((0:Nat):Rat)=0:=rfl;rw[this];grind
  rw[this];constructor<;>grind
 |c::l,x,hl,hx=>by
  have ih:=yT hM hB l (λv hv=>hl v (NB _ hv)) hx;have:=(hl c NK).add (hx.mul ih);refine Bd.mono this ?_;rw[Ny,Og];have e:(((l.length+1:Nat)):Rat)=(l.length:Rat)+1:=by rw[Pm];rfl
  rw[e]
  have p:(1:Rat)<=M^l.length*M:=by
   have:∀n:Nat,(1:Rat)<=M^n:=λn=>by
    induction n with
    |zero=>rw[OD];grind
    |succ n ih=>rw[Og];have:=NE hM (show(0:Rat)<=M^n by grind);grind
   have:=this (l.length+1)
   rwa [Og]at this
  have:=NE p hB;generalize M^l.length=q at *
  generalize (l.length:Rat)=n at *
  grind
def gE{M:Rat}(hM:1<=M)(n:Nat):(1:Rat)<=M^n:=by
 induction n with
 |zero=>rw[OD];grind
 |succ n ih=>rw[Og];have:=NE hM (show(0:Rat)<=M^n by grind);grind
theorem tz{M B:Rat}(hM:1<=M)(hB:0<=B):∀(l:Ex) {x y:Rat},(∀c∈l,Bd B (c:Rat))->Bd M x->Bd M y->x<=y->Bd (B*((l.length:Rat)*(l.length:Rat))*M^l.length*(y-x)) (pv l y-pv l x)
 | [],x,y,_,_,_,_=>by
  have e:pv [] y-pv [] x=0:=by show(0:Rat)-0=0;grind
  rw[e]
  have:B*((([]:Ex).length:Rat)*(([]:Ex).length:Rat))*M^([]:Ex).length*(y-x)=0:=by show B*(((0:Nat):Rat)*((0:Nat):Rat))*_*_=0;have:((0:Nat):Rat)=0:=rfl;rw[this];grind
  rw[this];constructor<;>grind
 |c::l,x,y,hl,hx,hy,hxy=>by
  have ih:=tz hM hB l (λv hv=>hl v (NB _ hv)) hx hy hxy;have ib:=yT hM hB l (λv hv=>hl v (NB _ hv)) hy;have hz:Bd (y-x) (y-x):=⟨by grind,by grind⟩;have:=(hz.mul ib).add (hx.mul ih)
  have e2:(y-x)*pv l y+x*(pv l y-pv l x)=pv (c::l) y-pv (c::l) x:=by show _=((c:Rat)+y*pv l y)-((c:Rat)+x*pv l x);grind
  rw[e2]at this;refine Bd.mono this ?_;rw[Ny,Og];have e:(((l.length+1:Nat)):Rat)=(l.length:Rat)+1:=by rw[Pm];rfl
  rw[e];have p:=gE hM l.length;have n0:(0:Rat)<=(l.length:Rat):=by have:=Pl.mpr (Nw l.length);exact this
  have d0:0<=y-x:=by grind
  generalize M^l.length=q at *
  generalize (l.length:Rat)=n at *
  generalize y-x=d at *
  have q0:0<=B*q*d:=ND (ND hB (by grind)) d0;have q1:0<=B*q*d*n:=ND q0 n0;have q2:B*q*d*n<=B*q*d*n*M:=by have:=NE hM q1;grind
  have q3:0<=B*q*d*M:=ND q0 (by grind);have q4:0<=B*q*d*M*n:=ND q3 n0;grind
def zM{l:Ex}{bt:Nat}(h:∀j,(cf l j).natAbs<=2^bt):∀c∈l,Bd ((2^bt:Nat):Rat) (c:Rat):=λc hc=>by
 obtain⟨i,hi,e⟩:=Qd.mp hc;have e':cf l i=c:=by unfold cf;rw[List.getD_eq_getElem?_getD,List.getElem?_eq_getElem hi,e];rfl
 have:=h i;rw[e']at this;have h1:c<=((2^bt:Nat):Int):=by omega
 have h2 : -((2^bt:Nat):Int)<=c:=by omega
 have k:(((2^bt:Nat):Int):Rat)=((2^bt:Nat):Rat):=Pb _;have g1:=OL.mpr h1;have g2:=OL.mpr h2;rw[Ow]at g2;rw[k]at g1 g2;exact⟨g2,g1⟩
def stay{f:Rat->Rat}{a b L:Rat}(hab:a<b)(hL:∀x,a<=x->x<=b->Bd (L*(b-a)) (f x-f a))(h:¬Bd (L*(b-a)) (f a)):∃κ:Rat,0<κ/\((∀x,a<=x->x<=b->κ<=f x)\/(∀x,a<=x->x<=b->f x <= -κ)):=by
 by_cases p:f a<=L*(b-a)
 ·have q:f a < -(L*(b-a)):=by refine OB.mp λq=>h ⟨q,p⟩
  exact⟨-(L*(b-a))-f a,by grind,.inr λx h1 h2=>by have:=(hL x h1 h2).2;grind⟩
 ·have p:=OB.mp p;exact⟨f a-L*(b-a),by grind,.inl λx h1 h2=>by have:=(hL x h1 h2).1;grind⟩
def DE{u v κ:Rat}(hκ:0<κ)(h:(κ<=u/\κ<=v)\/(u <= -κ/\v <= -κ)):ai u=ai v:=by rcases bh u with⟨a1,a2⟩ |⟨a1,a2⟩ |⟨a1,a2⟩<;>rcases bh v with⟨b1,b2⟩ |⟨b1,b2⟩ |⟨b1,b2⟩<;>rw[a2,b2]<;>(exfalso;grind)
def yW{M:Rat}(hM:1<=M){m n:Nat}(h:m<=n):M^m<=M^n:=by obtain⟨d,rfl⟩:=Nat.exists_eq_add_of_le h;rw[ll];have:=NE (gE hM d) (show(0:Rat)<=M^m by have:=gE hM m;grind);grind
def Ho{F0 F1:Ex}{r:List Ex}(h:SRow (F0::F1::r)){γ:Rat}(hγ:0<γ)(hd:∀x,pv (slopeL F0) x=γ*pv F1 x){G:Ex}{c:Rat}(hc:c≠0)(hG:∀x,pv F0 x=c*pv G x){a b M:Rat}(hab:a<b)(hM:1<=M)(ha:Bd M a)(hb:Bd M b){N bt:Nat}(h3:3<=G.length)(hN:N+1=(G.length-2)+(G.length-1))
 (bp:∀j,(cf G j).natAbs<=2^bt) (bq:∀j,(cf (slopeL G) j).natAbs<=2^bt) (hR:ca G (slopeL G)≠0)
 (hw:(((G.length-2:Nat):Rat)*(M^(G.length-3)*(((2^bt:Nat):Rat)*((G.length:Rat)*(G.length:Rat))*M^G.length*(b-a)))+((G.length-1:Nat):Rat)*(M^(G.length-2)*(((2^bt:Nat):Rat)*((G.length:Rat)*(G.length:Rat))*M^G.length*(b-a))))*(fc N*2^(bt*N):Nat)<1) :
 cE (F0::F1::r) a<=cE (F0::F1::r) b+1:=by
 have hl:=fB G;have ne0:G≠[]:=λz=>by rw[z]at h3;simp at h3
 have ne1:slopeL G≠[]:=λz=>by rw[z]at hl;simp at hl;omega
 have B0:(0:Rat)<=((2^bt:Nat):Rat):=by have:=Pl.mpr (Nw (2^bt));exact this
 have hx:∀x,a<=x->x<=b->Bd M x:=λx h1 h2=>by obtain⟨p1,p2⟩:=ha;obtain⟨p3,p4⟩:=hb;constructor<;>grind
 have up:∀{k e x:Rat},0<=k->a<=x->x<=b->Bd (k*(x-a)) e->Bd (k*(b-a)) e:=λ{k e x} hk h1 h2 hbd=>hbd.mono (NE (by grind) hk)
 have n0:∀n:Nat,(0:Rat)<=(n:Rat):=λn=>by have:=Pl.mpr (Nw n);exact this
 have L0:(0:Rat)<=((2^bt:Nat):Rat)*((G.length:Rat)*(G.length:Rat))*M^G.length:=ND (ND B0 (ND (n0 _) (n0 _))) (by have:=gE hM G.length;grind)
 have l0:∀x,a<=x->x<=b->Bd (((2^bt:Nat):Rat)*((G.length:Rat)*(G.length:Rat))*M^G.length*(b-a)) (pv G x-pv G a):=λx h1 h2 =>up L0 h1 h2 (tz hM B0 G (zM bp) ha (hx x h1 h2) h1)
 have l1:∀x,a<=x->x<=b->Bd (((2^bt:Nat):Rat)*((G.length:Rat)*(G.length:Rat))*M^G.length*(b-a)) (pv (slopeL G) x-pv (slopeL G) a):=λx h1 h2=>by
  refine up L0 h1 h2 ((tz hM B0 (slopeL G) (zM bq) ha (hx x h1 h2) h1).mono ?_);refine Oh ?_ (by grind);have le:(slopeL G).length<=G.length:=by omega
  have c1:((slopeL G).length:Rat)<=(G.length:Rat):=Pl.mpr le;have c2:=NE c1 (n0 (slopeL G).length);have c3:=Oh c1 (n0 G.length);have c4:=NE (NZ c2 c3) B0;have c5:=Oh c4 (show(0:Rat)<=M^(slopeL G).length by have:=gE hM (slopeL G).length;grind);have c6:=NE (yW hM le) (ND B0 (ND (n0 G.length) (n0 G.length)));exact NZ c5 c6
 by_cases s0:Bd (((2^bt:Nat):Rat)*((G.length:Rat)*(G.length:Rat))*M^G.length*(b-a)) (pv G a)
 ·by_cases s1:Bd (((2^bt:Nat):Rat)*((G.length:Rat)*(G.length:Rat))*M^G.length*(b-a)) (pv (slopeL G) a)
  ·exfalso;have:=Ks (N:=N) ne0 ne1 (by rw[hl];omega) bp bq hR hM ha s0 s1;rw[hl,show G.length-1-1=G.length-2 by omega,show G.length-1-2=G.length-3 by omega]at this;exact Oi.mpr this hw
  ·obtain⟨κ,hκ,hs⟩:=stay hab l1 s1
   have mono:(∀x y,a<=x->x<y->y<=b->pv G x<=pv G y)\/(∀x y,a<=x->x<y->y<=b->pv G y<=pv G x):=by
    rcases hs with hs |hs
    ·exact .inl λx y h1 h2 h3=>xP G h2 hκ λz g1 g2=>hs z (by grind) (by grind)
    ·exact .inr λx y h1 h2 h3=>Do G h2 hκ λz g1 g2=>hs z (by grind) (by grind)
   refine Bo h hγ hd hab ?_;rcases NG (a:=0) (b:=c)with z |z
   ·rcases mono with m |m
    ·exact .inl λx y h1 h2 h3=>by rw[hG,hG];exact NE (m x y h1 h2 h3) z
    ·exact .inr λx y h1 h2 h3=>by rw[hG,hG];exact NE (m x y h1 h2 h3) z
   ·have z':(0:Rat) <= -c:=by grind
    rcases mono with m |m
    ·exact .inr λx y h1 h2 h3=>by rw[hG,hG];have:=NE (m x y h1 h2 h3) z';grind
    ·exact .inl λx y h1 h2 h3=>by rw[hG,hG];have:=NE (m x y h1 h2 h3) z';grind
 ·obtain⟨κ,hκ,hs⟩:=stay hab l0 s0
  have same:∀x,a<=x->x<=b->ai (pv F0 x)=ai (pv F0 a):=λx h1 h2=>by
   have e:=DE hκ (hs.elim (λq=>.inl ⟨q x h1 h2,q a Nt (Np hab)⟩) λq=>.inr ⟨q x h1 h2,q a Nt (Np hab)⟩);rw[hG,hG];rcases(show c<0\/0<c by grind)with z |z
   ·have n:∀v:Rat,ai (c*v) = -ai v:=λv=>by have:=gR (p := -c) (v := -v) (by grind);rw[show -c * -v=c*v by grind]at this;rw[this];rcases bh v with⟨p1,p2⟩ |⟨p1,p2⟩ |⟨p1,p2⟩<;>rcases bh (-v)with⟨q1,q2⟩ |⟨q1,q2⟩ |⟨q1,q2⟩<;>rw[p2,q2]<;>first |rfl | (exfalso;grind)
    rw[n,n,e]
   ·rw[gR z,gR z,e]
  have:=Ke h hγ hd hab same;omega
def Hq{F0 F1:Ex}{r:List Ex}(h:SRow (F0::F1::r)){γ:Rat}(hγ:0<γ)(hd:∀x,pv (slopeL F0) x=γ*pv F1 x){a b:Rat}(hab:a<b)(h2:F0.length=2):cE (F0::F1::r) a<=cE (F0::F1::r) b+1:=by
 refine Bo h hγ hd hab ?_
 match F0,h2 with
 | [c,d],_ =>
  have e:∀x,pv [c,d] x=(c:Rat)+x*(d:Rat):=λx=>by show(c:Rat)+x*((d:Rat)+x*0)=_;grind
  rcases NG (a:=0) (b:=(d:Rat))with z |z
  ·exact .inl λx y _ hxy _=>by rw[e,e];have:=Oh (Np hxy) z;grind
  ·exact .inr λx y _ hxy _=>by rw[e,e];have:=Oh (Np hxy) (show(0:Rat) <= -(d:Rat) by grind);grind
def iH{a a' b:Ex}{c:Int}{n:Nat}(h:∀k,cf a' k=c*cf a k):aw a' b n=c*aw a b n:=by
 have:=g6 (a:=a) (b:=a) (c:=a') (q:=b) (x:=c) (y:=0) (n:=n) λk=>by rw[h k];omega
 rw[this];omega
def yY(l:Ex):∃e:Int,e*e=1/\∀n,cf (aj l) n=e*cf (aq l) n:=by
 unfold aq cS;split
 ·exact⟨-1,by decide,λn=>by
   have e:(aj l).map (λx => -x)=aE (-1) (aj l):=by unfold aE;exact Oa λx _=>by omega
   rw[e,aK];omega⟩
 ·exact⟨1,by decide,λn=>by omega⟩
def dM{l:Ex}(h:Tr l)(hne:l≠[]):∃s:Int,s≠0/\∀n,cf l n=s*cf (aq l) n:=by obtain⟨g,_,_,e⟩:=iB h hne;obtain⟨e1,h1,h2⟩:=yY l;refine⟨(aC l:Int)*e1,N3 (by omega) (λz=>by rw[z]at h1;simp at h1),λn=>?_⟩;rw[e n,h2 n,OU]
def gC{a b:Ex}(ha:Tr a)(hb:Tr b)(h:∀n,cf a n=cf b n):a=b:=by
 have hl:a.length=b.length:=by
  rcases Nat.lt_trichotomy a.length b.length with z |z |z
  ·exfalso;have:=hb (b.length-1) (by omega);rw[<- h]at this;exact this (by unfold cf;rw[List.getD_eq_getElem?_getD,List.getElem?_eq_none (by omega)];rfl)
  ·exact z
  ·exfalso;have:=ha (a.length-1) (by omega);rw[h]at this;exact this (by unfold cf;rw[List.getD_eq_getElem?_getD,List.getElem?_eq_none (by omega)];rfl)
 refine List.ext_getElem hl λi h1 h2=>?_
 have:=h i;unfold cf at this
 rw[List.getD_eq_getElem?_getD,List.getD_eq_getElem?_getD,List.getElem?_eq_getElem h1,List.getElem?_eq_getElem h2]at this;exact this
def Jj{F C Q:Ex}{k:Int}(tF:Tr F)(nF:F≠[])(tC:Tr C)(nC:C≠[])(tQ:Tr Q)(nQ:Q≠[])(hk:k≠0)(e:∀n,k*cf F n=aw Q C n)(hs:Dv C (slopeL F)) :
 ∃(H:Ex) (c:Int) (Q':Ex),F=ag (aj Q) H/\Tr H/\H≠[]/\c≠0/\∀n,c*cf (slopeL F) n=aw Q' H n:=by
 obtain⟨sF,zF,eF⟩:=dM tF nF;obtain⟨sC,zC,eC⟩:=dM tC nC;obtain⟨sQ,zQ,eQ⟩:=dM tQ nQ;obtain⟨eg,g1,g2⟩:=yY Q;have pm:Pln (ag (aq Q) (aq C)):=(cX tQ nQ).mul (cX tC nC)
 have key:aq F=ag (aq Q) (aq C):=by
  rw[y0 (a:=F) (b:=ag (aq Q) (aq C)) (x:=k) (y:=sQ*sC) hk (N3 zQ zC) tF pm.tr λn=>by rw[e n,iH eQ,eA eC,ay,OU],pm.plain]
 have ge:eg≠0:=λz=>by rw[z]at g1;simp at g1
 have zs:sF*eg≠0:=N3 zF ge;have tH:Tr (aE (sF*eg) (aq C)):=eO zs (cX tC nC).tr;obtain⟨c,q,hc,hq⟩:=hs;refine⟨aE (sF*eg) (aq C),sF*eg*c,aE sC q,?_,tH,?_,N3 zs hc,λn=>?_⟩
 ·refine gC tF (fI (f8 tQ) tH) λn=>?_
  rw[ay,eA (aK (sF*eg) (aq C)),iH g2,eF n,key,ay];generalize aw (aq Q) (aq C) n=v;have:sF*eg*(eg*v)=sF*(eg*eg)*v:=by grind
  rw[this,g1];grind
 ·intro z;have:=dk (sF*eg) (aq C);rw[z]at this;exact(cX tC nC).ne (Os this.symm)
 ·have h1:aw (aE sC q) (aE (sF*eg) (aq C)) n=sC*(sF*eg*aw q (aq C) n):=by rw[iH (aK sC q),eA (aK (sF*eg) (aq C))]
  have h2:=hq n;rw[eA eC]at h2;rw[h1];have:sF*eg*c*cf (slopeL F) n=sF*eg*(c*cf (slopeL F) n):=by grind
  rw[this,h2];grind
def mh{a b c d:Ex}(h1:Dv a b)(h2:Dv c d):Dv (ag a c) (ag b d):=by
 obtain⟨c1,q1,z1,e1⟩:=h1;obtain⟨c2,q2,z2,e2⟩:=h2;refine⟨c1*c2,ag q1 q2,N3 z1 z2,λn=>?_⟩;have e:ag (ag q1 q2) (ag a c)=ag (ag q1 a) (ag q2 c):=by ac_rfl
 rw[<- ay,e,ay,ay,iH (a:=b) (a':=ag q1 a) (c:=c1) (λk=>by rw[ay,e1]),eA (b:=d) (b':=ag q2 c) (c:=c2) (λk=>by rw[ay,e2]),OU]
def A4(q d:Ex):Dv d (ag q d):=⟨1,q,by decide,λn=>by rw[ay];omega⟩
def uP{d a b c:Ex}{k:Int}(hk:k≠0)(h:∀n,k*cf c n=cf a n+cf b n)(h1:Dv d a)(h2:Dv d b):Dv d c :=
 Dv.up (f:=k) (q:=[1]) (b:=a) (r:=b) hk (λn=>by rw[h n,gb];omega) h1 h2
def E8{F O Q d:Ex}{k:Int}(hk:k≠0)(e:∀n,k*cf F n=aw Q O n)(hall:∀x,Dv x F->Dv x (slopeL F)->Dv x O)(h1:Dv d Q)(h2:Dv d (slopeL Q)){v:Nat}(hv:Dv (pw d v) O):Dv (pw d (v+1)) O:=by
 refine hall _ ?_ ?_
 ·exact Dv.prop_right (x:=k) (y:=1) hk (λn=>by rw[e n,ay];omega) (mh h1 hv)
 have key:Dv (pw d (v+1)) (ag Q (slopeL O)):=by
  obtain⟨c1,q1,z1,e1⟩:=id hv;obtain⟨c2,q2,z2,e2⟩:=id h1;have p1:Dv (pw d (v+1)) (ag Q (ag (slopeL q1) (pw d v))):=mh h1 (A4 _ _)
  have p2:Dv (pw d (v+1)) (ag Q (ag q1 (slopeL (pw d v)))):=by
   cases v with
   |zero =>have:slopeL (pw d 0)=[]:=rfl;rw[this,g7,g7];exact Dv.nil _
   |succ u =>
    have d2:Dv d (ag q2 (slopeL d)):=by refine Dv.down (f:=c2) (a:=slopeL Q) (b:=d) (q:=slopeL q2) (λn=>?_) h2 (Dv.refl _);have s:=iU q2 d n;rw[cu]at s;rw[cu,ay];rw[ay,<- e2]at s;grind
    have d3:=mh d2 (A4 q1 (pw d (u+1)))
    have e3:ag (ag q2 (slopeL d)) (ag q1 (pw d (u+1)))=ag (ag q2 d) (ag q1 (ag (slopeL d) (pw d u))):=by
     show ag (ag q2 (slopeL d)) (ag q1 (ag d (pw d u)))=_
     ac_rfl
    rw[e3]at d3;refine Dv.prop_right (p:=ag (ag q2 d) (ag q1 (ag (slopeL d) (pw d u)))) (x:=c2) (y:=(u:Int)+1) z2 (λn=>?_) d3;rw[ay,ay,iH (a:=Q) (a':=ag q2 d) (c:=c2) (λk=>by rw[ay,e2]),eA (b:=ag q1 (ag (slopeL d) (pw d u))) (b':=ag q1 (slopeL (pw d (u+1)))) (c:=(u:Int)+1) (λk=>?_)]
    ·grind
    ·rw[ay,ay];exact eA (b:=ag (slopeL d) (pw d u)) (c:=(u:Int)+1) λj=>by rw[xS,ay]
  refine uP (k:=c1) z1 (λn=>?_) p1 p2;rw[ay,ay,ay]
  have s:∀j,c1*cf (slopeL O) j=cf (ag (slopeL q1) (pw d v)) j+cf (ag q1 (slopeL (pw d v))) j:=λj=>by have s:=iU q1 (pw d v) j;rw[cu,ay,<- e1]at s;rw[cu,ay,ay];grind
  have t:=Hs (q:=Q) (n:=n) (c:=aE c1 (slopeL O)) (a:=ag (slopeL q1) (pw d v)) (b:=ag q1 (slopeL (pw d v))) (x:=1) (y:=1) λj=>by rw[aK,s j];omega
  rw[eA (b:=slopeL O) (c:=c1) (aK c1 (slopeL O))]at t;omega
 refine uP (k:=k) hk (a:=ag (slopeL Q) O) (b:=ag Q (slopeL O)) (λn=>?_) (mh h2 hv) key;have s:=iU Q O n;rw[cu,ay,<- e]at s;rw[cu,ay,ay];grind
theorem wm{d:Ex}(h:Tr d):∀v,Tr (pw d v)
 |0=>(tr_snoc (r:=[])).mpr (by decide)
 |v+1=>fI h (wm h v)
def Jk{F O Q:Ex}{k:Int}(hk:k≠0)(tO:Tr O)(nO:O≠[])(e:∀n,k*cf F n=aw Q O n)(hall:∀x,Dv x F->Dv x (slopeL F)->Dv x O):Cop2 Q (slopeL Q):=λd dn dt h1 h2=>by
 rcases Nat.lt_or_ge 1 d.length with z |z
 ·exfalso
  have all:∀v,Dv (pw d v) O:=λv=>by
   induction v with
   |zero=>exact⟨1,O,by decide,λn=>by show 1*cf O n=aw O [1] n;rw[eD,gb]⟩
   |succ v ih=>exact E8 hk e hall h1 h2 ih
  obtain⟨l,ne⟩:=yO dn O.length;have:O.length*1<=O.length*(d.length-1):=OS _ (by omega);exact nO (Dv.short ne (wm dt _) tO (by omega) (all O.length))
 ·exact z
theorem vZ:∀(l:Ex) (b:Int),0<=vr b l/\vr b l<=l.length
 | [],_=>⟨OO _,OO _⟩
 |s::r,b=>by have ih:=vZ r (if s=0 then b else s);show 0<=(if s*b<0 then(1:Int)else 0)+_/\(if s*b<0 then(1:Int)else 0)+_<=_;rw[Ny];split<;>omega
def cQ(kp:Ex):List Ex:=bj 9 (aj kp) (aj (slopeL kp))
def vw(kp:Ex)(x:Rat):Int:=cE (cQ kp) x
def pY{kp:Ex}(h:(cQ kp).length<=9)(x:Rat):0<=vw kp x/\vw kp x<=9:=by
 have:=vZ (sgX (cQ kp) x) 0;have l:(sgX (cQ kp) x).length=(cQ kp).length:=by unfold sgX;rw[No]
 show 0<=vr 0 _/\vr 0 _<=9;omega
def Ch{kp:Ex}{t n:Int}(hn:0<n):vr 0 (sgv (cQ kp) t n)=vw kp ((t:Rat)/(n:Rat)):=by rw[Dz hn];rfl
def jF{m n:Nat}(h:m<=n):(2:Rat)^m<=2^n:=yW (by decide +kernel) h
def KD{l1 l2 r1 r2 pl pc a1 a2 c1 c2 x1 x2:Int}(ha:0<a2)(hc:0<c2)(e1:a1*pc=pl*a2)(e2:c1*(r2*a2)=r1*a1*c2)(e3:x1*(l2*c2)=(l1*c2+c1*l2)*x2) :
 x1*(l2*r2*pc)=(l1*r2*pc+r1*l2*pl)*x2:=by
 have h0:c2*a2≠0:=N9 (NH hc ha);refine Qh h0 ?_
 calc x1*(l2*r2*pc)*(c2*a2)=x1*(l2*c2)*(r2*pc*a2):=by grind
  _=(l1*c2+c1*l2)*x2*(r2*pc*a2):=by rw[e3]
  _=x2*(l1*c2*r2*pc*a2+l2*pc*(c1*(r2*a2))):=by grind
  _=x2*(l1*c2*r2*pc*a2+l2*pc*(r1*a1*c2)):=by rw[e2]
  _=x2*c2*(l1*r2*pc*a2+l2*r1*(a1*pc)):=by grind
  _=x2*c2*(l1*r2*pc*a2+l2*r1*(pl*a2)):=by rw[e1]
  _=(l1*r2*pc+r1*l2*pl)*x2*(c2*a2):=by grind
def Kr{l r:Int}(hl:0<l)(hr:0<r){g:Nat}(hg:g=Nat.gcd l.natAbs r.natAbs):∃l' r':Int,0<l'/\0<r'/\(0:Int)<g/\l=g*l'/\r=g*r'/\l*r/g=l*r'/\l*r'/l=r'/\l*r'/r=l'/\0<l*r':=by
 have g0:0<g:=by rw[hg];exact Nat.gcd_pos_of_pos_left _ (by omega)
 have gi:(0:Int)<g:=by omega
 obtain⟨l',hl'⟩:(g:Int)∣l:=P8.mp (by rw[OF,hg];exact OZ _ _);obtain⟨r',hr'⟩:(g:Int)∣r:=P8.mp (by rw[OF,hg];exact Pi _ _);have l0:0<l':=Int.lt_of_mul_lt_mul_left (a:=(g:Int)) (by rw[NQ,<- hl'];exact hl) (Oj gi);have r0:0<r':=Int.lt_of_mul_lt_mul_left (a:=(g:Int)) (by rw[NQ,<- hr'];exact hr) (Oj gi);refine⟨l',r',l0,r0,gi,hl',hr',?_,?_,?_,NH hl r0⟩
 ·have e:l*r=(l*r')*g:=by
   calc l*r=l*(g*r'):=by rw[<- hr']
    _=(l*r')*g:=by grind
  rw[e];exact Int.mul_ediv_cancel _ (N9 gi)
 ·exact Int.mul_ediv_cancel_left _ (N9 hl)
 ·have e:l*r'=l'*r:=by
   calc l*r'=(g*l')*r':=by rw[<- hl']
    _=l'*(g*r'):=by grind
    _=l'*r:=by rw[<- hr']
  rw[e];exact Int.mul_ediv_cancel _ (N9 hr)
def HZ{l:Ex}(h:l.length=1):∃a,l=[a]:=by
 cases l with
 |nil=>cases h
 |cons a t=>exact⟨a,by rw[Os (Nat.succ.inj h)]⟩
def oA{l:Ex}(h:l.length=2):∃a b,l=[a,b]:=by
 cases l with
 |nil=>cases h
 |cons a t=>obtain⟨b,rfl⟩:=HZ (Nat.succ.inj h);exact⟨a,b,rfl⟩
def oB{l:Ex}(h:l.length=3):∃a b c,l=[a,b,c]:=by
 cases l with
 |nil=>cases h
 |cons a t=>obtain⟨b,c,rfl⟩:=oA (Nat.succ.inj h);exact⟨a,b,c,rfl⟩
structure Cnt(f:Rat->Rat)(V:Rat->Int):Prop where
 pc:∀R:Rat,0<=R->∃δ:Rat,0<δ/\∀x y,Bd R x->Bd R y->x<y->y-x<=δ->V x-V y=bH f x y
 nc:Nice f
 nr:∀a b:Rat,a<b->∃u,a<u/\u<b/\f u≠0
def da{a b:Rat}(h:a<=b):a<b\/a=b:=by
 by_cases z:a=b
 ·exact .inr z
 ·exact .inl (by grind)
def iC(a b:Rat):a<b\/a=b\/b<a:=by
 by_cases z:a=b
 ·exact .inr (.inl z)
 ·by_cases y:a<b
  ·exact .inl y
  ·exact .inr (.inr (by grind))
def sg_ne{v:Rat}:ai v≠0↔v≠0:=by rcases bh v with⟨h,e⟩ |⟨h,e⟩ |⟨h,e⟩<;>rw[e]<;>constructor<;>intro z<;>first |decide |grind
def xY{u v:Rat}(hu:u≠0)(hv:v≠0)(h:ai v≠ai u):ai v = -ai u:=by rcases bh v with⟨_,e⟩ |⟨z,e⟩ |⟨_,e⟩<;>rcases bh u with⟨_,e'⟩ |⟨z',e'⟩ |⟨_,e'⟩<;>rw[e,e']at h ⊢<;>first |rfl |exact absurd rfl h |exact absurd z hv |exact absurd z' hu
def Kg{f:Rat->Rat}{x y:Rat}(h:bH f x y=0)(hx:f x≠0):ai (f y)=ai (f x):=by
 unfold bH at h
 split at h
 ·cases h
 ·next z =>apply Classical.byContradiction;intro q;exact z ⟨sg_ne.mpr hx,q⟩
def ju{f:Rat->Rat}{x y:Rat}(h:bH f x y=1):f x≠0/\ai (f y)≠ai (f x):=by
 unfold bH at h
 split at h
 ·next z=>exact⟨sg_ne.mp z.1,z.2⟩
 ·cases h
section
variable {f g:Rat->Rat}{V W:Rat->Int}{a b:Rat}
def Cnt.loc(h:Cnt f V)(a b:Rat):∃δ:Rat,0<δ/\∀x y,a<=x->x<y->y<=b->y-x<=δ->V x-V y=bH f x y:=by obtain⟨R,hR,hB⟩:=i8 a b;obtain⟨δ,hδ,hp⟩:=h.pc R hR;exact⟨δ,hδ,λx y h1 h2 h3 h4=>hp x y (hB x h1 (by grind)) (hB y (by grind) h3) h2 h4⟩
def Cnt.mono(h:Cnt f V)(hab:a<b):V b<=V a:=by
 obtain⟨δ,hδ,hp⟩:=h.loc a b;refine ia (C:=λx y=>V y<=V x) hab (λx y z _ _ _ _ h1 h2=>Int.le_trans h2 h1) hδ λx y hx hy hxy hd=>?_
 have:=hp x y hx hxy hy hd;have:=(o9 f x y).1;show V y<=V x;omega
def Cnt.le(h:Cnt f V)(hab:a<=b):V b<=V a:=by
 rcases da hab with z |z
 ·exact h.mono z
 ·rw[z];exact OO _
def Cnt.const(h:Cnt f V)(hab:a<b)(e:V a=V b)(fa:f a≠0):ai (f b)=ai (f a):=by
 obtain⟨δ,hδ,hp⟩:=h.loc a b;refine ia (C:=λx y=>f x≠0->ai (f y)=ai (f x)) hab (λx y z _ _ _ _ h1 h2 hx=>?_) hδ (λx y hx hy hxy hd fx=>?_) fa
 ·have e1:=h1 hx;rw[<- e1];exact h2 (sg_ne.mp (by rw[e1];exact sg_ne.mpr hx))
 ·have h1:=hp x y hx hxy hy hd;have h2:=h.le hx;have h3:=h.le hy;have h4:=h.mono hxy;exact Kg (by omega) fx
def Cnt.free(h:Cnt f V)(hab:a<b)(e:V a=V b){z:Rat}(h1:a<z)(h2:z<=b):f z≠0:=λhz=>by obtain⟨u,u1,u2,hu⟩:=h.nr a z h1;have m1:=h.mono u1;have m2:=h.mono u2;have m3:=h.le h2;have:=h.const u2 (by omega) hu;exact sg_ne.mpr hu (by rw[<- this,hz];rfl)
def Cnt.like(h:Cnt f V)(hab:a<b)(e:V a=V b){x y:Rat}(x1:a<x)(x2:x<=b)(y1:a<y)(y2:y<=b):ai (f x)=ai (f y):=by
 have key:∀{x y:Rat},a<x->y<=b->x<y->ai (f y)=ai (f x):=λ{x y} g1 g2 g3=>by have m1:=h.mono g1;have m2:=h.mono g3;have m3:=h.le g2;exact h.const g3 (by omega) (h.free hab e g1 (by grind))
 rcases iC x y with z |z |z
 ·exact(key x1 y2 z).symm
 ·rw[z]
 ·exact key y1 x2 z
def Nice.near(h:Nice f)(a:Rat)(fa:f a≠0):∃η:Rat,0<η/\∀z,a<=z->z<=a+η->ai (f z)=ai (f a):=by
 obtain⟨w,w0,hw⟩:=ig a;obtain⟨M,m0,_,m2⟩:=h (w+1) (by grind)
 obtain⟨p,hp,hp1,hp2⟩:∃p:Rat,0<p/\(f a=p\/f a = -p)/\0<M+1:=by
  rcases iC (f a) 0 with z |z |z
  ·exact⟨-f a,by grind,.inr (by grind),by grind⟩
  ·exact absurd z fa
  ·exact⟨f a,z,.inl rfl,by grind⟩
 obtain⟨η,h1,h2,h3⟩:∃η:Rat,0<η/\η<=1/\M*η<p:=by
  have q:0<p/(M+1):=cw hp hp2;have e:p/(M+1)*(M+1)=p:=Nx (by grind);rcases NG (a:=p/(M+1)) (b:=1)with z |z
  ·exact⟨_,q,z,by generalize p/(M+1)=t at *;grind⟩
  ·exact⟨1,by decide,by decide,by
    generalize p/(M+1)=t at *
    have:=ND (show 0<=t-1 by grind) (show 0<=M+1 by grind)
    grind⟩
 refine⟨η,h1,λz z1 z2=>?_⟩;obtain⟨b1,b2⟩:=hw;obtain⟨c1,c2⟩:=m2 a z ⟨by grind,by grind⟩ ⟨by grind,by grind⟩ z1;have d:M*(z-a)<=M*η:=NE (by grind) m0;rcases hp1 with e |e
 ·rw[e]at c1 c2 ⊢;unfold ai;rw[if_neg (by grind),if_pos (by grind),if_neg (by grind),if_pos hp]
 ·rw[e]at c1 c2 ⊢;unfold ai;rw[if_pos (by grind),if_pos (by grind)]
def Cnt.start(h:Cnt f V)(hab:a<b):∃z,a<z/\z<=b/\V z=V a:=by
 obtain⟨δ,hδ,hp⟩:=h.loc a b
 obtain⟨η,hη,hs⟩:∃η:Rat,0<η/\∀z,a<=z->z<=a+η->f a≠0->ai (f z)=ai (f a):=by
  by_cases z:f a=0
  ·exact⟨1,by decide,λ_ _ _ q=>absurd z q⟩
  ·obtain⟨η,h1,h2⟩:=h.nc.near a z;exact⟨η,h1,λz g1 g2 _=>h2 z g1 g2⟩
 obtain⟨e,e0,e1,e2,e3⟩:∃e:Rat,0<e/\e<=δ/\e<=η/\a+e<=b:=by
  rcases NG (a:=δ) (b:=η)with z |z
  ·rcases NG (a:=δ) (b:=b-a)with y |y
   ·exact⟨δ,hδ,Nt,z,by grind⟩
   ·exact⟨b-a,by grind,y,by grind,by grind⟩
  ·rcases NG (a:=η) (b:=b-a)with y |y
   ·exact⟨η,hη,z,Nt,by grind⟩
   ·exact⟨b-a,by grind,by grind,y,by grind⟩
 refine⟨a+e,by grind,e3,?_⟩;have h1:=hp a (a+e) Nt (by grind) e3 (by grind)
 have h2:bH f a (a+e)=0:=by unfold bH;rw[if_neg];rintro⟨q1,q2⟩;exact q2 (hs _ (by grind) (by grind) (sg_ne.mp q1))
 omega
def Cnt.bis(h:Cnt f V)(hab:a<b)(h1:V a-V b=1){δ:Rat}(hδ:0<δ):∃u v,a<=u/\u<v/\v<=b/\v-u<=δ/\V u=V a/\V v=V b:=by
 apply Classical.byContradiction;intro hn
 have:=ia (C:=λx y=>V x=V a->V y=V a) hab (λx y z _ _ _ _ c1 c2 e=>c2 (c1 e)) hδ (λx y hx hy hxy hd e=>by
  apply Classical.byContradiction;intro q;have m1:=h.mono hxy;have m2:=h.le hy;have m3:=h.le hx
  exact hn ⟨x,y,hx,hxy,hy,hd,e,by omega⟩) rfl
 omega
def Cnt.cross(h:Cnt f V)(hab:a<b)(h1:V a-V b=1)(fa:f a≠0)(fb:f b≠0):ai (f b) = -ai (f a):=by
 obtain⟨δ,hδ,hp⟩:=h.loc a b;obtain⟨u,v,u1,u2,u3,u4,e1,e2⟩:=h.bis hab h1 (δ:=δ/2) (by grind);obtain⟨fu,sv⟩:=ju (by rw[<- hp u v u1 u2 u3 (by grind)];omega)
 have su:ai (f u)=ai (f a):=by
  rcases da u1 with z |z
  ·exact h.const z e1.symm fa
  ·rw[z]
 rw[<- su];by_cases fv:f v=0
 ·have vb:v<b:=by
   rcases da u3 with z |z
   ·exact z
   ·rw[z]at fv;exact absurd fv fb
  obtain⟨c,c1,c2,c3⟩:∃c,v<c/\c<=b/\c<=v+δ/2:=by
   rcases NG (a:=b) (b:=v+δ/2)with z |z
   ·exact⟨b,vb,Nt,z⟩
   ·exact⟨v+δ/2,by grind,z,Nt⟩
  obtain⟨w,w1,w2,fw⟩:=h.nr v c c1;have m1:=h.mono w1;have m2:=h.mono (show w<b by grind);obtain⟨_,sw⟩:=ju (x:=u) (y:=w) (by rw[<- hp u w u1 (by grind) (by grind) (by grind)];omega);rw[h.const (show w<b by grind) (by omega) fw];exact xY fu fw sw
 ·have sb:ai (f b)=ai (f v):=by
   rcases da u3 with z |z
   ·exact h.const z e2 fv
   ·rw[z]
  rw[sb];exact xY fu fv sv
def Cnt.ru(h:Cnt f V)(hab:a<b)(h1:V a-V b=1):∃ε:Int,(ε=1\/ε = -1)/\(∀z,a<z->z<=b->V z=V a->ai (f z) = -ε)/\(∀z,a<z->z<=b->V z=V b->ai (f z)=ε\/f z=0)/\(∀z y,a<z->z<y->y<=b->V z=V b->ai (f y)=ε):=by
 obtain⟨z0,z1,z2,e0⟩:=h.start hab;have f0:=h.free z1 e0.symm z1 Nt
 have right:∀y,a<y->y<=b->V y=V b->f y≠0->ai (f y) = -ai (f z0):=λy y1 y2 ey fy=>by
  have lt:z0<y:=OB.mp λq=>by have:=h.le q;omega
  exact h.cross lt (by omega) f0 fy
 refine⟨-ai (f z0),?_,λz g1 g2 e=>?_,λz g1 g2 e=>?_,λz y g1 g2 g3 e=>?_⟩
 ·rcases bh (f z0)with⟨_,q⟩ |⟨q,_⟩ |⟨_,q⟩
  ·rw[q];exact .inl rfl
  ·exact absurd q f0
  ·rw[q];exact .inr rfl
 ·rw[Int.neg_neg];rcases NG (a:=z) (b:=z0)with q |q
  ·exact h.like z1 e0.symm g1 q z1 Nt
  ·exact h.like g1 e.symm g1 Nt z1 q
 ·by_cases fz:f z=0
  ·exact .inr fz
  ·exact .inl (right z g1 g2 e fz)
 ·have m1:=h.mono g2;have m2:=h.le g3;exact right y (by grind) g3 (by omega) (h.free g2 (by omega) g2 Nt)
def zf(f:Rat->Rat)(x:Rat):Int:=if ai (f x)=0 then 1 else 0
def Cnt.tran(h1:Cnt f V)(h2:Cnt g W){φ:Rat->Rat}{L:Rat}{ε:Int}(hab:a<b)(hL:0<=L)(hφ:∀x y,a<=x->x<y->y<=b->φ y<φ x/\φ x-φ y<=L*(y-x))(hε:ε=1\/ε = -1)(hs:∀x,a<=x->x<=b->ai (g (φ x))=ε*ai (f x)):V a-V b=W (φ b)-W (φ a)+zf f b-zf f a:=by
 obtain⟨δ1,d1,p1⟩:=h1.loc a b;obtain⟨δ2,d2,p2⟩:=h2.loc (φ b) (φ a);have hL1:0<L+1:=by grind
 have q0:0<δ2/(L+1):=cw d2 hL1;have qe:δ2/(L+1)*(L+1)=δ2:=Nx (by grind)
 obtain⟨δ,dd,e1,e2⟩:∃δ:Rat,0<δ/\δ<=δ1/\L*δ<=δ2:=by
  generalize δ2/(L+1)=t at *
  rcases NG (a:=δ1) (b:=t)with z |z
  ·exact⟨δ1,d1,Nt,by have:=NE z hL;grind⟩
  ·exact⟨t,q0,z,by grind⟩
 have le:∀x,a<=x->x<=b->φ b<=φ x/\φ x<=φ a:=λx g1 g2=>by
  constructor
  ·rcases da g2 with z |z
   ·exact Np (hφ x b g1 z Nt).1
   ·rw[z];exact Nt
  ·rcases da g1 with z |z
   ·exact Np (hφ a x Nt z g2).1
   ·rw[z];exact Nt
 refine ia (C:=λx y=>V x-V y=W (φ y)-W (φ x)+zf f y-zf f x) hab (λx y z _ _ _ _ c1 c2=>?_) dd λx y hx hy hxy hd=>?_
 ·show V x-V z=W (φ z)-W (φ x)+zf f z-zf f x;omega
 ·show V x-V y=W (φ y)-W (φ x)+zf f y-zf f x;obtain⟨o1,o2⟩:=hφ x y hx hxy hy;have c1:=p1 x y hx hxy hy (by grind);have c2:=p2 (φ y) (φ x) (le y (by grind) hy).1 o1 (le x hx (by grind)).2 (by have:=NE hd hL;grind);rw[c1,c2];unfold bH zf;rw[hs x hx (by grind),hs y (by grind) hy];rcases bh (f x)with⟨_,s1⟩ |⟨_,s1⟩ |⟨_,s1⟩<;>rcases bh (f y)with⟨_,s2⟩ |⟨_,s2⟩ |⟨_,s2⟩<;>rcases hε with r |r<;>rw[s1,s2,r]<;>rfl
end
def du{a b c:Rat}(hc:0<c)(h:a*c<=b*c):a<=b:=Oi.mp λz=>by have:=OW z hc;grind
def qH(v:Rat):ai (-v) = -ai v:=by rcases bh v with⟨h,e⟩ |⟨h,e⟩ |⟨h,e⟩<;>rcases bh (-v)with⟨h2,e2⟩ |⟨h2,e2⟩ |⟨h2,e2⟩<;>rw[e,e2]<;>first |rfl | (exfalso;grind)
structure Flt(P:Ex):Prop where
 tr:Tr P
 l2:2<=P.length
 l8:P.length<=9
 cop:Cop2 P (slopeL P)
def Flt.ne{P:Ex}(h:Flt P):P≠[]:=λz=>by have:=h.l2;rw[z]at this;simp at this
def Flt.cnt{P:Ex}(h:Flt P):Cnt (pv P) (vw P):=by
 have tP:=h.tr;have nP:=h.ne;have h2:=h.l2;have h8:=h.l8;have tS:=jH tP;have lS':=fB P;have hs:slopeL P≠[]:=λz=>by rw[z]at lS';simp at lS';omega
 obtain⟨g0,t0,n0,e0⟩:=iB tP nP;obtain⟨g1,t1,n1,e1⟩:=iB tS hs;have copS:=h.cop.shr tP nP tS;have lS:(aj (slopeL P)).length=P.length-1:=by unfold aj;rw[No,fB]
 have hst:=nI 8 (aj P) (aj (slopeL P)) (by omega) t0 n0 (f8 tS) copS
 have er:bj 9 (aj P) (aj (slopeL P))=aj P::aj (slopeL P)::bj 7 (aJ (aj P) (aj (slopeL P))) (aJ (aj (slopeL P)) (aJ (aj P) (aj (slopeL P)))):=by show(if aj P=[]then _ else aj P::(if aj (slopeL P)=[]then _ else _))=_;rw[if_neg n0,if_neg n1]
 rw[er]at hst;have ev:∀x,vw P x=cE (aj P::aj (slopeL P)::bj 7 (aJ (aj P) (aj (slopeL P))) (aJ (aj (slopeL P)) (aJ (aj P) (aj (slopeL P))))) x:=λx=>by unfold vw cQ;rw[er]
 have g0':(0:Rat)<((aC P:Int):Rat):=NJ.mpr g0;have g1':(0:Rat)<((aC (slopeL P):Int):Rat):=NJ.mpr g1
 have hd:∀x,pv (slopeL (aj P)) x=((aC (slopeL P):Int):Rat)/((aC P:Int):Rat)*pv (aj (slopeL P)) x:=λx=>by
  have h1:=db (a:=slopeL (aj P)) (c:=slopeL P) (u:=(aC P:Int)) x λk=>by rw[cu,cu,e0 (k+1)];grind
  have h2:=db (a:=aj (slopeL P)) (c:=slopeL P) (u:=(aC (slopeL P):Int)) x e1;have h3:((aC (slopeL P):Int):Rat)/((aC P:Int):Rat)*((aC P:Int):Rat)=((aC (slopeL P):Int):Rat):=Nx (by grind);rw[h1]at h2
  have h4:((aC P:Int):Rat)*pv (slopeL (aj P)) x=((aC P:Int):Rat)*(((aC (slopeL P):Int):Rat)/((aC P:Int):Rat)*pv (aj (slopeL P)) x):=by
   rw[h2];generalize ((aC (slopeL P):Int):Rat)/((aC P:Int):Rat)=w at *
   rw[<- h3];grind
  generalize pv (slopeL (aj P)) x=u at *
  generalize ((aC (slopeL P):Int):Rat)/((aC P:Int):Rat)*pv (aj (slopeL P)) x=v at *
  have h5:((aC P:Int):Rat)*(u-v)=0:=by grind
  rcases Oo.mp h5 with z |z
  ·grind
  ·grind
 have hγ:=cw g1' g0';have hv:∀x,pv P x=((aC P:Int):Rat)*pv (aj P) x:=λx=>db x e0
 have hsg:∀x,ai (pv P x)=ai (pv (aj P) x):=λx=>by rw[hv];exact gR g0'
 refine⟨λR hR=>?_,cY P,λa b hab=>?_⟩
 ·obtain⟨δ,hδ,hp⟩:=qh hst hγ hd hR;refine⟨δ,hδ,λx y hx hy hxy hyd=>?_⟩;rw[ev,ev,hp x y hx hy hxy hyd];unfold bH;rw[hsg,hsg]
 ·apply Classical.byContradiction;intro hn
  have zero:∀u,a<u->u<b->pv (aj P) u=0:=λu u1 u2=>by
   have:pv P u=0:=Classical.byContradiction λq=>hn ⟨u,u1,u2,q⟩
   rw[hv]at this;rcases Oo.mp this with z |z
   ·grind
   ·exact z
  obtain⟨A,B,k,nA,nB,hk,hAB⟩:=pH hst rfl;obtain⟨R,hR,hB⟩:=i8 a b;obtain⟨M,m0,m1⟩:=n6 (aj P) R hR;obtain⟨m,hm1,hm2⟩:∃m:Rat,a<m/\m<b:=⟨(a+b)/2,by grind,by grind⟩
  have hsl:pv (slopeL (aj P)) m=0:=by
   have key:∀e:Rat,0<e->m+e<b->Bd (M*e) (pv (slopeL (aj P)) m):=λe e0 e1=>by
    have:=m1 m (m+e) (hB m (by grind) (by grind)) (hB (m+e) (by grind) (by grind)) (by grind);rw[zero m hm1 hm2,zero (m+e) (by grind) e1]at this;obtain⟨p,q⟩:=this;have ee:m+e-m=e:=by grind
    rw[ee]at p q;generalize pv (slopeL (aj P)) m=s at *
    constructor
    ·exact du e0 (by grind)
    ·exact du e0 (by grind)
   generalize pv (slopeL (aj P)) m=s at *
   apply Classical.byContradiction;intro hs0
   obtain⟨t,t0,ht⟩:∃t:Rat,0<t/\(s=t\/s = -t):=by
    rcases iC s 0 with z |z |z
    ·exact⟨-s,by grind,.inr (by grind)⟩
    ·exact absurd z hs0
    ·exact⟨s,z,.inl rfl⟩
   have q0:0<t/(M+1):=cw t0 (by grind);have qe:t/(M+1)*(M+1)=t:=Nx (by grind);generalize t/(M+1)=w at *
   obtain⟨e,e0,e1,e2⟩:∃e:Rat,0<e/\m+e<b/\e<=w:=by
    rcases NG (a:=w) (b:=(b-m)/2)with z |z
    ·exact⟨w,q0,by grind,Nt⟩
    ·exact⟨(b-m)/2,by grind,by grind,z⟩
   obtain⟨p,q⟩:=key e e0 e1;have:=NE e2 m0;rcases ht with r |r<;>grind
  rw[hd m]at hsl
  have hF1:pv (aj (slopeL P)) m=0:=by
   rcases Oo.mp hsl with z |z
   ·rw[z]at hγ;exact absurd hγ (by decide)
   ·exact z
  have:=hAB m;rw[zero m hm1 hm2,hF1]at this;grind
def AZ{d P p q:Ex}{c:Int}(hc:c≠0)(e:∀n,c*cf P n=aw q p n)(h:(Dv d q/\Dv d p)\/(Dv d p/\Dv d (slopeL p))):Dv d P/\Dv d (slopeL P):=by
 have e1:∀n,c*cf (slopeL P) n=cf (ag (slopeL q) p) n+cf (ag q (slopeL p)) n:=λn=>by have:=iU q p n;rw[ay,ay,<- this,cu,cu,ay,<- e];grind
 have hp:Dv d p:=by rcases h with⟨_,z⟩ |⟨z,_⟩<;>exact z
 have hP:Dv d P:=hp.trans ⟨c,q,hc,e⟩;refine⟨hP,uP hc e1 (hp.trans (Dv.mul_right _ _)) ?_⟩;rcases h with⟨z,_⟩ |⟨_,z⟩
 ·exact z.trans (Dv.mul_left _ _)
 ·exact z.trans (Dv.mul_right _ _)
def kY(a b:Rat):ai (a*b)=ai a*ai b:=by
 rcases bh a with⟨h,e⟩ |⟨h,e⟩ |⟨h,e⟩
 ·have e1:a*b = -((-a)*b):=by grind
  have e2:ai ((-a)*b)=ai b:=gR (by grind);rw[e,e1,qH,e2];omega
 ·rw[e,h,Ps,Ov];rfl
 ·rw[gR h,e,NM]
def DF{C a b a' b' g g':Rat}(hC:C≠0)(e1:C*a=g*a')(e2:C*b=g'*b')(z:ai b=ai a)(s1:ai g=ai g')(s2:ai g≠0):ai b'=ai a':=by have f1:=congrArg ai e1;have f2:=congrArg ai e2;rw[kY,kY]at f1 f2;rw[z,f1,<- s1]at f2;exact(PM s2 f2).symm
def Flt.dv{P p:Ex}(h:Flt P)(tp:Tr p)(l2:2<=p.length)(l8:p.length<=9)(hd:Dv p P):Flt p:=by obtain⟨c,q,hc,e⟩:=hd;refine⟨tp,l2,l8,λd dn dt h1 h2=>?_⟩;obtain⟨a,b⟩:=AZ hc e (.inr ⟨h1,h2⟩);exact h.cop d dn dt a b
def Flt.le{P p:Ex}(h:Flt P)(hp:Flt p)(hd:Dv p P){x y:Rat}(hxy:x<y):vw p x-vw p y<=vw P x-vw P y:=by
 obtain⟨c,q,hc,tq,e⟩:=hd.trim;have hP:=h.cnt;have hpc:=hp.cnt
 have nq:q≠[]:=λz=>by
  have:=h.ne;apply this;refine gC h.tr (λn hn=>absurd hn (by simp)) λn=>?_
  have e1:=e n;rw[z,dN]at e1;rw[bw];rcases Pa.mp e1 with r |r
  ·exact absurd r hc
  ·exact r
 have cop:Cop2 p q:=λd dn dt h1 h2=>by obtain⟨a,b⟩:=AZ hc e (.inl ⟨h2,h1⟩);exact h.cop d dn dt a b
 have hst:=nI q.length p q (Nv _) hp.tr hp.ne tq cop
 obtain⟨r,er⟩:∃r,bj (q.length+1) p q=p::q::r:=by have hq:0<q.length:=Nz.mpr nq;obtain⟨m,hm⟩:∃m,q.length=m+1:=⟨q.length-1,by omega⟩;refine⟨bj m (aJ p q) (aJ q (aJ p q)),?_⟩;rw[hm];show(if p=[]then _ else p::(if q=[]then _ else _))=_;rw[if_neg hp.ne,if_neg nq]
 obtain⟨A,B,k,nA,nB,hk,hAB⟩:=pH hst er;obtain⟨R,hR,hB⟩:=i8 x y;obtain⟨δ3,κ,d3,hκ,l3⟩:=tL (cY p) (cY q) nA nB hk hAB hR;obtain⟨δ1,d1,p1⟩:=hP.loc x y;obtain⟨δ2,d2,p2⟩:=hpc.loc x y
 obtain⟨δ,hδ,f1,f2,f3⟩:∃δ:Rat,0<δ/\δ<=δ1/\δ<=δ2/\δ<=δ3:=by
  rcases NG (a:=δ1) (b:=δ2)with z |z
  ·rcases NG (a:=δ1) (b:=δ3)with w |w
   ·exact⟨δ1,d1,Nt,z,w⟩
   ·exact⟨δ3,d3,w,NZ w z,Nt⟩
  ·rcases NG (a:=δ2) (b:=δ3)with w |w
   ·exact⟨δ2,d2,z,Nt,w⟩
   ·exact⟨δ3,d3,NZ w z,w,Nt⟩
 have val:∀u,(c:Rat)*pv P u=pv q u*pv p u:=λu=>by
  have:=eh u q p (aE c P) λn=>by rw[aK,e]
  rw[<- this,db (a:=P) (u:=c) u (aK _ _)]
 have hC:(c:Rat)≠0:=dC hc;refine ia (C:=λu v=>vw p u-vw p v<=vw P u-vw P v) hxy (λu v w _ _ _ _ c1 c2=>by show vw p u-vw p w<=vw P u-vw P w;omega) hδ λu v hu hv huv hd=>?_
 show vw p u-vw p v<=vw P u-vw P v;rw[p1 u v hu huv hv (by grind),p2 u v hu huv hv (by grind)];by_cases hs:bH (pv p) u v=0
 ·rw[hs];exact(o9 _ _ _).1
 have h1:bH (pv p) u v=1:=by have:=o9 (pv p) u v;omega
 obtain⟨pu,psv⟩:=ju h1;obtain⟨⟨s1,s2⟩,_,_⟩:=l3 u v (hB u hu (by grind)) (hB v (by grind) hv) huv (by grind) λz=>psv z.1.symm
 have qu:pv q u≠0:=sg_ne.mp s2;have qv:pv q v≠0:=sg_ne.mp (by rw[<- s1];exact s2)
 have:bH (pv P) u v=1:=by
  unfold bH;rw[if_pos];have vu:=val u;have vv:=val v;refine⟨sg_ne.mpr λz=>?_,λz=>psv ?_⟩
  ·rw[z,Rat.mul_zero]at vu;rcases Oo.mp vu.symm with w |w
   ·exact qu w
   ·exact pu w
  ·generalize pv P u=a at *
   generalize pv P v=b at *
   generalize pv p u=a' at *
   generalize pv p v=b' at *
   generalize pv q u=g at *
   generalize pv q v=g' at *
   generalize (c:Rat)=C at *
   exact DF hC vu vv z s1 s2
 omega
section
variable {f g:Rat->Rat}{V W:Rat->Int}
def Nice.nearL(h:Nice f)(a:Rat)(fa:f a≠0):∃η:Rat,0<η/\∀z,a-η<=z->z<=a->ai (f z)=ai (f a):=by
 have hn:Nice λx=>f (-x):=λR hR=>by
  obtain⟨M,m0,m1,m2⟩:=h R hR;refine⟨M,m0,λx hx=>m1 (-x) ⟨by have:=hx.2;grind,by have:=hx.1;grind⟩,λx y hx hy hxy=>?_⟩;obtain⟨p,q⟩:=m2 (-y) (-x) ⟨by have:=hy.2;grind,by have:=hy.1;grind⟩ ⟨by have:=hx.2;grind,by have:=hx.1;grind⟩ (by grind);have e : -x - -y=y-x:=by grind
  rw[e]at p q;constructor<;>grind
 obtain⟨η,h1,h2⟩:=hn.near (-a) (by rw[OX];exact fa);refine⟨η,h1,λz z1 z2=>?_⟩;have:=h2 (-z) (by grind) (by grind)
 rwa [OX,OX]at this
theorem Cnt.left(h:Cnt f V):∀(n:Nat) {lo z:Rat},lo<z->(V lo-V z).toNat<=n->∃u,lo<=u/\u<z/\∀w,u<=w->w<z->V w=V z+zf f z
 |n,lo,z,hz,hn=>by
  by_cases hc:∃w,lo<w/\w<z/\V w<V lo
  ·obtain⟨w,w1,w2,w3⟩:=hc;have m1:=h.mono w2;cases n with
   |zero=>omega
   |succ n =>obtain⟨u,u1,u2,u3⟩:=Cnt.left h n w2 (by omega);exact⟨u,by grind,u2,u3⟩
  ·have same:∀w,lo<=w->w<z->V w=V lo:=λw g1 g2=>by
    rcases da g1 with q |q
    ·have:=h.mono q;have:¬V w<V lo:=λy=>hc ⟨w,q,g2,y⟩
     omega
    ·rw[q]
   obtain⟨δ,hδ,hp⟩:=h.loc lo z;have ne:∀w,lo<w->w<z->f w≠0:=λw g1 g2=>h.free g1 (same w (Np g1) g2).symm g1 Nt
   obtain⟨η,hη,hs⟩:∃η:Rat,0<η/\∀w,z-η<=w->w<=z->f z≠0->ai (f w)=ai (f z):=by
    by_cases q:f z=0
    ·exact⟨1,by decide,λ_ _ _ y=>absurd q y⟩
    ·obtain⟨η,h1,h2⟩:=h.nc.nearL z q;exact⟨η,h1,λw g1 g2 _=>h2 w g1 g2⟩
   obtain⟨u,u1,u2,u3,u4⟩:∃u,lo<u/\u<z/\z-u<=δ/\z-u<=η:=by
    obtain⟨t,t0,t1,t2⟩:∃t:Rat,0<t/\t<=δ/\t<=η:=by
     rcases NG (a:=δ) (b:=η)with q |q
     ·exact⟨δ,hδ,Nt,q⟩
     ·exact⟨η,hη,q,Nt⟩
    rcases NG (a:=t) (b:=(z-lo)/2)with q |q
    ·exact⟨z-t,by grind,by grind,by grind,by grind⟩
    ·exact⟨(z+lo)/2,by grind,by grind,by grind,by grind⟩
   refine⟨u,Np u1,u2,λw w1 w2=>?_⟩;have e:=hp w z (by grind) w2 Nt (by grind);have fw:=ne w (by grind) w2;by_cases q:f z=0
   ·have c1:bH f w z=1:=by unfold bH;rw[if_pos ⟨sg_ne.mpr fw,λy=>sg_ne.mpr fw (by rw[<- y,q];rfl)⟩]
    have c2:zf f z=1:=by unfold zf;rw[q];rfl
    omega
   ·have c1:bH f w z=0:=by unfold bH;rw[if_neg λy=>y.2 (hs w (by grind) (by grind) q).symm]
    have c2:zf f z=0:=by unfold zf;rw[if_neg (sg_ne.mpr q)]
    omega
structure Rts(f:Rat->Rat)(V:Rat->Int)(T m:Int):Prop where
 c:Cnt f V
 lim:∃B:Rat,0<B/\(∀x,x <= -B->V x=T/\f x≠0)/\∀x,B<=x->V x=T-m/\f x≠0
def dI{x:Rat}(h:f x≠0):zf f x=0:=by unfold zf;rw[if_neg (sg_ne.mpr h)]
def kK(f:Rat->Rat)(x:Rat):0<=zf f x/\zf f x<=1:=by unfold zf;split<;>omega
def Rts.in{T m:Int}(h:Rts f V T m)(x:Rat):0<=T-V x-zf f x/\T-V x<=m:=by
 obtain⟨B,hB,h1,h2⟩:=h.lim
 obtain⟨lo,l1,l2⟩:∃lo:Rat,lo <= -B/\lo<x:=by
  rcases NG (a := -B) (b:=x)with z |z
  ·exact⟨-B-1,by grind,by grind⟩
  ·exact⟨x-1,by grind,by grind⟩
 obtain⟨hi,r1,r2⟩:∃hi:Rat,B<=hi/\x<hi:=by
  rcases NG (a:=B) (b:=x)with z |z
  ·exact⟨x+1,by grind,by grind⟩
  ·exact⟨B+1,by grind,by grind⟩
 obtain⟨u,u1,u2,u3⟩:=h.c.left _ l2 (Nv _);have e1:=u3 u Nt u2;have e2:=(h1 lo l1).1;have e3:=(h2 hi r1).1;have m1:=h.c.le u1;have m2:=h.c.mono r2;omega
def Eo{T m T' m' i k:Int}(h1:Rts f V T m)(h2:Rts g W T' m')(h:∀z,i<=T-V z↔k<=T'-W z)(z:Rat):i<=T-V z-zf f z↔k<=T'-W z-zf g z:=by
 obtain⟨u,u1,u2,u3⟩:=h1.c.left _ (show z-1<z by grind) (Nv _);obtain⟨v,v1,v2,v3⟩:=h2.c.left _ (show z-1<z by grind) (Nv _)
 obtain⟨w,w1,w2,w3⟩:∃w,u<=w/\v<=w/\w<z:=by
  rcases NG (a:=u) (b:=v)with q |q
  ·exact⟨v,q,Nt,v2⟩
  ·exact⟨u,Nt,q,u2⟩
 have a:=u3 w w1 w3;have b:=v3 w w2 w3;have c:=h w;omega
def uk{T m T' m' ε:Int}(h1:Rts f V T m)(h2:Rts g W T' m')(hε:ε=1\/ε = -1)(hs:∀x,ai (g (-x))=ε*ai (f x)):m'=m/\∀y,T'-W y=m-(T-V (-y)-zf f (-y)):=by
 obtain⟨B,hB,a1,a2⟩:=h1.lim;obtain⟨B',hB',b1,b2⟩:=h2.lim
 have key:∀y,T'-W y=m'-(T-V (-y))+zf f (-y):=λy=>by
  obtain⟨c,c1,c2,c3⟩:∃c:Rat,B<=c/\B'<=c /\ -c < -y:=by
   rcases NG (a:=B) (b:=B')with q |q
   ·rcases NG (a:=B') (b:=y+1)with r |r
    ·exact⟨y+1,by grind,r,by grind⟩
    ·exact⟨B',q,Nt,by grind⟩
   ·rcases NG (a:=B) (b:=y+1)with r |r
    ·exact⟨y+1,r,by grind,by grind⟩
    ·exact⟨B,Nt,q,by grind⟩
  have t:=h1.c.tran h2.c (φ:=λx => -x) (L:=1) (ε:=ε) c3 (by decide) (λx y _ q _=>⟨by grind,by grind⟩) hε (λx _ _=>hs x);have e1:=a1 (-c) (by grind);have e2:=(b2 c c2).1;have z1:=dI e1.2;simp only[OX]at t;omega
 obtain⟨c,c1,c2⟩:∃c:Rat,B<=c/\B'<=c:=by
  rcases NG (a:=B) (b:=B')with q |q
  ·exact⟨B',q,Nt⟩
  ·exact⟨B,Nt,q⟩
 have k:=key (-c);rw[OX]at k;have e1:=a2 c c1;have e2:=(b1 (-c) (by grind)).1;have z1:=dI e1.2;refine⟨by omega,λy=>?_⟩;have:=key y;omega
def Aj{a b:Rat}(h:0<a*b)(hab:a<b):1/b<1/a/\1/a-1/b=(b-a)*(1/(a*b)):=by
 have a0:a≠0:=λz=>by rw[z,Ps]at h;exact absurd h (by decide)
 have b0:b≠0:=λz=>by rw[z,Rat.mul_zero]at h;exact absurd h (by decide)
 have ea:1/a*a=1:=Nx a0;have eb:1/b*b=1:=Nx b0;have ec:1/(a*b)*(a*b)=1:=Nx (by grind);have pc:0<1/(a*b):=cw (by decide) h;generalize 1/a=u at *
 generalize 1/b=v at *
 generalize 1/(a*b)=w at *
 have e1:w=u*v:=by
  have:w*(a*b)*(u*v)=u*v:=by rw[ec];grind
  have e2:w*(a*b)*(u*v)=w*((u*a)*(v*b)):=by grind
  rw[e2,ea,eb]at this;grind
 have e3:u-v=(b-a)*w:=by
  rw[e1];have:(b-a)*(u*v)=u*(v*b)-v*(u*a):=by grind
  rw[this,ea,eb];grind
 refine⟨?_,e3⟩;have:=NV (show 0<b-a by grind) pc;grind
def Cnt.inv(h1:Cnt f V)(h2:Cnt g W){ε:Int}{a b:Rat}(hε:ε=1\/ε = -1)(hab:a<b)(h0:0<a\/b<0)(hs:∀x,a<=x->x<=b->ai (g (1/x))=ε*ai (f x)):V a-V b=W (1/b)-W (1/a)+zf f b-zf f a:=by
 obtain⟨s,s0,hsq⟩:∃s:Rat,0<s/\∀x y,a<=x->x<=b->a<=y->y<=b->s<=x*y:=by
  rcases h0 with z |z
  ·refine⟨a*a,NV z z,λx y g1 _ g3 _=>?_⟩;have p1:=ND (show 0<=x-a by grind) (show 0<=y by grind);have p2:=ND (show 0<=y-a by grind) (Np z);grind
  ·refine⟨b*b,by have:=NV (show 0 < -b by grind) (show 0 < -b by grind);grind,λx y _ g2 _ g4=>?_⟩;have p1:=ND (show 0<=b-x by grind) (show 0 <= -y by grind);have p2:=ND (show 0<=b-y by grind) (show 0 <= -b by grind);grind
 refine h1.tran h2 (φ:=λx=>1/x) (L:=1/s) hab (Np (cw (by decide) s0)) (λx y g1 g2 g3=>?_) hε hs;have hp:=hsq x y g1 (by grind) (by grind) g3;obtain⟨o1,o2⟩:=Aj (show 0<x*y by grind) g2;refine⟨o1,?_⟩;show 1/x-1/y<=1/s*(y-x);rw[o2];have es:1/s*s=1:=Nx (by grind);have ew:1/(x*y)*(x*y)=1:=Nx (by grind);have ps:0<1/s:=cw (by decide) s0;have pw:0<1/(x*y):=cw (by decide) (by grind)
 have le:1/(x*y)<=1/s:=by
  generalize x*y=q at *
  generalize 1/s=u at *
  generalize 1/q=v at *
  refine du s0 ?_;have:=NE hp (Np pw);grind
 have:=NE le (show 0<=y-x by grind);grind
def uJ{T m T' m' s:Int}(h1:Rts f V T m)(h2:Rts g W T' m')(f0:f 0≠0)(g0:g 0≠0)(hs:T-V 0=s){ε ε':Int}(hε:ε=1\/ε = -1)(hε':ε'=1\/ε' = -1)(hp:∀x,0<x->ai (g (1/x))=ε*ai (f x))(hn:∀x,x<0->ai (g (1/x))=ε'*ai (f x)) :
 m'=m/\T'-W 0=s/\(∀y,y<0->T'-W y=s-(T-V (1/y)-zf f (1/y)))/\∀y,0<y->T'-W y=s+(m-(T-V (1/y)-zf f (1/y))):=by
 obtain⟨B,hB,a1,a2⟩:=h1.lim;obtain⟨B',hB',b1,b2⟩:=h2.lim
 have inv2:∀x:Rat,x≠0->1/(1/x)=x:=λx hx=>by
  have e1:1/x*x=1:=Nx hx;have hy:1/x≠0:=λz=>by rw[z,Ps]at e1;exact absurd e1 (by decide)
  have e2:1/(1/x)*(1/x)=1:=Nx hy;generalize 1/(1/x)=u at *
  generalize 1/x=v at *
  have:u*(v*x)=x:=by
   have:u*(v*x)=u*v*x:=by grind
   rw[this,e2];grind
  rw[e1]at this;grind
 have near:∀{f:Rat->Rat} {V:Rat->Int},Cnt f V->f 0≠0->∃η:Rat,0<η/\(∀z,0<=z->z<=η->V z=V 0/\f z≠0)/\∀z,-η<=z->z<0->V z=V 0/\f z≠0:=λ{f V} h hf=>by
  obtain⟨z1,p1,p2,p3⟩:=h.start (show(0:Rat)<1 by decide);obtain⟨u,u1,u2,u3⟩:=h.left _ (show(-1:Rat)<0 by decide) (Nv _);have z0:=dI hf;refine⟨if z1 <= -u/2 then z1 else -u/2,by split<;>grind,λz g1 g2=>?_,λz g1 g2=>?_⟩
  ·have g3:z<=z1:=by split at g2<;>grind
   rcases da g1 with q |q
   ·have m1:=h.mono q;have m2:=h.le g3;exact⟨by omega,h.free p1 p3.symm q g3⟩
   ·rw[<- q];exact⟨rfl,hf⟩
  ·have g3:u<z:=by split at g1<;>grind
   have e:=u3 z (Np g3) g2;refine⟨by omega,h.free g3 ?_ g3 Nt⟩;rw[u3 u Nt u2,e]
 obtain⟨η,n0,n1,n2⟩:=near h1.c f0;obtain⟨η',n0',n1',n2'⟩:=near h2.c g0
 have far:∀w:Rat,∃c:Rat,0<c/\w<c/\B<=c/\B'<=c/\1/c<=η/\1/c<=η':=λw=>by
  have e1:1/η*η=1:=Nx (by grind);have e2:1/η'*η'=1:=Nx (by grind);have q1:0<1/η:=cw (by decide) n0;have q2:0<1/η':=cw (by decide) n0';obtain⟨v,v0,_,v2⟩:=ig w;have c0:0<v+1+B+B'+1/η+1/η':=by grind
  have ec:1/(v+1+B+B'+1/η+1/η')*(v+1+B+B'+1/η+1/η')=1:=Nx (by grind);have pc:0<1/(v+1+B+B'+1/η+1/η'):=cw (by decide) c0;refine⟨v+1+B+B'+1/η+1/η',c0,by grind,by grind,by grind,?_,?_⟩
  ·generalize 1/η'=p at *
   generalize 1/η=q at *
   have hle:q<=v+1+B+B'+q+p:=by grind
   generalize v+1+B+B'+q+p=c at *
   generalize 1/c=r at *
   refine du q1 ?_;have:=NE hle (Np pc);grind
  ·generalize 1/η=q at *
   generalize 1/η'=p at *
   have hle:p<=v+1+B+B'+q+p:=by grind
   generalize v+1+B+B'+q+p=c at *
   generalize 1/c=r at *
   refine du q2 ?_;have:=NE hle (Np pc);grind
 have posi:∀{c:Rat},0<c->0<1/c:=λhc=>cw (by decide) hc
 have negi:∀{c:Rat},c<0->1/c<0:=λ{c} hc=>by
  have e1:1/c*c=1:=Nx (by grind);refine OB.mp λz=>?_
  have:=ND z (show 0 <= -c by grind);grind
 have above:∀y,0<y->W 0-W y=(T-m)*(-1)+V (1/y)+zf f (1/y):=λy hy=>by have hi:=posi hy;obtain⟨c,c0,c1,c2,c3,c4,c5⟩:=far (1/y);have t:=h1.c.inv h2.c (a:=1/y) (b:=c) hε c1 (.inl hi) (λx g _=>hp x (by grind));rw[inv2 y (by grind)]at t;have e1:=a2 c c2;have e2:=(n1' (1/c) (Np (posi c0)) c5).1;have z1:=dI e1.2;omega
 have below:∀y,y<0->T'-W y=(V (1/y)+zf f (1/y))-V 0:=λy hy=>by
  have hi:=negi hy;obtain⟨c,c0,c1,c2,c3,c4,c5⟩:=far (-(y+1/y))
  have lt:1/y < -(1/c):=by
   have:c0=c0:=rfl;have e1:1/c*c=1:=Nx (by grind);have e2:1/y*y=1:=Nx (by grind);have pc:=posi c0;have cy : -y<c:=by grind
   generalize 1/c=r at *
   generalize 1/y=q at *
   refine OB.mp λz=>?_
   have p1:=ND (show 0<=q+r by grind) (show 0 <= -y by grind);have p2:=NV (show 0<c+y by grind) pc;grind
  have ei:1 / -(1/c) = -c:=by
   have e1:1/c*c=1:=Nx (by grind);have pc:=posi c0;have e3:1 / -(1/c) * -(1/c)=1:=Nx (by grind);generalize 1 / -(1/c)=q at *
   generalize 1/c=r at *
   have:q * -(r*c)=c:=by
    have:q * -(r*c)=q * -r*c:=by grind
    rw[this,e3];grind
   rw[e1]at this;grind
  have t:=h1.c.inv h2.c (a:=1/y) (b := -(1/c)) hε' lt (.inr (by have:=posi c0;grind)) (λx _ g=>hn x (by have:=posi c0;grind));rw[inv2 y (by grind),ei]at t;have e1:=(b1 (-c) (by grind)).1;have e2:=n2 (-(1/c)) (by grind) (by have:=posi c0;grind);have z1:=dI e2.2;omega
 obtain⟨c,c0,c1,c2,c3,c4,c5⟩:=far 0
 have w0:T'-W 0=s:=by
  have k:=below (-(1/c)) (by have:=posi c0;grind)
  have ei:1 / -(1/c) = -c:=by
   have e1:1/c*c=1:=Nx (by grind);have pc:=posi c0;have e3:1 / -(1/c) * -(1/c)=1:=Nx (by grind);generalize 1 / -(1/c)=q at *
   generalize 1/c=r at *
   have:q * -(r*c)=c:=by
    have:q * -(r*c)=q * -r*c:=by grind
    rw[this,e3];grind
   rw[e1]at this;grind
  rw[ei]at k;have e1:=a1 (-c) (by grind);have z1:=dI e1.2;have e2:=(n2' (-(1/c)) (by grind) (by have:=posi c0;grind)).1;omega
 have hm:m'=m:=by have k:=above c c0;have e1:=(n1 (1/c) (Np (posi c0)) c4);have z1:=dI e1.2;have e2:=(b2 c c3).1;omega
 refine⟨hm,w0,λy hy=>?_,λy hy=>?_⟩
 ·have:=below y hy;omega
 ·have:=above y hy;omega
end
theorem AL{B m w x:Rat}(hB:1<=B)(hm:0<=m)(hw:B<=w)(hx:Bd w x):∀r:Ex,(∀c∈r,Bd (m*(B-1)) (c:Rat))->Bd (m*(w^r.length-1)) (pv r x)
 | [],_=>by show Bd (m*(w^0-1)) 0;rw[OD];constructor<;>grind
 |c::r,h=>by
  have ih:=AL hB hm hw hx r λd hd=>h d (NB _ hd)
  have hc:=h c (NK ..);have h1:=hx.mul ih;show Bd (m*(w^(r.length+1)-1)) ((c:Rat)+x*pv r x);rw[Og];have hp:=gE (show(1:Rat)<=w by grind) r.length;generalize w^r.length=W at *
  generalize x*pv r x=y at *
  obtain⟨c1,c2⟩:=hc;obtain⟨d1,d2⟩:=h1;have e:=ND hm (show 0<=w-B by grind);constructor<;>grind
theorem tu(l:Int)(x:Rat):∀r:Ex,pv (r++[l]) x=pv r x+(l:Rat)*x^r.length
 | []=>by show(l:Rat)+x*0=0+(l:Rat)*x^0;rw[OD];grind
 |c::r=>by show(c:Rat)+x*pv (r++[l]) x=(c:Rat)+x*pv r x+(l:Rat)*x^(r.length+1);rw[tu l x r,Og];grind
theorem tZ(w:Rat):∀n:Nat,(-w)^n=(if n%2=0 then 1 else -1)*w^n
 |0=>by rw[OD,OD,if_pos rfl];grind
 |n+1=>by
  rw[Og,tZ w n,Og];rcases Qi n with h |h
  ·rw[if_pos h,if_neg (by omega)];grind
  ·rw[if_neg (by omega),if_pos (by omega)];grind
def DM{u v:Rat}(hv:v≠0)(h:(0<v -> -v<u)/\(v<0->u < -v)):ai (u+v)=ai v:=by
 rcases iC v 0 with z |z |z
 ·have:=h.2 z;unfold ai;rw[if_pos (by grind),if_pos z]
 ·exact absurd z hv
 ·have:=h.1 z;unfold ai;rw[if_neg (by grind),if_pos (by grind),if_neg (by grind),if_pos z]
def AK{r:Ex}{l:Int}{k:Nat}(hl:l≠0)(hb:∀c∈r,c.natAbs<=(2^k-1)*l.natAbs):(∀x:Rat,2^k<=x->ai (pv (r++[l]) x)=ai (l:Rat))/\∀x:Rat,x <= -(2^k)->ai (pv (r++[l]) x)=(if r.length%2=0 then 1 else -1)*ai (l:Rat):=by
 have hB:(1:Rat)<=2^k:=gE (by decide) k
 have two:(((2^k-1)*l.natAbs:Nat):Rat)=(l.natAbs:Rat)*((2:Rat)^k-1):=by
  have e:((2^k-1)*l.natAbs:Nat)+l.natAbs=2^k*l.natAbs:=by have:1<=2^k:=Nat.one_le_two_pow;obtain⟨t,ht⟩:∃t,2^k=t+1:=⟨2^k-1,by omega⟩;rw[ht,PV,Pz]
  have e2:=congrArg (λn:Nat=>(n:Rat)) e;simp only[Pm,Rat.natCast_mul,Rat.natCast_pow]at e2;have c2:((2:Nat):Rat)=2:=rfl;rw[c2]at e2;rw[Rat.natCast_mul];grind
 have hm:(0:Rat)<(l.natAbs:Rat):=by
  have:0<l.natAbs:=by omega
  exact Rat.natCast_pos.mpr this
 have hc:∀c∈r,Bd ((l.natAbs:Rat)*((2:Rat)^k-1)) (c:Rat):=λc hcm=>by
  have h1:=hb c hcm;have h2:((c.natAbs:Nat):Rat)<=(((2^k-1)*l.natAbs:Nat):Rat):=Pl.mpr h1;rw[two]at h2
  have h3:(c:Rat)=(c.natAbs:Rat)\/(c:Rat) = -(c.natAbs:Rat):=by
   rcases Int.natAbs_eq c with z |z
   ·left;rw[<- Pb,<- z]
   ·right;rw[<- Pb,<- Ow,<- z]
  have h4:(0:Rat)<=(c.natAbs:Rat):=Rat.natCast_nonneg;rcases h3 with z |z<;>constructor<;>grind
 have labs:(l:Rat)=(l.natAbs:Rat)\/(l:Rat) = -(l.natAbs:Rat):=by
  rcases Int.natAbs_eq l with z |z
  ·left;rw[<- Pb,<- z]
  ·right;rw[<- Pb,<- Ow,<- z]
 have main:∀{w x:Rat} {s:Rat},2^k<=w->Bd w x->(s=1\/s = -1)->x^r.length=s*w^r.length->ai (pv (r++[l]) x)=ai (s*(l:Rat)):=λ{w x s} hw hx hs hp=>by
  rw[tu,hp];have h1:=AL hB (Np hm) hw hx r hc;have h2:=gE (show(1:Rat)<=w by grind) r.length;generalize w^r.length=W at *
  generalize pv r x=y at *
  generalize (l.natAbs:Rat)=M at *
  have e:(l:Rat)*(s*W)=W*(s*(l:Rat)):=by grind
  rw[e,<- gR (p:=W) (v:=s*(l:Rat)) (by grind)];have p:=NV hm (show 0<W by grind);obtain⟨g1,g2⟩:=h1;refine DM ?_ ⟨λq=>?_,λq=>?_⟩
  ·rcases hs with a |a<;>rcases labs with b |b<;>rw[a,b]<;>grind
  ·rcases hs with a |a<;>rcases labs with b |b<;>rw[a,b]at q ⊢<;>grind
  ·rcases hs with a |a<;>rcases labs with b |b<;>rw[a,b]at q ⊢<;>grind
 refine⟨λx hx=>?_,λx hx=>?_⟩
 ·have:=main hx ⟨by grind,Nt⟩ (.inl rfl) (show x^r.length=1*x^r.length by grind);rw[this,Rat.one_mul]
 ·have:=main (w := -x) (x:=x) (s:=if r.length%2=0 then 1 else -1) (by grind) ⟨by grind,by grind⟩ (by split<;>simp) (by
   have:=tZ (-x) r.length;rw[OX]at this
   exact this)
  rw[this];split
  ·rw[Rat.one_mul,NM]
  ·have:(-1:Rat)*(l:Rat) = -(l:Rat):=by grind
   rw[this,qH];omega
section
variable {f g:Rat->Rat}{V W:Rat->Int}{a b:Rat}
def Cnt.keep(h:Cnt f V)(hab:a<=b){s:Int}(hs:∀z,a<=z->z<=b->ai (f z)=s):V a=V b:=by
 rcases da hab with q |q
 ·obtain⟨δ,hδ,hp⟩:=h.loc a b;refine ia (C:=λx y=>V x=V y) q (λx y z _ _ _ _ c1 c2=>c1.trans c2) hδ λx y hx hy hxy hd=>?_
  have e:=hp x y hx hxy hy hd
  have c:bH f x y=0:=by unfold bH;rw[if_neg λz=>z.2 (by rw[hs x hx (by grind),hs y (by grind) hy])]
  show V x=V y;omega
 ·rw[q]
def Cnt.root(h:Cnt f V)(hab:a<b)(h1:V a-V b=1){r:Rat}(r1:a<r)(r2:r<=b)(hr:f r=0):V r=V b/\∀z,a<=z->z<r->V z=V a:=by
 have m1:=h.mono r1;have m2:=h.le r2;have n1:V a≠V r:=λe=>h.free r1 e r1 Nt hr
 refine⟨by omega,λz z1 z2=>?_⟩;have n2:V z≠V r:=λe=>h.free z2 e z2 Nt hr
 have m3:=h.le z1;have m4:=h.mono z2;omega
def vf(h1:Cnt f V)(h2:Cnt g W)(hab:a<b)(e1:V a-V b=1)(e2:W a-W b=1)(same:∀z,a<=z->z<=b->(V z=V a↔W z=W a)):∃M:Rat,0<=M/\∀δ:Rat,0<δ->∃u v,a<=u/\u<v/\v<=b/\v-u<=δ/\V u=V a/\V v=V b/\Bd (M*δ) (f u)/\Bd (M*δ) (g u):=by
 obtain⟨R,hR,hB⟩:=i8 a b;obtain⟨M1,m1,_,p1⟩:=h1.nc R hR;obtain⟨M2,m2,_,p2⟩:=h2.nc R hR;obtain⟨δ1,d1,l1⟩:=h1.loc a b;obtain⟨δ2,d2,l2⟩:=h2.loc a b;refine⟨M1+M2,by grind,λδ hδ=>?_⟩
 obtain⟨t,t0,t1,t2,t3⟩:∃t:Rat,0<t/\t<=δ/\t<=δ1/\t<=δ2:=by
  rcases NG (a:=δ) (b:=δ1)with z |z
  ·rcases NG (a:=δ) (b:=δ2)with w |w
   ·exact⟨δ,hδ,Nt,z,w⟩
   ·exact⟨δ2,d2,w,NZ w z,Nt⟩
  ·rcases NG (a:=δ1) (b:=δ2)with w |w
   ·exact⟨δ1,d1,z,Nt,w⟩
   ·exact⟨δ2,d2,NZ w z,w,Nt⟩
 obtain⟨u,v,u1,u2,u3,u4,q1,q2⟩:=h1.bis hab e1 t0;have w1:=(same u u1 (by grind)).mp q1
 have w2:W v=W b:=by
  have n:¬W v=W a:=λz=>by have:=(same v (by grind) u3).mpr z;omega
  have k1:=h2.le u3;have k2:=h2.le (show a<=v by grind);omega
 have c1:=l1 u v u1 u2 u3 (by grind);have c2:=l2 u v u1 u2 u3 (by grind);obtain⟨_,s1⟩:=ju (f:=f) (x:=u) (y:=v) (by omega);obtain⟨_,s2⟩:=ju (f:=g) (x:=u) (y:=v) (by omega);have Bu:=hB u u1 (by grind);have Bv:=hB v (by grind) u3;have z1:=(lI (λz=>s1 z.1.symm) (p1 u v Bu Bv (by grind))).1;have z2:=(lI (λz=>s2 z.1.symm) (p2 u v Bu Bv (by grind))).1;refine⟨u,v,u1,u2,u3,by grind,q1,q2,?_,?_⟩
 ·have k1:=NE (show v-u<=δ by grind) m1;have k2:=ND m2 (Np hδ);obtain⟨x1,x2⟩:=z1;constructor<;>grind
 ·have k1:=NE (show v-u<=δ by grind) m2;have k2:=ND m1 (Np hδ);obtain⟨x1,x2⟩:=z2;constructor<;>grind
def BN{y C:Rat}(hC:0<=C)(h:∀δ:Rat,0<δ->Bd (C*δ) y):y=0:=by
 apply Classical.byContradiction;intro hn
 obtain⟨t,t0,ht⟩:∃t:Rat,0<t/\(y=t\/y = -t):=by
  rcases iC y 0 with z |z |z
  ·exact⟨-y,by grind,.inr (by grind)⟩
  ·exact absurd z hn
  ·exact⟨y,z,.inl rfl⟩
 have q0:0<t/(C+1):=cw t0 (by grind);have qe:t/(C+1)*(C+1)=t:=Nx (by grind);obtain⟨p,q⟩:=h _ q0;generalize t/(C+1)=w at *
 rcases ht with r |r<;>grind
end
structure Rk(G:Ex)(T m k:Int)(l h:Rat):Prop where
 flt:Flt G
 rts:Rts (pv G) (vw G) T m
 lt:l<h
 lo:T-vw G l=k-1
 hi:T-vw G h=k
def Rk.one{G:Ex}{T m k:Int}{l h:Rat}(R:Rk G T m k l h):vw G l-vw G h=1:=by have:=R.lo;have:=R.hi;omega
def NoR(G:Ex)(l h:Rat):Prop:=∀r:Rat,l<r->r<=h->pv G r≠0
def NoQ(G:Ex)(l h:Rat):Prop:=∀q,Pln q->q.length=3->Dv q G->vw q l-vw q h≠1
structure Od(G:Ex)(l h:Rat)(p:Ex):Prop where
 pln:Pln p
 flt:Flt p
 dv:Dv p G
 one:vw p l-vw p h=1
structure LS(G:Ex)(l h:Rat)(p:Ex):Prop where
 od:Od G l h p
 kd:p.length=2\/(NoR G l h/\p.length=3)\/(NoR G l h/\NoQ G l h/\p=G)
def eK{p G:Ex}(h:Dv p G){r:Rat}(hr:pv p r=0):pv G r=0:=by
 obtain⟨c,q,hc,e⟩:=h;have:=eh r q p (aE c G) λn=>by rw[aK,e]
 rw[db (a:=G) (u:=c) r (aK _ _),hr,Rat.mul_zero]at this;rcases Oo.mp this with z |z
 ·exact absurd z (dC hc)
 ·exact z
def Rts.dv{G p:Ex}{T m:Int}(hG:Flt G)(hp:Flt p)(d:Dv p G)(h:Rts (pv G) (vw G) T m):∃T' m',Rts (pv p) (vw p) T' m':=by
 obtain⟨B,hB,h1,h2⟩:=h.lim;have C:=hp.cnt;refine⟨vw p (-B),vw p (-B)-vw p B,C,B,hB,λx hx=>⟨?_,λz=>(h1 x hx).2 (eK d z)⟩,λx hx=>⟨?_,λz=>(h2 x hx).2 (eK d z)⟩⟩
 ·rcases da hx with q |q
  ·have k:=hG.le hp d q;have:=(h1 x hx).1;have:=(h1 (-B) Nt).1;have:=C.mono q;omega
  ·rw[q]
 ·have e:vw p x=vw p B:=by
   rcases da hx with q |q
   ·have k:=hG.le hp d q;have:=(h2 x hx).1;have:=(h2 B Nt).1;have:=C.mono q;omega
   ·rw[q]
  omega
def fi{G p:Ex}{l h:Rat}(hG:Flt G)(lt:l<h)(o:vw G l-vw G h=1)(P:Od G l h p){z:Rat}(z1:l<=z)(z2:z<=h):vw p z=vw p l↔vw G z=vw G l:=by
 have C:=P.flt.cnt;have D:=hG.cnt;have o':=P.one;have a1:=C.le z1;have a2:=C.le z2;have b1:=D.le z1;have b2:=D.le z2
 have k1:vw p l-vw p z<=vw G l-vw G z:=by
  rcases da z1 with q |q
  ·exact hG.le P.flt P.dv q
  ·rw[q];omega
 have k2:vw p z-vw p h<=vw G z-vw G h:=by
  rcases da z2 with q |q
  ·exact hG.le P.flt P.dv q
  ·rw[q];omega
 omega
def uT{G p:Ex}{T m k Tp:Int}{l h:Rat}(R:Rk G T m k l h)(P:Od G l h p)(z:Rat):Tp-vw p h<=Tp-vw p z↔k<=T-vw G z:=by
 have C:=P.flt.cnt;have D:=R.flt.cnt;have o:=P.one;have e1:=R.lo;have e2:=R.hi;rcases NG (a:=z) (b:=l)with q |q
 ·have a1:=C.le q;have b1:=D.le q;omega
 ·rcases NG (a:=h) (b:=z)with r |r
  ·have a1:=C.le r;have b1:=D.le r;omega
  ·have s:=fi R.flt R.lt R.one P q r;have a1:=C.le q;have a2:=C.le r;have b1:=D.le q;have b2:=D.le r;omega
def Tw(Φ:(Rat->Prop)->Rat->Prop)(f:Rat->Rat)(V:Rat->Int)(T m:Int)(W:Rat->Int)(T':Int):Prop:=∀i,1<=i->i<=m->∃i',∀y,i'<=T'-W y↔Φ (λz=>i<=T-V z-zf f z) y
def pD{G G' p t:Ex}{T m k T' m' k':Int}{l h l' h':Rat}{Φ:(Rat->Prop)->Rat->Prop}(R:Rk G T m k l h)(R':Rk G' T' m' k' l' h')(hΦ:∀y,k'<=T'-vw G' y↔Φ (λz=>k<=T-vw G z-zf (pv G) z) y)(P:Od G l h p)(tp:Pln t)(tf:Flt t)(td:Dv t G')
 (tw:∀Tp mp Tt mt,Rts (pv p) (vw p) Tp mp->Rts (pv t) (vw t) Tt mt->Tw Φ (pv p) (vw p) Tp mp (vw t) Tt):Od G' l' h' t:=by
 obtain⟨Tp,mp,rp⟩:=Rts.dv R.flt P.flt P.dv R.rts;obtain⟨Tt,mt,rt⟩:=Rts.dv R'.flt tf td R'.rts;have b1:=rp.in l;have b2:=rp.in h;have z1:=kK (pv p) l;have o:=P.one;obtain⟨i',hi'⟩:=tw Tp mp Tt mt rp rt (Tp-vw p h) (by omega) b2.2;have e:(λz=>Tp-vw p h<=Tp-vw p z-zf (pv p) z)=λz=>k<=T-vw G z-zf (pv G) z:=funext λz=>propext (Eo rp R.rts (uT R P) z)
 rw[e]at hi';have key:∀y,i'<=Tt-vw t y↔k'<=T'-vw G' y:=λy=>(hi' y).trans (hΦ y).symm
 have a:=key l';have b:=key h';have:=R'.lo;have:=R'.hi;have u:=R'.flt.le tf td R'.lt;exact⟨tp,tf,td,by omega⟩
def um{G p:Ex}{l h:Rat}(lt:l<h)(P:Od G l h p)(h2:p.length=2):∃r,l<r/\r<=h/\pv p r=0:=by
 have C:=P.flt.cnt;obtain⟨ε,hε,s1,s2,s3⟩:=C.ru lt P.one;obtain⟨z,z1,z2,z3⟩:=C.start lt;obtain⟨p0,p1,rfl⟩:=oA h2;have hv:∀x,pv [p0,p1] x=(p0:Rat)+x*(p1:Rat):=λx=>by show(p0:Rat)+x*((p1:Rat)+x*0)=_;grind
 have hp:(0:Rat)<(p1:Rat):=NJ.mpr P.pln.pos;have e : -(p0:Rat)/(p1:Rat)*(p1:Rat) = -(p0:Rat):=Nx (by grind);have a:=s1 z z1 z2 z3;have b:=s2 h lt Nt rfl;rw[hv]at a b;refine⟨-(p0:Rat)/(p1:Rat),?_,?_,by rw[hv];grind⟩
 ·generalize -(p0:Rat)/(p1:Rat)=r at *
  refine OB.mp λq=>?_
  have k1:=NV (show 0<z-r by grind) hp;have k2:=NV (show 0<h-r by grind) hp;have c1:ai ((p0:Rat)+z*(p1:Rat))=1:=by unfold ai;rw[if_neg (by grind),if_pos (by grind)]
  have c2:ai ((p0:Rat)+h*(p1:Rat))=1:=by unfold ai;rw[if_neg (by grind),if_pos (by grind)]
  rcases b with w |w
  ·omega
  ·grind
 ·generalize -(p0:Rat)/(p1:Rat)=r at *
  refine Oi.mp λq=>?_
  have k1:=NV (show 0<r-z by grind) hp;have k2:=NV (show 0<r-h by grind) hp;have c1:ai ((p0:Rat)+z*(p1:Rat)) = -1:=by unfold ai;rw[if_pos (by grind)]
  have c2:ai ((p0:Rat)+h*(p1:Rat)) = -1:=by unfold ai;rw[if_pos (by grind)]
  rcases b with w |w
  ·omega
  ·grind
def Bd.lin{A B M x y:Rat}{u v:Rat}(hA:Bd A u)(hB:Bd B v)(hx:Bd M x)(hy:Bd M y):Bd (A*M+B*M) (u*x-v*y):=by obtain⟨a1,a2⟩:=hA.mul hx;obtain⟨b1,b2⟩:=hB.mul hy;constructor<;>grind
def yX{p q:Ex}(hp:Pln p)(hq:Pln q){x y:Int}(hx:x≠0)(hy:y≠0)(h:aE x p=aE y q):p=q:=by rw[<- hp.plain,<- hq.plain,<- je hx hp.tr,<- je hy hq.tr,h]
def zj{G p q:Ex}{l h:Rat}(hG:Flt G)(lt:l<h)(o:vw G l-vw G h=1)(P:Od G l h p)(Q:Od G l h q)(hl:(p.length=2/\q.length=2)\/(p.length=3/\q.length=3/\NoR G l h)):p=q:=by
 have C:=P.flt.cnt;obtain⟨M,m0,hM⟩:=vf C Q.flt.cnt lt P.one Q.one λz z1 z2=>(fi hG lt o P z1 z2).trans (fi hG lt o Q z1 z2).symm
 have lp:=P.pln.pos;have lq:=Q.pln.pos;rcases hl with⟨h1,h2⟩ |⟨h1,h2,hn⟩
 ·obtain⟨p0,p1,rfl⟩:=oA h1;obtain⟨q0,q1,rfl⟩:=oA h2;have lp':0<p1:=lp;have lq':0<q1:=lq;obtain⟨A,a0,hA⟩:=ig (q1:Rat);obtain⟨B,b0,hB⟩:=ig (p1:Rat)
  have z:(q1:Rat)*(p0:Rat)-(p1:Rat)*(q0:Rat)=0:=by
   refine BN (C:=(A+B)*M) (ND (by grind) m0) λδ hδ=>?_
   obtain⟨u,v,_,_,_,_,_,_,s1,s2⟩:=hM δ hδ;have k:=hA.lin hB s1 s2
   have e:(q1:Rat)*pv [p0,p1] u-(p1:Rat)*pv [q0,q1] u=(q1:Rat)*(p0:Rat)-(p1:Rat)*(q0:Rat):=by show(q1:Rat)*((p0:Rat)+u*((p1:Rat)+u*0))-(p1:Rat)*((q0:Rat)+u*((q1:Rat)+u*0))=_;grind
   rw[e]at k;have e2:A*(M*δ)+B*(M*δ)=(A+B)*M*δ:=by grind
   rwa [e2]at k
  rw[<- NC,<- NC,<- Pt]at z;have z':q1*p0-p1*q0=0:=OV.mp z;refine yX P.pln Q.pln (x:=q1) (y:=p1) (by omega) (by omega) ?_;show[q1*p0,q1*p1]=[p1*q0,p1*q1];rw[show q1*p0=p1*q0 by omega,Om q1 p1]
 ·obtain⟨p0,p1,p2,rfl⟩:=oB h1;obtain⟨q0,q1,q2,rfl⟩:=oB h2;have lp':0<p2:=lp;have lq':0<q2:=lq;obtain⟨A,a0,hA⟩:=ig (q2:Rat);obtain⟨B,b0,hB⟩:=ig (p2:Rat)
  have lin:∀u:Rat,(q2:Rat)*pv [p0,p1,p2] u-(p2:Rat)*pv [q0,q1,q2] u=((q2*p1-p2*q1:Int):Rat)*u+((q2*p0-p2*q0:Int):Rat):=λu=>by show(q2:Rat)*((p0:Rat)+u*((p1:Rat)+u*((p2:Rat)+u*0)))-(p2:Rat)*((q0:Rat)+u*((q1:Rat)+u*((q2:Rat)+u*0)))=_;rw[Pt,Pt,NC,NC,NC,NC];grind
  have near:∀δ:Rat,0<δ->∃u v,l<=u/\u<v/\v<=h/\v-u<=δ/\vw [p0,p1,p2] u=vw [p0,p1,p2] l/\vw [p0,p1,p2] v=vw [p0,p1,p2] h/\Bd ((A+B)*M*δ) (((q2*p1-p2*q1:Int):Rat)*u+((q2*p0-p2*q0:Int):Rat)):=λδ hδ=>by
   obtain⟨u,v,u1,u2,u3,u4,g1,g2,s1,s2⟩:=hM δ hδ;have k:=hA.lin hB s1 s2;rw[lin]at k;have e2:A*(M*δ)+B*(M*δ)=(A+B)*M*δ:=by grind
   rw[e2]at k;exact⟨u,v,u1,u2,u3,u4,g1,g2,k⟩
  have K0:0<=(A+B)*M:=ND (by grind) m0;generalize hα:q2*p1-p2*q1=α at *
  generalize hβ:q2*p0-p2*q0=β at *
  generalize (A+B)*M=K at *
  by_cases ha:α=0
  ·have z:(β:Rat)=0:=BN K0 λδ hδ=>by
    obtain⟨u,v,_,_,_,_,_,_,k⟩:=near δ hδ;rw[ha]at k
    have e:((0:Int):Rat)*u+(β:Rat)=(β:Rat):=by show(0:Rat)*u+_=_;grind
    rwa [e]at k
   have z':β=0:=OV.mp z;refine yX P.pln Q.pln (x:=q2) (y:=p2) (by omega) (by omega) ?_;show[q2*p0,q2*p1,q2*p2]=[p2*q0,p2*q1,p2*q2];rw[show q2*p0=p2*q0 by omega,show q2*p1=p2*q1 by omega,Om q2 p2]
  ·exfalso;have ha':(α:Rat)≠0:=dC ha
   obtain⟨c,c0,hc⟩:∃c:Rat,0<c/\((α:Rat)=c\/(α:Rat) = -c):=by
    rcases iC (α:Rat) 0 with z |z |z
    ·exact⟨-(α:Rat),by grind,.inr (by grind)⟩
    ·exact absurd z ha'
    ·exact⟨(α:Rat),z,.inl rfl⟩
   have er : -(β:Rat)/(α:Rat)*(α:Rat) = -(β:Rat):=Nx ha';generalize -(β:Rat)/(α:Rat)=r at *
   have close:∀η:Rat,0<η->∃u v,l<=u/\u<v/\v<=h/\v-u<=η/\vw [p0,p1,p2] u=vw [p0,p1,p2] l/\vw [p0,p1,p2] v=vw [p0,p1,p2] h/\r-η<=u/\u<=r+η:=λη hη=>by
    have hK:0<K+1:=by grind
    have q0:0<η*c/(K+1):=cw (NV hη c0) hK;have qe:η*c/(K+1)*(K+1)=η*c:=Nx (by grind)
    obtain⟨δ,d0,d1,d2⟩:∃δ:Rat,0<δ/\δ<=η/\K*δ<=η*c:=by
     generalize η*c/(K+1)=t at *
     rcases NG (a:=η) (b:=t)with z |z
     ·exact⟨η,hη,Nt,by have:=NE z K0;grind⟩
     ·exact⟨t,q0,z,by grind⟩
    obtain⟨u,v,u1,u2,u3,u4,g1,g2,k1,k2⟩:=near δ d0;have e:(α:Rat)*u+(β:Rat)=(α:Rat)*(u-r):=by grind
    rw[e]at k1 k2;refine⟨u,v,u1,u2,u3,by grind,g1,g2,?_,?_⟩
    ·rcases hc with z |z<;>rw[z]at k1 k2<;>exact du c0 (by grind)
    ·rcases hc with z |z<;>rw[z]at k1 k2<;>exact du c0 (by grind)
   have left:∀z,l<=z->z<=h->z<r->vw [p0,p1,p2] z=vw [p0,p1,p2] l:=λz z1 z2 z3=>by obtain⟨u,v,u1,u2,u3,u4,g1,g2,k1,k2⟩:=close ((r-z)/2) (by grind);have a1:=C.le z1;have a2:=C.mono (show z<u by grind);omega
   have right:∀z,l<=z->z<=h->r<z->vw [p0,p1,p2] z=vw [p0,p1,p2] h:=λz z1 z2 z3=>by obtain⟨u,v,u1,u2,u3,u4,g1,g2,k1,k2⟩:=close ((z-r)/3) (by grind);have a1:=C.le z2;have a2:=C.mono (show v<z by grind);omega
   have o1:=P.one
   have r1:l<r:=OB.mp λw=>by obtain⟨z,z1,z2,z3⟩:=C.start lt;have:=right z (Np z1) z2 (by grind);omega
   have r2:r<=h:=Oi.mp λw=>by have:=left h (Np lt) Nt w;omega
   refine hn r r1 r2 (eK P.dv ?_);apply Classical.byContradiction;intro nz;obtain⟨η1,n1,s1⟩:=C.nc.near r nz;obtain⟨η2,n2,s2⟩:=C.nc.nearL r nz;obtain⟨δ,d0,dp⟩:=C.loc l h
   obtain⟨t,t0,t1,t2,t3⟩:∃t:Rat,0<t/\t<=η1/\t<=η2/\t<=δ/2:=by
    rcases NG (a:=η1) (b:=η2)with z |z
    ·rcases NG (a:=η1) (b:=δ/2)with w |w
     ·exact⟨η1,n1,Nt,z,w⟩
     ·exact⟨δ/2,by grind,w,NZ w z,Nt⟩
    ·rcases NG (a:=η2) (b:=δ/2)with w |w
     ·exact⟨η2,n2,z,Nt,w⟩
     ·exact⟨δ/2,by grind,NZ w z,w,Nt⟩
   obtain⟨x,x1,x2,x3⟩:∃x,l<=x/\x<r/\r-x<=t:=by
    rcases NG (a:=l) (b:=r-t)with w |w
    ·exact⟨r-t,w,by grind,by grind⟩
    ·exact⟨l,Nt,r1,by grind⟩
   have ex:=left x x1 (by grind) x2;rcases da r2 with w |w
   ·obtain⟨y,y1,y2,y3⟩:∃y,r<y/\y<=h/\y-r<=t:=by
     rcases NG (a:=h) (b:=r+t)with w' |w'
     ·exact⟨h,w,Nt,by grind⟩
     ·exact⟨r+t,by grind,w',by grind⟩
    have ey:=right y (by grind) y2 y1;have:=dp x y x1 (by grind) y2 (by grind);obtain⟨_,sx⟩:=ju (f:=pv [p0,p1,p2]) (x:=x) (y:=y) (by omega);exact sx (by rw[s1 y (by grind) (by grind),s2 x (by grind) (by grind)])
   ·have:=dp x h x1 (by grind) Nt (by grind);obtain⟨_,sx⟩:=ju (f:=pv [p0,p1,p2]) (x:=x) (y:=h) (by omega);exact sx (by rw[<- w,s2 x (by grind) (by grind)])
def wa{G G' p p':Ex}{τ:Ex->Ex}{l h l' h':Rat}(hG':Flt G')(lt:l<h)(lt':l'<h')(o':vw G' l'-vw G' h'=1)(F:∀q,Od G l h q->Od G' l' h' (τ q)/\(τ q).length=q.length)(F':∀q,Od G' l' h' q->∃q0,Od G l h q0/\q0.length=q.length)(hτ:τ G=G')(L:LS G l h p)(L':LS G' l' h' p'):p'=τ p:=by
 obtain⟨t1,t2⟩:=F p L.od
 have noL:NoR G l h->p'.length≠2:=λhn e=>by obtain⟨q0,Q,e0⟩:=F' p' L'.od;obtain⟨r,r1,r2,r3⟩:=um lt Q (by omega);exact hn r r1 r2 (eK Q.dv r3)
 rcases L.kd with z |⟨hn,z⟩ |⟨hn,hq,z⟩
 ·obtain⟨r,r1,r2,r3⟩:=um lt' t1 (by omega);rcases L'.kd with y |⟨hn',_⟩ |⟨hn',_⟩
  ·exact zj hG' lt' o' L'.od t1 (.inl ⟨y,by omega⟩)
  ·exact absurd (eK t1.dv r3) (hn' r r1 r2)
  ·exact absurd (eK t1.dv r3) (hn' r r1 r2)
 ·rcases L'.kd with y |⟨hn',y⟩ |⟨hn',hq',_⟩
  ·exact absurd y (noL hn)
  ·exact zj hG' lt' o' L'.od t1 (.inr ⟨y,by omega,hn'⟩)
  ·exact absurd t1.one (hq' _ t1.pln (by omega) t1.dv)
 ·rcases L'.kd with y |⟨_,y⟩ |⟨_,_,y⟩
  ·exact absurd y (noL hn)
  ·obtain⟨q0,Q,e0⟩:=F' p' L'.od;exact absurd Q.one (hq q0 Q.pln (by omega) Q.dv)
  ·rw[y,z,hτ]
theorem tD:∀{a b:Ex},a.length=b.length->(∀x:Rat,0<x->x<=1->pv a x=pv b x)->a=b
 | [],[],_,_=>rfl
 |c::a,d::b,hl,h=>by
  have hl':a.length=b.length:=by simpa using hl
  obtain⟨M,m0,m1,_⟩:=cY a 1 (by decide);obtain⟨N,n0,n1,_⟩:=cY b 1 (by decide)
  have key:∀x:Rat,0<x->x<=1->(c:Rat)-(d:Rat)=x*(pv b x-pv a x):=λx h0 h1=>by have e:(c:Rat)+x*pv a x=(d:Rat)+x*pv b x:=h x h0 h1;grind
  have z:(c:Rat)-(d:Rat)=0:=by
   apply Classical.byContradiction;intro hn
   obtain⟨t,t0,ht⟩:∃t:Rat,0<t/\((c:Rat)-(d:Rat)=t\/(c:Rat)-(d:Rat) = -t):=by
    rcases iC ((c:Rat)-(d:Rat)) 0 with z |z |z
    ·exact⟨-((c:Rat)-(d:Rat)),by grind,.inr (by grind)⟩
    ·exact absurd z hn
    ·exact⟨_,z,.inl rfl⟩
   have q0:0<t/(M+N+1):=cw t0 (by grind);have qe:t/(M+N+1)*(M+N+1)=t:=Nx (by grind)
   obtain⟨x,x0,x1,x2⟩:∃x:Rat,0<x/\x<=1/\x*(M+N)<t:=by
    generalize t/(M+N+1)=w at *
    rcases NG (a:=w) (b:=1)with y |y
    ·exact⟨w,q0,y,by grind⟩
    ·exact⟨1,by decide,by decide,by
      have:=ND (show 0<=w-1 by grind) (show 0<=M+N+1 by grind)
      grind⟩
   have k:=key x x0 x1;obtain⟨a1,a2⟩:=m1 x ⟨by grind,x1⟩;obtain⟨b1,b2⟩:=n1 x ⟨by grind,x1⟩;generalize pv a x=u at *
   generalize pv b x=v at *
   have g1:=NE (show v-u<=M+N by grind) (Np x0);have g2:=NE (show -(M+N)<=v-u by grind) (Np x0);rcases ht with r |r<;>grind
  have e:c=d:=by
   have:(c:Rat)=(d:Rat):=by grind
   exact OV.mp this
  subst e
  have:=tD hl' λx h0 h1=>by
   have k:=key x h0 h1;have:x*(pv b x-pv a x)=0:=by grind
   rcases Oo.mp this with y |y
   ·grind
   ·grind
  rw[this]
def mq(c:Int)(l:Ex)(n:Nat):cf (c::l) (n+1)=cf l n:=by simp[cf]
def jw(c:Int)(l:Ex):cf (c::l) 0=c:=by simp[cf]
def n5(x:Rat):∀l:Ex,pv (turnL l) x=pv l (-x):=λl=>by
 have gen:∀(l:Ex) (s:Ex) (e:Int),(e=1\/e = -1)->s.length=l.length->(∀k,cf s k=if k%2=0 then e*cf l k else -(e*cf l k))->pv s x=(e:Rat)*pv l (-x):=by
  intro l
  induction l with
  |nil =>intro s e _ hl _;rw[Os hl];show(0:Rat)=_*0;grind
  |cons c l ih =>
   intro s e he hl h
   match s,hl with
   |d::s,hl =>
    have h0:=h 0;rw[jw,jw,if_pos rfl]at h0
    have:=ih s (-e) (by omega) (by simpa using hl) λk=>by
     have hk:=h (k+1);rw[mq,mq]at hk;rw[hk];rcases Qi k with q |q
     ·rw[if_neg (by omega),if_pos q];grind
     ·rw[if_pos (by omega),if_neg (by omega)];grind
    show(d:Rat)+x*pv s x=(e:Rat)*((c:Rat) + -x*pv l (-x));rw[this,h0,NC,Ow];grind
 have:=gen l (turnL l) 1 (.inl rfl) (dO l) λk=>by rw[dZ,NM]
 rw[this];show(1:Rat)*_=_;grind
def wb(a b:Ex):turnL (ag a b)=ag (turnL a) (turnL b):=by
 by_cases ha:a=[]
 ·rw[ha];rfl
 by_cases hb:b=[]
 ·rw[hb,show ag a []=[]from if_pos (.inr rfl),show turnL []=[]from rfl,show ag (turnL a) []=[]from if_pos (.inr rfl)]
 have na:∀{l:Ex},l≠[]->turnL l≠[]:=λ{l} h z=>by have:=dO l;rw[z]at this;exact h (Os this.symm)
 refine tD (by rw[dO,bK ha hb,bK (na ha) (na hb),dO,dO]) λx _ _=>?_
 rw[n5,eh (-x) a b _ (ay a b),eh x (turnL a) (turnL b) _ (ay _ _),n5,n5]
theorem lA{x:Rat}(hx:x≠0):∀l:Ex,l≠[]->pv l.reverse x=x^(l.length-1)*pv l (1/x)
 | [],h=>absurd rfl h
 | [c],_=>by show(c:Rat)+x*0=x^0*((c:Rat)+1/x*0);rw[OD];grind
 |c::d::l,_=>by
  have ih:=lA hx (d::l) (by simp);have e1:1/x*x=1:=Nx hx;rw[O6,tu,ih,NS];show x^(l.length)*pv (d::l) (1/x)+(c:Rat)*x^(l.length+1)=x^(l.length+1)*((c:Rat)+1/x*pv (d::l) (1/x));rw[Og];generalize pv (d::l) (1/x)=y;generalize x^l.length=w;generalize 1/x=v at *
  have:w*x*((c:Rat)+v*y)=w*x*c+w*(v*x)*y:=by grind
  rw[this,e1];grind
def yx{a b:Ex}(ha:a≠[])(hb:b≠[]):(ag a b).reverse=ag a.reverse b.reverse:=by
 have ha':a.reverse≠[]:=by simpa using ha
 have hb':b.reverse≠[]:=by simpa using hb
 have l1:=bK ha hb;have l2:=bK ha' hb';rw[NS,NS]at l2;have h1:=Nz.mpr ha;have h2:=Nz.mpr hb;have hm:ag a b≠[]:=λz=>by rw[z]at l1;simp at l1;omega
 refine tD (by rw[NS];omega) λx x0 _=>?_
 have hx:x≠0:=by grind
 rw[lA hx _ hm,eh (1/x) a b _ (ay a b),eh x a.reverse b.reverse _ (ay _ _),lA hx a ha,lA hx b hb];have e:(ag a b).length-1=(a.length-1)+(b.length-1):=by omega
 rw[e,ll];grind
def gw{l:Ex}(h:Tr l):Tr (turnL l):=λn e=>by rw[dO]at e;have:=h n e;rw[dZ];split<;>omega
def iw{l:Ex}(h:l≠[]):turnL l≠[]:=λz=>by have:=dO l;rw[z]at this;exact h (Os this.symm)
def Dv.turn{d p:Ex}(h:Dv d p):Dv (turnL d) (turnL p):=by
 obtain⟨c,q,hc,e⟩:=h;refine⟨c,turnL q,hc,λn=>?_⟩;have e1:aw (turnL q) (turnL d) n=cf (turnL (ag q d)) n:=by rw[wb,ay]
 rw[e1,dZ,dZ,ay,<- e];split
 ·rfl
 ·grind
def xQ(l:Ex)(n:Nat):cf (slopeL (turnL l)) n = -cf (turnL (slopeL l)) n:=by
 rw[cu,dZ,dZ,cu];rcases Qi n with q |q
 ·rw[if_neg (by omega),if_pos q];grind
 ·rw[if_pos (by omega),if_neg (by omega)];grind
def Dv.neg{d p p':Ex}(h:∀n,cf p' n = -cf p n)(hd:Dv d p):Dv d p':=Dv.prop_right (x:=1) (y := -1) (by decide) (λn=>by rw[h];omega) hd
structure FlatOf(F G:Ex):Prop where
 pln:Pln G
 ex:∃(O:Ex) (k:Int),Tr O/\O≠[]/\k≠0/\(∀n,k*cf F n=aw G O n)/\Dv O (slopeL F)/\∀x,Dv x F->Dv x (slopeL F)->Dv x O
def FlatOf.uniq{F G G':Ex}(h:FlatOf F G)(h':FlatOf F G'):G=G':=by
 have half:∀{G G':Ex},FlatOf F G->FlatOf F G'->Dv G G':=λ{G G'} h h'=>by
  obtain⟨O,k,tO,nO,hk,e,s,a⟩:=h.ex;obtain⟨O',k',tO',nO',hk',e',s',a'⟩:=h'.ex;have d1:Dv O' F:=⟨k',G',hk',e'⟩;have d2:Dv O' O:=a _ d1 s';have d3:Dv (ag O' G') (ag O G'):=mh d2 (Dv.refl _)
  have d4:Dv (ag O G) (ag O' G'):=by have f1:Dv (ag O G) F:=⟨k,[1],hk,λn=>by rw[gb,ay,eD O G,<- e];omega⟩;exact f1.trans (Dv.prop_right (x:=1) (y:=k') (by decide) (λn=>by rw[e',ay,eD];omega) (Dv.refl F))
  exact Dv.cancel nO tO (d4.trans d3)
 exact Fj h.pln h'.pln (half h h') (half h' h)
def FlatOf.flt{F G:Ex}(h:FlatOf F G)(h2:2<=G.length)(h8:G.length<=9):Flt G:=by obtain⟨O,k,tO,nO,hk,e,s,a⟩:=h.ex;exact⟨h.pln.tr,h2,h8,Jk hk tO nO e a⟩
def FlatOf.turn{F G:Ex}(h:FlatOf F G):FlatOf (turnL F) (aq (turnL G)):=by
 obtain⟨O,k,tO,nO,hk,e,s,a⟩:=h.ex;have tG:=gw h.pln.tr;have nG:=iw h.pln.ne;obtain⟨c,hc,ec⟩:=dM tG nG;refine⟨cX tG nG,aE c (turnL O),k,eO hc (gw tO),λz=>iw nO (by unfold aE at z;simpa using z),hk,λn=>?_,?_,λx d1 d2=>?_⟩
 ·rw[eA (c:=c) (aK c (turnL O)),<- iH (b:=turnL O) ec];have e1:aw (turnL G) (turnL O) n=cf (turnL (ag G O)) n:=by rw[wb,ay]
  rw[e1,dZ,dZ,ay,<- e];split
  ·rfl
  ·grind
 ·exact Dv.prop_left (x:=1) (y:=c) (by decide) hc (λn=>by rw[aK];omega) (Dv.neg (xQ F) s.turn)
 ·have b1:Dv (turnL x) F:=by have:=d1.turn;rwa [mK]at this
  have b2:Dv (turnL x) (slopeL F):=by
   have:=(Dv.neg (p':=turnL (slopeL F)) (λn=>by rw[xQ];omega) d2).turn
   rwa [mK]at this
  have b3:=(a _ b1 b2).turn;rw[mK]at b3;exact Dv.prop_right (x:=1) (y:=c) (by decide) (λn=>by rw[aK];omega) b3
def Kj(l:Ex)(n:Nat):cf (0::l) n=up (cf l) n:=by rw[pB];split<;>omega
def Dv.shift{d p:Ex}(h:Dv d p):Dv d (0::p):=by
 obtain⟨c,q,hc,e⟩:=h;refine⟨c,0::q,hc,λn=>?_⟩;rw[dB,Kj];unfold RM.up;split
 ·omega
 ·rw[e];omega
def Dv.unshift{d p:Ex}(h0:cf d 0≠0)(h:Dv d (0::p)):Dv d p:=by
 obtain⟨c,q,hc,e⟩:=h;have z:=e 0;rw[jw,NQ]at z
 match q,e,z with
 | [],e,z =>refine⟨c,[],hc,λn=>?_⟩;have:=e (n+1);rw[mq,dN]at this;rw[this,dN]
 |y::q,e,z =>
  rw[dB]at z
  have hy:y=0:=by
   unfold RM.up at z
   rw[if_pos rfl,Of]at z;rcases Pa.mp z.symm with w |w
   ·exact w
   ·exact absurd w h0
  refine⟨c,q,hc,λn=>?_⟩;have:=e (n+1);rw[mq,dB,hy]at this;unfold RM.up at this
  rw[if_neg (by omega)]at this;rw[this];show 0*_+aw q d (n+1-1)=_;rw[PV];omega
def fK{l:Ex}(h:cf l 0≠0):Tr l.reverse:=λn e=>by
 rw[NS]at e;rw[dH,if_pos (by omega)];have:l.length-1-n=0:=by omega
 rw[this];exact h
def lf{l:Ex}(h:Tr l)(hne:l≠[]):cf l.reverse 0≠0:=by have:=Nz.mpr hne;rw[dH,if_pos this];exact h _ (by omega)
def sV(c:Int)(l:Ex):(aE c l).reverse=aE c l.reverse:=by unfold aE;rw[List.map_reverse]
def Dv.rev{d p:Ex}(td:Tr d)(nd:d≠[])(tp:Tr p)(np:p≠[])(h:Dv d p):Dv d.reverse p.reverse:=by
 obtain⟨c,q,hc,tq,e⟩:=h.trim
 have nq:q≠[]:=λz=>by
  refine np (gC tp (λn hn=>absurd hn (by simp)) λn=>?_);have e1:=e n;rw[z,dN]at e1;rw[bw];rcases Pa.mp e1 with r |r
  ·exact absurd r hc
  ·exact r
 have el:aE c p=ag q d:=gC (eO hc tp) (fI tq td) λn=>by rw[aK,ay,e]
 refine⟨c,q.reverse,hc,λn=>?_⟩;rw[<- ay,<- yx nq nd,<- el,sV,aK]
def va{G O F:Ex}{k:Int}(h:∀n,k*cf F n=aw G O n):k*cf F 0=cf G 0*cf O 0:=by
 rw[h]
 match G with
 | []=>rw[dN,bw];omega
 |y::G =>rw[dB,jw];unfold RM.up;rw[if_pos rfl];omega
theorem wf:∀(n:Nat) (l:Ex),l.length=n->∃j,l=trim l++List.replicate j 0
 |0,l,h=>⟨0,by rw[Os h];rfl⟩
 |n+1,l,h=>by
  have hne:l≠[]:=λz=>by rw[z]at h;simp at h
  obtain⟨r,x,rfl⟩:∃r x,l=r++[x]:=⟨l.dropLast,l.getLast hne,(List.dropLast_concat_getLast hne).symm⟩;by_cases hx:x=0
  ·obtain⟨j,hj⟩:=wf n r (by simpa using h);refine⟨j+1,?_⟩;rw[hx,kP,List.replicate_succ',<- NY,<- hj]
  ·exact⟨0,by rw[jG r hx];simp⟩
def dJ(F:Ex):Ex:=(List.range (F.length-1)).map λi=>((F.length-1-i:Nat):Int)*cf F i
def jE(F:Ex):(dJ F).length=F.length-1:=by unfold dJ;simp
def uX(F:Ex)(i:Nat):cf (dJ F) i=((F.length-1:Nat):Int)*cf F i-cf (0::slopeL F) i:=by
 have e2:cf (0::slopeL F) i=(i:Int)*cf F i:=by
  cases i with
  |zero=>rw[jw];show(0:Int)=0*_;omega
  |succ i=>rw[mq,cu];rfl
 rw[e2];by_cases h:i<F.length-1
 ·rw[cU (by rw[jE];exact h)];unfold dJ;rw[List.getElem_map,List.getElem_range];have:((F.length-1-i:Nat):Int)=((F.length-1:Nat):Int)-(i:Int):=by omega
  rw[this,Int.sub_mul]
 ·rw[bQ (by rw[jE];omega)];by_cases h2:i=F.length-1
  ·rw[<- h2];omega
  ·rw[bQ (l:=F) (by omega)];omega
def xR(F:Ex):slopeL F.reverse=(dJ F).reverse:=by
 refine gm (by rw[fB,NS,NS,jE]) λn hn=>?_
 rw[fB,NS]at hn;rw[cu,dH,if_pos (by omega),dH,if_pos (by rw[jE];omega),jE];rw[cU (l:=dJ F) (by rw[jE];omega)];unfold dJ;rw[List.getElem_map,List.getElem_range];have e1:F.length-1-1-n=F.length-1-(n+1):=by omega
 have e2:F.length-1-(F.length-1-1-n)=n+1:=by omega
 rw[e2,e1];have e3:((n+1:Nat):Int)=(n:Int)+1:=by omega
 rw[e3]
def FlatOf.rev{F G:Ex}(tF:Tr F)(l2:2<=F.length)(h0:cf F 0≠0)(h:FlatOf F G):FlatOf F.reverse (aq G.reverse)/\cf G 0≠0:=by
 obtain⟨O,k,tO,nO,hk,e,s,a⟩:=h.ex;have nF:F≠[]:=λz=>by rw[z]at l2;simp at l2
 have e00:=va e;have kF:k*cf F 0≠0:=N3 hk h0;have g0:cf G 0≠0:=λz=>by rw[z,Ov]at e00;exact kF e00
 have o0:cf O 0≠0:=λz=>by rw[z,NQ]at e00;exact kF e00
 have tG:=fK g0;have nG:G.reverse≠[]:=by simpa using h.pln.ne
 obtain⟨c,hc,ec⟩:=dM tG nG;have el:aE k F=ag G O:=gC (eO hk tF) (fI h.pln.tr tO) λn=>by rw[aK,ay,e]
 have tE:cf (dJ F) 0≠0:=by rw[uX,jw,Int.sub_zero];exact N3 (by omega) h0
 have nE:dJ F≠[]:=λz=>by rw[z,bw]at tE;exact tE rfl
 have nR:O.reverse≠[]:=by simpa using nO
 have nE':(dJ F).reverse≠[]:=by simpa using nE
 refine⟨⟨cX tG nG,aE c O.reverse,k,eO hc (fK o0),λz=>nR (by unfold aE at z;simpa using z),hk,λn=>?_,?_,λx d1 d2=>?_⟩,g0⟩
 ·rw[eA (c:=c) (aK c O.reverse),<- iH (b:=O.reverse) ec,<- ay,<- yx h.pln.ne nO,<- el,sV,aK]
 ·refine Dv.prop_left (d:=O.reverse) (x:=1) (y:=c) (by decide) hc (λn=>by rw[aK];omega) ?_;rw[xR];have dF:Dv O F:=⟨k,G,hk,e⟩;have dW:Dv O (dJ F):=Dv.down (q:=[1]) (f:=((F.length-1:Nat):Int)) (λn=>by rw[gb,uX];omega) dF s.shift;have tW:=fH (dJ F)
  have nW:trim (dJ F)≠[]:=λz=>by have:=eZ (dJ F) 0;rw[z,bw]at this;exact tE this.symm
  have dT:Dv O (trim (dJ F)):=Dv.prop_right (x:=1) (y:=1) (by decide) (λn=>by rw[eZ]) dW;have dR:=Dv.rev tO nO tW nW dT;obtain⟨j,hj⟩:=wf _ (dJ F) rfl;rw[hj,PD,List.reverse_replicate];clear hj
  induction j with
  |zero=>exact dR
  |succ j ih=>exact ih.shift
 ·have d1':Dv (trim x) F.reverse:=Dv.prop_left (x:=1) (y:=1) (by decide) (by decide) (λn=>by rw[eZ]) d1;have d2':Dv (trim x) (slopeL F.reverse):=Dv.prop_left (x:=1) (y:=1) (by decide) (by decide) (λn=>by rw[eZ]) d2;have r0:=lf tF nF
  have x0:cf (trim x) 0≠0:=λz=>by obtain⟨c1,q1,h1,e1⟩:=d1';have:=va e1;rw[z,NQ]at this;exact N3 h1 r0 this
  have nx:trim x≠[]:=λz=>by rw[z,bw]at x0;exact x0 rfl
  have tx:=fH x;have tx':=fK x0;have nx':(trim x).reverse≠[]:=by simpa using nx
  have b1:Dv (trim x).reverse F:=by
   have:=Dv.rev tx nx (fK h0) (by simpa using nF) d1'
   rwa [PF]at this
  have b2:Dv (trim x).reverse (dJ F):=by
   rw[xR]at d2';have:=Dv.rev tx nx (fK tE) nE' d2'
   rwa [PF]at this
  have b3:Dv (trim x).reverse (0::slopeL F):=Dv.down (q:=[1]) (f:=((F.length-1:Nat):Int)) (λn=>by rw[gb,uX];omega) b1 b2;have b4:=b3.unshift (lf tx nx);have b5:=a _ b1 b4;have b6:=Dv.rev tx' nx' tO nO b5;rw[PF]at b6;have b7:Dv x O.reverse:=Dv.prop_left (x:=1) (y:=1) (by decide) (by decide) (λn=>by rw[eZ]) b6;exact Dv.prop_right (x:=1) (y:=c) (by decide) (λn=>by rw[aK];omega) b7
def Φm(Lo:Rat->Prop)(y:Rat):Prop:=¬Lo (-y)
def Φf(Lo:Rat->Prop)(y:Rat):Prop:=(Lo 0/\(0<=y\/¬Lo (1/y)))\/(¬Lo 0/\0<y/\¬Lo (1/y))
section
variable {f g:Rat->Rat}{V W:Rat->Int}
def kM{T m T' m' ε:Int}(h1:Rts f V T m)(h2:Rts g W T' m')(hε:ε=1\/ε = -1)(hs:∀x,ai (g (-x))=ε*ai (f x)):m'=m/\∀i y,m+1-i<=T'-W y↔Φm (λz=>i<=T-V z-zf f z) y:=by obtain⟨e,h⟩:=uk h1 h2 hε hs;refine⟨e,λi y=>?_⟩;have:=h y;unfold Φm;omega
def kO{T m T' m':Int}(h1:Rts f V T m)(h2:Rts g W T' m')(f0:f 0≠0)(g0:g 0≠0){ε ε':Int}(hε:ε=1\/ε = -1)(hε':ε'=1\/ε' = -1)(hp:∀x,0<x->ai (g (1/x))=ε*ai (f x))(hn:∀x,x<0->ai (g (1/x))=ε'*ai (f x)) :
 m'=m/\T'-W 0=T-V 0/\∀i,1<=i->i<=m->∀y,(if i<=T-V 0 then T-V 0+1-i else m+(T-V 0)+1-i)<=T'-W y↔Φf (λz=>i<=T-V z-zf f z) y:=by
 obtain⟨e,e0,hb,ha⟩:=uJ h1 h2 f0 g0 rfl hε hε' hp hn;refine⟨e,e0,λi i1 i2 y=>?_⟩;have z0:=dI f0;have l0:(i<=T-V 0-zf f 0)↔i<=T-V 0:=by omega
 unfold Φf;dsimp only
 rw[l0];rcases iC y 0 with q |q |q
 ·have k:=hb y q;have n1:¬0<=y:=by grind
  have n2:¬0<y:=by grind
  by_cases c:i<=T-V 0
  ·rw[if_pos c];constructor
   ·intro h;exact .inl ⟨c,.inr (by omega)⟩
   ·rintro(⟨_,h |h⟩ |⟨h,_⟩)
    ·exact absurd h n1
    ·omega
    ·exact absurd c h
  ·rw[if_neg c];have b:=h1.in (1/y);constructor
   ·intro h;omega
   ·rintro(⟨h,_⟩ |⟨_,h,_⟩)
    ·exact absurd h c
    ·exact absurd h n2
 ·subst q;by_cases c:i<=T-V 0
  ·rw[if_pos c];constructor
   ·intro _;exact .inl ⟨c,.inl Nt⟩
   ·intro _;omega
  ·rw[if_neg c];constructor
   ·intro h;omega
   ·rintro(⟨h,_⟩ |⟨_,h,_⟩)
    ·exact absurd h c
    ·exact absurd h (by decide)
 ·have k:=ha y q;have b:=h1.in (1/y);have mo:=h2.c.mono q;by_cases c:i<=T-V 0
  ·rw[if_pos c];constructor
   ·intro _;exact .inl ⟨c,.inl (Np q)⟩
   ·intro _;omega
  ·rw[if_neg c];constructor
   ·intro h;exact .inr ⟨c,q,by omega⟩
   ·rintro(⟨h,_⟩ |⟨_,_,h⟩)
    ·exact absurd h c
    ·omega
end
def yR{a b:Ex}{c:Int}(hc:c≠0)(h:∀n,cf a n=c*cf b n):∃ε:Int,(ε=1\/ε = -1)/\∀x,ai (pv b x)=ε*ai (pv a x):=by
 refine⟨ai (c:Rat),?_,λx=>?_⟩
 ·rcases bh (c:Rat)with⟨_,e⟩ |⟨e,_⟩ |⟨_,e⟩
  ·exact .inr e
  ·exact absurd e (dC hc)
  ·exact .inl e
 ·rw[db x h,kY];rcases bh (c:Rat)with⟨_,e⟩ |⟨e,_⟩ |⟨_,e⟩<;>rw[e]<;>first |omega |exact absurd (by assumption) (dC hc)
def jk{q t:Ex}{c:Int}(hc:c≠0)(h:∀n,cf (turnL q) n=c*cf t n):∃ε:Int,(ε=1\/ε = -1)/\∀x,ai (pv t (-x))=ε*ai (pv q x):=by obtain⟨ε,h1,h2⟩:=yR hc h;exact⟨ε,h1,λx=>by rw[h2,n5,OX]⟩
def jn{q t:Ex}{c:Int}(hq:q≠[])(hc:c≠0)(h:∀n,cf q.reverse n=c*cf t n):(∃ε:Int,(ε=1\/ε = -1)/\∀x,0<x->ai (pv t (1/x))=ε*ai (pv q x))/\∃ε:Int,(ε=1\/ε = -1)/\∀x,x<0->ai (pv t (1/x))=ε*ai (pv q x):=by
 obtain⟨ε,h1,h2⟩:=yR hc h
 have inv:∀x:Rat,x≠0->1/x≠0/\1/(1/x)=x:=λx hx=>by
  have e1:1/x*x=1:=Nx hx;have hy:1/x≠0:=λz=>by rw[z,Ps]at e1;exact absurd e1 (by decide)
  refine⟨hy,?_⟩;have e2:1/(1/x)*(1/x)=1:=Nx hy;generalize 1/(1/x)=u at *
  generalize 1/x=v at *
  have:u*(v*x)=x:=by
   have:u*(v*x)=u*v*x:=by grind
   rw[this,e2];grind
  rw[e1]at this;grind
 have val:∀x:Rat,x≠0->ai (pv t (1/x))=ε*(ai ((1/x)^(q.length-1))*ai (pv q x)):=λx hx=>by obtain⟨i1,i2⟩:=inv x hx;rw[h2,lA i1 q hq,i2,kY]
 have ppos:∀(y:Rat),0<y->∀n:Nat,ai (y^n)=1:=λy hy n=>by have:(0:Rat)<y^n:=OC hy;unfold ai;rw[if_neg (by grind),if_pos this]
 refine⟨⟨ε,h1,λx hx=>?_⟩,⟨ε*(if(q.length-1)%2=0 then 1 else -1),?_,λx hx=>?_⟩⟩
 ·rw[val x (by grind),ppos _ (cw (by decide) hx),NM]
 ·split<;>omega
 ·rw[val x (by grind)];have e1:1/x*x=1:=Nx (by grind)
  have hneg:1/x<0:=OB.mp λz=>by have:=ND z (show 0 <= -x by grind);grind
  have e2:(1/x)^(q.length-1)=(if(q.length-1)%2=0 then 1 else -1)*(-(1/x))^(q.length-1):=by
   have:=tZ (-(1/x)) (q.length-1)
   rwa [OX]at this
  rw[e2,kY,ppos _ (by grind)];have e3:ai (if(q.length-1)%2=0 then(1:Rat)else -1)=if(q.length-1)%2=0 then 1 else -1:=by split<;>rfl
  rw[e3];split<;>grind
def zL{G G' q:Ex}{T m k T' m' k' c:Int}{l h l' h':Rat}(R:Rk G T m k l h)(R':Rk G' T' m' k' l' h')(hk:k+k'=m+1)(hc:c≠0)(sim:∀n,cf (turnL G) n=c*cf G' n)(Q:Od G l h q):Od G' l' h' (aq (turnL q))/\(aq (turnL q)).length=q.length:=by
 have tq:=gw Q.pln.tr;have nq:=iw Q.pln.ne;obtain⟨s,hs,es⟩:=dM tq nq;obtain⟨ε,e1,e2⟩:=jk hc sim;obtain⟨ε2,f1,f2⟩:=jk hs es;have hl:(aq (turnL q)).length=q.length:=by rw[plain_len,dO]
 have pt:=cX tq nq
 have dt:Dv (aq (turnL q)) G':=by have d1:Dv (turnL q) G':=Dv.prop_right (p:=turnL G) (x:=c) (y:=1) hc (λn=>by rw[sim];omega) Q.dv.turn;exact Dv.prop_left (d:=turnL q) (x:=s) (y:=1) hs (by decide) (λn=>by rw[es];omega) d1
 have ft:=R'.flt.dv pt.tr (by rw[hl];exact Q.flt.l2) (by rw[hl];exact Q.flt.l8) dt;obtain⟨_,tG⟩:=kM R.rts R'.rts e1 e2;refine⟨pD (Φ:=Φm) R R' (λy=>?_) Q pt ft dt λTp mp Tt mt rp rt i _ _=>⟨mp+1-i,(kM rp rt f1 f2).2 i⟩,hl⟩;have:=tG k y;have e:m+1-k=k':=by omega
 rwa [e]at this
def HJ{G G' p p':Ex}{T m k T' m' k' c c':Int}{l h l' h':Rat}(R:Rk G T m k l h)(R':Rk G' T' m' k' l' h')(hk:k+k'=m+1)(pG:Pln G)(pG':Pln G')(hc:c≠0)(sim:∀n,cf (turnL G) n=c*cf G' n)(L:LS G l h p)(L':LS G' l' h' p'):p'=aq (turnL p):=by
 obtain⟨ε,e1,e2⟩:=jk hc sim;have hm:=(kM R.rts R'.rts e1 e2).1
 have sim':∀n,c*cf (turnL G') n=cf G n:=λn=>by
  have e:cf (turnL (turnL G)) n=cf (turnL (aE c G')) n:=by rw[dZ (turnL G),dZ (aE c G'),sim,aK]
  rw[mK]at e;rw[e,dZ,dZ,aK];split
  ·rfl
  ·grind
 have simP:aq (turnL G)=G':=by
  have e:turnL G=aE c G':=gC (gw pG.tr) (eO hc pG'.tr) λn=>by rw[sim,aK]
  rw[e,je hc pG'.tr,pG'.plain]
 refine wa (τ:=λq=>aq (turnL q)) R'.flt R.lt R'.lt R'.one (λq Q=>zL R R' hk hc sim Q) (λq Q=>?_) simP L L';have tq:=gw Q.pln.tr;have nq:=iw Q.pln.ne;obtain⟨s,hs,es⟩:=dM tq nq;obtain⟨ε2,f1,f2⟩:=jk hs es;have hl:(aq (turnL q)).length=q.length:=by rw[plain_len,dO]
 have pt:=cX tq nq
 have dt:Dv (aq (turnL q)) G:=by have d1:Dv (turnL q) G:=Dv.prop_right (p:=turnL G') (x:=1) (y:=c) (by decide) (λn=>by rw[sim'];omega) Q.dv.turn;exact Dv.prop_left (d:=turnL q) (x:=s) (y:=1) hs (by decide) (λn=>by rw[es];omega) d1
 have ft:=R.flt.dv pt.tr (by rw[hl];exact Q.flt.l2) (by rw[hl];exact Q.flt.l8) dt
 have e2':∀x,ai (pv G (-x))=ε*ai (pv G' x):=λx=>by have:=e2 (-x);rw[OX]at this;rw[this];rcases e1 with z |z<;>rw[z]<;>omega
 obtain⟨_,tG⟩:=kM R'.rts R.rts e1 e2';refine⟨aq (turnL q),pD (Φ:=Φm) R' R (λy=>?_) Q pt ft dt (λTp mp Tt mt rp rt i _ _=>⟨mp+1-i,(kM rp rt f1 f2).2 i⟩),hl⟩;have:=tG k' y;have e:m'+1-k'=k:=by omega
 rwa [e]at this
def mi{q G:Ex}(h:Dv q G)(h0:cf G 0≠0):cf q 0≠0:=λz=>by obtain⟨c,u,hc,e⟩:=h;have:=va e;rw[z,NQ]at this;exact N3 hc h0 this
def j7(l:Ex):pv l 0=(cf l 0:Rat):=by
 match l with
 | []=>rw[bw];rfl
 |c::l=>rw[jw];show(c:Rat)+0*_=c;grind
def inx(m s k:Int):Int:=if k<=s then s+1-k else m+s+1-k
def AE{G G' q:Ex}{T m k T' m' k' c:Int}{l h l' h':Rat}(R:Rk G T m k l h)(R':Rk G' T' m' k' l' h')(hk:k'=inx m (T-vw G 0) k)(k1:1<=k)(k2:k<=m)(g0:cf G 0≠0)(g0':cf G' 0≠0)(nG:G≠[])(hc:c≠0)(sim:∀n,cf G.reverse n=c*cf G' n)(simD:∀d,Dv d G.reverse->Dv d G')(tG:Tr G)(Q:Od G l h q):Od G' l' h' (aq q.reverse)/\(aq q.reverse).length=q.length:=by
 have q0:=mi Q.dv g0;have tq:=fK q0;have nq:q.reverse≠[]:=by simpa using Q.pln.ne
 obtain⟨s,hs,es⟩:=dM tq nq;have ne0:∀{l:Ex},cf l 0≠0->pv l 0≠0:=λ{l} h=>by rw[j7];exact dC h
 obtain⟨⟨ε,e1,e2⟩,⟨ε',e1',e2'⟩⟩:=jn nG hc sim;obtain⟨⟨η,f1,f2⟩,⟨η',f1',f2'⟩⟩:=jn Q.pln.ne hs es;have hl:(aq q.reverse).length=q.length:=by rw[plain_len,NS]
 have pt:=cX tq nq
 have dt:Dv (aq q.reverse) G':=by have d1:Dv q.reverse G':=simD _ (Dv.rev Q.pln.tr Q.pln.ne tG nG Q.dv);exact Dv.prop_left (d:=q.reverse) (x:=s) (y:=1) hs (by decide) (λn=>by rw[es];omega) d1
 have ft:=R'.flt.dv pt.tr (by rw[hl];exact Q.flt.l2) (by rw[hl];exact Q.flt.l8) dt;have t0:cf (aq q.reverse) 0≠0:=mi dt g0';obtain⟨_,_,tw⟩:=kO R.rts R'.rts (ne0 g0) (ne0 g0') e1 e1' e2 e2';refine⟨pD (Φ:=Φf) R R' (λy=>?_) Q pt ft dt λTp mp Tt mt rp rt i i1 i2=>?_,hl⟩
 ·rw[hk];exact tw k k1 k2 y
 ·obtain⟨_,_,tq'⟩:=kO rp rt (ne0 q0) (ne0 t0) f1 f1' f2 f2';exact⟨_,tq' i i1 i2⟩
def Jm{G G' p p':Ex}{T m k T' m' k' c c':Int}{l h l' h':Rat}(R:Rk G T m k l h)(R':Rk G' T' m' k' l' h')(hk:k'=inx m (T-vw G 0) k)(k1:1<=k)(k2:k<=m)(pG:Pln G)(pG':Pln G')(g0:cf G 0≠0)(hc:c≠0)(sim:aE c G'=G.reverse)(L:LS G l h p)(L':LS G' l' h' p'):p'=aq p.reverse:=by
 have simN:∀n,cf G.reverse n=c*cf G' n:=λn=>by rw[<- sim,aK]
 have g0':cf G' 0≠0:=λz=>by have:=lf pG.tr pG.ne;rw[simN,z,NQ]at this;exact this rfl
 have sim':aE c G'.reverse=G:=by rw[<- sV,sim,PF]
 have ne0:∀{l:Ex},cf l 0≠0->pv l 0≠0:=λ{l} h=>by rw[j7];exact dC h
 obtain⟨⟨ε,e1,e2⟩,⟨ε',e1',e2'⟩⟩:=jn pG.ne hc simN;obtain⟨hm,hs0,_⟩:=kO R.rts R'.rts (ne0 g0) (ne0 g0') e1 e1' e2 e2';have simP:aq G.reverse=G':=by rw[<- sim,je hc pG'.tr,pG'.plain]
 have cR:c*cf G'.reverse 0=cf G 0:=by rw[<- aK,sim']
 refine wa (τ:=λq=>aq q.reverse) R'.flt R.lt R'.lt R'.one (λq Q=>AE R R' hk k1 k2 g0 g0' pG.ne hc simN (λd hd=>Dv.prop_right (x:=c) (y:=1) hc (λn=>by rw[simN];omega) hd) pG.tr Q) (λq Q=>?_) simP L L';have q0:=mi Q.dv g0';have tq:=fK q0;have nq:q.reverse≠[]:=by simpa using Q.pln.ne
 obtain⟨s,hs,es⟩:=dM tq nq;obtain⟨⟨η,f1,f2⟩,⟨η',f1',f2'⟩⟩:=jn Q.pln.ne hs es;have hl:(aq q.reverse).length=q.length:=by rw[plain_len,NS]
 have pt:=cX tq nq
 have dt:Dv (aq q.reverse) G:=by have d1:Dv q.reverse G'.reverse:=Dv.rev Q.pln.tr Q.pln.ne pG'.tr pG'.ne Q.dv;have d2:Dv q.reverse G:=Dv.prop_right (p:=G'.reverse) (x:=1) (y:=c) (by decide) (λn=>by rw[<- aK c,sim'];omega) d1;exact Dv.prop_left (d:=q.reverse) (x:=s) (y:=1) hs (by decide) (λn=>by rw[es];omega) d2
 have ft:=R.flt.dv pt.tr (by rw[hl];exact Q.flt.l2) (by rw[hl];exact Q.flt.l8) dt;have t0:cf (aq q.reverse) 0≠0:=mi dt g0
 have inv:∀x:Rat,x≠0->1/(1/x)=x:=λx hx=>by
  have e1:1/x*x=1:=Nx hx;have hy:1/x≠0:=λz=>by rw[z,Ps]at e1;exact absurd e1 (by decide)
  have e2:1/(1/x)*(1/x)=1:=Nx hy;generalize 1/(1/x)=u at *
  generalize 1/x=v at *
  have:u*(v*x)=x:=by
   have:u*(v*x)=u*v*x:=by grind
   rw[this,e2];grind
  rw[e1]at this;grind
 have b1:∀x,0<x->ai (pv G (1/x))=ε*ai (pv G' x):=λx hx=>by have:=e2 (1/x) (cw (by decide) hx);rw[inv x (by grind)]at this;rw[this];rcases e1 with z |z<;>rw[z]<;>omega
 have b2:∀x,x<0->ai (pv G (1/x))=ε'*ai (pv G' x):=λx hx=>by
  have hneg:1/x<0:=OB.mp λz=>by have e1:1/x*x=1:=Nx (by grind);have:=ND z (show 0 <= -x by grind);grind
  have:=e2' (1/x) hneg;rw[inv x (by grind)]at this;rw[this];rcases e1' with z |z<;>rw[z]<;>omega
 obtain⟨_,_,tw⟩:=kO R'.rts R.rts (ne0 g0') (ne0 g0) e1 e1' b1 b2;have s1:=R.rts.in 0;have z1:=dI (ne0 g0)
 have hk':k=inx m' (T'-vw G' 0) k'/\1<=k'/\k'<=m':=by
  rw[hk,hm,hs0];unfold inx;by_cases z:k<=T-vw G 0
  ·rw[if_pos z,if_pos (by omega)];omega
  ·rw[if_neg z,if_neg (by omega)];omega
 refine⟨aq q.reverse,pD (Φ:=Φf) R' R (λy=>?_) Q pt ft dt (λTp mp Tt mt rp rt i i1 i2=>?_),hl⟩
 ·have:=tw k' hk'.2.1 hk'.2.2 y;rw[hk'.1];exact this
 ·obtain⟨_,_,tq'⟩:=kO rp rt (ne0 q0) (ne0 t0) f1 f1' f2 f2';exact⟨_,tq' i i1 i2⟩
def tr2{t n:Int}(hn:0<n):Tr [t,n]:=λk hk=>by
 have:k=1:=by simp at hk;omega
 subst this;show n≠0;omega
def yv{G:Ex}{t n:Int}(hn:0<n)(hr:pv G ((t:Rat)/(n:Rat))=0):Dv [-t,n] G:=by
 have sne:([-t,n]:Ex)≠[]:=by simp
 have hl:(aO G [-t,n]).length<2:=gs sne;have n0:(0:Rat)<(n:Rat):=NJ.mpr hn;have e:=gt (a:=G) sne;have hF:bM G [-t,n]≠0:=iN sne (tr2 hn)
 have z:aO G [-t,n]=[]:=by
  match hR:aO G [-t,n],hl with
  | [],_=>rfl
  | [c],_ =>
   exfalso
   have hv:(bM G [-t,n]:Rat)*pv G ((t:Rat)/(n:Rat))=pv (bZ G [-t,n]) ((t:Rat)/(n:Rat))*pv [-t,n] ((t:Rat)/(n:Rat))+(c:Rat):=by
    have h1:=i9 (a:=ag (bZ G [-t,n]) [-t,n]) (b:=[c]) (c:=aE (bM G [-t,n]) G) (u:=1) (v:=1) ((t:Rat)/(n:Rat)) λk=>by rw[aK,e,ay,hR];omega
    rw[db (a:=G) (u:=bM G [-t,n]) _ (aK _ _),eh _ (bZ G [-t,n]) [-t,n] _ (ay _ _),j6]at h1;rw[h1];have c1:((1:Int):Rat)=1:=rfl;rw[c1];grind
   have h2:pv [-t,n] ((t:Rat)/(n:Rat))=0:=by
    show((-t:Int):Rat)+(t:Rat)/(n:Rat)*((n:Rat)+(t:Rat)/(n:Rat)*0)=0;have e1:(t:Rat)/(n:Rat)*(n:Rat)=(t:Rat):=Nx (by grind);rw[Ow];generalize (t:Rat)/(n:Rat)=r at *
    grind
   rw[hr,h2]at hv;have hc:(c:Rat)=0:=by grind
   have hc':c=0:=OV.mp hc;have:=fW G [-t,n];rw[hR]at this;exact this 0 rfl (by rw[hc'];rfl)
 exact⟨_,_,hF,λk=>by rw[e,z,bw,Of]⟩
def zX{q G:Ex}(hq:Pln q)(hG:Pln G)(h:Dv q G):∃a:Int,0<a/\ao G=a*ao q/\∃u,Pln u/\ag u q=G:=by obtain⟨u,pu,e⟩:=h.fellow hq hG.tr hG.ne;rw[hG.plain]at e;refine⟨ao u,pu.pos,?_,u,pu,e⟩;rw[<- e];exact zW pu.ne hq.ne
def Ig{G:Ex}(hG:Pln G)(fG:Flt G){l h x y:Rat}{B:Rat}(lt:l<h)(o:vw G l-vw G h=1)(lx:l<=x)(xy:x<y)(yh:y<=h)(ux:vw G x=vw G l)(uy:vw G y=vw G h)(hB:1<=B)(w:(y-x)*(8*(ao G:Rat)*B)<=1){r:Rat}(r1:l<r)(r2:r<=h)(hr:pv G r=0):x<r/\r<=y/\∃k:Int,(k:Rat)=(ao G:Rat)*r/\(k:Rat)<=(ao G:Rat)*y/\(ao G:Rat)*y<(k:Rat)+1:=by
 have C:=fG.cnt;obtain⟨e1,e2⟩:=C.root lt o r1 r2 hr
 have xr:x<r:=OB.mp λz=>by have:=C.le z;omega
 have ry:r<=y:=Oi.mp λz=>by have:=e2 y (by grind) z;omega
 have hL:(0:Rat)<(ao G:Rat):=NJ.mpr hG.pos;obtain⟨t,n,hn,hg,er⟩:∃t n:Int,0<n/\Nat.gcd t.natAbs n.natAbs=1/\r=(t:Rat)/(n:Rat):=⟨r.num,(r.den:Int),by have:=r.den_pos;omega,by rw[OF];exact r.reduced,by rw[<- Rat.divInt_eq_div];exact(Rat.num_divInt_den r).symm⟩
 have pl:Pln [-t,n]:=⟨tr2 hn,by simp,by
  show Nat.gcd (Nat.gcd 0 (-t).natAbs) n.natAbs=1
  rw[PX,Int.natAbs_neg];exact hg,hn⟩
 obtain⟨a,ha,ea,_⟩:=zX pl hG (yv hn (by rw[<- er];exact hr));have en:(n:Rat)≠0:=dC (by omega)
 have key:((a*t:Int):Rat)=(ao G:Rat)*r:=by
  rw[er,ea];show((a*t:Int):Rat)=((a*n:Int):Rat)*((t:Rat)/(n:Rat));rw[NC,NC];have:=Nx (a:=(t:Rat)) en;generalize (t:Rat)/(n:Rat)=v at *
  rw[<- this];grind
 refine⟨xr,ry,a*t,key,?_,?_⟩
 ·rw[key];exact NE ry (Np hL)
 ·rw[key];generalize (ao G:Rat)=L at *
  have p1:=PN (show y-r<y-x by grind) hL;have p2:=ND (ND (show 0<=y-x by grind) (Np hL)) (show 0<=8*B-1 by grind);grind
def ER{x1 y1 x2 y2 u v M:Rat}(a1:x1<=u)(a2:u<=y1)(b1:x2<=v)(b2:v<=y2)(c1:x1*x2<=M)(c2:x1*y2<=M)(c3:y1*x2<=M)(c4:y1*y2<=M):u*v<=M:=by
 have lin:∀{w:Rat},x1*w<=M->y1*w<=M->u*w<=M:=λ{w} h1 h2=>by
  rcases NG (a:=0) (b:=w)with z |z
  ·have:=Oh a2 z;grind
  ·have:=Oh a1 (show 0 <= -w by grind);grind
 have k1:=lin c1 c3;have k2:=lin c2 c4;rcases NG (a:=0) (b:=u)with z |z
 ·have:=NE b2 z;grind
 ·have:=NE b1 (show 0 <= -u by grind);grind
def oC{a b C:Rat}(hC:0<=C){δ0:Rat}(h0:0<δ0)(h:∀δ:Rat,0<δ->δ<=δ0->a<=b+C*δ):a<=b:=Oi.mp λz=>by
 have q0:0<(a-b)/(C+1):=cw (by grind) (by grind);have qe:(a-b)/(C+1)*(C+1)=a-b:=Nx (by grind);generalize (a-b)/(C+1)=w at *
 rcases NG (a:=w) (b:=δ0)with y |y
 ·have:=h w q0 y;grind
 ·have:=h δ0 h0 Nt;have:=NE y hC;grind
def wK{q0 q1 q2:Int}(hq:Flt [q0,q1,q2])(hp:0<q2){x1 y1 x2 y2 B w M:Rat}(l1:x1<y1)(l2:x2<y2)(o1:vw [q0,q1,q2] x1-vw [q0,q1,q2] y1=1)(o2:vw [q0,q1,q2] x2-vw [q0,q1,q2] y2=1)(ne:vw [q0,q1,q2] y2<vw [q0,q1,q2] y1)
 (bx1:Bd B x1) (by1:Bd B y1) (bx2:Bd B x2) (by2:Bd B y2) (w1:y1-x1<=w) (w2:y2-x2<=w) (c1:x1*x2<=M) (c2:x1*y2<=M) (c3:y1*x2<=M) (c4:y1*y2<=M) (is:M=x1*x2\/M=x1*y2\/M=y1*x2\/M=y1*y2) :
 -(q1:Rat)/(q2:Rat)<=y1+y2/\y1+y2-2*w <= -(q1:Rat)/(q2:Rat)/\(q0:Rat)/(q2:Rat)<=M/\M-2*B*w<=(q0:Rat)/(q2:Rat):=by
 have C:=hq.cnt;have Q0:(0:Rat)<(q2:Rat):=NJ.mpr hp
 have hv:∀z:Rat,pv [q0,q1,q2] z=(q0:Rat)+z*(q1:Rat)+z*z*(q2:Rat):=λz=>by show(q0:Rat)+z*((q1:Rat)+z*((q2:Rat)+z*0))=_;grind
 obtain⟨K1,k1,hK1⟩:=vf C C l1 o1 o1 λ_ _ _=>Iff.rfl
 obtain⟨K2,k2,hK2⟩:=vf C C l2 o2 o2 λ_ _ _=>Iff.rfl
 obtain⟨z2,z1,zz,ez⟩:=C.start (show y1<y1+1 by grind);have eS : -(q1:Rat)/(q2:Rat)*(q2:Rat) = -(q1:Rat):=Nx (by grind);have eP:(q0:Rat)/(q2:Rat)*(q2:Rat)=(q0:Rat):=Nx (by grind);generalize -(q1:Rat)/(q2:Rat)=S at *
 generalize (q0:Rat)/(q2:Rat)=P at *
 have B0:0<=B:=by have:=bx1.1;have:=bx1.2;grind
 have w0:0<=w:=by grind
 have g0:0<(z2-y1)/2:=by grind
 have gq:0<q2*((z2-y1)/2):=NV Q0 g0;have qe:(K1+K2)/(q2*((z2-y1)/2))*(q2*((z2-y1)/2))=K1+K2:=Nx (by grind);have q'e:K1/(q2:Rat)*(q2:Rat)=K1:=Nx (by grind)
 have D0:0<=(K1+K2)/(q2*((z2-y1)/2)):=Oi.mp λy=>by have:=OW y gq;grind
 have D1:0<=K1/(q2:Rat):=Oi.mp λy=>by have:=OW y Q0;grind
 generalize (K1+K2)/(q2*((z2-y1)/2))=D at *
 generalize K1/(q2:Rat)=E at *
 have near:∀δ:Rat,0<δ->δ<=(z2-y1)/2->∃u v,x1<=u/\u<=y1/\x2<=v/\v<=y2/\Bd (D*δ) (u+v-S)/\Bd ((E+B*D)*δ) (P-u*v):=λδ d0 d1=>by
  obtain⟨u,u',g1,g2,g3,g4,f1,f2,s1,_⟩:=hK1 δ d0;obtain⟨v,v',h1,h2,h3,h4,e1,e2,s2,_⟩:=hK2 δ d0
  have vz:z2<v':=OB.mp λy=>by have:=C.le y;omega
  have gap:(z2-y1)/2<=v-u:=by grind
  rw[hv]at s1 s2;obtain⟨p1,p2⟩:=s1;obtain⟨p3,p4⟩:=s2
  have ed:((q0:Rat)+v*(q1:Rat)+v*v*(q2:Rat))-((q0:Rat)+u*(q1:Rat)+u*u*(q2:Rat))=q2*(v-u)*(u+v-S):=by
   have:(q1:Rat) = -(S*q2):=by grind
   rw[this];grind
  have r1:Bd (D*δ) (u+v-S):=by
   generalize u+v-S=Y at *
   have hg:=NE gap (Np Q0)
   have k0:(K1+K2)*δ<=D*δ*(q2*(v-u)):=by
    have:=NE hg (ND D0 (Np d0));have e3:D*δ*(q2*((z2-y1)/2))=(K1+K2)*δ:=by rw[<- qe];grind
    rw[e3]at this;exact this
   have pos:0<q2*(v-u):=NV Q0 (by grind);constructor
   ·exact du pos (by grind)
   ·exact du pos (by grind)
  refine⟨u,v,g1,by grind,h1,by grind,r1,?_⟩;have bu:Bd B u:=⟨by have:=bx1.1;grind,by have:=by1.2;grind⟩;obtain⟨m1,m2⟩:=bu.mul r1
  have e4:(P-u*v)*q2=((q0:Rat)+u*(q1:Rat)+u*u*(q2:Rat))-u*(u+v-S)*q2:=by
   have:(q1:Rat) = -(S*q2):=by grind
   rw[this,<- eP];grind
  generalize u*(u+v-S)=Y at *
  generalize (q0:Rat)+u*(q1:Rat)+u*u*(q2:Rat)=Z at *
  generalize P-u*v=X at *
  have e5:K1*δ=E*δ*q2:=by rw[<- q'e];grind
  constructor
  ·refine du Q0 ?_;have:=Oh m2 (Np Q0);grind
  ·refine du Q0 ?_;have:=Oh m1 (Np Q0);grind
 have BD:=ND B0 D0;refine⟨oC D0 g0 λδ d0 d1=>?_,oC D0 g0 λδ d0 d1=>?_,oC (C:=E+B*D) (by grind) g0 λδ d0 d1=>?_,oC (C:=E+B*D) (by grind) g0 λδ d0 d1=>?_⟩
 ·obtain⟨u,v,a1,a2,a3,a4,⟨b1,b2⟩,_⟩:=near δ d0 d1;grind
 ·obtain⟨u,v,a1,a2,a3,a4,⟨b1,b2⟩,_⟩:=near δ d0 d1;grind
 ·obtain⟨u,v,a1,a2,a3,a4,_,⟨b1,b2⟩⟩:=near δ d0 d1;have:=ER a1 a2 a3 a4 c1 c2 c3 c4;grind
 ·obtain⟨u,v,a1,a2,a3,a4,_,⟨b1,b2⟩⟩:=near δ d0 d1;have bu:Bd B u:=⟨by have:=bx1.1;grind,by have:=by1.2;grind⟩
  have cor:∀{a b:Rat},Bd w (a-u)->Bd w (b-v)->Bd B b->a*b-2*B*w<=u*v:=λ{a b} h1 h2 h3=>by
   obtain⟨t1,t2⟩:=h1.mul h3;obtain⟨t3,t4⟩:=bu.mul h2;have:a*b-u*v=(a-u)*b+u*(b-v):=by grind
   grind
  have f1:Bd w (x1-u):=⟨by grind,by grind⟩;have f2:Bd w (y1-u):=⟨by grind,by grind⟩;have f3:Bd w (x2-v):=⟨by grind,by grind⟩;have f4:Bd w (y2-v):=⟨by grind,by grind⟩
  have:M-2*B*w<=u*v:=by
   rcases is with e |e |e |e<;>rw[e]
   ·exact cor f1 f3 bx2
   ·exact cor f1 f4 by2
   ·exact cor f2 f3 bx2
   ·exact cor f2 f4 by2
  grind
inductive Cov(V:Rat->Int):List (Rat×Rat)->Rat->Rat->Prop
 |nil {lo hi:Rat} (e:V lo=V hi):Cov V [] lo hi
 |cons {a b lo hi:Rat} {cs:List (Rat×Rat)} (ab:a<b) (e:V lo=V a) (h:Cov V cs b hi):Cov V ((a,b)::cs) lo hi
theorem Cov.find{V:Rat->Int}{t:Int}:∀{cs:List (Rat×Rat)} {lo hi:Rat},Cov V cs lo hi->(∀c∈cs,V c.1-V c.2<=1)->V hi<=t->t<V lo->∃c∈cs,V c.1=t+1/\V c.2=t
 |_,_,_,.nil e,_,h1,h2=>by omega
 |_,_,_,.cons (a:=a) (b:=b) ab e h,h0,h1,h2=>by
  have k:=h0 (a,b) (NK ..);dsimp only at k
  by_cases z:t<V b
  ·obtain⟨c,hc,e1,e2⟩:=Cov.find h (λc hc=>h0 c (NB _ hc)) h1 z;exact⟨c,NB _ hc,e1,e2⟩
  ·refine⟨(a,b),NK ..,?_,?_⟩
   ·show V a=t+1;omega
   ·show V b=t;omega
theorem Bh{f:Rat->Rat}{V:Rat->Int}(C:Cnt f V):∀(cs:List (Rat×Rat)) {lo hi:Rat},lo<=hi->cs.Pairwise (λx y=>x.2<=y.1)->(∀c∈cs,c.1<c.2/\V c.1-V c.2=1/\lo<=c.1/\c.2<=hi)->(cs.length:Int)<=V lo-V hi
 | [],lo,hi,h,_,_=>by have:=C.le h;show(0:Int)<=_;omega
 |c::cs,lo,hi,h,hp,hc=>by
  obtain⟨p1,p2⟩:=Pc.mp hp;obtain⟨c1,c2,c3,c4⟩:=hc c (NK ..)
  have ih:=Bh C cs c4 p2 λd hd=>by obtain⟨d1,d2,d3,d4⟩:=hc d (NB _ hd);exact⟨d1,d2,p1 d hd,d4⟩
  have:=C.le c3;rw[Ny];omega
theorem uV{f:Rat->Rat}{V:Rat->Int}(C:Cnt f V):∀(cs:List (Rat×Rat)) {lo hi:Rat},lo<=hi->cs.Pairwise (λx y=>x.2<=y.1)->(∀c∈cs,c.1<c.2/\V c.1-V c.2=1/\lo<=c.1/\c.2<=hi)->(cs.length:Int)=V lo-V hi->Cov V cs lo hi
 | [],lo,hi,h,_,_,e=>.nil (by have e':(0:Int)=V lo-V hi:=e;omega)
 |c::cs,lo,hi,h,hp,hc,e=>by
  obtain⟨p1,p2⟩:=Pc.mp hp;obtain⟨c1,c2,c3,c4⟩:=hc c (NK ..)
  have hr:∀d∈cs,d.1<d.2/\V d.1-V d.2=1/\c.2<=d.1/\d.2<=hi:=λd hd=>by obtain⟨d1,d2,d3,d4⟩:=hc d (NB _ hd);exact⟨d1,d2,p1 d hd,d4⟩
  have ih:=Bh C cs c4 p2 hr;have:=C.le c3;rw[Ny]at e;exact .cons c1 (by omega) (uV C cs c4 p2 hr (by omega))
theorem Cov.dv{G q:Ex}(hG:Flt G)(hq:Flt q)(d:Dv q G):∀{cs:List (Rat×Rat)} {lo hi:Rat},Cov (vw G) cs lo hi->(∀c∈cs,lo<=c.1)->lo<=hi->(cs.Pairwise λx y=>x.2<=y.1)->(∀c∈cs,c.2<=hi)->Cov (vw q) cs lo hi
 |_,lo,hi,.nil e,_,h,_,_=>.nil (by
  rcases da h with z |z
  ·have:=hG.le hq d z;have:=hq.cnt.mono z;omega
  ·rw[z])
 |_,lo,hi,.cons (a:=a) (b:=b) (cs:=cs) ab e h,h1,h2,hp,h3=>by
  obtain⟨p1,p2⟩:=Pc.mp hp;have la:lo<=a:=h1 (a,b) (NK ..);refine .cons ab ?_ (Cov.dv hG hq d h (λc hc=>p1 c hc) (h3 (a,b) (NK ..)) p2 λc hc=>h3 c (NB _ hc));rcases da la with z |z
  ·have:=hG.le hq d z;have:=hq.cnt.mono z;have z':lo<a:=z;have e':vw G lo=vw G a:=e;show vw q lo=vw q a;omega
  ·rw[z]
def Cr{q0 q1 q2:Int}(hq:Flt [q0,q1,q2])(hp:0<q2){T m:Int}(R:Rts (pv [q0,q1,q2]) (vw [q0,q1,q2]) T m)(hm:1<=m):2<=m:=by
 apply Classical.byContradiction;intro hn;have m1:m=1:=by omega
 obtain⟨B,hB,h1,h2⟩:=R.lim
 obtain⟨k,hk⟩:∃k:Nat,∀c∈[q0,q1],c.natAbs<=(2^k-1)*q2.natAbs:=by
  refine⟨q0.natAbs+q1.natAbs+1,λc hc=>?_⟩;have b:q0.natAbs+q1.natAbs+1<2^(q0.natAbs+q1.natAbs+1):=Nat.lt_two_pow_self;have b2:2^(q0.natAbs+q1.natAbs+1)-1<=(2^(q0.natAbs+q1.natAbs+1)-1)*q2.natAbs:=Qb _ (by omega);rcases NR.mp hc with rfl |hc
  ·omega
  ·rw[NU.mp hc];omega
 obtain⟨f1,f2⟩:=AK (r:=[q0,q1]) (l:=q2) (by omega) hk;have b0:(0:Rat)<2^k:=OC (by decide)
 obtain⟨c,c1,c2⟩:∃c:Rat,B<=c/\2^k<=c:=by
  rcases NG (a:=B) (b:=2^k)with z |z
  ·exact⟨2^k,z,Nt⟩
  ·exact⟨B,Nt,z⟩
 have g1:=f1 c c2;have g2:=f2 (-c) (by grind);have e1:=h1 (-c) (by grind);have e2:=h2 c c1;have x:=R.c.cross (a := -c) (b:=c) (by grind) (by omega) e1.2 e2.2;have g1':ai (pv [q0,q1,q2] c)=ai (q2:Rat):=g1;have g2':ai (pv [q0,q1,q2] (-c))=1*ai (q2:Rat):=g2.trans (by rw[if_pos (by simp)])
 have pos:ai (q2:Rat)=1:=by have:(0:Rat)<(q2:Rat):=NJ.mpr hp;unfold ai;rw[if_neg (by grind),if_pos this]
 omega
noncomputable def gB(m:Nat):Nat->Nat
 |0=>0
 |k+1=>1000000+m*gB m k
theorem Ag(n:Int):∀(k:Nat) (l:Ex),l.length<=k->(∀c∈l,c.natAbs<=1000000)->(iv n l).natAbs<=gB n.natAbs k
 |_,[],_,_=>Nw _
 |0,_::_,h,_=>absurd h (by simp)
 |k+1,c::l,h,hb=>by
  have ih:=Ag n k l (Nat.le_of_succ_le_succ h) λx hx=>hb x (NB _ hx)
  have h1:=PB c (n*iv n l);rw[N4]at h1;exact NP h1 (Nat.add_le_add (hb c (NK ..)) (OS _ ih))
def mw{x:Int}{B:Int}(h:x.natAbs<=B.natAbs)(hB:0<=B) : -B<=x/\x<=B:=by omega
def Ix{l:Ex}(h5:l.length<=5)(hb:∀c∈l,-1000000<=c/\c<=1000000) :
 (-1000000<=iv 0 l/\iv 0 l<=1000000)/\(-5000000<=iv 1 l/\iv 1 l<=5000000)/\(-5000000<=iv (-1) l/\iv (-1) l<=5000000)/\(-31000000<=iv 2 l/\iv 2 l<=31000000)/\(-31000000<=iv (-2) l/\iv (-2) l<=31000000):=by
 have h:∀n,(iv n l).natAbs<=gB n.natAbs 5:=λn=>Ag n 5 l h5 λc hc=>by have:=hb c hc;omega
 exact⟨mw (h 0) (by decide),mw (h 1) (by decide),mw (h (-1)) (by decide),mw (h 2) (by decide),mw (h (-2)) (by decide)⟩
def lZ(n:Int)(l:Ex):iv n l=cf l 0+n*iv n l.tail/\∀k,cf l.tail k=cf l (k+1):=by
 cases l with
 |nil=>exact⟨by show(0:Int)=0+n*0;omega,λk=>rfl⟩
 |cons c l=>exact⟨rfl,λk=>rfl⟩
theorem Jn{l:Ex}(h5:l.length<=5)(h0 : -1000000<=iv 0 l/\iv 0 l<=1000000)(h1 : -5000000<=iv 1 l/\iv 1 l<=5000000)(h2 : -5000000<=iv (-1) l/\iv (-1) l<=5000000)(h3 : -31000000<=iv 2 l/\iv 2 l<=31000000)(h4 : -31000000<=iv (-2) l/\iv (-2) l<=31000000) :
 ∀c∈l,-16000000<=c/\c<=16000000:=by
 have key:∀n,iv n l=cf l 0+n*(cf l 1+n*(cf l 2+n*(cf l 3+n*cf l 4))):=λn=>by obtain⟨a1,b1⟩:=lZ n l;obtain⟨a2,b2⟩:=lZ n l.tail;obtain⟨a3,b3⟩:=lZ n l.tail.tail;obtain⟨a4,b4⟩:=lZ n l.tail.tail.tail;obtain⟨a5,b5⟩:=lZ n l.tail.tail.tail.tail;have z:l.tail.tail.tail.tail.tail=[]:=Os (by simp only[List.length_tail];omega);have z0:iv n ([]:Ex)=0:=rfl;rw[a1,a2,a3,a4,a5,z,z0,b4,b3,b3,b2,b2,b2,b1,b1,b1,b1,NQ,Of]
 have e0:=key 0;have e1:=key 1;have e2:=key (-1);have e3:=key 2;have e4:=key (-2);clear key;intro c hc;obtain⟨n,hn,rfl⟩:=g8 hc
 match n,(show n<5 by omega)with
 |0,_=>clear hc;omega
 |1,_=>clear hc;omega
 |2,_=>clear hc;omega
 |3,_=>clear hc;omega
 |4,_=>clear hc;omega
structure FltP(G:Ex):Prop where
 flt:Flt G
 pln:Pln G
 l5:G.length<=5
 hgt:∀v∈G,-16000000<=v/\v<=16000000
def FlatOf.hgt{F G:Ex}(h:FlatOf F G)(tF:Tr F)(nF:F≠[])(l5:F.length<=5)(hb:∀c∈F,-1000000<=c/\c<=1000000):G.length<=5/\∀v∈G,-16000000<=v/\v<=16000000:=by
 obtain⟨O,k,tO,nO,hk,e,s,a⟩:=h.ex;have nG:=h.pln.ne;have lO:=Nz.mpr nO;have el:aE k F=ag G O:=gC (eO hk tF) (fI h.pln.tr tO) λn=>by rw[aK,ay,e]
 have hl:G.length+O.length-1=F.length:=by rw[<- bK nG nO,<- el,dk]
 have g5:G.length<=5:=by omega
 refine⟨g5,?_⟩;obtain⟨H,c,Q',e1,tH,nH,hc,hq⟩:=Jj tF nF tO nO h.pln.tr nG hk e s
 have eS:aj G=G:=by
  have:=mZ (l:=G);rw[h.pln.prim]at this
  have e2:aE ((1:Nat):Int) (aj G)=aj G:=by unfold aE;rw[show(λx:Int=>((1:Nat):Int)*x)=id from funext λx=>by show(1:Int)*x=x;omega,OR]
  rw[e2]at this;exact this
 rw[eS]at e1;subst e1
 have z:∀n:Int,iv n H=0->iv n G=0:=λn q=>by
  have q':pv H (n:Rat)=0:=by rw[<- kj,q];rfl
  have:=Dx tH nH hc hq q';rw[<- kj]at this;exact OV.mp (by rw[this];rfl)
 have w:=Ix l5 hb;have m:=λn:Int=>Iw n (c:=ag G H) (ay G H)
 exact Jn g5 (lX (m 0) (z 0) w.1 (by decide)) (lX (m 1) (z 1) w.2.1 (by decide)) (lX (m (-1)) (z (-1)) w.2.2.1 (by decide)) (lX (m 2) (z 2) w.2.2.2.1 (by decide)) (lX (m (-2)) (z (-2)) w.2.2.2.2 (by decide))
def Hr{F0 F1:Ex}{r:List Ex}(h:SRow (F0::F1::r)){γ:Rat}(hγ:0<γ)(hd:∀x,pv (slopeL F0) x=γ*pv F1 x){G:Ex}{c:Rat}(hc:c≠0)(hG:∀x,pv F0 x=c*pv G x){a b:Rat}(hab:a<b)(ha:Bd (2^24) a)(hb:Bd (2^24) b)(h3:3<=G.length)(h5:G.length<=5)
 (bp:∀j,(cf G j).natAbs<=2^26) (bq:∀j,(cf (slopeL G) j).natAbs<=2^26) (hR:ca G (slopeL G)≠0) (hw:(b-a)*2^391<=1):cE (F0::F1::r) a<=cE (F0::F1::r) b+1:=by
 have wp:0<b-a:=by grind
 refine Ho (N:=2*G.length-4) (bt:=26) (M:=2^24) h hγ hd hc hG hab (by decide +kernel) ha hb h3 (by omega) bp bq hR ?_;generalize b-a=w at *
 have h0:G.length=3\/G.length=4\/G.length=5:=by omega
 rcases h0 with e |e |e<;>rw[e]<;>clear e
 ·have k:((((3-2:Nat):Rat)*((2^24:Rat)^(3-3)*(((2^26:Nat):Rat)*(((3:Nat):Rat)*((3:Nat):Rat))*(2^24:Rat)^3*1))+((3-1:Nat):Rat)*((2^24:Rat)^(3-2)*(((2^26:Nat):Rat)*(((3:Nat):Rat)*((3:Nat):Rat))*(2^24:Rat)^3*1)))*((fc (2*3-4)*2^(26*(2*3-4)):Nat):Rat))<2^391:=by decide +kernel
  have:=PN k wp;grind
 ·have k:((((4-2:Nat):Rat)*((2^24:Rat)^(4-3)*(((2^26:Nat):Rat)*(((4:Nat):Rat)*((4:Nat):Rat))*(2^24:Rat)^4*1))+((4-1:Nat):Rat)*((2^24:Rat)^(4-2)*(((2^26:Nat):Rat)*(((4:Nat):Rat)*((4:Nat):Rat))*(2^24:Rat)^4*1)))*((fc (2*4-4)*2^(26*(2*4-4)):Nat):Rat))<2^391:=by decide +kernel
  have:=PN k wp;grind
 ·have k:((((5-2:Nat):Rat)*((2^24:Rat)^(5-3)*(((2^26:Nat):Rat)*(((5:Nat):Rat)*((5:Nat):Rat))*(2^24:Rat)^5*1))+((5-1:Nat):Rat)*((2^24:Rat)^(5-2)*(((2^26:Nat):Rat)*(((5:Nat):Rat)*((5:Nat):Rat))*(2^24:Rat)^5*1)))*((fc (2*5-4)*2^(26*(2*5-4)):Nat):Rat))<2^391:=by decide +kernel
  have:=PN k wp;grind
structure Few6(kp:Ex)(kb:Nat):Prop where
 mono:∀x y:Rat,x<y->vw kp y<=vw kp x
 few:∀x y:Rat,x<y -> -(2^kb)<=x->y<=2^kb->(y-x)*2^420<=2*2^kb->vw kp x<=vw kp y+1
def Flt.few{G:Ex}(h:FltP G){x y:Rat}(hxy:x<y)(bx:Bd (2^24) x)(bY:Bd (2^24) y)(hw:(y-x)*2^391<=1):vw G x<=vw G y+1:=by
 have tP:=h.flt.tr;have nP:=h.flt.ne;have h2:=h.flt.l2;have h8:=h.flt.l8;have tS:=jH tP;have lS':=fB G;have hs:slopeL G≠[]:=λz=>by rw[z]at lS';simp at lS';omega
 obtain⟨g0,t0,n0,e0⟩:=iB tP nP;obtain⟨g1,t1,n1,e1⟩:=iB tS hs;have copS:=h.flt.cop.shr tP nP tS;have lS:(aj (slopeL G)).length=G.length-1:=by unfold aj;rw[No,fB]
 have hst:=nI 8 (aj G) (aj (slopeL G)) (by omega) t0 n0 (f8 tS) copS
 have er:bj 9 (aj G) (aj (slopeL G))=aj G::aj (slopeL G)::bj 7 (aJ (aj G) (aj (slopeL G))) (aJ (aj (slopeL G)) (aJ (aj G) (aj (slopeL G)))):=by show(if aj G=[]then _ else aj G::(if aj (slopeL G)=[]then _ else _))=_;rw[if_neg n0,if_neg n1]
 rw[er]at hst;have ev:∀x,vw G x=cE (aj G::aj (slopeL G)::bj 7 (aJ (aj G) (aj (slopeL G))) (aJ (aj (slopeL G)) (aJ (aj G) (aj (slopeL G))))) x:=λx=>by unfold vw cQ;rw[er]
 have g0':(0:Rat)<((aC G:Int):Rat):=NJ.mpr g0;have g1':(0:Rat)<((aC (slopeL G):Int):Rat):=NJ.mpr g1;have hP1:aC G=1:=h.pln.prim
 have hd:∀x,pv (slopeL (aj G)) x=((aC (slopeL G):Int):Rat)*pv (aj (slopeL G)) x:=λx=>by
  have h1:=db (a:=slopeL (aj G)) (c:=slopeL G) (u:=(aC G:Int)) x λk=>by rw[cu,cu,e0 (k+1)];grind
  have h2:=db (a:=aj (slopeL G)) (c:=slopeL G) (u:=(aC (slopeL G):Int)) x e1;rw[hP1]at h1;have c1:(((1:Nat):Int):Rat)=1:=rfl;rw[c1,Rat.one_mul]at h1;rw[<- h1,h2]
 have hG:∀x,pv (aj G) x=1*pv G x:=λx=>by have h1:=db (a:=aj G) (c:=G) (u:=(aC G:Int)) x e0;rw[hP1]at h1;have c1:(((1:Nat):Int):Rat)=1:=rfl;rw[c1]at h1;grind
 rw[ev,ev];have lP:(aj G).length=G.length:=by unfold aj;rw[No]
 rcases Nat.lt_or_ge G.length 3 with z |z
 ·exact Hq hst g1' hd hxy (by omega)
 have l5:=h.l5
 have hcf:∀j,-16000000<=cf G j/\cf G j<=16000000:=λj=>by
  by_cases hj:j<G.length
  ·rw[cU hj];exact h.hgt _ (OI hj)
  ·rw[bQ (by omega)];omega
 have hR:ca G (slopeL G)≠0:=yy _ G (slopeL G) (Nv _) (by omega) tP tS hs h.flt.cop;refine Hr hst g1' hd (by decide) hG hxy bx bY z l5 (λj=>?_) (λj=>?_) hR hw
 ·have:=hcf j;show _<=67108864;omega
 ·show _<=67108864;by_cases hj:j+1<G.length
  ·rw[cu,N4];have:=hcf (j+1);have:((j:Int)+1).natAbs*(cf G (j+1)).natAbs<=4*16000000:=PK (by omega) (by omega);omega
  ·rw[bQ (by omega)];decide
def FltP.few{G:Ex}(h:FltP G){kb:Nat}(hk:kb<=24):Few6 G kb:=by
 refine⟨λx y hxy=>h.flt.cnt.mono hxy,λx y hxy hx hy hw=>?_⟩;have k24:=jF hk;refine Flt.few h hxy ⟨by grind,by grind⟩ ⟨by grind,by grind⟩ ?_;have e:(2:Rat)^420=2^391*(2*2^28):=by decide +kernel
 rw[e]at hw;have p11:2*(2:Rat)^24<=2*2^28:=by decide +kernel
 have p10:(0:Rat)<2*2^28:=by decide +kernel
 generalize (2:Rat)^391=u at *
 generalize 2*(2:Rat)^28=v4 at *
 generalize (2:Rat)^24=v at *
 refine Oi.mp λq=>?_
 have:=OW q p10;grind
def FltP.rts{G:Ex}(h:FltP G){kb:Nat}(hB:∀c∈G.take (G.length-1),c.natAbs<=(2^kb-1)*(ao G).natAbs):Rts (pv G) (vw G) (vw G (-(2^kb))) (vw G (-(2^kb))-vw G (2^kb))/\(∀x:Rat,x <= -(2^kb)->pv G x≠0)/\∀x:Rat,2^kb<=x->pv G x≠0:=by
 have nG:=h.pln.ne;have l0:ao G≠0:=by have:=h.pln.pos;omega
 obtain⟨r,x,rfl⟩:=(dP G).resolve_left nG;have et:(r++[x]).take ((r++[x]).length-1)=r:=by simp
 rw[et,gj]at hB;rw[gj]at l0;obtain⟨f1,f2⟩:=AK l0 hB;have sx:ai (x:Rat)≠0:=sg_ne.mpr (dC l0);have b0:(0:Rat)<2^kb:=OC (by decide);have C:=h.flt.cnt
 have n1:∀y:Rat,y <= -(2^kb)->pv (r++[x]) y≠0:=λy hy=>sg_ne.mp (by
  rw[f2 y hy];split
  ·rw[NM];exact sx
  ·omega)
 have n2:∀y:Rat,2^kb<=y->pv (r++[x]) y≠0:=λy hy=>sg_ne.mp (by rw[f1 y hy];exact sx)
 refine⟨⟨C,2^kb,b0,λy hy=>⟨?_,n1 y hy⟩,λy hy=>⟨?_,n2 y hy⟩⟩,n1,n2⟩
 ·exact C.keep hy λz z1 z2=>f2 z z2
 ·have:=C.keep hy λz z1 z2=>f1 z z1
  omega
def Jl{F O:Ex}(tF:Tr F)(nF:F≠[])(tO:Tr O)(nO:O≠[])(d1:Dv O F)(d2:Dv O (slopeL F))(hall:∀x,Dv x F->Dv x (slopeL F)->Dv x O):aO F O=[]/\FlatOf F (aq (bZ F O)):=by
 have hr:=d1.rest nO tO;have hk:=iN (a:=F) nO tO;have e:∀n,bM F O*cf F n=aw (bZ F O) O n:=λn=>by rw[gt nO,hr,bw,Of]
 have tQ:Tr (bZ F O):=uQ nO tF tO
 have nQ:bZ F O≠[]:=λz=>by
  refine nF (gC tF (λn hn=>absurd hn (by simp)) λn=>?_);have e1:=e n;rw[z,dN]at e1;rw[bw];rcases Pa.mp e1 with r |r
  ·exact absurd r hk
  ·exact r
 obtain⟨c,hc,ec⟩:=dM tQ nQ;refine⟨hr,cX tQ nQ,aE c O,bM F O,eO hc tO,λz=>nO (by unfold aE at z;simpa using z),hk,λn=>?_,?_,λx h1 h2=>?_⟩
 ·rw[eA (c:=c) (aK c O),<- iH (b:=O) ec,e]
 ·exact Dv.prop_left (d:=O) (x:=1) (y:=c) (by decide) hc (λn=>by rw[aK];omega) d2
 ·exact Dv.prop_right (p:=O) (x:=1) (y:=c) (by decide) (λn=>by rw[aK];omega) (hall x h1 h2)
def JZ{O F:Ex}(hO:Pln O)(tF:Tr F)(nF:F≠[])(l5:F.length<=5)(hb:∀c∈F,-1000000<=c/\c<=1000000)(d:Dv O F)(k:Nat):(cf O k).natAbs<=16^7*(1000000*7^7):=by
 obtain⟨u,pu,e⟩:=d.fellow hO tF nF;have pF:=cX tF nF;have lF:(aq F).length=F.length:=plain_len F;refine uL pF.tr pF.ne e (by omega) (λx hx=>?_) k;obtain⟨s,hs,es⟩:=dM tF nF;obtain⟨n,hn,rfl⟩:=g8 hx;have h1:=es n
 have h2:(cf F n).natAbs<=1000000:=by
  by_cases hj:n<F.length
  ·have:=hb (cf F n) (by rw[cU hj];exact OI hj);omega
  ·rw[bQ (by omega)];decide
 have h3:(cf F n).natAbs=s.natAbs*(cf (aq F) n).natAbs:=by rw[h1,N4]
 have h4:1<=s.natAbs:=OK.mpr hs;have:=O2 (cf (aq F) n).natAbs h4;omega
def Rts.dvB{G p:Ex}{B:Rat}(hG:Flt G)(hp:Flt p)(d:Dv p G)(hB:0<B)(h1:∀x,x <= -B->vw G x=vw G (-B)/\pv G x≠0)(h2:∀x,B<=x->vw G x=vw G B/\pv G x≠0):Rts (pv p) (vw p) (vw p (-B)) (vw p (-B)-vw p B):=by
 have C:=hp.cnt;refine⟨C,B,hB,λx hx=>⟨?_,λz=>(h1 x hx).2 (eK d z)⟩,λx hx=>⟨?_,λz=>(h2 x hx).2 (eK d z)⟩⟩
 ·rcases da hx with q |q
  ·have k:=hG.le hp d q;have:=(h1 x hx).1;have:=C.mono q;omega
  ·rw[q]
 ·have e:vw p x=vw p B:=by
   rcases da hx with q |q
   ·have k:=hG.le hp d q;have:=(h2 x hx).1;have:=C.mono q;omega
   ·rw[q]
  omega
def FE{G q:Ex}{B l h:Rat}{cs:List (Rat×Rat)}(hG:Flt G)(Q:Od G l h q)(h3:q.length=3)(hB:0<B)(h1:∀x,x <= -B->vw G x=vw G (-B)/\pv G x≠0)(h2:∀x,B<=x->vw G x=vw G B/\pv G x≠0)
 (hp:cs.Pairwise λx y=>x.2<=y.1) (hc:∀c∈cs,c.1<c.2/\vw G c.1-vw G c.2=1 /\ -B<=c.1/\c.2<=B) (hl:(cs.length:Int)=vw G (-B)-vw G B):∃c∈cs,vw q c.1-vw q c.2=1/\vw q c.2≠vw q h:=by
 have R:=Rts.dvB hG Q.flt Q.dv hB h1 h2;have C:=Q.flt.cnt;have cv:=(uV hG.cnt cs (show -B<=B by grind) hp hc hl).dv hG Q.flt Q.dv (λc hc'=>(hc c hc').2.2.1) (by grind) hp λc hc'=>(hc c hc').2.2.2
 have le1:∀c∈cs,vw q c.1-vw q c.2<=1:=λc hc'=>by obtain⟨a,b,_⟩:=hc c hc';have:=hG.le Q.flt Q.dv a;omega
 have i1:=R.in l;have i2:=R.in h;have zl:=kK (pv q) l;have o:=Q.one
 have two:2<=vw q (-B)-vw q B:=by obtain⟨q0,q1,q2,rfl⟩:=oB h3;exact Cr Q.flt Q.pln.pos R (by omega)
 by_cases e:vw q h=vw q (-B)-1
 ·obtain⟨c,c1,c2,c3⟩:=cv.find (t:=vw q (-B)-2) le1 (by omega) (by omega);exact⟨c,c1,by omega,by omega⟩
 ·obtain⟨c,c1,c2,c3⟩:=cv.find (t:=vw q (-B)-1) le1 (by omega) (by omega);exact⟨c,c1,by omega,by omega⟩
def yw(a P q:Rat):a*(P*q)=a*q*P:=by grind
def EF(L B w:Rat):L*(2*B*w)=w*(8*L*B)/4:=by grind
def EE(L M u:Rat):L*(M-u)=L*M-L*u:=by grind
def ED{u v z:Rat}(t:v-u<=z)(e:u<1):v<z+1:=by grind
def Di{G q:Ex}(hG:Pln G)(hq:Pln q)(fq:Flt q)(h3:q.length=3)(d:Dv q G){x1 y1 x2 y2 B M:Rat}(hB:1<=B)(l1:x1<y1)(l2:x2<y2)(o1:vw q x1-vw q y1=1)(o2:vw q x2-vw q y2=1)(ne:vw q y2≠vw q y1)
 (bx1:Bd B x1) (by1:Bd B y1) (bx2:Bd B x2) (by2:Bd B y2) (w1:(y1-x1)*(8*(ao G:Rat)*B)<=1) (w2:(y2-x2)*(8*(ao G:Rat)*B)<=1) (c1:x1*x2<=M) (c2:x1*y2<=M) (c3:y1*x2<=M) (c4:y1*y2<=M) (is:M=x1*x2\/M=x1*y2\/M=y1*x2\/M=y1*y2) :
 ∃a s p:Int,q=aq [p,s,ao G]/\ao G=a*ao q/\(p:Rat)<=(ao G:Rat)*M/\(ao G:Rat)*M<(p:Rat)+1/\((-s:Int):Rat)<=(ao G:Rat)*(y1+y2)/\(ao G:Rat)*(y1+y2)<((-s:Int):Rat)+1:=by
 obtain⟨a,ha,ea,_⟩:=zX hq hG d;obtain⟨q0,q1,q2,rfl⟩:=oB h3;have hp:0<q2:=hq.pos;have ea':ao G=a*q2:=ea;have Q0:(0:Rat)<(q2:Rat):=NJ.mpr hp;have A0:(0:Rat)<(a:Rat):=NJ.mpr ha;have L0:(0:Rat)<(ao G:Rat):=NJ.mpr hG.pos;have LB:0<8*(ao G:Rat)*B:=NV (by grind) (by grind);have we:1/(8*(ao G:Rat)*B)*(8*(ao G:Rat)*B)=1:=Nx (by grind)
 have key : -(q1:Rat)/(q2:Rat)<=y1+y2/\y1+y2-2*(1/(8*(ao G:Rat)*B)) <= -(q1:Rat)/(q2:Rat)/\(q0:Rat)/(q2:Rat)<=M/\M-2*B*(1/(8*(ao G:Rat)*B))<=(q0:Rat)/(q2:Rat):=by
  have v1:y1-x1<=1/(8*(ao G:Rat)*B):=du LB (by rw[we];exact w1);have v2:y2-x2<=1/(8*(ao G:Rat)*B):=du LB (by rw[we];exact w2);rcases Int.lt_or_gt_of_ne ne with z |z
  ·exact wK fq hp l1 l2 o1 o2 z bx1 by1 bx2 by2 v1 v2 c1 c2 c3 c4 is
  ·have:=wK fq hp l2 l1 o2 o1 z bx2 by2 bx1 by1 v2 v1 (by grind) (by grind) (by grind) (by grind) (M:=M) (by
    rcases is with e |e |e |e
    ·exact .inl (by grind)
    ·exact .inr (.inr (.inl (by grind)))
    ·exact .inr (.inl (by grind))
    ·exact .inr (.inr (.inr (by grind))))
   obtain⟨t1,t2,t3,t4⟩:=this;exact⟨by grind,by grind,t3,t4⟩
 obtain⟨k1,k2,k3,k4⟩:=key;have eS : -(q1:Rat)/(q2:Rat)*(q2:Rat) = -(q1:Rat):=Nx (by grind);have eP:(q0:Rat)/(q2:Rat)*(q2:Rat)=(q0:Rat):=Nx (by grind);refine⟨a,a*q1,a*q0,?_,ea,?_,?_,?_,?_⟩
 ·have:[a*q0,a*q1,ao G]=aE a [q0,q1,q2]:=by rw[ea'];rfl
  rw[this,je (by omega) hq.tr,hq.plain]
 all_goals
  have eL:(ao G:Rat)=(a:Rat)*(q2:Rat):=by rw[ea',NC]
  generalize 1/(8*(ao G:Rat)*B)=w at *
  generalize -(q1:Rat)/(q2:Rat)=S at *
  generalize (q0:Rat)/(q2:Rat)=P at *
  generalize (ao G:Rat)=L at *
 ·have t:=NE k3 (Np L0);rw[NC,<- eP,yw,<- eL];exact t
 ·have t:=NE k4 (Np L0);rw[NC,<- eP,yw,<- eL];rw[EE,EF,we]at t;exact ED t (by decide +kernel)
 ·rw[Ow,NC];have e1 : -((a:Rat)*(q1:Rat))=L*S:=by rw[eL];grind
  rw[e1];exact NE k1 (Np L0)
 ·rw[Ow,NC];have e1 : -((a:Rat)*(q1:Rat))=L*S:=by rw[eL];grind
  rw[e1];have:=NE k2 (Np L0)
  have p1:=ND (ND (Np L0) (show 0<=w by
   have:=Oi.mp λz:w<0=>by have:=OW z LB;grind
   exact this)) (show 0<=B-1 by grind)
  grind
end RM
open PySem.W in
local macro_rules | `(tactic|walk_at "comp_ok")=>`(tactic|exact⟨by with_unfolding_all rfl,by decide +kernel,rfl,by decide +kernel,by repeat' (first |exact List.forall_mem_nil _ |refine List.forall_mem_cons.2 ⟨rfl,?_⟩),by rfl,by repeat' (first |exact .nil |refine .cons ⟨rfl,by first |exact Or.inl rfl |exact Or.inr rfl,rfl⟩ ?_)⟩)
namespace R59
open PySem L2 RM
def top(i:Nat):Stmt:=PySem.Challenge.pw_rootspan_k59_roots_turned.main.body.getD i (.Pass ⟨0,0,0,0⟩)
abbrev rf:Stmt:=top 9
abbrev re:Stmt:=top 10
abbrev qP:Stmt:=top 11
abbrev jY:Stmt:=hZ (top 12) 0
abbrev sN:Stmt:=hZ (top 12) 1
abbrev sP:Stmt:=hZ (top 12) 2
abbrev sL:Stmt:=hZ (top 12) 3
abbrev sO:Stmt:=hZ (top 12) 4
abbrev sS:Stmt:=hZ (top 12) 5
abbrev sM:Stmt:=hZ (top 12) 6
abbrev sR:Stmt:=hZ (top 12) 7
abbrev rA:Stmt:=top 14
abbrev rZ:Stmt:=top 15
abbrev sD:Stmt:=top 16
abbrev qT:Stmt:=top 17
abbrev sj:Stmt:=top 18
abbrev rK:Stmt:=top 19
abbrev qZ:Stmt:=top 20
abbrev qR:Stmt:=top 21
abbrev rV:Stmt:=top 22
abbrev nD:Stmt:=top 23
abbrev rB:Stmt:=top 24
abbrev qQ:Stmt:=top 25
abbrev q9:Stmt:=top 26
abbrev rY:Stmt:=top 28
abbrev rg:Stmt:=top 29
abbrev rN:Stmt:=top 30
abbrev rh:Stmt:=top 32
abbrev rj:Stmt:=top 33
abbrev sk:Stmt:=top 34
abbrev r9:Stmt:=top 35
abbrev ss:Stmt:=top 37
abbrev sr:Stmt:=top 38
abbrev rM:Stmt:=top 39
abbrev rH:Stmt:=top 40
abbrev rS:Stmt:=top 41
abbrev qU:Stmt:=top 42
abbrev rT:Stmt:=top 43
abbrev qW:Stmt:=top 44
abbrev rL:Stmt:=top 45
abbrev sA:Stmt:=top 46
abbrev rX:Stmt:=top 48
abbrev si:Stmt:=top 49
abbrev rC:Stmt:=top 50
abbrev qO:Stmt:=top 51
abbrev qX:Stmt:=top 53
abbrev rP:Stmt:=top 55
abbrev rW:Stmt:=top 56
abbrev rO:Stmt:=top 57
abbrev qV:Stmt:=top 58
abbrev qS:Stmt:=top 59
abbrev sT:Stmt:=hZ (top 62) 0
abbrev rq:Stmt:=top 63
abbrev rz:Stmt:=top 64
abbrev rG:Stmt:=top 65
abbrev rm:Stmt:=top 66
abbrev rJ:Stmt:=top 67
abbrev qY:Stmt:=top 68
abbrev sB:Stmt:=top 69
abbrev sy:Stmt:=top 70
abbrev se:Stmt:=top 71
abbrev q8:Stmt:=top 72
abbrev rd:Stmt:=top 73
abbrev rD:Stmt:=top 75
abbrev rR:Stmt:=top 76
abbrev rE:Stmt:=top 77
abbrev rF:Stmt:=top 78
abbrev sH:Stmt:=top 80
abbrev sE:Stmt:=top 81
abbrev sG:Stmt:=top 82
abbrev sI:Stmt:=top 83
abbrev sK:Stmt:=top 84
abbrev sJ:Stmt:=top 85
abbrev rQ:Stmt:=top 86
def aH{N P:List Str}{sc:Scope}(a:sc.kind=.function:=by rfl)(b:sc.isCoroutine=false:=by rfl)(c:sc.isGenerator=false:=by rfl)(e:N.Nodup:=by decide +kernel)(f:N.take P.length=P:=by rfl)(g:∀x∈P,sc.names.lookup x=some .local\/sc.names.lookup x=some .cell:=by decide +kernel)(h:∀y∈sc.names,y.2≠.free:=by decide +kernel):FnScope N P sc:=⟨a,b,c,e,f,g,h⟩
def nj:FnScope ["row","divisor","value"] ["row"] (aD rf):=aH
def jT:FnScope ["one","other","greater","less","rest"] ["one","other"] (aD re):=aH
def DR:FnScope ["value"] ["value"] (aD qP):=aH
def qN:FnScope ["self","top","bottom","divisor"] ["self","top","bottom"] (aD jY):=aH
def Ei:FnScope ["self","other"] ["self","other"] (aD sN):=aH
def Ek:FnScope ["self","other"] ["self","other"] (aD sP):=aH
def Eg:FnScope ["self","other"] ["self","other"] (aD sL):=aH
def Ej:FnScope ["self","other"] ["self","other"] (aD sO):=aH
def Em:FnScope ["self","other"] ["self","other"] (aD sS):=aH
def Eh:FnScope ["self"] ["self"] (aD sM):=aH
def El:FnScope ["self"] ["self"] (aD sR):=aH
def qK:FnScope ["row","length"] ["row"] (aD rA):=aH
def D8:FnScope ["row"] ["row"] (aD rZ):=aH
def yj:FnScope ["first","second","length"] ["first","second"] (aD sD):=aH
def x5:FnScope ["first","second","length"] ["first","second"] (aD qT):=aH
def Eb:FnScope ["row","place"] ["row","place"] (aD sj):=aH
def jU:FnScope ["first","second","product","j","one","k","other"] ["first","second"] (aD rK):=aH
def DV:FnScope ["row"] ["row"] (aD qZ):=aH
def DS:FnScope ["row"] ["row"] (aD qR):=aH
def D5:FnScope ["row"] ["row"] (aD rV):=aH
def x6:FnScope ["row","divisor"] ["row"] (aD nD):=aH
def yb:FnScope ["row","small"] ["row"] (aD rB):=aH
def jR:FnScope ["row","top","bottom","above","below","value"] ["row","top","bottom"] (aD qQ):=aH
def DX:FnScope ["row","ratio"] ["row","ratio"] (aD q9):=aH
def fJ:FnScope ["first","second","size","sign","steps","factor","quotient","rest","place","lead"] ["first","second"] (aD rY):=aH
def DZ:FnScope ["row","factor"] ["row","factor"] (aD rg):=aH
def ny:FnScope ["row","second","place","lead","kept","k","value"] ["row","second","place","lead"] (aD rN):=aH
def D2:FnScope ["polynomial"] ["polynomial"] (aD rh):=aH
def iX:FnScope ["first","second","row","one","other","rest"] ["first","second"] (aD rj):=aH
def iZ:FnScope ["row","ratio","many","before","polynomial","sign"] ["row","ratio"] (aD sk):=aH
def D9:FnScope ["row","low","high"] ["row","low","high"] (aD r9):=aH
def k7:FnScope ["row","last","greatest","size"] ["row"] (aD ss):=aH
def gA:FnScope ["row","chain","high","low","waiting","found","cell","many","cut","there"] ["row"] (aD sr):=aH
def D4:FnScope ["low","high"] ["low","high"] (aD rM):=aH
def nk:FnScope ["row","low","high","width","reach","steps","found"] ["row","low","high","width"] (aD rH):=aH
def jV:FnScope ["reach","width","wide","goal","steps"] ["reach","width"] (aD rS):=aH
def gS:FnScope ["row","low","reach","bottom","start","step","found","power","value"] ["row","low","reach"] (aD qU):=aH
def fh:FnScope ["row","end","steps","place","pieces","ahead","left","k","there"] ["row","end","steps"] (aD rT):=aH
def kZ:FnScope ["row","found","factor","value"] ["row"] (aD qW):=aH
def nw:FnScope ["row","found","start","k"] ["row"] (aD rL):=aH
def Ed:FnScope ["low","reach","place","pieces"] ["low","reach","place","pieces"] (aD sA):=aH
def D7:FnScope ["divisor","row"] ["divisor","row"] (aD rX):=aH
def jW:FnScope ["first","second","one","other","rest"] ["first","second"] (aD si):=aH
def yd:FnScope ["row","divisor","found"] ["row","divisor"] (aD rC):=aH
def DQ:FnScope ["row"] ["row"] (aD qO):=aH
def jS:FnScope ["first","second","least","greatest","found"] ["first","second"] (aD qX):=aH
def iY:FnScope ["row","low","high","whole","width","span","line","cell","square"] ["row","low","high"] (aD rP):=aH
def D6:FnScope ["whole"] ["whole"] (aD rW):=aH
def yi:FnScope ["whole","span","found"] ["whole","span"] (aD rO):=aH
def qJ:FnScope ["whole","span","other","last","together"] ["whole","span","other"] (aD qV):=aH
def DT:FnScope ["factor","ratio"] ["factor","ratio"] (aD qS):=aH
def En:FnScope ["self","row","low","high"] ["self","row","low","high"] (aD sT):=aH
def D3:FnScope ["height"] ["height"] (aD rq):=aH
def x9:FnScope ["row","limit"] ["row"] (aD rz):=aH
def k6:FnScope ["simple","low","high","row","span","half"] ["simple","low","high"] (aD rG):=aH
def x8:FnScope ["row","simple"] ["row"] (aD rm):=aH
def yg:FnScope ["one","width","span"] ["one","width"] (aD rJ):=aH
def DU:FnScope ["one","width"] ["one","width"] (aD qY):=aH
def Ee:FnScope ["one","ratio"] ["one","ratio"] (aD sB):=aH
def Ec:FnScope ["one","sign"] ["one","sign"] (aD sy):=aH
def Ea:FnScope ["first","second"] ["first","second"] (aD se):=aH
def DW:FnScope ["one"] ["one"] (aD q8):=aH
def DY:FnScope ["row","one"] ["row","one"] (aD rd):=aH
def ye:FnScope ["one","row"] ["one"] (aD rD):=aH
def qM:FnScope ["one","row","clear"] ["one"] (aD rR):=aH
def yf:FnScope ["row","worth"] ["row"] (aD rE):=aH
def qL:FnScope ["one","clear"] ["one"] (aD rF):=aH
def Ef:FnScope ["_law_script","_law_k"] ["_law_script","_law_k"] (aD sH):=aH
def yk:FnScope ["_law_cell","_law_far","_law_one"] ["_law_cell","_law_far"] (aD sE):=aH
def sc__law_drawn:FnScope ["_law_script","_law_first","_law_size","_law_far","_law_row"] ["_law_script"] (aD sG):=aH
def jX:FnScope ["_law_kp","_law_r","_law_total","_law_scale","_law_one"] ["_law_kp","_law_r"] (aD sI):=aH
def ym:FnScope ["_law_n","_law_other","_law_begin"] ["_law_n","_law_other"] (aD sK):=aH
def yl:FnScope ["_law_row","_law_others","_law_k"] ["_law_row","_law_others"] (aD sJ):=aH
def sc_law:FnScope ["_law_script","_law_kp","_law_found","_law_mirror","_law_below","_law_above"] ["_law_script"] (aD rQ):=aH
structure Txt(K:PySem.W.Frag)(mg:Str->Option Value):Prop where
 abs_:mg "abs"=none
 len_:mg "len"=none
 max_:mg "max"=none
 range_:mg "range"=none
 enumerate_:mg "enumerate"=none
 list_:mg "list"=none
 reversed_:mg "reversed"=none
 sum_:mg "sum"=none
 any_:mg "any"=none
 int_:mg "int"=none
 isinstance_:mg "isinstance"=none
 HIGHEST_:∃t:Tok,mg "HIGHEST"=some (.int 8 t)
def mS(K:PySem.W.Frag):Sp:=λvs H Q _=>∃(a:Addr) (ns:Ex),vs=[.ref a]/\SqL K H a (ns.map V.int)/\ns.length<=63/\∀H',Q (.bl true) H'
section
variable {P:Program}{w:World}{K:PySem.W.Frag}{mg:Str->Option Value}{base:Heap}
def yz(n:Nat):(List.replicate n [V.int 0]).flatten=(List.replicate n (0:Int)).map V.int:=by
 induction n with
 |zero=>rfl
 |succ n ih=>rw[Pf,PU,ih,Pf];rfl
def ki{n j:Nat}{i:Int}(e:i=j)(h:j<n):ixN n i=some j:=by subst e;unfold ixN;rw[if_pos (Qa _),if_pos (by omega)];simp
def lQ(l:Ex)(j:Nat)(x:Int):(l.map V.int).set j (.int x)=(l.set j x).map V.int:=by rw[List.map_set]
def pJ{l:Ex}{j:Nat}{i:Int}(e:i=j)(h:j<l.length):atI (l.map V.int) i=some (.int (cf l j)):=by subst e;exact ie (by rw[List.getElem?_map,iL h];rfl)
def SameB(p:Addr)(H H':Hp):Prop:=∀b o,b≠p->H b=some o->H' b=some o
def SameB.refl(p:Addr)(H:Hp):SameB p H H:=λ_ _ _ h=>h
def SameB.then_new{p q:Addr}{H H1:Hp}{o:HO}(s:SameB p H H1)(h:H1 q=none):SameB p H (upd H1 q o):=λb u n e=>by rw[upd_ne (bn (s b u n e) h)];exact s b u n e
def SameB.then_upd{p:Addr}{H H1:Hp}{o:HO}(s:SameB p H H1):SameB p H (upd H1 p o):=λb u n e=>by rw[upd_ne n];exact s b u n e
def AllB(k:Nat)(l:Ex):Prop:=∀x∈l,Bits k x
def AllB.cf{k:Nat}{l:Ex}(h:AllB k l)(n:Nat):Bits k (cf l n):=by
 by_cases hn:n<l.length
 ·rw[cU hn];exact h _ (OI hn)
 ·rw[bQ (ON hn)];exact Bits.zero
def fR{H H2:Hp}{p:Addr}{o:HO}(s:Same H H2)(hp:H p=none):Same H (upd H2 p o):=λb u e=>by rw[upd_ne (bn e hp)];exact s b u e
def HQ(l:Ex)(x:Int):l.map V.int++[V.int x]=(l++[x]).map V.int:=by rw[NI];rfl
def ky(ms:Ex)(lo hi:Option Int):Ex:=(ms.drop (HT.sIx ms.length 0 lo)).take (HT.sIx ms.length ms.length hi-HT.sIx ms.length 0 lo)
def uU(ms:Ex)(lo hi:Option Int):iO (ms.map V.int) lo hi=(ky ms lo hi).map V.int:=by unfold iO ky;rw[No,<- List.map_drop,<- List.map_take]
def AllB.app{k:Nat}{l r:Ex}(h1:AllB k l)(h2:AllB k r):AllB k (l++r):=λx hx=>(NT.mp hx).elim (h1 x) (h2 x)
def AllB.zeros{k n:Nat}:AllB k (List.replicate n 0):=λx hx=>by rw[List.eq_of_mem_replicate hx];exact Bits.zero
def AllB.mono{j k:Nat}{l:Ex}(h:AllB j l)(hk:j<=k:=by decide):AllB k l:=λx hx=>(h x hx).mono hk
def AllB.nil{k:Nat}:AllB k []:=λ_ h=>nomatch h
def HL{l:Ex}{x:Int}(h:x∈trim l):x∈l:=by
 unfold trim at h
 rw[List.mem_reverse]at h;exact List.mem_reverse.mp ((List.dropWhile_sublist _).subset h)
def AllB.trim{k:Nat}{l:Ex}(h:AllB k l):AllB k (trim l):=λx hx=>h x (HL hx)
def iK{l:Ex}{i:Nat}{x:V}(h:(l.map V.int)[i]?=some x):∃c,l[i]?=some c/\x=.int c/\c∈l/\l.take (i+1)=l.take i++[c]:=by
 rw[List.getElem?_map]at h;cases e:l[i]? with
 |none=>rw[e]at h;cases h
 |some c=>rw[e]at h;exact⟨c,rfl,(Option.some.inj h).symm,List.mem_of_getElem? e,by rw[OP,e];rfl⟩
section
variable {σ:St}{H:Hp}{Q:VK}{i:Nat}{k:Int}{p:Addr}{xs:List V}{v:V}
def fj(hp:SqT K H p xs)(ha:atI xs k=some v)(hσ:σ[i]?=some (some (V.ref p)))(h:Q v H):tOp (nV K) (mN i) (tC (.int k)) σ H Q:=⟨_,hσ,p,xs,k,v,rfl,rfl,hp,ha,h⟩
def yC(hp:SqL K H p xs)(ha:atI xs k=some v)(hσ:σ[i]?=some (some (V.ref p)))(h:Q v H):tOp (nX K) (mN i) (tC (.int k)) σ H Q:=⟨_,hσ,p,xs,k,v,rfl,rfl,hp,ha,h⟩
end
def au{R:Int->Int->Prop}{a b:Int}(h:R a b):∃i j,V.int a=.int i/\V.int b=.int j/\R i j:=⟨a,b,rfl,rfl,h⟩
def mkL(H:Hp)(Q:VK)(r:Ex):Prop:=∀(p:Addr) (H':Hp),Same H H'->H p=none->H' p=some (.lst (r.map V.int))->Q (.ref p) H'
def jK(K:PySem.W.Frag):Sp:=λvs H Q _=>∃(a:Addr) (ns:Ex),vs=[.ref a]/\SqL K H a (ns.map V.int)/\mkL H Q (trim ns)
def kT(K:PySem.W.Frag):Sp:=λvs H Q _=>∃(a:Addr) (ns:Ex) (k:Nat),vs=[.ref a,.int k]/\SqL K H a (ns.map V.int)/\Q (.int (ns.getD k 0)) H
def mU(K:PySem.W.Frag)(g:Ex->Ex->Ex):Sp:=λvs H Q _=>∃(a b:Addr) (xs ys:Ex),vs=[.ref a,.ref b]/\SqL K H a (xs.map V.int)/\SqL K H b (ys.map V.int)/\xs.length<=1000000/\ys.length<=1000000/\mkL H Q (g xs ys)
def zN(i j:Nat):(if((j:Nat):Int)>((i:Nat):Int)then((j:Nat):Int)else((i:Nat):Int))=((max i j:Nat):Int):=by split<;>omega
def mV{n:Nat}(h:n<=sizeLine) : -(2^62)<=((n:Nat):Int)/\((n:Nat):Int)<2^62:=by have:=sizeLine_eq;omega
def RwH(H:Hp)(ps:List Addr)(xss:List Ex):Prop:=ps.length=xss.length/\∀(i:Nat) (p:Addr) (xs:Ex),ps[i]?=some p->xss[i]?=some xs->H p=some (.lst (xs.map V.int))
def RwH.nil{H:Hp}:RwH H [] []:=⟨rfl,λi p xs h=>by simp at h⟩
def RwH.same{H H':Hp}{ps:List Addr}{xss:List Ex}(h:RwH H ps xss)(s:Same H H'):RwH H' ps xss:=⟨h.1,λi p xs a b=>s _ _ (h.2 i p xs a b)⟩
def RwH.snoc{H:Hp}{ps:List Addr}{xss:List Ex}{p:Addr}{xs:Ex}(h:RwH H ps xss)(hp:H p=some (.lst (xs.map V.int))):RwH H (ps++[p]) (xss++[xs]):=by
 refine⟨by rw[Nq,Nq,h.1];rfl,λi q ys a b=>?_⟩;by_cases hi:i<ps.length
 ·rw[List.getElem?_append_left hi]at a;rw[List.getElem?_append_left (by rw[<- h.1];exact hi)]at b;exact h.2 i q ys a b
 ·rw[List.getElem?_append_right (by omega)]at a;rw[List.getElem?_append_right (by rw[<- h.1];omega),<- h.1]at b;by_cases h0:i-ps.length=0
  ·rw[h0]at a b;obtain rfl:p=q:=by simpa using a
   obtain rfl:xs=ys:=by simpa using b
   exact hp
  ·rw[List.getElem?_eq_none_iff.mpr (by simp;omega)]at a;cases a
def RwH.of_get{H:Hp}{ps:List Addr}{xss:List Ex}{i:Nat}{x:V}(h:RwH H ps xss)(hx:(ps.map V.ref)[i]?=some x):∃p xs,x=.ref p/\ps[i]?=some p/\xss[i]?=some xs/\H p=some (.lst (xs.map V.int))/\i<xss.length:=by
 rw[List.getElem?_map]at hx;cases e:ps[i]? with
 |none=>rw[e]at hx;cases hx
 |some p =>
  rw[e]at hx;have hi:i<ps.length:=(List.getElem?_eq_some_iff.mp e).1;have hi':i<xss.length:=by rw[<- h.1];exact hi
  exact⟨p,xss[i],(Option.some.inj hx).symm,rfl,List.getElem?_eq_getElem hi',h.2 i p _ e (List.getElem?_eq_getElem hi'),hi'⟩
def HR(ps:List Addr)(p:Addr):ps.map V.ref++[V.ref p]=(ps++[p]).map V.ref:=by rw[NI];rfl
def sp2:Sp:=λvs H Q _=>∃a b:Int,vs=[.int a,.int b]/\Q (.int (Nat.gcd a.natAbs b.natAbs:Nat)) H
def my(i:Int):(if i<0 then -i else i)=(i.natAbs:Int):=by split<;>omega
def Gc(F:Fun K "shared_by_two" "shared_by_two" re f fd)(T:Txt K mg):FnOk P w K mg base aG 1 f fd ["one","other"] sp2:=by
 refine F.ok jT (λvs H Q E h=>?_) (λ_ A _ s H vs Q E hr h=>?_)
 ·obtain⟨a,b,rfl,_⟩:=h;rfl
 ·obtain⟨a,b,rfl,k⟩:=h
  refine⟨_,(ah (ap 2 jT (dS kB (by rfl) T.abs_ PyProof.Rows.boot_abs (aa (pv 0) ae)))
   (ah (ap 3 jT (dS kB (by rfl) T.abs_ PyProof.Rows.boot_abs (aa (pv 1) ae)))
   (ah (gY PassesOwn.never (aN kf (pv 3) af)
     (ah (ap 4 jT (av gG (pv 2) (pv 3)))
       (ah (ap 2 jT (pv 3))
       (ak (ap 3 jT (pv 4))))))
   (ak (az (pv 2)))))),?_⟩
  refine⟨_,rfl,_,rfl,?_⟩;refine⟨_,rfl,_,rfl,?_⟩;refine⟨λm Q2 H'=>∃(x y:Int) (z:Option V),Q2=[some (.int a),some (.int b),some (.int x),some (.int y),z]/\H=H'/\0<=x/\0<=y/\y.natAbs=m/\Nat.gcd x.natAbs y.natAbs=Nat.gcd a.natAbs b.natAbs,⟨_,_,_,none,rfl,rfl,?_,?_,rfl,?_⟩,?_⟩
  ·rw[my];exact Qa _
  ·rw[my];exact Qa _
  ·rw[my,my,OF,OF]
  ·rintro m Q2 H' ⟨x,y,z,rfl,rfl,hx,hy,rfl,hg⟩;refine⟨_,rfl,_,_,rfl,rfl,_,rfl,?_⟩;refine eR (λhn=>?_) (λh0=>?_)
   ·have hp:0<y:=by have:y≠0:=hn;omega
    refine⟨_,λ_ _ h=>h,?_⟩;refine⟨_,rfl,_,rfl,_,_,rfl,rfl,hp,?_⟩;refine⟨_,rfl,?_⟩;refine⟨_,rfl,?_⟩;have h1:=PP x (N9 hp);have h2:=PQ x hp;exact⟨(x%y).natAbs,by omega,y,x%y,_,rfl,rfl,hy,h1,rfl,by rw[IX hx hp];exact hg⟩
   ·refine⟨_,rfl,?_⟩;have e:(y:Int)=0:=h0;subst e
    have e2:(x:Int)=((Nat.gcd a.natAbs b.natAbs:Nat):Int):=by rw[<- hg];show x=((Nat.gcd x.natAbs 0:Nat):Int);rw[Nat.gcd_zero_right];omega
    rw[e2];exact k
def qm(K:PySem.W.Frag):Sp:=λvs H Q _=>∃(a:Addr) (ns:Ex),vs=[.ref a]/\SqL K H a (ns.map V.int)/\Q (.int (aC ns:Nat)) H
def Ge(F:Fun K "shared" "shared" rf f fd)(T:Txt K mg)(vF:Cal P w K mg base 1 "shared_by_two" ["one","other"] sp2 JJ Js):FnOk P w K mg base aG 2 f fd ["row"] (qm K):=by
 refine F.ok nj (λvs H Q E h=>?_) (λ_ A _ s H vs Q E hr h=>?_)
 ·obtain⟨a,ns,rfl,_⟩:=h;rfl
 ·obtain⟨a,ns,rfl,hS,k⟩:=h
  refine⟨_,(ah (ap 1 nj af)
   (ah (dQ PassesOwn.never rfl (gF (K:=K) rfl (pv 0)) (de 2 nj)
     (ak (ap 1 nj (am vF hr (aa (pv 1) (aa (pv 2) ae))))))
   (ak (az (pv 1))))),?_⟩
  refine⟨_,rfl,a,rfl,⟨_,hS⟩,uF (K:=K) (a:=a) (xs:=ns.map V.int) (λi Q2 H'=>∃z:Option V,Q2=[some (.ref a),some (.int (aC (ns.take i):Nat)),z]/\H=H') ⟨none,rfl,rfl⟩ (λi Q2 H' _ ⟨z,_,e⟩=>by rw[<- e];exact hS) ?_ ?_⟩
  ·rintro i y Q2 H' hi ⟨z,rfl,rfl⟩;rw[List.getElem?_map]at hi;cases e:ns[i]? with
   |none=>rw[e]at hi;cases hi
   |some n =>
    rw[e]at hi;obtain rfl:=Option.some.inj hi;refine⟨_,rfl,_,rfl,_,_,rfl,?_⟩;have e3:ns.take (i+1)=ns.take i++[n]:=by rw[OP,e];rfl
    refine⟨some (.int n),?_,rfl⟩;rw[e3,IY,OF];rfl
  ·rintro Q2 H' ⟨z,rfl,rfl⟩;refine⟨_,rfl,?_⟩;rw[No,O8];exact k
def h9(t b:Int):List (Str×V):=cW "bottom" (.int b) (cW "top" (.int t) [])
def CT:¬(("top":Str)="bottom"):=by decide +kernel
def bX{t b:Int}:(h9 t b).lookup ("bottom":Str)=some (.int b):=by unfold h9;rw[fA,if_pos rfl]
def cK{t b:Int}:(h9 t b).lookup ("top":Str)=some (.int t):=by unfold h9;rw[fA,if_neg CT,fA,if_pos rfl]
def cB{t b:Int}{m:Str}(h1:¬m="bottom")(h2:¬m="top"):(h9 t b).lookup m=none:=by unfold h9;rw[fA,if_neg h1,fA,if_neg h2];rfl
structure RCI(K:PySem.W.Frag)(mg:Str->Option Value)(C:Addr):Prop where
 cl:Cls K C
 nT:NoAttr K C "top"
 nB:NoAttr K C "bottom"
 mg:mg "Ratio"=some (.ref C)
 ha:PySem.W.findIn K (.ref C) "__class__"=some (some (.builtin "object.__class__"))
 hn:PySem.W.specialIn K (.builtin "object.__class__") "__get__"=some (some (.builtin "getset_descriptor.__get__"))
 ht:PySem.W.takesIn K (.builtin "object.__class__")=some true
 hm:PySem.W.mroIn K C (.type "object")=some true
def RA(C:Addr)(H:Hp)(p:Addr)(t b:Int):Prop:=∃dx,H p=some (.ins C dx (h9 t b))
def RA.same{C:Addr}{H H':Hp}{p:Addr}{t b:Int}(h:RA C H p t b)(s:Same H H'):RA C H' p t b:=let⟨dx,e⟩:=h;⟨dx,s _ _ e⟩
def mkR(C:Addr)(H:Hp)(Q:VK)(t b:Int):Prop:=∀(x:Addr) (H':Hp),Same H H'->H x=none->RA C H' x (rt t b) (rb t b)->Q (.ref x) H'
inductive c9(C:Addr)(vs:List V)(H:Hp)(Q:VK)(E:XK):Prop
 |mk (p dx:Addr) (t b:Int):vs=[.ref p,.int t,.int b]->H p=some (.ins C dx [])->b≠0->Bits 9000 b->Q .non (upd H p (.ins C dx (h9 (rt t b) (rb t b))))->c9 C vs H Q E
def cZ{C:Addr}{H1:Hp}{q:Addr->Hp->Prop}{E:XK}{t b:Int}(hb:b≠0)(bb:Bits 9000 b)(h:∀(x:Addr) (H':Hp),Same H1 H'->H1 x=none->RA C H' x (rt t b) (rb t b)->q x H'):∀x dx:Addr,H1 x=none->H1 dx=none->dx≠x->c9 C (.ref x::([.int t,.int b]++[])) (upd (upd H1 dx (.own x)) x (.ins C dx [])) (λv H2=>v=.non/\q x H2) E:=λx dx nx ndx ne=>by
 refine⟨x,dx,t,b,rfl,ax,hb,bb,rfl,?_⟩;rw[mI]
 have s0:Same H1 (upd (upd H1 dx (.own x)) x (.ins C dx (h9 (rt t b) (rb t b)))):=λc o e=>by rw[upd_ne (bn e nx),upd_ne (bn e ndx)];exact e
 exact h x _ s0 nx ⟨dx,ax⟩
def A6{t b:Int}(hb:b≠0)(bb:Bits 9000 b):Bits 9000 (dv t b):=bb.of_le (by rw[jp];exact Nat.le_of_dvd (OK.mpr hb) (Pi _ _))
def Hd(F:FunD K "__init__" "Ratio.__init__" jY dV f fd)(T:Txt K mg)(R:RCI K mg C)(vF:Cal P w K mg base 1 "shared_by_two" ["one","other"] sp2 JJ Js):FnOk P w K mg base aG 2 f fd ["self","top","bottom"] (c9 C):=by
 refine F.ok qN (λvs H Q E h=>?_) (λ_ A _ s H vs Q E hr h=>?_)
 ·obtain⟨p,dx,t,b,rfl,_⟩:=h;rfl
 ·obtain⟨p,dx,t,b,rfl,hp,hb,bb,k⟩:=h
  refine⟨_,(ah (aT (aN cI (pv 2) af)
   (ak jb)
   aV)
   (ah (ap 3 qN (am vF hr (aa (pv 1) (aa (pv 2) ae))))
   (ah (aT (aN fO (pv 2) af)
     (ak (ap 3 qN (cq ck (pv 3))))
     aV)
   (ah (lB (pv 0) (av zg (pv 1) (pv 3)) rfl)
   (ak (lB (pv 0) (av zg (pv 2) (pv 3)) rfl)))))),?_⟩
  refine bV ⟨_,rfl,_,_,rfl,rfl,_,rfl,aQ (λh=>absurd h hb) (λ_=>?_)⟩;refine aA ⟨_,rfl,_,rfl,t,b,rfl,?_⟩;refine gU (λQ2 H'=>H=H'/\Q2=[some (.ref p),some (.int t),some (.int b),some (.int (dv t b))]) ?_ ?_
  ·rintro Q2 H' ⟨rfl,rfl⟩;refine⟨_,rfl,_,rfl,_,_,rfl,rfl,⟨o3 hb,A6 hb bb⟩,_,rfl,p,C,dx,_,rfl,hp,R.cl,R.nT,by show 0<1000;decide,?_⟩;refine⟨_,rfl,_,rfl,_,_,rfl,rfl,⟨o3 hb,A6 hb bb⟩,_,rfl,p,C,dx,_,rfl,ax,R.cl,R.nB,by show 1<1000;decide,?_⟩;show Q .non (upd (upd H p _) p _);rw[mI];exact k
  ·intro rest;refine⟨_,rfl,_,_,rfl,rfl,_,rfl,?_⟩;refine aQ (λh=>?_) (λh=>?_)
   ·refine⟨_,rfl,_,rfl,rest _ _ ⟨rfl,?_⟩⟩;have e:dv t b = -((Nat.gcd t.natAbs b.natAbs:Nat):Int):=by unfold dv;rw[if_pos h]
    rw[e];rfl
   ·refine rest _ _ ⟨rfl,?_⟩;have e:dv t b=((Nat.gcd t.natAbs b.natAbs:Nat):Int):=by unfold dv;rw[if_neg h]
    rw[e];rfl
def jM:Sp:=λvs H Q _=>∃x:Int,vs=[.int x]/\Q (.int (sg x)) H
def FN(F:Fun K "whole_sign" "whole_sign" qP f fd)(T:Txt K mg):FnOk P w K mg base aG 1 f fd ["value"] jM:=by
 refine F.ok DR (λvs H Q E h=>?_) (λ_ A _ s H vs Q E hr h=>?_)
 ·obtain⟨x,rfl,_⟩:=h;rfl
 ·obtain⟨x,rfl,k⟩:=h
  refine⟨_,(ah (aT (aN fO (pv 0) af)
   (ak (az (cq ck af)))
   aV)
   (ah (aT (aN fP (pv 0) af)
     (ak (az af))
     aV)
   (ak (az af)))),?_⟩
  refine bV ⟨_,rfl,_,_,rfl,rfl,_,rfl,aQ (λh=>?_) (λh=>?_)⟩
  ·have e:sg x = -1:=by unfold sg;rw[if_pos h]
   rw[e]at k;exact⟨_,rfl,k⟩
  refine bV ⟨_,rfl,_,_,rfl,rfl,_,rfl,aQ (λh'=>?_) (λh'=>?_)⟩
  ·have e:sg x=1:=by unfold sg;rw[if_neg h,if_pos h']
   rw[e]at k;exact k
  ·have e:sg x=0:=by unfold sg;rw[if_neg h,if_neg h']
   rw[e]at k;exact k
def mT(C:Addr):Sp:=λvs H Q _=>∃(p q:Addr) (t b u d:Int),vs=[.ref p,.ref q]/\RA C H p t b/\RA C H q u d/\Bits 100000 t/\Bits 100000 b/\Bits 100000 u/\Bits 100000 d/\Q (.int (sg (t*d-u*b))) H
def Hc(F:Fun K "against" "Ratio.against" sS f fd)(T:Txt K mg)(R:RCI K mg C)(ik:Cal P w K mg base 1 "whole_sign" ["value"] jM oU oP):FnOk P w K mg base aG 2 f fd ["self","other"] (mT C):=by
 refine F.ok Em (λvs H Q E h=>?_) (λ_ A _ s H vs Q E hr h=>?_)
 ·obtain⟨p,q,t,b,u,d,rfl,_⟩:=h;rfl
 ·obtain⟨p,q,t,b,u,d,rfl,⟨dx,hp⟩,⟨dy,hq⟩,bt,bb,bu,bd,k⟩:=h;refine⟨_,(ak (az (am ik hr (aa (av di (av aS (aB (K:=K) rfl (pv 0) rfl) (aB (K:=K) rfl (pv 1) rfl)) (av aS (aB (K:=K) rfl (pv 1) rfl) (aB (K:=K) rfl (pv 0) rfl))) ae)))),?_⟩;refine⟨_,rfl,p,C,dx,_,_,rfl,hp,R.cl,R.nT,cK,_,rfl,q,C,dy,_,_,rfl,hq,R.cl,R.nB,bX,_,_,rfl,rfl,⟨bt.mono,bd.mono⟩,?_⟩;exact⟨_,rfl,q,C,dy,_,_,rfl,hq,R.cl,R.nT,cK,_,rfl,p,C,dx,_,_,rfl,hp,R.cl,R.nB,bX,_,_,rfl,rfl,⟨bu.mono,bb.mono⟩,_,_,rfl,rfl,_,rfl,k⟩
def Gm(F:Fun K "poly" "poly" rA f fd)(T:Txt K mg):FnOk P w K mg base aG 1 f fd ["row"] (jK K):=by
 refine F.ok qK (λvs H Q E h=>?_) (λ_ A _ s H vs Q E hr h=>?_)
 ·obtain⟨a,ns,rfl,_⟩:=h;rfl
 ·obtain⟨a,ns,rfl,hS,k⟩:=h
  refine⟨_,(ah (ap 1 qK (dg K T.len_ (aa (pv 0) ae)))
   (ah (gY PassesOwn.never (PW.pt (ly (aN fP (pv 1) af) (lw (aN cI (cH K (pv 0) (av di (pv 1) af)) af))))
     (ak (ap 1 qK (av di (pv 1) af))))
   (ak (az (ol (mY (K:=K) rfl) (pv 0) oe (oa (pv 1))))))),?_⟩
  refine⟨_,rfl,a,_,rfl,.inl hS,?_⟩;refine⟨λm Q2 H'=>∃n:Nat,n<=ns.length/\Q2=[some (.ref a),some (.int n)]/\H=H'/\n=m/\trim (ns.take n)=trim ns,⟨_,ns.length,Nv _,?_,rfl,rfl,?_⟩,?_⟩
  ·rw[No];rfl
  ·rw[O8]
  ·rintro m Q2 H' ⟨n,hn,rfl,rfl,rfl,ht⟩
   have fin:trim (ns.take n)=ns.take n->∃v,([some (V.ref a),some (V.int n)]:St)[0]?=some (some v)/\∃v_1,([some (V.ref a),some (V.int n)]:St)[1]?=some (some v_1)/\∃i,v_1=V.int i/\tj K v none (some i) H Q:=λh=>by
    refine⟨_,rfl,_,rfl,n,rfl,a,_,rfl,hS,λp hp=>k p _ (Same.upd_new hp) hp ?_⟩;rw[ax,<- ht,h]
    have e:iO (ns.map V.int) none (some (n:Int))=(ns.take n).map V.int:=by unfold iO;rw[HT.sIx_none,HT.sIx_nat,O3,OA,No,Nat.min_eq_left hn,List.map_take]
    rw[e]
   refine⟨_,rfl,_,_,rfl,rfl,_,rfl,?_⟩;refine aQ (λhp=>?_) (λhp=>?_)
   ·obtain⟨j,rfl⟩:∃j,n=j+1:=⟨n-1,by have:(0:Int)<n:=hp;omega⟩;have hj:j<ns.length:=hn;refine⟨_,rfl,_,rfl,_,_,rfl,rfl,a,_,j,.int (cf ns j),rfl,?_,hS,ie ?_,_,_,rfl,rfl,_,rfl,?_⟩
    ·show V.int (((j+1:Nat):Int)-1)=V.int j
     congr 1;omega
    ·rw[List.getElem?_map,iL hj];rfl
    refine aQ (λh0=>?_) (λh0=>?_)
    ·refine⟨_,λ_ _ h=>h,?_⟩;refine⟨_,rfl,_,_,rfl,rfl,j,OM _,j,Pw hj,?_,rfl,rfl,?_⟩
     ·show[some (V.ref a),some (V.int (((j+1:Nat):Int)-1))]=[some (V.ref a),some (V.int j)]
      congr 4;omega
     ·rw[<- ht,CB hj h0]
    ·exact fin (CC hj h0)
   ·obtain rfl:n=0:=by have:¬(0:Int)<n:=hp;omega
    exact fin (by rw[List.take_zero];rfl)
def iA:Sp:=λvs H Q _=>∃(a:Addr) (xs:List V),vs=[.ref a]/\H a=some (.lst xs)/\Q (.int ((xs.length:Int)-1)) H
def GM(F:Fun K "degree" "degree" rZ f fd)(T:Txt K mg):FnOk P w K mg base aG 1 f fd ["row"] iA:=by
 refine F.ok D8 (λvs H Q E h=>?_) (λ_ A _ s H vs Q E hr h=>?_)
 ·obtain⟨a,xs,rfl,_⟩:=h;rfl
 ·obtain⟨a,xs,rfl,hA,k⟩:=h;refine⟨_,(ak (az (av di (dg K T.len_ (aa (pv 0) ae)) af))),?_⟩;exact⟨_,rfl,a,_,rfl,.inl (SqL.of hA),_,_,rfl,rfl,k⟩
def GQ(F:Fun K "coefficient" "coefficient" sj f fd)(T:Txt K mg):FnOk P w K mg base aG 1 f fd ["row","place"] (kT K):=by
 refine F.ok Eb (λvs H Q E h=>?_) (λ_ A _ s H vs Q E hr h=>?_)
 ·obtain⟨a,ns,k,rfl,_⟩:=h;rfl
 ·obtain⟨a,ns,n,rfl,hS,k⟩:=h
  refine⟨_,(ah (aT (aN fO (pv 1) (dg K T.len_ (aa (pv 0) ae)))
   (ak (az (cH K (pv 0) (pv 1))))
   aV)
   (ak (az af))),?_⟩
  refine⟨_,rfl,_,rfl,a,_,rfl,.inl hS,_,_,rfl,rfl,_,rfl,?_⟩;refine aQ (λh1=>?_) (λh1=>?_)
  ·rw[No]at h1;have h2:n<ns.length:=by omega
   refine⟨_,rfl,_,rfl,a,_,_,_,rfl,rfl,hS,ie (v:=.int (ns.getD n 0)) ?_,k⟩;rw[List.getElem?_map,List.getElem?_eq_getElem h2];simp[List.getD,h2]
  ·rw[No]at h1;have h2:ns.length<=n:=by omega
   have e:ns.getD n 0=0:=by simp[List.getD,List.getElem?_eq_none_iff.mpr h2]
   rw[e]at k;exact k
def FR(F:Fun K "taken" "taken" qT f fd)(T:Txt K mg)(io:Cal P w K mg base 1 "poly" ["row"] (jK K) oV oQ)(mG:Cal P w K mg base 1 "coefficient" ["row","place"] (kT K) JQ Jz):FnOk P w K mg base aG 2 f fd ["first","second"] (mU K cV):=by
 refine F.ok x5 (λvs H Q E h=>?_) (λ_ A _ s H vs Q E hr h=>?_)
 ·obtain⟨a,b,xs,ys,rfl,_⟩:=h;rfl
 ·obtain⟨a,b,xs,ys,rfl,hA,hB,hx,hy,k⟩:=h
  refine⟨_,(ah (ap 2 x5 (dS (Bz rfl) (by rfl) T.max_ PyProof.Rows.boot_max (aa (dg K T.len_ (aa (pv 0) ae)) (aa (dg K T.len_ (aa (pv 1) ae)) ae))))
   (ak (az (am io hr (aa (eT (own:=["k"]) (fr:=["first","second"]) (js:=[0,1]) (by walk_at "comp_ok") rfl (jf rfl T.range_ (aa (pv 2) ae)) (λ_ _ _ _=>(df (i:=0) (show List.Nodup (["k","first","second"]:List Str)from by decide +kernel) rfl (Or.inl rfl))) (λ_ _ _ _=>(av di (am mG hr (aa (pv 1) (aa (pv 0) ae))) (am mG hr (aa (pv 2) (aa (pv 0) ae)))))) ae))))),?_⟩
  refine⟨_,rfl,a,_,rfl,.inl hA,_,rfl,b,_,rfl,.inl hB,_,_,rfl,?_⟩;rw[zN,No,No];have hz:max xs.length ys.length<=sizeLine:=by have:=sizeLine_eq;omega
  refine⟨_,rfl,_,rfl,(mV hz).1,(mV hz).2,mj (lo:=0) (n:=max xs.length ys.length) (λi zs Q2 H'=>∃z:Option V,Q2=[z,some (.ref a),some (.ref b)]/\zs=((List.range i).map λk=>V.int (cf xs k-cf ys k))/\H=H') hz ⟨none,rfl,rfl,rfl⟩ ?_ ?_ ?_⟩
  ·rintro i zs Q2 H' _ ⟨z,rfl,rfl,rfl⟩;simp
  ·rintro i zs Q2 H' hi ⟨z,rfl,rfl,rfl⟩;refine⟨_,rfl,_,rfl,a,xs,i,?_,hA,_,rfl,_,rfl,b,ys,i,?_,hB,_,_,rfl,rfl,_,rfl,?_,rfl⟩
   ·show[V.ref a,V.int (0+(i:Int))]=_;rw[OE]
   ·show[V.ref b,V.int (0+(i:Int))]=_;rw[OE]
   ·rw[P6,NI];rfl
  ·rintro zs Q2 H' p ⟨z,rfl,rfl,rfl⟩ hp;refine⟨p,(List.range (max xs.length ys.length)).map λk=>cf xs k-cf ys k,rfl,SqL.of ?_,?_⟩
   ·rw[ax,N7];rfl
   ·intro p' H' sm hp' e;refine k p' H' ((Same.upd_new hp).trans sm) ((Same.upd_new hp).free hp') ?_;rw[e,Dg]
def sp1(g:Ex->Ex):Sp:=λvs H Q _=>∃(a:Addr) (ns:Ex),vs=[.ref a]/\H a=some (.lst (ns.map V.int))/\ns.length<=100000/\AllB 100000 ns/\mkL H Q (g ns)
def Hn{k:Nat}{n:Nat}(h:n<2^k):Bits k (n:Int):=by show((n:Int)).natAbs<2^k;rw[OF];exact h
def Dm{n:Nat}(h:n<=1000000):Bits 1000000 (n:Int):=(Hn (k:=20) (Ou h (by decide))).mono
def nU(f:Nat->V)(i:Nat):(List.range i).map f++[f i]=(List.range (i+1)).map f:=by rw[P6,NI];rfl
def FX(F:Fun K "slope" "slope" qZ f fd)(T:Txt K mg):FnOk P w K mg base aG 1 f fd ["row"] (sp1 slopeL):=by
 refine F.ok DV (λvs H Q E h=>?_) (λ_ A _ s H vs Q E hr h=>?_)
 ·obtain⟨a,ns,rfl,_⟩:=h;rfl
 ·obtain⟨a,ns,rfl,hA,hn,hb,k⟩:=h;have big:=sizeLine_eq;refine⟨_,(ak (az (eT (own:=["k"]) (fr:=["row"]) (js:=[0]) (by walk_at "comp_ok") rfl (Fo rfl T.range_ (aa af (aa (dg K T.len_ (aa (pv 0) ae)) ae))) (λ_ _ _ _=>(df (i:=0) (show List.Nodup (["k","row"]:List Str)from by decide +kernel) rfl (Or.inl rfl))) (λ_ _ _ _=>(av aS (pv 0) (cH K (pv 1) (pv 0))))))),?_⟩;have hl:(ns.map V.int).length=ns.length:=No _;refine aY ⟨_,rfl,a,_,rfl,.inl (SqL.of hA),1,_,rfl,⟨by decide,by decide,by rw[hl];omega,by rw[hl];omega⟩,mj (lo:=1) (λi ys Q2 H'=>∃z:Option V,Q2=[z,some (.ref a)]/\ys=((List.range i).map λ(j:Nat)=>V.int (((j:Int)+1)*cf ns (j+1)))/\H=H') (by rw[hl];omega) ⟨none,rfl,rfl,rfl⟩ ?_ ?_ ?_⟩
  ·rintro i ys Q2 H' _ ⟨z,rfl,rfl,rfl⟩;simp
  ·rintro i ys Q2 H' hi ⟨z,rfl,rfl,rfl⟩;rw[hl]at hi;have hi':i+1<ns.length:=by omega
   have e0:(1:Int)+(i:Int)=((i+1:Nat):Int):=by omega
   refine⟨_,rfl,_,rfl,_,rfl,a,_,_,_,rfl,rfl,SqL.of hA,pJ e0 hi',_,_,rfl,rfl,⟨by rw[e0];exact Dm (by omega),(hb.cf _).mono⟩,_,rfl,?_,rfl⟩;rw[<- nU];show _++[V.int ((1+(i:Int))*cf ns (i+1))]=_;rw[Int.add_comm 1]
  ·rintro ys Q2 H' p ⟨z,rfl,rfl,rfl⟩ hp;refine k p _ (Same.upd_new hp) hp ?_;have en:(((ns.map V.int).length:Int)-1).toNat=ns.length-1:=by rw[hl];omega
   rw[ax,en];unfold RM.slopeL;rw[N7];rfl
def qk:Sp:=λvs H Q _=>∃(a:Addr) (ns:Ex),vs=[.ref a]/\H a=some (.lst (ns.map V.int))/\Tr ns/\ns.length<=1000000/\mkL H Q (aj ns)
def IZ{ns:Ex}(ht:Tr ns)(hne:ns≠[]):0<(aC ns:Int):=by
 obtain⟨r,x,rfl⟩:=(dP ns).resolve_left hne;have hx:x≠0:=tr_snoc.mp ht;have hm:x∈r++[x]:=by simp
 have h1:0<aC (r++[x]):=Nat.pos_of_dvd_of_pos (oN hm) (OK.mpr hx);omega
def Gb(F:Fun K "shrunk" "shrunk" nD f fd)(T:Txt K mg)(hNS:base.NoSeer)(hTr:P.given.tree=none)(vG:Cal P w K mg base 2 "shared" ["row"] (qm K) JK Jt):FnOk P w K mg base aG 33 f fd ["row"] qk:=by
 refine F.ok x6 (λvs H Q E h=>?_) (λcdv A outer s H vs Q E hr h=>?_)
 ·obtain⟨a,ns,rfl,_⟩:=h;rfl
 ·obtain⟨a,ns,rfl,hA,ht,hn,k⟩:=h;have big:=sizeLine_eq;have hdp:(A.deeper (PyProof.Rows.envOfC (Str.ofString "shrunk") (aD nD) s.heap.objs.size f cdv)).depth+100<recursionLimit:=by have:=hr.dp;omega
  refine⟨_,(ah (ap 1 x6 (am vG hr (aa (pv 0) ae)))
   (ak (az (eT (own:=["value"]) (fr:=["divisor"]) (js:=[1]) (by walk_at "comp_ok") rfl (gF (K:=K) rfl (pv 0)) (λ_ _ _ _=>(df (i:=0) (show List.Nodup (["value","divisor"]:List Str)from by decide +kernel) rfl (Or.inl rfl))) (λ_ _ _ _=>(av (FJ hNS hTr hdp rfl rfl rfl rfl rfl) (pv 0) (pv 1))))))),?_⟩
  refine aA ⟨_,rfl,a,ns,rfl,SqL.of hA,?_⟩;refine aY ⟨_,rfl,a,rfl,⟨_,SqL.of hA⟩,jt (K:=K) (a:=a) (xs:=ns.map V.int) (λi ys Q2 H'=>∃(z0:Option V),Q2=[z0,some (.int (aC ns:Nat))]/\ys=((ns.take i).map λx=>x/(aC ns:Int)).map V.int/\H=H') (by rw[No];omega) ⟨none,rfl,rfl,rfl⟩ ?_ ?_ ?_⟩
  ·rintro i ys Q2 H' _ ⟨z0,rfl,rfl,rfl⟩;exact⟨SqL.of hA,by rw[No,No,Oe];exact Nat.min_le_left _ _⟩
  ·rintro i x ys Q2 H' hi ⟨z0,rfl,rfl,rfl⟩;rw[List.getElem?_map]at hi;cases e:ns[i]? with
   |none=>rw[e]at hi;cases hi
   |some c =>rw[e]at hi;obtain rfl:=Option.some.inj hi;have g1:=IZ ht (λz=>by rw[z]at e;simp at e);refine⟨_,rfl,_,rfl,_,_,rfl,rfl,g1,_,rfl,?_,rfl⟩;rw[OP,e];simp
  ·rintro ys Q2 H' p ⟨z0,rfl,rfl,rfl⟩ hp;refine k p _ (Same.upd_new hp) hp ?_;rw[ax,No,O8];rfl
def iT:Sp:=λvs H Q _=>∃(a:Addr) (ns:Ex),vs=[.ref a]/\H a=some (.lst (ns.map V.int))/\Tr ns/\ns.length<=1000000/\mkL H Q (aq ns)
def BJ(r:Ex)(x:Int):atI ((r++[x]).map V.int) (-1)=some (.int x):=by rw[NI];exact vk _ _
def Gn(F:Fun K "plain" "plain" rB f fd)(T:Txt K mg)(mF:Cal P w K mg base 33 "shrunk" ["row"] qk JI Jr):FnOk P w K mg base aG 34 f fd ["row"] iT:=by
 refine F.ok yb (λvs H Q E h=>?_) (λ_ A _ s H vs Q E hr h=>?_)
 ·obtain⟨a,ns,rfl,_⟩:=h;rfl
 ·obtain⟨a,ns,rfl,hA,ht,hn,k⟩:=h;have big:=sizeLine_eq;have hu:=hr.units
  refine⟨_,(ah (ap 1 yb (am mF hr (aa (pv 0) ae)))
   (ah (aT (PW.pt (ly (aN (lH (K:=K) rfl hu) (pv 1) (cg ae)) (lw (aN fO (cH K (pv 1) (cq ck af)) af))))
     (ak (az (eT (own:=["value"]) (fr:=[]) (js:=[]) (by walk_at "comp_ok") rfl (gF (K:=K) rfl (pv 1)) (λ_ _ _ _=>(df (i:=0) (show List.Nodup (["value"]:List Str)from by decide +kernel) rfl (Or.inl rfl))) (λ_ _ _ _=>(cq ck (pv 0))))))
     aV)
   (ak (az (pv 1))))),?_⟩
  refine aA ⟨_,rfl,a,ns,rfl,hA,ht,hn,λp H1 s1 hp e1=>?_⟩;have hsl:(aj ns).length=ns.length:=No _;have done:cS (aj ns)=aj ns->Q (.ref p) H1:=λe=>k p H1 s1 hp (by rw[e1];show _=some (HO.lst ((cS (aj ns)).map V.int));rw[e])
  refine gU (λQ2 H'=>Q2=[some (.ref a),some (.ref p)]/\Same H H'/\H' p=some (.lst ((aj ns).map V.int))/\cS (aj ns)=aj ns) ?_ ?_
  ·rintro Q2 H' ⟨rfl,s2,e2,e3⟩;exact⟨_,rfl,k p H' s2 hp (by rw[e2];show _=some (HO.lst ((cS (aj ns)).map V.int));rw[e3])⟩
  intro rest;refine j3 ⟨_,rfl,Nw _,λq hq=>?_⟩;have s2:Same H (upd H1 q (.lst [])):=s1.then_new hq;have e2:upd H1 q (.lst []) p=some (.lst ((aj ns).map V.int)):=by rw[upd_ne (bn e1 hq)];exact e1
  refine⟨p,q,aj ns,[],rfl,rfl,SqL.of e2,SqL.of ax,_,rfl,?_⟩;refine eR (λhne=>?_) (λhe=>?_)
  ·obtain⟨r,x,er⟩:=(dP (aj ns)).resolve_left hne;refine⟨_,rfl,_,rfl,p,_,_,.int x,rfl,rfl,SqL.of e2,(by rw[er];exact BJ r x),_,_,rfl,rfl,_,rfl,?_⟩;have elast:ao (aj ns)=x:=by rw[er,gj]
   refine aQ (λhx=>?_) (λhx=>?_)
   ·have hx':x<0:=hx;have epos:cS (aj ns)=(aj ns).map λx => -x:=by unfold cS;rw[elast,if_pos hx']
    refine aY ⟨_,rfl,p,rfl,⟨_,SqL.of e2⟩,jt (K:=K) (a:=p) (xs:=(aj ns).map V.int) (λi ys Q2 H'=>∃(z0:Option V),Q2=[z0]/\ys=(((aj ns).take i).map λx => -x).map V.int/\upd H1 q (.lst [])=H') (by rw[No,hsl];omega) ⟨none,rfl,rfl,rfl⟩ ?_ ?_ ?_⟩
    ·rintro i ys Q2 H' _ ⟨z0,rfl,rfl,rfl⟩;exact⟨SqL.of e2,by rw[No,No,Oe];exact Nat.min_le_left _ _⟩
    ·rintro i x ys Q2 H' hi ⟨z0,rfl,rfl,rfl⟩;rw[List.getElem?_map]at hi;cases e:(aj ns)[i]? with
     |none=>rw[e]at hi;cases hi
     |some c =>rw[e]at hi;obtain rfl:=Option.some.inj hi;refine⟨_,rfl,_,rfl,_,rfl,?_,rfl⟩;rw[OP,e];simp
    ·rintro ys Q2 H' p' ⟨z0,rfl,rfl,rfl⟩ hp';refine k p' _ (s2.then_new hp') (s2.free hp') ?_;rw[ax,No,O8];show _=some (HO.lst ((cS (aj ns)).map V.int));rw[epos]
   ·exact rest _ _ ⟨rfl,s2,e2,by unfold cS;rw[elast,if_neg hx]⟩
  ·have he':aj ns=[]:=he;exact rest _ _ ⟨rfl,s2,e2,by rw[he'];rfl⟩
def wV:Sp:=λvs H Q _=>∃(a:Addr) (xs:Ex) (c:Int),vs=[.ref a,.int c]/\H a=some (.lst (xs.map V.int))/\xs.length<=1000000/\Bits 1000000 c/\AllB 1000000 xs/\mkL H Q (aE c xs)
def Gf(F:Fun K "scaled" "scaled" rg f fd)(T:Txt K mg):FnOk P w K mg base aG 1 f fd ["row","factor"] wV:=by
 refine F.ok DZ (λvs H Q E h=>?_) (λ_ A _ s H vs Q E hr h=>?_)
 ·obtain⟨a,xs,c,rfl,_⟩:=h;rfl
 ·obtain⟨a,xs,c,rfl,hA,hn,bc,bx,k⟩:=h;have big:=sizeLine_eq;refine⟨_,(ak (az (eT (own:=["value"]) (fr:=["factor"]) (js:=[1]) (by walk_at "comp_ok") rfl (gF (K:=K) rfl (pv 0)) (λ_ _ _ _=>(df (i:=0) (show List.Nodup (["value","factor"]:List Str)from by decide +kernel) rfl (Or.inl rfl))) (λ_ _ _ _=>(av aS (pv 1) (pv 0)))))),?_⟩;refine aY ⟨_,rfl,a,rfl,⟨_,SqL.of hA⟩,jt (K:=K) (a:=a) (xs:=xs.map V.int) (λi ys Q2 H'=>∃(z0:Option V),Q2=[z0,some (.int c)]/\ys=(aE c (xs.take i)).map V.int/\H=H') (by rw[No];omega) ⟨none,rfl,rfl,rfl⟩ ?_ ?_ ?_⟩
  ·rintro i ys Q2 H' _ ⟨z0,rfl,rfl,rfl⟩;exact⟨SqL.of hA,by rw[No,dk,Oe];exact Nat.min_le_left _ _⟩
  ·rintro i x ys Q2 H' hi ⟨z0,rfl,rfl,rfl⟩;obtain⟨y,_,rfl,hm,et⟩:=iK hi;refine⟨_,rfl,_,rfl,(au ⟨⟨bc,bx y hm⟩,_,rfl,?_,rfl⟩)⟩;rw[et];simp[aE]
  ·rintro ys Q2 H' p ⟨z0,rfl,rfl,rfl⟩ hp;refine k p _ (Same.upd_new hp) hp ?_;rw[ax,No,O8]
def Bg(ms:Ex):ky ms none (some (-1))=ms.take (ms.length-1):=by
 unfold ky;rw[HT.sIx_none,O3,OA]
 congr 1
 show(if(-1:Int)<0 then((-1:Int)+(ms.length:Int)).toNat else min (-1:Int).toNat ms.length)=_;rw[if_pos (by decide)];omega
def Bt{ms:Ex}{n k:Nat}:cf (ms.take n) k=if k<n then cf ms k else 0:=by
 unfold cf;by_cases h:k<n
 ·rw[if_pos h];simp[List.getD,List.getElem?_take,h]
 ·rw[if_neg h];simp[List.getD,List.getElem?_take,h]
def xm:Sp:=λvs H Q _=>∃(a b:Addr) (rs ys:Ex) (p:Nat) (l:Int),vs=[.ref a,.ref b,.int p,.int l]/\H a=some (.lst (rs.map V.int))/\H b=some (.lst (ys.map V.int))/\rs.length=p+ys.length/\ys≠[]/\Bits 1000000 l/\AllB 1000000 ys/\mkL H Q (jl rs ys p l)
def Gz(F:Fun K "lowered" "lowered" rN f fd)(T:Txt K mg):FnOk P w K mg base aG 1 f fd ["row","second","place","lead"] xm:=by
 refine F.ok ny (λvs H Q E h=>?_) (λ_ A _ s H vs Q E hr h=>?_)
 ·obtain⟨a,b,rs,ys,p,l,rfl,_⟩:=h;rfl
 ·obtain⟨a,b,rs,ys,p,l,rfl,hA,hB,hl,hy,bl,by',k⟩:=h;have hyl:=Nz.mpr hy
  refine⟨_,(ah (ap 4 ny (ol (mY (K:=K) rfl) (pv 0) oe (oa (cq ck af))))
   (ah (dQ PassesOwn.never rfl (oh rfl T.enumerate_ (aa (ol (mY (K:=K) rfl) (pv 1) oe (oa (cq ck af))) ae)) (oj rfl (iG (de 5 ny) (iG (de 6 ny) oi)))
     (ak (j8 (av di (cH K (pv 4) (av cJ (pv 2) (pv 5))) (av aS (pv 3) (pv 6))) (ka (pv 4) (av cJ (pv 2) (pv 5)) jQ))))
   (ak (az (pv 4))))),?_⟩
  refine aA ⟨_,rfl,_,rfl,_,rfl,a,_,rfl,SqL.of hA,λkp hkp=>?_⟩;rw[uU,Bg];have s1:=Same.upd_new (o:=.lst ((rs.take (rs.length-1)).map V.int)) hkp;have nkb:b≠kp:=bn hB hkp;refine⟨_,rfl,_,rfl,_,rfl,b,_,rfl,SqL.of (s1 _ _ hB),λp2 hp2=>?_⟩;rw[uU,Bg];have n2:kp≠p2:=bn ax hp2;generalize hH2:upd (upd H kp (.lst ((rs.take (rs.length-1)).map V.int))) p2 (.lst ((ys.take (ys.length-1)).map V.int))=H2;have hk2:H2 kp=some (.lst ((rs.take (rs.length-1)).map V.int)):=by rw[<- hH2,upd_ne n2,ax]
  have hq2:H2 p2=some (.lst ((ys.take (ys.length-1)).map V.int)):=by rw[<- hH2,ax]
  have s2:Same H H2:=by rw[<- hH2];exact s1.then_new hp2
  have lt:(rs.take (rs.length-1)).length=rs.length-1:=by rw[Oe];omega
  have lty:(ys.take (ys.length-1)).length=ys.length-1:=by rw[Oe];omega
  refine⟨p2,rfl,⟨_,SqL.of hq2⟩,uG (K:=K) (a:=p2) (xs:=(ys.take (ys.length-1)).map V.int) (λi Q2 H'=>∃(acc:Ex) (z5 z6:Option V),Q2=[some (.ref a),some (.ref b),some (.int p),some (.int l),some (.ref kp),z5,z6]/\SameB kp H2 H'/\H' kp=some (.lst (acc.map V.int))/\acc.length=rs.length-1/\∀n,n<acc.length->cf acc n=cf rs n-(if p<=n/\n-p<i then l*cf ys (n-p)else 0))
   ⟨_,none,none,rfl,SameB.refl _ _,hk2,lt,λn hn=>by rw[Bt,if_pos (by omega),if_neg (by omega)];omega⟩ ?_ ?_ ?_⟩
  ·rintro i Q2 H' _ ⟨acc,z5,z6,rfl,sb,_⟩;exact SqL.of (sb _ _ (Ne.symm n2) hq2)
  ·rintro i x Q2 H' q hi ⟨acc,z5,z6,rfl,sb,hpa,hal,hac⟩ hq
   have hil:i<ys.length-1:=by apply Classical.byContradiction;intro hn;rw[List.getElem?_eq_none_iff.mpr (by rw[No,lty];omega)]at hi;cases hi
   rw[List.getElem?_map,iL (by rw[lty];exact hil),Bt,if_pos hil]at hi;obtain rfl:=Option.some.inj hi;refine⟨q,_,rfl,SqT.of ax,rfl,_,_,rfl,_,_,rfl,rfl,?_⟩;have nqp:kp≠q:=bn hpa hq;have hpa':upd H' q (.tup [.int i,.int (cf ys i)]) kp=some (.lst (acc.map V.int)):=by rw[upd_ne nqp];exact hpa
   have hpi:p+i<acc.length:=by omega
   have epi:((p:Nat):Int)+((i:Nat):Int)=((p+i:Nat):Int):=by omega
   refine⟨_,rfl,_,rfl,_,rfl,(au ⟨kp,_,_,_,rfl,rfl,SqL.of hpa',pJ epi hpi,_,rfl,_,rfl,(au ⟨⟨bl,by'.cf i⟩,(au ⟨_,rfl,_,rfl,_,rfl,(au ⟨kp,_,_,p+i,rfl,rfl,hpa',ki epi (by rw[No];exact hpi),?_⟩)⟩)⟩)⟩)⟩;refine⟨acc.set (p+i) (cf acc (p+i)-l*cf ys i),_,_,rfl,(sb.then_new hq).then_upd,by rw[ax,lQ],by rw[O5];exact hal,λn hn=>?_⟩;rw[O5]at hn;rw[iP hpi];by_cases e:n=p+i
   ·subst e;rw[if_pos rfl,hac _ hpi,if_neg (by omega),if_pos (by omega),Nat.add_sub_cancel_left];omega
   ·rw[if_neg e,hac n hn];by_cases h1:p<=n/\n-p<i
    ·rw[if_pos h1,if_pos (by omega)]
    ·rw[if_neg h1,if_neg (by omega)]
  ·rintro Q2 H' ⟨acc,z5,z6,rfl,sb,hpa,hal,hac⟩;rw[No,lty]at hac;refine⟨_,rfl,k kp H' (λb' o e=>sb b' o (bn e hkp) (s2 b' o e)) hkp ?_⟩;rw[hpa]
   have e:acc=jl rs ys p l:=by
    apply gm
    ·rw[hal,zV]
    ·intro n hn;have hn':n<rs.length-1:=by omega
     rw[hac n hn,pA,if_pos hn'];by_cases h1:p<=n
     ·have h2:p<=n/\n-p<ys.length-1:=⟨h1,by omega⟩;rw[if_pos h1,if_pos h2]
     ·have h2:¬(p<=n/\n-p<ys.length-1):=λz=>h1 z.1
      rw[if_neg h1,if_neg h2]
   rw[e]
def AllB.of_cf{k:Nat}{l:Ex}(h:∀n,Bits k (RM.cf l n)):AllB k l:=λx hx=>by
 obtain⟨i,hi,rfl⟩:=Qd.mp hx;have:=h i
 rwa [cU hi]at this
def vn{k:Nat}{x:Int}(h:Bits k x):Bits k ((x.natAbs:Nat):Int):=h.of_le (by rw[OF];exact Nv _)
def sg_bits{x:Int}:Bits 1 (sg x):=by show(sg x).natAbs<2^1;unfold sg;split<;>(try split)<;>decide
def kX{k:Nat}{x y:Int}(h:Bits k y):Bits k (sg x*y):=h.of_le (by
 rw[N4];have h2:(sg x).natAbs<=1:=by unfold sg;split<;>(try split)<;>decide
 calc (sg x).natAbs*y.natAbs<=1*y.natAbs:=O2 _ h2
  _=y.natAbs:=Nat.one_mul _)
theorem A9{xs ys:Ex}{b:Nat}(hx:AllB b xs)(hy:AllB b ys):∀i,AllB (b+i*(b+1)) (aU xs ys i).1/\AllB (b+i*(b+1)) (aU xs ys i).2
 |0=>by rw[Nat.zero_mul];exact⟨AllB.zeros,hx⟩
 |i+1=>by
  obtain⟨h1,h2⟩:=A9 hx hy i;have e:b+(i+1)*(b+1)=b+i*(b+1)+b+1:=by rw[Pz];omega
  have hs:Bits b (((RM.cf ys (ys.length-1)).natAbs:Nat):Int):=vn (hy.cf _);rw[e];show AllB _ (dD ys (aU xs ys i) _).1/\AllB _ (dD ys (aU xs ys i) _).2;unfold dD;dsimp only
  constructor
  ·intro x hx;rcases Qj hx with h |rfl
   ·obtain⟨y,hy',rfl⟩:=NF.mp h;have:=hs.mul (h1 y hy');exact this.mono (by omega)
   ·exact(kX (h2.cf _)).mono (by omega)
  ·refine AllB.of_cf λn=>?_
   rw[pA];by_cases hn:n<(aE (((RM.cf ys (ys.length-1)).natAbs:Nat):Int) (aU xs ys i).2).length-1
   ·rw[if_pos hn,aK]
    have m1:Bits (b+i*(b+1)+b) ((((RM.cf ys (ys.length-1)).natAbs:Nat):Int)*RM.cf (aU xs ys i).2 n):=by have:=hs.mul (h2.cf n);rwa [OY]at this
    refine m1.sub ?_;by_cases hp:(xs.length+1-ys.length-1-i)<=n
    ·rw[if_pos hp];exact(kX (h2.cf _)).mul (hy.cf _)
    ·rw[if_neg hp];exact Bits.zero
   ·rw[if_neg hn];exact Bits.zero
theorem iQ{k:Nat}{b:Int}(h:Bits k b):∀n,Bits (k*n+1) (b^n)
 |0=>by show((b^0:Int)).natAbs<2^(k*0+1);rw[On,Nat.mul_zero];decide
 |n+1=>by rw[NO];have:=(iQ h n).mul h;exact this.mono (by rw[Nat.mul_succ];omega)
def HH(H:Hp)(Q:VK)(xs ys:Ex):Prop:=∀(t q r:Addr) (H':Hp),Same H H'->H t=none->H q=none->H r=none->q≠r->q≠t->r≠t->H' t=some (.tup [.int (bM xs ys),.ref q,.ref r])->H' q=some (.lst ((bZ xs ys).map V.int))->H' r=some (.lst ((aO xs ys).map V.int))->Q (.ref t) H'
inductive kS(vs:List V)(H:Hp)(Q:VK)(E:XK):Prop
 |mk (a b:Addr) (xs ys:Ex) (n:Nat):vs=[.ref a,.ref b]->H a=some (.lst (xs.map V.int))->H b=some (.lst (ys.map V.int))->ys≠[]->AllB n xs->AllB n ys->(xs.length+2)*(n+1)<=1000000->ys.length<=1000000->HH H Q xs ys->kS vs H Q E
def vj{l:Ex}(h:l≠[]):atI (l.map V.int) (-1)=some (.int (cf l (l.length-1))):=by
 obtain⟨r,x,rfl⟩:=(dP l).resolve_left h;have e:(r++[x]).length-1=r.length:=by simp
 rw[e,mn,NI];exact vk _ _
def GL(F:Fun K "divided" "divided" rY f fd)(T:Txt K mg)(ik:Cal P w K mg base 1 "whole_sign" ["value"] jM oU oP)(d6:Cal P w K mg base 1 "degree" ["row"] iA ku kq)(Ca:Cal P w K mg base 1 "scaled" ["row","factor"] wV ML L1)(Lp:Cal P w K mg base 1 "lowered" ["row","second","place","lead"] xm MW Md)(io:Cal P w K mg base 1 "poly" ["row"] (jK K) oV oQ):FnOk P w K mg base aG 2 f fd ["first","second"] kS:=by
 refine F.ok fJ (λvs H Q E h=>?_) (λ_ A _ s H vs Q E hr h=>?_)
 ·obtain⟨a,b,xs,ys,n,rfl,_⟩:=h;rfl
 ·obtain⟨a,b,xs,ys,nb,rfl,hA,hB,hy,bx,by',hsz,hyn,k⟩:=h;have big:=sizeLine_eq;have hu:=hr.units;have hyl:=Nz.mpr hy
  have hxl:xs.length<=1000000:=by have:=OS (xs.length+2) (show 1<=nb+1 by omega);omega
  have bsz:∀i,i<=xs.length->nb+i*(nb+1)<=1000000:=λi hi=>by have h1:=O2 (nb+1) hi;rw[O9]at hsz;omega
  have hnb:nb<=1000000:=by have:=bsz 0 (Nw _);omega
  refine⟨_,(ah (aT (aN (jh (K:=K) rfl hu) (pv 1) (cg ae))
   (ak jb)
   aV)
   (ah (ap 2 fJ (dS kB (by rfl) T.abs_ PyProof.Rows.boot_abs (aa (cH K (pv 1) (cq ck af)) ae)))
   (ah (ap 3 fJ (am ik hr (aa (cH K (pv 1) (cq ck af)) ae)))
   (ah (ap 4 fJ (av cJ (av di (am d6 hr (aa (pv 0) ae)) (am d6 hr (aa (pv 1) ae))) af))
   (ah (ap 5 fJ af)
   (ah (ap 6 fJ (av zb (cg (aa af ae)) (pv 4)))
   (ah (ap 7 fJ (lD (vc (K:=K) rfl) (by rfl) T.list_ PyProof.Rows.boot_list (aa (pv 0) ae)))
   (ah (dQ PassesOwn.never rfl (y4 rfl T.range_ (aa (av di (pv 4) af) (aa (cq ck af) (aa (cq ck af) ae)))) (de 8 fJ)
     (ah (ap 9 fJ (av aS (pv 3) (cH K (pv 7) (cq ck af))))
       (ah (ap 5 fJ (av aS (pv 5) (pv 2)))
       (ah (ap 6 fJ (am Ca hr (aa (pv 6) (aa (pv 2) ae))))
       (ah (j8 (pv 9) (ka (pv 6) (pv 8) jQ))
       (ak (ap 7 fJ (am Lp hr (aa (am Ca hr (aa (pv 7) (aa (pv 2) ae))) (aa (pv 1) (aa (pv 8) (aa (pv 9) ae))))))))))))
   (ak (az (fN (aa (pv 5) (aa (pv 6) (aa (am io hr (aa (pv 7) ae)) ae)))))))))))))),?_⟩
  refine bV ⟨_,rfl,Nw _,λp1 hp1=>?_⟩;have s1:Same H (upd H p1 (.lst [])):=Same.upd_new hp1;refine⟨b,p1,ys,[],rfl,rfl,SqL.of (s1 _ _ hB),SqL.of ax,_,rfl,aQ (λh0=>absurd h0 hy) (λ_=>?_)⟩;generalize upd H p1 (.lst [])=H1 at s1 ⊢
  refine aA ⟨_,rfl,_,rfl,b,_,_,_,rfl,rfl,SqL.of (s1 _ _ hB),vj hy,_,rfl,?_⟩;rw[my];refine aA ⟨_,rfl,_,rfl,b,_,_,_,rfl,rfl,SqL.of (s1 _ _ hB),vj hy,_,rfl,?_⟩;refine aA ⟨_,rfl,a,_,rfl,s1 _ _ hA,_,rfl,b,_,rfl,s1 _ _ hB,(au (au ?_))⟩;dsimp only
  rw[No,No];have est:((xs.length:Int)-1-((ys.length:Int)-1)+1).toNat=aW xs ys:=by unfold aW;omega
  generalize hst:((xs.length:Int)-1-((ys.length:Int)-1)+1)=st at est ⊢
  refine aA ?_;refine aA ⟨by show 1<=sizeLine;decide,λp2 hp2=>⟨_,rfl,p2,_,_,rfl,rfl,ax,by omega,by omega,by show 1*_<=_;omega,λq hq=>?_⟩⟩;rw[est,yz];have s2:=s1.then_new (o:=.lst [V.int 0]) hp2;have s3:=s2.then_new (o:=.lst ((List.replicate (aW xs ys) (0:Int)).map V.int)) hq;have fq:H q=none:=s2.free hq;refine aA ⟨_,rfl,a,_,rfl,.inl (SqL.of (s3 _ _ hA)),λr hr'=>?_⟩;have hq3:upd (upd H1 p2 (.lst [V.int 0])) q (.lst ((List.replicate (aW xs ys) (0:Int)).map V.int)) q=some (.lst ((List.replicate (aW xs ys) (0:Int)).map V.int)):=ax;have s4:=s3.then_new (o:=.lst (xs.map V.int)) hr';have fr:H r=none:=s3.free hr';have nqr:q≠r:=bn hq3 hr';generalize hH4:upd (upd (upd H1 p2 (.lst [V.int 0])) q (.lst ((List.replicate (aW xs ys) (0:Int)).map V.int))) r (.lst (xs.map V.int))=H4 at s4 ⊢
  have hq4:H4 q=some (.lst ((List.replicate (aW xs ys) (0:Int)).map V.int)):=by rw[<- hH4,upd_ne nqr];exact hq3
  have hr4:H4 r=some (.lst (xs.map V.int)):=by rw[<- hH4,ax]
  have hs:Bits nb (((cf ys (ys.length-1)).natAbs:Nat):Int):=vn (by'.cf _);refine⟨_,rfl,(au ⟨_,rfl,_,rfl,st-1,-1,rfl,by omega,?_⟩)⟩;have en:(st-1 - -1).toNat=aW xs ys:=by rw[<- est];congr 1;omega
  rw[en]
  refine AB (λi Q2 H'=>∃(q r:Addr) (z8 z9:Option V),Q2=[some (.ref a),some (.ref b),some (.int ((cf ys (ys.length-1)).natAbs:Nat)),some (.int (sg (cf ys (ys.length-1)))),some (.int st),some (.int (((cf ys (ys.length-1)).natAbs:Int)^i)),some (.ref q),some (.ref r),z8,z9]/\Same H H'/\H q=none/\H r=none/\q≠r/\H' q=some (.lst ((aU xs ys i).1.map V.int))/\H' r=some (.lst ((aU xs ys i).2.map V.int)))
   ⟨q,r,none,none,rfl,s4,fq,fr,nqr,hq4,hr4⟩ ?_ ?_
  ·rintro i Q2 H' hi ⟨q,r,z8,z9,rfl,sm,fq,fr,nqr,hq',hr'⟩;obtain⟨lq,lr,low,_⟩:=jq (a:=xs) hy i (Pw hi);obtain⟨bq,br⟩:=A9 bx by' i;have hix:i<xs.length:=by unfold aW at hi;omega
   have bi:=bsz i (Pw hix);have rne:(aU xs ys i).2≠[]:=λz=>by rw[z]at lr;simp at lr;omega
   have ep:st-1+(i:Int) * -1=((xs.length+1-ys.length-1-i:Nat):Int):=by unfold aW at hi est;omega
   refine aA ⟨_,rfl,_,rfl,_,rfl,r,_,_,_,rfl,rfl,SqL.of hr',vj rne,(au ⟨⟨sg_bits.mono,(br.cf _).mono bi⟩,?_⟩)⟩
   have bpow:Bits 1000000 (((cf ys (ys.length-1)).natAbs:Int)^i):=(iQ hs i).mono (by
    have:=O2 i (show nb<=nb+1 by omega);rw[Nat.mul_comm (nb+1) i]at this;have h2:=bsz (i+1) hix;rw[Pz]at h2
    omega)
   refine aA ⟨_,rfl,_,rfl,(au ⟨⟨bpow,hs.mono hnb⟩,?_⟩)⟩;dsimp only
   rw[<- NO];refine aA ⟨_,rfl,_,rfl,q,_,_,rfl,hq',by rw[lq];omega,hs.mono hnb,bq.mono bi,λq1 H2 sm2 hq1 eq1=>?_⟩;have fq1:H q1=none:=sm.free hq1;have sm2':=sm.trans sm2;have hpl:xs.length+1-ys.length-1-i<(aE ((cf ys (ys.length-1)).natAbs:Int) (aU xs ys i).1).length:=by rw[dk,lq];unfold aW at hi;omega
   refine⟨_,rfl,_,rfl,_,rfl,q1,_,_,_,rfl,rfl,eq1,ki ep (by rw[No];exact hpl),?_⟩;rw[lQ];have sm3:Same H (upd H2 q1 (.lst (((aE ((cf ys (ys.length-1)).natAbs:Int) (aU xs ys i).1).set (xs.length+1-ys.length-1-i) (sg (cf ys (ys.length-1))*cf (aU xs ys i).2 ((aU xs ys i).2.length-1))).map V.int))):=fR sm2' fq1;have nq1r:q1≠r:=λz=>by rw[z,hr']at hq1;cases hq1
   have hr3:upd H2 q1 (.lst (((aE ((cf ys (ys.length-1)).natAbs:Int) (aU xs ys i).1).set (xs.length+1-ys.length-1-i) (sg (cf ys (ys.length-1))*cf (aU xs ys i).2 ((aU xs ys i).2.length-1))).map V.int)) r=some (.lst ((aU xs ys i).2.map V.int)):=by rw[upd_ne (Ne.symm nq1r)];exact sm2 _ _ hr'
   have hq3:upd H2 q1 (.lst (((aE ((cf ys (ys.length-1)).natAbs:Int) (aU xs ys i).1).set (xs.length+1-ys.length-1-i) (sg (cf ys (ys.length-1))*cf (aU xs ys i).2 ((aU xs ys i).2.length-1))).map V.int)) q1=some (.lst (((aE ((cf ys (ys.length-1)).natAbs:Int) (aU xs ys i).1).set (xs.length+1-ys.length-1-i) (sg (cf ys (ys.length-1))*cf (aU xs ys i).2 ((aU xs ys i).2.length-1))).map V.int)):=ax;generalize upd H2 q1 (.lst (((aE ((cf ys (ys.length-1)).natAbs:Int) (aU xs ys i).1).set (xs.length+1-ys.length-1-i) (sg (cf ys (ys.length-1))*cf (aU xs ys i).2 ((aU xs ys i).2.length-1))).map V.int))=H3 at sm3 hr3 hq3 ⊢
   refine⟨_,rfl,_,rfl,r,_,_,rfl,hr3,by rw[lr];omega,hs.mono hnb,br.mono bi,λr1 H5 sm5 hr1 er1=>?_⟩;have sm35:=sm3.trans sm5;refine⟨_,rfl,_,rfl,_,rfl,r1,b,_,_,(xs.length+1-ys.length-1-i),sg (cf ys (ys.length-1))*cf (aU xs ys i).2 ((aU xs ys i).2.length-1),?_,er1,sm35 _ _ hB,?_,hy,(kX (br.cf _)).mono bi,by'.mono hnb,λr2 H6 sm6 hr2 er2=>?_⟩
   ·rw[<- ep];rfl
   ·rw[dk,lr];unfold aW at hi;omega
   ·have nqr2:q1≠r2:=λz=>by rw[<- z,sm5 _ _ hq3]at hr2;cases hr2
    exact⟨q1,r2,_,_,rfl,sm35.trans sm6,fq1,sm35.free hr2,nqr2,sm6 _ _ (sm5 _ _ hq3),er2⟩
  ·rintro Q2 H' ⟨q,r,z8,z9,rfl,sm,fq,fr,nqr,hq',hr'⟩;refine⟨_,rfl,_,rfl,_,rfl,r,_,rfl,SqL.of hr',λr1 H2 sm2 hr1 er1=>⟨by show 3<=sizeLine;decide,λt ht=>?_⟩⟩;have nqr1:q≠r1:=λz=>by rw[<- z,hq']at hr1;cases hr1
   have ntq:q≠t:=bn (sm2 _ _ hq') ht;have ntr:r1≠t:=bn er1 ht;refine k t q r1 _ ((sm.trans sm2).then_new ht) ((sm.trans sm2).free ht) fq (sm.free hr1) nqr1 ntq ntr ax ?_ ?_
   ·rw[upd_ne ntq];exact sm2 _ _ hq'
   ·rw[upd_ne ntr];exact er1
def Vp(C:Addr)(H:Hp)(vs:List V)(a r:Addr)(ns:Ex)(t b:Int):Prop:=vs=[.ref a,.ref r]/\H a=some (.lst (ns.map V.int))/\RA C H r t b/\ns.length<=20/\AllB 95000 ns/\Bits 5000 t/\Bits 5000 b
def VpI(H:Hp)(vs:List V)(a:Addr)(ns:Ex)(t b:Int):Prop:=vs=[.ref a,.int t,.int b]/\H a=some (.lst (ns.map V.int))/\ns.length<=20/\AllB 95000 ns/\Bits 5000 t/\Bits 5000 b
def wN:Sp:=λvs H Q _=>∃(a:Addr) (ns:Ex) (t b:Int),VpI H vs a ns t b/\∀(p:Addr) (H':Hp),Same H H'->H p=none->H' p=some (.tup [.int (hv t b ns),.int (b^ns.length)])->Q (.ref p) H'
theorem uB{t b:Int}(bt:Bits 5000 t)(bb:Bits 5000 b):∀{l:Ex},AllB 95000 l->Bits (95000+1+(5000+1)*l.length) (hv t b l)
 | [],_=>by refine Bits.mono (j:=1) ?_ (by omega);show(0:Int).natAbs<2^1;decide
 |v::l,h=>by
  rw[ma];have h1:=h v (NK ..);have h2:=uB bt bb (l:=l) λx hx=>h x (NB _ hx)
  have e1:=(h1.mul (iQ bb (l.length+1))).mono (k:=95000+1+(5000+1)*l.length+5000) (by omega);have e2:=(bt.mul h2).mono (k:=95000+1+(5000+1)*l.length+5000) (by omega);exact(e1.add e2).mono (by rw[Ny];omega)
def FO(F:Fun K "value_parts" "value_parts" qQ f fd)(T:Txt K mg):FnOk P w K mg base aG 1 f fd ["row","top","bottom"] wN:=by
 refine F.ok jR (λvs H Q E h=>?_) (λ_ A _ s H vs Q E hr h=>?_)
 ·obtain⟨a,ns,t,b,⟨rfl,_⟩,_⟩:=h;rfl
 ·obtain⟨a,ns,t,b,⟨rfl,hA,hn,hb,bt,bb⟩,k⟩:=h
  refine⟨_,(ah (ap 3 jR af)
   (ah (ap 4 jR af)
   (ah (dQ PassesOwn.never rfl (iF rfl T.reversed_ (aa (pv 0) ae)) (de 5 jR)
     (ah (ap 4 jR (av aS (pv 4) (pv 2)))
       (ak (ap 3 jR (av cJ (av aS (pv 3) (pv 1)) (av aS (pv 5) (pv 4)))))))
   (ak (az (fN (aa (pv 3) (aa (pv 4) ae)))))))),?_⟩
  have hl:(ns.map V.int).length=ns.length:=No _;refine aA ?_;refine aA ?_;refine⟨_,rfl,a,_,rfl,SqL.of hA,oO (K:=K) (a:=a) (xs:=ns.map V.int) (λi Q2 H'=>∃z:Option V,Q2=[some (.ref a),some (.int t),some (.int b),some (.int (hv t b (ns.drop (ns.length-i)))),some (.int (b^i)),z]/\H=H') ⟨none,?_,rfl⟩ ?_ ?_ ?_⟩
  ·rw[OA,P7,On];rfl
  ·rintro i Q2 H' _ ⟨z,rfl,rfl⟩;exact SqL.of hA
  ·rintro i x Q2 H' hi hx ⟨z,rfl,rfl⟩;rw[hl]at hi hx;obtain⟨c,ec,rfl,hc,_⟩:=iK hx;have hi':i<ns.length:=hi;have e1:ns.length-(i+1)=ns.length-1-i:=by omega
   have hd:=J3 t b (l:=ns) (n:=ns.length-1-i) (by omega);have e2:ns.length-1-i+1=ns.length-i:=by omega
   have e3:ns.length-(ns.length-1-i)=i+1:=by omega
   rw[e2,e3,pj ec]at hd;have bs:=uB bt bb (l:=ns.drop (ns.length-i)) λx hx=>hb x (Qe hx)
   rw[Ot]at bs;have bp:=iQ bb i;have bq:=iQ bb (i+1);refine⟨_,rfl,_,rfl,(au ⟨⟨bp.mono (by omega),bb.mono⟩,?_⟩)⟩;refine⟨_,rfl,_,rfl,(au ⟨⟨bs.mono (by omega),bt.mono⟩,_,rfl,_,rfl,(au ⟨⟨(hb c hc).mono,?_⟩,(au ?_)⟩)⟩)⟩
   ·show Bits 1000000 (b^i*b);rw[<- NO];exact bq.mono (by omega)
   refine⟨some (.int c),?_,rfl⟩;rw[e1,hd,NO b i,Int.add_comm,Om t];rfl
  ·rintro Q2 H' ⟨z,rfl,rfl⟩;rw[hl,Oy,O3];exact⟨_,rfl,_,rfl,by show 2<=sizeLine;decide,λp hp=>k p _ (Same.upd_new hp) hp ax⟩
def iy(C:Addr):Sp:=λvs H Q _=>∃(a r:Addr) (ns:Ex) (t b:Int),Vp C H vs a r ns t b/\∀H',Same H H'->Q (.int (sg (hv t b ns))) H'
def FZ(F:Fun K "sign_at" "sign_at" q9 f fd)(T:Txt K mg)(R:RCI K mg C)(KW:Cal P w K mg base 1 "value_parts" ["row","top","bottom"] wN MC LP)(ik:Cal P w K mg base 1 "whole_sign" ["value"] jM oU oP):FnOk P w K mg base aG 2 f fd ["row","ratio"] (iy C):=by
 refine F.ok DX (λvs H Q E h=>?_) (λ_ A _ s H vs Q E hr h=>?_)
 ·obtain⟨a,r,ns,t,b,⟨rfl,_⟩,_⟩:=h;rfl
 ·obtain⟨a,r,ns,t,b,hV,k⟩:=h;obtain⟨rfl,hA,⟨dx,hR⟩,hn,hbs,bt,bb⟩:=hV;refine⟨_,(ak (az (am ik hr (aa (aZ K (am KW hr (aa (pv 0) (aa (aB (K:=K) rfl (pv 1) rfl) (aa (aB (K:=K) rfl (pv 1) rfl) ae)))) af) ae)))),?_⟩;refine⟨_,rfl,_,rfl,r,C,dx,_,_,rfl,hR,R.cl,R.nT,cK,_,rfl,r,C,dx,_,_,rfl,hR,R.cl,R.nB,bX,a,ns,t,b,⟨rfl,hA,hn,hbs,bt,bb⟩,λp H1 s1 hp e1=>?_⟩;exact⟨p,_,_,_,rfl,rfl,SqT.of e1,rfl,_,rfl,k H1 s1⟩
def b60:Bits 200 (10^60):=by show((10:Int)^60).natAbs<2^200;decide +kernel
def Fit(one other:Ex):Prop:=Tr one/\Tr other/\∃n,AllB n one/\AllB n other/\(one.length+2)*(n+1)<=1000000/\other.length<=1000000
noncomputable def Run:Nat->Ex->Ex->Prop
 |0,one,_=>one=[]
 |n+1,one,other=>one=[]\/(Fit one other/\Run n other (aJ one other))
def zH(H:Hp)(Q:VK)(xss:List Ex):Prop:=∀(l:Addr) (ps:List Addr) (H':Hp),Same H H'->H l=none->(∀p∈ps,H p=none/\p≠l)->H' l=some (.lst (ps.map V.ref))->RwH H' ps xss->Q (.ref l) H'
def RwH.upd_ne{H:Hp}{ps:List Addr}{xss:List Ex}{a:Addr}{o:HO}(h:RwH H ps xss)(hn:∀p∈ps,p≠a):RwH (upd H a o) ps xss:=⟨h.1,λi p xs e1 e2=>by rw[L2.upd_ne (hn p (List.mem_of_getElem? e1))];exact h.2 i p xs e1 e2⟩
def qq:Sp:=λvs H Q _=>∃(a b:Addr) (xs ys:Ex) (n:Nat),vs=[.ref a,.ref b]/\H a=some (.lst (xs.map V.int))/\H b=some (.lst (ys.map V.int))/\Tr xs/\Tr ys/\xs.length<=1000/\ys.length<=1000/\n<=1000/\Run n (aj xs) (aj ys)/\zH H Q (bj n (aj xs) (aj ys))
def Gh(F:Fun K "row_from" "row_from" rj f fd)(T:Txt K mg)(mF:Cal P w K mg base 33 "shrunk" ["row"] qk JI Jr)(jC:Cal P w K mg base 2 "divided" ["first","second"] kS uM uK)(KZ:Cal P w K mg base 2 "taken" ["first","second"] (mU K cV) ME LR):FnOk P w K mg base aG 34 f fd ["first","second"] qq:=by
 refine F.ok iX (λvs H Q E h=>?_) (λ_ A _ s H vs Q E hr h=>?_)
 ·obtain⟨a,b,xs,ys,n,rfl,_⟩:=h;rfl
 ·obtain⟨a,b,xs,ys,n,rfl,hA,hB,xtr,ytr,hx,hy,hn,hrun,k⟩:=h;have big:=sizeLine_eq;have hu:=hr.units
  refine⟨_,(ah (ap 2 iX (cg ae))
   (ah (ap 3 iX (am mF hr (aa (pv 0) ae)))
   (ah (ap 4 iX (am mF hr (aa (pv 1) ae)))
   (ah (gY PassesOwn.never (aN (lH (K:=K) rfl hu) (pv 3) (cg ae))
     (ah (iE (lE (pv 2) (aa (pv 3) ae)))
       (ah (ap 5 iX (y7 (aN (jh (K:=K) rfl hu) (pv 4) (cg ae)) (cg ae) (aZ K (am jC hr (aa (pv 3) (aa (pv 4) ae))) af)))
       (ah (ap 3 iX (pv 4))
       (ak (ap 4 iX (am mF hr (aa (am KZ hr (aa (cg ae) (aa (pv 5) ae))) ae))))))))
   (ak (az (pv 2))))))),?_⟩
  refine aA ⟨Nw _,λl hl=>?_⟩;have s1:=Same.upd_new (o:=.lst []) hl;have hl1:upd H l (.lst []) l=some (.lst (([]:List Addr).map V.ref)):=ax;generalize upd H l (.lst [])=H1 at s1 hl1 ⊢
  refine aA ⟨_,rfl,a,xs,rfl,s1 _ _ hA,xtr,by omega,λp1 H2 sm2 hp1 e1=>?_⟩;have s2:=s1.trans sm2;refine aA ⟨_,rfl,b,ys,rfl,s2 _ _ hB,ytr,by omega,λp2 H3 sm3 hp2 e2=>?_⟩;have s3:=s2.trans sm3;have n1l:p1≠l:=λz=>by rw[z,hl1]at hp1;cases hp1
  have n2l:p2≠l:=λz=>by rw[z,sm2 _ _ hl1]at hp2;cases hp2
  generalize aj xs=one' at hrun k e1
  generalize aj ys=other at hrun k e2
  refine⟨λm Q2 H'=>∃(po pt:Addr) (one other':Ex) (ps:List Addr) (acc:List Ex) (z5:Option V),Q2=[some (.ref a),some (.ref b),some (.ref l),some (.ref po),some (.ref pt),z5]/\Same H H'/\H' l=some (.lst (ps.map V.ref))/\RwH H' ps acc/\(∀p∈ps,H p=none/\p≠l)/\H' po=some (.lst (one.map V.int))/\H' pt=some (.lst (other'.map V.int))/\H po=none/\H pt=none/\po≠l/\pt≠l/\Run m one other'/\acc++bj m one other'=bj n one' other/\ps.length+m<=1000,
   ⟨_,p1,p2,one',other,[],[],none,rfl,s3,sm3 _ _ (sm2 _ _ hl1),RwH.nil,(λp hp=>nomatch hp),sm3 _ _ e1,e2,s1.free hp1,s2.free hp2,n1l,n2l,hrun,rfl,by show 0+n<=1000;omega⟩,?_⟩
  rintro m Q2 H4 ⟨po,pt,one,other',ps,acc,z5,rfl,s4,hl4,hR4,hf4,ho4,ht4,fo,ft,nol,ntl,hrun4,hacc,hlen⟩;refine⟨_,rfl,Nw _,λq hq=>?_⟩;have t5:=Same.upd_new (o:=.lst []) hq;refine⟨po,q,one,[],rfl,rfl,SqL.of (t5 _ _ ho4),SqL.of ax,_,rfl,eR (λhne=>?_) (λhe=>?_)⟩
  rotate_left
  ·have he':one=[]:=he;subst he';rw[k8,Pe]at hacc;refine⟨_,rfl,k l ps _ (s4.trans t5) hl hf4 (t5 _ _ hl4) ?_⟩;rw[<- hacc];exact hR4.same t5
  have hne':one≠[]:=hne
  obtain⟨m1,rfl⟩:∃m1,m=m1+1:=by
   cases m with
   |zero=>exact absurd hrun4 hne'
   |succ m1=>exact⟨m1,rfl⟩
  obtain⟨⟨otr,ttr,nb,bo,bt,hsz,htl⟩,hrun5⟩:=(show one=[]\/(Fit one other'/\Run m1 other' (aJ one other'))from hrun4).resolve_left hne'
  have hacc5:(acc++[one])++bj m1 other' (aJ one other')=bj n one' other:=by rw[<- hacc];show _=acc++(if one=[]then[]else one::bj m1 other' (aJ one other'));rw[if_neg hne',NY];rfl
  generalize hH5:upd H4 q (.lst [])=H5 at t5 ⊢
  refine⟨_,λ_ _ h=>h,?_⟩;have hl5:=t5 _ _ hl4;refine j1 ⟨_,rfl,.inl ⟨rfl,_,SqL.of hl5⟩,_,rfl,l,_,_,rfl,rfl,hl5,by rw[No];omega,?_⟩;rw[HR];have s6:Same H (upd H5 l (.lst ((ps++[po]).map V.ref))):=fR (s4.trans t5) hl;have hl6:upd H5 l (.lst ((ps++[po]).map V.ref)) l=some (.lst ((ps++[po]).map V.ref)):=ax
  have hf6:∀p∈ps++[po],H p=none/\p≠l:=λp hp=>by
   rcases NT.mp hp with h |h
   ·exact hf4 p h
   ·rw[NU.mp h];exact⟨fo,nol⟩
  have hR6:RwH (upd H5 l (.lst ((ps++[po]).map V.ref))) (ps++[po]) (acc++[one]):=((hR4.same t5).snoc (t5 _ _ ho4)).upd_ne λp hp=>(hf6 p hp).2
  have ho6:upd H5 l (.lst ((ps++[po]).map V.ref)) po=some (.lst (one.map V.int)):=by rw[L2.upd_ne nol];exact t5 _ _ ho4
  have ht6:upd H5 l (.lst ((ps++[po]).map V.ref)) pt=some (.lst (other'.map V.int)):=by rw[L2.upd_ne ntl];exact t5 _ _ ht4
  generalize upd H5 l (.lst ((ps++[po]).map V.ref))=H6 at s6 hl6 hR6 ho6 ht6 ⊢
  refine ET (λQ2 H'=>∃pr:Addr,Q2=[some (.ref a),some (.ref b),some (.ref l),some (.ref po),some (.ref pt),some (.ref pr)]/\Same H6 H'/\H' pr=some (.lst ((rst one other').map V.int))) ?_ ?_
  case refine_2 =>
   intro rest;refine fk (ES ⟨_,rfl,Nw _,λq2 hq2=>?_⟩);have t7:=Same.upd_new (o:=.lst []) hq2;refine⟨pt,q2,other',[],rfl,rfl,SqL.of (t7 _ _ ht6),SqL.of ax,_,rfl,aQ (λh0=>?_) (λh0=>?_)⟩
   ·have h0':other'=[]:=h0;refine⟨Nw _,λq3 hq3=>rest _ _ ⟨q3,rfl,t7.then_new hq3,?_⟩⟩;rw[ax];unfold rst;rw[if_pos h0'];rfl
   ·have h0':other'≠[]:=h0;refine⟨_,rfl,_,rfl,po,pt,one,other',nb,rfl,t7 _ _ ho6,t7 _ _ ht6,h0',bo,bt,hsz,htl,λt q' r H8 sm8 _ _ _ _ _ _ et _ er=>?_⟩;refine⟨t,_,_,_,rfl,rfl,SqT.of et,rfl,rest _ _ ⟨r,rfl,t7.trans sm8,?_⟩⟩;rw[er];unfold rst;rw[if_neg h0']
  rintro Q2 H8 ⟨pr,rfl,t8,hr8⟩;refine aA ⟨_,rfl,?_⟩;refine fk ⟨Nw _,λq hq=>?_⟩;have t9:=t8.then_new (o:=.lst []) hq
  have hrl:(rst one other').length<=1000000:=by
   unfold rst;split
   ·exact Nw _
   ·rename_i h0
    have:=gs (a:=one) h0;omega
  refine⟨_,rfl,q,pr,[],rst one other',rfl,SqL.of ax,SqL.of (by rw[L2.upd_ne (bn hr8 hq)];exact hr8),Nw _,hrl,λp9 H9 sm9 hp9 e9=>?_⟩;have hsl:(cV [] (rst one other')).length<=1000000:=NP (uo _) (by unfold dX;rw[No,OJ];exact Nat.max_le.mpr ⟨Nw _,hrl⟩);refine⟨p9,_,rfl,e9,fH _,hsl,λp10 H10 sm10 hp10 e10=>?_⟩;have t10:Same H6 H10:=(t9.trans sm9).trans sm10;have f10:H6 p10=none:=(t9.trans sm9).free hp10;refine⟨m1,OM _,pt,p10,other',aJ one other',ps++[po],acc++[one],_,rfl,s6.trans t10,t10 _ _ hl6,hR6.same t10,hf6,t10 _ _ ht6,e10,ft,s6.free f10,ntl,(λz=>by rw[z,hl6]at f10;cases f10),hrun5,hacc5,by rw[Nq];show ps.length+1+m1<=1000;omega⟩
def qp:Sp:=λvs H Q _=>∃(a:Addr) (xs:Ex) (n:Nat),vs=[.ref a]/\H a=some (.lst (xs.map V.int))/\Tr xs/\AllB 90000 xs/\xs.length<=1000/\n<=1000/\Run n (aj xs) (aj (slopeL xs))/\zH H Q (bj n (aj xs) (aj (slopeL xs)))
def wg{xs:Ex}(h:Tr xs):Tr (slopeL xs):=by
 intro n hn;unfold slopeL at *
 rw[No,OJ]at hn;rw[kA,if_pos (by omega)];exact N3 (by omega) (h (n+1) (by omega))
def Gg(F:Fun K "row_of" "row_of" rh f fd)(T:Txt K mg)(vI:Cal P w K mg base 34 "row_from" ["first","second"] qq JM Jv)(mE:Cal P w K mg base 1 "slope" ["row"] (sp1 slopeL) AN AH):FnOk P w K mg base aG 35 f fd ["polynomial"] qp:=by
 refine F.ok D2 (λvs H Q E h=>?_) (λ_ A _ s H vs Q E hr h=>?_)
 ·obtain⟨a,xs,n,rfl,_⟩:=h;rfl
 ·obtain⟨a,xs,n,rfl,hA,xtr,bx,hx,hn,hrun,k⟩:=h;refine⟨_,(ak (az (am vI hr (aa (pv 0) (aa (am mE hr (aa (pv 0) ae)) ae))))),?_⟩;refine aY ⟨_,rfl,_,rfl,a,xs,rfl,hA,by omega,bx.mono,λp H1 s1 hp e1=>?_⟩;have hsl:(slopeL xs).length<=1000:=by unfold slopeL;rw[No,OJ];omega
  exact⟨a,p,xs,slopeL xs,n,rfl,s1 _ _ hA,e1,xtr,wg xtr,hx,hsl,hn,hrun,λl ps H' sm hl hf e r=>k l ps H' (s1.trans sm) (s1.free hl) (λp hp=>⟨s1.free (hf p hp).1,(hf p hp).2⟩) e r⟩
def sgs(t b:Int)(xss:List Ex):Ex:=xss.map λp=>sg (hv t b p)
def qy(C:Addr):Sp:=λvs H Q _=>∃(l r:Addr) (ps:List Addr) (xss:List Ex) (t b:Int),vs=[.ref l,.ref r]/\H l=some (.lst (ps.map V.ref))/\RwH H ps xss/\RA C H r t b/\Bits 5000 t/\Bits 5000 b/\(∀xs∈xss,xs.length<=20/\AllB 95000 xs)/\xss.length<=1000000/\∀H',Same H H'->Q (.int (chS (sgs t b xss)).1) H'
def DB(t b:Int)(xss:List Ex):∀s∈sgs t b xss,s.natAbs<=1:=λs hs=>by obtain⟨x,_,rfl⟩:=NF.mp hs;exact m8 _
def DA{t b:Int}{xss:List Ex}{i:Nat}{xs:Ex}(h:xss[i]?=some xs):sgs t b (xss.take (i+1))=sgs t b (xss.take i)++[sg (hv t b xs)]:=by unfold sgs;rw[OP,h,NI];rfl
def oo{x:Int}(h:x.natAbs<=1):Bits 1000000 x:=Bits.mono (j:=1) (Ou h (by decide)) (by decide)
def GR(F:Fun K "changes" "changes" sk f fd)(T:Txt K mg)(R:RCI K mg C)(fg:Cal P w K mg base 2 "sign_at" ["row","ratio"] (iy C) kt ko):FnOk P w K mg base aG 3 f fd ["row","ratio"] (qy C):=by
 refine F.ok iZ (λvs H Q E h=>?_) (λ_ A _ s H vs Q E hr h=>?_)
 ·obtain⟨l,r,ps,xss,t,b,rfl,_⟩:=h;rfl
 ·obtain⟨l,r,ps,xss,t,b,rfl,hL,hR,hRA,bt,bb,hb,hn,k⟩:=h
  refine⟨_,(ah (ap 2 iZ af)
   (ah (ap 3 iZ af)
   (ah (dQ PassesOwn.never rfl (gF (K:=K) rfl (pv 0)) (de 4 iZ)
     (ah (ap 5 iZ (am fg hr (aa (pv 4) (aa (pv 1) ae))))
       (ah (aT (aN fO (av aS (pv 5) (pv 3)) af)
         (ak (ap 2 iZ (av cJ (pv 2) af)))
         aV)
       (ak (aT (aN kf (pv 5) af)
         (ak (ap 3 iZ (pv 5)))
         aV)))))
   (ak (az (pv 2)))))),?_⟩
  have hpl:(ps.map V.ref).length=xss.length:=by rw[No,hR.1]
  refine aA ?_;refine aA ?_;refine⟨_,rfl,l,rfl,⟨_,SqL.of hL⟩,uF (K:=K) (a:=l) (xs:=ps.map V.ref) (λi Q2 H'=>∃(z4 z5:Option V),Q2=[some (.ref l),some (.ref r),some (.int (chS (sgs t b (xss.take i))).1),some (.int (chS (sgs t b (xss.take i))).2),z4,z5]/\Same H H') ⟨none,none,rfl,λ_ _ e=>e⟩ ?_ ?_ ?_⟩
  ·rintro i Q2 H' _ ⟨z4,z5,rfl,sm⟩;exact SqL.of (sm _ _ hL)
  ·rintro i x Q2 H1 hi ⟨z4,z5,rfl,s1⟩;obtain⟨p,xs,rfl,ep,ex,hp,hlt⟩:=hR.of_get hi;obtain⟨hx1,hx2⟩:=hb xs (List.mem_of_getElem? ex);show d8 (gz _ (fC 5)) _ _ _ _;refine aA ⟨_,rfl,_,rfl,p,r,xs,t,b,⟨rfl,s1 _ _ hp,hRA.same s1,hx1,hx2,bt.mono,bb.mono⟩,λH2 sm2=>?_⟩;have s2:=s1.trans sm2;obtain⟨c1,c2,c3⟩:=Kh _ (DB t b (xss.take i));rw[DA ex,Bq];have hs:=m8 (hv t b xs);generalize sg (hv t b xs)=s at hs ⊢
   generalize chS (sgs t b (xss.take i))=z at c1 ⊢
   obtain⟨m,bf⟩:=z;dsimp only
   refine gU (λQ2 H'=>Q2=[some (.ref l),some (.ref r),some (.int (if s*bf<0 then m+1 else m)),some (.int bf),some (.ref p),some (.int s)]/\H2=H') ?_ ?_
   case refine_2 =>
    intro rest;refine⟨_,rfl,_,rfl,(au ⟨⟨oo hs,oo c1⟩,(au ⟨_,rfl,aQ (λh1=>?_) (λh1=>?_)⟩)⟩)⟩
    ·refine fk ⟨_,rfl,(au (rest _ _ ⟨?_,rfl⟩))⟩;rw[if_pos h1];rfl
    ·refine rest _ _ ⟨?_,rfl⟩;rw[if_neg h1];rfl
   rintro Q2 H' ⟨rfl,rfl⟩;refine⟨_,rfl,(au ⟨_,rfl,eR (λh1=>?_) (λh1=>?_)⟩)⟩
   ·refine fk ⟨_,rfl,some (.ref p),some (.int s),?_,s2⟩;unfold chF;have h1':¬s=0:=h1;rw[if_neg h1'];rfl
   ·refine⟨some (.ref p),some (.int s),?_,s2⟩;unfold chF;have h1':s=0:=h1;rw[if_pos h1']
  ·rintro Q2 H' ⟨z4,z5,rfl,sm⟩;rw[hpl,O8];exact⟨_,rfl,k H' sm⟩
inductive qx(C:Addr)(vs:List V)(H:Hp)(Q:VK)(E:XK):Prop
 |mk (l r r2:Addr) (ps:List Addr) (xss:List Ex) (t b t2 b2:Int):vs=[.ref l,.ref r,.ref r2]->H l=some (.lst (ps.map V.ref))->RwH H ps xss->RA C H r t b->RA C H r2 t2 b2->Bits 5000 t->Bits 5000 b->Bits 5000 t2->Bits 5000 b2->(∀xs∈xss,xs.length<=20/\AllB 95000 xs)->xss.length<=1000000->(∀H',Same H H'->Q (.int ((chS (sgs t b xss)).1-(chS (sgs t2 b2 xss)).1)) H')->qx C vs H Q E
def GN(F:Fun K "count" "count" r9 f fd)(T:Txt K mg)(R:RCI K mg C)(kI:Cal P w K mg base 3 "changes" ["row","ratio"] (qy C) JR JA):FnOk P w K mg base aG 4 f fd ["row","low","high"] (qx C):=by
 refine F.ok D9 (λvs H Q E h=>?_) (λ_ A _ s H vs Q E hr h=>?_)
 ·obtain⟨l,r,r2,ps,xss,t,b,t2,b2,rfl,_⟩:=h;rfl
 ·obtain⟨l,r,r2,ps,xss,t,b,t2,b2,rfl,hL,hR,h1,h2,bt,bb,bt2,bb2,hb,hn,k⟩:=h;refine⟨_,(ak (az (av di (am kI hr (aa (pv 0) (aa (pv 1) ae))) (am kI hr (aa (pv 0) (aa (pv 2) ae)))))),?_⟩;refine aY ⟨_,rfl,_,rfl,l,r,ps,xss,t,b,rfl,hL,hR,h1,bt,bb,hb,hn,λH1 s1=>?_⟩;refine⟨_,rfl,_,rfl,l,r2,ps,xss,t2,b2,rfl,s1 _ _ hL,hR.same s1,h2.same s1,bt2,bb2,hb,hn,λH2 s2=>?_⟩;exact(au (k _ (s1.trans s2)))
def BP(i:Int):(if i<0 then -i else i)=(i.natAbs:Int):=by split<;>omega
def Ky{l:Ex}(h:l≠[]):atI (l.map V.int) (-1)=some (.int (ao l)):=by obtain⟨r,x,rfl⟩:=(dP l).resolve_left h;rw[gj,NI];exact vk _ _
def Ka{l:Ex}:ky l none (some (-1))=l.take (l.length-1):=by
 unfold ky;rw[HT.sIx_none]
 have e:HT.sIx l.length l.length (some (-1))=l.length-1:=by unfold HT.sIx;simp;omega
 rw[e,O3,OA]
def isB(os:Ex)(l k:Nat):Prop:=(∀x∈os,x.natAbs<=(2^k-1)*l)/\∀j,j<k->∃x∈os,(2^j-1)*l<x.natAbs
def qA(K:PySem.W.Frag):Sp:=λvs H Q _=>∃(a:Addr) (ns:Ex),vs=[.ref a]/\SqL K H a (ns.map V.int)/\Tr ns/\ns≠[]/\ns.length<=100000/\AllB 100000 ns /\
 ∀(k:Nat) (H':Hp),k<=100000->isB (ns.take (ns.length-1)) (ao ns).natAbs k->Same H H'->Q (.int ((2^k:Nat):Int)) H'
def E5{os:Ex}{F:Int->Prop}(h:∀g:Nat,(∀x∈os,x.natAbs<=g)->(g=0\/∃x∈os,x.natAbs=g)->F g) :
 (∀M,M∈os.map (λx=>(x.natAbs:Int))->(∀a∈os.map (λx=>(x.natAbs:Int)),a<=M)->F M)/\(os.map (λx=>(x.natAbs:Int))=[]->F 0):=by
 constructor
 ·intro M hM ha;obtain⟨x,hx,rfl⟩:=NF.mp hM;exact h x.natAbs (λy hy=>Int.ofNat_le.mp (ha _ (NF.mpr ⟨y,hy,rfl⟩))) (.inr ⟨x,hx,rfl⟩)
 ·intro e;have:os=[]:=List.map_eq_nil_iff.mp e;subst this;exact h 0 (λx hx=>nomatch hx) (.inl rfl)
def GU(F:Fun K "bound" "bound" ss f fd)(T:Txt K mg):FnOk P w K mg base aG 1 f fd ["row"] (qA K):=by
 refine F.ok k7 (λvs H Q E h=>?_) (λ_ A _ s H vs Q E hr h=>?_)
 ·obtain⟨a,ns,rfl,_⟩:=h;rfl
 ·obtain⟨a,ns,rfl,hA,ht,hne,hn,hb,k⟩:=h;have big:=sizeLine_eq
  refine⟨_,(ah (ap 1 k7 (dS kB (by rfl) T.abs_ PyProof.Rows.boot_abs (aa (cH K (pv 0) (cq ck af)) ae)))
   (ah (ap 2 k7 (Fv (K:=K) rfl rfl (by rfl) T.max_ (eT (own:=["value"]) (fr:=[]) (js:=[]) (by walk_at "comp_ok") rfl (gF (K:=K) rfl (ol (mY (K:=K) rfl) (pv 0) oe (oa (cq ck af)))) (λ_ _ _ _=>(df (i:=0) (show List.Nodup (["value"]:List Str)from by decide +kernel) rfl (Or.inl rfl))) (λ_ _ _ _=>(dS kB (by rfl) T.abs_ PyProof.Rows.boot_abs (aa (pv 0) ae)))) af))
   (ah (ap 3 k7 af)
   (ah (gY PassesOwn.never (aN fO (av aS (av di (pv 3) af) (pv 1)) (pv 2))
     (ak (ap 3 k7 (av aS af (pv 3)))))
   (ak (az (pv 3))))))),?_⟩
  refine aA ⟨_,rfl,_,rfl,a,_,_,_,rfl,rfl,hA,Ky hne,_,rfl,?_⟩;rw[BP]
  have hl0:ao ns≠0:=by obtain⟨r,x,rfl⟩:=(dP ns).resolve_left hne;rw[gj];exact tr_snoc.mp ht
  generalize hL:(ao ns).natAbs=L at k ⊢
  have hL1:1<=L:=by omega
  have bL:Bits 100000 (L:Int):=by obtain⟨r,x,rfl⟩:=(dP ns).resolve_left hne;rw[gj]at hL;exact(hb x (by simp)).of_le (by omega)
  refine aA ⟨_,rfl,_,rfl,_,rfl,a,_,rfl,hA,λp1 hp1=>?_⟩;rw[uU,Ka];have s1:Same H (upd H p1 (.lst ((ns.take (ns.length-1)).map V.int))):=Same.upd_new hp1;have q1:upd H p1 (.lst ((ns.take (ns.length-1)).map V.int)) p1=some (.lst ((ns.take (ns.length-1)).map V.int)):=ax;generalize hO:ns.take (ns.length-1)=os at k s1 q1 ⊢
  generalize upd H p1 (.lst (os.map V.int))=H1 at s1 q1 ⊢
  have bO:AllB 100000 os:=λx hx=>hb x (PY (hO ▸ hx))
  have lO:os.length<=100000:=by rw[<- hO,Oe];omega
  refine⟨p1,rfl,⟨_,SqL.of q1⟩,jt (K:=K) (a:=p1) (xs:=os.map V.int) (λi ys Q2 H'=>∃(z0:Option V),Q2=[z0]/\ys=((os.take i).map λx=>(x.natAbs:Int)).map V.int/\H1=H') (by rw[No];omega) ⟨none,rfl,rfl,rfl⟩ ?_ ?_ ?_⟩
  ·rintro i ys Q2 H' _ ⟨z0,rfl,rfl,rfl⟩;exact⟨SqL.of q1,by rw[No,No,Oe];exact Nat.min_le_left _ _⟩
  ·rintro i x ys Q2 H' hi ⟨z0,rfl,rfl,rfl⟩;rw[List.getElem?_map]at hi;cases e:os[i]? with
   |none=>rw[e]at hi;cases hi
   |some c =>rw[e]at hi;obtain rfl:=Option.some.inj hi;refine⟨_,rfl,_,rfl,_,rfl,?_,rfl⟩;rw[OP,e,BP];simp
  ·rintro ys Q2 H' p ⟨z0,rfl,rfl,rfl⟩ hp;rw[No,O8];have s2:Same H (upd H1 p (.lst ((os.map λx=>(x.natAbs:Int)).map V.int))):=s1.then_new hp;refine⟨p,_,rfl,SqL.of ax,?_⟩;generalize upd H1 p (.lst ((os.map λx=>(x.natAbs:Int)).map V.int))=H2 at s2 ⊢
   refine And.symm (E5 λg hg1 hg2=>?_)
   have bg:g<2^100000:=by
    rcases hg2 with rfl |⟨x,hx,rfl⟩
    ·exact OT (by decide)
    ·exact bO x hx
   refine aA ?_;refine⟨λm Q2 H'=>∃k0:Nat,Q2=[some (.ref a),some (.int L),some (.int g),some (.int ((2^k0:Nat):Int))]/\H2=H'/\2*g+2-2^k0=m/\2^k0<=2*g+1/\∀j,j<k0->(2^j-1)*L<g,⟨_,0,rfl,rfl,rfl,by omega,λj hj=>absurd hj (Pq _)⟩,?_⟩;rintro m Q2 H' ⟨k0,rfl,rfl,rfl,h2,h3⟩
   have hk0:k0<=100000:=by
    have e:2^k0<2^100001:=by rw[Ph 2 100000];omega
    have:=(PR (a:=2) (by decide)).mp e;omega
   have hp:1<=2^k0:=OT (by decide)
   have bk:Bits 100002 ((2^k0:Nat):Int):=by show((2^k0:Nat):Int).natAbs<_;rw[OF];exact(PR (a:=2) (by decide)).mpr (by omega)
   have bk1:Bits 100002 (((2^k0:Nat):Int)-1):=bk.of_le (by omega)
   have cast:(((2^k0:Nat):Int)-1)*(L:Int)=(((2^k0-1)*L:Nat):Int):=by rw[Int.natCast_mul,Int.natCast_sub hp];rfl
   refine⟨_,rfl,_,_,rfl,rfl,_,rfl,_,_,rfl,rfl,⟨bk1.mono,bL.mono⟩,_,rfl,_,_,rfl,rfl,_,rfl,?_⟩;rw[cast];refine aQ (λhlt=>?_) (λhge=>?_)
   ·have hlt':(2^k0-1)*L<g:=by exact Pu.mp hlt
    have h4:2^k0-1<g:=Ou (Qb _ hL1) hlt';refine⟨_,λ_ _ h=>h,?_⟩;refine⟨_,rfl,_,_,rfl,rfl,⟨Bits.mono (j:=2) (by show(2:Int).natAbs<2^2;decide) (by decide),bk.mono⟩,?_⟩;have e2:(2:Int)*((2^k0:Nat):Int)=((2^(k0+1):Nat):Int):=by rw[Ph];omega
    have e3:2^(k0+1)=2*2^k0:=by rw[Ph];omega
    refine⟨2*g+2-2^(k0+1),by omega,k0+1,by rw[<- e2];rfl,rfl,rfl,by omega,λj hj=>?_⟩;by_cases ej:j=k0
    ·subst ej;exact hlt'
    ·exact h3 j (by omega)
   ·have hge':¬(2^k0-1)*L<g:=λz=>hge (Pu.mpr z)
    refine⟨_,rfl,k k0 H2 hk0 ⟨λx hx=>NP (hg1 x hx) (by omega),λj hj=>?_⟩ s2⟩;have h5:=h3 j hj;rcases hg2 with rfl |⟨x,hx,e⟩
    ·exact absurd h5 (Pq _)
    ·exact⟨x,hx,by rw[e];exact h5⟩
def vy(one other:Ex):Prop:=Tr one/\Tr other/\∃n,AllB n one/\AllB n other/\(one.length+2)*(n+1)<=1000000/\other.length<=1000000
noncomputable def kD:Nat->Ex->Ex->Prop
 |0,_,other=>other=[]
 |n+1,one,other=>other=[]\/(vy one other/\kD n other (aq (aO one other)))
def xA:Sp:=λvs H Q _=>∃(a b:Addr) (xs ys:Ex) (n:Nat),vs=[.ref a,.ref b]/\H a=some (.lst (xs.map V.int))/\H b=some (.lst (ys.map V.int))/\Tr xs/\Tr ys/\xs.length<=1000/\ys.length<=1000/\kD n (aq xs) (aq ys)/\mkL H Q (c7 n (aq xs) (aq ys))
def GP(F:Fun K "common" "common" si f fd)(T:Txt K mg)(fF:Cal P w K mg base 34 "plain" ["row"] iT mf me)(jC:Cal P w K mg base 2 "divided" ["first","second"] kS uM uK):FnOk P w K mg base aG 35 f fd ["first","second"] xA:=by
 refine F.ok jW (λvs H Q E h=>?_) (λ_ A _ s H vs Q E hr h=>?_)
 ·obtain⟨a,b,xs,ys,n,rfl,_⟩:=h;rfl
 ·obtain⟨a,b,xs,ys,n,rfl,hA,hB,xtr,ytr,hx,hy,hrun,k⟩:=h;have big:=sizeLine_eq;have hu:=hr.units
  refine⟨_,(ah (ap 2 jW (am fF hr (aa (pv 0) ae)))
   (ah (ap 3 jW (am fF hr (aa (pv 1) ae)))
   (ah (gY PassesOwn.never (aN (lH (K:=K) rfl hu) (pv 3) (cg ae))
     (ah (ap 4 jW (am fF hr (aa (aZ K (am jC hr (aa (pv 2) (aa (pv 3) ae))) af) ae)))
       (ah (ap 2 jW (pv 3))
       (ak (ap 3 jW (pv 4))))))
   (ak (az (pv 2)))))),?_⟩
  refine aA ⟨_,rfl,a,xs,rfl,hA,xtr,by omega,λp1 H1 s1 hp1 e1=>?_⟩;refine aA ⟨_,rfl,b,ys,rfl,s1 _ _ hB,ytr,by omega,λp2 H2 sm2 hp2 e2=>?_⟩;have s2:=s1.trans sm2;generalize aq xs=one' at hrun k e1
  generalize aq ys=other' at hrun k e2
  refine⟨λm Q2 H'=>∃(po pt:Addr) (one other:Ex) (z4:Option V),Q2=[some (.ref a),some (.ref b),some (.ref po),some (.ref pt),z4]/\Same H H'/\H' po=some (.lst (one.map V.int))/\H' pt=some (.lst (other.map V.int))/\H po=none/\H pt=none/\kD m one other/\c7 m one other=c7 n one' other',
   ⟨_,p1,p2,one',other',none,rfl,s2,sm2 _ _ e1,e2,hp1,s1.free hp2,hrun,rfl⟩,?_⟩
  rintro m Q2 H3 ⟨po,pt,one,other,z4,rfl,s3,ho,ht,fo,ft,hrun3,hcom⟩;refine⟨_,rfl,Nw _,λq hq=>?_⟩;have t4:=Same.upd_new (o:=.lst []) hq;refine⟨pt,q,other,[],rfl,rfl,SqL.of (t4 _ _ ht),SqL.of ax,_,rfl,eR (λhne=>?_) (λhe=>?_)⟩
  rotate_left
  ·have he':other=[]:=he;subst he';rw[Bn]at hcom;refine⟨_,rfl,k po _ (s3.trans t4) fo ?_⟩;rw[<- hcom];exact t4 _ _ ho
  have hne':other≠[]:=hne
  obtain⟨m1,rfl⟩:∃m1,m=m1+1:=by
   cases m with
   |zero=>exact absurd hrun3 hne'
   |succ m1=>exact⟨m1,rfl⟩
  obtain⟨⟨otr,ttr,nb,bo,bt,hsz,htl⟩,hrun5⟩:=(show other=[]\/(vy one other/\kD m1 other (aq (aO one other)))from hrun3).resolve_left hne'
  have hcom5:c7 m1 other (aq (aO one other))=c7 n one' other':=by
   rw[<- hcom];show _=if other=[]then one else c7 m1 other (aq (aO one other))
   rw[if_neg hne']
  generalize hH5:upd H3 q (.lst [])=H5 at t4 ⊢
  refine⟨_,λ_ _ h=>h,?_⟩
  have hrl:(aO one other).length<=1000000:=by have:=gs (a:=one) hne';omega
  refine aA ⟨_,rfl,_,rfl,po,pt,one,other,nb,rfl,t4 _ _ ho,t4 _ _ ht,hne',bo,bt,hsz,htl,λt q' r H8 sm8 _ _ _ _ _ _ et _ er=>?_⟩;refine⟨t,_,_,_,rfl,rfl,SqT.of et,rfl,r,_,rfl,er,fW _ _,hrl,λp9 H9 sm9 hp9 e9=>?_⟩;refine aA ⟨_,rfl,?_⟩;refine⟨_,rfl,?_⟩;have t9:=(t4.trans sm8).trans sm9;exact⟨m1,OM _,pt,p9,other,_,_,rfl,s3.trans t9,t9 _ _ ht,e9,ft,s3.free ((t4.trans sm8).free hp9),hrun5,hcom5⟩
def wZ:Sp:=λvs H Q _=>∃(a b:Addr) (xs ys:Ex) (n:Nat),vs=[.ref a,.ref b]/\H a=some (.lst (xs.map V.int))/\H b=some (.lst (ys.map V.int))/\Tr xs/\Tr ys/\AllB n xs/\AllB n ys/\(xs.length+2)*(n+1)<=1000000/\ys.length<=1000000/\ys≠[]/\aO xs ys=[]/\mkL H Q (aq (bZ xs ys))
def Go(F:Fun K "part" "part" rC f fd)(T:Txt K mg)(jC:Cal P w K mg base 2 "divided" ["first","second"] kS uM uK)(fF:Cal P w K mg base 34 "plain" ["row"] iT mf me):FnOk P w K mg base aG 35 f fd ["row","divisor"] wZ:=by
 refine F.ok yd (λvs H Q E h=>?_) (λ_ A _ s H vs Q E hr h=>?_)
 ·obtain⟨a,b,xs,ys,n,rfl,_⟩:=h;rfl
 ·obtain⟨a,b,xs,ys,nb,rfl,hA,hB,xtr,ytr,bx,by',hsz,hyn,hy,hR,k⟩:=h;have hu:=hr.units
  refine⟨_,(ah (ap 2 yd (am jC hr (aa (pv 0) (aa (pv 1) ae))))
   (ah (aT (aN (lH (K:=K) rfl hu) (aZ K (pv 2) af) (cg ae))
     (ak jb)
     aV)
   (ak (az (am fF hr (aa (aZ K (pv 2) af) ae)))))),?_⟩
  refine aA ⟨_,rfl,_,rfl,a,b,xs,ys,nb,rfl,hA,hB,hy,bx,by',hsz,hyn,λt q r H1 sm1 ft fq fr _ _ _ et eq er=>?_⟩;refine bV ⟨_,rfl,t,_,_,_,rfl,rfl,SqT.of et,rfl,Nw _,λp hp=>?_⟩;have s2:=Same.upd_new (o:=.lst []) hp;refine⟨r,p,_,[],rfl,rfl,SqL.of (s2 _ _ er),SqL.of ax,_,rfl,eR (λh=>absurd hR h) (λh=>?_)⟩;have lq:=o5 (a:=xs) hy
  have hxl:xs.length<=1000000:=by have:=OS (xs.length+2) (show 1<=nb+1 by omega);omega
  have hN:aW xs ys<=xs.length+1:=by unfold aW;omega
  have hN2:aW xs ys<=xs.length:=by have:=Nz.mpr hy;unfold aW;omega
  exact⟨_,rfl,t,_,_,_,rfl,rfl,SqT.of (s2 _ _ et),rfl,q,bZ xs ys,rfl,s2 _ _ eq,uQ hy xtr ytr,by omega,λp' H' sm' hp' e'=>k p' H' ((sm1.then_new hp).trans sm') ((sm1.then_new hp).free hp') e'⟩
def GY(F:Fun K "added" "added" sD f fd)(T:Txt K mg)(io:Cal P w K mg base 1 "poly" ["row"] (jK K) oV oQ)(mG:Cal P w K mg base 1 "coefficient" ["row","place"] (kT K) JQ Jz):FnOk P w K mg base aG 2 f fd ["first","second"] (mU K iR):=by
 refine F.ok yj (λvs H Q E h=>?_) (λ_ A _ s H vs Q E hr h=>?_)
 ·obtain⟨a,b,xs,ys,rfl,_⟩:=h;rfl
 ·obtain⟨a,b,xs,ys,rfl,hA,hB,hx,hy,k⟩:=h
  refine⟨_,(ah (ap 2 yj (dS (Bz rfl) (by rfl) T.max_ PyProof.Rows.boot_max (aa (dg K T.len_ (aa (pv 0) ae)) (aa (dg K T.len_ (aa (pv 1) ae)) ae))))
   (ak (az (am io hr (aa (eT (own:=["k"]) (fr:=["first","second"]) (js:=[0,1]) (by walk_at "comp_ok") rfl (jf rfl T.range_ (aa (pv 2) ae)) (λ_ _ _ _=>(df (i:=0) (show List.Nodup (["k","first","second"]:List Str)from by decide +kernel) rfl (Or.inl rfl))) (λ_ _ _ _=>(av cJ (am mG hr (aa (pv 1) (aa (pv 0) ae))) (am mG hr (aa (pv 2) (aa (pv 0) ae)))))) ae))))),?_⟩
  refine⟨_,rfl,a,_,rfl,.inl hA,_,rfl,b,_,rfl,.inl hB,_,_,rfl,?_⟩;rw[zN,No,No];have hz:max xs.length ys.length<=sizeLine:=by have:=sizeLine_eq;omega
  refine⟨_,rfl,_,rfl,(mV hz).1,(mV hz).2,mj (lo:=0) (n:=max xs.length ys.length) (λi zs Q2 H'=>∃z:Option V,Q2=[z,some (.ref a),some (.ref b)]/\zs=((List.range i).map λk=>V.int (cf xs k+cf ys k))/\H=H') hz ⟨none,rfl,rfl,rfl⟩ ?_ ?_ ?_⟩
  ·rintro i zs Q2 H' _ ⟨z,rfl,rfl,rfl⟩;simp
  ·rintro i zs Q2 H' hi ⟨z,rfl,rfl,rfl⟩;refine⟨_,rfl,_,rfl,a,xs,i,?_,hA,_,rfl,_,rfl,b,ys,i,?_,hB,_,_,rfl,rfl,_,rfl,?_,rfl⟩
   ·show[V.ref a,V.int (0+(i:Int))]=_;rw[OE]
   ·show[V.ref b,V.int (0+(i:Int))]=_;rw[OE]
   ·rw[P6,NI];rfl
  ·rintro zs Q2 H' p ⟨z,rfl,rfl,rfl⟩ hp;refine⟨p,(List.range (max xs.length ys.length)).map λk=>cf xs k+cf ys k,rfl,SqL.of ?_,?_⟩
   ·rw[ax,N7];rfl
   ·intro p' H' sm hp' e;refine k p' H' ((Same.upd_new hp).trans sm) ((Same.upd_new hp).free hp') ?_;rw[e,KF]
def qw:Sp:=λvs H Q _=>∃(a b:Addr) (xs ys:Ex),vs=[.ref a,.ref b]/\H a=some (.lst (xs.map V.int))/\H b=some (.lst (ys.map V.int))/\xs.length<=1000000/\ys.length<=1000000/\AllB 1000000 xs/\AllB 1000000 ys/\mkL H Q (ag xs ys)
def Gw(F:Fun K "multiplied" "multiplied" rK f fd)(T:Txt K mg):FnOk P w K mg base aG 1 f fd ["first","second"] qw:=by
 refine F.ok jU (λvs H Q E h=>?_) (λ_ A _ s H vs Q E hr h=>?_)
 ·obtain⟨a,b,xs,ys,rfl,_⟩:=h;rfl
 ·obtain⟨a,b,xs,ys,rfl,hA,hB,hx,hy,bx,by',k⟩:=h;have hu:=hr.units
  refine⟨_,(ah (aT (PW.pt (lu (aN (jh (K:=K) rfl hu) (pv 0) (cg ae)) (nZ (aN (jh (K:=K) rfl hu) (pv 1) (cg ae)))))
   (ak (az (cg ae)))
   aV)
   (ah (ap 2 jU (av zb (cg (aa af ae)) (av di (av cJ (dg K T.len_ (aa (pv 0) ae)) (dg K T.len_ (aa (pv 1) ae))) af)))
   (ah (dQ PassesOwn.never rfl (oh rfl T.enumerate_ (aa (pv 0) ae)) (oj rfl (iG (de 3 jU) (iG (de 4 jU) oi)))
     (ak (dQ PassesOwn.never rfl (oh rfl T.enumerate_ (aa (pv 1) ae)) (oj rfl (iG (de 5 jU) (iG (de 6 jU) oi)))
       (ak (j8 (av cJ (cH K (pv 2) (av cJ (pv 3) (pv 5))) (av aS (pv 4) (pv 6))) (ka (pv 2) (av cJ (pv 3) (pv 5)) jQ))))))
   (ak (az (pv 2)))))),?_⟩
  refine⟨_,rfl,Nw _,λp1 hp1=>?_⟩;have s1:Same H (upd H p1 (.lst [])):=Same.upd_new hp1;refine⟨a,p1,xs,[],rfl,rfl,SqL.of (s1 _ _ hA),SqL.of ax,_,rfl,?_⟩;refine aQ (λh0=>?_) (λh0=>?_)
  ·refine yB ⟨Nw _,λp2 hp2=>k p2 _ (s1.then_new hp2) (s1.free hp2) ?_⟩;rw[ax];unfold ag;rw[if_pos (.inl h0)];rfl
  refine⟨_,rfl,Nw _,λp2 hp2=>?_⟩;have s2:Same H (upd (upd H p1 (.lst [])) p2 (.lst [])):=s1.then_new hp2;refine⟨b,p2,ys,[],rfl,rfl,SqL.of (s2 _ _ hB),SqL.of ax,_,rfl,?_⟩;refine aQ (λh1=>?_) (λh1=>?_)
  ·refine⟨Nw _,λp3 hp3=>k p3 _ (s2.then_new hp3) (s2.free hp3) ?_⟩;rw[ax];unfold ag;rw[if_pos (.inr h1)];rfl
  generalize upd (upd H p1 (.lst [])) p2 (.lst [])=H2 at s2 ⊢
  obtain⟨la,ea⟩:∃la,xs.length=la+1:=⟨xs.length-1,by have:=Nz.mpr h0;omega⟩;obtain⟨lb,eb⟩:∃lb,ys.length=lb+1:=⟨ys.length-1,by have:=Nz.mpr h1;omega⟩;refine⟨(by show 1<=sizeLine;decide),λp3 hp3=>?_⟩;have s3:=s2.then_new (o:=.lst [V.int 0]) hp3;have big:=sizeLine_eq;refine⟨_,rfl,a,_,rfl,.inl (SqL.of (s3 _ _ hA)),_,rfl,b,_,rfl,.inl (SqL.of (s3 _ _ hB)),(au (au ⟨p3,_,_,rfl,rfl,ax,?_,?_,?_,λp hp=>?_⟩))⟩
  ·rw[No,No];omega
  ·rw[No,No];omega
  ·rw[No,No];show 1*_<=_;omega
  have en:(((xs.map V.int).length:Int)+((ys.map V.int).length:Int)-1).toNat=la+lb+1:=by rw[No,No];omega
  rw[en,yz];have s4:=s3.then_new (o:=.lst ((List.replicate (la+lb+1) (0:Int)).map V.int)) hp;have npa:a≠p:=s3.ne hA hp;have npb:b≠p:=s3.ne hB hp;generalize hH4:upd (upd H2 p3 (.lst [V.int 0])) p (.lst ((List.replicate (la+lb+1) (0:Int)).map V.int))=H4 at s4 ⊢
  have hp4:H4 p=some (.lst ((List.replicate (la+lb+1) (0:Int)).map V.int)):=by rw[<- hH4,ax]
  refine⟨_,rfl,a,rfl,⟨_,SqL.of (s4 _ _ hA)⟩,uG (K:=K) (a:=a) (xs:=xs.map V.int) (λj Q2 H'=>∃(acc:Ex) (z3 z4 z5 z6:Option V),Q2=[some (.ref a),some (.ref b),some (.ref p),z3,z4,z5,z6]/\SameB p H4 H'/\H' p=some (.lst (acc.map V.int))/\acc.length=la+lb+1/\∀n,n<acc.length->cf acc n=sm xs ys n j)
   ⟨List.replicate (la+lb+1) 0,none,none,none,none,rfl,SameB.refl _ _,hp4,by simp,λn _=>by rw[uZ];rfl⟩ ?_ ?_ ?_⟩
  ·rintro j Q2 H' _ ⟨acc,z3,z4,z5,z6,rfl,sb,_⟩;exact SqL.of (sb _ _ npa (s4 _ _ hA))
  ·rintro j x Q2 H' q hj ⟨acc,z3,z4,z5,z6,rfl,sb,hpa,hal,hac⟩ hq;rw[List.getElem?_map]at hj
   have hjl:j<xs.length:=by apply Classical.byContradiction;intro hn;rw[List.getElem?_eq_none_iff.mpr (ON hn)]at hj;cases hj
   rw[iL hjl]at hj;obtain rfl:=Option.some.inj hj;refine⟨q,_,rfl,SqT.of ax,rfl,_,_,rfl,_,_,rfl,rfl,?_⟩;have nqp:p≠q:=bn hpa hq;have sb1:SameB p H4 (upd H' q (.tup [.int j,.int (cf xs j)])):=sb.then_new hq
   refine⟨_,rfl,b,rfl,⟨_,SqL.of (sb1 _ _ npb (s4 _ _ hB))⟩,uG (K:=K) (a:=b) (xs:=ys.map V.int) (λi Q2 H'=>∃(acc:Ex) (z5 z6:Option V),Q2=[some (.ref a),some (.ref b),some (.ref p),some (.int j),some (.int (cf xs j)),z5,z6]/\SameB p H4 H'/\H' p=some (.lst (acc.map V.int))/\acc.length=la+lb+1/\∀n,n<acc.length->cf acc n=sm xs ys n j+(if j<=n/\n-j<i then tm xs ys n j else 0))
    ⟨acc,z5,z6,rfl,sb1,by rw[upd_ne nqp];exact hpa,hal,Hw hac⟩ ?_ ?_ ?_⟩
   ·rintro i Q2 H' _ ⟨acc,z5,z6,rfl,sb,_⟩;exact SqL.of (sb _ _ npb (s4 _ _ hB))
   ·rintro i x Q2 H' q hi ⟨acc,z5,z6,rfl,sb,hpa,hal,hac⟩ hq;rw[List.getElem?_map]at hi
    have hil:i<ys.length:=by apply Classical.byContradiction;intro hn;rw[List.getElem?_eq_none_iff.mpr (ON hn)]at hi;cases hi
    rw[iL hil]at hi;obtain rfl:=Option.some.inj hi;refine⟨q,_,rfl,SqT.of ax,rfl,_,_,rfl,_,_,rfl,rfl,?_⟩;have nqp:p≠q:=bn hpa hq;have hpa':upd H' q (.tup [.int i,.int (cf ys i)]) p=some (.lst (acc.map V.int)):=by rw[upd_ne nqp];exact hpa
    have hji:j+i<acc.length:=by omega
    have eji:((j:Nat):Int)+((i:Nat):Int)=((j+i:Nat):Int):=by omega
    refine⟨_,rfl,_,rfl,_,rfl,(au ⟨p,_,_,_,rfl,rfl,SqL.of hpa',pJ eji hji,_,rfl,_,rfl,(au ⟨⟨bx.cf j,by'.cf i⟩,(au ⟨_,rfl,_,rfl,_,rfl,(au ⟨p,_,_,j+i,rfl,rfl,hpa',ki eji (by rw[No];exact hji),?_⟩)⟩)⟩)⟩)⟩;refine⟨acc.set (j+i) (cf acc (j+i)+cf xs j*cf ys i),_,_,rfl,(sb.then_new hq).then_upd,by rw[ax,lQ],by rw[O5];exact hal,Hv hjl hil hji hac⟩
   ·rintro Q2 H' ⟨acc,z5,z6,rfl,sb,hpa,hal,hac⟩;rw[No]at hac;exact⟨acc,_,_,_,_,rfl,sb,hpa,hal,Hx hac⟩
  ·rintro Q2 H' ⟨acc,z3,z4,z5,z6,rfl,sb,hpa,hal,hac⟩;rw[No]at hac;refine⟨_,rfl,k p H' (λb' o e=>sb b' o (s3.ne e hp) (s4 b' o e)) (s3.free hp) ?_⟩;rw[hpa]
   have e:acc=ag xs ys:=by
    apply gm
    ·rw[hal];unfold ag;rw[if_neg (by intro z;exact z.elim h0 h1),No,OJ];omega
    ·intro n _;rw[ay,Hy (by omega) hac]
   rw[e]
inductive qr(C:Addr)(vs:List V)(H:Hp)(Q:VK)(E:XK):Prop
 |mk (p q:Addr) (t b u d:Int) (i j:Nat):vs=[.ref p,.ref q]->RA C H p t b->RA C H q u d->Bits 100000 t->Bits i b->Bits 100000 u->Bits j d->i+j<=9000->0<b->0<d->mkR C H Q (t*d+u*b) (b*d)->qr C vs H Q E
def G8(F:Fun K "plus" "Ratio.plus" sN f fd)(T:Txt K mg)(R:RCI K mg C)(b9:KCal P w K mg base 2 C "Ratio" ["self","top","bottom"] (c9 C) eJ eI eM [.int 1]):FnOk P w K mg base aG 4 f fd ["self","other"] (qr C):=by
 obtain⟨bJ,bI,bC,cC,cM,cL⟩:=b9;refine F.ok Ei (λvs H Q E h=>?_) (λ_ A _ s H vs Q E hr h=>?_)
 ·obtain⟨p,q,t,b,u,d,i,j,rfl,_⟩:=h;rfl
 ·obtain⟨p,q,t,b,u,d,i,j,rfl,⟨dx,hp⟩,⟨dy,hq⟩,bt,bb,bu,bd,hij,hb,hd,k⟩:=h;have bb':Bits 1000000 b:=bb.mono (by omega);have bd':Bits 1000000 d:=bd.mono (by omega);refine⟨_,(ak (az (cD bI bJ (hr.mono) rfl bC cC .nil aR (aa (av cJ (av aS (aB (K:=K) rfl (pv 0) rfl) (aB (K:=K) rfl (pv 1) rfl)) (av aS (aB (K:=K) rfl (pv 1) rfl) (aB (K:=K) rfl (pv 0) rfl))) (aa (av aS (aB (K:=K) rfl (pv 0) rfl) (aB (K:=K) rfl (pv 1) rfl)) ae))))),?_⟩;refine⟨_,rfl,p,C,dx,_,_,rfl,hp,R.cl,R.nT,cK,_,rfl,q,C,dy,_,_,rfl,hq,R.cl,R.nB,bX,_,_,rfl,rfl,⟨bt.mono,bd'⟩,?_⟩;refine⟨_,rfl,q,C,dy,_,_,rfl,hq,R.cl,R.nT,cK,_,rfl,p,C,dx,_,_,rfl,hp,R.cl,R.nB,bX,_,_,rfl,rfl,⟨bu.mono,bb'⟩,_,_,rfl,rfl,?_⟩;refine⟨_,rfl,p,C,dx,_,_,rfl,hp,R.cl,R.nB,bX,_,rfl,q,C,dy,_,_,rfl,hq,R.cl,R.nB,bX,_,_,rfl,rfl,⟨bb',bd'⟩,?_⟩;exact cZ (N9 (NH hb hd)) ((bb.mul bd).mono hij) k
inductive jN(C:Addr)(vs:List V)(H:Hp)(Q:VK)(E:XK):Prop
 |mk (p q:Addr) (t b u d:Int) (i j:Nat):vs=[.ref p,.ref q]->RA C H p t b->RA C H q u d->Bits 100000 t->Bits i b->Bits 100000 u->Bits j d->i+j<=9000->0<b->0<d->mkR C H Q (t*d-u*b) (b*d)->jN C vs H Q E
def Ha(F:Fun K "minus" "Ratio.minus" sP f fd)(T:Txt K mg)(R:RCI K mg C)(b9:KCal P w K mg base 2 C "Ratio" ["self","top","bottom"] (c9 C) eJ eI eM [.int 1]):FnOk P w K mg base aG 4 f fd ["self","other"] (jN C):=by
 obtain⟨bJ,bI,bC,cC,cM,cL⟩:=b9;refine F.ok Ek (λvs H Q E h=>?_) (λ_ A _ s H vs Q E hr h=>?_)
 ·obtain⟨p,q,t,b,u,d,i,j,rfl,_⟩:=h;rfl
 ·obtain⟨p,q,t,b,u,d,i,j,rfl,⟨dx,hp⟩,⟨dy,hq⟩,bt,bb,bu,bd,hij,hb,hd,k⟩:=h;have bb':Bits 1000000 b:=bb.mono (by omega);have bd':Bits 1000000 d:=bd.mono (by omega);refine⟨_,(ak (az (cD bI bJ (hr.mono) rfl bC cC .nil aR (aa (av di (av aS (aB (K:=K) rfl (pv 0) rfl) (aB (K:=K) rfl (pv 1) rfl)) (av aS (aB (K:=K) rfl (pv 1) rfl) (aB (K:=K) rfl (pv 0) rfl))) (aa (av aS (aB (K:=K) rfl (pv 0) rfl) (aB (K:=K) rfl (pv 1) rfl)) ae))))),?_⟩;refine⟨_,rfl,p,C,dx,_,_,rfl,hp,R.cl,R.nT,cK,_,rfl,q,C,dy,_,_,rfl,hq,R.cl,R.nB,bX,_,_,rfl,rfl,⟨bt.mono,bd'⟩,?_⟩;refine⟨_,rfl,q,C,dy,_,_,rfl,hq,R.cl,R.nT,cK,_,rfl,p,C,dx,_,_,rfl,hp,R.cl,R.nB,bX,_,_,rfl,rfl,⟨bu.mono,bb'⟩,_,_,rfl,rfl,?_⟩;refine⟨_,rfl,p,C,dx,_,_,rfl,hp,R.cl,R.nB,bX,_,rfl,q,C,dy,_,_,rfl,hq,R.cl,R.nB,bX,_,_,rfl,rfl,⟨bb',bd'⟩,?_⟩;exact cZ (N9 (NH hb hd)) ((bb.mul bd).mono hij) k
inductive jL(C:Addr)(vs:List V)(H:Hp)(Q:VK)(E:XK):Prop
 |mk (p q:Addr) (t b u d:Int) (i j:Nat):vs=[.ref p,.ref q]->RA C H p t b->RA C H q u d->Bits 100000 t->Bits i b->Bits 100000 u->Bits j d->i+j<=9000->0<b->0<d->mkR C H Q (t*u) (b*d)->jL C vs H Q E
def G6(F:Fun K "times" "Ratio.times" sL f fd)(T:Txt K mg)(R:RCI K mg C)(b9:KCal P w K mg base 2 C "Ratio" ["self","top","bottom"] (c9 C) eJ eI eM [.int 1]):FnOk P w K mg base aG 4 f fd ["self","other"] (jL C):=by
 obtain⟨bJ,bI,bC,cC,cM,cL⟩:=b9;refine F.ok Eg (λvs H Q E h=>?_) (λ_ A _ s H vs Q E hr h=>?_)
 ·obtain⟨p,q,t,b,u,d,i,j,rfl,_⟩:=h;rfl
 ·obtain⟨p,q,t,b,u,d,i,j,rfl,⟨dx,hp⟩,⟨dy,hq⟩,bt,bb,bu,bd,hij,hb,hd,k⟩:=h;refine⟨_,(ak (az (cD bI bJ (hr.mono) rfl bC cC .nil aR (aa (av aS (aB (K:=K) rfl (pv 0) rfl) (aB (K:=K) rfl (pv 1) rfl)) (aa (av aS (aB (K:=K) rfl (pv 0) rfl) (aB (K:=K) rfl (pv 1) rfl)) ae))))),?_⟩;refine⟨_,rfl,p,C,dx,_,_,rfl,hp,R.cl,R.nT,cK,_,rfl,q,C,dy,_,_,rfl,hq,R.cl,R.nT,cK,_,_,rfl,rfl,⟨bt.mono,bu.mono⟩,?_⟩;refine⟨_,rfl,p,C,dx,_,_,rfl,hp,R.cl,R.nB,bX,_,rfl,q,C,dy,_,_,rfl,hq,R.cl,R.nB,bX,_,_,rfl,rfl,⟨bb.mono (by omega),bd.mono (by omega)⟩,?_⟩;exact cZ (N9 (NH hb hd)) ((bb.mul bd).mono hij) k
def A7{l:Ex}{i:Nat}{c:Int}(hi:i<l.length)(e:l[l.length-1-i]?=some c):l.drop (l.length-(i+1))=c::l.drop (l.length-i):=by
 have h:l.length-(i+1)=l.length-1-i:=by omega
 rw[h,PH (by omega)];have h2:l.length-1-i+1=l.length-i:=by omega
 rw[h2];have h3:=List.getElem?_eq_getElem (l:=l) (i:=l.length-1-i) (by omega);rw[h3]at e;rw[Option.some.inj e]
def j9(n:Nat):(0:Int)<2^n:=OG (by decide)
def jc(n:Nat):(2:Int)^n=((2^n:Nat):Int):=by rw[P4];rfl
def lC{n k:Nat}(h:n<k):Bits k ((2:Int)^n):=by rw[jc];show(((2^n:Nat):Int)).natAbs<2^k;rw[OF];exact(PR (by decide)).mpr h
def mJ:Bits 1000000 (2:Int):=Bits.mono (j:=2) (by show(2:Int).natAbs<2^2;decide) (by decide)
def xq(C:Addr):Sp:=λvs H Q _=>∃(r wd:Addr) (r1 r2 w1 w2:Int) (kr kw:Nat),vs=[.ref r,.ref wd]/\RA C H r r1 r2/\RA C H wd w1 w2/\0<r2/\0<w1/\Bits kr r1/\Bits 100000 r2/\Bits 100000 w1/\Bits kw w2/\kr+kw<=100000/\∀n:Nat,n<=kr+kw->r1*w2<=w1*r2*2^n->(∀j:Nat,j<n->w1*r2*2^j<r1*w2)->Q (.int n) H
def GG(F:Fun K "halvings" "halvings" rS f fd)(T:Txt K mg)(R:RCI K mg C):FnOk P w K mg base aG 1 f fd ["reach","width"] (xq C):=by
 refine F.ok jV (λvs H Q E h=>?_) (λ_ A _ s H vs Q E hr h=>?_)
 ·obtain⟨r,wd,r1,r2,w1,w2,kr,kw,rfl,_⟩:=h;rfl
 ·obtain⟨r,wd,r1,r2,w1,w2,kr,kw,rfl,⟨dr,hR⟩,⟨dw,hW⟩,hr2,hw1,br1,br2,bw1,bw2,hkk,k⟩:=h
  refine⟨_,(ah (ap 2 jV (av aS (aB (K:=K) rfl (pv 0) rfl) (aB (K:=K) rfl (pv 1) rfl)))
   (ah (ap 3 jV (av aS (aB (K:=K) rfl (pv 1) rfl) (aB (K:=K) rfl (pv 0) rfl)))
   (ah (ap 4 jV af)
   (ah (gY PassesOwn.never (aN fP (pv 2) (pv 3))
     (ah (ap 3 jV (av aS af (pv 3)))
       (ak (ap 4 jV (av cJ (pv 4) af)))))
   (ak (az (pv 4))))))),?_⟩
  refine aA ⟨_,rfl,r,C,dr,_,_,rfl,hR,R.cl,R.nT,cK,_,rfl,wd,C,dw,_,_,rfl,hW,R.cl,R.nB,bX,(au ⟨⟨br1.mono (by omega),bw2.mono (by omega)⟩,?_⟩)⟩;refine aA ⟨_,rfl,wd,C,dw,_,_,rfl,hW,R.cl,R.nT,cK,_,rfl,r,C,dr,_,_,rfl,hR,R.cl,R.nB,bX,(au ⟨⟨bw1.mono,br2.mono⟩,?_⟩)⟩;have bW:Bits (kr+kw) (r1*w2):=br1.mul bw2;have g0:0<w1*r2:=NH hw1 hr2;refine aA ?_;dsimp only
  generalize r1*w2=W at *
  generalize w1*r2=g at *
  show d8 _ _ _ _ _
  have b0:∀n:Nat,(∀j:Nat,j<n->g*2^j<W)->n<=kr+kw:=λn hn=>by
   rcases Nat.lt_or_ge (kr+kw) n with z |z
   ·have h1:=hn (kr+kw) z
    have h2:(2:Int)^(kr+kw)<=g*2^(kr+kw):=by have:=PL (show(1:Int)<=g by omega) (Oj (j9 (kr+kw)));omega
    have h3:W.natAbs<2^(kr+kw):=bW;have h5:(W.natAbs:Int)<((2^(kr+kw):Nat):Int):=Pu.mpr h3;rw[<- jc]at h5;generalize (2:Int)^(kr+kw)=Y at *
    omega
   ·exact z
  refine⟨λm Q2 H'=>∃n:Nat,Q2=[some (.ref r),some (.ref wd),some (.int W),some (.int (g*2^n)),some (.int n)]/\H=H'/\m=(W-g*2^n).toNat/\∀j:Nat,j<n->g*2^j<W,⟨_,0,by rw[On,Oc];rfl,rfl,rfl,λj hj=>absurd hj (Pq _)⟩,?_⟩;rintro m Q2 H' ⟨n,rfl,rfl,rfl,hj⟩;refine⟨_,rfl,_,rfl,(au ⟨_,rfl,aQ (λhgt=>?_) (λhle=>?_)⟩)⟩
  ·have hgt':g*2^n<W:=hgt;have gp:0<g*2^n:=NH g0 (j9 n);have bg:Bits (kr+kw) (g*2^n):=bW.of_le (by omega);refine⟨_,λ_ _ h=>h,?_⟩;have e2:2*(g*2^n)=g*2^(n+1):=by rw[NO];grind
   refine aA ⟨_,rfl,(au ⟨⟨mJ,bg.mono (by omega)⟩,?_⟩)⟩;refine fk ⟨_,rfl,(au ?_)⟩;refine⟨(W-g*2^(n+1)).toNat,by rw[<- e2];omega,n+1,by rw[<- e2];rfl,rfl,rfl,λj h'=>?_⟩;by_cases ej:j=n
   ·subst ej;exact hgt'
   ·exact hj j (by omega)
  ·refine⟨_,rfl,k n (b0 n hj) ?_ hj⟩;have:¬g*2^n<W:=hle;omega
def dm{k:Nat}{t b:Int}(hb:b≠0)(h:Bits k t):Bits k (rt t b):=h.of_le (Ev hb)
def dA{k:Nat}{t b:Int}(hb:b≠0)(h:Bits k b):Bits k (rb t b):=h.of_le (EX hb)
def ou:¬(("plus":Str)="bottom")/\¬(("plus":Str)="top"):=⟨by decide +kernel,by decide +kernel⟩
def fQ:¬(("minus":Str)="bottom")/\¬(("minus":Str)="top"):=⟨by decide +kernel,by decide +kernel⟩
def dU:¬(("times":Str)="bottom")/\¬(("times":Str)="top"):=⟨by decide +kernel,by decide +kernel⟩
def xC(C:Addr):Sp:=λvs H Q _=>∃(l r:Addr) (l1 l2 r1 r2 pl pc:Int) (i j n:Nat),vs=[.ref l,.ref r,.int pl,.int pc]/\RA C H l l1 l2/\RA C H r r1 r2/\0<l2/\0<r2/\0<pc/\Bits i l1/\Bits i l2/\Bits j r1/\Bits j r2/\Bits n pl/\Bits n pc/\i+(j+n)<=9000 /\
 ∀(x:Addr) (H':Hp) (x1 x2:Int),Same H H'->H x=none->RA C H' x x1 x2->0<x2->x1*(l2*r2*pc)=(l1*r2*pc+r1*l2*pl)*x2->Bits (i+(j+n)+1) x1->Bits (i+(j+n)+1) x2->Nat.gcd x1.natAbs x2.natAbs=1->Q (.ref x) H'
def GW(F:Fun K "along" "along" sA f fd)(T:Txt K mg)(R:RCI K mg C)(vQ:MCal P w K mg base 4 C "plus" ["self","other"] (qr C) JW JF)(ip:MCal P w K mg base 4 C "times" ["self","other"] (jL C) oW oR)(b9:KCal P w K mg base 2 C "Ratio" ["self","top","bottom"] (c9 C) eJ eI eM [.int 1]):FnOk P w K mg base aG 5 f fd ["low","reach","place","pieces"] (xC C):=by
 obtain⟨vx,uh,vi⟩:=vQ;obtain⟨fZ,fS,fY⟩:=ip;obtain⟨bJ,bI,bC,cC,cM,cL⟩:=b9;refine F.ok Ed (λvs H Q E h=>?_) (λ_ A _ s H vs Q E hr h=>?_)
 ·obtain⟨l,r,l1,l2,r1,r2,pl,pc,i,j,n,rfl,_⟩:=h;rfl
 ·obtain⟨l,r,l1,l2,r1,r2,pl,pc,i,j,n,rfl,hL,hR,hl2,hr2,hpc,bl1,bl2,br1,br2,bpl,bpc,hijn,k⟩:=h;refine⟨_,(ak (az (cN (pv 0) R.cl uh vx (hr.mono) vi .nil aR (aa (cN (pv 1) R.cl fS fZ (hr.mono) fY .nil aR (aa (cD bI bJ (hr.mono) rfl bC cC .nil aR (aa (pv 2) (aa (pv 3) ae))) ae)) ae)))),?_⟩;obtain⟨dl,hl⟩:=id hL;obtain⟨dr,hrr⟩:=id hR;have pc0:pc≠0:=N9 hpc;refine aY ⟨_,rfl,l,dl,_,rfl,hl,cB ou.1 ou.2,_,rfl,r,dr,_,rfl,hrr,cB dU.1 dU.2,_,rfl,_,rfl,cZ pc0 (bpc.mono (by omega)) λxa H1 s1 ha hRa=>?_⟩;have a0:0<rb pl pc:=cG pc0;have ba1:Bits n (rt pl pc):=dm pc0 bpl;have ba2:Bits n (rb pl pc):=dA pc0 bpc;have ea:=d9 (t:=pl) pc0;generalize rt pl pc=a1 at *
  generalize rb pl pc=a2 at *
  refine⟨r,xa,r1,r2,a1,a2,j,n,rfl,hR.same s1,hRa,br1.mono (by omega),br2,ba1.mono (by omega),ba2,by omega,hr2,a0,λxc H2 s2 hc hRc=>?_⟩;have d0:r2*a2≠0:=N9 (NH hr2 a0);have c0:0<rb (r1*a1) (r2*a2):=cG d0;have bc1:Bits (j+n) (rt (r1*a1) (r2*a2)):=dm d0 (br1.mul ba1);have bc2:Bits (j+n) (rb (r1*a1) (r2*a2)):=dA d0 (br2.mul ba2);have ec:=d9 (t:=r1*a1) d0;generalize rt (r1*a1) (r2*a2)=c1 at *
  generalize rb (r1*a1) (r2*a2)=c2 at *
  have t2:=s1.trans s2;refine⟨l,xc,l1,l2,c1,c2,i,j+n,rfl,hL.same t2,hRc,bl1.mono (by omega),bl2,bc1.mono (by omega),bc2,hijn,hl2,c0,λxx H3 s3 hx hRx=>?_⟩;have x0:l2*c2≠0:=N9 (NH hl2 c0);refine k xx H3 _ _ (t2.trans s3) (t2.free hx) hRx (cG x0) (KD a0 c0 ea ec (d9 x0)) ?_ ?_ (gX x0)
  ·refine(dm x0 ?_);exact Bits.add (bl1.mul bc2) ((bc1.mul bl2).mono (by omega))
  ·exact(dA x0 (bl2.mul bc2)).mono (by omega)
def HM{i j:Nat}{a b c:Int}{l:Ex}(hl:AllB i l)(ha:Bits j a)(hb:Bits j b)(hc:Bits (i+j) c):AllB (i+j+1) (mb a b c l):=AllB.of_cf λn=>by
 rw[jv];refine Bits.add ?_ ?_
 ·exact(ha.neg.mul (hl.cf n)).mono (by omega)
 ·split
  ·exact hc
  ·exact(hb.mul (hl.cf (n-1))).mono (by omega)
theorem wI{kv j:Nat}{m s0 s1:Int}(hm:Bits j m)(h0:Bits j s0)(h1:Bits j s1):∀{l:Ex},AllB kv l->AllB (kv+(j+1)*l.length+1) (cp m s0 s1 l)
 | [],_=>AllB.nil
 |v::l,h=>by
  have ih:=wI hm h0 h1 (l:=l) λx hx=>h x (NB _ hx)
  have hv:=h v (NK ..)
  have:=HM (c:=v*m^l.length) ih h0.neg h1 ((hv.mul (iQ hm l.length)).mono (by
   have:(j+1)*l.length=j*l.length+l.length:=by rw[O9,Nat.one_mul]
   omega))
  refine AllB.mono this ?_;rw[Ny,Nat.mul_add,Nat.mul_one];omega
def Dh{a b c:Int}{l:Ex}(hne:l≠[])(hT:Tr (mb a b c l)):iR (ag l [-a,b]) (trim [c])=mb a b c l:=by
 refine kx (fH _) hT λk=>?_
 unfold iR;rw[eZ,gu,eZ,NM,Hu hne,jv,jv];rcases k with _ |k
 ·show _+0+c=_+c;omega
 ·rw[if_neg (by omega),if_neg (by omega)];show _+cf [] k=_;rw[bw];omega
def CD{m s0 s1:Int}(hs:0<s1){l:Ex}(hne:l≠[])(hl:Tr l):Tr (cp m s0 s1 l):=by
 have h1:=wH m s0 s1 l;have hlen:=jJ m s0 s1 l;have hp:0<l.length:=Nz.mpr hne;have h2:cf l (l.length-1)≠0:=hl _ (by omega);intro n hn;have:n=l.length-1:=by omega
 subst this;rw[h1];exact N3 h2 (N9 (OG hs))
def CJ{l:Ex}(hl:Tr l){i:Nat}(h:i<l.length):Tr (l.drop i):=by
 intro n hn;rw[Ot]at hn
 have e:cf (l.drop i) n=cf l (i+n):=by unfold cf;simp[List.getD]
 rw[e];exact hl _ (by omega)
def wO(C:Addr):Sp:=λvs H Q _=>∃(a l r:Addr) (ns:Ex) (l1 l2 r1 r2:Int),vs=[.ref a,.ref l,.ref r]/\H a=some (.lst (ns.map V.int))/\RA C H l l1 l2/\RA C H r r1 r2/\Tr ns/\ns≠[]/\ns.length<=12/\AllB 1000 ns/\0<l2/\0<r1/\0<r2/\Bits 1400 l1/\Bits 1400 l2/\Bits 2900 r1/\Bits 2900 r2 /\
 ∀m s0 s1:Int,0<m->s0*l2=l1*m->s1*r2=r1*m->0<s1->AllB 60000 (cp m s0 s1 ns)->mkL H Q (cp m s0 s1 ns)
def FS(F:Fun K "stretched" "stretched" qU f fd)(T:Txt K mg)(R:RCI K mg C)(vG:Cal P w K mg base 2 "shared" ["row"] (qm K) JK Jt)(LC:Cal P w K mg base 2 "added" ["first","second"] (mU K iR) Nc Mq)(vL:Cal P w K mg base 1 "multiplied" ["first","second"] qw JO Jx)(io:Cal P w K mg base 1 "poly" ["row"] (jK K) oV oQ):FnOk P w K mg base aG 3 f fd ["row","low","reach"] (wO C):=by
 refine F.ok gS (λvs H Q E h=>?_) (λ_ A _ s H vs Q E hr h=>?_)
 ·obtain⟨a,l,r,ns,l1,l2,r1,r2,rfl,_⟩:=h;rfl
 ·obtain⟨a,l,r,ns,l1,l2,r1,r2,rfl,hA,⟨dl,hL⟩,⟨dr,hR⟩,hT,hne,hln,hbn,hl2,hr1,hr2,bl1,bl2,br1,br2,k⟩:=h
  refine⟨_,(ah (ap 3 gS (av jg (av aS (aB (K:=K) rfl (pv 1) rfl) (aB (K:=K) rfl (pv 2) rfl)) (am vG hr (aa (cg (aa (aB (K:=K) rfl (pv 1) rfl) (aa (aB (K:=K) rfl (pv 2) rfl) ae))) ae))))
   (ah (ap 4 gS (av aS (aB (K:=K) rfl (pv 1) rfl) (av jg (pv 3) (aB (K:=K) rfl (pv 1) rfl))))
   (ah (ap 5 gS (av aS (aB (K:=K) rfl (pv 2) rfl) (av jg (pv 3) (aB (K:=K) rfl (pv 2) rfl))))
   (ah (ap 6 gS (cg ae))
   (ah (ap 7 gS af)
   (ah (dQ PassesOwn.never rfl (iF rfl T.reversed_ (aa (pv 0) ae)) (de 8 gS)
     (ah (ap 6 gS (am LC hr (aa (am vL hr (aa (pv 6) (aa (cg (aa (pv 4) (aa (pv 5) ae))) ae))) (aa (am io hr (aa (cg (aa (av aS (pv 8) (pv 7)) ae)) ae)) ae))))
       (ak (ap 7 gS (av aS (pv 7) (pv 3))))))
   (ak (az (pv 6))))))))),?_⟩
  obtain⟨l',r',pl',pr',pg,el,er,em,e1,e2,pm⟩:=Kr hl2 hr2 (g:=aC [l2,r2]) (by show Nat.gcd (Nat.gcd 0 l2.natAbs) r2.natAbs=_;rw[PX]);have bg:Bits 9000 ((aC [l2,r2]:Nat):Int):=Bits.mono (j:=1400) (bl2.of_le (by rw[OF];exact Nat.le_of_dvd (by omega) (by show Nat.gcd (Nat.gcd 0 l2.natAbs) r2.natAbs∣_;rw[PX];exact OZ _ _))) (by decide)
  have bl':Bits 1400 l':=bl2.of_le (by
   rw[el,N4]
   exact O0 _ (by omega))
  have br':Bits 2900 r':=br2.of_le (by
   rw[er,N4]
   exact O0 _ (by omega))
  refine aA ⟨_,rfl,l,C,dl,_,_,rfl,hL,R.cl,R.nB,bX,_,rfl,r,C,dr,_,_,rfl,hR,R.cl,R.nB,bX,(au ⟨⟨bl2.mono,br2.mono⟩,?_⟩)⟩;refine⟨_,rfl,l,C,dl,_,_,rfl,hL,R.cl,R.nB,bX,_,rfl,r,C,dr,_,_,rfl,hR,R.cl,R.nB,bX,by show 2<=sizeLine;decide,λp0 hp0=>?_⟩;have s0':=Same.upd_new (o:=.lst [V.int l2,V.int r2]) hp0;refine⟨p0,[l2,r2],rfl,SqL.of ax,(au ⟨⟨pg,bg⟩,?_⟩)⟩;generalize upd H p0 (.lst [V.int l2,V.int r2])=H0 at s0' ⊢
  dsimp only
  rw[em];refine aA ⟨_,rfl,l,C,dl,_,_,rfl,s0' _ _ hL,R.cl,R.nT,cK,_,rfl,_,rfl,l,C,dl,_,_,rfl,s0' _ _ hL,R.cl,R.nB,bX,(au ⟨⟨hl2,bl2.mono⟩,?_⟩)⟩;dsimp only
  rw[e1];refine(au ⟨⟨bl1.mono,br'.mono⟩,?_⟩);refine aA ⟨_,rfl,r,C,dr,_,_,rfl,s0' _ _ hR,R.cl,R.nT,cK,_,rfl,_,rfl,r,C,dr,_,_,rfl,s0' _ _ hR,R.cl,R.nB,bX,(au ⟨⟨hr2,br2.mono⟩,?_⟩)⟩;dsimp only
  rw[e2];refine(au ⟨⟨br1.mono,bl'.mono⟩,?_⟩);have q0:l1*r'*l2=l1*(l2*r'):=by grind
  have q1:r1*l'*r2=r1*(l2*r'):=by
   calc r1*l'*r2=r1*l'*(((aC [l2,r2]:Nat):Int)*r'):=by rw[<- er]
    _=r1*((((aC [l2,r2]:Nat):Int)*l')*r'):=by grind
    _=r1*(l2*r'):=by rw[<- el]
  have q2:0<r1*l':=NH hr1 pl';have bm:Bits 4300 (l2*r'):=bl2.mul br';have bs0:Bits 4300 (l1*r'):=bl1.mul br';have bs1:Bits 4300 (r1*l'):=br1.mul bl';dsimp only
  generalize l2*r'=m at *
  generalize l1*r'=s0 at *
  generalize r1*l'=s1 at *
  have sb:∀{l:Ex},AllB 1000 l->l.length<=12->AllB 60000 (cp m s0 s1 l):=λ{l} h hl=>(wI bm bs0 bs1 h).mono (by omega)
  refine aA ⟨Nw _,λp1 hp1=>?_⟩;have s1':=s0'.then_new (o:=.lst []) hp1;have h1:upd H0 p1 (.lst []) p1=some (.lst []):=ax;have f1:H p1=none:=s0'.free hp1;generalize upd H0 p1 (.lst [])=H1 at s1' h1 ⊢
  refine aA ?_;have hl:(ns.map V.int).length=ns.length:=No _;refine⟨_,rfl,a,_,rfl,SqL.of (s1' _ _ hA),oO (K:=K) (a:=a) (xs:=ns.map V.int) (λi Q2 H'=>∃(p:Addr) (z:Option V),Q2=[some (.ref a),some (.ref l),some (.ref r),some (.int m),some (.int s0),some (.int s1),some (.ref p),some (.int (m^i)),z]/\Same H H'/\H p=none/\H' p=some (.lst ((cp m s0 s1 (ns.drop (ns.length-i))).map V.int))) ⟨p1,none,by rw[On];rfl,s1',f1,by rw[OA,P7];exact h1⟩ ?_ ?_ ?_⟩
  ·rintro i Q2 H' _ ⟨p,z,rfl,sm,_⟩;exact SqL.of (sm _ _ hA)
  ·rintro i x Q2 H2 hi hx ⟨p,z,rfl,s2,fp,e2'⟩;rw[hl]at hi hx;obtain⟨c,ec,rfl,hc,_⟩:=iK hx;have bc:=hbn c hc;have hd:=A7 hi ec;have len:(ns.drop (ns.length-i)).length=i:=by rw[Ot];omega
   have hbd:AllB 1000 (ns.drop (ns.length-i)):=λx hx=>hbn x (Qe hx)
   have aF:=sb hbd (by omega);have lF:(cp m s0 s1 (ns.drop (ns.length-i))).length=i:=by rw[jJ,len]
   have bP:Bits 60000 (m^i):=(iQ bm i).mono (by omega)
   have eF:iR (ag (cp m s0 s1 (ns.drop (ns.length-i))) [s0,s1]) (trim [c*m^i])=cp m s0 s1 (ns.drop (ns.length-(i+1))):=by
    have hT':Tr (cp m s0 s1 (ns.drop (ns.length-(i+1)))):=CD q2 (by rw[hd];simp) (CJ hT (by omega));rw[hd]at hT' ⊢
    have hT2:Tr (mb (-s0) s1 (c*m^i) (cp m s0 s1 (ns.drop (ns.length-i)))):=by have:cp m s0 s1 (c::ns.drop (ns.length-i))=mb (-s0) s1 (c*m^(ns.drop (ns.length-i)).length) (cp m s0 s1 (ns.drop (ns.length-i))):=rfl;rw[this,len]at hT';exact hT'
    show _=mb (-s0) s1 (c*m^(ns.drop (ns.length-i)).length) (cp m s0 s1 (ns.drop (ns.length-i)));rw[len];by_cases hi0:i=0
    ·subst hi0;have e0:cp m s0 s1 (ns.drop (ns.length-0))=[]:=by rw[OA,P7];rfl
     rw[e0]at hT2 ⊢;refine kx (fH _) hT2 λk=>?_
     unfold iR;rw[eZ,gu,ay,eZ,NM];show 0+_=_;rw[OE];rfl
    ·have hn':cp m s0 s1 (ns.drop (ns.length-i))≠[]:=λz=>by rw[z]at lF;exact hi0 lF.symm
     have:=Dh (a := -s0) (b:=s1) (c:=c*m^i) hn' hT2;rw[Int.neg_neg]at this;exact this
   show d8 (gz _ (fC 6)) _ _ _ _
   have bs:AllB 4300 [s0,s1]:=λx hx=>by
    simp only[NR,List.not_mem_nil,or_false]at hx;rcases hx with rfl |rfl
    ·exact bs0
    ·exact bs1
   generalize cp m s0 s1 (ns.drop (ns.length-i))=Fs at *
   refine aA ⟨_,rfl,_,rfl,_,rfl,by show 2<=sizeLine;decide,λp3 hp3=>?_⟩;have s3:=s2.then_new (o:=.lst ([s0,s1].map V.int)) hp3;have e3:upd H2 p3 (.lst ([s0,s1].map V.int)) p=some (.lst (Fs.map V.int)):=(Same.upd_new hp3) _ _ e2';have h3:upd H2 p3 (.lst ([s0,s1].map V.int)) p3=some (.lst ([s0,s1].map V.int)):=ax;refine⟨p,p3,Fs,[s0,s1],rfl,e3,h3,by omega,by show 2<=1000000;decide,aF.mono,bs.mono,λp4 H4 s4 hp4 e4=>?_⟩;have t4:=s3.trans s4;refine⟨_,rfl,_,rfl,(au ⟨⟨bc.mono,bP.mono⟩,by show 1<=sizeLine;decide,λp5 hp5=>?_⟩)⟩;have s5:=t4.then_new (o:=.lst ([c*m^i].map V.int)) hp5;have e5:upd H4 p5 (.lst ([c*m^i].map V.int)) p4=some (.lst ((ag Fs [s0,s1]).map V.int)):=(Same.upd_new hp5) _ _ e4;have h5:upd H4 p5 (.lst ([c*m^i].map V.int)) p5=some (.lst ([c*m^i].map V.int)):=ax;refine⟨p5,[c*m^i],rfl,SqL.of h5,λp6 H6 s6 hp6 e6=>?_⟩;have t6:=s5.trans s6;refine⟨p4,p6,ag Fs [s0,s1],trim [c*m^i],rfl,SqL.of (s6 _ _ e5),SqL.of e6,?_,?_,λp7 H7 s7 hp7 e7=>?_⟩
   ·have:(ag Fs [s0,s1]).length<=1000:=by
     unfold ag;split
     ·exact Nw _
     ·rw[No,OJ];show _+2-1<=_;omega
    omega
   ·have:=uo [c*m^i];have:(trim [c*m^i]).length<=1:=this;omega
   rw[eF]at e7;refine fk ⟨_,rfl,_,rfl,(au ⟨⟨bP.mono,bm.mono⟩,?_⟩)⟩;refine⟨p7,some (.int c),?_,t6.trans s7,t6.free hp7,e7⟩;rw[NO];rfl
  ·rintro Q2 H' ⟨p,z,rfl,sm,fp,e⟩;rw[hl,Oy,O3]at e;exact⟨_,rfl,k m s0 s1 pm q0 q1 q2 (sb hbn hln) p H' sm fp e⟩
def wQ:Sp:=λvs H Q _=>∃(a:Addr) (ns:Ex),vs=[.ref a]/\H a=some (.lst (ns.map V.int))/\ns.length<=1000/\AllB 500000 ns/\mkL H Q (cP ns)
def FU(F:Fun K "spread" "spread" qW f fd)(T:Txt K mg):FnOk P w K mg base aG 1 f fd ["row"] wQ:=by
 refine F.ok kZ (λvs H Q E h=>?_) (λ_ A _ s H vs Q E hr h=>?_)
 ·obtain⟨a,ns,rfl,_⟩:=h;rfl
 ·obtain⟨a,ns,rfl,hA,hn,hb,k⟩:=h;have big:=sizeLine_eq
  refine⟨_,(ah (ap 1 kZ (cg ae))
   (ah (ap 2 kZ af)
   (ah (dQ PassesOwn.never rfl (iF rfl T.reversed_ (aa (pv 0) ae)) (de 3 kZ)
     (ah (iE (lE (pv 1) (aa (av aS (pv 2) (pv 3)) ae)))
       (ak (ap 2 kZ (av aS af (pv 2))))))
   (ah (iE (y9 PySem.F.plainAttrs_list PySem.F.slot_list_reverse PySem.F.type_list_reverse HC (pv 1)))
   (ak (az (pv 1))))))),?_⟩
  refine aA ⟨Nw _,λp1 hp1=>?_⟩;have s1':=Same.upd_new (o:=.lst []) hp1;have h1:upd H p1 (.lst []) p1=some (.lst []):=ax;generalize upd H p1 (.lst [])=H1 at s1' h1 ⊢
  refine aA ?_;have hl:(ns.map V.int).length=ns.length:=No _;refine⟨_,rfl,a,_,rfl,SqL.of (s1' _ _ hA),oO (K:=K) (a:=a) (xs:=ns.map V.int) (λi Q2 H'=>∃z:Option V,Q2=[some (.ref a),some (.ref p1),some (.int (2^i)),z]/\Same H H'/\H' p1=some (.lst ((cP (ns.drop (ns.length-i))).reverse.map V.int))) ⟨none,rfl,s1',by rw[OA,P7];exact h1⟩ ?_ ?_ ?_⟩
  ·rintro i Q2 H' _ ⟨z,rfl,sm,_⟩;exact SqL.of (sm _ _ hA)
  ·rintro i x Q2 H2 hi hx ⟨z,rfl,s2,h2⟩;rw[hl]at hi hx;obtain⟨c,ec,rfl,hc,_⟩:=iK hx;have hd:=A7 hi ec;have len:(ns.drop (ns.length-i)).length=i:=by rw[Ot];omega
   show d8 (mO _) _ _ _ _;refine j1 ⟨_,rfl,.inl ⟨rfl,_,SqL.of h2⟩,_,rfl,_,rfl,(au ⟨⟨(lC (n:=i) (k:=1001) (by omega)).mono,(hb c hc).mono⟩,p1,_,_,rfl,rfl,h2,by rw[No,NS,mQ,len];omega,?_⟩)⟩;refine fk ⟨_,rfl,(au ⟨⟨mJ,(lC (n:=i) (k:=1001) (by omega)).mono⟩,?_⟩)⟩;refine⟨some (.int c),?_,fR s2 hp1,?_⟩
   ·show[some (V.ref a),some (V.ref p1),some (V.int (2*2^i)),some (V.int c)]=_;rw[NO,Om]
   ·rw[ax,hd,HQ];show some (HO.lst (((cP (ns.drop (ns.length-i))).reverse++[2^i*c]).map V.int))=some (HO.lst ((2^(ns.drop (ns.length-i)).length*c::cP (ns.drop (ns.length-i))).reverse.map V.int));rw[O6,len]
  ·rintro Q2 H2 ⟨z,rfl,s2,h2⟩;rw[hl,Oy,O3]at h2;dsimp only
   refine j1 ⟨_,rfl,.inl ⟨rfl,_,SqL.of h2⟩,p1,_,rfl,rfl,h2,?_⟩;refine⟨_,rfl,k p1 _ (fR s2 hp1) hp1 ?_⟩;rw[ax,<- List.map_reverse,PF]
def eW(m:Ex)(j:Nat):Ex:=m.take (m.length-1-j)++cF (m.drop (m.length-1-j))
theorem tK:∀(i:Nat) (m:Ex),fm i m=m.take i++cF (m.drop i)
 |0,m=>by rw[List.take_zero,O3];rfl
 |i+1,[]=>rfl
 |i+1,c::m=>by show c::fm i m=c::(m.take i++cF (m.drop i));rw[tK i m]
def IR(m:Ex)(j:Nat):(eW m j).length=m.length:=by unfold eW;rw[Nq,jI,<- Nq,List.take_append_drop]
def IP(m:Ex):eW m 0=m:=by
 unfold eW;rw[OA];cases hd:m.drop (m.length-1)with
 |nil =>have:m.length-1=m.length\/True:=.inr trivial;have h1:m.length<=m.length-1:=List.drop_eq_nil_iff.mp hd;have:m=[]:=Os (by omega);subst this;rfl
 |cons c r =>have hl:=congrArg List.length hd;rw[Ot,Ny]at hl;have:r=[]:=Os (by omega);subst this;show _++[c+0]=_;rw[Of,<- hd,List.take_append_drop]
def IS(m:Ex){i:Nat}(h:i+1<=m.length):eW m (m.length-1-i)=fm i m:=by
 unfold eW;rw[tK];have:m.length-1-(m.length-1-i)=i:=by omega
 rw[this]
def IQ(m:Ex){j:Nat}(h:j+2<=m.length):(eW m j).set (m.length-2-j) (cf (eW m j) (m.length-2-j)+cf (eW m j) (m.length-1-j))=eW m (j+1):=by
 have e1:m.length-1-(j+1)=m.length-2-j:=by omega
 have e2:m.length-1-j=m.length-2-j+1:=by omega
 have hk:m.length-2-j<m.length:=by omega
 unfold eW;rw[e1,e2];generalize m.length-2-j=k at hk e2
 have hd:m.drop k=m[k]::m.drop (k+1):=PH hk;have ht:m.take (k+1)=m.take k++[m[k]]:=by rw[OP,List.getElem?_eq_getElem hk];rfl
 rw[hd,ht];have lt:(m.take k).length=k:=by rw[Oe];omega
 have c1:cf (m.take k++[m[k]]++cF (m.drop (k+1))) k=m[k]:=by rw[NY,pC (by omega),lt,Oy];rfl
 have c2:cf (m.take k++[m[k]]++cF (m.drop (k+1))) (k+1)=(cF (m.drop (k+1))).headD 0:=by
  rw[pC (by rw[Nq,lt];exact Nv _),Nq,lt];show cf _ (k+1-(k+1))=_;rw[Oy];cases cF (m.drop (k+1))with
  |nil=>rfl
  |cons _ _=>rfl
 rw[c1,c2];show _=m.take k++((m[k]+(cF (m.drop (k+1))).headD 0)::cF (m.drop (k+1)));rw[NY,List.set_append_right _ _ (by omega),lt,Oy];rfl
theorem wF{M:Nat}:∀{l:Ex},(∀x∈l,x.natAbs<=M)->∀x∈cF l,x.natAbs<=l.length*M
 | [],_,x,hx=>nomatch hx
 |v::l,h,x,hx=>by
  have ih:=wF (l:=l) λx hx=>h x (NB _ hx)
  have hv:=h v (NK ..)
  have hh:((cF l).headD 0).natAbs<=l.length*M:=by
   cases hs:cF l with
   |nil=>show(0:Int).natAbs<=_;exact Nw _
   |cons g r=>exact ih g (by rw[hs];exact NK ..)
  rw[Ny,O9,Nat.one_mul];rcases NR.mp hx with e |e
  ·subst e;exact NP (PB _ _) (NP (Nat.add_le_add hv hh) (Ox (OY _ _)))
  ·exact NP (ih x e) (Nat.le_add_right _ _)
def FC{i k:Nat}{m:Ex}(h:AllB i m)(hl:m.length<=16):AllB (i+4) (fm k m):=by
 rw[tK];refine AllB.app (λx hx=>(h x (PY hx)).mono (by omega)) λx hx=>?_
 have h1:=wF (M:=2^i-1) (l:=m.drop k) (λy hy=>by have:y.natAbs<2^i:=h y (Qe hy);omega) x hx;have h2:(m.drop k).length*(2^i-1)<=16*(2^i-1):=O2 _ (by rw[Ot];omega);have h3:0<2^i:=OT (by decide);show x.natAbs<2^(i+4);have h4:2^(i+4)=2^i*16:=by rw[Nat.pow_add]
 omega
theorem zE{i:Nat}{m:Ex}(h:AllB i m)(hl:m.length<=16):∀n,AllB (i+4*n) (gf n m)
 |0=>h
 |n+1=>by have:=FC (k:=n) (zE h hl n) (by rw[ox];exact hl);exact this.mono (by omega)
def HG{i:Nat}{m:Ex}(h:AllB i m)(hl:m.length<=12):AllB (i+44) (lK m):=(zE h (by omega) _).mono (by omega)
theorem wL{i:Nat}:∀{m:Ex},AllB i m->m.length<=12->AllB (i+13) (cP m)
 | [],_,_=>AllB.nil
 |v::m,h,hl=>by
  have ih:=wL (m:=m) (λx hx=>h x (NB _ hx)) (by rw[Ny]at hl;omega);intro x hx;rcases NR.mp hx with e |e
  ·subst e;have:=(lC (n:=m.length) (k:=13) (by rw[Ny]at hl;omega)).mul (h v (NK ..));exact this.mono (by omega)
  ·exact ih x e
def xj:Sp:=λvs H Q _=>∃(a:Addr) (ns:Ex),vs=[.ref a]/\H a=some (.lst (ns.map V.int))/\1<=ns.length/\ns.length<=1000/\mkL H Q (lK ns)
def qI(l:Ex)(k:Nat)(v:Int):(l.map V.int).set k (.int v)=(l.set k v).map V.int:=by rw[List.map_set]
def BK{l:Ex}{k:Nat}{j:Int}(e:j=(k:Int))(h:k<l.length):atI (l.map V.int) j=some (.int (cf l k)):=by subst e;refine ie ?_;rw[List.getElem?_map,List.getElem?_eq_getElem h];show some (V.int l[k])=_;rw[pj (List.getElem?_eq_getElem h)]
def Gx(F:Fun K "moved" "moved" rL f fd)(T:Txt K mg)(d6:Cal P w K mg base 1 "degree" ["row"] iA ku kq):FnOk P w K mg base aG 2 f fd ["row"] xj:=by
 refine F.ok nw (λvs H Q E h=>?_) (λ_ A _ s H vs Q E hr h=>?_)
 ·obtain⟨a,ns,rfl,_⟩:=h;rfl
 ·obtain⟨a,ns,rfl,hA,hn1,hn,k⟩:=h;have big:=sizeLine_eq
  refine⟨_,(ah (ap 1 nw (lD (vc (K:=K) rfl) (by rfl) T.list_ PyProof.Rows.boot_list (aa (pv 0) ae)))
   (ah (dQ PassesOwn.never rfl (jf rfl T.range_ (aa (am d6 hr (aa (pv 0) ae)) ae)) (de 2 nw)
     (ak (dQ PassesOwn.never rfl (y4 rfl T.range_ (aa (av di (am d6 hr (aa (pv 0) ae)) af) (aa (av di (pv 2) af) (aa (cq ck af) ae)))) (de 3 nw)
       (ak (j8 (av cJ (cH K (pv 1) (pv 3)) (cH K (pv 1) (av cJ (pv 3) af))) (ka (pv 1) (pv 3) jQ))))))
   (ak (az (pv 1))))),?_⟩
  refine aA ⟨_,rfl,a,_,rfl,.inl (SqL.of hA),λp hp=>?_⟩;have s1':=Same.upd_new (o:=.lst (ns.map V.int)) hp;have h1:upd H p (.lst (ns.map V.int)) p=some (.lst (ns.map V.int)):=ax;generalize upd H p (.lst (ns.map V.int))=H1 at s1' h1 ⊢
  have hl:(ns.map V.int).length=ns.length:=No _;have ed:((ns.map V.int).length:Int)-1=((ns.length-1:Nat):Int):=by rw[hl];omega
  refine⟨_,rfl,a,_,rfl,s1' _ _ hA,_,rfl,(by rw[ed];omega),(by rw[ed];omega),?_⟩;rw[ed];refine uE (lo:=0) (n:=ns.length-1) (λi Q2 H'=>∃z2 z3:Option V,Q2=[some (.ref a),some (.ref p),z2,z3]/\Same H H'/\H' p=some (.lst ((gf i ns).map V.int))) ⟨none,none,rfl,s1',h1⟩ ?_ ?_
  ·rintro i Q2 H2 hi ⟨z2,z3,rfl,s2,h2⟩;have lm:(gf i ns).length=ns.length:=ox _ _;generalize hM:gf i ns=M at h2 lm
   obtain⟨r,er⟩:∃r,ns.length=r+2:=⟨ns.length-2,by omega⟩;have er1:ns.length-1=r+1:=by rw[er];rfl
   have er2:ns.length-2=r:=by rw[er];rfl
   have hr':r+2<=100000:=by rw[<- er];omega
   rw[er1]at hi;refine⟨_,rfl,a,_,rfl,s2 _ _ hA,(au ⟨_,rfl,(au ⟨_,rfl,(r:Int),(i:Int)-1,?_,⟨by omega,by omega,by omega,by omega⟩,?_⟩)⟩)⟩
   ·rw[ed,er1];have e1:((r+1:Nat):Int)-1=(r:Int):=by omega
    have e2:(0:Int)+(i:Int)-1=(i:Int)-1:=by omega
    dsimp only
    rw[e1,e2]
   have en:((r:Int)-((i:Int)-1)).toNat=r+1-i:=by omega
   rw[en];refine AB (λj Q2 H'=>∃z3:Option V,Q2=[some (.ref a),some (.ref p),some (.int (0+(i:Int))),z3]/\Same H H'/\H' p=some (.lst ((eW M j).map V.int))) ⟨z3,rfl,s2,by rw[IP];exact h2⟩ ?_ ?_
   ·rintro j Q2 H3 hj ⟨z3,rfl,s3,h3⟩;have hj':j<=r:=by omega
    have lh:(eW M j).length=r+2:=by rw[IR,lm,er]
    have hs:=IQ M (j:=j) (by rw[lm,er];omega);rw[lm,er1,er2]at hs;have k1:(r:Int)+(j:Int) * -1=((r-j:Nat):Int):=by omega
    have k2:(r:Int)+(j:Int) * -1+1=((r+1-j:Nat):Int):=by omega
    refine⟨_,rfl,_,rfl,p,_,_,_,rfl,rfl,SqL.of h3,BK k1 (by omega),_,rfl,_,rfl,(au ⟨p,_,_,_,rfl,rfl,SqL.of h3,BK k2 (by omega),(au ⟨_,rfl,_,rfl,p,_,_,r-j,rfl,rfl,h3,?_,?_⟩)⟩)⟩
    ·exact ki k1 (by rw[No];omega)
    refine⟨_,rfl,fR s3 hp,?_⟩;rw[ax,qI,hs]
   ·rintro Q2 H3 ⟨z3,rfl,s3,h3⟩;refine⟨_,_,rfl,s3,?_⟩
    have:eW M (r+1-i)=gf (i+1) ns:=by rw[<- er1,<- lm,IS M (by rw[lm,er];omega),<- hM];rfl
    rw[<- this];exact h3
  ·rintro Q2 H2 ⟨z2,z3,rfl,s2,h2⟩;exact⟨_,rfl,k p H2 s2 hp h2⟩
structure RootB(ns:Ex)(ε:Int)(up:Int->Int->Prop):Prop where
 e1:ε=1\/ε = -1
 r1:∀p c,0<p->p<=c->up p c->sg (hv p c ns) = -ε
 r2:∀p c,0<p->p<=c->¬up p c->sg (hv p c ns)=ε\/sg (hv p c ns)=0
 r3:∀p c p' c',0<p->p<=c->0<p'->p'<=c'->¬up p c->p*c'<p'*c->sg (hv p' c' ns)=ε
 sc:∀p c,0<c->(up (2*p) (2*c)↔up p c)
 top:¬up 1 1
def IJ(p c:Int)(l:Ex):sg (hv (2*p) (2*c) l)=sg (hv p c l):=by rw[oI];exact iW (OG (by decide))
def xt:Sp:=λvs H Q _=>∃(a:Addr) (ns:Ex) (e:Int) (n:Nat) (ε:Int) (up:Int->Int->Prop),vs=[.ref a,.int e,.int n]/\H a=some (.lst (ns.map V.int))/\1<=ns.length/\ns.length<=12/\AllB 60000 ns/\n<=4000/\RootB ns ε up/\e=sg (hv 1 1 ns) /\
 ∀(p:Addr) (H':Hp) (pl:Nat),Same H H'->H p=none->H' p=some (.tup [.int pl,.int (2^n)])->pl<2^n->(pl=0\/up pl (2^n))->¬up ((pl:Int)+1) (2^n)->Q (.ref p) H'
def GH(F:Fun K "halved" "halved" rT f fd)(T:Txt K mg)(Lb:Cal P w K mg base 1 "spread" ["row"] wQ MH LW)(ik:Cal P w K mg base 1 "whole_sign" ["value"] jM oU oP)(Lm:Cal P w K mg base 2 "moved" ["row"] xj MU Mb):FnOk P w K mg base aG 3 f fd ["row","end","steps"] xt:=by
 refine F.ok fh (λvs H Q E h=>?_) (λ_ A _ s H vs Q E hr h=>?_)
 ·obtain⟨a,ns,e,n,ε,up,rfl,_⟩:=h;rfl
 ·obtain⟨a,ns,e,n,ε,up,rfl,hA,h1n,hln,hbn,hn,hB,he,k⟩:=h
  refine⟨_,(ah (ap 3 fh af)
   (ah (ap 4 fh af)
   (ah (ap 5 fh (pv 1))
   (ah (ap 6 fh (pv 0))
   (ah (dQ PassesOwn.never rfl (jf rfl T.range_ (aa (pv 2) ae)) (de 7 fh)
     (ah (ap 3 fh (av aS af (pv 3)))
       (ah (ap 4 fh (av aS af (pv 4)))
       (ah (ap 6 fh (am Lb hr (aa (pv 6) ae)))
       (ah (ap 8 fh (am ik hr (aa (dS (Kk (K:=K) rfl rfl) (by rfl) T.sum_ PyProof.Rows.boot_sum (aa (pv 6) ae)) ae)))
       (ak (aT (PW.pt (ly (aN kf (pv 8) af) (lw (aN kf (pv 8) (pv 5)))))
         (ah (ap 3 fh (av cJ (pv 3) af))
           (ak (ap 6 fh (am Lm hr (aa (pv 6) ae)))))
         (ak (ap 5 fh (pv 8))))))))))
   (ak (az (fN (aa (pv 3) (aa (pv 4) ae)))))))))),?_⟩
  refine aA ?_;refine aA ?_;refine aA ⟨_,rfl,?_⟩;refine aA ⟨_,rfl,?_⟩;refine⟨_,rfl,n,rfl,by omega,by omega,uE (lo:=0) (n:=n) (λi Q2 H'=>∃(p:Addr) (pl:Nat) (L:Ex) (z7 z8:Option V),Q2=[some (.ref a),some (.int e),some (.int n),some (.int pl),some (.int (2^i)),some (.int (sg (hv ((pl:Int)+1) (2^i) ns))),some (.ref p),z7,z8]/\Same H H'/\H' p=some (.lst (L.map V.int))/\L.length=ns.length/\AllB (60000+60*i) L/\(∀p q:Int,2^i*hv p q L=hv (pl*q+p) (2^i*q) ns)/\pl<2^i/\(pl=0\/up pl (2^i))/\¬up ((pl:Int)+1) (2^i)) ⟨a,0,ns,none,none,by rw[he];rfl,Same.refl _,hA,rfl,hbn,λp q=>by rw[On,NM,NM];show _=hv (0*q+p) q ns;rw[Ov,OE],by decide,.inl rfl,by rw[On];exact hB.top⟩ ?_ ?_⟩
  ·rintro i Q2 H1 hi ⟨p,pl,L,z7,z8,rfl,s1,h1,lL,bL,hval,hpl,hup,hnup⟩;show d8 (gz _ (fC 3)) _ _ _ _;have b2i:Bits 4002 ((2:Int)^i):=lC (by omega);have p2i:=j9 i;have cpl:(pl:Int)<2^i:=by rw[jc];exact Pu.mpr hpl
   have bpl:Bits 4002 (pl:Int):=b2i.of_le (by rw[jc];omega);refine aA ⟨_,rfl,(au ⟨⟨mJ,bpl.mono⟩,?_⟩)⟩;refine aA ⟨_,rfl,(au ⟨⟨mJ,b2i.mono⟩,?_⟩)⟩;refine aA ⟨_,rfl,p,L,rfl,h1,by omega,bL.mono (by omega),λp2 H2 s2 hp2 e2=>?_⟩;have t2:=s1.trans s2;have lS:(cP L).length=ns.length:=by rw[mQ,lL]
   have bS:AllB (60000+60*i+13) (cP L):=wL bL (by omega);have e2i:(2:Int)*2^i=2^(i+1):=by rw[NO,Om]
   have vS:∀p q:Int,2^(i+1)*hv p q (cP L)=hv (((2*pl:Nat):Int)*q+p) (2^(i+1)*q) ns:=λp q=>by
    have h3:=hval p (2*q);rw[<- Ar]at h3;have h4:(2:Int)^(i+1)*hv p q (cP L)=2^i*(2*hv p q (cP L)):=by rw[NO];grind
    rw[h4,h3]
    have h5:(pl:Int)*(2*q)+p=((2*pl:Nat):Int)*q+p:=by
     have:((2*pl:Nat):Int)=2*(pl:Int):=by omega
     rw[this];grind
    have h6:(2:Int)^i*(2*q)=2^(i+1)*q:=by rw[NO];grind
    rw[h5,h6]
   refine aA ⟨_,rfl,p2,cP L,rfl,SqL.of e2,_,rfl,?_⟩;have p2i1:=j9 (i+1)
   have ethere:sg (cP L).sum=sg (hv (((2*pl:Nat):Int)+1) (2^(i+1)) ns):=by have h3:=vS 1 1;rw[Oc,Oc]at h3;rw[<- Ap,<- h3,iW p2i1]
   have c2pl:(((2*pl:Nat):Int)+1)<=2^(i+1):=by rw[<- e2i];omega
   have hold:sg (hv ((pl:Int)+1) (2^i) ns)=sg (hv (2*((pl:Int)+1)) (2^(i+1)) ns):=by rw[<- e2i,IJ]
   have plc:(pl:Int)+1<=2^i:=by omega
   generalize hth:sg (cP L).sum=th at ethere
   show kQ _ _ _ _ _ _;have epl:(2:Int)*(pl:Int)=((2*pl:Nat):Int):=by omega
   have n2i:2^(i+1)=2*2^i:=by rw[Ph,Nat.mul_comm]
   refine yD (λQ2 H'=>Q2=[some (.ref a),some (.int e),some (.int n),some (.int (2*(pl:Int))),some (.int (2*2^i)),some (.int (sg (hv ((pl:Int)+1) (2^i) ns))),some (.ref p2),some (.int (0+(i:Int))),some (.int th)]/\H2=H') ⟨by rw[<- hth];rfl,rfl⟩ ?_;rintro Q2 H' ⟨rfl,rfl⟩;by_cases hu:up (((2*pl:Nat):Int)+1) (2^(i+1))
   ·
    have r1:=hB.r1 _ _ (by omega) c2pl hu;rw[<- ethere]at r1;have r2:=hB.r2 _ _ (by omega) plc hnup;have n0:th≠0:=by rcases hB.e1 with z |z<;>omega
    have n1:th≠sg (hv ((pl:Int)+1) (2^i) ns):=by rcases hB.e1 with z |z<;>rcases r2 with y |y<;>omega
    refine j2 (j3 ⟨_,rfl,(au ⟨_,rfl,eR (λ_=>?_) (λh0=>absurd h0 n0)⟩)⟩);refine⟨_,rfl,_,rfl,(au ⟨_,rfl,eR (λ_=>?_) (λh0=>absurd h0 n1)⟩)⟩;refine aA ⟨_,rfl,(au ?_)⟩;refine fk ⟨_,rfl,p2,cP L,rfl,e2,by omega,by omega,λp3 H3 s3 hp3 e3=>?_⟩;refine⟨p3,2*pl+1,lK (cP L),some (.int (0+(i:Int))),some (.int th),?_,t2.trans s3,e3,by rw[zG,lS],(HG bS (by omega)).mono (by omega),λp q=>?_,by omega,.inr ?_,?_⟩
    ·have q1:(2:Int)*(pl:Int)+1=((2*pl+1:Nat):Int):=by omega
     have q2:((2*pl+1:Nat):Int)+1=2*((pl:Int)+1):=by omega
     rw[q2,<- hold,<- q1,<- e2i];rfl
    ·rw[IK,vS]
     have:((2*pl:Nat):Int)*q+(p+q)=((2*pl+1:Nat):Int)*q+p:=by
      have:((2*pl+1:Nat):Int)=((2*pl:Nat):Int)+1:=by omega
      rw[this];grind
     rw[this]
    ·exact hu
    ·have q2:((2*pl+1:Nat):Int)+1=2*((pl:Int)+1):=by omega
     rw[q2,<- e2i,hB.sc _ _ p2i];exact hnup
   ·
    have r2:=hB.r2 _ _ (by omega) c2pl hu;rw[<- ethere]at r2
    have r3:=hB.r3 _ _ ((pl:Int)+1) (2^i) (by omega) c2pl (by omega) plc hu (by
     have h7:(((2*pl:Nat):Int)+1)*2^i<(2*(pl:Int)+2)*2^i:=Int.mul_lt_mul_of_pos_right (by omega) p2i;have h8:((pl:Int)+1)*2^(i+1)=(2*(pl:Int)+2)*2^i:=by rw[NO];grind
     omega)
    have low:∃(p:Addr) (q:Nat) (L':Ex) (z7 z8:Option V),[some (V.ref a),some (V.int e),some (V.int n),some (V.int (2*(pl:Int))),some (V.int (2*2^i)),some (V.int th),some (V.ref p2),some (V.int (0+(i:Int))),some (V.int th)]=[some (.ref a),some (.int e),some (.int n),some (.int q),some (.int (2^(i+1))),some (.int (sg (hv ((q:Int)+1) (2^(i+1)) ns))),some (.ref p),z7,z8]/\Same H H2/\H2 p=some (.lst (L'.map V.int))/\L'.length=ns.length/\AllB (60000+60*(i+1)) L'/\(∀p q':Int,2^(i+1)*hv p q' L'=hv (q*q'+p) (2^(i+1)*q') ns)/\q<2^(i+1)/\(q=0\/up q (2^(i+1)))/\¬up ((q:Int)+1) (2^(i+1)):=by
     refine⟨p2,2*pl,cP L,some (.int (0+(i:Int))),some (.int th),by rw[e2i,epl,ethere],t2,e2,lS,bS.mono (by omega),vS,by omega,?_,hu⟩;rcases hup with z |z
     ·exact .inl (by omega)
     ·refine .inr ?_;rw[<- epl,<- e2i,hB.sc _ _ p2i];exact z
    by_cases n0:th=0
    ·refine j2 (j3 ⟨_,rfl,(au ⟨_,rfl,eR (λh0=>absurd n0 h0) (λ_=>?_)⟩)⟩);exact f9 (fk ⟨_,rfl,low⟩)
    ·have n1:th=sg (hv ((pl:Int)+1) (2^i) ns):=by
      rcases r2 with z |z
      ·rw[z,r3]
      ·exact absurd z n0
     refine j2 (j3 ⟨_,rfl,(au ⟨_,rfl,eR (λ_=>?_) (λh0=>absurd h0 n0)⟩)⟩);refine⟨_,rfl,_,rfl,(au ⟨_,rfl,eR (λh0=>absurd n1 h0) (λ_=>?_)⟩)⟩;exact fk ⟨_,rfl,low⟩
  ·rintro Q2 H1 ⟨p,pl,L,z7,z8,rfl,s1,h1,lL,bL,hval,hpl,hup,hnup⟩;dsimp only
   refine aY ⟨_,rfl,_,rfl,by show 2<=sizeLine;decide,λp' hp'=>?_⟩;exact k p' _ pl (s1.then_new hp') (s1.free hp') ax hpl hup hnup
structure RootU(ns:Ex)(l1 l2 h1 h2 ε:Int)(Up:Int->Int->Prop):Prop where
 e1:ε=1\/ε = -1
 r1:∀x1 x2,0<x2->l1*x2<x1*l2->x1*h2<=h1*x2->Up x1 x2->sg (hv x1 x2 ns) = -ε
 r2:∀x1 x2,0<x2->l1*x2<x1*l2->x1*h2<=h1*x2->¬Up x1 x2->sg (hv x1 x2 ns)=ε\/sg (hv x1 x2 ns)=0
 r3:∀x1 x2 y1 y2,0<x2->0<y2->l1*x2<x1*l2->y1*h2<=h1*y2->¬Up x1 x2->x1*y2<y1*x2->sg (hv y1 y2 ns)=ε
 sc:∀x1 x2 y1 y2,0<x2->0<y2->x1*y2=y1*x2->Up x1 x2->Up y1 y2
 low:Up l1 l2
 top:¬Up h1 h2
structure EndsG(k:Nat)(l1 l2 h1 h2:Int):Prop where
 l2p:0<l2
 h2p:0<h2
 bl1:Bits k l1
 bl2:Bits k l2
 bh1:Bits k h1
 bh2:Bits k h2
 lt:l1*h2<h1*l2
 gl:Nat.gcd l1.natAbs l2.natAbs=1
 gh:Nat.gcd h1.natAbs h2.natAbs=1
def EndsG.mono{j k:Nat}{l1 l2 h1 h2:Int}(e:EndsG j l1 l2 h1 h2)(h:j<=k:=by decide):EndsG k l1 l2 h1 h2:=⟨e.l2p,e.h2p,e.bl1.mono h,e.bl2.mono h,e.bh1.mono h,e.bh2.mono h,e.lt,e.gl,e.gh⟩
structure NarP(l1 l2 h1 h2 w1 w2:Int)(Up:Int->Int->Prop)(kb:Nat)(n pl:Nat)(x1 x2 y1 y2:Int):Prop where
 ends:EndsG kb x1 x2 y1 y2
 ux:Up x1 x2
 uy:¬Up y1 y2
 lo:l1*x2<=x1*l2
 hi:y1*h2<=h1*y2
 wide:(y1*x2-x1*y2)*w2<=w1*(x2*y2)
 pls:pl<2^n
 ex:x1*(l2*h2*2^n)=(l1*h2*2^n+(h1*l2-l1*h2)*pl)*x2
 ey:y1*(l2*h2*2^n)=(l1*h2*2^n+(h1*l2-l1*h2)*(pl+1))*y2
 big:∀j:Nat,j<n->w1*(h2*l2)*2^j<(h1*l2-l1*h2)*w2
 fit:(h1*l2-l1*h2)*w2<=w1*(h2*l2)*2^n
def DK{x1 x2 y1 y2:Int}(hx:0<x2)(hy:0<y2)(e:x1*y2=y1*x2)(l:Ex):sg (hv x1 x2 l)=sg (hv y1 y2 l):=by
 have h1:=oI y2 x1 x2 l;have h2:=oI x2 y1 y2 l;have e1:y2*x1=x2*y1:=by rw[Om y2,e,Om]
 rw[e1,Om y2 x2]at h1;rw[h1]at h2;have h3:=congrArg sg h2;rw[iW (OG hy),iW (OG hx)]at h3;exact h3
def cancel{a b c:Int}(hc:0<c)(h:a*c=b*c):a=b:=Qh (N9 hc) h
def pE{a b c:Int}(hc:0<c)(h:a*c<=b*c):a<=b:=Int.le_of_mul_le_mul_right h hc
def mr{a b c:Int}(hc:0<c)(h:a*c<b*c):a<b:=Int.lt_of_mul_lt_mul_right h (Oj hc)
def BM{l1 l2 h1 h2 r1 r2 x1 x2 pc pl:Int}(hr:0<r2)(er:r1*(h2*l2)=(h1*l2-l1*h2)*r2)(e:x1*(l2*r2*pc)=(l1*r2*pc+r1*l2*pl)*x2):x1*(l2*h2*pc)=(l1*h2*pc+(h1*l2-l1*h2)*pl)*x2:=by
 refine cancel hr ?_
 calc x1*(l2*h2*pc)*r2=(x1*(l2*r2*pc))*h2:=by grind
  _=(l1*r2*pc+r1*l2*pl)*x2*h2:=by rw[e]
  _=(l1*h2*pc*r2+(r1*(h2*l2))*pl)*x2:=by grind
  _=(l1*h2*pc*r2+((h1*l2-l1*h2)*r2)*pl)*x2:=by rw[er]
  _=(l1*h2*pc+(h1*l2-l1*h2)*pl)*x2*r2:=by grind
def zr{l1 l2 h1 h2 w1 w2 x1 x2 y1 y2 pc pl:Int}(hl:0<l2)(hh:0<h2)(hx:0<x2)(hy:0<y2)(hpc:0<pc)(hp0:0<=pl)(hp1:pl+1<=pc)(hD:0<h1*l2-l1*h2)(ex:x1*(l2*h2*pc)=(l1*h2*pc+(h1*l2-l1*h2)*pl)*x2)(ey:y1*(l2*h2*pc)=(l1*h2*pc+(h1*l2-l1*h2)*(pl+1))*y2)(fit:(h1*l2-l1*h2)*w2<=w1*(h2*l2)*pc):x1*y2<y1*x2/\l1*x2<=x1*l2/\y1*h2<=h1*y2/\(y1*x2-x1*y2)*w2<=w1*(x2*y2):=by
 have hlh:0<l2*h2:=NH hl hh;have hM:0<l2*h2*pc:=NH hlh hpc;have hxy:0<x2*y2:=NH hx hy
 have hd:(y1*x2-x1*y2)*(l2*h2*pc)=(h1*l2-l1*h2)*(x2*y2):=by
  calc (y1*x2-x1*y2)*(l2*h2*pc)=(y1*(l2*h2*pc))*x2-(x1*(l2*h2*pc))*y2:=by grind
   _=((l1*h2*pc+(h1*l2-l1*h2)*(pl+1))*y2)*x2-((l1*h2*pc+(h1*l2-l1*h2)*pl)*x2)*y2:=by rw[ex,ey]
   _=(h1*l2-l1*h2)*(x2*y2):=by grind
 have hi:y1*h2<=h1*y2:=by
  refine pE (c:=l2*pc) (NH hl hpc) ?_;have e1:y1*h2*(l2*pc)=y1*(l2*h2*pc):=by grind
  have e2:h1*y2*(l2*pc)=(l1*h2*pc+(h1*l2-l1*h2)*pc)*y2:=by grind
  rw[e1,ey,e2];refine PL ?_ (Oj hy);have:=Int.mul_le_mul_of_nonneg_left hp1 (Oj hD);omega
 generalize h1*l2-l1*h2=D at *
 refine⟨?_,?_,hi,?_⟩
 ·have h3:0<(y1*x2-x1*y2)*(l2*h2*pc):=by rw[hd];exact NH hD hxy
  have h4:0<y1*x2-x1*y2:=mr hM (by rw[Ov];exact h3);omega
 ·refine pE (c:=h2*pc) (NH hh hpc) ?_;have e1:x1*l2*(h2*pc)=x1*(l2*h2*pc):=by grind
  have e2:l1*x2*(h2*pc)=l1*h2*pc*x2:=by grind
  rw[e1,ex,e2,Int.add_mul];have:0<=D*pl*x2:=Int.mul_nonneg (Int.mul_nonneg (Oj hD) hp0) (Oj hx);omega
 ·refine pE hM ?_;have e1:(y1*x2-x1*y2)*w2*(l2*h2*pc)=((y1*x2-x1*y2)*(l2*h2*pc))*w2:=by grind
  have e2:w1*(x2*y2)*(l2*h2*pc)=w1*(h2*l2)*pc*(x2*y2):=by grind
  have e3:D*(x2*y2)*w2=D*w2*(x2*y2):=by grind
  rw[e1,hd,e2,e3];exact PL fit (Oj hxy)
def mR(C:Addr):Sp:=λvs H Q _=>∃(a l h wd:Addr) (ns:Ex) (l1 l2 h1 h2 w1 w2:Int) (k kw:Nat) (ε:Int) (Up:Int->Int->Prop),vs=[.ref a,.ref l,.ref h,.ref wd]/\H a=some (.lst (ns.map V.int))/\Tr ns/\ns≠[]/\ns.length<=12/\AllB 1000 ns/\RA C H l l1 l2/\RA C H h h1 h2/\RA C H wd w1 w2/\EndsG k l1 l2 h1 h2/\0<w1/\0<w2/\Bits kw w1/\Bits kw w2/\k<=1400/\2*k+kw<=3900/\5*k+kw<=8900/\RootU ns l1 l2 h1 h2 ε Up /\
 ∀(p x y:Addr) (H':Hp) (n pl:Nat) (x1 x2 y1 y2:Int),Same H H'->H p=none->H' p=some (.tup [.ref x,.ref y])->RA C H' x x1 x2->RA C H' y y1 y2->NarP l1 l2 h1 h2 w1 w2 Up (5*k+kw+4) n pl x1 x2 y1 y2->Q (.ref p) H'
def Gu(F:Fun K "narrowed" "narrowed" rH f fd)(T:Txt K mg)(R:RCI K mg C)(iq:MCal P w K mg base 4 C "minus" ["self","other"] (jN C) oX oS)(Lu:Cal P w K mg base 1 "halvings" ["reach","width"] (xq C) M0 Mh)(Lv:Cal P w K mg base 3 "halved" ["row","end","steps"] xt M5 Mi)(K9:Cal P w K mg base 3 "stretched" ["row","low","reach"] (wO C) MF LU)(fg:Cal P w K mg base 2 "sign_at" ["row","ratio"] (iy C) kt ko)(Cb:Cal P w K mg base 5 "along" ["low","reach","place","pieces"] (xC C) Nb Mp):FnOk P w K mg base aG 6 f fd ["row","low","high","width"] (mR C):=by
 obtain⟨gP,gI,gO⟩:=iq;refine F.ok nk (λvs H Q E h=>?_) (λ_ A _ s H vs Q E hr h=>?_)
 ·obtain⟨a,l,h,wd,ns,l1,l2,h1,h2,w1,w2,k,kw,ε,Up,rfl,_⟩:=h;rfl
 ·obtain⟨a,l,h,wd,ns,l1,l2,h1,h2,w1,w2,kb,kw,ε,Up,rfl,hA,hT,hne,hln,hbn,hl,hh,hw,en,hw1,hw2,bw1,bw2,hk1,hk2,hk3,hU,k⟩:=h
  refine⟨_,(ah (ap 4 nk (cN (pv 2) R.cl gI gP (hr.mono) gO .nil aR (aa (pv 1) ae)))
   (ah (ap 5 nk (am Lu hr (aa (pv 4) (aa (pv 3) ae))))
   (ah (aT (aN cI (pv 5) af)
     (ak (az (fN (aa (pv 1) (aa (pv 2) ae)))))
     aV)
   (ah (ap 6 nk (am Lv hr (aa (am K9 hr (aa (pv 0) (aa (pv 1) (aa (pv 4) ae)))) (aa (am fg hr (aa (pv 0) (aa (pv 2) ae))) (aa (pv 5) ae)))))
   (ak (az (fN (aa (am Cb hr (aa (pv 1) (aa (pv 4) (aa (aZ K (pv 6) af) (aa (aZ K (pv 6) af) ae))))) (aa (am Cb hr (aa (pv 1) (aa (pv 4) (aa (av cJ (aZ K (pv 6) af) af) (aa (aZ K (pv 6) af) ae))))) ae))))))))),?_⟩
  obtain⟨dl,hl'⟩:=id hl;obtain⟨dh,hh'⟩:=id hh;obtain⟨l2p,h2p,bl1,bl2,bh1,bh2,lt,_,_⟩:=id en;refine aA ⟨_,rfl,h,dh,_,rfl,hh',cB fQ.1 fQ.2,_,rfl,h,l,h1,h2,l1,l2,kb,kb,rfl,hh,hl,bh1.mono (by omega),bh2,bl1.mono (by omega),bl2,by omega,h2p,l2p,λr H1 s1 fr hr1=>?_⟩;have d0:h2*l2≠0:=N9 (NH h2p l2p);have er:=d9 (t:=h1*l2-l1*h2) d0;have r2p:0<rb (h1*l2-l1*h2) (h2*l2):=cG d0;have br1:Bits (2*kb+1) (rt (h1*l2-l1*h2) (h2*l2)):=dm d0 (Bits.sub ((bh1.mul bl2).mono (by omega)) ((bl1.mul bh2).mono (by omega)));have br2:Bits (2*kb+1) (rb (h1*l2-l1*h2) (h2*l2)):=dA d0 ((bh2.mul bl2).mono (by omega));generalize rt (h1*l2-l1*h2) (h2*l2)=r1 at *
  generalize rb (h1*l2-l1*h2) (h2*l2)=r2 at *
  have hD:0<h1*l2-l1*h2:=by omega
  have hhl:0<h2*l2:=NH h2p l2p;have r1p:0<r1:=mr hhl (by rw[Ov,er];exact NH hD r2p);have hA1:=s1 _ _ hA;have hl1:=hl.same s1;have hh1:=hh.same s1;refine aA ⟨_,rfl,_,rfl,r,wd,r1,r2,w1,w2,2*kb+1,kw,rfl,hr1,hw.same s1,r2p,hw1,br1,br2.mono (by omega),bw1.mono (by omega),bw2,by omega,λn hn hle hmin=>?_⟩
  have fit:(h1*l2-l1*h2)*w2<=w1*(h2*l2)*2^n:=by
   refine pE r2p ?_
   calc (h1*l2-l1*h2)*w2*r2=((h1*l2-l1*h2)*r2)*w2:=by grind
    _=r1*(h2*l2)*w2:=by rw[er]
    _=r1*w2*(h2*l2):=by grind
    _<=w1*r2*2^n*(h2*l2):=PL hle (Oj hhl)
    _=w1*(h2*l2)*2^n*r2:=by grind
  have bigg:∀j:Nat,j<n->w1*(h2*l2)*2^j<(h1*l2-l1*h2)*w2:=λj hj=>by
   refine mr r2p ?_
   calc w1*(h2*l2)*2^j*r2=w1*r2*2^j*(h2*l2):=by grind
    _<r1*w2*(h2*l2):=Int.mul_lt_mul_of_pos_right (hmin j hj) hhl
    _=r1*(h2*l2)*w2:=by grind
    _=(h1*l2-l1*h2)*r2*w2:=by rw[er]
    _=(h1*l2-l1*h2)*w2*r2:=by grind
  refine bV ⟨_,rfl,(au ⟨_,rfl,aQ (λh0=>?_) (λ_=>?_)⟩)⟩
  ·obtain rfl:n=0:=by have:(n:Int)=0:=h0;omega
   refine aY ⟨_,rfl,_,rfl,by show 2<=sizeLine;decide,λp hp=>?_⟩;have sp:=Same.upd_new (o:=.tup [V.ref l,V.ref h]) hp;have ex:l1*(l2*h2*2^0)=(l1*h2*2^0+(h1*l2-l1*h2)*((0:Nat):Int))*l2:=by rw[On];show _=(_+_*0)*_;grind
   have ey:h1*(l2*h2*2^0)=(l1*h2*2^0+(h1*l2-l1*h2)*(((0:Nat):Int)+1))*h2:=by rw[On];show _=(_+_*(0+1))*_;grind
   have nf:=zr (w1:=w1) (w2:=w2) (pc:=2^0) l2p h2p l2p h2p (j9 0) (OO 0) (by decide) hD ex ey fit;exact k p l h _ 0 0 l1 l2 h1 h2 (s1.then_new hp) (s1.free hp) ax (hl1.same sp) (hh1.same sp) ⟨en.mono (by omega),hU.low,hU.top,OO _,OO _,nf.2.2.2,by decide,ex,ey,bigg,fit⟩
  refine aA ⟨_,rfl,_,rfl,_,rfl,a,l,r,ns,l1,l2,r1,r2,rfl,hA1,hl1,hr1,hT,hne,hln,hbn,l2p,r1p,r2p,bl1.mono hk1,bl2.mono hk1,br1.mono (by omega),br2.mono (by omega),λm s0 s1' pm e0 e1 hs1 bS p2 H2 s2 hp2 eq2=>?_⟩;have t2:=s1.trans s2;refine⟨_,rfl,_,rfl,a,h,ns,h1,h2,⟨rfl,t2 _ _ hA,hh.same t2,by omega,hbn.mono,bh1.mono (by omega),bh2.mono (by omega)⟩,λH3 s3=>?_⟩;have t3:=t2.trans s3;have lp:0<l2*r2:=NH l2p r2p
  have top:(s0+s1')*h2=h1*m:=by
   refine cancel lp ?_
   calc (s0+s1')*h2*(l2*r2)=((s0*l2)*r2+(s1'*r2)*l2)*h2:=by grind
    _=(l1*m*r2+r1*m*l2)*h2:=by rw[e0,e1]
    _=m*(l1*r2*h2+r1*(h2*l2)):=by grind
    _=m*(l1*r2*h2+(h1*l2-l1*h2)*r2):=by rw[er]
    _=h1*m*(l2*r2):=by grind
  have pt:∀p c:Int,0<p->p<=c->0<m*c/\l1*(m*c)<(s0*c+s1'*p)*l2/\(s0*c+s1'*p)*h2<=h1*(m*c):=λp c hp hc=>by
   refine⟨NH pm (by omega),?_,?_⟩
   ·have:(s0*c+s1'*p)*l2=l1*(m*c)+s1'*p*l2:=by
     calc (s0*c+s1'*p)*l2=(s0*l2)*c+s1'*p*l2:=by grind
      _=l1*m*c+s1'*p*l2:=by rw[e0]
      _=l1*(m*c)+s1'*p*l2:=by grind
    rw[this];have:=NH (NH hs1 hp) l2p;omega
   ·have h3:s1'*p<=s1'*c:=Int.mul_le_mul_of_nonneg_left hc (Oj hs1);have h4:(s0*c+s1'*p)*h2<=(s0*c+s1'*c)*h2:=PL (by omega) (Oj h2p)
    have h5:(s0*c+s1'*c)*h2=h1*(m*c):=by
     calc (s0*c+s1'*c)*h2=((s0+s1')*h2)*c:=by grind
      _=h1*m*c:=by rw[top]
      _=h1*(m*c):=by grind
    omega
  have vs:∀p c:Int,sg (hv p c (cp m s0 s1' ns))=sg (hv (s0*c+s1'*p) (m*c) ns):=λp c=>by rw[<- Aq,iW pm]
  have hB:RootB (cp m s0 s1' ns) ε (λp c=>Up (s0*c+s1'*p) (m*c)):=by
   refine⟨hU.e1,λp c hp hc hu=>?_,λp c hp hc hu=>?_,λp c p' c' hp hc hp' hc' hu hlt=>?_,λp c hc=>?_,λhu=>?_⟩
   ·rw[vs];obtain⟨q1,q2,q3⟩:=pt p c hp hc;exact hU.r1 _ _ q1 q2 q3 hu
   ·rw[vs];obtain⟨q1,q2,q3⟩:=pt p c hp hc;exact hU.r2 _ _ q1 q2 q3 hu
   ·rw[vs];obtain⟨q1,q2,q3⟩:=pt p c hp hc;obtain⟨q1',q2',q3'⟩:=pt p' c' hp' hc';refine hU.r3 _ _ _ _ q1 q1' q2 q3' hu ?_;have h3:s1'*m*(p*c')<s1'*m*(p'*c):=Int.mul_lt_mul_of_pos_left hlt (NH hs1 pm);have e3:(s0*c+s1'*p)*(m*c')=s0*c*(m*c')+s1'*m*(p*c'):=by grind
    have e4:(s0*c'+s1'*p')*(m*c)=s0*c*(m*c')+s1'*m*(p'*c):=by grind
    omega
   ·have g1:0<m*c:=NH pm hc;have g2:0<m*(2*c):=NH pm (by omega);constructor
    ·exact hU.sc _ _ _ _ g2 g1 (by grind)
    ·exact hU.sc _ _ _ _ g1 g2 (by grind)
   ·refine hU.top (hU.sc _ _ _ _ (by rw[Oc];exact pm) h2p ?_ hu);rw[Oc,Oc,Oc];exact top
  have lstr:=jJ m s0 s1' ns;have hn1:1<=ns.length:=Nz.mpr hne;refine⟨_,rfl,p2,cp m s0 s1' ns,_,n,ε,_,rfl,s3 _ _ eq2,by omega,by omega,bS,by omega,hB,?_,λp4 H4 pl s4 hp4 e4 hpl hup hnup=>?_⟩
  ·rw[vs];refine DK h2p (by rw[Oc];exact pm) ?_ ns;rw[Oc,Oc,Oc];exact top.symm
  have t4:=t3.trans s4;have u4:=(s2.trans s3).trans s4;have b2n:Bits (n+1) ((2:Int)^n):=lC (by omega);have cpl:(pl:Int)<2^n:=by rw[jc];exact Pu.mpr hpl
  have bpl:Bits (n+1) (pl:Int):=b2n.of_le (by rw[jc];omega);have bpl1:Bits (n+1) ((pl:Int)+1):=b2n.of_le (by rw[jc];omega);have p2n:=j9 n;refine aY ⟨_,rfl,_,rfl,(fj (SqT.of e4) rfl rfl (fj (SqT.of e4) rfl rfl ⟨l,r,l1,l2,r1,r2,pl,2^n,kb,2*kb+1,n+1,rfl,hl.same t4,hr1.same u4,l2p,r2p,p2n,bl1,bl2,br1,br2,bpl,b2n,by omega,λx H5 x1 x2 s5 hx hRx x2p ex bx1 bx2 gx=>?_⟩))⟩;have e5:=s5 _ _ e4;have t5:=t4.trans s5;have u5:=u4.trans s5;refine⟨_,rfl,_,rfl,(fj (SqT.of e5) rfl rfl (au (fj (SqT.of e5) rfl rfl ⟨l,r,l1,l2,r1,r2,pl+1,2^n,kb,2*kb+1,n+1,rfl,hl.same t5,hr1.same u5,l2p,r2p,p2n,bl1,bl2,br1,br2,bpl1,b2n,by omega,λy H6 y1 y2 s6 hy hRy y2p ey by1 by2 gy=>?_⟩)))⟩;refine⟨by show 2<=sizeLine;decide,λp hp=>?_⟩;have sp:=Same.upd_new (o:=.tup [V.ref x,V.ref y]) hp;have t6:=t5.trans s6;have ex':=BM r2p er ex;have ey':=BM r2p er ey;have nf:=zr (w1:=w1) (w2:=w2) l2p h2p x2p y2p p2n (show(0:Int)<=(pl:Int) by omega) (by omega) hD ex' ey' fit
  have cross:∀(q z1 z2:Int),z1*(l2*r2*2^n)=(l1*r2*2^n+r1*l2*q)*z2->(s0*2^n+s1'*q)*z2=z1*(m*2^n):=λq z1 z2 ez=>by
   refine cancel lp ?_
   calc (s0*2^n+s1'*q)*z2*(l2*r2)=((s0*l2)*r2*2^n+(s1'*r2)*l2*q)*z2:=by grind
    _=(l1*m*r2*2^n+r1*m*l2*q)*z2:=by rw[e0,e1]
    _=m*((l1*r2*2^n+r1*l2*q)*z2):=by grind
    _=m*(z1*(l2*r2*2^n)):=by rw[ez]
    _=z1*(m*2^n)*(l2*r2):=by grind
  have hm2:0<m*2^n:=NH pm p2n;refine k p x y _ n pl x1 x2 y1 y2 (t6.then_new hp) (t6.free hp) ax ((hRx.same s6).same sp) (hRy.same sp) ⟨⟨x2p,y2p,bx1.mono (by omega),bx2.mono (by omega),by1.mono (by omega),by2.mono (by omega),nf.1,gx,gy⟩,?_,?_,nf.2.1,nf.2.2.1,nf.2.2.2,hpl,ex',ey',bigg,fit⟩
  ·rcases hup with z |z
   ·refine hU.sc _ _ _ _ l2p x2p ?_ hU.low;rw[z]at ex';refine cancel (NH h2p p2n) ?_
    calc l1*x2*(h2*2^n)=(l1*h2*2^n+(h1*l2-l1*h2)*((0:Nat):Int))*x2:=by show _=(_+_*0)*_;grind
     _=x1*(l2*h2*2^n):=ex'.symm
     _=x1*l2*(h2*2^n):=by grind
   ·exact hU.sc _ _ _ _ hm2 x2p (cross _ _ _ ex) z
  ·intro hu;exact hnup (hU.sc _ _ _ _ y2p hm2 (cross _ _ _ ey).symm hu)
structure NCI(K:PySem.W.Frag)(mg:Str->Option Value)(CN:Addr):Prop where
 cl:Cls K CN
 nP:NoAttr K CN "poly"
 nL:NoAttr K CN "low"
 nH:NoAttr K CN "high"
 mg:mg "Number"=some (.ref CN)
 ha:PySem.W.findIn K (.ref CN) "__class__"=some (some (.builtin "object.__class__"))
 hn:PySem.W.specialIn K (.builtin "object.__class__") "__get__"=some (some (.builtin "getset_descriptor.__get__"))
 ht:PySem.W.takesIn K (.builtin "object.__class__")=some true
 hm:PySem.W.mroIn K CN (.type "object")=some true
def iM(p l h:Addr):List (Str×V):=cW "high" (.ref h) (cW "low" (.ref l) (cW "poly" (.ref p) []))
def Fq:¬(("poly":Str)="high"):=by decide +kernel
def Fl:¬(("poly":Str)="low"):=by decide +kernel
def Ih:¬(("low":Str)="high"):=by decide +kernel
def eH{p l h:Addr}:(iM p l h).lookup ("high":Str)=some (.ref h):=by unfold iM;rw[fA,if_pos rfl]
def fV{p l h:Addr}:(iM p l h).lookup ("low":Str)=some (.ref l):=by unfold iM;rw[fA,if_neg Ih,fA,if_pos rfl]
def eX{p l h:Addr}:(iM p l h).lookup ("poly":Str)=some (.ref p):=by unfold iM;rw[fA,if_neg Fq,fA,if_neg Fl,fA,if_pos rfl]
def NA(CN:Addr)(H:Hp)(x p l h:Addr):Prop:=∃dx,H x=some (.ins CN dx (iM p l h))
def NA.same{CN:Addr}{H H':Hp}{x p l h:Addr}(n:NA CN H x p l h)(s:Same H H'):NA CN H' x p l h:=let⟨dx,e⟩:=n;⟨dx,s _ _ e⟩
def iz(CN:Addr):Sp:=λvs H Q _=>∃(x dx r l h:Addr) (ns:List V),vs=[.ref x,.ref r,.ref l,.ref h]/\H x=some (.ins CN dx [])/\H r=some (.lst ns)/\∀p,H p=none->Q .non (upd (upd H p (.lst ns)) x (.ins CN dx (iM p l h)))
def He(F:Fun K "__init__" "Number.__init__" sT f fd)(T:Txt K mg)(RN:NCI K mg CN):FnOk P w K mg base aG 1 f fd ["self","row","low","high"] (iz CN):=by
 refine F.ok En (λvs H Q E h=>?_) (λ_ A _ s H vs Q E hr h=>?_)
 ·obtain⟨x,dx,r,l,h,ns,rfl,_⟩:=h;rfl
 ·obtain⟨x,dx,r,l,h,ns,rfl,hx,hR,k⟩:=h
  refine⟨_,(ah (lB (pv 0) (lD (vc (K:=K) rfl) (by rfl) T.list_ PyProof.Rows.boot_list (aa (pv 1) ae)) rfl)
   (ah (lB (pv 0) (pv 2) rfl)
   (ak (lB (pv 0) (pv 3) rfl)))),?_⟩
  refine⟨_,rfl,r,_,rfl,.inl (SqL.of hR),λp hp=>?_⟩;have npx:x≠p:=bn hx hp;refine⟨_,rfl,x,CN,dx,_,rfl,by rw[upd_ne npx];exact hx,RN.cl,RN.nP,by show 0<1000;decide,?_⟩;refine⟨_,rfl,_,rfl,x,CN,dx,_,rfl,ax,RN.cl,RN.nL,by show 1<1000;decide,?_⟩;refine⟨_,rfl,_,rfl,x,CN,dx,_,rfl,ax,RN.cl,RN.nH,by show 2<1000;decide,?_⟩;show Q .non (upd (upd (upd (upd H p _) x _) x _) x _);rw[mI,mI];exact k p hp
def wY:Sp:=λvs H Q _=>∃(a:Addr) (ns:Ex),vs=[.ref a]/\H a=some (.lst (ns.map V.int))/\ns.length<=1000/\AllB 300 ns/\∀H',Same H H'->Q .non H'
def Kw:Bits 399 (10^60*10^60)/\(2:Int)^300<=10^60*10^60:=by
 constructor
 ·show((10:Int)^60*10^60).natAbs<2^399;decide +kernel
 ·decide +kernel
def Gk(F:Fun K "refuse_great" "refuse_great" rz f fd)(T:Txt K mg):FnOk P w K mg base aG 1 f fd ["row"] wY:=by
 refine F.ok x9 (λvs H Q E h=>?_) (λ_ A _ s H vs Q E hr h=>?_)
 ·obtain⟨a,ns,rfl,_⟩:=h;rfl
 ·obtain⟨a,ns,rfl,hA,hl,hb,k⟩:=h;have big:=sizeLine_eq
  refine⟨_,(ah (ap 1 x9 (av aS (av tU af af) (av tU af af)))
   (ak (aT (Fa (dS (Kq (K:=K) rfl rfl) (by rfl) T.any_ PyProof.Rows.boot_any (aa (eT (own:=["value"]) (fr:=["limit"]) (js:=[1]) (by walk_at "comp_ok") rfl (gF (K:=K) rfl (pv 0)) (λ_ _ _ _=>(df (i:=0) (show List.Nodup (["value","limit"]:List Str)from by decide +kernel) rfl (Or.inl rfl))) (λ_ _ _ _=>(ke ze (dS kB (by rfl) T.abs_ PyProof.Rows.boot_abs (aa (pv 0) ae)) (pv 1)))) ae)) (by intro _;rfl))
     (ak jb)
     aV))),?_⟩
  have b6:Bits 1000000 ((10:Int)^60):=b60.mono;refine aA ⟨_,_,rfl,rfl,⟨by decide,by decide,by decide⟩,_,_,rfl,rfl,⟨by decide,by decide,by decide⟩,_,_,rfl,rfl,⟨b6,b6⟩,?_⟩;refine j2 ⟨_,rfl,a,rfl,⟨_,SqL.of hA⟩,jt (K:=K) (a:=a) (xs:=ns.map V.int) (λi ys Q2 H'=>∃(z0:Option V) (bs:List Bool),Q2=[z0,some (.int (10^60*10^60))]/\ys=bs.map V.bl/\bs.length=i/\(∀x∈bs,x=false)/\H=H') (by rw[No];omega) ⟨none,[],rfl,rfl,rfl,(λ_ h=>nomatch h),rfl⟩ ?_ ?_ ?_⟩
  ·rintro i ys Q2 H' _ ⟨z0,bs,rfl,rfl,rfl,_,rfl⟩;exact⟨SqL.of hA,by rw[No];exact Nv _⟩
  ·rintro i x ys Q2 H' hi ⟨z0,bs,rfl,rfl,rfl,hbs,rfl⟩;obtain⟨c,_,rfl,hc,_⟩:=iK hi;refine⟨_,rfl,_,rfl,_,rfl,_,_,rfl,rfl,?_⟩;refine⟨_,bs++[false],rfl,?_,by rw[Nq];rfl,λx hx=>?_,rfl⟩
   ·have hlt:¬((if c<0 then -c else c)≥10^60*10^60):=by
     have h1:c.natAbs<2^300:=hb c hc;have h2:=Kw.2;have h3:((2^300:Nat):Int)=(2:Int)^300:=by rw[P4];rfl
     have h4:(c.natAbs:Int)<(2:Int)^300:=by rw[<- h3];exact Pu.mpr h1
     generalize (2:Int)^300=X at h2 h4
     generalize (10:Int)^60*10^60=Y at h2 ⊢
     split<;>omega
    rw[NI];show _++[V.bl (decide _)]=_;rw[decide_eq_false hlt];rfl
   ·rcases NT.mp hx with h |h
    ·exact hbs x h
    ·exact NU.mp h
  rintro ys Q2 H' p ⟨z0,bs,rfl,rfl,hbl,hbs,rfl⟩ hp;refine⟨p,bs,rfl,SqL.of ax,?_⟩
  have e:bs.any id=false:=by rw[List.any_eq_false];intro x hx;rw[hbs x hx];decide
  rw[e];refine⟨_,rfl,f9 ?_⟩;exact k _ (Same.upd_new hp)
theorem o6{xs ys:Ex}{x y:Nat}(hx:AllB x xs)(hy:AllB y ys):∀i,AllB (x+i*(y+1)) (aU xs ys i).1/\AllB (x+i*(y+1)) (aU xs ys i).2
 |0=>by rw[Nat.zero_mul];exact⟨AllB.zeros,hx⟩
 |i+1=>by
  obtain⟨h1,h2⟩:=o6 hx hy i;have e:x+(i+1)*(y+1)=x+i*(y+1)+y+1:=by rw[Pz];omega
  have hs:Bits y (((RM.cf ys (ys.length-1)).natAbs:Nat):Int):=vn (hy.cf _);rw[e];show AllB _ (dD ys (aU xs ys i) _).1/\AllB _ (dD ys (aU xs ys i) _).2;unfold dD;dsimp only
  constructor
  ·intro v hv;rcases Qj hv with h |rfl
   ·obtain⟨u,hu,rfl⟩:=NF.mp h;exact(hs.mul (h1 u hu)).mono (by omega)
   ·exact(kX (h2.cf _)).mono (by omega)
  ·refine AllB.of_cf λn=>?_
   rw[pA];by_cases hn:n<(aE (((RM.cf ys (ys.length-1)).natAbs:Nat):Int) (aU xs ys i).2).length-1
   ·rw[if_pos hn,aK]
    have m1:Bits (x+i*(y+1)+y) ((((RM.cf ys (ys.length-1)).natAbs:Nat):Int)*RM.cf (aU xs ys i).2 n):=by have:=hs.mul (h2.cf n);rwa [OY]at this
    refine m1.sub ?_;by_cases hp:(xs.length+1-ys.length-1-i)<=n
    ·rw[if_pos hp];exact(kX (h2.cf _)).mul (hy.cf _)
    ·rw[if_neg hp];exact Bits.zero
   ·rw[if_neg hn];exact Bits.zero
def jP{n:Nat}{l:Ex}(h:AllB n l):AllB n (aj l):=by
 intro y hy;obtain⟨x,hx,rfl⟩:=NF.mp hy;obtain⟨d,hd⟩:=km hx;by_cases hg:(aC l:Int)=0
 ·rw[hg,Int.ediv_zero];exact Bits.zero
 ·have e:x/(aC l:Int)=d:=by rw[hd];exact Int.mul_ediv_cancel_left d hg
  rw[e];refine(h x hx).of_le ?_;rw[hd,N4];exact O0 _ (OK.mpr hg)
def qE(l:Ex):(aj l).length=l.length:=No _
def yo(n:Nat)(o:Ex):Run n [] o:=by cases n with |zero=>rfl |succ n=>exact .inl rfl
def AV(n:Nat)(o:Ex):RM.Ends n [] o:=by cases n with |zero=>rfl |succ n=>exact .inl rfl
def gr8:gr 540 6=91260:=by decide
def Okr(xs:Ex):Prop:=Tr xs/\AllB 91260 xs/\xs.length<=7
theorem yn:∀(n:Nat) (one other:Ex) (x y s:Nat),one.length=s+1->s<=6->other.length<=s->s<n->Tr one->Tr other->AllB x one->AllB y other->x+1<=gr 540 (6-s)->y+1<=gr 540 (6-s+1)->Run n one other/\RM.Ends n one other/\∀xs∈bj n one other,Okr xs
 |0,one,other,x,y,s,_,_,_,h,_,_,_,_,_,_=>absurd h (Pq _)
 |m+1,one,other,x,y,s,hl,hs8,hol,hsm,t1,t2,b1,b2,g1,g2=>by
  have hne:one≠[]:=λz=>by rw[z]at hl;simp at hl
  have m1:gr 540 (6-s)<=91260:=by rw[<- gr8];exact gk 540 (by omega)
  have bo1:AllB 91260 one:=b1.mono (by omega)
  have bo2:AllB 91260 other:=by
   by_cases ho:other=[]
   ·rw[ho];exact AllB.nil
   ·have:=Nz.mpr ho;have m2:gr 540 (6-s+1)<=91260:=by rw[<- gr8];exact gk 540 (by omega)
    exact b2.mono (by omega)
  have fit:Fit one other:=⟨t1,t2,91260,bo1,bo2,by rw[hl];omega,by omega⟩
  have eS:bj (m+1) one other=one::bj m other (aJ one other):=by show(if one=[]then[]else one::bj m other (aJ one other))=_;rw[if_neg hne]
  have ok1:Okr one:=⟨t1,bo1,by omega⟩;by_cases ho:other=[]
  ·subst ho;refine⟨.inr ⟨fit,yo _ _⟩,.inr (AV _ _),λxs hx=>?_⟩;rw[eS,k8]at hx;rw[NU.mp hx];exact ok1
  ·have hop:=Nz.mpr ho;obtain⟨d,hd⟩:∃d,other.length=d+1:=⟨other.length-1,by omega⟩;have hN:aW one other=(s-d-1)+2:=by unfold aW;omega
   have e6:6-s+2+(s-d-1)=6-d+1:=by omega
   have rb:AllB (x+aW one other*(y+1)) (aO one other):=((o6 b1 b2 (aW one other)).2).trim
   have nb:AllB (x+aW one other*(y+1)) (aJ one other):=by
    unfold aJ rst;rw[if_neg ho,kR (fW _ _)];refine jP λv hv=>?_
    obtain⟨u,hu,rfl⟩:=NF.mp hv;have:=(rb u hu).neg
    rwa [show -1*u = -u by omega]
   have nl:(aJ one other).length<=d:=by unfold aJ rst;rw[if_neg ho,kR (fW _ _),qE,dk];have:=gs (a:=one) ho;omega
   have nt:Tr (aJ one other):=f8 (fH _);have jump:=uC 540 (6-s) (s-d-1);rw[e6]at jump;have mm:=OS (s-d-1+2) g2;obtain⟨r1,r2,r3⟩:=yn m other (aJ one other) y (x+aW one other*(y+1)) d hd (by omega) nl (by omega) t2 nt b2 nb (NP g2 (gk 540 (by omega))) (by rw[hN];omega);refine⟨.inr ⟨fit,r1⟩,.inr r2,λxs hx=>?_⟩;rw[eS]at hx;rcases NR.mp hx with rfl |hx
   ·exact ok1
   ·exact r3 xs hx
theorem k9:∀(n:Nat) (one other:Ex),(bj n one other).length<=n
 |0,_,_=>Nv _
 |n+1,one,other=>by
  show(if one=[]then[]else one::bj n other (aJ one other)).length<=n+1;split
  ·exact Nw _
  ·have:=k9 n other (aJ one other);rw[Ny];omega
def qD{n:Nat}{xs:Ex}(h:AllB n xs)(hl:xs.length<=9):AllB (n+4) (slopeL xs):=by intro x hx;obtain⟨k,hk,rfl⟩:=NF.mp hx;have hk':k<xs.length-1:=Oz.mp hk;have b1:Bits 4 ((k:Int)+1):=Ou (show((k:Int)+1).natAbs<=8 by omega) (by decide);exact(b1.mul (h.cf (k+1))).mono (by omega)
def Dn(xs:Ex):(slopeL xs).length=xs.length-1:=by unfold slopeL;rw[No,OJ]
def yq{kps:Ex}(ktr:Tr kps)(kb:AllB 530 kps)(kl:kps.length<=7):Run 9 (aj kps) (aj (slopeL kps))/\RM.Ends 9 (aj kps) (aj (slopeL kps))/\∀xs∈bj 9 (aj kps) (aj (slopeL kps)),Okr xs:=by
 by_cases h0:kps=[]
 ·subst h0
  exact⟨yo _ _,AV _ _,λxs hx=>by
   have e:aj []=[]:=rfl;rw[e,k8]at hx
   exact nomatch hx⟩
 ·have hl:=Nz.mpr h0;obtain⟨s,hs⟩:∃s,kps.length=s+1:=⟨kps.length-1,by omega⟩;refine yn 9 (aj kps) (aj (slopeL kps)) 530 534 s (by rw[qE,hs]) (by omega) (by rw[qE,Dn,hs];omega) (by omega) (f8 ktr) (f8 (wg ktr)) (jP kb) (jP (qD kb (by omega))) ?_ ?_
  ·exact NP (show 531<=gr 540 0 by decide) (gk 540 (Nw _))
  ·exact NP (show 535<=gr 540 1 by decide) (gk 540 (by omega))
def jd{n:Nat}{l:Ex}(h:AllB n l):AllB n (aq l):=by
 unfold aq cS;split
 ·intro y hy;obtain⟨x,hx,rfl⟩:=NF.mp hy;exact(jP h x hx).neg
 ·exact jP h
def gr6:gr 644 6=108836:=by decide
theorem yp:∀(n:Nat) (one other:Ex) (x y s:Nat),one.length=s+1->s<=6->other.length<=s->s<n->Tr one->Tr other->AllB x one->AllB y other->x+1<=gr 644 (6-s)->y+1<=gr 644 (6-s+1)->kD n one other
 |0,one,other,x,y,s,_,_,_,h,_,_,_,_,_,_=>absurd h (Pq _)
 |m+1,one,other,x,y,s,hl,hs8,hol,hsm,t1,t2,b1,b2,g1,g2=>by
  have m1:gr 644 (6-s)<=108836:=by rw[<- gr6];exact gk 644 (by omega)
  by_cases ho:other=[]
  ·exact .inl ho
  have hop:=Nz.mpr ho;have m2:gr 644 (6-s+1)<=108836:=by rw[<- gr6];exact gk 644 (by omega)
  have fit:vy one other:=⟨t1,t2,108836,b1.mono (by omega),b2.mono (by omega),by rw[hl];omega,by omega⟩;obtain⟨d,hd⟩:∃d,other.length=d+1:=⟨other.length-1,by omega⟩;have hN:aW one other=(s-d-1)+2:=by unfold aW;omega
  have e6:6-s+2+(s-d-1)=6-d+1:=by omega
  have rb:AllB (x+aW one other*(y+1)) (aO one other):=((o6 b1 b2 (aW one other)).2).trim;have jump:=uC 644 (6-s) (s-d-1);rw[e6]at jump;have mm:=OS (s-d-1+2) g2;have nl:=gs (a:=one) ho;exact .inr ⟨fit,yp m other (aq (aO one other)) y (x+aW one other*(y+1)) d hd (by omega) (by rw[RM.plain_len];omega) (by omega) t2 (ix (fW _ _)) b2 (jd rb) (NP g2 (gk 644 (by omega))) (by rw[hN];omega)⟩
def Et{one other:Ex}(h1:one.length<=7)(h2:other.length<=7)(t1:Tr one)(t2:Tr other)(b1:AllB 160 one)(b2:AllB 160 other):kD 20 one other:=by
 by_cases ho:other=[]
 ·exact .inl ho
 have hop:=Nz.mpr ho;obtain⟨s,hs⟩:∃s,other.length=s+1:=⟨other.length-1,by omega⟩;have rb:AllB (160+aW one other*(160+1)) (aO one other):=((o6 b1 b2 (aW one other)).2).trim;have hN:aW one other<=7:=by unfold aW;omega
 have nl:=gs (a:=one) ho;have g0:gr 644 0<=gr 644 (6-s):=gk 644 (by omega);have g1:gr 644 1<=gr 644 (6-s+1):=gk 644 (by omega);have e0:gr 644 0=644:=rfl;have e1:gr 644 1=1288:=rfl;exact .inr ⟨⟨t1,t2,160,b1,b2,by omega,by omega⟩,yp 19 other (aq (aO one other)) 160 (160+aW one other*(160+1)) s hs (by omega) (by rw[RM.plain_len];omega) (by omega) t2 (ix (fW _ _)) b2 (jd rb) (by omega) (by omega)⟩
def zy{a b:Ex}(ha:Tr a)(hb:Tr b):ag a b=ag b a:=kx (fI ha hb) (fI hb ha) λk=>by rw[ay,ay,eD]
def wX:Sp:=λvs H Q _=>∃i:Int,vs=[.int i]/\i<=8/\Q .non H
def Gj(F:Fun K "refuse_high" "refuse_high" rq f fd)(T:Txt K mg):FnOk P w K mg base aG 1 f fd ["height"] wX:=by
 obtain⟨tH,hHIGHEST⟩:=T.HIGHEST_;refine F.ok D3 (λvs H Q E h=>?_) (λ_ A _ s H vs Q E hr h=>?_)
 ·obtain⟨i,rfl,_⟩:=h;rfl
 ·obtain⟨i,rfl,hi,k⟩:=h
  refine⟨_,(ak (aT (aN fP (pv 0) (om (v:=.int 8) rfl hHIGHEST ⟨_,rfl⟩))
   (ak jb)
   aV)),?_⟩
  refine j2 ⟨_,rfl,_,_,rfl,rfl,_,rfl,aQ (λh=>absurd (show i>8 from h) (by omega)) (λ_=>?_)⟩;exact k
structure Drw(F:Ex):Prop where
 tr:Tr F
 l2:2<=F.length
 l5:F.length<=5
 hgt:∀c∈F,-1000000<=c/\c<=1000000
def Drw.ne{F:Ex}(h:Drw F):F≠[]:=λz=>by have:=h.l2;rw[z]at this;simp at this
def Drw.bits{F:Ex}(h:Drw F):AllB 20 F:=λx hx=>by have:=h.hgt x hx;show x.natAbs<1048576;omega
def Dp{F:Ex}(h:Drw F):AllB 23 (slopeL F):=λx hx=>by
 obtain⟨n,hn,rfl⟩:=g8 hx;have l:=fB F;rw[cu];have h5:=h.l5
 have b:(cf F (n+1)).natAbs<=1000000:=by have:=h.hgt (cf F (n+1)) (by rw[cU (by omega)];exact OI _);omega
 have b4:((n:Int)+1).natAbs<=4:=by omega
 show(((n:Int)+1)*cf F (n+1)).natAbs<8388608;rw[N4];have:=PK b4 b;omega
def wM:Sp:=λvs H Q _=>∃(a:Addr) (F:Ex),vs=[.ref a]/\H a=some (.lst (F.map V.int))/\Drw F/\∀G,FlatOf F G->mkL H Q G
def FM(F:Fun K "without_squares" "without_squares" qO f fd)(T:Txt K mg)(Lh:Cal P w K mg base 35 "part" ["row","divisor"] wZ MP L6)(LA:Cal P w K mg base 35 "common" ["first","second"] xA Na Mo)(mE:Cal P w K mg base 1 "slope" ["row"] (sp1 slopeL) AN AH):FnOk P w K mg base aG 36 f fd ["row"] wM:=by
 refine F.ok DQ (λvs H Q E h=>?_) (λ_ A _ s H vs Q E hr h=>?_)
 ·obtain⟨a,F,rfl,_⟩:=h;rfl
 ·obtain⟨a,kp,rfl,hA,hD,k⟩:=h;have hu:=hr.units;have tW:=hD.tr;have nW:=hD.ne;have bW:=hD.bits;have l2:=hD.l2;have l5:=hD.l5;have lS:=fB kp
  refine⟨_,(ah (aT (aN (jh (K:=K) rfl hu) (pv 0) (cg ae))
   (ak (az (cg ae)))
   aV)
   (ak (az (am Lh hr (aa (pv 0) (aa (am LA hr (aa (pv 0) (aa (am mE hr (aa (pv 0) ae)) ae))) ae)))))),?_⟩
  refine bV ⟨_,rfl,Nw _,λp0 hp0=>?_⟩;have s0:Same H (upd H p0 (.lst [])):=Same.upd_new hp0;refine⟨a,p0,kp,[],rfl,rfl,SqL.of (s0 _ _ hA),SqL.of ax,_,rfl,aQ (λh0=>absurd h0 nW) (λ_=>?_)⟩;generalize upd H p0 (.lst [])=H0 at s0 ⊢
  have hA0:=s0 _ _ hA;refine aY ⟨_,rfl,_,rfl,_,rfl,a,kp,rfl,hA0,by omega,bW.mono,λp1 H1 s1 hp1 e1=>?_⟩;have t1:=s0.trans s1;have tS:=jH tW;refine⟨a,p1,kp,slopeL kp,20,rfl,t1 _ _ hA,e1,tW,tS,by omega,by omega,Et (by rw[RM.plain_len];omega) (by rw[RM.plain_len];omega) (ix tW) (ix tS) ((jd bW).mono) ((jd (Dp hD)).mono),λp2 H2 s2 hp2 e2=>?_⟩;have nS:slopeL kp≠[]:=λz=>by rw[z]at lS;simp at lS;omega
  have pS:=cX tS nS;have pF:=cX tW nW;obtain⟨tO,dO1,dO2,hall,nO,more⟩:=Bm 20 (aq kp) (aq (slopeL kp)) (by rw[RM.plain_len];omega) (ix tW) (ix tS);generalize c7 20 (aq kp) (aq (slopeL kp))=O at e2 tO dO1 dO2 hall nO more
  have pO:Pln O:=by
   rcases more with e |e |⟨l,tl,e⟩
   ·rw[e];exact pF
   ·rw[e];exact pS
   ·rw[e];exact cX tl λz=>nO (.inl pF.ne) (by rw[e,z];rfl)
  have d1:Dv O kp:=(Dv.plain tW).mp dO1;have d2:Dv O (slopeL kp):=(Dv.plain tS).mp dO2;obtain⟨r1,r2⟩:=Jl tW nW tO pO.ne d1 d2 λx h1 h2=>hall x ((Dv.plain tW).mpr h1) ((Dv.plain tS).mpr h2)
  have t2:=t1.trans s2
  have bO:AllB 100 O:=λx hx=>by obtain⟨n,hn,rfl⟩:=g8 hx;exact Ou (JZ pO tW nW l5 hD.hgt d1 n) (by decide)
  have lO:O.length<=5:=by obtain⟨u,pu,eu⟩:=d1.fellow pO tW nW;have h1:=bK pu.ne pO.ne;have h2:=Nz.mpr pu.ne;rw[eu,RM.plain_len]at h1;omega
  refine⟨a,p2,kp,O,100,rfl,t2 _ _ hA,e2,tW,tO,bW.mono,bO,by have:(kp.length+2)*(100+1)<=7*101:=O2 _ (by omega);omega,by omega,pO.ne,r1,λp3 H3 s3 hp3 e3=>?_⟩;exact k _ r2 p3 H3 (t2.trans s3) (t2.free hp3) e3
def A5(t:Int):dv t 1=1:=by unfold dv;rw[if_neg (by decide)];show((Nat.gcd t.natAbs 1:Nat):Int)=1;rw[Nat.gcd_one_right];rfl
def sZ{Q:Hp->Prop}{H1 H2:Hp}(e:H1=H2)(h:Q H2):Q H1:=by rw[e];exact h
def cO{k:Nat}(h:1<=k):Bits k (1:Int):=Bits.mono (j:=1) (by show(1:Int).natAbs<2^1;decide) h
def gT(t:Int):rt t 1=t:=by have h:=jZ (t:=t) (b:=1) (by decide);rw[A5,NM]at h;exact h
def gW(t:Int):rb t 1=1:=by have h:=i7 (t:=t) (b:=1) (by decide);rw[A5,NM]at h;exact h
def xk(C:Addr):Sp:=λvs H Q _=>∃(p q:Addr) (t b u d:Int),vs=[.ref p,.ref q]/\RA C H p t b/\RA C H q u d/\Bits 900 t/\Bits 900 b/\Bits 900 u/\Bits 900 d/\0<b/\0<d/\mkR C H Q (t*d+u*b) (2*b*d)
def Gy(F:Fun K "middle" "middle" rM f fd)(T:Txt K mg)(R:RCI K mg C)(b9:KCal P w K mg base 2 C "Ratio" ["self","top","bottom"] (c9 C) eJ eI eM [.int 1]):FnOk P w K mg base aG 4 f fd ["low","high"] (xk C):=by
 obtain⟨bJ,bI,bC,cC,cM,cL⟩:=b9;refine F.ok D4 (λvs H Q E h=>?_) (λ_ A _ s H vs Q E hr h=>?_)
 ·obtain⟨p,q,t,b,u,d,rfl,_⟩:=h;rfl
 ·obtain⟨p,q,t,b,u,d,rfl,⟨dx,hp⟩,⟨dy,hq⟩,bt,bb,bu,bd,hb,hd,k⟩:=h;have b2:Bits 2 (2:Int):=by show(2:Int).natAbs<2^2;decide
  have b2b:Bits 902 (2*b):=b2.mul bb |>.mono
  refine⟨_,(ak (az (cD bI bJ (hr.mono) rfl bC cC .nil aR (aa (av cJ (av aS (aB (K:=K) rfl (pv 0) rfl) (aB (K:=K) rfl (pv 1) rfl)) (av aS (aB (K:=K) rfl (pv 1) rfl) (aB (K:=K) rfl (pv 0) rfl))) (aa (av aS (av aS af (aB (K:=K) rfl (pv 0) rfl)) (aB (K:=K) rfl (pv 1) rfl)) ae))))),?_⟩;refine⟨_,rfl,p,C,dx,_,_,rfl,hp,R.cl,R.nT,cK,_,rfl,q,C,dy,_,_,rfl,hq,R.cl,R.nB,bX,(au ⟨⟨bt.mono,bd.mono⟩,?_⟩)⟩;refine⟨_,rfl,q,C,dy,_,_,rfl,hq,R.cl,R.nT,cK,_,rfl,p,C,dx,_,_,rfl,hp,R.cl,R.nB,bX,(au ⟨⟨bu.mono,bb.mono⟩,(au ?_)⟩)⟩;refine⟨_,rfl,p,C,dx,_,_,rfl,hp,R.cl,R.nB,bX,(au ⟨⟨b2.mono,bb.mono⟩,_,rfl,q,C,dy,_,_,rfl,hq,R.cl,R.nB,bX,(au ⟨⟨b2b.mono,bd.mono⟩,?_⟩)⟩)⟩;exact cZ (N9 (NH (by omega) hd)) ((b2b.mul bd).mono) k
def oF{os:Ex}{l j k:Nat}(h1:isB os l j)(h2:isB os l k):j=k:=by
 rcases Nat.lt_trichotomy j k with z |z |z
 ·obtain⟨x,hx,h⟩:=h2.2 j z;have:=h1.1 x hx;omega
 ·exact z
 ·obtain⟨x,hx,h⟩:=h1.2 k z;have:=h2.1 x hx;omega
def NL(H H':Hp):Prop:=∀c o,H c=some o->(∀xs,o≠.lst xs)->H' c=some o
def NL.of{H H':Hp}(s:Same H H'):NL H H':=λc o e _=>s c o e
def NL.upd{H:Hp}{p:Addr}{xs:List V}{o:HO}(hp:H p=some (.lst xs)):NL H (upd H p o):=λc o' e hn=>by
 have:c≠p:=λz=>by rw[z,hp]at e;exact hn xs (Option.some.inj e).symm
 rw[upd_ne this];exact e
def NL.trans{H1 H2 H3:Hp}(a:NL H1 H2)(b:NL H2 H3):NL H1 H3:=λc o e hn=>b c o (a c o e hn) hn
def RA.nl{C:Addr}{H H':Hp}{p:Addr}{t b:Int}(h:RA C H p t b)(s:NL H H'):RA C H' p t b:=let⟨dx,e⟩:=h;⟨dx,s _ _ e (λ_=>by simp)⟩
def ac(l1 l2:Int):Rat:=(l1:Rat)/(l2:Rat)
structure Cel where
 q:Addr
 lo:Addr
 hi:Addr
 l1:Int
 l2:Int
 h1:Int
 h2:Int
 d:Nat
def VV(kp:Ex)(t n:Int):Int:=(chS (sgs t n (cQ kp))).1
def Cel.a(x:Cel):Rat:=ac x.l1 x.l2
def Cel.b(x:Cel):Rat:=ac x.h1 x.h2
def Cel.cn(x:Cel)(kp:Ex):Int:=vw kp x.a-vw kp x.b
def kC{kp:Ex}{t n:Int}(hn:0<n):VV kp t n=vw kp (ac t n):=by unfold VV ac;rw[Bs];exact Ch hn
def Par(_:Ex)(_:Int)(_:Nat)(_ _ _ _:Int):Prop:=True
structure WtH(C:Addr)(H:Hp)(kp:Ex)(kb:Nat)(x:Cel):Prop where
 tup:H x.q=some (.tup [.ref x.lo,.ref x.hi,.int (VV kp x.l1 x.l2),.int (VV kp x.h1 x.h2)])
 lo:RA C H x.lo x.l1 x.l2
 hi:RA C H x.hi x.h1 x.h2
 dy:Dya (2^kb) x.d x.l1 x.l2 x.h1 x.h2
 dd:x.d<=420
 par:Par kp (2^kb) x.d x.l1 x.l2 x.h1 x.h2
def WtH.nl{C:Addr}{H H':Hp}{kp:Ex}{kb:Nat}{x:Cel}(h:WtH C H kp kb x)(s:NL H H'):WtH C H' kp kb x:=⟨s _ _ h.tup (λ_=>by simp),h.lo.nl s,h.hi.nl s,h.dy,h.dd,h.par⟩
structure FdH(C:Addr)(H:Hp)(kp:Ex)(kb:Nat)(x:Cel):Prop where
 tup:H x.q=some (.tup [.ref x.lo,.ref x.hi])
 lo:RA C H x.lo x.l1 x.l2
 hi:RA C H x.hi x.h1 x.h2
 dy:Dya (2^kb) x.d x.l1 x.l2 x.h1 x.h2
 dd:x.d<=420
 par:Par kp (2^kb) x.d x.l1 x.l2 x.h1 x.h2
 one:x.cn kp=1
def FdH.nl{C:Addr}{H H':Hp}{kp:Ex}{kb:Nat}{x:Cel}(h:FdH C H kp kb x)(s:NL H H'):FdH C H' kp kb x:=⟨s _ _ h.tup (λ_=>by simp),h.lo.nl s,h.hi.nl s,h.dy,h.dd,h.par,h.one⟩
def oZ{kb d:Nat}{l1 l2 h1 h2:Int}(h:Dya (2^kb) d l1 l2 h1 h2)(hk:kb<=24)(hd:d<=420):Bits 710 l1/\Bits 710 l2/\Bits 710 h1/\Bits 710 h2:=by obtain⟨⟨a,b⟩,c,e⟩:=h.bits;have hp:2^(kb+d)<2^710:=(PR (by decide)).mpr (by omega);exact⟨Ou a hp,Ou b hp,Ou c hp,Ou e hp⟩
structure Wk(kp:Ex):Prop where
 tr:Tr kp
 l2:2<=kp.length
 l7:kp.length<=7
 bits:AllB 530 kp
 few:∀kb,isB (kp.take (kp.length-1)) (ao kp).natAbs kb->kb<=24/\Few6 kp kb
def tot(kp:Ex)(ws:List Cel):Int:=(ws.map λx=>x.cn kp).sum
def p8(kp:Ex)(ws:List Cel)(x:Cel):tot kp (ws++[x])=tot kp ws+x.cn kp:=by unfold tot;rw[NI,PC];simp
def gn{kb d:Nat}{l1 l2 h1 h2:Int}(h:Dya (2^kb) d l1 l2 h1 h2):ac l1 l2<ac h1 h2:=(nK h.l2p h.h2p).mpr (h.lt (OG (by decide)))
def jm{t n:Int}(hn:0<n):ac t n*(n:Rat)=(t:Rat):=Nx (O4 (NJ.mpr hn))
def gQ(k:Nat):(((2:Int)^k:Int):Rat)=2^k:=PZ 2 k
def uW{kp:Ex}{kb:Nat}(F:Few6 kp kb){x:Cel}(h:Dya (2^kb) x.d x.l1 x.l2 x.h1 x.h2):0<=x.cn kp:=by have:=F.mono _ _ (gn h);unfold Cel.cn Cel.a Cel.b;omega
def eE{t n t' n':Int}(hn:0<n)(hn':0<n')(e:t*n'=t'*n):ac t n=ac t' n':=by
 have p:(0:Rat)<(n:Rat):=NJ.mpr hn;have p':(0:Rat)<(n':Rat):=NJ.mpr hn';have a:=jm (t:=t) hn;have b:=jm (t:=t') hn';have e':(t:Rat)*(n':Rat)=(t':Rat)*(n:Rat):=by rw[<- NC,<- NC,e]
 rw[<- a,<- b]at e';generalize ac t n=u at *
 generalize ac t' n'=v at *
 have q:=NV p p';have:((n:Rat)*(n':Rat))*(u-v)=0:=by grind
 rcases Oo.mp this with z |z
 ·grind
 ·grind
def jo{kb d:Nat}{l1 l2 h1 h2:Int}(h:Dya (2^kb) d l1 l2 h1 h2) : -(2^kb)<=ac l1 l2/\ac h1 h2<=2^kb/\(ac h1 h2-ac l1 l2)*2^d=2*2^kb:=by
 obtain⟨l2p,h2p,gl,gh,m,m0,m1,e1,e2⟩:=h;have D0:(0:Int)<2^d:=OG (by decide);rw[eE l2p D0 e1,eE h2p D0 e2];have q1:=jm (t:=2*m*2^kb-2^kb*2^d) D0;have q2:=jm (t:=2*(m+1)*2^kb-2^kb*2^d) D0;have D0':(0:Rat)<2^d:=OC (by decide);have B0':(0:Rat)<2^kb:=OC (by decide);have m0':(0:Rat)<=(m:Rat):=OL.mpr m0
 have m1':(m:Rat)+1<=2^d:=by have:=OL.mpr m1;rw[Pk,gQ]at this;exact this
 rw[Pt,NC,NC,NC,gQ,gQ]at q1 q2;rw[Pk]at q2;have c1:((1:Int):Rat)=1:=rfl;have c2:((2:Int):Rat)=2:=rfl;rw[c2]at q1 q2;rw[c1]at q2;generalize ac (2*m*2^kb-2^kb*2^d) (2^d)=u at *
 generalize ac (2*(m+1)*2^kb-2^kb*2^d) (2^d)=v at *
 generalize (2:Rat)^d=D at *
 generalize (2:Rat)^kb=B at *
 generalize (m:Rat)=n at *
 have r1:=ND m0' (Np B0');have r2:=Oh m1' (Np B0');refine⟨Oi.mp λz=>?_,Oi.mp λz=>?_,by grind⟩
 ·have:=OW z D0';grind
 ·have:=OW z D0';grind
def Kf{kp:Ex}{kb:Nat}(F:Few6 kp kb){x:Cel}(h:Dya (2^kb) x.d x.l1 x.l2 x.h1 x.h2)(hd:420<=x.d):x.cn kp<=1:=by
 obtain⟨a,b,c⟩:=jo h;have l:=(gn h)
 have:=F.few _ _ l a b (by
  have u:=jF hd;have q:=NE u (show 0<=ac x.h1 x.h2-ac x.l1 x.l2 by grind)
  grind)
 unfold Cel.cn Cel.a Cel.b;omega
def FD{kp:Ex}{kb d:Nat}{l1 l2 h1 h2 c1 c2:Int}(_:Dya (2^kb) d l1 l2 h1 h2)(_:2<=vw kp (ac l1 l2)-vw kp (ac h1 h2)):Par kp (2^kb) (d+1) l1 l2 c1 c2/\Par kp (2^kb) (d+1) c1 c2 h1 h2:=⟨trivial,trivial⟩
def wgt(kp:Ex)(kb:Nat)(x:Cel):Nat:=1+2*((x.cn kp).toNat*(420-x.d))
def gv(kp:Ex)(kb:Nat)(ws:List Cel):Nat:=(ws.map (wgt kp kb)).sum
def jD(kp:Ex)(kb:Nat)(ws:List Cel)(x:Cel):gv kp kb (ws++[x])=gv kp kb ws+wgt kp kb x:=by unfold gv;rw[NI,PC];simp
theorem pW(kp:Ex)(kb:Nat):∀ws:List Cel,ws.length<=gv kp kb ws
 | []=>Nv _
 |x::ws=>by have:=pW kp kb ws;show ws.length+1<=wgt kp kb x+gv kp kb ws;unfold wgt;omega
def qs(ws:List Cel):List V:=ws.map λx=>V.ref x.q
def nY(ws:List Cel)(x:Cel):qs (ws++[x])=qs ws++[V.ref x.q]:=by unfold qs;rw[NI];rfl
def fe(xs:List Cel):Prop:=xs.Pairwise λx y=>x.b<=y.a
def EB{ys B:List Cel}{x:Cel}(h:fe (ys++x::B)):fe (ys++B):=List.Pairwise.sublist (List.Sublist.append_left (List.sublist_cons_self _ _) _) h
def EA{ys B:List Cel}{x x':Cel}(h1:x.a=x'.a)(h2:x.b=x'.b)(h:fe (ys++x::B)):fe (ys++x'::B):=by
 obtain⟨a,b,c⟩:=Qf.mp h;obtain⟨b1,b2⟩:=Pc.mp b;refine Qf.mpr ⟨a,Pc.mpr ⟨λz hz=>by rw[<- h2];exact b1 z hz,b2⟩,λy hy z hz=>?_⟩;rcases NR.mp hz with e |e
 ·rw[e,<- h1];exact c y hy x (NK ..)
 ·exact c y hy z (NB _ e)
def EC{ys B:List Cel}{x l r:Cel}(h1:l.a=x.a)(h2:l.b=r.a)(h3:r.b=x.b)(h4:l.a<=l.b)(h5:r.a<=r.b)(h:fe (ys++x::B)):fe (ys++l::r::B):=by
 obtain⟨a,b,c⟩:=Qf.mp h;obtain⟨b1,b2⟩:=Pc.mp b;refine Qf.mpr ⟨a,Pc.mpr ⟨λz hz=>?_,Pc.mpr ⟨λz hz=>by rw[h3];exact b1 z hz,b2⟩⟩,λy hy z hz=>?_⟩
 ·rcases NR.mp hz with e |e
  ·rw[e,h2];exact Nt
  ·rw[h2];exact NZ h5 (by rw[h3];exact b1 z e)
 ·have hx:=c y hy x (NK ..);rcases NR.mp hz with e |e
  ·rw[e,h1];exact hx
  rcases NR.mp e with e |e
  ·rw[e,<- h2];exact NZ hx (by rw[<- h1];exact h4)
  ·exact c y hy z (NB _ e)
def qz(C:Addr):Sp:=λvs H Q _=>(∃(a:Addr) (kp:Ex),vs=[.ref a]/\H a=some (.lst (kp.map V.int))/\Wk kp /\
 ∀(kb:Nat) (p:Addr) (ys:List Cel) (H':Hp),isB (kp.take (kp.length-1)) (ao kp).natAbs kb->Same H H'->H p=none->H' p=some (.lst (qs ys))->(∀y∈ys,FdH C H' kp kb y)->(ys.length:Int)=vw kp (ac (-(2^kb)) 1)-vw kp (ac (2^kb) 1)->ys.length<=12000->fe ys->Q (.ref p) H')\/(∃(a:Addr) (ns:Ex),vs=[.ref a]/\H a=some (.lst (ns.map V.int))/\ns.length<=1/\mkL H Q [])
def GS(F:Fun K "cells" "cells" sr f fd)(T:Txt K mg)(R:RCI K mg C)(d6:Cal P w K mg base 1 "degree" ["row"] iA ku kq)(vH:Cal P w K mg base 35 "row_of" ["polynomial"] qp JL Ju)(b9:KCal P w K mg base 2 C "Ratio" ["self","top","bottom"] (c9 C) eJ eI eM [.int 1])(pQ:Cal P w K mg base 1 "bound" ["row"] (qA K) JT JC)(kI:Cal P w K mg base 3 "changes" ["row","ratio"] (qy C) JR JA)(Ln:Cal P w K mg base 4 "middle" ["low","high"] (xk C) MV Mc):FnOk P w K mg base aG 36 f fd ["row"] (qz C):=by
 obtain⟨bJ,bI,bC,cC,cM,cL⟩:=b9;refine F.ok gA (λvs H Q E h=>?_) (λ_ A _ s H vs Q E hr h=>?_)
 ·rcases h with⟨a,kp,rfl,_⟩ |⟨a,ns,rfl,_⟩<;>rfl
 ·obtain⟨a,rfl⟩:∃a,vs=[.ref a]:=by rcases h with⟨a,kp,rfl,_⟩ |⟨a,ns,rfl,_⟩<;>exact⟨_,rfl⟩
  have big:=sizeLine_eq
  refine⟨_,(ah (aT (aN fO (am d6 hr (aa (pv 0) ae)) af)
   (ak (az (cg ae)))
   aV)
   (ah (ap 1 gA (am vH hr (aa (pv 0) ae)))
   (ah (ap 2 gA (cD bI bJ (hr.mono) rfl bC cM cL aR (aa (am pQ hr (aa (pv 0) ae)) ae)))
   (ah (ap 3 gA (cD bI bJ (hr.mono) rfl bC cM cL aR (aa (cq ck (am pQ hr (aa (pv 0) ae))) ae)))
   (ah (ap 4 gA (cg (aa (fN (aa (pv 3) (aa (pv 2) (aa (am kI hr (aa (pv 1) (aa (pv 3) ae))) (aa (am kI hr (aa (pv 1) (aa (pv 2) ae))) ae))))) ae)))
   (ah (ap 5 gA (cg ae))
   (ah (gY PassesOwn.never (aN fP (dg K T.len_ (aa (pv 4) ae)) af)
     (ah (ap 6 gA (y9 PySem.F.plainAttrs_list PySem.F.slot_list_pop PySem.F.type_list_pop HD (pv 4)))
       (ah (ap 7 gA (av di (aZ K (pv 6) af) (aZ K (pv 6) af)))
       (ah (aT (aN cI (pv 7) af)
         (ak (iE (lE (pv 5) (aa (fN (aa (aZ K (pv 6) af) (aa (aZ K (pv 6) af) ae))) ae))))
         aV)
       (ak (aT (aN fP (pv 7) af)
         (ah (ap 8 gA (am Ln hr (aa (aZ K (pv 6) af) (aa (aZ K (pv 6) af) ae))))
           (ah (ap 9 gA (am kI hr (aa (pv 1) (aa (pv 8) ae))))
           (ah (iE (lE (pv 4) (aa (fN (aa (pv 8) (aa (aZ K (pv 6) af) (aa (pv 9) (aa (aZ K (pv 6) af) ae))))) ae)))
           (ak (iE (lE (pv 4) (aa (fN (aa (aZ K (pv 6) af) (aa (pv 8) (aa (aZ K (pv 6) af) (aa (pv 9) ae))))) ae)))))))
         aV))))))
   (ak (az (pv 5)))))))))),?_⟩
  rcases h with⟨a',kp,ea,hA,hW,k⟩ |⟨a',ns,ea,hA,hl1,k⟩
  rotate_left
  ·cases ea;refine bV ⟨_,rfl,a,_,rfl,hA,_,_,rfl,rfl,_,rfl,aQ (λ_=>?_) (λh0=>absurd (show((ns.map V.int).length:Int)-1<1 by rw[No];omega) h0)⟩;exact aY ⟨Nw _,λp hp=>k p _ (Same.upd_new hp) hp ax⟩
  cases ea;have hF:=hW.tr;have l7:=hW.l7;have l2':=hW.l2;have hne:kp≠[]:=λz=>by rw[z]at l2';simp at l2'
  have hml:(kp.map V.int).length=kp.length:=No _
  obtain⟨rn,rx,rl⟩:Run 9 (aj kp) (aj (slopeL kp))/\(∀xs∈cQ kp,xs.length<=20/\AllB 95000 xs)/\(cQ kp).length<=9:=by obtain⟨r1,_,r3⟩:=yq hF hW.bits l7;refine⟨r1,λxs hx=>?_,k9 9 _ _⟩;obtain⟨_,b,l⟩:=r3 xs hx;exact⟨by omega,b.mono⟩
  have vl:=pY rl;have rl:(cQ kp).length<=1000000:=by omega
  refine bV ⟨_,rfl,a,_,rfl,hA,_,_,rfl,rfl,_,rfl,aQ (λh0=>absurd (show((kp.map V.int).length:Int)-1<1 from h0) (by rw[hml];omega)) (λ_=>?_)⟩;refine aA ⟨_,rfl,a,kp,9,rfl,hA,hF,hW.bits.mono,by omega,by decide,rn,λpc ps H1 s1 hpc hnew ec hR=>?_⟩;have hR':RwH H1 ps (cQ kp):=hR;refine aA ⟨_,rfl,a,kp,rfl,SqL.of (s1 _ _ hA),hF,hne,by omega,hW.bits.mono,λkb H2 hkb hB s2=>cZ (t:=((2^kb:Nat):Int)) (b:=1) (by decide) (cO (by decide)) λph H3 s3 hph hRh=>?_⟩;rw[gT,gW]at hRh;have t3:=(s1.trans s2).trans s3;refine aA ⟨_,rfl,a,kp,rfl,SqL.of (t3 _ _ hA),hF,hne,by omega,hW.bits.mono,λkb' H4 hkb' hB' s4=>?_⟩;obtain rfl:=oF hB hB';refine⟨_,rfl,cZ (t := -((2^kb:Nat):Int)) (b:=1) (by decide) (cO (by decide)) λpl H5 s5 hpl hRl=>?_⟩;rw[gT,gW]at hRl;obtain⟨hk,hFew⟩:=hW.few kb hB;have eB:((2^kb:Nat):Int)=(2:Int)^kb:=by rw[P4];rfl
  rw[eB]at hRh hRl;have B0:(0:Int)<2^kb:=OG (by decide);have t5:=(t3.trans s4).trans s5;have u5:=(s2.trans s3).trans (s4.trans s5);have ec5:=u5 _ _ ec;have hR5:=hR'.same u5;have hRh5:=hRh.same (s4.trans s5);have dy0:Dya (2^kb) 0 (-(2^kb)) 1 (2^kb) 1:=Dya.start;obtain⟨b1,b2,b3,b4⟩:=oZ dy0 hk (by omega);refine aA ⟨_,rfl,_,rfl,_,rfl,_,rfl,pc,pl,ps,cQ kp,_,_,rfl,ec5,hR5,hRl,b1.mono,b2.mono,rx,rl,λH6 s6=>?_⟩;refine⟨_,rfl,_,rfl,pc,ph,ps,cQ kp,_,_,rfl,s6 _ _ ec5,hR5.same s6,hRh5.same s6,b3.mono,b4.mono,rx,rl,λH7 s7=>⟨by show 4<=sizeLine;omega,λq0 hq0=>⟨by show 1<=sizeLine;omega,λpw hpw=>?_⟩⟩⟩;have u7:=s6.trans s7;have ec7:=u7 _ _ ec5;have hR7:=hR5.same u7;have hRl7:=hRl.same u7;have hRh7:=hRh5.same u7;have t7:=t5.trans u7;have w7:Same H7 (upd H7 q0 (.tup [.ref pl,.ref ph,.int (VV kp (-(2^kb)) 1),.int (VV kp (2^kb) 1)])):=Same.upd_new hq0;have e8:upd H7 q0 (.tup [.ref pl,.ref ph,.int (VV kp (-(2^kb)) 1),.int (VV kp (2^kb) 1)]) q0=some (.tup [.ref pl,.ref ph,.int (VV kp (-(2^kb)) 1),.int (VV kp (2^kb) 1)]):=ax;have hpw':upd H7 q0 (.tup [.ref pl,.ref ph,.int (VV kp (-(2^kb)) 1),.int (VV kp (2^kb) 1)]) pw=none:=hpw;refine aA ⟨Nw _,λpf hpf=>?_⟩;have hpf':upd (upd H7 q0 (.tup [.ref pl,.ref ph,.int (VV kp (-(2^kb)) 1),.int (VV kp (2^kb) 1)])) pw (.lst [V.ref q0]) pf=none:=hpf;show d8 _ _ _ _ _;refine yD (λQ2 H'=>Q2=[some (.ref a),some (.ref pc),some (.ref ph),some (.ref pl),some (.ref pw),some (.ref pf),none,none,none,none]/\upd (upd (upd H7 q0 (.tup [.ref pl,.ref ph,.int (VV kp (-(2^kb)) 1),.int (VV kp (2^kb) 1)])) pw (.lst [V.ref q0])) pf (.lst [])=H') ⟨rfl,rfl⟩ ?_;rintro Q2 H10 ⟨rfl,eH10⟩;generalize upd H7 q0 (.tup [.ref pl,.ref ph,.int (VV kp (-(2^kb)) 1),.int (VV kp (2^kb) 1)])=H8 at w7 e8 hpw' hpf' eH10
  have sw:Same H8 (upd H8 pw (.lst [V.ref q0])):=Same.upd_new hpw';have sf:Same (upd H8 pw (.lst [V.ref q0])) H10:=by rw[<- eH10];exact Same.upd_new hpf'
  have s810:=sw.trans sf;have fw:H8 pw=none:=hpw';have ff:H8 pf=none:=sw.free hpf';have nwf:pw≠pf:=bn (ax (H:=H8) (o:=.lst [V.ref q0])) hpf';have ew10:H10 pw=some (.lst [V.ref q0]):=sf _ _ ax;have ef10:H10 pf=some (.lst []):=by rw[<- eH10];exact ax
  have x0w:WtH C H10 kp kb ⟨q0,pl,ph,-(2^kb),1,2^kb,1,0⟩:=⟨s810 _ _ e8,hRl7.same (w7.trans s810),hRh7.same (w7.trans s810),dy0,Nw _,trivial⟩;clear eH10 sw sf
  have hm0:gv kp kb [⟨q0,pl,ph,-(2^kb),1,2^kb,1,0⟩]<=11000:=by
   show wgt kp kb _+0<=11000;unfold wgt;have v1:=vl (Cel.mk q0 pl ph (-(2^kb)) 1 (2^kb) 1 0).a;have v2:=vl (Cel.mk q0 pl ph (-(2^kb)) 1 (2^kb) 1 0).b;have h2:(Cel.cn ⟨q0,pl,ph,-(2^kb),1,2^kb,1,0⟩ kp).toNat<=9:=by unfold Cel.cn;omega
   have h3:=PK h2 (show 420-0<=420 by omega);have h4:(420-(Cel.mk q0 pl ph (-(2^kb)) 1 (2^kb) 1 0).d)=420-0:=rfl;rw[h4];omega
  refine⟨λm Q2 H'=>∃(ws ys:List Cel) (z6 z7 z8 z9:Option V),m=gv kp kb ws/\Q2=[some (.ref a),some (.ref pc),some (.ref ph),some (.ref pl),some (.ref pw),some (.ref pf),z6,z7,z8,z9]/\Same H8 H'/\H' pw=some (.lst (qs ws))/\H' pf=some (.lst (qs ys))/\(∀x∈ws,WtH C H' kp kb x)/\(∀y∈ys,FdH C H' kp kb y)/\(ys.length:Int)+tot kp ws=vw kp (ac (-(2^kb)) 1)-vw kp (ac (2^kb) 1)/\ys.length+m<=11000/\fe (ys++ws.reverse),
   ⟨_,[⟨q0,pl,ph,-(2^kb),1,2^kb,1,0⟩],[],none,none,none,none,rfl,rfl,s810,ew10,ef10,λx hx=>by rw[NU.mp hx];exact x0w,(λy hy=>nomatch hy),(by show(0:Int)+((vw kp (ac (-(2^kb)) 1)-vw kp (ac (2^kb) 1))+0)=_;omega),by show 0+_<=_;omega,by show fe [_];exact List.pairwise_singleton _ _⟩,?_⟩
  clear hm0 x0w ew10 ef10 s810;rintro m Q2 H' ⟨ws,ys,z6,z7,z8,z9,rfl,rfl,sm,ew,ef,hws,hys,hcov,hlen,hri⟩;have hwl:=pW kp kb ws;have hql:(qs ws).length=ws.length:=No _;refine⟨_,rfl,pw,_,rfl,.inl (SqL.of ew),(au ⟨_,rfl,aQ (λhgt=>?_) (λhle=>?_)⟩)⟩
  rotate_left
  ·
   have h0:ws=[]:=OQ.mp (by have:¬((qs ws).length:Int)>0:=hle;rw[hql]at this;omega);subst h0;refine⟨_,rfl,k kb pf ys H' hB (t7.trans (w7.trans sm)) ((t7.trans w7).free ff) ef hys (by have:tot kp []=0:=rfl;omega) (by omega) (by rw[List.reverse_nil,Pe]at hri;exact hri)⟩
  ·have hnw:ws≠[]:=λz=>by rw[z]at hql;have:((qs ws).length:Int)>0:=hgt;rw[z]at this;exact absurd this (by decide)
   obtain⟨ws',x,rfl⟩:∃ws' x,ws=ws'++[x]:=⟨ws.dropLast,ws.getLast hnw,(List.dropLast_concat_getLast hnw).symm⟩;rw[jD]at hlen;rw[p8]at hcov
   replace hri:fe (ys++x::ws'.reverse):=by rw[PD]at hri;exact hri
   rw[nY]at ew;have hx:=hws x (by simp);have hw':∀y∈ws',WtH C H' kp kb y:=λy hy=>hws y (by simp[hy])
   clear hws hql hgt hnw;have hwl:=pW kp kb ws';refine⟨_,λ_ _ h=>h,?_⟩;rw[jD];refine aA ⟨_,rfl,.inl ⟨rfl,_,SqL.of ew⟩,pw,_,V.ref x.q,rfl,rfl,ew,by rw[Nq];simp,?_⟩;rw[List.dropLast_concat];have ew1:upd H' pw (.lst (qs ws')) pw=some (.lst (qs ws')):=ax;have ef1:upd H' pw (.lst (qs ws')) pf=some (.lst (qs ys)):=by rw[upd_ne (Ne.symm nwf)];exact ef
   have n1:NL H' (upd H' pw (.lst (qs ws'))):=NL.upd ew;have sm1:Same H8 (upd H' pw (.lst (qs ws'))):=fR sm fw;generalize upd H' pw (.lst (qs ws'))=K1 at ew1 ef1 n1 sm1 ⊢
   have hx1:=hx.nl n1;have hw1:∀y∈ws',WtH C K1 kp kb y:=λy hy=>(hw' y hy).nl n1
   have hy1:∀y∈ys,FdH C K1 kp kb y:=λy hy=>(hys y hy).nl n1
   clear hw' hys ew ef sm n1 hx;refine aA ⟨_,rfl,x.q,_,_,_,rfl,rfl,SqT.of hx1.tup,rfl,_,rfl,x.q,_,_,_,rfl,rfl,SqT.of hx1.tup,rfl,(au ?_)⟩;have ecn:VV kp x.l1 x.l2-VV kp x.h1 x.h2=x.cn kp:=by rw[kC hx1.dy.l2p,kC hx1.dy.h2p];rfl
   dsimp only
   rw[ecn];have cn0:0<=x.cn kp:=uW hFew hx1.dy;refine gU (λQ2 H'=>∃ys:List Cel,Q2=[some (.ref a),some (.ref pc),some (.ref ph),some (.ref pl),some (.ref pw),some (.ref pf),some (.ref x.q),some (.int (x.cn kp)),z8,z9]/\Same H8 H'/\H' pw=some (.lst (qs ws'))/\H' pf=some (.lst (qs ys))/\WtH C H' kp kb x/\(∀y∈ws',WtH C H' kp kb y)/\(∀y∈ys,FdH C H' kp kb y)/\(ys.length:Int)+(tot kp ws'+(if x.cn kp=1 then 0 else x.cn kp))=vw kp (ac (-(2^kb)) 1)-vw kp (ac (2^kb) 1)/\ys.length+gv kp kb ws'+(if x.cn kp=1 then 0 else wgt kp kb x)<=11000/\(x.cn kp≠1->fe (ys++x::ws'.reverse))/\fe (ys++ws'.reverse)) ?_ ?_
   case refine_2 =>
    intro rest;refine⟨_,rfl,(au ⟨_,rfl,aQ (λh1=>?_) (λh1=>?_)⟩)⟩
    ·have h1':x.cn kp=1:=h1;refine yE ⟨_,rfl,.inl ⟨rfl,_,SqL.of ef1⟩,_,rfl,x.q,_,_,_,rfl,rfl,SqT.of hx1.tup,rfl,_,rfl,x.q,_,_,_,rfl,rfl,SqT.of hx1.tup,rfl,by show 2<=sizeLine;omega,λp hp=>?_⟩;have s2:Same K1 (upd K1 p (.tup [V.ref x.lo,V.ref x.hi])):=Same.upd_new hp;have e2:upd K1 p (.tup [V.ref x.lo,V.ref x.hi]) p=some (.tup [V.ref x.lo,V.ref x.hi]):=ax;generalize upd K1 p (.tup [V.ref x.lo,V.ref x.hi])=K2 at s2 e2 ⊢
     have ef2:=s2 _ _ ef1;have hyl:(qs ys).length=ys.length:=No _;refine⟨pf,_,_,rfl,rfl,ef2,by rw[hyl];omega,?_⟩;have n3:NL K1 (upd K2 pf (.lst (qs ys++[V.ref p]))):=(NL.of s2).trans (NL.upd ef2);have n4:NL K2 (upd K2 pf (.lst (qs ys++[V.ref p]))):=NL.upd ef2;refine rest _ _ ⟨ys++[⟨p,x.lo,x.hi,x.l1,x.l2,x.h1,x.h2,x.d⟩],rfl,fR (sm1.trans s2) ff,by rw[upd_ne nwf];exact s2 _ _ ew1,by rw[ax,nY],hx1.nl n3,λy hy=>(hw1 y hy).nl n3,λy hy=>?_,by rw[if_pos h1',Nq];show((ys.length+1:Nat):Int)+_=_;omega,?_,λz=>absurd h1' z,?_⟩
     ·rcases NT.mp hy with z |z
      ·exact(hy1 y z).nl n3
      ·rw[NU.mp z];exact⟨n4 _ _ e2 (λ_=>by simp),hx1.lo.nl n3,hx1.hi.nl n3,hx1.dy,hx1.dd,hx1.par,h1'⟩
     ·rw[if_pos h1',Nq];show ys.length+1+_+0<=_;have:1<=wgt kp kb x:=by unfold wgt;omega
      omega
     ·rw[NY];exact EA (x:=x) rfl rfl hri
    ·have h1':¬x.cn kp=1:=h1;exact rest _ _ ⟨ys,rfl,sm1,ew1,ef1,hx1,hw1,hy1,by rw[if_neg h1'];omega,by rw[if_neg h1'];omega,λ_=>hri,EB hri⟩
   clear hcov hlen hri hy1 hw1 hx1 ef1 ew1 sm1 ys;rintro Q2 K3 ⟨ys,rfl,sm1,ew1,ef1,hx1,hw1,hy1,hcov,hlen,hri1,hri2⟩;refine⟨_,rfl,(au ⟨_,rfl,aQ (λh2=>?_) (λh2=>?_)⟩)⟩
   rotate_left
   ·
    have h2':¬x.cn kp>1:=h2;exact⟨gv kp kb ws',by unfold wgt;omega,ws',ys,_,_,_,_,rfl,rfl,sm1,ew1,ef1,hw1,hy1,by split at hcov<;>omega,by split at hlen<;>omega,hri2⟩
   have h2':x.cn kp>1:=h2;rw[if_neg (show ¬x.cn kp=1 by omega)]at hlen hcov
   have hdl:x.d<420:=Nat.not_le.mp λz=>by have:x.cn kp<=1:=Kf hFew hx1.dy z;omega
   obtain⟨c1,c2,c3,c4⟩:=oZ hx1.dy hk hx1.dd;refine aA ⟨_,rfl,x.q,_,_,_,rfl,rfl,SqT.of hx1.tup,rfl,_,rfl,x.q,_,_,_,rfl,rfl,SqT.of hx1.tup,rfl,x.lo,x.hi,_,_,_,_,rfl,hx1.lo,hx1.hi,c1.mono,c2.mono,c3.mono,c4.mono,hx1.dy.l2p,hx1.dy.h2p,λpm K4 s4 hpm hRm=>?_⟩;have n0:2*x.l2*x.h2≠0:=N9 (NH (by have:=hx1.dy.l2p;omega) hx1.dy.h2p);obtain⟨dl,dr⟩:=hx1.dy.half (cG n0) (gX n0) (d9 n0);obtain⟨pl',pr'⟩:=FD (c1:=rt (x.l1*x.h2+x.h1*x.l2) (2*x.l2*x.h2)) (c2:=rb (x.l1*x.h2+x.h1*x.l2) (2*x.l2*x.h2)) hx1.dy (show 2<=x.cn kp by omega);generalize rt (x.l1*x.h2+x.h1*x.l2) (2*x.l2*x.h2)=m1 at hRm dl dr pl' pr'
   generalize rb (x.l1*x.h2+x.h1*x.l2) (2*x.l2*x.h2)=m2 at hRm dl dr pl' pr'
   have hx4:=hx1.nl (NL.of s4);obtain⟨g1,g2,g3,g4⟩:=oZ dl hk (by omega);have sm4:=sm1.trans s4;refine aA ⟨_,rfl,_,rfl,pc,pm,ps,cQ kp,m1,m2,rfl,sm4 _ _ (w7 _ _ ec7),hR7.same (w7.trans sm4),hRm,g3.mono,g4.mono,rx,rl,λK5 s5=>?_⟩;have hx5:=hx4.nl (NL.of s5);have u5:=s4.trans s5;refine j1 ⟨_,rfl,.inl ⟨rfl,_,SqL.of (u5 _ _ ew1)⟩,_,rfl,_,rfl,x.q,_,_,_,rfl,rfl,SqT.of hx5.tup,rfl,_,rfl,_,rfl,x.q,_,_,_,rfl,rfl,SqT.of hx5.tup,rfl,by show 4<=sizeLine;omega,λq1 hq1=>?_⟩;have s6:Same K5 (upd K5 q1 (.tup [V.ref pm,V.ref x.hi,V.int (VV kp m1 m2),V.int (VV kp x.h1 x.h2)])):=Same.upd_new hq1;have e6:upd K5 q1 (.tup [V.ref pm,V.ref x.hi,V.int (VV kp m1 m2),V.int (VV kp x.h1 x.h2)]) q1=some (.tup [V.ref pm,V.ref x.hi,V.int (VV kp m1 m2),V.int (VV kp x.h1 x.h2)]):=ax;refine sZ (H2:=upd K5 q1 (.tup [V.ref pm,V.ref x.hi,V.int (VV kp m1 m2),V.int (VV kp x.h1 x.h2)])) rfl ?_;generalize upd K5 q1 (.tup [V.ref pm,V.ref x.hi,V.int (VV kp m1 m2),V.int (VV kp x.h1 x.h2)])=K6 at s6 e6 ⊢
   have u6:=u5.trans s6;have ew6:=u6 _ _ ew1;have ef6:=u6 _ _ ef1;have hql:(qs ws').length=ws'.length:=No _;refine⟨pw,_,_,rfl,rfl,ew6,by rw[hql];omega,?_⟩;have ew7:upd K6 pw (.lst (qs ws'++[V.ref q1])) pw=some (.lst (qs ws'++[V.ref q1])):=ax;have ef7:upd K6 pw (.lst (qs ws'++[V.ref q1])) pf=some (.lst (qs ys)):=by rw[upd_ne (Ne.symm nwf)];exact ef6
   have n7:NL K6 (upd K6 pw (.lst (qs ws'++[V.ref q1]))):=NL.upd ew6;have sm7:Same H8 (upd K6 pw (.lst (qs ws'++[V.ref q1]))):=fR (sm1.trans u6) fw;generalize upd K6 pw (.lst (qs ws'++[V.ref q1]))=K7 at ew7 ef7 n7 sm7 ⊢
   have m5:NL K5 K7:=(NL.of s6).trans n7;have hx7:=hx5.nl m5;refine yE ⟨_,rfl,.inl ⟨rfl,_,SqL.of ew7⟩,_,rfl,x.q,_,_,_,rfl,rfl,SqT.of hx7.tup,rfl,_,rfl,_,rfl,x.q,_,_,_,rfl,rfl,SqT.of hx7.tup,rfl,_,rfl,by show 4<=sizeLine;omega,λq2 hq2=>?_⟩;have s8:Same K7 (upd K7 q2 (.tup [V.ref x.lo,V.ref pm,V.int (VV kp x.l1 x.l2),V.int (VV kp m1 m2)])):=Same.upd_new hq2;have e8':upd K7 q2 (.tup [V.ref x.lo,V.ref pm,V.int (VV kp x.l1 x.l2),V.int (VV kp m1 m2)]) q2=some (.tup [V.ref x.lo,V.ref pm,V.int (VV kp x.l1 x.l2),V.int (VV kp m1 m2)]):=ax;refine sZ (H2:=upd K7 q2 (.tup [V.ref x.lo,V.ref pm,V.int (VV kp x.l1 x.l2),V.int (VV kp m1 m2)])) rfl ?_;generalize upd K7 q2 (.tup [V.ref x.lo,V.ref pm,V.int (VV kp x.l1 x.l2),V.int (VV kp m1 m2)])=K8 at s8 e8' ⊢
   have ew8:=s8 _ _ ew7;have hql8:(qs ws'++[V.ref q1]).length=ws'.length+1:=by rw[Nq,hql];rfl
   refine⟨pw,_,_,rfl,rfl,ew8,by rw[hql8];omega,?_⟩;have n9:NL K8 (upd K8 pw (.lst ((qs ws'++[V.ref q1])++[V.ref q2]))):=NL.upd ew8;have m7:NL K7 (upd K8 pw (.lst ((qs ws'++[V.ref q1])++[V.ref q2]))):=(NL.of s8).trans n9;have m6:=n7.trans m7;have mm5:=m5.trans m7;have m3:=(NL.of u5).trans mm5;have ladd:x.cn kp=(Cel.mk q2 x.lo pm x.l1 x.l2 m1 m2 (x.d+1)).cn kp+(Cel.mk q1 pm x.hi m1 m2 x.h1 x.h2 (x.d+1)).cn kp:=by unfold Cel.cn Cel.a Cel.b;dsimp only;omega
   have wl:wgt kp kb ⟨q1,pm,x.hi,m1,m2,x.h1,x.h2,x.d+1⟩+wgt kp kb ⟨q2,x.lo,pm,x.l1,x.l2,m1,m2,x.d+1⟩<wgt kp kb x:=by
    have p1:0<=(Cel.mk q2 x.lo pm x.l1 x.l2 m1 m2 (x.d+1)).cn kp:=uW hFew (by assumption);have p2:0<=(Cel.mk q1 pm x.hi m1 m2 x.h1 x.h2 (x.d+1)).cn kp:=uW hFew (by assumption);unfold wgt;show 1+2*(_*(420-(x.d+1)))+(1+2*(_*(420-(x.d+1))))<_;generalize (Cel.mk q2 x.lo pm x.l1 x.l2 m1 m2 (x.d+1)).cn kp=A at *
    generalize (Cel.mk q1 pm x.hi m1 m2 x.h1 x.h2 (x.d+1)).cn kp=B at *
    obtain⟨A,rfl⟩:=P9 p1;obtain⟨B,rfl⟩:=P9 p2;obtain⟨t,ht⟩:∃t,420-x.d=t+1:=⟨420-x.d-1,by omega⟩;have ht':420-(x.d+1)=t:=by omega
    have hc:(x.cn kp).toNat=A+B:=by omega
    rw[hc,ht,ht'];show 1+2*(B*t)+(1+2*(A*t))<1+2*((A+B)*(t+1));have e1:(A+B)*(t+1)=A*t+B*t+(A+B):=by rw[Nat.mul_succ,O9]
    rw[e1];omega
   refine⟨gv kp kb (ws'++[⟨q1,pm,x.hi,m1,m2,x.h1,x.h2,x.d+1⟩]++[⟨q2,x.lo,pm,x.l1,x.l2,m1,m2,x.d+1⟩]),by rw[jD,jD];omega,_,ys,_,_,_,_,rfl,rfl,fR (sm7.trans s8) fw,by rw[ax,nY,nY],by rw[upd_ne (Ne.symm nwf)];exact s8 _ _ ef7,λy hy=>?_,λy hy=>(hy1 y hy).nl m3,by rw[p8,p8];omega,by rw[jD,jD];omega,?_⟩
   ·rcases NT.mp hy with z |z
    ·rcases NT.mp z with z |z
     ·exact(hw1 y z).nl m3
     ·rw[NU.mp z];exact⟨m6 _ _ e6 (λ_=>by simp),(hRm.same s5).nl mm5,hx5.hi.nl mm5,dr,by show x.d+1<=_;omega,pr'⟩
    ·rw[NU.mp z];exact⟨n9 _ _ e8' (λ_=>by simp),hx5.lo.nl mm5,(hRm.same s5).nl mm5,dl,by show x.d+1<=_;omega,pl'⟩
   ·rw[PD,PD];exact EC (x:=x) rfl rfl rfl (Np (gn dl)) (Np (gn dr)) (hri1 (by omega))
def qG{x:Int}(h:x<0):sg x = -1:=by unfold sg;split<;>(try split)<;>omega
def nh{x:Int}(h:0<x):sg x=1:=by unfold sg;split<;>(try split)<;>omega
def gH:(¬("against":Str)="bottom")/\¬("against":Str)="top":=⟨by decide +kernel,by decide +kernel⟩
def AY{b:Int}(hb:0<b):dv 1 b=1:=by unfold dv;rw[if_neg (by omega)];show((Nat.gcd 1 b.natAbs:Nat):Int)=1;rw[Nat.gcd_one_left];rfl
def Eu{b:Int}(hb:0<b):rt 1 b=1:=by have h:=jZ (t:=1) (b:=b) (by omega);rw[AY hb,NM]at h;exact h
def EW{b:Int}(hb:0<b):rb 1 b=b:=by have h:=i7 (t:=1) (b:=b) (by omega);rw[AY hb,NM]at h;exact h
def lU{CN:Addr}{H3:Hp}{q:Addr->Hp->Prop}{E:XK}{r l h:Addr}{ns:List V}(e3:H3 r=some (.lst ns))(k:∀(x p:Addr) (H':Hp),Same H3 H'->H3 x=none->NA CN H' x p l h->H' p=some (.lst ns)->H3 p=none->q x H'):∀x dx:Addr,H3 x=none->H3 dx=none->dx≠x->iz CN (.ref x::([.ref r,.ref l,.ref h]++[])) (upd (upd H3 dx (.own x)) x (.ins CN dx [])) (λv H2=>v=.non/\q x H2) E:=λx dx nx ndx ne=>by
 have npx:r≠x:=bn e3 nx;have npd:r≠dx:=bn e3 ndx;refine⟨x,dx,r,l,h,_,rfl,ax,by rw[upd_ne npx,upd_ne npd];exact e3,λq hq=>⟨rfl,?_⟩⟩;have nqx:q≠x:=λz=>by rw[z,ax]at hq;cases hq
 have nqd:q≠dx:=λz=>by rw[z,upd_ne ne,ax]at hq;cases hq
 have hq3:H3 q=none:=by rw[upd_ne nqx,upd_ne nqd]at hq;exact hq
 refine k x q _ (λc o ec=>?_) nx ⟨dx,ax⟩ (by rw[upd_ne nqx,ax]) hq3;have ncx:c≠x:=bn ec nx;have ncd:c≠dx:=bn ec ndx;have e4:upd (upd H3 dx (.own x)) x (.ins CN dx []) c=some o:=by rw[upd_ne ncx,upd_ne ncd];exact ec
 rw[upd_ne ncx,upd_ne (bn e4 hq)];exact e4
def j4{g a b:Rat}(hg:0<g)(h:g*a<=g*b):a<=b:=Oi.mp λz=>by have:=PN z hg;grind
def oE{ns:Ex}(h:ns≠[]):atI (ns.map V.int) (-1)=some (.int (ao ns)):=by obtain⟨r,x,rfl⟩:=(dP ns).resolve_left h;rw[gj];exact BJ r x
def lY{k:Nat}{ns:Ex}(h:AllB k ns):Bits k (ao ns):=h.cf _
structure Gd(G:Ex)(kb:Nat):Prop where
 fp:FltP G
 isb:isB (G.take (G.length-1)) (ao G).natAbs kb
def Gd.k24{G:Ex}{kb:Nat}(h:Gd G kb):kb<=24:=by
 rcases Nat.lt_or_ge kb 25 with z |z
 ·omega
 ·obtain⟨x,hx,h2⟩:=h.isb.2 24 (by omega);have h3:=h.fp.hgt x (PY hx);have hp:=h.fp.pln.pos;have h5:2^24-1<=(2^24-1)*(ao G).natAbs:=Qb _ (by omega);have h4:(2:Nat)^24-1=16777215:=by decide
  omega
def Gd.bits{G:Ex}{kb:Nat}(h:Gd G kb):AllB 24 G:=λx hx=>by have:=h.fp.hgt x hx;show x.natAbs<16777216;omega
def Gd.wk{G:Ex}{kb:Nat}(h:Gd G kb):Wk G:=⟨h.fp.pln.tr,h.fp.flt.l2,by have:=h.fp.l5;omega,h.bits.mono,λkb' hB=>by
 obtain rfl:=oF h.isb hB
 exact⟨h.k24,h.fp.few h.k24⟩⟩
def xu(C:Addr):Sp:=λvs H Q _=>∃(a:Addr) (G:Ex) (kb:Nat),vs=[.ref a]/\H a=some (.lst (G.map V.int))/\Gd G kb/\∀(x:Addr) (H':Hp),Same H H'->H x=none->RA C H' x 1 (8*ao G*2^kb)->0<8*ao G*(2:Int)^kb->Bits 520 (8*ao G*(2:Int)^kb)->Q (.ref x) H'
def GJ(F:Fun K "fine_width" "fine_width" rW f fd)(T:Txt K mg)(R:RCI K mg C)(b9:KCal P w K mg base 2 C "Ratio" ["self","top","bottom"] (c9 C) eJ eI eM [.int 1])(pQ:Cal P w K mg base 1 "bound" ["row"] (qA K) JT JC):FnOk P w K mg base aG 4 f fd ["whole"] (xu C):=by
 obtain⟨bJ,bI,bC,cC,cM,cL⟩:=b9;refine F.ok D6 (λvs H Q E h=>?_) (λ_ A _ s H vs Q E hr h=>?_)
 ·obtain⟨a,G,kb,rfl,_⟩:=h;rfl
 ·obtain⟨a,G,kb0,rfl,hA,hG,k⟩:=h;refine⟨_,(ak (az (cD bI bJ (hr.mono) rfl bC cC .nil aR (aa af (aa (av aS (av aS af (cH K (pv 0) (cq ck af))) (am pQ hr (aa (pv 0) ae))) ae))))),?_⟩;have hP:=hG.fp.pln;have l5:=hG.fp.l5;have hb:=hG.bits;have b8:Bits 4 (8:Int):=by show(8:Int).natAbs<2^4;decide
  have hp:=hP.pos;refine aY ⟨_,rfl,_,rfl,a,_,_,_,rfl,rfl,SqL.of hA,oE hP.ne,(au ⟨⟨b8.mono,(lY hb).mono⟩,_,rfl,a,G,rfl,SqL.of hA,hP.tr,hP.ne,by omega,hb.mono,λkb H1 hkb hB s1=>?_⟩)⟩;obtain rfl:=oF hG.isb hB;have hk:=hG.k24
  have b2:Bits 253 ((2^kb0:Nat):Int):=by show(((2^kb0:Nat):Int)).natAbs<2^253;rw[OF];exact(PR (by decide)).mpr (by omega)
  have b3:Bits 254 (8*ao G):=(b8.mul (lY hb)).mono;have pk:(0:Int)<((2^kb0:Nat):Int):=Pu.mpr (OT (by decide));have hD:0<8*ao G*((2^kb0:Nat):Int):=NH (by omega) pk;have bD:Bits 520 (8*ao G*((2^kb0:Nat):Int)):=(b3.mul b2).mono;refine(au ⟨⟨b3.mono,b2.mono⟩,cZ (t:=1) (by omega) (bD.mono) λx H2 s2 hx hR=>?_⟩);rw[Eu hD,EW hD]at hR;have eB:((2^kb0:Nat):Int)=(2:Int)^kb0:=by rw[P4];rfl
  rw[eB]at hR hD bD;exact k x H2 (s1.trans s2) (s1.free hx) hR hD bD
def xv(C:Addr):Sp:=λvs H Q _=>∃(p:Addr) (t b:Int),vs=[.ref p]/\RA C H p t b/\0<b/\Bits 9000 b/\Q (.int (t/b)) H
def Hb(F:Fun K "floor" "Ratio.floor" sR f fd)(T:Txt K mg)(R:RCI K mg C):FnOk P w K mg base aG 1 f fd ["self"] (xv C):=by
 refine F.ok El (λvs H Q E h=>?_) (λ_ A _ s H vs Q E hr h=>?_)
 ·obtain⟨p,t,b,rfl,_⟩:=h;rfl
 ·obtain⟨p,t,b,rfl,⟨dx,hp⟩,hb,bb,k⟩:=h;refine⟨_,(ak (az (av jg (aB (K:=K) rfl (pv 0) rfl) (aB (K:=K) rfl (pv 0) rfl)))),?_⟩;exact⟨_,rfl,p,C,dx,_,_,rfl,hp,R.cl,R.nT,cK,_,rfl,p,C,dx,_,_,rfl,hp,R.cl,R.nB,bX,(au ⟨⟨hb,bb⟩,k⟩)⟩
def zq:¬(("floor":Str)="bottom")/\¬(("floor":Str)="top"):=⟨by decide +kernel,by decide +kernel⟩
def EZ{a c:Int}(hc:0<c):rt a c/rb a c=a/c:=by
 have h0:c≠0:=by omega
 have e1:=jZ (t:=a) h0;have e2:=i7 (t:=a) h0
 have hp:0<dv a c:=by unfold dv;rw[if_neg (by omega)];have:=kn (t:=a) h0;omega
 have e3:dv a c*rt a c/(dv a c*rb a c)=rt a c/rb a c:=Int.mul_ediv_mul_of_pos _ _ hp;rw[e1,e2]at e3;exact e3.symm
def qj(C:Addr):Sp:=λvs H Q _=>∃(r:Addr) (c t b:Int),vs=[.int c,.ref r]/\RA C H r t b/\0<b/\Bits 10000 c/\Bits 10000 t/\Bits 8900 b/\∀H',Same H H'->Q (.int (c*t/b)) H'
def FQ(F:Fun K "times_floor" "times_floor" qS f fd)(T:Txt K mg)(R:RCI K mg C)(b9:KCal P w K mg base 2 C "Ratio" ["self","top","bottom"] (c9 C) eJ eI eM [.int 1])(ip:MCal P w K mg base 4 C "times" ["self","other"] (jL C) oW oR)(LJ:MCal P w K mg base 1 C "floor" ["self"] (xv C) Nn MA):FnOk P w K mg base aG 5 f fd ["factor","ratio"] (qj C):=by
 obtain⟨bJ,bI,bC,cC,cM,cL⟩:=b9;obtain⟨fZ,fS,fY⟩:=ip;obtain⟨KN,HF,Kv⟩:=LJ;refine F.ok DT (λvs H Q E h=>?_) (λ_ A _ s H vs Q E hr h=>?_)
 ·obtain⟨r,c,t,b,rfl,_⟩:=h;rfl
 ·obtain⟨r,c,t,b,rfl,hR,hb,bc,bt,bb,k⟩:=h;refine⟨_,(ak (az (tI (cN (cD bI bJ (hr.mono) rfl bC cM cL aR (aa (pv 0) ae)) R.cl fS fZ (hr.mono) fY .nil aR (aa (pv 1) ae)) R.cl HF KN (hr.mono) Kv .nil aR))),?_⟩;refine aY ⟨_,rfl,cZ (t:=c) (b:=1) (by decide) (cO (by decide)) λx H1 s1 hx hX=>?_⟩;rw[gT,gW]at hX;obtain⟨dx,hX'⟩:=id hX;refine⟨x,dx,_,rfl,hX',cB dU.1 dU.2,_,rfl,x,r,c,1,t,b,1,8900,rfl,hX,hR.same s1,bc.mono,cO (by decide),bt.mono,bb,by decide,by decide,hb,λy H2 s2 hy hY=>?_⟩;obtain⟨dy,hY'⟩:=id hY;have d0:1*b≠0:=by omega
  refine⟨y,dy,_,rfl,hY',cB zq.1 zq.2,y,_,_,rfl,hY,cG d0,(dA d0 (by rw[NM];exact bb)).mono,?_⟩;rw[EZ (show 0<1*b by omega),NM];exact k H2 (s1.trans s2)
def vl(p:Int×Int):Rat:=(p.1:Rat)/(p.2:Rat)
def Cl{a b c d:Int}(hb:0<b)(hd:0<d)(h:¬c*b<a*d):(a:Rat)/(b:Rat)<=(c:Rat)/(d:Rat):=Oi.mp λz=>h ((nK hd hb).mp z)
def v5{t b:Int}(hb:0<b):((rt t b:Int):Rat)/((rb t b:Int):Rat)=(t:Rat)/(b:Rat):=by
 have h0:b≠0:=by omega
 have hc:=d9 (t:=t) h0;have hp:=cG (t:=t) h0;have cb:(0:Rat)<(b:Rat):=NJ.mpr hb;have cr:(0:Rat)<((rb t b:Int):Rat):=NJ.mpr hp;have e1:((rt t b:Int):Rat)/((rb t b:Int):Rat)*((rb t b:Int):Rat)=((rt t b:Int):Rat):=Nx (O4 cr);have e2:(t:Rat)/(b:Rat)*(b:Rat)=(t:Rat):=Nx (O4 cb);have e3:((rt t b:Int):Rat)*(b:Rat)=(t:Rat)*((rb t b:Int):Rat):=by rw[<- NC,hc,NC]
 generalize ((rt t b:Int):Rat)/((rb t b:Int):Rat)=X at e1 ⊢
 generalize (t:Rat)/(b:Rat)=Y at e2 ⊢
 rw[<- e1,<- e2]at e3;have hM:=NV cr cb;have e4:(((rb t b:Int):Rat)*(b:Rat))*X=(((rb t b:Int):Rat)*(b:Rat))*Y:=by grind
 exact Rat.le_antisymm (j4 hM (by rw[e4];exact Nt)) (j4 hM (by rw[e4];exact Nt))
def Ck{a b c d:Int}(hb:0<b)(hd:0<d):((a*c:Int):Rat)/((b*d:Int):Rat)=(a:Rat)/(b:Rat)*((c:Rat)/(d:Rat)):=by
 have cb:(0:Rat)<(b:Rat):=NJ.mpr hb;have cd:(0:Rat)<(d:Rat):=NJ.mpr hd;rw[NC,NC];have hM:=NV cb cd;have e1:(a:Rat)/(b:Rat)*(b:Rat)=(a:Rat):=Nx (O4 cb);have e2:(c:Rat)/(d:Rat)*(d:Rat)=(c:Rat):=Nx (O4 cd);have e3:(a:Rat)*(c:Rat)/((b:Rat)*(d:Rat))*((b:Rat)*(d:Rat))=(a:Rat)*(c:Rat):=Nx (O4 hM);generalize (a:Rat)/(b:Rat)=X at e1 ⊢
 generalize (c:Rat)/(d:Rat)=Y at e2 ⊢
 generalize (a:Rat)*(c:Rat)/((b:Rat)*(d:Rat))=Z at e3 ⊢
 rw[<- e1,<- e2]at e3;have e4:((b:Rat)*(d:Rat))*Z=((b:Rat)*(d:Rat))*(X*Y):=by grind
 exact Rat.le_antisymm (j4 hM (by rw[e4];exact Nt)) (j4 hM (by rw[e4];exact Nt))
def Cm{a b c d:Int}(hb:0<b)(hd:0<d):((a*d+c*b:Int):Rat)/((b*d:Int):Rat)=(a:Rat)/(b:Rat)+(c:Rat)/(d:Rat):=by
 have cb:(0:Rat)<(b:Rat):=NJ.mpr hb;have cd:(0:Rat)<(d:Rat):=NJ.mpr hd;rw[Pk,NC,NC,NC];have hM:=NV cb cd;have e1:(a:Rat)/(b:Rat)*(b:Rat)=(a:Rat):=Nx (O4 cb);have e2:(c:Rat)/(d:Rat)*(d:Rat)=(c:Rat):=Nx (O4 cd);have e3:((a:Rat)*(d:Rat)+(c:Rat)*(b:Rat))/((b:Rat)*(d:Rat))*((b:Rat)*(d:Rat))=(a:Rat)*(d:Rat)+(c:Rat)*(b:Rat):=Nx (O4 hM);generalize ((a:Rat)*(d:Rat)+(c:Rat)*(b:Rat))/((b:Rat)*(d:Rat))=Z at e3 ⊢
 generalize (a:Rat)/(b:Rat)=X at e1 ⊢
 generalize (c:Rat)/(d:Rat)=Y at e2 ⊢
 rw[<- e1,<- e2]at e3;have e4:((b:Rat)*(d:Rat))*Z=((b:Rat)*(d:Rat))*(X+Y):=by grind
 exact Rat.le_antisymm (j4 hM (by rw[e4];exact Nt)) (j4 hM (by rw[e4];exact Nt))
structure MaxP(x1 x2 y1 y2 p1 p2 q1 q2 m1 m2:Int):Prop where
 m2p:0<m2
 b1:Bits 8200 m1
 b2:Bits 8200 m2
 c1:vl (x1,x2)*vl (p1,p2)<=vl (m1,m2)
 c2:vl (x1,x2)*vl (q1,q2)<=vl (m1,m2)
 c3:vl (y1,y2)*vl (p1,p2)<=vl (m1,m2)
 c4:vl (y1,y2)*vl (q1,q2)<=vl (m1,m2)
 is:vl (m1,m2)=vl (x1,x2)*vl (p1,p2)\/vl (m1,m2)=vl (x1,x2)*vl (q1,q2)\/vl (m1,m2)=vl (y1,y2)*vl (p1,p2)\/vl (m1,m2)=vl (y1,y2)*vl (q1,q2)
structure TwoS(C:Addr)(H:Hp)(p q x y x' y':Addr)(x1 x2 y1 y2 p1 p2 q1 q2:Int):Prop where
 hp:H p=some (.tup [.ref x,.ref y])
 hq:H q=some (.tup [.ref x',.ref y'])
 hx:RA C H x x1 x2
 hy:RA C H y y1 y2
 hx':RA C H x' p1 p2
 hy':RA C H y' q1 q2
 e1:EndsG 4074 x1 x2 y1 y2
 e2:EndsG 4074 p1 p2 q1 q2
def TwoS.same{C:Addr}{H H':Hp}{p q x y x' y':Addr}{x1 x2 y1 y2 p1 p2 q1 q2:Int}(h:TwoS C H p q x y x' y' x1 x2 y1 y2 p1 p2 q1 q2)(s:Same H H'):TwoS C H' p q x y x' y' x1 x2 y1 y2 p1 p2 q1 q2:=⟨s _ _ h.hp,s _ _ h.hq,h.hx.same s,h.hy.same s,h.hx'.same s,h.hy'.same s,h.e1,h.e2⟩
def wR(C:Addr):Sp:=λvs H Q _=>∃(p q x y x' y':Addr) (x1 x2 y1 y2 p1 p2 q1 q2:Int),vs=[.ref p,.ref q]/\TwoS C H p q x y x' y' x1 x2 y1 y2 p1 p2 q1 q2/\∀(t lo hi:Addr) (H':Hp) (m1 m2:Int),Same H H'->H t=none->H' t=some (.tup [.ref lo,.ref hi])->RA C H' hi m1 m2->MaxP x1 x2 y1 y2 p1 p2 q1 q2 m1 m2->Q (.ref t) H'
structure PrH(C:Addr)(H:Hp)(r:Addr)(m1 m2:Int)(v:Rat):Prop where
 ra:RA C H r m1 m2
 m2p:0<m2
 b1:Bits 8200 m1
 b2:Bits 8200 m2
 is:vl (m1,m2)=v
def PrH.same{C:Addr}{H H':Hp}{r:Addr}{m1 m2:Int}{v:Rat}(h:PrH C H r m1 m2 v)(s:Same H H'):PrH C H' r m1 m2 v:=⟨h.ra.same s,h.m2p,h.b1,h.b2,h.is⟩
def n8{C:Addr}{H:Hp}{r:Addr}{a b c d:Int}(hb:0<b)(hd:0<d)(ba:Bits 4074 a)(bb:Bits 4074 b)(bc:Bits 4074 c)(bd:Bits 4074 d)(h:RA C H r (rt (a*c) (b*d)) (rb (a*c) (b*d))):PrH C H r (rt (a*c) (b*d)) (rb (a*c) (b*d)) (vl (a,b)*vl (c,d)):=by
 have hp:0<b*d:=NH hb hd;have h0:b*d≠0:=by omega
 refine⟨h,cG h0,(dm h0 (ba.mul bc)).mono,(dA h0 (bb.mul bd)).mono,?_⟩;show((rt (a*c) (b*d):Int):Rat)/((rb (a*c) (b*d):Int):Rat)=_;rw[v5 hp,Ck hb hd];rfl
def FV(F:Fun K "span_product" "span_product" qX f fd)(T:Txt K mg)(R:RCI K mg C)(ip:MCal P w K mg base 4 C "times" ["self","other"] (jL C) oW oR)(mH:MCal P w K mg base 2 C "against" ["self","other"] (mT C) AQ AJ):FnOk P w K mg base aG 5 f fd ["first","second"] (wR C):=by
 obtain⟨fZ,fS,fY⟩:=ip;obtain⟨jA,ji,jx⟩:=mH;refine F.ok jS (λvs H Q E h=>?_) (λ_ A _ s H vs Q E hr h=>?_)
 ·obtain⟨p,q,x,y,x',y',x1,x2,y1,y2,p1,p2,q1,q2,rfl,_⟩:=h;rfl
 ·obtain⟨p,q,x,y,x',y',x1,x2,y1,y2,p1,p2,q1,q2,rfl,h,k⟩:=h;have big:=sizeLine_eq
  refine⟨_,(ah (ap 2 jS (cN (aZ K (pv 0) af) R.cl fS fZ (hr.mono) fY .nil aR (aa (aZ K (pv 1) af) ae)))
   (ah (ap 3 jS (pv 2))
   (ah (dQ PassesOwn.never rfl (Fm (K:=K) rfl (fN (aa (cN (aZ K (pv 0) af) R.cl fS fZ (hr.mono) fY .nil aR (aa (aZ K (pv 1) af) ae)) (aa (cN (aZ K (pv 0) af) R.cl fS fZ (hr.mono) fY .nil aR (aa (aZ K (pv 1) af) ae)) (aa (cN (aZ K (pv 0) af) R.cl fS fZ (hr.mono) fY .nil aR (aa (aZ K (pv 1) af) ae)) ae))))) (de 4 jS)
     (ah (aT (aN fO (cN (pv 4) R.cl ji jA (hr.mono) jx .nil aR (aa (pv 2) ae)) af)
       (ak (ap 2 jS (pv 4)))
       aV)
       (ak (aT (aN fP (cN (pv 4) R.cl ji jA (hr.mono) jx .nil aR (aa (pv 3) ae)) af)
         (ak (ap 3 jS (pv 4)))
         aV))))
   (ak (az (fN (aa (pv 2) (aa (pv 3) ae)))))))),?_⟩
  have e1:=h.e1;have e2:=h.e2;obtain⟨dx,hx0⟩:=id h.hx;refine aA ⟨_,rfl,p,_,_,_,rfl,rfl,SqT.of h.hp,rfl,x,dx,_,rfl,hx0,cB dU.1 dU.2,_,rfl,q,_,_,_,rfl,rfl,SqT.of h.hq,rfl,x,x',x1,x2,p1,p2,4074,4074,rfl,h.hx,h.hx',e1.bl1.mono,e1.bl2,e2.bl1.mono,e2.bl2,by decide,e1.l2p,e2.l2p,λr0 H1 s1 hr0 hR0=>?_⟩;have P0:=n8 e1.l2p e2.l2p e1.bl1 e1.bl2 e2.bl1 e2.bl2 hR0;refine aA ⟨_,rfl,?_⟩;have h1:=h.same s1;obtain⟨dx1,hx1⟩:=id h1.hx;refine⟨_,rfl,p,_,_,_,rfl,rfl,SqT.of h1.hp,rfl,x,dx1,_,rfl,hx1,cB dU.1 dU.2,_,rfl,q,_,_,_,rfl,rfl,SqT.of h1.hq,rfl,x,y',x1,x2,q1,q2,4074,4074,rfl,h1.hx,h1.hy',e1.bl1.mono,e1.bl2,e2.bh1.mono,e2.bh2,by decide,e1.l2p,e2.h2p,λr1 H2 s2 hr1 hR1=>?_⟩;have P1:=n8 e1.l2p e2.h2p e1.bl1 e1.bl2 e2.bh1 e2.bh2 hR1;have h2:=h1.same s2;obtain⟨dy2,hy2⟩:=id h2.hy;refine⟨_,rfl,p,_,_,_,rfl,rfl,SqT.of h2.hp,rfl,y,dy2,_,rfl,hy2,cB dU.1 dU.2,_,rfl,q,_,_,_,rfl,rfl,SqT.of h2.hq,rfl,y,x',y1,y2,p1,p2,4074,4074,rfl,h2.hy,h2.hx',e1.bh1.mono,e1.bh2,e2.bl1.mono,e2.bl2,by decide,e1.h2p,e2.l2p,λr2 H3 s3 hr2 hR2=>?_⟩;have P2:=n8 e1.h2p e2.l2p e1.bh1 e1.bh2 e2.bl1 e2.bl2 hR2;have h3:=h2.same s3;obtain⟨dy3,hy3⟩:=id h3.hy;refine⟨_,rfl,p,_,_,_,rfl,rfl,SqT.of h3.hp,rfl,y,dy3,_,rfl,hy3,cB dU.1 dU.2,_,rfl,q,_,_,_,rfl,rfl,SqT.of h3.hq,rfl,y,y',y1,y2,q1,q2,4074,4074,rfl,h3.hy,h3.hy',e1.bh1.mono,e1.bh2,e2.bh1.mono,e2.bh2,by decide,e1.h2p,e2.h2p,λr3 H4 s4 hr3 hR3=>⟨by show 3<=sizeLine;omega,λpt hpt=>?_⟩⟩;have P3:=n8 e1.h2p e2.h2p e1.bh1 e1.bh2 e2.bh1 e2.bh2 hR3;have s5:Same H4 (upd H4 pt (.tup [V.ref r1,V.ref r2,V.ref r3])):=Same.upd_new hpt;have q5:upd H4 pt (.tup [V.ref r1,V.ref r2,V.ref r3]) pt=some (.tup [V.ref r1,V.ref r2,V.ref r3]):=ax;refine sZ (H2:=upd H4 pt (.tup [V.ref r1,V.ref r2,V.ref r3])) rfl ?_;generalize upd H4 pt (.tup [V.ref r1,V.ref r2,V.ref r3])=H5 at s5 q5 ⊢
  have A0:=(P0.same s2).same (s3.trans (s4.trans s5));have A1:=P1.same (s3.trans (s4.trans s5));have A2:=P2.same (s4.trans s5);have A3:=P3.same s5;have t5:=(s1.trans s2).trans (s3.trans (s4.trans s5));clear P0 P1 P2 P3 hR0 hR1 hR2 hR3
  have get:∀(i:Nat) (z:V),[V.ref r1,V.ref r2,V.ref r3][i]?=some z->∃(r:Addr) (t b:Int) (v:Rat),z=.ref r/\PrH C H5 r t b v/\[vl (x1,x2)*vl (p1,p2),vl (x1,x2)*vl (q1,q2),vl (y1,y2)*vl (p1,p2),vl (y1,y2)*vl (q1,q2)].take (i+1+1)=[vl (x1,x2)*vl (p1,p2),vl (x1,x2)*vl (q1,q2),vl (y1,y2)*vl (p1,p2),vl (y1,y2)*vl (q1,q2)].take (i+1)++[v]:=λi z hz=>by
   match i,hz with
   |0,hz=>exact⟨r1,_,_,_,(Option.some.inj hz).symm,A1,rfl⟩
   |1,hz=>exact⟨r2,_,_,_,(Option.some.inj hz).symm,A2,rfl⟩
   |2,hz=>exact⟨r3,_,_,_,(Option.some.inj hz).symm,A3,rfl⟩
  generalize hV:[vl (x1,x2)*vl (p1,p2),vl (x1,x2)*vl (q1,q2),vl (y1,y2)*vl (p1,p2),vl (y1,y2)*vl (q1,q2)]=W at get
  refine⟨pt,rfl,⟨_,SqT.of q5⟩,Jh (K:=K) (a:=pt) (xs:=[V.ref r1,V.ref r2,V.ref r3]) (λi Q2 H'=>∃(lo g:Addr) (l1 l2 g1 g2:Int) (vo vg:Rat) (z4:Option V),Q2=[some (.ref p),some (.ref q),some (.ref lo),some (.ref g),z4]/\H5=H'/\PrH C H5 lo l1 l2 vo/\PrH C H5 g g1 g2 vg/\vg∈W.take (i+1)/\∀v∈W.take (i+1),v<=vg)
   ⟨r0,r0,_,_,_,_,_,_,none,rfl,rfl,A0,A0,by rw[<- hV];exact NU.mpr rfl,λv hv=>by rw[<- hV]at hv;rw[NU.mp hv];exact Nt⟩ ?_ ?_ ?_⟩
  ·rintro i Q2 H' _ ⟨lo,g,l1,l2,g1,g2,vo,vg,z4,rfl,rfl,_⟩;exact SqT.of q5
  ·rintro i z Q2 H' hi ⟨lo,g,l1,l2,g1,g2,vo,vg,z4,rfl,rfl,Po,Pg,hmem,hall⟩;obtain⟨r,t,b,v,rfl,Pr,ht⟩:=get i z hi;obtain⟨dr,hr'⟩:=id Pr.ra;dsimp only
   refine gU (λQ2 H'=>∃(lo:Addr) (l1 l2:Int) (vo:Rat),Q2=[some (.ref p),some (.ref q),some (.ref lo),some (.ref g),some (.ref r)]/\H5=H'/\PrH C H5 lo l1 l2 vo) ?_ ?_
   case refine_2 =>
    intro rest;refine⟨_,rfl,r,dr,_,rfl,hr',cB gH.1 gH.2,_,rfl,r,lo,t,b,l1,l2,rfl,Pr.ra,Po.ra,Pr.b1.mono,Pr.b2.mono,Po.b1.mono,Po.b2.mono,(au ⟨_,rfl,aQ (λ_=>?_) (λ_=>?_)⟩)⟩
    ·exact⟨_,rfl,rest _ _ ⟨r,t,b,v,rfl,rfl,Pr⟩⟩
    ·exact rest _ _ ⟨lo,l1,l2,vo,rfl,rfl,Po⟩
   rintro Q2 H' ⟨lo',l1',l2',vo',rfl,rfl,Po'⟩;refine⟨_,rfl,r,dr,_,rfl,hr',cB gH.1 gH.2,_,rfl,r,g,t,b,g1,g2,rfl,Pr.ra,Pg.ra,Pr.b1.mono,Pr.b2.mono,Pg.b1.mono,Pg.b2.mono,(au ⟨_,rfl,aQ (λh0=>?_) (λh0=>?_)⟩)⟩
   ·have h0':sg (t*g2-g1*b)>0:=h0
    have hlt:g1*b<t*g2:=Int.not_le.mp λz=>by
     have:sg (t*g2-g1*b)<=0:=by unfold sg;split<;>(try split)<;>omega
     omega
    have hv:vg<v:=by rw[<- Pg.is,<- Pr.is];exact(nK Pg.m2p Pr.m2p).mpr hlt
    refine⟨_,rfl,lo',r,l1',l2',t,b,vo',v,_,rfl,rfl,Po',Pr,by rw[ht];simp,λu hu=>?_⟩;rw[ht]at hu;rcases NT.mp hu with z |z
    ·exact NZ (hall u z) (Np hv)
    ·rw[NU.mp z];exact Nt
   ·have h0':¬sg (t*g2-g1*b)>0:=h0
    have hle:v<=vg:=by
     rw[<- Pg.is,<- Pr.is];refine Cl Pr.m2p Pg.m2p λz=>h0' ?_
     have z':g1*b<t*g2:=z;have:sg (t*g2-g1*b)=1:=nh (by omega);omega
    refine⟨lo',g,l1',l2',g1,g2,vo',vg,_,rfl,rfl,Po',Pg,by rw[ht];exact OH _ hmem,λu hu=>?_⟩;rw[ht]at hu;rcases NT.mp hu with z |z
    ·exact hall u z
    ·rw[NU.mp z];exact hle
  ·rintro Q2 H' ⟨lo,g,l1,l2,g1,g2,vo,vg,z4,rfl,rfl,Po,Pg,hmem,hall⟩;refine⟨_,rfl,_,rfl,by show 2<=sizeLine;omega,λt ht=>?_⟩;have s6:Same H5 (upd H5 t (.tup [V.ref lo,V.ref g])):=Same.upd_new ht;refine k t lo g _ g1 g2 (t5.trans s6) (t5.free ht) ax (Pg.ra.same s6) ⟨Pg.m2p,Pg.b1,Pg.b2,?_,?_,?_,?_,?_⟩
   all_goals rw[Pg.is]
   ·exact hall _ (by rw[<- hV];exact NK ..)
   ·exact hall _ (by rw[<- hV];exact NB _ (NK ..))
   ·exact hall _ (by rw[<- hV];exact NB _ (NB _ (NK ..)))
   ·exact hall _ (by rw[<- hV];exact NB _ (NB _ (NB _ (NK ..))))
   ·rw[<- hV]at hmem;rcases NR.mp hmem with z |z
    ·exact .inl z
    rcases NR.mp z with z |z
    ·exact .inr (.inl z)
    rcases NR.mp z with z |z
    ·exact .inr (.inr (.inl z))
    ·exact .inr (.inr (.inr (NU.mp z)))
structure SqR(x1 x2 y1 y2 p1 p2 q1 q2 t1 t2 m1 m2:Int):Prop where
 mx:MaxP x1 x2 y1 y2 p1 p2 q1 q2 m1 m2
 t2p:0<t2
 bt:Bits 8200 t1
 sum:vl (t1,t2)=vl (y1,y2)+vl (q1,q2)
inductive wP(C:Addr)(vs:List V)(H:Hp)(Q:VK)(E:XK):Prop
 |mk (a p q x y x' y':Addr) (ns:Ex) (x1 x2 y1 y2 p1 p2 q1 q2:Int):vs=[.ref a,.ref p,.ref q]->H a=some (.lst (ns.map V.int))->Pln ns->AllB 250 ns->TwoS C H p q x y x' y' x1 x2 y1 y2 p1 p2 q1 q2->(∀t1 t2 m1 m2:Int,SqR x1 x2 y1 y2 p1 p2 q1 q2 t1 t2 m1 m2->mkL H Q (aq [ao ns*m1/m2,-(ao ns*t1/t2),ao ns]))->wP C vs H Q E
def FT(F:Fun K "square_of" "square_of" qV f fd)(T:Txt K mg)(R:RCI K mg C)(pN:Cal P w K mg base 5 "times_floor" ["factor","ratio"] (qj C) JG Jp)(vQ:MCal P w K mg base 4 C "plus" ["self","other"] (qr C) JW JF)(Lc:Cal P w K mg base 5 "span_product" ["first","second"] (wR C) MI LX)(fF:Cal P w K mg base 34 "plain" ["row"] iT mf me):FnOk P w K mg base aG 35 f fd ["whole","span","other"] (wP C):=by
 obtain⟨vx,uh,vi⟩:=vQ;refine F.ok qJ (λvs H Q E h=>?_) (λ_ A _ s H vs Q E hr h=>?_)
 ·obtain⟨a,p,q,x,y,x',y',ns,x1,x2,y1,y2,p1,p2,q1,q2,rfl,_⟩:=h;rfl
 ·obtain⟨a,p,q,x,y,x',y',ns,x1,x2,y1,y2,p1,p2,q1,q2,rfl,hA,hP,hb,h,k⟩:=h;have big:=sizeLine_eq
  refine⟨_,(ah (ap 3 qJ (cH K (pv 0) (cq ck af)))
   (ah (ap 4 qJ (am pN hr (aa (pv 3) (aa (cN (aZ K (pv 1) af) R.cl uh vx (hr.mono) vi .nil aR (aa (aZ K (pv 2) af) ae)) ae))))
   (ak (az (am fF hr (aa (cg (aa (am pN hr (aa (pv 3) (aa (aZ K (am Lc hr (aa (pv 1) (aa (pv 2) ae))) af) ae))) (aa (cq ck (pv 4)) (aa (pv 3) ae)))) ae)))))),?_⟩
  have e1:=h.e1;have e2:=h.e2;have bl:=lY hb;have lp:=hP.pos;refine aA ⟨_,rfl,_,rfl,a,_,_,_,rfl,rfl,SqL.of hA,oE hP.ne,?_⟩;obtain⟨dy,hy0⟩:=id h.hy;have hp2:0<y2*q2:=NH e1.h2p e2.h2p;have h0:y2*q2≠0:=by omega
  have bsum:Bits 8150 (y1*q2+q1*y2):=by have a1:Bits 8148 (y1*q2):=e1.bh1.mul e2.bh2;have a2:Bits 8148 (q1*y2):=(e2.bh1.mul e1.bh2).mono;exact(a1.add a2).mono
  refine aA ⟨_,rfl,_,rfl,p,_,_,_,rfl,rfl,SqT.of h.hp,rfl,y,dy,_,rfl,hy0,cB ou.1 ou.2,_,rfl,q,_,_,_,rfl,rfl,SqT.of h.hq,rfl,y,y',y1,y2,q1,q2,4074,4074,rfl,h.hy,h.hy',e1.bh1.mono,e1.bh2,e2.bh1.mono,e2.bh2,by decide,e1.h2p,e2.h2p,λr H1 s1 hr0 hR=>?_⟩;refine⟨r,ao ns,_,_,rfl,hR,cG h0,bl.mono,(dm h0 bsum).mono,(dA h0 (e1.bh2.mul e2.bh2)).mono,λH2 s2=>?_⟩;have t2:=s1.trans s2;have h2:=h.same t2;refine aY ⟨_,rfl,_,rfl,_,rfl,p,q,x,y,x',y',x1,x2,y1,y2,p1,p2,q1,q2,rfl,h2,λt lo hi H3 m1 m2 s3 ht et hm mx=>?_⟩;refine⟨t,_,_,_,rfl,rfl,SqT.of et,rfl,hi,ao ns,m1,m2,rfl,hm,mx.m2p,bl.mono,mx.b1.mono,mx.b2.mono,λH4 s4=>?_⟩;refine⟨_,rfl,_,rfl,_,rfl,by show 3<=sizeLine;omega,λpl hpl=>?_⟩;have t4:=(t2.trans s3).trans s4;have trl:Tr [ao ns*m1/m2,-(ao ns*rt (y1*q2+q1*y2) (y2*q2)/rb (y1*q2+q1*y2) (y2*q2)),ao ns]:=(tr_snoc (r:=[ao ns*m1/m2,-(ao ns*rt (y1*q2+q1*y2) (y2*q2)/rb (y1*q2+q1*y2) (y2*q2))])).mpr (by omega);refine⟨pl,[ao ns*m1/m2,-(ao ns*rt (y1*q2+q1*y2) (y2*q2)/rb (y1*q2+q1*y2) (y2*q2)),ao ns],rfl,ax,trl,by show 3<=1000000;decide,λp5 H5 s5 hp5 e5=>?_⟩;have t5:=(t4.then_new (o:=.lst _) hpl).trans s5;refine k _ _ m1 m2 ⟨mx,cG h0,(dm h0 bsum).mono,?_⟩ p5 H5 t5 ((t4.then_new hpl).free hp5) e5;show((rt (y1*q2+q1*y2) (y2*q2):Int):Rat)/((rb (y1*q2+q1*y2) (y2*q2):Int):Rat)=_;rw[v5 hp2,Cm e1.h2p e2.h2p];rfl
def bB{a b c d:Int}(hb:0<b)(hd:0<d):ac a b<ac c d↔a*d<c*b:=nK hb hd
def dj{a b c d:Int}(hb:0<b)(hd:0<d):ac a b<=ac c d↔a*d<=c*b:=by
 constructor
 ·intro h;exact Int.not_lt.mp λz=>Oi.mpr h ((bB hd hb).mpr z)
 ·intro h;exact Oi.mp λz=>Int.not_lt.mpr h ((bB hd hb).mp z)
def cA{t n:Int}(hn:0<n)(l:Ex):sg (hv t n l)=ai (pv l (ac t n)):=by rw[<- x4,oJ hn];exact gR (OC (NJ.mpr hn))
def j0{G p:Ex}{l1 l2 h1 h2:Int}(hG:Flt G)(l2p:0<l2)(h2p:0<h2)(lt:l1*h2<h1*l2)(o:vw G (ac l1 l2)-vw G (ac h1 h2)=1)(P:Od G (ac l1 l2) (ac h1 h2) p):∃ε,RootU p l1 l2 h1 h2 ε (λt n=>vw G (ac t n)=vw G (ac l1 l2)):=by
 have lt':=(bB l2p h2p).mpr lt;obtain⟨ε,e1,s1,s2,s3⟩:=P.flt.cnt.ru lt' P.one;have D:=hG.cnt;have C:=P.flt.cnt;have o1:=P.one
 have up:∀{z:Rat},ac l1 l2<=z->z<=ac h1 h2->¬vw G z=vw G (ac l1 l2)->vw p z=vw p (ac h1 h2):=λ{z} a b n=>by
  have k:=fi hG lt' o P a b;have:=C.le a;have:=C.le b;have:¬vw p z=vw p (ac l1 l2):=λq=>n (k.mp q)
  omega
 refine⟨ε,e1,λx1 x2 hx a b u=>?_,λx1 x2 hx a b u=>?_,λx1 x2 y1 y2 hx hy a b u c=>?_,λx1 x2 y1 y2 hx hy e u=>?_,rfl,λz=>?_⟩
 ·have a':=(bB l2p hx).mpr a;have b':=(dj hx h2p).mpr b;rw[cA hx];exact s1 _ a' b' ((fi hG lt' o P (Np a') b').mpr u)
 ·have a':=(bB l2p hx).mpr a;have b':=(dj hx h2p).mpr b;rw[cA hx];rcases s2 _ a' b' (up (Np a') b' u)with z |z
  ·exact .inl z
  ·exact .inr (by rw[z];rfl)
 ·have a':=(bB l2p hx).mpr a;have c':=(bB hx hy).mpr c;have b':=(dj hy h2p).mpr b;rw[cA hy];exact s3 _ _ a' c' b' (up (Np a') (by grind) u)
 ·have:ac x1 x2=ac y1 y2:=eE hx hy e;rw[<- this];exact u
 ·have z':vw G (ac h1 h2)=vw G (ac l1 l2):=z;omega
def zk{G:Ex}{l h:Rat}(hF:Flt G)(hP:Pln G)(o:vw G l-vw G h=1):Od G l h G:=⟨hP,hF,Dv.refl G,o⟩
structure Nr(G:Ex)(kb:Nat)(l1 l2 h1 h2 x1 x2 y1 y2:Int):Prop where
 ends:EndsG 4074 x1 x2 y1 y2
 ux:vw G (ac x1 x2)=vw G (ac l1 l2)
 uy:vw G (ac y1 y2)=vw G (ac h1 h2)
 lo:ac l1 l2<=ac x1 x2
 hi:ac y1 y2<=ac h1 h2
 wide:(ac y1 y2-ac x1 x2)*(8*(ao G:Rat)*2^kb)<=1
def fL{a b:Int}(hb:0<b):ac a b*(b:Rat)=(a:Rat):=jm hb
def zn{G:Ex}{kb kk n pl:Nat}{l1 l2 h1 h2 x1 x2 y1 y2:Int}(hG:Flt G)(l2p:0<l2)(h2p:0<h2)(o:vw G (ac l1 l2)-vw G (ac h1 h2)=1)(hk:kk<=4074)(N:NarP l1 l2 h1 h2 1 (8*ao G*2^kb) (λt n=>vw G (ac t n)=vw G (ac l1 l2)) kk n pl x1 x2 y1 y2):Nr G kb l1 l2 h1 h2 x1 x2 y1 y2:=by
 have D:=hG.cnt;have en:=N.ends;have lo:=(dj l2p en.l2p).mpr N.lo;have hi:=(dj en.h2p h2p).mpr N.hi;have xy:=(bB en.l2p en.h2p).mpr en.lt;refine⟨en.mono hk,N.ux,?_,lo,hi,?_⟩
 ·have:=N.uy;have a:=D.le (NZ lo (Np xy));have b:=D.le hi;have:¬vw G (ac y1 y2)=vw G (ac l1 l2):=N.uy;omega
 ·have w:=N.wide;have px:(0:Rat)<(x2:Rat):=NJ.mpr en.l2p;have py:(0:Rat)<(y2:Rat):=NJ.mpr en.h2p;have w':(((y1*x2-x1*y2)*(8*ao G*2^kb):Int):Rat)<=((1*(x2*y2):Int):Rat):=OL.mpr w;rw[NC,Pt,NC,NC,NC,NC,NC,NC,gQ]at w';have e1:=fL (a:=x1) en.l2p;have e2:=fL (a:=y1) en.h2p;have c8:((8:Int):Rat)=8:=rfl;have c1:((1:Int):Rat)=1:=rfl;rw[c8,c1,<- e1,<- e2]at w';generalize ac x1 x2=u at *
  generalize ac y1 y2=v at *
  generalize 8*(ao G:Rat)*2^kb=W at *
  have pp:=NV px py;refine du pp ?_;grind
def uH{L:Int}{y1 y2:Int}(hy:0<y2)(hL:0<L){k:Int}(h1:(k:Rat)<=(L:Rat)*ac y1 y2)(h2:(L:Rat)*ac y1 y2<(k:Rat)+1):L*y1/y2=k:=by
 have py:(0:Rat)<(y2:Rat):=NJ.mpr hy;have e:=fL (a:=y1) hy
 have a:k*y2<=L*y1:=by
  have:=Oh h1 (Np py);have e2:(L:Rat)*ac y1 y2*(y2:Rat)=(L:Rat)*(y1:Rat):=by rw[<- e];grind
  rw[e2,<- NC,<- NC]at this;exact OL.mp this
 have b:L*y1<(k+1)*y2:=by
  have:=OW h2 py;have e2:(L:Rat)*ac y1 y2*(y2:Rat)=(L:Rat)*(y1:Rat):=by rw[<- e];grind
  have e3:((k:Rat)+1)=(((k+1:Int)):Rat):=by rw[Pk];rfl
  rw[e2,e3,<- NC,<- NC]at this;exact NJ.mp this
 have d:k<=L*y1/y2:=Int.le_ediv_of_mul_le hy a;have e':L*y1/y2<k+1:=Int.ediv_lt_of_lt_mul hy b;omega
inductive xn(C:Addr)(vs:List V)(H:Hp)(Q:VK)(E:XK):Prop
 |mk (a p x y:Addr) (G:Ex) (kb:Nat) (l1 l2 h1 h2 x1 x2 y1 y2:Int):vs=[.ref a,.ref p]->H a=some (.lst (G.map V.int))->H p=some (.tup [.ref x,.ref y])->RA C H x x1 x2->RA C H y y1 y2->Gd G kb->0<l2->0<h2->l1*h2<h1*l2->vw G (ac l1 l2)-vw G (ac h1 h2)=1->Nr G kb l1 l2 h1 h2 x1 x2 y1 y2->(∀ln,((ln=[]/\NoR G (ac l1 l2) (ac h1 h2))\/(ln.length=2/\Od G (ac l1 l2) (ac h1 h2) ln))->mkL H Q ln)->xn C vs H Q E
def GA(F:Fun K "line_of" "line_of" rO f fd)(T:Txt K mg)(R:RCI K mg C)(b9:KCal P w K mg base 2 C "Ratio" ["self","top","bottom"] (c9 C) eJ eI eM [.int 1])(pN:Cal P w K mg base 5 "times_floor" ["factor","ratio"] (qj C) JG Jp)(mH:MCal P w K mg base 2 C "against" ["self","other"] (mT C) AQ AJ)(fg:Cal P w K mg base 2 "sign_at" ["row","ratio"] (iy C) kt ko):FnOk P w K mg base aG 6 f fd ["whole","span"] (xn C):=by
 obtain⟨bJ,bI,bC,cC,cM,cL⟩:=b9;obtain⟨jA,ji,jx⟩:=mH;refine F.ok yi (λvs H Q E h=>?_) (λ_ A _ s H vs Q E hr h=>?_)
 ·obtain⟨a,p,x,y,G,kb,l1,l2,h1,h2,x1,x2,y1,y2,rfl,_⟩:=h;rfl
 ·obtain⟨a,p,x,y,G,kb,l1,l2,h1,h2,x1,x2,y1,y2,rfl,hA,hp,hx,hy,hW,l2p,h2p,lt,o,hN,kk⟩:=h;have kN:NoR G (ac l1 l2) (ac h1 h2)->mkL H Q []:=λz=>kk [] (.inl ⟨rfl,z⟩)
  have kL:∀p:Ex,p.length=2->Od G (ac l1 l2) (ac h1 h2) p->mkL H Q p:=λp z O=>kk p (.inr ⟨z,O⟩)
  refine⟨_,(ah (ap 2 yi (cD bI bJ (hr.mono) rfl bC cC .nil aR (aa (am pN hr (aa (cH K (pv 0) (cq ck af)) (aa (aZ K (pv 1) af) ae))) (aa (cH K (pv 0) (cq ck af)) ae))))
   (ah (aT (PW.pt (ly (aN fP (cN (pv 2) R.cl ji jA (hr.mono) jx .nil aR (aa (aZ K (pv 1) af) ae)) af) (lw (aN cI (am fg hr (aa (pv 0) (aa (pv 2) ae))) af))))
     (ak (az (cg (aa (cq ck (aB (K:=K) rfl (pv 2) rfl)) (aa (aB (K:=K) rfl (pv 2) rfl) ae)))))
     aV)
   (ak (az (cg ae))))),?_⟩
  have big:=sizeLine_eq;have en:=hN.ends;have hb:=hW.bits;have hP:=hW.fp.pln;have l5:=hW.fp.l5;have bl:=lY hb;have lp:=hP.pos;have lt':=(bB l2p h2p).mpr lt;have xy:=(bB en.l2p en.h2p).mpr en.lt;have B1:(1:Rat)<=2^kb:=gE (by decide) kb;refine aA ⟨_,rfl,_,rfl,a,_,_,_,rfl,rfl,SqL.of hA,oE hP.ne,_,rfl,p,_,_,_,rfl,rfl,SqT.of hp,rfl,y,ao G,y1,y2,rfl,hy,en.h2p,bl.mono,en.bh1.mono,en.bh2.mono,λH1 s1=>?_⟩;have bm:Bits 4400 (ao G*y1/y2):=Bits.of_le ((bl.mul en.bh1).mono (k:=4400) (by decide)) (Qk _ _);have l0:ao G≠0:=by omega
  have hfl:ao G*y1/y2*y2<=ao G*y1:=Int.ediv_mul_le _ (by have:=en.h2p;omega)
  have hit:∀r:Rat,ac l1 l2<r->r<=ac h1 h2->pv G r=0->ac x1 x2<r/\ac (rt (ao G*y1/y2) (ao G)) (rb (ao G*y1/y2) (ao G))=r:=λr r1 r2 hr=>by
   obtain⟨g1,g2,k,e1,e2,e3⟩:=Ig hP hW.fp.flt lt' o hN.lo xy hN.hi hN.ux hN.uy B1 hN.wide r1 r2 hr;refine⟨g1,?_⟩;rw[uH en.h2p lp e2 e3];have hc:=eE (cG (t:=k) l0) lp (d9 (t:=k) l0);rw[hc];have e4:=fL (a:=k) lp;have pl:(0:Rat)<(ao G:Rat):=NJ.mpr lp;rw[e1]at e4;generalize ac k (ao G)=z at *
   have:(ao G:Rat)*(z-r)=0:=by grind
   rcases Oo.mp this with q |q
   ·grind
   ·grind
  have hpos:=cG (t:=ao G*y1/y2) l0;have hgc:=gX (t:=ao G*y1/y2) l0;have hcr:=d9 (t:=ao G*y1/y2) l0;have bt:=dm l0 bm;have bb:=dA (t:=ao G*y1/y2) l0 bl
  have top:ac (rt (ao G*y1/y2) (ao G)) (rb (ao G*y1/y2) (ao G))<=ac y1 y2:=by rw[eE hpos lp hcr];exact(dj lp en.h2p).mpr (by rw[Om y1];exact hfl)
  generalize ao G*y1/y2=m at bm hit hpos hgc hcr bt bb top ⊢
  refine⟨_,rfl,_,rfl,a,_,_,_,rfl,rfl,SqL.of (s1 _ _ hA),oE hP.ne,cZ l0 (bl.mono) λr H2 s2 hr2 hR=>?_⟩;have t2:=s1.trans s2;obtain⟨dr,hR'⟩:=id hR;generalize rt m (ao G)=m1 at *
  generalize rb m (ao G)=m2 at *
  have sgl:∀c d:Int,sg (c-d)>0↔d<c:=λc d=>by unfold sg;split<;>(try split)<;>constructor<;>intro z<;>omega
  have none:(ac x1 x2<ac m1 m2->pv G (ac m1 m2)≠0)->NoR G (ac l1 l2) (ac h1 h2):=λhn r r1 r2 hr=>by obtain⟨g1,g2⟩:=hit r r1 r2 hr;rw[g2]at hn;exact hn g1 hr
  refine bV (j3 ⟨_,rfl,r,dr,_,rfl,hR',cB gH.1 gH.2,_,rfl,p,_,_,_,rfl,rfl,SqT.of (t2 _ _ hp),rfl,r,x,_,_,x1,x2,rfl,hR,hx.same t2,bt.mono,bb.mono,en.bl1.mono,en.bl2.mono,_,_,rfl,rfl,_,rfl,aQ (λh0=>?_) (λh0=>?_)⟩)
  ·have h0':=(bB en.l2p hpos).mpr ((sgl _ _).mp h0);refine⟨_,rfl,_,rfl,a,r,G,_,_,⟨rfl,t2 _ _ hA,hR,by omega,hb.mono,bt.mono,bb.mono⟩,λH3 s3=>⟨_,_,rfl,rfl,_,rfl,aQ (λh3=>?_) (λh3=>?_)⟩⟩
   ·have h3':sg (hv m1 m2 G)=0:=h3;rw[cA hpos]at h3';have hz:pv G (ac m1 m2)=0:=Classical.byContradiction λq=>sg_ne.mpr q h3'
    have hR3:=s3 _ _ hR'
    have pl:Pln [-m1,m2]:=⟨tr2 hpos,by simp,by
     show Nat.gcd (Nat.gcd 0 (-m1).natAbs) m2.natAbs=1
     rw[PX,Int.natAbs_neg];exact hgc,hpos⟩
    have dv:Dv [-m1,m2] G:=yv hpos hz;have fl:=hW.fp.flt.dv pl.tr (by show 2<=2;decide) (by show 2<=9;decide) dv;have in1:ac l1 l2<ac m1 m2:=by have:=hN.lo;grind
    have in2:ac m1 m2<=ac h1 h2:=NZ top hN.hi
    have one:vw [-m1,m2] (ac l1 l2)-vw [-m1,m2] (ac h1 h2)=1:=by
     have u:=hW.fp.flt.le fl dv lt';have mo:=fl.cnt.mono lt'
     have ne:vw [-m1,m2] (ac l1 l2)≠vw [-m1,m2] (ac h1 h2):=λq=>fl.cnt.free lt' q in1 in2 (by
      show((-m1:Int):Rat)+ac m1 m2*((m2:Rat)+ac m1 m2*0)=0;have:=fL (a:=m1) hpos
      rw[Ow];grind)
     omega
    refine aY ⟨_,rfl,r,C,dr,_,_,rfl,hR3,R.cl,R.nT,cK,_,rfl,_,rfl,r,C,dr,_,_,rfl,hR3,R.cl,R.nB,bX,by show 2<=sizeLine;omega,λq hq=>?_⟩;exact kL [-m1,m2] rfl ⟨pl,fl,dv,one⟩ q _ ((t2.trans s3).then_new hq) ((t2.trans s3).free hq) ax
   ·have h3':¬sg (hv m1 m2 G)=0:=h3;rw[cA hpos]at h3';exact aY ⟨Nw _,λq hq=>kN (none λ_=>sg_ne.mp h3') q _ ((t2.trans s3).then_new hq) ((t2.trans s3).free hq) ax⟩
  ·have h0':¬x1*m2<m1*x2:=λz=>h0 ((sgl _ _).mpr z)
   exact f9 (aY ⟨Nw _,λq hq=>kN (none λz=>absurd ((bB en.l2p hpos).mp z) h0') q _ (t2.then_new hq) (t2.free hq) ax⟩)
def xw:Sp:=λvs H Q _=>∃(a b:Addr) (xs ys:Ex) (n:Nat),vs=[.ref b,.ref a]/\H a=some (.lst (xs.map V.int))/\H b=some (.lst (ys.map V.int))/\ys≠[]/\AllB n xs/\AllB n ys/\(xs.length+2)*(n+1)<=1000000/\ys.length<=1000000/\∀H',Same H H'->Q (.bl (decide (aO xs ys=[]))) H'
def GK(F:Fun K "divides" "divides" rX f fd)(T:Txt K mg)(jC:Cal P w K mg base 2 "divided" ["first","second"] kS uM uK):FnOk P w K mg base aG 3 f fd ["divisor","row"] xw:=by
 refine F.ok D7 (λvs H Q E h=>?_) (λ_ A _ s H vs Q E hr h=>?_)
 ·obtain⟨a,b,xs,ys,n,rfl,_⟩:=h;rfl
 ·obtain⟨a,b,xs,ys,nb,rfl,hA,hB,hy,bx,by',hsz,hyn,k⟩:=h;have hu:=hr.units;refine⟨_,(ak (az (ke (jh (K:=K) rfl hu) (aZ K (am jC hr (aa (pv 1) (aa (pv 0) ae))) af) (cg ae)))),?_⟩;refine aY ⟨_,rfl,_,rfl,a,b,xs,ys,nb,rfl,hA,hB,hy,bx,by',hsz,hyn,λt q r H1 sm1 ht hq hr' _ _ _ et eq er=>?_⟩;refine⟨t,_,_,_,rfl,rfl,SqT.of et,rfl,Nw _,λp hp=>?_⟩;exact⟨r,p,_,[],rfl,rfl,SqL.of (by rw[upd_ne (bn er hp)];exact er),SqL.of ax,k _ (sm1.then_new hp)⟩
def ul(t:Int):ac t 1=(t:Rat):=by have:=jm (t:=t) (n:=1) (by decide);have c1:((1:Int):Rat)=1:=rfl;rw[c1,Rat.mul_one]at this;exact this
def zT(kb:Nat):ac (2^kb) 1=(2:Rat)^kb/\ac (-(2^kb)) 1 = -((2:Rat)^kb):=by
 refine⟨?_,?_⟩
 ·rw[ul,gQ]
 ·rw[ul,Ow,gQ]
def Gd.far{G:Ex}{kb:Nat}(h:Gd G kb):(∀x:Rat,x <= -(2^kb)->vw G x=vw G (-(2^kb))/\pv G x≠0)/\∀x:Rat,2^kb<=x->vw G x=vw G (2^kb)/\pv G x≠0:=by
 obtain⟨r,n1,n2⟩:=h.fp.rts h.isb.1;obtain⟨B,hB,h1,h2⟩:=r.lim;have C:=h.fp.flt.cnt;have p2:(0:Rat)<2^kb:=OC (by decide);refine⟨λx hx=>⟨?_,n1 x hx⟩,λx hx=>⟨?_,n2 x hx⟩⟩
 ·rcases NG (a:=x) (b := -B)with z |z
  ·exact(h1 x z).1
  ·have e1:=(h1 (-B) Nt).1;have a:=C.le z;have b:=C.le hx;omega
 ·have key:vw G x=vw G (-(2^kb))-(vw G (-(2^kb))-vw G (2^kb)):=by
   rcases NG (a:=B) (b:=x)with z |z
   ·exact(h2 x z).1
   ·have e1:=(h2 B Nt).1;have a:=C.le z;have b:=C.le hx;omega
  omega
structure Sn(G:Ex)(kb:Nat)(l1 l2 h1 h2:Int):Prop where
 gd:Gd G kb
 en:EndsG 710 l1 l2 h1 h2
 one:vw G (ac l1 l2)-vw G (ac h1 h2)=1
 lo : -(2^kb)<=ac l1 l2
 hi:ac h1 h2<=2^kb
def Sn.lt{G:Ex}{kb:Nat}{l1 l2 h1 h2:Int}(s:Sn G kb l1 l2 h1 h2):ac l1 l2<ac h1 h2:=(bB s.en.l2p s.en.h2p).mpr s.en.lt
def xG{C:Addr}{H:Hp}{G:Ex}{kb:Nat}{c:Cel}(g:Gd G kb)(h:FdH C H G kb c):Sn G kb c.l1 c.l2 c.h1 c.h2:=by obtain⟨b1,b2,b3,b4⟩:=oZ h.dy g.k24 h.dd;obtain⟨i1,i2,_⟩:=jo h.dy;have lt:=gn h.dy;exact⟨g,⟨h.dy.l2p,h.dy.h2p,b1,b2,b3,b4,(bB h.dy.l2p h.dy.h2p).mp lt,h.dy.gl,h.dy.gh⟩,h.one,i1,i2⟩
def Dj{G q:Ex}{kb:Nat}{l1 l2 h1 h2 c1 c2 d1 d2 x1 x2 y1 y2 p1 p2 q1 q2 t1 t2 m1 m2:Int}(s:Sn G kb l1 l2 h1 h2)(sc:Sn G kb c1 c2 d1 d2)(N1:Nr G kb l1 l2 h1 h2 x1 x2 y1 y2)(N2:Nr G kb c1 c2 d1 d2 p1 p2 q1 q2)(Q:Od G (ac l1 l2) (ac h1 h2) q)(h3:q.length=3)(oc:vw q (ac c1 c2)-vw q (ac d1 d2)=1)(ne:vw q (ac d1 d2)≠vw q (ac h1 h2))(hS:SqR x1 x2 y1 y2 p1 p2 q1 q2 t1 t2 m1 m2) :
 aq [ao G*m1/m2,-(ao G*t1/t2),ao G]=q:=by
 have hG:=s.gd.fp;have Qc:Od G (ac c1 c2) (ac d1 d2) q:=⟨Q.pln,Q.flt,Q.dv,oc⟩;have C:=Q.flt.cnt;have lt:=s.lt;have ltc:=sc.lt;have xy:=(bB N1.ends.l2p N1.ends.h2p).mpr N1.ends.lt;have pq:=(bB N2.ends.l2p N2.ends.h2p).mpr N2.ends.lt;have e1:=(fi hG.flt lt s.one Q N1.lo (NZ (Np xy) N1.hi)).mpr N1.ux;have e3:=(fi hG.flt ltc sc.one Qc N2.lo (NZ (Np pq) N2.hi)).mpr N2.ux
 have e2:vw q (ac y1 y2)=vw q (ac h1 h2):=by
  have a:=C.le N1.hi;have k:=(fi hG.flt lt s.one Q (NZ N1.lo (Np xy)) N1.hi);have n:¬vw G (ac y1 y2)=vw G (ac l1 l2):=λz=>by have:=N1.uy;have:=s.one;omega
  have n':¬vw q (ac y1 y2)=vw q (ac l1 l2):=λz=>n (k.mp z)
  have b:=C.le (NZ N1.lo (Np xy));have:=Q.one;omega
 have e4:vw q (ac q1 q2)=vw q (ac d1 d2):=by
  have a:=C.le N2.hi;have k:=(fi hG.flt ltc sc.one Qc (NZ N2.lo (Np pq)) N2.hi);have n:¬vw G (ac q1 q2)=vw G (ac c1 c2):=λz=>by have:=N2.uy;have:=sc.one;omega
  have n':¬vw q (ac q1 q2)=vw q (ac c1 c2):=λz=>n (k.mp z)
  have b:=C.le (NZ N2.lo (Np pq));omega
 have B1:(1:Rat)<=2^kb:=gE (by decide) kb;have mx:=hS.mx;have i1:=mx.c1;have i2:=mx.c2;have i3:=mx.c3;have i4:=mx.c4;have im:=mx.is;have isum:=hS.sum;have a1:=N1.lo;have a2:=N1.hi;have a3:=N2.lo;have a4:=N2.hi;have s1:=s.lo;have s2:=s.hi;have s3:=sc.lo;have s4:=sc.hi;have o1:=Q.one;obtain⟨a,sm,p,eq,ea,f1,f2,f3,f4⟩:=Di (x1:=ac x1 x2) (y1:=ac y1 y2) (x2:=ac p1 p2) (y2:=ac q1 q2) (B:=2^kb) (M:=ac m1 m2) hG.pln Q.pln Q.flt h3 Q.dv B1 xy pq (by omega) (by omega) (by omega) ⟨by grind,by grind⟩ ⟨by grind,by grind⟩ ⟨by grind,by grind⟩ ⟨by grind,by grind⟩ N1.wide N2.wide i1 i2 i3 i4 im;have lp:=hG.pln.pos;have es:ac t1 t2=ac y1 y2+ac q1 q2:=isum;rw[<- es]at f3 f4;rw[uH mx.m2p lp f1 f2,uH hS.t2p lp f3 f4,Int.neg_neg];exact eq.symm
def xl(C:Addr):Sp:=λvs H Q _=>∃(a l h:Addr) (G:Ex) (kb:Nat) (l1 l2 h1 h2:Int),vs=[.ref a,.ref l,.ref h]/\H a=some (.lst (G.map V.int))/\RA C H l l1 l2/\RA C H h h1 h2/\Sn G kb l1 l2 h1 h2/\∀p,LS G (ac l1 l2) (ac h1 h2) p->mkL H Q p
def GC(F:Fun K "least" "least" rP f fd)(T:Txt K mg)(fF:Cal P w K mg base 34 "plain" ["row"] iT mf me)(d6:Cal P w K mg base 1 "degree" ["row"] iA ku kq)(Lx:Cal P w K mg base 4 "fine_width" ["whole"] (xu C) M7 Ml)(kH:Cal P w K mg base 6 "narrowed" ["row","low","high","width"] (mR C) AO AI)(Lq:Cal P w K mg base 6 "line_of" ["whole","span"] (xn C) MX Me)(vN:Cal P w K mg base 36 "cells" ["row"] (qz C) JS JB)(La:Cal P w K mg base 35 "square_of" ["whole","span","other"] (wP C) MG LV)(Ly:Cal P w K mg base 3 "divides" ["divisor","row"] xw M8 Mm)(vM:Cal P w K mg base 4 "count" ["row","low","high"] (qx C) JP Jy)(vH:Cal P w K mg base 35 "row_of" ["polynomial"] qp JL Ju):FnOk P w K mg base aG 37 f fd ["row","low","high"] (xl C):=by
 refine F.ok iY (λvs H Q E h=>?_) (λ_ A _ s H vs Q E hr h=>?_)
 ·obtain⟨a,l,h,G,kb,l1,l2,h1,h2,rfl,_⟩:=h;rfl
 ·obtain⟨a,l,h,G,kb,l1,l2,h1,h2,rfl,hA,hl,hh,hS,k⟩:=h;have hu:=hr.units;have big:=sizeLine_eq;have hg:=hS.gd;have en:=hS.en;have hP:=hg.fp.pln;have fG:=hg.fp.flt;have l5:=hg.fp.l5;have l2':=fG.l2;have hb:=hg.bits;have lt:=hS.lt;have hml:(G.map V.int).length=G.length:=No _;have hL:=hP.pos;have self:=zk fG hP hS.one
  refine⟨_,(ah (ap 3 iY (am fF hr (aa (pv 0) ae)))
   (ah (aT (aN fO (am d6 hr (aa (pv 3) ae)) af)
     (ak (az (pv 3)))
     aV)
   (ah (ap 4 iY (am Lx hr (aa (pv 3) ae)))
   (ah (ap 5 iY (am kH hr (aa (pv 3) (aa (pv 1) (aa (pv 2) (aa (pv 4) ae))))))
   (ah (ap 6 iY (am Lq hr (aa (pv 3) (aa (pv 5) ae))))
   (ah (aT (aN (lH (K:=K) rfl hu) (pv 6) (cg ae))
     (ak (az (pv 6)))
     aV)
   (ah (aT (aN cI (am d6 hr (aa (pv 3) ae)) af)
     (ak (az (pv 3)))
     aV)
   (ah (dQ PassesOwn.never rfl (gF (K:=K) rfl (am vN hr (aa (pv 3) ae))) (de 7 iY)
     (ah (ap 8 iY (am La hr (aa (pv 3) (aa (pv 5) (aa (am kH hr (aa (pv 3) (aa (aZ K (pv 7) af) (aa (aZ K (pv 7) af) (aa (pv 4) ae))))) ae)))))
       (ak (aT (PW.pt (ly (iD (am Ly hr (aa (pv 8) (aa (pv 3) ae)))) (lw (aN cI (am vM hr (aa (am vH hr (aa (pv 8) ae)) (aa (pv 1) (aa (pv 2) ae)))) af))))
         (ak (az (pv 8)))
         aV))))
   (ak (az (pv 3))))))))))),?_⟩
  refine aA ⟨_,rfl,a,G,rfl,hA,hP.tr,by omega,λp H1 s1 hp e1=>?_⟩;rw[hP.plain]at e1;refine bV ⟨_,rfl,p,_,rfl,e1,_,_,rfl,rfl,_,rfl,aQ (λh0=>?_) (λh0=>?_)⟩
  ·have h0':((G.map V.int).length:Int)-1<2:=h0;rw[hml]at h0';exact⟨_,rfl,k G ⟨self,.inl (by omega)⟩ p H1 s1 hp e1⟩
  refine aA ⟨_,rfl,p,G,kb,rfl,e1,hg,λwd H2 s2 hwd hWd hD bD=>?_⟩;have t2:=s1.trans s2;have e2:=s2 _ _ e1;obtain⟨ε,ru⟩:=j0 fG en.l2p en.h2p en.lt hS.one self;refine aA ⟨_,rfl,_,rfl,_,rfl,_,rfl,p,l,h,wd,G,l1,l2,h1,h2,1,8*ao G*2^kb,710,520,ε,_,rfl,e2,hP.tr,hP.ne,by omega,hb.mono,hl.same t2,hh.same t2,hWd,en,by decide,hD,cO (by decide),bD,by decide,by decide,by decide,ru,λps x y H3 n pl x1 x2 y1 y2 s3 hps e3 hx hy nar=>?_⟩;have t3:=t2.trans s3;have ep3:=s3 _ _ e2;have N1:=zn fG en.l2p en.h2p hS.one (by decide) nar;refine aA ⟨_,rfl,_,rfl,p,ps,x,y,G,kb,l1,l2,h1,h2,x1,x2,y1,y2,rfl,ep3,e3,hx,hy,hg,en.l2p,en.h2p,en.lt,hS.one,N1,λln hln pl' H4 s4 hpl e4=>?_⟩;refine bV ⟨_,rfl,Nw _,λp0 hp0=>?_⟩;have s5:=Same.upd_new (o:=.lst []) hp0;refine⟨pl',p0,ln,[],rfl,rfl,SqL.of (s5 _ _ e4),SqL.of ax,_,rfl,eR (λh3=>?_) (λh3=>?_)⟩
  ·have h3':ln≠[]:=h3;rcases hln with⟨z,_⟩ |⟨z,O⟩
   ·exact absurd z h3'
   ·exact⟨_,rfl,k ln ⟨O,.inl z⟩ pl' _ (t3.trans (s4.trans s5)) (t3.free hpl) (s5 _ _ e4)⟩
  have h3':ln=[]:=h3
  have hn:NoR G (ac l1 l2) (ac h1 h2):=by
   rcases hln with⟨_,z⟩ |⟨z,_⟩
   ·exact z
   ·rw[h3']at z;cases z
  generalize upd H4 p0 (.lst [])=H5 at s5 ⊢
  have u5:=s3.trans (s4.trans s5);have ep5:=u5 _ _ e2;refine bV ⟨_,rfl,p,_,rfl,ep5,_,_,rfl,rfl,_,rfl,aQ (λh0=>?_) (λh0=>?_)⟩
  ·have h0':((G.map V.int).length:Int)-1=2:=h0;rw[hml]at h0';exact⟨_,rfl,k G ⟨self,.inr (.inl ⟨hn,by omega⟩)⟩ p H5 (t2.trans u5) hp ep5⟩
  refine⟨_,rfl,.inl ⟨p,G,rfl,ep5,hg.wk,λkb' pc ys H6 hB' s6 hpc ec hys hcov hyl hrise=>?_⟩⟩;obtain rfl:=oF hg.isb hB';have t5:=t2.trans u5;have u6:=u5.trans s6;have hql:(qs ys).length=ys.length:=No _;refine⟨pc,rfl,⟨_,SqL.of ec⟩,uF (K:=K) (a:=pc) (xs:=qs ys) (λi Q2 H'=>∃(z7 z8:Option V),Q2=[some (.ref a),some (.ref l),some (.ref h),some (.ref p),some (.ref wd),some (.ref ps),some (.ref pl'),z7,z8]/\Same H6 H'/\∀(j:Nat) (c:Cel),j<i->ys[j]?=some c->∀q,Od G (ac l1 l2) (ac h1 h2) q->q.length=3->¬(vw q c.a-vw q c.b=1/\vw q c.b≠vw q (ac h1 h2))) ⟨none,none,rfl,Same.refl _,λj c hj=>absurd hj (Pq _)⟩ ?_ ?_ ?_⟩
  ·rintro i Q2 H' _ ⟨z7,z8,rfl,sm,_⟩;exact SqL.of (sm _ _ ec)
  ·rintro i z Q2 H' hi ⟨z7,z8,rfl,sm,hno⟩
   have hil:i<ys.length:=by apply Classical.byContradiction;intro hn;rw[List.getElem?_eq_none_iff.mpr (by rw[hql];omega)]at hi;cases hi
   have ey:ys[i]?=some ys[i]:=List.getElem?_eq_getElem hil
   have hz:z=V.ref ys[i].q:=by
    unfold qs at hi
    rw[List.getElem?_map,ey]at hi;exact(Option.some.inj hi).symm
   subst hz;generalize hc0:ys[i]=c at *
   have hcf:=(hys c (by rw[<- hc0];exact OI hil)).nl (NL.of sm);have sc:=xG hg hcf;have dE:=sc.en;obtain⟨εc,ruc⟩:=j0 fG dE.l2p dE.h2p dE.lt sc.one (zk fG hP sc.one);have u7:=u6.trans sm;have t7:=t2.trans u7;refine aA ⟨_,rfl,_,rfl,_,rfl,_,rfl,c.q,_,_,_,rfl,rfl,SqT.of hcf.tup,rfl,_,rfl,c.q,_,_,_,rfl,rfl,SqT.of hcf.tup,rfl,_,rfl,p,c.lo,c.hi,wd,G,c.l1,c.l2,c.h1,c.h2,1,8*ao G*2^kb,710,520,εc,_,rfl,u7 _ _ e2,hP.tr,hP.ne,by omega,hb.mono,hcf.lo,hcf.hi,hWd.same u7,dE,by decide,hD,cO (by decide),bD,by decide,by decide,by decide,ruc,λps' x' y' H7 n' pl7 p1 p2 q1 q2 s7 hps' e7 hx' hy' nar'=>?_⟩;have N2:=zn fG dE.l2p dE.h2p sc.one (by decide) nar';have u8:=u7.trans s7;have v8:=(s4.trans s5).trans (s6.trans (sm.trans s7));have tw:TwoS C H7 ps ps' x y x' y' x1 x2 y1 y2 p1 p2 q1 q2:=⟨v8 _ _ e3,e7,hx.same v8,hy.same v8,hx',hy',nar.ends,nar'.ends⟩;refine⟨p,ps,ps',x,y,x',y',G,x1,x2,y1,y2,p1,p2,q1,q2,rfl,u8 _ _ e2,hP,hb.mono,tw,λt1 t2' m1 m2 hS' psq H8 s8 hpsq e8=>?_⟩;have bl:=lY hb;have trE:Tr [ao G*m1/m2,-(ao G*t1/t2'),ao G]:=(tr_snoc (r:=[ao G*m1/m2,-(ao G*t1/t2')])).mpr (by omega);have hPE:=cX trE (by simp);have hlE:(aq [ao G*m1/m2,-(ao G*t1/t2'),ao G]).length=3:=RM.plain_len _
   have bE:AllB 8500 (aq [ao G*m1/m2,-(ao G*t1/t2'),ao G]):=by
    refine jd λv hv=>?_
    rcases NR.mp hv with rfl |hv
    ·exact Bits.of_le ((bl.mul hS'.mx.b1).mono (k:=8500) (by decide)) (Qk _ _)
    rcases NR.mp hv with rfl |hv
    ·exact(Bits.of_le ((bl.mul hS'.bt).mono (k:=8500) (by decide)) (Qk _ _)).neg
    ·rw[NU.mp hv];exact bl.mono
   have fell:∀q,Od G (ac l1 l2) (ac h1 h2) q->q.length=3->vw q c.a-vw q c.b=1/\vw q c.b≠vw q (ac h1 h2)->aq [ao G*m1/m2,-(ao G*t1/t2'),ao G]=q:=λq O h3q hq=>Dj hS sc N1 N2 O h3q hq.1 hq.2 hS'
   generalize aq [ao G*m1/m2,-(ao G*t1/t2'),ao G]=Es at e8 hPE hlE bE fell
   have u9:=u8.trans s8;have t9:=t2.trans u9
   have next:∀H',Same H8 H'->(∀q,Od G (ac l1 l2) (ac h1 h2) q->q.length=3->¬(vw q c.a-vw q c.b=1/\vw q c.b≠vw q (ac h1 h2)))->∃(z7 z8:Option V),[some (V.ref a),some (V.ref l),some (V.ref h),some (V.ref p),some (V.ref wd),some (V.ref ps),some (V.ref pl'),some (V.ref c.q),some (V.ref psq)]=[some (V.ref a),some (V.ref l),some (V.ref h),some (V.ref p),some (V.ref wd),some (V.ref ps),some (V.ref pl'),z7,z8]/\Same H6 H'/\∀(j:Nat) (c:Cel),j<i+1->ys[j]?=some c->∀q,Od G (ac l1 l2) (ac h1 h2) q->q.length=3->¬(vw q c.a-vw q c.b=1/\vw q c.b≠vw q (ac h1 h2)):=λH' s' hn'=>⟨_,_,rfl,sm.trans (s7.trans (s8.trans s')),λj c' hj ej=>by
    rcases Nat.lt_or_eq_of_le (Nat.lt_succ_iff.mp hj)with v |v
    ·exact hno j c' v ej
    ·subst v;rw[ey]at ej
     rw[<- Option.some.inj ej];exact hn'⟩
   refine j3 ⟨_,rfl,_,rfl,p,psq,G,Es,8500,rfl,u9 _ _ e2,e8,hPE.ne,hb.mono,bE,by have:(G.length+2)*(8500+1)<=7*8501:=O2 _ (by omega);omega,by omega,λH9 s9=>?_⟩;refine⟨_,rfl,aQ (λhd=>?_) (λhd=>?_)⟩
   ·have hd':aO G Es=[]:=hd;have dE':Dv Es G:=JY hPE.ne hPE.tr hd';have fE:Flt Es:=fG.dv hPE.tr (by omega) (by omega) dE'
    have bS:AllB 100 Es:=λv hv=>by obtain⟨n,hn,rfl⟩:=g8 hv;obtain⟨u,pu,eu⟩:=dE'.fellow hPE hP.tr hP.ne;rw[hP.plain]at eu;exact Ou (uL (M:=16000000) hP.tr hP.ne eu (by omega) (λv hv=>by have:=hg.fp.hgt v hv;omega) n) (by decide)
    obtain⟨rn,_,r3⟩:=yq hPE.tr (bS.mono) (by omega)
    have rx:∀xs∈cQ Es,xs.length<=20/\AllB 95000 xs:=λxs hx=>by obtain⟨_,b,l⟩:=r3 xs hx;exact⟨by omega,b.mono⟩
    have rl:(cQ Es).length<=1000000:=by have:=k9 9 (aj Es) (aj (slopeL Es));show(bj 9 _ _).length<=_;omega
    refine⟨_,rfl,psq,Es,9,rfl,s9 _ _ e8,hPE.tr,bE.mono,by omega,by decide,rn,λlr rs H10 s10 hlr hnew el hR=>?_⟩;have t10:=(t9.trans s9).trans s10;have hR':RwH H10 rs (cQ Es):=hR;refine⟨_,rfl,_,rfl,lr,l,h,rs,cQ Es,l1,l2,h1,h2,rfl,el,hR',hl.same t10,hh.same t10,en.bl1.mono,en.bl2.mono,en.bh1.mono,en.bh2.mono,rx,rl,λH11 s11=>(au ⟨_,rfl,aQ (λh4=>?_) (λh4=>?_)⟩)⟩
    ·have h4':VV Es l1 l2-VV Es h1 h2=1:=h4;rw[kC en.l2p,kC en.h2p]at h4';have w11:=s9.trans (s10.trans s11);refine aY ⟨_,rfl,?_⟩;exact k Es ⟨⟨hPE,fE,dE',h4'⟩,.inr (.inl ⟨hn,hlE⟩)⟩ psq H11 (t9.trans w11) ((t2.trans u8).free hpsq) (w11 _ _ e8)
    ·have h4':¬VV Es l1 l2-VV Es h1 h2=1:=h4;rw[kC en.l2p,kC en.h2p]at h4';refine next _ (s9.trans (s10.trans s11)) λq O h3q hq=>h4' ?_
     rw[fell q O h3q hq];exact O.one
   ·have hd':¬aO G Es=[]:=hd;refine f9 (next _ s9 λq O h3q hq=>hd' ?_);rw[fell q O h3q hq];exact O.dv.rest O.pln.ne O.pln.tr
  ·rintro Q2 H' ⟨z7,z8,rfl,sm,hno⟩
   have hq:NoQ G (ac l1 l2) (ac h1 h2):=λq pq h3q dq oq=>by
    have Oq:Od G (ac l1 l2) (ac h1 h2) q:=⟨pq,fG.dv pq.tr (by omega) (by omega) dq,dq,oq⟩;obtain⟨f1,f2⟩:=hg.far;obtain⟨b1,b2⟩:=zT kb;rw[b1,b2]at hcov
    obtain⟨c,hc,c1,c2⟩:=FE (cs:=ys.map λy=>(y.a,y.b)) fG Oq h3q (OC (by decide)) f1 f2 (List.pairwise_map.mpr (by have h:=hrise;unfold fe at h;exact h)) (λc hc=>by
     obtain⟨y,hy,rfl⟩:=NF.mp hc;have fy:=hys y hy;obtain⟨i1,i2,_⟩:=jo fy.dy
     exact⟨gn fy.dy,fy.one,i1,i2⟩) (by rw[No];exact hcov)
    obtain⟨y,hy,rfl⟩:=NF.mp hc;obtain⟨j,hj,ej⟩:=Qd.mp hy;exact hno j y (by rw[hql];exact hj) (by rw[<- ej];exact List.getElem?_eq_getElem hj) q Oq h3q ⟨c1,c2⟩
   have ep6:=(s6.trans sm) _ _ ep5;have l4:¬((G.map V.int).length:Int)-1=2:=h0;exact⟨_,rfl,k G ⟨self,.inr (.inr ⟨hn,hq,rfl⟩)⟩ p H' (t5.trans (s6.trans sm)) hp ep6⟩
def LS.sub{G p:Ex}{l h x y:Rat}(hG:Flt G)(lt:l<h)(o:vw G l-vw G h=1)(L:LS G l h p)(lx:l<=x)(xy:x<y)(yh:y<=h)(ex:vw G x=vw G l)(ey:vw G y=vw G h):LS G x y p:=by
 have C:=L.od.flt.cnt
 have px:∀{q:Ex},Od G l h q->vw q x=vw q l/\vw q y=vw q h:=λ{q} O=>by
  have a:=(fi hG lt o O lx (NZ (Np xy) yh)).mpr ex;have b:=fi hG lt o O (NZ lx (Np xy)) yh;have n:¬vw G y=vw G l:=λz=>by omega
  have n':¬vw q y=vw q l:=λz=>n (b.mp z)
  have c1:=O.flt.cnt.le (NZ lx (Np xy));have c2:=O.flt.cnt.le yh;have:=O.one;exact⟨a,by omega⟩
 have nr:NoR G l h->NoR G x y:=λn r r1 r2=>n r (by grind) (by grind)
 obtain⟨e1,e2⟩:=px L.od;have o1:=L.od.one;refine⟨⟨L.od.pln,L.od.flt,L.od.dv,by omega⟩,?_⟩;rcases L.kd with z |⟨z1,z2⟩ |⟨z1,z2,z3⟩
 ·exact .inl z
 ·exact .inr (.inl ⟨nr z1,z2⟩)
 ·refine .inr (.inr ⟨nr z1,λq pq h3 dq oq=>z2 q pq h3 dq ?_,z3⟩);have fq:Flt q:=hG.dv pq.tr (by omega) (by omega) dq;have k:=hG.le fq dq lt;have c1:=fq.cnt.le lx;have c2:=fq.cnt.le yh;omega
def Av{kb d kk n pl:Nat}{u1 u2 v1 v2 w1 w2 x1 x2 y1 y2:Int}{Up:Int->Int->Prop}(h:Dya (2^kb) d u1 u2 v1 v2)(lt:u1*v2<v1*u2)(w1p:0<w1)(hw:w1*(v2*u2*2)=(v1*u2-u1*v2)*w2)(N:NarP u1 u2 v1 v2 w1 w2 Up kk n pl x1 x2 y1 y2):Dya (2^kb) (d+1) x1 x2 y1 y2:=by
 have u2p:=h.l2p;have v2p:=h.h2p;have vu:0<v2*u2:=NH v2p u2p;have wv:0<w1*(v2*u2):=NH w1p vu
 have n1:n=1:=by
  have f:=N.fit;rw[<- hw]at f;have e:w1*(v2*u2*2)=w1*(v2*u2)*2:=by grind
  rw[e]at f;have n0:n≠0:=λz=>by rw[z,On]at f;omega
  have n2:¬1<n:=λz=>by have b:=N.big 1 z;rw[<- hw,e,Int.pow_one]at b;omega
  omega
 subst n1;have hpl:=N.pls;obtain⟨m,m0,m1,e1,e2⟩:=h.at';have ex:=N.ex;have ey:=N.ey;rw[Int.pow_one]at ex ey;refine⟨N.ends.l2p,N.ends.h2p,N.ends.gl,N.ends.gh,2*m+(pl:Int),by omega,?_,?_,?_⟩
 ·rw[NO];have hpl':pl<2:=hpl;omega
 ·rw[NO];have hc:(0:Int)<u2*v2:=NH u2p v2p;refine PM (N9 hc) ?_;have a1:u2*v2*(x1*(2^d*2))=(x1*(u2*v2*2))*2^d:=by grind
  have a2:(u1*v2*2+(v1*u2-u1*v2)*(pl:Int))*x2*2^d=((u1*2^d)*v2*2+((v1*2^d)*u2-(u1*2^d)*v2)*(pl:Int))*x2:=by grind
  rw[a1,ex,a2,e1,e2];generalize (2:Int)^d=D;generalize (2:Int)^kb=B;grind
 ·rw[NO];have hc:(0:Int)<u2*v2:=NH u2p v2p;refine PM (N9 hc) ?_;have a1:u2*v2*(y1*(2^d*2))=(y1*(u2*v2*2))*2^d:=by grind
  have a2:(u1*v2*2+(v1*u2-u1*v2)*((pl:Int)+1))*y2*2^d=((u1*2^d)*v2*2+((v1*2^d)*u2-(u1*2^d)*v2)*((pl:Int)+1))*y2:=by grind
  rw[a1,ey,a2,e1,e2];generalize (2:Int)^d=D;generalize (2:Int)^kb=B;grind
def Jo{G:Ex}{kb d:Nat}{u1 u2 v1 v2:Int}(g:Gd G kb)(h:Dya (2^kb) d u1 u2 v1 v2)(hd:420<=d)(o:vw G (ac u1 u2)-vw G (ac v1 v2)=1)(hz:pv G (ac u1 u2)=0):False:=by
 obtain⟨i1,i2,i3⟩:=jo h;have lt:=gn h;have C:=g.fp.flt.cnt;obtain⟨f1,f2⟩:=g.far;have k24:=jF g.k24;obtain⟨m,m0,m1,e1,e2⟩:=h.at';have D0:(0:Rat)<2^d:=OC (by decide);have B0:(0:Rat)<2^kb:=OC (by decide)
 have eu:ac u1 u2*2^d=2*(m:Rat)*2^kb-2^kb*2^d:=by have q:=eE h.l2p (OG (by decide):(0:Int)<2^d) e1;have p:=jm (t:=2*m*2^kb-2^kb*2^d) (OG (by decide):(0:Int)<2^d);rw[<- q,gQ,Pt,NC,NC,NC,gQ,gQ]at p;exact p
 have m1':1<=m:=by
  rcases Int.lt_or_le 0 m with z |z
  ·omega
  ·exfalso;have mz:m=0:=by omega
   rw[mz]at eu;have c0:((0:Int):Rat)=0:=rfl;rw[c0]at eu;have:ac u1 u2 <= -(2^kb):=du D0 (by grind);exact(f1 _ this).2 hz
 have m1r:(1:Rat)<=(m:Rat):=OL.mpr m1';generalize hW:ac v1 v2-ac u1 u2=W at *
 have lowb : -(2^kb)<=ac u1 u2-W:=by refine du D0 ?_;have:=Oh m1r (Np B0);grind
 have wide:(ac v1 v2-(ac u1 u2-W))*2^391<=1:=by
  have u:=jF hd;have W0:0<W:=by grind
  have a:=NE u (Np W0);have e420:(2:Rat)^420=2^391*(2*2^28):=by decide +kernel
  have p28:2*(2:Rat)^24*2<=2*2^28:=by decide +kernel
  have p0:(0:Rat)<2*2^28:=by decide +kernel
  rw[e420]at a;have e3:ac v1 v2-(ac u1 u2-W)=2*W:=by grind
  rw[e3];generalize (2:Rat)^391=X at *
  generalize 2*(2:Rat)^28=Y at *
  generalize (2:Rat)^24=Z at *
  generalize (2:Rat)^kb=B at *
  refine du p0 ?_;grind
 have few:=Flt.few g.fp (show ac u1 u2-W<ac v1 v2 by grind) ⟨by grind,by grind⟩ ⟨by grind,by grind⟩ wide;have n:=C.mono (show ac u1 u2-W<ac u1 u2 by grind);have ne:vw G (ac u1 u2-W)≠vw G (ac u1 u2):=λq=>C.free (show ac u1 u2-W<ac u1 u2 by grind) q (show ac u1 u2-W<ac u1 u2 by grind) Nt hz
 omega
def NmH(C CN:Addr)(H:Hp)(x:Addr)(p:Ex)(l1 l2 h1 h2:Int):Prop:=∃q l h,NA CN H x q l h/\H q=some (.lst (p.map V.int))/\RA C H l l1 l2/\RA C H h h1 h2
def NmH.same{C CN:Addr}{H H':Hp}{x:Addr}{p:Ex}{l1 l2 h1 h2:Int}(n:NmH C CN H x p l1 l2 h1 h2)(s:Same H H'):NmH C CN H' x p l1 l2 h1 h2:=by obtain⟨q,l,h,a,b,c,d⟩:=n;exact⟨q,l,h,a.same s,s _ _ b,c.same s,d.same s⟩
structure Nm(G:Ex)(kb:Nat)(p:Ex)(l1 l2 h1 h2:Int):Prop where
 sn:Sn G kb l1 l2 h1 h2
 ls:LS G (ac l1 l2) (ac h1 h2) p
 ne:pv p (ac l1 l2)≠0
 dy:∃d,d<=420/\Dya (2^kb) d l1 l2 h1 h2
def kh{G p:Ex}{l h:Rat}{kb:Nat}(g:Gd G kb)(O:Od G l h p):p.length<=5/\AllB 100 p:=by
 obtain⟨u,pu,eu⟩:=O.dv.fellow O.pln g.fp.pln.tr g.fp.pln.ne;rw[g.fp.pln.plain]at eu;have l5:=g.fp.l5;refine⟨?_,λv hv=>?_⟩
 ·have h1:=bK pu.ne O.pln.ne;have h2:=Nz.mpr pu.ne;rw[eu]at h1;omega
 ·obtain⟨n,hn,rfl⟩:=g8 hv;exact Ou (uL (M:=16000000) g.fp.pln.tr g.fp.pln.ne eu (by omega) (λv hv=>by have:=g.fp.hgt v hv;omega) n) (by decide)
def xF{G:Ex}{kb d:Nat}{l1 l2 h1 h2:Int}(g:Gd G kb)(h:Dya (2^kb) d l1 l2 h1 h2)(hd:d<=600)(o:vw G (ac l1 l2)-vw G (ac h1 h2)=1):Sn G kb l1 l2 h1 h2:=by have k:=g.k24;obtain⟨⟨a,b⟩,c,e⟩:=h.bits;have hp:2^(kb+d)<2^710:=(PR (by decide)).mpr (by omega);obtain⟨i1,i2,_⟩:=jo h;have lt:=gn h;exact⟨g,⟨h.l2p,h.h2p,Ou a hp,Ou b hp,Ou c hp,Ou e hp,(bB h.l2p h.h2p).mp lt,h.gl,h.gh⟩,o,i1,i2⟩
def Au{u1 u2 v1 v2:Int}(u2p:0<u2)(v2p:0<v2)(lt:u1*v2<v1*u2):0<rt (rt (v1*u2-u1*v2) (v2*u2)*1) (rb (v1*u2-u1*v2) (v2*u2)*2)/\0<rb (rt (v1*u2-u1*v2) (v2*u2)*1) (rb (v1*u2-u1*v2) (v2*u2)*2)/\rt (rt (v1*u2-u1*v2) (v2*u2)*1) (rb (v1*u2-u1*v2) (v2*u2)*2)*(v2*u2*2)=(v1*u2-u1*v2)*rb (rt (v1*u2-u1*v2) (v2*u2)*1) (rb (v1*u2-u1*v2) (v2*u2)*2):=by
 have vu:0<v2*u2:=NH v2p u2p;have d0:v2*u2≠0:=by omega
 have c1:=d9 (t:=v1*u2-u1*v2) d0;have p1:=cG (t:=v1*u2-u1*v2) d0;have D:0<v1*u2-u1*v2:=by omega
 generalize v1*u2-u1*v2=X at *
 generalize rt X (v2*u2)=a at *
 generalize rb X (v2*u2)=b at *
 have d1:b*2≠0:=by omega
 have c2:=d9 (t:=a*1) d1;have p2:=cG (t:=a*1) d1;have a0:0<a:=mr vu (by rw[Ov,c1];exact NH D p1);generalize rt (a*1) (b*2)=e at *
 generalize rb (a*1) (b*2)=f at *
 have e0:0<e:=mr (c:=b*2) (by omega) (by rw[Ov,c2,Oc];exact NH a0 p2);refine⟨e0,p2,?_⟩;refine PM (N9 p1) ?_;have q1:b*(e*(v2*u2*2))=(e*(b*2))*(v2*u2):=by grind
 have q2:b*(X*f)=(X*b)*f:=by grind
 rw[q1,q2,c2,<- c1];grind
def xi(C CN:Addr):Sp:=λvs H Q _=>∃(a l h:Addr) (G:Ex) (kb d:Nat) (l1 l2 h1 h2:Int),vs=[.ref a,.ref l,.ref h]/\H a=some (.lst (G.map V.int))/\RA C H l l1 l2/\RA C H h h1 h2/\Sn G kb l1 l2 h1 h2/\d<=420/\Dya (2^kb) d l1 l2 h1 h2 /\
 ∀(x:Addr) (p:Ex) (x1 x2 y1 y2:Int) (H':Hp),Same H H'->H x=none->NmH C CN H' x p x1 x2 y1 y2->Nm G kb p x1 x2 y1 y2->vw G (ac x1 x2)=vw G (ac l1 l2)->vw G (ac y1 y2)=vw G (ac h1 h2)->Q (.ref x) H'
def Gs(F:Fun K "number_in" "number_in" rG f fd)(T:Txt K mg)(R:RCI K mg C)(Lr:Cal P w K mg base 37 "least" ["row","low","high"] (xl C) MY Mf)(fg:Cal P w K mg base 2 "sign_at" ["row","ratio"] (iy C) kt ko)(kH:Cal P w K mg base 6 "narrowed" ["row","low","high","width"] (mR C) AO AI)(iq:MCal P w K mg base 4 C "minus" ["self","other"] (jN C) oX oS)(ip:MCal P w K mg base 4 C "times" ["self","other"] (jL C) oW oR)(b9:KCal P w K mg base 2 C "Ratio" ["self","top","bottom"] (c9 C) eJ eI eM [.int 1])(ir:KCal P w K mg base 1 CN "Number" ["self","row","low","high"] (iz CN) oY oT o4 []):FnOk P w K mg base aG 38 f fd ["simple","low","high"] (xi C CN):=by
 obtain⟨gP,gI,gO⟩:=iq;obtain⟨fZ,fS,fY⟩:=ip;obtain⟨bJ,bI,bC,cC,cM,cL⟩:=b9;obtain⟨ij,ii,g9,ic,pI,o8⟩:=ir;refine F.ok k6 (λvs H Q E h=>?_) (λ_ A _ s H vs Q E hr h=>?_)
 ·obtain⟨a,l,h,G,kb,d,l1,l2,h1,h2,rfl,_⟩:=h;rfl
 ·obtain⟨a,l,h,G,kb,d,l1,l2,h1,h2,rfl,hA,hl,hh,hS,hd,hy,k⟩:=h
  refine⟨_,(ah (ap 3 k6 (am Lr hr (aa (pv 0) (aa (pv 1) (aa (pv 2) ae)))))
   (ah (ap 4 k6 (fN (aa (pv 1) (aa (pv 2) ae))))
   (ah (gY PassesOwn.never (aN cI (am fg hr (aa (pv 3) (aa (aZ K (pv 4) af) ae))) af)
     (ah (ap 5 k6 (cN (cN (aZ K (pv 4) af) R.cl gI gP (hr.mono) gO .nil aR (aa (aZ K (pv 4) af) ae)) R.cl fS fZ (hr.mono) fY .nil aR (aa (cD bI bJ (hr.mono) rfl bC cC .nil aR (aa af (aa af ae))) ae)))
       (ak (ap 4 k6 (am kH hr (aa (pv 3) (aa (aZ K (pv 4) af) (aa (aZ K (pv 4) af) (aa (pv 5) ae)))))))))
   (ak (az (cD ii ij (hr.mono) rfl g9 ic .nil aR (aa (pv 3) (aa (aZ K (pv 4) af) (aa (aZ K (pv 4) af) ae))))))))),?_⟩
  have hg:=hS.gd;have fG:=hg.fp.flt;refine aA ⟨_,rfl,_,rfl,_,rfl,a,l,h,G,kb,l1,l2,h1,h2,rfl,hA,hl,hh,hS,λrp L p H1 s1 hp e1=>?_⟩;obtain⟨lr,br⟩:=kh hg L.od;refine aA ⟨_,rfl,_,rfl,by show 2<=sizeLine;decide,λps hps=>?_⟩;have s2:=s1.then_new (o:=.tup [V.ref l,V.ref h]) hps;have q2:upd H1 ps (.tup [V.ref l,V.ref h]) ps=some (.tup [V.ref l,V.ref h]):=ax;have e2:=(Same.upd_new (o:=.tup [V.ref l,V.ref h]) hps) _ _ e1;generalize upd H1 ps (.tup [V.ref l,V.ref h])=H2 at s2 q2 e2 ⊢
  refine⟨λm Q2 H'=>∃(pt lo hi:Addr) (u1 u2 v1 v2:Int) (d':Nat) (z5:Option V),Q2=[some (.ref a),some (.ref l),some (.ref h),some (.ref p),some (.ref pt),z5]/\Same H2 H'/\H' pt=some (.tup [.ref lo,.ref hi])/\RA C H' lo u1 u2/\RA C H' hi v1 v2/\d'<=420/\m=420-d'/\Dya (2^kb) d' u1 u2 v1 v2/\vw G (ac u1 u2)=vw G (ac l1 l2)/\vw G (ac v1 v2)=vw G (ac h1 h2)/\LS G (ac u1 u2) (ac v1 v2) rp,⟨420-d,ps,l,h,l1,l2,h1,h2,d,none,rfl,Same.refl _,q2,hl.same s2,hh.same s2,hd,rfl,hy,rfl,rfl,L⟩,?_⟩;rintro m Q2 H3 ⟨pt,lo,hi,u1,u2,v1,v2,d',z5,rfl,s3,q3,hlo,hhi,hd',rfl,dy,eu,ev,L'⟩;have o:=hS.one;have oc:vw G (ac u1 u2)-vw G (ac v1 v2)=1:=by omega
  have sc:=xF hg dy (by omega) oc;have en:=sc.en;have t3:=s2.trans s3;have e3:=s3 _ _ e2;refine⟨_,rfl,(fj (SqT.of q3) rfl rfl ⟨p,lo,rp,u1,u2,⟨rfl,e3,hlo,by omega,br.mono,en.bl1.mono,en.bl2.mono⟩,λH4 s4=>(au ⟨_,rfl,aQ (λh0=>?_) (λh0=>?_)⟩)⟩)⟩
  ·have h0':sg (hv u1 u2 rp)=0:=h0;rw[cA en.l2p]at h0';have hz:pv rp (ac u1 u2)=0:=Classical.byContradiction λq=>sg_ne.mpr q h0'
   have dlt:d'<420:=Nat.not_le.mp λz=>Jo hg dy z oc (eK L'.od.dv hz)
   refine⟨_,λ_ _ h=>h,?_⟩;have q4:=s4 _ _ q3;have hlo4:=hlo.same s4;have hhi4:=hhi.same s4;obtain⟨dh,hhi'⟩:=id hhi4;refine aA (fj (SqT.of q4) rfl rfl ⟨hi,dh,_,rfl,hhi',cB fQ.1 fQ.2,(fj (SqT.of q4) rfl rfl ⟨hi,lo,v1,v2,u1,u2,710,710,rfl,hhi4,hlo4,en.bh1.mono,en.bh2,en.bl1.mono,en.bl2,by decide,en.h2p,en.l2p,λr H5 s5 hr5 hR=>?_⟩)⟩);obtain⟨dr,hR'⟩:=id hR;obtain⟨w1p,w2p,hw⟩:=Au en.l2p en.h2p en.lt;have d0:v2*u2≠0:=N9 (NH en.h2p en.l2p);have br1:Bits 1421 (rt (v1*u2-u1*v2) (v2*u2)):=dm d0 (Bits.sub ((en.bh1.mul en.bl2).mono) ((en.bl1.mul en.bh2).mono));have br2:Bits 1421 (rb (v1*u2-u1*v2) (v2*u2)):=dA d0 ((en.bh2.mul en.bl2).mono);have rp0:=cG (t:=v1*u2-u1*v2) d0;refine⟨r,dr,_,rfl,hR',cB dU.1 dU.2,?_⟩;have b2:Bits 2 (2:Int):=by show(2:Int).natAbs<2^2;decide
   refine cZ (t:=1) (b:=2) (by decide) (b2.mono) λhf H6 s6 hx6 hF=>?_
   have e12:rt 1 2=1/\rb 1 2=2:=⟨by decide,by decide⟩;rw[e12.1,e12.2]at hF;refine⟨r,hf,_,_,1,2,1421,2,rfl,hR.same s6,hF,br1.mono,br2,cO (by decide),b2,by decide,rp0,by decide,λwd H7 s7 hwd hW=>?_⟩;have bw1:Bits 1430 (rt (rt (v1*u2-u1*v2) (v2*u2)*1) (rb (v1*u2-u1*v2) (v2*u2)*2)):=dm (by omega) (by rw[Oc];exact br1.mono);have bw2:Bits 1430 (rb (rt (v1*u2-u1*v2) (v2*u2)*1) (rb (v1*u2-u1*v2) (v2*u2)*2)):=dA (by omega) ((br2.mul b2).mono);generalize rt (rt (v1*u2-u1*v2) (v2*u2)*1) (rb (v1*u2-u1*v2) (v2*u2)*2)=w1 at *
   generalize rb (rt (v1*u2-u1*v2) (v2*u2)*1) (rb (v1*u2-u1*v2) (v2*u2)*2)=w2 at *
   have u7:=s4.trans (s5.trans (s6.trans s7));obtain⟨ε,ru⟩:=j0 fG en.l2p en.h2p en.lt oc L'.od;have e7:=u7 _ _ e3;have q7:=u7 _ _ q3;refine⟨_,rfl,(fj (SqT.of q7) rfl rfl (fj (SqT.of q7) rfl rfl ⟨_,rfl,p,lo,hi,wd,rp,u1,u2,v1,v2,w1,w2,710,1430,ε,_,rfl,e7,L'.od.pln.tr,L'.od.pln.ne,by omega,br.mono,hlo.same u7,hhi.same u7,hW,en,w1p,w2p,bw1,bw2,by decide,by decide,by decide,ru,λpn xa ya H8 n pl x1 x2 y1 y2 s8 hpn e8 hxa hya nar=>?_⟩))⟩;have dy8:=Av dy en.lt w1p hw nar;have en8:=nar.ends;have lo8:=(dj en.l2p en8.l2p).mpr nar.lo;have hi8:=(dj en8.h2p en.h2p).mpr nar.hi;have xy8:=(bB en8.l2p en8.h2p).mpr en8.lt;have ux8:vw G (ac x1 x2)=vw G (ac u1 u2):=nar.ux
   have uy8:vw G (ac y1 y2)=vw G (ac v1 v2):=by have n':¬vw G (ac y1 y2)=vw G (ac u1 u2):=nar.uy;have a:=fG.cnt.le (NZ lo8 (Np xy8));have b:=fG.cnt.le hi8;omega
   exact⟨420-(d'+1),by omega,pn,xa,ya,x1,x2,y1,y2,d'+1,_,rfl,s3.trans (u7.trans s8),e8,hxa,hya,by omega,rfl,dy8,by omega,by omega,LS.sub fG sc.lt oc L' lo8 xy8 hi8 ux8 uy8⟩
  ·have h0':¬sg (hv u1 u2 rp)=0:=h0;rw[cA en.l2p]at h0';have q4:=s4 _ _ q3;have e4:=s4 _ _ e3;have t4:=t3.trans s4;dsimp only
   refine aY ⟨_,rfl,(fj (SqT.of q4) rfl rfl (fj (SqT.of q4) rfl rfl (lU e4 λx q H5 s5 hx hNA hq hqn=>?_)))⟩;exact k x rp u1 u2 v1 v2 H5 (t4.trans s5) (t4.free hx) ⟨q,lo,hi,hNA,hq,hlo.same (s4.trans s5),hhi.same (s4.trans s5)⟩ ⟨sc,L',sg_ne.mp h0',d',hd',dy⟩ eu ev
def FlatOf.two{F G:Ex}(h:FlatOf F G)(hD:Drw F):2<=G.length:=by
 obtain⟨O,k,tO,nO,hk,e,s,a⟩:=h.ex;have nG:=h.pln.ne;have lG:=Nz.mpr nG;have el:aE k F=ag G O:=gC (eO hk hD.tr) (fI h.pln.tr tO) λn=>by rw[aK,ay,e]
 have hl:G.length+O.length-1=F.length:=by rw[<- bK nG nO,<- el,dk]
 rcases Nat.lt_or_ge G.length 2 with z |z
 ·exfalso;have lS:=fB F;have l2:=hD.l2;have:=Dv.short nO tO (jH hD.tr) (by omega) s;rw[this]at lS;simp at lS
  omega
 ·exact z
def FlatOf.fp{F G:Ex}(h:FlatOf F G)(hD:Drw F):FltP G:=by obtain⟨h1,h2⟩:=h.hgt hD.tr hD.ne hD.l5 hD.hgt;exact⟨h.flt (FlatOf.two h hD) (by omega),h.pln,h1,h2⟩
def Cf{G:Ex}(h:FltP G):Wk G:=⟨h.pln.tr,h.flt.l2,by have:=h.l5;omega,(λx hx=>by
 have:=h.hgt x hx;show x.natAbs<2^530
 exact N8 (show x.natAbs<16777216 by omega) (by decide)),λkb hB=>⟨(Gd.mk h hB).k24,h.few (Gd.mk h hB).k24⟩⟩
theorem Cov.at{V:Rat->Int}:∀{cs:List (Rat×Rat)} {lo hi:Rat},Cov V cs lo hi->(∀c∈cs,V c.1-V c.2=1)->∀(i:Nat) (c:Rat×Rat),cs[i]?=some c->V lo-V c.1=i/\V lo-V c.2=i+1
 |_,_,_,.nil e,_,i,c,h=>by simp at h
 |_,_,_,.cons (a:=a) (b:=b) ab e h,h1,i,c,hc=>by
  have k:=h1 (a,b) (NK ..);dsimp only at k
  cases i with
  |zero =>
   obtain rfl:(a,b)=c:=by simpa using hc
   dsimp only
   constructor
   ·show _=(0:Int);omega
   ·show _=(0:Int)+1;omega
  |succ i =>
   have:=Cov.at h (λd hd=>h1 d (NB _ hd)) i c (by simpa using hc);have e2:((i+1:Nat):Int)=(i:Int)+1:=by omega
   rw[e2];omega
structure RtH(C CN:Addr)(H:Hp)(G:Ex)(kb:Nat)(xs:List Addr):Prop where
 len:(xs.length:Int)=vw G (-(2^kb))-vw G (2^kb)
 at':∀(i:Nat) (x:Addr),xs[i]?=some x->∃(p:Ex) (l1 l2 h1 h2:Int),NmH C CN H x p l1 l2 h1 h2/\Nm G kb p l1 l2 h1 h2/\vw G (-(2^kb))-vw G (ac l1 l2)=i/\vw G (-(2^kb))-vw G (ac h1 h2)=i+1
def RtH.same{C CN:Addr}{H H':Hp}{G:Ex}{kb:Nat}{xs:List Addr}(h:RtH C CN H G kb xs)(s:Same H H'):RtH C CN H' G kb xs:=⟨h.len,λi x hx=>by obtain⟨p,l1,l2,h1,h2,a,b⟩:=h.at' i x hx;exact⟨p,l1,l2,h1,h2,a.same s,b⟩⟩
def wW(C CN:Addr):Sp:=λvs H Q _=>∃(a:Addr) (F:Ex),vs=[.ref a]/\H a=some (.lst (F.map V.int))/\Drw F/\∀(G:Ex) (kb:Nat) (p:Addr) (xs:List Addr) (H':Hp),FlatOf F G->Gd G kb->Same H H'->H p=none->H' p=some (.lst (xs.map V.ref))->RtH C CN H' G kb xs->Q (.ref p) H'
def Gi(F:Fun K "roots" "roots" rm f fd)(T:Txt K mg)(R:RCI K mg C)(Lf:Cal P w K mg base 1 "refuse_high" ["height"] wX MN L4)(d6:Cal P w K mg base 1 "degree" ["row"] iA ku kq)(KU:Cal P w K mg base 36 "without_squares" ["row"] wM MB LO)(Lg:Cal P w K mg base 1 "refuse_great" ["row"] wY MO L5)(vN:Cal P w K mg base 36 "cells" ["row"] (qz C) JS JB)(Lk:Cal P w K mg base 38 "number_in" ["simple","low","high"] (xi C CN) MS L9):FnOk P w K mg base aG 39 f fd ["row"] (wW C CN):=by
 refine F.ok x8 (λvs H Q E h=>?_) (λ_ A _ s H vs Q E hr h=>?_)
 ·obtain⟨a,kp,rfl,_⟩:=h;rfl
 ·obtain⟨a,kp,rfl,hA,hD,k⟩:=h;have big:=sizeLine_eq;have hml:(kp.map V.int).length=kp.length:=No _
  refine⟨_,(ah (iE (am Lf hr (aa (am d6 hr (aa (pv 0) ae)) ae)))
   (ah (ap 1 x8 (am KU hr (aa (pv 0) ae)))
   (ah (iE (am Lg hr (aa (pv 1) ae)))
   (ak (az (eT (own:=["cell"]) (fr:=["simple"]) (js:=[1]) (by walk_at "comp_ok") rfl (gF (K:=K) rfl (am vN hr (aa (pv 1) ae))) (λ_ _ _ _=>(df (i:=0) (show List.Nodup (["cell","simple"]:List Str)from by decide +kernel) rfl (Or.inl rfl))) (λ_ _ _ _=>(am Lk hr (aa (pv 1) (aa (aZ K (pv 0) af) (aa (aZ K (pv 0) af) ae))))))))))),?_⟩
  refine j1 ⟨_,rfl,a,_,rfl,hA,_,rfl,by rw[hml];have:=hD.l5;omega,?_⟩;refine aA ⟨_,rfl,a,kp,rfl,hA,hD,λG hF pw H1 s1 hpw e1=>?_⟩;have fp:=FlatOf.fp hF hD;have l5:=fp.l5
  have bG:AllB 24 G:=λx hx=>by have:=fp.hgt x hx;show x.natAbs<16777216;omega
  refine j1 ⟨_,rfl,pw,G,rfl,e1,by omega,bG.mono,λH2 s2=>?_⟩;have t2:=s1.trans s2;have e2:=s2 _ _ e1;refine aY ⟨_,rfl,.inl ⟨pw,G,rfl,e2,Cf fp,λkb pc ys H3 hB s3 hpc ec hys hcov hyl hri=>?_⟩⟩;have hg:Gd G kb:=⟨fp,hB⟩;have t3:=t2.trans s3;have hql:(qs ys).length=ys.length:=No _;obtain⟨b1,b2⟩:=zT kb;rw[b1,b2]at hcov;have p2:(0:Rat)<2^kb:=OC (by decide)
  have cv:=Cov.at (uV fp.flt.cnt (ys.map λy=>(y.a,y.b)) (lo := -(2^kb)) (hi:=2^kb) (by grind) (List.pairwise_map.mpr (by have h:=hri;unfold fe at h;exact h)) (λc hc=>by
   obtain⟨y,hy,rfl⟩:=NF.mp hc;have fy:=hys y hy;obtain⟨i1,i2,_⟩:=jo fy.dy
   exact⟨gn fy.dy,fy.one,i1,i2⟩) (by rw[No];exact hcov)) (λc hc=>by
   obtain⟨y,hy,rfl⟩:=NF.mp hc
   exact(hys y hy).one)
  refine⟨pc,rfl,⟨_,SqL.of ec⟩,jt (K:=K) (a:=pc) (xs:=qs ys) (λi vs Q2 H'=>∃(z0:Option V) (xs:List Addr),Q2=[z0,some (.ref pw)]/\vs=xs.map V.ref/\Same H3 H'/\xs.length=i/\∀(j:Nat) (x:Addr),xs[j]?=some x->∃(p:Ex) (l1 l2 h1 h2:Int),NmH C CN H' x p l1 l2 h1 h2/\Nm G kb p l1 l2 h1 h2/\vw G (-(2^kb))-vw G (ac l1 l2)=j/\vw G (-(2^kb))-vw G (ac h1 h2)=j+1) (by rw[hql];omega) ⟨none,[],rfl,rfl,Same.refl _,rfl,λj x h=>by simp at h⟩ ?_ ?_ ?_⟩
  ·rintro i vs Q2 H' _ ⟨z0,xs,rfl,rfl,sm,hxl,_⟩;exact⟨SqL.of (sm _ _ ec),by rw[No,hxl];exact Nv _⟩
  ·rintro i z vs Q2 H' hi ⟨z0,xs,rfl,rfl,sm,hxl,hN⟩
   have hil:i<ys.length:=by apply Classical.byContradiction;intro hn;rw[List.getElem?_eq_none_iff.mpr (by rw[hql];omega)]at hi;cases hi
   have ey:ys[i]?=some ys[i]:=List.getElem?_eq_getElem hil
   have hz:z=V.ref ys[i].q:=by
    unfold qs at hi
    rw[List.getElem?_map,ey]at hi;exact(Option.some.inj hi).symm
   subst hz;have hcm:ys[i]∈ys:=OI hil;obtain⟨k1,k2⟩:=cv i (ys[i].a,ys[i].b) (by rw[List.getElem?_map,ey];rfl);generalize ys[i]=c at ey hcm k1 k2
   have hcf:=(hys c hcm).nl (NL.of sm);have sc:=xG hg hcf;refine⟨_,rfl,_,rfl,c.q,_,_,_,rfl,rfl,SqT.of hcf.tup,rfl,_,rfl,c.q,_,_,_,rfl,rfl,SqT.of hcf.tup,rfl,pw,c.lo,c.hi,G,kb,c.d,c.l1,c.l2,c.h1,c.h2,rfl,(s3.trans sm) _ _ e2,hcf.lo,hcf.hi,sc,hcf.dd,hcf.dy,λx rp x1 x2 y1 y2 H4 s4 hx hN4 hNm ex ey4=>?_⟩;refine⟨_,xs++[x],rfl,by rw[NI];rfl,sm.trans s4,by rw[Nq,hxl];rfl,λj x' h1=>?_⟩;by_cases hj:j<xs.length
   ·rw[List.getElem?_append_left hj]at h1;obtain⟨p,l1,l2,h1',h2',a1,a2⟩:=hN j x' h1;exact⟨p,l1,l2,h1',h2',a1.same s4,a2⟩
   ·rw[List.getElem?_append_right (by omega)]at h1;by_cases h0:j-xs.length=0
    ·rw[h0]at h1;obtain rfl:x=x':=by simpa using h1
     have ej:j=i:=by omega
     subst ej;have k1':vw G (-(2^kb))-vw G (ac c.l1 c.l2)=(j:Int):=k1;have k2':vw G (-(2^kb))-vw G (ac c.h1 c.h2)=(j:Int)+1:=k2;exact⟨rp,x1,x2,y1,y2,hN4,hNm,by rw[ex];exact k1',by rw[ey4];exact k2'⟩
    ·rw[List.getElem?_eq_none_iff.mpr (by simp;omega)]at h1;cases h1
  ·rintro vs Q2 H' p ⟨z0,xs,rfl,rfl,sm,hxl,hN⟩ hp;rw[hql]at hxl;have sp:=Same.upd_new (o:=.lst (xs.map V.ref)) hp
   exact k G kb p xs _ hF hg ((t3.trans sm).then_new hp) ((t3.trans sm).free hp) ax ⟨by rw[hxl];exact hcov,λj x h1=>by
    obtain⟨p',l1,l2,h1',h2',a1,a2⟩:=hN j x h1
    exact⟨p',l1,l2,h1',h2',a1.same sp,a2⟩⟩
theorem xO{i j:Nat}{a b:Ex}{n:Nat}(ha:AllB i a)(hb:AllB j b):∀m,Bits (i+j+m) (sm a b n m)
 |0=>Bits.zero
 |m+1=>by
  rw[sm];refine(xO ha hb m).add ?_;unfold tm;split
  ·exact((ha.cf m).mul (hb.cf _)).mono (by omega)
  ·exact Bits.zero
def Hz{i j k:Nat}{a b:Ex}(ha:AllB i a)(hb:AllB j b)(hk:i+j+a.length<=k):AllB k (ag a b):=AllB.of_cf λn=>by rw[ay];exact(xO ha hb a.length).mono hk
structure Nu(p:Ex)(l1 l2 h1 h2:Int)(U:Rat->Prop):Prop where
 en:EndsG 1500 l1 l2 h1 h2
 pln:Pln p
 l2':2<=p.length
 l5:p.length<=5
 bits:AllB 100 p
 ru:∃ε,RootU p l1 l2 h1 h2 ε (λt n=>U (ac t n))
 mo:∀x y,x<=y->U y->U x
def bsd(v s:Int):Int:=if v=0 then 0 else if v=s then -1 else 1
def qB(C CN:Addr):Sp:=λvs H Q _=>∃(x:Addr) (v:Int) (p:Ex) (l1 l2 h1 h2:Int),vs=[.ref x,.int v]/\NmH C CN H x p l1 l2 h1 h2/\p.length<=5/\AllB 100 p/\Bits 1500 h1/\Bits 1500 h2/\∀H',Same H H'->Q (.int (bsd v (sg (hv h1 h2 p)))) H'
def GV(F:Fun K "beside" "beside" sy f fd)(T:Txt K mg)(R:RCI K mg C)(RN:NCI K mg CN)(fg:Cal P w K mg base 2 "sign_at" ["row","ratio"] (iy C) kt ko):FnOk P w K mg base aG 3 f fd ["one","sign"] (qB C CN):=by
 refine F.ok Ec (λvs H Q E h=>?_) (λ_ A _ s H vs Q E hr h=>?_)
 ·obtain⟨x,v,p,l1,l2,h1,h2,rfl,_⟩:=h;rfl
 ·obtain⟨x,v,p,l1,l2,h1,h2,rfl,⟨q,l,h,⟨dx,hx⟩,hq,hl,hh⟩,l5,bp,b1,b2,k⟩:=h
  refine⟨_,(ah (aT (aN cI (pv 1) af)
   (ak (az af))
   aV)
   (ah (aT (aN cI (pv 1) (am fg hr (aa (aB (K:=K) rfl (pv 0) rfl) (aa (aB (K:=K) rfl (pv 0) rfl) ae))))
     (ak (az (cq ck af)))
     aV)
   (ak (az af)))),?_⟩
  unfold bsd at k
  refine bV ⟨_,rfl,(au ⟨_,rfl,aQ (λh0=>?_) (λh0=>?_)⟩)⟩
  ·rw[if_pos (show v=0 from h0)]at k;exact k H (Same.refl _)
  rw[if_neg (show ¬v=0 from h0)]at k;refine bV ⟨_,rfl,_,rfl,x,CN,dx,_,_,rfl,hx,RN.cl,RN.nP,eX,_,rfl,x,CN,dx,_,_,rfl,hx,RN.cl,RN.nH,eH,q,h,p,h1,h2,⟨rfl,hq,hh,by omega,bp.mono,b1.mono,b2.mono⟩,λH1 s1=>(au ⟨_,rfl,aQ (λhe=>?_) (λhne=>?_)⟩)⟩
  ·rw[if_pos (show v=sg (hv h1 h2 p)from he)]at k;exact aY ⟨_,rfl,k H1 s1⟩
  ·rw[if_neg (show ¬v=sg (hv h1 h2 p)from hne)]at k;exact aY (k H1 s1)
inductive qC(C CN:Addr)(vs:List V)(H:Hp)(Q:VK)(E:XK):Prop
 |mk (x r:Addr) (p:Ex) (l1 l2 h1 h2 u d:Int) (U:Rat->Prop):vs=[.ref x,.ref r]->NmH C CN H x p l1 l2 h1 h2->Nu p l1 l2 h1 h2 U->RA C H r u d->0<d->Bits 1500 u->Bits 1500 d->(∀(H':Hp) (v:Int),Same H H'->(U (ac u d)->v=1)->(¬U (ac u d)->v<=0)->(¬U (ac u d)->pv p (ac u d)≠0->v = -1)->Q (.int v) H')->qC C CN vs H Q E
def GX(F:Fun K "against" "against" sB f fd)(T:Txt K mg)(R:RCI K mg C)(RN:NCI K mg CN)(mH:MCal P w K mg base 2 C "against" ["self","other"] (mT C) AQ AJ)(vO:Cal P w K mg base 3 "beside" ["one","sign"] (qB C CN) JU JD)(fg:Cal P w K mg base 2 "sign_at" ["row","ratio"] (iy C) kt ko):FnOk P w K mg base aG 4 f fd ["one","ratio"] (qC C CN):=by
 obtain⟨jA,ji,jx⟩:=mH;refine F.ok Ee (λvs H Q E h=>?_) (λ_ A _ s H vs Q E hr h=>?_)
 ·obtain⟨x,r,p,l1,l2,h1,h2,u,d,U,rfl,_⟩:=h;rfl
 ·obtain⟨x,r,p,l1,l2,h1,h2,u,d,U,rfl,hN,hU,hR,hd,bu,bd,k⟩:=h;obtain⟨q,l,h,⟨dx,hx⟩,hq,hl,hh⟩:=id hN;obtain⟨dr,hr'⟩:=id hR;have en:=hU.en;have l5:=hU.l5;obtain⟨ε,ru⟩:=hU.ru
  have sgl:∀c d:Int,sg (c-d)>0↔d<c:=λc d=>by unfold sg;split<;>(try split)<;>constructor<;>intro z<;>omega
  refine⟨_,(ah (aT (aN tV (cN (pv 1) R.cl ji jA (hr.mono) jx .nil aR (aa (aB (K:=K) rfl (pv 0) rfl) ae)) af)
   (ak (az af))
   aV)
   (ah (aT (aN fP (cN (pv 1) R.cl ji jA (hr.mono) jx .nil aR (aa (aB (K:=K) rfl (pv 0) rfl) ae)) af)
     (ak (az (cq ck af)))
     aV)
   (ak (az (am vO hr (aa (pv 0) (aa (am fg hr (aa (aB (K:=K) rfl (pv 0) rfl) (aa (pv 1) ae))) ae))))))),?_⟩
  refine bV ⟨_,rfl,r,dr,_,rfl,hr',cB gH.1 gH.2,_,rfl,x,CN,dx,_,_,rfl,hx,RN.cl,RN.nL,fV,r,l,u,d,l1,l2,rfl,hR,hl,bu.mono,bd.mono,en.bl1.mono,en.bl2.mono,(au ⟨_,rfl,aQ (λh0=>?_) (λh0=>?_)⟩)⟩
  ·have h0':¬sg (u*l2-l1*d)>0:=Int.not_lt.mpr h0;have h3:ac u d<=ac l1 l2:=(dj hd en.l2p).mpr (Int.not_lt.mp λz=>h0' ((sgl _ _).mpr z));have hu:U (ac u d):=hU.mo _ _ h3 ru.low;exact aY (k H 1 (Same.refl _) (λ_=>rfl) (λz=>absurd hu z) λz=>absurd hu z)
  have lo:l1*d<u*l2:=(sgl _ _).mp (Int.not_le.mp h0);refine bV ⟨_,rfl,r,dr,_,rfl,hr',cB gH.1 gH.2,_,rfl,x,CN,dx,_,_,rfl,hx,RN.cl,RN.nH,eH,r,h,u,d,h1,h2,rfl,hR,hh,bu.mono,bd.mono,en.bh1.mono,en.bh2.mono,(au ⟨_,rfl,aQ (λh0'=>?_) (λh0'=>?_)⟩)⟩
  ·have h3:ac h1 h2<ac u d:=(bB en.h2p hd).mpr ((sgl _ _).mp h0');have hu:¬U (ac u d):=λz=>ru.top (hU.mo _ _ (Np h3) z)
   exact aY ⟨_,rfl,k H (-1) (Same.refl _) (λz=>absurd z hu) (λ_=>by decide) λ_ _=>rfl⟩
  have hi:u*h2<=h1*d:=Int.not_lt.mp λz=>h0' ((sgl _ _).mpr z)
  refine aY ⟨_,rfl,_,rfl,x,CN,dx,_,_,rfl,hx,RN.cl,RN.nP,eX,_,rfl,q,r,p,u,d,⟨rfl,hq,hR,by omega,hU.bits.mono,bu.mono,bd.mono⟩,λH1 s1=>?_⟩;refine⟨x,_,p,l1,l2,h1,h2,rfl,hN.same s1,l5,hU.bits,en.bh1,en.bh2,λH2 s2=>k H2 _ (s1.trans s2) (λhu=>?_) (λhu=>?_) λhu hz=>?_⟩
  ·have a:=ru.r1 u d hd lo hi hu;have b:sg (hv h1 h2 p)=ε\/sg (hv h1 h2 p)=0:=ru.r2 h1 h2 en.h2p (by have:=en.lt;omega) (OO _) ru.top;rw[a];unfold bsd;have e1:=ru.e1;rw[if_neg (by omega),if_neg (by omega)]
  ·have a:=ru.r2 u d hd lo hi hu;unfold bsd;rcases a with a |a
   ·have e1:=ru.e1;rw[a,if_neg (by omega)]
    have:ε=sg (hv h1 h2 p):=by
     rcases Int.lt_or_eq_of_le hi with z |z
     ·exact(ru.r3 u d h1 h2 hd en.h2p lo (OO _) hu z).symm
     ·rw[cA en.h2p,<- eE hd en.h2p z,<- cA hd];exact a.symm
    rw[if_pos this];decide
   ·rw[if_pos a];decide
  ·have a:=ru.r2 u d hd lo hi hu;unfold bsd;rcases a with a |a
   ·have e1:=ru.e1;rw[a,if_neg (by omega)]
    have:ε=sg (hv h1 h2 p):=by
     rcases Int.lt_or_eq_of_le hi with z |z
     ·exact(ru.r3 u d h1 h2 hd en.h2p lo (OO _) hu z).symm
     ·rw[cA en.h2p,<- eE hd en.h2p z,<- cA hd];exact a.symm
    rw[if_pos this]
   ·rw[cA hd]at a;exact absurd a (sg_ne.mpr hz)
def b0k(k:Nat):Bits k (0:Int):=OT (by decide)
def zP:ac 0 1=0:=ul 0
def qo(C CN:Addr):Sp:=λvs H Q _=>∃(x:Addr) (p:Ex) (l1 l2 h1 h2:Int) (U:Rat->Prop),vs=[.ref x]/\NmH C CN H x p l1 l2 h1 h2/\Nu p l1 l2 h1 h2 U/\pv p 0≠0/\∀(H':Hp) (v:Int),Same H H'->(U 0->v=1)->(¬U 0->v = -1)->Q (.int v) H'
def FY(F:Fun K "sign_of" "sign_of" q8 f fd)(T:Txt K mg)(R:RCI K mg C)(pU:Cal P w K mg base 4 "against" ["one","ratio"] (qC C CN) JV JE)(b9:KCal P w K mg base 2 C "Ratio" ["self","top","bottom"] (c9 C) eJ eI eM [.int 1]):FnOk P w K mg base aG 5 f fd ["one"] (qo C CN):=by
 obtain⟨bJ,bI,bC,cC,cM,cL⟩:=b9;refine F.ok DW (λvs H Q E h=>?_) (λ_ A _ s H vs Q E hr h=>?_)
 ·obtain⟨x,p,l1,l2,h1,h2,U,rfl,_⟩:=h;rfl
 ·obtain⟨x,p,l1,l2,h1,h2,U,rfl,hN,hU,hz,k⟩:=h;refine⟨_,(ak (az (am pU hr (aa (pv 0) (aa (cD bI bJ (hr.mono) rfl bC cM cL aR (aa af ae)) ae))))),?_⟩;refine aY ⟨_,rfl,cZ (t:=0) (b:=1) (by decide) (cO (by decide)) λr H1 s1 hr1 hR1=>?_⟩;rw[gT,gW]at hR1;refine⟨x,r,p,l1,l2,h1,h2,0,1,U,rfl,hN.same s1,hU,hR1,by decide,b0k _,cO (by decide),λH2 v s2 a b c=>?_⟩;rw[zP]at a b c;exact k H2 v (s1.trans s2) a λz=>c z hz
def J4{a b:Ex}(h:a.length<b.length)(ha:Tr a):bM a b=1/\bZ a b=[]/\aO a b=a:=by
 have e:aW a b=0:=by unfold aW;omega
 refine⟨by unfold bM;rw[e,On],?_,?_⟩
 ·unfold bZ;rw[e];show List.replicate (a.length+1-b.length) 0=[];rw[show a.length+1-b.length=0 by omega];rfl
 ·unfold aO;rw[e];exact pZ ha
def Ew{p:Ex}(hP:Pln p)(l3:3<=p.length)(l5:p.length<=5)(bp:AllB 100 p):∃F1 np:Ex,aj (ag (slopeL p) p)=F1/\bj 4 p F1=[p,F1,np]/\(∀x,pv np x = -(pv p x))/\Run 4 p F1/\∀xs∈bj 4 p F1,xs.length<=20/\AllB 95000 xs:=by
 have tS:=jH hP.tr;have lS:=fB p;have nS:slopeL p≠[]:=λz=>by rw[z]at lS;simp at lS;omega
 have tM:=fI tS hP.tr;have lM:=bK nS hP.ne;have nM:ag (slopeL p) p≠[]:=λz=>by rw[z]at lM;simp at lM;omega
 obtain⟨g,t1,n1,e1⟩:=iB tM nM;have l1:(aj (ag (slopeL p) p)).length=(ag (slopeL p) p).length:=by unfold aj;rw[No]
 have bS:AllB 106 (slopeL p):=(qD bp (by omega)).mono;have bF:AllB 250 (aj (ag (slopeL p) p)):=jP (Hz bS bp (by omega))
 have e:aJ p (aj (ag (slopeL p) p))=aE (-1) p:=by
  unfold aJ rst;rw[if_neg n1,(J4 (by omega) hP.tr).2.2,kR hP.tr]
  exact qF (.inr (by
   have:=hP.prim;rw[oM]
   rw[this];rfl))
 have tN:Tr (aE (-1) p):=eO (by decide) hP.tr;have nN:aE (-1) p≠[]:=λz=>hP.ne (by unfold aE at z;simpa using z)
 have lN:(aE (-1) p).length=p.length:=dk _ _
 have dv:Dv (aE (-1) p) (aj (ag (slopeL p) p)):=by refine Dv.prop_left (d:=p) (x:=1) (y := -1) (by decide) (by decide) (λn=>by rw[aK];omega) ?_;exact Dv.prop_right (p:=ag (slopeL p) p) (x:=(aC (ag (slopeL p) p):Int)) (y:=1) (by omega) (λn=>by rw[<- e1];omega) (Dv.mul_right _ _)
 have e2:aJ (aj (ag (slopeL p) p)) (aE (-1) p)=[]:=by unfold aJ rst;rw[if_neg nN,dv.rest nN tN];rfl
 have bN:AllB 250 (aE (-1) p):=λx hx=>by
  obtain⟨y,hy,rfl⟩:=NF.mp hx;have : -1*y = -y:=by omega
  rw[this];exact(bp y hy).neg.mono
 generalize aj (ag (slopeL p) p)=F1 at *
 generalize hnp:aE (-1) p=np at *
 have er:bj 4 p F1=[p,F1,np]:=by show(if p=[]then _ else p::(if F1=[]then _ else F1::(if aJ p F1=[]then _ else aJ p F1::(if aJ F1 (aJ p F1)=[]then _ else _))))=_;rw[if_neg hP.ne,if_neg n1,e,if_neg nN,e2,if_pos rfl]
 have lF:F1.length<=8:=by omega
 have fit:∀{a b:Ex},Tr a->Tr b->AllB 250 a->AllB 250 b->a.length<=8->b.length<=8->Fit a b:=λta tb ba bb la lb=>⟨ta,tb,250,ba,bb,by have:(_+2)*(250+1)<=10*251:=O2 _ (Nat.add_le_add_right la 2);omega,by omega⟩
 have b0:AllB 250 ([]:Ex):=λx hx=>nomatch hx
 have t0:Tr ([]:Ex):=λn hn=>absurd hn (by simp)
 refine⟨F1,np,rfl,er,λx=>?_,.inr ⟨fit hP.tr t1 (bp.mono) bF (by omega) lF,?_⟩,λxs hx=>?_⟩
 ·rw[<- hnp,db x (aK (-1) p),Ow];have c1:((1:Int):Rat)=1:=rfl;rw[c1];grind
 ·rw[e];refine .inr ⟨fit t1 tN bF bN lF (by omega),?_⟩;rw[e2];exact .inr ⟨fit tN t0 bN b0 (by omega) (Nw _),.inl rfl⟩
 ·rw[er]at hx;rcases NR.mp hx with z |hx
  ·rw[z];exact⟨by omega,bp.mono⟩
  rcases NR.mp hx with z |hx
  ·rw[z];exact⟨by omega,bF.mono⟩
  ·rw[NU.mp hx];exact⟨by omega,bN.mono⟩
def Cj{s t:Int}(hs:s=1\/s = -1)(ht:t=1\/t=0\/t = -1):vr 0 [s,t,-s]=1:=by rcases hs with rfl |rfl<;>rcases ht with rfl |rfl |rfl<;>rfl
def wU(C CN:Addr):Sp:=λvs H Q _=>∃(a x:Addr) (p:Ex) (l1 l2 h1 h2:Int),vs=[.ref a,.ref x]/\H a=some (.lst (p.map V.int))/\NmH C CN H x p l1 l2 h1 h2/\Pln p/\p.length<=5/\AllB 100 p/\EndsG 1500 l1 l2 h1 h2/\(pv p (ac h1 h2)=0\/(3<=p.length/\pv p (ac l1 l2)≠0))/\∀H',Same H H'->Q (.int 0) H'
def Ga(F:Fun K "side" "side" rd f fd)(T:Txt K mg)(R:RCI K mg C)(RN:NCI K mg CN)(fg:Cal P w K mg base 2 "sign_at" ["row","ratio"] (iy C) kt ko)(vM:Cal P w K mg base 4 "count" ["row","low","high"] (qx C) JP Jy)(vI:Cal P w K mg base 34 "row_from" ["first","second"] qq JM Jv)(vL:Cal P w K mg base 1 "multiplied" ["first","second"] qw JO Jx)(mE:Cal P w K mg base 1 "slope" ["row"] (sp1 slopeL) AN AH):FnOk P w K mg base aG 36 f fd ["row","one"] (wU C CN):=by
 refine F.ok DY (λvs H Q E h=>?_) (λ_ A _ s H vs Q E hr h=>?_)
 ·obtain⟨a,x,p,l1,l2,h1,h2,rfl,_⟩:=h;rfl
 ·obtain⟨a,x,p,l1,l2,h1,h2,rfl,hA,⟨po,l,h,⟨dx,hx⟩,hpo,hl,hh⟩,hP,l5,bp,en,hz,k⟩:=h
  refine⟨_,(ah (aT (aN cI (am fg hr (aa (aB (K:=K) rfl (pv 1) rfl) (aa (aB (K:=K) rfl (pv 1) rfl) ae))) af)
   (ak (az (am fg hr (aa (pv 0) (aa (aB (K:=K) rfl (pv 1) rfl) ae)))))
   aV)
   (ak (az (am vM hr (aa (am vI hr (aa (aB (K:=K) rfl (pv 1) rfl) (aa (am vL hr (aa (am mE hr (aa (aB (K:=K) rfl (pv 1) rfl) ae)) (aa (pv 0) ae))) ae))) (aa (aB (K:=K) rfl (pv 1) rfl) (aa (aB (K:=K) rfl (pv 1) rfl) ae))))))),?_⟩
  refine bV ⟨_,rfl,x,CN,dx,_,_,rfl,hx,RN.cl,RN.nP,eX,_,rfl,x,CN,dx,_,_,rfl,hx,RN.cl,RN.nH,eH,po,h,p,h1,h2,⟨rfl,hpo,hh,by omega,bp.mono,en.bh1.mono,en.bh2.mono⟩,λH1 s1=>(au ⟨_,rfl,aQ (λh0=>?_) (λh0=>?_)⟩)⟩
  ·have h0':sg (hv h1 h2 p)=0:=h0;refine aY ⟨_,rfl,_,rfl,x,CN,dx,_,_,rfl,s1 _ _ hx,RN.cl,RN.nH,eH,a,h,p,h1,h2,⟨rfl,s1 _ _ hA,hh.same s1,by omega,bp.mono,en.bh1.mono,en.bh2.mono⟩,λH2 s2=>?_⟩;rw[h0'];exact k H2 (s1.trans s2)
  ·have h0':¬sg (hv h1 h2 p)=0:=h0;have hx1:=s1 _ _ hx;have hpo1:=s1 _ _ hpo;rw[cA en.h2p]at h0';have hh0:pv p (ac h1 h2)≠0:=sg_ne.mp h0';obtain⟨l3,hl0⟩:=hz.resolve_left hh0;have lS:=fB p;have nS:slopeL p≠[]:=λz=>by rw[z]at lS;simp at lS;omega
   have bs:AllB 106 (slopeL p):=(qD bp (by omega)).mono;have tF:Tr (ag (slopeL p) p):=fI (jH hP.tr) hP.tr;have lF:=bK nS hP.ne;obtain⟨F1,np,e1,er,hnp,hrun,hrows⟩:=Ew hP l3 l5 bp;have eP:aj p=p:=qF (.inr hP.prim);refine aY ⟨_,rfl,x,CN,dx,_,_,rfl,hx1,RN.cl,RN.nP,eX,_,rfl,x,CN,dx,_,_,rfl,hx1,RN.cl,RN.nP,eX,po,_,rfl,hpo1,by omega,bp.mono,λp1 H2 s2 hp1 q1=>?_⟩;refine⟨_,rfl,p1,a,_,p,rfl,q1,s2 _ _ (s1 _ _ hA),by omega,by omega,bs.mono,bp.mono,λp4 H3 s3 hp4 e4=>?_⟩;have t3:=s2.trans s3;refine⟨po,p4,_,_,4,rfl,t3 _ _ hpo1,e4,hP.tr,tF,by omega,by omega,by decide,by rw[eP,e1];exact hrun,λl0 ps H4 s4 hl0' hps e5 hR=>?_⟩;have t4:=t3.trans s4;rw[eP,e1]at hR;have hx4:=t4 _ _ hx1;refine⟨_,rfl,x,CN,dx,_,_,rfl,hx4,RN.cl,RN.nL,fV,_,rfl,x,CN,dx,_,_,rfl,hx4,RN.cl,RN.nH,eH,l0,l,h,ps,_,l1,l2,h1,h2,rfl,e5,hR,(hl.same s1).same t4,(hh.same s1).same t4,en.bl1.mono,en.bl2.mono,en.bh1.mono,en.bh2.mono,hrows,by rw[er];show 3<=1000000;decide,λH5 s5=>?_⟩
   have one:∀{t n:Int},0<n->pv p (ac t n)≠0->(chS (sgs t n (bj 4 p F1))).1=1:=λ{t n} hn hne=>by
    rw[Bs,er];show vr 0 [sg (hv t n p),sg (hv t n F1),sg (hv t n np)]=1;rw[cA hn,cA hn,cA hn,hnp,qH];refine Cj ?_ ?_
    ·rcases bh (pv p (ac t n))with⟨_,q⟩ |⟨q,_⟩ |⟨_,q⟩
     ·exact .inr q
     ·exact absurd q hne
     ·exact .inl q
    ·rcases bh (pv F1 (ac t n))with⟨_,q⟩ |⟨_,q⟩ |⟨_,q⟩
     ·exact .inr (.inr q)
     ·exact .inr (.inl q)
     ·exact .inl q
   rw[one en.l2p hl0,one en.h2p hh0];exact k H5 (s1.trans (t4.trans s5))
inductive xB(C CN:Addr)(vs:List V)(H:Hp)(Q:VK)(E:XK):Prop
 |mk (x y:Addr) (p:Ex) (l1 l2 h1 h2 m1 m2 n1 n2:Int) (U:Rat->Prop):vs=[.ref x,.ref y]->NmH C CN H x p l1 l2 h1 h2->Nu p l1 l2 h1 h2 U->(pv p (ac h1 h2)=0\/(3<=p.length/\pv p (ac l1 l2)≠0))->NmH C CN H y p m1 m2 n1 n2->EndsG 1500 m1 m2 n1 n2->U (ac m1 m2)->¬U (ac n1 n2)->(∀H',Same H H'->Q (.int 0) H')->xB C CN vs H Q E
def GO(F:Fun K "compare" "compare" se f fd)(T:Txt K mg)(R:RCI K mg C)(RN:NCI K mg CN)(pU:Cal P w K mg base 4 "against" ["one","ratio"] (qC C CN) JV JE)(vO:Cal P w K mg base 3 "beside" ["one","sign"] (qB C CN) JU JD)(Le:Cal P w K mg base 36 "side" ["row","one"] (wU C CN) MK LZ):FnOk P w K mg base aG 37 f fd ["first","second"] (xB C CN):=by
 refine F.ok Ea (λvs H Q E h=>?_) (λ_ A _ s H vs Q E hr h=>?_)
 ·obtain⟨x,y,p,l1,l2,h1,h2,m1,m2,n1,n2,U,rfl,_⟩:=h;rfl
 ·obtain⟨x,y,p,l1,l2,h1,h2,m1,m2,n1,n2,U,rfl,hN,hU,hz,hM,en,ua,ub,k⟩:=h;obtain⟨q,l,h,⟨dy,hy⟩,hq,hl,hh⟩:=id hM
  refine⟨_,(ah (aT (aN tV (am pU hr (aa (pv 0) (aa (aB (K:=K) rfl (pv 1) rfl) ae))) af)
   (ak (az (cq ck af)))
   aV)
   (ah (aT (aN fP (am pU hr (aa (pv 0) (aa (aB (K:=K) rfl (pv 1) rfl) ae))) af)
     (ak (az af))
     aV)
   (ak (az (cq ck (am vO hr (aa (pv 1) (aa (am Le hr (aa (aB (K:=K) rfl (pv 1) rfl) (aa (pv 0) ae))) ae)))))))),?_⟩
  refine bV ⟨_,rfl,_,rfl,y,CN,dy,_,_,rfl,hy,RN.cl,RN.nL,fV,x,l,p,l1,l2,h1,h2,m1,m2,U,rfl,hN,hU,hl,en.l2p,en.bl1,en.bl2,λH1 v s1 a b c=>(au ⟨_,rfl,aQ (λh0=>?_) (λ_=>?_)⟩)⟩
  ·exfalso;have h0':v<=0:=h0;have:=a ua;omega
  have hy1:=s1 _ _ hy;refine bV ⟨_,rfl,_,rfl,y,CN,dy,_,_,rfl,hy1,RN.cl,RN.nH,eH,x,h,p,l1,l2,h1,h2,n1,n2,U,rfl,hN.same s1,hU,hh.same s1,en.h2p,en.bh1,en.bh2,λH2 v2 s2 a2 b2 c2=>(au ⟨_,rfl,aQ (λh0=>?_) (λ_=>?_)⟩)⟩
  ·exfalso;have h0':v2>0:=h0;have:=b2 ub;omega
  have t2:=s1.trans s2;have hy2:=t2 _ _ hy;refine aY ⟨_,rfl,_,rfl,y,CN,dy,_,_,rfl,hy2,RN.cl,RN.nP,eX,_,rfl,q,x,p,l1,l2,h1,h2,rfl,t2 _ _ hq,hN.same t2,hU.pln,hU.l5,hU.bits,hU.en,hz,λH3 s3=>?_⟩;have t3:=t2.trans s3;exact⟨y,0,p,m1,m2,n1,n2,rfl,hM.same t3,hU.l5,hU.bits,en.bh1,en.bh2,λH4 s4=>⟨_,rfl,k H4 (t3.trans s4)⟩⟩
def ui(i:Nat):((i:Int)%2=0)↔i%2=0:=by omega
def FP(F:Fun K "turned" "turned" qR f fd)(T:Txt K mg):FnOk P w K mg base aG 1 f fd ["row"] (sp1 turnL):=by
 refine F.ok DS (λvs H Q E h=>?_) (λ_ A _ s H vs Q E hr h=>?_)
 ·obtain⟨a,ns,rfl,_⟩:=h;rfl
 ·obtain⟨a,ns,rfl,hA,hn,hb,k⟩:=h;have big:=sizeLine_eq;refine⟨_,(ak (az (eT (own:=["k","value"]) (fr:=[]) (js:=[]) (by walk_at "comp_ok") rfl (oh rfl T.enumerate_ (aa (pv 0) ae)) (λ_ _ _ _=>(Fr (K:=K) (n:=2) rfl rfl (iG (df (i:=0) (show List.Nodup (["k","value"]:List Str)from by decide +kernel) rfl (Or.inl rfl) (Or.inr rfl)) (iG (df (i:=1) (show List.Nodup (["k","value"]:List Str)from by decide +kernel) rfl (Or.inl rfl) (Or.inr rfl)) oi rfl) rfl) rfl rfl)) (λ_ _ _ _=>(y7 (aN cI (av gG (pv 0) af) af) (pv 1) (cq ck (pv 1))))))),?_⟩;have hl:(ns.map V.int).length=ns.length:=No _;refine aY ⟨_,rfl,a,rfl,⟨_,SqL.of hA⟩,Kb (K:=K) (a:=a) (xs:=ns.map V.int) (λi ys Q2 H'=>∃z y:Option V,Q2=[z,y]/\ys=((List.range i).map λ(j:Nat)=>V.int (if j%2=0 then cf ns j else -cf ns j))/\Same H H') (by rw[hl];omega) ⟨none,none,rfl,rfl,Same.refl _⟩ ?_ ?_ ?_⟩
  ·rintro i ys Q2 H' _ ⟨z,y,rfl,rfl,sm⟩;exact⟨SqL.of (sm _ _ hA),by simp⟩
  ·rintro i x ys Q2 H' q hi ⟨z,y,rfl,rfl,sm⟩ hq;obtain⟨c,ec,rfl,_,_⟩:=iK hi;have hc:cf ns i=c:=pj ec;refine⟨q,_,rfl,SqT.of ax,rfl,_,_,rfl,_,_,rfl,rfl,?_⟩;refine⟨_,rfl,_,_,rfl,rfl,(by show(0:Int)<2;decide),_,_,rfl,rfl,_,rfl,?_⟩;refine aQ (λh=>?_) (λh=>?_)
   ·refine⟨_,rfl,_,_,rfl,?_,sm.then_new hq⟩;rw[<- nU,if_pos ((ui i).mp h),hc]
   ·refine⟨_,rfl,_,rfl,_,_,rfl,?_,sm.then_new hq⟩;rw[<- nU,if_neg (λz=>h ((ui i).mpr z)),hc]
  ·rintro ys Q2 H' p ⟨z,y,rfl,rfl,sm⟩ hp;refine k p _ (sm.then_new hp) (sm.free hp) ?_;rw[ax,hl];unfold RM.turnL;rw[N7];rfl
def wT(C:Addr):Sp:=λvs H Q _=>∃(p:Addr) (t b:Int),vs=[.ref p]/\RA C H p t b/\Q (.int (sg t)) H
def G7(F:Fun K "sign" "Ratio.sign" sM f fd)(T:Txt K mg)(R:RCI K mg C)(ik:Cal P w K mg base 1 "whole_sign" ["value"] jM oU oP):FnOk P w K mg base aG 2 f fd ["self"] (wT C):=by
 refine F.ok Eh (λvs H Q E h=>?_) (λ_ A _ s H vs Q E hr h=>?_)
 ·obtain⟨p,t,b,rfl,_⟩:=h;rfl
 ·obtain⟨p,t,b,rfl,⟨dx,hp⟩,k⟩:=h;refine⟨_,(ak (az (am ik hr (aa (aB (K:=K) rfl (pv 0) rfl) ae)))),?_⟩;exact⟨_,rfl,p,C,dx,_,_,rfl,hp,R.cl,R.nT,cK,_,rfl,k⟩
def ot:¬(("sign":Str)="bottom")/\¬(("sign":Str)="top"):=⟨by decide +kernel,by decide +kernel⟩
def ow:¬(("over":Str)="bottom")/\¬(("over":Str)="top"):=⟨by decide +kernel,by decide +kernel⟩
def w9(C:Addr):Sp:=λvs H Q _=>∃(p q:Addr) (t b u d:Int),vs=[.ref p,.ref q]/\RA C H p t b/\RA C H q u d/\Bits 4000 t/\Bits 4000 b/\Bits 4000 u/\Bits 4000 d/\0<b/\0<d/\u≠0/\mkR C H Q (t*d) (b*u)
def G9(F:Fun K "over" "Ratio.over" sO f fd)(T:Txt K mg)(R:RCI K mg C)(b9:KCal P w K mg base 2 C "Ratio" ["self","top","bottom"] (c9 C) eJ eI eM [.int 1]):FnOk P w K mg base aG 4 f fd ["self","other"] (w9 C):=by
 obtain⟨bJ,bI,bC,cC,cM,cL⟩:=b9;refine F.ok Ej (λvs H Q E h=>?_) (λ_ A _ s H vs Q E hr h=>?_)
 ·obtain⟨p,q,t,b,u,d,rfl,_⟩:=h;rfl
 ·obtain⟨p,q,t,b,u,d,rfl,⟨dx,hp⟩,⟨dy,hq⟩,bt,bb,bu,bd,hb,hd,hu,k⟩:=h
  refine⟨_,(ah (aT (aN cI (aB (K:=K) rfl (pv 1) rfl) af)
   (ak jb)
   aV)
   (ak (az (cD bI bJ (hr.mono) rfl bC cC .nil aR (aa (av aS (aB (K:=K) rfl (pv 0) rfl) (aB (K:=K) rfl (pv 1) rfl)) (aa (av aS (aB (K:=K) rfl (pv 0) rfl) (aB (K:=K) rfl (pv 1) rfl)) ae)))))),?_⟩
  refine bV ⟨_,rfl,q,C,dy,_,_,rfl,hq,R.cl,R.nT,cK,(au ⟨_,rfl,aQ (λh=>absurd h hu) (λh=>?_)⟩)⟩;refine⟨_,rfl,p,C,dx,_,_,rfl,hp,R.cl,R.nT,cK,_,rfl,q,C,dy,_,_,rfl,hq,R.cl,R.nB,bX,(au ⟨⟨bt.mono,bd.mono⟩,?_⟩)⟩;refine⟨_,rfl,p,C,dx,_,_,rfl,hp,R.cl,R.nB,bX,_,rfl,q,C,dy,_,_,rfl,hq,R.cl,R.nT,cK,(au ⟨⟨bb.mono,bu.mono⟩,?_⟩)⟩;exact cZ (N3 (N9 hb) hu) ((bb.mul bu).mono) k
def Nrw(C CN:Addr)(H:Hp)(vs:List V)(x wd:Addr)(p:Ex)(l1 l2 h1 h2 w1 w2 ε:Int)(Up:Int->Int->Prop):Prop:=vs=[.ref x,.ref wd]/\NmH C CN H x p l1 l2 h1 h2/\Pln p/\p.length<=5/\AllB 100 p/\RA C H wd w1 w2/\EndsG 710 l1 l2 h1 h2/\0<w1/\0<w2/\Bits 1430 w1/\Bits 1430 w2/\RootU p l1 l2 h1 h2 ε Up
def wS(C CN:Addr):Sp:=λvs H Q _=>∃(x wd:Addr) (p:Ex) (l1 l2 h1 h2 w1 w2 ε:Int) (Up:Int->Int->Prop),Nrw C CN H vs x wd p l1 l2 h1 h2 w1 w2 ε Up /\
 ∀(t y z:Addr) (H':Hp) (n pl:Nat) (x1 x2 y1 y2:Int),Same H H'->H t=none->H' t=some (.tup [.ref y,.ref z])->RA C H' y x1 x2->RA C H' z y1 y2->NarP l1 l2 h1 h2 w1 w2 Up 4984 n pl x1 x2 y1 y2->Q (.ref t) H'
def FW(F:Fun K "span_of" "span_of" qY f fd)(T:Txt K mg)(R:RCI K mg C)(RN:NCI K mg CN)(kH:Cal P w K mg base 6 "narrowed" ["row","low","high","width"] (mR C) AO AI):FnOk P w K mg base aG 7 f fd ["one","width"] (wS C CN):=by
 refine F.ok DU (λvs H Q E h=>?_) (λ_ A _ s H vs Q E hr h=>?_)
 ·obtain⟨x,wd,p,l1,l2,h1,h2,w1,w2,ε,Up,⟨rfl,_⟩,_⟩:=h;rfl
 ·obtain⟨x,wd,p,l1,l2,h1,h2,w1,w2,ε,Up,⟨rfl,⟨q,l,h,⟨dx,hx⟩,hq,hl,hh⟩,hP,l5,bp,hw,en,w1p,w2p,b1,b2,ru⟩,k⟩:=h;refine⟨_,(ak (az (am kH hr (aa (aB (K:=K) rfl (pv 0) rfl) (aa (aB (K:=K) rfl (pv 0) rfl) (aa (aB (K:=K) rfl (pv 0) rfl) (aa (pv 1) ae))))))),?_⟩;exact aY ⟨_,rfl,x,CN,dx,_,_,rfl,hx,RN.cl,RN.nP,eX,_,rfl,x,CN,dx,_,_,rfl,hx,RN.cl,RN.nL,fV,_,rfl,x,CN,dx,_,_,rfl,hx,RN.cl,RN.nH,eH,_,rfl,q,l,h,wd,p,l1,l2,h1,h2,w1,w2,710,1430,ε,Up,rfl,hq,hP.tr,hP.ne,by omega,bp.mono,hl,hh,hw,en,w1p,w2p,b1,b2,by decide,by decide,by decide,ru,k⟩
def xh(C CN:Addr):Sp:=λvs H Q _=>∃(x wd:Addr) (p:Ex) (l1 l2 h1 h2 w1 w2 ε:Int) (Up:Int->Int->Prop),Nrw C CN H vs x wd p l1 l2 h1 h2 w1 w2 ε Up /\
 ∀(y:Addr) (H':Hp) (n pl:Nat) (x1 x2 y1 y2:Int),Same H H'->H y=none->NmH C CN H' y p x1 x2 y1 y2->NarP l1 l2 h1 h2 w1 w2 Up 4984 n pl x1 x2 y1 y2->Q (.ref y) H'
def Gv(F:Fun K "narrow" "narrow" rJ f fd)(T:Txt K mg)(R:RCI K mg C)(RN:NCI K mg CN)(Ld:Cal P w K mg base 7 "span_of" ["one","width"] (wS C CN) MJ LY)(ir:KCal P w K mg base 1 CN "Number" ["self","row","low","high"] (iz CN) oY oT o4 []):FnOk P w K mg base aG 8 f fd ["one","width"] (xh C CN):=by
 obtain⟨ij,ii,g9,ic,pI,o8⟩:=ir;refine F.ok yg (λvs H Q E h=>?_) (λ_ A _ s H vs Q E hr h=>?_)
 ·obtain⟨x,wd,p,l1,l2,h1,h2,w1,w2,ε,Up,⟨rfl,_⟩,_⟩:=h;rfl
 ·obtain⟨x,wd,p,l1,l2,h1,h2,w1,w2,ε,Up,⟨rfl,hN⟩,k⟩:=h
  refine⟨_,(ah (ap 2 yg (am Ld hr (aa (pv 0) (aa (pv 1) ae))))
   (ak (az (cD ii ij (hr.mono) rfl g9 ic .nil aR (aa (aB (K:=K) rfl (pv 0) rfl) (aa (aZ K (pv 2) af) (aa (aZ K (pv 2) af) ae))))))),?_⟩
  refine aA ⟨_,rfl,_,rfl,x,wd,p,l1,l2,h1,h2,w1,w2,ε,Up,⟨rfl,hN⟩,λt y z H1 n pl x1 x2 y1 y2 s1 ht e1 hy hz nar=>?_⟩;obtain⟨q,l,h,⟨dx,hx⟩,hq,hl,hh⟩:=hN.1.same s1;refine aY ⟨_,rfl,x,CN,dx,_,_,rfl,hx,RN.cl,RN.nP,eX,(fj (SqT.of e1) rfl rfl (fj (SqT.of e1) rfl rfl (lU hq λy' q' H2 s2 hy' hN' hq' hqn=>?_)))⟩;exact k y' H2 n pl x1 x2 y1 y2 (s1.trans s2) (s1.free hy') ⟨q',y,z,hN',hq',hy.same s2,hz.same s2⟩ nar
def qt(C CN:Addr):Sp:=λvs H Q _=>∃(a:Addr) (p:Ex),vs=[.ref a]/\H a=some (.lst (p.map V.int))/\Pln p/\p.length=2/\AllB 100 p/\∀(y:Addr) (H':Hp) (u1 u2 v1 v2:Int),Same H H'->H y=none->NmH C CN H' y p u1 u2 v1 v2->EndsG 1500 u1 u2 v1 v2->pv p (ac v1 v2)=0->ac u1 u2=ac v1 v2-1->Q (.ref y) H'
def Gq(F:Fun K "only_root" "only_root" rE f fd)(T:Txt K mg)(R:RCI K mg C)(RN:NCI K mg CN)(b9:KCal P w K mg base 2 C "Ratio" ["self","top","bottom"] (c9 C) eJ eI eM [.int 1])(iq:MCal P w K mg base 4 C "minus" ["self","other"] (jN C) oX oS)(ir:KCal P w K mg base 1 CN "Number" ["self","row","low","high"] (iz CN) oY oT o4 []):FnOk P w K mg base aG 5 f fd ["row"] (qt C CN):=by
 obtain⟨bJ,bI,bC,cC,cM,cL⟩:=b9;obtain⟨gP,gI,gO⟩:=iq;obtain⟨ij,ii,g9,ic,pI,o8⟩:=ir;refine F.ok yf (λvs H Q E h=>?_) (λ_ A _ s H vs Q E hr h=>?_)
 ·obtain⟨a,p,rfl,_⟩:=h;rfl
 ·obtain⟨a,p,rfl,hA,hP,h2,bp,k⟩:=h
  obtain⟨c,b,rfl⟩:∃c b,p=[c,b]:=by
   match p,h2 with
   | [x,y],_=>exact⟨x,y,rfl⟩
  refine⟨_,(ah (ap 1 yf (cD bI bJ (hr.mono) rfl bC cC .nil aR (aa (cq ck (cH K (pv 0) af)) (aa (cH K (pv 0) af) ae))))
   (ak (az (cD ii ij (hr.mono) rfl g9 ic .nil aR (aa (pv 0) (aa (cN (pv 1) R.cl gI gP (hr.mono) gO .nil aR (aa (cD bI bJ (hr.mono) rfl bC cM cL aR (aa af ae)) ae)) (aa (pv 1) ae))))))),?_⟩
  have hb:0<b:=hP.pos;have bb:Bits 100 b:=bp b (by simp);have bc:Bits 100 c:=bp c (by simp);refine aA (yC (SqL.of hA) rfl rfl ⟨_,rfl,(yC (SqL.of hA) rfl rfl (cZ (t := -c) (b:=b) (by omega) (bb.mono) λr H1 s1 hr1 hR1=>?_))⟩);have b0:b≠0:=by omega
  have p1:=cG (t := -c) b0;have g1:=gX (t := -c) b0;have c1:=eE (cG (t := -c) b0) hb (d9 (t := -c) b0);have k1:Bits 100 (rt (-c) b):=dm b0 bc.neg;have k2:Bits 100 (rb (-c) b):=dA b0 bb
  have ev:pv [c,b] (ac (-c) b)=0:=by show(c:Rat)+ac (-c) b*((b:Rat)+ac (-c) b*0)=0;have:=fL (a := -c) hb;rw[Ow]at this;grind
  rw[<- c1]at ev;generalize rt (-c) b=v1 at *
  generalize rb (-c) b=v2 at *
  obtain⟨dr,hr'⟩:=id hR1;have hA1:=s1 _ _ hA;refine aY ⟨_,rfl,_,rfl,r,dr,_,rfl,hr',cB fQ.1 fQ.2,cZ (t:=1) (b:=1) (by decide) (cO (by decide)) λr1 H2 s2 hr2 hR2=>?_⟩;rw[gT,gW]at hR2;refine⟨r,r1,v1,v2,1,1,100,1,rfl,hR1.same s2,hR2,k1.mono,k2,cO (by decide),cO (by decide),by decide,p1,by decide,λr3 H3 s3 hr3 hR3=>?_⟩;have d0:v2*1≠0:=by omega
  have p3:=cG (t:=v1*1-1*v2) d0;have g3:=gX (t:=v1*1-1*v2) d0;have c3:=eE p3 (show 0<v2*1 by omega) (d9 (t:=v1*1-1*v2) d0);have k3:Bits 1500 (rt (v1*1-1*v2) (v2*1)):=dm d0 (by rw[Oc,NM];exact(Bits.sub k1 k2).mono);have k4:Bits 1500 (rb (v1*1-1*v2) (v2*1)):=dA d0 (by rw[Oc];exact k2.mono)
  have el:ac (v1*1-1*v2) (v2*1)=ac v1 v2-1:=by
   rw[Oc,NM,Oc];have e1:=fL (a:=v1-v2) p1;have e2:=fL (a:=v1) p1;have pv2:(0:Rat)<(v2:Rat):=NJ.mpr p1;rw[Pt,<- e2]at e1;generalize ac (v1-v2) v2=z at *
   generalize ac v1 v2=u at *
   have:(z-(u-1))*(v2:Rat)=0:=by grind
   rcases Oo.mp this with q |q
   ·grind
   ·grind
  rw[el]at c3;generalize rt (v1*1-1*v2) (v2*1)=u1 at *
  generalize rb (v1*1-1*v2) (v2*1)=u2 at *
  refine⟨_,rfl,lU ((s2.trans s3) _ _ hA1) λy q H4 s4 hy hN hq hqn=>?_⟩;have t4:=(s1.trans (s2.trans s3));exact k y H4 u1 u2 v1 v2 (t4.trans s4) (t4.free hy) ⟨q,r3,r,hN,hq,hR3.same s4,(hR1.same (s2.trans s3)).same s4⟩ ⟨p3,p1,k3,k4,k1.mono,k2.mono,(bB p3 p1).mp (by rw[c3];grind),g3,g1⟩ ev c3
def zR{a b:Int}(hb:0<b):ac (0*b-a*1) (1*b) = -(ac a b):=by
 have e1:=fL (a:=0*b-a*1) (show 0<1*b by omega);have e2:=fL (a:=a) hb;have pb:(0:Rat)<(b:Rat):=NJ.mpr hb;have x1:0*b-a*1 = -a:=by omega
 have x2:1*b=b:=by omega
 rw[x1,x2]at e1 ⊢;rw[Ow,<- e2]at e1;generalize ac (-a) b=z at *
 generalize ac a b=u at *
 have:(z+u)*(b:Rat)=0:=by grind
 rcases Oo.mp this with q |q
 ·grind
 ·grind
def xb(C CN:Addr):Sp:=λvs H Q _=>∃(x:Addr) (p:Ex) (l1 l2 h1 h2:Int),vs=[.ref x]/\NmH C CN H x p l1 l2 h1 h2/\Pln p/\2<=p.length/\p.length<=5/\AllB 100 p/\EndsG 710 l1 l2 h1 h2 /\
 ∀(y:Addr) (H':Hp) (u1 u2 v1 v2:Int),Same H H'->H y=none->NmH C CN H' y (aq (turnL p)) u1 u2 v1 v2->EndsG 1500 u1 u2 v1 v2->((p.length=2/\pv (aq (turnL p)) (ac v1 v2)=0/\ac u1 u2=ac v1 v2-1)\/(3<=p.length/\ac u1 u2 = -(ac h1 h2)/\ac v1 v2 = -(ac l1 l2)))->Q (.ref y) H'
def Gp(F:Fun K "opposite" "opposite" rD f fd)(T:Txt K mg)(R:RCI K mg C)(RN:NCI K mg CN)(fF:Cal P w K mg base 34 "plain" ["row"] iT mf me)(KY:Cal P w K mg base 1 "turned" ["row"] (sp1 turnL) MD LQ)(d6:Cal P w K mg base 1 "degree" ["row"] iA ku kq)(vK:Cal P w K mg base 5 "only_root" ["row"] (qt C CN) JN Jw)(ir:KCal P w K mg base 1 CN "Number" ["self","row","low","high"] (iz CN) oY oT o4 [])(b9:KCal P w K mg base 2 C "Ratio" ["self","top","bottom"] (c9 C) eJ eI eM [.int 1])(iq:MCal P w K mg base 4 C "minus" ["self","other"] (jN C) oX oS):FnOk P w K mg base aG 35 f fd ["one"] (xb C CN):=by
 obtain⟨ij,ii,g9,ic,pI,o8⟩:=ir;obtain⟨bJ,bI,bC,cC,cM,cL⟩:=b9;obtain⟨gP,gI,gO⟩:=iq;refine F.ok ye (λvs H Q E h=>?_) (λ_ A _ s H vs Q E hr h=>?_)
 ·obtain⟨x,p,l1,l2,h1,h2,rfl,_⟩:=h;rfl
 ·obtain⟨x,p,l1,l2,h1,h2,rfl,hN,hP,l2',l5,bp,en,k⟩:=h;obtain⟨q,l,h,⟨dx,hx⟩,hq,hl,hh⟩:=id hN;have tT:=gw hP.tr;have nT:=iw hP.ne;have lT:=dO p;have pT:=cX tT nT;have lP:(aq (turnL p)).length=p.length:=by rw[RM.plain_len,dO]
  have bT:AllB 100 (turnL p):=λv hv=>by
   obtain⟨n,hn,rfl⟩:=g8 hv;rw[dZ];split
   ·exact bp.cf n
   ·exact(bp.cf n).neg
  have bP:=jd bT
  refine⟨_,(ah (ap 1 ye (am fF hr (aa (am KY hr (aa (aB (K:=K) rfl (pv 0) rfl) ae)) ae)))
   (ah (aT (aN cI (am d6 hr (aa (pv 1) ae)) af)
     (ak (az (am vK hr (aa (pv 1) ae))))
     aV)
   (ak (az (cD ii ij (hr.mono) rfl g9 ic .nil aR (aa (pv 1) (aa (cN (cD bI bJ (hr.mono) rfl bC cM cL aR (aa af ae)) R.cl gI gP (hr.mono) gO .nil aR (aa (aB (K:=K) rfl (pv 0) rfl) ae)) (aa (cN (cD bI bJ (hr.mono) rfl bC cM cL aR (aa af ae)) R.cl gI gP (hr.mono) gO .nil aR (aa (aB (K:=K) rfl (pv 0) rfl) ae)) ae)))))))),?_⟩
  refine aA ⟨_,rfl,x,CN,dx,_,_,rfl,hx,RN.cl,RN.nP,eX,q,p,rfl,hq,by omega,bp.mono,λp1 H1 s1 hp1 e1=>?_⟩;refine⟨p1,turnL p,rfl,e1,tT,by omega,λp2 H2 s2 hp2 e2=>?_⟩;have t2:=s1.trans s2;have hml:((aq (turnL p)).map V.int).length=p.length:=by rw[No,lP]
  refine bV ⟨_,rfl,p2,_,rfl,e2,_,_,rfl,rfl,_,rfl,aQ (λh0=>?_) (λh0=>?_)⟩
  ·have h0':(((aq (turnL p)).map V.int).length:Int)-1=1:=h0;rw[hml]at h0';exact aY ⟨_,rfl,p2,_,rfl,e2,pT,by omega,bP,λy H3 u1 u2 v1 v2 s3 hy hN3 en3 z1 z2=>k y H3 u1 u2 v1 v2 (t2.trans s3) (t2.free hy) hN3 en3 (.inl ⟨by omega,z1,z2⟩)⟩
  have h0':¬(((aq (turnL p)).map V.int).length:Int)-1=1:=h0;rw[hml]at h0';have hx2:=t2 _ _ hx;have hl2:=hl.same t2;have hh2:=hh.same t2;refine aY ⟨_,rfl,cZ (t:=0) (b:=1) (by decide) (cO (by decide)) λr0 H3 s3 hr3 hR3=>?_⟩;rw[gT,gW]at hR3;obtain⟨d3,hR3'⟩:=id hR3;refine⟨r0,d3,_,rfl,hR3',cB fQ.1 fQ.2,_,rfl,x,CN,dx,_,_,rfl,s3 _ _ hx2,RN.cl,RN.nH,eH,r0,h,0,1,h1,h2,1,710,rfl,hR3,hh2.same s3,b0k _,cO (by decide),en.bh1.mono,en.bh2,by decide,by decide,en.h2p,λr4 H4 s4 hr4 hR4=>?_⟩;have u4:=s3.trans s4;refine cZ (t:=0) (b:=1) (by decide) (cO (by decide)) λr5 H5 s5 hr5 hR5=>?_
  rw[gT,gW]at hR5;obtain⟨d5,hR5'⟩:=id hR5;have u5:=u4.trans s5;refine⟨r5,d5,_,rfl,hR5',cB fQ.1 fQ.2,_,rfl,x,CN,dx,_,_,rfl,u5 _ _ hx2,RN.cl,RN.nL,fV,r5,l,0,1,l1,l2,1,710,rfl,hR5,hl2.same u5,b0k _,cO (by decide),en.bl1.mono,en.bl2,by decide,by decide,en.l2p,λr6 H6 s6 hr6 hR6=>?_⟩;have u6:=u5.trans s6;have dh:1*h2≠0:=by have:=en.h2p;omega
  have dl:1*l2≠0:=by have:=en.l2p;omega
  have ph:=cG (t:=0*h2-h1*1) dh;have pl:=cG (t:=0*l2-l1*1) dl;have gh:=gX (t:=0*h2-h1*1) dh;have gl:=gX (t:=0*l2-l1*1) dl;have ch:=(eE ph (show 0<1*h2 by have:=en.h2p;omega) (d9 (t:=0*h2-h1*1) dh)).trans (zR en.h2p);have cl:=(eE pl (show 0<1*l2 by have:=en.l2p;omega) (d9 (t:=0*l2-l1*1) dl)).trans (zR en.l2p);have x1:0*h2-h1*1 = -h1:=by omega
  have x2:0*l2-l1*1 = -l1:=by omega
  have kh1:Bits 1500 (rt (0*h2-h1*1) (1*h2)):=dm dh (by rw[x1];exact en.bh1.neg.mono);have kh2:Bits 1500 (rb (0*h2-h1*1) (1*h2)):=dA dh (by rw[NM];exact en.bh2.mono);have kl1:Bits 1500 (rt (0*l2-l1*1) (1*l2)):=dm dl (by rw[x2];exact en.bl1.neg.mono);have kl2:Bits 1500 (rb (0*l2-l1*1) (1*l2)):=dA dl (by rw[NM];exact en.bl2.mono);generalize rt (0*h2-h1*1) (1*h2)=u1 at *
  generalize rb (0*h2-h1*1) (1*h2)=u2 at *
  generalize rt (0*l2-l1*1) (1*l2)=v1 at *
  generalize rb (0*l2-l1*1) (1*l2)=v2 at *
  refine lU (u6 _ _ e2) λy q' H7 s7 hy hN7 hq7 hqn=>?_
  have t7:=t2.trans u6;have lt:=(bB en.l2p en.h2p).mpr en.lt;exact k y H7 u1 u2 v1 v2 (t7.trans s7) (t7.free hy) ⟨q',r4,r6,hN7,hq7,(hR4.same (s5.trans s6)).same s7,hR6.same s7⟩ ⟨ph,pl,kh1,kh2,kl1,kl2,(bB ph pl).mp (by rw[ch,cl];grind),gh,gl⟩ (.inr ⟨by omega,ch,cl⟩)
def GI(F:Fun K "flipped" "flipped" rV f fd)(T:Txt K mg)(io:Cal P w K mg base 1 "poly" ["row"] (jK K) oV oQ):FnOk P w K mg base aG 2 f fd ["row"] (sp1 uI):=by
 refine F.ok D5 (λvs H Q E h=>?_) (λ_ A _ s H vs Q E hr h=>?_)
 ·obtain⟨a,ns,rfl,_⟩:=h;rfl
 ·obtain⟨a,ns,rfl,hA,hn,hb,k⟩:=h;refine⟨_,(ak (az (am io hr (aa (Fw (K:=K) rfl rfl (by rfl) T.list_ (by rfl) T.reversed_ (aa (pv 0) ae)) ae)))),?_⟩;refine⟨_,rfl,a,_,rfl,SqL.of hA,λp hp=>⟨p,ns.reverse,rfl,SqL.of ?_,λq H' sm hq e=>k q H' ((Same.upd_new hp).trans sm) ((Same.upd_new hp).free hq) e⟩⟩;rw[ax,List.map_reverse]
theorem yQ{M x:Rat}(hM:0<=M)(hx:Bd (1/2) x):∀l:Ex,(∀c∈l,Bd M (c:Rat))->Bd (2*M) (pv l x)
 | [],_=>by show Bd (2*M) 0;constructor<;>grind
 |c::l,h=>by
  have ih:=yQ hM hx l λd hd=>h d (NB _ hd)
  obtain⟨a,b⟩:=h c (NK ..);obtain⟨d,e⟩:=hx.mul ih;show Bd (2*M) ((c:Rat)+x*pv l x);generalize x*pv l x=y at *
  constructor<;>grind
def Hf{G:Ex}{kb d:Nat}{u1 u2 v1 v2:Int}(g:Gd G kb)(g0:pv G 0≠0)(h:Dya (2^kb) d u1 u2 v1 v2)(hd:50<=d)(o:vw G (ac u1 u2)-vw G (ac v1 v2)=1)(hu:ac u1 u2<=0)(hv:0<=ac v1 v2):False:=by
 obtain⟨i1,i2,i3⟩:=jo h;have lt:=gn h;have k24:=jF g.k24;have D:=jF hd;have W0:0<ac v1 v2-ac u1 u2:=by grind
 have small:ac v1 v2-ac u1 u2<=1/33554432:=by
  have a:=NE D (Np W0);have e50:(2:Rat)^50=33554432*33554432:=by decide +kernel
  have e24:2*(2:Rat)^24=33554432:=by decide +kernel
  rw[e50]at a;have b:2*(2:Rat)^kb<=33554432:=by rw[<- e24];grind
  refine du (c:=33554432*33554432) (by decide +kernel) ?_;have e:(1/33554432:Rat)*(33554432*33554432)=33554432:=by decide +kernel
  rw[e];generalize (2:Rat)^d=X at *
  generalize (2:Rat)^kb=Y at *
  grind
 obtain⟨c,r,rfl⟩:∃c r,G=c::r:=by
  match G,g.fp.pln.ne with
  |c::r,_=>exact⟨c,r,rfl⟩
 have c0:c≠0:=λz=>g0 (by
  show(c:Rat)+0*_=0
  rw[z];show(0:Rat)+0*_=0;grind)
 have hr:∀y∈r,Bd 16000000 (y:Rat):=λy hy=>by have:=g.fp.hgt y (NB _ hy);have a1:((-16000000:Int):Rat)<=(y:Rat):=OL.mpr this.1;have a2:(y:Rat)<=((16000000:Int):Rat):=OL.mpr this.2;exact⟨a1,a2⟩
 have one:(1:Rat)<=(c:Rat)\/(c:Rat) <= -1:=by
  rcases Int.lt_or_gt_of_ne c0 with z |z
  ·right;have:((c:Int):Rat)<=((-1:Int):Rat):=OL.mpr (by omega);exact this
  ·left;have:((1:Int):Rat)<=((c:Int):Rat):=OL.mpr (by omega);exact this
 have C:=g.fp.flt.cnt
 have e:=C.keep (s:=ai (c:Rat)) (Np lt) λz z1 z2=>by
  have bz:Bd (1/33554432) z:=⟨by grind,by grind⟩;have le2:(1/33554432:Rat)<=1/2:=by decide +kernel
  have b2:Bd (1/2) z:=⟨by have:=bz.1;grind,by have:=bz.2;grind⟩;have hb:=yQ (M:=16000000) (by decide) b2 r hr;obtain⟨a,b⟩:=bz.mul hb;show ai ((c:Rat)+z*pv r z)=_;have q:(1/33554432:Rat)*(2*16000000)<1:=by decide +kernel
  generalize z*pv r z=y at *
  unfold ai;rcases one with w |w
  ·rw[if_neg (by grind),if_pos (by grind),if_neg (by grind),if_pos (by grind)]
  ·rw[if_pos (by grind),if_pos (by grind)]
 omega
def xf(C CN:Addr):Sp:=λvs H Q _=>∃(x:Addr) (G:Ex) (kb:Nat) (p:Ex) (l1 l2 h1 h2:Int),vs=[.ref x]/\NmH C CN H x p l1 l2 h1 h2/\Nm G kb p l1 l2 h1 h2/\pv G 0≠0/\∀(y:Addr) (c1 c2 d1 d2:Int) (H':Hp),Same H H'->NmH C CN H' y p c1 c2 d1 d2->Sn G kb c1 c2 d1 d2->ac l1 l2<=ac c1 c2->ac d1 d2<=ac h1 h2->vw G (ac c1 c2)=vw G (ac l1 l2)->vw G (ac d1 d2)=vw G (ac h1 h2)->(0<c1\/d1<0)->Q (.ref y) H'
def gK{a b:Int}(hb:0<b):(0<ac a b↔0<a)/\(ac a b<0↔a<0):=by
 have z:ac 0 1=0:=zP;refine⟨?_,?_⟩
 ·rw[<- z,bB (by decide) hb];omega
 ·rw[<- z,bB hb (by decide)];omega
def Gr(F:Fun K "off_nought" "off_nought" rF f fd)(T:Txt K mg)(R:RCI K mg C)(RN:NCI K mg CN)(LH:MCal P w K mg base 2 C "sign" ["self"] (wT C) Nk Mx)(Ll:Cal P w K mg base 8 "narrow" ["one","width"] (xh C CN) MT Ma)(iq:MCal P w K mg base 4 C "minus" ["self","other"] (jN C) oX oS)(ip:MCal P w K mg base 4 C "times" ["self","other"] (jL C) oW oR)(b9:KCal P w K mg base 2 C "Ratio" ["self","top","bottom"] (c9 C) eJ eI eM [.int 1]):FnOk P w K mg base aG 9 f fd ["one"] (xf C CN):=by
 obtain⟨BT,zB,BH⟩:=LH;obtain⟨gP,gI,gO⟩:=iq;obtain⟨fZ,fS,fY⟩:=ip;obtain⟨bJ,bI,bC,cC,cM,cL⟩:=b9;refine F.ok qL (λvs H Q E h=>?_) (λ_ A _ s H vs Q E hr h=>?_)
 ·obtain⟨x,G,kb,p,l1,l2,h1,h2,rfl,_⟩:=h;rfl
 ·obtain⟨x,G,kb,p,l1,l2,h1,h2,rfl,hN,hM,g0,k⟩:=h;have hg:=hM.sn.gd;have fG:=hg.fp.flt;obtain⟨lr,br⟩:=kh hg hM.ls.od;obtain⟨d,hd,hdy⟩:=hM.dy
  refine⟨_,(ah (ap 1 qL (pv 0))
   (ah (gY PassesOwn.never (aN tV (av aS (tI (aB (K:=K) rfl (pv 1) rfl) R.cl zB BT (hr.mono) BH .nil aR) (tI (aB (K:=K) rfl (pv 1) rfl) R.cl zB BT (hr.mono) BH .nil aR)) af)
     (ak (ap 1 qL (am Ll hr (aa (pv 1) (aa (cN (cN (aB (K:=K) rfl (pv 1) rfl) R.cl gI gP (hr.mono) gO .nil aR (aa (aB (K:=K) rfl (pv 1) rfl) ae)) R.cl fS fZ (hr.mono) fY .nil aR (aa (cD bI bJ (hr.mono) rfl bC cC .nil aR (aa af (aa af ae))) ae)) ae))))))
   (ak (az (pv 1))))),?_⟩
  refine aA ⟨_,rfl,?_⟩;refine⟨λm Q2 H'=>∃(y:Addr) (u1 u2 v1 v2:Int) (d':Nat),Q2=[some (.ref x),some (.ref y)]/\Same H H'/\NmH C CN H' y p u1 u2 v1 v2/\d'<=420/\m=420-d'/\Dya (2^kb) d' u1 u2 v1 v2/\ac l1 l2<=ac u1 u2/\ac v1 v2<=ac h1 h2/\vw G (ac u1 u2)=vw G (ac l1 l2)/\vw G (ac v1 v2)=vw G (ac h1 h2)/\LS G (ac u1 u2) (ac v1 v2) p,⟨420-d,x,l1,l2,h1,h2,d,rfl,Same.refl _,hN,hd,rfl,hdy,Nt,Nt,rfl,rfl,hM.ls⟩,?_⟩;rintro m Q2 H3 ⟨y,u1,u2,v1,v2,d',rfl,s3,hY,hd',rfl,dy,lou,hiv,eu,ev,L'⟩;have o:=hM.sn.one;have oc:vw G (ac u1 u2)-vw G (ac v1 v2)=1:=by omega
  have sc:=xF hg dy (by omega) oc;have en:=sc.en;obtain⟨q,lo,hi,⟨dx,hy⟩,hq,hlo,hhi⟩:=id hY;obtain⟨dl,hlo'⟩:=id hlo;obtain⟨dh,hhi'⟩:=id hhi;refine⟨_,rfl,y,CN,dx,_,_,rfl,hy,RN.cl,RN.nL,fV,lo,dl,_,rfl,hlo',cB ot.1 ot.2,lo,u1,u2,rfl,hlo,_,rfl,y,CN,dx,_,_,rfl,hy,RN.cl,RN.nH,eH,hi,dh,_,rfl,hhi',cB ot.1 ot.2,hi,v1,v2,rfl,hhi,_,_,rfl,rfl,⟨oo (m8 _),oo (m8 _)⟩,(au ⟨_,rfl,aQ (λh0=>?_) (λh0=>?_)⟩)⟩
  ·have h0':sg u1*sg v1<=0:=h0;have lt:=gn dy
   have hu0:ac u1 u2<=0:=Oi.mp λz=>by have a:=((gK en.l2p).1).mp z;have b:=((gK en.h2p).1).mp (show 0<ac v1 v2 by grind);rw[nh a,nh b]at h0';exact absurd h0' (by decide)
   have hv0:0<=ac v1 v2:=Oi.mp λz=>by have b:=((gK en.h2p).2).mp z;have a:=((gK en.l2p).2).mp (show ac u1 u2<0 by grind);rw[qG a,qG b]at h0';exact absurd h0' (by decide)
   have dlt:d'<50:=Nat.not_le.mp λz=>Hf hg g0 dy z oc hu0 hv0
   refine⟨_,λ_ _ h=>h,?_⟩;refine⟨_,rfl,_,rfl,y,CN,dx,_,_,rfl,hy,RN.cl,RN.nH,eH,hi,dh,_,rfl,hhi',cB fQ.1 fQ.2,_,rfl,y,CN,dx,_,_,rfl,hy,RN.cl,RN.nL,fV,hi,lo,v1,v2,u1,u2,710,710,rfl,hhi,hlo,en.bh1.mono,en.bh2,en.bl1.mono,en.bl2,by decide,en.h2p,en.l2p,λr H5 s5 hr5 hR=>?_⟩;obtain⟨dr,hR'⟩:=id hR;obtain⟨w1p,w2p,hw⟩:=Au en.l2p en.h2p en.lt;have d0:v2*u2≠0:=N9 (NH en.h2p en.l2p);have br1:Bits 1421 (rt (v1*u2-u1*v2) (v2*u2)):=dm d0 (Bits.sub ((en.bh1.mul en.bl2).mono) ((en.bl1.mul en.bh2).mono));have br2:Bits 1421 (rb (v1*u2-u1*v2) (v2*u2)):=dA d0 ((en.bh2.mul en.bl2).mono);have rp0:=cG (t:=v1*u2-u1*v2) d0;refine⟨r,dr,_,rfl,hR',cB dU.1 dU.2,?_⟩;have b2:Bits 2 (2:Int):=by show(2:Int).natAbs<2^2;decide
   refine cZ (t:=1) (b:=2) (by decide) (b2.mono) λhf H6 s6 hx6 hF=>?_
   have e12:rt 1 2=1/\rb 1 2=2:=⟨by decide,by decide⟩;rw[e12.1,e12.2]at hF;refine⟨r,hf,_,_,1,2,1421,2,rfl,hR.same s6,hF,br1.mono,br2,cO (by decide),b2,by decide,rp0,by decide,λwd H7 s7 hwd hW=>?_⟩;have bw1:Bits 1430 (rt (rt (v1*u2-u1*v2) (v2*u2)*1) (rb (v1*u2-u1*v2) (v2*u2)*2)):=dm (by omega) (by rw[Oc];exact br1.mono);have bw2:Bits 1430 (rb (rt (v1*u2-u1*v2) (v2*u2)*1) (rb (v1*u2-u1*v2) (v2*u2)*2)):=dA (by omega) ((br2.mul b2).mono);generalize rt (rt (v1*u2-u1*v2) (v2*u2)*1) (rb (v1*u2-u1*v2) (v2*u2)*2)=w1 at *
   generalize rb (rt (v1*u2-u1*v2) (v2*u2)*1) (rb (v1*u2-u1*v2) (v2*u2)*2)=w2 at *
   have u7:=s5.trans (s6.trans s7);obtain⟨ε,ru⟩:=j0 fG en.l2p en.h2p en.lt oc L'.od;refine⟨y,wd,p,u1,u2,v1,v2,w1,w2,ε,_,⟨rfl,hY.same u7,L'.od.pln,lr,br,hW,en,w1p,w2p,bw1,bw2,ru⟩,λy8 H8 n pl x1 x2 y1 y2 s8 hy8 hN8 nar=>?_⟩;have dy8:=Av dy en.lt w1p hw nar;have en8:=nar.ends;have lo8:=(dj en.l2p en8.l2p).mpr nar.lo;have hi8:=(dj en8.h2p en.h2p).mpr nar.hi;have xy8:=(bB en8.l2p en8.h2p).mpr en8.lt;have ux8:vw G (ac x1 x2)=vw G (ac u1 u2):=nar.ux
   have uy8:vw G (ac y1 y2)=vw G (ac v1 v2):=by have n':¬vw G (ac y1 y2)=vw G (ac u1 u2):=nar.uy;have a:=fG.cnt.le (NZ lo8 (Np xy8));have b:=fG.cnt.le hi8;omega
   exact⟨420-(d'+1),by omega,y8,x1,x2,y1,y2,d'+1,rfl,s3.trans (u7.trans s8),hN8,by omega,rfl,dy8,NZ lou lo8,NZ hi8 hiv,by omega,by omega,LS.sub fG sc.lt oc L' lo8 xy8 hi8 ux8 uy8⟩
  ·have h0':¬sg u1*sg v1<=0:=h0
   have nz:0<u1\/v1<0:=by
    rcases Int.lt_trichotomy u1 0 with z |z |z
    ·right;rcases Int.lt_trichotomy v1 0 with w |w |w
     ·exact w
     ·exfalso;rw[w]at h0';exact h0' (by rw[show sg 0=0 from rfl];omega)
     ·exfalso;rw[qG z,nh w]at h0';exact h0' (by decide)
    ·exfalso;rw[z]at h0';exact h0' (by rw[show sg 0=0 from rfl];omega)
    ·exact .inl z
   exact⟨_,rfl,k y u1 u2 v1 v2 H3 s3 hY sc lou hiv eu ev nz⟩
def zS{a b:Int}(hb:0<b)(ha:a≠0):ac (rt (1*b) (1*a)) (rb (1*b) (1*a))=1/ac a b:=by
 have d0:1*a≠0:=by omega
 have p:=cG (t:=1*b) d0;have c:=d9 (t:=1*b) d0;have e1:=fL (a:=rt (1*b) (1*a)) p;have e2:=fL (a:=a) hb;have pr:(0:Rat)<((rb (1*b) (1*a):Int):Rat):=NJ.mpr p;have pb:(0:Rat)<(b:Rat):=NJ.mpr hb;have ar:(a:Rat)≠0:=dC ha
 have c':((rt (1*b) (1*a):Int):Rat)*(a:Rat)=(b:Rat)*((rb (1*b) (1*a):Int):Rat):=by have:=congrArg (λz:Int=>(z:Rat)) c;simp only[NC]at this;have c1:((1:Int):Rat)=1:=rfl;rw[c1]at this;grind
 have w0:ac a b≠0:=λz=>by rw[z,Ps]at e2;exact ar e2.symm
 have e3:1/ac a b*ac a b=1:=Nx w0;rw[<- e1,<- e2]at c';generalize ac (rt (1*b) (1*a)) (rb (1*b) (1*a))=z at *
 generalize ((rb (1*b) (1*a):Int):Rat)=r at *
 generalize 1/ac a b=i at *
 generalize ac a b=w at *
 have q:(z*w-1)*((b:Rat)*r)=0:=by grind
 have q2:z*w=1:=by
  rcases Oo.mp q with y |y
  ·grind
  ·have:=NV pb pr;grind
 have q3:(z-i)*w=0:=by grind
 rcases Oo.mp q3 with y |y
 ·grind
 ·exact absurd y w0
def xp(C CN:Addr):Sp:=λvs H Q _=>∃(x:Addr) (G:Ex) (kb:Nat) (p:Ex) (l1 l2 h1 h2:Int) (U:Rat->Prop),vs=[.ref x]/\NmH C CN H x p l1 l2 h1 h2/\Nm G kb p l1 l2 h1 h2/\Nu p l1 l2 h1 h2 U/\pv G 0≠0 /\
 ∀(y:Addr) (H':Hp) (u1 u2 v1 v2:Int),Same H H'->H y=none->NmH C CN H' y (aq p.reverse) u1 u2 v1 v2->EndsG 1500 u1 u2 v1 v2->((p.length=2/\pv (aq p.reverse) (ac v1 v2)=0/\ac u1 u2=ac v1 v2-1)\/(3<=p.length/\∃c d:Rat,ac l1 l2<=c/\c<d/\d<=ac h1 h2/\vw G c=vw G (ac l1 l2)/\vw G d=vw G (ac h1 h2)/\(0<c\/d<0)/\ac u1 u2=1/d/\ac v1 v2=1/c))->Q (.ref y) H'
def GF(F:Fun K "inverse" "inverse" rR f fd)(T:Txt K mg)(R:RCI K mg C)(RN:NCI K mg CN)(pP:Cal P w K mg base 5 "sign_of" ["one"] (qo C CN) JH Jq)(fF:Cal P w K mg base 34 "plain" ["row"] iT mf me)(Lw:Cal P w K mg base 2 "flipped" ["row"] (sp1 uI) M6 Mj)(d6:Cal P w K mg base 1 "degree" ["row"] iA ku kq)(vK:Cal P w K mg base 5 "only_root" ["row"] (qt C CN) JN Jw)(Lj:Cal P w K mg base 9 "off_nought" ["one"] (xf C CN) MR L8)(ir:KCal P w K mg base 1 CN "Number" ["self","row","low","high"] (iz CN) oY oT o4 [])(b9:KCal P w K mg base 2 C "Ratio" ["self","top","bottom"] (c9 C) eJ eI eM [.int 1])(LI:MCal P w K mg base 4 C "over" ["self","other"] (w9 C) Nl Mz):FnOk P w K mg base aG 36 f fd ["one"] (xp C CN):=by
 obtain⟨ij,ii,g9,ic,pI,o8⟩:=ir;obtain⟨bJ,bI,bC,cC,cM,cL⟩:=b9;obtain⟨BU,zD,BI⟩:=LI;refine F.ok qM (λvs H Q E h=>?_) (λ_ A _ s H vs Q E hr h=>?_)
 ·obtain⟨x,G,kb,p,l1,l2,h1,h2,U,rfl,_⟩:=h;rfl
 ·obtain⟨x,G,kb,p,l1,l2,h1,h2,U,rfl,hN,hM,hU,g0,k⟩:=h;have hP:=hU.pln;have l5:=hU.l5;have l2':=hU.l2';have bp:=hU.bits;have p0:pv p 0≠0:=λz=>g0 (eK hM.ls.od.dv z)
  have c0:cf p 0≠0:=λz=>p0 (by rw[j7,z];rfl)
  have tR:=fK c0;have nR:p.reverse≠[]:=by simpa using hP.ne
  have pR:=cX tR nR;have eF:uI p=p.reverse:=pZ tR;have lR:(aq p.reverse).length=p.length:=by rw[RM.plain_len,NS]
  have bR:AllB 100 (aq p.reverse):=jd λv hv=>bp v (List.mem_reverse.mp hv)
  refine⟨_,(ah (aT (aN cI (am pP hr (aa (pv 0) ae)) af)
   (ak jb)
   aV)
   (ah (ap 1 qM (am fF hr (aa (am Lw hr (aa (aB (K:=K) rfl (pv 0) rfl) ae)) ae)))
   (ah (aT (aN cI (am d6 hr (aa (pv 1) ae)) af)
     (ak (az (am vK hr (aa (pv 1) ae))))
     aV)
   (ah (ap 2 qM (am Lj hr (aa (pv 0) ae)))
   (ak (az (cD ii ij (hr.mono) rfl g9 ic .nil aR (aa (pv 1) (aa (cN (cD bI bJ (hr.mono) rfl bC cM cL aR (aa af ae)) R.cl zD BU (hr.mono) BI .nil aR (aa (aB (K:=K) rfl (pv 2) rfl) ae)) (aa (cN (cD bI bJ (hr.mono) rfl bC cM cL aR (aa af ae)) R.cl zD BU (hr.mono) BI .nil aR (aa (aB (K:=K) rfl (pv 2) rfl) ae)) ae)))))))))),?_⟩
  refine bV ⟨_,rfl,x,p,l1,l2,h1,h2,U,rfl,hN,hU,p0,λH1 v s1 a b=>(au ⟨_,rfl,aQ (λh0=>?_) (λ_=>?_)⟩)⟩
  ·exfalso;have h0':v=0:=h0;by_cases z:U 0
   ·have:=a z;omega
   ·have:=b z;omega
  obtain⟨q,l,h,⟨dx,hx⟩,hq,hl,hh⟩:=hN.same s1;refine aA ⟨_,rfl,x,CN,dx,_,_,rfl,hx,RN.cl,RN.nP,eX,q,p,rfl,hq,by omega,bp.mono,λp1 H2 s2 hp1 e1=>?_⟩;rw[eF]at e1;refine⟨p1,p.reverse,rfl,e1,tR,by rw[NS];omega,λp2 H3 s3 hp2 e2=>?_⟩;have t3:=s1.trans (s2.trans s3);have hml:((aq p.reverse).map V.int).length=p.length:=by rw[No,lR]
  refine bV ⟨_,rfl,p2,_,rfl,e2,_,_,rfl,rfl,_,rfl,aQ (λh0=>?_) (λh0=>?_)⟩
  ·have h0':(((aq p.reverse).map V.int).length:Int)-1=1:=h0;rw[hml]at h0';exact aY ⟨_,rfl,p2,_,rfl,e2,pR,by omega,bR,λy H4 u1 u2 v1 v2 s4 hy hN4 en4 z1 z2=>k y H4 u1 u2 v1 v2 (t3.trans s4) (t3.free hy) hN4 en4 (.inl ⟨by omega,z1,z2⟩)⟩
  have h0':¬(((aq p.reverse).map V.int).length:Int)-1=1:=h0;rw[hml]at h0';refine aA ⟨_,rfl,x,G,kb,p,l1,l2,h1,h2,rfl,hN.same t3,hM,g0,λyc c1 c2 d1 d2 H4 s4 hC sc lc dh ec ed nz=>?_⟩;have en:=sc.en;have lt:=sc.lt;obtain⟨qc,lo,hi,⟨dc,hc⟩,hqc,hlo,hhi⟩:=id hC
  have cz:c1≠0:=by
   rcases nz with z |z
   ·omega
   ·intro w;have a:=((gK en.h2p).2).mpr z;have:=((gK en.l2p).2).mp (show ac c1 c2<0 by grind);omega
  have dz:d1≠0:=by
   rcases nz with z |z
   ·intro w;have a:=((gK en.l2p).1).mpr z;have:=((gK en.h2p).1).mp (show 0<ac d1 d2 by grind);omega
   ·omega
  refine aY ⟨_,rfl,cZ (t:=1) (b:=1) (by decide) (cO (by decide)) λr0 H5 s5 hr5 hR5=>?_⟩;rw[gT,gW]at hR5;obtain⟨d5,hR5'⟩:=id hR5;refine⟨r0,d5,_,rfl,hR5',cB ow.1 ow.2,_,rfl,yc,CN,dc,_,_,rfl,s5 _ _ hc,RN.cl,RN.nH,eH,r0,hi,1,1,d1,d2,rfl,hR5,hhi.same s5,cO (by decide),cO (by decide),en.bh1.mono,en.bh2.mono,by decide,en.h2p,dz,λr6 H6 s6 hr6 hR6=>?_⟩;have u6:=s5.trans s6;refine cZ (t:=1) (b:=1) (by decide) (cO (by decide)) λr7 H7 s7 hr7 hR7=>?_
  rw[gT,gW]at hR7;obtain⟨d7,hR7'⟩:=id hR7;have u7:=u6.trans s7;refine⟨r7,d7,_,rfl,hR7',cB ow.1 ow.2,_,rfl,yc,CN,dc,_,_,rfl,u7 _ _ hc,RN.cl,RN.nL,fV,r7,lo,1,1,c1,c2,rfl,hR7,hlo.same u7,cO (by decide),cO (by decide),en.bl1.mono,en.bl2.mono,by decide,en.l2p,cz,λr8 H8 s8 hr8 hR8=>?_⟩;have u8:=u7.trans s8;have ed':=zS en.h2p dz;have ec':=zS en.l2p cz;have q1:1*d1≠0:=by omega
  have q2:1*c1≠0:=by omega
  have ph:=cG (t:=1*d2) q1;have pl:=cG (t:=1*c2) q2;have gh:=gX (t:=1*d2) q1;have gl:=gX (t:=1*c2) q2;have kh1:Bits 1500 (rt (1*d2) (1*d1)):=dm q1 (by rw[NM];exact en.bh2.mono);have kh2:Bits 1500 (rb (1*d2) (1*d1)):=dA q1 (by rw[NM];exact en.bh1.mono);have kl1:Bits 1500 (rt (1*c2) (1*c1)):=dm q2 (by rw[NM];exact en.bl2.mono);have kl2:Bits 1500 (rb (1*c2) (1*c1)):=dA q2 (by rw[NM];exact en.bl1.mono);generalize rt (1*d2) (1*d1)=u1 at *
  generalize rb (1*d2) (1*d1)=u2 at *
  generalize rt (1*c2) (1*c1)=v1 at *
  generalize rb (1*c2) (1*c1)=v2 at *
  have side:0<ac c1 c2\/ac d1 d2<0:=by
   rcases nz with z |z
   ·exact .inl (((gK en.l2p).1).mpr z)
   ·exact .inr (((gK en.h2p).2).mpr z)
  have pp:0<ac c1 c2*ac d1 d2:=by
   rcases side with z |z
   ·exact NV z (by grind)
   ·have:=NV (show 0 < -(ac c1 c2) by grind) (show 0 < -(ac d1 d2) by grind);grind
  have fall:=(Aj pp lt).1;have t4:=t3.trans s4;have t8:=t4.trans u8;refine lU ((s4.trans u8) _ _ e2) λy q' H9 s9 hy hN9 hq9 hqn=>?_
  exact k y H9 u1 u2 v1 v2 (t8.trans s9) (t8.free hy) ⟨q',r6,r8,hN9,hq9,(hR6.same (s7.trans s8)).same s9,hR8.same s9⟩ ⟨ph,pl,kh1,kh2,kl1,kl2,(bB ph pl).mp (by rw[ed',ec'];exact fall),gh,gl⟩ (.inr ⟨by omega,ac c1 c2,ac d1 d2,lc,lt,dh,ec,ed,side,ed',ec'⟩)
def kJ(p:Ex)(l1 l2 h1 h2 m1 m2 n1 n2:Int):Prop:=∃U:Rat->Prop,Nu p l1 l2 h1 h2 U/\sg (hv l1 l2 p)≠0/\sg (hv h1 h2 p)≠sg (hv l1 l2 p)/\(pv p (ac h1 h2)=0\/(3<=p.length/\pv p (ac l1 l2)≠0))/\EndsG 1500 m1 m2 n1 n2/\U (ac m1 m2)/\¬U (ac n1 n2)
def BO{G p:Ex}{T m k:Int}{kb:Nat}{u1 u2 v1 v2 m1 m2 n1 n2:Int}(g:Gd G kb)(R:Rk G T m k (ac m1 m2) (ac n1 n2))(O:Od G (ac m1 m2) (ac n1 n2) p)(h2:p.length=2)(en:EndsG 1500 u1 u2 v1 v2)(en':EndsG 1500 m1 m2 n1 n2)(hv0:pv p (ac v1 v2)=0)(hu:ac u1 u2=ac v1 v2-1):kJ p u1 u2 v1 v2 m1 m2 n1 n2:=by
 obtain⟨_,bp⟩:=kh g O;have C:=O.flt.cnt
 obtain⟨c,b,rfl⟩:∃c b,p=[c,b]:=by
  match p,h2 with
  | [x,y],_=>exact⟨x,y,rfl⟩
 have hb:(0:Rat)<(b:Rat):=NJ.mpr O.pln.pos
 have val:∀z,pv [c,b] z=(b:Rat)*(z-ac v1 v2):=λz=>by have e:(c:Rat)+ac v1 v2*((b:Rat)+ac v1 v2*0)=0:=hv0;show(c:Rat)+z*((b:Rat)+z*0)=_;grind
 obtain⟨r,r1,r2,r3⟩:=um R.lt O rfl
 have er:r=ac v1 v2:=by
  rw[val]at r3;rcases Oo.mp r3 with z |z
  ·grind
  ·grind
 rw[er]at r1 r2;obtain⟨e1,e2⟩:=C.root R.lt O.one r1 r2 hv0
 have cut:∀z,(T-vw G z<k↔z<ac v1 v2):=λz=>by
  have k1:=uT (Tp:=0) R O z;constructor
  ·intro h;refine OB.mp λq=>?_
   have:=C.le q;omega
  ·intro h;have a:=C.mono h;have ne:vw [c,b] z≠vw [c,b] (ac v1 v2):=λq=>C.free h q h Nt hv0
   omega
 have sgz:∀z,(z<ac v1 v2->ai (pv [c,b] z) = -1):=λz h=>by rw[val];have:=NV hb (show 0<ac v1 v2-z by grind);unfold ai;rw[if_pos (by grind)]
 have uv:ac u1 u2<ac v1 v2:=by rw[hu];grind
 refine⟨λz=>T-vw G z<k,⟨en,O.pln,by show 2<=2;decide,by show 2<=5;decide,bp,⟨1,.inl rfl,λx1 x2 hx a b' u=>?_,λx1 x2 hx a b' u=>?_,λx1 x2 y1 y2 hx hy a b' u c'=>?_,λx1 x2 y1 y2 hx hy e u=>?_,(cut _).mpr uv,λz=>?_⟩,λx y h u=>?_⟩,?_,?_,.inl hv0,en',by have:=R.lo;show _<_;omega,λz=>?_⟩
 ·rw[cA hx];exact sgz _ ((cut _).mp u)
 ·have b'':=(dj hx en.h2p).mpr b';have:ac x1 x2=ac v1 v2:=Rat.le_antisymm b'' (Oi.mp λq=>u ((cut _).mpr q));right;rw[cA hx,this,hv0];rfl
 ·exfalso;have c'':=(bB hx hy).mpr c';have b'':=(dj hy en.h2p).mpr b';exact u ((cut _).mpr (by grind))
 ·rw[<- eE hx hy e];exact u
 ·have:=(cut _).mp z;grind
 ·have:=R.flt.cnt.le h;have u':T-vw G y<k:=u;show T-vw G x<k;omega
 ·rw[cA en.l2p,sgz _ uv];decide
 ·rw[cA en.l2p,cA en.h2p,sgz _ uv,hv0];decide
 ·have z':T-vw G (ac n1 n2)<k:=z;have:=R.hi;omega
def vm{G p:Ex}{T m k:Int}{kb:Nat}{u1 u2 v1 v2 m1 m2 n1 n2:Int}(g:Gd G kb)(R:Rk G T m k (ac m1 m2) (ac n1 n2))(O:Od G (ac m1 m2) (ac n1 n2) p)(l3:3<=p.length)(en:EndsG 1500 u1 u2 v1 v2)(en':EndsG 1500 m1 m2 n1 n2)(nu:pv p (ac u1 u2)≠0)(nv:pv p (ac v1 v2)≠0)(one:vw p (ac u1 u2)-vw p (ac v1 v2)=1)(hu:T-vw G (ac u1 u2)<k)(hv':¬T-vw G (ac v1 v2)<k):kJ p u1 u2 v1 v2 m1 m2 n1 n2:=by
 obtain⟨l5,bp⟩:=kh g O;have C:=O.flt.cnt;have lt:=(bB en.l2p en.h2p).mpr en.lt
 have cut:∀z,(T-vw G z<k↔vw p (ac n1 n2)<vw p z):=λz=>by have k1:=uT (Tp:=0) R O z;constructor<;>intro h<;>omega
 have c1:=(cut _).mp hu;have c2:¬vw p (ac n1 n2)<vw p (ac v1 v2):=λz=>hv' ((cut _).mpr z)
 have self:Od p (ac u1 u2) (ac v1 v2) p:=⟨O.pln,O.flt,Dv.refl p,one⟩;obtain⟨ε,ru⟩:=j0 O.flt en.l2p en.h2p en.lt one self
 have up:∀{x:Rat},ac u1 u2<=x->x<=ac v1 v2->(T-vw G x<k↔vw p x=vw p (ac u1 u2)):=λ{x} a b=>by have k1:=cut x;have d1:=C.le a;have d2:=C.le b;constructor<;>intro h<;>omega
 have sgu:ai (pv p (ac v1 v2)) = -ai (pv p (ac u1 u2)):=C.cross lt one nu nv;have su:=sg_ne.mpr nu;refine⟨λz=>T-vw G z<k,⟨en,O.pln,by omega,l5,bp,⟨ε,ru.e1,λx1 x2 hx a b u=>?_,λx1 x2 hx a b u=>?_,λx1 x2 y1 y2 hx hy a b u c'=>?_,λx1 x2 y1 y2 hx hy e u=>?_,hu,hv'⟩,λx y h u=>?_⟩,?_,?_,.inr ⟨l3,nu⟩,en',by have:=R.lo;show _<_;omega,λz=>?_⟩
 ·have a':=(bB en.l2p hx).mpr a;have b':=(dj hx en.h2p).mpr b;exact ru.r1 x1 x2 hx a b ((up (Np a') b').mp u)
 ·have a':=(bB en.l2p hx).mpr a;have b':=(dj hx en.h2p).mpr b;exact ru.r2 x1 x2 hx a b λz=>u ((up (Np a') b').mpr z)
 ·have a':=(bB en.l2p hx).mpr a;have c'':=(bB hx hy).mpr c';have b':=(dj hy en.h2p).mpr b;exact ru.r3 x1 x2 y1 y2 hx hy a b (λz=>u ((up (Np a') (by grind)).mpr z)) c'
 ·rw[<- eE hx hy e];exact u
 ·have:=R.flt.cnt.le h;have u':T-vw G y<k:=u;show T-vw G x<k;omega
 ·rw[cA en.l2p];exact su
 ·rw[cA en.l2p,cA en.h2p,sgu];omega
 ·have z':T-vw G (ac n1 n2)<k:=z;have:=R.hi;omega
structure Rix(G:Ex)(kb:Nat)(p:Ex)(l1 l2 h1 h2:Int)(i:Nat):Prop where
 nm:Nm G kb p l1 l2 h1 h2
 lo:vw G (-(2^kb))-vw G (ac l1 l2)=i
 hi:vw G (-(2^kb))-vw G (ac h1 h2)=i+1
def Rix.rk{G p:Ex}{kb i:Nat}{l1 l2 h1 h2:Int}(h:Rix G kb p l1 l2 h1 h2 i):Rk G (vw G (-(2^kb))) (vw G (-(2^kb))-vw G (2^kb)) (i+1) (ac l1 l2) (ac h1 h2):=⟨h.nm.sn.gd.fp.flt,(h.nm.sn.gd.fp.rts h.nm.sn.gd.isb.1).1,h.nm.sn.lt,by have:=h.lo;omega,h.hi⟩
def Rix.len{G p:Ex}{kb i:Nat}{l1 l2 h1 h2:Int}(h:Rix G kb p l1 l2 h1 h2 i):((i:Int)+1)<=vw G (-(2^kb))-vw G (2^kb):=by have:=(h.rk.rts.in (ac h1 h2)).2;have:=h.hi;omega
def Rix.irr{G p:Ex}{kb i:Nat}{l1 l2 h1 h2:Int}(h:Rix G kb p l1 l2 h1 h2 i)(l3:3<=p.length):NoR G (ac l1 l2) (ac h1 h2):=by
 rcases h.nm.ls.kd with z |⟨z,_⟩ |⟨z,_,_⟩
 ·omega
 ·exact z
 ·exact z
def uO{l1 l2 h1 h2:Int}(e:EndsG 710 l1 l2 h1 h2):EndsG 1500 l1 l2 h1 h2:=e.mono
def FG{F G G' p p':Ex}{kb kb' i j:Nat}{l1 l2 h1 h2 m1 m2 n1 n2 u1 u2 v1 v2:Int}(hF:FlatOf F G)(hF':FlatOf (turnL F) G')(X:Rix G kb p l1 l2 h1 h2 i)(Y:Rix G' kb' p' m1 m2 n1 n2 j)(hij:(i:Int)+j+1=vw G (-(2^kb))-vw G (2^kb))(en:EndsG 1500 u1 u2 v1 v2)
 (hs:(p.length=2/\pv (aq (turnL p)) (ac v1 v2)=0/\ac u1 u2=ac v1 v2-1)\/(3<=p.length/\ac u1 u2 = -(ac h1 h2)/\ac v1 v2 = -(ac l1 l2))):p'=aq (turnL p)/\kJ p' u1 u2 v1 v2 m1 m2 n1 n2:=by
 have tT:=gw hF.pln.tr;have nT:=iw hF.pln.ne;obtain⟨c,hc,ec⟩:=dM tT nT;have eG:G'=aq (turnL G):=FlatOf.uniq hF' hF.turn;rw[<- eG]at ec;have R:=X.rk;have R':=Y.rk;obtain⟨ε,f1,f2⟩:=jk hc ec;have hk:((i:Int)+1)+((j:Int)+1)=vw G (-(2^kb))-vw G (2^kb)+1:=by omega
 obtain⟨O,lO⟩:=zL R R' hk hc ec X.nm.ls.od;have e:=HJ (c':=1) R R' hk hF.pln hF'.pln hc ec X.nm.ls Y.nm.ls;refine⟨e,?_⟩;rw[e];have g':=Y.nm.sn.gd;have en':=uO Y.nm.sn.en;rcases hs with⟨z1,z2,z3⟩ |⟨z1,z2,z3⟩
 ·exact BO g' R' O (by omega) en en' z2 z3
 ·obtain⟨_,mir⟩:=uk R.rts R'.rts f1 f2;have nr:=X.irr z1;have lt:=X.nm.sn.lt;have gh:pv G (ac h1 h2)≠0:=nr _ lt Nt;have ph:pv p (ac h1 h2)≠0:=λz=>gh (eK X.nm.ls.od.dv z)
  have pl:=X.nm.ne;have tq:=gw X.nm.ls.od.pln.tr;have nq:=iw X.nm.ls.od.pln.ne;obtain⟨s,hs',es⟩:=dM tq nq;obtain⟨η,g1,g2⟩:=jk hs' es;have t:=X.nm.ls.od.flt.cnt.tran O.flt.cnt (φ:=λx => -x) (L:=1) (ε:=η) lt (by decide) (λx y _ q _=>⟨by grind,by grind⟩) g1 (λx _ _=>g2 x);rw[dI ph,dI pl]at t;have one:=X.nm.ls.od.one;have k1:=mir (-(ac h1 h2));have k2:=mir (-(ac l1 l2));rw[OX]at k1 k2;have zh:=dI gh;have zl:=kK (pv G) (ac l1 l2);have a1:=X.lo;have a2:=X.hi
  have nz:∀x,pv p x≠0->pv (aq (turnL p)) (-x)≠0:=λx hx=>sg_ne.mp (by
   rw[g2];have:=sg_ne.mpr hx
   rcases g1 with w |w<;>rw[w]<;>omega)
  refine vm g' R' O (by omega) en en' (by rw[z2];exact nz _ ph) (by rw[z3];exact nz _ pl) ?_ ?_ ?_
  ·rw[z2,z3];omega
  ·rw[z2];omega
  ·rw[z3];omega
def IC{F G G' p p':Ex}{kb kb' i j:Nat}{l1 l2 h1 h2 m1 m2 n1 n2 u1 u2 v1 v2:Int}(hD:Drw F)(h0:cf F 0≠0)(hF:FlatOf F G)(hF':FlatOf F.reverse G')(X:Rix G kb p l1 l2 h1 h2 i)(Y:Rix G' kb' p' m1 m2 n1 n2 j)(hij:(j:Int)+1=inx (vw G (-(2^kb))-vw G (2^kb)) (vw G (-(2^kb))-vw G 0) (i+1))(en:EndsG 1500 u1 u2 v1 v2)
 (hs:(p.length=2/\pv (aq p.reverse) (ac v1 v2)=0/\ac u1 u2=ac v1 v2-1)\/(3<=p.length/\∃c d:Rat,ac l1 l2<=c/\c<d/\d<=ac h1 h2/\vw G c=vw G (ac l1 l2)/\vw G d=vw G (ac h1 h2)/\(0<c\/d<0)/\ac u1 u2=1/d/\ac v1 v2=1/c)):p'=aq p.reverse/\kJ p' u1 u2 v1 v2 m1 m2 n1 n2:=by
 obtain⟨fr,g0⟩:=FlatOf.rev hD.tr hD.l2 h0 hF;have eG:G'=aq G.reverse:=FlatOf.uniq hF' fr;have tR:=fK g0;have nR:G.reverse≠[]:=by simpa using hF.pln.ne
 obtain⟨c,hc,ec⟩:=dM tR nR;rw[<- eG]at ec;have sim:aE c G'=G.reverse:=gC (eO hc hF'.pln.tr) tR λn=>by rw[aK,ec]
 have g0':cf G' 0≠0:=λz=>by have:=lf hF.pln.tr hF.pln.ne;rw[ec,z,NQ]at this;exact this rfl
 have R:=X.rk;have R':=Y.rk;have hl:=X.len;have ne0:∀{l:Ex},cf l 0≠0->pv l 0≠0:=λ{l} h=>by rw[j7];exact dC h
 obtain⟨O,lO⟩:=AE R R' hij (by omega) hl g0 g0' hF.pln.ne hc ec (λd hd=>Dv.prop_right (x:=c) (y:=1) hc (λn=>by rw[ec];omega) hd) hF.pln.tr X.nm.ls.od;have e:=Jm (c':=1) R R' hij (by omega) hl hF.pln hF'.pln g0 hc sim X.nm.ls Y.nm.ls;refine⟨e,?_⟩;rw[e];have g':=Y.nm.sn.gd;have en':=uO Y.nm.sn.en;rcases hs with⟨z1,z2,z3⟩ |⟨z1,cc,dd,w1,w2,w3,w4,w5,w6,w7,w8⟩
 ·exact BO g' R' O (by omega) en en' z2 z3
 ·obtain⟨⟨ε,f1,f2⟩,⟨ε',f1',f2'⟩⟩:=jn hF.pln.ne hc ec;obtain⟨_,_,fb,fa⟩:=uJ R.rts R'.rts (ne0 g0) (ne0 g0') rfl f1 f1' f2 f2';have nr:=X.irr z1;have lt:=X.nm.sn.lt;have C:=R.flt.cnt;have Cp:=X.nm.ls.od.flt.cnt;have gd0:pv G dd≠0:=nr _ (by grind) w3;have pd:pv p dd≠0:=λz=>gd0 (eK X.nm.ls.od.dv z)
  have pc:pv p cc≠0:=by
   rcases da w1 with z |z
   ·exactλy=>nr cc z (by grind) (eK X.nm.ls.od.dv y)
   ·rw[<- z];exact X.nm.ne
  have q0:=mi X.nm.ls.od.dv g0;have tq:=fK q0;have nq:p.reverse≠[]:=by simpa using X.nm.ls.od.pln.ne
  obtain⟨s,hs',es⟩:=dM tq nq;obtain⟨⟨η,g1,g2⟩,⟨η',g1',g2'⟩⟩:=jn X.nm.ls.od.pln.ne hs' es;have sc:=(fi R.flt lt R.one X.nm.ls.od w1 (by grind)).mpr w4
  have sd:vw p dd=vw p (ac h1 h2):=by
   have k:=fi R.flt lt R.one X.nm.ls.od (z:=dd) (by grind) w3;have o1:=R.one;have n:¬vw G dd=vw G (ac l1 l2):=λz=>by omega
   have n':¬vw p dd=vw p (ac l1 l2):=λz=>n (k.mp z)
   have b1:=Cp.le (show ac l1 l2<=dd by grind);have b2:=Cp.le w3;have:=X.nm.ls.od.one;omega
  have one:=X.nm.ls.od.one;have a1:=X.lo;have a2:=X.hi;have zd:=dI gd0;have zc:=kK (pv G) cc
  have inv2:∀x:Rat,x≠0->1/(1/x)=x:=λx hx=>by
   have e1:1/x*x=1:=Nx hx;have hy:1/x≠0:=λz=>by rw[z,Ps]at e1;exact absurd e1 (by decide)
   have e2:1/(1/x)*(1/x)=1:=Nx hy;generalize 1/(1/x)=u at *
   generalize 1/x=v at *
   have:u*(v*x)=x:=by
    have:u*(v*x)=u*v*x:=by grind
    rw[this,e2];grind
   rw[e1]at this;grind
  unfold inx at hij
  rcases w6 with z |z
  ·have t:=Cp.inv O.flt.cnt (a:=cc) (b:=dd) g1 w2 (.inl z) (λx g _=>g2 x (by grind));rw[dI pd,dI pc]at t;have kd:=fa (1/dd) (cw (by decide) (by grind));have kc:=fa (1/cc) (cw (by decide) z);rw[inv2 dd (by grind)]at kd;rw[inv2 cc (by grind)]at kc;have m0:=C.mono z
   have nz:∀x,0<x->pv p x≠0->pv (aq p.reverse) (1/x)≠0:=λx hx h=>sg_ne.mp (by
    rw[g2 x hx];have:=sg_ne.mpr h
    rcases g1 with w |w<;>rw[w]<;>omega)
   rw[if_neg (by omega)]at hij;refine vm g' R' O (by omega) en en' (by rw[w7];exact nz _ (by grind) pd) (by rw[w8];exact nz _ z pc) ?_ ?_ ?_
   ·rw[w7,w8];omega
   ·rw[w7];omega
   ·rw[w8];omega
  ·have t:=Cp.inv O.flt.cnt (a:=cc) (b:=dd) g1' w2 (.inr z) (λx _ g=>g2' x (by grind));rw[dI pd,dI pc]at t
   have negi:∀x:Rat,x<0->1/x<0:=λx hx=>OB.mp λy=>by have e1:1/x*x=1:=Nx (by grind);have:=ND y (show 0 <= -x by grind);grind
   have kd:=fb (1/dd) (negi dd z);have kc:=fb (1/cc) (negi cc (by grind));rw[inv2 dd (by grind)]at kd;rw[inv2 cc (by grind)]at kc;have m0:=C.mono z
   have nz:∀x,x<0->pv p x≠0->pv (aq p.reverse) (1/x)≠0:=λx hx h=>sg_ne.mp (by
    rw[g2' x hx];have:=sg_ne.mpr h
    rcases g1' with w |w<;>rw[w]<;>omega)
   rw[if_pos (by omega)]at hij;refine vm g' R' O (by omega) en en' (by rw[w7];exact nz _ z pd) (by rw[w8];exact nz _ (by grind) pc) ?_ ?_ ?_
   ·rw[w7,w8];omega
   ·rw[w7];omega
   ·rw[w8];omega
def G1(F:Fun K "_law_cell_at" "_law_cell_at" sH f fd)(T:Txt K mg):FnOk P w K mg base aG 1 f fd ["_law_script","_law_k"] (kT K):=by
 refine F.ok Ef (λvs H Q E h=>?_) (λ_ A _ s H vs Q E hr h=>?_)
 ·obtain⟨a,ns,k,rfl,_⟩:=h;rfl
 ·obtain⟨a,ns,n,rfl,hS,k⟩:=h
  refine⟨_,(ah (aT (aN fO (pv 1) (dg K T.len_ (aa (pv 0) ae)))
   (ak (az (cH K (pv 0) (pv 1))))
   aV)
   (ak (az af))),?_⟩
  refine⟨_,rfl,_,rfl,a,_,rfl,.inl hS,_,_,rfl,rfl,_,rfl,?_⟩;refine aQ (λh1=>?_) (λh1=>?_)
  ·rw[No]at h1;have h2:n<ns.length:=by omega
   refine⟨_,rfl,_,rfl,a,_,_,_,rfl,rfl,hS,ie (v:=.int (ns.getD n 0)) ?_,k⟩;rw[List.getElem?_map,List.getElem?_eq_getElem h2];simp[List.getD,h2]
  ·rw[No]at h1;have h2:ns.length<=n:=by omega
   have e:ns.getD n 0=0:=by simp[List.getD,List.getElem?_eq_none_iff.mpr h2]
   rw[e]at k;exact k
def sm9(n:Int)(h0:0<=n)(h:n<2000):Bits 9000 n:=Bits.mono (j:=11) (by show n.natAbs<2^11;omega) (by decide)
def bsm{x:Int}{m:Nat}(h:x.natAbs<2^20)(hm:20<=m):Bits m x:=Bits.mono (j:=20) h hm
def DL(x:Int):(if decide (0<x)=true then(1:Int)else 0)-(if decide (x<0)=true then(1:Int)else 0)=sg x:=by unfold sg;by_cases a:0<x<;>by_cases b:x<0<;>simp[a,b]<;>omega
def J2(t b:Int){l:Ex}{n:Nat}(h:n<l.length):lv t b (l.drop n)=cf l n*b^(l.length-(n+1))+t*lv t b (l.drop (n+1)):=by rw[PH h];show l[n]*b^(l.drop (n+1)).length+t*lv t b (l.drop (n+1))=_;rw[cU h,Ot]
def HY{t b:Int}(bt:Bits 5000 t)(bb:Bits 5000 b)(b0:b≠0){l:Ex}(h:AllB 95000 l):Bits (95001+5001*l.length) (lv t b l):=by have h1:=uB bt bb h;rw[oK]at h1;refine h1.of_le ?_;rw[N4];exact O0 _ (OK.mpr b0)
def DG{t b:Int}(hb:0<b)(l:Ex):sg (hv t b l)=sg (lv t b l):=by rw[oK,DJ,show sg b=1 from by unfold sg;rw[if_neg (by omega),if_pos hb],NM]
def xg:Sp:=λvs H Q _=>∃c t:Int,vs=[.int c,.int t]/\(t=9\/t=1000000)/\∀v:Int,-1000000<=v->v<=1000000->Q (.int v) H
def GZ(F:Fun K "_law_number" "_law_number" sE f fd)(T:Txt K mg):FnOk P w K mg base aG 1 f fd ["_law_cell","_law_far"] xg:=by
 refine F.ok yk (λvs H Q E h=>?_) (λ_ A _ s H vs Q E hr h=>?_)
 ·obtain⟨c,t,rfl,_⟩:=h;rfl
 ·obtain⟨c,t,rfl,ht,k⟩:=h
  refine⟨_,(ah (ap 2 yk (av di (av gG (pv 0) (av cJ (av aS af (pv 1)) af)) (pv 1)))
   (ah (aT (aN cI (av gG (pv 0) af) af)
     (ak (az (av di (av gG (pv 2) af) af)))
     aV)
   (ak (az (pv 2))))),?_⟩
  have t0:0<2*t+1:=by omega
  have bt:Bits 1000000 t:=bsm (by omega) (by decide);have two:Bits 1000000 (2:Int):=bsm (by decide) (by decide);have m1:=PP c (b:=2*t+1) (by omega);have m2:=PQ c t0;refine aA ⟨_,rfl,_,rfl,(au ⟨⟨two,bt⟩,(au (au ⟨t0,_,rfl,(au ?_)⟩))⟩)⟩;refine bV ⟨_,rfl,(au ⟨(by show(0:Int)<3;decide),(au ⟨_,rfl,aQ (λ_=>?_) (λ_=>?_)⟩)⟩)⟩
  ·have m3:=PP (c%(2*t+1)-t) (b:=5) (by decide);have m4:=PQ (c%(2*t+1)-t) (b:=5) (by decide);exact aY ⟨_,rfl,(au ⟨(by show(0:Int)<5;decide),(au (k _ (by omega) (by omega)))⟩)⟩
  ·exact aY ⟨_,rfl,k _ (by omega) (by omega)⟩
def xz(K:PySem.W.Frag):Sp:=λvs H Q _=>∃(a:Addr) (ns:Ex),vs=[.ref a]/\SqL K H a (ns.map V.int)/\∀(p:Addr) (H':Hp) (F:Ex),Same H H'->H p=none->H' p=some (.lst (F.map V.int))->Drw F->cf F 0≠0->Q (.ref p) H'
def G0(F:Fun K "_law_drawn" "_law_drawn" sG f fd)(T:Txt K mg)(vP:Cal P w K mg base 1 "_law_cell_at" ["_law_script","_law_k"] (kT K) Ng Mt)(LD:Cal P w K mg base 1 "_law_number" ["_law_cell","_law_far"] xg Nd Mr):FnOk P w K mg base aG 2 f fd ["_law_script"] (xz K):=by
 refine F.ok sc__law_drawn (λvs H Q E h=>?_) (λ_ A _ s H vs Q E hr h=>?_)
 ·obtain⟨a,ns,rfl,_⟩:=h;rfl
 ·obtain⟨a,ns,rfl,hS,k⟩:=h;have big:=sizeLine_eq
  refine⟨_,(ah (ap 1 sc__law_drawn (am vP hr (aa (pv 0) (aa af ae))))
   (ah (ap 2 sc__law_drawn (av cJ af (av gG (pv 1) af)))
   (ah (aT (aN cI (av gG (av jg (pv 1) af) af) af)
     (ak (ap 2 sc__law_drawn af))
     aV)
   (ah (ap 3 sc__law_drawn af)
   (ah (aT (aN cI (av gG (av jg (pv 1) af) af) af)
     (ak (ap 3 sc__law_drawn (av tU af af)))
     aV)
   (ah (Fc (i:=4) sc__law_drawn.nd rfl (Or.inl rfl) (own:=["_law_k"]) (fr:=["_law_far","_law_script"]) (js:=[3,0]) (by walk_at "comp_ok") rfl (jf rfl T.range_ (aa (av cJ (pv 2) af) ae)) (λ_ _ _ _=>(df (i:=0) (show List.Nodup (["_law_k","_law_far","_law_script"]:List Str)from by decide +kernel) rfl (Or.inl rfl))) (λ_ _ _ _=>(am LD hr (aa (am vP hr (aa (pv 2) (aa (av cJ af (pv 0)) ae))) (aa (pv 1) ae)))) (by rfl))
   (ah (aT (aN cI (cH K (pv 4) af) af)
     (ak (j8 (av cJ af (av gG (av jg (am vP hr (aa (pv 0) (aa af ae))) af) af)) (ka (pv 4) af jQ)))
     aV)
   (ah (aT (aN cI (cH K (pv 4) (pv 2)) af)
     (ak (j8 (cq ck af) (ka (pv 4) (pv 2) jQ)))
     aV)
   (ak (az (pv 4))))))))))),?_⟩
  refine aA ⟨_,rfl,a,ns,0,rfl,hS,?_⟩;generalize ns.getD 0 0=c;refine aA ⟨_,rfl,(au ⟨(by show(0:Int)<3;decide),(au ?_)⟩)⟩;have m1:=PP c (b:=3) (by decide);have m2:=PQ c (b:=3) (by decide);show d8 _ _ _ _ _;refine gU (λQ2 H'=>∃z:Nat,Q2=[some (.ref a),some (.int c),some (.int z),none,none]/\H=H'/\1<=z/\z<=4) ?_ (λrest=>⟨_,rfl,(au ⟨⟨by decide,sm9 3 (by decide) (by decide)⟩,(au ⟨(by show(0:Int)<8;decide),(au ⟨_,rfl,aQ (λ_=>?_) (λ_=>?_)⟩)⟩)⟩)⟩)
  rotate_left
  ·exact fk (rest _ _ ⟨4,rfl,rfl,by decide,by decide⟩)
  ·refine rest _ _ ⟨(1+c%3).toNat,?_,rfl,by omega,by omega⟩;rw[Int.toNat_of_nonneg (by omega)];rfl
  rintro Q2 H' ⟨z,rfl,rfl,z1,z4⟩;refine aA ?_;show d8 _ _ _ _ _;refine gU (λQ2 H'=>∃t:Int,Q2=[some (.ref a),some (.int c),some (.int z),some (.int t),none]/\H=H'/\(t=9\/t=1000000)) ?_ (λrest=>⟨_,rfl,(au ⟨⟨by decide,sm9 24 (by decide) (by decide)⟩,(au ⟨(by show(0:Int)<5;decide),(au ⟨_,rfl,aQ (λ_=>?_) (λ_=>?_)⟩)⟩)⟩)⟩)
  rotate_left
  ·exact fk (au ⟨⟨by decide,by decide,by decide⟩,rest _ _ ⟨1000000,rfl,rfl,.inr rfl⟩⟩)
  ·exact rest _ _ ⟨9,rfl,rfl,.inl rfl⟩
  rintro Q2 H' ⟨t,rfl,rfl,ht⟩;refine aA ⟨_,rfl,(au ⟨z+1,rfl,by omega,by omega,mj (lo:=0) (n:=z+1) (λi ys Q2 H'=>∃(z0:Option V) (xs:Ex),Q2=[z0,some (.int t),some (.ref a)]/\ys=xs.map V.int/\xs.length=i/\(∀x∈xs,-1000000<=x/\x<=1000000)/\H=H') (by omega) ⟨none,[],rfl,rfl,rfl,λx hx=>by simp at hx,rfl⟩ ?_ ?_ ?_⟩)⟩
  ·rintro i ys Q2 H' _ ⟨z0,xs,rfl,rfl,el,_,rfl⟩;rw[No,el];exact Nv _
  ·rintro i ys Q2 H' hi ⟨z0,xs,rfl,rfl,el,hx,rfl⟩;have ei:1+((0:Int)+(i:Int))=((1+i:Nat):Int):=by omega
   refine⟨_,rfl,_,rfl,(au ⟨a,ns,1+i,congrArg (λv:Int=>[V.ref a,V.int v]) ei,hS,_,rfl,_,t,rfl,ht,λv v1 v2=>?_⟩)⟩
   exact⟨_,xs++[v],rfl,by rw[NI];rfl,by rw[Nq,el];rfl,λx h=>by
    rcases NT.mp h with h |h
    ·exact hx x h
    ·obtain rfl:x=v:=by simpa using h
     exact⟨v1,v2⟩,rfl⟩
  rintro ys Q2 H' p ⟨z0,xs,rfl,rfl,el,hx,rfl⟩ hp;have s1:=Same.upd_new (o:=.lst (xs.map V.int)) hp;have e1:upd H p (.lst (xs.map V.int)) p=some (.lst (xs.map V.int)):=ax;generalize upd H p (.lst (xs.map V.int))=H1 at s1 e1 ⊢
  show d8 _ _ _ _ _
  have fin:∀(xs:Ex) (H':Hp),Same H H'->H' p=some (.lst (xs.map V.int))->xs.length=z+1->(∀x∈xs,-1000000<=x/\x<=1000000)->cf xs 0≠0->cf xs z≠0->Q (.ref p) H':=λxs H' s e l b c0 cz=>k p H' xs s hp e ⟨λn e'=>by
   have:n=z:=by omega
   rw[this];exact cz,by omega,by omega,b⟩ c0
  have mset:∀{H':Hp} {ys:Ex} (i:Nat) (v:Int),Same H H'->i<ys.length->Same H (upd H' p (.lst ((ys.set i v).map V.int))):=λi v sm _=>fR sm hp
  have bset:∀{ys:Ex} (i:Nat) (v:Int),(∀x∈ys,-1000000<=x/\x<=1000000) -> -1000000<=v->v<=1000000->∀x∈ys.set i v,-1000000<=x/\x<=1000000:=λi v h v1 v2 x hx=>by
   rcases Qj hx with h' |h'
   ·exact h x h'
   ·rw[h'];exact⟨v1,v2⟩
  have at0:∀(xs:Ex) (n:Nat),n<xs.length->(xs.map V.int)[n]?=some (.int (cf xs n)):=λxs n h=>by rw[List.getElem?_map,iL h];rfl
  refine gU (λQ2 H'=>∃(xs:Ex),Q2=[some (.ref a),some (.int c),some (.int z),some (.int t),some (.ref p)]/\Same H H'/\H' p=some (.lst (xs.map V.int))/\xs.length=z+1/\(∀x∈xs,-1000000<=x/\x<=1000000)/\cf xs 0≠0) ?_ (λrest=>⟨_,rfl,p,_,_,_,rfl,rfl,SqL.of e1,ie (j:=0) (at0 xs 0 (by omega)),(au ⟨_,rfl,aQ (λ_=>?_) (λh0=>?_)⟩)⟩)
  rotate_left
  ·have m1:=PP (ns.getD 1 0/7) (b:=3) (by decide);have m2:=PQ (ns.getD 1 0/7) (b:=3) (by decide);refine⟨_,rfl,a,ns,1,rfl,s1.seq hS,(au ⟨⟨by decide,sm9 7 (by decide) (by decide)⟩,(au ⟨(by show(0:Int)<3;decide),(au ⟨_,rfl,p,_,_,0,rfl,rfl,e1,ki rfl (by rw[No];omega),?_⟩)⟩)⟩)⟩;refine rest _ _ ⟨xs.set 0 (1+ns.getD 1 0/7%3),rfl,fR s1 hp,by rw[ax,lQ],by rw[O5];exact el,bset 0 _ hx (by omega) (by omega),?_⟩;rw[iP (by omega),if_pos rfl];omega
  ·exact rest _ _ ⟨xs,rfl,s1,e1,el,hx,h0⟩
  clear e1 el hx s1 xs H1;rintro Q2 H1 ⟨xs,rfl,s1,e1,el,hx,h0⟩;refine gU (λQ2 H'=>∃(xs:Ex),Q2=[some (.ref a),some (.int c),some (.int z),some (.int t),some (.ref p)]/\Same H H'/\H' p=some (.lst (xs.map V.int))/\xs.length=z+1/\(∀x∈xs,-1000000<=x/\x<=1000000)/\cf xs 0≠0/\cf xs z≠0) ?_ (λrest=>⟨_,rfl,_,rfl,p,_,_,_,rfl,rfl,SqL.of e1,ie (at0 xs z (by omega)),(au ⟨_,rfl,aQ (λ_=>?_) (λhz=>?_)⟩)⟩)
  rotate_left
  ·refine⟨_,rfl,_,rfl,_,rfl,p,_,_,z,rfl,rfl,e1,ki rfl (by rw[No];omega),?_⟩;refine rest _ _ ⟨xs.set z (-1),rfl,fR s1 hp,by rw[ax,lQ],by rw[O5];exact el,bset z _ hx (by decide) (by decide),?_,?_⟩
   ·rw[iP (by omega),if_neg (by omega)];exact h0
   ·rw[iP (by omega),if_pos rfl];decide
  ·exact rest _ _ ⟨xs,rfl,s1,e1,el,hx,h0,hz⟩
  rintro Q2 H2 ⟨xs,rfl,s2,e2,el,hx,h0,hz⟩;exact aY ⟨_,rfl,fin xs H2 s2 e2 el hx h0 hz⟩
def xo(C:Addr):Sp:=λvs H Q _=>∃(a r:Addr) (ns:Ex) (t b:Int),vs=[.ref a,.ref r]/\H a=some (.lst (ns.map V.int))/\RA C H r t b/\ns.length<=5/\AllB 100 ns/\Bits 1500 t/\Bits 1500 b/\0<b/\Q (.int (sg (hv t b ns))) H
def G3(F:Fun K "_law_at" "_law_at" sI f fd)(T:Txt K mg)(R:RCI K mg C):FnOk P w K mg base aG 1 f fd ["_law_kp","_law_r"] (xo C):=by
 refine F.ok jX (λvs H Q E h=>?_) (λ_ A _ s H vs Q E hr h=>?_)
 ·obtain⟨a,r,ns,t,b,rfl,_⟩:=h;rfl
 ·obtain⟨a,r,ns,t,b,rfl,hA,⟨dr,hR⟩,hn,hb,bt,bb,b0,k⟩:=h
  refine⟨_,(ah (ap 2 jX af)
   (ah (ap 3 jX af)
   (ah (dQ PassesOwn.never rfl (iF rfl T.reversed_ (aa (pv 0) ae)) (de 4 jX)
     (ah (ap 2 jX (av cJ (av aS (pv 2) (aB (K:=K) rfl (pv 1) rfl)) (av aS (pv 4) (pv 3))))
       (ak (ap 3 jX (av aS (pv 3) (aB (K:=K) rfl (pv 1) rfl))))))
   (ak (az (av di (lD BA (by rfl) T.int_ PyProof.Rows.boot_int (aa (ke fP (pv 2) af) ae)) (lD BA (by rfl) T.int_ PyProof.Rows.boot_int (aa (ke fO (pv 2) af) ae)))))))),?_⟩
  have hl:(ns.map V.int).length=ns.length:=No _;have bt':Bits 5000 t:=bt.mono;have bb':Bits 5000 b:=bb.mono;have hb':AllB 95000 ns:=hb.mono;refine aA ?_;refine aA ?_;refine⟨_,rfl,a,_,rfl,SqL.of hA,oO (K:=K) (a:=a) (xs:=ns.map V.int) (λi Q2 H'=>∃z:Option V,Q2=[some (.ref a),some (.ref r),some (.int (lv t b (ns.drop (ns.length-i)))),some (.int (b^i)),z]/\H=H') ⟨none,?_,rfl⟩ ?_ ?_ ?_⟩
  ·rw[OA,P7,On];rfl
  ·rintro i Q2 H' _ ⟨z,rfl,rfl⟩;exact SqL.of hA
  ·rintro i x Q2 H' hi hx ⟨z,rfl,rfl⟩;rw[hl]at hi hx;obtain⟨c,ec,rfl,hc,_⟩:=iK hx;have hi':i<ns.length:=hi;have e1:ns.length-(i+1)=ns.length-1-i:=by omega
   have hd:=J2 t b (l:=ns) (n:=ns.length-1-i) (by omega);have e2:ns.length-1-i+1=ns.length-i:=by omega
   have e3:ns.length-(ns.length-i)=i:=by omega
   rw[e2,e3,pj ec]at hd;have bs:=HY bt' bb' (by omega) (l:=ns.drop (ns.length-i)) λx hx=>hb' x (Qe hx)
   rw[Ot]at bs;have bp:=iQ bb' i;refine aA ⟨_,rfl,_,rfl,r,C,dr,_,_,rfl,hR,R.cl,R.nT,cK,(au ⟨⟨bs.mono (by omega),bt'.mono⟩,_,rfl,_,rfl,(au ⟨⟨(hb' c hc).mono,bp.mono (by omega)⟩,(au ?_)⟩)⟩)⟩;refine fk ⟨_,rfl,_,rfl,r,C,dr,_,_,rfl,hR,R.cl,R.nB,bX,(au ⟨⟨bp.mono (by omega),bb'.mono⟩,some (.int c),?_,rfl⟩)⟩;rw[e1,hd,NO b i,Int.add_comm,Om t];rfl
  ·rintro Q2 H' ⟨z,rfl,rfl⟩;rw[hl,Oy,O3];rw[DG b0,<- DL]at k;dsimp only
   exact aY ⟨_,rfl,(au (.inr ⟨_,rfl,_,rfl,(au (.inr ⟨_,rfl,(au k)⟩))⟩))⟩
def xE(C CN:Addr):Sp:=λvs H Q _=>∃(x y:Addr) (p:Ex) (l1 l2 h1 h2 m1 m2 n1 n2:Int),vs=[.ref x,.ref y]/\NmH C CN H x p l1 l2 h1 h2/\NmH C CN H y p m1 m2 n1 n2/\kJ p l1 l2 h1 h2 m1 m2 n1 n2/\∀H',Same H H'->Q (.bl true) H'
def G5(F:Fun K "_law_alike" "_law_alike" sK f fd)(T:Txt K mg)(R:RCI K mg C)(RN:NCI K mg CN)(Cd:Cal P w K mg base 1 "_law_at" ["_law_kp","_law_r"] (xo C) Nh Mu)(Lz:Cal P w K mg base 37 "compare" ["first","second"] (xB C CN) M9 Mn):FnOk P w K mg base aG 38 f fd ["_law_n","_law_other"] (xE C CN):=by
 refine F.ok ym (λvs H Q E h=>?_) (λ_ A _ s H vs Q E hr h=>?_)
 ·obtain⟨x,y,p,l1,l2,h1,h2,m1,m2,n1,n2,rfl,_⟩:=h;rfl
 ·obtain⟨x,y,p,l1,l2,h1,h2,m1,m2,n1,n2,rfl,hN,hM,⟨U,hU,s0,s1,hz,en,ua,ub⟩,k⟩:=h;have hu:=hr.units
  refine⟨_,(ah (aT (PW.pt (lu (ja (iD (dS (mv (K:=K) rfl) (by rfl) T.isinstance_ PyProof.Rows.boot_isinstance (aa (pv 0) (aa (om (v:=.ref CN) rfl RN.mg rfl) ae))))) (lu (ja (iD (dS (mv (K:=K) rfl) (by rfl) T.isinstance_ PyProof.Rows.boot_isinstance (aa (aB (K:=K) rfl (pv 0) rfl) (aa (om (v:=.ref C) rfl R.mg rfl) ae))))) (nZ (ja (iD (dS (mv (K:=K) rfl) (by rfl) T.isinstance_ PyProof.Rows.boot_isinstance (aa (aB (K:=K) rfl (pv 0) rfl) (aa (om (v:=.ref C) rfl R.mg rfl) ae)))))))))
   (ak (az gZ))
   aV)
   (ah (ap 2 ym (am Cd hr (aa (aB (K:=K) rfl (pv 0) rfl) (aa (aB (K:=K) rfl (pv 0) rfl) ae))))
   (ah (aT (PW.pt (lu (aN cI (pv 2) af) (nZ (aN cI (am Cd hr (aa (aB (K:=K) rfl (pv 0) rfl) (aa (aB (K:=K) rfl (pv 0) rfl) ae))) (pv 2)))))
     (ak (az gZ))
     aV)
   (ah (aT (aN ze (av aS (aB (K:=K) rfl (aB (K:=K) rfl (pv 0) rfl) rfl) (aB (K:=K) rfl (aB (K:=K) rfl (pv 0) rfl) rfl)) (av aS (aB (K:=K) rfl (aB (K:=K) rfl (pv 0) rfl) rfl) (aB (K:=K) rfl (aB (K:=K) rfl (pv 0) rfl) rfl)))
     (ak (az gZ))
     aV)
   (ak (az (FB (ke (jh (K:=K) rfl hu) (aB (K:=K) rfl (pv 0) rfl) (aB (K:=K) rfl (pv 1) rfl)) (Fu (ke cI (am Lz hr (aa (pv 0) (aa (pv 1) ae))) af))))))))),?_⟩
  obtain⟨q,l,h,⟨dx,hx⟩,hq,hl,hh⟩:=id hN;obtain⟨q',l',h',⟨dy,hy⟩,hq',hl',hh'⟩:=id hM;obtain⟨dl,hl0⟩:=id hl;obtain⟨dh,hh0⟩:=id hh;have e1:=hU.en;have c1:(1500:Nat)<=9000:=by decide
  refine bV (nJ (i6 (lj (lg ⟨_,rfl,uA (.ins hx RN.cl RN.ha RN.hn RN.ht RN.hm) (k:=true) (by unfold PySem.W.kitOne;rw[if_pos (by simp)]) ⟨_,rfl,f9 ?_⟩⟩))));refine nJ (i6 (lj (lg ⟨_,rfl,x,CN,dx,_,_,rfl,hx,RN.cl,RN.nL,fV,uA (.ins hl0 R.cl R.ha R.hn R.ht R.hm) (k:=true) (by unfold PySem.W.kitOne;rw[if_pos (by simp)]) ⟨_,rfl,f9 ?_⟩⟩)));refine i6 (lj (lg ⟨_,rfl,x,CN,dx,_,_,rfl,hx,RN.cl,RN.nH,eH,uA (.ins hh0 R.cl R.ha R.hn R.ht R.hm) (k:=true) (by unfold PySem.W.kitOne;rw[if_pos (by simp)]) ⟨_,rfl,f9 ?_⟩⟩));refine aA ⟨_,rfl,x,CN,dx,_,_,rfl,hx,RN.cl,RN.nP,eX,_,rfl,x,CN,dx,_,_,rfl,hx,RN.cl,RN.nL,fV,q,l,p,l1,l2,rfl,hq,hl,hU.l5,hU.bits,e1.bl1,e1.bl2,e1.l2p,?_⟩;refine bV (nJ ⟨_,rfl,(au ⟨_,rfl,aQ (λz=>absurd z s0) (λ_=>?_)⟩)⟩);refine⟨_,rfl,x,CN,dx,_,_,rfl,hx,RN.cl,RN.nP,eX,_,rfl,x,CN,dx,_,_,rfl,hx,RN.cl,RN.nH,eH,q,h,p,h1,h2,rfl,hq,hh,hU.l5,hU.bits,e1.bh1,e1.bh2,e1.h2p,_,rfl,(au ⟨_,rfl,aQ (λz=>absurd z s1) (λ_=>?_)⟩)⟩;refine bV ⟨_,rfl,x,CN,dx,_,_,rfl,hx,RN.cl,RN.nL,fV,l,C,dl,_,_,rfl,hl0,R.cl,R.nT,cK,_,rfl,x,CN,dx,_,_,rfl,hx,RN.cl,RN.nH,eH,h,C,dh,_,_,rfl,hh0,R.cl,R.nB,bX,(au ⟨⟨e1.bl1.mono,e1.bh2.mono⟩,_,rfl,x,CN,dx,_,_,rfl,hx,RN.cl,RN.nH,eH,h,C,dh,_,_,rfl,hh0,R.cl,R.nT,cK,_,rfl,x,CN,dx,_,_,rfl,hx,RN.cl,RN.nL,fV,l,C,dl,_,_,rfl,hl0,R.cl,R.nB,bX,(au ⟨⟨e1.bh1.mono,e1.bl2.mono⟩,(au ⟨_,rfl,aQ (λz=>absurd (show h1*l2<=l1*h2 from z) (by have:=e1.lt;omega)) (λ_=>?_)⟩)⟩)⟩)⟩;refine aY (EU ⟨_,rfl,x,CN,dx,_,_,rfl,hx,RN.cl,RN.nP,eX,_,rfl,y,CN,dy,_,_,rfl,hy,RN.cl,RN.nP,eX,q,q',p,p,rfl,rfl,SqL.of hq,SqL.of hq',_,rfl,?_⟩);rw[decide_eq_true rfl];refine yB ⟨_,rfl,_,rfl,x,y,p,l1,l2,h1,h2,m1,m2,n1,n2,U,rfl,hN,hU,hz,hM,en,ua,ub,λH1 s1=>(au ?_)⟩;exact k H1 s1
def vR(C CN:Addr)(H:Hp)(xs ys:List Addr):Prop:=xs.length=ys.length/\∀(i:Nat) (x y:Addr),xs[i]?=some x->ys[i]?=some y->∃(p:Ex) (l1 l2 h1 h2 m1 m2 n1 n2:Int),NmH C CN H x p l1 l2 h1 h2/\NmH C CN H y p m1 m2 n1 n2/\kJ p l1 l2 h1 h2 m1 m2 n1 n2
def xD(C CN:Addr):Sp:=λvs H Q _=>∃(a b:Addr) (xs ys:List Addr),vs=[.ref a,.ref b]/\H a=some (.lst (xs.map V.ref))/\H b=some (.lst (ys.map V.ref))/\xs.length<=20/\vR C CN H xs ys/\∀H',Same H H'->Q (.bl true) H'
def G4(F:Fun K "_law_all_alike" "_law_all_alike" sJ f fd)(T:Txt K mg)(LG:Cal P w K mg base 38 "_law_alike" ["_law_n","_law_other"] (xE C CN) Nj Mw):FnOk P w K mg base aG 39 f fd ["_law_row","_law_others"] (xD C CN):=by
 refine F.ok yl (λvs H Q E h=>?_) (λ_ A _ s H vs Q E hr h=>?_)
 ·obtain⟨a,b,xs,ys,rfl,_⟩:=h;rfl
 ·obtain⟨a,b,xs,ys,rfl,hA,hB,l5,hL,k⟩:=h
  refine⟨_,(ah (aT (PW.pt (lu (ja (iD (dS (mv (K:=K) rfl) (by rfl) T.isinstance_ PyProof.Rows.boot_isinstance (aa (pv 1) (aa (za (v:=.ty "list") (by rfl) T.list_ PyProof.Rows.boot_list (by rfl)) ae))))) (nZ (aN kf (dg K T.len_ (aa (pv 0) ae)) (dg K T.len_ (aa (pv 1) ae))))))
   (ak (az gZ))
   aV)
   (ah (dQ PassesOwn.never rfl (jf rfl T.range_ (aa (dg K T.len_ (aa (pv 0) ae)) ae)) (de 2 yl)
     (ak (aT (ja (iD (am LG hr (aa (cH K (pv 0) (pv 2)) (aa (cH K (pv 1) (pv 2)) ae)))))
       (ak (az gZ))
       aV)))
   (ak (az gZ)))),?_⟩
  have hxl:(xs.map V.ref).length=xs.length:=No _;have hyl:(ys.map V.ref).length=ys.length:=No _;have big:=sizeLine_eq;refine bV (nJ (i6 (lj (lg ⟨_,rfl,Ah (.lst hB) (k:=true) (by rfl) ⟨_,rfl,f9 ?_⟩⟩))));refine⟨_,rfl,a,_,rfl,.inl (SqL.of hA),_,rfl,b,_,rfl,.inl (SqL.of hB),(au ⟨_,rfl,eR (λz=>absurd (show((xs.map V.ref).length:Int)=((ys.map V.ref).length:Int) by rw[hxl,hyl,hL.1]) z) (λ_=>?_)⟩)⟩;refine⟨_,rfl,a,_,rfl,.inl (SqL.of hA),xs.length,congrArg (λz:Nat=>[V.int (z:Int)]) hxl,by omega,by omega,uE (lo:=0) (n:=xs.length) (λi Q2 H'=>∃z:Option V,Q2=[some (.ref a),some (.ref b),z]/\Same H H') ⟨none,rfl,Same.refl _⟩ ?_ ?_⟩
  ·rintro i Q2 H' hi ⟨z,rfl,sm⟩;have hi2:i<ys.length:=by rw[<- hL.1];exact hi
   obtain⟨p,l1,l2,h1,h2,m1,m2,n1,n2,a1,a2,a3⟩:=hL.2 i _ _ (List.getElem?_eq_getElem hi) (List.getElem?_eq_getElem hi2);have gx:(xs.map V.ref)[i]?=some (.ref xs[i]):=by rw[List.getElem?_map,List.getElem?_eq_getElem hi];rfl
   have gy:(ys.map V.ref)[i]?=some (.ref ys[i]):=by rw[List.getElem?_map,List.getElem?_eq_getElem hi2];rfl
   have ei:(0:Int)+(i:Int)=(i:Int):=by omega
   rw[ei];refine j2 (i6 ⟨_,rfl,_,rfl,a,_,_,_,rfl,rfl,SqL.of (sm _ _ hA),ie gx,_,rfl,_,rfl,b,_,_,_,rfl,rfl,SqL.of (sm _ _ hB),ie gy,_,_,p,l1,l2,h1,h2,m1,m2,n1,n2,rfl,a1.same sm,a2.same sm,a3,λH2 s2=>⟨_,rfl,f9 ?_⟩⟩);exact⟨_,rfl,sm.trans s2⟩
  ·rintro Q2 H' ⟨z,rfl,sm⟩;dsimp only
   exact aY (k H' sm)
def Bk{n:Nat}{js:List Nat}{K:PySem.W.Frag}{a:Addr}{xs:List V}{g:TG}{te:TE}{Q6:St}{H:Hp}{Q:VK}(Pv:Nat->List V->St->Hp->Prop)(hz:xs.length<=sizeLine)(h0:Pv 0 [] (fT n js Q6) H)(hl:∀i ys σ H,i<=xs.length->Pv i ys σ H->SqL K H a xs/\ys.length<=i)
 (hs:∀i x ys σ H,i<xs.length->xs[xs.length-1-i]?=some x->Pv i ys σ H->g x σ H λQ3 H2=>te Q3 H2 λy H3=>Pv (i+1) (ys++[y]) Q3 H3) (hd:∀ys σ H p,Pv xs.length ys σ H->H p=none->Q (.ref p) (upd H p (.lst ys))) :
 mD n js g te Q6 Q (Itv K a xs) H:=by
 refine⟨λi m ys σ H=>m=xs.length-i/\i<=xs.length/\Pv i ys σ H,⟨xs.length,by simp,Nw _,h0⟩,?_⟩;rintro i m ys σ H ⟨rfl,hi,p⟩;obtain⟨q,hy⟩:=hl i ys σ H hi p;by_cases hlt:i<xs.length
 ·refine .inr ⟨⟨q,hlt⟩,by omega,λy Q1 H''=>Pv (i+1) (ys++[y]) Q1 H'',λy Q2 H' p'=>⟨xs.length-(i+1),by omega,rfl,hlt,p'⟩,λx H' y=>?_⟩;obtain⟨e,y⟩:=y;subst e;exact hs i x ys σ _ hlt y p
 ·have e:i=xs.length:=by omega
  subst e;exact .inl ⟨Nv _,λr hr=>hd ys σ H r p hr⟩
def Bj{n:Nat}{js:List Nat}{K:PySem.W.Frag}{a:Addr}{xs:List V}{g:TG}{tt:TT}{te:TE}{Q6:St}{H:Hp}{Q:VK}(Pv:Nat->List V->St->Hp->Prop)(hz:xs.length<=sizeLine)(h0:Pv 0 [] (fT n js Q6) H)(hl:∀i ys σ H,i<=xs.length->Pv i ys σ H->SqL K H a xs/\ys.length<=i)
 (hs:∀i x ys σ H,i<xs.length->xs[xs.length-1-i]?=some x->Pv i ys σ H->g x σ H λQ3 H2=>tt Q3 H2 λkk H3=>if kk=true then te Q3 H3 λy H4=>Pv (i+1) (ys++[y]) Q3 H4 else Pv (i+1) ys Q3 H3) (hd:∀ys σ H p,Pv xs.length ys σ H->H p=none->Q (.ref p) (upd H p (.lst ys))) :
 B8 n js g tt te Q6 Q (Itv K a xs) H:=by
 refine⟨λi m ys σ H=>m=xs.length-i/\i<=xs.length/\Pv i ys σ H,⟨xs.length,by simp,Nw _,h0⟩,?_⟩;rintro i m ys σ H ⟨rfl,hi,p⟩;obtain⟨q,hy⟩:=hl i ys σ H hi p;by_cases hlt:i<xs.length
 ·refine .inr ⟨⟨q,hlt⟩,by omega,λy Q1 H''=>Pv (i+1) (ys++y.toList) Q1 H'',λy Q2 H' p'=>⟨xs.length-(i+1),by omega,rfl,hlt,p'⟩,λx H' y=>?_⟩;obtain⟨e,y⟩:=y;subst e;have:=hs i x ys σ _ hlt y p;simpa using this
 ·have e:i=xs.length:=by omega
  subst e;exact .inl ⟨Nv _,λr hr=>hd ys σ H r p hr⟩
def RtH.rix{C CN:Addr}{H:Hp}{G:Ex}{kb:Nat}{xs:List Addr}(h:RtH C CN H G kb xs){i:Nat}{x:Addr}(hx:xs[i]?=some x):∃(p:Ex) (l1 l2 h1 h2:Int),NmH C CN H x p l1 l2 h1 h2/\Rix G kb p l1 l2 h1 h2 i:=by obtain⟨p,l1,l2,h1,h2,a,b,c,d⟩:=h.at' i x hx;exact⟨p,l1,l2,h1,h2,a,b,c,d⟩
def RtH.few{C CN:Addr}{H:Hp}{G:Ex}{kb:Nat}{xs:List Addr}(h:RtH C CN H G kb xs):xs.length<=9:=by have a:=pY (k9 9 _ _:(cQ G).length<=9) (-(2^kb));have b:=pY (k9 9 _ _:(cQ G).length<=9) (2^kb);have:=h.len;omega
def Rix.nu{G p:Ex}{kb i:Nat}{l1 l2 h1 h2:Int}(X:Rix G kb p l1 l2 h1 h2 i):Nu p l1 l2 h1 h2 (λz=>vw G (-(2^kb))-vw G z<i+1):=by
 have g:=X.nm.sn.gd;have en:=uO X.nm.sn.en;have O:=X.nm.ls.od;obtain⟨l5,bp⟩:=kh g O;have C:=g.fp.flt.cnt;have lt:=X.nm.sn.lt;obtain⟨ε,ru⟩:=j0 g.fp.flt en.l2p en.h2p en.lt X.nm.sn.one O;have a1:=X.lo;have a2:=X.hi
 have up:∀{x:Rat},ac l1 l2<=x->x<=ac h1 h2->(vw G (-(2^kb))-vw G x<i+1↔vw G x=vw G (ac l1 l2)):=λ{x} a b=>by have d1:=C.le a;have d2:=C.le b;constructor<;>intro h<;>omega
 refine⟨en,O.pln,O.flt.l2,l5,bp,⟨ε,ru.e1,λx1 x2 hx a b u=>?_,λx1 x2 hx a b u=>?_,λx1 x2 y1 y2 hx hy a b u c'=>?_,λx1 x2 y1 y2 hx hy e u=>?_,by show _<_;omega,λz=>?_⟩,λx y h u=>?_⟩
 ·have a':=(bB en.l2p hx).mpr a;have b':=(dj hx en.h2p).mpr b;exact ru.r1 x1 x2 hx a b ((up (Np a') b').mp u)
 ·have a':=(bB en.l2p hx).mpr a;have b':=(dj hx en.h2p).mpr b;exact ru.r2 x1 x2 hx a b λz=>u ((up (Np a') b').mpr z)
 ·have a':=(bB en.l2p hx).mpr a;have c'':=(bB hx hy).mpr c';have b':=(dj hy en.h2p).mpr b;exact ru.r3 x1 x2 y1 y2 hx hy a b (λz=>u ((up (Np a') (by grind)).mpr z)) c'
 ·rw[<- eE hx hy e];exact u
 ·have z':vw G (-(2^kb))-vw G (ac h1 h2)<i+1:=z;omega
 ·have:=C.le h;have u':vw G (-(2^kb))-vw G y<i+1:=u;show _<_;omega
def Gd.rts{G:Ex}{kb:Nat}(g:Gd G kb):Rts (pv G) (vw G) (vw G (-(2^kb))) (vw G (-(2^kb))-vw G (2^kb)):=(g.fp.rts g.isb.1).1
def HI{F G G':Ex}{kb kb':Nat}(hF:FlatOf F G)(hF':FlatOf (turnL F) G')(g:Gd G kb)(g':Gd G' kb'):vw G' (-(2^kb'))-vw G' (2^kb')=vw G (-(2^kb))-vw G (2^kb):=by obtain⟨c,hc,ec⟩:=dM (gw hF.pln.tr) (iw hF.pln.ne);have eG:G'=aq (turnL G):=FlatOf.uniq hF' hF.turn;rw[<- eG]at ec;obtain⟨ε,f1,f2⟩:=jk hc ec;exact(uk g.rts g'.rts f1 f2).1
def Ji{F G G':Ex}{kb kb':Nat}(hD:Drw F)(h0:cf F 0≠0)(hF:FlatOf F G)(hF':FlatOf F.reverse G')(g:Gd G kb)(g':Gd G' kb'):vw G' (-(2^kb'))-vw G' (2^kb')=vw G (-(2^kb))-vw G (2^kb):=by
 obtain⟨fr,g0⟩:=FlatOf.rev hD.tr hD.l2 h0 hF;have eG:G'=aq G.reverse:=FlatOf.uniq hF' fr;obtain⟨c,hc,ec⟩:=dM (fK g0) (show G.reverse≠[] by simpa using hF.pln.ne);rw[<- eG]at ec
 have g0':cf G' 0≠0:=λz=>by have:=lf hF.pln.tr hF.pln.ne;rw[ec,z,NQ]at this;exact this rfl
 have ne0:∀{l:Ex},cf l 0≠0->pv l 0≠0:=λ{l} h=>by rw[j7];exact dC h
 obtain⟨⟨ε,f1,f2⟩,⟨ε',f1',f2'⟩⟩:=jn hF.pln.ne hc ec;exact(uJ g.rts g'.rts (ne0 g0) (ne0 g0') rfl f1 f1' f2 f2').1
def OppZ(C CN:Addr)(H:Hp)(G:Ex)(kb i:Nat)(z:Addr):Prop:=∃(p:Ex) (l1 l2 h1 h2 u1 u2 v1 v2:Int),Rix G kb p l1 l2 h1 h2 i/\NmH C CN H z (aq (turnL p)) u1 u2 v1 v2/\EndsG 1500 u1 u2 v1 v2/\((p.length=2/\pv (aq (turnL p)) (ac v1 v2)=0/\ac u1 u2=ac v1 v2-1)\/(3<=p.length/\ac u1 u2 = -(ac h1 h2)/\ac v1 v2 = -(ac l1 l2)))
def OppZ.same{C CN:Addr}{H H':Hp}{G:Ex}{kb i:Nat}{z:Addr}(h:OppZ C CN H G kb i z)(s:Same H H'):OppZ C CN H' G kb i z:=by obtain⟨p,l1,l2,h1,h2,u1,u2,v1,v2,a,b,c⟩:=h;exact⟨p,l1,l2,h1,h2,u1,u2,v1,v2,a,b.same s,c⟩
def InvZ(C CN:Addr)(H:Hp)(G:Ex)(kb i:Nat)(z:Addr):Prop:=∃(p:Ex) (l1 l2 h1 h2 u1 u2 v1 v2:Int),Rix G kb p l1 l2 h1 h2 i/\NmH C CN H z (aq p.reverse) u1 u2 v1 v2/\EndsG 1500 u1 u2 v1 v2/\((p.length=2/\pv (aq p.reverse) (ac v1 v2)=0/\ac u1 u2=ac v1 v2-1)\/(3<=p.length/\∃c d:Rat,ac l1 l2<=c/\c<d/\d<=ac h1 h2/\vw G c=vw G (ac l1 l2)/\vw G d=vw G (ac h1 h2)/\(0<c\/d<0)/\ac u1 u2=1/d/\ac v1 v2=1/c))
def InvZ.same{C CN:Addr}{H H':Hp}{G:Ex}{kb i:Nat}{z:Addr}(h:InvZ C CN H G kb i z)(s:Same H H'):InvZ C CN H' G kb i z:=by obtain⟨p,l1,l2,h1,h2,u1,u2,v1,v2,a,b,c⟩:=h;exact⟨p,l1,l2,h1,h2,u1,u2,v1,v2,a,b.same s,c⟩
def FF{C CN:Addr}{H:Hp}{F G G':Ex}{kb kb':Nat}{xs ys zs:List Addr}(hF:FlatOf F G)(hF':FlatOf (turnL F) G')(g:Gd G kb)(g':Gd G' kb')(hX:RtH C CN H G kb xs)(hY:RtH C CN H G' kb' ys)(el:zs.length=xs.length)(hz:∀(j:Nat) (z:Addr),zs[j]?=some z->OppZ C CN H G kb (xs.length-1-j) z):vR C CN H zs ys:=by have ml:=HI hF hF' g g';have a:=hX.len;have b:=hY.len;refine⟨by omega,λj z y h1 h2=>?_⟩;obtain⟨p,l1,l2,h1',h2',u1,u2,v1,v2,R,N,en,hs⟩:=hz j z h1;obtain⟨p',m1,m2,n1,n2,N',R'⟩:=hY.rix h2;have hj:j<zs.length:=(List.getElem?_eq_some_iff.mp h1).1;obtain⟨e,al⟩:=FG hF hF' R R' (by omega) en hs;rw[<- e]at N;exact⟨p',u1,u2,v1,v2,m1,m2,n1,n2,N,N',al⟩
def IB{C CN:Addr}{H:Hp}{F G G':Ex}{kb kb':Nat}{xs ys zs:List Addr}(hD:Drw F)(h0:cf F 0≠0)(hF:FlatOf F G)(hF':FlatOf F.reverse G')(g:Gd G kb)(g':Gd G' kb')(hX:RtH C CN H G kb xs)(hY:RtH C CN H G' kb' ys)(el:zs.length=xs.length)(hz:∀(j:Nat) (z:Addr),zs[j]?=some z->∃i:Nat,InvZ C CN H G kb i z/\(j:Int)+1=inx xs.length (vw G (-(2^kb))-vw G 0) (i+1)):vR C CN H zs ys:=by have ml:=Ji hD h0 hF hF' g g';have a:=hX.len;have b:=hY.len;refine⟨by omega,λj z y h1 h2=>?_⟩;obtain⟨i,⟨p,l1,l2,h1',h2',u1,u2,v1,v2,R,N,en,hs⟩,ei⟩:=hz j z h1;obtain⟨p',m1,m2,n1,n2,N',R'⟩:=hY.rix h2;obtain⟨e,al⟩:=IC hD h0 hF hF' R R' (by rw[<- a];exact ei) en hs;rw[<- e]at N;exact⟨p',u1,u2,v1,v2,m1,m2,n1,n2,N,N',al⟩
def Drw.turn{F:Ex}(h:Drw F):Drw (turnL F):=⟨gw h.tr,by rw[dO];exact h.l2,by rw[dO];exact h.l5,λx hx=>by
 obtain⟨n,hn,rfl⟩:=g8 hx;rw[dO]at hn;have:=h.hgt (cf F n) (by rw[cU hn];exact OI hn);rw[dZ]
 split<;>omega⟩
def Drw.rev{F:Ex}(h:Drw F)(h0:cf F 0≠0):Drw F.reverse:=⟨fK h0,by rw[NS];exact h.l2,by rw[NS];exact h.l5,λx hx=>h.hgt x (List.mem_reverse.mp hx)⟩
def Cs{xs:List Addr}{s:Nat}(hs:s<=xs.length){j:Nat}{x:Addr}(h:((xs.take s).reverse++(xs.drop s).reverse)[j]?=some x):∃i:Nat,xs[i]?=some x/\(j:Int)+1=inx xs.length s (i+1):=by
 have l1:(xs.take s).reverse.length=s:=by rw[NS,Oe];omega
 have l2:(xs.drop s).reverse.length=xs.length-s:=by rw[NS,Ot]
 by_cases hj:j<s
 ·rw[List.getElem?_append_left (by omega),List.getElem?_reverse (by rw[Oe];omega),List.getElem?_take]at h;rw[Oe]at h;rw[if_pos (by omega)]at h;refine⟨min s xs.length-1-j,h,?_⟩;unfold inx;rw[if_pos (by omega)];omega
 ·have hj2:j<s+(xs.length-s):=by have:=(List.getElem?_eq_some_iff.mp h).1;rw[Nq,l1,l2]at this;exact this
  rw[List.getElem?_append_right (by omega),l1,List.getElem?_reverse (by rw[Ot];omega),List.getElem?_drop,Ot]at h;refine⟨_,h,?_⟩;unfold inx;rw[if_neg (by omega)];omega
def Ax{xs:List Addr}{i:Nat}{v:V}(h:(xs.map V.ref)[i]?=some v):∃x,xs[i]?=some x/\v=.ref x:=by
 rw[List.getElem?_map]at h;cases e:xs[i]? with
 |none=>rw[e]at h;cases h
 |some x=>rw[e]at h;exact⟨x,rfl,(Option.some.inj h).symm⟩
def Kt{xs:List Addr}{s i:Nat}{x:Addr}(hs:s<=xs.length)(hi:i<xs.length)(h:xs[xs.length-1-i]?=some x)(lt:xs.length-1-i<s):((xs.take s).drop (xs.length-(i+1))).reverse=((xs.take s).drop (xs.length-i)).reverse++[x]:=by
 have e:xs.length-(i+1)=xs.length-1-i:=by omega
 have e2:xs.length-1-i+1=xs.length-i:=by omega
 have hl:xs.length-1-i<(xs.take s).length:=by rw[Oe];omega
 rw[e,PH hl,e2,O6]
 congr 2
 have:(xs.take s)[xs.length-1-i]?=some x:=by rw[List.getElem?_take,if_pos lt];exact h
 exact(List.getElem?_eq_some_iff.mp this).2
def Ku{xs:List Addr}{s i:Nat}(ge:s<=xs.length-1-i)(hi:i<xs.length):((xs.take s).drop (xs.length-(i+1))).reverse=((xs.take s).drop (xs.length-i)).reverse:=by rw[Qg (by rw[Oe];omega),Qg (by rw[Oe];omega)]
def KJ{xs:List Addr}{s i:Nat}{x:Addr}(hi:i<xs.length)(h:xs[xs.length-1-i]?=some x)(ge:s<=xs.length-1-i):(xs.drop (max s (xs.length-(i+1)))).reverse=(xs.drop (max s (xs.length-i))).reverse++[x]:=by
 have e:max s (xs.length-(i+1))=xs.length-1-i:=by omega
 have e2:max s (xs.length-i)=xs.length-1-i+1:=by omega
 rw[e,e2,PH (show xs.length-1-i<xs.length by omega),O6]
 congr 2
 exact(List.getElem?_eq_some_iff.mp h).2
def KK{xs:List Addr}{s i:Nat}(lt:xs.length-1-i<s)(hi:i<xs.length):(xs.drop (max s (xs.length-(i+1)))).reverse=(xs.drop (max s (xs.length-i))).reverse:=by
 have e:max s (xs.length-(i+1))=s:=by omega
 have e2:max s (xs.length-i)=s:=by omega
 rw[e,e2]
def GD(F:Fun K "law" "law" rQ f fd)(T:Txt K mg)(R:RCI K mg C)(RN:NCI K mg CN)(LF:Cal P w K mg base 2 "_law_drawn" ["_law_script"] (xz K) Nf Ms)(vJ:Cal P w K mg base 39 "roots" ["row"] (wW C CN) MM L3)(Ce:Cal P w K mg base 39 "_law_all_alike" ["_law_row","_law_others"] (xD C CN) Ni Mv)(Li:Cal P w K mg base 35 "opposite" ["one"] (xb C CN) MQ L7)(pP:Cal P w K mg base 5 "sign_of" ["one"] (qo C CN) JH Jq)(Ls:Cal P w K mg base 36 "inverse" ["one"] (xp C CN) MZ Mg):FnOk P w K mg base aG 41 f fd ["_law_script"] (mS K):=by
 refine F.ok sc_law (λvs H Q E h=>?_) (λ_ A _ s H vs Q E hr h=>?_)
 ·obtain⟨a,ns,rfl,_⟩:=h;rfl
 ·obtain⟨a,ns,rfl,hS,hlen,k⟩:=h;have big:=sizeLine_eq
  refine⟨_,(ah (ap 1 sc_law (am LF hr (aa (pv 0) ae)))
   (ah (ap 2 sc_law (am vJ hr (aa (pv 1) ae)))
   (ah (aT (ja (iD (dS (mv (K:=K) rfl) (by rfl) T.isinstance_ PyProof.Rows.boot_isinstance (aa (pv 2) (aa (za (v:=.ty "list") (by rfl) T.list_ PyProof.Rows.boot_list (by rfl)) ae)))))
     (ak (az gZ))
     aV)
   (ah (ap 3 sc_law (am vJ hr (aa (eT (own:=["_law_k"]) (fr:=["_law_kp"]) (js:=[1]) (by walk_at "comp_ok") rfl (jf rfl T.range_ (aa (dg K T.len_ (aa (pv 1) ae)) ae)) (λ_ _ _ _=>(df (i:=0) (show List.Nodup (["_law_k","_law_kp"]:List Str)from by decide +kernel) rfl (Or.inl rfl))) (λ_ _ _ _=>(av aS (cH K (pv 1) (pv 0)) (av di af (av aS af (av gG (pv 0) af)))))) ae)))
   (ah (aT (ja (iD (am Ce hr (aa (eT (own:=["_law_n"]) (fr:=[]) (js:=[]) (by walk_at "comp_ok") rfl (iF rfl T.reversed_ (aa (pv 2) ae)) (λ_ _ _ _=>(df (i:=0) (show List.Nodup (["_law_n"]:List Str)from by decide +kernel) rfl (Or.inl rfl))) (λ_ _ _ _=>(am Li hr (aa (pv 0) ae)))) (aa (pv 3) ae)))))
     (ak (az gZ))
     aV)
   (ah (yU (i:=4) sc_law.nd rfl (Or.inl rfl) (own:=["_law_n"]) (fr:=[]) (js:=[]) (by walk_at "comp_ok") rfl (iF rfl T.reversed_ (aa (pv 2) ae)) (λ_ _ _ _=>(df (i:=0) (show List.Nodup (["_law_n"]:List Str)from by decide +kernel) rfl (Or.inl rfl))) (λ_ _ _ _=>(pv 0)) (λ_ _ _ _=>(aN fO (am pP hr (aa (pv 0) ae)) af)) (by rfl))
   (ah (yU (i:=5) sc_law.nd rfl (Or.inl rfl) (own:=["_law_n"]) (fr:=[]) (js:=[]) (by walk_at "comp_ok") rfl (iF rfl T.reversed_ (aa (pv 2) ae)) (λ_ _ _ _=>(df (i:=0) (show List.Nodup (["_law_n"]:List Str)from by decide +kernel) rfl (Or.inl rfl))) (λ_ _ _ _=>(pv 0)) (λ_ _ _ _=>(aN fP (am pP hr (aa (pv 0) ae)) af)) (by rfl))
   (ah (aT (aN kf (av cJ (dg K T.len_ (aa (pv 4) ae)) (dg K T.len_ (aa (pv 5) ae))) (dg K T.len_ (aa (pv 2) ae)))
     (ak (az gZ))
     aV)
   (ak (az (am Ce hr (aa (eT (own:=["_law_n"]) (fr:=[]) (js:=[]) (by walk_at "comp_ok") rfl (gF (K:=K) rfl (av FL (pv 4) (pv 5))) (λ_ _ _ _=>(df (i:=0) (show List.Nodup (["_law_n"]:List Str)from by decide +kernel) rfl (Or.inl rfl))) (λ_ _ _ _=>(am Ls hr (aa (pv 0) ae)))) (aa (am vJ hr (aa (eT (own:=["_law_one"]) (fr:=[]) (js:=[]) (by walk_at "comp_ok") rfl (iF rfl T.reversed_ (aa (pv 1) ae)) (λ_ _ _ _=>(df (i:=0) (show List.Nodup (["_law_one"]:List Str)from by decide +kernel) rfl (Or.inl rfl))) (λ_ _ _ _=>(pv 0))) ae)) ae))))))))))))),?_⟩
  refine aA ⟨_,rfl,a,ns,rfl,hS,λpk H1 F s1 hpk ek hD h0=>?_⟩;refine aA ⟨_,rfl,pk,F,rfl,ek,hD,λG kb pf xs H2 hF g s2 hpf ef hX=>?_⟩;have m9:=hX.few;have hml:(xs.map V.ref).length=xs.length:=No _;have hkl:(F.map V.int).length=F.length:=No _;have l5:=hD.l5;refine bV (i6 (lj (lg ⟨_,rfl,Ah (.lst ef) (k:=true) (by rfl) ⟨_,rfl,f9 ?_⟩⟩)));have ek2:=s2 _ _ ek;refine aA ⟨_,rfl,pk,_,rfl,.inl (SqL.of ek2),F.length,congrArg (λz:Nat=>[V.int (z:Int)]) hkl,by omega,by omega,mj (lo:=0) (n:=F.length) (λi ys Q2 H'=>∃z0:Option V,Q2=[z0,some (.ref pk)]/\ys=((List.range i).map λ(j:Nat)=>V.int (if j%2=0 then cf F j else -cf F j))/\H2=H') (by omega) ⟨none,rfl,rfl,rfl⟩ ?_ ?_ ?_⟩
  ·rintro i ys Q2 H' _ ⟨z0,rfl,rfl,rfl⟩;simp
  ·rintro i ys Q2 H' hi ⟨z0,rfl,rfl,rfl⟩;have ei:(0:Int)+(i:Int)=(i:Int):=by omega
   rw[ei];have bi:Bits 1000000 (cf F i):=(hD.bits.cf i).mono;have c0:=PP (i:Int) (b:=2) (by decide);have c1:=PQ (i:Int) (b:=2) (by decide);refine⟨_,rfl,_,rfl,pk,_,_,_,rfl,rfl,SqL.of ek2,pJ rfl hi,_,rfl,(au ⟨(by show(0:Int)<2;decide),(au ⟨⟨bsm (by decide) (by decide),bsm (by omega) (by decide)⟩,(au (au ⟨⟨bi,bsm (by omega) (by decide)⟩,_,rfl,?_,rfl⟩))⟩)⟩)⟩;rw[<- nU]
   congr 2
   show V.int (cf F i*(1-2*((i:Int)%2)))=_
   congr 1
   by_cases e:i%2=0
   ·rw[if_pos e,(ui i).mpr e];omega
   ·have:(i:Int)%2=1:=by omega
    rw[if_neg e,this];omega
  rintro ys Q2 H' pt ⟨z0,rfl,hys,rfl⟩ hpt;obtain rfl:ys=(turnL F).map V.int:=by rw[hys];unfold RM.turnL;rw[N7];rfl
  have s3:=Same.upd_new (o:=.lst ((turnL F).map V.int)) hpt;have e3:upd H2 pt (.lst ((turnL F).map V.int)) pt=some (.lst ((turnL F).map V.int)):=ax;generalize upd H2 pt (.lst ((turnL F).map V.int))=H3 at s3 e3 ⊢
  refine⟨pt,turnL F,rfl,e3,hD.turn,λG' kb' pm ys H4 hF' g' s4 hpm em hY=>?_⟩;have t4:=s3.trans s4;have ef4:=t4 _ _ ef;have ek4:=t4 _ _ ek2;have hX4:=hX.same t4;have gl:∀{i:Nat} {v:V},(xs.map V.ref)[(xs.map V.ref).length-1-i]?=some v->∃x,xs[xs.length-1-i]?=some x/\v=.ref x:=λ{i v} h=>by rw[hml]at h;exact Ax h
  refine bV (i6 ⟨_,rfl,pf,_,rfl,SqL.of ef4,Bk (K:=K) (a:=pf) (xs:=xs.map V.ref) (λi vs Q2 H'=>∃(z0:Option V) (zs:List Addr),Q2=[z0]/\vs=zs.map V.ref/\Same H4 H'/\zs.length=i/\∀(j:Nat) (z:Addr),zs[j]?=some z->OppZ C CN H' G kb (xs.length-1-j) z) (by omega) ⟨none,[],rfl,rfl,Same.refl _,rfl,λj z h=>by simp at h⟩ ?_ ?_ ?_⟩)
  ·rintro i vs Q2 H' _ ⟨z0,zs,rfl,rfl,sm,el,_⟩;exact⟨SqL.of (sm _ _ ef4),by rw[No,el];exact Nv _⟩
  ·rintro i v vs Q2 H' hi hv ⟨z0,zs,rfl,rfl,sm,el,hz⟩;obtain⟨x,ex,rfl⟩:=gl hv;obtain⟨p,l1,l2,h1,h2,N,RX⟩:=(hX4.same sm).rix ex;have O:=RX.nm.ls.od;obtain⟨lp,bp⟩:=kh g O;refine⟨_,rfl,x,p,l1,l2,h1,h2,rfl,N,O.pln,O.flt.l2,lp,bp,RX.nm.sn.en,λy H5 u1 u2 v1 v2 s5 hy N5 en5 hs=>?_⟩;refine⟨_,zs++[y],rfl,by rw[NI];rfl,sm.trans s5,by rw[Nq,el];rfl,λj z hj=>?_⟩;by_cases hjl:j<zs.length
   ·rw[List.getElem?_append_left hjl]at hj;exact(hz j z hj).same s5
   ·rw[List.getElem?_append_right (by omega)]at hj;by_cases hj0:j-zs.length=0
    ·rw[hj0]at hj;obtain rfl:y=z:=by simpa using hj
     have ej:j=i:=by omega
     rw[ej];exact⟨p,l1,l2,h1,h2,u1,u2,v1,v2,RX,N5,en5,hs⟩
    ·rw[List.getElem?_eq_none_iff.mpr (by simp;omega)]at hj;cases hj
  rintro vs Q2 H' po ⟨z0,zs,rfl,rfl,sm,el,hz⟩ hpo;have s5:=Same.upd_new (o:=.lst (zs.map V.ref)) hpo;have eo:upd H' po (.lst (zs.map V.ref)) po=some (.lst (zs.map V.ref)):=ax;generalize upd H' po (.lst (zs.map V.ref))=H5 at s5 eo ⊢
  have t5:=sm.trans s5;rw[hml]at el;have al:=FF hF hF' g g' (hX4.same t5) (hY.same t5) el (λj z hj=>(hz j z hj).same s5);refine⟨_,rfl,po,pm,zs,ys,rfl,eo,t5 _ _ em,by omega,al,λH6 s6=>⟨_,rfl,f9 ?_⟩⟩;have t6:=t5.trans s6;have ef6:=t6 _ _ ef4;have ek6:=t6 _ _ ek4;have hX6:=hX4.same t6;clear al hz eo s5 hpo sm el t5 s6 hpm em hY;have sin:=g.rts.in 0;obtain⟨sn,hsn⟩:∃sn:Nat,vw G (-(2^kb))-vw G 0=sn:=⟨(vw G (-(2^kb))-vw G 0).toNat,by have:=kK (pv G) 0;omega⟩;have hsm:sn<=xs.length:=by have:=hX.len;omega
  obtain⟨_,g0⟩:=FlatOf.rev hD.tr hD.l2 h0 hF;have pG0:pv G 0≠0:=by rw[j7];exact dC g0
  refine aA ⟨_,rfl,pf,_,rfl,SqL.of ef6,Bj (K:=K) (a:=pf) (xs:=xs.map V.ref) (λi vs Q2 H'=>∃(z0:Option V),Q2=[z0]/\vs=((xs.take sn).drop (xs.length-i)).reverse.map V.ref/\Same H6 H') (by omega) ⟨none,rfl,?_,Same.refl _⟩ ?_ ?_ ?_⟩
  ·rw[OA,Qg (by rw[Oe];omega)];rfl
  ·rintro i vs Q2 H' _ ⟨z0,rfl,rfl,sm⟩;exact⟨SqL.of (sm _ _ ef6),by rw[No,NS,Ot,Oe];omega⟩
  ·rintro i v vs Q2 H' hi hv ⟨z0,rfl,rfl,sm⟩;rw[hml]at hi;obtain⟨x,ex,rfl⟩:=gl hv;obtain⟨p,l1,l2,h1,h2,N,RX⟩:=(hX6.same sm).rix ex;refine⟨_,rfl,x,p,l1,l2,h1,h2,_,rfl,N,RX.nu,λz=>pG0 (eK RX.nm.ls.od.dv z),λH7 v s7 a1 a2=>(au ⟨_,rfl,?_⟩)⟩;dsimp only
   by_cases lt:xs.length-1-i<sn
   ·have hv':=a2 (by show ¬_<_;rw[hsn];omega);rw[if_pos (by rw[hv'];rfl)];exact⟨_,rfl,_,rfl,by rw[Kt hsm hi ex lt,NI];rfl,sm.trans s7⟩
   ·have hv':=a1 (by show _<_;rw[hsn];omega);rw[if_neg (by rw[hv'];decide)];exact⟨_,rfl,by rw[Ku (by omega) hi],sm.trans s7⟩
  rintro vs Q2 H' pb ⟨z0,rfl,hvs,sm⟩ hpb;rw[hml,Oy,O3]at hvs;subst hvs;have s7:=Same.upd_new (o:=.lst ((xs.take sn).reverse.map V.ref)) hpb;have eb:upd H' pb (.lst ((xs.take sn).reverse.map V.ref)) pb=some (.lst ((xs.take sn).reverse.map V.ref)):=ax;generalize upd H' pb (.lst ((xs.take sn).reverse.map V.ref))=H7 at s7 eb ⊢
  have t7:=sm.trans s7;have ef7:=t7 _ _ ef6;have ek7:=t7 _ _ ek6;have hX7:=hX6.same t7;refine aA ⟨_,rfl,pf,_,rfl,SqL.of ef7,Bj (K:=K) (a:=pf) (xs:=xs.map V.ref) (λi vs Q2 H'=>∃(z0:Option V),Q2=[z0]/\vs=(xs.drop (max sn (xs.length-i))).reverse.map V.ref/\Same H7 H') (by omega) ⟨none,rfl,?_,Same.refl _⟩ ?_ ?_ ?_⟩
  ·rw[OA,Qg (by omega)];rfl
  ·rintro i vs Q2 H' _ ⟨z0,rfl,rfl,sm⟩;exact⟨SqL.of (sm _ _ ef7),by rw[No,NS,Ot];omega⟩
  ·rintro i v vs Q2 H' hi hv ⟨z0,rfl,rfl,sm⟩;rw[hml]at hi;obtain⟨x,ex,rfl⟩:=gl hv;obtain⟨p,l1,l2,h1,h2,N,RX⟩:=(hX7.same sm).rix ex;refine⟨_,rfl,x,p,l1,l2,h1,h2,_,rfl,N,RX.nu,λz=>pG0 (eK RX.nm.ls.od.dv z),λH8 v s8 a1 a2=>(au ⟨_,rfl,?_⟩)⟩;dsimp only
   by_cases lt:xs.length-1-i<sn
   ·have hv':=a2 (by show ¬_<_;rw[hsn];omega);rw[if_neg (by rw[hv'];decide)];exact⟨_,rfl,by rw[KK lt hi],sm.trans s8⟩
   ·have hv':=a1 (by show _<_;rw[hsn];omega);rw[if_pos (by rw[hv'];rfl)];exact⟨_,rfl,_,rfl,by rw[KJ hi ex (by omega),NI];rfl,sm.trans s8⟩
  rintro vs Q2 H' pa ⟨z0,rfl,hvs,sm8⟩ hpa;rw[hml,Oy,Nat.max_zero]at hvs;subst hvs;have s8:=Same.upd_new (o:=.lst ((xs.drop sn).reverse.map V.ref)) hpa;have ea:upd H' pa (.lst ((xs.drop sn).reverse.map V.ref)) pa=some (.lst ((xs.drop sn).reverse.map V.ref)):=ax;generalize upd H' pa (.lst ((xs.drop sn).reverse.map V.ref))=H8 at s8 ea ⊢
  have t8:=sm8.trans s8;have ef8:=t8 _ _ ef7;have ek8:=t8 _ _ ek7;have eb8:=t8 _ _ eb;have hX8:=hX7.same t8;have lb:((xs.take sn).reverse.map V.ref).length=sn:=by rw[No,NS,Oe];omega
  have la:((xs.drop sn).reverse.map V.ref).length=xs.length-sn:=by rw[No,NS,Ot]
  refine bV ⟨_,rfl,pb,_,rfl,.inl (SqL.of eb8),_,rfl,pa,_,rfl,.inl (SqL.of ea),(au ⟨_,rfl,pf,_,rfl,.inl (SqL.of ef8),(au ⟨_,rfl,eR (λz=>absurd ?_ z) (λ_=>?_)⟩)⟩)⟩
  ·show((((xs.take sn).reverse.map V.ref).length:Nat):Int)+((((xs.drop sn).reverse.map V.ref).length:Nat):Int)=(((xs.map V.ref).length:Nat):Int);rw[lb,la,hml];omega
  refine aY ⟨_,rfl,_,rfl,pb,pa,_,_,rfl,rfl,eb8,ea,by omega,λpc hpc=>?_⟩;have s9:=Same.upd_new (o:=.lst ((xs.take sn).reverse.map V.ref++(xs.drop sn).reverse.map V.ref)) hpc;have ec:upd H8 pc (.lst ((xs.take sn).reverse.map V.ref++(xs.drop sn).reverse.map V.ref)) pc=some (.lst (((xs.take sn).reverse++(xs.drop sn).reverse).map V.ref)):=by rw[ax,NI]
  generalize upd H8 pc (.lst ((xs.take sn).reverse.map V.ref++(xs.drop sn).reverse.map V.ref))=H9 at s9 ec ⊢
  have halves:∀{j:Nat} {x:Addr},((xs.take sn).reverse++(xs.drop sn).reverse)[j]?=some x->∃i:Nat,xs[i]?=some x/\(j:Int)+1=inx xs.length (vw G (-(2^kb))-vw G 0) (i+1):=λ{j x} h=>by rw[hsn];exact Cs hsm h
  have lc:(((xs.take sn).reverse++(xs.drop sn).reverse).map V.ref).length=xs.length:=by rw[NI,Nq,lb,la];omega
  have ek9:=s9 _ _ ek8;have hX9:=hX8.same s9;generalize (xs.take sn).reverse++(xs.drop sn).reverse=cs at ec halves lc
  refine⟨pc,rfl,⟨_,SqL.of ec⟩,jt (K:=K) (a:=pc) (xs:=cs.map V.ref) (λi vs Q2 H'=>∃(z0:Option V) (zs:List Addr),Q2=[z0]/\vs=zs.map V.ref/\Same H9 H'/\zs.length=i/\∀(j:Nat) (z:Addr),zs[j]?=some z->∃i:Nat,InvZ C CN H' G kb i z/\(j:Int)+1=inx xs.length (vw G (-(2^kb))-vw G 0) (i+1)) (by omega) ⟨none,[],rfl,rfl,Same.refl _,rfl,λj z h=>by simp at h⟩ ?_ ?_ ?_⟩
  ·rintro i vs Q2 H' _ ⟨z0,zs,rfl,rfl,sm,el,_⟩;exact⟨SqL.of (sm _ _ ec),by rw[No,el];exact Nv _⟩
  ·rintro i v vs Q2 H' hv ⟨z0,zs,rfl,rfl,sm,el,hz⟩;obtain⟨x,ex,rfl⟩:=Ax hv;obtain⟨i',ei,hix⟩:=halves ex;obtain⟨p,l1,l2,h1,h2,N,RX⟩:=(hX9.same sm).rix ei;refine⟨_,rfl,x,G,kb,p,l1,l2,h1,h2,_,rfl,N,RX.nm,RX.nu,pG0,λy H10 u1 u2 v1 v2 s10 hy N5 en5 hs=>?_⟩;refine⟨_,zs++[y],rfl,by rw[NI];rfl,sm.trans s10,by rw[Nq,el];rfl,λj z hj=>?_⟩;by_cases hjl:j<zs.length
   ·rw[List.getElem?_append_left hjl]at hj;obtain⟨i2,a1,a2⟩:=hz j z hj;exact⟨i2,a1.same s10,a2⟩
   ·rw[List.getElem?_append_right (by omega)]at hj;by_cases hj0:j-zs.length=0
    ·rw[hj0]at hj;obtain rfl:y=z:=by simpa using hj
     have ej:j=i:=by omega
     rw[ej];exact⟨i',⟨p,l1,l2,h1,h2,u1,u2,v1,v2,RX,N5,en5,hs⟩,hix⟩
    ·rw[List.getElem?_eq_none_iff.mpr (by simp;omega)]at hj;cases hj
  rintro vs Q2 H' pi ⟨z0,zs,rfl,rfl,sm,el,hz⟩ hpi;rw[lc]at el;have s10:=Same.upd_new (o:=.lst (zs.map V.ref)) hpi;have ei:upd H' pi (.lst (zs.map V.ref)) pi=some (.lst (zs.map V.ref)):=ax;generalize upd H' pi (.lst (zs.map V.ref))=H10 at s10 ei ⊢
  have t10:=sm.trans s10;have ek10:=t10 _ _ ek9;have hX10:=hX9.same t10;refine⟨_,rfl,pk,_,rfl,SqL.of ek10,Bk (K:=K) (a:=pk) (xs:=F.map V.int) (λi vs Q2 H'=>∃(z0:Option V),Q2=[z0]/\vs=(F.reverse.take i).map V.int/\H10=H') (by omega) ⟨none,rfl,rfl,rfl⟩ ?_ ?_ ?_⟩
  ·rintro i vs Q2 H' _ ⟨z0,rfl,rfl,rfl⟩;exact⟨SqL.of ek10,by rw[No,Oe];omega⟩
  ·rintro i v vs Q2 H' hi hv ⟨z0,rfl,rfl,rfl⟩;rw[hkl]at hi hv;obtain⟨c,ec',rfl,_,_⟩:=iK hv;refine⟨_,rfl,_,rfl,?_,rfl⟩;rw[OP,List.getElem?_reverse hi,ec',NI];rfl
  rintro vs Q2 H' pr ⟨z0,rfl,hvs,rfl⟩ hpr;rw[hkl,List.take_of_length_le (by rw[NS];exact Nv _)]at hvs;subst hvs;have s11:=Same.upd_new (o:=.lst (F.reverse.map V.int)) hpr;refine⟨pr,F.reverse,rfl,ax,hD.rev h0,λG2 kb2 p2 y2 H12 hF2 g2 s12 hp2 e2 hY2=>?_⟩;have t12:=s11.trans s12
  have al:=IB hD h0 hF hF2 g g2 (hX10.same t12) hY2 el (λj z hj=>by
   obtain⟨i,a1,a2⟩:=hz j z hj
   exact⟨i,(a1.same s10).same t12,a2⟩)
  exact⟨pi,p2,zs,y2,rfl,t12 _ _ ei,e2,by omega,al,λH13 _=>k H13⟩
end
def aM(K:PySem.W.Frag)(n:Str)(st:Stmt):Prop:=∃f fd,PySem.W.nsIn K mainGlobals n=some (some (.ref f))/\Fun K n n st f fd
def MtL(K:PySem.W.Frag)(C:Addr)(n q:Str)(st:Stmt):Prop:=∃f fd,PySem.W.findIn K (.ref C) n=some (some (.ref f))/\PySem.W.isFn K (.ref f)=true/\Fun K n q st f fd
structure ClL(K:PySem.W.Frag)(n:Str)(C:Addr):Prop where
 a:PySem.W.nsIn K mainGlobals n=some (some (.ref C))
 pg:PySem.W.plainGet K C Str.empty=true
 hd:PySem.W.hasDictIn K C=true
 po:PySem.W.plainOver K C=true
 sa:PySem.W.findIn K (.ref C) "__setattr__"=some (some (.builtin "object.__setattr__"))
 mkr:PySem.W.makesIn K C=true
 kc:PySem.W.keepIn K (.ref C)=true
 ha:PySem.W.findIn K (.ref C) "__class__"=some (some (.builtin "object.__class__"))
 hn:PySem.W.specialIn K (.builtin "object.__class__") "__get__"=some (some (.builtin "getset_descriptor.__get__"))
 ht:PySem.W.takesIn K (.builtin "object.__class__")=some true
 hm:PySem.W.mroIn K C (.type "object")=some true
section
variable {P:Program}{w:World}{K:PySem.W.Frag}{mg:Str->Option Value}{h base:Heap}{n q:Str}{st:Stmt}{f C:Addr}{oc kV dc pm cd ct:Value}{od an:Option Addr}{sl:Array (Option Value)}{fd:FuncData}{k:Nat}{ps:List Str}{sp:Sp}
def fnL(a:PySem.W.nsIn K mainGlobals n=some (some (.ref f)))(l:K.lookup f=some ⟨oc,od,.func (PySem.W.fnOf n n (fX st) (eY st) (aD st) .none kV dc pm an cd ct),sl⟩)(c:PySem.W.codeIn K cd n=true)(k:PySem.W.keepIn K (.ref f)=true):aM K n st:=⟨_,_,a,AA l c k⟩
def mtL(a:PySem.W.findIn K (.ref C) n=some (some (.ref f)))(i:PySem.W.isFn K (.ref f)=true)(l:K.lookup f=some ⟨oc,od,.func (PySem.W.fnOf n q (fX st) (eY st) (aD st) .none kV dc pm an cd ct),sl⟩)(c:PySem.W.codeIn K cd q=true)(k:PySem.W.keepIn K (.ref f)=true):MtL K C n q st:=⟨_,_,a,i,AA l c k⟩
def Bx(P:Program)(w:World)(base:Heap):Prop:=P=P/\w=w/\base=base
def BdR(n q:Str)(st:Stmt)(ps:List Str):Prop:=∀(kV doc pm:Value) (an:Option Addr) (cdv ct:Value) (us:List Value),us.length=ps.length->bindArgs (PySem.W.fnOf n q (fX st) (eY st) (aD st) .none kV doc pm an cdv ct) ⟨us,[]⟩=pure (ps.zip us)
def cal(_:Bx P w base)(X:K.In h)(G:h.Ns mainGlobals mg)(a:PySem.W.nsIn K mainGlobals n=some (some (.ref f)))(F:Fun K n n st f fd)(o:FnOk P w K mg base aG k f fd ps sp)(b:BdR n n st ps):Cal P w K mg base k n ps sp f fd:=⟨o,PySem.W.mg_of X G a,F.kp,F.binds b⟩
def jj(_:Bx P w base)(a:PySem.W.findIn K (.ref C) n=some (some (.ref f)))(i:PySem.W.isFn K (.ref f)=true)(F:Fun K n q st f fd)(o:FnOk P w K mg base aG k f fd ps sp)(b:BdR n q st ps):MCal P w K mg base k C n ps sp f fd:=⟨o,⟨a,i,F.kp⟩,F.binds b⟩
def cj{A:List Value->Prop}(h:∀a,A [a]):∀us:List Value,us.length=1->A us:=λus hl=>by
 cases us with
 |nil=>cases hl
 |cons a t=>cases Os (Nat.succ.inj hl);exact h a
def bA{A:List Value->Prop}(h:∀a b,A [a,b]):∀us:List Value,us.length=2->A us:=λus hl=>by
 cases us with
 |nil=>cases hl
 |cons a t=>exact cj (A:=λt=>A (a::t)) (h a) t (Nat.succ.inj hl)
def us3{A:List Value->Prop}(h:∀a b c,A [a,b,c]):∀us:List Value,us.length=3->A us:=λus hl=>by
 cases us with
 |nil=>cases hl
 |cons a t=>exact bA (A:=λt=>A (a::t)) (h a) t (Nat.succ.inj hl)
def us4{A:List Value->Prop}(h:∀a b c d,A [a,b,c,d]):∀us:List Value,us.length=4->A us:=λus hl=>by
 cases us with
 |nil=>cases hl
 |cons a t=>exact us3 (A:=λt=>A (a::t)) (h a) t (Nat.succ.inj hl)
end
def all_mk{l:PySem.W.OpenLaw}{w:World}{K:PySem.W.Frag}{h:Heap}{mg:Str->Option Value}{fa CC1 CC2 f4 dt4:Addr}(X:K.In h)(G:h.Ns mainGlobals mg)(hfa:mg "law"=some (.ref fa))
 {od4 an4 odt4:Option Addr} {sl4 slt4:Array (Option Value)} {oc4 kV4 dc4 pm4 cd4 ct4 oct4:Value} {nt4:Nat} {tk4_0:Tok} {tk_HIGHEST:Tok}
 (cc1:ClL K "Ratio" CC1)
 (n1_top:PySem.W.findIn K (.ref CC1) "top"=some none)
 (n1_bottom:PySem.W.findIn K (.ref CC1) "bottom"=some none)
 (cc2:ClL K "Number" CC2)
 (n2_poly:PySem.W.findIn K (.ref CC2) "poly"=some none)
 (n2_low:PySem.W.findIn K (.ref CC2) "low"=some none)
 (n2_high:PySem.W.findIn K (.ref CC2) "high"=some none)
 (a4:PySem.W.findIn K (.ref CC1) "__init__"=some (some (.ref f4))) (i4:PySem.W.isFn K (.ref f4)=true)
 (l4:K.lookup f4=some ⟨oc4,od4,.func (PySem.W.fnOf "__init__" "Ratio.__init__" (fX jY) (eY jY) (aD jY) (.ref dt4) kV4 dc4 pm4 an4 cd4 ct4),sl4⟩) (c4:PySem.W.codeIn K cd4 "Ratio.__init__"=true) (k4:PySem.W.keepIn K (.ref f4)=true)
 (t4:K.lookup dt4=some ⟨oct4,odt4,.seq #[.int 1 tk4_0] nt4,slt4⟩)
 (aI_HIGHEST:PySem.W.nsIn K mainGlobals "HIGHEST"=some (some (.int 8 tk_HIGHEST)))
 (z0:PySem.W.nsIn K mainGlobals "abs"=some none)
 (z1:PySem.W.nsIn K mainGlobals "len"=some none)
 (z2:PySem.W.nsIn K mainGlobals "max"=some none)
 (z3:PySem.W.nsIn K mainGlobals "range"=some none)
 (z4:PySem.W.nsIn K mainGlobals "enumerate"=some none)
 (z5:PySem.W.nsIn K mainGlobals "list"=some none)
 (z6:PySem.W.nsIn K mainGlobals "reversed"=some none)
 (z7:PySem.W.nsIn K mainGlobals "sum"=some none)
 (z8:PySem.W.nsIn K mainGlobals "any"=some none)
 (z9:PySem.W.nsIn K mainGlobals "int"=some none)
 (z10:PySem.W.nsIn K mainGlobals "isinstance"=some none)
 (l1:aM K "shared_by_two" re)
 (l2:aM K "shared" rf)
 (l3:aM K "whole_sign" qP)
 (l5:MtL K CC1 "against" "Ratio.against" sS)
 (l6:aM K "poly" rA)
 (l7:aM K "degree" rZ)
 (l8:aM K "coefficient" sj)
 (l9:aM K "taken" qT)
 (l10:aM K "slope" qZ)
 (l11:aM K "shrunk" nD)
 (l12:aM K "plain" rB)
 (l13:aM K "scaled" rg)
 (l14:aM K "lowered" rN)
 (l15:aM K "divided" rY)
 (l16:aM K "value_parts" qQ)
 (l17:aM K "sign_at" q9)
 (l18:aM K "row_from" rj)
 (l19:aM K "row_of" rh)
 (l20:aM K "changes" sk)
 (l21:aM K "count" r9)
 (l22:aM K "bound" ss)
 (l23:aM K "common" si)
 (l24:aM K "part" rC)
 (l25:aM K "refuse_high" rq)
 (l26:aM K "without_squares" qO)
 (l27:MtL K CC2 "__init__" "Number.__init__" sT)
 (l28:aM K "fine_width" rW)
 (l29:MtL K CC1 "floor" "Ratio.floor" sR)
 (l30:aM K "middle" rM)
 (l31:aM K "cells" sr)
 (l32:aM K "divides" rX)
 (l33:aM K "added" sD)
 (l34:aM K "multiplied" rK)
 (l35:MtL K CC1 "plus" "Ratio.plus" sN)
 (l36:MtL K CC1 "minus" "Ratio.minus" sP)
 (l37:MtL K CC1 "times" "Ratio.times" sL)
 (l38:aM K "times_floor" qS)
 (l39:aM K "span_product" qX)
 (l40:aM K "square_of" qV)
 (l41:aM K "line_of" rO)
 (l42:aM K "halvings" rS)
 (l43:aM K "stretched" qU)
 (l44:aM K "spread" qW)
 (l45:aM K "moved" rL)
 (l46:aM K "halved" rT)
 (l47:aM K "along" sA)
 (l48:aM K "narrowed" rH)
 (l49:aM K "refuse_great" rz)
 (l50:aM K "least" rP)
 (l51:aM K "number_in" rG)
 (l52:aM K "roots" rm)
 (l53:MtL K CC1 "sign" "Ratio.sign" sM)
 (l54:MtL K CC1 "over" "Ratio.over" sO)
 (l55:aM K "span_of" qY)
 (l56:aM K "narrow" rJ)
 (l57:aM K "only_root" rE)
 (l58:aM K "turned" qR)
 (l59:aM K "flipped" rV)
 (l60:aM K "opposite" rD)
 (l61:aM K "beside" sy)
 (l62:aM K "against" sB)
 (l63:aM K "sign_of" q8)
 (l64:aM K "off_nought" rF)
 (l65:aM K "inverse" rR)
 (l66:aM K "side" rd)
 (l67:aM K "compare" se)
 (l68:aM K "_law_cell_at" sH)
 (l69:aM K "_law_number" sE)
 (l70:aM K "_law_drawn" sG)
 (l71:aM K "_law_at" sI)
 (l72:aM K "_law_alike" sK)
 (l73:aM K "_law_all_alike" sJ)
 (l74:aM K "law" rQ)
 (hTr:l.prog.given.tree=none)
 : ∃fd:FuncData,(∀(s:Shared) (v:Value),BindsTo s fd ⟨[v],[]⟩ [("_law_script",v)])/\∀base:Heap,K.In base->base.Ns mainGlobals mg->base.NoSeer->FnOk l.prog w K mg base aG 41 fa fd ["_law_script"] (mS K):=by
 obtain⟨_,_,a1,F1⟩:=l1;obtain⟨_,_,a2,F2⟩:=l2;obtain⟨_,_,a3,F3⟩:=l3;obtain⟨_,_,a5,i5,F5⟩:=l5;obtain⟨_,_,a6,F6⟩:=l6;obtain⟨_,_,a7,F7⟩:=l7;obtain⟨_,_,a8,F8⟩:=l8;obtain⟨_,_,a9,F9⟩:=l9;obtain⟨_,_,a10,F10⟩:=l10;obtain⟨_,_,a11,F11⟩:=l11;obtain⟨_,_,a12,F12⟩:=l12;obtain⟨_,_,a13,F13⟩:=l13;obtain⟨_,_,a14,F14⟩:=l14;obtain⟨_,_,a15,F15⟩:=l15;obtain⟨_,_,a16,F16⟩:=l16;obtain⟨_,_,a17,F17⟩:=l17;obtain⟨_,_,a18,F18⟩:=l18;obtain⟨_,_,a19,F19⟩:=l19;obtain⟨_,_,a20,F20⟩:=l20;obtain⟨_,_,a21,F21⟩:=l21;obtain⟨_,_,a22,F22⟩:=l22;obtain⟨_,_,a23,F23⟩:=l23;obtain⟨_,_,a24,F24⟩:=l24;obtain⟨_,_,a25,F25⟩:=l25;obtain⟨_,_,a26,F26⟩:=l26;obtain⟨_,_,a27,i27,F27⟩:=l27;obtain⟨_,_,a28,F28⟩:=l28;obtain⟨_,_,a29,i29,F29⟩:=l29;obtain⟨_,_,a30,F30⟩:=l30;obtain⟨_,_,a31,F31⟩:=l31;obtain⟨_,_,a32,F32⟩:=l32;obtain⟨_,_,a33,F33⟩:=l33;obtain⟨_,_,a34,F34⟩:=l34;obtain⟨_,_,a35,i35,F35⟩:=l35;obtain⟨_,_,a36,i36,F36⟩:=l36;obtain⟨_,_,a37,i37,F37⟩:=l37;obtain⟨_,_,a38,F38⟩:=l38;obtain⟨_,_,a39,F39⟩:=l39;obtain⟨_,_,a40,F40⟩:=l40;obtain⟨_,_,a41,F41⟩:=l41;obtain⟨_,_,a42,F42⟩:=l42;obtain⟨_,_,a43,F43⟩:=l43;obtain⟨_,_,a44,F44⟩:=l44;obtain⟨_,_,a45,F45⟩:=l45;obtain⟨_,_,a46,F46⟩:=l46;obtain⟨_,_,a47,F47⟩:=l47;obtain⟨_,_,a48,F48⟩:=l48;obtain⟨_,_,a49,F49⟩:=l49;obtain⟨_,_,a50,F50⟩:=l50;obtain⟨_,_,a51,F51⟩:=l51;obtain⟨_,_,a52,F52⟩:=l52;obtain⟨_,_,a53,i53,F53⟩:=l53;obtain⟨_,_,a54,i54,F54⟩:=l54;obtain⟨_,_,a55,F55⟩:=l55;obtain⟨_,_,a56,F56⟩:=l56;obtain⟨_,_,a57,F57⟩:=l57;obtain⟨_,_,a58,F58⟩:=l58;obtain⟨_,_,a59,F59⟩:=l59;obtain⟨_,_,a60,F60⟩:=l60;obtain⟨_,_,a61,F61⟩:=l61;obtain⟨_,_,a62,F62⟩:=l62;obtain⟨_,_,a63,F63⟩:=l63;obtain⟨_,_,a64,F64⟩:=l64;obtain⟨_,_,a65,F65⟩:=l65;obtain⟨_,_,a66,F66⟩:=l66;obtain⟨_,_,a67,F67⟩:=l67;obtain⟨_,_,a68,F68⟩:=l68;obtain⟨_,_,a69,F69⟩:=l69;obtain⟨_,_,a70,F70⟩:=l70;obtain⟨_,_,a71,F71⟩:=l71;obtain⟨_,_,a72,F72⟩:=l72;obtain⟨_,_,a73,F73⟩:=l73;obtain⟨_,fdL,a74,F74⟩:=l74;cases hfa.symm.trans (PySem.W.mg_of X G a74);have T:Txt K mg:=⟨PySem.W.mg_none_of X G z0,PySem.W.mg_none_of X G z1,PySem.W.mg_none_of X G z2,PySem.W.mg_none_of X G z3,PySem.W.mg_none_of X G z4,PySem.W.mg_none_of X G z5,PySem.W.mg_none_of X G z6,PySem.W.mg_none_of X G z7,PySem.W.mg_none_of X G z8,PySem.W.mg_none_of X G z9,PySem.W.mg_none_of X G z10,⟨_,PySem.W.mg_of X G aI_HIGHEST⟩⟩;have R1:RCI K mg CC1:=⟨⟨cc1.pg,cc1.hd,cc1.po,cc1.sa⟩,n1_top,n1_bottom,PySem.W.mg_of X G cc1.a,cc1.ha,cc1.hn,cc1.ht,cc1.hm⟩;have R2:NCI K mg CC2:=⟨⟨cc2.pg,cc2.hd,cc2.po,cc2.sa⟩,n2_poly,n2_low,n2_high,PySem.W.mg_of X G cc2.a,cc2.ha,cc2.hn,cc2.ht,cc2.hm⟩;have F4:=Jg (st:=jY) l4 c4 k4;have b4:=FunD.bindsD (ps:=["self","top","bottom"]) (ds:=[]) (tup:=[.int 1 tk4_0]) 3 F4 t4 rfl rfl λ_ _ _ _ _ _=>us3 λ_ _ _=>⟨_,rfl,rfl⟩
 have bD4:=FunD.bindsD (ps:=["self","top","bottom"]) (ds:=[.int 1 tk4_0]) (tup:=[.int 1 tk4_0]) 2 F4 t4 rfl rfl λ_ _ _ _ _ _=>bA λ_ _=>⟨_,rfl,rfl⟩
 obtain⟨_,_,_,_,_,_,_,_,_,e,_,_⟩:=F74.ex;refine⟨fdL,λs v=>.of_eq (by rw[e];rfl),λbase KB GB hNS=>?_⟩;have Z:Bx l.prog w base:=⟨rfl,rfl,rfl⟩;have C1:=cal Z X G a1 F1 (Gc F1 T) λ_ _ _ _ _ _=>bA λ_ _=>rfl
 have C2:=cal Z X G a2 F2 (Ge F2 T C1) λ_ _ _ _ _ _=>cj λ_=>rfl
 have C3:=cal Z X G a3 F3 (FN F3 T) λ_ _ _ _ _ _=>cj λ_=>rfl
 have K1:KCal l.prog w K mg base 2 CC1 "Ratio" ["self","top","bottom"] (c9 CC1) _ _ _ [.int 1]:=⟨Hd F4 T R1 C1,⟨cc1.mkr,a4,i4,cc1.kc⟩,PySem.W.mg_of X G cc1.a,b4,bD4,.cons ⟨_,rfl⟩ .nil⟩;have C5:=jj Z a5 i5 F5 (Hc F5 T R1 C3) λ_ _ _ _ _ _=>bA λ_ _=>rfl
 have C6:=cal Z X G a6 F6 (Gm F6 T) λ_ _ _ _ _ _=>cj λ_=>rfl
 have C7:=cal Z X G a7 F7 (GM F7 T) λ_ _ _ _ _ _=>cj λ_=>rfl
 have C8:=cal Z X G a8 F8 (GQ F8 T) λ_ _ _ _ _ _=>bA λ_ _=>rfl
 have C9:=cal Z X G a9 F9 (FR F9 T C6 C8) λ_ _ _ _ _ _=>bA λ_ _=>rfl
 have C10:=cal Z X G a10 F10 (FX F10 T) λ_ _ _ _ _ _=>cj λ_=>rfl
 have C11:=cal Z X G a11 F11 (Gb F11 T hNS hTr C2) λ_ _ _ _ _ _=>cj λ_=>rfl
 have C12:=cal Z X G a12 F12 (Gn F12 T C11) λ_ _ _ _ _ _=>cj λ_=>rfl
 have C13:=cal Z X G a13 F13 (Gf F13 T) λ_ _ _ _ _ _=>bA λ_ _=>rfl
 have C14:=cal Z X G a14 F14 (Gz F14 T) λ_ _ _ _ _ _=>us4 λ_ _ _ _=>rfl
 have C15:=cal Z X G a15 F15 (GL F15 T C3 C7 C13 C14 C6) λ_ _ _ _ _ _=>bA λ_ _=>rfl
 have C16:=cal Z X G a16 F16 (FO F16 T) λ_ _ _ _ _ _=>us3 λ_ _ _=>rfl
 have C17:=cal Z X G a17 F17 (FZ F17 T R1 C16 C3) λ_ _ _ _ _ _=>bA λ_ _=>rfl
 have C18:=cal Z X G a18 F18 (Gh F18 T C11 C15 C9) λ_ _ _ _ _ _=>bA λ_ _=>rfl
 have C19:=cal Z X G a19 F19 (Gg F19 T C18 C10) λ_ _ _ _ _ _=>cj λ_=>rfl
 have C20:=cal Z X G a20 F20 (GR F20 T R1 C17) λ_ _ _ _ _ _=>bA λ_ _=>rfl
 have C21:=cal Z X G a21 F21 (GN F21 T R1 C20) λ_ _ _ _ _ _=>us3 λ_ _ _=>rfl
 have C22:=cal Z X G a22 F22 (GU F22 T) λ_ _ _ _ _ _=>cj λ_=>rfl
 have C23:=cal Z X G a23 F23 (GP F23 T C12 C15) λ_ _ _ _ _ _=>bA λ_ _=>rfl
 have C24:=cal Z X G a24 F24 (Go F24 T C15 C12) λ_ _ _ _ _ _=>bA λ_ _=>rfl
 have C25:=cal Z X G a25 F25 (Gj F25 T) λ_ _ _ _ _ _=>cj λ_=>rfl
 have C26:=cal Z X G a26 F26 (FM F26 T C24 C23 C10) λ_ _ _ _ _ _=>cj λ_=>rfl
 have b27:Binds K _ ["self","row","low","high"] []:=F27.binds (λ_ _ _ _ _ _=>us4 λ_ _ _ _=>rfl);have K2:KCal l.prog w K mg base 1 CC2 "Number" ["self","row","low","high"] (iz CC2) _ _ _ []:=⟨He F27 T R2,⟨cc2.mkr,a27,i27,cc2.kc⟩,PySem.W.mg_of X G cc2.a,b27,b27,.nil⟩;have C28:=cal Z X G a28 F28 (GJ F28 T R1 K1 C22) λ_ _ _ _ _ _=>cj λ_=>rfl
 have C29:=jj Z a29 i29 F29 (Hb F29 T R1) λ_ _ _ _ _ _=>cj λ_=>rfl
 have C30:=cal Z X G a30 F30 (Gy F30 T R1 K1) λ_ _ _ _ _ _=>bA λ_ _=>rfl
 have C31:=cal Z X G a31 F31 (GS F31 T R1 C7 C19 K1 C22 C20 C30) λ_ _ _ _ _ _=>cj λ_=>rfl
 have C32:=cal Z X G a32 F32 (GK F32 T C15) λ_ _ _ _ _ _=>bA λ_ _=>rfl
 have C33:=cal Z X G a33 F33 (GY F33 T C6 C8) λ_ _ _ _ _ _=>bA λ_ _=>rfl
 have C34:=cal Z X G a34 F34 (Gw F34 T) λ_ _ _ _ _ _=>bA λ_ _=>rfl
 have C35:=jj Z a35 i35 F35 (G8 F35 T R1 K1) λ_ _ _ _ _ _=>bA λ_ _=>rfl
 have C36:=jj Z a36 i36 F36 (Ha F36 T R1 K1) λ_ _ _ _ _ _=>bA λ_ _=>rfl
 have C37:=jj Z a37 i37 F37 (G6 F37 T R1 K1) λ_ _ _ _ _ _=>bA λ_ _=>rfl
 have C38:=cal Z X G a38 F38 (FQ F38 T R1 K1 C37 C29) λ_ _ _ _ _ _=>bA λ_ _=>rfl
 have C39:=cal Z X G a39 F39 (FV F39 T R1 C37 C5) λ_ _ _ _ _ _=>bA λ_ _=>rfl
 have C40:=cal Z X G a40 F40 (FT F40 T R1 C38 C35 C39 C12) λ_ _ _ _ _ _=>us3 λ_ _ _=>rfl
 have C41:=cal Z X G a41 F41 (GA F41 T R1 K1 C38 C5 C17) λ_ _ _ _ _ _=>bA λ_ _=>rfl
 have C42:=cal Z X G a42 F42 (GG F42 T R1) λ_ _ _ _ _ _=>bA λ_ _=>rfl
 have C43:=cal Z X G a43 F43 (FS F43 T R1 C2 C33 C34 C6) λ_ _ _ _ _ _=>us3 λ_ _ _=>rfl
 have C44:=cal Z X G a44 F44 (FU F44 T) λ_ _ _ _ _ _=>cj λ_=>rfl
 have C45:=cal Z X G a45 F45 (Gx F45 T C7) λ_ _ _ _ _ _=>cj λ_=>rfl
 have C46:=cal Z X G a46 F46 (GH F46 T C44 C3 C45) λ_ _ _ _ _ _=>us3 λ_ _ _=>rfl
 have C47:=cal Z X G a47 F47 (GW F47 T R1 C35 C37 K1) λ_ _ _ _ _ _=>us4 λ_ _ _ _=>rfl
 have C48:=cal Z X G a48 F48 (Gu F48 T R1 C36 C42 C46 C43 C17 C47) λ_ _ _ _ _ _=>us4 λ_ _ _ _=>rfl
 have C49:=cal Z X G a49 F49 (Gk F49 T) λ_ _ _ _ _ _=>cj λ_=>rfl
 have C50:=cal Z X G a50 F50 (GC F50 T C12 C7 C28 C48 C41 C31 C40 C32 C21 C19) λ_ _ _ _ _ _=>us3 λ_ _ _=>rfl
 have C51:=cal Z X G a51 F51 (Gs F51 T R1 C50 C17 C48 C36 C37 K1 K2) λ_ _ _ _ _ _=>us3 λ_ _ _=>rfl
 have C52:=cal Z X G a52 F52 (Gi F52 T R1 C25 C7 C26 C49 C31 C51) λ_ _ _ _ _ _=>cj λ_=>rfl
 have C53:=jj Z a53 i53 F53 (G7 F53 T R1 C3) λ_ _ _ _ _ _=>cj λ_=>rfl
 have C54:=jj Z a54 i54 F54 (G9 F54 T R1 K1) λ_ _ _ _ _ _=>bA λ_ _=>rfl
 have C55:=cal Z X G a55 F55 (FW F55 T R1 R2 C48) λ_ _ _ _ _ _=>bA λ_ _=>rfl
 have C56:=cal Z X G a56 F56 (Gv F56 T R1 R2 C55 K2) λ_ _ _ _ _ _=>bA λ_ _=>rfl
 have C57:=cal Z X G a57 F57 (Gq F57 T R1 R2 K1 C36 K2) λ_ _ _ _ _ _=>cj λ_=>rfl
 have C58:=cal Z X G a58 F58 (FP F58 T) λ_ _ _ _ _ _=>cj λ_=>rfl
 have C59:=cal Z X G a59 F59 (GI F59 T C6) λ_ _ _ _ _ _=>cj λ_=>rfl
 have C60:=cal Z X G a60 F60 (Gp F60 T R1 R2 C12 C58 C7 C57 K2 K1 C36) λ_ _ _ _ _ _=>cj λ_=>rfl
 have C61:=cal Z X G a61 F61 (GV F61 T R1 R2 C17) λ_ _ _ _ _ _=>bA λ_ _=>rfl
 have C62:=cal Z X G a62 F62 (GX F62 T R1 R2 C5 C61 C17) λ_ _ _ _ _ _=>bA λ_ _=>rfl
 have C63:=cal Z X G a63 F63 (FY F63 T R1 C62 K1) λ_ _ _ _ _ _=>cj λ_=>rfl
 have C64:=cal Z X G a64 F64 (Gr F64 T R1 R2 C53 C56 C36 C37 K1) λ_ _ _ _ _ _=>cj λ_=>rfl
 have C65:=cal Z X G a65 F65 (GF F65 T R1 R2 C63 C12 C59 C7 C57 C64 K2 K1 C54) λ_ _ _ _ _ _=>cj λ_=>rfl
 have C66:=cal Z X G a66 F66 (Ga F66 T R1 R2 C17 C21 C18 C34 C10) λ_ _ _ _ _ _=>bA λ_ _=>rfl
 have C67:=cal Z X G a67 F67 (GO F67 T R1 R2 C62 C61 C66) λ_ _ _ _ _ _=>bA λ_ _=>rfl
 have C68:=cal Z X G a68 F68 (G1 F68 T) λ_ _ _ _ _ _=>bA λ_ _=>rfl
 have C69:=cal Z X G a69 F69 (GZ F69 T) λ_ _ _ _ _ _=>bA λ_ _=>rfl
 have C70:=cal Z X G a70 F70 (G0 F70 T C68 C69) λ_ _ _ _ _ _=>cj λ_=>rfl
 have C71:=cal Z X G a71 F71 (G3 F71 T R1) λ_ _ _ _ _ _=>bA λ_ _=>rfl
 have C72:=cal Z X G a72 F72 (G5 F72 T R1 R2 C71 C67) λ_ _ _ _ _ _=>bA λ_ _=>rfl
 have C73:=cal Z X G a73 F73 (G4 F73 T C72) λ_ _ _ _ _ _=>bA λ_ _=>rfl
 exact GD F74 T R1 R2 C70 C52 C73 C60 C63 C65
def walk{l:PySem.W.OpenLaw}{q:Program}{loose:List Str}{XP:(Str->Option Value)->Heap->Prop}{YP:World->Heap->Prop}{d:DefRec}{K:Params->PySem.W.Frag}(hi:PyProof.Rows.importsNone q=true)(hn:l.most=some 63)(hdf:d.params.defaults=[])
 (hY:∀(w:World) (h:Heap),YP w h->(K w.params).In h)
 (F:∀(w:World) (mg:Str->Option Value) (fa:Addr) (h:Heap),(K w.params).In h->h.Ns mainGlobals mg->mg d.name=some (.ref fa) ->
   ∃fd:FuncData,(∀(s:Shared) (u:Value),BindsTo s fd ⟨[u],[]⟩ [("_law_script",u)])/\∀base:Heap,(K w.params).In base->base.Ns mainGlobals mg->base.NoSeer->FnOk l.prog w (K w.params) mg base aG 41 fa fd ["_law_script"] (mS (K w.params))) :
 PySem.W.WalkO q loose XP YP l.row.toRowW d [] (λf vs=>PySem.call f vs) :=
 L2.walk_ofS (n:=63) (k:=41) (x:="_law_script") (CX:=λ_=>aG) (sp:=λw=>mS (K w.params)) hi hn (by decide) hdf ⟨rfl,by decide,by decide⟩ hY F (λ_ _ a ns hl _ hS=>⟨a,ns,rfl,hS,hl,λ_=>rfl⟩) λ_ _ _ _ _ z=>z
section
end
end R59
open PySem PySem.W PyProof.Rows
set_option maxRecDepth 100000 in
set_option maxHeartbeats 0 in
theorem PySem.Challenge.cw_rootspan_k59_roots_turned_holds : PySem.Challenge.rw_rootspan_k59_roots_turned.Holds := by
 w_on;o_law;k_head;(case hw=>w_witness2)
 k_fill
 refine R59.walk (l:=PySem.Challenge.rw_rootspan_k59_roots_turned) (by decide +kernel) rfl rfl (λw h Y=>PySem.W.kIn_of Y) ?F
 case F =>
  intro w mg fa h KX G hmg
  refine' R59.all_mk KX G hmg ?cc1 ?n1_top ?n1_bottom ?cc2 ?n2_poly ?n2_low ?n2_high ?a4 ?i4 ?l4 ?c4 ?k4 ?t4 ?aI_HIGHEST ?_ ?_ ?_ ?_ ?_ ?_ ?_ ?_ ?_ ?_ ?_ ?_ ?_ ?_ ?_ ?_ ?_ ?_ ?_ ?_ ?_ ?_ ?_ ?_ ?_ ?_ ?_ ?_ ?_ ?_ ?_ ?_ ?_ ?_ ?_ ?_ ?_ ?_ ?_ ?_ ?_ ?_ ?_ ?_ ?_ ?_ ?_ ?_ ?_ ?_ ?_ ?_ ?_ ?_ ?_ ?_ ?_ ?_ ?_ ?_ ?_ ?_ ?_ ?_ ?_ ?_ ?_ ?_ ?_ ?_ ?_ ?_ ?_ ?_ ?_ ?_ ?_ ?_ ?_ ?_ ?_ ?_ ?_ ?_ rfl
  (case cc1=>apply R59.ClL.mk<;>k_is)
  (case n1_top=>k_is)
  (case n1_bottom=>k_is)
  (case cc2=>apply R59.ClL.mk<;>k_is)
  (case n2_poly=>k_is)
  (case n2_low=>k_is)
  (case n2_high=>k_is)
  (case a4=>k_is)
  (case i4=>k_is)
  (case l4=>k_is)
  (case c4=>k_is)
  (case k4=>k_is)
  (case t4=>k_is)
  (case aI_HIGHEST=>k_is)
  all_goals first | (apply R59.fnL<;>k_is) | (apply R59.mtL<;>k_is) |k_is
