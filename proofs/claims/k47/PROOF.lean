import PyProof.Rows.All
import Wide.All
import OpenK.AllK
import Wide.FinOn
import Lean
import PyProof.EqAt
import PyProof.EqKinds
import PyProof.NeKinds
import PyProof.TupleCall
import KE.KDictList
import PyProof.AttrMiss
import PyProof.FactsAll.zip
import PyProof.ZipIter
import PyProof.TupleIter
import KE.KDictOf
import PyProof.StrLawsChain
import PyProof.StrLawsIn
import PySem.Challenge.RW_leanestate_k47_whole_need
set_option Elab.async false
set_option linter.all false
set_option maxRecDepth 100000
set_option genSizeOf false
set_option genSizeOfSpec false
noncomputable section
open PySem.W renaming Frag→aW,nsIn→bI,findIn→bO,keepIn→cj,mg_none_of→cy,fnOf→cB,codeIn→cF,mg_of→cH,isFn→cN,excIn→cX,kia_one→cY,emptyDict→dy,kitOne→dE,instObj→dU,plainGet→fh,hideAll_get→fu,makesIn→fz,hasDictIn→fK,plainGet_of→gf,lookIn→gi,methodObj→gH,plainOver→gI,takerIn→gU
open List renaming length_map→aX,getElem?_eq_some_iff→aZ,mem_cons_of_mem→bc,length_append→bf,getElem?_eq_getElem→bg,getElem?_map→bi,mem_cons_self→bj,mem_of_getElem?→bo,mem_cons→bw,mem_map→bz,replicate→bA,mem_singleton→bC,length_cons→bE,mem_iff_getElem?→bF,map_cons→bH,mem_append_right→bJ,map_map→bM,size_toArray→bR,mem_append→bS,length_take→bW,map_append→bZ,take_length→cg,map_congr_left→cn,lookup_cons→cq,mem_map_of_mem→cr,getElem?_append_right→cv,take_add_one→cx,getElem?_append_left→cA,filter_cons→cJ,drop_eq_getElem_cons→cK,take_of_length_le→cM,length_range→cP,length_dropLast→cR,append_nil→cT,not_mem_nil→cU,nodup_cons→df,range'→dg,getElem?_drop→dj,getD_eq_getElem?_getD→dt,range→dz,getElem?_take_of_lt→dA,length_drop→dB,mem_append_left→dD,append_assoc→dF,length_set→dG,find?_cons→dJ,take_append_drop→dQ,forIn_cons→dX,mem_of_mem_take→dY,zipWith→dZ,drop_zero→ek,any_eq_true→er,getElem?_dropLast→eu,length_filter_le→eB,getElem?_reverse→eC,pairwise_iff_getElem→eF,range'_succ→eJ,replicate_succ→eK,length_reverse→eM,length_eq_zero_iff→eO,pairwise_singleton→eP,mem_filterMap→eQ,foldl_cons→eU,getElem?_set_self→eW,length→eX,getElem?_toArray→fc,eraseIdx_sublist→fe,cons_ne_nil→fi,dropLast_subset→fj,length_eraseIdx→fk,any_cons→fq,filterMap_cons→fv,pairwise_cons→fE,forIn_nil→fG,getElem?_set→fO,all_eq_true→fS,mem_reverse→fT,getElem?_zipWith→fV,getElem?_eq_none→fX,mem_filter→fY,getElem?_set_ne→fZ,getElem?_range→gg,mem_range→gh,getElem?_take→gy,pairwise_map→gK,getElem?_inj→gL,getElem_mem→gR,map_id'→gS
open PySem.Heap renaming get?_push_of_some→aY,lt_size→bq,get?_push_size→bu,size_push→cC,get?_update_other→cL,get?_update_self→cV
open Nat renaming le_refl→bh,lt_of_lt_of_le→bp,ne_of_lt→bD,le_trans→bL,zero_le→cf,pow_le_pow_right→cI,lt_irrefl→cO,lt_of_le_of_lt→cS,le_of_lt→db,pow_add→di,le_add_right→dm,mul_le_mul_right→dn,mul_comm→dr,ne_of_gt→dM,le_succ→dN,lt_succ_self→dO,lt_succ_of_lt→eZ,pow_succ→fb,mul_le_mul_left→fw,le_of_eq→fB,sub_zero→fC,mul_le_mul→fH,le_mul_of_pos_right→fI,zero_add→gb,add_mul→gk,pow_pos→gl,mul_assoc→gE,le_of_dvd→gG,toDigits→gQ
open Int renaming emod_lt_of_pos→bK,emod_nonneg→bV,gcd→cu,fdiv_eq_ediv_of_nonneg→dq,mul_pos→dC,mul_ne_zero→dH,toNat_of_nonneg→dL,natAbs_mul→dP,mul_comm→dW,toNat_natCast→ef,gcd_pos_of_ne_zero_right→eh,mul_nonpos_of_nonneg_of_nonpos→fL,mul_assoc→fR,natAbs_dvd_natAbs→fU,zero_add→gc,mul_le_mul_of_nonneg_left→ge,mul_right_comm→gn,gcd_dvd_right→gJ,gcd_dvd_left→gP
open Option renaming map_eq_some_iff→bN,bind_eq_some_iff→fJ,isSome_map→fM
open Rat renaming intCast_mul→bP,mul_le_mul_of_nonneg_right→bU,le_of_lt→bX,le_refl→cD,mul_le_mul_of_nonneg_left→cQ,mul_nonneg→de,mul_lt_mul_of_pos_right→dI,natCast_mul→eV,div_mul_cancel→fF,div_def→gj,num_divInt_den→gw,mul_assoc→gD,divInt→gM,le_trans→gT
open Bool renaming false_ne_true→bQ,and_eq_true_iff→eD,and_eq_true→eI,eq_iff_iff→eR,false_eq_true→gz,not_true→gF
open Array renaming length_toList→bY,getElem?_eq_getElem→cE,getElem?_toList→cG,toList_extract→eE,getElem?_eq_none→eY,toList_push→fN,append_assoc→gm,toList→gO
open PySem.F renaming plainAttrs_list→cW,plainAttrs_str→cZ,slot_list_pop→dR,type_list_pop→dS,slot_str_split→fP,type_str_split→fQ,slot_str_join→fW,slot_str_startswith→gr,slot_str_partition→gC,slot_dict_getitem→gN
abbrev aa:List PySem.Str:=["claims","estate"]
abbrev ae:List PySem.Str:=["one","other"]
abbrev ah:List PySem.Str:=["self","told"]
abbrev ai:List PySem.Str:=["_law_desk","_law_rule","_law_name_here","_law_names","_law_amount","_law_cell","_law_again"]
abbrev aj:List PySem.Str:=["_law_desk","_law_rule","_law_estate","_law_name_here","_law_names"]
abbrev al:List PySem.Str:=["rule","claims","estate"]
abbrev am:List PySem.Str:=["_law_desk","_law_names","_law_claims_here","_law_cell"]
abbrev ao:List PySem.Str:=["self","rule","name","amount"]
abbrev aq:List PySem.Str:=["_law_top","_law_bottom"]
abbrev ar:List PySem.Str:=["rule","claims"]
abbrev au:List PySem.Str:=["self","rule","name","other"]
abbrev av:List PySem.Str:=["rule","claims","claimer","amount"]
abbrev aw:List PySem.Str:=["claims"]
abbrev ax:List PySem.Str:=["knot","later","claimer","amount"]
abbrev ay:List PySem.Str:=["top","bottom"]
abbrev aA:List PySem.Str:=["claims","claimer","amount"]
abbrev aB:List PySem.Str:=["self","name","amount"]
abbrev aD:List PySem.Str:=["_law_script","_law_k"]
abbrev aE:List PySem.Str:=["_law_script"]
abbrev aF:List PySem.Str:=["_law_one","_law_other"]
abbrev aH:List PySem.Str:=["self","name","rule"]
abbrev aI:List PySem.Str:=["self","line"]
abbrev aJ:List PySem.Str:=["bottom","ratios"]
abbrev aK:List PySem.Str:=["claims","parts"]
abbrev aL:List PySem.Str:=["claimed","estates"]
abbrev aM:List PySem.Str:=["self"]
abbrev aN:List PySem.Str:=["self","name"]
abbrev aO:List PySem.Str:=["self","rule"]
abbrev aP:List PySem.Str:=["rule"]
abbrev aQ:List PySem.Str:=["_law_k","_law_cell"]
abbrev aR:List PySem.Str:=["names","ratios"]
abbrev aS:List PySem.Str:=["_law_one"]
abbrev aT:List PySem.Str:=["_law_text_here"]
abbrev aU:List PySem.Str:=["line"]
abbrev aV:List PySem.Str:=["text"]
namespace L2
open PySem PySem.Spec PyProof.Rows
section
section
section
section
abbrev Key:=Sum Int Str
def mr:Key ->Value ->Bool
 | .inl k,v=>Value.isInt k v
 | .inr x,v=>Value.isStrOf x v
def Nn(w:World):Key ->Int
 | .inl k=>hashInt k
 | .inr x=>hashStr w x
theorem jR:∀{k:Key} {v:Value},mr k v=true ->(∃i t,k=Sum.inl i/\ v=Value.int i t)∨(∃x t,k=Sum.inr x/\ v=Value.str x t)
 | .inl i,v,h=>by
  obtain⟨t,e⟩:=Value.isInt_shape (k:=i) (v:=v) h
  exact .inl ⟨i,t,rfl,e⟩
 | .inr x,v,h=>by
  obtain⟨t,e⟩:=Value.isStrOf_shape (x:=x) (v:=v) h
  exact .inr ⟨x,t,rfl,e⟩
theorem DE(i:Int)(t:Tok):mr (.inl i) (.int i t)=true:=by simp[mr,Value.isInt]
theorem DM(x:Str)(t:Tok):mr (.inr x) (.str x t)=true:=by simp[mr,Value.isStrOf]
theorem Ki(a b:Int):decide ((Sum.inl a:Key)=Sum.inl b)=(a == b):=by
 by_cases e:a=b
 ·subst e;simp
 ·have h:¬(Sum.inl a:Key)=Sum.inl b:=fun q=>e (Sum.inl.inj q)
  rw[decide_eq_false h]
  exact(beq_eq_false_iff_ne.mpr e).symm
theorem KP(a b:Str):decide ((Sum.inr a:Key)=Sum.inr b)=decide (a=b):=by
 by_cases e:a=b
 ·subst e;simp
 ·have h:¬(Sum.inr a:Key)=Sum.inr b:=fun q=>e (Sum.inr.inj q)
  rw[decide_eq_false h,decide_eq_false e]
theorem KN(a:Int)(b:Str):decide ((Sum.inl a:Key)=Sum.inr b)=false:=decide_eq_false (fun q=>nomatch q)
theorem LN(a:Str)(b:Int):decide ((Sum.inr a:Key)=Sum.inl b)=false:=decide_eq_false (fun q=>nomatch q)
def jn(prog:Program)(w:World):PySem.KeyKind prog w Key where
 is:=mr
 hash:=Nn w
 inj:=fun v a b ha hb=>by
  rcases jR ha with⟨i,t,rfl,rfl⟩|⟨x,t,rfl,rfl⟩
  ·rcases jR hb with⟨j,u,rfl,e⟩|⟨y,u,rfl,e⟩
   ·injection e with e1 _;rw[e1]
   ·exact nomatch e
  ·rcases jR hb with⟨j,u,rfl,e⟩|⟨y,u,rfl,e⟩
   ·exact nomatch e
   ·injection e with e1 _;rw[e1]
 byValue:=fun k v h=>by
  rcases jR h with⟨i,t,rfl,rfl⟩|⟨x,t,rfl,rfl⟩<;>rfl
 pyHash:=fun hv h=>by
  rcases jR hv with⟨i,t,rfl,rfl⟩|⟨x,t,rfl,rfl⟩
  ·exact wpAny_pyHash_int h
  ·exact wpAny_pyHash_str h
 eqBool:=fun hu hv h=>by
  rcases jR hu with⟨i,t,rfl,rfl⟩|⟨x,t,rfl,rfl⟩
  ·rcases jR hv with⟨j,u,rfl,rfl⟩|⟨y,u,rfl,rfl⟩
   ·rw[Ki] at h;exact wpAny_eqBool_int h
   ·rw[KN] at h;exact SeqAt.EqAt.int_str i t y u _ _ _ _ h
  ·rcases jR hv with⟨j,u,rfl,rfl⟩|⟨y,u,rfl,rfl⟩
   ·rw[LN] at h;exact SeqAt.EqAt.str_int x t j u _ _ _ _ h
   ·rw[KP] at h;exact wpAny_eqBool_str h
 «strs» :=fun k x t v h=>by
  rcases jR h with⟨i,u,rfl,e⟩|⟨y,u,rfl,e⟩
  ·exact nomatch e
  ·injection e with e1 _
   subst e1
   cases v<;>rfl
theorem AR(prog:Program)(w:World)(i:Int)(t:Tok):(jn prog w).is (.inl i) (.int i t)=true:=DE i t
theorem qo(prog:Program)(w:World)(x:Str)(t:Tok):(jn prog w).is (.inr x) (.str x t)=true:=DM x t
inductive V where
 |non|bl (b:Bool)|int (i:Int)|str (x:Str)|byt (b:Array UInt8)|flt (b:UInt64)|ref (a:Addr)|ty (n:String)
 deriving DecidableEq
def iB:V ->Value ->Prop
 | .non,u=>u=Value.none
 | .bl b,u=>u=Value.bool b
 | .int i,u=>∃t,u=Value.int i t
 | .str x,u=>∃t,u=Value.str x t
 | .byt b,u=>∃t,u=Value.bytes b t
 | .flt b,u=>∃t,u=Value.float b t
 | .ref a,u=>u=Value.ref a
 | .ty n,u=>u=Value.type n
abbrev iz:List V ->List Value ->Prop:=Paired iB
theorem iz.length{xs:List V}{us:List Value}(r:iz xs us):xs.length=us.length:=Paired.length r
theorem iz.get:∀{xs:List V} {us:List Value} {i:Nat} {x:V},iz xs us ->xs[i]? =some x ->∃u,us[i]? =some u/\ iB x u
 |_,_,_,_,.nil,e=>by simp at e
 |_,_,0,_,.cons r _,e=>by simp at e;subst e;exact⟨_,rfl,r⟩
 |_,_,i+1,x,.cons _ t,e=>by
  obtain⟨u,h1,b⟩:=iz.get (i:=i) (x:=x) t (by simpa using e)
  exact⟨u,by simpa using h1,b⟩
theorem iz.set{x:V}{u:Value}(r:iB x u):∀{xs:List V} {us:List Value} (i:Nat),iz xs us ->iz (xs.set i x) (us.set i u)
 |_,_,_,.nil=>.nil
 |_,_,0,.cons _ t=>.cons r t
 |_,_,i+1,.cons q t=>.cons q (iz.set r i t)
theorem iz.append:∀{xs ys:List V} {us ws:List Value},iz xs us ->iz ys ws ->iz (xs++ys) (us++ws)
 |_,_,_,_,.nil,s=>s
 |_,_,_,_,.cons r t,s=>.cons r (iz.append t s)
theorem iz.take:∀{xs:List V} {us:List Value} (n:Nat),iz xs us ->iz (xs.take n) (us.take n)
 |_,_,0,_=>.nil
 |_,_,_+1,.nil=>.nil
 |_,_,n+1,.cons r t=>.cons r (iz.take n t)
theorem iz.drop:∀{xs:List V} {us:List Value} (n:Nat),iz xs us ->iz (xs.drop n) (us.drop n)
 |_,_,0,r=>r
 |_,_,_+1,.nil=>.nil
 |_,_,n+1,.cons _ t=>iz.drop n t
def lK:Option V ->Option Value ->Prop
 |some v,some u=>iB v u
 |none,none=>True
 |_,_=>False
def KV{κ:Type}:List (κ × V) ->List (κ × Value) ->Prop:=Paired fun(p:κ × V) (q:κ × Value)=>p.1=q.1/\ iB p.2 q.2
def kV:Key ->V
 | .inl i=>.int i
 | .inr x=>.str x
inductive HO where
 /-- a list -/
 |lst (xs:List V)
 /-- a tuple (never changes) -/
 |tup (xs:List V)
 /-- a dict whose keys are ints and texts; one whose keys are tuples of ints and texts (the empty one is both) -/
 |dK (kvs:List (Key × V))|dT (kvs:List (List Key × V))
 /-- a set of ints: its members, its size -/
 |set (S:Int ->Bool) (n:Nat)
 /-- an instance of the class at C, its dict at dx, its attributes -/
 |ins (C dx:Addr) (fs:List (Str × V))
 /-- the dict of the instance at x -/
 |own (x:Addr)
 /-- the dict of an exception -/
 |xd (fs:List (Str × V))
 /-- a bound method, f of x -/
 |met (f x:Addr)
 /-- a range object lo, lo + 1, .. below hi -/
 |rng (lo hi:Int)
 /-- a thing that is known to the object (the script; a dict while a loop walks it): read, never written while it is so -/
 |frz (o:Obj) (u:HO)
 /-- a code object's table -/
 |tbl (ps:Array Value)
 /-- any other thing, by what is true of its one object (a def of one's own: SetO a S n := HO.ext fun h => ..) -/
 |ext (φ:Heap ->Prop)
abbrev Hp:=Addr ->Option HO
def upd(H:Hp)(a:Addr)(o:HO):Hp:=fun b=>if b=a then some o else H b
theorem kI{H:Hp}{a:Addr}{o:HO}:upd H a o a=some o:=by unfold upd;rw[if_pos rfl]
theorem iM{H:Hp}{a b:Addr}{o:HO}(h:b≠a):upd H a o b=H b:=by unfold upd;rw[if_neg h]
theorem HX{H:Hp}{a b:Addr}{o u:HO}(h:H a=some o)(h':H b=some u)(d:o≠u):a≠b:=by
 intro e;subst e;rw[h] at h';exact d (Option.some.inj h')
theorem kC{H:Hp}{a b:Addr}{o:HO}(h:H a=some o)(h':H b=none):a≠b:=by
 intro e;subst e;rw[h] at h';cases h'
section
variable (P:Program) (w:World)
def js(H:Hp)(h:Heap)(a:Addr):HO ->Prop
 | .lst xs=>xs.length<=sizeLine/\ ∃(its:List Value) (n:Nat),iz xs its/\ h.get? a=some {cls:=.type "list",data:=.seq its.toArray n}
 | .tup xs=>xs.length<=sizeLine/\ ∃its:List Value,iz xs its/\ IsTup h a its.toArray
 | .dK kvs=>kvs.length<=sizeLine/\ (a == sysModules)=false/\ ∃vs,KV kvs vs/\ h.DictOf (jn P w) a vs
 | .dT kvs=>kvs.length<=sizeLine/\ (a == sysModules)=false/\ ∃xs:List (List Key × Addr × Value),
   Paired (fun(p:List Key × V) (q:List Key × Addr × Value)=>p.1=q.1/\ H q.2.1=some (.tup (p.1.map kV))/\ iB p.2 q.2.2) kvs xs/\
   ∃o es ep,h.get? a=some o/\ o.ExactDict/\ o.data=.dict es ep/\ es.toList=xs.map (entryOfKey (tupleKind (jn P w)))/\ (xs.map (·.1)).Nodup
 | .set S n=>h.SetOf (intKind P w) a S n
 | .ins C dx fs=>H dx=some (.own a)/\ fs.length<=1000/\ dx≠a/\ h.get? a=some (dU C dx)/\
   ∃mA,h.Ns1 dx mA/\ (∀f,lK (fs.lookup f) (mA f))/\ PySem.Within mA (fs.map (·.1))
 | .own _=>∃o,h.get? a=some o
 | .xd fs=>∃mA,h.Ns1 a mA/\ ∀f,lK (fs.lookup f) (mA f)
 | .rng lo hi=>∃t u v,h.get? a=some {cls:=.type "range",data:=.fields #[.int lo t,.int hi u,.int 1 v]}
 | .frz o u=>h.get? a=some o/\ js H h a u
 | .tbl ps=>h.get? a=some {cls:=.none,data:=.fields ps}
 | .met f x=>h.get? a=some (gH (.ref f) (.ref x))
 | .ext φ=>φ h/\ (∃o,h.get? a=some o)/\ ∀h1 h2:Heap,φ h1 ->(∀o,h1.get? a=some o ->h2.get? a=some o) ->φ h2
def HOk(H:Hp)(h:Heap):Prop:=∀a o,H a=some o ->js P w H h a o
end
section
variable {P:Program} {w:World} {H H':Hp} {h h':Heap} {a:Addr} {o:HO}
theorem js.lt(x:js P w H h a o):a<h.objs.size:=by
 cases o with
 |lst xs=>obtain⟨_,_,_,_,e⟩:=x;exact bq e
 |tup xs=>obtain⟨_,_,_,p⟩:=x;exact p.lt
 |dK kvs=>obtain⟨_,_,_,_,o,_,_,e,_⟩:=x;exact bq e
 |dT kvs=>obtain⟨_,_,_,_,o,_,_,e,_⟩:=x;exact bq e
 |set S n=>obtain⟨o,_,_,_,e,_⟩:=x;exact bq e
 |ins C dx fs=>obtain⟨_,_,_,e,_⟩:=x;exact bq e
 |own y=>obtain⟨_,e⟩:=x;exact bq e
 |xd fs=>obtain⟨_,⟨_,_,_,e,_⟩,_⟩:=x;exact bq e
 |rng lo hi=>obtain⟨_,_,_,e⟩:=x;exact bq e
 |frz ob u=>obtain⟨e,_⟩:=x;exact bq e
 |tbl ps=>exact bq (show h.get? a=some _ from x)
 |met f y=>exact bq (show h.get? a=some _ from x)
 |ext φ=>obtain⟨_,⟨_,e⟩,_⟩:=x;exact bq e
theorem Paired.mapP{l g:Type}{F G:l ->g ->Prop}:∀{l₁:List l} {l₂:List g},Paired F l₁ l₂ ->(∀a b,F a b ->G a b) ->Paired G l₁ l₂
 |_,_,.nil,_=>.nil
 |_,_,.cons r t,f=>.cons (f _ _ r) (Paired.mapP t f)
theorem js.stay(x:js P w H h a o)(k:∀b u,(b=a∨H b=some (.own a)) ->h.get? b=some u ->h'.get? b=some u)
  (G:∀b,H b=some (.own a) ->H' b=some (.own a))(F:∀b xs,H b=some (.tup xs) ->H' b=some (.tup xs)):js P w H' h' a o:=by
 induction o with
 |lst xs=>obtain⟨z,A,n,r,e⟩:=x;exact⟨z,A,n,r,k _ _ (.inl rfl) e⟩
 |tup xs=>obtain⟨z,A,r,ob,e,c⟩:=x;exact⟨z,A,r,ob,k _ _ (.inl rfl) e,c⟩
 |dK kvs=>obtain⟨z,y,J,r,ob,g,l,e,c⟩:=x;exact⟨z,y,J,r,ob,g,l,k _ _ (.inl rfl) e,c⟩
 |dT kvs=>
  obtain⟨z,y,xs,r,ob,g,l,e,c⟩:=x
  exact⟨z,y,xs,Paired.mapP r fun p q z=>⟨z.1,F _ _ z.2.1,z.2.2⟩,ob,g,l,k _ _ (.inl rfl) e,c⟩
 |set S n=>obtain⟨ob,g,l,t,e,c⟩:=x;exact⟨ob,g,l,t,k _ _ (.inl rfl) e,c⟩
 |ins C dx fs=>
  obtain⟨d,z,ne,e,D,⟨B,g,l,I,c⟩,r⟩:=x
  exact⟨G _ d,z,ne,k _ _ (.inl rfl) e,D,⟨B,g,l,k _ _ (.inr d) I,c⟩,r⟩
 |own y=>obtain⟨ob,e⟩:=x;exact⟨ob,k _ _ (.inl rfl) e⟩
 |xd fs=>obtain⟨D,⟨B,g,l,e,c⟩,r⟩:=x;exact⟨D,⟨B,g,l,k _ _ (.inl rfl) e,c⟩,r⟩
 |rng lo hi=>obtain⟨t,u,v,e⟩:=x;exact⟨t,u,v,k _ _ (.inl rfl) e⟩
 |frz ob u ih=>obtain⟨e,q⟩:=x;exact⟨k _ _ (.inl rfl) e,ih q⟩
 |tbl ps=>
  have e:h.get? a=some {cls:=.none,data:=.fields ps}:=x
  show h'.get? a=some {cls:=.none,data:=.fields ps}
  exact k a _ (.inl rfl) e
 |met f y=>
  have e:h.get? a=some (gH (.ref f) (.ref y)):=x
  show h'.get? a=some (gH (.ref f) (.ref y))
  exact k a _ (.inl rfl) e
 |ext φ=>obtain⟨p,⟨o,e⟩,E⟩:=x;exact⟨E _ _ p fun o q=>k _ _ (.inl rfl) q,⟨o,k _ _ (.inl rfl) e⟩,E⟩
theorem HOk.lt(x:HOk P w H h)(e:H a=some o):a<h.objs.size:=(x a o e).lt
theorem HOk.fresh(x:HOk P w H h)(e:h.objs.size<=a):H a=none:=by
 cases q:H a with
 |none=>rfl
 |some u=>exact absurd (bp (x.lt q) e) (cO _)
theorem HOk.kept(x:HOk P w H h)(k:∀b u,h.get? b=some u ->h'.get? b=some u):HOk P w H h':=fun a o e=>
 (x a o e).stay (fun b u _ q=>k b u q) (fun _ q=>q) fun _ _ q=>q
theorem HOk.laid(x:HOk P w H h)(k:∀b u,h.get? b=some u ->h'.get? b=some u)(g:h.objs.size<=a)(new:js P w (upd H a o) h' a o):HOk P w (upd H a o) h':=fun b u e=>by
 have f:=x.fresh g
 by_cases hb:b=a
 ·subst hb;rw[kI] at e;cases e;exact new
 ·rw[iM hb] at e
  exact(x b u e).stay (fun c v _ q=>k c v q) (fun c q=>by rw[iM (kC q f)];exact q) fun c l q=>by rw[iM (kC q f)];exact q
end
def Rd(H:Hp)(a:Addr)(u:HO):Prop:=H a=some u∨∃o,H a=some (.frz o u)
theorem Rd.ok{P:Program}{w:World}{H:Hp}{h:Heap}{a:Addr}{u:HO}(r:Rd H a u)(x:HOk P w H h):js P w H h a u:=by
 rcases r with r|⟨o,r⟩
 ·exact x a u r
 ·obtain⟨_,q⟩:=x a _ r
  exact q
def Mut:Option HO ->Prop
 |some (.lst _)=>True
 |some (.dK _)=>True
 |some (.dT _)=>True
 |some (.set _ _)=>True
 |some (.ins _ _ _)=>True
 |some (.ext _)=>True
 |_=>False
section
variable {P:Program} {w:World} {H:Hp} {h h':Heap} {x e:Addr} {o':HO}
theorem HOk.write(ok:HOk P w H h)(l:Mut (H x))(C:e=x∨H e=some (.own x))(k:∀b u,b≠e ->h.get? b=some u ->h'.get? b=some u)(B:∃u,h'.get? e=some u)
  (new:js P w (upd H x o') h' x o'):HOk P w (upd H x o') h':=fun b u q=>by
 have f:∀c y,H c=some (.own y) ->c≠x:=fun c y r z=>by subst z;rw[r] at l;exact l
 have g:∀c o,H c=some (.tup o) ->c≠x:=fun c o r z=>by subst z;rw[r] at l;exact l
 by_cases hb:b=x
 ·subst hb;rw[kI] at q;cases q;exact new
 ·rw[iM hb] at q
  by_cases hbe:b=e
  ·have D:H b=some (.own x):=by
    rcases C with z|z
    ·exact absurd (hbe.trans z) hb
    ·rw[hbe];exact z
   rw[q] at D;cases D
   obtain⟨v,hv⟩:=B
   exact⟨v,by rw[hbe];exact hv⟩
  ·refine(ok b u q).stay (fun c v A r=>k c v ?_ r) (fun c r=>by rw[iM (f c b r)];exact r) fun c o r=>by rw[iM (g c o r)];exact r
   rcases A with rfl|A
   ·exact hbe
   ·rintro rfl
    rcases C with z|z
    ·exact f c b A z
    ·rw[A] at z;cases z;exact hb rfl
end
set_option genInjectivity false in
structure Un(fs ex:List Addr)(H H':Hp)(h h':Heap):Prop where
 keep:∀b o,h.get? b=some o ->H b=none ->b∉fs ->b∉ex ->h'.get? b=some o
 slot:∀b o,h.get? b=some o ->H b=none ->b∈fs ->b∉ex ->∃sl,h'.get? b=some {o with slots:=sl}
 free:∀b o,h.get? b=some o ->H b=none ->b∉ex ->H' b=none
 there:∀b o,h.get? b=some o ->b∉ex ->∃o',h'.get? b=some o'
 tups:∀b xs,H b=some (.tup xs) ->H' b=some (.tup xs)
 frzs:∀b o u,H b=some (.frz o u) ->H' b=some (.frz o u)
 tbls:∀b ps,H b=some (.tbl ps) ->∃more,H' b=some (.tbl (ps++more))
section
variable {fs fs' ex ex':List Addr} {H H1 H2:Hp} {h h1 h2 h':Heap} {a x e:Addr} {o:HO}
theorem Un.any(u:Un fs ex H H1 h h1){b:Addr}{ob:Obj}(q:h.get? b=some ob)(n:H b=none)(f:b∉ex):∃g,h1.get? b=some {ob with slots:=g}:=by
 by_cases hb:b∈fs
 ·exact u.slot b ob q n hb f
 ·exact⟨ob.slots,u.keep b ob q n hb f⟩
theorem Un.trans(a:Un fs ex H H1 h h1)(b:Un fs ex H1 H2 h1 h2):Un fs ex H H2 h h2 where
 keep:=fun c ob q n w f=>b.keep c ob (a.keep c ob q n w f) (a.free c ob q n f) w f
 slot:=fun c ob q n w f=>by
  obtain⟨F,g⟩:=a.slot c ob q n w f
  obtain⟨z,A⟩:=b.slot c _ g (a.free c ob q n f) w f
  exact⟨z,A⟩
 free:=fun c ob q n f=>by
  obtain⟨B,g⟩:=a.there c ob q f
  exact b.free c B g (a.free c ob q n f) f
 there:=fun c ob q f=>by
  obtain⟨B,g⟩:=a.there c ob q f
  exact b.there c B g f
 tups:=fun c l q=>b.tups c l (a.tups c l q)
 frzs:=fun c ob l q=>b.frzs c ob l (a.frzs c ob l q)
 tbls:=fun c C q=>by
  obtain⟨E,g⟩:=a.tbls c C q
  obtain⟨D,A⟩:=b.tbls c _ g
  exact⟨E++D,by rw[A,gm]⟩
theorem Un.kept(k:∀b u,h.get? b=some u ->h'.get? b=some u):Un fs ex H H h h':=
 ⟨fun b ob q _ _ _=>k b ob q,fun b ob q _ _ _=>⟨ob.slots,k b ob q⟩,fun _ _ _ n _=>n,fun b ob q _=>⟨ob,k b ob q⟩,fun _ _ q=>q,fun _ _ _ q=>q,fun _ f q=>⟨#[],by rw[q];simp⟩⟩
theorem Un.refl:Un fs ex H H h h:=Un.kept fun _ _ q=>q
theorem Un.laid(k:∀b u,h.get? b=some u ->h'.get? b=some u)(l:h.objs.size<=a)(f:H a=none):Un fs ex H (upd H a o) h h' where
 keep:=fun b u q _ _ _=>k b u q
 slot:=fun b u q _ _ _=>⟨u.slots,k b u q⟩
 free:=fun b u q n _=>by rw[iM (bD (bp (bq q) l))];exact n
 there:=fun b u q _=>⟨u,k b u q⟩
 tups:=fun b g q=>by rw[iM (kC q f)];exact q
 frzs:=fun b u g q=>by rw[iM (kC q f)];exact q
 tbls:=fun b w q=>⟨#[],by rw[iM (kC q f),q];simp⟩
theorem Un.write(f:Mut (H x))(C:e=x∨H e=some (.own x))(k:∀b u,b≠e ->h.get? b=some u ->h'.get? b=some u)(g:∃u,h'.get? e=some u):Un fs ex H (upd H x o) h h':=by
 have A:∀b,H b=none ->b≠x:=fun b n z=>by subst z;rw[n] at f;exact f
 have w:∀b,H b=none ->b≠e:=fun b n z=>by
  subst z
  rcases C with r|r
  ·exact A b n r
  ·rw[n] at r;cases r
 have l:∀b u,H b=some u ->¬Mut (some u) ->b≠x:=fun b u q D z=>by subst z;rw[q] at f;exact D f
 refine⟨fun b u q n _ _=>k b u (w b n) q,fun b u q n _ _=>⟨u.slots,k b u (w b n) q⟩,fun b u q n _=>by rw[iM (A b n)];exact n,fun b u q _=>?_,
  fun b B q=>by rw[iM (l b _ q fun z=>z)];exact q,fun b u B q=>by rw[iM (l b _ q fun z=>z)];exact q,fun b E q=>⟨#[],by rw[iM (l b _ q fun z=>z),q];simp⟩⟩
 by_cases hbe:b=e
 ·subst hbe;exact g
 ·exact⟨u,k b u hbe q⟩
end
def trk(h:Heap)(H:Hp):List Addr:=(dz h.objs.size).filter fun a=>(H a).isSome
def rl(h:Heap)(H:Hp):Heap:=PySem.W.hideAll h (trk h H)
theorem EY(h:Heap)(H:Hp):(rl h H).objs.size=h.objs.size:=PySem.W.hideAll_size _ _
theorem Gb{h:Heap}{H:Hp}{b:Addr}{o:Obj}(e:h.get? b=some o)(n:H b=none):(rl h H).get? b=some o:=
 fu _ e fun f=>by
  have q:(H b).isSome=true:=(fY.mp f).2
  rw[n] at q;simp at q
theorem Iz{h:Heap}{H:Hp}{b:Addr}{o:Obj}(e:(rl h H).get? b=some o):h.get? b=some o/\ H b=none:=by
 have f:h.get? b=some o:=PySem.W.of_hideAll (trk h H) e
 refine⟨f,?_⟩
 cases q:H b with
 |none=>rfl
 |some x=>
  have g:b∈trk h H:=fY.mpr ⟨gh.mpr (bq f),by simp[q]⟩
  have z:(rl h H).get? b=none:=PySem.W.hideAll_none (trk h H) g
  rw[z] at e;cases e
def Jj(g h:Heap)(L:Addr):List (Addr × Obj):=(dz h.objs.size).filterMap fun a=>if a=L∨(g.get? a).isSome=true then none else(h.get? a).map fun o=>(a,o)
def rest(g h:Heap)(L d:Addr):List (Addr × Obj):=(Jj g h L).filter fun p=>decide (p.1≠d)
end
structure Mod(K:aW)(mg:Str ->Option Value)(base:Heap):Prop where
 kin:K.In base
 glob:base.Ns mainGlobals mg
 blt:∃mb,base.Ns builtinsNs mb/\ ∀x:Str,x≠"__name__" ->mb x=bootBuiltins x
 nolimit:base.NoLimit
set_option genInjectivity false in
structure Cx where
 prog:Program
 w:World
 K:aW
 mg:Str ->Option Value
 base:Heap
 A:Around
 N:List Str
 s₀:Shared
 H₀:Hp
 env:Env
 outer:List Env
 stack:List Env
 ex:List Addr
 fn:Str ->Bool
 calm:Bool
 pn:List (Addr × Obj)
 xe:Value ->Shared ->Prop
def frs(l:List Env):List Addr:=l.filterMap (·.frame)
abbrev Cx.fs(X:Cx):List Addr:=frs X.outer
def Vis(sc:Scope)(x:Str):Prop:=sc.names.lookup x=some .local∨sc.names.lookup x=some .cell∨sc.names.lookup x=some .free
def Loc(sc:Scope)(x:Str):Prop:=sc.names.lookup x=some .local∨sc.names.lookup x=some .cell
def NO(env:Env)(h:Heap)(m:Str ->Option Value)(x:Str)(u:Value):Prop:=
 (env.kindOf x=some .local/\ m x=some u)∨((env.kindOf x=some .cell∨env.kindOf x=some .free)/\ ∃c,env.cells.lookup x=some c/\ h.IsCell c (some u))
set_option genInjectivity false in
structure Cx.Ok(X:Cx):Prop where
 mod:Mod X.K X.mg X.base
 kind:X.env.scope.kind=.function
 glob:X.env.globals=mainGlobals
 blt:X.env.builtins=builtinsNs
 above:X.s₀.heap.objs.size<=X.env.locals
 inj:∀x y c,X.env.cells.lookup x=some c ->X.env.cells.lookup y=some c ->x=y
 has:∀x,(X.env.kindOf x=some .cell∨X.env.kindOf x=some .free) ->∃c,X.env.cells.lookup x=some c
 cab:∀x c,X.fn x=true ->X.env.cells.lookup x=some c ->X.s₀.heap.objs.size<=c
 hd:X.calm=true ->X.A.handled=none
 frames:X.A.frames=some X.stack
 stk:X.stack=X.outer∨(X.stack=X.env::X.outer/\ X.env.frame=some X.env.locals)
 exf:∀b∈X.ex,b≠X.env.locals/\ ∀x c,X.env.cells.lookup x=some c ->c≠b
 bs:∀b o,X.base.get? b=some o ->X.s₀.heap.get? b=some o/\ X.H₀ b=none
 bsz:X.base.objs.size<=X.s₀.heap.objs.size
 noex:∀b o,X.base.get? b=some o ->b∉X.ex
 exfs:∀b∈X.ex,b∉X.fs
 funs:X.s₀.heap.FunFrames X.base X.outer
 frf:∀b∈X.fs,X.H₀ b=none
set_option genInjectivity false in
structure Inv(X:Cx)(gW:List (Addr × Obj))(σ:List (Option V))(H:Hp)(s:Shared):Prop where
 ok:X.Ok
 os:s.os=X.s₀.os
 bare:AllBare s.gens
 base:Un X.fs X.ex X.H₀ H X.s₀.heap s.heap
 loc:∃m,s.heap.Ns X.env.locals m/\ ∀(i:Nat) (x:Str) (v:V),X.N[i]? =some x ->σ[i]? =some (some v) ->Vis X.env.scope x ->∃u,iB v u/\ NO X.env s.heap m x u
 cell:∀x c,X.env.cells.lookup x=some c ->∃v,s.heap.IsCell c v
 free:H X.env.locals=none
 freeC:∀x c,X.env.cells.lookup x=some c ->H c=none
 pin:∀p∈X.pn++gW,s.heap.get? p.1=some p.2/\ H p.1=none/\ p.1≠X.env.locals/\ p.1∉X.fs/\ ∀v,p.2.data≠.cell v
 hok:HOk X.prog X.w H s.heap
 len:σ.length=X.N.length
section
variable {X:Cx} {gW:List (Addr × Obj)} {σ:List (Option V)} {H H':Hp} {s:Shared} {h':Heap}
theorem Cx.Ok.nofr(ok:X.Ok){b:Addr}{o:Obj}(e:X.base.get? b=some o):b∉X.fs:=fun f=>by
 have:=(ok.funs.mem f).1
 rw[e] at this;cases this
theorem Inv.bs(I:Inv X gW σ H s):∀b o,X.base.get? b=some o ->s.heap.get? b=some o/\ H b=none:=fun b o e=>
 ⟨I.base.keep b o (I.ok.bs b o e).1 (I.ok.bs b o e).2 (I.ok.nofr e) (I.ok.noex b o e),I.base.free b o (I.ok.bs b o e).1 (I.ok.bs b o e).2 (I.ok.noex b o e)⟩
theorem Inv.bk(I:Inv X gW σ H s):∀b o,X.base.get? b=some o ->s.heap.get? b=some o:=fun b o e=>(I.bs b o e).1
theorem Inv.mod(I:Inv X gW σ H s):Mod X.K X.mg X.base:=I.ok.mod
theorem Inv.kIn(I:Inv X gW σ H s):X.K.In s.heap:=I.ok.mod.kin.keeps I.bk
theorem Inv.lt(I:Inv X gW σ H s):X.env.locals<s.heap.objs.size:=let⟨_,hn,_⟩:=I.loc;hn.lt
theorem Inv.sz(I:Inv X gW σ H s):X.s₀.heap.objs.size<=s.heap.objs.size:=bL I.ok.above (db I.lt)
theorem Inv.nofs(I:Inv X gW σ H s){a:Addr}(h:s.heap.objs.size<=a):a∉X.fs:=fun b=>by
 obtain⟨_,o,f,_⟩:=I.ok.funs.mem b
 exact absurd (bp (bq f) (bL I.sz h)) (cO _)
theorem Inv.cne(I:Inv X gW σ H s):∀x c,X.env.cells.lookup x=some c ->c≠X.env.locals:=fun x c e z=>by
 obtain⟨v,o,h,g⟩:=I.cell x c e
 obtain⟨m,⟨w,A,l,f,b,_⟩,_⟩:=I.loc
 rw[z,f] at h;cases h;rw[b] at g;cases g
theorem Inv.funs(I:Inv X gW σ H s):s.heap.FunFrames X.base X.outer:=by
 have all:∀(l:List Env),(∀b∈frs l,b∈X.fs) ->X.s₀.heap.FunFrames X.base l ->s.heap.FunFrames X.base l:=by
  intro l
  induction l with
  |nil=>intro _ _;trivial
  |cons env r ih=>
   intro w C
   obtain⟨D,⟨L,o,g,E,A,B⟩,F⟩:=C
   have f:L∈X.fs:=w L (by unfold frs;rw[fv,g];exact bj)
   obtain⟨G,e⟩:=I.base.slot L o A (I.ok.frf L f) f fun z=>I.ok.exfs L z f
   exact⟨D,⟨L,_,g,E,e,B⟩,ih (fun b h=>w b (by unfold frs;rw[fv,g];exact bc _ h)) F⟩
 exact all X.outer (fun _ h=>h) I.ok.funs
theorem Inv.stack(I:Inv X gW σ H s):s.heap.FunFrames X.base X.stack:=by
 rcases I.ok.stk with e|⟨e,f⟩
 ·rw[e];exact I.funs
 ·rw[e]
  obtain⟨m,b,_⟩:=I.loc
  refine .cons (by rw[I.ok.kind];decide) f b ?_ I.funs
  exact Heap.get?_none_of_le (bL I.ok.bsz I.ok.above)
theorem Inv.stkSub(I:Inv X gW σ H s):∀b∈frs X.stack,b∈X.env.locals::X.fs:=fun b f=>by
 rcases I.ok.stk with e|⟨e,g⟩
 ·rw[e] at f;exact bc _ f
 ·rw[e] at f
  unfold frs at f
  rw[fv,g] at f
  exact f
theorem Inv.stkFree(I:Inv X gW σ H s):∀b∈frs X.stack,H b=none:=fun b f=>by
 rcases bw.mp (I.stkSub b f) with e|f
 ·rw[e];exact I.free
 ·obtain⟨_,o,g,_⟩:=I.ok.funs.mem f
  exact I.base.free b o g (I.ok.frf b f) fun z=>I.ok.exfs b z f
theorem Inv.step{g':Array GenState}{t':Nat}{d':Drawn}{ch:List Addr}(I:Inv X gW σ H s)
  (h:∀b∈ch,(b∈X.ex∨X.s₀.heap.objs.size<=b)/\ b≠X.env.locals/\ (∀x c,X.env.cells.lookup x=some c ->c≠b)/\ ∀p∈X.pn++gW,p.1≠b)
  (keep:∀b o,b≠X.env.locals ->b∉X.fs ->b∉ch ->s.heap.get? b=some o ->H b=none ->h'.get? b=some o)
  (D:∀b o,b≠X.env.locals ->b∈X.fs ->b∉ch ->s.heap.get? b=some o ->H b=none ->∃Q,h'.get? b=some {o with slots:=Q})(free:∀b o,b∉ch ->s.heap.get? b=some o ->H b=none ->H' b=none)
  (E:∀b o,b∉ch ->s.heap.get? b=some o ->∃N,h'.get? b=some N)
  (K:∀b xs,H b=some (.tup xs) ->H' b=some (.tup xs))(J:∀b o u,H b=some (.frz o u) ->H' b=some (.frz o u))(O:∀b ps,H b=some (.tbl ps) ->∃more,H' b=some (.tbl (ps++more)))
  (ns:∀m,s.heap.Ns X.env.locals m ->h'.Ns X.env.locals m)(R:HOk X.prog X.w H' h')(hg:AllBare g'):
  Inv X gW σ H' {s with heap:=h',gens:=g',drawn:=d',toks:=t'}:=by
 have M:∀b o,X.s₀.heap.get? b=some o ->b≠X.env.locals:=fun b o e=>bD (bp (bq e) I.ok.above)
 have C:∀b o,X.s₀.heap.get? b=some o ->b∉X.ex ->b∉ch:=fun b o e f F=>by
  rcases(h b F).1 with z|z
  ·exact f z
  ·exact absurd (bp (bq e) z) (cO _)
 have A:∀x c,X.env.cells.lookup x=some c ->∀v,s.heap.IsCell c v ->h'.IsCell c v:=fun x c e v ⟨o,G,S⟩=>by
  have g:c∉ch:=fun z=>(h c z).2.2.1 x c e rfl
  by_cases hc:c∈X.fs
  ·obtain⟨Q,q⟩:=D c o (I.cne x c e) hc g G (I.freeC x c e)
   exact⟨_,q,S⟩
  ·exact⟨o,keep c o (I.cne x c e) hc g G (I.freeC x c e),S⟩
 refine⟨I.ok,I.os,hg,⟨fun b o e n F f=>?_,fun b o e n F f=>?_,fun b o e n f=>?_,fun b o e f=>?_,fun b xs e=>K b xs (I.base.tups b xs e),fun b o xs e=>J b o xs (I.base.frzs b o xs e),fun b ps e=>?_⟩,?_,fun x c e=>?_,?_,fun x c e=>?_,fun p U=>?_,R,I.len⟩
 ·exact keep b o (M b o e) F (C b o e f) (I.base.keep b o e n F f) (I.base.free b o e n f)
 ·obtain⟨Q,B⟩:=I.base.slot b o e n F f
  obtain⟨P,L⟩:=D b _ (M b o e) F (C b o e f) B (I.base.free b o e n f)
  exact⟨P,L⟩
 ·obtain⟨N,B⟩:=I.base.there b o e f
  exact free b N (C b o e f) B (I.base.free b o e n f)
 ·obtain⟨N,B⟩:=I.base.there b o e f
  exact E b N (C b o e f) B
 ·obtain⟨m1,B⟩:=I.base.tbls b ps e
  obtain⟨Z,L⟩:=O b _ B
  exact⟨m1++Z,by rw[L,gm]⟩
 ·obtain⟨m,hn,Y⟩:=I.loc
  refine⟨m,ns m hn,fun i x v B L W=>?_⟩
  obtain⟨u,r,l⟩:=Y i x v B L W
  refine⟨u,r,?_⟩
  rcases l with l|⟨k,c,e,z⟩
  ·exact .inl l
  ·exact .inr ⟨k,c,e,A x c e _ z⟩
 ·obtain⟨v,z⟩:=I.cell x c e
  exact⟨v,A x c e v z⟩
 ·obtain⟨m,⟨o,_,_,G,_⟩,_⟩:=I.loc
  exact free _ o (fun z=>(h _ z).2.1 rfl) G I.free
 ·obtain⟨v,o,G,S⟩:=I.cell x c e
  exact free c o (fun z=>(h c z).2.2.1 x c e rfl) G (I.freeC x c e)
 ·obtain⟨e,n,ne,T,d⟩:=I.pin p U
  have g:p.1∉ch:=fun z=>(h p.1 z).2.2.2 p U rfl
  exact⟨keep p.1 p.2 ne T g e n,free p.1 p.2 g e n,ne,T,d⟩
theorem Inv.un{t':Nat}(I:Inv X gW σ H s)(u:Un X.fs [] H H' s.heap h')(h:HOk X.prog X.w H' h'):Inv X gW σ H' {s with heap:=h',toks:=t'}:=by
 obtain⟨m,⟨o,G,J,B,r⟩,_⟩:=id I.loc
 obtain⟨L,C⟩:=u.any B I.free (by simp)
 exact I.step (g':=s.gens) (d':=s.drawn) (ch:=[]) (fun _ z=>nomatch z) (fun b o _ g _ e n=>u.keep b o e n g (by simp)) (fun b o _ g _ e n=>u.slot b o e n g (by simp)) (fun b o _ e n=>u.free b o e n (by simp)) (fun b o _ e=>u.there b o e (by simp)) u.tups u.frzs u.tbls (fun K E=>by
  obtain⟨F,A,l,f,D⟩:=E
  rw[B] at f;cases f
  exact⟨_,A,l,C,D⟩) h I.bare
theorem Inv.call{g':Array GenState}{t':Nat}{d':Drawn}{ch:List Addr}(I:Inv X gW σ H s)(u:Un (frs X.stack) ch H H' s.heap h')(A:HOk X.prog X.w H' h')(J:AllBare g')
  (g:∀b∈ch,(b∈X.ex∨X.s₀.heap.objs.size<=b)/\ b≠X.env.locals/\ (∀x c,X.env.cells.lookup x=some c ->c≠b)/\ ∀p∈X.pn++gW,p.1≠b):
  Inv X gW σ H' {s with heap:=h',gens:=g',drawn:=d',toks:=t'}:=by
 obtain⟨m,⟨o,L,M,D,r⟩,_⟩:=id I.loc
 obtain⟨O,l⟩:=u.any D I.free fun z=>(g _ z).2.1 rfl
 exact I.step (ch:=ch) g (fun b o l E f e n=>u.keep b o e n (fun z=>(bw.mp (I.stkSub b z)).elim l E) f) (fun b o _ _ f e n=>u.any e n f) (fun b o f e n=>u.free b o e n f) (fun b o f e=>u.there b o e f) u.tups u.frzs u.tbls (fun N G=>by
  obtain⟨K,C,B,h,F⟩:=G
  rw[D] at h;cases h
  exact⟨_,C,B,l,F⟩) A J
theorem Inv.turned{t':Nat}{f:Addr}(I:Inv X gW σ H s)(k:∀b o,b≠f ->s.heap.get? b=some o ->h'.get? b=some o)(F:H f=none)(l:f≠X.env.locals)
  (h1:f∈X.ex∨X.s₀.heap.objs.size<=f)(G:∀x c,X.env.cells.lookup x=some c ->c≠f)(C:∀p∈X.pn++gW,p.1≠f):Inv X gW σ H {s with heap:=h',toks:=t'}:=by
 have h:∀b u,H b=some u ->b≠f:=fun b u e z=>by rw[z,F] at e;cases e
 refine I.step (g':=s.gens) (d':=s.drawn) (ch:=[f]) (fun b w=>?_) (fun b o _ _ g e _=>k b o (fun z=>g (by simp[z])) e) (fun b o _ _ g e _=>⟨o.slots,k b o (fun z=>g (by simp[z])) e⟩) (fun _ _ _ _ n=>n)
  (fun b o g e=>⟨o,k b o (fun z=>g (by simp[z])) e⟩) (fun _ _ e=>e) (fun _ _ _ e=>e) (fun b J e=>⟨#[],by rw[e];simp⟩) (fun m D=>?_) (fun b u e=>?_) I.bare
 ·have e:b=f:=by simpa using w
  subst e
  exact⟨h1,l,G,C⟩
 ·obtain⟨o,B,E,A,r⟩:=D
  exact⟨o,B,E,k _ o (Ne.symm l) A,r⟩
 ·refine(I.hok b u e).stay (fun c v g q=>k c v ?_ q) (fun _ q=>q) fun _ _ q=>q
  rcases g with z|z
  ·rw[z];exact h b u e
  ·exact h c _ z
theorem Inv.tok(I:Inv X gW σ H s)(t:Nat):Inv X gW σ H {s with toks:=t}:=I.un (h':=s.heap) (t':=t) Un.refl I.hok
theorem Inv.kept{t':Nat}(I:Inv X gW σ H s)(k:∀b u,s.heap.get? b=some u ->h'.get? b=some u):Inv X gW σ H {s with heap:=h',toks:=t'}:=I.un (Un.kept k) (I.hok.kept k)
theorem Inv.laid{a:Addr}{o:HO}{t':Nat}(I:Inv X gW σ H s)(k:∀b u,s.heap.get? b=some u ->h'.get? b=some u)(f:s.heap.objs.size<=a)(new:js X.prog X.w (upd H a o) h' a o):
  Inv X gW σ (upd H a o) {s with heap:=h',toks:=t'}:=I.un (Un.laid k f (I.hok.fresh f)) (I.hok.laid k f new)
theorem Inv.write{x e:Addr}{o:HO}{t':Nat}(I:Inv X gW σ H s)(g:Mut (H x))(h:e=x∨H e=some (.own x))(k:∀b u,b≠e ->s.heap.get? b=some u ->h'.get? b=some u)(f:∃u,h'.get? e=some u)
  (new:js X.prog X.w (upd H x o) h' x o):Inv X gW σ (upd H x o) {s with heap:=h',toks:=t'}:=I.un (Un.write g h k f) (I.hok.write g h k f new)
theorem Inv.pins_of{b:List (Addr × Obj)}(I:Inv X gW σ H s)(h:∀p∈b,s.heap.get? p.1=some p.2/\ H p.1=none/\ p.1≠X.env.locals/\ p.1∉X.fs/\ ∀v,p.2.data≠.cell v):Inv X b σ H s:=
 ⟨I.ok,I.os,I.bare,I.base,I.loc,I.cell,I.free,I.freeC,fun p f=>(bS.mp f).elim (fun z=>I.pin p (dD _ z)) (h p),I.hok,I.len⟩
theorem zH{N:List Str}(h:N.Nodup){i j:Nat}{x:Str}(a:N[i]? =some x)(b:N[j]? =some x):i=j:=by
 obtain⟨h1,f⟩:=aZ.mp a
 obtain⟨l,g⟩:=aZ.mp b
 exact(List.getElem_inj h).mp (f.trans g.symm)
theorem tP{M:Model}{A:Around}{E:Value ->Shared ->Prop}{i:Nat}{x:Str}{v:V}{u:Value}{Q:Unit ->Shared ->Prop}(I:Inv X gW σ H s)(hN:X.N.Nodup)(S:X.N[i]? =some x)(C:Loc X.env.scope x)(r:iB v u)
  (h:∀s',Inv X gW (σ.set i (some v)) H s' ->(∃a,Heap.SameBut a s.heap s'.heap/\ (a=X.env.locals∨X.env.cells.lookup x=some a)) ->Q () s')(hf:X.fn x=true∨X.env.scope.names.lookup x=some .local:=by first|exact .inl rfl|exact .inr rfl|assumption):wpAny M A (storeName X.env x u) Q E s:=by
 obtain⟨m,hn,hl⟩:=id I.loc
 have T:(X.env.scope.kind == .class || (X.env.scope.kind == .module && X.env.locals != X.env.globals))=false:=by rw[I.ok.kind];rfl
 have G:i<σ.length:=by rw[I.len];exact(aZ.mp S).1
 have cne:=I.cne
 have l:∀{a:Addr} {h':Heap},(∃o,s.heap.get? a=some o/\ H a=none) ->Heap.SameBut a s.heap h' ->HOk X.prog X.w H h':=fun {a h'} ha f b ob e=>by
  obtain⟨_,_,D⟩:=ha
  refine(I.hok b ob e).stay (fun c U B q=>(f.2 c ?_).trans q) (fun _ q=>q) fun _ _ q=>q
  rintro rfl
  rcases B with rfl|B
  ·rw[D] at e;cases e
  ·rw[D] at B;cases B
 rcases C with J|J
 ·refine wpAny_storeName_local J hn (fun h' a0 f=>?_) T
  obtain⟨oL,_,_,Z,_⟩:=id hn
  refine h _ ⟨I.ok,I.os,I.bare,⟨fun b o e n K C=>?_,fun b o e n K C=>?_,I.base.free,fun b o e C=>?_,I.base.tups,I.base.frzs,I.base.tbls⟩,⟨_,a0,fun j y v' g F Y=>?_⟩,fun y c e=>?_,I.free,I.freeC,fun p hp=>?_,l ⟨oL,Z,I.free⟩ f,by simpa using I.len⟩ ⟨_,f,.inl rfl⟩
  ·exact(f.2 b (bD (bp (bq e) I.ok.above))).trans (I.base.keep b o e n K C)
  ·obtain⟨sl,g⟩:=I.base.slot b o e n K C
   exact⟨sl,(f.2 b (bD (bp (bq e) I.ok.above))).trans g⟩
  ·obtain⟨o',g⟩:=I.base.there b o e C
   exact⟨o',(f.2 b (bD (bp (bq e) I.ok.above))).trans g⟩
  ·by_cases hj:j=i
   ·subst hj
    rw[S] at g;cases g
    rw[eW G] at F
    cases F
    exact⟨u,r,.inl ⟨J,by simp⟩⟩
   ·rw[fZ (Ne.symm hj)] at F
    obtain⟨u',r',q⟩:=hl j y v' g F Y
    refine⟨u',r',?_⟩
    rcases q with⟨k,e⟩|⟨k,c,e,z⟩
    ·refine .inl ⟨k,?_⟩
     have:y≠x:=fun e=>hj (zH hN g (e▸S))
     simp[this,e]
    ·exact .inr ⟨k,c,e,z.sameBut f (cne y c e)⟩
  ·obtain⟨U,z⟩:=I.cell y c e
   exact⟨U,z.sameBut f (cne y c e)⟩
  ·obtain⟨e,n,ne,nf,d⟩:=I.pin p hp
   exact⟨(f.2 p.1 ne).trans e,n,ne,nf,d⟩
 ·have L:X.fn x=true:=by
   rcases hf with z|z
   ·exact z
   ·rw[z] at J;cases J
  obtain⟨c,B⟩:=I.ok.has x (.inl J)
  obtain⟨U,z⟩:=I.cell x c B
  refine wpAny_storeName_cell I.ok.kind J B z (fun h' O f=>?_)
  obtain⟨oc,P,R⟩:=id z
  refine h {s with heap:=h'} ⟨I.ok,I.os,I.bare,⟨fun b o e n K C=>?_,fun b o e n K C=>?_,I.base.free,fun b o e C=>?_,I.base.tups,I.base.frzs,I.base.tbls⟩,⟨m,hn.sameBut f (Ne.symm (cne x c B)),fun j y v' g F Y=>?_⟩,fun y W e=>?_,I.free,I.freeC,fun p hp=>?_,l ⟨oc,P,I.freeC x c B⟩ f,by simpa using I.len⟩ ⟨c,f,.inr B⟩
  ·exact(f.2 b (bD (bp (bq e) (I.ok.cab x c L B)))).trans (I.base.keep b o e n K C)
  ·obtain⟨sl,g⟩:=I.base.slot b o e n K C
   exact⟨sl,(f.2 b (bD (bp (bq e) (I.ok.cab x c L B)))).trans g⟩
  ·obtain⟨o',g⟩:=I.base.there b o e C
   exact⟨o',(f.2 b (bD (bp (bq e) (I.ok.cab x c L B)))).trans g⟩
  ·by_cases hj:j=i
   ·subst hj
    rw[S] at g;cases g
    rw[eW G] at F
    cases F
    exact⟨u,r,.inr ⟨.inl J,c,B,O⟩⟩
   ·rw[fZ (Ne.symm hj)] at F
    obtain⟨u',r',q⟩:=hl j y v' g F Y
    refine⟨u',r',?_⟩
    rcases q with q|⟨k,W,e,z'⟩
    ·exact .inl q
    ·refine .inr ⟨k,W,e,z'.sameBut f ?_⟩
     rintro rfl
     exact hj (zH hN g (I.ok.inj _ _ _ e B▸S))
  ·by_cases hcc:W=c
   ·subst hcc;exact⟨_,O⟩
   ·obtain⟨w2,z2⟩:=I.cell y W e
    exact⟨w2,z2.sameBut f hcc⟩
  ·obtain⟨e,n,ne,nf,d⟩:=I.pin p hp
   refine⟨(f.2 p.1 ?_).trans e,n,ne,nf,d⟩
   intro q
   rw[q,P] at e
   have q':oc=p.2:=Option.some.inj e
   exact d U (by rw[←q'];exact R)
theorem rA{M:Model}{A:Around}{E:Value ->Shared ->Prop}{i:Nat}{x:Str}{v:V}{u:Value}{Q:Unit ->Shared ->Prop}(I:Inv X gW σ H s)(o:X.N.Nodup)(w:X.N[i]? =some x)(l:Loc X.env.scope x)(r:iB v u)
  (h:∀b,Inv X gW (σ.set i (some v)) H b ->Q () b)(f:X.fn x=true∨X.env.scope.names.lookup x=some .local:=by first|exact .inl rfl|exact .inr rfl|assumption):wpAny M A (storeName X.env x u) Q E s:=
 tP I o w l r (fun b g _=>h b g) f
theorem Inv.call'{f:Shared}{ch:List Addr}(I:Inv X gW σ H s)(l:f.os=s.os)(u:Un (frs X.stack) ch H H' s.heap f.heap)(h:HOk X.prog X.w H' f.heap)(z:AllBare f.gens)
  (g:∀b∈ch,(b∈X.ex∨X.s₀.heap.objs.size<=b)/\ b≠X.env.locals/\ (∀x c,X.env.cells.lookup x=some c ->c≠b)/\ ∀p∈X.pn++gW,p.1≠b):Inv X gW σ H' f:=by
 obtain⟨h',g',d',t',o⟩:=f
 have e:o=s.os:=l
 subst e
 exact I.call (g':=g') (t':=t') (d':=d') u h z g
end
abbrev XK:=Value ->Option Addr ->Hp ->Prop
abbrev St:=List (Option V)
abbrev VK:=V ->Hp ->Prop
abbrev TE:=St ->Hp ->VK ->Prop
abbrev TT:=St ->Hp ->(Bool ->Hp ->Prop) ->Prop
abbrev TA:=St ->Hp ->(List V ->Hp ->Prop) ->Prop
set_option genInjectivity false in
structure pk where
 nx:St ->Hp ->Prop
 rt:VK
 bk:St ->Hp ->Prop:=fun _ _=>False
 ct:St ->Hp ->Prop:=fun _ _=>False
abbrev TS:=pk ->St ->Hp ->Prop
def EP(X:Cx)(gW:List (Addr × Obj))(σ:St)(Q:VK)(u:Value)(s':Shared):Prop:=∃v H',Inv X gW σ H' s'/\ iB v u/\ Q v H'
def TP(X:Cx)(gW:List (Addr × Obj))(σ:St)(Q:Bool ->Hp ->Prop)(b:Bool)(s':Shared):Prop:=∃H',Inv X gW σ H' s'/\ Q b H'
def AP(X:Cx)(gW:List (Addr × Obj))(σ:St)(Q:List V ->Hp ->Prop)(us:List Value)(s':Shared):Prop:=∃vs H',Inv X gW σ H' s'/\ iz vs us/\ Q vs H'
def SP(X:Cx)(gW:List (Addr × Obj))(D:pk)(f:Flow)(s':Shared):Prop:=
 match f with
 | .next=>∃σ' H',Inv X gW σ' H' s'/\ D.nx σ' H'
 | .brk=>∃σ' H',Inv X gW σ' H' s'/\ D.bk σ' H'
 | .cont=>∃σ' H',Inv X gW σ' H' s'/\ D.ct σ' H'
 | .ret u=>∃v σ' H',Inv X gW σ' H' s'/\ iB v u/\ D.rt v H'
def PE(X:Cx)(e:Expr)(t:TE):Prop:=
 ∀(gW:List (Addr × Obj)) (s:Shared) (σ:St) (H:Hp) (Q:VK),Inv X gW σ H s ->t σ H Q ->wpAny (model X.prog X.w) X.A (eval e X.env) (EP X gW σ Q) X.xe s
def PT(X:Cx)(e:Expr)(t:TT):Prop:=
 ∀(gW:List (Addr × Obj)) (s:Shared) (σ:St) (H:Hp) (Q:Bool ->Hp ->Prop),Inv X gW σ H s ->t σ H Q ->wpAny (model X.prog X.w) X.A (isTrue e X.env (eval e X.env)) (TP X gW σ Q) X.xe s
def PW(X:Cx)(e:Expr)(t:TT):Prop:=
 ∀(whole:Sem Value) (gW:List (Addr × Obj)) (s:Shared) (σ:St) (H:Hp) (Q:Bool ->Hp ->Prop),Inv X gW σ H s ->t σ H Q ->wpAny (model X.prog X.w) X.A (isTrue e X.env whole) (TP X gW σ Q) X.xe s
theorem PW.pt{X:Cx}{e:Expr}{t:TT}(h:PW X e t):PT X e t:=h _
def PA(X:Cx)(es:List Expr)(t:TA):Prop:=
 ∀(pos:Pos) (gW:List (Addr × Obj)) (s:Shared) (σ:St) (H:Hp) (Q:List V ->Hp ->Prop),Inv X gW σ H s ->t σ H Q ->wpAny (model X.prog X.w) X.A (spliced (backTo pos (starEach es X.env))) (AP X gW σ Q) X.xe s
def PS(X:Cx)(st:Stmt)(t:TS):Prop:=
 ∀(gW:List (Addr × Obj)) (s:Shared) (σ:St) (H:Hp) (D:pk),Inv X gW σ H s ->t D σ H ->wpAny (model X.prog X.w) X.A (exec st X.env) (SP X gW D) X.xe s
def PSs(X:Cx)(st:List Stmt)(t:TS):Prop:=
 ∀(gW:List (Addr × Obj)) (s:Shared) (σ:St) (H:Hp) (D:pk),Inv X gW σ H s ->t D σ H ->wpAny (model X.prog X.w) X.A (execs st X.env) (SP X gW D) X.xe s
theorem thn{b:Type}{t:Sem b}{Q f:b ->Shared ->Prop}{M:Model}{A:Around}{E:Value ->Shared ->Prop}{s:Shared}(h:wpAny M A t Q E s)(g:∀a s,Q a s ->f a s):wpAny M A t f E s:=wpAny_mono h g fun _ _ x=>x
end
section
variable {X:Cx}
def Hq(i:Nat):TE:=fun σ H Q=>∃v,σ[i]? =some (some v)/\ Q v H
def tC(v:V):TE:=fun _ H Q=>Q v H
theorem JT{i:Nat}{x:Str}{pos:Pos}(B:X.N[i]? =some x)(hv:Vis X.env.scope x)(o:(x == ("__debug__":Str))=false:=by decide)(g:(x == ("__classdict__":Str))=false:=by decide):PE X (.Name x pos) (Hq i):=by
 intro E s A H Q I h
 obtain⟨v,e,h⟩:=h
 obtain⟨m,D,C⟩:=I.loc
 obtain⟨u,r,l⟩:=C i x v B e hv
 have fin:EP X E A Q u s:=⟨v,H,I,r,h⟩
 rcases l with⟨f,z⟩|⟨f,c,w,b⟩
 ·exact wpAny_Name (wpAny_loadName_local I.ok.kind f D z fin) o
 ·rcases f with f|f
  ·exact wpAny_Name (wpAny_loadName_cell I.ok.kind f w b fin) o
  ·exact wpAny_Name (wpAny_loadName_free I.ok.kind f w b fin g) o
theorem hU{i j pos}:PE X (.Constant (.int i) j pos) (tC (.int i)):=fun _ _ _ H _ I h=>wpAny_Constant_int ⟨.int i,H,I.tok _,⟨_,rfl⟩,h⟩
theorem oy{b j pos}:PE X (.Constant (.bool b) j pos) (tC (.bl b)):=fun _ _ _ H _ I h=>Constant_bool ⟨.bl b,H,I,rfl,h⟩
theorem Kv{x j pos}:PE X (.Constant (.str x) j pos) (tC (.str x)):=fun _ _ _ H _ I h=>Calls.Constant_str ⟨.str x,H,I.tok _,⟨_,rfl⟩,h⟩
def Gl(X:Cx)(x:Str):Prop:=X.env.kindOf x=some .globalImplicit
theorem tX{E:Value ->Shared ->Prop}{f:List (Addr × Obj)}{s:Shared}{σ:St}{H:Hp}{x:Str}{u:Value}{pos:Pos}{Q:Value ->Shared ->Prop}(I:Inv X f σ H s)(g:Gl X x)(l:X.mg x=some u)(h:Q u s)
  (b:(x == ("__debug__":Str))=false:=by decide):wpAny (model X.prog X.w) X.A (eval (.Name x pos) X.env) Q E s:=
 Calls.Name_function_global I.ok.kind g (Calls.loadGlobal_global (by rw[I.ok.glob];exact I.mod.glob.keeps I.bk) l h) b
theorem mj{E:Value ->Shared ->Prop}{o:List (Addr × Obj)}{s:Shared}{σ:St}{H:Hp}{x:Str}{u:Value}{pos:Pos}{Q:Value ->Shared ->Prop}(I:Inv X o σ H s)(z:Gl X x)(b:X.mg x=none)(hv:bootBuiltins x=some u)(h:Q u s)
  (g:x≠"__name__":=by decide)(f:(x == ("__debug__":Str))=false:=by decide):wpAny (model X.prog X.w) X.A (eval (.Name x pos) X.env) Q E s:=by
 obtain⟨B,h1,l⟩:=I.mod.blt
 exact Calls.Name_function_global I.ok.kind z (Calls.loadGlobal_builtin (by rw[I.ok.glob];exact I.mod.glob.keeps I.bk) b (by rw[I.ok.blt];exact h1.keeps I.bk) ((l x g).trans hv) h) f
theorem Jo{x:Str}{v:V}{u:Value}{pos:Pos}(f:Gl X x)(g:X.mg x=some u)(r:iB v u)(b:(x == ("__debug__":Str))=false:=by decide):PE X (.Name x pos) (tC v):=
 fun _ _ _ H _ I h=>tX I f g ⟨v,H,I,r,h⟩ b
theorem wQ{x:Str}{v:V}{u:Value}{pos:Pos}(g:Gl X x)(l:X.mg x=none)(hv:bootBuiltins x=some u)(r:iB v u)(f:x≠"__name__":=by decide)(b:(x == ("__debug__":Str))=false:=by decide):PE X (.Name x pos) (tC v):=
 fun _ _ _ H _ I h=>mj I g l hv ⟨v,H,I,r,h⟩ f b
variable {a b:Expr} {ta tb:TE} {pos:Pos}
def tB(t:TE):TT:=fun σ H Q=>t σ H fun x H1=>∃c,x=.bl c/\ Q c H1
theorem JS{e:Expr}{t:TE}(h:PE X e t)(g:∀f,isTrue e X.env f=(do let v ←f;standAt e.pos;holding [v] (truthy v)):=by intro _;rfl):PT X e (tB t):=by
 intro w s l H Q I o
 refine isTrue_plain (thn (h w s l H _ I o) fun v s1 ⟨x,z,C,B,A⟩=>?_) (g _)
 obtain⟨d,rfl,q⟩:=A
 cases B
 exact wpAny_truthy_bool ⟨z,C,q⟩
variable {tA tB':TT} {rest:List Expr}
def NI(t u:TT):TT:=fun σ H Q=>t σ H fun c H1=>if c=true then u σ H1 Q else Q false H1
def tOr(t u:TT):TT:=fun σ H Q=>t σ H fun c H1=>if c=true then Q true H1 else u σ H1 Q
def NG(t:TT):TT:=fun σ H Q=>t σ H fun c H1=>Q (!c) H1
theorem jU(ha:PT X a tA):PW X (.BoolOp .And [a] pos) tA:=by
 intro l f s g H Q I h
 refine isTrue_and (thn (ha f s g H Q I h) fun c s1 e=>?_)
 cases c with
 |true=>exact isTrue_and_nil e
 |false=>exact e
theorem ml(ha:PT X a tA):PW X (.BoolOp .Or [a] pos) tA:=by
 intro l f s g H Q I h
 refine isTrue_or (thn (ha f s g H Q I h) fun c s1 e=>?_)
 cases c with
 |false=>exact isTrue_or_nil e
 |true=>exact e
theorem kF(ha:PT X a tA)(A:PW X (.BoolOp .And (b::rest) pos) tB'):PW X (.BoolOp .And (a::b::rest) pos) (NI tA tB'):=by
 intro z f s w H Q I h
 refine isTrue_and (thn (ha f s w H _ I h) fun c s1 ⟨g,o,l⟩=>?_)
 cases c with
 |true=>exact A z f s1 w g Q o l
 |false=>exact⟨g,o,l⟩
theorem mV(ha:PT X a tA)(A:PW X (.BoolOp .Or (b::rest) pos) tB'):PW X (.BoolOp .Or (a::b::rest) pos) (tOr tA tB'):=by
 intro z f s w H Q I h
 refine isTrue_or (thn (ha f s w H _ I h) fun c s1 ⟨g,o,l⟩=>?_)
 cases c with
 |true=>exact⟨g,o,l⟩
 |false=>exact A z f s1 w g Q o l
theorem nh(ha:PT X a tA):PT X (.UnaryOp .Not a pos) (NG tA):=by
 intro f s l H Q I h
 exact isTrue_not (ha f s l H (fun c g=>Q (!c) g) I h)
def Cq(ta tb:TE):TE:=fun σ H Q=>ta σ H fun x H1=>∃c,x=.bl c/\ if c=true then tb σ H1 Q else Q (.bl false) H1
def FR(ta tb:TE):TE:=fun σ H Q=>ta σ H fun x H1=>∃c,x=.bl c/\ if c=true then Q (.bl true) H1 else tb σ H1 Q
def CF(ta:TE):TE:=fun σ H Q=>ta σ H fun x H1=>∃c,x=.bl c/\ Q (.bl (!c)) H1
theorem Ak{op}{t:TE}(h:PE X a t):PE X (.BoolOp op [a] pos) t:=fun g s l H Q I f=>BoolOp_one (h g s l H Q I f)
theorem Lc(ha:PE X a ta)(z:PE X (.BoolOp .And (b::rest) pos) tb):PE X (.BoolOp .And (a::b::rest) pos) (Cq ta tb):=by
 intro g s w H Q I h
 refine BoolOp_and (thn (ha g s w H _ I h) fun v s1 ⟨x,o,l,A,f⟩=>?_)
 obtain⟨c,rfl,f⟩:=f
 cases A
 refine wpAny_truthy_bool ?_
 cases c with
 |true=>exact z g s1 w o Q l f
 |false=>exact⟨.bl false,o,l,rfl,f⟩
theorem Mf(ha:PE X a ta)(z:PE X (.BoolOp .Or (b::rest) pos) tb):PE X (.BoolOp .Or (a::b::rest) pos) (FR ta tb):=by
 intro g s w H Q I h
 refine BoolOp_or (thn (ha g s w H _ I h) fun v s1 ⟨x,o,l,A,f⟩=>?_)
 obtain⟨c,rfl,f⟩:=f
 cases A
 refine wpAny_truthy_bool ?_
 cases c with
 |false=>exact z g s1 w o Q l f
 |true=>exact⟨.bl true,o,l,rfl,f⟩
theorem Kp(ha:PE X a ta):PE X (.UnaryOp .Not a pos) (CF ta):=by
 intro g s z H Q I h
 refine UnaryOp_ (thn (ha g s z H _ I h) fun v s1 ⟨x,o,l,w,f⟩=>?_)
 obtain⟨c,rfl,f⟩:=f
 cases w
 exact not_of (wpAny_truthy_bool ⟨.bl (!c),o,l,rfl,f⟩)
def tIf(t:TT)(ta tb:TE):TE:=fun σ H Q=>t σ H fun c H1=>if c=true then ta σ H1 Q else tb σ H1 Q
theorem FK{c:Expr}(A:PT X c tA)(ha:PE X a ta)(z:PE X b tb):PE X (.IfExp c a b pos) (tIf tA ta tb):=by
 intro f s g H Q I h
 refine wpAny_IfExp (thn (A f s g H _ I h) fun d s1 ⟨l,w,o⟩=>?_)
 cases d with
 |true=>exact ha f s1 g l Q w o
 |false=>exact z f s1 g l Q w o
end
def SqL(K:aW)(H:Hp)(a:Addr)(xs:List V):Prop:=
 Rd H a (.lst xs)∨
  ∃(o:Obj) (its:Array Value) (n:Nat),K.lookup a=some o/\ o.cls=.type "list"/\ o.dict=none/\ o.data=.seq its n/\ its.size<=sizeLine/\ iz xs its.toList
def SqT(K:aW)(H:Hp)(a:Addr)(xs:List V):Prop:=
 Rd H a (.tup xs)∨
  ∃(o:Obj) (its:Array Value) (n:Nat),K.lookup a=some o/\ o.cls=.type "tuple"/\ o.data=.seq its n/\ its.size<=sizeLine/\ iz xs its.toList
def NT:Value ->Option V
 | .none=>some .non
 | .bool b=>some (.bl b)
 | .int i _=>some (.int i)
 | .str x _=>some (.str x)
 | .bytes b _=>some (.byt b)
 | .float b _=>some (.flt b)
 | .ref a=>some (.ref a)
 | .type n=>some (.ty n)
 |_=>none
theorem iB.abs{x:V}{u:Value}(r:iB x u):NT u=some x:=by
 cases x with
 |non=>cases r;rfl
 |bl _=>cases r;rfl
 |int _=>obtain⟨t,rfl⟩:=r;rfl
 |str _=>obtain⟨t,rfl⟩:=r;rfl
 |byt _=>obtain⟨t,rfl⟩:=r;rfl
 |flt _=>obtain⟨t,rfl⟩:=r;rfl
 |ref _=>cases r;rfl
 |ty _=>cases r;rfl
theorem iB.inj{x y:V}{u:Value}(r:iB x u)(q:iB y u):x=y:=Option.some.inj (r.abs.symm.trans q.abs)
theorem iz.inj:∀{xs ys:List V} {us:List Value},iz xs us ->iz ys us ->xs=ys
 |_,_,_,.nil,.nil=>rfl
 |_,_,_,.cons r t,.cons r' t'=>by rw[r.inj r',iz.inj t t']
section
variable {X:Cx} {gW:List (Addr × Obj)} {σ:St} {H:Hp} {s:Shared} {a:Addr} {xs ys:List V}
theorem SqL.of{K:aW}(h:H a=some (.lst xs)):SqL K H a xs:=.inl (.inl h)
theorem SqT.of{K:aW}(h:H a=some (.tup xs)):SqT K H a xs:=.inl (.inl h)
theorem Inv.list(I:Inv X gW σ H s)(h:SqL X.K H a xs):∃b:List Value,iz xs b/\ PlainL s.heap a b.toArray/\ xs.length<=sizeLine:=by
 rcases h with h|⟨o,b,n,g,w,f,l,A,r⟩
 ·obtain⟨z,b,n,r,e⟩:=h.ok I.hok
  exact⟨b,r,⟨_,n,e,rfl,rfl,rfl⟩,z⟩
 ·refine⟨b.toList,r,⟨o,n,I.kIn a o g,w,f,by simpa using l⟩,?_⟩
  have e:=r.length
  simp only[bY] at e
  omega
theorem Inv.tuple(I:Inv X gW σ H s)(h:SqT X.K H a xs):∃b:List Value,iz xs b/\ IsTup s.heap a b.toArray/\ xs.length<=sizeLine:=by
 rcases h with h|⟨o,b,n,f,l,g,w,r⟩
 ·obtain⟨z,b,r,p⟩:=h.ok I.hok
  exact⟨b,r,p,z⟩
 ·refine⟨b.toList,r,⟨o,I.kIn a o f,l,n,by simpa using g⟩,?_⟩
  have e:=r.length
  simp only[bY] at e
  omega
theorem Inv.list_inj(I:Inv X gW σ H s)(h:SqL X.K H a xs)(h':SqL X.K H a ys):xs=ys:=by
 obtain⟨f,r,⟨o,n,e,_,_,d⟩,_⟩:=I.list h
 obtain⟨b,w,⟨A,z,l,_,_,g⟩,_⟩:=I.list h'
 rw[e] at l;cases l
 rw[d] at g
 injection g with d1 _
 have:f=b:=by simpa using congrArg gO d1
 subst this
 exact r.inj w
theorem Inv.tuple_inj(I:Inv X gW σ H s)(h:SqT X.K H a xs)(h':SqT X.K H a ys):xs=ys:=by
 obtain⟨f,r,⟨o,e,_,n,d⟩,_⟩:=I.tuple h
 obtain⟨b,w,⟨A,l,_,z,g⟩,_⟩:=I.tuple h'
 rw[e] at l;cases l
 rw[d] at g
 injection g with d1 _
 have:f=b:=by simpa using congrArg gO d1
 subst this
 exact r.inj w
end
section
variable {X:Cx} {gW:List (Addr × Obj)} {σ:St} {H:Hp} {s:Shared} {E:Value ->Shared ->Prop}
end
section
variable {X:Cx} {st:Stmt} {rest:List Stmt} {t u:TS} {e:Expr} {te:TE} {pos:Pos}
def yu:TS:=fun D σ H=>D.nx σ H
def GP(t u:TS):TS:=fun D σ H=>t {D with nx:=u D} σ H
theorem il:PSs X [] yu:=fun _ _ b H _ I h=>wpAny_execs_nil ⟨b,H,I,h⟩
theorem gZ(h1:PS X st t)(w:PSs X rest u):PSs X (st::rest) (GP t u):=by
 intro g s z H D I h
 refine wpAny_execs_cons (thn (h1 g s z H {D with nx:=u D} I h) fun f s1 q=>?_)
 cases f with
 |next=>
  obtain⟨b,l,o,q⟩:=q
  exact w g s1 b l D o q
 |ret v=>exact q
 |brk=>exact q
 |cont=>exact q
theorem hV(h1:PS X st t):PSs X [st] t:=by
 intro b s g H D I h
 refine wpAny_execs_cons (thn (h1 b s g H D I h) fun f s1 q=>?_)
 cases f with
 |next=>exact wpAny_execs_nil q
 |ret v=>exact q
 |brk=>exact q
 |cont=>exact q
theorem Inv.quiet{b:List (Addr × Obj)}{σ:St}{H:Hp}{s:Shared}(I:Inv X b σ H s):interactive X.env=false:=by simp[interactive,I.ok.kind]
def MQ(te:TE):TS:=fun D σ H=>te σ H fun _ H1=>D.nx σ H1
theorem iS(o:PE X e te)(f:swapsWith e none pos.line X.env=pure false:=by rfl):PS X (.Expr e pos) (MQ te):=by
 intro g s b H D I h
 exact wpAny_Expr_any (thn (o g s b H _ I h) fun v s1 ⟨x,w,l,A,z⟩=>⟨b,w,l,z⟩) I.quiet f
def Nq(te:TE):TS:=fun D σ H=>te σ H D.rt
theorem ig(l:PE X e te):PS X (.Return (some e) pos) (Nq te):=by
 intro f s b H D I h
 exact wpAny_Return_some (thn (l f s b H _ I h) fun v s1 ⟨x,o,g,z,w⟩=>⟨x,b,o,g,z,w⟩)
def nH(c:TT)(t u:TS):TS:=fun D σ H=>c σ H fun b H1=>if b=true then t D σ H1 else u D σ H1
theorem iw{c:Expr}{a b:List Stmt}{tc:TT}(A:PT X c tc)(ha:PSs X a t)(z:PSs X b u):PS X (.If c a b pos) (nH tc t u):=by
 intro g s f H D I h
 refine wpAny_If (thn (A g s f H _ I h) fun d s1 ⟨l,w,o⟩=>?_)
 cases d with
 |true=>exact ha g s1 f l D w o
 |false=>exact z g s1 f l D w o
end
abbrev TG:=V ->St ->Hp ->(St ->Hp ->Prop) ->Prop
abbrev TGs:=List V ->St ->Hp ->(St ->Hp ->Prop) ->Prop
def PG(X:Cx)(target:Expr)(t:TG):Prop:=
 ∀(gW:List (Addr × Obj)) (s:Shared) (σ:St) (H:Hp) (v:V) (u:Value) (Q:St ->Hp ->Prop),Inv X gW σ H s ->iB v u ->t v σ H Q ->
  wpAny (model X.prog X.w) X.A (assign target X.env u) (fun _ s'=>∃σ' H',Inv X gW σ' H' s'/\ Q σ' H') X.xe s
def PGs(X:Cx)(ts:List Expr)(t:TGs):Prop:=
 ∀(gW:List (Addr × Obj)) (s:Shared) (σ:St) (H:Hp) (vs:List V) (us:List Value) (Q:St ->Hp ->Prop),Inv X gW σ H s ->iz vs us ->t vs σ H Q ->
  wpAny (model X.prog X.w) X.A (assignInOrder ((assignEach ts X.env).map (·.2)) us) (fun _ s'=>∃σ' H',Inv X gW σ' H' s'/\ Q σ' H') X.xe s
abbrev Gc:=V ->V ->V ->Hp ->(Hp ->Prop) ->Prop
def GL(X:Cx)(t:Gc):Prop:=
 ∀(gW:List (Addr × Obj)) (s:Shared) (σ:St) (H:Hp) (o i v:V) (ov iv u:Value) (Q:Hp ->Prop),Inv X gW σ H s ->iB o ov ->iB i iv ->iB v u ->t o i v H Q ->
  wpAny (model X.prog X.w) X.A (setItem ov iv u) (fun _ s'=>∃H',Inv X gW σ H' s'/\ Q H') X.xe s
section
variable {X:Cx} {pos:Pos}
def kf(i:Nat):TG:=fun v σ H Q=>Q (σ.set i (some v)) H
theorem iW{i:Nat}{x:Str}(l:X.N.Nodup)(g:X.N[i]? =some x)(b:Loc X.env.scope x)(f:X.fn x=true∨X.env.scope.names.lookup x=some .local:=by first|exact .inl rfl|exact .inr rfl|assumption):PG X (.Name x pos) (kf i):=by
 intro z s A H v u Q I r h
 exact wpAny_assign_Name (rA I l g b r (fun w o=>⟨_,H,o,h⟩) f)
def GT:TGs:=fun vs σ H Q=>vs=[]/\ Q σ H
def BU(t:TG)(u:TGs):TGs:=fun vs σ H Q=>∃v r,vs=v::r/\ t v σ H fun σ' H'=>u r σ' H' Q
theorem JB:PGs X [] GT:=by
 intro f s b H l g Q I r h
 obtain⟨e,h⟩:=h
 subst e
 cases r
 exact assignInOrder_nil ⟨b,H,I,h⟩
theorem Hn{e:Expr}{b:List Expr}{t:TG}{u:TGs}(h1:PG X e t)(z:PGs X b u)
  (l:(assignEach (e::b) X.env).map (·.2)=assign e X.env::(assignEach b X.env).map (·.2):=by rfl):PGs X (e::b) (BU t u):=by
 intro g s o H E D Q I r h
 obtain⟨v,F,w,h⟩:=h
 subst w
 cases r with
 |cons r rr=>
  rw[l]
  refine assignInOrder_cons (thn (h1 g s o H _ _ _ I r h) fun _ s1 ⟨f,A,C,B⟩=>?_)
  exact z g s1 f A _ _ Q C rr B
def GO(K:aW)(n:Nat)(t:TGs):TG:=fun v σ H Q=>∃a xs,v=.ref a/\ SqT K H a xs/\ xs.length=n/\ t xs σ H Q
theorem Lz{f:List Expr}{k:Nat}{t:TGs}{n:Nat}(N:X.calm=true)(h:PGs X f t)
  (L:(assignEach f X.env).length=n:=by rfl)(l:(assignEach f X.env).findIdx? (·.1)=none:=by rfl):PG X (.Tuple f k pos) (GO X.K n t):=by
 intro A s z H v u Q I r g
 obtain⟨a,C,M,F,J,g⟩:=g
 subst M
 cases r
 obtain⟨E,w,D,P⟩:=I.tuple F
 refine assign_Tuple_tuple (I.ok.hd N) D (by simp[L, ←J,w.length]) l fun B G=>?_
 have O:Inv X A z H {s with heap:=B}:=I.kept (t':=s.toks) fun b o e=>G b o (bD (bq e)) e
 exact h A _ z H C _ Q O (by simpa using w) g
def NS(to ti:TE)(t:Gc):TG:=fun v σ H Q=>to σ H fun o H1=>ti σ H1 fun i H2=>t o i v H2 fun H3=>Q σ H3
theorem yE{o i:Expr}{w l:TE}{t:Gc}(B:PE X o w)(E:PE X i l)(J:GL X t)
  (ha:∀v,assign (.Subscript o i pos) X.env v=(do
   let ov ←holding [v] (eval o X.env)
   let b ←holding [v,ov] (eval i X.env)
   standAt pos
   holding [v,ov,b] (setItem ov b v)
   release [v,ov,b] []):=by intro _;rfl):PG X (.Subscript o i pos) (NS w l t):=by
 intro g s f H v u Q I r h
 rw[ha]
 refine wpAny_bind (wpAny_holding (thn (B g s f H _ I h) fun ov s1 ⟨x,M,L,O,N⟩=>?_))
 refine wpAny_bind (wpAny_holding (thn (E g s1 f M _ L N) fun b C ⟨y,A,D,z,F⟩=>?_))
 refine wpAny_bind (wpAny_standAt (wpAny_bind (wpAny_holding (thn (J g C f A x y v ov b u _ D O z r F) fun _ R ⟨P,K,G⟩=>?_))))
 exact wpAny_release ⟨f,P,K,G⟩
def Ct(te:TE)(g:TG):TS:=fun D σ H=>te σ H fun x H1=>g x σ H1 D.nx
theorem nX{b e:Expr}{f:TE}{g:TG}(A:PE X e f)(z:PG X b g)(w:swapsWithSole [b] e pos.line X.env=pure false:=by rfl)(B:swappedStores [b] e X.env=pure none:=by rfl)
  (h1:(assignEach [b] X.env).map (·.2)=[assign b X.env]:=by rfl):PS X (.Assign [b] e pos) (Ct f g):=by
 intro o s l H D I h
 refine wpAny_Assign_stores (thn (A o s l H _ I h) fun v s1 ⟨x,C,G,F,E⟩=>?_) w B
 rw[h1]
 exact thn (z o s1 l C x v _ G F E) fun _ J q=>q
theorem iq{i:Nat}{x:Str}{e:Expr}{f:TE}{b:Pos}(z:X.N.Nodup)(C:X.N[i]? =some x)(A:Loc X.env.scope x)(o:PE X e f)(g:swapsWith e (some (.Name x b)) pos.line X.env=pure false:=by rfl)(l:X.fn x=true∨X.env.scope.names.lookup x=some .local:=by first|exact .inl rfl|exact .inr rfl|assumption):
  PS X (.Assign [.Name x b] e pos) (Ct f (kf i)):=by
 intro E s w H D I h
 refine wpAny_Assign_Name (thn (o E s w H _ I h) fun v s1 ⟨y,F,K,J,G⟩=>?_) g
 exact rA K z C A J (fun L B=>⟨_,F,B,G⟩) l
def FH(i j:Nat)(ta:TA):TS:=fun D σ H=>ta σ H fun vs H1=>∃v w,vs=[v,w]/\ D.nx ((σ.set i (some v)).set j (some w)) H1
theorem KB{i j:Nat}{x y:Str}{a b:Expr}{G:TA}{z F pt:Pos}{kt k2 pt2}(hc:X.calm=true)(J:X.N.Nodup)(Z:X.N[i]? =some x)(S:X.N[j]? =some y)(C:i≠j)
  (K:X.env.scope.names.lookup x=some .local)(P:X.env.scope.names.lookup y=some .local)(ha:PA X [a,b] G)
  (U:swappedStores [.Tuple [.Name x z,.Name y F] kt pt] (.Tuple [a,b] k2 pt2) X.env=pure (some [x,y]))
  (hs:swapsWithSole [.Tuple [.Name x z,.Name y F] kt pt] (.Tuple [a,b] k2 pt2) pos.line X.env=pure false:=by rfl):
  PS X (.Assign [.Tuple [.Name x z,.Name y F] kt pt] (.Tuple [a,b] k2 pt2) pos) (FH i j G):=by
 intro L s O H D I h
 rw[exec_Assign_arm]
 refine wpAny_bind (wpAny_standAt ?_)
 rw[hs]
 refine wpAny_bind (wpAny_pure ?_)
 rw[if_neg (by decide)]
 refine wpAny_bind (Tuple_ (thn (ha _ L s O H _ I h) fun T s1 ⟨vs,Q,I1,r1,E⟩=>?_))
 obtain⟨v,w,W,E⟩:=E
 subst W
 obtain⟨g,f,rfl,R,l⟩:∃g f,T=[g,f]/\ iB v g/\ iB w f:=by
  cases r1 with
  | cons p q=>
   cases q with
   |cons p' q'=>
    cases q'
    exact⟨_,_,rfl,p,p'⟩
 refine wpAny_newObj_type ?_ (by show 2<=sizeLine;decide)
 have Y:Inv X L O Q {s1 with heap:=s1.heap.push {cls:=.type "tuple",data:=.seq [g,f].toArray}}:=I1.kept (t':=s1.toks) fun b o e=>aY _ e
 rw[U]
 refine wpAny_bind (wpAny_pure ?_)
 show wpAny (model X.prog X.w) X.A (do rule "assign.swapped-stores";let items ←unpackItems (.ref s1.heap.objs.size) 2 none;assignInOrder [fun v=>bindName X.env y v,fun v=>bindName X.env x v] items.reverse;pure Flow.next) _ _ _
 refine wpAny_bind (wpAny_rule (wpAny_bind (unpackItems_tuple (items:= #[g,f]) (I.ok.hd hc) (IsTup.new s1.heap _) fun h' B=>?_)))
 have I3:=Y.kept (h':=h') (t':=s1.toks) fun b o e=>B b o (bD (bq e)) e
 show wpAny _ _ (assignInOrder [fun v=>bindName X.env y v,fun v=>bindName X.env x v] [f,g]>>=fun _=>pure Flow.next) _ _ _
 refine wpAny_bind (assignInOrder_cons (wpAny_bindName (rA I3 J S (.inl P) l (fun s2 I4=>?_) (.inr P))))
 refine assignInOrder_cons (wpAny_bindName (rA I4 J Z (.inl K) R (fun s3 M=>assignInOrder_nil (wpAny_pure ?_)) (.inr K)))
 rw[List.set_comm _ _ (Ne.symm C)] at M
 exact⟨_,Q,M,E⟩
end
section
variable {X:Cx} {pos:Pos}
def EZ(c:TT)(tb:TS):TS:=fun D σ H=>∃W:Nat ->St ->Hp ->Prop,(∃m,W m σ H)/\ ∀m σ H,W m σ H ->
 c σ H fun b H1=>if b=true then ∃N:St ->Hp ->Prop,(∀σ' H',N σ' H' ->∃m',m'<m/\ W m' σ' H')/\ tb {D with nx:=N,ct:=N,bk:=D.nx} σ H1 else D.nx σ H1
theorem vx{c:Expr}{o:List Stmt}{tc:TT}{Q:TS}(U:PassesOwn (model X.prog X.w) X.A X.env X.xe)(hc:PT X c tc)(hb:PSs X o Q):PS X (.While c o [] pos) (EZ tc Q):=by
 intro K s σ H D I h
 obtain⟨W,⟨m0,w0⟩,B⟩:=h
 refine wpAny_While (codeAny_whileLoop (fun n s'=>∃z S,Inv X K z S s'/\ W n z S) ?_ m0 ⟨σ,H,I,w0⟩)
 rintro n s1 ⟨l,Y,I1,w1⟩
 refine wpAny_passesOwn U (thn (hc K s1 l Y _ I1 (B n l Y w1)) fun b Z ⟨P,T,E⟩=>?_)
 cases b with
 | true=>
  obtain⟨N,R,E⟩:=E
  rw[if_pos rfl]
  refine wpAny_passesOwn U (thn (hb K Z l P _ T E) fun f s3 F=>?_)
  cases f with
  |next=>
   obtain⟨g,C,M,G⟩:=F
   obtain⟨L,J,O⟩:=R g C G
   exact⟨L,J,g,C,M,O⟩
  |cont=>
   obtain⟨g,C,M,G⟩:=F
   obtain⟨L,J,O⟩:=R g C G
   exact⟨L,J,g,C,M,O⟩
  |brk=>exact F
  |ret v=>exact F
 |false=>
  rw[if_neg bQ]
  exact wpAny_execs_nil ⟨l,P,T,E⟩
end
set_option genInjectivity false in
structure It where
 go:Nat ->Hp ->Prop
 yld:Nat ->Hp ->V ->Hp ->Prop
 stop:Nat ->Hp ->Prop
def kx(X:Cx)(gW:List (Addr × Obj))(H:Hp)(b:Addr):Prop:=
 H b=none/\ b≠X.env.locals/\ b∉X.fs/\ (b∈X.ex∨X.s₀.heap.objs.size<=b)/\ (∀x c,X.env.cells.lookup x=some c ->c≠b)/\ ∀p∈X.pn++gW,p.1≠b
theorem Inv.fpOk{X:Cx}{h:List (Addr × Obj)}{σ:St}{H g:Hp}{s:Shared}{b:Addr}(I:Inv X h σ H s)(f:s.heap.objs.size<=b)(l:g b=none):kx X h g b:=by
 refine⟨l,dM (bp I.lt f),I.nofs f,.inr (bL I.sz f),fun x c e z=>?_,fun p o z=>?_⟩
 ·obtain⟨v,q⟩:=I.cell x c e
  exact absurd (bp q.lt (by rw[z];exact f)) (cO _)
 ·exact absurd (bp (bq (I.pin p o).1) (by rw[z];exact f)) (cO _)
set_option genInjectivity false in
structure qg(P:Program)(w:World)(K:aW)(tg:Expr)(J:It)(fp:List Addr)(it:Addr)(tn:Nat ->Heap ->Prop):Prop where
 mem:it∈fp
 obj:∀i h,tn i h ->∀b∈fp,∃o,h.get? b=some o/\ ∀v,o.data≠.cell v
 keep:∀i h h',tn i h ->(∀b∈fp,∀o,h.get? b=some o ->h'.get? b=some o) ->tn i h'
 item:∀(X:Cx),X.prog=P ->X.w=w ->X.K=K ->X.calm=true ->∀(i:Nat) (gW:List (Addr × Obj)) (s:Shared) (σ:St) (H:Hp) (E:Value ->Shared ->Prop),Inv X gW σ H s ->(∀b∈fp,kx X gW H b) ->tn i s.heap ->J.go i H ->
  wpAny (model P w) X.A (pyNext (.ref it)) (fun r s1=>∃u,r=some u/\
   wpAny (model P w) X.A (letOwnedTupleGo tg (.ref it) u) (fun _ s2=>∃x H',Inv X gW σ H' s2/\ iB x u/\ J.yld i H x H'/\ tn (i+1) s2.heap/\ ∀b∈fp,H' b=none) E s1) E s
 done:∀(X:Cx),X.prog=P ->X.w=w ->X.K=K ->X.calm=true ->∀(i:Nat) (gW:List (Addr × Obj)) (s:Shared) (σ:St) (H:Hp) (E:Value ->Shared ->Prop),Inv X gW σ H s ->(∀b∈fp,kx X gW H b) ->tn i s.heap ->J.stop i H ->
  wpAny (model P w) X.A (pyNext (.ref it)) (fun r s1=>r=none/\ Inv X gW σ H s1) E s
 self:∀(A:Around) (i:Nat) (s:Shared) (Q:Value ->Shared ->Prop) (E:Value ->Shared ->Prop),tn i s.heap ->Q (.ref it) s ->wpAny (model P w) A (pyIter (.ref it)) Q E s
abbrev TI:=St ->Hp ->(It ->Hp ->Prop) ->Prop
def PIE(X:Cx)(gW:List (Addr × Obj))(σ:St)(tg:Expr)(R:It ->Hp ->Prop)(itv:Value)(s2:Shared):Prop:=
 ∃(it:Addr) (fp:List Addr) (tn:Nat ->Heap ->Prop) (J:It) (H':Hp),itv=.ref it/\ Inv X gW σ H' s2/\ qg X.prog X.w X.K tg J fp it tn/\ tn 0 s2.heap/\ (∀b∈fp,kx X gW H' b)/\ R J H'
def PI(X:Cx)(tg iter:Expr)(wi:TI):Prop:=
 ∀(gW:List (Addr × Obj)) (s:Shared) (σ:St) (H:Hp) (R:It ->Hp ->Prop),Inv X gW σ H s ->wi σ H R ->
  wpAny (model X.prog X.w) X.A (eval iter X.env) (fun v s1=>wpAny (model X.prog X.w) X.A (pyIter v) (PIE X gW σ tg R) X.xe s1) X.xe s
theorem vL{M:Model}{A:Around}{E:Value ->Shared ->Prop}{s:Shared}{g:Expr}{f:Addr}{u:Value}{o:Obj}{n:String}{vs:Array Value}{Q:Unit ->Shared ->Prop}(z:s.heap.get? f=some o)(B:o.cls=.type n)(l:o.data=.fields vs)
  (w:["enumerate","zip","dict_itemiterator","dict_reverseitemiterator","odict_iterator","itertools.zip_longest","itertools.pairwise"].contains n=false)(b:Q () s):wpAny M A (letOwnedTupleGo g (.ref f) u) Q E s:=by
 unfold letOwnedTupleGo
 cases g<;>first
  |exact wpAny_pure b
  | (cases u<;>first
    |exact wpAny_pure b
    | (refine wpAny_bind (wpAny_load z ?_)
       rw[B,l]
       show wpAny M A (if(["enumerate","zip","dict_itemiterator","dict_reverseitemiterator","odict_iterator","itertools.zip_longest","itertools.pairwise"].contains n && vs[0]? == some (rawInt _))=true then _ else _) Q E s
       rw[if_neg (by intro h;rw[w,Bool.false_and] at h;cases h)]
       exact wpAny_pure b))
def Itl(K:aW)(a:Addr):It:=
 ⟨fun i H=>∃xs x,SqL K H a xs/\ xs[i]? =some x,fun i H x H'=>H'=H/\ ∀xs,SqL K H a xs ->xs[i]? =some x,fun i H=>∃xs,SqL K H a xs/\ xs.length<=i⟩
def Itt(K:aW)(a:Addr):It:=
 ⟨fun i H=>∃xs x,SqT K H a xs/\ xs[i]? =some x,fun i H x H'=>H'=H/\ ∀xs,SqT K H a xs ->xs[i]? =some x,fun i H=>∃xs,SqT K H a xs/\ xs.length<=i⟩
def Itr(lo:Int)(n:Nat):It:=⟨fun i _=>i<n,fun i H x H'=>H'=H/\ x=.int (lo+i),fun i _=>n<=i⟩
theorem DN{P:Program}{w:World}{K:aW}{tg:Expr}(a g:Addr):qg P w K tg (Itl K a) [g] g (fun i h=>h.IsListIter g a i) where
 mem:=by simp
 obj:=fun i h f b l=>by
  have e:b=g:=by simpa using l
  subst e
  obtain⟨o,e,c,d⟩:=f
  exact⟨o,e,fun v z=>by rw[d] at z;cases z⟩
 keep:=fun i h C f k=>f.at fun o e=>k g (by simp) o e
 item:=by
  intro X O M J Z i W s Y H E I B f U
  subst O M J
  obtain⟨xs,x,D,L⟩:=U
  obtain⟨G,F,p,hz⟩:=I.list D
  obtain⟨u,hu,ru⟩:=F.get L
  obtain⟨S,N,f2,T,R,Q⟩:=B g (by simp)
  refine wpAny_pyNext_list_item f p.isList (x:=u) (by simpa using hu) fun C A sb=>?_
  have I1:Inv X W Y H {s with heap:=C}:=I.turned (t':=s.toks) (fun b o l e=>(sb.2 b l).trans e) S N T R Q
  obtain⟨o,e,c,d⟩:=id A
  exact⟨u,rfl,vL (s:={s with heap:=C}) e c d (by decide) ⟨x,H,I1,ru,⟨rfl,fun ys hy=>by rw[I.list_inj hy D];exact L⟩,A,fun b l=>(B b l).1⟩⟩
 done:=by
  intro X O M J Z i W s Y H E I B f U
  subst O M J
  obtain⟨xs,D,L⟩:=U
  obtain⟨G,F,p,hz⟩:=I.list D
  obtain⟨S,N,f2,T,R,Q⟩:=B g (by simp)
  have hl:=F.length
  exact wpAny_pyNext_list_end (I.ok.hd Z) f p.isList (by simp;omega) fun C eb=>⟨rfl,I.turned (t':=s.toks) (fun b o l e=>eb b o l e) S N T R Q⟩
 self:=fun _ _ _ _ _ f h=>wpAny_pyIter_listiter f h
theorem BS{P:Program}{w:World}{K:aW}{tg:Expr}(a g:Addr):qg P w K tg (Itt K a) [g] g (fun i h=>h.IsTupleIter g a i) where
 mem:=by simp
 obj:=fun i h f b A=>by
  have e:b=g:=by simpa using A
  subst e
  obtain⟨o,e,c,d⟩:=f
  exact⟨o,e,fun v z=>by rw[d] at z;cases z⟩
 keep:=fun i h D f k=>f.at fun o e=>k g (by simp) o e
 item:=by
  intro X O M J Z i W s Y H E I C f U
  subst O M J
  obtain⟨xs,x,F,L⟩:=U
  obtain⟨l,G,p,hz⟩:=I.tuple F
  obtain⟨u,hu,ru⟩:=G.get L
  obtain⟨S,N,f2,T,R,Q⟩:=C g (by simp)
  refine wpAny_pyNext_tuple_item f (show s.heap.IsTuple a l.toArray from p) (x:=u) (by simpa using hu) fun D B sb=>?_
  have I1:Inv X W Y H {s with heap:=D}:=I.turned (t':=s.toks) (fun b o A e=>(sb.2 b A).trans e) S N T R Q
  obtain⟨o,e,c,d⟩:=id B
  exact⟨u,rfl,vL (s:={s with heap:=D}) e c d (by decide) ⟨x,H,I1,ru,⟨rfl,fun ys hy=>by rw[I.tuple_inj hy F];exact L⟩,B,fun b A=>(C b A).1⟩⟩
 done:=by
  intro X O M J Z i W s Y H E I C f U
  subst O M J
  obtain⟨xs,F,L⟩:=U
  obtain⟨l,G,p,hz⟩:=I.tuple F
  obtain⟨S,N,f2,T,R,Q⟩:=C g (by simp)
  have hl:=G.length
  exact wpAny_pyNext_tuple_end (I.ok.hd Z) f (show s.heap.IsTuple a l.toArray from p) (by simp;omega) fun D eb=>⟨rfl,I.turned (t':=s.toks) (fun b o A e=>eb b o A e) S N T R Q⟩
 self:=fun _ _ _ _ _ f h=>wpAny_pyIter_tupleiter f h
theorem Dd{P:Program}{w:World}{K:aW}{tg:Expr}(g:Addr)(lo:Int)(n:Nat):qg P w K tg (Itr lo n) [g] g (fun i h=>IsRangeIter h g (lo+(i:Nat)*1) ((n:Int) - (i:Nat)) 1) where
 mem:=by simp
 obj:=fun i h f b l=>by
  have e:b=g:=by simpa using l
  subst e
  exact⟨_,f,fun v z=>by
   have Y:Data.fields _=Data.cell v:=z
   cases Y⟩
 keep:=fun i h C f k=>k g (by simp) _ f
 item:=by
  intro X M L J R i S s T H E I B f G
  subst M L J
  obtain⟨O,D,U,Q,N,F⟩:=B g (by simp)
  have W:=Walks.range (prog:=X.prog) (w:=X.w) (I.ok.hd R) g lo 1 n
  refine W.item i s _ _ G f fun v C tk hv A kk=>?_
  obtain⟨t,rfl⟩:=hv
  have I1:Inv X S T H {s with heap:=C,toks:=tk}:=I.turned (fun b o l e=>kk b o (by simpa using l) e) O D Q N F
  refine⟨_,rfl,vL (s:={s with heap:=C,toks:=tk}) (n:="range_iterator") A rfl rfl (by decide) ⟨.int (lo+i),H,I1,⟨t,?_⟩,⟨rfl,rfl⟩,A,fun b l=>(B b l).1⟩⟩
  rw[Int.mul_one]
 done:=by
  intro X M L J R i S s T H E I B f G
  subst M L J
  obtain⟨O,D,U,Q,N,F⟩:=B g (by simp)
  exact wpAny_pyNext_range_end (I.ok.hd R) f (by have:n<=i:=G;omega) fun C Z=>⟨rfl,I.turned (t':=s.toks) (fun b o l e=>Z b o l e) O D Q N F⟩
 self:=fun _ _ _ _ _ f h=>wpAny_pyIter_rangeiter f h
end
section
variable {X:Cx} {tg:Expr}
def Ml(K:aW)(tl:TE):TI:=fun σ H R=>tl σ H fun x H1=>∃a,x=.ref a/\ (∃xs,SqL K H1 a xs)/\ R (Itl K a) H1
def NZ(K:aW)(tl:TE):TI:=fun σ H R=>tl σ H fun x H1=>∃a,x=.ref a/\ (∃xs,SqT K H1 a xs)/\ R (Itt K a) H1
theorem jy{l:Expr}{tl:TE}(B:PE X l tl):PI X tg l (Ml X.K tl):=by
 intro C s A H R I h
 refine thn (B C s A H _ I h) fun v s1 ⟨x,D,f,F,E⟩=>?_
 obtain⟨a,e,⟨G,z⟩,q⟩:=E
 subst e
 cases F
 obtain⟨w,J,p,L⟩:=f.list z
 refine wpAny_pyIter_list p.isList ?_
 refine⟨s1.heap.objs.size,[s1.heap.objs.size],_,_,D,rfl,f.kept (t':=s1.toks) fun b o e=>aY _ e,DN a _,⟨_,bu _ rfl,rfl,rfl⟩,fun b g=>?_,q⟩
 have e:b=s1.heap.objs.size:=by simpa using g
 subst e
 exact f.fpOk (bh _) (f.hok.fresh (bh _))
theorem KQ{l:Expr}{tl:TE}(B:PE X l tl):PI X tg l (NZ X.K tl):=by
 intro C s A H R I h
 refine thn (B C s A H _ I h) fun v s1 ⟨x,D,f,F,E⟩=>?_
 obtain⟨a,e,⟨G,z⟩,q⟩:=E
 subst e
 cases F
 obtain⟨g,J,p,L⟩:=f.tuple z
 refine wpAny_pyIter_tuple (show s1.heap.IsTuple a g.toArray from p) ?_
 refine⟨s1.heap.objs.size,[s1.heap.objs.size],_,_,D,rfl,f.kept (t':=s1.toks) fun b o e=>aY _ e,BS a _,⟨_,bu _ rfl,rfl,rfl⟩,fun b w=>?_,q⟩
 have e:b=s1.heap.objs.size:=by simpa using w
 subst e
 exact f.fpOk (bh _) (f.hok.fresh (bh _))
theorem yJ{g:List (Addr × Obj)}{σ:St}{H:Hp}{s:Shared}{R:It ->Hp ->Prop}{E:Value ->Shared ->Prop}{lo f:Int}{t u v:Tok}{tk:Nat}(I:Inv X g σ H s)(h1:-(2^62)<=lo)(D:lo<2^62)(B:-(2^62)<=f)(l:f<2^62)
  (q:R (Itr lo (f - lo).toNat) H):wpAny (model X.prog X.w) X.A (pyIter (.ref s.heap.objs.size)) (PIE X g σ tg R) E {s with heap:=s.heap.push {cls:=.type "range",data:=.fields #[.int lo t,.int f u,.int 1 v]},toks:=tk}:=by
 refine wpAny_pyIter_range (IsRange.new ..) (small_one h1 D B l) ?_
 have h:Inv X g σ H {s with heap:=s.heap.push {cls:=.type "range",data:=.fields #[.int lo t,.int f u,.int 1 v]},toks:=tk}:=I.kept fun b o e=>aY _ e
 refine⟨(s.heap.push {cls:=.type "range",data:=.fields #[.int lo t,.int f u,.int 1 v]}).objs.size,[(s.heap.push {cls:=.type "range",data:=.fields #[.int lo t,.int f u,.int 1 v]}).objs.size],_,_,H,rfl,
  h.kept (t':=tk) fun b o e=>aY _ e,Dd _ lo (f - lo).toNat,?_,fun b z=>?_,q⟩
 ·have C:lo+((0:Nat):Int)*1=lo:=by simp
  have F:(((f - lo).toNat:Nat):Int) - ((0:Nat):Int)=Builtin.Range.rangeSize lo f 1:=by rw[rangeSize_one];split<;>omega
  show IsRangeIter _ _ (lo+((0:Nat):Int)*1) ((((f - lo).toNat:Nat):Int) - ((0:Nat):Int)) 1
  rw[C,F]
  exact bu _ rfl
 ·have e:b=(s.heap.push {cls:=.type "range",data:=.fields #[.int lo t,.int f u,.int 1 v]}).objs.size:=by simpa using z
  subst e
  exact h.fpOk (bh _) (h.hok.fresh (bh _))
def LX(ta:TA):TI:=fun σ H R=>ta σ H fun vs H1=>∃j:Int,vs=[.int j]/\ -(2^62)<=j/\ j<2^62/\ R (Itr 0 j.toNat) H1
def Nm(ta:TA):TI:=fun σ H R=>ta σ H fun vs H1=>∃i j:Int,vs=[.int i,.int j]/\ (-(2^62)<=i/\ i<2^62/\ -(2^62)<=j/\ j<2^62)/\ R (Itr i (j - i).toNat) H1
theorem nW{a:Expr}{f:TA}{p pos:Pos}(o:Gl X "range")(w:X.mg "range"=none)(ha:PA X [a] f)(l:starEach [a] X.env=[(false,eval a X.env)]:=by rfl):PI X tg (.Call (.Name "range" p) [a] [] pos) (LX f):=by
 intro A s z H R I h
 refine Call_ (mj I o w boot_range (PyProof.Rows.callWith_type1 (thn (ha pos A s z H _ I h) fun D s1 ⟨E,F,C,B,b⟩=>?_) l rfl))
 obtain⟨j,e,b,g,q⟩:=b
 subst e
 cases B with
 |cons r rr=>
  cases rr
  obtain⟨t,rfl⟩:=r
  exact call_range_1 (yJ C (by omega) (by omega) b g (by simpa using q))
theorem EF{a b:Expr}{l:TA}{p pos:Pos}(A:Gl X "range")(B:X.mg "range"=none)(ha:PA X [a,b] l)(z:starEach [a,b] X.env=[(false,eval a X.env),(false,eval b X.env)]:=by rfl)(f:starEach [b] X.env=[(false,eval b X.env)]:=by rfl):
  PI X tg (.Call (.Name "range" p) [a,b] [] pos) (Nm l):=by
 intro D s C H R I h
 refine Call_ (mj I A B boot_range (PyProof.Rows.callWith_type1 (thn (ha pos D s C H _ I h) fun K s1 ⟨L,M,G,F,g⟩=>?_) (by rw[z,f]) (by rw[f];rfl)))
 obtain⟨i,j,e,⟨g,o,w,E⟩,q⟩:=g
 subst e
 cases F with
 | cons r rr=>
  cases rr with
  |cons r' rr=>
   cases rr
   obtain⟨t,rfl⟩:=r
   obtain⟨J,rfl⟩:=r'
   exact call_range_2 (yJ G g o w E q)
def No(wi:TI)(g:TG)(tb:TS):TS:=fun D σ H=>wi σ H fun J H1=>∃W:Nat ->Nat ->St ->Hp ->Prop,(∃m,W 0 m σ H1)/\ ∀i m σ H,W i m σ H ->
 (J.stop i H/\ D.nx σ H)∨(J.go i H/\ ∃N:St ->Hp ->Prop,(∀σ' H',N σ' H' ->∃m',m'<m/\ W (i+1) m' σ' H')/\ ∀x H',J.yld i H x H' ->g x σ H' fun σ2 H2=>tb {D with nx:=N,ct:=N,bk:=D.nx} σ2 H2)
def mq(fp:List Addr)(h:Heap):List (Addr × Obj):=fp.filterMap fun b=>(h.get? b).map fun o=>(b,o)
theorem kG{f:List Addr}{h:Heap}{b:Addr}{o:Obj}(g:b∈f)(e:h.get? b=some o):(b,o)∈mq f h:=eQ.mpr ⟨b,g,by rw[e];rfl⟩
theorem DU{f:List Addr}{h:Heap}{p:Addr × Obj}(l:p∈mq f h):p.1∈f/\ h.get? p.1=some p.2:=by
 obtain⟨b,g,e⟩:=eQ.mp l
 cases q:h.get? b with
 |none=>rw[q] at e;cases e
 |some o=>
  rw[q] at e
  have w:(b,o)=p:=Option.some.inj e
  subst w
  exact⟨g,q⟩
theorem Inv.pinned{g:List (Addr × Obj)}{σ:St}{H:Hp}{s:Shared}{f:List Addr}(I:Inv X g σ H s)(w:∀b∈f,kx X g H b)(A:∀b∈f,∃o,s.heap.get? b=some o/\ ∀v,o.data≠.cell v):Inv X (g++mq f s.heap) σ H s:=
 I.pins_of fun p D=>(bS.mp D).elim (fun z=>I.pin p (bJ _ z)) fun z=>by
  obtain⟨h,e⟩:=DU z
  obtain⟨B,E,C,_⟩:=w p.1 h
  obtain⟨o,l,d⟩:=A p.1 h
  rw[e] at l;cases l
  exact⟨e,B,E,C,d⟩
theorem Inv.unpinned{b pl:List (Addr × Obj)}{σ:St}{H:Hp}{s:Shared}(I:Inv X (b++pl) σ H s):Inv X b σ H s:=I.pins_of fun p f=>I.pin p (bJ _ (dD _ f))
theorem lf{G:Expr}{P:List Stmt}{wi:TI}{g:TG}{tb:TS}{pos:Pos}(U:PassesOwn (model X.prog X.w) X.A X.env X.xe)(hc:X.calm=true)(hi:PI X tg G wi)(hg:PG X tg g)(z:PSs X P tb)
  (hs:∀x,foldedSetIterable G X.env x=pure x:=by intro _;rfl):PS X (.For tg G P [] pos) (No wi g tb):=by
 intro R s σ H D I h
 refine wpAny_For (thn (hi R s σ H _ I h) fun v s1 h1=>thn h1 fun a6 s2 h2=>?_) hs
 obtain⟨it,Z,tn,J,H2,e,I2,T,a3,f2,W,⟨m0,w0⟩,Y⟩:=h2
 subst e
 -- what stays true of the iterator's objects through the loop
 have F:∀{M:Hp},(∀b∈Z,M b=none) ->∀b∈Z,kx X R M b:=fun hn b z=>⟨hn b z,(f2 b z).2⟩
 refine codeAny_forLoop_any (fun n s'=>∃i L M,Inv X R L M s'/\ tn i s'.heap/\ (∀b∈Z,M b=none)/\ W i n L M) ?_ m0 ⟨0,σ,H2,I2,a3,fun b z=>(f2 b z).1,w0⟩
 rintro n s3 ⟨i,C,H3,I3,a1,S,w3⟩
 rcases Y i n C H3 w3 with⟨a0,qn⟩|⟨go,N,hN,step⟩
 ·refine wpAny_passesOwn U (thn (T.done X rfl rfl rfl hc i R s3 C H3 X.xe I3 (F S) a1 a0) fun r s4 ⟨hr,I4⟩=>?_)
  subst hr
  exact wpAny_execs_nil ⟨C,H3,I4,qn⟩
 ·refine wpAny_passesOwn U (thn (T.item X rfl rfl rfl hc i R s3 C H3 X.xe I3 (F S) a1 go) fun r s4 ⟨u,hr,h4⟩=>?_)
  subst hr
  refine wpAny_passesOwn U (thn h4 fun _ s5 ⟨x,H5,I5,r5,y5,Q,a5⟩=>?_)
  have a4:=I5.pinned (F a5) (T.obj _ _ Q)
  refine wpAny_passesOwn U (thn (hg _ s5 C H5 x u _ a4 r5 (step x H5 y5)) fun _ s6 ⟨a2,H6,I6,q6⟩=>?_)
  refine wpAny_passesOwn U (thn (z _ s6 a2 H6 _ I6 q6) fun f s7 O=>?_)
  have E:∀{l:St} {K:Hp},Inv X (R++mq Z s5.heap) l K s7 ->N l K ->∃m,m<n/\ ∃i L M,Inv X R L M s7/\ tn i s7.heap/\ (∀b∈Z,M b=none)/\ W i m L M:=fun {l K} B n7=>by
   obtain⟨m',hm,w7⟩:=hN l K n7
   refine⟨m',hm,i+1,l,K,B.unpinned,T.keep _ _ _ Q fun b z o e=>(B.pin (b,o) (bJ _ (bJ _ (kG z e)))).1,fun b z=>?_,w7⟩
   obtain⟨o,e,d⟩:=T.obj _ _ Q b z
   exact(B.pin (b,o) (bJ _ (bJ _ (kG z e)))).2.1
  cases f with
  |next=>obtain⟨l,K,B,n7⟩:=O;exact E B n7
  |cont=>obtain⟨l,K,B,n7⟩:=O;exact E B n7
  |brk=>obtain⟨l,K,B,O⟩:=O;exact⟨l,K,B.unpinned,O⟩
  |ret v=>obtain⟨x7,l,K,B,r7,O⟩:=O;exact⟨x7,l,K,B.unpinned,r7,O⟩
end
theorem no{K:aW}{a:Addr}{xs:List V}{g:TG}{w:TS}{D:pk}{σ:St}{H:Hp}(b:Nat ->St ->Hp ->Prop)(h0:b 0 σ H)(E:∀i σ H,i<=xs.length ->b i σ H ->SqL K H a xs)
  (A:∀i x σ H,xs[i]? =some x ->b i σ H ->g x σ H fun f o=>w {D with nx:=b (i+1),ct:=b (i+1),bk:=D.nx} f o)(C:∀σ H,b xs.length σ H ->D.nx σ H):
  ∃W:Nat ->Nat ->St ->Hp ->Prop,(∃m,W 0 m σ H)/\ ∀i m σ H,W i m σ H ->
   ((Itl K a).stop i H/\ D.nx σ H)∨((Itl K a).go i H/\ ∃N:St ->Hp ->Prop,(∀l h,N l h ->∃z,z<m/\ W (i+1) z l h)/\ ∀x h,(Itl K a).yld i H x h ->g x σ h fun f o=>w {D with nx:=N,ct:=N,bk:=D.nx} f o):=by
 refine⟨fun i m σ H=>m=xs.length - i/\ i<=xs.length/\ b i σ H,⟨xs.length,by simp,cf _,h0⟩,?_⟩
 rintro i m σ H ⟨rfl,F,p⟩
 have q:=E i σ H F p
 by_cases hlt:i<xs.length
 ·refine .inr ⟨⟨xs,xs[i],q,by simp[hlt]⟩,b (i+1),fun l h B=>⟨xs.length - (i+1),by omega,rfl,hlt,B⟩,fun x h y=>?_⟩
  obtain⟨e,y⟩:=y
  subst e
  exact A i x σ _ (y xs q) p
 ·have e:i=xs.length:=by omega
  subst e
  exact .inl ⟨⟨xs,q,bh _⟩,C σ H p⟩
theorem Jc{K:aW}{a:Addr}{xs:List V}{g:TG}{w:TS}{D:pk}{σ:St}{H:Hp}(b:Nat ->St ->Hp ->Prop)(h0:b 0 σ H)(E:∀i σ H,i<=xs.length ->b i σ H ->SqT K H a xs)
  (A:∀i x σ H,xs[i]? =some x ->b i σ H ->g x σ H fun f o=>w {D with nx:=b (i+1),ct:=b (i+1),bk:=D.nx} f o)(C:∀σ H,b xs.length σ H ->D.nx σ H):
  ∃W:Nat ->Nat ->St ->Hp ->Prop,(∃m,W 0 m σ H)/\ ∀i m σ H,W i m σ H ->
   ((Itt K a).stop i H/\ D.nx σ H)∨((Itt K a).go i H/\ ∃N:St ->Hp ->Prop,(∀l h,N l h ->∃z,z<m/\ W (i+1) z l h)/\ ∀x h,(Itt K a).yld i H x h ->g x σ h fun f o=>w {D with nx:=N,ct:=N,bk:=D.nx} f o):=by
 refine⟨fun i m σ H=>m=xs.length - i/\ i<=xs.length/\ b i σ H,⟨xs.length,by simp,cf _,h0⟩,?_⟩
 rintro i m σ H ⟨rfl,F,p⟩
 have q:=E i σ H F p
 by_cases hlt:i<xs.length
 ·refine .inr ⟨⟨xs,xs[i],q,by simp[hlt]⟩,b (i+1),fun l h B=>⟨xs.length - (i+1),by omega,rfl,hlt,B⟩,fun x h y=>?_⟩
  obtain⟨e,y⟩:=y
  subst e
  exact A i x σ _ (y xs q) p
 ·have e:i=xs.length:=by omega
  subst e
  exact .inl ⟨⟨xs,q,bh _⟩,C σ H p⟩
theorem pO{lo:Int}{n:Nat}{g:TG}{w:TS}{D:pk}{σ:St}{H:Hp}(f:Nat ->St ->Hp ->Prop)(h0:f 0 σ H)
  (A:∀i σ H,i<n ->f i σ H ->g (.int (lo+i)) σ H fun b o=>w {D with nx:=f (i+1),ct:=f (i+1),bk:=D.nx} b o)(C:∀σ H,f n σ H ->D.nx σ H):
  ∃W:Nat ->Nat ->St ->Hp ->Prop,(∃m,W 0 m σ H)/\ ∀i m σ H,W i m σ H ->
   ((Itr lo n).stop i H/\ D.nx σ H)∨((Itr lo n).go i H/\ ∃N:St ->Hp ->Prop,(∀l h,N l h ->∃z,z<m/\ W (i+1) z l h)/\ ∀x h,(Itr lo n).yld i H x h ->g x σ h fun b o=>w {D with nx:=N,ct:=N,bk:=D.nx} b o):=by
 refine⟨fun i m σ H=>m=n - i/\ i<=n/\ f i σ H,⟨n,by simp,cf _,h0⟩,?_⟩
 rintro i m σ H ⟨rfl,E,p⟩
 by_cases hlt:i<n
 ·refine .inr ⟨hlt,f (i+1),fun l h B=>⟨n - (i+1),by omega,rfl,hlt,B⟩,fun x h y=>?_⟩
  obtain⟨e,y⟩:=y
  subst e y
  exact A i σ _ hlt p
 ·have e:i=n:=by omega
  subst e
  exact .inl ⟨bh _,C σ H p⟩
abbrev R2:=V ->V ->Hp ->VK ->Prop
def OpR(X:Cx)(f:Value ->Value ->Sem Value)(r:R2):Prop:=
 ∀(gW:List (Addr × Obj)) (s:Shared) (σ:St) (H:Hp) (x y:V) (v u:Value) (Q:VK),Inv X gW σ H s ->iB x v ->iB y u ->r x y H Q ->
  wpAny (model X.prog X.w) X.A (f v u) (EP X gW σ Q) X.xe s
def UnR(X:Cx)(f:Value ->Sem Value)(r:V ->Hp ->VK ->Prop):Prop:=
 ∀(gW:List (Addr × Obj)) (s:Shared) (σ:St) (H:Hp) (x:V) (v:Value) (Q:VK),Inv X gW σ H s ->iB x v ->r x H Q ->
  wpAny (model X.prog X.w) X.A (f v) (EP X gW σ Q) X.xe s
def jr(X:Cx)(f:Value)(r:List V ->Hp ->VK ->Prop):Prop:=
 ∀(gW:List (Addr × Obj)) (s:Shared) (σ:St) (H:Hp) (xs:List V) (us:List Value) (Q:VK),Inv X gW σ H s ->iz xs us ->r xs H Q ->
  wpAny (model X.prog X.w) X.A (call f us) (EP X gW σ Q) X.xe s
def tOp(r:R2)(ta tb:TE):TE:=fun σ H Q=>ta σ H fun x H1=>tb σ H1 fun y H2=>r x y H2 Q
def tUn(r:V ->Hp ->VK ->Prop)(ta:TE):TE:=fun σ H Q=>ta σ H fun x H1=>r x H1 Q
def rI(C:Int ->Int ->Prop)(g:Int ->Int ->V):R2:=fun x y H Q=>∃i j,x=.int i/\ y=.int j/\ C i j/\ Q (g i j) H
def rI0(g:Int ->Int ->V):R2:=fun x y H Q=>∃i j,x=.int i/\ y=.int j/\ Q (g i j) H
def rU(g:Int ->V):V ->Hp ->VK ->Prop:=fun x H Q=>∃i,x=.int i/\ Q (g i) H
section
variable {X:Cx} {a b c:Expr} {ta tb tc:TE} {pos:Pos}
theorem GX(ha:PE X a ta)(G:PE X b tb){B:List (Addr × Obj)}{s:Shared}{σ:St}{H:Hp}{R:V ->V ->Hp ->Prop}(I:Inv X B σ H s)
  (h:ta σ H fun x C=>tb σ C fun y g=>R x y g){Q:Value ->Shared ->Prop}{f:Value ->Value ->Sem Value}
  (F:∀v u z x y g,Inv X B σ g z ->iB x v ->iB y u ->R x y g ->wpAny (model X.prog X.w) X.A (f v u) Q X.xe z):
  wpAny (model X.prog X.w) X.A (eval a X.env) (fun v l=>wpAny (model X.prog X.w) X.A (eval b X.env) (fun u o=>wpAny (model X.prog X.w) X.A (f v u) Q X.xe o) X.xe l) X.xe s:=by
 refine thn (ha B s σ H _ I h) fun v s1 ⟨x,C,M,L,K⟩=>?_
 refine thn (G B s1 σ C _ M K) fun u z ⟨y,g,J,D,E⟩=>?_
 exact F v u z x y g J L D E
theorem ic{f:Operator}{r:R2}(l:OpR X (binaryOp f) r)(ha:PE X a ta)(o:PE X b tb):PE X (.BinOp a f b pos) (tOp r ta tb):=by
 intro D s B H Q I h
 exact wpAny_BinOp (GX ha o I h fun v u w x y g C z A q=>l D w B g x y v u Q C z A q)
theorem mS{f:UnaryOp}{r:V ->Hp ->VK ->Prop}(o:UnR X (unaryOp f) r)(ha:PE X a ta):PE X (.UnaryOp f a pos) (tUn r ta):=by
 intro g s l H Q I h
 exact UnaryOp_ (thn (ha g s l H _ I h) fun v s1 ⟨x,z,w,B,A⟩=>o g s1 l z x v Q w B A)
theorem opI{f:Value ->Value ->Sem Value}{C:Int ->Int ->Prop}{g:Int ->Int ->Int}
  (rule:∀(i j:Int) (t u:Tok) (s:Shared) (Q:Value ->Shared ->Prop) (E:Value ->Shared ->Prop),C i j ->Q (.int (g i j) s.toks) {s with toks:=s.toks+1} ->wpAny (model X.prog X.w) X.A (f (.int i t) (.int j u)) Q E s):
  OpR X f (rI C fun i j=>.int (g i j)):=by
 intro F s D H x y v u Q I o z h
 obtain⟨i,j,rfl,rfl,B,q⟩:=h
 obtain⟨t,rfl⟩:=o
 obtain⟨l,rfl⟩:=z
 exact rule i j t l s _ _ B ⟨.int (g i j),H,I.tok _,⟨_,rfl⟩,q⟩
theorem Kk{f:Value ->Value ->Sem Value}{g:Int ->Int ->Int}
  (rule:∀(i j:Int) (t u:Tok) (s:Shared) (Q:Value ->Shared ->Prop) (E:Value ->Shared ->Prop),Q (.int (g i j) s.toks) {s with toks:=s.toks+1} ->wpAny (model X.prog X.w) X.A (f (.int i t) (.int j u)) Q E s):
  OpR X f (rI0 fun i j=>.int (g i j)):=by
 intro C s B H x y v u Q I o z h
 obtain⟨i,j,rfl,rfl,q⟩:=h
 obtain⟨t,rfl⟩:=o
 obtain⟨l,rfl⟩:=z
 exact rule i j t l s _ _ ⟨.int (g i j),H,I.tok _,⟨_,rfl⟩,q⟩
theorem BV{f:Value ->Value ->Sem Value}{g:Int ->Int ->Bool}
  (rule:∀(i j:Int) (t u:Tok) (s:Shared) (Q:Value ->Shared ->Prop) (E:Value ->Shared ->Prop),Q (.bool (g i j)) s ->wpAny (model X.prog X.w) X.A (f (.int i t) (.int j u)) Q E s):
  OpR X f (rI0 fun i j=>.bl (g i j)):=by
 intro C s B H x y v u Q I o z h
 obtain⟨i,j,rfl,rfl,q⟩:=h
 obtain⟨t,rfl⟩:=o
 obtain⟨l,rfl⟩:=z
 exact rule i j t l s _ _ ⟨.bl (g i j),H,I,rfl,q⟩
theorem two_pow_nn(k:Nat):(0:Int)<=2^k:=by
 rw[two_pow_cast]
 exact Int.natCast_nonneg _
theorem Le:OpR X (binaryOp .Add) (rI0 fun i j=>.int (i+j)):=Kk fun _ _ _ _ _ _ _ q=>add_int q
theorem LG:OpR X (binaryOp .Sub) (rI0 fun i j=>.int (i - j)):=Kk fun _ _ _ _ _ _ _ q=>sub_int q
theorem Ko:OpR X (binaryOp .Mod) (rI (fun _ j=>0<j) fun i j=>.int (i%j)):=opI fun i j _ _ _ _ _ f q=>by
 have h1:(0:Int)<j:=f
 exact mod_int' (by omega) (by rw[Int.fmod_eq_emod_of_nonneg i (by omega)];exact q)
theorem Kf:OpR X (binaryOp .RShift) (rI (fun _ j=>0<=j) fun i j=>.int (i/2^j.toNat)):=opI fun i j _ _ _ _ _ f q=>
 rshift_int f (by rw[dq i (two_pow_nn _)];exact q)
theorem unI{f:Value ->Sem Value}{g:Int ->Int}
  (rule:∀(i:Int) (t:Tok) (s:Shared) (Q:Value ->Shared ->Prop) (E:Value ->Shared ->Prop),Q (.int (g i) s.toks) {s with toks:=s.toks+1} ->wpAny (model X.prog X.w) X.A (f (.int i t)) Q E s):
  UnR X f (rU fun i=>.int (g i)):=by
 intro o s z H x v Q I l h
 obtain⟨i,rfl,q⟩:=h
 obtain⟨t,rfl⟩:=l
 exact rule i t s _ _ ⟨.int (g i),H,I.tok _,⟨_,rfl⟩,q⟩
theorem JQ:UnR X (unaryOp .USub) (rU fun i=>.int (-i)):=unI fun _ _ _ _ _ q=>neg_int q
end
def GW:V ->V ->Bool
 | .non,.non=>true| .non,.int _=>true| .int _,.non=>true| .non,.bl _=>true| .bl _,.non=>true| .non,.str _=>true| .str _,.non=>true
 | .int _,.int _=>true| .bl _,.bl _=>true| .str _,.str _=>true| .byt _,.byt _=>true
 | .int _,.str _=>true| .str _,.int _=>true| .bl _,.str _=>true| .str _,.bl _=>true
 |_,_=>false
def rEq:R2:=fun x y H Q=>GW x y=true/\ Q (.bl (decide (x=y))) H
def rNe:R2:=fun x y H Q=>GW x y=true/\ Q (.bl (!decide (x=y))) H
theorem BL{i j:Int}:decide (V.int i=V.int j)=(i == j):=by
 rw[eR]
 simp
theorem Ea{i j:Bool}:decide (V.bl i=V.bl j)=(i == j):=by
 rw[eR]
 simp
theorem BO{i j:Str}:decide (V.str i=V.str j)=(i == j):=by
 rw[eR]
 simp
theorem Bu{i j:Array UInt8}:decide (V.byt i=V.byt j)=(i.toList == j.toList):=by
 rw[eR]
 cases i
 cases j
 simp
section
variable {X:Cx} {a b c:Expr} {ta tb tc:TE} {pos:Pos}
theorem iT{f:List (Addr × Obj)}{σ:St}{H:Hp}{s:Shared}{Q:VK}{k k':Bool}(I:Inv X f σ H s)(q:Q (.bl k) H)(e:k=k'):EP X f σ Q (.bool k') s:=by
 subst e
 exact⟨.bl k,H,I,rfl,q⟩
theorem MR:OpR X (compareOp .Eq) rEq:=by
 intro z s w H x y v u Q I o f h
 obtain⟨l,q⟩:=h
 cases x with
 |non=>
  cases o
  cases y with
  |non=>cases f;exact PySem.EqNone.eq_none_none (iT I q (by simp))
  |bl j=>cases f;exact PySem.EqNone.eq_none_bool (iT I q (by simp))
  |int j=>obtain⟨g,rfl⟩:=f;exact PySem.EqNone.eq_none_int (iT I q (by simp))
  |str j=>obtain⟨g,rfl⟩:=f;exact PySem.EqNone.eq_none_str (iT I q (by simp))
  |_=>exact absurd (show false=true from l) bQ
 |bl i=>
  cases o
  cases y with
  |non=>cases f;exact PySem.EqNone.eq_bool_none (iT I q (by simp))
  |bl j=>cases f;exact eq_bool (iT I q Ea)
  |str j=>obtain⟨g,rfl⟩:=f;exact PySem.EqMixed.eq_bool_str (iT I q (by simp))
  |_=>exact absurd (show false=true from l) bQ
 |int i=>
  obtain⟨t,rfl⟩:=o
  cases y with
  |non=>cases f;exact PySem.EqNone.eq_int_none (iT I q (by simp))
  |int j=>obtain⟨g,rfl⟩:=f;exact eq_int (iT I q BL)
  |str j=>obtain⟨g,rfl⟩:=f;exact PySem.EqMixed.eq_int_str (iT I q (by simp))
  |_=>exact absurd (show false=true from l) bQ
 |str i=>
  obtain⟨t,rfl⟩:=o
  cases y with
  |non=>cases f;exact PySem.EqNone.eq_str_none (iT I q (by simp))
  |bl j=>cases f;exact PySem.EqMixed.eq_str_bool (iT I q (by simp))
  |int j=>obtain⟨g,rfl⟩:=f;exact PySem.EqMixed.eq_str_int (iT I q (by simp))
  |str j=>obtain⟨g,rfl⟩:=f;exact eq_str (iT I q BO)
  |_=>exact absurd (show false=true from l) bQ
 |byt i=>
  obtain⟨t,rfl⟩:=o
  cases y with
  |byt j=>obtain⟨g,rfl⟩:=f;exact PySem.W.eq_bytes (iT I q Bu)
  |_=>exact absurd (show false=true from l) bQ
 |_=>cases y<;>exact absurd (show false=true from l) bQ
theorem MZ:OpR X (compareOp .NotEq) rNe:=by
 intro z s w H x y v u Q I o f h
 obtain⟨l,q⟩:=h
 cases x with
 |non=>
  cases o
  cases y with
  |non=>cases f;exact PySem.EqNone.ne_none_none (iT I q (by simp))
  |bl j=>cases f;exact PySem.EqNone.ne_none_bool (iT I q (by simp))
  |int j=>obtain⟨g,rfl⟩:=f;exact PySem.EqNone.ne_none_int (iT I q (by simp))
  |str j=>obtain⟨g,rfl⟩:=f;exact PySem.EqNone.ne_none_str (iT I q (by simp))
  |_=>exact absurd (show false=true from l) bQ
 |bl i=>
  cases o
  cases y with
  |non=>cases f;exact PySem.EqNone.ne_bool_none (iT I q (by simp))
  |bl j=>cases f;exact ne_bool (iT I q (congrArg not Ea))
  |str j=>obtain⟨g,rfl⟩:=f;exact PySem.EqMixed.ne_bool_str (iT I q (by simp))
  |_=>exact absurd (show false=true from l) bQ
 |int i=>
  obtain⟨t,rfl⟩:=o
  cases y with
  |non=>cases f;exact PySem.EqNone.ne_int_none (iT I q (by simp))
  |int j=>obtain⟨g,rfl⟩:=f;exact ne_int (iT I q (congrArg not BL))
  |str j=>obtain⟨g,rfl⟩:=f;exact PySem.EqMixed.ne_int_str (iT I q (by simp))
  |_=>exact absurd (show false=true from l) bQ
 |str i=>
  obtain⟨t,rfl⟩:=o
  cases y with
  |non=>cases f;exact PySem.EqNone.ne_str_none (iT I q (by simp))
  |bl j=>cases f;exact PySem.EqMixed.ne_str_bool (iT I q (by simp))
  |int j=>obtain⟨g,rfl⟩:=f;exact PySem.EqMixed.ne_str_int (iT I q (by simp))
  |str j=>obtain⟨g,rfl⟩:=f;exact ne_str (iT I q (congrArg not BO))
  |_=>exact absurd (show false=true from l) bQ
 |byt i=>
  obtain⟨t,rfl⟩:=o
  cases y with
  |byt j=>obtain⟨g,rfl⟩:=f;exact PySem.W.ne_bytes (iT I q (congrArg not Bu))
  |_=>exact absurd (show false=true from l) bQ
 |_=>cases y<;>exact absurd (show false=true from l) bQ
theorem Nd:OpR X (compareOp .Lt) (rI0 fun i j=>.bl (decide (i<j))):=BV fun _ _ _ _ _ _ _ q=>lt_int q
theorem MM:OpR X (compareOp .LtE) (rI0 fun i j=>.bl (decide (i<=j))):=BV fun _ _ _ _ _ _ _ q=>le_int q
theorem MC:OpR X (compareOp .Gt) (rI0 fun i j=>.bl (decide (j<i))):=BV fun _ _ _ _ _ _ _ q=>gt_int q
theorem MI:OpR X (compareOp .GtE) (rI0 fun i j=>.bl (decide (j<=i))):=BV fun _ _ _ _ _ _ _ q=>ge_int q
theorem Fi:OpR X (compareOp .In) (fun x y H Q=>∃i j,x=.str i/\ y=.str j/\ Q (.bl (!(Builtin.Str.occurrences j i 0 j.length 1).isEmpty)) H):=by
 intro w s o H x y v u Q I f g h
 obtain⟨i,j,rfl,rfl,q⟩:=h
 obtain⟨t,rfl⟩:=f
 obtain⟨l,rfl⟩:=g
 exact in_str (iT I q rfl)
theorem zm:OpR X (compareOp .NotIn) (fun x y H Q=>∃i j,x=.str i/\ y=.str j/\ Q (.bl (!(!(Builtin.Str.occurrences j i 0 j.length 1).isEmpty))) H):=by
 intro w s o H x y v u Q I f g h
 obtain⟨i,j,rfl,rfl,q⟩:=h
 obtain⟨t,rfl⟩:=f
 obtain⟨l,rfl⟩:=g
 exact notIn_str (iT I q rfl)
theorem ik(b:Expr){f:CmpOp}(h:f≠.In:=by decide)(l:f≠.NotIn:=by decide):behindInMarks f b=false:=by
 have g:(f == CmpOp.In)=false:=by cases f<;>first|rfl|exact absurd rfl h
 have o:(f == CmpOp.NotIn)=false:=by cases f<;>first|rfl|exact absurd rfl l
 cases b<;>simp[behindInMarks,g,o]
theorem ki{f:CmpOp}{r:R2}(l:OpR X (compareOp f) r)(ha:PE X a ta)(o:PE X b tb)(B:behindInMarks f b=false):PE X (.Compare a [f] [b] pos) (tOp r ta tb):=by
 intro E s C H Q I h
 exact wpAny_Compare1 (GX ha o I h fun v u w x y g D z A q=>l E w C g x y v u Q D z A q) B
def CJ(t:TE):TT:=fun σ H Q=>t σ H fun x H'=>∃k,x=.bl k/\ Q k H'
theorem Ja{f:CmpOp}{r:R2}(D:OpR X (compareOp f) r)(ha:PE X a ta)(E:PE X b tb)(G:behindInMarks f b=false):PT X (.Compare a [f] [b] pos) (CJ (tOp r ta tb)):=by
 intro l s g H Q I h
 refine wpAny_isTrue_Compare1 (thn (ha l s g H _ I h) fun v s1 ⟨x,L,O,N,M⟩=>thn (E l s1 g L _ O M) fun u F ⟨y,B,K,o,w⟩=>
  thn (D l F g B x y v u _ K N o w) fun c R ⟨z,P,C,J,k,e,A⟩=>?_) G
 subst e
 cases J
 exact wpAny_truthy_bool ⟨P,C,A⟩
theorem qI:(sizeLine:Nat)<2^63:=by rw[sizeLine_eq];decide
theorem Cs:OpR X (binaryOp .Add) (fun x y H Q=>∃i j,x=.str i/\ y=.str j/\ i.length+j.length<=sizeLine/\ Q (.str (i++j)) H):=by
 intro z s w H x y v u Q I g l h
 obtain⟨i,j,rfl,rfl,o,q⟩:=h
 obtain⟨t,rfl⟩:=g
 obtain⟨f,rfl⟩:=l
 exact add_str (fun f tk=>⟨.str (i++j),H,I.tok _,⟨_,rfl⟩,q⟩) o
theorem kr{x:V}{us:List Value}(r:iz [x] us):∃u,us=[u]/\ iB x u:=by
 cases r with
 |cons r1 r2=>cases r2;exact⟨_,rfl,r1⟩
theorem wd{x y:V}{us:List Value}(r:iz [x,y] us):∃u f,us=[u,f]/\ iB x u/\ iB y f:=by
 cases r with
 |cons r1 r2=>
  cases r2 with
  |cons r3 r4=>cases r4;exact⟨_,_,rfl,r1,r3⟩
theorem Hc:jr X (.builtin "abs") (fun xs H Q=>∃i,xs=[.int i]/\ Q (.int (if i<0 then -i else i)) H):=by
 intro f s l H xs g Q I r h
 obtain⟨i,rfl,q⟩:=h
 obtain⟨u,rfl,t,rfl⟩:=kr r
 exact call_abs_int fun u tk=>⟨.int (if i<0 then -i else i),H,I.tok _,⟨_,rfl⟩,q⟩
theorem DA(f:X.calm=true):jr X (.builtin "max") (fun xs H Q=>∃i j,xs=[.int i,.int j]/\ Q (.int (if j>i then j else i)) H):=by
 intro A s w H xs o Q I r h
 obtain⟨i,j,rfl,q⟩:=h
 obtain⟨u,z,rfl,⟨t,rfl⟩,⟨l,rfl⟩⟩:=wd r
 refine max_two_ints (I.ok.hd f) fun g tk k=>⟨_,H,I.kept k,?_,q⟩
 by_cases hj:j>i
 ·rw[if_pos hj,if_pos hj];exact⟨_,rfl⟩
 ·rw[if_neg hj,if_neg hj];exact⟨_,rfl⟩
theorem Fe(f:X.calm=true):jr X (.builtin "min") (fun xs H Q=>∃i j,xs=[.int i,.int j]/\ Q (.int (if j<i then j else i)) H):=by
 intro A s w H xs o Q I r h
 obtain⟨i,j,rfl,q⟩:=h
 obtain⟨u,z,rfl,⟨t,rfl⟩,⟨l,rfl⟩⟩:=wd r
 refine min_two_ints (I.ok.hd f) fun g tk k=>⟨_,H,I.kept k,?_,q⟩
 by_cases hj:j<i
 ·rw[if_pos hj,if_pos hj];exact⟨_,rfl⟩
 ·rw[if_neg hj,if_neg hj];exact⟨_,rfl⟩
theorem DK:jr X (.type "int") (fun xs H Q=>(∃i,xs=[.int i]/\ Q (.int i) H)∨∃k,xs=[.bl k]/\ Q (.int (if k then 1 else 0)) H):=by
 intro o s l H xs g Q I r h
 rcases h with⟨i,rfl,q⟩|⟨k,rfl,q⟩
 ·obtain⟨u,rfl,t,rfl⟩:=kr r
  exact call_int_int ⟨.int i,H,I,⟨_,rfl⟩,q⟩
 ·obtain⟨u,rfl,f⟩:=kr r
  cases f
  exact call_int_bool ⟨.int (if k then 1 else 0),H,I.tok _,⟨_,rfl⟩,q⟩
theorem yD:jr X (.type "str") (fun xs H Q=>∃i,xs=[.int i]/\ i.natAbs.log2<1920/\ Q (.str (toString i)) H):=by
 intro g s o H xs l Q I r h
 obtain⟨i,rfl,f,q⟩:=h
 obtain⟨u,rfl,t,rfl⟩:=kr r
 exact PySem.P.str_of_int f ⟨.str _,H,I.tok _,⟨_,rfl⟩,q⟩
end
structure vJ(h:Heap)(x dx C:Addr)(mA:Str ->Option Value):Prop where
 obj:h.get? x=some (dU C dx)
 ns:h.Ns1 dx mA
 ne:dx≠x
theorem DI{h:Heap}{w:Addr}{l:Str ->Option Value}(n:h.Ns1 w l):∃g,h.get? w=some g/\ ∀name,gi name g=some (l name):=by
 obtain⟨o,f,G,A,D,E,_,B⟩:=n
 refine⟨o,A,fun name=>?_⟩
 have e:=B name
 unfold nsFind findBy at e
 rw[←Array.find?_toList] at e
 unfold gi
 rw[D]
 dsimp only
 split
 ·rename_i y q
  rw[q] at e
  exact congrArg some e
 ·rename_i q
  rw[q] at e
  have a:f.toList.any (·.refKey)=false:=by
   rw[List.any_eq_false]
   intro y F
   obtain⟨z,t,b⟩:=E y (Array.mem_toList_iff.mp F)
   simp[DictEntry.refKey,b]
  have C:¬f.toList.any (·.refKey)=true:=by rw[a];exact bQ
  rw[if_neg C]
  exact congrArg some e
theorem vJ.look{h:Heap}{x f C:Addr}{g:Str ->Option Value}(I:vJ h x f C g):∃b,PySem.W.InstAt h x (dU C f) C (some b)/\ ∀name,gi name b=some (g name):=
 let⟨b,ho,hl⟩:=DI I.ns
 ⟨b,⟨I.obj,rfl,rfl,ho⟩,hl⟩
section
variable {prog:Program} {w:World} {A:Around} {E:Value ->Shared ->Prop} {s:Shared} {K:aW} {x dx C f:Addr} {mA:Str ->Option Value} {name:Str} {v:Value}
theorem Jz{b:Bool}{Q:Value ->Shared ->Prop}(X:K.In s.heap)(I:vJ s.heap x dx C mA)(z:fh K C name=true)(o:fK K C=true)
  (ha:bO K (.ref C) name=some none)(hv:mA name=some v)(g:PySem.W.handedIn v=true)(h:Q v {s with toks:=s.toks+1}):
  wpAny (model prog w) A (getAttr (.ref x) name b) Q E s:=by
 obtain⟨B,J,l⟩:=I.look
 exact PySem.W.get_value X J (gf z).1 (PySem.W.findObj_own o ha rfl (by rw[l,hv])) g h
theorem Gr{pl:Sem Bool}{Q:Value × List Value ->Shared ->Prop}(X:K.In s.heap)(I:vJ s.heap x dx C mA)(b:fh K C name=true)
  (l:bO K (.ref C) name=some (some (.ref f)))(o:cN K (.ref f)=true)(hv:mA name=none)(h:Q (.ref f,[.ref x]) s):
  wpAny (model prog w) A (getMethod (.ref x) name pl) Q E s:=by
 obtain⟨z,J,g⟩:=I.look
 exact PySem.W.method_fn X J (gf b).1 (gf b).2 l (beq_iff_eq.mp o) (by show(gi name z).map (·.isSome)=some false;rw[g,hv];rfl) h
theorem JC{ns:List Str}{Q:Unit ->Shared ->Prop}(X:K.In s.heap)(I:vJ s.heap x dx C mA)
  (F:bO K (.ref C) "__setattr__"=some (some (.builtin "object.__setattr__")))(O:gI K C=true)(G:gU K C name=some none)(L:fK K C=true)
  (N:PySem.Within mA ns)(hsz:ns.length<=sizeLine)
  (h:∀h',vJ h' x dx C (fun y=>if y=name then some v else mA y) ->Heap.SameBut dx s.heap h' ->Q () {s with heap:=h',toks:=s.toks+2}):
  wpAny (model prog w) A (setAttr (.ref x) name v) Q E s:=by
 obtain⟨T,J,Y⟩:=I.look
 refine PySem.W.set_plain X J F (PySem.W.osa_open (s:={s with toks:=s.toks+1}) (r:=none) X J O G fun b=>?_)
 obtain⟨S,R,z⟩:=PySem.W.any_some L
 have M:s.heap.get? x=some ⟨.ref C,some dx,.plain, #[]⟩:=I.obj
 refine wpAny_bind (wpAny_pure (wpAny_bind (wpAny_bind (wpAny_loadPart M (wpAny_bind (PySem.W.Looks.here (s:={s with toks:=s.toks+1}) (PySem.W.looks_clsIn X R) ?_))))))
 rw[z]
 refine wpAny_pure (a:=some dx) (wpAny_bind (wpAny_pure (wpAny_bind ?_)))
 refine wpAny_nsSet1 (s:={s with toks:=s.toks+1}) I.ns fun h' g l=>?_
 obtain⟨U,P,H,B,D,o⟩:=g.count (PySem.Within.cons name v N)
 refine wpAny_bind (wpAny_lookBehind B (by rw[D];exact pastItsLine_dict (bL o (by rw[bE];omega))) ?_)
 exact wpAny_pure (h _ ⟨(l.2 _ (Ne.symm I.ne)).trans I.obj,g,I.ne⟩ l)
theorem Hk{R:Result ->Shared ->Prop}{vs:List Value}{l:List (Str × Value)}(X:K.In s.heap)(B:fz K C=true)
  (z:bO K (.ref C) "__init__"=some (some (.ref f)))(o:PySem.W.typeIn K (.ref f)=some (.type "function"))
  (h:codeAny (model prog w) (A.under (.builtin "type.__call__" ⟨.ref C::vs,l⟩)) (.call (.ref f) ⟨.ref (s.heap.objs.size+1)::vs,l⟩) (PySem.W.InitBack (s.heap.objs.size+1) R)
   {s with heap:=(s.heap.push dy).push (dU C s.heap.objs.size)}):
  codeAny (model prog w) A (.call (.ref C) ⟨vs,l⟩) R s:=by
 obtain⟨F,g,d,t,D⟩:=s
 exact PySem.W.make_core (PySem.W.makes_of X B) (PySem.W.looks_findIn X z) (fun b=>PySem.W.bind_fn X b o) (.inl rfl) h
end
def lL(f:Str)(v:V):List (Str × V) ->List (Str × V)
 |[]=>[(f,v)]
 |(g,x)::r=>if g=f then(g,v)::r else(g,x)::lL f v r
theorem uI(f g:Str)(v:V):∀fs:List (Str × V),(lL f v fs).lookup g=if g=f then some v else fs.lookup g
 | []=>by
  show List.lookup g [(f,v)]=_
  by_cases h:g=f
  ·have b:(g == f)=true:=beq_iff_eq.mpr h
   simp only[List.lookup,b,if_pos h]
  ·have b:(g == f)=false:=beq_eq_false_iff_ne.mpr h
   simp only[List.lookup,b,if_neg h]
 | (k,x)::r=>by
  have ih:=uI f g v r
  rw[show lL f v ((k,x)::r)=(if k=f then(k,v)::r else(k,x)::lL f v r) from rfl]
  by_cases hk:k=f
  ·rw[if_pos hk]
   by_cases h:g=k
   ·have b:(g == k)=true:=beq_iff_eq.mpr h
    simp only[List.lookup,b,if_pos (h.trans hk)]
   ·have b:(g == k)=false:=beq_eq_false_iff_ne.mpr h
    simp only[List.lookup,b,if_neg (fun e:g=f=>h (e.trans hk.symm))]
  ·rw[if_neg hk]
   by_cases h:g=k
   ·have b:(g == k)=true:=beq_iff_eq.mpr h
    simp only[List.lookup,b,if_neg (fun e:g=f=>hk (h.symm.trans e))]
   ·have b:(g == k)=false:=beq_eq_false_iff_ne.mpr h
    simp only[List.lookup,b]
    exact ih
theorem sQ(f:Str)(v:V):∀fs:List (Str × V),f∈(lL f v fs).map (·.1)/\ ∀g,g∈fs.map (·.1) ->g∈(lL f v fs).map (·.1)
 |[]=>⟨by simp[lL],fun g h=>by simp at h⟩
 | (k,x)::r=>by
  obtain⟨l,b⟩:=sQ f v r
  rw[show lL f v ((k,x)::r)=(if k=f then(k,v)::r else(k,x)::lL f v r) from rfl]
  by_cases hk:k=f
  ·rw[if_pos hk]
   subst hk
   exact⟨by simp,fun g h=>by simpa using h⟩
  ·rw[if_neg hk]
   refine⟨?_,fun g h=>?_⟩
   ·rw[bH]
    exact bc _ l
   ·rw[bH] at h ⊢
    rcases bw.mp h with e|e
    ·exact bw.mpr (.inl e)
    ·exact bc _ (b g e)
theorem uL(f:Str)(v:V):∀fs:List (Str × V),(lL f v fs).length<=fs.length+1
 |[]=>by simp[lL]
 |(k,x)::r=>by
  have ih:=uL f v r
  rw[show lL f v ((k,x)::r)=(if k=f then(k,v)::r else(k,x)::lL f v r) from rfl]
  by_cases hk:k=f
  ·rw[if_pos hk,bE,bE];omega
  ·rw[if_neg hk,bE,bE];omega
theorem lK.some_of{v:V}{o:Option Value}(r:lK (some v) o):∃u,o=some u/\ iB v u:=by
 cases o with
 |none=>exact(show False from r).elim
 |some u=>exact⟨u,rfl,r⟩
theorem lK.none_of{o:Option Value}(r:lK none o):o=none:=by
 cases o with
 |none=>rfl
 |some u=>exact(show False from r).elim
theorem ES{v:V}{u:Value}(r:iB v u):PySem.W.handedIn u=true:=by
 cases v with
 |non=>cases (show u=Value.none from r);rfl
 |bl b=>cases (show u=Value.bool b from r);rfl
 |int i=>obtain⟨t,e⟩:=(show ∃t,u=Value.int i t from r);cases e;rfl
 |str x=>obtain⟨t,e⟩:=(show ∃t,u=Value.str x t from r);cases e;rfl
 |byt b=>obtain⟨t,e⟩:=(show ∃t,u=Value.bytes b t from r);cases e;rfl
 |flt b=>obtain⟨t,e⟩:=(show ∃t,u=Value.float b t from r);cases e;rfl
 |ref a=>cases (show u=Value.ref a from r);rfl
 |ty n=>cases (show u=Value.type n from r);rfl
section
variable {P:Program} {w:World} {H H':Hp} {h h':Heap} {a C dx:Addr} {fs fs':List (Str × V)}
theorem tS(g:HOk P w H h)(e:H a=some (.ins C dx fs)):∃b,vJ h a dx C b/\ (∀f,lK (fs.lookup f) (b f))/\ PySem.Within b (fs.map (·.1))/\ fs.length<=1000/\ H dx=some (.own a):=by
 obtain⟨d,z,ne,ob,b,n,r,q⟩:=(show js P w H h a (.ins C dx fs) from g a _ e)
 exact⟨b,⟨ob,n,ne⟩,r,q,z,d⟩
end
structure Cls(K:aW)(C:Addr):Prop where
 pg:fh K C Str.empty=true
 hd:fK K C=true
 po:gI K C=true
 sa:bO K (.ref C) "__setattr__"=some (some (.builtin "object.__setattr__"))
theorem Cls.get{K:aW}{C:Addr}(c:Cls K C)(f:Str):fh K C f=true:=c.pg
def md(K:aW)(C:Addr)(f:Str):Prop:=bO K (.ref C) f=some none
theorem md.taker{K:aW}{C:Addr}{f:Str}(n:md K C f):gU K C f=some none:=by
 unfold gU
 rw[show bO K (.ref C) f=some none from n]
 rfl
structure yZ(K:aW)(C:Addr)(m:Str)(f:Addr):Prop where
 at_:bO K (.ref C) m=some (some (.ref f))
 fn:cN K (.ref f)=true
 kp:cj K (.ref f)=true
section
variable {X:Cx} {gW:List (Addr × Obj)} {σ:St} {H:Hp} {s:Shared} {a C dx:Addr} {fs:List (Str × V)} {f:Str} {v:V} {A:Around} {E:Value ->Shared ->Prop}
theorem CS{b:Bool}{Q:Value ->Shared ->Prop}(I:Inv X gW σ H s)(e:H a=some (.ins C dx fs))(c:Cls X.K C)(n:md X.K C f)(l:fs.lookup f=some v)
  (h:∀u g,Inv X gW σ H g ->iB v u ->Q u g):wpAny (model X.prog X.w) A (getAttr (.ref a) f b) Q E s:=by
 obtain⟨D,O,r,_,_,_⟩:=tS I.hok e
 obtain⟨u,B,z⟩:=lK.some_of (v:=v) (o:=D f) (by rw[←l];exact r f)
 exact Jz I.kIn O (c.get f) c.hd n B (ES z) (h u _ (I.tok _) z)
theorem wq{m:Str}{g:Addr}{pl:Sem Bool}{Q:Value × List Value ->Shared ->Prop}(I:Inv X gW σ H s)(e:H a=some (.ins C dx fs))(c:Cls X.K C)(k:yZ X.K C m g)(l:fs.lookup m=none)
  (h:Q (.ref g,[.ref a]) s):wpAny (model X.prog X.w) A (getMethod (.ref a) m pl) Q E s:=by
 obtain⟨o,O,r,_,_,_⟩:=tS I.hok e
 have b:o m=none:=lK.none_of (by rw[←l];exact r m)
 exact Gr I.kIn O (c.get m) k.at_ k.fn b h
theorem Ca{y:V}{u:Value}{Q:Unit ->Shared ->Prop}(I:Inv X gW σ H s)(e:H a=some (.ins C dx fs))(c:Cls X.K C)(n:md X.K C f)(T:fs.length<1000)(M:iB y u)
  (h:∀F,Inv X gW σ (upd H a (.ins C dx (lL f y fs))) F ->Q () F):wpAny (model X.prog X.w) A (setAttr (.ref a) f u) Q E s:=by
 obtain⟨D,O,r,G,_,B⟩:=tS I.hok e
 have R:(fs.map (·.1)).length<=sizeLine:=by rw[aX,sizeLine_eq];omega
 refine JC I.kIn O c.sa c.po n.taker c.hd G R fun J l N=>h _ ?_
 have P:∃o,J.get? dx=some o:=let⟨o,_,_,e',_⟩:=l.ns;⟨o,e'⟩
 refine I.write (x:=a) (e:=dx) (by rw[e];exact True.intro) (.inr B) (fun b q L z=>(N.2 b L).trans z) P ?_
 refine⟨by rw[iM O.ne];exact B,?_,O.ne,l.obj,_,l.ns,fun g=>?_,fun g S=>?_⟩
 ·have:=uL f y fs;omega
 ·show lK ((lL f y fs).lookup g) (if g=f then some u else D g)
  rw[uI]
  by_cases q:g=f
  ·rw[if_pos q,if_pos q];exact M
  ·rw[if_neg q,if_neg q];exact r g
 ·by_cases q:g=f
  ·rw[q];exact(sQ f y fs).1
  ·refine(sQ f y fs).2 g (G g fun z=>S ?_)
   show(if g=f then some u else D g)=none
   rw[if_neg q];exact z
theorem Inv.made(I:Inv X gW σ H s):Inv X gW σ (upd (upd H s.heap.objs.size (.own (s.heap.objs.size+1))) (s.heap.objs.size+1) (.ins C s.heap.objs.size []))
  {s with heap:=(s.heap.push dy).push (dU C s.heap.objs.size)}:=by
 have g:(s.heap.push dy).get? s.heap.objs.size=some dy:=bu s.heap rfl
 have B:((s.heap.push dy).push (dU C s.heap.objs.size)).get? (s.heap.objs.size+1)=some (dU C s.heap.objs.size):=by
  have:=bu (s.heap.push dy) (o:=dU C s.heap.objs.size) rfl
  rwa [cC] at this
 have w:(s.heap.push dy).Ns s.heap.objs.size (fun _=>none):=⟨dy, #[],_,g,rfl,(fun e l=>absurd l (by simp)),fun _=>rfl⟩
 have z:=I.laid (a:=s.heap.objs.size) (o:=.own (s.heap.objs.size+1)) (h':=s.heap.push dy) (t':=s.toks) (fun b u q=>aY _ q) (bh _) ⟨_,g⟩
 refine z.laid (a:=s.heap.objs.size+1) (o:=.ins C s.heap.objs.size []) (t':=s.toks) (fun b u q=>aY _ q) (fB (cC _ _)) ?_
 have ne:s.heap.objs.size≠s.heap.objs.size+1:=bD (dO _)
 refine⟨by rw[iM ne,kI],cf _,ne,B,fun _=>none,(Heap.Ns1.of_empty w).at fun o q=>aY _ q,fun _=>True.intro,fun y h=>absurd rfl h⟩
theorem Ik{prog:Program}{w:World}{env:Env}{e:Expr}{f:Str}{pos:Pos}{s:Shared}{Q:Value ->Shared ->Prop}(g:attributeBase e f env (eval e env)=eval e env)
  (h:wpAny (model prog w) A (eval e env) (fun o b=>wpAny (model prog w) A (getAttr o f true) Q E b) E s):wpAny (model prog w) A (eval (.Attribute e f pos) env) Q E s:=
 Attribute_any_ h (by rw[arm_eval_Attribute,g])
end
def NN(K:aW)(ta:TE)(f:Str):TE:=fun σ H Q=>ta σ H fun x H1=>∃a C dx fs v,x=.ref a/\ H1 a=some (.ins C dx fs)/\ Cls K C/\ md K C f/\ fs.lookup f=some v/\ Q v H1
def NY(K:aW)(ta tv:TE)(f:Str):TS:=fun D σ H=>tv σ H fun y H1=>ta σ H1 fun x H2=>∃a C dx fs,x=.ref a/\ H2 a=some (.ins C dx fs)/\ Cls K C/\ md K C f/\ fs.length<1000/\
 D.nx σ (upd H2 a (.ins C dx (lL f y fs)))
section
variable {X:Cx} {o e value:Expr} {f:Str} {pos pos' tpos:Pos} {ta tv:TE}
theorem Lw(g:PE X e ta)(b:attributeBase e f X.env (eval e X.env)=eval e X.env):PE X (.Attribute e f pos) (NN X.K ta f):=by
 intro D s z H Q I h
 refine Ik b (thn (g D s z H _ I h) fun u s1 ⟨x,F,G,w,a,C,L,fs,v,E,A,c,n,l,q⟩=>?_)
 subst E
 obtain rfl:u=Value.ref a:=w
 exact CS G A c n l fun N M B J=>⟨v,F,B,J,q⟩
theorem JV(ha:PE X o ta)(hv:PE X value tv)(A:swapsWith value (some (.Attribute o f pos')) pos.line X.env=pure false):PS X (.Assign [.Attribute o f pos'] value pos) (NY X.K ta tv f):=by
 intro g s b H D I h
 refine plainObj_wpAny_Assign_Attribute (thn (hv g s b H _ I h) fun u s1 ⟨y,L,M,E,q⟩=>thn (ha g s1 b L _ M q) fun ov P ⟨x,N,G,B,a,C,O,fs,J,F,c,n,l,w⟩=>?_) A
 subst J
 obtain rfl:ov=Value.ref a:=B
 exact Ca G F c n l E fun Q z=>⟨b,_,z,w⟩
end
section
variable {X:Cx} {gW:List (Addr × Obj)} {σ:St} {H:Hp} {s:Shared} {A:Around} {E:Value ->Shared ->Prop} {Q:Value ->Shared ->Prop} {c:Value} {b:Bool}
inductive nB(K:aW)(H:Hp):V ->Value ->Prop where
 |non:nB K H .non (.type "NoneType")
 |bl (x:Bool):nB K H (.bl x) (.type "bool")
 |int (i:Int):nB K H (.int i) (.type "int")
 |str (x:Str):nB K H (.str x) (.type "str")
 |flt (x:UInt64):nB K H (.flt x) (.type "float")
 |lst {a:Addr} {xs:List V} (e:H a=some (.lst xs)):nB K H (.ref a) (.type "list")
 |frz {a:Addr} {o:Obj} {xs:List V} (e:H a=some (.frz o (.lst xs))):nB K H (.ref a) (.type "list")
 |tup {a:Addr} {xs:List V} (e:H a=some (.tup xs)):nB K H (.ref a) (.type "tuple")
 |dK {a:Addr} {kvs:List (Key × V)} (e:H a=some (.dK kvs)):nB K H (.ref a) (.type "dict")
 |dT {a:Addr} {kvs:List (List Key × V)} (e:H a=some (.dT kvs)):nB K H (.ref a) (.type "dict")
 | ins {a C dx:Addr} {fs:List (Str × V)} (e:H a=some (.ins C dx fs)) (cl:Cls K C) (ha:bO K (.ref C) "__class__"=some (some (.builtin "object.__class__")))
   (hn:PySem.W.specialIn K (.builtin "object.__class__") "__get__"=some (some (.builtin "getset_descriptor.__get__"))) (htk:PySem.W.takesIn K (.builtin "object.__class__")=some true)
   (hm:PySem.W.mroIn K C (.type "object")=some true):nB K H (.ref a) (.ref C)
theorem lJ{x:V}{u t:Value}(I:Inv X gW σ H s)(f:iB x u)(ty:nB X.K H x t)(e:dE X.K t c=some b)(h:∀tk,Q (.bool b) {s with toks:=tk}):
  wpAny (model X.prog X.w) A (call (.builtin "isinstance") [u,c]) Q E s:=by
 cases ty with
 |non=>cases (show u=Value.none from f);exact cY PySem.W.kitx_none I.kIn True.intro e (fun z=>nomatch z) h
 |bl y=>cases (show u=Value.bool y from f);exact cY PySem.W.kitx_bool I.kIn True.intro e (fun z=>nomatch z) h
 |int i=>obtain⟨t,q⟩:=(show ∃t,u=Value.int i t from f);cases q;exact cY PySem.W.kitx_int I.kIn True.intro e (fun z=>nomatch z) h
 |str y=>obtain⟨t,q⟩:=(show ∃t,u=Value.str y t from f);cases q;exact cY PySem.W.kitx_str I.kIn True.intro e (fun z=>nomatch z) h
 |flt y=>obtain⟨t,q⟩:=(show ∃t,u=Value.float y t from f);cases q;exact cY PySem.W.kitx_float I.kIn True.intro e (fun z=>nomatch z) h
 | @lst a g ea=>
  cases (show u=Value.ref a from f)
  obtain⟨_,_,n,_,h1⟩:=(show js X.prog X.w H s.heap a (.lst g) from I.hok a _ ea)
  exact cY PySem.W.kitx_list I.kIn ⟨_,h1,rfl⟩ e (fun z=>nomatch z) h
 | @frz a ob g ea=>
  cases (show u=Value.ref a from f)
  obtain⟨_,_,_,n,_,h1⟩:=(show js X.prog X.w H s.heap a (.frz ob (.lst g)) from I.hok a _ ea)
  exact cY PySem.W.kitx_list I.kIn ⟨_,h1,rfl⟩ e (fun z=>nomatch z) h
 | @tup a g ea=>
  cases (show u=Value.ref a from f)
  obtain⟨_,_,_,p⟩:=(show js X.prog X.w H s.heap a (.tup g) from I.hok a _ ea)
  obtain⟨o,h1,l,_⟩:=p
  exact cY PySem.W.kitx_tuple I.kIn ⟨o,h1,l⟩ e (fun z=>nomatch z) h
 | @dK a kvs ea=>
  cases (show u=Value.ref a from f)
  obtain⟨_,_,G,_,p⟩:=(show js X.prog X.w H s.heap a (.dK kvs) from I.hok a _ ea)
  obtain⟨o,B,D,h1,l,_⟩:=p
  exact cY PySem.W.kitx_dict I.kIn ⟨o,h1,l.1⟩ e (fun z=>nomatch z) h
 | @dT a kvs ea=>
  cases (show u=Value.ref a from f)
  obtain⟨_,_,g,_,o,B,D,h1,l,_⟩:=(show js X.prog X.w H s.heap a (.dT kvs) from I.hok a _ ea)
  exact cY PySem.W.kitx_dict I.kIn ⟨o,h1,l.1⟩ e (fun z=>nomatch z) h
 | @ins a C dx fs ea cl ha hn htk hm=>
  cases (show u=Value.ref a from f)
  obtain⟨L,O,_⟩:=tS I.hok ea
  obtain⟨F,J,_⟩:=O.look
  exact cY (PySem.W.kitx_own (cl.get _) cl.hd ha hn htk hm) I.kIn J e (fun z=>nomatch z) h
end
structure jw(k:Nat)(A:Around):Prop where
 hd:A.handled=none
 dp:A.depth+3*k+5<recursionLimit
 un:A.units+16*k+200<cLine
theorem jw.mono{j k:Nat}{A:Around}(r:jw k A)(h:j<=k):jw j A:=⟨r.hd,by have:=r.dp;omega,by have:=r.un;omega⟩
theorem jw.deeper{k:Nat}{A:Around}(r:jw (k+1) A)(env:Env):jw k (A.deeper env):=
 ⟨r.hd,by have:=r.dp;show A.depth+1+3*k+5<_;omega,by have:=r.un;show A.units+3+16*k+200<_;omega⟩
theorem Co{A:Around}{C:Addr}{us:List Value}{b:List (Str × Value)}:(A.under (.builtin "type.__call__" ⟨.ref C::us,b⟩)).depth=A.depth+1:=by
 first|rfl|simp[Around.under,Code.weight,Code.isCreation,Code.isGuard,Code.isCaller,Code.frames,Code.isFrame,guardIds]
theorem CA{A:Around}{C:Addr}{us:List Value}{b:List (Str × Value)}:(A.under (.builtin "type.__call__" ⟨.ref C::us,b⟩)).units=A.units+1:=by
 first|rfl|simp[Around.under,Code.cUnits,Code.frames,Code.isFrame]
theorem jw.make{k:Nat}{A:Around}(r:jw (k+1) A)(C:Addr)(us:List Value)(b:List (Str × Value)):jw k (A.under (.builtin "type.__call__" ⟨.ref C::us,b⟩)):=
 ⟨r.hd,by have:=r.dp;rw[Co];omega,by have:=r.un;rw[CA];omega⟩
theorem jw.depth{k:Nat}{A:Around}(r:jw k A):A.depth<recursionLimit:=by have:=r.dp;omega
theorem jw.units{k:Nat}{A:Around}(r:jw k A):A.units+64<cLine:=by have:=r.un;omega
theorem jw.units0{k:Nat}{A:Around}(r:jw k A):A.units<cLine:=by have:=r.un;omega
def wV:TA:=fun _ H Q=>Q [] H
def HG(ta:TE)(tr:TA):TA:=fun σ H Q=>ta σ H fun x H1=>tr σ H1 fun xs H2=>Q (x::xs) H2
section
variable {X:Cx} {e:Expr} {es:List Expr} {te:TE} {t:TA} {pos:Pos}
theorem gY:PA X [] wV:=fun _ _ _ _ H Q I h=>Calls.spliced_nil ⟨[],H,I,.nil,h⟩
theorem gX(ha:PE X e te)(B:PA X es t)(z:starEach (e::es) X.env=(false,eval e X.env)::starEach es X.env:=by rfl):PA X (e::es) (HG te t):=by
 intro pos f s b H Q I h
 rw[z]
 show wpAny _ _ (spliced ((false,eval e X.env)::backTo pos (starEach es X.env))) _ _ s
 refine Calls.spliced_cons (thn (ha f s b H _ I h) fun u s1 ⟨x,C,F,E,D⟩=>?_)
 exact thn (B pos f s1 b C _ F D) fun J G ⟨o,w,A,g,l⟩=>⟨x::o,w,A,.cons E g,l⟩
def Gg(t:TA):TE:=fun σ H Q=>t σ H fun xs H1=>xs.length<=sizeLine/\ ∀p,H1 p=none ->Q (.ref p) (upd H1 p (.tup xs))
def Gn(t:TA):TE:=fun σ H Q=>t σ H fun xs H1=>xs.length<=sizeLine/\ ∀p,H1 p=none ->Q (.ref p) (upd H1 p (.lst xs))
theorem LU{x1}(h:PA X es t):PE X (.Tuple es x1 pos) (Gg t):=by
 intro C s B H Q I w
 refine wpAny_Tuple_spliced (thn (h pos C s B H _ I w) fun A s1 ⟨l,f,g,r,z,q⟩=>⟨by rw[←r.length];exact z,?_⟩)
 have o:f s1.heap.objs.size=none:=g.hok.fresh (bh _)
 refine⟨.ref s1.heap.objs.size,upd f s1.heap.objs.size (.tup l),g.laid (t':=s1.toks) (fun b u e=>aY _ e) (bh _) ?_,rfl,q _ o⟩
 exact⟨z,A,r,⟨_,bu _ rfl,rfl,_,rfl⟩⟩
theorem Kz(h:PA X es t):PE X (.List es pos) (Gn t):=by
 intro C s B H Q I w
 refine wpAny_List_spliced (thn (h pos C s B H _ I w) fun A s1 ⟨l,f,g,r,z,q⟩=>⟨by rw[←r.length];exact z,?_⟩)
 have o:f s1.heap.objs.size=none:=g.hok.fresh (bh _)
 refine⟨.ref s1.heap.objs.size,upd f s1.heap.objs.size (.lst l),g.laid (t':=s1.toks) (fun b u e=>aY _ e) (bh _) ?_,rfl,q _ o⟩
 exact⟨z,A,0,r,bu _ rfl⟩
end
abbrev Sp:=List V ->Hp ->VK ->XK ->Prop
abbrev CXT:=List Env ->Hp ->Shared ->XK ->Value ->Shared ->Prop
set_option genInjectivity false in
structure vf(P:Program)(w:World)(K:aW)(mg:Str ->Option Value)(base:Heap)(A:Around)(outer:List Env)(s:Shared)(H:Hp):Prop where
 frames:A.frames=some outer
 mod:Mod K mg base
 bs:∀b o,base.get? b=some o ->s.heap.get? b=some o/\ H b=none
 bsz:base.objs.size<=s.heap.objs.size
 funs:s.heap.FunFrames base outer
 frf:∀b∈frs outer,H b=none
 hok:HOk P w H s.heap
 bare:AllBare s.gens
def CE(outer:List Env)(P:Program)(w:World)(H:Hp)(s:Shared)(Q:VK)(u:Value)(s':Shared):Prop:=
 ∃v H',s'.os=s.os/\ AllBare s'.gens/\ Un (frs outer) [] H H' s.heap s'.heap/\ HOk P w H' s'.heap/\ iB v u/\ Q v H'
def CR(CX:CXT)(outer:List Env)(P:Program)(w:World)(H:Hp)(s:Shared)(Q:VK)(E:XK)(r:Result)(s':Shared):Prop:=
 match r with
 | .ok (.ret u)=>CE outer P w H s Q u s'
 | .ok _=>False
 | .error e=>CX outer H s E e s'
structure lV(P:Program)(w:World)(K:aW)(mg:Str ->Option Value)(base:Heap)(CX:CXT)(k:Nat)(f:Addr)(fd:FuncData)(ps:List Str)(sp:Sp):Prop where
 len:∀vs H Q E,sp vs H Q E ->vs.length=ps.length
 run:∀(A:Around) (outer:List Env) (s:Shared) (H:Hp) (args:Args) (us:List Value) (vs:List V) (Q:VK) (E:XK),jw k A ->vf P w K mg base A outer s H ->BindsTo s fd args (ps.zip us) ->iz vs us ->sp vs H Q E ->
  codeAny (model P w) A (.call (.ref f) args) (CR CX outer P w H s Q E) s
theorem vf.make{P:Program}{w:World}{K:aW}{b:Str ->Option Value}{base:Heap}{A:Around}{outer:List Env}{s:Shared}{H:Hp}(e:vf P w K b base A outer s H)(C:Addr)(us:List Value)(f:List (Str × Value)):
  vf P w K b base (A.under (.builtin "type.__call__" ⟨.ref C::us,f⟩)) outer s H:=⟨by first|exact e.frames|(simpa [Around.under,Code.envs,Code.isFrame,pushEnvs] using e.frames),e.mod,e.bs,e.bsz,e.funs,e.frf,e.hok,e.bare⟩
section
variable {X:Cx} {gW:List (Addr × Obj)} {σ:St} {H:Hp} {s s':Shared}
theorem Inv.env0(I:Inv X gW σ H s):vf X.prog X.w X.K X.mg X.base X.A X.stack s H:=
 ⟨I.ok.frames,I.ok.mod,I.bs,bL I.ok.bsz I.sz,I.stack,I.stkFree,I.hok,I.bare⟩
theorem Inv.after{Q:VK}{u:Value}(I:Inv X gW σ H s)(h:CE X.stack X.prog X.w H s Q u s'):EP X gW σ Q u s':=by
 obtain⟨v,A,B,bare,un,f,r,q⟩:=h
 obtain⟨o,g,d,t,l⟩:=s'
 obtain rfl:l=s.os:=B
 exact⟨v,A,I.call (h':=o) (g':=g) (d':=d) (t':=t) (ch:=[]) un f bare (fun b z=>absurd z (by simp)),r,q⟩
end
def BP(sp:Sp)(dvs:List V)(E:XK)(t:TA):TE:=fun σ H Q=>t σ H fun vs H1=>sp (vs++dvs) H1 Q E
def HV(C:Addr)(m:Str)(sp:Sp)(dvs:List V)(E:XK)(ta:TE)(t:TA):TE:=fun σ H Q=>ta σ H fun x H1=>∃a dx fs,x=.ref a/\ H1 a=some (.ins C dx fs)/\ fs.lookup m=none/\
 t σ H1 fun vs H2=>sp (x::(vs++dvs)) H2 Q E
def HZ(C:Addr)(sp:Sp)(dvs:List V)(E:XK)(t:TA):TE:=fun σ H Q=>t σ H fun vs H1=>∀x dx,H1 x=none ->H1 dx=none ->dx≠x ->
 sp (.ref x::(vs++dvs)) (upd (upd H1 dx (.own x)) x (.ins C dx [])) (fun v H2=>v=.non/\ Q (.ref x) H2) E
def nU(K:aW)(fd:FuncData)(ps:List Str)(ds:List Value):Prop:=
 ∀(s:Shared) (us:List Value),K.In s.heap ->(us++ds).length=ps.length ->BindsTo s fd ⟨us,[]⟩ (ps.zip (us++ds))
theorem nU.all{K:aW}{f:FuncData}{ps:List Str}(h:∀us:List Value,us.length=ps.length ->bindArgs f ⟨us,[]⟩=pure (ps.zip us)):nU K f ps []:=fun s us _ b=>by
 rw[cT] at b ⊢
 exact .of_eq (h us b)
def oj(CX:CXT)(X:Cx)(E:XK):Prop:=∀(gW:List (Addr × Obj)) (σ:St) (H:Hp) (s:Shared) (e:Value) (s':Shared),Inv X gW σ H s ->CX X.stack H s E e s' ->X.xe e s'
section
variable {X:Cx} {CX:CXT} {k:Nat} {f C:Addr} {fd:FuncData} {ps:List Str} {sp:Sp} {dvs:List V} {ds:List Value} {E:XK} {x m:Str} {p pos apos:Pos} {e o:Expr} {es:List Expr} {ta:TE} {t:TA}
theorem Au{g:List (Addr × Obj)}{σ:St}{H:Hp}{s:Shared}{Q:VK}{us:List Value}{vs:List V}(F:lV X.prog X.w X.K X.mg X.base CX k f fd ps sp)(L:jw k X.A)(z:nU X.K fd ps ds)(D:iz dvs ds)(B:oj CX X E)
  (I:Inv X g σ H s)(r:iz vs us)(h:sp (vs++dvs) H Q E):wpAny (model X.prog X.w) X.A (call (.ref f) us) (EP X g σ Q) X.xe s:=by
 have l:iz (vs++dvs) (us++ds):=r.append D
 have G:(us++ds).length=ps.length:=by rw[←l.length];exact F.len _ _ _ _ h
 refine wpAny_call (codeAny_mono (F.run X.A X.stack s H ⟨us,[]⟩ (us++ds) (vs++dvs) Q E L I.env0 (z s us I.kIn G) l h) fun r J b=>?_)
 cases r with
 |error e=>exact B g σ H s e J I b
 |ok fl=>
  cases fl with
  |ret u=>exact I.after b
  |next=>exact False.elim b
  |brk=>exact False.elim b
  |cont=>exact False.elim b
theorem Bc(F:lV X.prog X.w X.K X.mg X.base CX k f fd ps sp)(O:jw k X.A)(P:Gl X x)(D:X.mg x=some (.ref f))(L:cj X.K (.ref f)=true)(z:nU X.K fd ps ds)(J:iz dvs ds)(M:oj CX X E)
  (ha:PA X (e::es) t)(b:(x == ("__debug__":Str))=false:=by decide)(B:starEach (e::es) X.env=(false,eval e X.env)::starEach es X.env:=by rfl)(g:(backTo pos (starEach es X.env)).any (·.1)=false:=by rfl):
  PE X (.Call (.Name x p) (e::es) [] pos) (BP sp dvs E t):=by
 intro N s G H Q I h
 refine wpAny_Call_Name_kw (tX I P D ?_ b)
 refine PySem.W.callWith_K (h₀:=X.base) I.ok.mod.kin L (thn (ha pos N s G H _ I h) fun R s1 ⟨S,T,l,r,q⟩=>⟨l.kIn,?_⟩) B g
 exact Au F O z J M l r q
theorem Ij{pl:Sem Bool}(L:PE X o ta)(c:Cls X.K C)(z:yZ X.K C m f)(F:lV X.prog X.w X.K X.mg X.base CX k f fd ps sp)(N:jw k X.A)(R:nU X.K fd ps ds)(T:iz dvs ds)(M:oj CX X E)(ha:PA X (e::es) t)
  (g:starEach (e::es) X.env=(false,eval e X.env)::starEach es X.env:=by rfl)(b:(backTo pos (starEach es X.env)).any (·.1)=false:=by rfl)
  (P:eval (.Call (.Attribute o m apos) (e::es) [] pos) X.env=(do
   let ov ←eval o X.env
   standAt apos.atName
   let(f,first) ←holding [ov] (getMethod ov m pl)
   callWith pos f first (backTo pos (starEach (e::es) X.env)) (backToKw pos (keywordEach [] X.env))):=by rfl):
  PE X (.Call (.Attribute o m apos) (e::es) [] pos) (HV C m sp dvs E ta t):=by
 intro D s G H Q I h
 refine PySem.W.methodCall_KW (pl:=pl) (thn (L D s G H _ I h) fun u s1 ⟨x,Z,J,S,a,dx,fs,Y,U,l,q⟩=>?_) P
 subst Y
 obtain rfl:u=Value.ref a:=S
 refine wq J U c z l ?_
 refine PySem.W.callWith_K (first:=[.ref a]) (h₀:=X.base) I.ok.mod.kin z.kp (thn (ha pos D s1 G Z _ J q) fun us s2 ⟨vs,H2,B,r,O⟩=>⟨B.kIn,?_⟩) g b
 exact Au (us:=.ref a::us) (vs:=.ref a::vs) F N R T M B (.cons rfl r) O
theorem Hr{pl:Sem Bool}(D:PE X o ta)(c:Cls X.K C)(g:yZ X.K C m f)(F:lV X.prog X.w X.K X.mg X.base CX k f fd ps sp)(R:jw k X.A)(B:nU X.K fd ps ds)(L:iz dvs ds)(M:oj CX X E)
  (z:eval (.Call (.Attribute o m apos) [] [] pos) X.env=(do
   let ov ←eval o X.env
   standAt apos.atName
   let(f,first) ←holding [ov] (getMethod ov m pl)
   callWith pos f first (backTo pos (starEach [] X.env)) (backToKw pos (keywordEach [] X.env))):=by rfl):
  PE X (.Call (.Attribute o m apos) [] [] pos) (HV C m sp dvs E ta wV):=by
 intro O s J H Q I h
 refine PySem.W.methodCall_KW (pl:=pl) (thn (D O s J H _ I h) fun u s1 ⟨x,T,b,G,a,S,fs,P,N,l,q⟩=>?_) z
 subst P
 obtain rfl:u=Value.ref a:=G
 refine wq b N c g l ?_
 exact PySem.W.callWith_K0 (first:=[.ref a]) b.kIn g.kp (Au (us:=[.ref a]) (vs:=[.ref a]) F R B L M b (.cons rfl .nil) q)
structure Mk(K:aW)(C f:Addr):Prop where
 makes:fz K C=true
 init:bO K (.ref C) "__init__"=some (some (.ref f))
 fn:cN K (.ref f)=true
 kp:cj K (.ref C)=true
theorem FD{z:List (Addr × Obj)}{σ:St}{H:Hp}{s:Shared}{Q:VK}{us:List Value}{vs:List V}(M:Mk X.K C f)(F:lV X.prog X.w X.K X.mg X.base CX k f fd ps sp)(Y:jw (k+1) X.A)(O:nU X.K fd ps ds)(P:iz dvs ds)
  (W:oj CX X E)(I:Inv X z σ H s)(r:iz vs us)
  (h:∀x g,H x=none ->H g=none ->g≠x ->sp (.ref x::(vs++dvs)) (upd (upd H g (.own x)) x (.ins C g [])) (fun v L=>v=.non/\ Q (.ref x) L) E):
  wpAny (model X.prog X.w) X.A (call (.ref C) us) (EP X z σ Q) X.xe s:=by
 have D:=h (s.heap.objs.size+1) s.heap.objs.size (I.hok.fresh (dN _)) (I.hok.fresh (bh _)) (bD (dO _))
 have l:=Inv.made (C:=C) I
 have B:iz (V.ref (s.heap.objs.size+1)::(vs++dvs)) (Value.ref (s.heap.objs.size+1)::(us++ds)):=.cons rfl (r.append P)
 have S:(Value.ref (s.heap.objs.size+1)::us++ds).length=ps.length:=by
  have e:=B.length
  rw[F.len _ _ _ _ D] at e
  exact e.symm
 refine wpAny_call (Hk (f:=f) I.kIn M.makes M.init (beq_iff_eq.mp M.fn) (codeAny_mono (F.run _ X.stack _ _ ⟨Value.ref (s.heap.objs.size+1)::us,[]⟩ (Value.ref (s.heap.objs.size+1)::(us++ds)) _ _ E (Y.make C us [])
  (l.env0.make C us []) (O _ (Value.ref (s.heap.objs.size+1)::us) l.kIn S) B D) fun r U b=>?_))
 cases r with
 |error e=>exact W z σ _ _ e U l b
 | ok fl=>
  cases fl with
  |ret u=>
   obtain⟨v,R,N,J,T,G⟩:=l.after b
   subst T
   exact⟨J,⟨V.ref (s.heap.objs.size+1),R,N,rfl,G⟩⟩
  |next=>exact False.elim b
  |brk=>exact False.elim b
  |cont=>exact False.elim b
theorem He(M:Mk X.K C f)(F:lV X.prog X.w X.K X.mg X.base CX k f fd ps sp)(B:jw (k+1) X.A)(D:Gl X x)(G:X.mg x=some (.ref C))(z:nU X.K fd ps ds)(l:iz dvs ds)(g:oj CX X E)
  (b:(x == ("__debug__":Str))=false:=by decide):PE X (.Call (.Name x p) [] [] pos) (HZ C sp dvs E wV):=by
 intro J s L H Q I h
 refine wpAny_Call_Name_kw (tX I D G ?_ b)
 exact PySem.W.callWith_K0 I.kIn M.kp (FD (us:=[]) M F B z l g I .nil h)
end
section
variable {X:Cx} {CX:CXT} {k:Nat} {f C:Addr} {fd:FuncData} {ps ks:List Str} {sp:Sp} {E:XK} {x m:Str} {p pos apos kpos:Pos} {e o:Expr} {es:List Expr} {kws:List Keyword} {te ta:TE} {t tk:TA} {nm:Option Str}
variable {g:List Value ->List Value ->List Value} {gV:List V ->List V ->List V}
end
structure im(N P:List Str)(sc:Scope):Prop where
 kind:sc.kind=.function
 co:sc.isCoroutine=false
 gen:sc.isGenerator=false
 nd:N.Nodup
 pre:N.take P.length=P
 par:∀x∈P,sc.names.lookup x=some .local∨sc.names.lookup x=some .cell
 nofree:∀y∈sc.names,y.2≠.free
theorem xw{b:Str ->Option NameKind}{x:Str}:∀{binds:List (Str × Value)} {m:Str ->Option Value},(∀v,(x,v)∉binds) ->bindL b binds m x=m x
 |[],_,_=>rfl
 | (n,v)::r,m,h=>by
  unfold bindL
  rw[xw fun w f=>h w (bc _ f)]
  split
  ·have:x≠n:=by rintro rfl;exact h v bj
   simp[this]
  ·rfl
theorem xA{b:Str ->Option NameKind}{x:Str}:∀{binds:List (Str × Value)} {m:Str ->Option Value},(∀v,(x,v)∉binds) ->bindC b binds m x=m x
 |[],_,_=>rfl
 | (n,v)::r,m,h=>by
  unfold bindC
  rw[xA fun w f=>h w (bc _ f)]
  split
  ·rfl
  ·have:x≠n:=by rintro rfl;exact h v bj
   simp[this]
theorem xC{b:Str ->Option NameKind}{x:Str}{v:Value}:∀{P:List Str} {vs:List Value} {i:Nat} {m:Str ->Option Value},P.Nodup ->P[i]? =some x ->vs[i]? =some v ->b x=some .local ->
  bindL b (P.zip vs) m x=some v
 |[],_,_,_,_,h,_,_=>by simp at h
 |_::_,[],_,_,_,_,h,_=>by simp at h
 |p::P,w::vs,0,m,nd,h1,h2,hk=>by
  simp at h1 h2;subst h1;subst h2
  show bindL b ((p,w)::P.zip vs) m p=_
  unfold bindL
  rw[xw fun v hv=>(df.mp nd).1 (List.of_mem_zip hv).1,if_pos hk]
  simp
 |p::P,w::vs,i+1,m,nd,h1,h2,hk=>by
  show bindL b ((p,w)::P.zip vs) m x=_
  unfold bindL
  exact xC (i:=i) (df.mp nd).2 (by simpa using h1) (by simpa using h2) hk
theorem xS{b:Str ->Option NameKind}{x:Str}{v:Value}:∀{P:List Str} {vs:List Value} {i:Nat} {m:Str ->Option Value},P.Nodup ->P[i]? =some x ->vs[i]? =some v ->b x≠some .local ->
  bindC b (P.zip vs) m x=some v
 |[],_,_,_,_,h,_,_=>by simp at h
 |_::_,[],_,_,_,_,h,_=>by simp at h
 |p::P,w::vs,0,m,nd,h1,h2,hk=>by
  simp at h1 h2;subst h1;subst h2
  show bindC b ((p,w)::P.zip vs) m p=_
  unfold bindC
  rw[xA fun v hv=>(df.mp nd).1 (List.of_mem_zip hv).1,if_neg hk]
  simp
 |p::P,w::vs,i+1,m,nd,h1,h2,hk=>by
  show bindC b ((p,w)::P.zip vs) m x=_
  unfold bindC
  exact xS (i:=i) (df.mp nd).2 (by simpa using h1) (by simpa using h2) hk
def oz(N:List Str)(vs:List V):St:=vs.map some++bA (N.length - vs.length) none
def iU(CX:CXT)(P:Program)(w:World)(K:aW)(mg:Str ->Option Value)(base:Heap)(N:List Str)(qual:Str)(scope:Scope)(f:Addr)(cd:Value)(A:Around)(outer:List Env)(s:Shared)(H:Hp)(E:XK):Cx where
 prog:=P
 w:=w
 K:=K
 mg:=mg
 base:=base
 A:=A.deeper (envOfC qual scope s.heap.objs.size f cd)
 N:=N
 s₀:=s
 H₀:=H
 env:=envOfC qual scope s.heap.objs.size f cd
 outer:=outer
 stack:=envOfC qual scope s.heap.objs.size f cd::outer
 ex:=[]
 calm:=true
 fn:=fun _=>true
 pn:=[]
 xe:=fun e s'=>wpAny (model P w) (A.deeper (envOfC qual scope s.heap.objs.size f cd)) (leaving (envOfC qual scope s.heap.objs.size f cd) e) (fun _ s''=>CX outer H s E e s'') (fun e' s''=>CX outer H s E e' s'') s'
theorem Ae{b:Scope}{n:Nat}{x:Str}(h:b.names.lookup x=some .cell):∃c,(cellsFrom n b.names []).lookup x=some c:=by
 have q:=PySem.W.cellsFrom_some b.names n [] (.inl h)
 exact Option.isSome_iff_exists.mp q
theorem Ee{CX:CXT}{P:Program}{w:World}{K:aW}{I:Str ->Option Value}{base:Heap}{N ps:List Str}{qual:Str}{scope:Scope}{f:Addr}{G:Value}{A:Around}{outer:List Env}{s s1:Shared}{H:Hp}{E:XK}{us:List Value}{vs:List V}
  (S:im N ps scope)(Q:A.handled=none)(l:vf P w K I base A outer s H)(T:vs.length=ps.length)(r:iz vs us)
  (x:InCallC s s.heap.objs.size (bindL (envOfC qual scope s.heap.objs.size f G).kindOf (ps.zip us) fun _=>none) (cellsFrom (s.heap.objs.size+1) scope.names []) (bindC (envOfC qual scope s.heap.objs.size f G).kindOf (ps.zip us) fun _=>none) s1):
  Inv (iU CX P w K I base N qual scope f G A outer s H E) [] (oz N vs) H s1:=by
 have O:ps.length<=N.length:=by have:=congrArg eX S.pre;rw[bW] at this;omega
 obtain⟨h1,tk,rfl,L⟩:=x.done
 have o:∀b:Addr,b∉(iU CX P w K I base N qual scope f G A outer s H E).ex:=fun b z=>absurd (show b∈([]:List Addr) from z) (by simp)
 refine⟨⟨l.mod,S.kind,rfl,rfl,bh _,fun y z c h1 g=>?_,fun y B=>?_,fun y c _ h=>?_,fun _=>Q,Around.frames_deeper l.frames,.inr ⟨rfl,rfl⟩,fun b z=>absurd z (o b),l.bs,l.bsz,fun b _ _=>o b,fun b z=>absurd z (o b),l.funs,l.frf⟩,
  rfl,l.bare,Un.kept L,⟨_,x.toInCall.ns,fun i y v h1 g R=>?_⟩,fun y c h=>⟨_,x.cell y c h⟩,l.hok.fresh (bh _),fun y c h=>?_,fun p D=>absurd (show p∈([]:List (Addr × Obj)) from D) (by simp),l.hok.kept L,?_⟩
 ·exact name_of_addr x.apart (PySem.mem_of_lookup h1) (PySem.mem_of_lookup g)
 ·have B:scope.names.lookup y=some .cell∨scope.names.lookup y=some .free:=B
  rcases B with B|B
  ·exact Ae B
  ·exact absurd rfl (S.nofree _ (PySem.mem_of_lookup B))
 ·exact db (x.above y c (PySem.mem_of_lookup h))
 ·have F:i<vs.length:=by
   unfold oz at g
   by_cases F:i<vs.length
   ·exact F
   ·rw[cv (by simpa using F)] at g
    rw[List.getElem?_replicate] at g
    split at g<;>cases g
  have ha:vs[i]? =some v:=by
   unfold oz at g
   rw[cA (by simpa using F),bi] at g
   cases e:vs[i]? with
   |none=>rw[e] at g;cases g
   |some a=>rw[e] at g;cases g;rfl
  obtain⟨u,J,M⟩:=r.get ha
  have D:ps[i]? =some y:=by
   rw[←S.pre,dA (by omega)];exact h1
  have C:ps.Nodup:=by rw[←S.pre];exact S.nd.sublist (List.take_sublist _ _)
  refine⟨u,M,?_⟩
  rcases S.par y (bo D) with k|k
  ·exact .inl ⟨k,xC C D J k⟩
  ·obtain⟨c,e⟩:=Ae (n:=s.heap.objs.size+1) k
   refine .inr ⟨.inl k,c,e,?_⟩
   have q:=x.cell y c e
   rw[xS C D J (by show scope.names.lookup y≠_;rw[k];decide)] at q
   exact q
 ·exact l.hok.fresh (db (x.above y c (PySem.mem_of_lookup h)))
 ·unfold oz
  show _=N.length
  rw[bf,aX,List.length_replicate]
  omega
theorem Mb{CX:CXT}{P:Program}{w:World}{K:aW}{O:Str ->Option Value}{base:Heap}{k:Nat}{f:Addr}{name qual:Str}{h:Arguments}{l:List Stmt}{scope:Scope}{dV kV M pm g ct oc:Value}{an od:Option Addr}
  {X:Array (Option Value)}{N ps:List Str}{sp:Sp}(lk:K.lookup f=some ⟨oc,od,.func (cB name qual h l scope dV kV M pm an g ct),X⟩)(Y:cF K g qual=true)(S:im N ps scope)
  (len:∀vs H Q E,sp vs H Q E ->vs.length=ps.length)
  (C:∀(A:Around) (outer:List Env) (s:Shared) (H:Hp) (vs:List V) (Q:VK) (E:XK),jw k (A.deeper (envOfC qual scope s.heap.objs.size f g)) ->sp vs H Q E ->
   ∃t,PSs (iU CX P w K O base N qual scope f g A outer s H E) l t/\ t {nx:=fun _ B=>Q .non B,rt:=Q} (oz N vs) H):
  lV P w K O base CX (k+1) f (cB name qual h l scope dV kV M pm an g ct) ps sp:=by
 refine⟨len,fun A outer s H a0 us vs Q E U G hb r L=>?_⟩
 have hl:=len _ _ _ _ L
 have KX:K.In s.heap:=G.mod.kin.keeps fun b o e=>(G.bs b o e).1
 have T:s.heap.NoLimit:=G.mod.nolimit.keeps fun b o e=>(G.bs b o e).1
 have D:∀y∈ps.zip us,scope.names.lookup y.1=some .local∨(scope.names.lookup y.1=some .cell/\ ((cellsFrom (s.heap.objs.size+1) scope.names []).lookup y.1).isSome=true):=fun⟨n,v⟩ hy=>by
  rcases S.par n (List.of_mem_zip hy).1 with q|q
  ·exact .inl q
  ·exact .inr ⟨q,PySem.W.cellsFrom_some _ _ _ (.inl q)⟩
 refine codeAny_call_function U.depth (KX _ _ lk) rfl S.co S.gen rfl (PySem.W.codeRec_of KX Y) (hb _ _ _ _ ?_)
 refine wpAny_newFunctionEnv_cells S.kind D fun a1 he s1 x=>?_
 subst he
 refine⟨T.keeps x.toInCall.keep,codeAny_func ?_⟩
 obtain⟨t,ht,hq⟩:=C A outer s H vs Q E (U.deeper _) L
 have I:Inv (iU CX P w K O base N qual scope f g A outer s H E) [] (oz N vs) H s1:=Ee S U.hd G hl r x
 refine wpAny_mono (ht [] s1 (oz N vs) H _ I hq) (fun fl Z F=>?_) fun e Z F=>F
 have fin:∀{z:St} {B:Hp} {v:V} {u:Value},Inv (iU CX P w K O base N qual scope f g A outer s H E) [] z B Z ->iB v u ->Q v B ->CE outer P w H s Q u Z:=
  fun {z B v u} J R q=>⟨v,B,J.os,J.bare,J.base,J.hok,R,q⟩
 cases fl with
 |ret u=>
  obtain⟨v,z,B,J,R,q⟩:=F
  exact fin J R q
 |next=>
  obtain⟨z,B,J,q⟩:=F
  exact fin (v:=V.non) (u:=Value.none) J rfl q
 |brk=>
  obtain⟨_,_,_,q⟩:=F
  exact False.elim q
 |cont=>
  obtain⟨_,_,_,q⟩:=F
  exact False.elim q
end
section
variable {X:Cx} {x:Str} {p pos:Pos} {e:Expr} {es:List Expr} {t:TA} {id T:String} {r:List V ->Hp ->VK ->Prop}
def tCB(r:List V ->Hp ->VK ->Prop)(t:TA):TE:=fun σ H Q=>t σ H fun vs H1=>r vs H1 Q
theorem iA(J:jr X (.builtin id) r)(F:Gl X x)(A:X.mg x=none)(hv:bootBuiltins x=some (.builtin id))(ha:PA X (e::es) t)(C:x≠"__name__":=by decide)(b:(x == ("__debug__":Str))=false:=by decide)
  (o:starEach (e::es) X.env=(false,eval e X.env)::starEach es X.env:=by rfl)(f:(backTo pos (starEach es X.env)).any (·.1)=false:=by rfl):PE X (.Call (.Name x p) (e::es) [] pos) (tCB r t):=by
 intro l s g H Q I h
 refine wpAny_Call_Name_kw (mj I F A hv ?_ C b)
 exact PyProof.Rows.callWith_builtin1 (thn (ha pos l s g H _ I h) fun w s1 ⟨B,D,G,z,E⟩=>J l s1 g D B w Q G z E) o f
theorem jo(J:jr X (.type T) r)(F:Gl X x)(A:X.mg x=none)(hv:bootBuiltins x=some (.type T))(ha:PA X (e::es) t)(C:x≠"__name__":=by decide)(b:(x == ("__debug__":Str))=false:=by decide)
  (o:starEach (e::es) X.env=(false,eval e X.env)::starEach es X.env:=by rfl)(f:(backTo pos (starEach es X.env)).any (·.1)=false:=by rfl):PE X (.Call (.Name x p) (e::es) [] pos) (tCB r t):=by
 intro l s g H Q I h
 refine wpAny_Call_Name_kw (mj I F A hv ?_ C b)
 exact PyProof.Rows.callWith_type1 (thn (ha pos l s g H _ I h) fun w s1 ⟨B,D,G,z,E⟩=>J l s1 g D B w Q G z E) o f
end
end L2
namespace HT
open PySem PyProof.Rows
section
open PySem.SeqAt
open PySem.AutoSeq1 (wpAny_loadPart')
open PySem.MeetsSeq PySem.MeetsSeq2 PySem.MeetsSeq3
end
section
variable {prog:Program} {w:World} {A:Around} {E:Value ->Shared ->Prop} {s:Shared}
def sIx(n d:Nat):Option Int ->Nat
 |none=>d
 |some v=>if v<0 then(v+(n:Int)).toNat else min v.toNat n
theorem sIx_none(n d:Nat):sIx n d none=d:=rfl
theorem sIx_nat(n d k:Nat):sIx n d (some (k:Int))=min k n:=by
 show(if(k:Int)<0 then((k:Int)+(n:Int)).toNat else min (k:Int).toNat n)=min k n
 rw[if_neg (by omega),ef]
theorem sIx_le(n d:Nat)(b:d<=n)(o:Option Int):sIx n d o<=n:=by
 cases o with
 |none=>exact b
 |some v=>
  show(if v<0 then(v+(n:Int)).toNat else min v.toNat n)<=n
  by_cases hv:v<0
  ·rw[if_pos hv];omega
  ·rw[if_neg hv];exact Nat.min_le_right _ _
theorem clip_eq(v:Int)(n d:Nat):(if v<0 then max (v+(n:Int)) 0 else min v (n:Int))=((sIx n d (some v):Nat):Int):=by
 show(if v<0 then max (v+(n:Int)) 0 else min v (n:Int))=(((if v<0 then(v+(n:Int)).toNat else min v.toNat n):Nat):Int)
 by_cases hv:v<0
 ·simp only[if_pos hv];omega
 ·simp only[if_neg hv];omega
end
end HT
namespace L2
open PySem PySem.Spec PyProof.Rows
abbrev TO:=St ->Hp ->(Option Int ->Hp ->Prop) ->Prop
def PO(X:Cx)(e:Option Expr)(t:TO):Prop:=
 ∀(gW:List (Addr × Obj)) (s:Shared) (σ:St) (H:Hp) (Q:Option Int ->Hp ->Prop),Inv X gW σ H s ->t σ H Q ->
  wpAny (model X.prog X.w) X.A (evalPart e X.env) (fun u s'=>∃o H',Inv X gW σ H' s'/\ IsPart u o/\ Q o H') X.xe s
def Jf:TO:=fun _ H Q=>Q none H
def Ch(t:TE):TO:=fun σ H Q=>t σ H fun x H1=>∃i,x=.int i/\ Q (some i) H1
section
variable {X:Cx} {e:Expr} {te:TE} {lo hi:Option Expr} {tl th:TO} {pos p2:Pos}
theorem nu:PO X none Jf:=by
 intro b s f H Q I h
 rw[evalPart_none]
 exact wpAny_pure ⟨none,H,I,.none,h⟩
theorem Jt(h:PE X e te):PO X (some e) (Ch te):=by
 intro g s b H Q I f
 rw[evalPart_some]
 refine thn (h g s b H _ I f) fun u s1 ⟨x,l,z,w,o⟩=>?_
 obtain⟨i,rfl,q⟩:=o
 obtain⟨t,rfl⟩:=w
 exact⟨some i,l,z,.int i t,q⟩
def SlR(X:Cx)(r:V ->Option Int ->Option Int ->Hp ->VK ->Prop):Prop:=
 ∀(gW:List (Addr × Obj)) (s:Shared) (σ:St) (H:Hp) (x:V) (v vl vu:Value) (lo hi:Option Int) (sl:Addr) (Q:VK),Inv X gW σ H s ->iB x v ->s.heap.IsSliceOf sl vl vu .none ->IsPart vl lo ->IsPart vu hi ->r x lo hi H Q ->
  ∃T id,typeLookup (.type T) "__getitem__"=pure (some (.builtin id))/\ s.TypeIs v T/\ wpAny (model X.prog X.w) X.A (getItem v (.ref sl)) (EP X gW σ Q) X.xe s
def tSl(r:V ->Option Int ->Option Int ->Hp ->VK ->Prop)(te:TE)(tl th:TO):TE:=fun σ H Q=>te σ H fun x H1=>tl σ H1 fun l H2=>th σ H2 fun u H3=>r x l u H3 Q
theorem mD{r:V ->Option Int ->Option Int ->Hp ->VK ->Prop}(M:SlR X r)(J:PE X e te)(K:PO X lo tl)(S:PO X hi th):PE X (.Subscript e (.Slice lo hi none p2) pos) (tSl r te tl th):=by
 intro g s o H Q I h
 refine Subscript_ (thn (J g s o H _ I h) fun v s1 ⟨x,Y,W,r1,Z⟩=>?_)
 refine wpAny_Slice (thn (K g s1 o Y _ W Z) fun z F ⟨l,D,L,G,N⟩=>thn (S g F o D _ L N) fun B f ⟨u,C,P,E,O⟩=>?_)
 rw[evalPart_none]
 refine wpAny_pure ?_
 have I4:Inv X g o C {f with heap:=f.heap.push {cls:=.type "slice",data:=.fields #[z,B,.none]}}:=P.kept (t':=f.toks) fun b ob q=>aY _ q
 obtain⟨T,id,U,R,hg⟩:=M g {f with heap:=f.heap.push {cls:=.type "slice",data:=.fields #[z,B,.none]}} o C x v z B l u f.heap.objs.size Q I4 r1 (Heap.IsSliceOf.new ..) G E O
 show wpAny (model X.prog X.w) X.A (subscriptTail e (.Slice lo hi none p2) v (.ref f.heap.objs.size)) (EP X g o Q) X.xe {f with heap:=f.heap.push {cls:=.type "slice",data:=.fields #[z,B,.none]}}
 exact tail_any (ops:=[.ref f.heap.objs.size,v]) R U hg (by with_unfolding_all rfl)
def qi(xs:List V)(lo hi:Option Int):List V:=(xs.drop (HT.sIx xs.length 0 lo)).take (HT.sIx xs.length xs.length hi - HT.sIx xs.length 0 lo)
theorem AV(xs:List V)(lo hi:Option Int):(qi xs lo hi).length<=xs.length:=by
 unfold qi
 rw[bW,dB]
 omega
end
def ixN(n:Nat)(i:Int):Option Nat:=if 0<=i then(if i<n then some i.toNat else none) else if -(n:Int)<=i then some (i+n).toNat else none
def atI{α:Type}(xs:List α)(i:Int):Option α:=(ixN xs.length i).bind fun j=>xs[j]?
theorem BE{n:Nat}{i:Int}{j:Nat}(h:ixN n i=some j):seqIndex? i n=some j/\ j<n/\ -(n:Int)<=i/\ i<n:=by
 unfold ixN at h
 by_cases h0:0<=i
 ·rw[if_pos h0] at h
  by_cases h1:i<n
  ·rw[if_pos h1] at h
   have e:i.toNat=j:=Option.some.inj h
   exact⟨by rw[seqIndex_of h0 h1,e],by omega,by omega,h1⟩
  ·rw[if_neg h1] at h;cases h
 ·rw[if_neg h0] at h
  by_cases h1:-(n:Int)<=i
  ·rw[if_pos h1] at h
   have e:(i+n).toNat=j:=Option.some.inj h
   exact⟨by rw[seqIndex_neg (by omega) h1,e],by omega,h1,by omega⟩
  ·rw[if_neg h1] at h;cases h
theorem xn{b:Type}{xs:List b}{i:Int}{v:b}(h:atI xs i=some v):∃j,seqIndex? i xs.length=some j/\ xs[j]? =some v/\ j<xs.length/\ -(xs.length:Int)<=i/\ i<xs.length:=by
 unfold atI at h
 cases e:ixN xs.length i with
 |none=>rw[e] at h;cases h
 |some j=>
  rw[e] at h
  obtain⟨h1,g,l,f⟩:=BE e
  exact⟨j,h1,h,g,l,f⟩
theorem iX{b:Type}{xs:List b}{j:Nat}{v:b}(h:xs[j]? =some v):atI xs (j:Int)=some v:=by
 have f:j<xs.length:=(aZ.mp h).1
 have e:ixN xs.length (j:Int)=some j:=by
  unfold ixN
  rw[if_pos (by omega),if_pos (by omega)];simp
 unfold atI;rw[e];exact h
def IV(b:Expr):Prop:=∀o i,subscripted b false o i=operate [o,i] (getItem o i)
def IxR(X:Cx)(r:R2):Prop:=
 ∀(value slice:Expr) (gW:List (Addr × Obj)) (s:Shared) (σ:St) (H:Hp) (x y:V) (v u:Value) (Q:VK),Inv X gW σ H s ->iB x v ->iB y u ->r x y H Q ->
  subscripted slice false v u=operate [v,u] (getItem v u) ->wpAny (model X.prog X.w) X.A (subscriptTail value slice v u) (EP X gW σ Q) X.xe s
def MtR(X:Cx)(id:String)(r:V ->List V ->Hp ->VK ->Prop):Prop:=
 ∀(gW:List (Addr × Obj)) (s:Shared) (σ:St) (H:Hp) (x:V) (xs:List V) (v:Value) (us:List Value) (Q:VK),Inv X gW σ H s ->iB x v ->iz xs us ->r x xs H Q ->
  wpAny (model X.prog X.w) X.A (call (.builtin id) (v::us)) (EP X gW σ Q) X.xe s
section
variable {X:Cx} {a b:Expr} {ta tb:TE} {pos:Pos}
theorem io{r:R2}(D:IxR X r)(ha:PE X a ta)(l:PE X b tb)(g:IV b):PE X (.Subscript a b pos) (tOp r ta tb):=by
 intro C s A H Q I h
 exact Subscript_ (GX ha l I h fun v u o x y f B w z q=>D a b C o A f x y v u Q B w z q (g _ _))
def NQ(K:aW):R2:=fun x y H Q=>∃p xs i v,x=.ref p/\ y=.int i/\ SqL K H p xs/\ atI xs i=some v/\ Q v H
def NF(K:aW):R2:=fun x y H Q=>∃p xs i v,x=.ref p/\ y=.int i/\ SqT K H p xs/\ atI xs i=some v/\ Q v H
def NB:R2:=fun x y H Q=>∃z i c,x=.str z/\ y=.int i/\ z.length<=sizeLine/\ atI z.cps.toList i=some c/\ Q (.str ⟨#[c]⟩) H
theorem Jv:IxR X (NQ X.K):=by
 intro g A C s F H x y v u Q I P R h D
 obtain⟨p,T,i,z,rfl,rfl,O,G,q⟩:=h
 cases P
 obtain⟨t,rfl⟩:=R
 obtain⟨l,r,o,Y⟩:=I.list O
 obtain⟨j,h1,M,U,N,J⟩:=xn G
 obtain⟨w,E,B⟩:=r.get M
 have L:=r.length
 have W:=qI
 have fin:EP X C F Q w s:=⟨z,H,I,B,q⟩
 by_cases h0:0<=i
 ·have f:i.toNat=j:=by
   rw[seqIndex_of h0 J] at h1
   exact Option.some.inj h1
  exact item_listR o.isList h0 (by omega) (by rw[f];simpa using E) fin D
 ·have f:(i+(l.toArray.size:Int)).toNat=j:=by
   rw[seqIndex_neg (by omega) N] at h1
   rw[bR, ←L]
   exact Option.some.inj h1
  exact subscriptTail_builtinR (x:=w) o.isList.typeIs slot_list_getitem.lookup
   (wpAny_getItem_list_neg (Q:=fun r S=>r=w/\ EP X C F Q r S) o.isList (by omega) (by rw[bR]<;>omega) (by omega) (by rw[f];simpa using E) ⟨rfl,fin⟩) D
theorem Ep:IxR X (NF X.K):=by
 intro f g A s B H x y v u Q I M N h G
 obtain⟨p,P,i,z,rfl,rfl,J,D,q⟩:=h
 cases M
 obtain⟨t,rfl⟩:=N
 obtain⟨C,r,o,W⟩:=I.tuple J
 obtain⟨j,h1,F,R,T,S⟩:=xn D
 obtain⟨w,L,l⟩:=r.get F
 have E:=r.length
 have U:=qI
 have fin:EP X A B Q w s:=⟨z,H,I,l,q⟩
 exact subscriptTail_builtinR (x:=w) o.typeIs slot_tuple_getitem.lookup
  (getItem_tuple (j:=j) (Q:=fun r O=>r=w/\ EP X A B Q r O) o (by omega) (by omega) (by rw[bR, ←E];exact h1) (by simpa using L) ⟨rfl,fin⟩) G
theorem Lg:IxR X NB:=by
 intro f g N s L H x y v u Q I B C h o
 obtain⟨z,i,c,rfl,rfl,O,w,q⟩:=h
 obtain⟨t,rfl⟩:=B
 obtain⟨J,rfl⟩:=C
 obtain⟨j,h1,F,K,l,A⟩:=xn w
 have D:z.cps.toList.length=z.length:=by simp[Str.length]
 rw[D] at h1 l A
 have M:=qI
 exact tail_any (typeIs_str s z t) slot_str_getitem.lookup (getItem_str (c:=c) (by
  have E:decide (i< -(2^63:Int))=false:=decide_eq_false (by omega)
  have G:decide (i>=2^63)=false:=decide_eq_false (by omega)
  rw[E,G,Bool.or_false]) (by rw[h1];simpa using F) ⟨.str ⟨#[c]⟩,H,I.tok _,⟨_,rfl⟩,q⟩) o
theorem CC(f:List Value)(n j:Nat)(u:Value):Obj.mapSeq (·.setIfInBounds j u) {cls:=.type "list",data:=.seq f.toArray n}={cls:=.type "list",data:=.seq (f.set j u).toArray n}:=by
 simp[Obj.mapSeq]
theorem Inv.lst{g:List (Addr × Obj)}{σ:St}{H:Hp}{s:Shared}{p:Addr}{xs:List V}(I:Inv X g σ H s)(h:H p=some (.lst xs)):
  ∃(f:List Value) (n:Nat),iz xs f/\ s.heap.get? p=some {cls:=.type "list",data:=.seq f.toArray n}/\ xs.length<=sizeLine:=by
 obtain⟨z,f,n,r,e⟩:=I.hok p _ h
 exact⟨f,n,r,e,z⟩
theorem Inv.lstUpd{w:List (Addr × Obj)}{σ:St}{H:Hp}{s:Shared}{p:Addr}{xs ys:List V}{g its':List Value}{n l:Nat}{f:Obj ->Obj}(I:Inv X w σ H s)(h:H p=some (.lst xs))
  (A:s.heap.get? p=some {cls:=.type "list",data:=.seq g.toArray n})(o:f {cls:=.type "list",data:=.seq g.toArray n}={cls:=.type "list",data:=.seq its'.toArray l})(r:iz ys its')(B:ys.length<=sizeLine)(t:Nat):
  Inv X w σ (upd H p (.lst ys)) {s with heap:=s.heap.update p f,toks:=t}:=by
 have e:(s.heap.update p f).get? p=some {cls:=.type "list",data:=.seq its'.toArray l}:=by
  rw[cV f A (by rw[o]<;>rfl),o]
 refine I.write (x:=p) (e:=p) (by rw[h];trivial) (.inl rfl) (fun b u z q=>(cL _ _ (Ne.symm z)).trans q) ⟨_,e⟩ ?_
 exact⟨B,its',l,r,e⟩
def Mr:V ->V ->V ->Hp ->(Hp ->Prop) ->Prop:=fun o i v H Q=>∃p xs k j,o=.ref p/\ i=.int k/\ H p=some (.lst xs)/\ ixN xs.length k=some j/\ Q (upd H p (.lst (xs.set j v)))
theorem Ht:GL X Mr:=by
 intro L s M H o i v ov P u Q I K E D h
 obtain⟨p,G,k,j,rfl,rfl,B,J,q⟩:=h
 cases K
 obtain⟨t,rfl⟩:=E
 obtain⟨f,n,r,l,F⟩:=I.lst B
 obtain⟨h1,N,z,C⟩:=BE J
 have w:=r.length
 have O:=qI
 have A:Inv X L M (upd H p (.lst (G.set j v))) {s with heap:=s.heap.update p (Obj.mapSeq (·.setIfInBounds j u))}:=
  I.lstUpd B l (CC f n j u) (r.set D j) (by rw[dG];exact F) s.toks
 by_cases h0:0<=k
 ·have g:k.toNat=j:=by
   rw[seqIndex_of h0 C] at h1
   exact Option.some.inj h1
  exact PySem.W.ki_setAt l h0 (by omega) (by rw[bR, ←w];exact C) (by rw[g];exact⟨_,A,q⟩)
 ·have g:(k+(f.toArray.size:Int)).toNat=j:=by
   rw[seqIndex_neg (by omega) z] at h1
   rw[bR, ←w]
   exact Option.some.inj h1
  exact PySem.W.ki_setBack l (by omega) (by rw[bR, ←w];exact z) (by omega) (by rw[g];exact⟨_,A,q⟩)
theorem Al(lo f:Option Int)(n:Nat):(sliceBounds lo f none n).1=((HT.sIx n 0 lo:Nat):Int)/\ (sliceBounds lo f none n).2.1=((HT.sIx n n f:Nat):Int)/\ (sliceBounds lo f none n).2.2=1:=by
 refine⟨?_,?_,rfl⟩
 ·cases lo with
  |none=>simp[sliceBounds,HT.sIx]
  |some i=>
   simp only[sliceBounds,HT.sIx,Option.getD_none,show(1:Int)>0 by decide,if_true]
   by_cases h:i<0
   ·simp only[h,if_true]<;>omega
   ·simp only[h,if_false]<;>omega
 ·cases f with
  |none=>simp[sliceBounds,HT.sIx]
  |some i=>
   simp only[sliceBounds,HT.sIx,Option.getD_none,show(1:Int)>0 by decide,if_true]
   by_cases h:i<0
   ·simp only[h,if_true]<;>omega
   ·simp only[h,if_false]<;>omega
theorem xZ(f:List Value)(lo g:Option Int):slicePick f.toArray lo g none=((f.drop (HT.sIx f.length 0 lo)).take (HT.sIx f.length f.length g - HT.sIx f.length 0 lo)).toArray:=by
 obtain⟨h1,l,h⟩:=Al lo g f.toArray.size
 unfold slicePick
 rw[h1,l,h]
 simp only[sliceRange_one,pick_run,bR]<;>rfl
def Og(K:aW):V ->Option Int ->Option Int ->Hp ->VK ->Prop:=fun x lo hi H Q=>∃a xs,x=.ref a/\ SqL K H a xs/\ ∀p,H p=none ->Q (.ref p) (upd H p (.lst (qi xs lo hi)))
theorem Iq:SlR X (Og X.K):=by
 intro L s J H x v N G lo l M Q I D z C A h
 obtain⟨a,f,rfl,E,q⟩:=h
 cases D
 obtain⟨B,r,w,F⟩:=I.list E
 have g:=r.length
 refine⟨"list",_,slot_list_getitem.lookup,w.isList.typeIs,?_⟩
 refine wpAny_getItem_list_slice w.isList z C A .none (by simp) ?_ (by rw[bR]<;>omega)
 rw[xZ, ←g]
 refine⟨.ref s.heap.objs.size,_,I.laid (t':=s.toks) (o:=.lst (qi f lo l)) (fun b ob q=>aY _ q) (bh _) ?_,rfl,q _ (I.hok.fresh (bh _))⟩
 exact⟨bL (AV f lo l) F,_,0,(r.drop (HT.sIx f.length 0 lo)).take (HT.sIx f.length f.length l - HT.sIx f.length 0 lo),bu _ rfl⟩
def nM:V ->Bool
 | .non=>true
 | .bl _=>true
 | .int _=>true
 | .str _=>true
 |_=>false
def eqV:V ->V ->Bool
 | .non,.non=>true
 | .bl a,.bl b=>a == b
 | .bl a,.int b=>(if a then 1 else 0) == b
 | .int a,.bl b=>a == (if b then 1 else 0)
 | .int a,.int b=>a == b
 | .str a,.str b=>a == b
 |_,_=>false
theorem As{A:Around}{s:Shared}{y x:V}{u v:Value}(l:iB y u)(f:iB x v)(o:nM y=true)(h:nM x=true):SeqAt.EqAt A s u v (eqV y x):=by
 cases y with
 |non=>
  cases l
  cases x with
  |non=>cases f;exact SeqAt.EqAt.same _
  |bl b=>cases f;exact SeqAt.EqAt.none_bool b
  |int b=>obtain⟨t,rfl⟩:=f;exact SeqAt.EqAt.none_int b t
  |str b=>obtain⟨t,rfl⟩:=f;exact SeqAt.EqAt.none_str b t
  |_=>exact absurd (show false=true from h) bQ
 |bl a=>
  cases l
  cases x with
  |non=>cases f;exact SeqAt.EqAt.bool_none a
  |bl b=>cases f;exact SeqAt.EqAt.bool_bool a b
  |int b=>obtain⟨t,rfl⟩:=f;exact SeqAt.EqAt.bool_int a b t
  |str b=>obtain⟨t,rfl⟩:=f;exact SeqAt.EqAt.bool_str a b t
  |_=>exact absurd (show false=true from h) bQ
 |int a=>
  obtain⟨g,rfl⟩:=l
  cases x with
  |non=>cases f;exact SeqAt.EqAt.int_none a g
  |bl b=>cases f;exact SeqAt.EqAt.int_bool a g b
  |int b=>obtain⟨t,rfl⟩:=f;exact SeqAt.EqAt.int_int a g b t
  |str b=>obtain⟨t,rfl⟩:=f;exact SeqAt.EqAt.int_str a g b t
  |_=>exact absurd (show false=true from h) bQ
 |str a=>
  obtain⟨g,rfl⟩:=l
  cases x with
  |non=>cases f;exact SeqAt.EqAt.str_none a g
  |bl b=>cases f;exact SeqAt.EqAt.str_bool a g b
  |int b=>obtain⟨t,rfl⟩:=f;exact SeqAt.EqAt.str_int a g b t
  |str b=>obtain⟨t,rfl⟩:=f;exact SeqAt.EqAt.str_str a g b t
  |_=>exact absurd (show false=true from h) bQ
 |_=>exact absurd (show false=true from o) bQ
def eqU(x:V)(u:Value):Bool:=match u with
 | .none=>eqV .non x
 | .bool b=>eqV (.bl b) x
 | .int i _=>eqV (.int i) x
 | .str z _=>eqV (.str z) x
 |_=>false
theorem zP{x y:V}{u:Value}(r:iB y u)(f:nM y=true):eqU x u=eqV y x:=by
 cases y with
 |non=>cases r;rfl
 |bl b=>cases r;rfl
 |int i=>obtain⟨t,rfl⟩:=r;rfl
 |str z=>obtain⟨t,rfl⟩:=r;rfl
 |_=>exact absurd (show false=true from f) bQ
theorem xt{x:V}:∀{xs:List V} {us:List Value},iz xs us ->xs.all nM=true ->us.any (eqU x)=xs.any fun y=>eqV y x
 |_,_,.nil,_=>rfl
 |y::xs,u::us,.cons r t,f=>by
  rw[List.all_cons,eI] at f
  rw[fq,fq,zP r f.1,xt t f.2]
theorem rj{A:Around}{s:Shared}{x:V}{v:Value}(l:iB x v)(h:nM x=true):∀{xs:List V} {us:List Value},iz xs us ->xs.all nM=true ->∀u∈us,SeqAt.EqAt A s u v (eqU x u)
 |_,_,.nil,_=>fun u g=>by cases g
 |y::xs,u::us,.cons r t,f=>fun o g=>by
  rw[List.all_cons,eI] at f
  rcases bw.mp g with rfl|g
  ·rw[zP r f.1];exact As r l f.1 h
  ·exact rj l h t f.2 o g
def inV(x:V)(xs:List V):Bool:=xs.any fun y=>eqV y x
def rIn(K:aW)(neg:Bool):R2:=fun x y H Q=>∃p xs,y=.ref p/\ (SqL K H p xs∨SqT K H p xs)/\ nM x=true/\ xs.all nM=true/\ Q (.bl (if neg then !inV x xs else inV x xs)) H
theorem tJ:OpR X (compareOp .NotIn) (rIn X.K true):=by
 intro F s E H x y v u Q I A B h
 obtain⟨p,D,rfl,g,z,fs,q⟩:=h
 cases B
 rcases g with g|g
 ·obtain⟨f,r,l,C⟩:=I.list g
  refine SeqAt.notIn_listAt (eqU x) l.isList (fun w o=>rj A z r fs w (by simpa using o)) ⟨.bl _,H,I,rfl,?_⟩
  rw[show f.toArray.any (eqU x)=f.any (eqU x) by simp,xt r fs]
  exact q
 ·obtain⟨f,r,l,C⟩:=I.tuple g
  refine SeqAt.notIn_tupleAt (eqU x) l (fun w o=>rj A z r fs w (by simpa using o)) ⟨.bl _,H,I,rfl,?_⟩
  rw[show f.toArray.any (eqU x)=f.any (eqU x) by simp,xt r fs]
  exact q
theorem yR:jr X (.builtin "len") (fun xs H Q=>∃p ys,xs=[.ref p]/\ (SqL X.K H p ys∨SqT X.K H p ys)/\ Q (.int ys.length) H):=by
 intro E s C H xs B Q I r h
 obtain⟨p,ys,rfl,g,q⟩:=h
 obtain⟨u,rfl,z⟩:=kr r
 cases z
 have D:=qI
 rcases g with g|g
 ·obtain⟨o,l,w,A⟩:=I.list g
  have f:=l.length
  exact Calls.call_len_list w.isList (by simp only[bR]<;>omega) ⟨.int ys.length,H,I.tok _,⟨s.toks+1,by rw[bR,f]⟩,q⟩
 ·obtain⟨o,l,w,A⟩:=I.tuple g
  have f:=l.length
  exact len_tuple w (by simp only[bR]<;>omega) ⟨.int ys.length,H,I.tok _,⟨s.toks+1,by rw[bR,f]⟩,q⟩
theorem zU:jr X (.builtin "len") (fun xs H Q=>∃z,xs=[.str z]/\ z.length<=sizeLine/\ Q (.int z.length) H):=by
 intro g s w H xs o Q I r h
 obtain⟨z,rfl,l,q⟩:=h
 obtain⟨u,rfl,t,rfl⟩:=kr r
 have f:=qI
 exact len_str (by omega) ⟨.int z.length,H,I.tok _,⟨_,rfl⟩,q⟩
def tyV(K:aW)(T:String)(x:V)(H:Hp):Prop:=match x with
 | .str _=>T="str"
 | .int _=>T="int"
 | .ref p=>(T="list"/\ ∃xs,SqL K H p xs)∨(T="tuple"/\ ∃o,K.lookup p=some o/\ o.cls=.type "tuple"/\ o.dict=none)∨
   (T="dict"/\ ((∃kvs,H p=some (.dK kvs))∨∃kvs,H p=some (.dT kvs)))∨(T="set"/\ ∃S n,H p=some (.set S n))
 |_=>False
theorem Er{D:List (Addr × Obj)}{σ:St}{H:Hp}{s:Shared}{T:String}{x:V}{v:Value}(I:Inv X D σ H s)(r:iB x v)(ty:tyV X.K T x H):
  s.TypeIs v T/\ ∀a,v=.ref a ->∃ob,s.heap.get? a=some ob/\ ob.dict=none:=by
 cases x with
 |str z=>
  obtain⟨t,rfl⟩:=r
  cases (show T="str" from ty)
  exact⟨typeIs_str s z t,fun _ e=>nomatch e⟩
 |int i=>
  obtain⟨t,rfl⟩:=r
  cases (show T="int" from ty)
  exact⟨typeIs_int s i t,fun _ e=>nomatch e⟩
 | ref p=>
  cases r
  rcases ty with⟨rfl,F,C⟩|⟨rfl,o,f,E,w⟩|⟨rfl,f⟩|⟨rfl,S,n,f⟩
  ·obtain⟨B,_,A,_⟩:=I.list C
   refine⟨A.isList.typeIs,fun a e=>?_⟩
   cases e
   obtain⟨o,n,e,c,w,_⟩:=A
   exact⟨o,e,w⟩
  ·refine⟨⟨o,I.kIn p o f,E⟩,fun a e=>?_⟩
   cases e
   exact⟨o,I.kIn _ o f,w⟩
  ·have z:∃o,s.heap.get? p=some o/\ o.ExactDict:=by
    rcases f with⟨l,f⟩|⟨l,f⟩
    ·obtain⟨_,_,_,_,o,_,_,e,g,_⟩:=I.hok p _ f
     exact⟨o,e,g⟩
    ·obtain⟨_,_,_,_,o,_,_,e,g,_⟩:=I.hok p _ f
     exact⟨o,e,g⟩
   obtain⟨o,e,g⟩:=z
   refine⟨⟨o,e,g.1⟩,fun a h=>?_⟩
   cases h
   exact⟨o,e,g.2.1⟩
  ·obtain⟨o,_,_,_,e,g,_⟩:=I.hok p _ f
   refine⟨⟨o,e,g.1⟩,fun a h=>?_⟩
   cases h
   exact⟨o,e,g.2.1⟩
 |_=>exact False.elim ty
def NV(K:aW)(T:String)(r:V ->List V ->Hp ->VK ->Prop)(to:TE):TE:=fun σ H Q=>to σ H fun x H1=>tyV K T x H1/\ r x [] H1 Q
def tBM(K:aW)(T:String)(r:V ->List V ->Hp ->VK ->Prop)(to:TE)(t:TA):TE:=fun σ H Q=>to σ H fun x H1=>tyV K T x H1/\ t σ H1 fun xs H2=>r x xs H2 Q
variable {o e:Expr} {es:List Expr} {to:TE} {t:TA} {name:Str} {apos cpos:Pos} {T id:String} {r:V ->List V ->Hp ->VK ->Prop}
theorem KO(D:PlainAttrs T)(l:Slot T name id)(w:typeOf (.builtin id)=pure (.type "method_descriptor"))(F:MtR X id r)(E:PE X o to)
  (g:attributeBase o name X.env (eval o X.env)=eval o X.env:=by rfl)(f:(apos.endLine == cpos.line)=true:=by rfl):PE X (.Call (.Attribute o name apos) [] [] cpos) (NV X.K T r to):=by
 intro A s z H Q I h
 refine wpAny_Call_method0_late g f (thn (E A s z H _ I h) fun v s1 ⟨x,J,C,B,ty,L⟩=>?_)
 obtain⟨h1,G⟩:=Er C B ty
 exact⟨T,id,D,l,w,h1,G,Calls.callWith_builtin rfl (PySem.evalArgs_none (F A s1 z J x [] v [] Q C B .nil L))⟩
theorem kW(L:PlainAttrs T)(z:Slot T name id)(A:typeOf (.builtin id)=pure (.type "method_descriptor"))(S:MtR X id r)(O:PE X o to)(ha:PA X (e::es) t)
  (l:attributeBase o name X.env (eval o X.env)=eval o X.env:=by rfl)
  (w:((backTo cpos (starEach (e::es) X.env)).all (fun x=> !x.1) && (backToKw cpos (keywordEach [] X.env)).all (fun x=>x.1.isSome)
   && decide ((e::es).length+([]:List Keyword).length+(if([]:List Keyword).isEmpty then 0 else 1)<30))=true:=by rfl)
  (g:(apos.endLine == cpos.line)=true:=by rfl)(N:starEach (e::es) X.env=(false,eval e X.env)::starEach es X.env:=by rfl)(f:(backTo cpos (starEach es X.env)).any (·.1)=false:=by rfl):
  PE X (.Call (.Attribute o name apos) (e::es) [] cpos) (tBM X.K T r to t):=by
 intro C s B H Q I h
 refine wpAny_Call_method_late l w g rfl (thn (O C s B H _ I h) fun v s1 ⟨x,Z,F,E,ty,q1⟩=>?_)
 obtain⟨h1,Y⟩:=Er F E ty
 refine⟨T,id,L,z,A,h1,Y,?_⟩
 have D:=ha cpos C s1 B Z _ F q1
 rw[N] at D ⊢
 refine Calls.callWith_builtin (by show(false || (backTo cpos (starEach es X.env)).any (·.1))=false;rw[f]<;>rfl) (Calls.evalArgs_plain ?_)
 exact thn D fun R P ⟨U,M,W,G,J⟩=>S C P B M x U v R Q W E G J
end
def MtM(X:Cx)(id:String)(r:V ->List V ->Hp ->VK ->Prop):Prop:=
 ∀(gW:List (Addr × Obj)) (s:Shared) (σ:St) (H:Hp) (x:V) (xs:List V) (v:Value) (us:List Value) (Q:VK),Inv X gW σ H s ->iB x v ->iz xs us ->r x xs H Q ->
  wpAny (model X.prog X.w) X.A (call (.builtin id) (v::us)) (EP X gW σ Q) X.xe s
theorem iz.one:∀{x:V} {us:List Value},iz [x] us ->∃u,us=[u]/\ iB x u
 |_,_,.cons r .nil=>⟨_,rfl,r⟩
theorem iz.two{x y:V}{us:List Value}(h:iz [x,y] us):∃u v,us=[u,v]/\ iB x u/\ iB y v:=by
 cases h with
 | cons r t=>cases t with
  |cons q t=>cases t with
   |nil=>exact⟨_,_,rfl,r,q⟩
theorem iz.eraseIdx:∀{xs:List V} {us:List Value} (i:Nat),iz xs us ->iz (xs.eraseIdx i) (us.eraseIdx i)
 |_,_,_,.nil=>.nil
 |_,_,0,.cons _ t=>t
 |_,_,i+1,.cons r t=>.cons r (iz.eraseIdx i t)
theorem xE{b:Type}:∀(l:List b) (i:Nat),(l.eraseIdx i).length<=l.length
 |[],_=>bh _
 |_::_,0=>dN _
 |_::r,i+1=>Nat.succ_le_succ (xE r i)
section
variable {X:Cx} {gW:List (Addr × Obj)} {σ:St} {H:Hp} {s:Shared} {l b:Addr} {xs ys zs:List V}
theorem Inv.lset{g its':List Value}{n:Nat}{f:Array Value ->Array Value}{t':Nat}(I:Inv X gW σ H s)(A:H l=some (.lst xs))
  (e:s.heap.get? l=some {cls:=.type "list",data:=.seq g.toArray n})(h:f g.toArray=its'.toArray)(hv:iz ys its')(w:ys.length<=sizeLine):
  Inv X gW σ (upd H l (.lst ys)) {s with heap:=s.heap.update l (Obj.mapSeq f),toks:=t'}:=by
 have q:=PySem.IsL.update e f
 rw[h] at q
 refine I.write (x:=l) (e:=l) (by rw[A];exact trivial) (.inl rfl) (fun B u o z=>(cL s.heap (Obj.mapSeq f) (Ne.symm o)).trans z) ⟨_,q⟩ ?_
 exact⟨w,its',_,hv,q⟩
theorem Inv.lnew{f:List Value}{t':Nat}(I:Inv X gW σ H s)(hv:iz ys f)(g:ys.length<=sizeLine):
  Inv X gW σ (upd H s.heap.objs.size (.lst ys)) {s with heap:=s.heap.push {cls:=.type "list",data:=.seq f.toArray},toks:=t'}:=
 I.laid (fun _ _ q=>aY _ q) (bh _) ⟨g,f,0,hv,bu _ rfl⟩
theorem Inv.fresh(I:Inv X gW σ H s):H s.heap.objs.size=none:=I.hok.fresh (bh _)
theorem Inv.lstM(I:Inv X gW σ H s)(g:H l=some (.lst xs)):xs.length<=sizeLine/\ ∃(f:List Value) (n:Nat),iz xs f/\ xs.length=f.length/\ s.heap.get? l=some {cls:=.type "list",data:=.seq f.toArray n}:=by
 obtain⟨z,f,n,r,e⟩:=I.hok l _ g
 exact⟨z,f,n,r,r.length,e⟩
end
section
variable {X:Cx}
def Bv:V ->List V ->Hp ->VK ->Prop:=fun x vs H Q=>∃l xs y,x=.ref l/\ vs=[y]/\ H l=some (.lst xs)/\ xs.length<sizeLine/\ Q .non (upd H l (.lst (xs++[y])))
theorem pW:MtM X "list.append" Bv:=by
 intro G s D H x C v B Q I o g h
 obtain⟨l,A,y,rfl,rfl,f,J,q⟩:=h
 cases o
 obtain⟨u,rfl,w⟩:=g.one
 obtain⟨z,b,n,r,E,e⟩:=I.lstM f
 refine call_meets F.slot_list_append ⟨_,e,rfl⟩ F.entry_list_append (F.args_list_append_2 _ _) (PySem.list_append l b.toArray n u (by rw[bR];omega)) ⟨e,?_⟩
 refine⟨.non,_,I.lset (its':=b++[u]) f e (by simp) (r.append (.cons w .nil)) ?_,rfl,q⟩
 rw[bf,List.length_singleton]
 omega
def KD:V ->List V ->Hp ->VK ->Prop:=fun x vs H Q=>∃l xs i k y,x=.ref l/\ vs=[.int i]/\ H l=some (.lst xs)/\ -(2^63)<=i/\ i<2^63/\ seqIndex? i xs.length=some k/\ xs[k]? =some y/\ Q y (upd H l (.lst (xs.eraseIdx k)))
theorem FA:MtM X "list.pop" KD:=by
 intro O s N H x M v L Q I B o h
 obtain⟨l,A,i,k,y,rfl,rfl,g,h1,J,C,E,q⟩:=h
 cases B
 obtain⟨u,rfl,K⟩:=o.one
 obtain⟨t,rfl⟩:=K
 obtain⟨z,b,n,r,D,e⟩:=I.lstM g
 obtain⟨w,G,f⟩:=r.get E
 refine call_meets F.slot_list_pop ⟨_,e,rfl⟩ F.entry_list_pop (F.args_list_pop_2 _ _)
  (MeetsSeq.list_pop_at l b.toArray n i t k w (fitsIndex_both h1 J) (by rw[bR, ←D];exact C) (by rw[←cG];exact G) (by rw[bR];omega)) ⟨e,?_⟩
 refine⟨y,_,I.lset (its':=b.eraseIdx k) g e ?_ (r.eraseIdx k) ?_,f,q⟩
 ·show b.toArray.eraseIdxIfInBounds k=(b.eraseIdx k).toArray
  rw[List.eraseIdxIfInBounds_toArray]
 ·have:=xE A k
  omega
def NJ:R2:=fun x y H Q=>∃l b xs zs,x=.ref l/\ y=.ref b/\ H l=some (.lst xs)/\ H b=some (.lst zs)/\ xs.length+zs.length<=sizeLine/\ ∀p,H p=none ->Q (.ref p) (upd H p (.lst (xs++zs)))
theorem LD:OpR X (binaryOp .Add) NJ:=by
 intro N s L H x y v u Q I B C h
 obtain⟨l,b,G,J,rfl,rfl,D,o,O,q⟩:=h
 cases B
 cases C
 obtain⟨z,g,n,r,M,e⟩:=I.lstM D
 obtain⟨K,f,R,w,E,A⟩:=I.lstM o
 refine PySem.P.add_list e A ?_ (by rw[bR,bR];omega)
 have F:g.toArray++f.toArray=(g++f).toArray:=by simp
 rw[F]
 exact⟨.ref _,_,I.lnew (t':=s.toks) (r.append w) (by rw[bf];omega),rfl,q _ I.fresh⟩
end
section
variable {prog:Program} {w:World} {A:Around} {E:Value ->Shared ->Prop} {s:Shared}
end
section
variable {X:Cx}
end
end L2
namespace Att
open PySem PySem.W PySem.Calls PyProof.Rows
theorem wB{P:Params}{h:Heap}:∀(ns:List Int) (vs:List Value),WellAll P h vs (ns.map WData.int) ->IntsAre vs ns:=by
 intro ns
 induction ns with
 |nil=>
  intro vs w
  rw[List.map_nil] at w
  cases w
  exact .nil
 | cons n ns ih=>
  intro vs w
  rw[bH] at w
  cases w with
  |cons a b=>
   cases a
   exact .cons _ _ (ih _ b)
theorem Ff{l:OpenLaw}{n:Nat}(D:l.most=some n){P:Params}{h:Heap}{args:List WData}{vals:List Value}
  (b:l.row.toRowW.claim.pre args=true)(z:WellAll P h vals args):
  ∃a vs ns,vals=[Value.ref a]/\ args=[WData.list (ns.map WData.int)]/\ h.get? a=some {cls:=.type "list",data:=.seq vs.toArray}/\ IntsAre vs ns/\ ns.length<=n:=by
 have w:WShape.hasAll [] args [.list .int]=true:=(pre_splitW b).1
 have A:l.pre.holds [] {args:=args}=true:=(pre_splitW b).2
 obtain⟨d,r,rfl,h1,E⟩:=hasAllW_cons w
 obtain rfl:=hasAllW_nil E
 obtain⟨F,rfl,B⟩:=hasW_list h1
 obtain⟨ns,rfl⟩:=items_int B
 have f:ns.length<=n:=by
  unfold OpenLaw.pre at A
  have g:(WTm.not (.lt (.lit (.int (n:Int))) (.len (.arg 0)))).holds [] {args:=[.list (ns.map .int)]}=true:=by
   have g:=(holds_andW A).1
   rw[D] at g
   exact g
  have o:=condW_of g (w_not (w_lt w_lit (w_len_list (w_arg rfl))))
  rw[aX] at o
  refine Nat.le_of_not_lt fun q=>?_
  have C:(n:Int)<((ns.length:Nat):Int):=by omega
  first
   |(rw[decide_eq_true C] at o;exact absurd o (by decide))
   |(simp at o;omega)
 cases z with
 |cons w1 w2=>
  cases w2
  cases w1 with
  |list ho hall=>exact⟨_,_,ns,rfl,rfl,ho,wB ns _ hall,f⟩
theorem Eb(l:OpenLaw)(args:List WData):l.row.toRowW.claim.post args (.bool true) args=true:=
 postW_of (r:=l.row.toRowW) (X:=(true == true))
  (show WShape.has [] (.bool true) .bool=true by first|rfl|decide|simp[WShape.has,WShape.arms,WShape.armsAll])
  (show(WTm.eq .res (.lit (.bool true))).value [] {args:=args,res:=some (.bool true),after:=args}=some (.bool (true == true)) from w_eq_bool (w_res rfl) w_lit) rfl
theorem attach_call{l:OpenLaw}{n:Nat}{q:Program}{g:List Str}{P:(Str ->Option Value) ->Heap ->Prop}{Q:World ->Heap ->Prop}{d:DefRec}
  (hn:l.most=some n)(N:d.params.defaults=[])
  (call:∀(w:World) (s₀ b:Shared) (H M:Str ->Option Value) (B:Addr) (o:Obj) (K E z:Value) (a:Addr) (vs:List Value) (ns:List Int),
   Ground q g [] P w s₀ H M b.heap ->Q w b.heap ->
   b.heap.get? B=some o ->o.data=.func (docDef d.name d.params d.body d.scope K E z) ->b.heap.CodeRec E d.name ->H d.name=some (.ref B) ->
   b.heap.get? a=some {cls:=.type "list",data:=.seq vs.toArray} ->IntsAre vs ns ->ns.length<=n ->b.gens= #[] ->
   codeAny (model l.prog w) callerA (.call (.ref B) ⟨[.ref a],[]⟩) (fun r F=>r=.ok (.ret (.bool true))/\ OldK b.heap F.heap/\ F.os=b.os/\ AllBare F.gens) b):
  WalkO q g P Q l.row.toRowW d [] (fun f vs=>PySem.call f vs):=by
 intro w s₀ b H M G Y B o K E z U kV T hd L O J hg S vals as C R a0 I a1
 obtain rfl:U=.none:=Dflts.none O N
 obtain rfl:kV=.none:=Dflts.noKw O
 obtain⟨a,vs,ns,rfl,rfl,A,h,D⟩:=Ff hn C I
 refine enter_call (codeAny_mono (call w s₀ b H M B o K E z a vs ns G Y T (fd_plain hd) L J A h D hg) fun r F hq=>?_)
 obtain⟨rfl,Z,W,h4⟩:=hq
 exact⟨.inl ⟨.bool true,.bool true,[],rfl,fun _=>rfl,.bool true,Eb l _,fun _=>⟨List.Pairwise.nil,fun _ X=>(nomatch X)⟩⟩,Z,W,h4⟩
section
variable {prog:Program} {w:World} {A:Around} {E:Value ->Shared ->Prop} {s:Shared} {K:Frag}
end
end Att
namespace L2
open PySem PySem.Spec PyProof.Rows
theorem xu:∀{vs:List Value} {ns:List Int},IntsAre vs ns ->iz (ns.map V.int) vs
 |_,_,.nil=>.nil
 |_,_,.cons n t h=>.cons ⟨t,rfl⟩ (xu h)
def GU(H:Hp):Prop:=∀b,H b=none∨∃o xs,H b=some (.frz o (.lst xs))
theorem Hj{P:Program}{w:World}{K:aW}{J Z:Str ->Option Value}{CX:CXT}{k:Nat}{W a:Addr}{fd:FuncData}{x:Str}{sp:Sp}{f:Shared}{vs:List Value}{ns:List Int}
  (KX:K.In f.heap)(N:f.heap.Ns mainGlobals J)(l:f.heap.Ns builtinsNs Z)(T:∀x:Str,x≠"__name__" ->Z x=bootBuiltins x)(L:f.heap.NoLimit)(hg:f.gens= #[])
  (ha:f.heap.get? a=some {cls:=.type "list",data:=.seq vs.toArray})(hi:IntsAre vs ns)(hl:ns.length<=sizeLine)(hr:jw k callerA)
  (F:∀base:Heap,K.In base ->base.Ns mainGlobals J ->lV P w K J base CX k W fd [x] sp)(D:∀(s:Shared) (u:Value),BindsTo s fd ⟨[u],[]⟩ [(x,u)])
  (U:∀H:Hp,GU H ->SqL K H a (ns.map V.int) ->sp [.ref a] H (fun v _=>v=.bl true) fun _ _ _=>False)
  (Y:∀H e A,CX [] H f (fun _ _ _=>False) e A ->False):
  codeAny (model P w) callerA (.call (.ref W) ⟨[.ref a],[]⟩) (fun r A=>r=.ok (.ret (.bool true))/\ OldK f.heap A.heap/\ A.os=f.os/\ AllBare A.gens) f:=by
 have rv:=xu hi
 have M:=hi.length
 -- from an abstract heap in which nothing but the script may be tracked
 have C:∀H:Hp,GU H ->SqL K H a (ns.map V.int) ->HOk P w H f.heap ->(∀b,H b≠none ->b=a) ->(H a≠none ->K.lookup a=none) ->
   codeAny (model P w) callerA (.call (.ref W) ⟨[.ref a],[]⟩) (fun r A=>r=.ok (.ret (.bool true))/\ OldK f.heap A.heap/\ A.os=f.os/\ AllBare A.gens) f:=by
  intro H hO hS G hA hK
  have g:∀{b:Addr} {o:Obj},f.heap.get? b=some o ->H b=none ->(rl f.heap H).get? b=some o:=fun e n=>Gb e n
  have S:∀{b:Addr} {o:Obj} {E:Array DictEntry} {Q:Nat},f.heap.get? b=some o ->o.data=.dict E Q ->H b=none:=fun {b o E Q} e d=>by
   cases q:H b with
   |none=>rfl
   |some u=>
    have X:b=a:=hA b (by rw[q];simp)
    subst X
    rw[ha] at e;cases e
    have d':Data.seq vs.toArray _=Data.dict E Q:=d
    cases d'
  have B:∀{b:Addr} {m:Str ->Option Value},f.heap.Ns b m ->(rl f.heap H).Ns b m:=fun {b m} ⟨o,E,Q,e,d,r⟩=>⟨o,E,Q,g e (S e d),d,r⟩
  have O:K.In (rl f.heap H):=fun b o e=>g (KX b o e) (by
   cases q:H b with
   |none=>rfl
   |some u=>
    have X:b=a:=hA b (by rw[q];simp)
    subst X
    rw[hK (by rw[q];simp)] at e;cases e)
  have hM:Mod K J (rl f.heap H):=⟨O,B N,⟨Z,B l,T⟩,let⟨mc,h1,h2⟩:=L;⟨mc,B h1,h2⟩⟩
  have e0:vf P w K J (rl f.heap H) callerA [] f H:=⟨rfl,hM,fun b o e=>Iz e,fB (EY _ _),trivial,fun b l=>absurd (show b∈([]:List Addr) from l) (by simp),G,.of_eq hg⟩
  refine codeAny_mono ((F _ O (B N)).run callerA [] f H ⟨[.ref a],[]⟩ [.ref a] [.ref a] _ _ hr e0 (D f (.ref a)) (.cons rfl .nil) (U H hO hS)) fun r A h=>?_
  cases r with
  |error e=>exact(Y H e A h).elim
  | ok fl=>
   cases fl with
   |next=>exact False.elim h
   |brk=>exact False.elim h
   |cont=>exact False.elim h
   | ret u=>
    obtain⟨v,H',os,bare,un,R,r',q⟩:=h
    have q':v=.bl true:=q
    subst q'
    obtain rfl:u=Value.bool true:=r'
    refine⟨rfl,OldK.of_keep fun b o e=>?_,os,bare⟩
    cases q:H b with
    |none=>exact un.keep b o e q (by intro z;exact absurd (show b∈([]:List Addr) from z) (by simp)) (by simp)
    | some u=>
     rcases hO b with z|⟨ob,xs,z⟩
     ·rw[q] at z;cases z
     ·have z2:=un.frzs b ob _ z
      obtain⟨e1,_⟩:=G b _ z
      obtain⟨e2,_⟩:=R b _ z2
      rw[e] at e1;cases e1
      exact e2
 cases hk:K.lookup a with
 |some o=>
  -- the script is one of the module's own objects
  have e:=KX a o hk
  rw[ha] at e
  cases e
  refine C (fun _=>none) (fun _=>.inl rfl) (.inr ⟨_,vs.toArray,_,hk,rfl,rfl,rfl,by rw[bR,M];exact hl,by simpa using rv⟩) (fun b u z=>by have I:(none:Option HO)=some u:=z;cases I) (fun b z=>absurd rfl z) fun z=>absurd rfl z
 | none=>
  refine C (fun b=>if b=a then some (.frz {cls:=.type "list",data:=.seq vs.toArray} (.lst (ns.map V.int))) else none) (fun b=>?_) (.inl (.inr ⟨{cls:=.type "list",data:=.seq vs.toArray},if_pos rfl⟩)) (fun b u z=>?_) (fun b z=>?_) fun _=>hk
  ·by_cases l:b=a
   ·exact .inr ⟨_,_,if_pos l⟩
   ·exact .inl (if_neg l)
  ·by_cases l:b=a
   ·have I:=(if_pos l).symm.trans z
    cases I
    subst l
    exact⟨ha,by rw[aX];exact hl,vs,_,rv,ha⟩
   ·have I:=(if_neg l).symm.trans z
    cases I
  ·by_cases l:b=a
   ·exact l
   ·exact absurd (if_neg l) z
abbrev KOf{K:aW}{h:Heap}(_:K.In h):aW:=K
theorem IL{l:PySem.W.OpenLaw}{n k:Nat}{q:Program}{B:List Str}{X:(Str ->Option Value) ->Heap ->Prop}{S:World ->Heap ->Prop}{d:DefRec}{K:Params ->aW}{CX:World ->CXT}{sp:World ->Sp}{x:Str}
  (hn:l.most=some n)(J:n<=sizeLine)(Q:d.params.defaults=[])(hr:jw k callerA)
  (Z:∀(w:World) (h:Heap),S w h ->(K w.params).In h)
  (F:∀(w:World) (C:Str ->Option Value) (I:Addr) (h:Heap),(K w.params).In h ->h.Ns mainGlobals C ->C d.name=some (.ref I) ->
   ∃L:FuncData,(∀(s:Shared) (u:Value),BindsTo s L ⟨[u],[]⟩ [(x,u)])/\
    ∀base:Heap,(K w.params).In base ->base.Ns mainGlobals C ->lV l.prog w (K w.params) C base (CX w) k I L [x] (sp w))
  (O:∀(w:World) (H:Hp) (a:Addr) (ns:List Int),ns.length<=n ->GU H ->SqL (K w.params) H a (ns.map V.int) ->sp w [.ref a] H (fun v _=>v=.bl true) fun _ _ _=>False)
  (N:∀(w:World) (H:Hp) (s:Shared) (e:Value) (P:Shared),CX w [] H s (fun _ _ _=>False) e P ->False):
  PySem.W.WalkO q B X S l.row.toRowW d [] (fun f vs=>PySem.call f vs):=by
 refine Att.attach_call hn Q fun w R E C mb I o pm cd a1 a vs ns G Y ho hd a0 M D A z hg=>?_
 have U:=Z w _ Y
 obtain⟨L,hb,hF⟩:=F w C I _ U G.T.g M
 exact Hj U G.T.g G.T.b G.T.builtins G.T.nolimit hg D A (bL z J) hr hF hb (fun H hO hS=>O w H a ns z hO hS) fun H e P=>N w H E e P
def jc(s:Stmt):Arguments:=match s with
 | .FunctionDef _ a _ _ _ _ _ _ _ _=>a
 |_=>{posonlyargs:=[],args:=[],vararg:=none,kwonlyargs:=[],kw_defaults:=[],kwarg:=none,defaults:=[]}
def iZ(s:Stmt):List Stmt:=match s with
 | .FunctionDef _ _ b _ _ _ _ _ _ _=>b
 |_=>[]
def hZ(s:Stmt):Scope:=match s with
 | .FunctionDef _ _ _ _ _ _ sc _ _ _=>sc
 |_=>{kind:=.function,names:=[],isGenerator:=false,isCoroutine:=false}
abbrev E0:XK:=fun _ _ _=>False
structure Fun(K:aW)(x qual:Str)(st:Stmt)(f:Addr)(fd:FuncData):Prop where
 ex:∃(oc:Value) (od:Option Addr) (kV doc pm:Value) (an:Option Addr) (cdv ct:Value) (osl:Array (Option Value)),
  fd=cB x qual (jc st) (iZ st) (hZ st) .none kV doc pm an cdv ct/\ K.lookup f=some ⟨oc,od,.func fd,osl⟩/\ cF K cdv qual=true
 kp:cj K (.ref f)=true
section
variable {P:Program} {w:World} {K:aW} {mg:Str ->Option Value} {base:Heap}
theorem Du{x qual:Str}{st:Stmt}{f:Addr}{A:Value}{B z:Option Addr}{h:Array (Option Value)}{kV g o b ct:Value}(l:K.lookup f=some ⟨A,B,.func (cB x qual (jc st) (iZ st) (hZ st) .none kV g o z b ct),h⟩)
  (c:cF K b qual=true)(k:cj K (.ref f)=true):Fun K x qual st f (cB x qual (jc st) (iZ st) (hZ st) .none kV g o z b ct):=⟨⟨A,B,kV,g,o,z,b,ct,h,rfl,l,c⟩,k⟩
end
theorem iC{A:Around}{k:Nat}(b:jw k A):A.units+1<cLine:=cS (Nat.add_le_add_left (by decide:1<=64) _) b.units
theorem xL{n:Nat}(h:n<=1000):n<sizeLine:=cS h (by decide)
section
variable {X:Cx}
end
theorem Fv{A B:Prop}(h:A):if true=true then A else B:=by
 rw[if_pos rfl]
 exact h
theorem JY{c A B:Prop} [Decidable c] (h1:c ->A)(b:¬c ->B):if c then A else B:=by
 by_cases h:c
 ·rw[if_pos h]
  exact h1 h
 ·rw[if_neg h]
  exact b h
def iu(H H':Hp):Prop:=∀b o,H b=some o ->H' b=some o
theorem iu.refl(H:Hp):iu H H:=fun _ _ h=>h
theorem iu.trans{H f g:Hp}(a:iu H f)(b:iu f g):iu H g:=fun c o h=>b c o (a c o h)
theorem iu.free{H b:Hp}(e:iu H b){l:Addr}(h:b l=Option.none):H l=Option.none:=by
 cases q:H l with
 |none=>rfl
 |some o=>
  rw[e l o q] at h
  cases h
theorem iu.seq{K:aW}{H b:Hp}{a:Addr}{xs:List V}(e:iu H b)(h:SqL K H a xs):SqL K b a xs:=by
 rcases h with(h|⟨o,h⟩)|h
 ·exact .inl (.inl (e _ _ h))
 ·exact .inl (.inr ⟨o,e _ _ h⟩)
 ·exact .inr h
end L2
set_option maxHeartbeats 20000000
namespace Lm
theorem yG(a b:Int):cu b (a%b)=cu a b:=by
 have e:a%b=a+(-(a/b))*b:=by
  have:=Int.emod_add_mul_ediv a b
  rw[Int.neg_mul,dW (a/b) b];omega
 rw[Int.gcd_comm b (a%b),e]
 exact Int.gcd_add_mul_right_left b a (-(a/b))
theorem vP{k m n:Int}(h:cu k m=1)(d:k∣m*n):k∣n:=by
 have b:k.natAbs∣m.natAbs*n.natAbs:=by
  rw[←dP];exact fU.mpr d
 have c:Nat.Coprime k.natAbs m.natAbs:=h
 exact fU.mp (c.dvd_of_dvd_mul_left b)
def dv(a b:Int):Int:=if b<0 then -(cu a b:Int) else(cu a b:Int)
def mk1(a b:Int):Int:=a.fdiv (dv a b)
def mk2(a b:Int):Int:=b.fdiv (dv a b)
theorem Bb{a b:Int}(f:b≠0):0<(cu a b:Int):=by
 have:0<cu a b:=eh a f
 omega
theorem CU{a b:Int}(f:b≠0):dv a b≠0:=by
 have:=Bb (a:=a) f
 unfold dv;split<;>omega
theorem AW(a b:Int):dv a b∣a:=by
 unfold dv;split
 ·exact Int.neg_dvd.mpr (gP a b)
 ·exact gP a b
theorem yI(a b:Int):dv a b∣b:=by
 unfold dv;split
 ·exact Int.neg_dvd.mpr (gJ a b)
 ·exact gJ a b
theorem xo(a b:Int):mk1 a b*dv a b=a:=Int.fdiv_mul_cancel (AW a b)
theorem tT(a b:Int):mk2 a b*dv a b=b:=Int.fdiv_mul_cancel (yI a b)
theorem BI{a b:Int}(o:b≠0):0<mk2 a b:=by
 have h:=tT a b
 have g:=Bb (a:=a) o
 have l:(b<0/\ dv a b<0)∨(0<b/\ 0<dv a b):=by
  unfold dv;split<;>omega
 rcases l with⟨h1,f⟩|⟨h1,f⟩
 ·rcases Int.lt_trichotomy (mk2 a b) 0 with q|q|q
  ·have:=Int.mul_pos_of_neg_of_neg q f;omega
  ·rw[q,Int.zero_mul] at h;omega
  ·exact q
 ·rcases Int.lt_trichotomy (mk2 a b) 0 with q|q|q
  ·have:=Int.mul_neg_of_neg_of_pos q f;omega
  ·rw[q,Int.zero_mul] at h;omega
  ·exact q
theorem FE(a b:Int):mk1 a b*b=a*mk2 a b:=by
 have h1:=xo a b
 have f:=tT a b
 calc mk1 a b*b=mk1 a b*(mk2 a b*dv a b):=by rw[f]
  _=(mk1 a b*dv a b)*mk2 a b:=by rw[dW (mk2 a b), ←fR]
  _=a*mk2 a b:=by rw[h1]
theorem pM(a b:Int):(dv a b).natAbs=cu a b:=by
 unfold dv;split<;>omega
theorem DJ{a b:Int}(h:b≠0):cu (mk1 a b) (mk2 a b)=1:=by
 have h1:=xo a b
 have l:=tT a b
 have f:cu (mk1 a b*dv a b) (mk2 a b*dv a b)=cu (mk1 a b) (mk2 a b)*(dv a b).natAbs:=Int.gcd_mul_right _ _ _
 rw[h1,l,pM] at f
 have g:0<cu a b:=eh a h
 exact Nat.eq_of_mul_eq_mul_right g (by rw[Nat.one_mul];exact f.symm)
theorem vS(a b:Int)(g:b≠0):(mk1 a b).natAbs<=a.natAbs:=by
 have h1:=congrArg Int.natAbs (xo a b)
 rw[dP,pM] at h1
 have f:0<cu a b:=eh a g
 rw[←h1]
 exact fI _ f
theorem wj(a b:Int)(g:b≠0):(mk2 a b).natAbs<=b.natAbs:=by
 have h1:=congrArg Int.natAbs (tT a b)
 rw[dP,pM] at h1
 have f:0<cu a b:=eh a g
 rw[←h1]
 exact fI _ f
theorem xX{p q r s:Int}(l:0<q)(f:0<s)(h1:cu p q=1)(g:cu r s=1)(h:p*s=r*q):p=r/\ q=s:=by
 have o:q∣s:=by
  have:q∣p*s:=⟨r,by rw[h,dW]⟩
  exact vP (by rw[Int.gcd_comm];exact h1) this
 have b:s∣q:=by
  have:s∣r*q:=⟨p,by rw[←h,dW]⟩
  exact vP (by rw[Int.gcd_comm];exact g) this
 have e:q=s:=by
  have z:=Int.le_of_dvd f o
  have w:=Int.le_of_dvd l b
  omega
 refine⟨?_,e⟩
 subst e
 exact Int.eq_of_mul_eq_mul_right (by omega) h
theorem xQ{a b p q:Int}(f:b≠0)(g:0<q)(h1:cu p q=1)(h:p*b=a*q):mk1 a b=p/\ mk2 a b=q:=by
 have l:=FE a b
 refine xX (BI f) g (DJ f) h1 ?_
 -- mk1 * q * b = a * mk2 * q = p * b * mk2
 refine Int.eq_of_mul_eq_mul_right f ?_
 calc mk1 a b*q*b=(mk1 a b*b)*q:=by rw[gn]
  _=(a*mk2 a b)*q:=by rw[l]
  _=(a*q)*mk2 a b:=by rw[gn]
  _=(p*b)*mk2 a b:=by rw[h]
  _=p*mk2 a b*b:=by rw[gn]
end Lm
namespace Lt
def pD(l:List Nat):Prop:=∀c∈l,48<=c/\ c<=57
instance (l:List Nat):Decidable (pD l):=inferInstanceAs (Decidable (∀c∈l,48<=c/\ c<=57))
def val(l:List Nat):Nat:=l.foldl (fun acc c=>acc*10+(c - 48)) 0
def fg(n:Nat):List Nat:=(gQ 10 n).map Char.toNat
theorem dc:∀d:Nat,d<10 ->(Nat.digitChar d).toNat=48+d:=by decide
theorem wv{n:Nat}(h:n<10):fg n=[48+n]:=by
 unfold fg
 rw[Nat.toDigits_of_lt_base h,bH,dc n h]
 rfl
theorem yr{n:Nat}(h:10<=n):fg n=fg (n/10)++[48+n%10]:=by
 have b:n%10<10:=Nat.mod_lt n (by decide)
 have t:gQ 10 (n/10)++gQ 10 (n%10)=gQ 10 (10*(n/10)+n%10):=Nat.toDigits_append_toDigits (by decide) (by omega) b
 rw[Nat.div_add_mod] at t
 unfold fg
 rw[←t,bZ,Nat.toDigits_of_lt_base b,bH,dc _ b]
 rfl
theorem zf(l:List Nat)(c:Nat):val (l++[c])=val l*10+(c - 48):=by
 unfold val
 rw[List.foldl_append]
 rfl
theorem Dl(n:Nat):val (fg n)=n:=by
 induction n using Nat.strongRecOn with
 | _ n ih=>
  by_cases h:n<10
  ·rw[wv h]
   show 0*10+(48+n - 48)=n
   omega
  ·rw[yr (by omega),zf,ih (n/10) (by omega)]
   omega
theorem sK(n:Nat):pD (fg n):=by
 induction n using Nat.strongRecOn with
 | _ n ih=>
  by_cases h:n<10
  ·rw[wv h]
   intro c b
   have:c=48+n:=by simpa using b
   omega
  ·rw[yr (by omega)]
   intro c b
   rcases bS.mp b with b|b
   ·exact ih (n/10) (by omega) c b
   ·have:c=48+n%10:=by simpa using b
    omega
theorem wa(n:Nat):fg n≠[]:=by
 by_cases h:n<10
 ·rw[wv h];simp
 ·rw[yr (by omega)];simp
theorem om{k:Nat}:∀{n:Nat},n<10^(k+1) ->(fg n).length<=k+1:=by
 induction k with
 |zero=>
  intro n h
  rw[wv (by simpa using h)]
  simp
 | succ k ih=>
  intro n h
  by_cases h9:n<10
  ·rw[wv h9];simp
  ·rw[yr (by omega),bf]
   have:n/10<10^(k+1):=by
    rw[Nat.div_lt_iff_lt_mul (by decide)]
    rw[fb] at h
    exact h
   have:=ih this
   simp
   omega
theorem pD.app{l m:List Nat}(h:pD (l++m)):pD l/\ pD m:=⟨fun c b=>h c (dD _ b),fun c b=>h c (bJ _ b)⟩
theorem Hg{P:List Nat ->Prop}(h0:P [])(h1:∀l c,P l ->P (l++[c]))(l:List Nat):P l:=by
 have:∀m:List Nat,P m.reverse:=fun m=>by
  induction m with
  |nil=>exact h0
  |cons c m ih=>rw[List.reverse_cons];exact h1 _ _ ih
 have:=this l.reverse
 rwa [List.reverse_reverse] at this
theorem Kb:∀{l:List Nat},pD l ->val l<10^l.length:=by
 intro l
 induction l using Hg with
 |h0=>intro _;decide
 |h1 l c ih=>
  intro h
  have h1:=ih h.app.1
  have b:=h.app.2 c (by simp)
  rw[zf,bf,List.length_singleton,fb]
  omega
theorem qY{n c:Nat}(h:c<48):c∉fg n:=fun b=>by
 have:=sK n c b
 omega
def sg(p:Int):List Nat:=if p<0 then [45] else []
def wr(p q:Int):List Nat:=sg p++fg p.natAbs++(if q=1 then [] else 47::fg q.natAbs)
def Ih(l:List Nat)(p q:Int):Prop:=l=wr p q/\ 0<q/\ cu p q=1/\ p.natAbs<10^60/\ q.natAbs<10^60
theorem MJ{p:Int}:47∉sg p:=by unfold sg;split<;>simp
theorem Ka(p:Int):47∉sg p++fg p.natAbs:=fun h=>by
 rcases bS.mp h with h|h
 ·exact MJ h
 ·exact qY (by decide) h
theorem KJ{p q:Int}(b:p.natAbs<10^60)(f:q.natAbs<10^60):(wr p q).length<=122:=by
 have h1:(fg p.natAbs).length<=60:=om (k:=59) b
 have g:(fg q.natAbs).length<=60:=om (k:=59) f
 unfold wr sg
 rw[bf,bf]
 split<;>split<;>simp<;>omega
end Lt
namespace Lt
def fgs(l:List Nat):Option Nat:=if l=[] then none else if 60<l.length then none else if pD l then some (val l) else none
def lY(a:List Nat):Option Int:=if a.head?=some 45 then(fgs a.tail).map (fun(n:Nat)=> -(n:Int)) else(fgs a).map (fun(n:Nat)=>(n:Int))
def spl:List Nat ->List Nat × Option (List Nat)
 |[]=>([],none)
 |c::r=>if c=47 then([],some r) else(c::(spl r).1,(spl r).2)
theorem qU:∀{l:List Nat},47∉l ->spl l=(l,none)
 |[],_=>rfl
 |c::r,h=>by
  unfold spl
  rw[if_neg (fun e=>h (by simp[e])),qU (fun z=>h (bc _ z))]
theorem pz:∀{a b:List Nat},47∉a ->spl (a++47::b)=(a,some b)
 |[],_,_=>by unfold spl;rfl
 |c::r,b,h=>by
  rw[List.cons_append]
  unfold spl
  rw[if_neg (fun e=>h (by simp[e])),pz (fun z=>h (bc _ z))]
theorem Dp(l:List Nat):(47∉l/\ spl l=(l,none))∨∃a b,l=a++47::b/\ 47∉a/\ spl l=(a,some b):=by
 by_cases h:47∈l
 ·right
  induction l with
  |nil=>simp at h
  | cons c r ih=>
   by_cases hc:c=47
   ·subst hc
    exact⟨[],r,rfl,cU,pz (a:=[]) cU⟩
   ·have:47∈r:=by
     rcases bw.mp h with e|e
     ·exact absurd e.symm hc
     ·exact e
    obtain⟨a,b,e,g,_⟩:=ih this
    have f:47∉c::a:=fun z=>by
     rcases bw.mp z with z|z
     ·exact hc z.symm
     ·exact g z
    subst e
    exact⟨c::a,b,rfl,f,pz (a:=c::a) f⟩
 ·exact .inl ⟨h,qU h⟩
def fin(l:List Nat)(t b:Int):Option (Int × Int):=if b=0 then none else if wr (Lm.mk1 t b) (Lm.mk2 t b)=l then some (Lm.mk1 t b,Lm.mk2 t b) else none
def my(l:List Nat):Option (Int × Int):=match spl l with
 |(a,none)=>(lY a).bind fun t=>fin l t 1
 |(a,some b)=>(lY a).bind fun t=>(fgs b).bind fun n=>fin l t n
def bare(l:List Nat):List Nat:=if l.head?=some 45 then l.tail else l
theorem rR{l:List Nat}{n:Nat}(h:fgs l=some n):n<10^60:=by
 unfold fgs at h
 split at h
 ·cases h
 ·split at h
  ·cases h
  ·rename_i b
   split at h
   ·rename_i ha
    cases h
    exact bp (Kb ha) (cI (by decide) (by omega))
   ·cases h
theorem zb{n:Nat}(h:n<10^60):fgs (fg n)=some n:=by
 have b:(fg n).length<=60:=om (k:=59) h
 unfold fgs
 rw[if_neg (wa n),if_neg (by omega),if_pos (sK n),Dl]
theorem Mx{n:Nat}{r:List Nat}:(fg n++r).head?≠some 45:=fun h=>by
 rw[List.head?_append] at h
 cases e:(fg n).head? with
 |none=>exact wa n (List.head?_eq_none_iff.mp e)
 |some c=>
  rw[e] at h
  have b:c=45:=by simpa using h
  have:c∈fg n:=List.mem_of_mem_head? (by rw[e];rfl)
  have:=sK n c this
  omega
theorem pN{a:List Nat}{t:Int}(h:lY a=some t):t.natAbs<10^60:=by
 unfold lY at h
 split at h
 ·obtain⟨n,e,z⟩:=bN.mp h
  have:=rR e
  omega
 ·obtain⟨n,e,z⟩:=bN.mp h
  have:=rR e
  omega
theorem Bx{p:Int}(h:p.natAbs<10^60):lY (sg p++fg p.natAbs)=some p:=by
 unfold lY sg
 by_cases hp:p<0
 ·rw[if_pos hp]
  have b:(([45]:List Nat)++fg p.natAbs).head?=some 45:=rfl
  rw[if_pos b,show(([45]:List Nat)++fg p.natAbs).tail=fg p.natAbs from rfl,zb h]
  show some (-((p.natAbs:Nat):Int))=some p
  congr 1
  omega
 ·rw[if_neg hp,List.nil_append]
  have b:(fg p.natAbs).head?≠some 45:=by have:=Mx (n:=p.natAbs) (r:=[]);rwa [cT] at this
  rw[if_neg b,zb h]
  show some ((p.natAbs:Nat):Int)=some p
  congr 1
  omega
theorem yX{l:List Nat}{t b p q:Int}(g:t.natAbs<10^60)(o:b.natAbs<10^60)(h:fin l t b=some (p,q)):Ih l p q:=by
 unfold fin at h
 split at h
 ·cases h
 ·rename_i f
  split at h
  ·rename_i e
   cases h
   exact⟨e.symm,Lm.BI f,Lm.DJ f,cS (Lm.vS _ _ f) g,cS (Lm.wj _ _ f) o⟩
  ·cases h
theorem Hm{l:List Nat}{p q:Int}:my l=some (p,q)↔Ih l p q:=by
 constructor
 ·intro h
  unfold my at h
  rcases Dp l with⟨_,e⟩|⟨a,b,_,_,e⟩
  ·rw[e] at h
   obtain⟨t,o,h⟩:=fJ.mp h
   exact yX (pN o) (by decide) h
  ·rw[e] at h
   obtain⟨t,o,h⟩:=fJ.mp h
   obtain⟨n,A,h⟩:=fJ.mp h
   have:=rR A
   exact yX (pN o) (by omega) h
 ·rintro⟨rfl,z,C,g,w⟩
  have f:∀b:Int,b=q ->fin (wr p q) p b=some (p,q):=fun b e=>by
   subst e
   obtain⟨B,D⟩:=Lm.xQ (a:=p) (b:=b) (by omega) z C rfl
   unfold fin
   rw[if_neg (by omega),B,D,if_pos rfl]
  unfold my
  by_cases h1:q=1
  ·have e:wr p q=sg p++fg p.natAbs:=by unfold wr;rw[if_pos h1,cT]
   rw[show spl (wr p q)=(sg p++fg p.natAbs,none) by rw[e];exact qU (Ka p)]
   show(lY (sg p++fg p.natAbs)).bind _=_
   rw[Bx g]
   exact f 1 h1.symm
  ·have e:wr p q=(sg p++fg p.natAbs)++47::fg q.natAbs:=by unfold wr;rw[if_neg h1]
   rw[show spl (wr p q)=(sg p++fg p.natAbs,some (fg q.natAbs)) by rw[e];exact pz (Ka p)]
   show(lY (sg p++fg p.natAbs)).bind (fun t=>(fgs (fg q.natAbs)).bind fun n=>fin (wr p q) t n)=_
   rw[Bx g,zb w]
   exact f _ (by omega)
end Lt
namespace L2
open PySem PySem.Spec PyProof.Rows
section
structure Has(K:aW)(mg:Str ->Option Value)(x:Str)(st:Stmt)(ps:List Str)(f:Addr)(fd:FuncData):Prop where
 fn:Fun K x x st f fd
 bd:∀us:List Value,us.length=ps.length ->bindArgs fd ⟨us,[]⟩=pure (ps.zip us)
 at_:mg x=some (.ref f)
theorem iy{K:aW}{h:Heap}{A:Str ->Option Value}{x:Str}{st:Stmt}{ps:List Str}{f:Addr}{B:Value}{C o:Option Addr}{z:Array (Option Value)}{kV g w b ct:Value}(X:K.In h)(G:h.Ns mainGlobals A)
  (a:bI K mainGlobals x=some (some (.ref f)))(l:K.lookup f=some ⟨B,C,.func (cB x x (jc st) (iZ st) (hZ st) .none kV g w o b ct),z⟩)
  (c:cF K b x=true)(k:cj K (.ref f)=true)
  (h:∀(kV g w:Value) (o:Option Addr) (b ct:Value) (us:List Value),us.length=ps.length ->bindArgs (cB x x (jc st) (iZ st) (hZ st) .none kV g w o b ct) ⟨us,[]⟩=pure (ps.zip us)):
  Has K A x st ps f (cB x x (jc st) (iZ st) (hZ st) .none kV g w o b ct):=
 ⟨Du (st:=st) l c k,h kV g w o b ct,cH X G a⟩
section
variable {X:Cx} {j k:Nat} {x:Str} {ps:List Str} {sp:Sp} {e:Expr} {es:List Expr} {t:TA} {p pos:Pos}
end
abbrev Bd(n:Nat)(x:Int):Prop:=Builtin.Int.intBits x<=n
theorem Bd.mono{m n:Nat}{x:Int}(h:Bd m x)(l:m<=n):Bd n x:=bL h l
theorem Bd.of_lt{n:Nat}{x:Int}(h:x.natAbs<2^n):Bd n x:=intBits_le_iff.mpr h
theorem Bd.of_le{n:Nat}{x y:Int}(h:Bd n y)(l:x.natAbs<=y.natAbs):Bd n x:=intBits_le_of_natAbs l h
theorem Bd.mul{m n k:Nat}{x y:Int}(b:Bd m x)(f:Bd n y)(l:m+n<=k):Bd k (x*y):=bL (intBits_mul_le b f) l
theorem Bd.add{m k:Nat}{x y:Int}(b:Bd m x)(f:Bd m y)(l:m+1<=k):Bd k (x+y):=bL (intBits_add_le b f) (by rw[Nat.max_self];exact l)
theorem Bd.sub{m k:Nat}{x y:Int}(b:Bd m x)(f:Bd m y)(l:m+1<=k):Bd k (x - y):=bL (intBits_sub_le b f) (by rw[Nat.max_self];exact l)
theorem Bd.fdiv{n:Nat}{x y:Int}(h:Bd n x):Bd n (x.fdiv y):=intBits_fdiv_le h
def lS(i j:Int):Prop:=∃m,Bd m i/\ Bd m j/\ m<=60000000
theorem lS.of{m:Nat}{i j:Int}(h1:Bd m i)(b:Bd m j)(h:m<=60000000):lS i j:=⟨m,h1,b,h⟩
def rG(_ j:Int):Prop:=j≠0/\ Bd 9000 j
def yq(i j:Int):Prop:=0<=j/\ (Builtin.Int.intBits i:Int)*j<=2^27
theorem wA{j:Int}(h0:j≠0){n:Nat}(h:Bd n j):j.natAbs.log2<n:=(Nat.log2_lt (by omega)).mpr (intBits_le_iff.mp h)
section
variable {X:Cx}
theorem Jx:OpR X (binaryOp .Mult) (rI lS fun i j=>.int (i*j)):=opI fun _ _ _ _ _ _ _ b q=>
 let⟨_,h1,h2,h3⟩:=b;PyProof.Rows.mul_int q (IntMulOk.of_le h1 h2 (by omega))
theorem GG:OpR X (binaryOp .FloorDiv) (rI rG fun i j=>.int (i.fdiv j)):=opI fun _ _ _ _ _ _ _ b q=>floordiv_int b.1 q (.inl (PyProof.noPylong_of_log2 (wA b.1 b.2)))
theorem Jy:OpR X (binaryOp .Pow) (rI yq fun i j=>.int (i^j.toNat)):=opI fun _ _ _ _ _ _ _ b q=>pow_int b.1 b.2 q
end
section
variable {X:Cx} {tg:Expr}
end
section
variable {X:Cx}
structure Kt(K:aW):Prop where
 ii:dE K (.type "int") (.type "int")=some true
 ib:dE K (.type "int") (.type "bool")=some false
 bb:dE K (.type "bool") (.type "bool")=some true
 tt:dE K (.type "tuple") (.type "tuple")=some true
 ss:dE K (.type "str") (.type "str")=some true
 ll:dE K (.type "list") (.type "list")=some true
 tl:dE K (.type "tuple") (.type "list")=some false
theorem HP{A:Around}{s:Shared}{a b c d:Int}{t u v x:Tok}:∀j (h1:j<(#[Value.int a t,Value.int b u]:Array Value).size) (f:j<(#[Value.int c v,Value.int d x]:Array Value).size),
  SeqAt.EqAt A s (#[Value.int a t,Value.int b u]:Array Value)[j] (#[Value.int c v,Value.int d x]:Array Value)[j] (if j=0 then decide (a=c) else decide (b=d)):=by
 intro j h1 f
 match j,h1 with
 |0,_=>exact As (y:=.int a) (x:=.int c) ⟨t,rfl⟩ ⟨v,rfl⟩ rfl rfl
 |1,_=>exact As (y:=.int b) (x:=.int d) ⟨u,rfl⟩ ⟨x,rfl⟩ rfl rfl
theorem pY{a b:Int}{f:List Value}(h:iz [.int a,.int b] f):∃t u,f=[.int a t,.int b u]:=by
 obtain⟨x,y,rfl,⟨t,rfl⟩,⟨u,rfl⟩⟩:=iz.two h
 exact⟨t,u,rfl⟩
def ND(K:aW):R2:=fun x y H Q=>∃l m a b c d,x=.ref l/\ y=.ref m/\ SqT K H l [.int a,.int b]/\ SqT K H m [.int c,.int d]/\ Q (.bl (decide (a=c) && decide (b=d))) H
def NC(K:aW):R2:=fun x y H Q=>∃l m a b c d,x=.ref l/\ y=.ref m/\ SqT K H l [.int a,.int b]/\ SqT K H m [.int c,.int d]/\ Q (.bl (!(decide (a=c) && decide (b=d)))) H
theorem DQ{p q:Bool}:(((dz (min 2 2)).all fun j=>if j=0 then p else q) && (2 == 2))=(p && q):=by cases p<;>cases q<;>rfl
theorem Dv(C:X.A.units<cLine):OpR X (compareOp .Eq) (ND X.K):=by
 intro N s M H x y v u Q I w z h
 obtain⟨l,m,a,b,c,d,rfl,rfl,h1,E,q⟩:=h
 cases w
 cases z
 obtain⟨o,F,B,_⟩:=I.tuple h1
 obtain⟨f,g,D,_⟩:=I.tuple E
 obtain⟨G,O,rfl⟩:=pY F
 obtain⟨J,L,rfl⟩:=pY g
 refine SeqAt.eq_tupleAt (e:=fun j=>if j=0 then decide (a=c) else decide (b=d)) B D C HP ?_
 exact⟨.bl _,H,I,congrArg Value.bool DQ,q⟩
theorem Kd(G:X.A.units<cLine):OpR X (compareOp .NotEq) (NC X.K):=by
 intro N s R H x y v u Q I E F h
 obtain⟨l,m,a,b,c,d,rfl,rfl,h1,C,q⟩:=h
 cases E
 cases F
 obtain⟨o,D,B,_⟩:=I.tuple h1
 obtain⟨f,g,J,_⟩:=I.tuple C
 obtain⟨L,O,rfl⟩:=pY D
 obtain⟨M,P,rfl⟩:=pY g
 have z:=SeqAt.RcNeAt.tuples (e:=fun j=>if j=0 then decide (a=c) else decide (b=d)) B J G HP X.prog X.w X.xe
 refine z _ ?_
 exact⟨.bl _,H,I,congrArg (fun k=>Value.bool (!k)) DQ,q⟩
end
section
variable {P:Program} {w:World} {H H':Hp} {h h':Heap} {a:Addr} {o:HO}
theorem js.has(x:js P w H h a o):∃ob,h.get? a=some ob:=by
 cases o with
 |lst xs=>obtain⟨_,_,_,_,e⟩:=x;exact⟨_,e⟩
 |tup xs=>obtain⟨_,_,_,ob,e,_⟩:=x;exact⟨ob,e⟩
 |dK kvs=>obtain⟨_,_,_,_,ob,_,_,e,_⟩:=x;exact⟨ob,e⟩
 |dT kvs=>obtain⟨_,_,_,_,ob,_,_,e,_⟩:=x;exact⟨ob,e⟩
 |set S n=>obtain⟨ob,_,_,_,e,_⟩:=x;exact⟨ob,e⟩
 |ins C dx fs=>obtain⟨_,_,_,e,_⟩:=x;exact⟨_,e⟩
 |own y=>exact x
 |xd fs=>obtain⟨_,⟨ob,_,_,e,_⟩,_⟩:=x;exact⟨ob,e⟩
 |rng lo hi=>obtain⟨_,_,_,e⟩:=x;exact⟨_,e⟩
 |frz ob u=>obtain⟨e,_⟩:=x;exact⟨_,e⟩
 |tbl ps=>exact⟨_,(show h.get? a=some _ from x)⟩
 |met f y=>exact⟨_,(show h.get? a=some _ from x)⟩
 |ext φ=>obtain⟨_,e,_⟩:=x;exact e
theorem HOk.has(x:HOk P w H h)(e:H a=some o):∃ob,h.get? a=some ob:=(x a o e).has
theorem HOk.none_of(x:HOk P w H h)(e:h.get? a=none):H a=none:=by
 cases q:H a with
 |none=>rfl
 |some u=>
  obtain⟨ob,z⟩:=x.has q
  rw[e] at z
  cases z
theorem HOk.stays(x:HOk P w H h)(k:∀a o ob,H a=some o ->h.get? a=some ob ->h'.get? a=some ob):HOk P w H h':=fun a o e=>
 (x a o e).stay (fun b u f q=>by
  rcases f with rfl|f
  ·exact k _ _ _ e q
  ·exact k _ _ _ f q) (fun _ q=>q) fun _ _ q=>q
end
set_option genInjectivity false in
structure Mq(P:Program)(w:World)(outer:List Env)(H:Hp)(s:Shared)(e:Addr)(cls:Value)(H':Hp)(s':Shared):Prop where
 os:s'.os=s.os
 bare:AllBare s'.gens
 un:Un (frs outer) [] H H' s.heap s'.heap
 hok:HOk P w H' s'.heap
 fl:∃B a0,Heap.FlyingW B outer e cls a0 s'.heap/\ (∀b o u,H' b=some u ->s'.heap.get? b=some o ->B.get? b=some o)/\ (∀b o o',s.heap.get? b=some o' ->b∉frs outer ->s'.heap.get? b=some o ->B.get? b=some o)
 nw:s.heap.get? e=none
 fr:H' e=none
def CXE(P:Program)(w:World):CXT:=fun outer H s E e s'=>∃(ea:Addr) (cls:Value) (H':Hp),e=.ref ea/\ Mq P w outer H s ea cls H' s'/\ E cls none H'
section
variable {P:Program} {w:World} {K:aW} {mg:Str ->Option Value} {base:Heap} {N:List Str} {qual:Str} {scope:Scope} {f:Addr} {cd:Value} {A:Around} {outer:List Env} {s₀ s s':Shared} {H₀ H H':Hp} {E E1:XK}
 {gW:List (Addr × Obj)} {σ:St} {h':Heap} {e:Addr} {cls:Value} {vs:List Value}
theorem zo{l:List Env}:∀env∈l,∀b,env.frame=some b ->b∈frs l:=fun env g b h=>eQ.mpr ⟨env,g,h⟩
theorem AI(I:Inv (iU (CXE P w) P w K mg base N qual scope f cd A outer s₀ H₀ E) gW σ H s)(R:Heap.MadeExcOf s.heap h' e cls vs)(q:E cls none H):
  (iU (CXE P w) P w K mg base N qual scope f cd A outer s₀ H₀ E).xe (.ref e) {s with heap:=h'}:=by
 have fr:=I.ok.frames
 have ff:=I.stack
 have sub:=I.stkSub
 have free:=I.stkFree
 have F:=I.ok.above
 have un:=I.base
 generalize hX:iU (CXE P w) P w K mg base N qual scope f cd A outer s₀ H₀ E=X at*
 have S:X.stack=X.env::X.outer:=by subst hX;rfl
 have a0:X.ex=[]:=by subst hX;rfl
 have O:wpAny (model P w) X.A (leaving X.env (.ref e)) (fun _ J=>CXE P w X.outer X.H₀ X.s₀ E (.ref e) J) (fun e' J=>CXE P w X.outer X.H₀ X.s₀ E e' J) {s with heap:=h'}:=by
  refine wpAny_leaves_madeW (base:=PySem.W.hideAll s.heap (frs X.stack)) (h:=s.heap) (env:=X.env) (outer:=X.outer) (L:=X.env.locals) (by rw[fr,S]) (by subst hX;rfl) (fun b o z=>PySem.W.of_hideAll _ z)
   (by rw[←S];exact PySem.W.funFrames_hide ff zo) R fun h2 t x1 x2 x3 x4=>?_
  have stay:∀b o,s.heap.get? b=some o ->b∉frs X.stack ->h2.get? b=some o:=fun b o z n=>x1.1 b o (fu _ z n)
  have slots:∀b o,s.heap.get? b=some o ->b∈frs X.stack ->∃Y,h2.get? b=some {o with slots:=Y}:=fun b o z g=>by
   obtain⟨_,D,M,a2⟩:=ff.mem g
   rw[z] at M
   cases M
   exact x4 b o (R.keeps b o z) a2
  have trk:∀b u,H b=some u ->b∉frs X.stack:=fun b u z g=>by
   rw[free b g] at z
   cases z
  have G:∀b o,X.s₀.heap.get? b=some o ->b∉frs X.outer ->b∉frs X.stack:=fun b o z n g=>by
   rcases bw.mp (sub b g) with y|y
   ·exact absurd (bp (bq z) F) (by rw[y];exact cO _)
   ·exact n y
  have a1:∀b,b∈frs X.outer ->b∈frs X.stack:=fun b g=>by
   obtain⟨env,he,hf⟩:=eQ.mp g
   exact zo env (by rw[S];exact bc _ he) b hf
  have l:∀b:Addr,b∉X.ex:=fun b z=>by
   rw[a0] at z
   exact absurd z (by simp)
  refine⟨e,cls,H,rfl,⟨I.os,I.bare,⟨fun b o z n g _=>?_,fun b o z n g _=>?_,fun b o z n _=>un.free b o z n (l b),fun b o z _=>?_,un.tups,un.frzs,un.tbls⟩,?_,⟨_,_,x1,fun b o u z y=>?_,fun b o D z n y=>?_⟩,?_,?_⟩,q⟩
  ·exact stay b o (un.keep b o z n g (l b)) (G b o z g)
  ·obtain⟨Y,Q⟩:=un.slot b o z n g (l b)
   obtain⟨T,U⟩:=slots b _ Q (a1 b g)
   exact⟨T,U⟩
  ·obtain⟨D,Q⟩:=un.there b o z (l b)
   by_cases g:b∈frs X.stack
   ·obtain⟨Y,U⟩:=slots b D Q g
    exact⟨_,U⟩
   ·exact⟨D,stay b D Q g⟩
  ·have B:HOk P w H s.heap:=by have:=I.hok;subst hX;exact this
   exact B.stays fun a u ob z y=>stay a ob y (trk a u z)
  ·have B:HOk P w H s.heap:=by have:=I.hok;subst hX;exact this
   obtain⟨ob,C⟩:=B.has z
   have Z:=stay b ob C (trk b u z)
   rw[Z] at y
   cases y
   exact fu _ C (trk b u z)
  ·obtain⟨o1,C⟩:=un.there b D z (l b)
   have Z:=stay b o1 C (G b D z n)
   rw[Z] at y
   cases y
   exact fu _ C (G b D z n)
  ·cases z:X.s₀.heap.get? e with
   |none=>rfl
   |some o=>
    obtain⟨o1,C⟩:=un.there e o z (l e)
    rw[R.new] at C
    cases C
  ·have B:HOk P w H s.heap:=by have:=I.hok;subst hX;exact this
   exact B.none_of R.new
 subst hX
 exact O
theorem yp(hE:∀cls H,E1 cls none H ->E cls none H):oj (CXE P w) (iU (CXE P w) P w K mg base N qual scope f cd A outer s₀ H₀ E) E1:=by
 intro gW σ H s ex s' I hc
 obtain⟨T,cls,H',rfl,F,q⟩:=hc
 have fr:=I.ok.frames
 have ff:=I.stack
 have sub:=I.stkSub
 have O:=I.ok.above
 have un:=I.base
 have os:=I.os
 generalize hX:iU (CXE P w) P w K mg base N qual scope f cd A outer s₀ H₀ E=X at*
 have st:X.stack=X.env::X.outer:=by subst hX;rfl
 have a2:X.ex=[]:=by subst hX;rfl
 obtain⟨B,a0,fl,b1,b2⟩:=F.fl
 have Y:wpAny (model P w) X.A (leaving X.env (.ref T)) (fun _ Q=>CXE P w X.outer X.H₀ X.s₀ E (.ref T) Q) (fun e' Q=>CXE P w X.outer X.H₀ X.s₀ E e' Q) s':=by
  refine wpAny_leaves_onW (base:=B) (env:=X.env) (outer:=X.outer) (L:=X.env.locals) (by rw[fr,st]) (by subst hX;rfl) (by rw[←st];exact fl) fun h2 x1 x4=>?_
  have D:∀b o,X.s₀.heap.get? b=some o ->b∉frs X.outer ->b∉frs X.stack:=fun b o z n h=>by
   rcases bw.mp (sub b h) with y|y
   ·exact absurd (bp (bq z) O) (by rw[y];exact cO _)
   ·exact n y
  have Z:∀b,b∈frs X.outer ->b∈frs X.stack:=fun b h=>by
   obtain⟨env,he,hf⟩:=eQ.mp h
   exact zo env (by rw[st];exact bc _ he) b hf
  have g:∀b:Addr,b∉X.ex:=fun b z=>by
   rw[a2] at z
   exact absurd z (by simp)
  have a1:s'.heap.FunFrames B X.stack:=fl.2.2.1
  have slots:∀b o,s'.heap.get? b=some o ->b∈frs X.stack ->∃sl,h2.get? b=some {o with slots:=sl}:=fun b o z h=>by
   obtain⟨_,M,W,a3⟩:=a1.mem h
   rw[z] at W
   cases W
   exact x4 b o z a3
  have l:∀b o M,s.heap.get? b=some M ->b∉frs X.stack ->s'.heap.get? b=some o ->h2.get? b=some o:=fun b o M z n y=>x1.1 b o (b2 b o M z n y)
  refine⟨T,cls,H',rfl,⟨F.os.trans os,F.bare,⟨fun b o z n h _=>?_,fun b o z n h _=>?_,fun b o z n _=>?_,fun b o z _=>?_,fun b xs z=>F.un.tups b xs (un.tups b xs z),fun b o u z=>F.un.frzs b o u (un.frzs b o u z),fun b ps z=>?_⟩,?_,⟨B,a0,x1,fun b o u z y=>?_,fun b o M z n y=>?_⟩,?_,F.fr⟩,hE _ _ q⟩
  ·have J:=un.keep b o z n h (g b)
   have R:=F.un.keep b o J (un.free b o z n (g b)) (D b o z h) (by simp)
   exact l b o o J (D b o z h) R
  ·obtain⟨sl,J⟩:=un.slot b o z n h (g b)
   obtain⟨a4,R⟩:=F.un.slot b _ J (un.free b o z n (g b)) (Z b h) (by simp)
   obtain⟨U,z3⟩:=slots b _ R (Z b h)
   exact⟨U,z3⟩
  ·obtain⟨C,J⟩:=un.there b o z (g b)
   exact F.un.free b C J (un.free b o z n (g b)) (by simp)
  ·obtain⟨C,J⟩:=un.there b o z (g b)
   obtain⟨S,R⟩:=F.un.there b C J (by simp)
   by_cases h:b∈frs X.stack
   ·obtain⟨sl,z3⟩:=slots b S R h
    exact⟨_,z3⟩
   ·exact⟨S,l b S C J h R⟩
  ·obtain⟨m1,e1⟩:=un.tbls b ps z
   obtain⟨m2,e2⟩:=F.un.tbls b _ e1
   exact⟨m1++m2,by rw[e2,gm]⟩
  ·exact F.hok.stays fun a u ob z y=>x1.1 a ob (b1 a ob u z y)
  ·obtain⟨ob,G⟩:=F.hok.has z
   have y2:=x1.1 b ob (b1 b ob u z G)
   rw[y2] at y
   rw[←Option.some.inj y]
   exact b1 b ob u z G
  ·obtain⟨C,G⟩:=un.there b M z (g b)
   obtain⟨S,y2⟩:=F.un.there b C G (by simp)
   have y3:=l b S C G (D b M z n) y2
   rw[y3] at y
   rw[←Option.some.inj y]
   exact b2 b S C G (D b M z n) y2
  ·cases z:X.s₀.heap.get? T with
   |none=>rfl
   |some o=>
    obtain⟨C,G⟩:=un.there T o z (g T)
    rw[F.nw] at G
    cases G
 subst hX
 exact Y
end
end
abbrev mx:List Value:=[.type "ValueError",.type "Exception",.type "BaseException",.type "object"]
structure oo(K:aW)(mg:Str ->Option Value)(x:Str)(C:Addr):Prop where
 at_:mg x=some (.ref C)
 ok:cX K C mx "ValueError.__new__"=true
theorem Iv{K:aW}{h:Heap}{C:Addr}{w:List Value}{b:String}(X:K.In h)(q:cX K C w b=true):
  ∃bm N nm A bs hdct sn sub ab col dd k0 k1 k2 k3 k5 mN,h.get? C=some (excClassObj nm A C N bs bm hdct sn sub ab col dd k0 k1 k2 k3 k5 b)/\ h.Ns N mN/\ mN "__init__"=none/\ OwnTail h w bm:=by
 unfold cX at q
 split at q
 ·rename_i dd H D F
  split at q
  ·rename_i M bm k0 k1 k2 k3 n k5 B E
   simp only[eI,beq_iff_eq,Bool.not_eq_true'] at q
   obtain⟨⟨⟨⟨⟨rfl,rfl⟩,f⟩,J⟩,g⟩,o⟩:=q
   obtain⟨nm,bs,G,ns,A,L,sn,sub,ab,col,I⟩:=H
   dsimp only at B f g o
   subst B f
   have z:D= #[k0,k1,k2,k3,some (.builtin n),k5]:=by
    obtain⟨l⟩:=D
    simp only at E
    rw[E]
   subst z
   exact⟨bm,ns,nm,A,bs,L,sn,sub,ab,col,dd,k0,k1,k2,k3,k5,_,X _ _ F,.of_isNs (PySem.W.isNs_of_in X g),PySem.W.nsMap_none_of_in X g o,PySem.W.tail_of_in X J⟩
  ·cases q
 ·cases q
def ie(P:Program)(w:World)(K:aW)(mg:Str ->Option Value)(base:Heap)(x:Str)(k:Nat)(ps:List Str)(sp:Sp):Prop:=
 ∃(f:Addr) (fd:FuncData),lV P w K mg base (CXE P w) k f fd ps sp/\ mg x=some (.ref f)/\ cj K (.ref f)=true/\ nU K fd ps []
theorem Has.calE{P:Program}{w:World}{K:aW}{g:Str ->Option Value}{base:Heap}{x:Str}{st:Stmt}{ps:List Str}{f:Addr}{b:FuncData}{k:Nat}{sp:Sp}(h:Has K g x st ps f b)
  (ok:lV P w K g base (CXE P w) k f b ps sp):ie P w K g base x k ps sp:=⟨f,b,ok,h.at_,h.fn.kp,.all h.bd⟩
section
variable {P:Program} {w:World} {K:aW} {mg:Str ->Option Value} {base:Heap}
theorem Fun.okE{x qual:Str}{st:Stmt}{f:Addr}{o:FuncData}{N ps:List Str}{k:Nat}{sp:Sp}(F:Fun K x qual st f o)(S:im N ps (hZ st))(len:∀vs H Q E,sp vs H Q E ->vs.length=ps.length)
  (g:∀(b:Value) (A:Around) (outer:List Env) (s:Shared) (H:Hp) (vs:List V) (Q:VK) (E:XK),jw k (A.deeper (envOfC qual (hZ st) s.heap.objs.size f b)) ->sp vs H Q E ->
   ∃t,PSs (iU (CXE P w) P w K mg base N qual (hZ st) f b A outer s H E) (iZ st) t/\ t {nx:=fun _ z=>Q .non z,rt:=Q} (oz N vs) H):lV P w K mg base (CXE P w) (k+1) f o ps sp:=by
 obtain⟨M,O,kV,G,J,L,b,I,C,rfl,D,h⟩:=F.ex
 exact Mb D h S len fun A outer s H vs Q E B l=>g b A outer s H vs Q E B l
end
section
variable {P:Program} {w:World} {K:aW} {mg:Str ->Option Value} {base:Heap} {N:List Str} {qual:Str} {scope:Scope} {f:Addr} {cd:Value} {A:Around} {outer:List Env} {s₀:Shared} {H₀:Hp} {E:XK}
 {x:Str} {C:Addr} {e₀:Expr} {rest:List Expr} {t:TA} {np cpos pos:Pos}
def LL(E:XK)(C:Addr)(t:TA):TS:=fun _ σ H=>t σ H fun vs H1=>vs.length<=1000/\ E (.ref C) none H1
theorem iQ(G:oo K mg x C)(X:Gl (iU (CXE P w) P w K mg base N qual scope f cd A outer s₀ H₀ E) x)(ha:PA (iU (CXE P w) P w K mg base N qual scope f cd A outer s₀ H₀ E) (e₀::rest) t)
  (W:(x == ("__debug__":Str))=false:=by decide)
  (B:starEach (e₀::rest) (iU (CXE P w) P w K mg base N qual scope f cd A outer s₀ H₀ E).env=(false,eval e₀ (iU (CXE P w) P w K mg base N qual scope f cd A outer s₀ H₀ E).env)::starEach rest (iU (CXE P w) P w K mg base N qual scope f cd A outer s₀ H₀ E).env:=by rfl)
  (g:(backTo cpos (starEach rest (iU (CXE P w) P w K mg base N qual scope f cd A outer s₀ H₀ E).env)).any (·.1)=false:=by rfl):
  PS (iU (CXE P w) P w K mg base N qual scope f cd A outer s₀ H₀ E) (.Raise (some (.Call (.Name x np) (e₀::rest) [] cpos)) none pos) (LL E C t):=by
 intro R s U H D I h
 obtain⟨bm,M,nm,S,bs,hdct,sn,sub,ab,col,dd,k0,k1,k2,k3,k5,mN,L,O,o,T⟩:=Iv I.ok.mod.kin G.ok
 refine wpAny_Raise_call_subT (C:=C) (nm:=nm) (q:=S) (N:=M) (bs:=bs) (bm:=bm) (hdct:=hdct) (sn:=sn) (sub:=sub) (ab:=ab) (col:=col) (dd:=dd) (k0:=k0) (k1:=k1) (k2:=k2) (k3:=k3) (k5:=k5)
  PySem.F.excBase_ValueError (mN:=mN) (T.hasType (by decide)) (I.ok.hd rfl) (by rw[B];show(false || (backTo cpos (starEach rest _)).any (·.1))=false;rw[g];rfl) o (tX I X G.at_ ⟨rfl,?_⟩ W)
 have z:=ha cpos R s U H _ I h
 rw[B] at z ⊢
 refine Calls.evalArgs_plain (thn z fun Y s1 ⟨vs,H1,b,r,l,q⟩=>⟨rfl,?_,b.bk _ _ L,O.keeps b.bk,T.keeps b.bk,fun Z e J=>AI b J q⟩)
 have Q:=r.length
 exact bL (fB Q.symm) (db (xL l))
end
section
variable {P:Program} {w:World} {K:aW} {mg:Str ->Option Value} {base:Heap} {N:List Str} {qual:Str} {scope:Scope} {f:Addr} {cd:Value} {A:Around} {outer:List Env} {s₀:Shared} {H₀:Hp} {E:XK}
 {j k:Nat} {x:Str} {ps:List Str} {sp:Sp} {e:Expr} {es:List Expr} {t:TA} {p pos:Pos}
theorem hW(C:ie P w K mg base x j ps sp)(D:jw k (iU (CXE P w) P w K mg base N qual scope f cd A outer s₀ H₀ E).A)(o:j<=k)(B:Gl (iU (CXE P w) P w K mg base N qual scope f cd A outer s₀ H₀ E) x)
  (ha:PA (iU (CXE P w) P w K mg base N qual scope f cd A outer s₀ H₀ E) (e::es) t)(h:(x == ("__debug__":Str))=false:=by decide)
  (G:starEach (e::es) (iU (CXE P w) P w K mg base N qual scope f cd A outer s₀ H₀ E).env=(false,eval e (iU (CXE P w) P w K mg base N qual scope f cd A outer s₀ H₀ E).env)::starEach es (iU (CXE P w) P w K mg base N qual scope f cd A outer s₀ H₀ E).env:=by rfl)
  (l:(backTo pos (starEach es (iU (CXE P w) P w K mg base N qual scope f cd A outer s₀ H₀ E).env)).any (·.1)=false:=by rfl):
  PE (iU (CXE P w) P w K mg base N qual scope f cd A outer s₀ H₀ E) (.Call (.Name x p) (e::es) [] pos) (BP sp [] E t):=by
 obtain⟨g,gd,F,m,z,b⟩:=C
 exact Bc F (D.mono o) B m z b .nil (yp fun _ _ q=>q) ha h G l
end
def HQ(ea C:Addr)(h:Heap):Prop:=∃o vs,h.get? ea=some o/\ o.cls=.ref C/\ o.data=.fields vs
section
variable {X:Cx} {gW:List (Addr × Obj)} {σ:St} {H H':Hp} {s s':Shared} {ea:Addr}
end
section
variable {X:Cx} {gW:List (Addr × Obj)} {σ:St} {H H':Hp} {s s':Shared} {ea:Addr}
end
section
variable {X:Cx}
end
structure Nz(K:aW)(C:Addr):Prop where
 kc:(PySem.W.clsIn K C).isSome=true
 ga:bO K (.ref C) "__getattribute__"=some (some (.builtin "BaseException.__getattribute__"))
 gt:bO K (.ref C) "__getattr__"=some none
 cl:bO K (.ref C) "__class__"=some (some (.builtin "object.__class__"))
 sg:PySem.W.specialIn K (.builtin "object.__class__") "__get__"=some (some (.builtin "getset_descriptor.__get__"))
 tk:PySem.W.takesIn K (.builtin "object.__class__")=some true
 mo:PySem.W.mroIn K C (.type "object")=some true
 mb:PySem.W.mroIn K C (.type "BaseException")=some true
end L2
namespace Exk
open PySem PySem.Calls PyProof.Rows PySem.Builtin PySem.Builtin.ObjectAttr PySem.Builtin.Getset_descriptor
open L2 (HQ Nz)
section
variable {prog:Program} {w:World} {K:aW} {ea C:Addr}
theorem ty{M:Model}{h:Heap}(p:HQ ea C h):PySem.W.Looks M h (typeOf (.ref ea)) (.ref C):=by
 obtain⟨o,b,e,c,_⟩:=p
 exact c▸(PySem.W.Looks.ld e).andThen .now
end
end Exk
namespace L2
open PySem PySem.Spec PyProof.Rows
section
variable {X:Cx}
theorem Do{o e:Expr}{z:TE}{t:TA}{g b:Pos}(B:PE X o z)(ha:PA X [e] t)(h:attributeBase o "append" X.env (eval o X.env)=eval o X.env:=by rfl)
  (w:((backTo b (starEach [e] X.env)).all (fun x=> !x.1) && (backToKw b (keywordEach [] X.env)).all (fun x=>x.1.isSome) && decide ([e].length+([]:List Keyword).length+(if([]:List Keyword).isEmpty then 0 else 1)<30))=true:=by rfl)
  (l:(g.endLine == b.line)=true:=by rfl)(A:starEach [e] X.env=(false,eval e X.env)::starEach [] X.env:=by rfl)(f:(backTo b (starEach [] X.env)).any (·.1)=false:=by rfl):
  PE X (.Call (.Attribute o "append" g) [e] [] b) (tBM X.K "list" Bv z t):=
 kW cW PySem.F.slot_list_append PySem.F.type_list_append pW B ha h w l A f
theorem vX:∀{bs:List Bool} {its:List Value},iz (bs.map V.bl) its ->its=bs.map Value.bool
 |[],_,.nil=>rfl
 |d::ds,_,.cons r t=>by
  cases r
  rw[vX t]
  rfl
end
def tx(l:List Nat):Str:=⟨l.toArray⟩
theorem jt(l:List Nat):(tx l).cps.toList=l:=by simp[tx]
theorem Nh(x:Str):tx x.cps.toList=x:=by
 obtain⟨a⟩:=x
 simp[tx]
theorem wz{x:Str}{l:List Nat}(h:x.cps.toList=l):x=tx l:=by rw[←h,Nh]
theorem li{l m:List Nat}(h:tx l=tx m):l=m:=by rw[←jt l,h,jt]
theorem iK(l:List Nat):(tx l).length=l.length:=by simp[tx,Str.length]
theorem LA(l m:List Nat):tx l++tx m=tx (l++m):=wz (by
 show((tx l).cps++(tx m).cps).toList=l++m
 rw[Array.toList_append,jt,jt])
section
variable {X:Cx}
def Mn:R2:=fun x y H Q=>∃l m,x=.str (tx l)/\ y=.str (tx m)/\ l.length+m.length<=100000/\ Q (.str (tx (l++m))) H
theorem iG:OpR X (binaryOp .Add) Mn:=by
 intro g s f H x y v u Q I w b h
 obtain⟨l,m,rfl,rfl,o,q⟩:=h
 refine Cs g s f H _ _ v u Q I w b ⟨_,_,rfl,rfl,?_,by rw[LA];exact q⟩
 rw[iK,iK]
 exact bL o (by decide)
def Oi:R2:=fun x y H Q=>∃l i c,x=.str (tx l)/\ y=.int i/\ l.length<=100000/\ atI l i=some c/\ Q (.str (tx [c])) H
theorem HS:IxR X Oi:=by
 intro b f A s z H x y v u Q I o w h g
 obtain⟨l,i,c,rfl,rfl,B,e,q⟩:=h
 exact Lg b f A s z H _ _ v u Q I o w ⟨tx l,i,c,rfl,rfl,by rw[iK];exact bL B (by decide),by rw[jt];exact e,q⟩ g
theorem og:jr X (.builtin "len") (fun xs H Q=>∃l,xs=[.str (tx l)]/\ l.length<=100000/\ Q (.int l.length) H):=by
 intro b s o H xs g Q I r h
 obtain⟨l,rfl,f,q⟩:=h
 exact zU b s o H _ g Q I r ⟨tx l,rfl,by rw[iK];exact bL f (by decide),by rw[iK];exact q⟩
def ny(l:List Nat)(lo hi:Option Int):List Nat:=(l.drop (HT.sIx l.length 0 lo)).take (HT.sIx l.length l.length hi - HT.sIx l.length 0 lo)
theorem yy(v:Int)(n d:Nat):max (0:Int) (min (if v<0 then v+n else v) n)=((HT.sIx n d (some v):Nat):Int):=by
 rw[←HT.clip_eq v n d]
 split<;>omega
theorem uD(lo b:Option Int)(n:Nat):Builtin.Str.strSliceIndices lo b 1 n=Builtin.Str.strSliceIndices (some ((HT.sIx n 0 lo:Nat):Int)) (some ((HT.sIx n n b:Nat):Int)) 1 n:=by
 have h1:∀k:Nat,k<=n ->max (0:Int) (min (if(k:Int)<0 then(k:Int)+n else(k:Int)) n)=k:=fun k h=>by
  rw[if_neg (by omega)]
  omega
 have f:=HT.sIx_le n 0 (cf n) lo
 have g:=HT.sIx_le n n (bh n) b
 unfold Builtin.Str.strSliceIndices
 simp only[show((1:Int)>0)=True from by simp,if_true]
 rw[h1 _ f,h1 _ g]
 cases lo with
 |none=>
  cases b with
  |none=>rfl
  |some j=>simp only[yy j n n];rfl
 |some i=>
  cases b with
  |none=>simp only[yy i n 0];rfl
  |some j=>simp only[yy i n 0,yy j n n]
def Oa:V ->Option Int ->Option Int ->Hp ->VK ->Prop:=fun x lo hi H Q=>∃l,x=.str (tx l)/\ l.length<=100000/\ HT.sIx l.length 0 lo<=HT.sIx l.length l.length hi/\ Q (.str (tx (ny l lo hi))) H
theorem vO:SlR X Oa:=by
 intro R s U H x v S T lo P N Q I D C L J h
 obtain⟨l,rfl,O,b,q⟩:=h
 obtain⟨t,rfl⟩:=D
 refine⟨"str",_,PySem.F.slot_str_getitem.lookup,typeIs_str s _ t,?_⟩
 have part:∀{v:Value} {o:Option Int},IsPart v o ->∃p:Option (Int × Tok),v=partValue p/\ p.map (·.1)=o:=fun {v o} h=>by
  cases h with
  |none=>exact⟨none,rfl,rfl⟩
  |int i t=>exact⟨some (i,t),rfl,rfl⟩
 obtain⟨p,rfl,rfl⟩:=part L
 obtain⟨r,rfl,rfl⟩:=part J
 have f:(tx l).length=l.length:=iK l
 have w:=HT.sIx_le l.length l.length (bh _) (r.map (·.1))
 have G:(slicePicked (tx l) p r none).filterMap ((tx l).cps[·]?)=ny l (p.map (·.1)) (r.map (·.1)):=by
  unfold slicePicked
  rw[show((none:Option (Int × Tok)).map (·.1)).getD 1=(1:Int) from rfl,uD,f]
  have e:=StrLaws.sliced_plain (tx l) b (by rw[f];exact w)
  rw[f,jt] at e
  exact e
 have g:(slicePicked (tx l) p r none).length=HT.sIx l.length l.length (r.map (·.1)) - HT.sIx l.length 0 (p.map (·.1)):=by
  unfold slicePicked
  rw[show((none:Option (Int × Tok)).map (·.1)).getD 1=(1:Int) from rfl,uD,f,StrLaws.strSliceIndices_plain b w,aX,cP]
 refine wpAny_getItem_str_slice (l:=p) (u:=r) (st:=none) (by obtain⟨o,h1,M,A⟩:=C;exact⟨o,h1,M,A⟩) rfl ?_
 unfold sliceMade
 split
 ·rename_i z
  have E:(slicePicked (tx l) p r none).length=(tx l).length:=by
   have:=(eD.mp z).2
   exact beq_iff_eq.mp this
  have e:ny l (p.map (·.1)) (r.map (·.1))=l:=by
   unfold ny
   rw[g,f] at E
   have B:HT.sIx l.length 0 (p.map (·.1))=0:=by omega
   have K:HT.sIx l.length l.length (r.map (·.1))=l.length:=by omega
   rw[B,K]
   simp
  rw[e] at q
  exact⟨.str (tx l),H,I,⟨t,rfl⟩,q⟩
 ·rw[G]
  refine⟨?_,⟨.str (tx (ny l (p.map (·.1)) (r.map (·.1)))),H,I.tok _,⟨_,rfl⟩,q⟩⟩
  show(tx (ny l (p.map (·.1)) (r.map (·.1)))).length<=sizeLine
  rw[iK]
  unfold ny
  rw[bW,dB]
  have:sizeLine=16777216:=by decide
  omega
theorem Em{c:Nat}{r:List Nat}:ny (c::r) (some 1) none=r/\ HT.sIx (c::r).length 0 (some 1)<=HT.sIx (c::r).length (c::r).length none:=by
 have e:HT.sIx (c::r).length 0 (some ((1:Nat):Int))=min 1 (c::r).length:=HT.sIx_nat _ _ _
 have b:HT.sIx (c::r).length 0 (some 1)=1:=by
  have:HT.sIx (c::r).length 0 (some 1)=min 1 (c::r).length:=e
  rw[this,bE]
  omega
 unfold ny
 rw[b,HT.sIx_none]
 refine⟨?_,by rw[bE];omega⟩
 simp
def IC:V ->List V ->Hp ->VK ->Prop:=fun x vs H Q=>∃l c,x=.str (tx l)/\ vs=[.str (tx [c])]/\ Q (.bl (decide (l.head?=some c))) H
theorem xV:MtM X "str.startswith" IC:=by
 intro C s B H x A v z Q I g b h
 obtain⟨l,c,rfl,rfl,q⟩:=h
 obtain⟨t,rfl⟩:=g
 obtain⟨u,rfl,f,rfl⟩:=b.one
 refine call_gives gr (typeIs_str s _ t) PySem.F.entry_str_startswith (PySem.F.args_str_startswith_2 _ _) (gives_str_startswith (tx l) (tx [c]) t f) ?_
 refine⟨.bl (decide (l.head?=some c)),H,I,?_,q⟩
 show Value.bool _=Value.bool _
 have e:=StrLaws.subAt_one (tx l) c 0
 rw[jt] at e
 have o:(⟨#[c]⟩:Str)=tx [c]:=rfl
 rw[o] at e
 have w:l[0]? =l.head?:=by cases l<;>rfl
 rw[w] at e
 congr 1
 rw[eR,decide_eq_true_eq, ←e,eI,decide_eq_true_eq]
def KY:V ->List V ->Hp ->VK ->Prop:=fun x vs H Q=>∃l c,x=.str (tx l)/\ vs=[.str (tx [c])]/\ l.length<=100000/\
 (∀a b,l=a++c::b ->c∉a ->∀p,H p=none ->Q (.ref p) (upd H p (.tup [.str (tx a),.str (tx [c]),.str (tx b)])))/\
 (c∉l ->∀p,H p=none ->Q (.ref p) (upd H p (.tup [.str (tx l),.str (tx []),.str (tx [])])))
theorem Ag:MtM X "str.partition" KY:=by
 intro J s K H x vs v Z Q I R M h
 obtain⟨l,c,rfl,rfl,W,Y,O⟩:=h
 obtain⟨t,rfl⟩:=R
 obtain⟨u,rfl,t',rfl⟩:=M.one
 have A:(tx l).length<=sizeLine:=by rw[iK];exact bL W (by decide)
 have G:H s.heap.objs.size=none:=I.hok.fresh (bh _)
 refine call_meets gC (typeIs_str s _ t) PySem.F.entry_str_partition (PySem.F.args_str_partition_2 _ _) (meets_str_partition (tx l) (tx [c]) t t' rfl A) ?_
 have one:∀i,StrLaws.At (tx l) (tx [c]) (tx l).length i↔l[i]? =some c:=fun i=>by
  have e:=StrLaws.subAt_one (tx l) c i
  rw[jt] at e
  exact e
 have new:∀(g:List V) (f:List Value) (tk:Nat),iz g f ->g.length<=sizeLine ->Q (.ref s.heap.objs.size) (upd H s.heap.objs.size (.tup g)) ->
   EP X J K Q (.ref s.heap.objs.size) {s with toks:=tk,heap:=s.heap.push {cls:=.type "tuple",data:=.seq f.toArray}}:=fun g f tk r z q=>by
  refine⟨.ref s.heap.objs.size,upd H s.heap.objs.size (.tup g),I.laid (t':=tk) (fun b u e=>aY _ e) (bh _) ?_,rfl,q⟩
  exact⟨z,f,r,⟨_,bu _ rfl,rfl,_,rfl⟩⟩
 rcases StrLaws.occ_head (tx l) (tx [c]) 1 (bh 1) with⟨h0,D⟩|⟨i,r,h0,B,D⟩
 ·rw[h0]
  refine new [.str (tx l),.str (tx []),.str (tx [])] _ _ (.cons ⟨t,rfl⟩ (.cons ⟨_,rfl⟩ (.cons ⟨_,rfl⟩ .nil))) (by show 3<=sizeLine;decide) (O (fun w=>?_) _ G)
  obtain⟨i,B⟩:=bF.mp w
  exact D i ((one i).mpr B)
 ·rw[h0]
  have L:=(one i).mp B
  have E:i<l.length:=(aZ.mp L).1
  have S:l=l.take i++c::l.drop (i+1):=by
   have N:l.drop i=c::l.drop (i+1):=by
    rw[cK E,(aZ.mp L).2]
   rw[←N,dQ]
  have T:Builtin.Str.strSub (tx l) 0 i=tx (l.take i):=wz (by
   show((tx l).cps.extract 0 i).toList=_
   rw[eE,jt]
   simp)
  have U:Builtin.Str.strSub (tx l) (i+(tx [c]).length) (tx l).length=tx (l.drop (i+1)):=wz (by
   show((tx l).cps.extract (i+1) (tx l).length).toList=_
   rw[eE,jt,iK]
   simp
   rw[cM (by rw[dB];omega)])
  have P:c∉l.take i:=fun w=>by
   obtain⟨k,C⟩:=bF.mp w
   have o:k<i:=by
    have:=(aZ.mp C).1
    rw[bW] at this
    omega
   rw[dA o] at C
   exact D k o ((one k).mpr C)
  show EP X J K Q (.ref s.heap.objs.size) {s with toks:=s.toks+1+1,heap:=s.heap.push {cls:=.type "tuple",data:=.seq [Value.str (Builtin.Str.strSub (tx l) 0 i) s.toks,.str (tx [c]) t',.str (Builtin.Str.strSub (tx l) (i+(tx [c]).length) (tx l).length) (s.toks+1)].toArray}}
  rw[T,U]
  exact new [.str (tx (l.take i)),.str (tx [c]),.str (tx (l.drop (i+1)))] _ _ (.cons ⟨_,rfl⟩ (.cons ⟨t',rfl⟩ (.cons ⟨_,rfl⟩ .nil))) (by show 3<=sizeLine;decide) (Y _ _ S P _ G)
theorem me:jr X (.type "int") (fun xs H Q=>∃l n,xs=[.str (tx l)]/\ intText? (tx l)=some n/\ l.length<=640/\ Q (.int n) H):=by
 intro w s o H xs g Q I r h
 obtain⟨l,n,rfl,b,f,q⟩:=h
 obtain⟨u,rfl,t,rfl⟩:=kr r
 exact PySem.W.KIN.call_text b (by rw[iK];exact f) ⟨.int n,H,I.tok _,⟨_,rfl⟩,q⟩
theorem AA:OpR X (compareOp .NotIn) (fun x y H Q=>∃c l,x=.str (tx [c])/\ y=.str (tx l)/\ Q (.bl (!decide (c∈l))) H):=by
 intro w s g H x y v u Q I b f h
 obtain⟨c,l,rfl,rfl,q⟩:=h
 refine zm w s g H _ _ v u Q I b f ⟨_,_,rfl,rfl,?_⟩
 have e:=StrLaws.found_one (tx l) c
 rw[jt] at e
 have o:(⟨#[c]⟩:Str)=tx [c]:=rfl
 rw[o] at e
 rw[e]
 exact q
def Itx(l:List Nat):It:=⟨fun i _=>i<l.length,fun i H x H'=>H'=H/\ ∃c,l[i]? =some c/\ x=.str (tx [c]),fun i _=>i=l.length⟩
theorem Bh{P:Program}{w:World}{K:aW}{tg:Expr}(f:Addr)(l:List Nat)(t:Tok)(ty:String)(W:∀A:Around,A.handled=none ->Walks P w A f [f] [f] (tx l).cps.size (SignAt (tx l)) (fun i h=>h.IsStrIter f ty (tx l) t i))
  (C:∀(A:Around) (i:Nat) (s:Shared) (Q:Value ->Shared ->Prop) (E:Value ->Shared ->Prop),s.heap.IsStrIter f ty (tx l) t i ->Q (.ref f) s ->wpAny (model P w) A (pyIter (.ref f)) Q E s)
  (R:["enumerate","zip","dict_itemiterator","dict_reverseitemiterator","odict_iterator","itertools.zip_longest","itertools.pairwise"].contains ty=false):
  qg P w K tg (Itx l) [f] f (fun i h=>h.IsStrIter f ty (tx l) t i) where
 mem:=by simp
 obj:=fun i h g b B=>by
  have e:b=f:=by simpa using B
  subst e
  obtain⟨o,e,c,d⟩:=g
  exact⟨o,e,fun v z=>by rw[d] at z;cases z⟩
 keep:=fun i h G g k=>by
  obtain⟨o,e,r⟩:=g
  exact⟨o,k f (by simp) o e,r⟩
 item:=by
  intro X O L J hc i gW s σ H E I F g hg
  subst O L J
  obtain⟨Y,N,f2,Z,U,S⟩:=F f (by simp)
  have T:i<(tx l).cps.size:=by
   have:(tx l).length=l.length:=iK l
   have M:(tx l).cps.size=l.length:=this
   rw[M]
   exact hg
  refine(W X.A (I.ok.hd hc)).item i s _ _ T g fun v G tk hv D kk=>?_
  obtain⟨c,u,e,rfl⟩:=hv
  have I1:Inv X gW σ H {s with heap:=G,toks:=tk}:=I.turned (fun b o B e=>kk b o (by simpa using B) e) Y N Z U S
  obtain⟨o,e1,e2,e3⟩:=id D
  have e':l[i]? =some c:=by
   rw[←jt l,cG]
   exact e
  exact⟨_,rfl,vL (s:={s with heap:=G,toks:=tk}) (n:=ty) e1 e2 e3 R ⟨.str (tx [c]),H,I1,⟨u,rfl⟩,⟨rfl,c,e',rfl⟩,D,fun b B=>(F b B).1⟩⟩
 done:=by
  intro X O L J hc i gW s σ H E I F g hg
  subst O L J
  obtain⟨Y,N,f2,Z,U,S⟩:=F f (by simp)
  have e:i=(tx l).cps.size:=by
   have M:(tx l).cps.size=l.length:=iK l
   rw[M]
   exact hg
  subst e
  exact(W X.A (I.ok.hd hc)).done s _ _ g fun G tk kk=>⟨rfl,I.turned (fun b o B e=>kk b o (by simpa using B) e) Y N Z U S⟩
 self:=C
def iTx(tl:TE):TI:=fun σ H R=>tl σ H fun x H1=>∃l,x=.str (tx l)/\ R (Itx l) H1
theorem yC{D:Expr}{l:Expr}{tl:TE}(E:PE X l tl):PI X D l (iTx tl):=by
 intro C s B H R I h
 refine thn (E C s B H _ I h) fun v s1 ⟨x,A,f,G,l,e,q⟩=>?_
 subst e
 obtain⟨t,rfl⟩:=G
 have put:∀(o:Obj),Inv X C B A {s1 with heap:=s1.heap.push o}:=fun o=>f.kept (t':=s1.toks) fun b u e=>aY _ e
 cases ha:(tx l).cps.all (· <128) with
 |false=>
  refine wpAny_pyIter_wide ha ⟨s1.heap.objs.size,[s1.heap.objs.size],_,Itx l,A,rfl,put _,Bh _ l t "str_iterator" (fun F z=>Walks.strWide z _ (tx l) t) (fun _ _ _ _ _ g h=>wpAny_pyIter_striter_wide g h) (by decide),⟨_,bu _ rfl,rfl,rfl⟩,fun b w=>?_,q⟩
  have e:b=s1.heap.objs.size:=by simpa using w
  subst e
  exact f.fpOk (bh _) (f.hok.fresh (bh _))
 |true=>
  refine wpAny_pyIter_ascii ha ⟨s1.heap.objs.size,[s1.heap.objs.size],_,Itx l,A,rfl,put _,Bh _ l t "str_ascii_iterator" (fun F z=>Walks.strAscii z _ (tx l) t) (fun _ _ _ _ _ g h=>wpAny_pyIter_striter_ascii g h) (by decide),⟨_,bu _ rfl,rfl,rfl⟩,fun b w=>?_,q⟩
  have e:b=s1.heap.objs.size:=by simpa using w
  subst e
  exact f.fpOk (bh _) (f.hok.fresh (bh _))
end
theorem Kh{l:List Nat}{g:TG}{z:TS}{D:pk}{σ:St}{H:Hp}(f:Nat ->St ->Hp ->Prop)(h0:f 0 σ H)
  (B:∀i c σ H,l[i]? =some c ->f i σ H ->g (.str (tx [c])) σ H fun b w=>z {D with nx:=f (i+1),ct:=f (i+1),bk:=D.nx} b w)(E:∀σ H,f l.length σ H ->D.nx σ H):
  ∃W:Nat ->Nat ->St ->Hp ->Prop,(∃m,W 0 m σ H)/\ ∀i m σ H,W i m σ H ->
   ((Itx l).stop i H/\ D.nx σ H)∨((Itx l).go i H/\ ∃N:St ->Hp ->Prop,(∀o h,N o h ->∃A,A<m/\ W (i+1) A o h)/\ ∀x h,(Itx l).yld i H x h ->g x σ h fun b w=>z {D with nx:=N,ct:=N,bk:=D.nx} b w):=by
 refine⟨fun i m σ H=>m=l.length - i/\ i<=l.length/\ f i σ H,⟨l.length,by simp,cf _,h0⟩,?_⟩
 rintro i m σ H ⟨rfl,G,p⟩
 by_cases hlt:i<l.length
 ·refine .inr ⟨hlt,f (i+1),fun o h C=>⟨l.length - (i+1),by omega,rfl,hlt,C⟩,fun x h y=>?_⟩
  obtain⟨e,c,F,y⟩:=y
  subst e y
  exact B i c σ _ F p
 ·have e:i=l.length:=by omega
  subst e
  exact .inl ⟨rfl,E σ H p⟩
section
variable {X:Cx} {a b c e:Expr} {ta tb te:TE} {pos:Pos}
def nth:St ->Nat ->Option V
 |[],_=>none
 |v::_,0=>v
 |_::r,n+1=>nth r n
theorem oN:∀{σ:St} {i:Nat} {v:V},σ[i]? =some (some v)↔nth σ i=some v
 |[],i,v=>by simp[nth]
 |x::r,0,v=>by simp[nth]
 |x::r,i+1,v=>by
  rw[List.getElem?_cons_succ]
  exact oN (σ:=r) (i:=i)
def vw(i:Nat):TE:=fun σ H Q=>match nth σ i with|some v=>Q v H|none=>False
theorem IM(i:Nat):Hq i=vw i:=by
 funext σ H Q
 apply propext
 unfold Hq vw
 constructor
 ·rintro⟨v,e,q⟩
  rw[oN.mp e]
  exact q
 ·intro h
  split at h
  ·rename_i v e
   exact⟨v,oN.mpr e,h⟩
  ·exact h.elim
theorem dv(i:Nat){x:Str}{pos:Pos}(h:X.N[i]? =some x:=by rfl)(hv:Vis X.env.scope x:=by first|exact Or.inl rfl|exact Or.inr (Or.inl rfl)|exact Or.inr (Or.inr rfl))(g:(x == ("__debug__":Str))=false:=by decide)
  (f:(x == ("__classdict__":Str))=false:=by decide):PE X (.Name x pos) (vw i):=IM i▸JT h hv g f
@[elab_as_elim] theorem KW {f:Type} {P:List f ->Prop} (us:List f) (h:us.length=0) (k:P []):P us:=by
 cases us with
 |nil=>exact k
 |cons a r=>cases h
@[elab_as_elim] theorem ju {f:Type} {P:List f ->Prop} (us:List f) (h:us.length=1) (k:∀a,P [a]):P us:=by
 cases us with
 |nil=>cases h
 |cons a r=>exact KW r (Nat.succ.inj h) (k a)
@[elab_as_elim] theorem iL {f:Type} {P:List f ->Prop} (us:List f) (h:us.length=2) (k:∀a b,P [a,b]):P us:=by
 cases us with
 |nil=>cases h
 |cons a r=>exact ju r (Nat.succ.inj h) (k a)
@[elab_as_elim] theorem qH {f:Type} {P:List f ->Prop} (us:List f) (h:us.length=3) (k:∀a b c,P [a,b,c]):P us:=by
 cases us with
 |nil=>cases h
 |cons a r=>exact iL r (Nat.succ.inj h) (k a)
@[elab_as_elim] theorem qQ {f:Type} {P:List f ->Prop} (us:List f) (h:us.length=4) (k:∀a b c d,P [a,b,c,d]):P us:=by
 cases us with
 |nil=>cases h
 |cons a r=>exact qH r (Nat.succ.inj h) (k a)
@[elab_as_elim] theorem LF {f:Type} {P:List f ->Prop} (us:List f) (h:us.length=5) (k:∀a b c d e,P [a,b,c,d,e]):P us:=by
 cases us with
 |nil=>cases h
 |cons a r=>exact qQ r (Nat.succ.inj h) (k a)
theorem OpR.imp{f:Value ->Value ->Sem Value}{r g:R2}(h:OpR X f r)(i:∀x y H Q,g x y H Q ->r x y H Q):OpR X f g:=fun A s w H x y v u Q I l o z=>h A s w H x y v u Q I l o (i _ _ _ _ z)
def mI(g:Int ->Int ->VK ->Hp ->Prop):R2:=fun x y H Q=>match x,y with| .int i,.int j=>g i j Q H|_,_=>False
theorem lH{g:Int ->Int ->VK ->Hp ->Prop}{x y:V}{H:Hp}{Q:VK}(h:mI g x y H Q):∃i j,x=.int i/\ y=.int j/\ g i j Q H:=by
 unfold mI at h
 split at h
 ·exact⟨_,_,rfl,rfl,h⟩
 ·exact h.elim
def Gq:R2:=fun x y H Q=>match x,y with| .int i,.int j=>Q (.int (i+j)) H|_,_=>False
theorem jL:OpR X (binaryOp .Add) Gq:=Le.imp fun _ _ _ _ h=>lH (g:=fun i j Q H=>Q (.int (i+j)) H) h
def Nx:R2:=fun x y H Q=>match x,y with| .int i,.int j=>Q (.int (i - j)) H|_,_=>False
theorem uv:OpR X (binaryOp .Sub) Nx:=LG.imp fun _ _ _ _ h=>lH (g:=fun i j Q H=>Q (.int (i - j)) H) h
def dLt:R2:=fun x y H Q=>match x,y with| .int i,.int j=>Q (.bl (decide (i<j))) H|_,_=>False
theorem oO:OpR X (compareOp .Lt) dLt:=Nd.imp fun _ _ _ _ h=>lH (g:=fun i j Q H=>Q (.bl (decide (i<j))) H) h
def dLe:R2:=fun x y H Q=>match x,y with| .int i,.int j=>Q (.bl (decide (i<=j))) H|_,_=>False
theorem KA:OpR X (compareOp .LtE) dLe:=MM.imp fun _ _ _ _ h=>lH (g:=fun i j Q H=>Q (.bl (decide (i<=j))) H) h
def dGt:R2:=fun x y H Q=>match x,y with| .int i,.int j=>Q (.bl (decide (j<i))) H|_,_=>False
theorem rJ:OpR X (compareOp .Gt) dGt:=MC.imp fun _ _ _ _ h=>lH (g:=fun i j Q H=>Q (.bl (decide (j<i))) H) h
def dGe:R2:=fun x y H Q=>match x,y with| .int i,.int j=>Q (.bl (decide (j<=i))) H|_,_=>False
theorem Ny:OpR X (compareOp .GtE) dGe:=MI.imp fun _ _ _ _ h=>lH (g:=fun i j Q H=>Q (.bl (decide (j<=i))) H) h
def Oh:R2:=fun x y H Q=>match x,y with| .int i,.int j=>lS i j/\ Q (.int (i*j)) H|_,_=>False
theorem iY:OpR X (binaryOp .Mult) Oh:=Jx.imp fun _ _ _ _ h=>lH (g:=fun i j Q H=>lS i j/\ Q (.int (i*j)) H) h
def Mz:R2:=fun x y H Q=>match x,y with| .int i,.int j=>rG i j/\ Q (.int (i.fdiv j)) H|_,_=>False
theorem jk:OpR X (binaryOp .FloorDiv) Mz:=GG.imp fun _ _ _ _ h=>lH (g:=fun i j Q H=>rG i j/\ Q (.int (i.fdiv j)) H) h
def Oe:R2:=fun x y H Q=>match x,y with| .int i,.int j=>yq i j/\ Q (.int (i^j.toNat)) H|_,_=>False
theorem HJ:OpR X (binaryOp .Pow) Oe:=Jy.imp fun _ _ _ _ h=>lH (g:=fun i j Q H=>yq i j/\ Q (.int (i^j.toNat)) H) h
def FT:V ->Hp ->VK ->Prop:=fun x H Q=>match x with| .int i=>Q (.int (-i)) H|_=>False
theorem mT:UnR X (unaryOp .USub) FT:=by
 have e:(rU fun i=>.int (-i))=FT:=by
  funext x H Q
  apply propext
  cases x<;>simp[rU,FT]
 exact e▸JQ
def Nr:R2:=fun x y H Q=>match x,y with| .int i,.int j=>0<j/\ Q (.int (i%j)) H|_,_=>False
theorem jl:OpR X (binaryOp .Mod) Nr:=Ko.imp fun _ _ _ _ h=>lH (g:=fun i j Q H=>0<j/\ Q (.int (i%j)) H) h
theorem jr.imp{f:Value}{r g:List V ->Hp ->VK ->Prop}(h:jr X f r)(i:∀xs H Q,g xs H Q ->r xs H Q):jr X f g:=fun l s A H xs o Q I w z=>h l s A H xs o Q I w (i _ _ _ z)
theorem IxR.imp{r f:R2}(h:IxR X r)(i:∀x y H Q,f x y H Q ->r x y H Q):IxR X f:=fun A C B s w H x y v u Q I l o z g=>h A C B s w H x y v u Q I l o (i _ _ _ _ z) g
theorem PE.imp{t t':TE}(h:PE X e t)(i:∀σ H Q,t' σ H Q ->t σ H Q):PE X e t':=fun f s σ H Q I z=>h f s σ H Q I (i _ _ _ z)
def eqS:V ->V ->Option Bool
 | .int i,.int j=>some (decide (i=j))
 | .str x,.str y=>some (decide (x=y))
 | .bl x,.bl y=>some (decide (x=y))
 | .non,.non=>some true
 | .non,.int _=>some false
 | .int _,.non=>some false
 | .str _,.non=>some false
 | .non,.str _=>some false
 |_,_=>none
theorem Ey{x y:V}{k:Bool}(h:eqS x y=some k):GW x y=true/\ decide (x=y)=k:=by
 unfold eqS at h
 split at h<;>first|(cases h;exact⟨rfl,by simp⟩)|cases h
def dEq:R2:=fun x y H Q=>match eqS x y with|some k=>Q (.bl k) H|none=>False
def dNe:R2:=fun x y H Q=>match eqS x y with|some k=>Q (.bl (!k)) H|none=>False
theorem iN:OpR X (compareOp .Eq) dEq:=MR.imp fun x y H Q h=>by
 unfold dEq at h
 split at h
 ·rename_i k e
  obtain⟨h1,f⟩:=Ey e
  exact⟨h1,by rw[f];exact h⟩
 ·exact h.elim
theorem oU:OpR X (compareOp .NotEq) dNe:=MZ.imp fun x y H Q h=>by
 unfold dNe at h
 split at h
 ·rename_i k e
  obtain⟨h1,f⟩:=Ey e
  exact⟨h1,by rw[f];exact h⟩
 ·exact h.elim
def asB(Q:Bool ->Hp ->Prop):VK:=fun x H=>match x with| .bl k=>Q k H|_=>False
theorem tw(Q:Bool ->Hp ->Prop):(fun x H=>∃k,x=V.bl k/\ Q k H)=asB Q:=by
 funext x H
 apply propext
 cases x<;>simp[asB]
def qT(t:TE):TT:=fun σ H Q=>t σ H (asB Q)
theorem MT(t:TE):tB t=qT t:=by
 funext σ H Q
 unfold tB qT
 rw[tw]
theorem FB(t:TE):CJ t=qT t:=by
 funext σ H Q
 unfold CJ qT
 rw[tw]
theorem jC{e:Expr}{t:TE}(h:PE X e t)(g:∀f,isTrue e X.env f=(do let v ←f;standAt e.pos;holding [v] (truthy v)):=by intro _;rfl):PT X e (qT t):=MT t▸JS h g
theorem ij{f:CmpOp}{r:R2}(h:OpR X (compareOp f) r)(ha:PE X a ta)(g:PE X b tb)(l:behindInMarks f b=false):PT X (.Compare a [f] [b] pos) (qT (tOp r ta tb)):=FB (tOp r ta tb)▸Ja h ha g l
def CH(ta tb:TE):TE:=fun σ H Q=>ta σ H (asB fun c H1=>if c=true then tb σ H1 Q else Q (.bl false) H1)
def Gm(ta tb:TE):TE:=fun σ H Q=>ta σ H (asB fun c H1=>if c=true then Q (.bl true) H1 else tb σ H1 Q)
def Cm(ta:TE):TE:=fun σ H Q=>ta σ H (asB fun c H1=>Q (.bl (!c)) H1)
theorem FQ:Cq ta tb=CH ta tb:=by
 funext σ H Q
 unfold Cq CH
 rw[←tw]
theorem IN:FR ta tb=Gm ta tb:=by
 funext σ H Q
 unfold FR Gm
 rw[←tw]
theorem GS:CF ta=Cm ta:=by
 funext σ H Q
 unfold CF Cm
 rw[←tw]
theorem HW{rest:List Expr}(ha:PE X a ta)(f:PE X (.BoolOp .And (b::rest) pos) tb):PE X (.BoolOp .And (a::b::rest) pos) (CH ta tb):=FQ▸Lc ha f
theorem NE{rest:List Expr}(ha:PE X a ta)(f:PE X (.BoolOp .Or (b::rest) pos) tb):PE X (.BoolOp .Or (a::b::rest) pos) (Gm ta tb):=IN▸Mf ha f
theorem Mc(ha:PE X a ta):PE X (.UnaryOp .Not a pos) (Cm ta):=GS▸Kp ha
structure New(H:Hp)(p:Addr)(o:HO)(H':Hp):Prop where
 fr:H p=none
 at_:H' p=some o
 oth:∀b,b≠p ->H' b=H b
theorem New.mk'{H:Hp}{p:Addr}{o:HO}(h:H p=none):New H p o (upd H p o):=⟨h,kI,fun _ h=>iM h⟩
theorem New.same{H f:Hp}{p:Addr}{o:HO}(h:New H p o f):iu H f:=fun b u e=>by rw[h.oth b (kC e h.fr)];exact e
structure Chg(H:Hp)(l:Addr)(o:HO)(H':Hp):Prop where
 at_:H' l=some o
 oth:∀b,b≠l ->H' b=H b
theorem Chg.mk'{H:Hp}{l:Addr}{o:HO}:Chg H l o (upd H l o):=⟨kI,fun _ h=>iM h⟩
theorem Chg.same{g H w:Hp}{l:Addr}{o:HO}(h:Chg H l o w)(s:iu g H)(f:g l=none):iu g w:=fun b u e=>by rw[h.oth b (kC e f)];exact s b u e
def dOk(n:Nat)(A:Prop):Prop:=match Nat.ble n sizeLine with|true=>A|false=>False
theorem Bp{n:Nat}{A:Prop}:dOk n A↔n<=sizeLine/\ A:=by
 unfold dOk
 cases h:Nat.ble n sizeLine with
 |true=>exact⟨fun z=>⟨Nat.le_of_ble_eq_true h,z⟩,fun z=>z.2⟩
 |false=>exact⟨fun z=>z.elim,fun z=>by rw[Nat.ble_eq_true_of_le z.1] at h;cases h⟩
def Gd(t:TA):TE:=fun σ H Q=>t σ H fun xs H1=>dOk xs.length (∀p H',New H1 p (.tup xs) H' ->Q (.ref p) H')
def Gy(t:TA):TE:=fun σ H Q=>t σ H fun xs H1=>dOk xs.length (∀p H',New H1 p (.lst xs) H' ->Q (.ref p) H')
theorem ut{H:Hp}{o:HO}{Q:VK}:(∀p,H p=none ->Q (.ref p) (upd H p o))↔∀p g,New H p o g ->Q (.ref p) g:=by
 constructor
 ·intro h p g n
  have e:g=upd H p o:=by
   funext b
   by_cases q:b=p
   ·subst q;rw[n.at_,kI]
   ·rw[n.oth b q,iM q]
  rw[e]
  exact h p n.fr
 ·exact fun h p f=>h p _ (.mk' f)
theorem JM(t:TA):Gg t=Gd t:=by
 funext σ H Q
 unfold Gg Gd
 congr 1
 funext xs H1
 apply propext
 rw[Bp,ut]
theorem IZ(t:TA):Gn t=Gy t:=by
 funext σ H Q
 unfold Gn Gy
 congr 1
 funext xs H1
 apply propext
 rw[Bp,ut]
theorem lC{f:List Expr}{t:TA}{x1}(h:PA X f t):PE X (.Tuple f x1 pos) (Gd t):=JM t▸LU h
theorem mZ{f:List Expr}{t:TA}(h:PA X f t):PE X (.List f pos) (Gy t):=IZ t▸Kz h
def Ky(K:aW):R2:=fun x y H Q=>match x,y with| .ref p,.int i=>∃xs v,SqL K H p xs/\ atI xs i=some v/\ Q v H|_,_=>False
def LB(K:aW):R2:=fun x y H Q=>match x,y with| .ref p,.int i=>∃xs v,SqT K H p xs/\ atI xs i=some v/\ Q v H|_,_=>False
theorem iV:IxR X (Ky X.K):=Jv.imp fun x y H Q h=>by
 unfold Ky at h
 split at h
 rotate_left
 ·exact h.elim
 obtain⟨f,v,h1,g,q⟩:=h
 exact⟨_,f,_,v,rfl,rfl,h1,g,q⟩
theorem oA:IxR X (LB X.K):=Ep.imp fun x y H Q h=>by
 unfold LB at h
 split at h
 rotate_left
 ·exact h.elim
 obtain⟨f,v,h1,g,q⟩:=h
 exact⟨_,f,_,v,rfl,rfl,h1,g,q⟩
def Kj:List V ->Hp ->VK ->Prop:=fun xs H Q=>match xs with|[.int i]=>Q (.int (if i<0 then -i else i)) H|_=>False
theorem Cu:jr X (.builtin "abs") Kj:=Hc.imp fun f H Q h=>by
 unfold Kj at h
 split at h
 ·exact⟨_,rfl,h⟩
 ·exact h.elim
def JX(K:aW):List V ->Hp ->VK ->Prop:=fun xs H Q=>match xs with|[.ref p]=>∃ys,(SqL K H p ys∨SqT K H p ys)/\ Q (.int ys.length) H|_=>False
theorem kg:jr X (.builtin "len") (JX X.K):=yR.imp fun g H Q h=>by
 unfold JX at h
 split at h
 ·obtain⟨f,h1,q⟩:=h
  exact⟨_,f,rfl,h1,q⟩
 ·exact h.elim
inductive TyK(K:aW)(H:Hp):V ->Value ->Prop where
 |of {x:V} {t:Value} (h:nB K H x t):TyK K H x t
 |non:TyK K H .non (.type "NoneType")
 |bl (x:Bool):TyK K H (.bl x) (.type "bool")
 |int (i:Int):TyK K H (.int i) (.type "int")
 |str (x:Str):TyK K H (.str x) (.type "str")
 |lst {a:Addr} {xs:List V} (e:H a=some (.lst xs)):TyK K H (.ref a) (.type "list")
 |tup {a:Addr} {xs:List V} (e:H a=some (.tup xs)):TyK K H (.ref a) (.type "tuple")
 |kt {a:Addr} {o:Obj} (h:K.lookup a=some o) (hc:o.cls=.type "tuple"):TyK K H (.ref a) (.type "tuple")
theorem CD{X:Cx}{g:List (Addr × Obj)}{σ:St}{H:Hp}{s:Shared}{A:Around}{E:Value ->Shared ->Prop}{Q:Value ->Shared ->Prop}{b:Bool}{c:Value}{x:V}{u t:Value}(I:Inv X g σ H s)(f:iB x u)(ty:TyK X.K H x t)(e:dE X.K t c=some b)(h:∀tk,Q (.bool b) {s with toks:=tk}):
  wpAny (model X.prog X.w) A (call (.builtin "isinstance") [u,c]) Q E s:=by
 cases ty with
 |of z=>exact lJ I f z e h
 |non=>exact lJ I f .non e h
 |bl y=>exact lJ I f (.bl y) e h
 |int y=>exact lJ I f (.int y) e h
 |str y=>exact lJ I f (.str y) e h
 |lst y=>exact lJ I f (.lst y) e h
 |tup y=>exact lJ I f (.tup y) e h
 | @kt a o h1 h2=>
  cases (show u=Value.ref a from f)
  exact cY PySem.W.kitx_tuple I.kIn ⟨o,I.kIn a o h1,h2⟩ e (fun z=>nomatch z) h
def KG(K:aW):List V ->Hp ->VK ->Prop:=fun xs H Q=>match xs with|[x,.ty c]=>∃t b,TyK K H x t/\ dE K t (.type c)=some b/\ Q (.bl b) H|_=>False
theorem CZ:jr X (.builtin "isinstance") (KG X.K):=by
 intro A s w H l o Q I r h
 unfold KG at h
 split at h
 ·rename_i x c
  obtain⟨t,b,ty,e,q⟩:=h
  obtain⟨u,z,rfl,g,f⟩:=wd r
  cases (show z=Value.type c from f)
  exact CD I g ty e fun tk=>⟨.bl b,H,I.tok tk,rfl,q⟩
 ·exact h.elim
def KL:List V ->Hp ->VK ->Prop:=fun xs H Q=>match xs with|[.int i]=>Q (.int i) H|[.bl k]=>Q (.int (if k then 1 else 0)) H|_=>False
theorem Nl:jr X (.type "int") KL:=DK.imp fun f H Q h=>by
 unfold KL at h
 split at h
 ·exact .inl ⟨_,rfl,h⟩
 ·exact .inr ⟨_,rfl,h⟩
 ·exact h.elim
def Nv(to:TE)(t:TA):TE:=fun σ H Q=>to σ H fun x H1=>match x with
 | .ref l=>(∃xs,H1 l=some (.lst xs))/\ t σ H1 fun vs H2=>match vs with
  |[y]=>∃xs,H2 l=some (.lst xs)/\ xs.length<16000000/\ ∀H',Chg H2 l (.lst (xs++[y])) H' ->Q .non H'
  |_=>False
 |_=>False
end
section
variable {X:Cx} {o e:Expr} {es:List Expr} {t:TA} {to te:TE} {pos:Pos}
def upT(t:TE):TE:=fun σ H Q=>∃Q':VK,t σ H Q'/\ ∀v H',Q' v H' ->Q v H'
theorem PE.up(h:PE X e te):PE X e (upT te):=fun f s w H Q I ⟨g,z,i⟩=>thn (h f s w H g I z) fun u A ⟨v,b,l,r,q⟩=>⟨v,b,l,r,i _ _ q⟩
def upA(t:TA):TA:=fun σ H Q=>∃Q':List V ->Hp ->Prop,t σ H Q'/\ ∀v H',Q' v H' ->Q v H'
theorem PA.up(h:PA X es t):PA X es (upA t):=fun p f s w H Q I ⟨g,z,i⟩=>thn (h p f s w H g I z) fun u A ⟨v,b,l,r,q⟩=>⟨v,b,l,r,i _ _ q⟩
theorem vv{g b:Pos}(E:PE X o to)(ha:PA X [e] t)(w:attributeBase o "append" X.env (eval o X.env)=eval o X.env:=by rfl)
  (z:((backTo b (starEach [e] X.env)).all (fun x=> !x.1) && (backToKw b (keywordEach [] X.env)).all (fun x=>x.1.isSome) && decide ([e].length+([]:List Keyword).length+(if([]:List Keyword).isEmpty then 0 else 1)<30))=true:=by rfl)
  (l:(g.endLine == b.line)=true:=by rfl)(D:starEach [e] X.env=(false,eval e X.env)::starEach [] X.env:=by rfl)(f:(backTo b (starEach [] X.env)).any (·.1)=false:=by rfl):
  PE X (.Call (.Attribute o "append" g) [e] [] b) (Nv to t):=
 (Do E.up ha.up w z l D f).imp fun L H Q h=>by
  refine⟨_,h,fun v M q=>?_⟩
  cases v<;>first|exact q.elim|skip
  obtain⟨⟨C,h1⟩,q⟩:=q
  refine⟨.inl ⟨rfl,C,SqL.of h1⟩,_,q,fun K J A=>?_⟩
  split at A
  ·obtain⟨F,I,G,B⟩:=A
   exact⟨_,F,_,rfl,rfl,I,bp G (by decide),B _ .mk'⟩
  ·exact A.elim
end
theorem br{p A B:Prop} [Decidable p] (h1:p ->A)(b:¬p ->B):if decide p=true then A else B:=JY (fun c=>h1 (of_decide_eq_true c)) fun c=>b (of_decide_eq_false (Bool.eq_false_iff.mpr c))
theorem brN{p A B:Prop} [Decidable p] (h1:¬p ->A)(b:p ->B):if(!decide p)=true then A else B:=JY (fun c=>h1 (of_decide_eq_false (by simpa using c))) fun c=>b (of_decide_eq_true (by simpa using c))
section
variable {X:Cx}
theorem Mm{x:Str}{l:List Nat}{j pos}(h:x=tx l):PE X (.Constant (.str x) j pos) (tC (.str (tx l))):=h▸Kv
def Cn(mg:Str ->Option Value)(x:Str)(v:V):Prop:=∃u,mg x=some u/\ iB v u
theorem Cn.pe{x:Str}{v:V}{pos:Pos}(h:Cn X.mg x v)(f:Gl X x)(b:(x == ("__debug__":Str))=false:=by decide):PE X (.Name x pos) (tC v):=by
 obtain⟨u,m,r⟩:=h
 exact Jo f m r b
theorem DC{K:aW}{b:Str ->Option Value}{h:Heap}{x y z:Str}{t:Tok}(f:K.In h)(G:h.Ns mainGlobals b)(a:bI K mainGlobals x=some (some (.str y t)))(e:y=z):Cn b x (.str z):=⟨_,cH f G a,⟨t,by rw[e]⟩⟩
theorem zS{K:aW}{b:Str ->Option Value}{h:Heap}{x:Str}{i j:Int}{t:Tok}(f:K.In h)(G:h.Ns mainGlobals b)(a:bI K mainGlobals x=some (some (.int i t)))(e:i=j):Cn b x (.int j):=⟨_,cH f G a,⟨t,by rw[e]⟩⟩
theorem str_int(i:Int):((toString i:String):Str)=tx (Lt.sg i++Lt.fg i.natAbs):=wz (by
 rw[signs_ofString]
 unfold Lt.sg Lt.fg
 cases i with
 |ofNat m=>
  rw[if_neg (by simp)]
  show(Nat.repr m).toList.map Char.toNat=_
  rw[Nat.toList_repr]
  rfl
 |negSucc m=>
  rw[if_pos (Int.negSucc_lt_zero m)]
  show("-"++Nat.repr (m+1)).toList.map Char.toNat=_
  rw[String.toList_append,bZ,Nat.toList_repr]
  rfl)
def KS:List V ->Hp ->VK ->Prop:=fun xs H Q=>match xs with|[.int i]=>Bd 1900 i/\ Q (.str (tx (Lt.sg i++Lt.fg i.natAbs))) H|_=>False
theorem mh:jr X (.type "str") KS:=yD.imp fun f H Q h=>by
 unfold KS at h
 split at h
 ·rename_i i
  obtain⟨h1,b⟩:=h
  refine⟨i,rfl,?_,by rw[str_int];exact b⟩
  by_cases z:i=0
  ·subst z;decide
  ·exact bp (wA z h1) (by decide)
 ·exact h.elim
def Lq(K:aW):R2:=fun x y H Q=>match x,y with| .ref l,.ref m=>∃a b c d,SqT K H l [.int a,.int b]/\ SqT K H m [.int c,.int d]/\ Q (.bl (decide (a=c) && decide (b=d))) H|_,_=>False
theorem MV(g:X.A.units<cLine):OpR X (compareOp .Eq) (Lq X.K):=(Dv g).imp fun x y H Q h=>by
 unfold Lq at h
 split at h
 rotate_left
 ·exact h.elim
 obtain⟨a,b,c,d,h1,f,q⟩:=h
 exact⟨_,_,a,b,c,d,rfl,rfl,h1,f,q⟩
end
section
variable {P:Program} {w:World} {K:aW} {mg:Str ->Option Value} {base:Heap} {N:List Str} {qual:Str} {scope:Scope} {f:Addr} {cd:Value} {A:Around} {outer:List Env} {s₀:Shared} {H₀:Hp} {E:XK}
 {j k:Nat} {x:Str} {ps:List Str} {sp:Sp} {p pos:Pos}
end
def yK(K:aW):Sp:=fun vs H Q _=>∃(a:Addr) (ns:List Int),vs=[.ref a]/\ SqL K H a (ns.map V.int)/\ ns.length<=63/\ ∀H',Q (.bl true) H'
theorem MS{k:Nat}{l:PySem.W.OpenLaw}{q:Program}{b:List Str}{D:(Str ->Option Value) ->Heap ->Prop}{A:World ->Heap ->Prop}{d:DefRec}{K:Params ->aW}(H:k<=40)(I:l.most=some 63)(o:d.params.defaults=[])
  (J:∀(w:World) (h:Heap),A w h ->(K w.params).In h)
  (F:∀(w:World) (g:Str ->Option Value) (C:Addr) (h:Heap),(K w.params).In h ->h.Ns mainGlobals g ->g d.name=some (.ref C) ->
   ∃B:FuncData,(∀(s:Shared) (u:Value),BindsTo s B ⟨[u],[]⟩ [("_law_script",u)])/\ ∀base:Heap,(K w.params).In base ->base.Ns mainGlobals g ->lV l.prog w (K w.params) g base (CXE l.prog w) k C B aE (yK (K w.params))):
  PySem.W.WalkO q b D A l.row.toRowW d [] (fun f vs=>PySem.call f vs):=
 IL (n:=63) (k:=k) (x:="_law_script") (CX:=fun w=>CXE l.prog w) (sp:=fun w=>yK (K w.params)) I (by decide) o ((show jw 40 callerA from⟨rfl,by decide,by decide⟩).mono H) J F (fun _ _ a ns G _ E=>⟨a,ns,rfl,E,G,fun _=>rfl⟩) fun _ _ _ _ _ ⟨_,_,_,_,_,z⟩=>z
end L2
namespace L2
abbrev Wn(W:Nat ->St ->Hp ->Prop)(m:Nat):St ->Hp ->Prop:=fun σ' H'=>∃m',m'<m/\ W m' σ' H'
theorem zM{W:Nat ->St ->Hp ->Prop}{m:Nat}{g:TS}{D:pk}{σ:St}{o:Hp}(h:g {D with nx:=Wn W m,ct:=Wn W m,bk:=D.nx} σ o):
  ∃N:St ->Hp ->Prop,(∀b f,N b f ->∃l,l<m/\ W l b f)/\ g {D with nx:=N,ct:=N,bk:=D.nx} σ o:=⟨_,fun _ _ h=>h,h⟩
theorem whl{c:TT}{l:TS}{D:pk}{σ:St}{H:Hp}(W:Nat ->St ->Hp ->Prop)(h:Nat)(h0:W h σ H)
  (z:∀m σ H,W m σ H ->c σ H fun b w=>if b=true then ∃N:St ->Hp ->Prop,(∀f g,N f g ->∃o,o<m/\ W o f g)/\ l {D with nx:=N,ct:=N,bk:=D.nx} σ w else D.nx σ w):EZ c l D σ H:=⟨W,⟨h,h0⟩,z⟩
end L2
namespace L2
open PySem PySem.Spec PyProof.Rows
section
section
variable {X:Cx} {e:Expr} {te:TE}
def CM(t:TE):TO:=fun σ H Q=>t σ H fun x H1=>match x with| .int i=>Q (some i) H1|_=>False
theorem Gh(t:TE):Ch t=CM t:=by
 funext σ H Q
 unfold Ch CM
 congr 1
 funext x H1
 apply propext
 cases x<;>simp
theorem pB(h:PE X e te):PO X (some e) (CM te):=Gh te▸Jt h
theorem SlR.imp{r f:V ->Option Int ->Option Int ->Hp ->VK ->Prop}(h:SlR X r)(i:∀x lo b H Q,f x lo b H Q ->r x lo b H Q):SlR X f:=by
 intro C s B H x v E g lo b D Q I A l w o z
 exact h C s B H x v E g lo b D Q I A l w o (i _ _ _ _ _ z)
def NK(K:aW):V ->Option Int ->Option Int ->Hp ->VK ->Prop:=fun x lo hi H Q=>match x with| .ref a=>∃xs,SqL K H a xs/\ ∀p H',New H p (.lst (qi xs lo hi)) H' ->Q (.ref p) H'|_=>False
theorem Ib:SlR X (NK X.K):=Iq.imp fun x lo f H Q h=>by
 cases x<;>first|exact h.elim|skip
 obtain⟨b,h1,q⟩:=h
 exact⟨_,b,rfl,h1,ut.mpr q⟩
def LM:R2:=fun x y H Q=>match x,y with| .ref l,.ref b=>∃xs zs,H l=some (.lst xs)/\ H b=some (.lst zs)/\ xs.length+zs.length<=10000000/\ ∀p H',New H p (.lst (xs++zs)) H' ->Q (.ref p) H'|_,_=>False
theorem vQ:OpR X (binaryOp .Add) LM:=LD.imp fun x y H Q h=>by
 unfold LM at h
 split at h
 rotate_left
 ·exact h.elim
 obtain⟨b,f,h1,g,l,q⟩:=h
 exact⟨_,_,b,f,rfl,rfl,h1,g,bL l (by decide),ut.mpr q⟩
end
theorem qh(env:Env):∀(l:List (Str × NameKind)) (acc:List (Str × Addr)),(∀y∈l,y.2=.free ->∃c,env.cells.lookup y.1=some c) ->(∀y c,acc.lookup y=some c ->env.cells.lookup y=some c) ->
  ∃ cl,(forIn l acc fun x (r:List (Str × Addr))=>match x with
   | (name,kind)=>if(kind == NameKind.free)=true then do
     let c ←cellOf env name
     pure (ForInStep.yield ((name,c)::r))
    else pure (ForInStep.yield r):Sem (List (Str × Addr)))=pure cl/\ (∀y c,cl.lookup y=some c ->env.cells.lookup y=some c)/\ (∀y,(y,NameKind.free)∈l∨(∃c,acc.lookup y=some c) ->∃c,cl.lookup y=some c)
 |[],acc,_,ha=>⟨acc,rfl,ha,fun y h=>h.elim (fun z=>by simp at z) id⟩
 | (n,k)::l,acc,hl,ha=>by
  by_cases hk:(k == NameKind.free)=true
  ·have f:k=.free:=by simpa using hk
   subst f
   obtain⟨c,w⟩:=hl (n,.free) bj rfl
   have o:∀y b,((n,c)::acc).lookup y=some b ->env.cells.lookup y=some b:=fun y b h=>by
    rw[cq] at h
    split at h
    ·rename_i z
     rw[show y=n from by simpa using z]
     rw[←h]
     exact w
    ·exact ha y b h
   obtain⟨cl,e,h1,g⟩:=qh env l ((n,c)::acc) (fun y hy=>hl y (bc _ hy)) o
   refine⟨cl,?_,h1,fun y h=>g y ?_⟩
   ·rw[dX]
    show(cellOf env n>>=fun c=>pure (ForInStep.yield ((n,c)::acc)))>>=_=_
    rw[show cellOf env n=pure c by unfold cellOf;rw[w]]
    exact e
   ·rcases h with h|⟨b,h⟩
    ·rcases bw.mp h with z|z
     ·cases z
      exact .inr ⟨c,by rw[cq];simp⟩
     ·exact .inl z
    ·refine .inr ?_
     rw[cq]
     split
     ·exact⟨c,rfl⟩
     ·exact⟨b,h⟩
  ·obtain⟨cl,e,h1,g⟩:=qh env l acc (fun y hy=>hl y (bc _ hy)) ha
   refine⟨cl,?_,h1,fun y h=>g y ?_⟩
   ·rw[dX]
    show(if(k == NameKind.free)=true then _ else pure (ForInStep.yield acc))>>=_=_
    rw[if_neg hk]
    exact e
   ·rcases h with h|h
    ·rcases bw.mp h with z|z
     ·cases z
      exact absurd rfl hk
     ·exact .inl z
    ·exact .inr h
theorem lO{scope:Scope}{env:Env}(h:∀y∈scope.names,y.2=.free ->∃c,env.cells.lookup y.1=some c):
  ∃cl,closureFor scope env=pure cl/\ (∀y c,cl.lookup y=some c ->env.cells.lookup y=some c)/\ (∀y,(y,NameKind.free)∈scope.names ->∃c,cl.lookup y=some c):=by
 obtain⟨cl,e,h1,b⟩:=qh env scope.names [] h (fun y c z=>by simp at z)
 refine⟨cl,?_,h1,fun y z=>b y (.inl z)⟩
 unfold closureFor
 show(forIn scope.names [] _>>=fun s=>pure s)=_
 have f:(forIn scope.names ([]:List (Str × Addr)) fun x (r:List (Str × Addr))=>match x with
   | (name,kind)=>if(kind == NameKind.free)=true then do
     let c ←cellOf env name
     pure (ForInStep.yield ((name,c)::r))
    else pure (ForInStep.yield r):Sem (List (Str × Addr)))>>=(fun s=>pure s)=pure cl:=by rw[e];rfl
 exact f
theorem ko{env:Env}:∀{names:List (Str × NameKind)} {x:Str},names.lookup x=some .free ->
  (names.map fun(n,k)=>if(k == NameKind.free && env.scope.kind == .function && env.kindOf n == some .cell) then(n,NameKind.cell) else(n,k)).lookup x=some .cell∨
  (names.map fun(n,k)=>if(k == NameKind.free && env.scope.kind == .function && env.kindOf n == some .cell) then(n,NameKind.cell) else(n,k)).lookup x=some .free
 |[],_,h=>by simp at h
 | (n,k)::r,x,h=>by
  have ih:=@ko env r x
  show List.lookup x ((if(k == NameKind.free && env.scope.kind == .function && env.kindOf n == some .cell)=true then(n,NameKind.cell) else(n,k))::_)=_∨List.lookup x ((if(k == NameKind.free && env.scope.kind == .function && env.kindOf n == some .cell)=true then(n,NameKind.cell) else(n,k))::_)=_
  cases hx:x == n with
  |true=>
   simp only[cq,hx] at h
   cases h
   split
   ·left;simp[cq,hx]
   ·right;simp[cq,hx]
  |false=>
   simp only[cq,hx] at h
   split
   ·simp only[cq,hx];exact ih h
   ·simp only[cq,hx];exact ih h
theorem tO{env:Env}:∀{names:List (Str × NameKind)} {x:Str},(∀y∈names,y.2≠.cell) ->
  ((names.map fun(n,k)=>if(k == NameKind.free && env.scope.kind == .function && env.kindOf n == some .cell) then(n,NameKind.cell) else(n,k)).lookup x=some .cell∨
  (names.map fun(n,k)=>if(k == NameKind.free && env.scope.kind == .function && env.kindOf n == some .cell) then(n,NameKind.cell) else(n,k)).lookup x=some .free) ->(x,NameKind.free)∈names
 |[],_,_,h=>by simp at h
 | (n,k)::r,x,hc,h=>by
  have ih:=@tO env r x (fun y f=>hc y (bc _ f))
  have b:List.lookup x ((if(k == NameKind.free && env.scope.kind == .function && env.kindOf n == some .cell)=true then(n,NameKind.cell) else(n,k))::(r.map fun(n,k)=>if(k == NameKind.free && env.scope.kind == .function && env.kindOf n == some .cell) then(n,NameKind.cell) else(n,k)))=some .cell∨
   List.lookup x ((if(k == NameKind.free && env.scope.kind == .function && env.kindOf n == some .cell)=true then(n,NameKind.cell) else(n,k))::(r.map fun(n,k)=>if(k == NameKind.free && env.scope.kind == .function && env.kindOf n == some .cell) then(n,NameKind.cell) else(n,k)))=some .free:=h
  have g:=hc (n,k) bj
  cases hx:x == n with
  | true=>
   have e:x=n:=by simpa using hx
   subst e
   split at b
   ·rename_i z
    have:k=.free:=by
     have:=(eD.mp (eD.mp z).1).1
     simpa using this
    rw[this]
    exact bj
   ·simp only[cq,hx] at b
    rcases b with z|z
    ·exact absurd (Option.some.inj z) g
    ·rw[Option.some.inj z]
     exact bj
  |false=>
   refine bc _ (ih ?_)
   split at b<;>(simp only[cq,hx] at b;exact b)
theorem mem_of_lookup:∀{l:List (Str × NameKind)} {y:Str} {k:NameKind},l.lookup y=some k ->(y,k)∈l
 |[],_,_,h=>by simp at h
 | (n,k')::r,y,k,h=>by
  rw[cq] at h
  split at h
  ·rename_i z
   rw[show y=n from by simpa using z, ←Option.some.inj h]
   exact bj
  ·exact bc _ (mem_of_lookup h)
set_option genInjectivity false in
structure CB where
 cl:List (Str × Addr)
 C:Addr
 s:Shared
 H:Hp
 fp:List Addr
def iI(ix:List Nat)(σ:St):St:=ix.map (nth σ)
abbrev Cx.comp(X:Cx)(scope:Scope)(cl:List (Str × Addr))(C:Addr)(ns:List Str)(s:Shared)(H:Hp)(fp:List Addr):Cx:=
 {X with N:=ns,s₀:=s,H₀:=H,env:=compEnvC scope cl C X.env,outer:=X.stack,stack:=X.stack,ex:=fp,fn:=fun _=>false,pn:=[],xe:=fun _ _=>False}
section
variable {X:Cx} {gW:List (Addr × Obj)} {σ:St} {H:Hp} {s:Shared} {scope:Scope} {cl:List (Str × Addr)} {C:Addr} {ns:List Str} {fp:List Addr}
theorem Inv.compOk(I:Inv X gW σ H s)(l:scope.kind=.function)(f:∀y∈scope.names,y.2≠.cell)(B:s.heap.objs.size<=C)
  (h1:∀y c,cl.lookup y=some c ->X.env.cells.lookup y=some c)(D:∀y,(y,NameKind.free)∈scope.names ->∃c,cl.lookup y=some c)
  (w:∀b∈fp,kx X gW H b)(A:∀b∈fp,b<s.heap.objs.size):(X.comp scope cl C ns s H fp).Ok where
 mod:=I.ok.mod
 kind:=l
 glob:=I.ok.glob
 blt:=I.ok.blt
 above:=B
 inj:=fun x y c a b=>I.ok.inj x y c (h1 x c a) (h1 y c b)
 has:=fun x h=>D x (tO (env:=X.env) f h)
 cab:=fun _ _ h=>nomatch h
 hd:=I.ok.hd
 frames:=I.ok.frames
 stk:=.inl rfl
 exf:=fun b g=>⟨bD (bp (A b g) B),fun x c e=>(w b g).2.2.2.2.1 x c (h1 x c e)⟩
 bs:=I.bs
 bsz:=bL I.ok.bsz I.sz
 noex:=fun b o e g=>by
  rcases(w b g).2.2.2.1 with z|z
  ·exact I.ok.noex b o e z
  ·exact absurd (bp (bq e) (bL I.ok.bsz z)) (cO _)
 exfs:=fun b g z=>by
  rcases bw.mp (I.stkSub b z) with y|y
  ·exact(w b g).2.1 y
  ·exact(w b g).2.2.1 y
 funs:=I.stack
 frf:=I.stkFree
theorem Inv.comp{f:Heap}{tk:Nat}{g:Str ->Option Value}{x:Str}{cs:List Str}{J:List Nat}(I:Inv X gW σ H s)(ok:(X.comp scope cl C (x::cs) s H fp).Ok)
  (h1:∀y c,cl.lookup y=some c ->X.env.cells.lookup y=some c)(U:∀y,(y,NameKind.free)∈scope.names ->∃c,cl.lookup y=some c)
  (R:s.heap.objs.size<=C)(Z:f.Ns C g)(keep:∀b o,s.heap.get? b=some o ->f.get? b=some o)
  (D:J.map (fun i=>X.N[i]?)=cs.map some)(B:∀y∈cs,scope.names.lookup y=some .free)(h:∀y∈cs,X.env.scope.names.lookup y=some .cell∨X.env.scope.names.lookup y=some .free):
  Inv (X.comp scope cl C (x::cs) s H fp) [] (none::iI J σ) H {s with heap:=f,toks:=tk} where
 ok:=ok
 os:=rfl
 bare:=I.bare
 base:=Un.kept keep
 loc:=by
  refine⟨g,Z,fun i y v T P _=>?_⟩
  cases i with
  |zero=>cases P
  | succ j=>
   have F:cs[j]? =some y:=T
   have E:(J.map (nth σ))[j]? =some (some v):=P
   rw[bi] at E
   obtain⟨k,Y,hv⟩:=bN.mp E
   have Q:X.N[k]? =some y:=by
    have z:=congrArg (fun l=>l[j]?) D
    simp only[bi] at z
    rw[Y,F] at z
    simpa using z
   have K:=bo F
   obtain⟨m,hm,S⟩:=I.loc
   obtain⟨u,r,l⟩:=S k y v Q (oN.mpr hv) (by rcases h y K with z|z;exact .inr (.inl z);exact .inr (.inr z))
   refine⟨u,r,.inr ⟨ko (env:=X.env) (B y K),?_⟩⟩
   rcases l with⟨W,_⟩|⟨_,c,hc,z⟩
   ·have M:X.env.scope.names.lookup y=some .local:=W
    rcases h y K with w|w<;>(rw[M] at w;cases w)
   ·have G:(y,NameKind.free)∈scope.names:=mem_of_lookup (B y K)
    obtain⟨c',A⟩:=U y G
    have:=h1 y c' A
    rw[hc] at this
    cases this
    obtain⟨o,L,O⟩:=z
    exact⟨c,A,o,keep _ _ L,O⟩
 cell:=fun y c e=>by
  obtain⟨v,o,L,O⟩:=I.cell y c (h1 y c e)
  exact⟨v,o,keep _ _ L,O⟩
 free:=I.hok.fresh R
 freeC:=fun y c e=>I.freeC y c (h1 y c e)
 pin:=fun p hp=>by simp at hp
 hok:=I.hok.kept keep
 len:=by
  show(none::iI J σ).length=(x::cs).length
  have:=congrArg eX D
  rw[aX,aX] at this
  simp[iI,this]
theorem Inv.uncomp{g:List (Addr × Obj)}{F:St}{B:Hp}{E:Shared}{h':Heap}(I:Inv X gW σ H s)(h:Inv (X.comp scope cl C ns s H fp) g F B E)(G:∀b∈fp,kx X gW H b)(A:Heap.SameBut C E.heap h'):
  Inv X gW σ B {E with heap:=h'}:=by
 have ne:∀b o,s.heap.get? b=some o ->b≠C:=fun b o e=>bD (bp (bq e) h.ok.above)
 have un:=h.base
 refine I.call' (ch:=fp) h.os ⟨fun b o e n l w=>?_,fun b o e n l w=>?_,un.free,fun b o e w=>?_,un.tups,un.frzs,un.tbls⟩ ?_ h.bare fun b l=>?_
 ·exact(A.2 b (ne b o e)).trans (un.keep b o e n l w)
 ·obtain⟨N,D⟩:=un.slot b o e n l w
  exact⟨N,(A.2 b (ne b o e)).trans D⟩
 ·obtain⟨L,D⟩:=un.there b o e w
  exact⟨L,(A.2 b (ne b o e)).trans D⟩
 ·refine h.hok.stays fun a o ob e q=>(A.2 a ?_).trans q
  intro z
  have f:B C=none:=h.free
  rw[z,f] at e
  cases e
 ·obtain⟨_,O,_,M,K,J⟩:=G b l
  exact⟨M,O,K,J⟩
end
def ma(J:It)(D:Addr)(caps:St)(te:CB ->TE)(Q:VK)(H2:Hp):Prop:=∃W:Nat ->Nat ->List V ->Hp ->Prop,(∃m,W 0 m [] H2)/\ ∀i m ys H,W i m ys H ->
 (J.stop i H/\ Q (.ref D) H)∨(J.go i H/\ ∀x H',J.yld i H x H' ->∀z,te z (some x::caps) H' fun y H3=>H3 D=some (.lst ys)/\ ys.length<16000000/\ ∀H4,Chg H3 D (.lst (ys++[y])) H4 ->∃m',m'<m/\ W (i+1) m' (ys++[y]) H4)
def zF(J:It)(D:Addr)(caps:St)(tc:CB ->TT)(te:CB ->TE)(Q:VK)(H2:Hp):Prop:=∃W:Nat ->Nat ->List V ->Hp ->Prop,(∃m,W 0 m [] H2)/\ ∀i m ys H,W i m ys H ->
 (J.stop i H/\ Q (.ref D) H)∨(J.go i H/\ ∀x H',J.yld i H x H' ->∀z,tc z (some x::caps) H' fun b H5=>if b=true then te z (some x::caps) H5 fun y H3=>H3 D=some (.lst ys)/\ ys.length<16000000/\ ∀H4,Chg H3 D (.lst (ys++[y])) H4 ->∃m',m'<m/\ W (i+1) m' (ys++[y]) H4
  else ∃m',m'<m/\ W (i+1) m' ys H5)
def Dh(wi:TI)(ix:List Nat)(te:CB ->TE):TE:=fun σ H Q=>wi σ H fun J H1=>∀D H2,New H1 D (.lst []) H2 ->ma J D (iI ix σ) te Q H2
def Bt(wi:TI)(ix:List Nat)(tc:CB ->TT)(te:CB ->TE):TE:=fun σ H Q=>wi σ H fun J H1=>∀D H2,New H1 D (.lst []) H2 ->zF J D (iI ix σ) tc te Q H2
section
variable {X:Cx}
theorem pX{a0 a6:Expr}{a2:List Expr}{x:Str}{px:Pos}{scope:Scope}{pos:Pos}{cs:List Str}{U:List Nat}{te:CB ->TE}{tc:CB ->TT}{gW:List (Addr × Obj)}{σ:St}{H:Hp}{s:Shared}{J:It}{it:Addr}{f:List Addr}{tn:Nat ->Heap ->Prop}
  {cl:List (Str × Addr)}{E:Value ->Shared ->Prop}{Q:V ->Hp ->Prop}{RR:Value ->Addr ->Result ->Shared ->Prop}
  (hc:X.calm=true)(L:scope.kind=.function)(O:∀y∈scope.names,y.2≠.cell)(hx:scope.names.lookup x=some .local)(hN:(x::cs).Nodup)
  (d0:U.map (fun i=>X.N[i]?)=cs.map some)(d7:∀y∈cs,scope.names.lookup y=some .free)(c3:∀y∈cs,X.env.scope.names.lookup y=some .cell∨X.env.scope.names.lookup y=some .free)
  (h1:∀y c,cl.lookup y=some c ->X.env.cells.lookup y=some c)(h2:∀y,(y,NameKind.free)∈scope.names ->∃c,cl.lookup y=some c)
  (a9:(a2=[]/\ tc=fun _ _ H Q=>Q true H)∨∃c,a2=[c]/\ ∀z:CB,PT (X.comp scope z.cl z.C (x::cs) z.s z.H z.fp) c (tc z))
  (b6:∀z:CB,PE (X.comp scope z.cl z.C (x::cs) z.s z.H z.fp) a0 (te z))
  (I:Inv X gW σ H s)(T:qg X.prog X.w X.K (.Name x px) J f it tn)(b8:tn 0 s.heap)(hf:∀b∈f,kx X gW H b)
  (h:∀D H2,New H D (.lst []) H2 ->∃W:Nat ->Nat ->List V ->Hp ->Prop,(∃m,W 0 m [] H2)/\ ∀i m ys H,W i m ys H ->
   (J.stop i H/\ Q (.ref D) H)∨(J.go i H/\ ∀x l,J.yld i H x l ->∀z,tc z (some x::iI U σ) l fun b H5=>if b=true then te z (some x::iI U σ) H5 fun y g=>g D=some (.lst ys)/\ ys.length<16000000/\ ∀H4,Chg g D (.lst (ys++[y])) H4 ->∃F,F<m/\ W (i+1) F (ys++[y]) H4
    else ∃F,F<m/\ W (i+1) F ys H5))
  (c9:∀D C s1 l,(∃m,s1.heap.Ns C m) ->(∀h',Heap.SameBut C s1.heap h' ->Inv X gW σ l {s1 with heap:=h'}) ->kx X gW l C ->Q (.ref D) l ->RR (.ref D) C (.ok .next) s1):
  wpAny (model X.prog X.w) X.A (newList []) (fun acc c1=>wpAny (model X.prog X.w) X.A (newFunctionEnv scope X.env.globals cl [] X.env.qual none .none (some X.env)) (fun a4 b9=>
   codeAny (model X.prog X.w) X.A (.compStart (.ListComp a0 [⟨.Name x px,a6,a2,0⟩] scope pos) 0 (.ref it) acc {a4 with scope:=relabel scope X.env}) (RR acc a4.locals) b9) E c1) E s:=by
 refine wpAny_newObj_type ?_
 have fD:H s.heap.objs.size=none:=I.hok.fresh (bh _)
 have I3:Inv X gW σ (upd H s.heap.objs.size (.lst [])) {s with heap:=s.heap.push {cls:=.type "list",data:=.seq ([]:List Value).toArray}}:=by
  refine I.laid (t':=s.toks) (fun b u e=>aY _ e) (bh _) ?_
  exact⟨cf _,[],_,.nil,bu _ rfl⟩
 have n3:New H s.heap.objs.size (.lst []) (upd H s.heap.objs.size (.lst [])):=.mk' fD
 generalize hD:s.heap.objs.size=D at*
 obtain⟨W,⟨m0,w0⟩,b4⟩:=h D _ n3
 have d9:tn 0 (s.heap.push {cls:=.type "list",data:=.seq ([]:List Value).toArray}):=T.keep 0 _ _ b8 fun b _ o e=>aY _ e
 have d4:∀b∈f,b≠D:=fun b B z=>by
  obtain⟨o,e,_⟩:=T.obj 0 _ b8 b B
  exact absurd (bq e) (by rw[z,hD];exact cO _)
 have b1:∀b∈f,kx X gW (upd H D (.lst [])) b:=fun b B=>by
  obtain⟨f0,r⟩:=hf b B
  exact⟨by rw[iM (d4 b B)];exact f0,r⟩
 generalize hs3:({s with heap:=s.heap.push {cls:=.type "list",data:=.seq ([]:List Value).toArray}}:Shared)=s3 at*
 have a3:tn 0 s3.heap:=by rw[←hs3];exact d9
 generalize upd H D (.lst [])=g at*
 refine wpAny_newFunctionEnv O (by intro y hy;simp at hy) (fun M a1 Z=>?_) L
 have keep:∀b o,s3.heap.get? b=some o ->M.get? b=some o:=fun b o e=>Z.extBut b o (bD (bq e)) (aY _ e)
 have d8:∀b∈f,b<s3.heap.objs.size:=fun b B=>by
  obtain⟨o,e,_⟩:=T.obj 0 _ a3 b B
  exact bq e
 have ok:=I3.compOk (ns:=x::cs) L O (bh _) h1 h2 b1 d8
 have I4:=I3.comp (tk:=s3.toks+([]:List (Str × Value)).length) ok h1 h2 (bh _) a1 keep d0 d7 c3
 have b5:tn 0 M:=T.keep 0 _ _ a3 fun b _ o e=>keep b o e
 generalize hC:s3.heap.objs.size=C at*
 have R:∀{l:Hp} {pins'},pins'=[] ->(∀b∈f,l b=none) ->∀b∈f,kx (X.comp scope cl C (x::cs) s3 g f) pins' l b:=fun hp hn b B=>by
  subst hp
  exact⟨hn b B,(ok.exf b B).1,ok.exfs b B,.inl B,(ok.exf b B).2,fun p hp=>by simp at hp⟩
 have d2:PG (X.comp scope cl C (x::cs) s3 g f) (.Name x px) (kf 0):=iW (X:=X.comp scope cl C (x::cs) s3 g f) (i:=0) hN rfl (.inl (lookup_relabel_local hx)) (.inr (lookup_relabel_local hx))
 have a8:∀S:Shared,S={s3 with heap:=M,toks:=s3.toks+([]:List (Str × Value)).length} ->
   codeAny (model X.prog X.w) X.A (.compLoop (.ListComp a0 [⟨.Name x px,a6,a2,0⟩] scope pos) 0 (.ref it) (.ref D) (compEnvC scope cl C X.env)) (RR (.ref D) C) S:=by
  rintro S rfl
  refine codeAny_compLoop_tests (fun n s'=>∃i v0 l ys,Inv (X.comp scope cl C (x::cs) s3 g f) [] (v0::iI U σ) l s'/\ tn i s'.heap/\ (∀b∈f,l b=none)/\ W i n ys l) ?_ m0 ⟨0,none,g,[],I4,b5,fun b B=>(b1 b B).1,w0⟩
  rintro n s6 ⟨i,v0,H6,ys,I6,b2,c6,w6⟩
  rcases b4 i n ys H6 w6 with⟨b7,qn⟩|⟨go,step⟩
  ·refine wpAny_mono (T.done (X.comp scope cl C (x::cs) s3 g f) rfl rfl rfl hc i [] s6 _ H6 (fun _ _=>False) I6 (R rfl c6) b2 b7) (fun r s7 ⟨hr,I7⟩=>?_) fun _ _ z=>z.elim
   subst hr
   exact c9 D C s7 H6 (by obtain⟨m,hm,_⟩:=I7.loc;exact⟨m,hm⟩) (fun h' hs=>I3.uncomp I7 b1 hs) (I3.fpOk (fB hC) I7.free) qn
  ·refine wpAny_mono (T.item (X.comp scope cl C (x::cs) s3 g f) rfl rfl rfl hc i [] s6 _ H6 (fun _ _=>False) I6 (R rfl c6) b2 go) (fun r s7 ⟨u,hr,h7⟩=>?_) fun _ _ z=>z.elim
   subst hr
   show wpAny (model X.prog X.w) X.A (letOwnedTupleGo (.Name x px) (.ref it) u>>=fun _=>assign (.Name x px) (compEnvC scope cl C X.env) u) _ _ s7
   refine wpAny_bind (wpAny_mono h7 (fun _ s8 ⟨xv,H8,I8,r8,y8,b0,e3⟩=>?_) fun _ _ z=>z.elim)
   have d5:=I8.pinned (R rfl e3) (T.obj _ _ b0)
   refine wpAny_mono (d2 _ s8 _ H8 xv u (fun c0 H9=>c0=some xv::iI U σ/\ H9=H8) d5 r8 ⟨rfl,rfl⟩) (fun _ s9 ⟨c0,H9,I9,e1,e2⟩=>?_) fun _ _ z=>z.elim
   subst e1 e2
   have c4:=step xv H9 y8 ⟨cl,C,s3,g,f⟩
   have P:∀{H7:Hp} {s7:Shared} {zs:List V} {F:Nat},Inv (X.comp scope cl C (x::cs) s3 g f) ([]++mq f s8.heap) (some xv::iI U σ) H7 s7 ->F<n ->W (i+1) F zs H7 ->
     ∃m,m<n/\ ∃i v0 l ys,Inv (X.comp scope cl C (x::cs) s3 g f) [] (v0::iI U σ) l s7/\ tn i s7.heap/\ (∀b∈f,l b=none)/\ W i m ys l:=fun {H7 s7 zs F} I7 hm w7=>by
    refine⟨F,hm,i+1,_,H7,zs,I7.unpinned,T.keep _ _ _ b0 fun b B o e=>(I7.pin (b,o) (bJ _ (bJ _ (kG B e)))).1,fun b B=>?_,w7⟩
    obtain⟨o,e,d⟩:=T.obj _ _ b0 b B
    exact(I7.pin (b,o) (bJ _ (bJ _ (kG B e)))).2.1
   have a7:∀{H5:Hp} {S:Shared},Inv (X.comp scope cl C (x::cs) s3 g f) ([]++mq f s8.heap) (some xv::iI U σ) H5 S ->
     (te ⟨cl,C,s3,g,f⟩ (some xv::iI U σ) H5 fun y g=>g D=some (.lst ys)/\ ys.length<16000000/\ ∀H4,Chg g D (.lst (ys++[y])) H4 ->∃F,F<n/\ W (i+1) F (ys++[y]) H4) ->
     ∀E':Value ->Shared ->Prop,wpAny (model X.prog X.w) X.A (eval a0 (compEnvC scope cl C X.env)) (fun y s4=>wpAny (model X.prog X.w) X.A (call (.builtin "list.append") [.ref D,y]) (fun _ S=>∃m,m<n/\ ∃i v0 l ys,Inv (X.comp scope cl C (x::cs) s3 g f) [] (v0::iI U σ) l S/\ tn i S.heap/\ (∀b∈f,l b=none)/\ W i m ys l) E' s4) E' S:=fun {H5 S} I5 q5 E'=>by
    refine wpAny_mono (b6 ⟨cl,C,s3,g,f⟩ _ S _ H5 _ I5 q5) (fun y b3 ⟨yv,c5,Y,d3,c7,hl,G⟩=>?_) fun _ _ z=>z.elim
    refine wpAny_mono (pW (X:=X.comp scope cl C (x::cs) s3 g f) _ b3 _ c5 (.ref D) [yv] (.ref D) [y] (fun _ c2=>∃F,F<n/\ W (i+1) F (ys++[yv]) c2) Y rfl (.cons d3 .nil) ⟨D,ys,yv,rfl,rfl,c7,bp hl (by decide),G _ .mk'⟩) (fun _ e5 ⟨_,c2,d1,_,F,hm,e4⟩=>?_) fun _ _ z=>z.elim
    exact P d1 hm e4
   rcases a9 with⟨e0,e1⟩|⟨c,e0,d6⟩
   ·subst e0 e1
    refine wpAny_tests_nil ?_
    rw[if_pos rfl]
    have a5:=(show(if true=true then _ else _) from c4)
    rw[if_pos rfl] at a5
    exact a7 I9 a5 _
   ·subst e0
    refine wpAny_tests_one (wpAny_mono (d6 ⟨cl,C,s3,g,f⟩ _ s9 _ H9 _ I9 c4) (fun b b3 ⟨c5,Y,G⟩=>?_) fun _ _ z=>z.elim)
    cases b with
    |true=>
     rw[if_pos rfl] at G ⊢
     exact a7 Y G _
    |false=>
     rw[if_neg bQ] at G ⊢
     obtain⟨F,hm,c8⟩:=G
     exact P Y hm c8
 exact codeAny_compStart_list (a8 _ rfl) (T.self X.A 0 _ _ _ b5 (a8 _ rfl))
theorem lu{K f:Expr}{x:Str}{px:Pos}{scope:Scope}{pos:Pos}{wi:TI}{te:CB ->TE}(b:Scope)(cs:List Str)(Z:List Nat)(hc:X.calm=true)(hi:PI X (.Name x px) f wi)
  (L:∀z:CB,PE (X.comp scope z.cl z.C (x::cs) z.s z.H z.fp) K (te z))(hN:(x::cs).Nodup:=by decide+kernel)(g:scope.kind=.function:=by rfl)(A:∀y∈scope.names,y.2≠.cell:=by decide+kernel)
  (hx:scope.names.lookup x=some .local:=by rfl)(o:∀y∈scope.names,y.2=.local ->scope.names.lookup y.1=some .local:=by decide+kernel)
  (Y:Z.map (fun i=>X.N[i]?)=cs.map some:=by rfl)(U:∀y∈cs,scope.names.lookup y=some .free:=by decide+kernel)(E:∀y∈cs,b.names.lookup y=some .cell∨b.names.lookup y=some .free:=by decide+kernel)
  (l:∀y∈scope.names,y.2=.free ->b.names.lookup y.1=some .cell∨b.names.lookup y.1=some .free:=by decide+kernel)(F:X.env.scope=b:=by rfl)
  (hs:∀x,foldedSetIterable f X.env x=pure x:=by intro _;rfl):
  PE X (.ListComp K [⟨.Name x px,f,[],0⟩] scope pos) (Dh wi Z te):=by
 have M:∀y∈cs,X.env.scope.names.lookup y=some .cell∨X.env.scope.names.lookup y=some .free:=by rw[F];exact E
 have B:∀y∈scope.names,y.2=.free ->X.env.scope.names.lookup y.1=some .cell∨X.env.scope.names.lookup y.1=some .free:=by rw[F];exact l
 intro gW s σ H Q I h
 obtain⟨cl,S,h1,h2⟩:=lO (scope:=scope) (env:=X.env) fun y hy hk=>I.ok.has y.1 (B y hy hk)
 rw[eval_ListComp]
 refine wpAny_comprehension_free (use:=none) rfl hs S g o (wpAny_mono (hi gW s σ H _ I h) (fun v s1 h3=>wpAny_mono h3 (fun a0 s2 h4=>?_) fun _ _ z=>z) fun _ _ z=>z)
 obtain⟨it,fp,tn,J,H2,rfl,I2,T,st,hf,q⟩:=h4
 refine pX (Q:=Q) (tc:=fun _ _ H Q=>Q true H) hc g A hx hN Y U M h1 h2 (.inl ⟨rfl,rfl⟩) L I2 T st hf (fun D R n3=>?_) fun D C s3 R O hI a1 hq=>?_
 ·obtain⟨W,w0,G⟩:=q D R n3
  refine⟨W,w0,fun i m ys H w=>?_⟩
  rcases G i m ys H w with z|⟨go,step⟩
  ·exact .inl z
  ·refine .inr ⟨go,fun x H' y z=>?_⟩
   exact Fv (step x H' y z)
 ·obtain⟨m,O⟩:=O
  exact⟨m,O,fun h' P=>⟨.ref D,R,hI h' P,rfl,hq⟩⟩
theorem DL{F b c:Expr}{x:Str}{W:Pos}{scope:Scope}{pos:Pos}{Z:TI}{tc:CB ->TT}{Y:CB ->TE}(f:Scope)(cs:List Str)(U:List Nat)(hc:X.calm=true)(hi:PI X (.Name x W) b Z)
  (S:∀z:CB,PT (X.comp scope z.cl z.C (x::cs) z.s z.H z.fp) c (tc z))(G:∀z:CB,PE (X.comp scope z.cl z.C (x::cs) z.s z.H z.fp) F (Y z))(hN:(x::cs).Nodup:=by decide+kernel)(g:scope.kind=.function:=by rfl)(w:∀y∈scope.names,y.2≠.cell:=by decide+kernel)
  (hx:scope.names.lookup x=some .local:=by rfl)(l:∀y∈scope.names,y.2=.local ->scope.names.lookup y.1=some .local:=by decide+kernel)
  (R:U.map (fun i=>X.N[i]?)=cs.map some:=by rfl)(P:∀y∈cs,scope.names.lookup y=some .free:=by decide+kernel)(B:∀y∈cs,f.names.lookup y=some .cell∨f.names.lookup y=some .free:=by decide+kernel)
  (o:∀y∈scope.names,y.2=.free ->f.names.lookup y.1=some .cell∨f.names.lookup y.1=some .free:=by decide+kernel)(E:X.env.scope=f:=by rfl)
  (hs:∀x,foldedSetIterable b X.env x=pure x:=by intro _;rfl):
  PE X (.ListComp F [⟨.Name x W,b,[c],0⟩] scope pos) (Bt Z U tc Y):=by
 have K:∀y∈cs,X.env.scope.names.lookup y=some .cell∨X.env.scope.names.lookup y=some .free:=by rw[E];exact B
 have A:∀y∈scope.names,y.2=.free ->X.env.scope.names.lookup y.1=some .cell∨X.env.scope.names.lookup y.1=some .free:=by rw[E];exact o
 intro gW s σ H Q I h
 obtain⟨cl,L,h1,h2⟩:=lO (scope:=scope) (env:=X.env) fun y hy hk=>I.ok.has y.1 (A y hy hk)
 rw[eval_ListComp]
 refine wpAny_comprehension_free (use:=none) rfl hs L g l (wpAny_mono (hi gW s σ H _ I h) (fun v s1 h3=>wpAny_mono h3 (fun a0 s2 h4=>?_) fun _ _ z=>z) fun _ _ z=>z)
 obtain⟨it,fp,tn,J,H2,rfl,I2,T,st,hf,q⟩:=h4
 refine pX (Q:=Q) (tc:=tc) hc g w hx hN R P K h1 h2 (.inr ⟨c,rfl,S⟩) G I2 T st hf q fun D C s3 H3 M hI a1 hq=>?_
 obtain⟨m,M⟩:=M
 exact⟨m,M,fun h' O=>⟨.ref D,H3,hI h' O,rfl,hq⟩⟩
theorem ot{E f:Expr}{x y:Str}{Y U:Pos}{scope:Scope}{pos G:Pos}{wi:TI}{te:CB ->TE}{k:Nat}(g:Scope)(cs:List Str)(ix:List Nat)(a1:X.N.Nodup)(hk:X.N[k]? =some y)(hy:Loc X.env.scope y)(hc:X.calm=true)(hi:PI X (.Name x Y) f wi)
  (R:∀z:CB,PE (X.comp scope z.cl z.C (x::cs) z.s z.H z.fp) E (te z))(hN:(x::cs).Nodup:=by decide+kernel)(l:scope.kind=.function:=by rfl)(K:∀y∈scope.names,y.2≠.cell:=by decide+kernel)
  (hx:scope.names.lookup x=some .local:=by rfl)(F:∀y∈scope.names,y.2=.local ->scope.names.lookup y.1=some .local:=by decide+kernel)
  (a6:ix.map (fun i=>X.N[i]?)=cs.map some:=by rfl)(a4:∀y∈cs,scope.names.lookup y=some .free:=by decide+kernel)(M:∀y∈cs,g.names.lookup y=some .cell∨g.names.lookup y=some .free:=by decide+kernel)
  (B:∀y∈scope.names,y.2=.free ->g.names.lookup y.1=some .cell∨g.names.lookup y.1=some .free:=by decide+kernel)(O:X.env.scope=g:=by rfl)
  (hs:∀x,foldedSetIterable f X.env x=pure x:=by intro _;rfl)(a7:swapsWith (.ListComp E [⟨.Name x Y,f,[],0⟩] scope pos) (some (.Name y U)) G.line X.env=pure true:=by with_unfolding_all rfl)
  (hf:X.fn y=true∨X.env.scope.names.lookup y=some .local:=by first|exact .inl rfl|exact .inr rfl|assumption):
  PS X (.Assign [.Name y U] (.ListComp E [⟨.Name x Y,f,[],0⟩] scope pos) G) (Ct (Dh wi ix te) (kf k)):=by
 have S:∀y∈cs,X.env.scope.names.lookup y=some .cell∨X.env.scope.names.lookup y=some .free:=by rw[O];exact M
 have L:∀y∈scope.names,y.2=.free ->X.env.scope.names.lookup y.1=some .cell∨X.env.scope.names.lookup y.1=some .free:=by rw[O];exact B
 intro gW s σ H D0 I h
 obtain⟨cl,a3,h1,h2⟩:=lO (scope:=scope) (env:=X.env) fun y hy hk=>I.ok.has y.1 (L y hy hk)
 rw[exec_Assign_Name_used _ _ _ _ a7]
 refine wpAny_bind (wpAny_standAt (wpAny_bind ?_))
 show wpAny _ X.A (do let _ ←comprehension (.ListComp E [⟨.Name x Y,f,[],0⟩] scope pos) scope X.env _ (newList []) false (eval f X.env) (some (assign (.Name y U) X.env))) _ _ s
 refine wpAny_bind (wpAny_mono (wpAny_comprehension_free (use:=some (assign (.Name y U) X.env)) (Q:=fun _ s'=>SP X gW D0 .next s') rfl hs a3 l F
  (wpAny_mono (hi gW s σ H _ I h) (fun v s1 h3=>wpAny_mono h3 (fun a9 s2 h4=>?_) fun _ _ z=>z) fun _ _ z=>z)) (fun _ s' hq=>wpAny_pure (wpAny_pure hq)) fun _ _ e=>e)
 obtain⟨it,fp,tn,J,H2,rfl,I2,T,st,a5,q⟩:=h4
 refine pX (Q:=fun v H'=>kf k v σ H' D0.nx) (tc:=fun _ _ H Q=>Q true H) hc l K hx hN a6 a4 S h1 h2 (.inl ⟨rfl,rfl⟩) R I2 T st a5 (fun D Z n3=>?_) fun D C s3 Z hm hI a8 hq=>?_
 ·obtain⟨W,w0,P⟩:=q D Z n3
  refine⟨W,w0,fun i m ys H w=>?_⟩
  rcases P i m ys H w with z|⟨go,step⟩
  ·exact .inl z
  ·refine .inr ⟨go,fun x H' y z=>?_⟩
   exact Fv (step x H' y z)
 ·obtain⟨m,hm⟩:=hm
  have I3:Inv X gW σ Z s3:=by
   have:=hI s3.heap ⟨rfl,fun _ _=>rfl⟩
   exact this
  show wpAny _ X.A (assign (.Name y U) X.env (.ref D)) _ _ s3
  refine wpAny_assign_Name (tP I3 a1 hk hy (v:=.ref D) rfl (fun s4 I4 ⟨a,a2,ha⟩=>?_) hf)
  obtain⟨g0,g1,_,g3,g4,g5⟩:=a8
  have aC:C≠a:=fun z=>by
   rcases ha with ha|ha
   ·exact g1 (z.trans ha)
   ·exact g4 y a ha z.symm
  refine⟨m,hm.sameBut a2 aC,fun h' a0=>?_⟩
  exact⟨_,Z,I4.turned (t':=s4.toks) (fun b o hb e=>(a0.2 b hb).trans e) g0 g1 g3 g4 g5,hq⟩
end
end
section
variable {X:Cx}
theorem MH{P:Program}{w:World}:oj (CXE P w) X E0:=fun _ _ _ _ _ _ _ ⟨_,_,_,_,_,z⟩=>z.elim
theorem jY{j k:Nat}{x:Str}{ps:List Str}{sp:Sp}{e:Expr}{g:List Expr}{t:TA}{p pos:Pos}(C:ie X.prog X.w X.K X.mg X.base x j ps sp)(D:jw k X.A)(o:j<=k)(E:Gl X x)(ha:PA X (e::g) t)(h:(x == ("__debug__":Str))=false:=by decide)
  (B:starEach (e::g) X.env=(false,eval e X.env)::starEach g X.env:=by rfl)(l:(backTo pos (starEach g X.env)).any (·.1)=false:=by rfl):
  PE X (.Call (.Name x p) (e::g) [] pos) (BP sp [] E0 t):=by
 obtain⟨f,G,F,m,z,b⟩:=C
 exact Bc F (D.mono o) E m z b .nil MH ha h B l
theorem wb:∀{ns:List Int} {its:List Value},iz (ns.map V.int) its ->∃ts:List (Int × Tok),its=ts.map (fun p=>Value.int p.1 p.2)/\ ts.map (·.1)=ns
 |[],_,.nil=>⟨[],rfl,rfl⟩
 |n::ns,_,.cons r t=>by
  obtain⟨k,rfl⟩:=r
  obtain⟨ts,e,h⟩:=wb t
  exact⟨(n,k)::ts,by rw[e];rfl,by rw[bH,h]⟩
def Kq(K:aW):List V ->Hp ->VK ->Prop:=fun xs H Q=>match xs with|[.ref p]=>∃ns:List Int,SqL K H p (ns.map V.int)/\ Q (.int ns.sum) H|_=>False
theorem LY(z:X.calm=true):jr X (.builtin "sum") (Kq X.K):=by
 intro F s E H xs D Q I r h
 unfold Kq at h
 split at h
 ·rename_i p
  obtain⟨ns,g,q⟩:=h
  obtain⟨u,rfl,A⟩:=kr r
  cases (show u=Value.ref p from A)
  obtain⟨b,f,l,_⟩:=I.list g
  obtain⟨ts,e,w⟩:=wb f
  have B:b.toArray=intItems ts.toArray:=by rw[e];simp[intItems]
  refine sum_intListG (xs:=ts.toArray) (I.ok.hd z) (by rw[←B];exact l.isList) fun C tk t' o=>?_
  refine⟨.int ns.sum,H,I.kept (t':=tk) o,⟨t',?_⟩,q⟩
  rw[preSum_eq,cM (by simp), ←w]
 ·exact h.elim
def JU:List V ->Hp ->VK ->Prop:=fun xs H Q=>match xs with|[.int i,.int j]=>Q (.int (min i j)) H|_=>False
def LH:List V ->Hp ->VK ->Prop:=fun xs H Q=>match xs with|[.int i,.int j]=>Q (.int (max i j)) H|_=>False
theorem HN(b:X.calm=true):jr X (.builtin "min") JU:=(Fe b).imp fun f H Q h=>by
 unfold JU at h
 split at h
 ·rename_i i j
  refine⟨i,j,rfl,?_⟩
  have e:(if j<i then j else i)=min i j:=by split<;>omega
  rw[e]
  exact h
 ·exact h.elim
theorem MW(b:X.calm=true):jr X (.builtin "max") LH:=(DA b).imp fun f H Q h=>by
 unfold LH at h
 split at h
 ·rename_i i j
  refine⟨i,j,rfl,?_⟩
  have e:(if j>i then j else i)=max i j:=by split<;>omega
  rw[e]
  exact h
 ·exact h.elim
end
theorem Nj{n i:Nat}(h:i<n)(P:Prop):(∃b,b<n - i/\ b=n - (i+1)/\ i+1<=n/\ P)=P:=by
 apply propext
 exact⟨fun⟨_,_,_,_,p⟩=>p,fun p=>⟨n - (i+1),by omega,rfl,h,p⟩⟩
abbrev sC(D:Addr)(ys:List V)(P:List V ->Hp ->Prop):VK:=fun y H3=>H3 D=some (.lst ys)/\ ys.length<16000000/\ ∀H4,Chg H3 D (.lst (ys++[y])) H4 ->P (ys++[y]) H4
theorem xq{D:Addr}{ys:List V}{n i:Nat}(h:i<n)(f:Nat ->List V ->Hp ->Prop):
  (fun(y:V) (H3:Hp)=>H3 D=some (.lst ys)/\ ys.length<16000000/\ ∀g,Chg H3 D (.lst (ys++[y])) g ->∃b,b<n - i/\ b=n - (i+1)/\ i+1<=n/\ f (i+1) (ys++[y]) g)=sC D ys (f (i+1)):=by
 funext y H3
 apply propext
 simp only[Nj h]
theorem uj{J:It}{D:Addr}{f:St}{w:CB ->TE}{Q:VK}{o:Hp}(n:Nat)(b:Nat ->List V ->Hp ->Prop)(h0:b 0 [] o)
  (h:∀i ys H,i<n ->b i ys H ->J.go i H)(l:∀ys H,b n ys H ->J.stop n H)
  (A:∀i ys H x g z,i<n ->b i ys H ->J.yld i H x g ->w z (some x::f) g (sC D ys (b (i+1))))(B:∀ys H,b n ys H ->Q (.ref D) H):
  ma J D f w Q o:=by
 refine⟨fun i m ys H=>m=n - i/\ i<=n/\ b i ys H,⟨n,by simp,cf _,h0⟩,?_⟩
 rintro i m ys H ⟨rfl,C,p⟩
 by_cases hlt:i<n
 ·refine .inr ⟨h i ys H hlt p,fun x g y z=>?_⟩
  rw[xq hlt b]
  exact A i ys H x g z hlt p y
 ·obtain rfl:i=n:=by omega
  exact .inl ⟨l ys H p,B ys H p⟩
theorem qd{K:aW}{a D:Addr}{xs:List V}{b:St}{o:CB ->TE}{Q:VK}{l:Hp}(f:Nat ->List V ->Hp ->Prop)(h0:f 0 [] l)(h:∀i ys H,i<=xs.length ->f i ys H ->SqL K H a xs)
  (w:∀i x ys H z,xs[i]? =some x ->f i ys H ->o z (some x::b) H (sC D ys (f (i+1))))(A:∀ys H,f xs.length ys H ->Q (.ref D) H):
  ma (Itl K a) D b o Q l:=by
 refine uj xs.length f h0 (fun i ys H g p=>?_) (fun ys H p=>?_) (fun i ys H x B z g p y=>?_) A
 ·exact⟨xs,xs[i],h i ys H (db g) p,by simp[g]⟩
 ·exact⟨xs,h _ ys H (bh _) p,by simp⟩
 ·obtain⟨e,y⟩:=y
  subst e
  exact w i x ys _ z (y xs (h i ys _ (db g) p)) p
theorem vT{lo:Int}{n:Nat}{D:Addr}{b:St}{l:CB ->TE}{Q:VK}{h:Hp}(f:Nat ->List V ->Hp ->Prop)(h0:f 0 [] h)
  (o:∀i ys H z,i<n ->f i ys H ->l z (some (.int (lo+i))::b) H (sC D ys (f (i+1))))(w:∀ys H,f n ys H ->Q (.ref D) H):
  ma (Itr lo n) D b l Q h:=by
 refine uj n f h0 (fun i ys H g p=>g) (fun ys H p=>bh _) (fun i ys H x A z g p y=>?_) w
 obtain⟨e,y⟩:=y
 subst e y
 exact o i ys _ z g p
section
variable {X:Cx} {a b c:Expr} {ta tb tc:TE} {pos:Pos}
def ym:TGs:=fun vs σ H Q=>match vs with|[]=>Q σ H|_=>False
def tM(t:TG)(u:TGs):TGs:=fun vs σ H Q=>match vs with|v::r=>t v σ H fun σ' H'=>u r σ' H' Q|[]=>False
def yA(K:aW)(n:Nat)(t:TGs):TG:=fun v σ H Q=>match v with| .ref a=>∃xs,SqT K H a xs/\ xs.length=n/\ t xs σ H Q|_=>False
theorem Ip:GT=ym:=by
 funext vs σ H Q
 apply propext
 cases vs<;>simp[GT,ym]
theorem Ge{t:TG}{u:TGs}:BU t u=tM t u:=by
 funext vs σ H Q
 apply propext
 cases vs with
 |nil=>simp[BU,tM]
 |cons v r=>exact⟨fun⟨_,_,e,h⟩=>by cases e;exact h,fun h=>⟨v,r,rfl,h⟩⟩
theorem IT{K:aW}{n:Nat}{t:TGs}:GO K n t=yA K n t:=by
 funext v σ H Q
 apply propext
 cases v<;>simp[GO,yA]
theorem qK:PGs X [] ym:=Ip▸JB
theorem ky{e:Expr}{f:List Expr}{t:TG}{u:TGs}(h1:PG X e t)(h:PGs X f u)
  (g:(assignEach (e::f) X.env).map (·.2)=assign e X.env::(assignEach f X.env).map (·.2):=by rfl):PGs X (e::f) (tM t u):=Ge▸Hn h1 h g
theorem qv{f:List Expr}{k:Nat}{t:TGs}{n:Nat}(l:X.calm=true)(h:PGs X f t)
  (o:(assignEach f X.env).length=n:=by rfl)(g:(assignEach f X.env).findIdx? (·.1)=none:=by rfl):PG X (.Tuple f k pos) (yA X.K n t):=IT▸Lz l h o g
def GK(i j:Nat)(ta:TA):TS:=fun D σ H=>ta σ H fun vs H1=>match vs with|[v,w]=>D.nx ((σ.set i (some v)).set j (some w)) H1|_=>False
theorem Jd{i j:Nat}{ta:TA}:FH i j ta=GK i j ta:=by
 funext D σ H
 unfold FH GK
 congr 1
 funext vs H1
 apply propext
 constructor
 ·rintro⟨v,w,rfl,h⟩
  exact h
 ·intro h
  split at h
  ·exact⟨_,_,rfl,h⟩
  ·exact h.elim
theorem Ni{i j:Nat}{x y:Str}{a b:Expr}{ta:TA}{h g pt:Pos}{kt k2 pt2}(D:X.calm=true)(z:X.N.Nodup)(C:X.N[i]? =some x)(l:X.N[j]? =some y)(f:i≠j)
  (w:X.env.scope.names.lookup x=some .local)(B:X.env.scope.names.lookup y=some .local)(ha:PA X [a,b] ta)
  (A:swappedStores [.Tuple [.Name x h,.Name y g] kt pt] (.Tuple [a,b] k2 pt2) X.env=pure (some [x,y]):=by with_unfolding_all rfl)
  (o:swapsWithSole [.Tuple [.Name x h,.Name y g] kt pt] (.Tuple [a,b] k2 pt2) pos.line X.env=pure false:=by rfl):
  PS X (.Assign [.Tuple [.Name x h,.Name y g] kt pt] (.Tuple [a,b] k2 pt2) pos) (GK i j ta):=Jd▸KB D z C l f w B ha A o
def Ig:V ->V ->V ->Hp ->(Hp ->Prop) ->Prop:=fun o i v H Q=>match o,i with| .ref p,.int k=>∃xs j,H p=some (.lst xs)/\ ixN xs.length k=some j/\ ∀H',Chg H p (.lst (xs.set j v)) H' ->Q H'|_,_=>False
theorem yS:GL X Ig:=by
 intro B s z H o i v ov C u Q I w l f h
 refine Ht B s z H o i v ov C u Q I w l f ?_
 unfold Ig at h
 split at h
 rotate_left
 ·exact h.elim
 obtain⟨g,j,h1,A,q⟩:=h
 exact⟨_,g,_,j,rfl,rfl,h1,A,q _ .mk'⟩
theorem Ef(bs:List Bool):((dz bs.length).all fun i=>(bs[i]?).getD true)=bs.all id:=by
 apply eR.mpr
 simp only[fS,gh]
 constructor
 ·intro h b g
  obtain⟨j,f⟩:=bF.mp g
  have:=h j (by exact(aZ.mp f).1)
  rw[f] at this
  exact this
 ·intro h j f
  rw[bg f]
  exact h _ (gR f)
def Lf(K:aW):List V ->Hp ->VK ->Prop:=fun xs H Q=>match xs with|[.ref p]=>∃bs:List Bool,SqL K H p (bs.map V.bl)/\ Q (.bl (bs.all id)) H|_=>False
theorem MD(N:X.calm=true):jr X (.builtin "all") (Lf X.K):=by
 intro R s U H O P Q I r h
 unfold Lf at h
 split at h
 ·rename_i p
  obtain⟨bs,D,q⟩:=h
  obtain⟨u,rfl,M⟩:=kr r
  cases (show u=Value.ref p from M)
  obtain⟨C,B,l,_⟩:=I.list D
  have e:=vX B
  subst e
  have w:p<s.heap.objs.size:=by obtain⟨_,e,_⟩:=l.isList;exact bq e
  refine call_all_walk (wpAny_pyIter_list l.isList ?_)
  refine⟨s.heap.objs.size,_,_,_,_,_,fun i=>(bs[i]?).getD true,rfl,Walks.list (A:=X.A.in1) (I.ok.hd N) s.heap.objs.size p (bD w) (bs.map Value.bool).toArray,⟨⟨_,bu _ rfl,rfl,rfl⟩,l.isList.push _⟩,?_,fun S tk G=>?_⟩
  ·intro i v J L T hv F
   have g:(bs.map Value.bool)[i]? =some v:=by simpa using hv
   rw[bi] at g
   obtain⟨b,E,rfl⟩:=bN.mp g
   refine wpAny_truthy_bool ?_
   have f:L ((bs[i]?).getD true) J:=F
   rw[E] at f
   exact f
  ·refine⟨.bl (bs.all id),H,I.kept (t':=tk) fun b o e=>G b o ?_ (aY _ e),?_,q⟩
   ·intro z
    have:b=s.heap.objs.size:=by simpa using z
    exact absurd (bq e) (by rw[this];exact cO _)
   ·show Value.bool _=Value.bool _
    congr 1
    rw[bR,aX]
    exact Ef bs
 ·exact h.elim
end
end L2
namespace Lr
def rt(a b:Int):Rat:=gM a b
theorem ul{a b:Int}(f:b≠0):Lm.mk1 a b=(rt a b).num/\ Lm.mk2 a b=((rt a b).den:Int):=by
 have h1:gM (rt a b).num ((rt a b).den:Int)=gM a b:=gw _
 have g:((rt a b).den:Int)≠0:=by have:=(rt a b).den_nz;omega
 have h:(rt a b).num*b=a*((rt a b).den:Int):=(Rat.divInt_eq_divInt_iff g f).mp h1
 refine Lm.xQ f (by have:=(rt a b).den_pos;omega) ?_ h
 have:=(rt a b).reduced
 exact this
theorem jP(x:Rat):rt x.num x.den=x:=gw x
theorem den_pos(x:Rat):0<(x.den:Int):=by have:=x.den_pos;omega
theorem Ku{a b c d:Int}(f:b≠0)(g:d≠0):rt a b+rt c d=rt (a*d+c*b) (b*d):=Rat.divInt_add_divInt a c f g
theorem La{a b c d:Int}(f:b≠0)(g:d≠0):rt a b - rt c d=rt (a*d - c*b) (b*d):=Rat.divInt_sub_divInt a c f g
theorem EE{a b c d:Int}(f:b≠0)(g:d≠0):rt a b*rt c d=rt (a*c) (b*d):=Rat.divInt_mul_divInt a c
theorem mX{a b:Int}:rt a b=(a:Rat)/(b:Rat):=by unfold rt;rw[Rat.divInt_eq_div]
theorem DF(x y:Rat):x+y=rt (x.num*y.den+y.num*x.den) (x.den*y.den):=by
 conv=>lhs;rw[←jP x, ←jP y]
 exact Ku (by have:=den_pos x;omega) (by have:=den_pos y;omega)
theorem Ex(x y:Rat):x - y=rt (x.num*y.den - y.num*x.den) (x.den*y.den):=by
 conv=>lhs;rw[←jP x, ←jP y]
 exact La (by have:=den_pos x;omega) (by have:=den_pos y;omega)
theorem DT(x y:Rat):x*y=rt (x.num*y.num) (x.den*y.den):=by
 conv=>lhs;rw[←jP x, ←jP y]
 exact EE (by have:=den_pos x;omega) (by have:=den_pos y;omega)
theorem EK(x y:Rat)(f:y≠0):x/y=rt (x.num*y.den) (x.den*y.num):=by
 have b:y.num≠0:=fun h=>f (Rat.num_eq_zero.mp h)
 have A:=den_pos x
 have o:=den_pos y
 rw[mX]
 have l:x=(x.num:Rat)/((x.den:Int):Rat):=by rw[←mX];exact(jP x).symm
 have g:y=(y.num:Rat)/((y.den:Int):Rat):=by rw[←mX];exact(jP y).symm
 have h1:((x.den:Int):Rat)≠0:=by exact_mod_cast (show(x.den:Int)≠0 by omega)
 have w:((y.den:Int):Rat)≠0:=by exact_mod_cast (show(y.den:Int)≠0 by omega)
 have z:(y.num:Rat)≠0:=by exact_mod_cast b
 conv=>lhs;rw[l,g]
 rw[bP,bP]
 grind
theorem lt_iff(x y:Rat):x<y↔x.num*y.den<y.num*x.den:=Rat.lt_iff x y
theorem num_nonneg(x:Rat):0<=x.num↔0<=x:=Rat.num_nonneg
theorem BM{x y:Rat}:x=y↔x.num=y.num/\ (x.den:Int)=y.den:=by
 constructor
 ·rintro rfl;exact⟨rfl,rfl⟩
 ·rintro⟨h1,b⟩
  exact Rat.ext h1 (by omega)
end Lr
namespace L2
open PySem PySem.Spec PyProof.Rows
section
abbrev pr(x:Rat):HO:=.tup [.int x.num,.int (x.den:Int)]
def KT(K:aW)(a:Addr)(xs:List V):Prop:=∃(o:Obj) (its:Array Value) (n:Nat),K.lookup a=some o/\ o.cls=.type "tuple"/\ o.data=.seq its n/\ its.size<=sizeLine/\ iz xs its.toList
theorem HI{K:aW}{a:Addr}{o:Obj}{i j b f:Int}{t u:Tok}{n:Nat}(h:K.lookup a=some o)(z:o.cls=.type "tuple")(g:o.data=.seq #[.int i t,.int j u] n)(l:i=b)(w:j=f):KT K a [.int b,.int f]:=by
 subst l w
 exact⟨o,_,n,h,z,g,by show 2<=sizeLine;decide,.cons ⟨_,rfl⟩ (.cons ⟨_,rfl⟩ .nil)⟩
def ip(K:aW)(H:Hp)(v:V)(x:Rat):Prop:=∃a,v=.ref a/\ (H a=some (pr x)∨KT K a [.int x.num,.int (x.den:Int)])
variable {K:aW}
theorem ip.sq{H:Hp}{v:V}{x:Rat}(h:ip K H v x):∃a,v=.ref a/\ SqT K H a [.int x.num,.int (x.den:Int)]:=by
 obtain⟨a,e,h|h⟩:=h
 ·exact⟨a,e,SqT.of h⟩
 ·exact⟨a,e,.inr h⟩
theorem ip.k{H:Hp}{a:Addr}{x:Rat}{i j:Int}(h:KT K a [.int i,.int j])(b:x.num=i)(f:(x.den:Int)=j):ip K H (.ref a) x:=⟨a,rfl,.inr (by rw[b,f];exact h)⟩
def TpS(H H':Hp):Prop:=∀a xs,H a=some (.tup xs) ->H' a=some (.tup xs)
theorem TpS.refl(H:Hp):TpS H H:=fun _ _ h=>h
theorem TpS.trans{H f g:Hp}(a:TpS H f)(b:TpS f g):TpS H g:=fun c o h=>b c o (a c o h)
theorem iu.ts{H b:Hp}(s:iu H b):TpS H b:=fun a f h=>s a _ h
theorem New.ts{H b:Hp}{p:Addr}{o:HO}(n:New H p o b):TpS H b:=n.same.ts
theorem Chg.ts{H b:Hp}{l:Addr}{ys:List V}{o:HO}(c:Chg H l o b)(h:H l=some (.lst ys)):TpS H b:=fun a f e=>by rw[c.oth a (HX e h (by intro z;cases z))];exact e
theorem ip.ts{H b:Hp}{v:V}{x:Rat}(s:TpS H b)(h:ip K H v x):ip K b v x:=by
 obtain⟨a,e,h|h⟩:=h
 ·exact⟨a,e,.inl (s a _ h)⟩
 ·exact⟨a,e,.inr h⟩
theorem ip.same{H b:Hp}{v:V}{x:Rat}(s:iu H b)(h:ip K H v x):ip K b v x:=h.ts s.ts
theorem ip.new{H b:Hp}{p:Addr}{x:Rat}(n:New H p (pr x) b):ip K b (.ref p) x:=⟨p,rfl,.inl n.at_⟩
structure iR(K:aW)(H:Hp)(vs:List V)(xs:List Rat):Prop where
 len:vs.length=xs.length
 at_:∀(j:Nat) (v:V) (x:Rat),vs[j]? =some v ->xs[j]? =some x ->ip K H v x
theorem iR.ts{H f:Hp}{vs:List V}{xs:List Rat}(s:TpS H f)(h:iR K H vs xs):iR K f vs xs:=⟨h.len,fun j v x a b=>(h.at_ j v x a b).ts s⟩
theorem iR.nil{H:Hp}:iR K H [] []:=⟨rfl,fun j v x h=>by simp at h⟩
theorem iR.snoc{H:Hp}{vs:List V}{xs:List Rat}{v:V}{x:Rat}(h:iR K H vs xs)(g:ip K H v x):iR K H (vs++[v]) (xs++[x]):=by
 refine⟨by simp[h.len],fun j w y a b=>?_⟩
 by_cases hj:j<vs.length
 ·rw[cA hj] at a
  rw[cA (by rw[←h.len];exact hj)] at b
  exact h.at_ j w y a b
 ·rw[cv (by omega)] at a
  rw[cv (by rw[←h.len];omega)] at b
  have e:j - vs.length=0:=by
   have:=(aZ.mp a).1
   simp at this
   omega
  have f:j - xs.length=0:=by rw[←h.len];exact e
  rw[e] at a
  rw[f] at b
  simp at a b
  subst a b
  exact g
theorem iR.app{H:Hp}{vs ws:List V}{xs ys:List Rat}(h:iR K H vs xs)(g:iR K H ws ys):iR K H (vs++ws) (xs++ys):=by
 refine⟨by simp[h.len,g.len],fun j w y a b=>?_⟩
 by_cases hj:j<vs.length
 ·rw[cA hj] at a
  rw[cA (by rw[←h.len];exact hj)] at b
  exact h.at_ j w y a b
 ·rw[cv (by omega)] at a
  rw[cv (by rw[←h.len];omega), ←h.len] at b
  exact g.at_ _ w y a b
theorem iR.get{H:Hp}{vs:List V}{xs:List Rat}{j:Nat}{v:V}(h:iR K H vs xs)(e:vs[j]? =some v):∃x,xs[j]? =some x/\ ip K H v x:=by
 have b:j<xs.length:=by rw[←h.len];exact(aZ.mp e).1
 exact⟨_,bg b,h.at_ j v _ e (bg b)⟩
def iE(K:aW)(H:Hp)(a:Addr)(xs:List Rat):Prop:=∃vs,H a=some (.lst vs)/\ iR K H vs xs
theorem iE.same{H b:Hp}{a:Addr}{xs:List Rat}(s:iu H b)(h:iE K H a xs):iE K b a xs:=let⟨vs,e,r⟩:=h;⟨vs,s _ _ e,r.ts s.ts⟩
theorem iE.len{H:Hp}{a:Addr}{xs:List Rat}(h:iE K H a xs):∃vs,H a=some (.lst vs)/\ vs.length=xs.length:=let⟨vs,e,r⟩:=h;⟨vs,e,r.len⟩
structure Sz(k:Nat)(x:Rat):Prop where
 n:Bd k x.num
 d:Bd k (x.den:Int)
theorem Sz.mono{m n:Nat}{x:Rat}(h:Sz m x)(l:m<=n):Sz n x:=⟨h.n.mono l,h.d.mono l⟩
theorem Sz.rt{m n:Nat}{a b:Int}(f:b≠0)(h1:Bd n a)(g:Bd n b)(l:n<=m):Sz m (Lr.rt a b):=by
 have e:=Lr.ul (a:=a) f
 refine⟨?_,?_⟩
 ·rw[←e.1];exact(h1.of_le (Lm.vS _ _ f)).mono l
 ·rw[←e.2];exact(g.of_le (Lm.wj _ _ f)).mono l
theorem kl(x:Rat):(x.den:Int)≠0:=by have:=Lr.den_pos x;omega
theorem Sz.add{m n:Nat}{x y:Rat}(h1:Sz m x)(b:Sz n y):Sz (m+n+1) (x+y):=by
 rw[Lr.DF]
 refine Sz.rt (n:=m+n+1) (dH (kl x) (kl y)) ?_ ((h1.d.mul b.d (bh _)).mono (by omega)) (bh _)
 exact Bd.add (m:=m+n) (h1.n.mul b.d (bh _)) ((b.n.mul h1.d (bh _)).mono (by omega)) (bh _)
theorem Sz.sub{m n:Nat}{x y:Rat}(h1:Sz m x)(b:Sz n y):Sz (m+n+1) (x - y):=by
 rw[Lr.Ex]
 refine Sz.rt (n:=m+n+1) (dH (kl x) (kl y)) ?_ ((h1.d.mul b.d (bh _)).mono (by omega)) (bh _)
 exact Bd.sub (m:=m+n) (h1.n.mul b.d (bh _)) ((b.n.mul h1.d (bh _)).mono (by omega)) (bh _)
theorem Sz.mul{m n:Nat}{x y:Rat}(h1:Sz m x)(b:Sz n y):Sz (m+n) (x*y):=by
 rw[Lr.DT]
 exact Sz.rt (n:=m+n) (dH (kl x) (kl y)) (h1.n.mul b.n (bh _)) (h1.d.mul b.d (bh _)) (bh _)
theorem Sz.div{m n:Nat}{x y:Rat}(h1:Sz m x)(f:Sz n y)(b:y≠0):Sz (m+n) (x/y):=by
 rw[Lr.EK x y b]
 have g:y.num≠0:=fun h=>b (Rat.num_eq_zero.mp h)
 exact Sz.rt (n:=m+n) (dH (kl x) g) (h1.n.mul f.d (bh _)) (h1.d.mul f.n (bh _)) (bh _)
theorem Sz.zero:Sz 1 (0:Rat):=⟨Bd.of_lt (by decide),Bd.of_lt (by decide)⟩
theorem Chg.new{l w g:Hp}{D:Addr}{o h:HO}(n:New l D o w)(c:Chg w D h g):New l D h g:=⟨n.fr,c.at_,fun b f=>by rw[c.oth b f,n.oth b f]⟩
theorem DG{K:aW}{a D:Addr}{ws:List Int}{g:St}{E:CB ->TE}{Q:VK}{A C:Hp}(f:Int ->Int)(n:New A D (.lst []) C)(J:SqL K A a (ws.map V.int))(H:ws.length<=1000000)
  (B:∀w∈ws,∀z b (R:VK),R (.int (f w)) b ->E z (some (.int w)::g) b R)(I:∀b,New A D (.lst ((ws.map f).map V.int)) b ->Q (.ref D) b):
  ma (Itl K a) D g E Q C:=by
 refine qd (xs:=ws.map V.int) (fun i l b=>l=((ws.take i).map f).map V.int/\ New A D (.lst l) b) ⟨rfl,n⟩ (fun i l b _ h=>h.2.same.seq J) ?_ ?_
 ·rintro i x l b z F ⟨rfl,o⟩
  rw[bi] at F
  obtain⟨w,G,rfl⟩:=bN.mp F
  refine B w (bo G) z b _ ⟨o.at_,?_,fun L c=>⟨?_,Chg.new o c⟩⟩
  ·rw[aX,aX,bW]
   omega
  ·rw[cx,G,bZ,bZ]
   rfl
 ·rintro l b ⟨rfl,o⟩
  rw[aX,cg] at o
  exact I b o
theorem xM{K:aW}{a D:Addr}{us:List V}{xs:List Rat}{f:St}{H:CB ->TE}{Q:VK}{l F:Hp}(n:New l D (.lst []) F)(N:SqL K l a us)(J:us.length<=1000000)(G:us.length=xs.length)
  (E:∀(j:Nat) u x,us[j]? =some u ->xs[j]? =some x ->∀z b,iu l b ->∀(R:VK),(∀v C,iu b C ->ip K C v x ->R v C) ->H z (some u::f) b R)
  (M:∀b,iu l b ->iE K b D xs ->l D=none ->Q (.ref D) b):
  ma (Itl K a) D f H Q F:=by
 refine qd (xs:=us) (fun i g b=>iu l b/\ b D=some (.lst g)/\ iR K b g (xs.take i)) ⟨n.same,n.at_,.nil⟩ (fun i g b _ h=>h.1.seq N) ?_ ?_
 ·rintro i u g b z I ⟨s,A,w⟩
  have L:i<xs.length:=by rw[←G];exact(aZ.mp I).1
  have o:=bg L
  refine E i u xs[i] I o z b s _ fun v C B r=>⟨B _ _ A,?_,fun O c=>⟨c.same (s.trans B) n.fr,c.at_,?_⟩⟩
  ·rw[w.len,bW]
   omega
  ·have t:=c.ts (B _ _ A)
   rw[cx,o]
   exact((w.ts B.ts).ts t).snoc (r.ts t)
 ·rintro g b ⟨s,A,w⟩
  rw[G,cg] at w
  exact M b s ⟨g,A,w⟩ n.fr
theorem wL{x y:Rat}:(decide (x.num=y.num) && decide ((x.den:Int)=(y.den:Int)))=decide (x=y):=by
 by_cases h:x=y
 ·subst h;simp
 ·rw[decide_eq_false h]
  by_cases h1:x.num=y.num
  ·by_cases h2:(x.den:Int)=y.den
   ·exact absurd (Lr.BM.mpr ⟨h1,h2⟩) h
   ·rw[decide_eq_false h2,Bool.and_false]
  ·rw[decide_eq_false h1,Bool.false_and]
section
variable {X:Cx}
def Of(K:aW):R2:=fun x y H Q=>∃p q,ip K H x p/\ ip K H y q/\ Q (.bl (decide (p=q))) H
def Nu(K:aW):R2:=fun x y H Q=>∃p q,ip K H x p/\ ip K H y q/\ Q (.bl (!decide (p=q))) H
theorem HR(g:X.A.units<cLine):OpR X (compareOp .Eq) (Of X.K):=(Dv g).imp fun x y H Q ⟨p,q,h,f,k⟩=>let⟨a,e1,h1⟩:=h.sq;let⟨b,e2,h2⟩:=f.sq;⟨a,b,_,_,_,_,e1,e2,h1,h2,by rw[wL];exact k⟩
theorem MG(g:X.A.units<cLine):OpR X (compareOp .NotEq) (Nu X.K):=(Kd g).imp fun x y H Q ⟨p,q,h,f,k⟩=>let⟨a,e1,h1⟩:=h.sq;let⟨b,e2,h2⟩:=f.sq;⟨a,b,_,_,_,_,e1,e2,h1,h2,by rw[wL];exact k⟩
def NA(K:aW):R2:=fun x y H Q=>match y with| .int i=>∃r,ip K H x r/\ (i=0/\ Q (.int r.num) H∨i=1/\ Q (.int (r.den:Int)) H)|_=>False
theorem iH:IxR X (NA X.K):=Ep.imp fun x y H Q h=>by
 cases y<;>first|exact h.elim|skip
 obtain⟨r,ha,h⟩:=h
 obtain⟨a,rfl,ga⟩:=ha.sq
 rcases h with⟨rfl,q⟩|⟨rfl,q⟩
 ·exact⟨a,_,_,_,rfl,rfl,ga,rfl,q⟩
 ·exact⟨a,_,_,_,rfl,rfl,ga,rfl,q⟩
end
end
section
variable {X:Cx}
end
section
variable {X:Cx} {gW:List (Addr × Obj)} {σ:St} {H:Hp} {s:Shared} {scope:Scope} {cl:List (Str × Addr)} {C:Addr} {ns:List Str} {fp:List Addr}
theorem Inv.comp2{f:Heap}{tk:Nat}{g:Str ->Option Value}{x Q:Str}{cs:List Str}{K:List Nat}(I:Inv X gW σ H s)(ok:(X.comp scope cl C (x::Q::cs) s H fp).Ok)
  (h1:∀y c,cl.lookup y=some c ->X.env.cells.lookup y=some c)(W:∀y,(y,NameKind.free)∈scope.names ->∃c,cl.lookup y=some c)
  (T:s.heap.objs.size<=C)(hn:f.Ns C g)(keep:∀b o,s.heap.get? b=some o ->f.get? b=some o)
  (E:K.map (fun i=>X.N[i]?)=cs.map some)(D:∀y∈cs,scope.names.lookup y=some .free)(h:∀y∈cs,X.env.scope.names.lookup y=some .cell∨X.env.scope.names.lookup y=some .free):
  Inv (X.comp scope cl C (x::Q::cs) s H fp) [] (none::none::iI K σ) H {s with heap:=f,toks:=tk} where
 ok:=ok
 os:=rfl
 bare:=I.bare
 base:=Un.kept keep
 loc:=by
  refine⟨g,hn,fun i y v P A _=>?_⟩
  match i,P,A with
  |0,_,A=>cases A
  |1,_,A=>cases A
  | j+2,P,A=>
   have G:cs[j]? =some y:=P
   have F:(K.map (nth σ))[j]? =some (some v):=A
   rw[bi] at F
   obtain⟨k,Z,hv⟩:=bN.mp F
   have S:X.N[k]? =some y:=by
    have z:=congrArg (fun l=>l[j]?) E
    simp only[bi] at z
    rw[Z,G] at z
    simpa using z
   have L:=bo G
   obtain⟨m,hm,U⟩:=I.loc
   obtain⟨u,r,l⟩:=U k y v S (oN.mpr hv) (by rcases h y L with z|z;exact .inr (.inl z);exact .inr (.inr z))
   refine⟨u,r,.inr ⟨ko (env:=X.env) (D y L),?_⟩⟩
   rcases l with⟨Y,_⟩|⟨_,c,hc,z⟩
   ·have O:X.env.scope.names.lookup y=some .local:=Y
    rcases h y L with w|w<;>(rw[O] at w;cases w)
   ·have J:(y,NameKind.free)∈scope.names:=mem_of_lookup (D y L)
    obtain⟨c',B⟩:=W y J
    have:=h1 y c' B
    rw[hc] at this
    cases this
    obtain⟨o,M,R⟩:=z
    exact⟨c,B,o,keep _ _ M,R⟩
 cell:=fun y c e=>by
  obtain⟨v,o,M,R⟩:=I.cell y c (h1 y c e)
  exact⟨v,o,keep _ _ M,R⟩
 free:=I.hok.fresh T
 freeC:=fun y c e=>I.freeC y c (h1 y c e)
 pin:=fun p hp=>by simp at hp
 hok:=I.hok.kept keep
 len:=by
  show(none::none::iI K σ).length=(x::Q::cs).length
  have:=congrArg eX E
  rw[aX,aX] at this
  simp[iI,this]
end
def ua(K:aW)(J:It)(D:Addr)(caps:St)(te:CB ->TE)(Q:VK)(H2:Hp):Prop:=∃W:Nat ->Nat ->List V ->Hp ->Prop,(∃m,W 0 m [] H2)/\ ∀i m ys H,W i m ys H ->
 (J.stop i H/\ Q (.ref D) H)∨(J.go i H/\ ∀x H',J.yld i H x H' ->∀z,∃a v1 v2,x=.ref a/\ SqT K H' a [v1,v2]/\ te z (some v1::some v2::caps) H' fun y H3=>H3 D=some (.lst ys)/\ ys.length<16000000/\ ∀H4,Chg H3 D (.lst (ys++[y])) H4 ->∃m',m'<m/\ W (i+1) m' (ys++[y]) H4)
def Ke(K:aW)(wi:TI)(ix:List Nat)(te:CB ->TE):TE:=fun σ H Q=>wi σ H fun J H1=>∀D H2,New H1 D (.lst []) H2 ->ua K J D (iI ix σ) te Q H2
section
variable {X:Cx}
theorem Ci{Z a4:Expr}{x B:Str}{px a1:Pos}{kt:Nat}{pt:Pos}{scope:Scope}{pos:Pos}{cs:List Str}{S:List Nat}{te:CB ->TE}{gW:List (Addr × Obj)}{σ:St}{H:Hp}{s:Shared}{J:It}{it:Addr}{f:List Addr}{tn:Nat ->Heap ->Prop}
  {cl:List (Str × Addr)}{E:Value ->Shared ->Prop}{Q:V ->Hp ->Prop}{RR:Value ->Addr ->Result ->Shared ->Prop}
  (hc:X.calm=true)(L:scope.kind=.function)(O:∀y∈scope.names,y.2≠.cell)(hx:scope.names.lookup x=some .local)(c0:scope.names.lookup B=some .local)(hN:(x::B::cs).Nodup)
  (c7:S.map (fun i=>X.N[i]?)=cs.map some)(d5:∀y∈cs,scope.names.lookup y=some .free)(b9:∀y∈cs,X.env.scope.names.lookup y=some .cell∨X.env.scope.names.lookup y=some .free)
  (h1:∀y c,cl.lookup y=some c ->X.env.cells.lookup y=some c)(h2:∀y,(y,NameKind.free)∈scope.names ->∃c,cl.lookup y=some c)
  (b2:∀z:CB,PE (X.comp scope z.cl z.C (x::B::cs) z.s z.H z.fp) Z (te z))
  (I:Inv X gW σ H s)(T:qg X.prog X.w X.K (.Tuple [.Name x px,.Name B a1] kt pt) J f it tn)(b4:tn 0 s.heap)(hf:∀b∈f,kx X gW H b)
  (h:∀D H2,New H D (.lst []) H2 ->∃W:Nat ->Nat ->List V ->Hp ->Prop,(∃m,W 0 m [] H2)/\ ∀i m ys H,W i m ys H ->
   (J.stop i H/\ Q (.ref D) H)∨(J.go i H/\ ∀x l,J.yld i H x l ->∀z,∃a U v2,x=.ref a/\ SqT X.K l a [U,v2]/\ te z (some U::some v2::iI S σ) l fun y g=>g D=some (.lst ys)/\ ys.length<16000000/\ ∀H4,Chg g D (.lst (ys++[y])) H4 ->∃G,G<m/\ W (i+1) G (ys++[y]) H4))
  (c6:∀D C s1 l,(∃m,s1.heap.Ns C m) ->(∀h',Heap.SameBut C s1.heap h' ->Inv X gW σ l {s1 with heap:=h'}) ->kx X gW l C ->Q (.ref D) l ->RR (.ref D) C (.ok .next) s1):
  wpAny (model X.prog X.w) X.A (newList []) (fun acc b7=>wpAny (model X.prog X.w) X.A (newFunctionEnv scope X.env.globals cl [] X.env.qual none .none (some X.env)) (fun a3 b5=>
   codeAny (model X.prog X.w) X.A (.compStart (.ListComp Z [⟨.Tuple [.Name x px,.Name B a1] kt pt,a4,[],0⟩] scope pos) 0 (.ref it) acc {a3 with scope:=relabel scope X.env}) (RR acc a3.locals) b5) E b7) E s:=by
 refine wpAny_newObj_type ?_
 have fD:H s.heap.objs.size=none:=I.hok.fresh (bh _)
 have I3:Inv X gW σ (upd H s.heap.objs.size (.lst [])) {s with heap:=s.heap.push {cls:=.type "list",data:=.seq ([]:List Value).toArray}}:=by
  refine I.laid (t':=s.toks) (fun b u e=>aY _ e) (bh _) ?_
  exact⟨cf _,[],_,.nil,bu _ rfl⟩
 have n3:New H s.heap.objs.size (.lst []) (upd H s.heap.objs.size (.lst [])):=.mk' fD
 generalize hD:s.heap.objs.size=D at*
 obtain⟨W,⟨m0,w0⟩,b0⟩:=h D _ n3
 have d8:tn 0 (s.heap.push {cls:=.type "list",data:=.seq ([]:List Value).toArray}):=T.keep 0 _ _ b4 fun b _ o e=>aY _ e
 have d2:∀b∈f,b≠D:=fun b F z=>by
  obtain⟨o,e,_⟩:=T.obj 0 _ b4 b F
  exact absurd (bq e) (by rw[z,hD];exact cO _)
 have a7:∀b∈f,kx X gW (upd H D (.lst [])) b:=fun b F=>by
  obtain⟨f0,r⟩:=hf b F
  exact⟨by rw[iM (d2 b F)];exact f0,r⟩
 generalize hs3:({s with heap:=s.heap.push {cls:=.type "list",data:=.seq ([]:List Value).toArray}}:Shared)=s3 at*
 have a2:tn 0 s3.heap:=by rw[←hs3];exact d8
 generalize upd H D (.lst [])=g at*
 refine wpAny_newFunctionEnv O (by intro y hy;simp at hy) (fun M a0 Y=>?_) L
 have keep:∀b o,s3.heap.get? b=some o ->M.get? b=some o:=fun b o e=>Y.extBut b o (bD (bq e)) (aY _ e)
 have d7:∀b∈f,b<s3.heap.objs.size:=fun b F=>by
  obtain⟨o,e,_⟩:=T.obj 0 _ a2 b F
  exact bq e
 have ok:=I3.compOk (ns:=x::B::cs) L O (bh _) h1 h2 a7 d7
 have I4:=I3.comp2 (tk:=s3.toks+([]:List (Str × Value)).length) ok h1 h2 (bh _) a0 keep c7 d5 b9
 have b1:tn 0 M:=T.keep 0 _ _ a2 fun b _ o e=>keep b o e
 generalize hC:s3.heap.objs.size=C at*
 have P:∀{l:Hp} {pins'},pins'=[] ->(∀b∈f,l b=none) ->∀b∈f,kx (X.comp scope cl C (x::B::cs) s3 g f) pins' l b:=fun hp hn b F=>by
  subst hp
  exact⟨hn b F,(ok.exf b F).1,ok.exfs b F,.inl F,(ok.exf b F).2,fun p hp=>by simp at hp⟩
 have d0:PG (X.comp scope cl C (x::B::cs) s3 g f) (.Tuple [.Name x px,.Name B a1] kt pt) (yA X.K 2 (tM (kf 0) (tM (kf 1) ym))):=
  qv (X:=X.comp scope cl C (x::B::cs) s3 g f) hc (ky (iW (X:=X.comp scope cl C (x::B::cs) s3 g f) (i:=0) hN rfl (.inl (lookup_relabel_local hx)) (.inr (lookup_relabel_local hx))) (ky (iW (X:=X.comp scope cl C (x::B::cs) s3 g f) (i:=1) hN rfl (.inl (lookup_relabel_local c0)) (.inr (lookup_relabel_local c0))) qK))
 have a5:∀R:Shared,R={s3 with heap:=M,toks:=s3.toks+([]:List (Str × Value)).length} ->
   codeAny (model X.prog X.w) X.A (.compLoop (.ListComp Z [⟨.Tuple [.Name x px,.Name B a1] kt pt,a4,[],0⟩] scope pos) 0 (.ref it) (.ref D) (compEnvC scope cl C X.env)) (RR (.ref D) C) R:=by
  rintro R rfl
  refine LCp.codeAny_compLoop_pair (fun n s'=>∃i v0 U l ys,Inv (X.comp scope cl C (x::B::cs) s3 g f) [] (v0::U::iI S σ) l s'/\ tn i s'.heap/\ (∀b∈f,l b=none)/\ W i n ys l) ?_ m0 ⟨0,none,none,g,[],I4,b1,fun b F=>(a7 b F).1,w0⟩
  rintro n s6 ⟨i,v0,U,H6,ys,I6,a9,c1,w6⟩
  rcases b0 i n ys H6 w6 with⟨b3,qn⟩|⟨go,step⟩
  ·refine wpAny_mono (T.done (X.comp scope cl C (x::B::cs) s3 g f) rfl rfl rfl hc i [] s6 _ H6 (fun _ _=>False) I6 (P rfl c1) a9 b3) (fun r s7 ⟨hr,I7⟩=>?_) fun _ _ z=>z.elim
   subst hr
   exact c6 D C s7 H6 (by obtain⟨m,hm,_⟩:=I7.loc;exact⟨m,hm⟩) (fun h' hs=>I3.uncomp I7 a7 hs) (I3.fpOk (fB hC) I7.free) qn
  ·refine wpAny_mono (T.item (X.comp scope cl C (x::B::cs) s3 g f) rfl rfl rfl hc i [] s6 _ H6 (fun _ _=>False) I6 (P rfl c1) a9 go) (fun r s7 ⟨u,hr,h7⟩=>?_) fun _ _ z=>z.elim
   subst hr
   refine wpAny_mono h7 (fun _ s8 ⟨xv,H8,I8,r8,y8,a6,e0⟩=>?_) fun _ _ z=>z.elim
   have d4:=I8.pinned (P rfl e0) (T.obj _ _ a6)
   obtain⟨pa,w1,w2,ex,c8,d6⟩:=step xv H8 y8 ⟨cl,C,s3,g,f⟩
   subst ex
   refine wpAny_mono (d0 _ s8 _ H8 (.ref pa) u (fun b6 H9=>b6=some w1::some w2::iI S σ/\ H9=H8) d4 r8 ⟨_,c8,rfl,rfl,rfl⟩) (fun _ s9 ⟨b6,H9,I9,e1,e2⟩=>?_) fun _ _ z=>z.elim
   subst e1 e2
   have a8:∀{H7:Hp} {s7:Shared} {zs:List V} {G:Nat},Inv (X.comp scope cl C (x::B::cs) s3 g f) ([]++mq f s8.heap) (some w1::some w2::iI S σ) H7 s7 ->G<n ->W (i+1) G zs H7 ->
     ∃m,m<n/\ ∃i v0 U l ys,Inv (X.comp scope cl C (x::B::cs) s3 g f) [] (v0::U::iI S σ) l s7/\ tn i s7.heap/\ (∀b∈f,l b=none)/\ W i m ys l:=fun {H7 s7 zs G} I7 hm w7=>by
    refine⟨G,hm,i+1,_,_,H7,zs,I7.unpinned,T.keep _ _ _ a6 fun b F o e=>(I7.pin (b,o) (bJ _ (bJ _ (kG F e)))).1,fun b F=>?_,w7⟩
    obtain⟨o,e,d⟩:=T.obj _ _ a6 b F
    exact(I7.pin (b,o) (bJ _ (bJ _ (kG F e)))).2.1
   have c2:∀{H5:Hp} {R:Shared},Inv (X.comp scope cl C (x::B::cs) s3 g f) ([]++mq f s8.heap) (some w1::some w2::iI S σ) H5 R ->
     (te ⟨cl,C,s3,g,f⟩ (some w1::some w2::iI S σ) H5 fun y g=>g D=some (.lst ys)/\ ys.length<16000000/\ ∀H4,Chg g D (.lst (ys++[y])) H4 ->∃G,G<n/\ W (i+1) G (ys++[y]) H4) ->
     ∀E':Value ->Shared ->Prop,wpAny (model X.prog X.w) X.A (eval Z (compEnvC scope cl C X.env)) (fun y s4=>wpAny (model X.prog X.w) X.A (call (.builtin "list.append") [.ref D,y]) (fun _ R=>∃m,m<n/\ ∃i v0 U l ys,Inv (X.comp scope cl C (x::B::cs) s3 g f) [] (v0::U::iI S σ) l R/\ tn i R.heap/\ (∀b∈f,l b=none)/\ W i m ys l) E' s4) E' R:=fun {H5 R} I5 q5 E'=>by
    refine wpAny_mono (b2 ⟨cl,C,s3,g,f⟩ _ R _ H5 _ I5 q5) (fun y c5 ⟨yv,d9,c4,d1,c3,hl,d3⟩=>?_) fun _ _ z=>z.elim
    refine wpAny_mono (pW (X:=X.comp scope cl C (x::B::cs) s3 g f) _ c5 _ d9 (.ref D) [yv] (.ref D) [y] (fun _ b8=>∃G,G<n/\ W (i+1) G (ys++[yv]) b8) c4 rfl (.cons d1 .nil) ⟨D,ys,yv,rfl,rfl,c3,bp hl (by decide),d3 _ .mk'⟩) (fun _ e4 ⟨_,b8,c9,_,G,hm,e3⟩=>?_) fun _ _ z=>z.elim
    exact a8 c9 hm e3
   exact c2 I9 d6 _
 exact codeAny_compStart_list (a5 _ rfl) (T.self X.A 0 _ _ _ b1 (a5 _ rfl))
theorem zQ{L f:Expr}{x P:Str}{px R:Pos}{kt:Nat}{pt:Pos}{scope:Scope}{pos:Pos}{wi:TI}{te:CB ->TE}(b:Scope)(cs:List Str)(ix:List Nat)(hc:X.calm=true)(hi:PI X (.Tuple [.Name x px,.Name P R] kt pt) f wi)
  (M:∀z:CB,PE (X.comp scope z.cl z.C (x::P::cs) z.s z.H z.fp) L (te z))(hN:(x::P::cs).Nodup:=by decide+kernel)(g:scope.kind=.function:=by rfl)(A:∀y∈scope.names,y.2≠.cell:=by decide+kernel)
  (hx:scope.names.lookup x=some .local:=by rfl)(a1:scope.names.lookup P=some .local:=by rfl)(o:∀y∈scope.names,y.2=.local ->scope.names.lookup y.1=some .local:=by decide+kernel)
  (a3:ix.map (fun i=>X.N[i]?)=cs.map some:=by rfl)(a2:∀y∈cs,scope.names.lookup y=some .free:=by decide+kernel)(E:∀y∈cs,b.names.lookup y=some .cell∨b.names.lookup y=some .free:=by decide+kernel)
  (l:∀y∈scope.names,y.2=.free ->b.names.lookup y.1=some .cell∨b.names.lookup y.1=some .free:=by decide+kernel)(F:X.env.scope=b:=by rfl)
  (hs:∀x,foldedSetIterable f X.env x=pure x:=by intro _;rfl):
  PE X (.ListComp L [⟨.Tuple [.Name x px,.Name P R] kt pt,f,[],0⟩] scope pos) (Ke X.K wi ix te):=by
 have O:∀y∈cs,X.env.scope.names.lookup y=some .cell∨X.env.scope.names.lookup y=some .free:=by rw[F];exact E
 have B:∀y∈scope.names,y.2=.free ->X.env.scope.names.lookup y.1=some .cell∨X.env.scope.names.lookup y.1=some .free:=by rw[F];exact l
 intro gW s σ H Q I h
 obtain⟨cl,a0,h1,h2⟩:=lO (scope:=scope) (env:=X.env) fun y hy hk=>I.ok.has y.1 (B y hy hk)
 rw[eval_ListComp]
 refine wpAny_comprehension_free (use:=none) rfl hs a0 g o (wpAny_mono (hi gW s σ H _ I h) (fun v s1 h3=>wpAny_mono h3 (fun a4 s2 h4=>?_) fun _ _ z=>z) fun _ _ z=>z)
 obtain⟨it,fp,tn,J,H2,rfl,I2,T,S,hf,q⟩:=h4
 refine Ci (Q:=Q) hc g A hx a1 hN a3 a2 O h1 h2 M I2 T S hf (fun D H3 n3=>?_) fun D C s3 H3 U hI a5 Z=>?_
 ·obtain⟨W,w0,G⟩:=q D H3 n3
  refine⟨W,w0,fun i m ys H w=>?_⟩
  rcases G i m ys H w with z|⟨go,step⟩
  ·exact .inl z
  ·refine .inr ⟨go,fun x H' y z=>?_⟩
   obtain⟨a,v1,v2,e,Z,S⟩:=step x H' y z
   exact⟨a,v1,v2,e,Z,S⟩
 ·obtain⟨m,U⟩:=U
  exact⟨m,U,fun h' Y=>⟨.ref D,H3,hI h' Y,rfl,Z⟩⟩
end
def Itz(K:aW)(a b:Addr):It:=
 ⟨fun i H=>∃xs x ys y,SqL K H a xs/\ xs[i]? =some x/\ SqL K H b ys/\ ys[i]? =some y,
   fun i H x H'=>∃p v w,x=.ref p/\ New H p (.tup [v,w]) H'/\ (∀xs,SqL K H a xs ->xs[i]? =some v)/\ ∀ys,SqL K H b ys ->ys[i]? =some w,
   fun i H=>∃xs ys,SqL K H a xs/\ SqL K H b ys/\ (xs.length<=i∨ys.length<=i)⟩
theorem kd{h:Heap}{a b:Addr}{g ob:Obj}{s t:String}(ha:h.get? a=some g)(f:h.get? b=some ob)(w:g.cls=.type s)(l:ob.cls=.type t)(o:s≠t):a≠b:=fun e=>by
 subst e
 rw[ha] at f
 cases f
 rw[w] at l
 injection l with e
 exact o e
theorem yT{h:Heap}{z TI TO M G L K:Addr}{P a b c d:Value}{k1 k2:Nat}{xs ys:Array Value}(I:TI≠TO)(H:M≠G)(l:IsZip h z TI TO P)(g:IsPair h TI a b)(f:IsPair h TO c d)
  (h1:h.IsListIter M L k1)(O:h.IsListIter G K k2)(N:h.IsList L xs)(J:h.IsList K ys):ZipApart z TI TO M G L K:=by
 obtain⟨Q,w,B,_⟩:=h1
 obtain⟨S,A,o,_⟩:=O
 obtain⟨R,F,C,_⟩:=N
 obtain⟨T,D,E,_⟩:=J
 exact⟨kd g l rfl rfl (by decide),kd f l rfl rfl (by decide),kd w l B rfl (by decide),kd A l o rfl (by decide),I,
  kd g w rfl B (by decide),kd g A rfl o (by decide),kd f w rfl B (by decide),kd f A rfl o (by decide),H,
  kd F l C rfl (by decide),kd F f C rfl (by decide),kd F w C B (by decide),kd F A C o (by decide),
  kd D l E rfl (by decide),kd D f E rfl (by decide),kd D w E B (by decide),kd D A E o (by decide)⟩
theorem FP{P:Program}{w:World}{K:aW}{a4:List Expr}{x1:Nat}{pos:Pos}(l1 l2 z TI TO G J:Addr)(a8:TI≠TO)(a6:G≠J):
  qg P w K (.Tuple a4 x1 pos) (Itz K l1 l2) [z,TI,TO,G,J] z (fun i h=>IsZip h z TI TO .none/\ IsPair h TI (.ref G) (.ref J)/\ (∃a b,IsPair h TO a b)/\ h.IsListIter G l1 i/\ h.IsListIter J l2 i) where
 mem:=by simp
 obj:=fun i h O b g=>by
  obtain⟨N,l,⟨a,c,A⟩,⟨o1,e1,c1,d1⟩,⟨o2,e2,c2,d2⟩⟩:=O
  simp only[bw,cU,or_false] at g
  rcases g with rfl|rfl|rfl|rfl|rfl
  ·exact⟨_,N,fun v z=>by cases z⟩
  ·exact⟨_,l,fun v z=>by cases z⟩
  ·exact⟨_,A,fun v z=>by cases z⟩
  ·exact⟨o1,e1,fun v z=>by rw[d1] at z;cases z⟩
  ·exact⟨o2,e2,fun v z=>by rw[d2] at z;cases z⟩
 keep:=fun i h h' O k=>by
  obtain⟨N,l,⟨a,c,A⟩,h1,T⟩:=O
  exact⟨k z (by simp) _ N,k TI (by simp) _ l,⟨a,c,k TO (by simp) _ A⟩,h1.at fun o q=>k G (by simp) o q,T.at fun o q=>k J (by simp) o q⟩
 item :=by
  intro X hP hw hK F i gW s σ H E I hf O hg
  subst hP hw hK
  obtain⟨xs,x,ys,y,S,B,Q,hy⟩:=hg
  obtain⟨N,l,⟨a0,b0,A⟩,h1,T⟩:=O
  obtain⟨a9,a3,p1,_⟩:=I.list S
  obtain⟨a5,a1,p2,_⟩:=I.list Q
  obtain⟨u,hu,ru⟩:=a3.get B
  obtain⟨v,hv,rv⟩:=a1.get hy
  have D:=yT a8 a6 N l A h1 T p1.isList p2.isList
  refine wpAny_pyNext_zip_item D N l A h1 T p1.isList p2.isList (x:=u) (y:=v) (by simpa using hu) (by simpa using hv) fun a7 Z R b4 b3 a2 b2 M=>?_
  refine⟨.ref s.heap.objs.size,rfl,wpAny_letOwnedTupleGo_zip Z fun C W Y=>?_⟩
  have f:Heap.SameBut z a7 C:=Y
  have fD:H s.heap.objs.size=none:=I.hok.fresh (bh _)
  have L:z<s.heap.objs.size:=bq N
  have keep:∀b o,b∉[z,TI,TO,G,J] ->s.heap.get? b=some o ->C.get? b=some o:=fun b o g q=>by
   simp only[bw,cU,or_false,not_or] at g
   exact(f.2 b g.1).trans (M b o g.1 g.2.2.1 g.2.2.2.1 g.2.2.2.2 q)
  have b1:C.get? s.heap.objs.size=some {cls:=.type "tuple",data:=.seq #[u,v]}:=(f.2 _ (dM L)).trans a2
  have nD:∀b o,s.heap.get? b=some o ->b≠s.heap.objs.size:=fun b o q=>bD (bq q)
  have nF:∀b u,H b=some u ->b∉[z,TI,TO,G,J]:=fun b u q g=>by
   have:=(hf b g).1
   rw[this] at q
   cases q
  have tD:∀b u,H b=some u ->b≠s.heap.objs.size:=fun b u q=>kC q fD
  have I1:Inv X gW σ (upd H s.heap.objs.size (.tup [x,y])) {s with heap:=C}:=by
   refine I.call' (ch:=[z,TI,TO,G,J]) rfl ⟨fun b o q n g B=>keep b o B q,fun b o q n g B=>⟨o.slots,keep b o B q⟩,fun b o q n B=>by rw[iM (nD b o q)];exact n,fun b o q B=>⟨o,keep b o B q⟩,
    fun b ys q=>by rw[iM (tD b _ q)];exact q,fun b o v q=>by rw[iM (tD b _ q)];exact q,fun b ps q=>⟨#[],by rw[iM (tD b _ q),q];simp⟩⟩ ?_ I.bare ?_
   ·intro b ob q
    by_cases zz:b=s.heap.objs.size
    ·subst zz
     rw[kI] at q
     cases q
     exact⟨by show 2<=sizeLine;decide,[u,v],.cons ru (.cons rv .nil),⟨_,b1,rfl,_,rfl⟩⟩
    ·rw[iM zz] at q
     refine(I.hok b ob q).stay (fun c v F y=>?_) (fun c y=>by rw[iM (tD c _ y)];exact y) fun c ys y=>by rw[iM (tD c _ y)];exact y
     rcases F with F|F
     ·subst F
      exact keep c v (nF c _ q) y
     ·exact keep c v (nF c _ F) y
   ·intro b g
    obtain⟨f0,f1,f2,f3,f4,f5⟩:=hf b g
    exact⟨f3,f1,f4,f5⟩
  refine⟨.ref s.heap.objs.size,_,I1,rfl,⟨s.heap.objs.size,x,y,rfl,.mk' fD,fun zs U=>by rw[I.list_inj U S];exact B,fun zs U=>by rw[I.list_inj U Q];exact hy⟩,⟨W,?_,⟨_,_,(f.2 TO D.TOz).trans R⟩,?_,?_⟩,fun b g=>?_⟩
  ·exact(f.2 TI D.TIz).trans (M TI _ D.TIz D.TITO D.TIi1 D.TIi2 l)
  ·exact b4.at fun o q=>(f.2 G D.i1z).trans q
  ·exact b3.at fun o q=>(f.2 J D.i2z).trans q
  ·have b5:b≠s.heap.objs.size:=by
    simp only[bw,cU,or_false] at g
    obtain⟨o1,e1,_⟩:=id h1
    obtain⟨o2,e2,_⟩:=id T
    rcases g with rfl|rfl|rfl|rfl|rfl
    ·exact bD L
    ·exact bD (bq l)
    ·exact bD (bq A)
    ·exact bD (bq e1)
    ·exact bD (bq e2)
   rw[iM b5]
   exact(hf b g).1
 done:=by
  intro X hP hw hK F i gW s σ H E I hf O hg
  subst hP hw hK
  obtain⟨xs,ys,S,Q,B⟩:=hg
  obtain⟨N,l,⟨a0,b0,A⟩,h1,T⟩:=O
  obtain⟨a9,a3,p1,_⟩:=I.list S
  obtain⟨a5,a1,p2,_⟩:=I.list Q
  have D:=yT a8 a6 N l A h1 T p1.isList p2.isList
  have n1:=a3.length
  have n2:=a1.length
  refine wpAny_pyNext_zip_end (I.ok.hd F) D N l A h1 T p1.isList p2.isList (by simp;omega) fun h' hk=>⟨rfl,?_⟩
  have keep:∀b o,b∉[z,TI,TO,G,J] ->s.heap.get? b=some o ->h'.get? b=some o:=fun b o g q=>by
   simp only[bw,cU,or_false,not_or] at g
   exact hk b o g.1 g.2.2.1 g.2.2.2.1 g.2.2.2.2 q
  have nF:∀b u,H b=some u ->b∉[z,TI,TO,G,J]:=fun b u q g=>by
   have:=(hf b g).1
   rw[this] at q
   cases q
  refine I.call' (ch:=[z,TI,TO,G,J]) rfl ⟨fun b o q n g B=>keep b o B q,fun b o q n g B=>⟨o.slots,keep b o B q⟩,fun b o q n B=>n,fun b o q B=>⟨o,keep b o B q⟩,
    fun b ys q=>q,fun b o v q=>q,fun b ps q=>⟨#[],by rw[q];simp⟩⟩ ?_ I.bare ?_
  ·intro b ob q
   refine(I.hok b ob q).stay (fun c v F y=>?_) (fun c y=>y) fun c ys y=>y
   rcases F with F|F
   ·subst F
    exact keep c v (nF c _ q) y
   ·exact keep c v (nF c _ F) y
  ·intro b g
   obtain⟨f0,f1,f2,f3,f4,f5⟩:=hf b g
   exact⟨f3,f1,f4,f5⟩
 self:=fun _ _ _ _ _ O h=>wpAny_pyIter_zip O.1 h
section
variable {X:Cx}
def Od(K:aW)(ta:TA):TI:=fun σ H R=>ta σ H fun vs H1=>match vs with|[.ref a,.ref b]=>(∃xs,SqL K H1 a xs)/\ (∃ys,SqL K H1 b ys)/\ R (Itz K a b) H1|_=>False
theorem Et{g:List Expr}{T:Nat}{tp:Pos}{l m:Expr}{G:TA}{p pos:Pos}(hg:Gl X "zip")(W:X.mg "zip"=none)(ha:PA X [l,m] G)(U:starEach [l,m] X.env=(false,eval l X.env)::starEach [m] X.env:=by rfl)(A:(backTo pos (starEach [m] X.env)).any (·.1)=false:=by rfl):
  PI X (.Tuple g T tp) (.Call (.Name "zip" p) [l,m] [] pos) (Od X.K G):=by
 intro M s N H R I h
 refine Call_ (mj I hg W boot_zip (PyProof.Rows.callWith_type1 (thn (ha pos M s N H _ I h) fun us s1 ⟨vs,P,o,r1,w⟩=>?_) U A))
 dsimp only at w
 split at w
 ·rename_i a b
  obtain⟨⟨xs,z⟩,⟨ys,E⟩,q⟩:=w
  obtain⟨u,v,rfl,ru,S⟩:=wd r1
  cases (show u=Value.ref a from ru)
  cases (show v=Value.ref b from S)
  obtain⟨L,_,Y,_⟩:=o.list z
  obtain⟨J,_,p2,_⟩:=o.list E
  refine call_zip_2 Y.isList p2.isList fun h' O C D F B Z hk=>?_
  refine wpAny_pyIter_zip O ?_
  have I2:Inv X M N P {s1 with heap:=h'}:=o.kept (t':=s1.toks) hk
  refine⟨s1.heap.objs.size+4,[s1.heap.objs.size+4,s1.heap.objs.size+2,s1.heap.objs.size+3,s1.heap.objs.size,s1.heap.objs.size+1],_,Itz X.K a b,P,rfl,I2,
   FP a b _ _ _ _ _ (bD (dO _)) (bD (dO _)),⟨O,C,⟨_,_,D⟩,F,B⟩,fun c Q=>?_,q⟩
  have f:s1.heap.objs.size<=c:=by
   simp only[bw,cU,or_false] at Q
   rcases Q with rfl|rfl|rfl|rfl|rfl
   ·exact dm _ _
   ·exact dm _ _
   ·exact dm _ _
   ·exact bh _
   ·exact dm _ _
  exact o.fpOk f (o.hok.fresh f)
 ·exact w.elim
def By(K:aW):List V ->Hp ->VK ->Prop:=fun xs H Q=>match xs with
 |[.ref p]=>∃ns:List Int,SqL K H p (ns.map V.int)/\ ns.length<64/\ ∀l (ms:List Int) H',ms.Perm ns ->ms.Pairwise (· <=·) ->New H l (.lst (ms.map V.int)) H' ->Q (.ref l) H'
 |_=>False
theorem zO:∀{ns:List Int} {its:List Value},iz (ns.map V.int) its ->IntsAre its ns
 |[],_,.nil=>.nil
 |n::ns,_,.cons r t=>by
  obtain⟨k,rfl⟩:=r
  exact .cons _ _ (zO t)
theorem tY:∀{ns:List Int} {its:List Value},IntsAre its ns ->iz (ns.map V.int) its
 |[],_,.nil=>.nil
 |n::ns,_,.cons _ _ t=>.cons ⟨_,rfl⟩ (tY t)
theorem FM:jr X (.builtin "sorted") (By X.K):=by
 intro G s N H P R Q I r h
 unfold By at h
 split at h
 ·rename_i p
  obtain⟨ns,L,M,q⟩:=h
  obtain⟨u,rfl,O⟩:=kr r
  cases (show u=Value.ref p from O)
  obtain⟨f,z,C,_⟩:=I.list L
  have E:=z.length
  rw[aX] at E
  refine sorted_ints C.isList (zO z) (by omega) fun out l A w g=>?_
  have J:H (s.heap.objs.size+1)=none:=I.hok.fresh (dN _)
  obtain⟨e,D⟩:=sortedAll_at s.heap f out
  have B:out.size=ns.length:=by
   have h1:=(tY A).length
   rw[aX] at h1
   have S:=w.length_eq
   simp at h1
   omega
  have F:Inv X G N (upd H (s.heap.objs.size+1) (.lst (l.map V.int))) {s with heap:=sortedAll s.heap f out}:=by
   refine I.laid (t':=s.toks) (fun b o e=>sortedAll_old e) (dN _) ?_
   refine⟨?_,out.toList,e,tY A,by simpa [seqObj] using D⟩
   rw[aX,w.length_eq]
   have:(64:Nat)<=sizeLine:=by decide
   omega
  exact⟨.ref (s.heap.objs.size+1),_,F,rfl,q _ l _ w g (.mk' J)⟩
 ·exact h.elim
end
end L2
namespace Lr
def sm:List Rat ->Rat|[]=>0|x::r=>x+sm r
theorem Ds(a b:List Rat):sm (a++b)=sm a+sm b:=by
 induction a with
 |nil=>show sm b=0+sm b;grind
 |cons x r ih=>show x+sm (r++b)=x+sm r+sm b;rw[ih];grind
theorem KI(x:Rat):sm [x]=x:=by show x+0=x;grind
theorem Bz(a:List Rat)(x:Rat):sm (a++[x])=sm a+x:=by rw[Ds,KI]
theorem Jh{xs:List Rat}{i:Nat}{x:Rat}(h:xs[i]? =some x):sm (xs.take (i+1))=sm (xs.take i)+x:=by
 rw[cx,h]
 exact Bz _ _
theorem Bn{a b:List Rat}(h:a.Perm b):sm a=sm b:=by
 induction h with
 |nil=>rfl
 |cons x _ ih=>show x+_=x+_;rw[ih]
 |swap x y l=>show y+(x+sm l)=x+(y+sm l);grind
 |trans _ _ h1 h2=>exact h1.trans h2
theorem pC(c:Rat)(a:List Rat):sm (a.map (· *c))=sm a*c:=by
 induction a with
 |nil=>show(0:Rat)=0*c;grind
 |cons x r ih=>show x*c+sm (r.map (· *c))=(x+sm r)*c;rw[ih];grind
theorem lE{a:List Rat}(h:∀x∈a,0<=x):0<=sm a:=by
 induction a with
 |nil=>exact cD
 |cons x r ih=>
  have h1:=ih fun y b=>h y (bc _ b)
  have f:=h x bj
  show 0<=x+sm r
  grind
theorem Cp{f g:Rat ->Rat}{a:List Rat}(h:∀x∈a,f x<=g x):sm (a.map f)<=sm (a.map g):=by
 induction a with
 |nil=>exact cD
 |cons x r ih=>
  have h1:=ih fun y b=>h y (bc _ b)
  have l:=h x bj
  show f x+sm (r.map f)<=g x+sm (r.map g)
  grind
theorem Kl{f g:Rat ->Rat}{a:List Rat}:sm (a.map fun x=>f x - g x)=sm (a.map f) - sm (a.map g):=by
 induction a with
 |nil=>show(0:Rat)=0 - 0;grind
 |cons x r ih=>show f x - g x+sm (r.map fun x=>f x - g x)=f x+sm (r.map f) - (g x+sm (r.map g));rw[ih];grind
theorem Ft{a:List Rat}(h:∀x∈a,0<=x){x:Rat}(b:x∈a):x<=sm a:=by
 induction a with
 |nil=>cases b
 | cons y r ih=>
  have g:=h y bj
  have l:=lE fun y f=>h y (bc _ f)
  show x<=y+sm r
  rcases bw.mp b with rfl|b
  ·grind
  ·have:=ih (fun y f=>h y (bc _ f)) b
   grind
def mn(x y:Rat):Rat:=if y<x then y else x
theorem tQ{x y:Rat}:mn x y<=x:=by unfold mn;grind
theorem JH{x y:Rat}:mn x y<=y:=by unfold mn;grind
theorem jN{x y:Rat}(h:x<=y):mn x y=x:=by unfold mn;grind
theorem jO{x y:Rat}(h:y<=x):mn x y=y:=by unfold mn;grind
theorem MK(x y:Rat):mn x y=x∨mn x y=y:=by unfold mn;grind
theorem kz{x y z:Rat}(h:y<=z):mn x y<=mn x z:=by unfold mn;grind
theorem DO{x y c:Rat}(b:0<c):mn (x*c) (y*c)=mn x y*c:=by
 unfold mn
 by_cases h:y<x
 ·rw[if_pos h,if_pos (dI h b)]
 ·rw[if_neg h,if_neg]
  have:x<=y:=by grind
  have:=bU this (bX b)
  grind
theorem ni{b:Int}(f:0<b):(0:Rat)<(b:Rat):=by exact_mod_cast f
theorem iD{n D:Int}(b:0<D):rt n D*(D:Rat)=(n:Rat):=by
 rw[mX]
 have:=ni b
 grind
theorem ja{x:Rat}{n D:Int}(b:0<D)(h:x*(D:Rat)=(n:Rat)):x=rt n D:=by
 rw[mX, ←h]
 have:=ni b
 grind
theorem rM{a b D:Int}(f:0<D)(h:a<=b):rt a D<=rt b D:=by
 have h1:(a:Rat)<=(b:Rat):=by exact_mod_cast h
 rw[mX,mX,gj,gj]
 refine bU h1 (bX ?_)
 exact Rat.inv_pos.mpr (ni f)
theorem sG{a b D:Int}(f:0<D):rt a D<=rt b D↔a<=b:=by
 refine⟨fun h=>?_,rM f⟩
 have:=bU h (bX (ni f))
 rw[iD f,iD f] at this
 exact_mod_cast this
theorem oM{D:Int}(b:0<D):rt 0 D=0:=by
 rw[mX,gj]
 show(0:Rat)*_=0
 grind
theorem pV{a D:Int}(f:0<D):0<=rt a D↔0<=a:=by
 have:=sG (a:=0) (b:=a) f
 rw[oM f] at this
 exact this
def Ov(D:Int)(M:Nat)(x:Rat):Prop:=∃n:Int,x=rt n D/\ n.natAbs<=M
theorem Ov.mono{D:Int}{M N:Nat}{x:Rat}(h:Ov D M x)(l:M<=N):Ov D N x:=let⟨n,e,b⟩:=h;⟨n,e,bL b l⟩
theorem Ov.zero{D:Int}(b:0<D){M:Nat}:Ov D M 0:=⟨0,(oM b).symm,cf _⟩
theorem uF{a b D:Int}(f:0<D):rt a D+rt b D=rt (a+b) D:=by
 refine ja f ?_
 rw[Rat.add_mul,iD f,iD f,Rat.intCast_add]
theorem AK{a b D:Int}(f:0<D):rt a D - rt b D=rt (a - b) D:=by
 refine ja f ?_
 have h1:=iD (n:=a) f
 have g:=iD (n:=b) f
 rw[Rat.intCast_sub]
 grind
theorem Ov.add{D:Int}(f:0<D){M N:Nat}{x y:Rat}(h:Ov D M x)(g:Ov D N y):Ov D (M+N) (x+y):=by
 obtain⟨a,rfl,ha⟩:=h
 obtain⟨b,rfl,l⟩:=g
 exact⟨a+b,uF f,by omega⟩
theorem Ov.sub{D:Int}(f:0<D){M N:Nat}{x y:Rat}(h:Ov D M x)(g:Ov D N y):Ov D (M+N) (x - y):=by
 obtain⟨a,rfl,ha⟩:=h
 obtain⟨b,rfl,l⟩:=g
 exact⟨a - b,AK f,by omega⟩
theorem Ov.mn{D:Int}{M:Nat}{x y:Rat}(h:Ov D M x)(g:Ov D M y):Ov D M (mn x y):=by
 rcases MK x y with e|e<;>rw[e]<;>assumption
theorem Ov.sm{D:Int}(b:0<D){M:Nat}:∀{a:List Rat},(∀x∈a,Ov D M x) ->Ov D (a.length*M) (sm a)
 |[],_=>Ov.zero b
 |x::r,h=>by
  have h1:=Ov.sm b fun y f=>h y (bc _ f)
  have g:=h x bj
  refine(g.add b h1).mono ?_
  rw[bE,gk,Nat.one_mul,Nat.add_comm]
  exact bh _
theorem Ov.den{D:Int}(o:0<D){M:Nat}{x:Rat}(h:Ov D M x):(x.den:Int)∣D:=by
 obtain⟨n,rfl,_⟩:=h
 have h1:(rt n D).num*D=n*((rt n D).den:Int):=by
  have:=ul (a:=n) (b:=D) (by omega)
  have h1:gM (rt n D).num ((rt n D).den:Int)=gM n D:=gw _
  exact(Rat.divInt_eq_divInt_iff (by have:=den_pos (rt n D);omega) (by omega)).mp h1
 have g:Nat.Coprime (rt n D).den (rt n D).num.natAbs:=(rt n D).reduced.symm
 have l:(rt n D).den∣(rt n D).num.natAbs*D.natAbs:=by
  rw[←dP,h1,dP]
  exact⟨n.natAbs,by rw[dr];rfl⟩
 have f:=g.dvd_of_dvd_mul_left l
 exact Int.ofNat_dvd_left.mpr f
theorem Gk{b d:Int}(H:0<b)(L:0<d):0<b*(d.fdiv (cu b d))/\ b∣b*(d.fdiv (cu b d))/\ d∣b*(d.fdiv (cu b d))/\ ∀D,b∣D ->d∣D ->b*(d.fdiv (cu b d))∣D:=by
 have K:0<(cu b d:Int):=by have:=Int.gcd_pos_of_ne_zero_left d (show b≠0 by omega);omega
 have e:d.fdiv (cu b d)=d/(cu b d):=dq _ (by omega)
 rw[e]
 obtain⟨o,J⟩:=gP b d
 obtain⟨f,g⟩:=gJ b d
 have F:d/(cu b d:Int)=f:=by
  conv=>lhs;lhs;rw[g]
  exact Int.mul_ediv_cancel_left _ (by omega)
 rw[F]
 have l:0<f:=by
  rcases Int.lt_or_le 0 f with h|h
  ·exact h
  ·have:=fL (Int.le_of_lt K) h
   omega
 refine⟨dC H l,Int.dvd_mul_right _ _,⟨o,?_⟩,fun D h1 C=>?_⟩
 ·conv=>lhs;rw[J]
  conv=>rhs;rw[g]
  rw[fR,fR,dW o f]
 ·have A:(Int.lcm b d:Int)∣D:=by
   have w:b∣((D.natAbs:Nat):Int):=by rw[Int.dvd_natAbs];exact h1
   have G:d∣((D.natAbs:Nat):Int):=by rw[Int.dvd_natAbs];exact C
   have:=Int.lcm_dvd w G
   have:((Int.lcm b d:Nat):Int)∣((D.natAbs:Nat):Int):=Int.ofNat_dvd.mpr this
   rw[Int.dvd_natAbs] at this
   exact this
  have z:=Int.gcd_mul_lcm b d
  have E:(cu b d:Int)*(Int.lcm b d:Int)=b*d:=by
   have:((cu b d*Int.lcm b d:Nat):Int)=((b.natAbs*d.natAbs:Nat):Int):=by rw[z]
   push_cast at this
   rw[this,Int.natAbs_of_nonneg (by omega),Int.natAbs_of_nonneg (by omega)]
  have B:(cu b d:Int)*(b*f)=(cu b d:Int)*(Int.lcm b d:Int):=by
   rw[E]
   conv=>rhs;rw[g]
   rw[←fR,dW _ b,fR]
  have I:=Int.eq_of_mul_eq_mul_left (by omega) B
  rw[I]
  exact A
theorem Lx{x:Rat}{B:Int}(f:0<B)(h:(x.den:Int)∣B):((x.num*(B.fdiv x.den):Int):Rat)=x*(B:Rat):=by
 obtain⟨k,rfl⟩:=h
 have b:=den_pos x
 rw[dq _ (by omega),Int.mul_ediv_cancel_left _ (by omega),bP,bP]
 have e:x*((x.den:Int):Rat)=(x.num:Rat):=by
  have:=iD (n:=x.num) b
  rw[jP] at this
  exact this
 rw[←gD,e]
theorem Ll{D B n:Int}{M:Nat}{x:Rat}(g:0<B)(o:0<D)(b:B∣D)(h:Ov D M x)(e:(n:Rat)=x*(B:Rat)):n.natAbs<=M:=by
 obtain⟨m,rfl,f⟩:=h
 obtain⟨k,rfl⟩:=b
 have w:0<k:=by
  rcases Int.lt_or_le 0 k with h|h
  ·exact h
  ·have:=fL (Int.le_of_lt g) h
   omega
 have h1:(n:Rat)*(k:Rat)=(m:Rat):=by
  rw[e,gD, ←bP]
  exact iD o
 have l:n*k=m:=by exact_mod_cast h1
 rw[←l,dP] at f
 have:1<=k.natAbs:=by omega
 exact bL (fI _ this) f
structure lz(cs:List Rat)(e g:Rat):Prop where
 g0:0<=g
 sum:sm (cs.map (mn · g))=e
 top:∀u,0<=u ->(∀c∈cs,c<=u) ->g<=u
structure Lp(ts:List Int)(E:Int)(i:Nat)(rest:Int):Prop where
 r:rest=E - (ts.take i).sum
 l:∀t∈ts.take i,t*(ts.length - i:Int)<rest
theorem Lp.init{ts:List Int}{E:Int}:Lp ts E 0 E:=⟨by simp,by simp⟩
theorem AJ{ts:List Int}(o:ts.Pairwise (· <=·)){i:Nat}{x:Int}(g:ts[i]? =some x):∀t∈ts.take i,t<=x:=by
 intro t h
 obtain⟨j,b⟩:=bF.mp h
 rw[gy] at b
 split at b
 ·rename_i f
  have h1:=(aZ.mp b)
  have w:=(aZ.mp g)
  obtain⟨A,l⟩:=h1
  obtain⟨z,B⟩:=w
  rw[←l, ←B]
  exact eF.mp o j i A z f
 ·cases b
theorem AG{ts:List Int}(l:ts.Pairwise (· <=·)){i:Nat}{x:Int}(f:ts[i]? =some x):∀t∈ts.drop i,x<=t:=by
 intro t h
 obtain⟨j,b⟩:=bF.mp h
 rw[dj] at b
 obtain⟨o,z⟩:=aZ.mp f
 obtain⟨w,g⟩:=aZ.mp b
 rw[←g, ←z]
 by_cases h0:j=0
 ·subst h0;exact Int.le_refl _
 ·exact eF.mp l i (i+j) o w (by omega)
theorem DS(a:List Int)(x:Int):(a++[x]).sum=a.sum+x:=by simp
theorem Lp.next{ts:List Int}{E:Int}{i:Nat}{rest x:Int}(l:ts.Pairwise (· <=·))(h:Lp ts E i rest)(f:ts[i]? =some x)(o:¬rest<=x*(ts.length - i:Int)):Lp ts E (i+1) (rest - x):=by
 have w:=(aZ.mp f).1
 have e:(x:Int)*(ts.length - i:Int)=x*(ts.length - (i+1:Nat):Int)+x:=by
  push_cast
  rw[show(ts.length - i:Int)=(ts.length - (i+1):Int)+1 by omega,Int.mul_add,Int.mul_one]
 constructor
 ·rw[cx,f]
  show rest - x=E - ((ts.take i)++[x]).sum
  rw[DS,h.r]
  omega
 ·intro t b
  rw[cx,f] at b
  have g:t<=x:=by
   rcases bS.mp b with b|b
   ·exact AJ l f t b
   ·have:t=x:=by simpa using b
    omega
  have:t*(ts.length - (i+1:Nat):Int)<=x*(ts.length - (i+1:Nat):Int):=Int.mul_le_mul_of_nonneg_right g (by omega)
  omega
theorem Lp.end_{ts:List Int}{E rest:Int}(h:Lp ts E ts.length rest)(f:E<=ts.sum):ts=[]:=by
 cases ts with
 |nil=>rfl
 |cons x r=>
  have h1:=h.l x (by rw[cg];exact bj)
  have b:=h.r
  rw[cg] at b
  rw[Int.sub_self,Int.mul_zero] at h1
  omega
theorem uK{q:Rat}:∀{l:List Rat},(∀t∈l,t<=q) ->sm (l.map (mn · q))=sm l
 |[],_=>rfl
 |x::r,h=>by
  show mn x q+sm (r.map (mn · q))=x+sm r
  rw[uK fun y b=>h y (bc _ b),jN (h x bj)]
theorem uJ{q:Rat}:∀{l:List Rat},(∀t∈l,q<=t) ->sm (l.map (mn · q))=q*(l.length:Nat)
 |[],_=>by show(0:Rat)=q*(0:Nat);grind
 |x::r,h=>by
  show mn x q+sm (r.map (mn · q))=q*((r.length+1:Nat):Rat)
  rw[uJ fun y b=>h y (bc _ b),jO (h x bj),Rat.natCast_add]
  grind
theorem DR(l:List Int):sm (l.map fun(t:Int)=>(t:Rat))=((l.sum:Int):Rat):=by
 induction l with
 |nil=>rfl
 |cons x r ih=>show(x:Rat)+sm _=((List.sum (x::r):Int):Rat);rw[ih,List.sum_cons,Rat.intCast_add]
theorem Lp.out{ts:List Int}{E rest x:Int}{i:Nat}(B:ts.Pairwise (· <=·))(h0:∀t∈ts,0<=t)(D:0<=E)(h:Lp ts E i rest)(A:ts[i]? =some x)(G:rest<=x*(ts.length - i:Int)):
  0<=rest/\ (0:Int)<ts.length - i/\ sm (ts.map fun(t:Int)=>mn (t:Rat) (rt rest (ts.length - i)))=(E:Rat)/\ rt rest (ts.length - i)<=(x:Rat):=by
 have I:=(aZ.mp A).1
 have b:(0:Int)<ts.length - i:=by omega
 have z:0<=rest:=by
  cases i with
  |zero=>have:=h.r;simp at this;omega
  | succ j=>
   have f:ts[j]'(by omega)∈ts.take (j+1):=by
    rw[List.mem_take_iff_getElem]
    exact⟨j,by omega,rfl⟩
   have:=h.l _ f
   have F:=h0 _ (dY f)
   have:=Int.mul_nonneg F (Int.le_of_lt b)
   omega
 generalize hq:rt rest (ts.length - i:Int)=q
 have g:q*((ts.length - i:Int):Rat)=(rest:Rat):=by rw[←hq];exact iD b
 have up:q<=(x:Rat):=by
  have e:(x:Rat)=rt (x*(ts.length - i:Int)) (ts.length - i):=ja b (by rw[bP])
  rw[e, ←hq]
  exact rM b G
 refine⟨z,b,?_,up⟩
 have lo:∀t∈(ts.take i).map (fun(t:Int)=>(t:Rat)),t<=q:=by
  intro t o
  obtain⟨m,f,rfl⟩:=bz.mp o
  have:=h.l m f
  have e:(m:Rat)=rt (m*(ts.length - i:Int)) (ts.length - i):=ja b (by rw[bP])
  rw[e, ←hq]
  exact rM b (by omega)
 have w:∀t∈(ts.drop i).map (fun(t:Int)=>(t:Rat)),q<=t:=by
  intro t o
  obtain⟨m,f,rfl⟩:=bz.mp o
  have:x<=m:=AG B A m f
  have:(x:Rat)<=(m:Rat):=by exact_mod_cast this
  grind
 have C:(ts.map fun(t:Int)=>mn (t:Rat) q)=((ts.take i).map (fun(t:Int)=>(t:Rat))).map (mn · q)++((ts.drop i).map (fun(t:Int)=>(t:Rat))).map (mn · q):=by
  rw[bM,bM, ←bZ,dQ]
  rfl
 rw[C,Ds,uK lo,uJ w,DR,aX,dB]
 have H:(((ts.length - i:Nat):Nat):Rat)=((ts.length - i:Int):Rat):=by
  have:((ts.length - i:Nat):Int)=(ts.length - i:Int):=by omega
  rw[←this]
  rfl
 rw[H,g,h.r,Rat.intCast_sub]
 grind
theorem lz.of_tops{cs:List Rat}{ts b:List Int}{B E rest x:Int}{e:Rat}{i:Nat}(O:0<B)(L:ts.Perm b)(G:b.map (fun(t:Int)=>(t:Rat))=cs.map (· *(B:Rat)))(P:(E:Rat)=e*(B:Rat))(Y:ts.Pairwise (· <=·))(h0:∀c∈cs,0<=c)(K:0<=e)
  (h:Lp ts E i rest)(C:ts[i]? =some x)(U:rest<=x*(ts.length - i:Int)):0<=rest/\ (0:Int)<ts.length - i/\ lz cs e (rt rest (B*(ts.length - i))):=by
 have f:=ni O
 have W:∀t∈b,0<=t:=by
  intro t o
  have:(t:Rat)∈cs.map (· *(B:Rat)):=by rw[←G];exact cr o
  obtain⟨c,N,D⟩:=bz.mp this
  have:=de (h0 c N) (bX f)
  rw[D] at this
  exact_mod_cast this
 have E0:0<=E:=by
  have:=de K (bX f)
  rw[←P] at this
  exact_mod_cast this
 obtain⟨Z,J,s1,R⟩:=h.out Y (fun t o=>W t (L.mem_iff.mp o)) E0 C U
 refine⟨Z,J,?_⟩
 have M:0<B*(ts.length - i:Int):=dC O J
 have A:rt rest (B*(ts.length - i))*(B:Rat)=rt rest (ts.length - i):=by
  have h1:=iD (n:=rest) M
  rw[bP] at h1
  refine ja J ?_
  rw[gD]
  exact h1
 generalize rt rest (B*(ts.length - i))=g at A
 generalize rt rest (ts.length - i:Int)=q at s1 R A
 refine⟨?_,?_,?_⟩
 ·have q0:0<=q*((ts.length - i:Int):Rat)∨True:=.inr trivial
  by_cases hg:0<=g
  ·exact hg
  ·exfalso
   have w:g<0:=by grind
   have h3:q<0:=by
    rw[←A]
    have:=dI w f
    grind
   -- each part is below 0 then, so is the sum
   have:∀l:List Int,sm (l.map fun(t:Int)=>mn (t:Rat) q)<=0/\ (l≠[] ->sm (l.map fun(t:Int)=>mn (t:Rat) q)<0):=fun l=>by
    induction l with
    |nil=>exact⟨cD,fun z=>absurd rfl z⟩
    |cons y r ih=>
     have:=JH (x:=(y:Rat)) (y:=q)
     have S:sm ((y::r).map fun(t:Int)=>mn (t:Rat) q)=mn (y:Rat) q+sm (r.map fun(t:Int)=>mn (t:Rat) q):=rfl
     rw[S]
     exact⟨by grind,fun _=>by grind⟩
   have Q:=(this ts).2 (by intro z;rw[z] at C;cases C)
   rw[s1] at Q
   have:(0:Rat)<=(E:Rat):=by exact_mod_cast E0
   grind
 ·have D:sm (b.map fun(t:Int)=>mn (t:Rat) q)=(E:Rat):=by
   rw[←s1]
   exact Bn ((L.map _).symm)
  have X:(b.map fun(t:Int)=>mn (t:Rat) q)=(cs.map (mn · g)).map (· *(B:Rat)):=by
   have:(b.map fun(t:Int)=>mn (t:Rat) q)=(b.map (fun(t:Int)=>(t:Rat))).map (mn · q):=by rw[bM];rfl
   rw[this,G,bM,bM]
   apply cn
   intro c _
   show mn (c*(B:Rat)) q=mn c g*(B:Rat)
   rw[←A,DO f]
  rw[X,pC,P] at D
  have hb:(B:Rat)≠0:=by grind
  grind
 ·intro u hu N
  have I:(x:Rat)∈cs.map (· *(B:Rat)):=by
   rw[←G]
   exact cr (L.mem_iff.mp (bo C))
  obtain⟨c,H,T⟩:=bz.mp I
  have F:c*(B:Rat)=(x:Rat):=T
  have Q:=N c H
  rw[←A, ←F] at R
  have h5:g<=c:=by
   by_cases z:g<=c
   ·exact z
   ·have:c<g:=by grind
    have:=dI this f
    grind
  grind
theorem Jl{rest B D N:Int}{g:Rat}(f:0<B)(z:0<D)(b:B∣D)(h1:1<=N)(w:N<=8)(o:rt rest (B*N)=g):∃m:Int,g*((840*D:Int):Rat)=(m:Rat):=by
 obtain⟨k,rfl⟩:=b
 obtain⟨j,l⟩:∃j:Int,N*j=840:=by
  rcases(show N=1∨N=2∨N=3∨N=4∨N=5∨N=6∨N=7∨N=8 by omega) with rfl|rfl|rfl|rfl|rfl|rfl|rfl|rfl
  ·exact⟨840,rfl⟩
  ·exact⟨420,rfl⟩
  ·exact⟨280,rfl⟩
  ·exact⟨210,rfl⟩
  ·exact⟨168,rfl⟩
  ·exact⟨140,rfl⟩
  ·exact⟨120,rfl⟩
  ·exact⟨105,rfl⟩
 refine⟨rest*k*j,?_⟩
 have h:=iD (n:=rest) (D:=B*N) (dC f (by omega))
 rw[o] at h
 have e:(840*(B*k):Int)=(B*N)*(k*j):=by rw[←l];ac_rfl
 rw[e,bP, ←gD,h,bP,bP,bP]
 grind
theorem lz.ov{cs:List Rat}{e g:Rat}{D:Int}{M:Nat}(h:lz cs e g)(f:0<D)(w:∀c∈cs,Ov D M c)(l:∃m:Int,g*((840*D:Int):Rat)=(m:Rat)):Ov (840*D) (840*M) g:=by
 obtain⟨m,l⟩:=l
 have b:(0:Int)<840*D:=by omega
 have o:=ja b l
 refine⟨m,o,?_⟩
 have up:g<=rt M D:=h.top _ ((pV f).mpr (by omega)) fun c z=>by
  obtain⟨n,rfl,B⟩:=w c z
  exact rM f (by omega)
 have A:rt M D=rt (840*M) (840*D):=by
  refine ja b ?_
  have:=iD (n:=M) f
  rw[bP,bP]
  grind
 have h0:=h.g0
 rw[o] at h0 up
 rw[A] at up
 have C:=(pV b).mp h0
 have E:=(sG b).mp up
 omega
theorem lz.none{e:Rat}(h:e=0):lz [] e 0:=⟨cD,h.symm,fun u b _=>b⟩
end Lr
namespace L2
open PySem PySem.Spec PyProof.Rows
variable {K:aW}
theorem iE.sq{H:Hp}{a:Addr}{xs:List Rat}(h:iE K H a xs):∃vs,SqL K H a vs/\ iR K H vs xs/\ H a=some (.lst vs):=let⟨vs,e,r⟩:=h;⟨vs,SqL.of e,r,e⟩
theorem iE.new{H b:Hp}{a:Addr}{vs:List V}{xs:List Rat}(n:New H a (.lst vs) b)(r:iR K H vs xs):iE K b a xs:=⟨vs,n.at_,r.ts n.ts⟩
theorem IW{a D:Addr}{vs:List V}{xs:List Rat}{g:St}{C:CB ->TE}{Q:VK}{w B:Hp}(f:Rat ->Int)(n:New w D (.lst []) B)(H:w a=some (.lst vs))(F:iR K w vs xs)(G:xs.length<=1000000)
  (A:∀x∈xs,∀u z b,ip K b u x ->∀R:VK,R (.int (f x)) b ->C z (some u::g) b R)(I:∀b,New w D (.lst ((xs.map f).map V.int)) b ->Q (.ref D) b):
  ma (Itl K a) D g C Q B:=by
 refine qd (xs:=vs) (fun i o b=>o=((xs.take i).map f).map V.int/\ New w D (.lst o) b) ⟨rfl,n⟩ (fun i o b _ h=>SqL.of (h.2.same _ _ H)) ?_ ?_
 ·rintro i u o b z J ⟨rfl,l⟩
  obtain⟨x,E,hv⟩:=F.get J
  refine A x (bo E) u z b (hv.same l.same) _ ⟨l.at_,?_,fun L c=>⟨?_,Chg.new l c⟩⟩
  ·rw[aX,aX,bW]
   omega
  ·rw[cx,E,bZ,bZ]
   rfl
 ·rintro o b ⟨rfl,l⟩
  rw[F.len,cg] at l
  exact I b l
theorem oK{a D:Addr}{xs:List Rat}{g:St}{C:CB ->TE}{Q:VK}{h B:Hp}(f:Rat ->Rat)(n:New h D (.lst []) B)(G:iE K h a xs)(l:xs.length<=1000000)
  (o:∀x∈xs,∀u z b,iu h b ->ip K b u x ->∀R:VK,(∀v A,iu b A ->ip K A v (f x) ->R v A) ->C z (some u::g) b R)(I:∀b,iu h b ->iE K b D (xs.map f) ->h D=none ->Q (.ref D) b):
  ma (Itl K a) D g C Q B:=by
 obtain⟨L,H,w,e⟩:=G.sq
 refine xM (xs:=xs.map f) n H (by rw[w.len];exact l) (by rw[aX];exact w.len) (fun j u y J F z b s R k=>?_) I
 rw[bi] at F
 obtain⟨x,E,rfl⟩:=bN.mp F
 exact o x (bo E) u z b s ((w.at_ j u x J E).same s) R k
theorem zR{J:It}{D:Addr}{f:St}{C:CB ->TE}{Q:VK}{B:Hp}(n:Nat)(b:Nat ->List V ->Hp ->Prop)(h0:b 0 [] B)
  (w:∀i ys H,i<n ->b i ys H ->J.go i H)(A:∀ys H,b n ys H ->J.stop n H)
  (E:∀i ys H x g z,i<n ->b i ys H ->J.yld i H x g ->∃a o l,x=.ref a/\ SqT K g a [o,l]/\ C z (some o::some l::f) g (sC D ys (b (i+1))))(G:∀ys H,b n ys H ->Q (.ref D) H):
  ua K J D f C Q B:=by
 refine⟨fun i m ys H=>m=n - i/\ i<=n/\ b i ys H,⟨n,by simp,cf _,h0⟩,?_⟩
 rintro i m ys H ⟨rfl,I,p⟩
 by_cases hlt:i<n
 ·refine .inr ⟨w i ys H hlt p,fun x g y z=>?_⟩
  obtain⟨a,o,l,e,F,h⟩:=E i ys H x g z hlt p y
  refine⟨a,o,l,e,F,?_⟩
  rw[xq hlt b]
  exact h
 ·obtain rfl:i=n:=by omega
  exact .inl ⟨A ys H p,G ys H p⟩
theorem El{a b D:Addr}{xs ys:List Rat}{h:St}{te:CB ->TE}{Q:VK}{A W:Hp}(f:Rat ->Rat ->Rat)(n:New A D (.lst []) W)(hA:iE K A a xs)(hB:iE K A b ys)(a0:xs.length<=1000000)(hl:ys.length=xs.length)
  (N:∀x∈xs,∀y∈ys,∀u v z g,iu A g ->ip K g u x ->ip K g v y ->∀R:VK,(∀v H,iu g H ->ip K H v (f x y) ->R v H) ->te z (some u::some v::h) g R)
  (hq:∀g,iu A g ->iE K g D (dZ f xs ys) ->A D=none ->Q (.ref D) g):
  ua K (Itz K a b) D h te Q W:=by
 obtain⟨L,S,P,e⟩:=hA.sq
 obtain⟨ws,l,C,e'⟩:=hB.sq
 refine zR xs.length (fun i o g=>iu A g/\ g D=some (.lst o)/\ iR K g o ((dZ f xs ys).take i)) ⟨n.same,n.at_,.nil⟩ ?_ ?_ ?_ ?_
 ·rintro i o g Y ⟨s,-,-⟩
  have h1:i<L.length:=by rw[P.len];exact Y
  have h2:i<ws.length:=by rw[C.len];omega
  exact⟨L,_,ws,_,s.seq S,bg h1,s.seq l,bg h2⟩
 ·rintro o g ⟨s,-,-⟩
  exact⟨L,ws,s.seq S,s.seq l,.inl (by rw[P.len];exact bh _)⟩
 ·rintro i o g x H z Y ⟨s,I,G⟩ ⟨p,v,w,rfl,B,hv,hw⟩
  have U:=hv L (s.seq S)
  have T:=hw ws (s.seq l)
  obtain⟨X,F,rx⟩:=P.get U
  obtain⟨Z,E,ry⟩:=C.get T
  have J:=s.trans B.same
  refine⟨p,v,w,rfl,SqT.of B.at_,?_⟩
  refine N X (bo F) Z (bo E) v w z H J (rx.same J) (ry.same J) _ fun u H4 M r4=>⟨M _ _ (B.same _ _ I),?_,fun H5 c=>⟨c.same (J.trans M) n.fr,c.at_,?_⟩⟩
  ·rw[G.len,bW]
   omega
  ·have t:=c.ts (M _ _ (B.same _ _ I))
   have O:(dZ f xs ys)[i]? =some (f X Z):=by
    rw[fV,F,E]
   rw[cx,O]
   exact(((G.ts B.same.ts).ts M.ts).ts t).snoc (r4.ts t)
 ·rintro o g ⟨s,I,G⟩
  rw[cM (by rw[List.length_zipWith];omega)] at G
  exact hq g s ⟨o,I,G⟩ n.fr
end L2
namespace Lr
def fact:Nat ->Nat|0=>1|n+1=>(n+1)*fact n
def Oc(gs:List (Int × Nat))(c:Int):List (Int × Nat):=gs++gs.map fun p=>(p.1+c,p.2+1)
def grp(ts:List Int):List (Int × Nat):=ts.foldl Oc [(0,0)]
def tk(c e t:Int):Int:=min c (max (e - t) 0)
def wt(n s:Nat):Int:=(fact s:Int)*(fact (n - s):Int)
def tv(c:Int)(ts:List Int)(e:Int):Int:=((grp ts).map fun p=>wt ts.length p.2*tk c e p.1).sum
def tn(ts:List Int)(e:Int)(i:Nat):Int:=tv (ts.getD i 0) (ts.eraseIdx i) e
structure LK(cs:List Rat)(e:Rat)(i:Nat)(p:Rat):Prop where
 ex:∀(D:Int) (ts:List Int) (E:Int),0<D ->ts.map (fun t=>rt t D)=cs ->rt E D=e ->p=rt (tn ts E i) (D*(fact cs.length:Int))
end Lr
namespace Lr
def ins(x:Nat):List Nat ->List (List Nat)
 |[]=>[[x]]
 |y::r=>(x::y::r)::(ins x r).map (y::·)
section
variable (t:Nat ->Int)
def la(F:Int ->Nat ->Int):Int ->Nat ->List Nat ->Int
 |s,p,[]=>F s p
 |s,p,y::r=>F s p+la F (s+t y) (p+1) r
def pw(who:Nat)(F:Int ->Nat ->Int):Int ->Nat ->List Nat ->Int
 |_,_,[]=>0
 |s,p,y::r=>if y=who then F s p else pw who F (s+t y) (p+1) r
end
end Lr
namespace Lr
inductive Rl where
 |sh:Rl
 |ga:Rl
 |lo:Rl
 |ha:Rl
 |tu:Rl
abbrev hv(c:Rat):Rat:=c*rt 1 2
theorem jW:rt 1 2=1/2:=by rw[mX];rfl
def Mi(cs:List Rat)(e:Rat)(ps:List Rat):Prop:=ps.length=cs.length/\ ∀(i:Nat) p,ps[i]? =some p ->LK cs e i p
def RlR:Rl ->List Rat ->Rat ->List Rat ->Prop
 | .sh=>fun cs e ps=>ps=cs.map fun c=>if sm cs=0 then 0 else c*(e/sm cs)
 | .ga=>fun cs e ps=>∃g,lz cs e g/\ ps=cs.map (mn · g)
 | .lo=>fun cs e ps=>∃g,lz cs (sm cs - e) g/\ ps=cs.map fun c=>c - mn c g
 | .ha=>fun cs e ps=>(e<=sm cs - e/\ ∃g,lz (cs.map (· *rt 1 2)) e g/\ ps=cs.map fun c=>mn (c*rt 1 2) g)∨(sm cs - e<e/\ ∃g,lz (cs.map (· *rt 1 2)) (sm cs - e) g/\ ps=cs.map fun c=>c - mn (c*rt 1 2) g)
 | .tu=>Mi
structure rS(cs:List Rat)(e:Rat):Prop where
 nn:∀c∈cs,0<=c
 e0:0<=e
 le:e<=sm cs
 com:∃(D:Int) (ts:List Int) (E:Int),0<D/\ ts.map (fun t=>rt t D)=cs/\ rt E D=e
structure Fam(F:Rat ->Rat):Prop where
 b0:∀c,0<=c ->0<=F c
 b1:∀c,0<=c ->F c<=c
 up:∀c c',0<=c ->c<=c' ->F c<=F c'
 lk:∀c c',0<=c ->c<=c' ->c - F c<=c' - F c'
def AF:Rl ->(Rat ->Rat) ->Prop
 | .sh=>fun F=>∃l:Rat,0<=l/\ l<=1/\ F=fun c=>c*l
 | .ga=>fun F=>∃g:Rat,0<=g/\ F=fun c=>mn c g
 | .lo=>fun F=>∃g:Rat,0<=g/\ F=fun c=>c - mn c g
 | .ha=>fun F=>∃g:Rat,0<=g/\ (F=(fun c=>mn (c*rt 1 2) g)∨F=fun c=>c - mn (c*rt 1 2) g)
 | .tu=>fun _=>False
theorem ph{c l:Rat}(b:0<=c)(h:l<=1):c*l<=c:=by
 have:=cQ h b
 grind
theorem AF.fam{w:Rl}{F:Rat ->Rat}(h:AF w F):Fam F:=by
 cases w with
 |sh=>
  obtain⟨l,A,z,rfl⟩:=h
  refine⟨fun c b=>de b A,fun c b=>ph b z,fun c o b f=>bU f A,fun c o b f=>?_⟩
  have h1:=ph (c:=o - c) (by grind) z
  grind
 |ga=>
  obtain⟨g,B,rfl⟩:=h
  exact⟨fun c b=>by simp only[mn];grind,fun c b=>by simp only[mn];grind,fun c o b f=>by simp only[mn];grind,fun c o b f=>by simp only[mn];grind⟩
 |lo=>
  obtain⟨g,B,rfl⟩:=h
  exact⟨fun c b=>by simp only[mn];grind,fun c b=>by simp only[mn];grind,fun c o b f=>by simp only[mn];grind,fun c o b f=>by simp only[mn];grind⟩
 | ha=>
  obtain⟨g,B,rfl|rfl⟩:=h
  ·simp only[jW]
   exact⟨fun c b=>by simp only[mn];grind,fun c b=>by simp only[mn];grind,fun c o b f=>by simp only[mn];grind,fun c o b f=>by simp only[mn];grind⟩
  ·simp only[jW]
   exact⟨fun c b=>by simp only[mn];grind,fun c b=>by simp only[mn];grind,fun c o b f=>by simp only[mn];grind,fun c o b f=>by simp only[mn];grind⟩
 |tu=>exact h.elim
theorem AF.cmp{f:Rl}{F G:Rat ->Rat}(h:AF f F)(h':AF f G):(∀c,0<=c ->F c<=G c)∨∀c,0<=c ->G c<=F c:=by
 cases f with
 |sh=>
  obtain⟨l,C,D,rfl⟩:=h
  obtain⟨m,B,E,rfl⟩:=h'
  by_cases z:l<=m
  ·exact .inl fun c b=>cQ z b
  ·exact .inr fun c b=>cQ (by grind) b
 |ga=>
  obtain⟨g,A,rfl⟩:=h
  obtain⟨k,w,rfl⟩:=h'
  by_cases z:g<=k
  ·exact .inl fun c b=>kz z
  ·exact .inr fun c b=>kz (by grind)
 |lo=>
  obtain⟨g,A,rfl⟩:=h
  obtain⟨k,w,rfl⟩:=h'
  by_cases z:g<=k
  ·exact .inr fun c b=>by have:=kz (x:=c) z;grind
  ·exact .inl fun c b=>by have:=kz (x:=c) (show k<=g by grind);grind
 | ha=>
  obtain⟨g,A,rfl|rfl⟩:=h<;>obtain⟨k,w,rfl|rfl⟩:=h'
  ·by_cases z:g<=k
   ·exact .inl fun c b=>kz z
   ·exact .inr fun c b=>kz (by grind)
  ·refine .inl fun c b=>?_
   have h1:=tQ (x:=c*rt 1 2) (y:=g)
   have o:=tQ (x:=c*rt 1 2) (y:=k)
   rw[jW] at h1 o ⊢
   grind
  ·refine .inr fun c b=>?_
   have h1:=tQ (x:=c*rt 1 2) (y:=g)
   have o:=tQ (x:=c*rt 1 2) (y:=k)
   rw[jW] at h1 o ⊢
   grind
  ·by_cases z:g<=k
   ·exact .inr fun c b=>by have:=kz (x:=c*rt 1 2) z;grind
   ·exact .inl fun c b=>by have:=kz (x:=c*rt 1 2) (show k<=g by grind);grind
 |tu=>exact h.elim
theorem zK{F G:Rat ->Rat}:∀{cs:List Rat},(∀c∈cs,F c<=G c) ->sm (cs.map G)<=sm (cs.map F) ->∀c∈cs,F c=G c
 |[],_,_=>by simp
 |x::r,h,l=>by
  have h1:=h x bj
  have f:sm (r.map F)<=sm (r.map G):=Cp fun c b=>h c (bc _ b)
  have g:G x+sm (r.map G)<=F x+sm (r.map F):=l
  intro c b
  rcases bw.mp b with rfl|b
  ·grind
  ·exact zK (fun c b=>h c (bc _ b)) (by grind) c b
theorem AF.uniq{f:Rl}{F G:Rat ->Rat}(h:AF f F)(h':AF f G){cs:List Rat}(nn:∀c∈cs,0<=c)(e:sm (cs.map F)=sm (cs.map G)):∀c∈cs,F c=G c:=by
 rcases h.cmp h' with z|z
 ·exact zK (fun c b=>z c (nn c b)) (by rw[e];exact cD)
 ·exact fun c b=>(zK (F:=G) (G:=F) (fun c b=>z c (nn c b)) (by rw[e];exact cD) c b).symm
theorem pL{F:Rat ->Rat}{cs:List Rat}:sm (cs.map fun c=>c - F c)=sm cs - sm (cs.map F):=by
 have:=Kl (f:=fun c=>c) (g:=F) (a:=cs)
 rw[gS] at this
 exact this
theorem RlR.af{b:Rl}(f:b≠.tu){cs:List Rat}{e:Rat}{ps:List Rat}(nn:∀c∈cs,0<=c)(w:0<=e)(le:e<=sm cs)(h:RlR b cs e ps):∃F,AF b F/\ ps=cs.map F/\ sm (cs.map F)=e:=by
 cases b with
 | sh=>
  by_cases z:sm cs=0
  ·refine⟨fun c=>c*0,⟨0,cD,by decide,rfl⟩,?_,?_⟩
   ·rw[show ps=_ from h]
    apply cn
    intro c _
    rw[if_pos z]
    grind
   ·rw[pC];grind
  ·have o:0<sm cs:=by have:=lE nn;grind
   refine⟨fun c=>c*(e/sm cs),⟨e/sm cs,?_,?_,rfl⟩,?_,?_⟩
   ·rw[gj]
    exact de w (bX (Rat.inv_pos.mpr o))
   ·have h1:e/sm cs*sm cs=e:=by grind
    refine Rat.not_lt.mp fun A=>?_
    have:=dI A o
    grind
   ·rw[show ps=_ from h]
    apply cn
    intro c _
    rw[if_neg z]
   ·rw[pC];grind
 |ga=>
  obtain⟨g,G,rfl⟩:=h
  exact⟨_,⟨g,G.g0,rfl⟩,rfl,G.sum⟩
 |lo=>
  obtain⟨g,G,rfl⟩:=h
  refine⟨_,⟨g,G.g0,rfl⟩,rfl,?_⟩
  rw[pL,G.sum]
  grind
 | ha=>
  rcases h with⟨l,g,G,rfl⟩|⟨l,g,G,rfl⟩
  ·refine⟨_,⟨g,G.g0,.inl rfl⟩,rfl,?_⟩
   have:=G.sum
   rw[bM] at this
   exact this
  ·refine⟨_,⟨g,G.g0,.inr rfl⟩,rfl,?_⟩
   have:=G.sum
   rw[bM] at this
   rw[pL (F:=fun c=>mn (c*rt 1 2) g)]
   have B:sm (cs.map fun c=>mn (c*rt 1 2) g)=sm cs - e:=this
   rw[B]
   grind
 |tu=>exact absurd rfl f
theorem zr{t m b:Int}(f:0<b)(g:0<m):rt t b=rt (m*t) (b*m):=by
 refine ja (dC f g) ?_
 have:=iD (n:=t) f
 rw[bP,bP, ←this]
 grind
theorem RlR.len{b:Rl}{cs:List Rat}{e:Rat}{ps:List Rat}(h:RlR b cs e ps):ps.length=cs.length:=by
 cases b with
 |sh=>rw[show ps=_ from h,aX]
 |ga=>obtain⟨g,G,rfl⟩:=h;rw[aX]
 |lo=>obtain⟨g,G,rfl⟩:=h;rw[aX]
 |ha=>rcases h with⟨l,g,G,rfl⟩|⟨l,g,G,rfl⟩<;>rw[aX]
 |tu=>exact h.1
end Lr
namespace Lr
end Lr
namespace Lr
end Lr
namespace Lr
theorem ME{a b D:Int}(f:0<D):mn (rt a D) (rt b D)=rt (min a b) D:=by
 by_cases h:a<=b
 ·rw[jN (rM f h),Int.min_eq_left h]
 ·rw[jO (rM f (by omega)),Int.min_eq_right (by omega)]
end Lr
namespace PySem
open Sem (wp)
section
variable {prog:Program} {w:World} {A:Around} {Rs:Result ->Shared ->Prop} {ir:Addr} {fo wo:List Addr} {n:Nat} {P:Nat ->Value ->Prop} {St:Nat ->Heap ->Prop}
end
section
variable {prog:Program} {w:World} {A:Around} {E:Value ->Shared ->Prop} {sh:Shared}
end
end PySem
namespace L2
open PySem PySem.Spec PyProof.Rows
section
variable {X:Cx}
theorem wP:∀{xs:List V} {us:List Value},xs.length=us.length ->(∀(j:Nat) x u,xs[j]? =some x ->us[j]? =some u ->iB x u) ->iz xs us
 |[],[],_,_=>.nil
 |x::xs,u::us,hl,h=>.cons (h 0 x u rfl rfl) (wP (by simpa using hl) fun j y v b hv=>h (j+1) y v b hv)
end
end L2
namespace PySem
open Sem (wp)
namespace F
end F
section
variable {prog:Program} {w:World} {A:Around} {E:Value ->Shared ->Prop} {s:Shared}
end
end PySem
namespace L2
open PySem PySem.Spec PyProof.Rows
section
section
variable {X:Cx}
end
variable {K:aW}
def PaV(K:aW)(H:Hp)(v:V)(p:Int × Nat):Prop:=∃a,v=.ref a/\ H a=some (.tup [.int p.1,.int (p.2:Int)])
structure Lj(K:aW)(H:Hp)(vs:List V)(ps:List (Int × Nat)):Prop where
 len:vs.length=ps.length
 at_:∀(j:Nat) (v:V) (p:Int × Nat),vs[j]? =some v ->ps[j]? =some p ->PaV K H v p
theorem Lj.nil{H:Hp}:Lj K H [] []:=⟨rfl,fun j v p h=>by simp at h⟩
end
section
variable {X:Cx}
end
section
variable {X:Cx}
def EI:V ->List V ->Hp ->VK ->Prop:=fun x vs H Q=>match x,vs with
 | .ref l,[.int i]=>∃(xs:List V) (k:Nat) (y:V),H l=some (.lst xs)/\ i=(k:Int)/\ k<1000000/\ xs[k]? =some y/\ ∀H',Chg H l (.lst (xs.eraseIdx k)) H' ->Q y H'
 |_,_=>False
theorem oJ:MtM X "list.pop" EI:=by
 intro B s A H x z v o Q I w f h
 refine FA B s A H x z v o Q I w f ?_
 unfold EI at h
 split at h
 ·rename_i l i
  obtain⟨g,k,y,h1,rfl,C,b,q⟩:=h
  have D:=(aZ.mp b).1
  refine⟨l,g,_,k,y,rfl,rfl,h1,by omega,by omega,?_,b,q _ .mk'⟩
  unfold seqIndex?
  simp
  omega
 ·exact h.elim
end
section
variable {P:Program} {w:World} {K:aW} {mg:Str ->Option Value} {base:Heap}
end
section
variable {X:Cx}
end
section
variable {X:Cx}
end
section
variable {X:Cx}
theorem Ar{B f c:Expr}{x y:Str}{S R:Pos}{scope:Scope}{pos F:Pos}{wi:TI}{tc:CB ->TT}{te:CB ->TE}{k:Nat}(g:Scope)(cs:List Str)(ix:List Nat)(Y:X.N.Nodup)(hk:X.N[k]? =some y)(hy:Loc X.env.scope y)(hc:X.calm=true)(hi:PI X (.Name x S) f wi)
  (a0:∀z:CB,PT (X.comp scope z.cl z.C (x::cs) z.s z.H z.fp) c (tc z))(O:∀z:CB,PE (X.comp scope z.cl z.C (x::cs) z.s z.H z.fp) B (te z))(hN:(x::cs).Nodup:=by decide+kernel)(l:scope.kind=.function:=by rfl)(G:∀y∈scope.names,y.2≠.cell:=by decide+kernel)
  (hx:scope.names.lookup x=some .local:=by rfl)(E:∀y∈scope.names,y.2=.local ->scope.names.lookup y.1=some .local:=by decide+kernel)
  (a5:ix.map (fun i=>X.N[i]?)=cs.map some:=by rfl)(a3:∀y∈cs,scope.names.lookup y=some .free:=by decide+kernel)(L:∀y∈cs,g.names.lookup y=some .cell∨g.names.lookup y=some .free:=by decide+kernel)
  (w:∀y∈scope.names,y.2=.free ->g.names.lookup y.1=some .cell∨g.names.lookup y.1=some .free:=by decide+kernel)(M:X.env.scope=g:=by rfl)
  (hs:∀x,foldedSetIterable f X.env x=pure x:=by intro _;rfl)(a6:swapsWith (.ListComp B [⟨.Name x S,f,[c],0⟩] scope pos) (some (.Name y R)) F.line X.env=pure true:=by with_unfolding_all rfl)
  (hf:X.fn y=true∨X.env.scope.names.lookup y=some .local:=by first|exact .inl rfl|exact .inr rfl|assumption):
  PS X (.Assign [.Name y R] (.ListComp B [⟨.Name x S,f,[c],0⟩] scope pos) F) (Ct (Bt wi ix tc te) (kf k)):=by
 have P:∀y∈cs,X.env.scope.names.lookup y=some .cell∨X.env.scope.names.lookup y=some .free:=by rw[M];exact L
 have K:∀y∈scope.names,y.2=.free ->X.env.scope.names.lookup y.1=some .cell∨X.env.scope.names.lookup y.1=some .free:=by rw[M];exact w
 intro gW s σ H D0 I h
 obtain⟨cl,a2,h1,h2⟩:=lO (scope:=scope) (env:=X.env) fun y hy hk=>I.ok.has y.1 (K y hy hk)
 rw[exec_Assign_Name_used _ _ _ _ a6]
 refine wpAny_bind (wpAny_standAt (wpAny_bind ?_))
 show wpAny _ X.A (do let _ ←comprehension (.ListComp B [⟨.Name x S,f,[c],0⟩] scope pos) scope X.env _ (newList []) false (eval f X.env) (some (assign (.Name y R) X.env))) _ _ s
 refine wpAny_bind (wpAny_mono (wpAny_comprehension_free (use:=some (assign (.Name y R) X.env)) (Q:=fun _ s'=>SP X gW D0 .next s') rfl hs a2 l E
  (wpAny_mono (hi gW s σ H _ I h) (fun v s1 h3=>wpAny_mono h3 (fun a8 s2 h4=>?_) fun _ _ z=>z) fun _ _ z=>z)) (fun _ s' Z=>wpAny_pure (wpAny_pure Z)) fun _ _ e=>e)
 obtain⟨it,fp,tn,J,H2,rfl,I2,T,st,a4,q⟩:=h4
 refine pX (Q:=fun v H'=>kf k v σ H' D0.nx) (tc:=tc) hc l G hx hN a5 a3 P h1 h2 (.inr ⟨c,rfl,a0⟩) O I2 T st a4 q fun D C s3 H3 U hI a7 Z=>?_
 ·obtain⟨m,U⟩:=U
  have I3:Inv X gW σ H3 s3:=by
   have:=hI s3.heap ⟨rfl,fun _ _=>rfl⟩
   exact this
  show wpAny _ X.A (assign (.Name y R) X.env (.ref D)) _ _ s3
  refine wpAny_assign_Name (tP I3 Y hk hy (v:=.ref D) rfl (fun s4 I4 ⟨a,a1,ha⟩=>?_) hf)
  obtain⟨g0,g1,_,g3,g4,g5⟩:=a7
  have aC:C≠a:=fun z=>by
   rcases ha with ha|ha
   ·exact g1 (z.trans ha)
   ·exact g4 y a ha z.symm
  refine⟨m,U.sameBut a1 aC,fun h' W=>?_⟩
  exact⟨_,H3,I4.turned (t':=s4.toks) (fun b o hb e=>(W.2 b hb).trans e) g0 g1 g3 g4 g5,Z⟩
end
end L2
namespace Lr
def gp(x y:Rat):Rat:=if x<y then 0 else x - y
def gd(c d m:Rat):Rat:=if gp m d<=hv m then mn c (hv m) else mn c (gp m d)
end Lr
namespace L2
open PySem PySem.Spec PyProof.Rows
section
variable {X:Cx}
end
section
variable {X:Cx}
def Nw:R2:=fun x y H Q=>match x,y with| .int i,.int j=>0<=j/\ Q (.int (i/2^j.toNat)) H|_,_=>False
theorem ML:OpR X (binaryOp .RShift) Nw:=Kf.imp fun _ _ _ _ h=>lH (g:=fun i j Q H=>0<=j/\ Q (.int (i/2^j.toNat)) H) h
end
section
variable {X:Cx}
end
end L2
namespace Lr
def oth(g:Nat):Nat ->List Rat ->List Rat
 |_,[]=>[]
 |i,c::r=>if g.testBit i=true then oth g (i+1) r else c::oth g (i+1) r
def lv(e t:Rat):Rat:=if e - t<0 then 0 else e - t
end Lr
namespace Lr
end Lr
namespace L2
open PySem PySem.Spec PyProof.Rows
section
variable {X:Cx}
end
section
variable {X:Cx}
end
section
variable (P:Program) (w:World)
end
section
variable {P:Program} {w:World} {H H':Hp} {h h':Heap} {a:Addr} {o:HO}
end
section
variable {P:Program} {w:World} {H:Hp} {h h':Heap} {x e:Addr} {o':HO}
end
section
variable {fs fs' ex ex':List Addr} {H H1 H2:Hp} {h h1 h2 h':Heap} {a x e:Addr} {o:HO}
end
section
variable {X:Cx} {gW:List (Addr × Obj)} {σ:List (Option V)} {H H':Hp} {s:Shared} {h':Heap}
end
section
variable {X:Cx}
variable {a b:Expr} {ta tb:TE} {pos:Pos}
variable {tA tB':TT} {rest:List Expr}
end
section
variable {X:Cx} {gW:List (Addr × Obj)} {σ:St} {H:Hp} {s:Shared} {a:Addr} {xs ys:List V}
end
section
variable {X:Cx} {gW:List (Addr × Obj)} {σ:St} {H:Hp} {s:Shared} {E:Value ->Shared ->Prop}
end
section
variable {X:Cx} {st:Stmt} {rest:List Stmt} {t u:TS} {e:Expr} {te:TE} {pos:Pos}
end
section
variable {X:Cx} {pos:Pos}
end
section
variable {X:Cx} {pos:Pos}
end
section
variable {X:Cx} {tg:Expr}
end
section
variable {X:Cx} {a b c:Expr} {ta tb tc:TE} {pos:Pos}
end
section
variable {X:Cx} {a b c:Expr} {ta tb tc:TE} {pos:Pos}
end
section
variable {prog:Program} {w:World} {A:Around} {E:Value ->Shared ->Prop} {s:Shared} {K:aW} {x dx C f:Addr} {mA:Str ->Option Value} {name:Str} {v:Value}
end
section
variable {P:Program} {w:World} {H H':Hp} {h h':Heap} {a C dx:Addr} {fs fs':List (Str × V)}
end
section
variable {X:Cx} {gW:List (Addr × Obj)} {σ:St} {H:Hp} {s:Shared} {a C dx:Addr} {fs:List (Str × V)} {f:Str} {v:V} {A:Around} {E:Value ->Shared ->Prop}
end
section
variable {X:Cx} {o e value:Expr} {f:Str} {pos pos' tpos:Pos} {ta tv:TE}
end
section
variable {X:Cx} {gW:List (Addr × Obj)} {σ:St} {H:Hp} {s:Shared} {A:Around} {E:Value ->Shared ->Prop} {Q:Value ->Shared ->Prop} {c:Value} {b:Bool}
end
section
variable {X:Cx} {e:Expr} {es:List Expr} {te:TE} {t:TA} {pos:Pos}
end
section
variable {X:Cx} {gW:List (Addr × Obj)} {σ:St} {H:Hp} {s s':Shared}
end
section
variable {X:Cx} {CX:CXT} {k:Nat} {f C:Addr} {fd:FuncData} {ps:List Str} {sp:Sp} {dvs:List V} {ds:List Value} {E:XK} {x m:Str} {p pos apos:Pos} {e o:Expr} {es:List Expr} {ta:TE} {t:TA}
end
section
variable {X:Cx} {CX:CXT} {k:Nat} {f C:Addr} {fd:FuncData} {ps ks:List Str} {sp:Sp} {E:XK} {x m:Str} {p pos apos kpos:Pos} {e o:Expr} {es:List Expr} {kws:List Keyword} {te ta:TE} {t tk:TA} {nm:Option Str}
variable {g:List Value ->List Value ->List Value} {gV:List V ->List V ->List V}
end
section
variable {X:Cx} {x:Str} {p pos:Pos} {e:Expr} {es:List Expr} {t:TA} {id T:String} {r:List V ->Hp ->VK ->Prop}
end
section
variable {κ:Type} [DecidableEq κ]
def iP(kvs:List (κ × V))(k:κ):Option V:=(kvs.find? fun kv=>decide (kv.1=k)).map (·.2)
def kL(kvs:List (κ × V))(k:κ)(v:V):List (κ × V):=
 if(kvs.any fun kv=>decide (kv.1=k))=true then kvs.map (fun kv=>if kv.1=k then(kv.1,v) else kv) else kvs++[(k,v)]
theorem rb{p:κ × V}{r:List (κ × V)}{k:κ}(e:p.1=k):iP (p::r) k=some p.2:=by simp[iP,dJ,e]
theorem rF{p:κ × V}{r:List (κ × V)}{k:κ}(e:¬p.1=k):iP (p::r) k=iP r k:=by simp[iP,dJ,e]
theorem vH(k:κ):∀kvs:List (κ × V),(kvs.any fun b=>decide (b.1=k))=(iP kvs k).isSome
 |[]=>rfl
 |p::r=>by
  rw[fq]
  by_cases e:p.1=k
  ·simp only[rb e,decide_eq_true e,Bool.true_or,Option.isSome_some]
  ·rw[rF e,decide_eq_false e,Bool.false_or];exact vH k r
theorem nV(kvs:List (κ × V))(k:κ)(v:V):(kL kvs k v).length<=kvs.length+1:=by
 unfold kL
 split
 ·rw[aX];omega
 ·rw[bf,bE,List.length_nil];omega
theorem lK.isSome_eq{o:Option V}{u:Option Value}(r:lK o u):o.isSome=u.isSome:=by
 cases o with
 |none=>cases u with
  |none=>rfl
  |some _=>exact(show False from r).elim
 |some _=>cases u with
  |none=>exact(show False from r).elim
  |some _=>rfl
theorem KV.val{kvs:List (κ × V)}{vs:List (κ × Value)}(r:KV kvs vs)(k:κ):lK (iP kvs k) (valueAt vs k):=by
 unfold KV at r
 induction r with
 |nil=>exact True.intro
 | @cons p q ps qs h t ih=>
  obtain⟨h1,g⟩:=h
  by_cases e:p.1=k
  ·have f:q.1=k:=h1.symm.trans e
   have b:valueAt (q::qs) k=some q.2:=by simp[valueAt,dJ,f]
   rw[rb e,b];exact g
  ·have f:¬q.1=k:=fun z=>e (h1.trans z)
   have b:valueAt (q::qs) k=valueAt qs k:=by simp[valueAt,dJ,f]
   rw[rF e,b];exact ih
theorem KV.any{kvs:List (κ × V)}{vs:List (κ × Value)}(r:KV kvs vs)(k:κ):(kvs.any fun b=>decide (b.1=k))=vs.any fun b=>decide (b.1=k):=by
 unfold KV at r
 induction r with
 |nil=>rfl
 |cons h t ih=>rw[fq,fq,ih,h.1]
theorem KV.repl{kvs:List (κ × V)}{vs:List (κ × Value)}(r:KV kvs vs)(k:κ){y:V}{u:Value}(f:iB y u):
  KV (kvs.map fun b=>if b.1=k then(b.1,y) else b) (vs.map fun b=>if b.1=k then(b.1,u) else b):=by
 unfold KV at r ⊢
 induction r with
 |nil=>exact .nil
 | @cons p q ps qs h t ih=>
  rw[bH,bH]
  refine .cons ?_ ih
  obtain⟨h1,g⟩:=h
  by_cases e:p.1=k
  ·rw[if_pos e,if_pos (h1.symm.trans e)];exact⟨h1,f⟩
  ·rw[if_neg e,if_neg (fun z=>e (h1.trans z))];exact⟨h1,g⟩
theorem KV.put{kvs:List (κ × V)}{vs:List (κ × Value)}(r:KV kvs vs)(k:κ){y:V}{u:Value}(b:iB y u):KV (kL kvs k y) (stored vs k u):=by
 unfold kL stored
 rw[r.any k]
 by_cases e:(vs.any fun f=>decide (f.1=k))=true
 ·rw[if_pos e,if_pos e];exact r.repl k b
 ·rw[if_neg e,if_neg e];exact Paired.snoc r ⟨rfl,b⟩
theorem KV.length{kvs:List (κ × V)}{vs:List (κ × Value)}(r:KV kvs vs):kvs.length=vs.length:=Paired.length r
end
theorem oB{P:Program}{w:World}{k:Key}{u:Value}(r:iB (kV k) u):(jn P w).is k u=true:=by
 cases k with
 |inl i=>obtain⟨t,e⟩:=(show ∃t,u=Value.int i t from r);subst e;exact AR P w i t
 |inr x=>obtain⟨t,e⟩:=(show ∃t,u=Value.str x t from r);subst e;exact qo P w x t
theorem xy{P:Program}{w:World}:∀{ks:List Key} {us:List Value},iz (ks.map kV) us ->ItemsAre (jn P w) ks us
 |[],_,r=>by rw[List.map_nil] at r;cases r;exact .nil
 |k::ks,_,r=>by
  rw[bH] at r
  cases r with
  |cons h t=>exact .cons (oB h) (xy t)
abbrev KTd(H:Hp):List (List Key × V) ->List (List Key × Addr × Value) ->Prop:=Paired fun p q=>p.1=q.1/\ H q.2.1=some (.tup (p.1.map kV))/\ iB p.2 q.2.2
theorem KTd.val{H:Hp}{kvs:List (List Key × V)}{xs:List (List Key × Addr × Value)}(r:KTd H kvs xs)(k:List Key):lK (iP kvs k) ((atKey xs k).map (·.2)):=by
 induction r with
 |nil=>exact True.intro
 | @cons p q ps qs h t ih=>
  obtain⟨h1,_,g⟩:=h
  by_cases e:p.1=k
  ·have f:q.1=k:=h1.symm.trans e
   have b:atKey (q::qs) k=some q.2:=by simp[atKey,dJ,f]
   rw[rb e,b];exact g
  ·have f:¬q.1=k:=fun z=>e (h1.trans z)
   have b:atKey (q::qs) k=atKey qs k:=by simp[atKey,dJ,f]
   rw[rF e,b];exact ih
theorem KTd.repl{H:Hp}{kvs:List (List Key × V)}{xs:List (List Key × Addr × Value)}(r:KTd H kvs xs)(k:List Key){y:V}{u:Value}(g:iB y u):
  KTd H (kvs.map fun b=>if b.1=k then(b.1,y) else b) (xs.map (putAt k u)):=by
 induction r with
 |nil=>exact .nil
 | @cons p q ps qs h t ih=>
  rw[bH,bH]
  refine .cons ?_ ih
  obtain⟨h1,f,l⟩:=h
  unfold putAt
  by_cases e:p.1=k
  ·rw[if_pos e,if_pos (h1.symm.trans e)];exact⟨h1,f,g⟩
  ·rw[if_neg e,if_neg (fun z=>e (h1.trans z))];exact⟨h1,f,l⟩
theorem KTd.put{H:Hp}{kvs:List (List Key × V)}{xs:List (List Key × Addr × Value)}(r:KTd H kvs xs)(k:List Key){b:Addr}{y:V}{u:Value}(g:H b=some (.tup (k.map kV)))(f:iB y u):
  KTd H (kL kvs k y) (storedH xs k b u):=by
 have e:(kvs.any fun h=>decide (h.1=k))=(atKey xs k).isSome:=by
  rw[vH,(r.val k).isSome_eq,fM]
 unfold kL storedH
 rw[e]
 by_cases q:(atKey xs k).isSome=true
 ·rw[if_pos q,if_pos q];exact r.repl k f
 ·rw[if_neg q,if_neg q];exact Paired.snoc r ⟨rfl,g,f⟩
theorem KTd.keeps{H f:Hp}{kvs:List (List Key × V)}{xs:List (List Key × Addr × Value)}(r:KTd H kvs xs)(g:∀b ys,H b=some (.tup ys) ->f b=some (.tup ys)):KTd f kvs xs:=
 Paired.mapP r fun _ _ z=>⟨z.1,g _ _ z.2.1,z.2.2⟩
section
variable {P:Program} {w:World} {H:Hp} {h:Heap} {a:Addr}
theorem HF{u:HO}(ok:HOk P w H h)(e:Rd H a u):js P w H h a u:=e.ok ok
theorem rT{kvs:List (Key × V)}(ok:HOk P w H h)(e:Rd H a (.dK kvs)):kvs.length<=sizeLine/\ (a == sysModules)=false/\ ∃vs,KV kvs vs/\ h.DictOf (jn P w) a vs:=
 show js P w H h a (.dK kvs) from HF ok e
theorem yB{kvs:List (Key × V)}(ok:HOk P w H h)(e:H a=some (.dK kvs)):kvs.length<=sizeLine/\ (a == sysModules)=false/\ ∃vs,KV kvs vs/\ h.DictOf (jn P w) a vs:=rT ok (.inl e)
theorem sF{f:List Key}(ok:HOk P w H h)(e:H a=some (.tup (f.map kV))):(tupleKind (jn P w)).is h f a:=by
 obtain⟨_,b,r,o,h1,g,n,l⟩:=(show js P w H h a (.tup (f.map kV)) from ok a _ e)
 exact⟨o,b.toArray,n,h1,g,l,by simpa using xy r⟩
theorem ug{kvs:List (List Key × V)}(ok:HOk P w H h)(e:Rd H a (.dT kvs)):kvs.length<=sizeLine/\ (a == sysModules)=false/\
  ∃xs,KTd H kvs xs/\ h.DictOfH (tupleKind (jn P w)) a xs:=by
 obtain⟨z,y,xs,r,o,g,C,h1,D,A,f,B⟩:=(show js P w H h a (.dT kvs) from HF ok e)
 refine⟨z,y,xs,r,o,g,C,h1,D,A,f,fun x b=>?_,B⟩
 have all:∀{l:List (List Key × V)} {m:List (List Key × Addr × Value)},KTd H l m ->∀x∈m,(tupleKind (jn P w)).is h x.1 x.2.1:=by
  intro l m q
  induction q with
  |nil=>intro x b;exact nomatch b
  | @cons p q ps qs hq t ih=>
   intro x b
   rcases bw.mp b with e|b
   ·subst e
    exact sF ok (by rw[←hq.1];exact hq.2.1)
   ·exact ih x b
 exact all r x b
end
def on(H:Hp)(a:Addr)(y:V)(r:Option V):Prop:=
 (∃kvs k,Rd H a (.dK kvs)/\ y=kV k/\ r=iP kvs k)∨∃kvs k b,Rd H a (.dT kvs)/\ y=.ref b/\ H b=some (.tup (k.map kV))/\ r=iP kvs k
def uX(H:Hp)(a:Addr)(y v:V)(H':Hp):Prop:=
 (∃kvs k,H a=some (.dK kvs)/\ y=kV k/\ kvs.length<sizeLine/\ H'=upd H a (.dK (kL kvs k v)))∨
 ∃kvs k b,H a=some (.dT kvs)/\ y=.ref b/\ H b=some (.tup (k.map kV))/\ kvs.length<sizeLine/\ H'=upd H a (.dT (kL kvs k v))
theorem on.k{H:Hp}{a:Addr}{kvs:List (Key × V)}{k:Key}(e:H a=some (.dK kvs)):on H a (kV k) (iP kvs k):=.inl ⟨kvs,k,.inl e,rfl,rfl⟩
theorem on.t{H:Hp}{a b:Addr}{kvs:List (List Key × V)}{k:List Key}(e:H a=some (.dT kvs))(f:H b=some (.tup (k.map kV))):on H a (.ref b) (iP kvs k):=.inr ⟨kvs,k,b,.inl e,rfl,f,rfl⟩
theorem uX.k{H:Hp}{a:Addr}{kvs:List (Key × V)}{k:Key}{v:V}(e:H a=some (.dK kvs))(b:kvs.length<sizeLine):uX H a (kV k) v (upd H a (.dK (kL kvs k v))):=.inl ⟨kvs,k,e,rfl,b,rfl⟩
theorem uX.t{H:Hp}{a b:Addr}{kvs:List (List Key × V)}{k:List Key}{v:V}(e:H a=some (.dT kvs))(g:H b=some (.tup (k.map kV)))(f:kvs.length<sizeLine):
  uX H a (.ref b) v (upd H a (.dT (kL kvs k v))):=.inr ⟨kvs,k,b,e,rfl,g,f,rfl⟩
section
variable {X:Cx} {gW:List (Addr × Obj)} {σ:St} {H:Hp} {s:Shared} {a:Addr} {y v:V} {u r:Value} {o:Option V} {A:Around} {E:Value ->Shared ->Prop}
theorem Inv.big(I:Inv X gW σ H s):sysModules<s.heap.objs.size:=by
 have h:mainGlobals<s.heap.objs.size:=(I.mod.glob.keeps I.bk).lt
 exact Nat.lt_trans (by decide) h
theorem xj{h':Heap}{t':Nat}{ob:HO}(I:Inv X gW σ H s)(f:Mut (H a))(g:Heap.SameBut a s.heap h')(l:∃q,h'.get? a=some q)(new:js X.prog X.w (upd H a ob) h' a ob):
  Inv X gW σ (upd H a ob) {s with heap:=h',toks:=t'}:=
 I.write (x:=a) (e:=a) f (.inl rfl) (fun b q h z=>(g.2 b h).trans z) l new
theorem yL{P:Program}{w:World}{f:Hp}{h':Heap}{kvs:List (Key × V)}{vs:List (Key × Value)}(z:kvs.length<=sizeLine)(g:(a == sysModules)=false)(b:KV kvs vs)(dd:h'.DictOf (jn P w) a vs):
  js P w f h' a (.dK kvs):=⟨z,g,vs,b,dd⟩
end
section
variable {X:Cx} {gW:List (Addr × Obj)} {σ:St} {H:Hp} {s:Shared} {a:Addr} {kvs:List (Key × V)} {k:Key} {u:Value} {A:Around} {E:Value ->Shared ->Prop}
end
section
variable {X:Cx} {o i e value:Expr} {pos pos' tpos:Pos} {td ty tv:TE}
end
theorem GM{P:Program}{w:World}{H:Hp}(h:Heap)(b:sysModules<h.objs.size):js P w H (h.push {cls:=.type "dict",data:=.dict #[]}) h.objs.size (.dK []):=
 ⟨cf _,beq_eq_false_iff_ne.mpr (Ne.symm (bD b)),[],.nil,Heap.DictOf.new h⟩
section
variable {X:Cx} {pos:Pos}
end
def IsD(H:Hp)(a:Addr):Prop:=(∃kvs,Rd H a (.dK kvs))∨∃kvs,Rd H a (.dT kvs)
theorem Km{X:Cx}{l:List (Addr × Obj)}{σ:St}{H:Hp}{s:Shared}{a:Addr}(I:Inv X l σ H s)(d:IsD H a):
  s.TypeIs (.ref a) "dict"/\ (∀b,Value.ref a=.ref b ->∃ob,s.heap.get? b=some ob/\ ob.dict=none)/\ (a == sysModules)=false:=by
 rcases d with⟨f,e⟩|⟨f,e⟩
 ·obtain⟨_,g,w,_,dd⟩:=rT I.hok e
  refine⟨dd.typeIs,fun b q=>?_,g⟩
  cases q
  obtain⟨ob,_,_,h1,h,_⟩:=dd
  exact⟨ob,h1,h.2.1⟩
 ·obtain⟨_,g,o,_,dd⟩:=ug I.hok e
  refine⟨dd.typeIs,fun b q=>?_,g⟩
  cases q
  obtain⟨ob,_,_,h1,h,_⟩:=dd
  exact⟨ob,h1,h.2.1⟩
section
variable {X:Cx} {gW:List (Addr × Obj)} {σ:St} {H:Hp} {s:Shared} {a:Addr} {y d:V} {u r:Value} {o:Option V} {A:Around} {E:Value ->Shared ->Prop}
end
section
variable {X:Cx} {o e f:Expr} {apos cpos:Pos} {td ty tx:TE}
end
section
variable {X:Cx} {gW:List (Addr × Obj)} {σ:St} {H:Hp} {s:Shared} {a:Addr} {kvs:List (Key × V)} {A:Around} {E:Value ->Shared ->Prop}
end
section
variable {X:Cx} {gW:List (Addr × Obj)} {σ:St} {H:Hp} {s:Shared} {a:Addr} {y:V} {u:Value} {A:Around} {E:Value ->Shared ->Prop}
end
end L2
namespace Att
open PySem PySem.W PySem.Calls PyProof.Rows
section
variable {prog:Program} {w:World} {A:Around} {E:Value ->Shared ->Prop} {s:Shared} {K:Frag}
end
end Att
namespace L2
open PySem PySem.Spec PyProof.Rows
section
variable {P:Program} {w:World} {K:aW} {mg:Str ->Option Value} {base:Heap}
end
section
variable {X:Cx}
end
section
variable {κ:Type} [DecidableEq κ]
end
end L2
namespace Lr
end Lr
namespace L2
open PySem PySem.Spec PyProof.Rows
section
variable {X:Cx}
end
section
variable {X:Cx}
end
section
variable {X:Cx}
end
end L2
namespace Lr
theorem BH{B:Int}(b:0<B):∀(ts:List Int),sm (ts.map fun t=>rt t B)=rt ts.sum B
 |[]=>(oM b).symm
 |t::ts=>by
  show rt t B+sm (ts.map fun t=>rt t B)=_
  rw[BH b ts,uF b,List.sum_cons]
end Lr
namespace Ls
open PySem PyProof.Rows
abbrev kk(p:Keyed):Int:=numOf p.1
def Wh(p:Keyed):Prop:=∃n t,p.1=.int n t
variable {prog:Program} {w:World} {A:Around} {E:Value ->Shared ->Prop} {s:Shared}
end Ls
namespace Ls
open PySem PyProof.Rows
abbrev Sd(l:List Keyed):Prop:=l.Pairwise fun p q=>kk p<=kk q
structure MLo(a b out:List Keyed)(ia ib:Nat):Prop where
 ha:ia<=a.length
 hb:ib<=b.length
 perm:out.Perm (a.take ia++b.take ib)
 srt:Sd out
 le:∀p∈out,(∀q∈a.drop ia,kk p<=kk q)/\ ∀q∈b.drop ib,kk p<=kk q
theorem MLo.nil{a b:List Keyed}:MLo a b [] 0 0:=⟨cf _,cf _,by simp,List.Pairwise.nil,fun _ h=>by simp at h⟩
theorem GC{a:List Keyed}(i k:Nat):a.drop i=(a.drop i).take k++a.drop (i+k):=by
 rw[←List.drop_drop,dQ]
end Ls
set_option maxHeartbeats 8000000
namespace Ls
open PySem PyProof.Rows
section
variable {prog:Program} {w:World} {A:Around} {E:Value ->Shared ->Prop} {s:Shared}
end
end Ls
set_option maxHeartbeats 8000000
namespace Ls
open PySem PyProof.Rows
structure MHi(a b out:List Keyed)(na nb:Nat):Prop where
 ha:na<=a.length
 hb:nb<=b.length
 perm:out.Perm (a.drop na++b.drop nb)
 srt:out.Pairwise fun p q=>kk q<=kk p
 le:∀p∈out,(∀q∈a.take na,kk q<=kk p)/\ ∀q∈b.take nb,kk q<=kk p
theorem MHi.nil{a b:List Keyed}:MHi a b [] a.length b.length:=⟨bh _,bh _,by simp,List.Pairwise.nil,fun _ h=>by simp at h⟩
section
variable {prog:Program} {w:World} {A:Around} {E:Value ->Shared ->Prop} {s:Shared}
end
end Ls
set_option maxHeartbeats 8000000
namespace Ls
open PySem PyProof.Rows
abbrev sg(xs:List Keyed)(lo n:Nat):List Keyed:=(xs.drop lo).take n
theorem Fj{xs:List Keyed}(lo n:Nat):xs=xs.take lo++sg xs lo n++xs.drop (lo+n):=by
 have h1:=dQ lo xs
 have b:=GC (a:=xs) lo n
 rw[dF, ←b,h1]
structure Lay(xs ys:List Keyed)(lo n:Nat):Prop where
 t:ys.take lo=xs.take lo
 d:ys.drop (lo+n)=xs.drop (lo+n)
 m:(sg ys lo n).Perm (sg xs lo n)
theorem Lay.trans{xs ys b:List Keyed}{lo n:Nat}(h:Lay xs ys lo n)(h':Lay ys b lo n):Lay xs b lo n:=⟨h'.t.trans h.t,h'.d.trans h.d,h'.m.trans h.m⟩
theorem Lay.perm{xs ys:List Keyed}{lo n:Nat}(h:Lay xs ys lo n):ys.Perm xs:=by
 rw[Fj (xs:=ys) lo n,Fj (xs:=xs) lo n,h.t,h.d]
 exact(List.Perm.append_left _ h.m).append_right _
end Ls
set_option maxHeartbeats 8000000
namespace Ls
open PySem PyProof.Rows
section
variable {prog:Program} {w:World} {A:Around} {E:Value ->Shared ->Prop} {s:Shared}
end
end Ls
set_option maxHeartbeats 8000000
namespace Ls
open PySem PyProof.Rows
structure Rn(st st':SortSt)(lo n:Nat):Prop where
 k:kindOf st'=oneType'
 f:failedOf st'=none
 p:pendingOf st'=pendingOf st
 lay:Lay (arrOf st).toList (arrOf st').toList lo n
theorem Rn.size{st b:SortSt}{lo n:Nat}(h:Rn st b lo n):(arrOf b).size=(arrOf st).size:=by
 rw[←bY, ←bY]
 exact h.lay.perm.length_eq
section
variable {prog:Program} {w:World} {A:Around} {E:Value ->Shared ->Prop} {s:Shared}
end
end Ls
set_option maxHeartbeats 8000000
namespace Ls
open PySem PyProof.Rows
section
variable {prog:Program} {w:World} {A:Around} {E:Value ->Shared ->Prop} {s:Shared}
end
end Ls
set_option maxHeartbeats 8000000
namespace Ls
open PySem PyProof.Rows
def LJ(xs:List Keyed):List (Nat × Nat × Nat) ->Nat ->Nat ->Prop
 |[],a,b=>a=b
 |p::l,a,b=>p.1=a/\ 1<=p.2.1/\ Sd (sg xs p.1 p.2.1)/\ LJ xs l (p.1+p.2.1) b
section
variable {prog:Program} {w:World} {A:Around} {E:Value ->Shared ->Prop} {s:Shared}
set_option genInjectivity false in
structure Inv(a₀:Array Keyed)(st:SortSt)(c:Nat):Prop where
 k:kindOf st=oneType'
 f:failedOf st=none
 p:(arrOf st).toList.Perm a₀.toList
 r:LJ (arrOf st).toList (pendingOf st).toList 0 c
theorem Inv.size{b:Array Keyed}{st:SortSt}{c:Nat}(h:Inv b st c):(arrOf st).size=b.size:=by
 rw[←bY, ←bY]
 exact h.p.length_eq
end
end Ls
set_option maxHeartbeats 8000000
namespace Ls
open PySem PyProof.Rows
section
variable {prog:Program} {w:World} {A:Around} {E:Value ->Shared ->Prop} {s:Shared}
end
end Ls
namespace L2
open PySem PySem.Spec PyProof.Rows
section
variable {X:Cx}
theorem BA:∀{ts:List Str} {its:List Value},iz (ts.map V.str) its ->∃l:List (Str × Tok),its=strValues l/\ l.map (·.1)=ts
 |[],_,.nil=>⟨[],rfl,rfl⟩
 |t::ts,_,.cons r h=>by
  obtain⟨l,b,f⟩:=BA h
  obtain⟨k,rfl⟩:=r
  exact⟨(t,k)::l,by rw[b];rfl,by rw[bH,f]⟩
end
section
variable {X:Cx}
end
end L2
namespace PySem
open Sem (wp)
section
variable {prog:Program} {w:World} {A:Around} {Rs:Result ->Shared ->Prop} {ir:Addr} {fo wo:List Addr} {n:Nat} {P:Nat ->Value ->Prop} {St:Nat ->Heap ->Prop}
end
section
variable {prog:Program} {w:World} {A:Around} {E:Value ->Shared ->Prop} {sh:Shared}
end
end PySem
namespace L2
open PySem PySem.Spec PyProof.Rows
section
variable {X:Cx}
end
end L2
namespace PySem
open Sem (wp)
section
variable {prog:Program} {w:World} {A:Around} {Rs:Result ->Shared ->Prop} {ir:Addr} {fo wo:List Addr} {n:Nat} {P:Nat ->Value ->Prop} {St:Nat ->Heap ->Prop}
end
section
variable {prog:Program} {w:World} {A:Around} {E:Value ->Shared ->Prop} {sh:Shared}
end
end PySem
namespace L2
open PySem PySem.Spec PyProof.Rows
section
variable {X:Cx}
end
section
variable {X:Cx}
end
section
variable (P:Program) (w:World)
end
section
variable {P:Program} {w:World} {H H':Hp} {h h':Heap} {a:Addr} {o:HO}
end
section
variable {P:Program} {w:World} {H:Hp} {h h':Heap} {x e:Addr} {o':HO}
end
section
variable {fs fs' ex ex':List Addr} {H H1 H2:Hp} {h h1 h2 h':Heap} {a x e:Addr} {o:HO}
end
section
variable {X:Cx} {gW:List (Addr × Obj)} {σ:List (Option V)} {H H':Hp} {s:Shared} {h':Heap}
end
section
variable {X:Cx}
variable {a b:Expr} {ta tb:TE} {pos:Pos}
variable {tA tB':TT} {rest:List Expr}
end
section
variable {X:Cx} {gW:List (Addr × Obj)} {σ:St} {H:Hp} {s:Shared} {a:Addr} {xs ys:List V}
end
section
variable {X:Cx} {gW:List (Addr × Obj)} {σ:St} {H:Hp} {s:Shared} {E:Value ->Shared ->Prop}
end
section
variable {X:Cx} {st:Stmt} {rest:List Stmt} {t u:TS} {e:Expr} {te:TE} {pos:Pos}
end
section
variable {X:Cx} {pos:Pos}
end
section
variable {X:Cx} {pos:Pos}
end
section
variable {X:Cx} {tg:Expr}
end
section
variable {X:Cx} {a b c:Expr} {ta tb tc:TE} {pos:Pos}
end
section
variable {X:Cx} {a b c:Expr} {ta tb tc:TE} {pos:Pos}
end
section
variable {prog:Program} {w:World} {A:Around} {E:Value ->Shared ->Prop} {s:Shared} {K:aW} {x dx C f:Addr} {mA:Str ->Option Value} {name:Str} {v:Value}
end
section
variable {P:Program} {w:World} {H H':Hp} {h h':Heap} {a C dx:Addr} {fs fs':List (Str × V)}
end
section
variable {X:Cx} {gW:List (Addr × Obj)} {σ:St} {H:Hp} {s:Shared} {a C dx:Addr} {fs:List (Str × V)} {f:Str} {v:V} {A:Around} {E:Value ->Shared ->Prop}
end
section
variable {X:Cx} {o e value:Expr} {f:Str} {pos pos' tpos:Pos} {ta tv:TE}
end
section
variable {X:Cx} {gW:List (Addr × Obj)} {σ:St} {H:Hp} {s:Shared} {A:Around} {E:Value ->Shared ->Prop} {Q:Value ->Shared ->Prop} {c:Value} {b:Bool}
end
section
variable {X:Cx} {e:Expr} {es:List Expr} {te:TE} {t:TA} {pos:Pos}
end
section
variable {X:Cx} {gW:List (Addr × Obj)} {σ:St} {H:Hp} {s s':Shared}
end
section
variable {X:Cx} {CX:CXT} {k:Nat} {f C:Addr} {fd:FuncData} {ps:List Str} {sp:Sp} {dvs:List V} {ds:List Value} {E:XK} {x m:Str} {p pos apos:Pos} {e o:Expr} {es:List Expr} {ta:TE} {t:TA}
end
section
variable {X:Cx} {CX:CXT} {k:Nat} {f C:Addr} {fd:FuncData} {ps ks:List Str} {sp:Sp} {E:XK} {x m:Str} {p pos apos kpos:Pos} {e o:Expr} {es:List Expr} {kws:List Keyword} {te ta:TE} {t tk:TA} {nm:Option Str}
variable {g:List Value ->List Value ->List Value} {gV:List V ->List V ->List V}
end
section
variable {X:Cx} {x:Str} {p pos:Pos} {e:Expr} {es:List Expr} {t:TA} {id T:String} {r:List V ->Hp ->VK ->Prop}
end
section
variable {κ:Type} [DecidableEq κ]
def pI(kvs:List (κ × V))(k:κ):List (κ × V):=kvs.filter fun kv=>decide (kv.1≠k)
theorem KV.drop{kvs:List (κ × V)}{vs:List (κ × Value)}(r:KV kvs vs)(k:κ):KV (pI kvs k) (without vs k):=by
 unfold KV at r ⊢
 unfold pI without
 induction r with
 |nil=>exact .nil
 | @cons p q ps qs h t ih=>
  obtain⟨h1,f⟩:=h
  rw[cJ,cJ]
  by_cases e:p.1=k
  ·have a:¬decide (p.1≠k)=true:=by simp[e]
   have b:¬decide (q.1≠k)=true:=by simp[h1.symm.trans e]
   rw[if_neg a,if_neg b];exact ih
  ·have g:¬q.1=k:=fun z=>e (h1.trans z)
   have a:decide (p.1≠k)=true:=by simp[e]
   have b:decide (q.1≠k)=true:=by simp[g]
   rw[if_pos a,if_pos b];exact .cons ⟨h1,f⟩ ih
theorem GN(kvs:List (κ × V))(k:κ):(pI kvs k).length<=kvs.length:=eB _ _
end
section
variable {P:Program} {w:World} {H:Hp} {h:Heap} {a:Addr}
theorem Mv{kvs:List (List Key × V)}(ok:HOk P w H h)(e:H a=some (.dT kvs)):kvs.length<=sizeLine/\ (a == sysModules)=false/\
  ∃xs,KTd H kvs xs/\ h.DictOfH (tupleKind (jn P w)) a xs:=ug ok (.inl e)
end
section
variable {X:Cx} {gW:List (Addr × Obj)} {σ:St} {H:Hp} {s:Shared} {a:Addr} {y v:V} {u r:Value} {o:Option V} {A:Around} {E:Value ->Shared ->Prop}
theorem Eu{Q:Value ->Shared ->Prop}(P:A.units+1<cLine)(I:Inv X gW σ H s)(g:on H a y (some v))(K:iB y u)(h:∀C L,Inv X gW σ H L ->iB v C ->Q C L):
  wpAny (model X.prog X.w) A (getItem (.ref a) u) Q E s:=by
 rcases g with⟨F,k,e,D,l⟩|⟨F,k,b,e,D,S,l⟩
 ·subst D
  obtain⟨z,O,N,B,dd⟩:=rT I.hok e
  obtain⟨C,J,f⟩:=lK.some_of (v:=v) (o:=valueAt N k) (by rw[l];exact B.val k)
  exact wpAny_getItem_of (oB K) dd.mapOf J (h C _ (I.tok _) f)
 ·subst D
  cases (show u=Value.ref b from K)
  obtain⟨z,O,M,B,dd⟩:=ug I.hok e
  obtain⟨C,J,f⟩:=lK.some_of (v:=v) (o:=(atKey M k).map (·.2)) (by rw[l];exact B.val k)
  obtain⟨p,R,G⟩:=bN.mp J
  refine wpAny_getItem_heap (tupleKind_room_in1 P) (sF I.hok S) dd R ?_
  rw[G]
  exact h C _ (I.tok _) f
theorem NU{Q:Value ->Shared ->Prop}(J:A.units+1<cLine)(I:Inv X gW σ H s)(g:on H a y o)(F:iB y u)(h:∀G,Inv X gW σ H G ->Q (.bool o.isSome) G):
  wpAny (model X.prog X.w) A (compareOp .In u (.ref a)) Q E s:=by
 rcases g with⟨C,k,e,B,l⟩|⟨C,k,b,e,B,K,l⟩
 ·subst B
  obtain⟨z,D,M,f,dd⟩:=rT I.hok e
  refine wpAny_in_of (oB F) D dd.mapOf ?_
  rw[←(f.val k).isSome_eq, ←l]
  exact h _ (I.tok _)
 ·subst B
  cases (show u=Value.ref b from F)
  obtain⟨z,D,L,f,dd⟩:=ug I.hok e
  refine wpAny_in_heap (tupleKind_room_in1 J) (sF I.hok K) D dd ?_
  have q:=(f.val k).isSome_eq
  rw[fM] at q
  rw[←q, ←l]
  exact h _ (I.tok _)
theorem IQ{Q:Value ->Shared ->Prop}(J:A.units+1<cLine)(I:Inv X gW σ H s)(g:on H a y o)(F:iB y u)(h:∀G,Inv X gW σ H G ->Q (.bool (!o.isSome)) G):
  wpAny (model X.prog X.w) A (compareOp .NotIn u (.ref a)) Q E s:=by
 rcases g with⟨C,k,e,B,l⟩|⟨C,k,b,e,B,K,l⟩
 ·subst B
  obtain⟨z,D,M,f,dd⟩:=rT I.hok e
  refine wpAny_notIn_of (oB F) D dd.mapOf ?_
  rw[←(f.val k).isSome_eq, ←l]
  exact h _ (I.tok _)
 ·subst B
  cases (show u=Value.ref b from F)
  obtain⟨z,D,L,f,dd⟩:=ug I.hok e
  refine wpAny_notIn_heap (tupleKind_room_in1 J) (sF I.hok K) D dd ?_
  have q:=(f.val k).isSome_eq
  rw[fM] at q
  rw[←q, ←l]
  exact h _ (I.tok _)
theorem Ei{O:Hp}{Q:Unit ->Shared ->Prop}(hu:A.units+1<cLine)(I:Inv X gW σ H s)(g:uX H a y v O)(R:iB y u)(N:iB v r)(h:∀S,Inv X gW σ O S ->Q () S):
  wpAny (model X.prog X.w) A (setItem (.ref a) u r) Q E s:=by
 rcases g with⟨B,k,e,G,l,F⟩|⟨B,k,b,e,G,T,l,F⟩
 ·subst G F
  obtain⟨z,L,vs,f,dd⟩:=yB I.hok e
  have M:vs.length<=sizeLine:=by rw[←f.length];exact z
  have J:(kL B k v).length<=sizeLine:=by have:=nV B k v;omega
  refine wpAny_setItem_pairs (hsz:=M) (oB R) dd fun P C K=>h _ ?_
  have Y:∃q,P.get? a=some q:=let⟨q,_,_,D,_⟩:=C;⟨q,D⟩
  exact xj I (by rw[e];exact True.intro) K Y (yL J L (f.put k N) C)
 ·subst G F
  cases (show u=Value.ref b from R)
  obtain⟨z,L,W,f,dd⟩:=Mv I.hok e
  have M:W.length<=sizeLine:=by rw[←Paired.length f];exact z
  have J:(kL B k v).length<=sizeLine:=by have:=nV B k v;omega
  refine wpAny_setItem_heap (hsz:=M) (tupleKind_room_in1 hu) (sF I.hok T) dd fun P C K=>h _ ?_
  obtain⟨q,Z,ep,D,h2,h3,h4,_,h5⟩:=C
  refine xj I (by rw[e];exact True.intro) K ⟨q,D⟩ ⟨J,L,_,(f.put k T N).keeps fun c ys U=>?_,q,Z,ep,D,h2,h3,h4,h5⟩
  rw[iM (HX U e (fun z=>nomatch z))]
  exact U
end
section
variable {X:Cx} {gW:List (Addr × Obj)} {σ:St} {H:Hp} {s:Shared} {a:Addr} {kvs:List (Key × V)} {k:Key} {u:Value} {A:Around} {E:Value ->Shared ->Prop}
theorem Md{v:V}{more:List Value}{Q:Value ->Shared ->Prop}(I:Inv X gW σ H s)(e:H a=some (.dK kvs))(B:iB (kV k) u)(l:iP kvs k=some v)(D:more=[]∨∃x,more=[x])
  (h:∀f J,Inv X gW σ (upd H a (.dK (pI kvs k))) J ->iB v f ->Q f J):wpAny (model X.prog X.w) A (call (.builtin "dict.pop") (.ref a::u::more)) Q E s:=by
 obtain⟨z,N,G,b,dd⟩:=yB I.hok e
 obtain⟨f,O,C⟩:=lK.some_of (v:=v) (o:=valueAt G k) (by rw[←l];exact b.val k)
 have P:(keyPart u).isSome=true:=by
  cases k with
  |inl i=>obtain⟨t,q⟩:=(show ∃t,u=Value.int i t from B);subst q;rfl
  |inr x=>obtain⟨t,q⟩:=(show ∃t,u=Value.str x t from B);subst q;rfl
 have ha:argsOk "dict.pop" ⟨.ref a::u::more,[]⟩:=by
  rcases D with q|⟨x,q⟩
  ·subst q;exact PySem.F.args_dict_pop_2 _ _
  ·subst q;exact PySem.F.args_dict_pop_3 _ _ _
 refine call_meetsIn PySem.F.slot_dict_pop dd.typeIs PySem.F.entry_dict_pop ha (meets_dict_pop_there (jn X.prog X.w) a (oB B) more D P)
  ⟨G,f,dd,by rw[←b.length];exact z,O,fun K g L=>h f _ ?_ C⟩
 have M:∃q,K.get? a=some q:=let⟨q,_,_,hq,_⟩:=g;⟨q,hq⟩
 exact xj I (by rw[e];exact True.intro) L M (yL (bL (GN kvs k) z) N (b.drop k) g)
theorem IX{Q:Value ->Shared ->Prop}(I:Inv X gW σ H s)(e:Rd H a (.dK kvs))(h:∀t f,Inv X gW σ H f ->Q (.int kvs.length t) f):wpAny (model X.prog X.w) A (call (.builtin "len") [.ref a]) Q E s:=by
 obtain⟨z,g,l,b,dd⟩:=rT I.hok e
 refine call_len_dict g dd (by rw[←b.length];rw[sizeLine_eq] at z;omega) ?_
 rw[←b.length]
 exact h _ _ (I.tok _)
end
def Cz(i:Expr):Prop:=∀ov iv,subscripted i false ov iv=operate [ov,iv] (getItem ov iv)
theorem Bl{prog:Program}{w:World}{A:Around}{E:Value ->Shared ->Prop}{s:Shared}{env:Env}{f b:Expr}{pos:Pos}{T id:String}{Q:Value ->Shared ->Prop}
  (H:typeLookup (.type T) "__getitem__"=pure (some (.builtin id)))(G:Cz b)
  (h:wpAny (model prog w) A (eval f env) (fun o z=>wpAny (model prog w) A (eval b env) (fun i g=>g.TypeIs o T/\ wpAny (model prog w) A (getItem o i) Q E g) E z) E s):
  wpAny (model prog w) A (eval (.Subscript f b pos) env) Q E s:=by
 refine Subscript_ (wpAny_mono h (fun o z D=>wpAny_mono D (fun i g l=>?_) fun _ _ x=>x) fun _ _ x=>x)
 obtain⟨F,l⟩:=l
 unfold subscriptTail
 refine wpAny_bind ?_
 rw[getitemInPython_of_ne F.not_modules]
 refine wpAny_bind (wpAny_specialOf F H ?_)
 have fin:wpAny (model prog w) A (subscripted b false o i) (fun r B=>wpAny (model prog w) A (letTemporaryGo f o r>>=fun _=>pure r) Q E B) E g:=by
  rw[G o i]
  exact wpAny_operating (wpAny_mono l (fun r B C=>wpAny_bind (wpAny_letTemporaryGo (wpAny_pure C))) fun _ _ x=>x)
 first
  |exact wpAny_pure (wpAny_bind fin)
  |exact wpAny_bind (wpAny_pure (wpAny_bind fin))
  |exact wpAny_bind fin
theorem AH{X:Cx}{h:List (Addr × Obj)}{σ:St}{H:Hp}{s:Shared}{a:Addr}{y:V}{o:Option V}(I:Inv X h σ H s)(g:on H a y o):s.TypeIs (.ref a) "dict":=by
 rcases g with⟨f,k,e,_,_⟩|⟨f,k,b,e,_,_,_⟩
 ·obtain⟨_,_,w,_,dd⟩:=rT I.hok e
  exact dd.typeIs
 ·obtain⟨_,_,l,_,dd⟩:=ug I.hok e
  exact dd.typeIs
def Mw(td ty:TE):TE:=fun σ H Q=>td σ H fun x H1=>ty σ H1 fun y H2=>∃a v,x=.ref a/\ on H2 a y (some v)/\ Q v H2
def MX(td ty tv:TE):TS:=fun D σ H=>tv σ H fun v H1=>td σ H1 fun x H2=>ty σ H2 fun y H3=>∃a H4,x=.ref a/\ uX H3 a y v H4/\ D.nx σ H4
section
variable {X:Cx} {o i e value:Expr} {pos pos' tpos:Pos} {td ty tv:TE}
theorem IB(J:X.A.units+1<cLine)(E:PE X o td)(K:PE X i ty)(C:Cz i):PE X (.Subscript o i pos) (Mw td ty):=by
 intro w s f H Q I h
 refine Bl gN.lookup C (thn (E w s f H _ I h) fun u s1 ⟨x,M,O,F,N⟩=>thn (K w s1 f M _ O N) fun T P ⟨y,B,l,G,a,v,L,g,z⟩=>?_)
 subst L
 obtain rfl:u=Value.ref a:=F
 exact⟨AH l g,Eu J l g G fun R S D b=>⟨v,B,D,b,z⟩⟩
theorem JK(O:X.A.units+1<cLine)(z:PE X o td)(E:PE X i ty)(hv:PE X value tv)(K:swapsWith value (some (.Subscript o i pos')) pos.line X.env=pure false):
  PS X (.Assign [.Subscript o i pos'] value pos) (MX td ty tv):=by
 intro f s b H D I h
 refine wpAny_Assign_Subscript (thn (hv f s b H _ I h) fun r s1 ⟨v,Q,S,l,R⟩=>thn (z f s1 b Q _ S R) fun u B ⟨x,w,C,M,G⟩=>thn (E f B b w _ C G) fun Y U ⟨y,Z,L,N,a,F,P,g,J⟩=>?_) K
 subst P
 obtain rfl:u=Value.ref a:=M
 exact Ei O L g N l fun W T=>⟨b,F,T,J⟩
end
def KH:TE:=fun _ H Q=>∀p,H p=none ->Q (.ref p) (upd H p (.dK []))
section
variable {X:Cx} {pos:Pos}
theorem Gs:PE X (.Dict [] [] pos) KH:=fun b s f H Q I h=>
 wpAny_Dict_empty ⟨.ref s.heap.objs.size,_,I.laid (a:=s.heap.objs.size) (o:=.dK []) (t':=s.toks) (fun _ _ q=>aY _ q) (bh _) (GM s.heap I.big),rfl,h _ (I.hok.fresh (bh _))⟩
end
structure M1(X:Cx)(o:Expr)(m:Str)(apos:Pos)(e:Expr)(cpos:Pos):Prop where
 base:attributeBase o m X.env (eval o X.env)=eval o X.env
 few:((backTo cpos (starEach [e] X.env)).all (fun x=> !x.1) && (backToKw cpos (keywordEach [] X.env)).all (fun x=>x.1.isSome)
  && decide (([e]:List Expr).length+([]:List Keyword).length+(if([]:List Keyword).isEmpty then 0 else 1)<30))=true
 line:(apos.endLine == cpos.line)=true
 trees:backTo cpos (starEach [e] X.env)=[(false,eval e X.env)]
section
variable {X:Cx} {gW:List (Addr × Obj)} {σ:St} {H:Hp} {s:Shared} {a:Addr} {y d:V} {u r:Value} {o:Option V} {A:Around} {E:Value ->Shared ->Prop}
end
def KM(td ty:TE):TE:=fun σ H Q=>td σ H fun x H1=>∃a,x=.ref a/\ IsD H1 a/\ ty σ H1 fun y H2=>∃kvs k v,H2 a=some (.dK kvs)/\ y=kV k/\ iP kvs k=some v/\ Q v (upd H2 a (.dK (pI kvs k)))
section
variable {X:Cx} {o e f:Expr} {apos cpos:Pos} {td ty tx:TE}
theorem GB(B:PE X o td)(D:PE X e ty)(m:M1 X o "pop" apos e cpos):PE X (.Call (.Attribute o "pop" apos) [e] [] cpos) (KM td ty):=by
 intro g s w H Q I h
 refine wpAny_Call_method m.base m.few m.line PySem.F.plainAttrs_dict PySem.F.slot_dict_pop PySem.F.type_dict_pop (thn (B g s w H _ I h) fun u s1 ⟨x,R,z,L,a,P,d,S⟩=>?_)
 subst P
 obtain rfl:u=Value.ref a:=L
 obtain⟨A,G,_⟩:=Km z d
 refine⟨A,G,?_⟩
 rw[m.trees]
 refine Calls.callWith_builtin rfl (Calls.evalArgs_plain (Calls.spliced_cons (thn (D g s1 w R _ z S) fun Z U ⟨y,T,E,M,N,k,v,O,C,l,J⟩=>Calls.spliced_nil ?_)))
 subst C
 exact Md E O M l (.inl rfl) fun Y W K b=>⟨v,_,K,b,J⟩
end
section
variable {X:Cx} {gW:List (Addr × Obj)} {σ:St} {H:Hp} {s:Shared} {a:Addr} {kvs:List (Key × V)} {A:Around} {E:Value ->Shared ->Prop}
end
section
variable {X:Cx} {gW:List (Addr × Obj)} {σ:St} {H:Hp} {s:Shared} {a:Addr} {y:V} {u:Value} {A:Around} {E:Value ->Shared ->Prop}
end
end L2
namespace Att
open PySem PySem.W PySem.Calls PyProof.Rows
section
variable {prog:Program} {w:World} {A:Around} {E:Value ->Shared ->Prop} {s:Shared} {K:Frag}
end
end Att
namespace L2
open PySem PySem.Spec PyProof.Rows
section
variable {P:Program} {w:World} {K:aW} {mg:Str ->Option Value} {base:Heap}
end
section
variable {X:Cx}
theorem Eo:jr X (.builtin "len") (fun xs H Q=>∃a kvs,xs=[V.ref a]/\ H a=some (.dK kvs)/\ Q (.int kvs.length) H):=by
 intro w s l H xs g Q I r h
 obtain⟨a,kvs,rfl,ha,q⟩:=h
 obtain⟨u,rfl,f⟩:=kr r
 cases f
 exact IX I (.inl ha) fun t o b=>⟨.int kvs.length,H,b,⟨t,rfl⟩,q⟩
end
section
variable {κ:Type} [DecidableEq κ]
end
structure jA(K:aW)(C:Addr)(x qual:Str)(st:Stmt)(ps:List Str)(f:Addr)(fd:FuncData):Prop where
 fn:Fun K x qual st f fd
 bd:∀us:List Value,us.length=ps.length ->bindArgs fd ⟨us,[]⟩=pure (ps.zip us)
 at_:yZ K C x f
 cl:Cls K C
theorem jX{K:aW}{C f:Addr}{x qual:Str}{st:Stmt}{ps:List Str}{A:Value}{B o:Option Addr}{z:Array (Option Value)}{kV g w b ct:Value}(cl:Cls K C)
  (a:bO K (.ref C) x=some (some (.ref f)))(i:cN K (.ref f)=true)(l:K.lookup f=some ⟨A,B,.func (cB x qual (jc st) (iZ st) (hZ st) .none kV g w o b ct),z⟩)
  (c:cF K b qual=true)(k:cj K (.ref f)=true)
  (h:∀(kV g w:Value) (o:Option Addr) (b ct:Value) (us:List Value),us.length=ps.length ->bindArgs (cB x qual (jc st) (iZ st) (hZ st) .none kV g w o b ct) ⟨us,[]⟩=pure (ps.zip us)):
  jA K C x qual st ps f (cB x qual (jc st) (iZ st) (hZ st) .none kV g w o b ct):=
 ⟨Du (st:=st) l c k,h kV g w o b ct,⟨a,i,k⟩,cl⟩
def jg(P:Program)(w:World)(K:aW)(mg:Str ->Option Value)(base:Heap)(C:Addr)(x:Str)(k:Nat)(ps:List Str)(sp:Sp):Prop:=
 ∃(f:Addr) (fd:FuncData),lV P w K mg base (CXE P w) k f fd ps sp/\ yZ K C x f/\ Cls K C/\ nU K fd ps []
theorem jA.calE{P:Program}{w:World}{K:aW}{g:Str ->Option Value}{base:Heap}{C:Addr}{x qual:Str}{st:Stmt}{ps:List Str}{f:Addr}{b:FuncData}{k:Nat}{sp:Sp}(h:jA K C x qual st ps f b)
  (ok:lV P w K g base (CXE P w) k f b ps sp):jg P w K g base C x k ps sp:=⟨f,b,ok,h.at_,h.cl,.all h.bd⟩
def BR(C:Addr)(m:Str)(sp:Sp)(E:XK)(ta:TE)(t:TA):TE:=fun σ H Q=>ta σ H fun x H1=>match x with
 | .ref a=>(∃dx fs,H1 a=some (.ins C dx fs)/\ fs.lookup m=none)/\ t σ H1 fun vs H2=>sp (.ref a::vs) H2 Q E
 |_=>False
section
variable {P:Program} {w:World} {K:aW} {mg:Str ->Option Value} {base:Heap} {N:List Str} {qual:Str} {scope:Scope} {f C:Addr} {cd:Value} {A:Around} {outer:List Env} {s₀:Shared} {H₀:Hp} {E:XK}
 {j k:Nat} {x m:Str} {ps:List Str} {sp:Sp} {o e:Expr} {es:List Expr} {t:TA} {ta:TE} {p pos apos:Pos}
theorem iJ{pl:Sem Bool}(M:jg P w K mg base C m j ps sp)(R:jw k (iU (CXE P w) P w K mg base N qual scope f cd A outer s₀ H₀ E).A)(G:j<=k)
  (J:PE (iU (CXE P w) P w K mg base N qual scope f cd A outer s₀ H₀ E) o ta)(ha:PA (iU (CXE P w) P w K mg base N qual scope f cd A outer s₀ H₀ E) (e::es) t)
  (z:starEach (e::es) (iU (CXE P w) P w K mg base N qual scope f cd A outer s₀ H₀ E).env=(false,eval e (iU (CXE P w) P w K mg base N qual scope f cd A outer s₀ H₀ E).env)::starEach es (iU (CXE P w) P w K mg base N qual scope f cd A outer s₀ H₀ E).env:=by rfl)
  (l:(backTo pos (starEach es (iU (CXE P w) P w K mg base N qual scope f cd A outer s₀ H₀ E).env)).any (·.1)=false:=by rfl)
  (I:eval (.Call (.Attribute o m apos) (e::es) [] pos) (iU (CXE P w) P w K mg base N qual scope f cd A outer s₀ H₀ E).env=(do
   let ov ←eval o (iU (CXE P w) P w K mg base N qual scope f cd A outer s₀ H₀ E).env
   standAt apos.atName
   let(ff,first) ←holding [ov] (getMethod ov m pl)
   callWith pos ff first (backTo pos (starEach (e::es) (iU (CXE P w) P w K mg base N qual scope f cd A outer s₀ H₀ E).env)) (backToKw pos (keywordEach [] (iU (CXE P w) P w K mg base N qual scope f cd A outer s₀ H₀ E).env))):=by rfl):
  PE (iU (CXE P w) P w K mg base N qual scope f cd A outer s₀ H₀ E) (.Call (.Attribute o m apos) (e::es) [] pos) (BR C m sp E ta t):=by
 obtain⟨g,gd,F,T,c,b⟩:=M
 refine(Ij J.up c T F (R.mono G) b .nil (yp fun _ _ q=>q) ha.up z l I).imp fun U H Q h=>?_
 refine⟨_,h,fun v W q=>?_⟩
 cases v<;>first|exact q.elim|skip
 obtain⟨⟨S,fs,h1,O⟩,q⟩:=q
 refine⟨_,S,fs,rfl,h1,O,_,q,fun L D B=>?_⟩
 show sp (.ref _::(L++[])) D Q E
 rw[cT]
 exact B
theorem qc{pl:Sem Bool}(M:jg P w K mg base C m j ps sp)(G:jw k (iU (CXE P w) P w K mg base N qual scope f cd A outer s₀ H₀ E).A)(l:j<=k)
  (B:PE (iU (CXE P w) P w K mg base N qual scope f cd A outer s₀ H₀ E) o ta)
  (z:eval (.Call (.Attribute o m apos) [] [] pos) (iU (CXE P w) P w K mg base N qual scope f cd A outer s₀ H₀ E).env=(do
   let ov ←eval o (iU (CXE P w) P w K mg base N qual scope f cd A outer s₀ H₀ E).env
   standAt apos.atName
   let(ff,first) ←holding [ov] (getMethod ov m pl)
   callWith pos ff first (backTo pos (starEach [] (iU (CXE P w) P w K mg base N qual scope f cd A outer s₀ H₀ E).env)) (backToKw pos (keywordEach [] (iU (CXE P w) P w K mg base N qual scope f cd A outer s₀ H₀ E).env))):=by rfl):
  PE (iU (CXE P w) P w K mg base N qual scope f cd A outer s₀ H₀ E) (.Call (.Attribute o m apos) [] [] pos) (BR C m sp E ta wV):=by
 obtain⟨g,gd,F,J,c,b⟩:=M
 refine(Hr B.up c J F (G.mono l) b .nil (yp fun _ _ q=>q) z).imp fun L H Q h=>?_
 refine⟨_,h,fun v O q=>?_⟩
 cases v<;>first|exact q.elim|skip
 obtain⟨⟨I,fs,h1,D⟩,q⟩:=q
 exact⟨_,I,fs,rfl,h1,D,q⟩
theorem FO(M:jg P w K mg base C "__init__" j ps sp)(mk:fz K C=true)(D:cj K (.ref C)=true)(H:jw k (iU (CXE P w) P w K mg base N qual scope f cd A outer s₀ H₀ E).A)(B:j+1<=k)
  (G:Gl (iU (CXE P w) P w K mg base N qual scope f cd A outer s₀ H₀ E) x)(z:mg x=some (.ref C))(h:(x == ("__debug__":Str))=false:=by decide):
  PE (iU (CXE P w) P w K mg base N qual scope f cd A outer s₀ H₀ E) (.Call (.Name x p) [] [] pos) (HZ C sp [] E wV):=by
 obtain⟨g,gd,F,l,c,b⟩:=M
 exact He ⟨mk,l.at_,l.fn,D⟩ F (H.mono B) G z b .nil (yp fun _ _ q=>q) h
end
def Nt(C:Addr)(f:Str)(ta:TE):TE:=fun σ H Q=>ta σ H fun x H1=>match x with
 | .ref a=>∃dx fs v,H1 a=some (.ins C dx fs)/\ fs.lookup f=some v/\ Q v H1
 |_=>False
def Mt(C:Addr)(f:Str)(ta tv:TE):TS:=fun D σ H=>tv σ H fun y H1=>ta σ H1 fun x H2=>match x with
 | .ref a=>∃dx fs,H2 a=some (.ins C dx fs)/\ fs.length<1000/\ ∀H',Chg H2 a (.ins C dx (lL f y fs)) H' ->D.nx σ H'
 |_=>False
section
variable {X:Cx} {o e i value:Expr} {f:Str} {C:Addr} {pos pos':Pos} {ta td ty tv:TE}
theorem jE(c:Cls X.K C)(n:md X.K C f)(l:PE X e ta)(b:attributeBase e f X.env (eval e X.env)=eval e X.env:=by rfl):PE X (.Attribute e f pos) (Nt C f ta):=
 (Lw l.up b).imp fun A H Q h=>by
  refine⟨_,h,fun v z q=>?_⟩
  cases v<;>first|exact q.elim|skip
  obtain⟨w,fs,v,h1,g,q⟩:=q
  exact⟨_,C,w,fs,v,rfl,h1,c,n,g,q⟩
theorem oR(c:Cls X.K C)(n:md X.K C f)(ha:PE X o ta)(hv:PE X value tv)(w:swapsWith value (some (.Attribute o f pos')) pos.line X.env=pure false:=by rfl):PS X (.Assign [.Attribute o f pos'] value pos) (Mt C f ta tv):=by
 have:=JV (pos:=pos) ha.up hv.up w
 intro B s z H D I h
 refine this B s z H D I ?_
 refine⟨_,h,fun y F q=>⟨_,q,fun x E b=>?_⟩⟩
 cases x<;>first|exact b.elim|skip
 obtain⟨l,fs,h1,A,g⟩:=b
 exact⟨_,C,l,fs,rfl,h1,c,n,A,g _ .mk'⟩
def Me(td ty:TE):TE:=fun σ H Q=>td σ H fun x H1=>ty σ H1 fun y H2=>match x,y with
 | .ref a,.str s=>∃kvs v,H2 a=some (.dK kvs)/\ iP kvs (.inr s)=some v/\ Q v H2
 |_,_=>False
theorem iF(B:X.A.units+1<cLine)(w:PE X o td)(E:PE X i ty)(l:Cz i:=by exact fun _ _=>rfl):PE X (.Subscript o i pos) (Me td ty):=
 (IB B w.up E.up l).imp fun G H Q h=>by
  refine⟨_,h,fun x I q=>⟨_,q,fun y F b=>?_⟩⟩
  split at b
  ·obtain⟨z,v,h1,D,g⟩:=b
   exact⟨_,v,rfl,D▸on.k (k:=.inr _) h1,g⟩
  ·exact b.elim
def Dg(neg:Bool):R2:=fun y x H Q=>match y,x with
 | .str s,.ref a=>∃kvs,H a=some (.dK kvs)/\ Q (.bl (if neg then !(iP kvs (.inr s)).isSome else(iP kvs (.inr s)).isSome)) H
 |_,_=>False
theorem oF(z:X.A.units+1<cLine):OpR X (compareOp .In) (Dg false):=by
 intro D s B H y x v u Q I w l h
 unfold Dg at h
 split at h
 ·rename_i t a
  obtain⟨b,h1,q⟩:=h
  obtain rfl:u=Value.ref a:=l
  exact NU z I (on.k (k:=.inr t) h1) w fun E g=>⟨.bl (iP b (.inr t)).isSome,H,g,rfl,q⟩
 ·exact h.elim
theorem FI(z:X.A.units+1<cLine):OpR X (compareOp .NotIn) (Dg true):=by
 intro D s B H y x v u Q I w l h
 unfold Dg at h
 split at h
 ·rename_i t a
  obtain⟨b,h1,q⟩:=h
  obtain rfl:u=Value.ref a:=l
  exact IQ z I (on.k (k:=.inr t) h1) w fun E g=>⟨.bl (!(iP b (.inr t)).isSome),H,g,rfl,q⟩
 ·exact h.elim
def Mh(td ty tv:TE):TS:=fun D σ H=>tv σ H fun v H1=>td σ H1 fun x H2=>ty σ H2 fun y H3=>match x,y with
 | .ref a,.str s=>∃kvs,H3 a=some (.dK kvs)/\ kvs.length<1000/\ ∀H',Chg H3 a (.dK (kL kvs (.inr s) v)) H' ->D.nx σ H'
 |_,_=>False
theorem qz(B:X.A.units+1<cLine)(w:PE X o td)(G:PE X i ty)(hv:PE X value tv)(l:swapsWith value (some (.Subscript o i pos')) pos.line X.env=pure false:=by rfl):PS X (.Assign [.Subscript o i pos'] value pos) (Mh td ty tv):=by
 have:=JK (pos:=pos) B w.up G.up hv.up l
 intro J s E H D I h
 refine this J s E H D I ?_
 refine⟨_,h,fun v M q=>⟨_,q,fun x L g=>⟨_,g,fun y N b=>?_⟩⟩⟩
 split at b
 ·obtain⟨z,h1,F,K⟩:=b
  exact⟨_,_,rfl,uX.k (k:=.inr _) h1 (xL (db F)),K _ .mk'⟩
 ·exact b.elim
def MO(td ty:TE):TE:=fun σ H Q=>td σ H fun x H1=>match x with
 | .ref a=>(∃kvs,H1 a=some (.dK kvs))/\ ty σ H1 fun y H2=>match y with
  | .str s=>∃kvs v,H2 a=some (.dK kvs)/\ iP kvs (.inr s)=some v/\ ∀H',Chg H2 a (.dK (pI kvs (.inr s))) H' ->Q v H'
  |_=>False
 |_=>False
theorem zY{g b:Pos}(B:PE X o td)(D:PE X e ty)(m:M1 X o "pop" g e b):PE X (.Call (.Attribute o "pop" g) [e] [] b) (MO td ty):=
 (GB B.up D.up m).imp fun I H Q h=>by
  refine⟨_,h,fun x J q=>?_⟩
  cases x<;>first|exact q.elim|skip
  obtain⟨⟨w,h1⟩,q⟩:=q
  refine⟨_,rfl,.inl ⟨w,.inl h1⟩,_,q,fun y G z=>?_⟩
  cases y<;>first|exact z.elim|skip
  obtain⟨l,v,F,E,A⟩:=z
  exact⟨l,.inr _,v,F,rfl,E,A _ .mk'⟩
def HL:List V ->Hp ->VK ->Prop:=fun xs H Q=>match xs with|[.ref a]=>∃kvs,H a=some (.dK kvs)/\ Q (.int kvs.length) H|_=>False
theorem JO:jr X (.builtin "len") HL:=Eo.imp fun g H Q h=>by
 unfold HL at h
 split at h
 ·obtain⟨b,h1,q⟩:=h
  exact⟨_,b,rfl,h1,q⟩
 ·exact h.elim
def MF:TE:=fun _ H Q=>∀p H',New H p (.dK []) H' ->Q (.ref p) H'
theorem KU:PE X (.Dict [] [] pos) MF:=Gs.imp fun g H Q h p b=>h p _ (.mk' b)
end
theorem Dw{P:Program}{w:World}{k:Key}{u:Value}(h:(jn P w).is k u=true):iB (kV k) u:=by
 cases k with
 | inl i=>
  have b:mr (.inl i) u=true:=h
  cases u with
  |int j t=>
   have:j=i:=by simpa [mr,Value.isInt] using b
   subst this
   exact⟨t,rfl⟩
  |_=>exact absurd b (by simp[mr,Value.isInt])
 | inr x=>
  have b:mr (.inr x) u=true:=h
  cases u with
  |str y t=>
   have:y=x:=by simpa [mr,Value.isStrOf] using b
   subst this
   exact⟨t,rfl⟩
  |_=>exact absurd b (by simp[mr,Value.isStrOf])
theorem KV.get{b:Type}:∀{kvs:List (b × V)} {vs:List (b × Value)},KV kvs vs ->∀{i:Nat} {p:b × V},kvs[i]? =some p ->∃q,vs[i]? =some q/\ p.1=q.1/\ iB p.2 q.2
 |_,_,.nil,i,p,h=>by simp at h
 |_::_,_::_,.cons r t,0,p,h=>by
  cases h
  exact⟨_,rfl,r⟩
 |_::_,_::_,.cons r t,i+1,p,h=>KV.get t h
section
variable {X:Cx}
def Es:List V ->Hp ->VK ->Prop:=fun xs H Q=>match xs with|[.ref a]=>∃kvs,H a=some (.dK kvs)/\ ∀l H',New H l (.lst (kvs.map fun p=>kV p.1)) H' ->Q (.ref l) H'|_=>False
theorem uc(R:X.calm=true):jr X (.type "list") Es:=by
 intro Y s σ H S T Q I r h
 unfold Es at h
 split at h
 ·rename_i a
  obtain⟨o,h1,q⟩:=h
  obtain⟨u,rfl,P⟩:=kr r
  cases (show u=Value.ref a from P)
  obtain⟨z,M,L,f,dd⟩:=yB I.hok h1
  obtain⟨ep,J⟩:=dd.dictAt
  have w:o.length=L.length:=f.length
  refine PySem.W.kdl_call (PySem.W.kdl_dict M) (I.ok.hd R) J (by omega) fun Z tk b c N B l=>?_
  have G:H s.heap.objs.size=none:=I.hok.fresh (bh _)
  refine⟨.ref _,upd H _ (.lst (o.map fun p=>kV p.1)),I.laid (t':=tk) N (bh _) ⟨by rw[aX];exact z,b.toList,c,?_,by simpa using B⟩,rfl,q _ _ (.mk' G)⟩
  have D:b.toList.length=b.size:=bY
  refine wP (by rw[aX,D,l.1,w]) fun i x u C K=>?_
  rw[bi] at C
  obtain⟨p,O,rfl⟩:=bN.mp C
  obtain⟨k,y,A,F⟩:=l.2 i u (by rw[←cG];exact K)
  obtain⟨U,g,E,_⟩:=f.get O
  rw[A] at g
  cases g
  rw[E]
  exact Dw F
 ·exact h.elim
def Fl(to:TE):TE:=fun σ H Q=>to σ H fun x H1=>match x with
 | .ref a=>∃kvs,H1 a=some (.dK kvs)/\ ∀l H',New H1 l (.lst (kvs.map (·.2))) H' ->Q (.ref l) H'
 |_=>False
theorem AS{o:Expr}{Y:TE}{p g pos f:Pos}(R:Gl X "list")(P:X.mg "list"=none)(ho:PE X o Y)(hc:X.calm=true:=by rfl)
  (J:starEach [.Call (.Attribute o "values" g) [] [] f] X.env=[(false,eval (.Call (.Attribute o "values" g) [] [] f) X.env)]:=by rfl)
  (B:attributeBase o "values" X.env (eval o X.env)=eval o X.env:=by rfl)(A:(g.endLine == f.line)=true:=by rfl):
  PE X (.Call (.Name "list" p) [.Call (.Attribute o "values" g) [] [] f] [] pos) (Fl Y):=by
 intro gW s σ H Q I h
 refine wpAny_Call_Name_kw (mj I R P boot_list (PyProof.Rows.callWith_type1 ?_ J rfl))
 rw[J]
 show wpAny _ _ (spliced [(false,eval (.Call (.Attribute o "values" g) [] [] f) X.env)]) _ _ s
 refine Calls.spliced_cons ?_
 refine wpAny_Call_method0_late B A (thn (ho gW s σ H _ I h) fun v s1 ⟨x,Z,T,r1,L⟩=>?_)
 dsimp only at L
 split at L
 ·rename_i a
  obtain⟨kvs,h1,q⟩:=L
  cases (show v=Value.ref a from r1)
  obtain⟨z,hd,S,C,dd⟩:=yB T.hok h1
  have K:kvs.length=S.length:=C.length
  refine⟨"dict","dict.values",PySem.F.plainAttrs_dict,PySem.F.slot_dict_values,PySem.F.type_dict_values,dd.typeIs,dd.mapOf.noDict,?_⟩
  refine Calls.callWith_builtin rfl (PySem.evalArgs_none ?_)
  refine call_meetsIn PySem.F.slot_dict_values dd.typeIs PySem.F.entry_dict_values (PySem.F.args_dict_values_1 _) (meets_dict_values (jn X.prog X.w) a hd) ⟨⟨S,dd⟩,?_⟩
  refine Calls.spliced_nil ?_
  obtain⟨ep,da⟩:=dd.dictAt
  have G:(s1.heap.push {cls:=.type "dict_values",data:=.fields #[.ref a]}).objs.size=s1.heap.objs.size+1:=cC ..
  refine PySem.W.kdl_call (PySem.W.kdl_values (knd:=jn X.prog X.w) (d:=a) (kvs:=S) (ep:=ep)) (I.ok.hd hc) ⟨⟨_,bu _ rfl,rfl,rfl⟩,da.push _⟩ (by omega) fun h' tk l c hk O E=>?_
  have M:∀b o,s1.heap.get? b=some o ->h'.get? b=some o:=fun b o e=>hk b o (aY _ e)
  have fD:Z (s1.heap.push {cls:=.type "dict_values",data:=.fields #[.ref a]}).objs.size=none:=T.hok.fresh (by rw[G];exact dN _)
  refine⟨.ref _,upd Z _ (.lst (kvs.map (·.2))),T.laid (t':=tk) M (by rw[G];exact dN _) ⟨by rw[aX];exact z,l.toList,c,?_,by simpa using O⟩,rfl,q _ _ (.mk' fD)⟩
  have h3:l.toList.length=l.size:=bY
  refine wP (by rw[aX,h3,E.1,K]) fun i x u U hu=>?_
  rw[bi] at U
  obtain⟨p,hp,rfl⟩:=bN.mp U
  obtain⟨k,N⟩:=E.2 i u (by rw[←cG];exact hu)
  obtain⟨q',D,_,e2⟩:=C.get hp
  rw[N] at D
  cases D
  exact e2
 ·exact L.elim
def Fq:V ->List V ->Hp ->VK ->Prop:=fun x vs H Q=>match x,vs with
 | .ref l,[.str s]=>∃(ts:List Str) (j:Nat),H l=some (.lst (ts.map V.str))/\ ts[j]? =some s/\ (∀m,m<j ->ts[m]?≠some s)/\ j<1000000/\ Q (.int (j:Int)) H
 |_,_=>False
theorem JF:MtM X "list.index" Fq:=by
 intro U s Y H x W v S Q I O L h
 unfold Fq at h
 split at h
 ·rename_i l t
  obtain⟨ts,j,h1,J,E,N,q⟩:=h
  cases O
  obtain⟨u,rfl,P⟩:=kr L
  obtain⟨z,b,n,r,T,e⟩:=I.lstM h1
  have fs:(ts.map V.str).all nM=true:=by rw[List.all_map];exact fS.mpr fun _ _=>rfl
  have f:=r.length
  have o:j<b.length:=by rw[←f,aX];exact(aZ.mp J).1
  have at_:∀m (g:m<b.length),∃y,ts[m]? =some y/\ eqU (.str t) b[m]=decide (y=t):=fun m g=>by
   have A:m<ts.length:=by rw[←f,aX] at g;exact g
   refine⟨ts[m],bg A,?_⟩
   obtain⟨R,B,K⟩:=r.get (i:=m) (x:=V.str ts[m]) (by rw[bi,bg A];rfl)
   rw[bg g] at B
   cases B
   rw[zP K rfl]
   rfl
  refine call_meets F.slot_list_index ⟨_,e,rfl⟩ F.entry_list_index (F.args_list_index_2 _ _) (SeqAt.list_indexAt l b.toArray n none #[] u (eqU (.str t)) j (by simpa using o) (by omega) ?_ ?_) ⟨e,fun w M=>rj P rfl r fs w (by simpa using M),?_⟩
  ·obtain⟨y,C,D⟩:=at_ j o
   rw[J] at C
   cases C
   simpa using D
  ·intro m g G
   obtain⟨y,C,D⟩:=at_ m (by simpa using g)
   have:y≠t:=fun z=>E m G (by rw[C,z])
   simpa [this] using D
  ·exact⟨.int (j:Int),H,I.tok _,⟨_,rfl⟩,q⟩
 ·exact h.elim
end
section
variable {X:Cx}
theorem EJ{xs:List Str}{l:List (Str × Tok)}(h:l.map (·.1)=xs):iz (xs.map V.str) (strValues l):=by
 subst h
 induction l with
 |nil=>exact .nil
 |cons a r ih=>exact .cons ⟨a.2,rfl⟩ ih
def Dz:V ->List V ->Hp ->VK ->Prop:=fun x vs H Q=>match x,vs with
 | .str a,[.str b]=>(b.length == 0)=false/\ a.length<=1000000/\ (Txt.split a b).length<=1000000/\ ∀l H',New H l (.lst ((Txt.split a b).map V.str)) H' ->Q (.ref l) H'
 |_,_=>False
theorem wH:MtR X "str.split" Dz:=by
 intro C s A H x J v G Q I w o h
 unfold Dz at h
 split at h
 ·rename_i a b
  obtain⟨g,ha,f,q⟩:=h
  obtain⟨t,rfl⟩:=(show ∃t,v=Value.str a t from w)
  obtain⟨u,rfl,E⟩:=kr o
  obtain⟨t',rfl⟩:=(show ∃t,u=Value.str b t from E)
  have D:H s.heap.objs.size=none:=I.hok.fresh (bh _)
  have fin:∀(l:List (Str × Tok)) (tk:Nat),l.map (·.1)=Txt.split a b ->EP X C A Q (.ref s.heap.objs.size) {s with heap:=s.heap.push {cls:=.type "list",data:=.seq (strValues l).toArray},toks:=tk}:=fun l tk e=>by
   refine⟨.ref _,upd H _ (.lst ((Txt.split a b).map V.str)),I.laid (t':=tk) (fun b u z=>aY _ z) (bh _) ⟨by rw[aX];exact bL f (by decide),_,_,EJ e,bu _ rfl⟩,rfl,q _ _ (.mk' D)⟩
  have B:a.length<=sizeLine:=bL ha (by decide)
  cases h1:(decide (a.length<b.length) || decide (Builtin.Str.strKind a<Builtin.Str.strKind b))
  ·cases hf:(Builtin.Str.occurrences a b 0 a.length (a.length+1)).isEmpty
   ·have e:Txt.split a b=_:=(if_neg (ne_true_of_eq_false h1)).trans (if_neg (ne_true_of_eq_false hf))
    refine call_meets F.slot_str_split (typeIs_str _ _ _) F.entry_str_split (F.args_str_split_2 _ _) (meets_str_split_sep a b t t' h1 g hf B (by rw[e] at f;exact bL f (by decide))) ?_
    show wants _ _ _ {s with toks:=_,heap:=s.heap.push {cls:=.type "list",data:=.seq (strsFrom s.toks (Builtin.Str.partsBetween a (Builtin.Str.occurrences a b 0 a.length (a.length+1)) b.length)).toArray}}
    rw[strsFrom_eq]
    exact fin (numbered s.toks _) _ ((numbered_texts _ _).trans e.symm)
   ·have e:Txt.split a b=[a]:=(if_neg (ne_true_of_eq_false h1)).trans (if_pos hf)
    exact call_meets F.slot_str_split (typeIs_str _ _ _) F.entry_str_split (F.args_str_split_2 _ _) (meets_str_split_not_found a b t t' h1 g hf) (fin [(a,t)] _ e.symm)
  ·have e:Txt.split a b=[a]:=if_pos h1
   exact call_meets F.slot_str_split (typeIs_str _ _ _) F.entry_str_split (F.args_str_split_2 _ _) (meets_str_split_cannot_occur a b t t' h1) (fin [(a,t)] _ e.symm)
 ·exact h.elim
end
def Go(w:World)(x:Str × Tok × Addr):DictEntry:=⟨PyData.keyHash w.params x.1,.str x.1 x.2.1,.ref x.2.2⟩
structure wW(K:aW)(w:World)(a:Addr)(xs:List (Str × Tok × Addr)):Prop where
 at_:∃ep,K.lookup a=some {cls:=.type "dict",dict:=none,data:=.dict (xs.map (Go w)).toArray ep,slots:= #[]}
 sm:(a == sysModules)=false
 nd:(xs.map (·.1)).Nodup
def uk(xs:List (Str × Tok × Addr))(s:Str):Option Addr:=(xs.find? fun x=>decide (x.1=s)).map (·.2.2)
theorem Fa{P:Program}{w:World}:∀xs:List (Str × Tok × Addr),Pairs (jn P w) (xs.map (Go w)) (xs.map fun x=>((Sum.inr x.1:Key),Value.ref x.2.2))
 |[]=>.nil
 |x::r=>.cons (qo P w x.1 x.2.1) rfl (Fa r)
theorem wW.dict{K:aW}{P:Program}{w:World}{a:Addr}{xs:List (Str × Tok × Addr)}{h:Heap}(d:wW K w a xs)(k:K.In h):h.DictOf (jn P w) a (xs.map fun x=>((Sum.inr x.1:Key),Value.ref x.2.2)):=by
 obtain⟨A,e⟩:=d.at_
 refine⟨_,_,A,k a _ e,⟨rfl,rfl,rfl⟩,rfl,fun o l=>?_,?_,?_⟩
 ·have f:o∈xs.map (Go w):=by rw[←List.mem_toArray];exact l
  obtain⟨x,B,rfl⟩:=bz.mp f
  exact⟨.inr x.1,qo P w x.1 x.2.1,rfl⟩
 ·rw[List.toList_toArray]
  exact Fa xs
 ·rw[bM]
  have:((fun x:Key × Value=>x.1)∘fun x:Str × Tok × Addr=>((Sum.inr x.1:Key),Value.ref x.2.2))=(fun s:Str=>(Sum.inr s:Key))∘fun x:Str × Tok × Addr=>x.1:=rfl
  show((xs.map ((fun s:Str=>(Sum.inr s:Key))∘fun x:Str × Tok × Addr=>x.1))).Nodup
  rw[←bM]
  exact List.Pairwise.map _ (fun a b (g:a≠b) z=>g (by cases z;rfl)) d.nd
theorem JW(xs:List (Str × Tok × Addr))(s:Str):valueAt (xs.map fun x=>((Sum.inr x.1:Key),Value.ref x.2.2)) (.inr s)=(uk xs s).map Value.ref:=by
 unfold valueAt uk
 induction xs with
 |nil=>rfl
 | cons x r ih=>
  rw[bH,dJ,dJ]
  by_cases h:x.1=s
  ·simp[h]
  ·have b:¬((Sum.inr x.1:Key)=Sum.inr s):=fun z=>h (by cases z;rfl)
   simp only[decide_eq_false h,decide_eq_false b]
   exact ih
section
variable {X:Cx} {o i:Expr} {pos:Pos} {td ty:TE}
def BK(K:aW)(w:World):R2:=fun y x H Q=>match y,x with
 | .str s,.ref a=>∃xs,wW K w a xs/\ Q (.bl (!(uk xs s).isSome)) H
 |_,_=>False
theorem FF:OpR X (compareOp .NotIn) (BK X.K X.w):=by
 intro z s l H y x v u Q I g f h
 unfold BK at h
 split at h
 ·rename_i t a
  obtain⟨b,d,q⟩:=h
  obtain rfl:u=Value.ref a:=f
  refine wpAny_notIn_of (oB (k:=.inr t) g) d.sm (d.dict I.kIn).mapOf ?_
  rw[JW,fM]
  exact⟨.bl (!(uk b t).isSome),H,I.tok _,rfl,q⟩
 ·exact h.elim
def MU(K:aW)(w:World)(td ty:TE):TE:=fun σ H Q=>td σ H fun x H1=>ty σ H1 fun y H2=>match x,y with
 | .ref a,.str s=>∃xs r,wW K w a xs/\ uk xs s=some r/\ Q (.ref r) H2
 |_,_=>False
theorem KZ(B:PE X o td)(E:PE X i ty)(A:Cz i:=by exact fun _ _=>rfl):PE X (.Subscript o i pos) (MU X.K X.w td ty):=by
 intro l s f H Q I h
 refine Bl gN.lookup A (thn (B l s f H _ I h) fun u s1 ⟨x,G,L,C,J⟩=>thn (E l s1 f G _ L J) fun O N ⟨y,z,g,D,b⟩=>?_)
 cases x with
 | ref a=>
  cases y with
  |str t=>
   obtain⟨M,r,d,F,q⟩:=b
   obtain rfl:u=Value.ref a:=C
   have dd:=d.dict (P:=X.prog) g.kIn
   refine⟨dd.typeIs,wpAny_getItem_of (oB (k:=.inr t) D) dd.mapOf (v:=.ref r) (by rw[JW,F];rfl) ?_⟩
   exact⟨.ref r,z,g.tok _,rfl,q⟩
  |_=>exact b.elim
 |_=>exact b.elim
end
end L2
namespace PySem
open Sem (wp)
namespace F
theorem entry_zip_ga:entryFor table "zip.__getattribute__"=some Builtin.«object.__getattribute__»:=
 entryFor_alias (id':="object.__getattribute__") (by kernel_rfl) (by first|rfl|decide+kernel) (by decide+kernel) (by kernel_rfl)
theorem lk_zip_keys:typeLookup (.type "zip") "keys"=pure none:=by rw[typeLookup_type,builtinLookup_eq_fast];kernel_rfl
theorem lk_zip_hook:typeLookup (.type "zip") "__getattr__"=pure none:=by rw[typeLookup_type,builtinLookup_eq_fast];kernel_rfl
end F
theorem uC(z:Addr)(fs:Array Value)(u:Tok):
  Meets (Builtin.«object.__getattribute__» ⟨[.ref z,.str "keys" u],[]⟩) (fun A R s=>s.heap.get? z=some {cls:=.type "zip",dict:=none,data:=.fields fs,slots:= #[]}/\ raisesAttr (.ref z) "keys" A R s):=
 Meets.of_wp fun f w A R s b=>by
  obtain⟨l,g,d,tk,o⟩:=s
  obtain⟨h,b⟩:=b
  have B:(⟨l,g,d,tk,o⟩:Shared).TypeIs (.ref z) "zip":=⟨_,h,rfl⟩
  have C:=F.lk_zip_keys
  unfold Builtin.«object.__getattribute__»
  repeat (any_goals (first|assumption|wp_step))
  exact wpAny_raiseAttrError b.1 b.2 (attrMsg_fits (by decide+kernel) (by size_fits))
theorem Fu{prog:Program}{w:World}{A:Around}{E:Value ->Shared ->Prop}{s:Shared}{z:Addr}{fs:Array Value}{Q:Option Value ->Shared ->Prop}(B:A.handled=none)
  (o:s.heap.get? z=some {cls:=.type "zip",dict:=none,data:=.fields fs,slots:= #[]})(h:∀h' tk,(∀b u,s.heap.get? b=some u ->h'.get? b=some u) ->Q none {s with heap:=h',toks:=tk}):
  wpAny (model prog w) A (getAttr? (.ref z) "keys") Q E s:=by
 obtain⟨D,g,d,tk,G⟩:=s
 have l:∀tk,(⟨D,g,d,tk,G⟩:Shared).TypeIs (.ref z) "zip":=fun _=>⟨_,o,rfl⟩
 have M:=sub_AttributeError
 have L:=F.slot_zip_getattribute.lookup
 have J:=F.slot_zip_getattribute.bind (.ref z)
 have H:=F.lk_zip_hook
 unfold getAttr? getAttrBy? getAttrBy
 repeat (any_goals (first|assumption|exact l _|((with_reducible show wpAny _ _ (call (Value.builtin "zip.__getattribute__") _ _) _ _ _);refine call_meets F.slot_zip_getattribute (l _) F.entry_zip_ga (F.args_zip_getattribute_2 _ _) (uC z fs _) ⟨o,B,fun h' C e f=>?_⟩)|wp_step))
 obtain⟨I,N,K⟩:=f.there
 show wpAny _ _ (getattributeRaised _ _ _ _ _ _ _) _ _ _
 unfold getattributeRaised
 repeat (any_goals (first|assumption|wp_step))
 exact h _ _ f.keeps
end PySem
namespace PySem
open Sem (wp)
section
variable {prog:Program} {w:World} {A:Around} {E:Value ->Shared ->Prop}
theorem Ms{f:Heap}{g:Array GenState}{d:Drawn}{tk:Nat}{h:OsState}{b l:Addr}{i:Nat}{items:Array Value}{x:Value}{n:Nat}{Q:Value ->Shared ->Prop}{o G:Option Addr}{s1 z:Array (Option Value)}
  (B:f.get? b=some {cls:=.type "tuple_iterator",dict:=o,data:=.fields #[.ref l,.int i 0],slots:=s1})(H:f.get? l=some {cls:=.type "tuple",dict:=G,data:=.seq items n,slots:=z})(C:items[i]? =some x)
  (k:Q x ⟨f.update b (Obj.mapFields fun vs=>vs.setIfInBounds 1 (rawInt ((i:Int)+1))),g,d,tk,h⟩):
  wpAny (model prog w) A (Builtin.SmallTypes.nextOf (.ref b)) Q E ⟨f,g,d,tk,h⟩:=by
 have D:(⟨f,g,d,tk,h⟩:Shared).TypeIs (.ref b) "tuple_iterator":=⟨_,B,rfl⟩
 have J:=F.slot_tuple_iterator_next.lookup
 have I:=F.slot_tuple_iterator_next.bind (.ref b)
 unfold Builtin.SmallTypes.nextOf
 repeat (any_goals (first|wp_step|assumption))
 refine codeAny_call_builtin F.slot_tuple_iterator_next.plain F.entry_tuple_iterator_next (F.slot_tuple_iterator_next.check _ _ _ _ _ _ _ _ D (F.args_tuple_iterator_next_1 _) ?_)
 repeat (any_goals (first|wp_step|assumption))
 rw[show items[((i:Int)).toNat]? =some x from C]
 repeat (any_goals (first|wp_step|assumption))
theorem EQ{h:Heap}{g:Array GenState}{d:Drawn}{tk:Nat}{B:OsState}{f l:Addr}{i:Nat}{items:Array Value}{n:Nat}{Q:Value ->Shared ->Prop}{C K:Option Addr}{s1 D:Array (Option Value)}(G:A.handled=none)
  (H:h.get? f=some {cls:=.type "tuple_iterator",dict:=C,data:=.fields #[.ref l,.int i 0],slots:=s1})(M:h.get? l=some {cls:=.type "tuple",dict:=K,data:=.seq items n,slots:=D})(I:items[i]? =none)
  (k:∀h' e,(∀b o,b≠f ->h.get? b=some o ->h'.get? b=some o) ->(∃o,h'.get? e=some o/\ o.cls=.type "StopIteration") ->E (.ref e) ⟨h',g,d,tk,B⟩):
  wpAny (model prog w) A (Builtin.SmallTypes.nextOf (.ref f)) Q E ⟨h,g,d,tk,B⟩:=by
 have J:(⟨h,g,d,tk,B⟩:Shared).TypeIs (.ref f) "tuple_iterator":=⟨_,H,rfl⟩
 have O:=F.slot_tuple_iterator_next.lookup
 have N:=F.slot_tuple_iterator_next.bind (.ref f)
 unfold Builtin.SmallTypes.nextOf
 repeat (any_goals (first|wp_step|assumption))
 refine codeAny_call_builtin F.slot_tuple_iterator_next.plain F.entry_tuple_iterator_next (F.slot_tuple_iterator_next.check _ _ _ _ _ _ _ _ J (F.args_tuple_iterator_next_1 _) ?_)
 repeat (any_goals (first|wp_step|assumption))
 rw[show items[((i:Int)).toNat]? =none from I]
 repeat (any_goals (first|wp_step|assumption))
 unfold raiseNew
 have L:A.in1.handled=none:=G
 refine wpAny_bind (wpAny_handled ?_)
 rw[L]
 first|exact wpAny_throw (k _ _ (fun b o z e=>aY _ (aY _ ((cL _ _ (Ne.symm z)).trans e))) ⟨_,bu _ rfl,rfl⟩)|exact wpAny_bind (wpAny_pure (wpAny_throw (k _ _ (fun b o z e=>aY _ (aY _ ((cL _ _ (Ne.symm z)).trans e))) ⟨_,bu _ rfl,rfl⟩)))
theorem nY{h h':Heap}{a t:Addr}{i:Nat}(x:h.IsTupleIter a t i)(k:∀o,h.get? a=some o ->h'.get? a=some o):h'.IsTupleIter a t i:=let⟨o,e,r⟩:=x;⟨o,k o e,r⟩
theorem nZ{h h':Heap}{a:Addr}{xs:Array Value}(x:h.IsTuple a xs)(k:∀o,h.get? a=some o ->h'.get? a=some o):h'.IsTuple a xs:=let⟨o,e,r⟩:=x;⟨o,k o e,r⟩
theorem Ia{s:Shared}{f l:Addr}{i:Nat}{items:Array Value}{x:Value}{Q:Value ->Shared ->Prop}(a:s.heap.IsTupleIter f l i)(b:s.heap.IsTuple l items)(o:items[i]? =some x)
  (k:∀h',h'.IsTupleIter f l (i+1) ->Heap.SameBut f s.heap h' ->Q x {s with heap:=h'}):wpAny (model prog w) A (Builtin.SmallTypes.nextOf (.ref f)) Q E s:=by
 obtain⟨⟨J,K,B,s1⟩,h,rfl,rfl⟩:=a
 obtain⟨⟨F,C,I,D⟩,z,rfl,n,rfl⟩:=b
 obtain⟨G,g,d,tk,H⟩:=s
 exact Ms h z o (k _ ⟨_,cV _ h rfl,rfl,rfl⟩ (Heap.SameBut.update ..))
theorem xK{s:Shared}{f l:Addr}{i:Nat}{items:Array Value}{Q:Value ->Shared ->Prop}(h:A.handled=none)(a:s.heap.IsTupleIter f l i)(b:s.heap.IsTuple l items)(z:items[i]? =none)
  (k:∀h' e,(∀b o,b≠f ->s.heap.get? b=some o ->h'.get? b=some o) ->(∃o,h'.get? e=some o/\ o.cls=.type "StopIteration") ->E (.ref e) {s with heap:=h'}):wpAny (model prog w) A (Builtin.SmallTypes.nextOf (.ref f)) Q E s:=by
 obtain⟨⟨L,M,D,s1⟩,B,rfl,rfl⟩:=a
 obtain⟨⟨H,F,K,G⟩,C,rfl,n,rfl⟩:=b
 obtain⟨I,g,d,tk,J⟩:=s
 exact EQ h B C z k
end
end PySem
namespace PySem
open Sem (wp)
abbrev jG(h:Heap)(z TI TO:Addr)(f0 f1:Value):Prop:=
 h.get? z=some {cls:=.type "zip",dict:=none,data:=.fields #[f0,f1,.bool false,.ref TI,.ref TO],slots:= #[]}
section
variable {prog:Program} {w:World} {A:Around} {E:Value ->Shared ->Prop} {s:Shared}
theorem sT{b:Type}{a:Addr}{k:Option Obj ->Sem b}{Q:b ->Shared ->Prop}(h:wpAny (model prog w) A (k (s.heap.get? a)) Q E s):wpAny (model prog w) A (.loadIfAlive a k) Q E s:=by
 intro
 simpa using h _
theorem xP{z TI TO T:Addr}{h:Bool}{C:Obj}{Q:Bool ->Shared ->Prop}(b:jG s.heap z TI TO (rawInt T) (.bool h))(B:s.heap.get? T=some C)(o:∀h',jG h' z TI TO (rawInt T) (.bool true) ->Heap.SameBut z s.heap h' ->Q false {s with heap:=h'}):
  wpAny (model prog w) A (Builtin.SmallTypes.ownedTupleIsFree (.ref z)) Q E s:=by
 have g:wpAny (model prog w) A ((do
    let __do_lift ←field (Value.ref z) 1
    let __do_jp:Unit ->Sem Bool:=fun __r=>pure false
    if(__do_lift != Value.bool true)=true then do
      let __r ←setField (Value.ref z) 1 (Value.bool true)
      __do_jp __r
     else __do_jp ()):Sem Bool) Q E s:=by
  refine wpAny_bind (wpAny_field b rfl (x:=.bool h) rfl ?_)
  cases h with
  |true=>exact wpAny_pure (o s.heap b (Heap.SameBut.refl ..))
  |false=>
   show wpAny _ _ (setField (.ref z) 1 (.bool true)>>=_) _ _ _
   exact wpAny_bind (wpAny_setField_rec b (by simp) fun h' l f=>wpAny_pure (o h' l f))
 unfold Builtin.SmallTypes.ownedTupleIsFree
 refine wpAny_bind (wpAny_field b rfl (x:=rawInt T) rfl ?_)
 show wpAny _ _ (Sem.loadIfAlive _ _) _ _ _
 refine sT ?_
 rw[show((T:Int)).toNat=T from rfl,B]
 exact g
theorem Fm{z TI TO B l F C T:Addr}{k1 k2:Nat}{xs ys:Array Value}{x y:Value}{U:Bool}{Y:Obj}{Q:Value ->Shared ->Prop}(D:ZipApart z TI TO B l F C)
  (P:jG s.heap z TI TO (rawInt T) (.bool U))(hT:s.heap.get? T=some Y)(J:IsPair s.heap TI (.ref B) (.ref l))
  (h1:s.heap.IsTupleIter B F k1)(h2:s.heap.IsListIter l C k2)(R:s.heap.IsTuple F xs)(H:s.heap.IsList C ys)(hx:xs[k1]? =some x)(hy:ys[k2]? =some y)
  (hQ:∀h',jG h' z TI TO (rawInt T) (.bool true) ->h'.IsTupleIter B F (k1+1) ->h'.IsListIter l C (k2+1) ->IsPair h' s.heap.objs.size x y ->h'.objs.size=s.heap.objs.size+1 ->
   (∀c o,c≠z ->c≠B ->c≠l ->s.heap.get? c=some o ->h'.get? c=some o) ->Q (.ref s.heap.objs.size) {s with heap:=h'}):
  wpAny (model prog w) A (Builtin.«zip.__next__» ⟨[.ref z],[]⟩) (fun fin s'=>∃v,fin=.done (.ret v)/\ Q v s') E s:=by
 show wpAny _ _ (field (.ref z) 2>>=fun _=>_) _ _ s
 refine wpAny_bind (wpAny_field P rfl (x:=.bool false) rfl (wpAny_bind (wpAny_field P rfl (x:=.ref TI) rfl (wpAny_bind (wpAny_seqItems J rfl (wpAny_bind (xP P hT fun g W sg=>?_)))))))
 have g1:g.IsTupleIter B F k1:=nY h1 fun o e=>sg.extBut _ _ D.i1z e
 have G:g.IsTuple F xs:=nZ R fun o e=>sg.extBut _ _ D.l1z e
 simp only[gz,if_false,List.forIn_toArray,dX,fG]
 refine wpAny_bind (wpAny_bind (wpAny_bind (wpAny_holding ?_)))
 show wpAny _ _ (Builtin.SmallTypes.nextOf (.ref B)>>=fun v=>_) _ _ _
 refine wpAny_bind (Ia g1 G hx fun S O f=>wpAny_pure (wpAny_pure ?_))
 have X:S.IsListIter l C k2:=h2.at fun o e=>f.extBut _ _ D.i12.symm (sg.extBut _ _ D.i2z e)
 have L:S.IsList C ys:=H.at fun o e=>f.extBut _ _ D.l2i1 (sg.extBut _ _ D.l2z e)
 dsimp only
 refine wpAny_bind (wpAny_bind (wpAny_holding ?_))
 show wpAny _ _ (Builtin.SmallTypes.nextOf (.ref l)>>=fun v=>_) _ _ _
 refine wpAny_bind (wpAny_nextOf_list_item X L hy fun h K b=>wpAny_pure (wpAny_pure (wpAny_pure ?_)))
 dsimp only
 have sz:h.objs.size=s.heap.objs.size:=by rw[b.1,f.1,sg.1]
 have kp:∀c o,c≠z ->c≠B ->c≠l ->s.heap.get? c=some o ->h.get? c=some o:=fun c o N I M e=>b.extBut _ _ M (f.extBut _ _ I (sg.extBut _ _ N e))
 have zg:jG h z TI TO (rawInt T) (.bool true):=b.extBut _ _ D.i2z.symm (f.extBut _ _ D.i1z.symm W)
 refine wpAny_bind (wpAny_newTuple (wpAny_pure ⟨_,rfl,?_⟩) (by show 2<=sizeLine;decide))
 show Q (.ref h.objs.size) _
 rw[sz]
 have Z:IsPair (h.push {cls:=.type "tuple",data:=.seq #[x,y]}) s.heap.objs.size x y:=by
  rw[←sz]
  exact bu _ rfl
 exact hQ _ (aY _ zg) (nY O fun o e=>aY _ (b.extBut _ _ D.i12 e)) (K.at fun o e=>aY _ e) Z (by rw[cC,sz]) fun c o N I M e=>aY _ (kp c o N I M e)
theorem ya{z TI TO b F f L T:Addr}{k1:Nat}{xs:Array Value}{H:Bool}{I:Obj}{Q:Fin ->Shared ->Prop}(N:A.handled=none)(D:ZipApart z TI TO b F f L)
  (B:jG s.heap z TI TO (rawInt T) (.bool H))(P:s.heap.get? T=some I)(l:IsPair s.heap TI (.ref b) (.ref F))(h1:s.heap.IsTupleIter b f k1)(C:s.heap.IsTuple f xs)(J:xs[k1]? =none)
  (O:∀h' e,(∀c o,c≠z ->c≠b ->s.heap.get? c=some o ->h'.get? c=some o) ->(∃o,h'.get? e=some o/\ o.cls=.type "StopIteration") ->E (.ref e) {s with heap:=h'}):
  wpAny (model prog w) A (Builtin.«zip.__next__» ⟨[.ref z],[]⟩) Q E s:=by
 show wpAny _ _ (field (.ref z) 2>>=fun _=>_) _ _ s
 refine wpAny_bind (wpAny_field B rfl (x:=.bool false) rfl (wpAny_bind (wpAny_field B rfl (x:=.ref TI) rfl (wpAny_bind (wpAny_seqItems l rfl (wpAny_bind (xP B P fun g U sg=>?_)))))))
 have S:g.IsTupleIter b f k1:=nY h1 fun o e=>sg.extBut _ _ D.i1z e
 have h:g.IsTuple f xs:=nZ C fun o e=>sg.extBut _ _ D.l1z e
 simp only[gz,if_false,List.forIn_toArray,dX,fG]
 refine wpAny_bind (wpAny_bind (wpAny_bind (wpAny_holding ?_)))
 show wpAny _ _ (Builtin.SmallTypes.nextOf (.ref b)>>=fun v=>_) _ _ _
 exact wpAny_bind (xK N S h J fun h' e M G=>O h' e (fun c o R K q=>M c o K (sg.extBut _ _ R q)) G)
theorem xJ{z TI TO:Addr}{Q:Bool ->Shared ->Prop}(b:jG s.heap z TI TO .none (.bool false))(f:Q true s):wpAny (model prog w) A (Builtin.SmallTypes.ownedTupleIsFree (.ref z)) Q E s:=by
 unfold Builtin.SmallTypes.ownedTupleIsFree
 exact wpAny_bind (wpAny_field b rfl (x:=.none) rfl (wpAny_pure f))
theorem Cg{z TI TO B l H G:Addr}{k1 k2:Nat}{xs ys:Array Value}{x y a b:Value}{Q:Value ->Shared ->Prop}(D:ZipApart z TI TO B l H G)
  (O:jG s.heap z TI TO .none (.bool false))(Y:IsPair s.heap TI (.ref B) (.ref l))(a0:IsPair s.heap TO a b)
  (h1:s.heap.IsTupleIter B H k1)(h2:s.heap.IsListIter l G k2)(a2:s.heap.IsTuple H xs)(U:s.heap.IsList G ys)(hx:xs[k1]? =some x)(hy:ys[k2]? =some y)
  (hQ:∀h',jG h' z TI TO (rawInt s.heap.objs.size) (.bool false) ->IsPair h' TO x y ->h'.IsTupleIter B H (k1+1) ->h'.IsListIter l G (k2+1) ->IsPair h' s.heap.objs.size x y ->h'.objs.size=s.heap.objs.size+1 ->
   (∀c o,c≠z ->c≠TO ->c≠B ->c≠l ->s.heap.get? c=some o ->h'.get? c=some o) ->Q (.ref s.heap.objs.size) {s with heap:=h'}):
  wpAny (model prog w) A (Builtin.«zip.__next__» ⟨[.ref z],[]⟩) (fun fin s'=>∃v,fin=.done (.ret v)/\ Q v s') E s:=by
 show wpAny _ _ (field (.ref z) 2>>=fun _=>_) _ _ s
 refine wpAny_bind (wpAny_field O rfl (x:=.bool false) rfl (wpAny_bind (wpAny_field O rfl (x:=.ref TI) rfl (wpAny_bind (wpAny_seqItems Y rfl (wpAny_bind (xJ O ?_)))))))
 simp only[if_true]
 refine wpAny_bind (wpAny_rule (wpAny_bind (wpAny_field O rfl (x:=.ref TO) rfl (wpAny_bind (wpAny_setField_rec O (by simp) fun g hg sg=>?_)))))
 have hg:jG g z TI TO .ellipsis (.bool false):=hg
 have g1:g.IsTupleIter B H k1:=nY h1 fun o e=>sg.extBut _ _ D.i1z e
 have S:g.IsTuple H xs:=nZ a2 fun o e=>sg.extBut _ _ D.l1z e
 simp only[List.zipIdx_cons,List.zipIdx_nil,dX,fG]
 refine wpAny_bind (wpAny_bind (wpAny_bind (wpAny_onRaise ?_)))
 show wpAny _ _ (Builtin.SmallTypes.nextOf (.ref B)>>=fun v=>_) _ _ _
 refine wpAny_bind (Ia g1 S hx fun g' a1 f=>wpAny_pure ?_)
 have M:IsPair g' TO a b:=f.extBut _ _ D.TOi1 (sg.extBut _ _ D.TOz a0)
 dsimp only
 refine wpAny_bind (wpAny_seqItems M rfl (wpAny_bind (wpAny_updateSeq_pair M fun u hu I=>wpAny_bind (wpAny_letGo (wpAny_pure ?_)))))
 have hu:IsPair u TO x b:=hu
 have u2:u.IsListIter l G k2:=h2.at fun o e=>I.extBut _ _ D.TOi2.symm (f.extBut _ _ D.i12.symm (sg.extBut _ _ D.i2z e))
 have T:u.IsList G ys:=U.at fun o e=>I.extBut _ _ D.l2TO (f.extBut _ _ D.l2i1 (sg.extBut _ _ D.l2z e))
 dsimp only
 refine wpAny_bind (wpAny_bind (wpAny_onRaise ?_))
 show wpAny _ _ (Builtin.SmallTypes.nextOf (.ref l)>>=fun v=>_) _ _ _
 refine wpAny_bind (wpAny_nextOf_list_item u2 T hy fun v Z K=>wpAny_pure ?_)
 have tv:IsPair v TO x b:=K.extBut _ _ D.TOi2 hu
 dsimp only
 refine wpAny_bind (wpAny_seqItems tv rfl (wpAny_bind (wpAny_updateSeq_pair tv fun q R sq=>wpAny_bind (wpAny_letGo (wpAny_pure (wpAny_pure ?_))))))
 have R:IsPair q TO x y:=R
 have sz:q.objs.size=s.heap.objs.size:=by rw[sq.1,K.1,I.1,f.1,sg.1]
 have kp:∀c o,c≠z ->c≠TO ->c≠B ->c≠l ->s.heap.get? c=some o ->q.get? c=some o:=fun c o F P c3 W e=>sq.extBut _ _ P (K.extBut _ _ W (I.extBut _ _ P (f.extBut _ _ c3 (sg.extBut _ _ F e))))
 have zq:jG q z TI TO .ellipsis (.bool false):=sq.extBut _ _ D.TOz.symm (K.extBut _ _ D.i2z.symm (I.extBut _ _ D.TOz.symm (f.extBut _ _ D.i1z.symm hg)))
 have J:z<q.objs.size:=bq zq
 dsimp only
 refine wpAny_bind (wpAny_seqItems R rfl (wpAny_bind (wpAny_newTuple (wpAny_bind ?_))))
 show wpAny _ _ (Builtin.SmallTypes.ownedTupleHandOut (.ref z) (.ref q.objs.size)) _ _ _
 unfold Builtin.SmallTypes.ownedTupleHandOut
 have zp:jG (q.push {cls:=.type "tuple",data:=.seq #[x,y]}) z TI TO .ellipsis (.bool false):=aY _ zq
 refine wpAny_bind (wpAny_setField_rec zp (by simp) fun r X sr=>?_)
 have X:jG r z TI TO (rawInt q.objs.size) (.bool false):=X
 refine wpAny_setField_rec X (by simp) fun N h C=>wpAny_pure ⟨_,rfl,?_⟩
 have h:jG N z TI TO (rawInt q.objs.size) (.bool false):=h
 have up:∀c o,c≠z ->q.get? c=some o ->N.get? c=some o:=fun c o F e=>C.extBut _ _ F (sr.extBut _ _ F (aY _ e))
 have L:IsPair N q.objs.size x y:=C.extBut _ _ (dM J) (sr.extBut _ _ (dM J) (bu _ rfl))
 have s5:N.objs.size=q.objs.size+1:=by rw[C.1,sr.1,cC]
 show Q (.ref q.objs.size) _
 rw[sz] at h L s5 ⊢
 exact hQ N h (up _ _ D.TOz R) (nY a1 fun o e=>up _ o D.i1z (sq.extBut _ _ D.TOi1.symm (K.extBut _ _ D.i12 (I.extBut _ _ D.TOi1.symm e)))) (Z.at fun o e=>up _ o D.i2z (sq.extBut _ _ D.TOi2.symm e)) L s5 fun c o F P c3 W e=>up c o F (kp c o F P c3 W e)
theorem xm{z TI TO b H f R:Addr}{k1:Nat}{xs:Array Value}{Q:Fin ->Shared ->Prop}(T:A.handled=none)(D:ZipApart z TI TO b H f R)
  (h:jG s.heap z TI TO .none (.bool false))(F:IsPair s.heap TI (.ref b) (.ref H))(h1:s.heap.IsTupleIter b f k1)(G:s.heap.IsTuple f xs)(N:xs[k1]? =none)
  (W:∀h' e,(∀c o,c≠z ->c≠b ->s.heap.get? c=some o ->h'.get? c=some o) ->(∃o,h'.get? e=some o/\ o.cls=.type "StopIteration") ->E (.ref e) {s with heap:=h'}):
  wpAny (model prog w) A (Builtin.«zip.__next__» ⟨[.ref z],[]⟩) Q E s:=by
 show wpAny _ _ (field (.ref z) 2>>=fun _=>_) _ _ s
 refine wpAny_bind (wpAny_field h rfl (x:=.bool false) rfl (wpAny_bind (wpAny_field h rfl (x:=.ref TI) rfl (wpAny_bind (wpAny_seqItems F rfl (wpAny_bind (xJ h ?_)))))))
 simp only[if_true]
 refine wpAny_bind (wpAny_rule (wpAny_bind (wpAny_field h rfl (x:=.ref TO) rfl (wpAny_bind (wpAny_setField_rec h (by simp) fun g B sg=>?_)))))
 have B:jG g z TI TO .ellipsis (.bool false):=B
 have X:g.IsTupleIter b f k1:=nY h1 fun o e=>sg.extBut _ _ D.i1z e
 have l:g.IsTuple f xs:=nZ G fun o e=>sg.extBut _ _ D.l1z e
 simp only[List.zipIdx_cons,List.zipIdx_nil,dX,fG]
 refine wpAny_bind (wpAny_bind (wpAny_bind (wpAny_onRaise ?_)))
 show wpAny _ _ (Builtin.SmallTypes.nextOf (.ref b)>>=fun v=>_) _ _ _
 refine wpAny_bind (xK T X l N fun h' e J M=>?_)
 obtain⟨O,C,K⟩:=M
 have I:jG h' z TI TO .ellipsis (.bool false):=J _ _ D.i1z.symm B
 have S:e≠z:=fun q=>by
  subst q
  rw[I] at C
  cases C
  simp at K
 exact wpAny_setField_rec I (by simp) fun q _ sq=>W q e (fun c o L P U=>sq.extBut _ _ L (J c o P (sg.extBut _ _ L U))) ⟨O,sq.extBut _ _ S C,K⟩
end
end PySem
namespace PySem
open Sem (wp)
namespace F
theorem entry_dict_update_loop:entryFor table "dict.update.loop"=some Builtin.«dict.update.loop»:=entryFor_of_tree (by kernel_rfl)
theorem plain_dict_update_loop:plainId "dict.update.loop"=true:=by decide+kernel
end F
def lN(z TI TO i1 i2 l1 l2:Addr)(i:Nat)(h:Heap):Prop:=
 (if i=0 then jG h z TI TO .none (.bool false) else ∃T b1 oT,jG h z TI TO (rawInt (T:Addr)) (.bool b1)/\ h.get? T=some oT/\ T≠z/\ T≠i1/\ T≠i2/\ oT.cls=.type "tuple")/\
 IsPair h TI (.ref i1) (.ref i2)/\ (∃a b,IsPair h TO a b)/\ h.IsTupleIter i1 l1 i/\ h.IsListIter i2 l2 i
section
variable {prog:Program} {w:World} {A:Around} {E:Value ->Shared ->Prop} {s:Shared}
theorem lN.type{z TI TO o b l f:Addr}{i:Nat}(h:lN z TI TO o b l f i s.heap):s.TypeIs (.ref z) "zip":=by
 obtain⟨h0,_⟩:=h
 split at h0
 ·exact⟨_,h0,rfl⟩
 ·obtain⟨T,B,C,g,_⟩:=h0
  exact⟨_,g,rfl⟩
theorem lN.keep{z TI TO g f B l:Addr}{i:Nat}{h h':Heap}(x:lN z TI TO g f B l i h)(k:∀c o,h.get? c=some o ->h'.get? c=some o):lN z TI TO g f B l i h':=by
 obtain⟨h0,h1,⟨a,b,I⟩,G,C⟩:=x
 refine⟨?_,k _ _ h1,⟨a,b,k _ _ I⟩,nY G fun o e=>k _ o e,C.at fun o e=>k _ o e⟩
 split at h0
 ·rw[if_pos ‹_›]
  exact k _ _ h0
 ·rw[if_neg ‹_›]
  obtain⟨T,D,F,J,H,r⟩:=h0
  exact⟨T,D,F,k _ _ J,k _ _ H,r⟩
theorem Ho{z TI TO C h J I:Addr}{i:Nat}{xs ys:Array Value}{x y:Value}{Q:Option Value ->Shared ->Prop}(D:ZipApart z TI TO C h J I)(st:lN z TI TO C h J I i s.heap)
  (H:s.heap.IsTuple J xs)(B:s.heap.IsList I ys)(U:xs[i]? =some x)(Z:ys[i]? =some y)
  (X:∀h',lN z TI TO C h J I (i+1) h' ->IsPair h' s.heap.objs.size x y ->h'.objs.size=s.heap.objs.size+1 ->(∀c o,c≠z ->c≠TO ->c≠C ->c≠h ->s.heap.get? c=some o ->h'.get? c=some o) ->Q (some (.ref s.heap.objs.size)) {s with heap:=h'}):
  wpAny (model prog w) A (pyNext (.ref z)) Q E s:=by
 have Y:=st.type
 obtain⟨h0,f,⟨a,b,G⟩,h1,M⟩:=st
 have lt:∀{c o},s.heap.get? c=some o ->s.heap.objs.size≠c:=fun e=>dM (bq e)
 have n1:s.heap.objs.size≠C:=by obtain⟨_,e,_⟩:=h1;exact lt e
 have n2:s.heap.objs.size≠h:=by obtain⟨_,e,_⟩:=M;exact lt e
 unfold pyNext
 refine wpAny_bind (wpAny_attempt (wpAny_callSpecial?_slot (name:=Str.ofString "__next__") Y F.slot_zip_next (wpAny_call_entry F.slot_zip_next Y F.entry_zip_next ?_ (F.args_zip_next_1 _))))
 by_cases hi:i=0
 ·rw[if_pos hi] at h0
  refine Cg D h0 f G h1 M H B U Z fun h' O a0 P N K L g=>wpAny_pure (X h' ⟨?_,g _ _ D.TIz D.TITO D.TIi1 D.TIi2 f,⟨_,_,a0⟩,P,N⟩ K L g)
  rw[if_neg (by omega)]
  exact⟨_,_,_,O,K,lt h0,n1,n2,rfl⟩
 ·rw[if_neg hi] at h0
  obtain⟨T,b1,oT,hz,l,R,W,S,t4⟩:=h0
  refine Fm D hz l f h1 M H B U Z fun h' O P N K L g=>wpAny_pure (X h' ⟨?_,g _ _ D.TIz D.TIi1 D.TIi2 f,⟨a,b,g _ _ D.TOz D.TOi1 D.TOi2 G⟩,P,N⟩ K L fun c o c1 _ c3 c4 e=>g c o c1 c3 c4 e)
  rw[if_neg (by omega)]
  exact⟨T,true,oT,O,g _ _ R W S l,R,W,S,t4⟩
theorem Hf{z TI TO l G C I:Addr}{i:Nat}{xs:Array Value}{Q:Option Value ->Shared ->Prop}(J:A.handled=none)(D:ZipApart z TI TO l G C I)(st:lN z TI TO l G C I i s.heap)
  (f:s.heap.IsTuple C xs)(H:xs[i]? =none)(M:∀h',(∀c o,c≠z ->c≠l ->s.heap.get? c=some o ->h'.get? c=some o) ->Q none {s with heap:=h'}):
  wpAny (model prog w) A (pyNext (.ref z)) Q E s:=by
 have K:=st.type
 obtain⟨h0,g,⟨a,b,N⟩,h1,X⟩:=st
 have fin:∀h' e,(∀c o,c≠z ->c≠l ->s.heap.get? c=some o ->h'.get? c=some o) ->(∃o,h'.get? e=some o/\ o.cls=.type "StopIteration") ->wpAny (model prog w) A (do
   if ←isInstance (.ref e) (.type "StopIteration") then pure none else throw (.ref e):Sem (Option Value)) Q E {s with heap:=h'}:=fun h' e h ⟨o,L,P⟩=>by
  refine wpAny_bind (wpAny_isInstance (T:="StopIteration") (b:=true) ⟨o,L,P⟩ isSubtype_stop ?_)
  exact wpAny_pure (M h' h)
 unfold pyNext
 refine wpAny_bind (wpAny_attempt (wpAny_callSpecial?_slot (name:=Str.ofString "__next__") K F.slot_zip_next (wpAny_call_entry F.slot_zip_next K F.entry_zip_next ?_ (F.args_zip_next_1 _))))
 by_cases hi:i=0
 ·rw[if_pos hi] at h0
  exact xm J D h0 g h1 f H fun h' e h st=>fin h' e h st
 ·rw[if_neg hi] at h0
  obtain⟨T,U,W,O,B,R,Y,S,Z⟩:=h0
  exact ya J D O B g h1 f H fun h' e h st=>fin h' e h st
theorem Dk{T:Addr}{x y:Value}{Q:List Value ->Shared ->Prop}(b:IsPair s.heap T x y)(f:Q [x,y] s):wpAny (model prog w) A (Builtin.Dict.pairItems (.ref T)) Q E s:=by
 have ty:s.TypeIs (.ref T) "tuple":=⟨_,b,rfl⟩
 unfold Builtin.Dict.pairItems
 refine wpAny_bind (wpAny_typeOf ty ?_)
 show wpAny _ _ (seqItems? (.ref T)>>=fun v=>_) _ _ s
 exact wpAny_bind (wpAny_seqItems b rfl (wpAny_pure f))
theorem Cv{K:Type} [DecidableEq K] {knd:KeyKind prog w K}{d:Addr}{kvs:List (K × Value)}{k:K}{g v:Value}{Q:Unit ->Shared ->Prop}(f:knd.is k g=true)(h:s.heap.DictOf knd d kvs)
  (o:∀h',h'.DictOf knd d (stored kvs k v) ->Heap.SameBut d s.heap h' ->Q () {s with heap:=h',toks:=s.toks+1})(l:kvs.length<=sizeLine):wpAny (model prog w) A (dictSet d g v) Q E s:=by
 unfold dictSet
 first|refine wpAny_holding (wpAny_bind (knd.pyHash f ?_))|refine wpAny_bind (knd.pyHash f ?_)
 first|exact wpAny_dictSetHashed_pairs (s:={s with toks:=s.toks+1}) f h (fun h' a b=>o h' a b) l|exact wpAny_holding (wpAny_dictSetHashed_pairs (s:={s with toks:=s.toks+1}) f h (fun h' a b=>o h' a b) l)
theorem Fn{K:Type} [DecidableEq K] {knd:KeyKind prog w K}{z TI TO J I G C S:Addr}{xs ys:Array Value}{R:Result ->Shared ->Prop}(hh:A.handled=none)(D:ZipApart z TI TO J I G C)(f:S≠z/\ S≠TI/\ S≠TO/\ S≠J/\ S≠I/\ S≠G/\ S≠C)
  (h:Nat ->K)(L:∀i x,xs[i]? =some x ->knd.is (h i) x=true)(val:Nat ->Value)(M:∀i,i<xs.size ->ys[i]? =some (val i))(hs:xs.size<=1000):
  ∀(k i:Nat) (s:Shared) (kvs:List (K × Value)),xs.size - i=k ->i<=xs.size ->lN z TI TO J I G C i s.heap ->s.heap.IsTuple G xs ->s.heap.IsList C ys ->s.heap.DictOf knd S kvs ->kvs.length<=i ->
   (∀h' tk,(∀c o,c≠z ->c≠TO ->c≠J ->c≠I ->c≠S ->s.heap.get? c=some o ->h'.get? c=some o) ->h'.DictOf knd S ((dg i (xs.size - i)).foldl (fun m j=>stored m (h j) (val j)) kvs) ->R (.ok (.ret .none)) {s with heap:=h',toks:=tk}) ->
   codeAny (model prog w) A (.builtin "dict.update.loop" ⟨[.ref S,.ref z,rawInt i,.none],[]⟩) R s:=by
 intro k
 induction k with
 | zero=>
  intro i s kvs hk hi X g B hd N hR
  have e:i=xs.size:=by omega
  subst e
  refine codeAny_builtin F.entry_dict_update_loop ?_
  rw[Around.under_plainId F.plain_dict_update_loop _]
  show wpAny _ A.in1 (pyNext (.ref z)>>=fun v=>_) _ _ s
  refine wpAny_bind (Hf hh D X g (eY (bh _)) fun h' l=>?_)
  show wpAny _ _ (Builtin.Dict.addKeywords S []>>=fun _=>_) _ _ _
  refine wpAny_bind (wpAny_pure (wpAny_pure ?_))
  have P:h'.DictOf knd S kvs:=by
   obtain⟨o,O,W,e,r⟩:=hd
   exact⟨o,O,W,l S o f.1 f.2.2.2.1 e,r⟩
  have:=hR h' s.toks (fun c o Q _ U _ _ e=>l c o Q U e) (by rw[Nat.sub_self];exact P)
  exact this
 | succ k ih=>
  intro i s kvs hk hi X g B hd N hR
  have H:i<xs.size:=by omega
  refine codeAny_builtin F.entry_dict_update_loop ?_
  rw[Around.under_plainId F.plain_dict_update_loop _]
  show wpAny _ A.in1 (pyNext (.ref z)>>=fun v=>_) _ _ s
  have hx:=cE H
  refine wpAny_bind (Ho D X g B hx (M i H) fun h' a1 pr sz l=>?_)
  dsimp only
  have P:h'.DictOf knd S kvs:=by
   obtain⟨o,O,W,e,r⟩:=hd
   exact⟨o,O,W,l S o f.1 f.2.2.1 f.2.2.2.1 f.2.2.2.2.1 e,r⟩
  have Z:h'.IsTuple G xs:=nZ g fun o e=>l G o D.l1z D.l1TO D.l1i1 D.l1i2 e
  have a0:h'.IsList C ys:=B.at fun o e=>l C o D.l2z D.l2TO D.l2i1 D.l2i2 e
  refine wpAny_bind (wpAny_holding (wpAny_bind (wpAny_tryCatch (Dk pr (wpAny_holding (Cv (L i _ hx) P (fun q hq sq=>?_) (by rw[sizeLine_eq];omega)))))))
  have e1:rawInt ((i:Int)+1)=rawInt ((i+1:Nat):Int):=by congr 1
  rw[e1]
  have Y:lN z TI TO J I G C (i+1) q:=by
   obtain⟨z0,z1,⟨a,b,z2⟩,z3,z4⟩:=a1
   rw[if_neg (by omega)] at z0
   obtain⟨T,b1,oT,hz,hT,t1,t2,t3,t4⟩:=z0
   have nT:T≠S:=fun e=>by
    obtain⟨o,O,W,eo,ex,_⟩:=P
    rw[e,eo] at hT
    cases hT
    have q:=ex.1
    rw[t4] at q
    injection q with q
    exact absurd q (by decide)
   refine⟨?_,sq.extBut _ _ f.2.1.symm z1,⟨a,b,sq.extBut _ _ f.2.2.1.symm z2⟩,nY z3 fun o e=>sq.extBut _ _ f.2.2.2.1.symm e,z4.at fun o e=>sq.extBut _ _ f.2.2.2.2.1.symm e⟩
   rw[if_neg (by omega)]
   exact⟨T,b1,oT,sq.extBut _ _ f.1.symm hz,sq.extBut _ _ nT hT,t1,t2,t3,t4⟩
  refine wpAny_pure ⟨plainId_quiet F.plain_dict_update_loop _,ih (i+1) _ _ (by omega) H Y (nZ Z fun o e=>sq.extBut _ _ f.2.2.2.2.2.1.symm e) (a0.at fun o e=>sq.extBut _ _ f.2.2.2.2.2.2.symm e) hq (by have:=stored_length_le kvs (h i) (val i);omega) fun u tk ku du=>?_⟩
  refine hR u tk (fun c o Q c2 U c4 c5 e=>ku c o Q c2 U c4 c5 (sq.extBut _ _ c5 (l c o Q c2 U c4 e))) ?_
  have e2:xs.size - i=(xs.size - (i+1))+1:=by omega
  rw[e2,eJ,eU]
  exact du
end
end PySem
namespace PySem
open Sem (wp)
abbrev zA(h:Heap)(l1:Addr):Heap:=h.push {cls:=.type "tuple_iterator",data:=.fields #[.ref l1,.int 0 0]}
abbrev zB(h:Heap)(l1 l2:Addr):Heap:=(zA h l1).push {cls:=.type "list_iterator",data:=.fields #[.ref l2,.int 0 0]}
abbrev zC(h:Heap)(l1 l2:Addr):Heap:=(zB h l1 l2).push {cls:=.type "tuple",data:=.seq #[.ref h.objs.size,.ref (zA h l1).objs.size]}
abbrev zD(h:Heap)(l1 l2:Addr):Heap:=(zC h l1 l2).push {cls:=.type "tuple",data:=.seq #[.none,.none]}
abbrev zE(h:Heap)(l1 l2:Addr):Heap:=(zD h l1 l2).push {cls:=.type "zip",data:=.fields #[.none,.bool false,.bool false,.ref (zB h l1 l2).objs.size,.ref (zC h l1 l2).objs.size]}
theorem Hu(f l:Addr)(xs ys:Array Value):
  Meets (Builtin.«zip.__new__» ⟨[.type "zip",.ref f,.ref l],[]⟩) (fun _ R s=>s.heap.IsTuple f xs/\ s.heap.IsList l ys/\ R (.ok (.ret (.ref (zD s.heap f l).objs.size))) {s with heap:=zE s.heap f l}):=
 .of_wp fun o w A R s h=>by
  obtain⟨z,g,d,tk,B⟩:=s
  obtain⟨a,b,q⟩:=h
  have D:(Shared.heap ⟨z,g,d,tk,B⟩).IsTuple f xs:=a
  have C:(Shared.heap ⟨zA z f,g,d,tk,B⟩).IsList l ys:=Heap.IsList.push b _
  have sz:=sub_zip
  wp_walk using wpAny_pyIter_tuple D,wpAny_pyIter_list C
  exact⟨_,rfl,q⟩
section
variable {prog:Program} {w:World} {A:Around} {E:Value ->Shared ->Prop} {s:Shared}
theorem Dx{l B:Addr}{xs ys:Array Value}{Q:Value ->Shared ->Prop}(a:s.heap.IsTuple l xs)(b:s.heap.IsList B ys)
  (k:∀h' z TI TO J C,ZipApart z TI TO J C l B ->lN z TI TO J C l B 0 h' ->s.heap.objs.size<=z ->s.heap.objs.size<=TI ->s.heap.objs.size<=TO ->s.heap.objs.size<=J ->s.heap.objs.size<=C ->h'.objs.size=s.heap.objs.size+5 ->(∀c o,s.heap.get? c=some o ->h'.get? c=some o) ->Q (.ref z) {s with heap:=h'}):
  wpAny (model prog w) A (call (.type "zip") [.ref l,.ref B]) Q E s:=by
 refine callType_new F.called_zip (by decide) (F.typeCall_zip_2 _ _) (F.newCall_zip_2 _ _) (fun I=>F.args_object_init_3 I _ _) F.entry_zip_new (Hu l B xs ys) ⟨a,b,?_⟩
 have K:(zA s.heap l).objs.size=s.heap.objs.size+1:=cC ..
 have L:(zB s.heap l B).objs.size=s.heap.objs.size+2:=by rw[cC,K]
 have D:(zC s.heap l B).objs.size=s.heap.objs.size+3:=by rw[cC,L]
 have H:(zD s.heap l B).objs.size=s.heap.objs.size+4:=by rw[cC,D]
 have T:(zE s.heap l B).objs.size=s.heap.objs.size+5:=by rw[cC,H]
 have G:(zE s.heap l B).get? (zD s.heap l B).objs.size=some _:=bu _ rfl
 have M:(zE s.heap l B).get? (zC s.heap l B).objs.size=some _:=aY _ (bu _ rfl)
 have O:(zE s.heap l B).get? (zB s.heap l B).objs.size=some _:=aY _ (aY _ (bu _ rfl))
 have P:(zE s.heap l B).get? (zA s.heap l).objs.size=some _:=aY _ (aY _ (aY _ (bu _ rfl)))
 have U:(zE s.heap l B).get? s.heap.objs.size=some _:=aY _ (aY _ (aY _ (aY _ (bu _ rfl))))
 have la:l<s.heap.objs.size:=by obtain⟨_,e,_⟩:=a;exact bq e
 have S:B<s.heap.objs.size:=by obtain⟨_,e,_⟩:=b;exact bq e
 have W:∀c o,s.heap.get? c=some o ->(zE s.heap l B).get? c=some o:=fun c o x=>aY _ (aY _ (aY _ (aY _ (aY _ x))))
 rw[H,L,D] at G
 rw[D] at M
 rw[L,K] at O
 rw[K] at P
 generalize zE s.heap l B=g at*
 generalize hN:s.heap.objs.size=N at*
 show _/\ _
 rw[H]
 refine⟨⟨_,G,rfl⟩,k _ (N+4) (N+2) (N+3) N (N+1) ?_ ⟨?_,O,⟨_,_,M⟩,⟨_,U,rfl,rfl⟩,⟨_,P,rfl,rfl⟩⟩ (by omega) (by omega) (by omega) (bh _) (by omega) T W⟩
 ·have X: @LT.lt Nat _ l N:=la
  have R: @LT.lt Nat _ B N:=S
  have f:∀{a b:Nat},a<b∨b<a ->a≠b:=fun h=>by omega
  exact⟨f (.inl (by omega)),f (.inl (by omega)),f (.inl (by omega)),f (.inl (by omega)),f (.inl (by omega)),f (.inr (by omega)),f (.inr (by omega)),f (.inr (by omega)),f (.inr (by omega)),f (.inl (by omega)),f (.inl (by omega)),f (.inl (by omega)),f (.inl (by omega)),f (.inl (by omega)),f (.inl (by omega)),f (.inl (by omega)),f (.inl (by omega)),f (.inl (by omega))⟩
 ·rw[if_pos rfl]
  exact G
theorem yF{K:Type} [DecidableEq K] {knd:KeyKind prog w K}{z TI TO J C l h:Addr}{xs ys:Array Value}{Q:Value ->Shared ->Prop}(O:A.handled=none)(D:ZipApart z TI TO J C l h)(st:lN z TI TO J C l h 0 s.heap)
  (a:s.heap.IsTuple l xs)(b:s.heap.IsList h ys)(g:Nat ->K)(H:∀i x,xs[i]? =some x ->knd.is (g i) x=true)(val:Nat ->Value)(I:∀i,i<xs.size ->ys[i]? =some (val i))(hs:xs.size<=1000)
  (k:∀h' tk,(∀c o,c≠z ->c≠TO ->c≠J ->c≠C ->s.heap.get? c=some o ->h'.get? c=some o) ->h'.DictOf knd s.heap.objs.size ((dg 0 xs.size).foldl (fun m j=>stored m (g j) (val j)) []) ->Q (.ref s.heap.objs.size) {s with heap:=h',toks:=tk}):
  wpAny (model prog w) A (call (.type "dict") [.ref z]) Q E s:=by
 refine callType_codes (Q₁:=fun v f=>v=.ref s.heap.objs.size/\ f={s with heap:=s.heap.push {cls:=.type "dict",data:=.dict #[]}}) F.kt_called_dict (F.kt_typeCall_dict_1 _) F.entry_dict_init (kt_code_dict_new _ ⟨rfl,rfl⟩) ?_
 rintro v f ⟨rfl,rfl⟩
 have M:(s.heap.push {cls:=.type "dict",data:=.dict #[]}).DictOf knd s.heap.objs.size []:=Heap.DictOf.new s.heap
 have lt:∀{c o},s.heap.get? c=some o ->s.heap.objs.size≠c:=fun e=>dM (bq e)
 have N:=st.keep (h':=s.heap.push {cls:=.type "dict",data:=.dict #[]}) fun c o e=>aY _ e
 obtain⟨G,z1,⟨a1,b1,W⟩,U,P⟩:=id st
 rw[if_pos rfl] at G
 have S:s.heap.objs.size≠z/\ s.heap.objs.size≠TI/\ s.heap.objs.size≠TO/\ s.heap.objs.size≠J/\ s.heap.objs.size≠C/\ s.heap.objs.size≠l/\ s.heap.objs.size≠h:=
  ⟨lt G,lt z1,lt W,by obtain⟨_,e,_⟩:=U;exact lt e,by obtain⟨_,e,_⟩:=P;exact lt e,by obtain⟨_,e,_⟩:=a;exact lt e,by obtain⟨_,e,_⟩:=b;exact lt e⟩
 have R:(Shared.TypeIs {s with heap:=s.heap.push {cls:=.type "dict",data:=.dict #[]}} (.ref z) "zip"):=⟨_,aY _ G,rfl⟩
 refine⟨M.typeIs,F.args_dict_init_2 _ _,?_⟩
 unfold Builtin.«dict.__init__»
 refine wpAny_bind ?_
 unfold Builtin.Dict.selfAndRest
 refine wpAny_bind (wpAny_notOrdered_dict M.typeIs (wpAny_pure ?_))
 show wpAny _ _ (Builtin.Dict.updateFrom "dict.__init__" s.heap.objs.size (.ref z) [] .none) _ _ _
 unfold Builtin.Dict.updateFrom
 refine wpAny_bind (wpAny_typeOf R ?_)
 rw[if_pos (by decide)]
 refine wpAny_bind (Fu O (aY _ G) fun h' tk B=>?_)
 rw[show(none:Option Value).isNone=true from rfl,if_pos rfl]
 have zk:IsZip h' z TI TO .none:=B _ _ (aY _ G)
 have sk:lN z TI TO J C l h 0 h':=N.keep fun c o e=>B c o e
 have dk:h'.DictOf knd s.heap.objs.size []:=by
  obtain⟨o,T,ep,e,r⟩:=M
  exact⟨o,T,ep,B _ _ e,r⟩
 have ak:h'.IsTuple l xs:=nZ a fun o e=>B _ _ (aY _ e)
 have bk:h'.IsList h ys:=b.at fun o e=>B _ _ (aY _ e)
 refine wpAny_bind (wpAny_rule (wpAny_bind (wpAny_pyIter_zip zk (wpAny_pure ⟨plainId_quiet F.plain_dict_update_loop _,?_⟩))))
 refine Fn (A:=A.in1) O D S g H val I hs xs.size 0 {s with heap:=h',toks:=tk} [] (fC _) (cf _) sk ak bk dk (bh _) fun u L Z du=>?_
 refine⟨rfl,?_⟩
 exact k u L (fun c o c1 Y c3 X e=>Z c o c1 Y c3 X (Ne.symm (lt e)) (B _ _ (aY _ e))) du
end
end PySem
namespace L2
open PySem PySem.Spec PyProof.Rows
def lX:List Str ->List V ->List (Key × V) ->List (Key × V)
 |k::ks,v::vs,m=>lX ks vs (kL m (.inr k) v)
 |_,_,m=>m
def Fz(K:aW)(ta:TA):TE:=fun σ H Q=>ta σ H fun vs H1=>match vs with
 |[.ref a,.ref b]=>∃(ks:List Str) (ys:List V),SqT K H1 a (ks.map V.str)/\ SqL K H1 b ys/\ ys.length=ks.length/\ ks.length<=1000/\ ∀d H',New H1 d (.dK (lX ks ys [])) H' ->Q (.ref d) H'
 |_=>False
theorem rh:∀(b:List Str) (ys:List V) (m:List (Key × V)),(lX b ys m).length<=m.length+b.length
 |[],_,m=>dm _ _
 |_::_,[],m=>dm _ _
 |k::b,v::vs,m=>by
  have h:=rh b vs (kL m (.inr k) v)
  have f:=nV m (Sum.inr k:Key) v
  show(lX b vs (kL m (.inr k) v)).length<=m.length+(b.length+1)
  omega
theorem yV{f:List Str}{ys:List V}{b:List Value}(r:iz ys b)(A:ys.length=f.length):∀(n i:Nat) (kvs:List (Key × V)) (vs:List (Key × Value)),KV kvs vs ->i+n=f.length ->
  KV (lX (f.drop i) (ys.drop i) kvs) ((dg i n).foldl (fun m j=>stored m (Sum.inr (f.getD j Str.empty):Key) (b.getD j .none)) vs)
 |0,i,kvs,vs,h,e=>by
  rw[List.drop_of_length_le (by omega)]
  cases ys.drop i<;>exact h
 | n+1,i,kvs,vs,h,e=>by
  have o:i<f.length:=by omega
  have g:i<ys.length:=by omega
  have w:i<b.length:=by rw[←r.length];exact g
  rw[cK o,cK g,eJ,eU]
  have B:f.getD i Str.empty=f[i]:=by rw[dt,bg o];rfl
  have D:b.getD i .none=b[i]:=by rw[dt,bg w];rfl
  have z:iB ys[i] b[i]:=by
   obtain⟨u,l,C⟩:=r.get (bg g)
   rw[bg w] at l
   cases l
   exact C
  rw[B,D]
  exact yV r A n (i+1) _ _ (h.put (Sum.inr f[i]:Key) z) (by omega)
section
variable {X:Cx}
theorem Ce{a b:Expr}{ta:TA}{p O pos f:Pos}(U:Gl X "dict")(a2:X.mg "dict"=none)(S:Gl X "zip")(a3:X.mg "zip"=none)(ha:PA X [a,b] ta)(hc:X.calm=true:=by rfl)
  (hs:starEach [a,b] X.env=(false,eval a X.env)::starEach [b] X.env:=by rfl)(W:(backTo f (starEach [b] X.env)).any (·.1)=false:=by rfl)
  (J:starEach [.Call (.Name "zip" O) [a,b] [] f] X.env=[(false,eval (.Call (.Name "zip" O) [a,b] [] f) X.env)]:=by rfl):
  PE X (.Call (.Name "dict" p) [.Call (.Name "zip" O) [a,b] [] f] [] pos) (Fz X.K ta):=by
 intro gW s σ H Q I h
 refine wpAny_Call_Name_kw (mj I U a2 PyProof.Rows.boot_dict (PyProof.Rows.callWith_type1 ?_ J rfl))
 rw[J]
 show wpAny _ _ (spliced [(false,eval (.Call (.Name "zip" O) [a,b] [] f) X.env)]) _ _ s
 refine Calls.spliced_cons (Call_ (mj I S a3 boot_zip (PyProof.Rows.callWith_type1 (thn (ha f gW s σ H _ I h) fun us s1 ⟨vs,H1,M,r1,R⟩=>?_) hs W)))
 dsimp only at R
 split at R
 ·rename_i l1 l2
  obtain⟨l,ys,T,a1,hl,a0,q⟩:=R
  obtain⟨u,v,rfl,ru,rv⟩:=wd r1
  cases (show u=Value.ref l1 from ru)
  cases (show v=Value.ref l2 from rv)
  obtain⟨B,w1,t1,_⟩:=M.tuple T
  obtain⟨g,w2,t2,_⟩:=M.list a1
  have E:B.length=l.length:=by rw[←w1.length,aX]
  have a4:g.length=ys.length:=w2.length.symm
  refine Dx t1 t2.isList fun N z TI TO i1 i2 D st z1 z2 z3 z4 z5 C Z=>Calls.spliced_nil ?_
  refine yF (s:={s1 with heap:=N}) (knd:=jn X.prog X.w) (I.ok.hd hc) D st (nZ t1 fun o e=>Z _ o e) (t2.isList.at fun o e=>Z _ o e) (fun j=>(Sum.inr (l.getD j Str.empty):Key)) ?_ (fun j=>g.getD j .none) ?_ (by rw[bR];omega) fun F tk kp dd=>?_
  ·intro i x hx
   rw[fc] at hx
   have P:i<l.length:=by rw[←E];exact(aZ.mp hx).1
   obtain⟨y,hy,ry⟩:=w1.get (i:=i) (x:=V.str l[i]) (by rw[bi,bg P];rfl)
   rw[hx] at hy
   cases hy
   have e1:l.getD i Str.empty=l[i]:=by rw[dt,bg P];rfl
   rw[e1]
   exact oB (k:=.inr l[i]) ry
  ·intro i P
   rw[bR] at P
   have L:i<g.length:=by omega
   rw[fc,bg L,dt,bg L]
   rfl
  ·have Y:∀c o,s1.heap.get? c=some o ->F.get? c=some o:=fun c o e=>by
    have A:=bq e
    exact kp c o (bD (bp A z1)) (bD (bp A z3)) (bD (bp A z4)) (bD (bp A z5)) (Z c o e)
   have big:sysModules<N.objs.size:=bp M.big (by rw[C];exact dm _ _)
   have fD:H1 N.objs.size=none:=M.hok.fresh (by rw[C];exact dm _ _)
   have G:=yV w2 hl l.length 0 [] [] .nil (gb _)
   have dd:F.DictOf (jn X.prog X.w) N.objs.size ((dg 0 l.length).foldl (fun m j=>stored m (Sum.inr (l.getD j Str.empty):Key) (g.getD j .none)) []):=by
    have e:B.toArray.size=l.length:=by rw[bR,E]
    rw[←e]
    exact dd
   rw[ek,ek] at G
   refine⟨.ref _,upd H1 _ (.dK (lX l ys [])),M.laid (t':=tk) Y (by rw[C];exact dm _ _) (yL ?_ (beq_eq_false_iff_ne.mpr (Ne.symm (bD big))) G dd),rfl,q _ _ (.mk' fD)⟩
   have:=rh l ys []
   rw[sizeLine_eq]
   have h0:([]:List (Key × V)).length=0:=rfl
   omega
 ·exact R.elim
end
end L2
namespace L2
open PySem PySem.Spec PyProof.Rows Builtin Builtin.Str
theorem subAt_one(l:List Nat)(c i:Nat):subAt (tx l) (tx [c]) i=decide (l[i]? =some c):=by
 have o:(tx [c]).length=1:=rfl
 have g:((tx l).cps.extract i (i+1)).toList=(l.drop i).take 1:=by
  rw[eE,jt]
  simp[List.extract]
 unfold subAt
 rw[o]
 by_cases h:l[i]? =some c
 ·rw[decide_eq_true h]
  have w:=(aZ.mp h).1
  refine beq_iff_eq.mpr (Array.toList_inj.mp ?_)
  rw[g,cK w,(aZ.mp h).2]
  rfl
 ·rw[decide_eq_false h]
  refine beq_eq_false_iff_ne.mpr fun e=>h ?_
  have f:=congrArg gO e
  rw[g] at f
  have z:(l.drop i).take 1=[c]:=f
  have b:(l.drop i)[0]? =some c:=by
   have:=congrArg (fun x=>x[0]?) z
   rw[show((l.drop i).take 1)[0]? =(l.drop i)[0]? from dA (by decide)] at this
   exact this
  rw[dj] at b
  exact b
theorem vC(l:List Nat)(c:Nat):∀(n a:Nat) (b:Array Nat) (free:Nat),a+n=l.length+1 ->free<=a ->b.size<=a ->
  (forIn (dg a n) (b,free) (StrLaws.occBody (tx l) (tx [c]) l.length (l.length+1))).run.fst.toList=b.toList++(dg a n).filter fun i=>decide (l[i]? =some c)
 |0,a,b,free,_,_,_=>by simp
 | n+1,a,b,free,e,hf,hs=>by
  rw[eJ,dX,cJ]
  unfold StrLaws.occBody
  by_cases h:l[a]? =some c
  ·have ha:=(aZ.mp h).1
   rw[if_pos ⟨⟨⟨by show b.size<l.length+1;omega,hf⟩,by show a+1<=l.length;omega⟩,by rw[subAt_one];exact decide_eq_true h⟩,if_pos (decide_eq_true h)]
   have ih:=vC l c n (a+1) (b.push a) (a+1) (by omega) (bh _) (by rw[Array.size_push];omega)
   refine ih.trans ?_
   rw[fN,dF]
   rfl
  ·rw[if_neg (fun z=>h (of_decide_eq_true ((subAt_one l c a).symm.trans z.2))),if_neg (by rw[decide_eq_false h];decide)]
   exact vC l c n (a+1) b free (by omega) (by omega) (by omega)
theorem Ju(l:List Nat)(c:Nat):occurrences (tx l) (tx [c]) 0 (tx l).length ((tx l).length+1)=(dg 0 (l.length+1)).filter fun i=>decide (l[i]? =some c):=by
 rw[StrLaws.occ_eq,iK]
 exact vC l c (l.length+1) 0 #[] 0 (gb _) (bh _) (bh _)
def jj(c:Nat):List Nat ->List (List Nat)
 |[]=>[[]]
 |x::r=>if x=c then []::jj c r else match jj c r with|[]=>[[x]]|p::q=>(x::p)::q
theorem mE{c x:Nat}(r:List Nat):jj c (x::r)=if x=c then []::jj c r else match jj c r with|[]=>[[x]]|p::q=>(x::p)::q:=rfl
theorem lw{c:Nat}:∀{l:List Nat},c∉l ->jj c l=[l]
 |[],_=>rfl
 |x::r,h=>by
  have b:x≠c:=fun e=>h (by rw[e];exact bj)
  rw[mE,if_neg b,lw fun z=>h (bc _ z)]
theorem mW{c:Nat}{v:List Nat}:∀{u:List Nat},c∉u ->jj c (u++c::v)=u::jj c v
 |[],_=>by
  show jj c (c::v)=_
  rw[mE,if_pos rfl]
 |x::r,h=>by
  have b:x≠c:=fun e=>h (by rw[e];exact bj)
  show jj c (x::(r++c::v))=_
  rw[mE,if_neg b,mW fun z=>h (bc _ z)]
theorem mO(l:List Nat)(a b:Nat):strSub (tx l) a b=tx ((l.drop a).take (b - a)):=wz (by
 show((tx l).cps.extract a b).toList=_
 rw[eE,jt])
theorem rk(l:List Nat)(c:Nat):∀(n a s:Nat),a+n=l.length+1 ->s<=a ->s<=l.length ->(∀i,s<=i ->i<a ->l[i]?≠some c) ->
  StrLaws.partsFrom (tx l) 1 s ((dg a n).filter fun i=>decide (l[i]? =some c))=(jj c (l.drop s)).map tx
 | 0,a,s,e,hs,hl,hn=>by
  have g:c∉l.drop s:=fun z=>by
   obtain⟨i,b⟩:=bF.mp z
   rw[dj] at b
   have:=(aZ.mp b).1
   exact hn (s+i) (by omega) (by omega) b
  rw[lw g]
  show [strSub (tx l) s (tx l).length]=[tx (l.drop s)]
  rw[mO,iK,cM (by rw[dB];exact bh _)]
 | n +1,a,s,e,hs,hl,hn=>by
  rw[eJ,cJ]
  by_cases h:l[a]? =some c
  ·have ha:=(aZ.mp h).1
   rw[if_pos (decide_eq_true h)]
   show strSub (tx l) s a::StrLaws.partsFrom (tx l) 1 (a+1) _=_
   rw[rk l c n (a+1) (a+1) (by omega) (bh _) (by omega) (fun i h1 C=>by omega),mO]
   have g:c∉(l.drop s).take (a - s):=fun z=>by
    obtain⟨i,b⟩:=bF.mp z
    have f:=(aZ.mp b).1
    rw[bW] at f
    rw[dA (by omega),dj] at b
    exact hn (s+i) (by omega) (by omega) b
   have A:l.drop s=(l.drop s).take (a - s)++c::l.drop (a+1):=by
    have B:(l.drop s).drop (a - s)=c::l.drop (a+1):=by
     rw[List.drop_drop,show s+(a - s)=a by omega,cK ha,(aZ.mp h).2]
    rw[←B,dQ]
   have w:=mW (v:=l.drop (a+1)) g
   rw[←A] at w
   rw[w]
   rfl
  ·rw[if_neg (by rw[decide_eq_false h];decide)]
   refine rk l c n (a+1) s (by omega) (by omega) hl fun i h1 C=>?_
   rcases Nat.lt_or_ge i a with o|o
   ·exact hn i h1 o
   ·rw[show i=a by omega]
    exact h
theorem GH{c:Nat}(h:c<256):Builtin.Str.strKind (tx [c])=1:=by
 unfold Builtin.Str.strKind
 rw[if_pos]
 simp[tx,h]
theorem yN(x:Str):1<=Builtin.Str.strKind x:=by
 unfold Builtin.Str.strKind
 split
 ·exact bh _
 ·split<;>decide
theorem zX(l:List Nat){c:Nat}(h:c<256):Txt.split (tx l) (tx [c])=(jj c l).map tx:=by
 have all:=rk l c (l.length+1) 0 0 (gb _) (bh _) (cf _) (fun i h1 b=>by omega)
 rw[ek] at all
 unfold Txt.split
 rw[Ju]
 by_cases h1:(decide ((tx l).length<(tx [c]).length) || decide (Builtin.Str.strKind (tx l)<Builtin.Str.strKind (tx [c])))=true
 ·rw[if_pos h1]
  rw[GH h,iK,iK] at h1
  have:=yN (tx l)
  have f:l=[]:=by
   rcases Bool.or_eq_true_iff.mp h1 with z|z
   ·have o:=of_decide_eq_true z
    have g:([c]:List Nat).length=1:=rfl
    exact eO.mp (by omega)
   ·have:=of_decide_eq_true z
    omega
  subst f
  rfl
 ·rw[if_neg h1]
  by_cases b:((dg 0 (l.length+1)).filter fun i=>decide (l[i]? =some c)).isEmpty=true
  ·rw[if_pos b]
   rw[List.isEmpty_iff.mp b] at all
   refine Eq.trans ?_ all
   show [tx l]=[strSub (tx l) 0 (tx l).length]
   rw[mO,iK,ek,fC,cg]
  ·rw[if_neg b,StrLaws.partsBetween_eq]
   exact all
def ji(l:List Nat):List (List Nat):=(jj 32 l).filter fun p=> !p.isEmpty
theorem sI(l:List Nat):ji (32::l)=ji l:=by
 unfold ji
 have:jj 32 (32::l)=[]::jj 32 l:=by
  rw[mE,if_pos rfl]
 rw[this]
 rfl
theorem wm{u:List Nat}(h:32∉u)(b:u≠[]):ji u=[u]:=by
 unfold ji
 rw[lw h]
 cases u with
 |nil=>exact absurd rfl b
 |cons a r=>rfl
theorem nQ{u l:List Nat}(h:32∉u)(b:u≠[]):ji (u++32::l)=u::ji l:=by
 unfold ji
 rw[mW h]
 cases u with
 |nil=>exact absurd rfl b
 |cons a r=>rfl
theorem kZ(l:List Nat):∀n:Nat,ji (bA n 32++l)=ji l
 |0=>rfl
 |n+1=>by
  rw[eK]
  exact(sI _).trans (kZ l n)
def ud(k n:Nat):List (List Nat) ->List Nat
 |[]=>bA n 32
 |[u]=>u++bA n 32
 |u::v::r=>u++(bA (k+1) 32++ud k n (v::r))
theorem uM{k n:Nat}:∀{us:List (List Nat)},(∀u∈us,32∉u/\ u≠[]) ->ji (ud k n us)=us
 |[],_=>by
  have:=kZ [] n
  rw[cT] at this
  exact this
 | [u],h=>by
  obtain⟨h1,b⟩:=h u bj
  show ji (u++bA n 32)=[u]
  cases n with
  |zero=>rw[List.replicate_zero,cT,wm h1 b]
  |succ n=>
   rw[eK,nQ h1 b]
   have:=kZ [] n
   rw[cT] at this
   rw[this]
   rfl
 |u::v::r,h=>by
  obtain⟨h1,b⟩:=h u bj
  have ih:=uM (k:=k) (n:=n) (us:=v::r) fun x f=>h x (bc _ f)
  show ji (u++(bA (k+1) 32++ud k n (v::r)))=_
  rw[eK,List.cons_append,nQ h1 b,kZ,ih]
theorem GQ{X:Cx}:OpR X (compareOp .In) (fun x y H Q=>∃c l,x=.str (tx [c])/\ y=.str (tx l)/\ Q (.bl (decide (c∈l))) H):=by
 intro o s g H x y v u Q I b f h
 obtain⟨c,l,rfl,rfl,q⟩:=h
 refine Fi o s g H _ _ v u Q I b f ⟨_,_,rfl,rfl,?_⟩
 have e:=StrLaws.found_one (tx l) c
 rw[jt,show(⟨#[c]⟩:Str)=tx [c] from rfl] at e
 rw[e]
 exact q
theorem uE{K:aW}{a D:Addr}{xs:List V}{f:St}{tc:CB ->TT}{A:CB ->TE}{Q:VK}{w:Hp}(g:Nat ->List V ->Hp ->Prop)(h0:g 0 [] w)(o:∀i ys H,i<=xs.length ->g i ys H ->SqL K H a xs)
  (E:∀i x ys H z,xs[i]? =some x ->g i ys H ->tc z (some x::f) H fun b l=>if b=true then A z (some x::f) l (sC D ys (g (i+1))) else g (i+1) ys l)(G:∀ys H,g xs.length ys H ->Q (.ref D) H):
  zF (Itl K a) D f tc A Q w:=by
 refine⟨fun i m ys H=>m=xs.length - i/\ i<=xs.length/\ g i ys H,⟨xs.length,by simp,cf _,h0⟩,?_⟩
 rintro i m ys H ⟨rfl,B,p⟩
 by_cases hlt:i<xs.length
 ·refine .inr ⟨⟨xs,xs[i],o i ys H B p,by simp[hlt]⟩,fun x J y z=>?_⟩
  obtain⟨e,y⟩:=y
  subst e
  have F:=y xs (o i ys _ B p)
  have I:∀l,(∃C,C<xs.length - i/\ C=xs.length - (i+1)/\ i+1<=xs.length/\ g (i+1) ys l)=g (i+1) ys l:=fun l=>propext ⟨fun⟨_,_,_,_,h⟩=>h,fun h=>⟨_,by omega,rfl,hlt,h⟩⟩
  rw[xq hlt g]
  simp only[I]
  exact E i x ys _ z F p
 ·obtain rfl:i=xs.length:=by omega
  exact .inl ⟨⟨xs,o _ ys H (bh _) p,by simp⟩,G ys H p⟩
theorem wu(c:Nat):∀l:List Nat,(jj c l).length<=l.length+1
 |[]=>bh _
 | x::r=>by
  have ih:=wu c r
  rw[mE]
  split
  ·rw[bE,bE]
   omega
  ·split
   ·simp
   ·rename_i p q e
    rw[e,bE] at ih
    rw[bE,bE]
    omega
end L2
namespace PySem
open Sem (wp)
section
variable {prog:Program} {w:World} {A:Around} {E:Value ->Shared ->Prop}
end
end PySem
namespace L2
open PySem PySem.Spec PyProof.Rows
section
variable {X:Cx} {pos:Pos}
theorem jB{b g:Type}(f:b ->g):∀(xs:List b) (j:Nat),(xs.eraseIdx j).map f=(xs.map f).eraseIdx j
 |[],_=>rfl
 |_::_,0=>rfl
 |x::xs,j+1=>by
  show f x::(xs.eraseIdx j).map f=f x::(xs.map f).eraseIdx j
  rw[jB f xs j]
end
def jm(sep:List Nat):List (List Nat) ->List Nat
 |[]=>[]
 |p::r=>p++r.flatMap (sep++·)
theorem xF(b:List Nat):∀(r:List (List Nat)) (p:List Nat),(r.map tx).foldl (fun acc q=>acc++(tx b).cps++q.cps) p.toArray=(p++r.flatMap (b++·)).toArray
 |[],p=>by simp
 |q::r,p=>by
  rw[bH,eU,show p.toArray++(tx b).cps++(tx q).cps=(p++b++q).toArray by simp[tx],xF b r]
  simp
theorem Ai(b:List Nat)(ps:List (List Nat)):Builtin.Str.glued (tx b) (ps.map tx)=tx (jm b ps):=by
 cases ps with
 |nil=>rfl
 |cons p r=>
  have:=xF b r p
  unfold Builtin.Str.glued
  show Str.mk (((List.map tx r)).foldl _ (tx p).cps)=_
  rw[show(tx p).cps=p.toArray from rfl,this]
  rfl
theorem xI(b:List Nat){m:Nat}:∀{ps:List (List Nat)},(∀p∈ps,p.length<=m) ->(jm b ps).length<=ps.length*(m+b.length)
 |[],_=>cf _
 | p::r,h=>by
  have f:=h p bj
  have:∀{r:List (List Nat)},(∀p∈r,p.length<=m) ->(r.flatMap (b++·)).length<=r.length*(m+b.length):=by
   intro r
   induction r with
   |nil=>intro _;exact cf _
   |cons q r ih=>
    intro h
    have h1:=h q bj
    have g:=ih fun p f=>h p (bc _ f)
    rw[List.flatMap_cons,bf,bf,bE,gk]
    omega
  have g:=this fun p f=>h p (bc _ f)
  show(p++r.flatMap (b++·)).length<=(r.length+1)*(m+b.length)
  rw[bf,gk]
  omega
theorem LR(b:List Nat){m:Nat}:∀{ps:List (List Nat)} (_:∀p∈ps,p.length<=m) (a:Nat),(ps.map tx).foldl (fun l g=>l+g.length+(tx b).length) a<=a+ps.length*(m+b.length)
 |[],_,a=>by simp
 |p::r,h,a=>by
  have f:=h p bj
  have ih:=LR b (ps:=r) (fun p f=>h p (bc _ f)) (a+(tx p).length+(tx b).length)
  rw[bH,eU,bE,gk]
  rw[iK,iK] at ih
  refine bL (by rw[iK,iK];exact ih) ?_
  omega
section
variable {X:Cx}
def Ev(K:aW):V ->List V ->Hp ->VK ->Prop:=fun x vs H Q=>match x,vs with
 | .str s,[.ref l]=>∃(sep:List Nat) (ps:List (List Nat)),s=tx sep/\ SqL K H l (ps.map fun p=>.str (tx p))/\ ps.length<=50/\ (∀p∈ps,p.length<=1500)/\ sep.length<=10/\ Q (.str (tx (jm sep ps))) H
 |_,_=>False
theorem Bw:MtM X "str.join" (Ev X.K):=by
 intro T s W H x U v S Q I O D h
 unfold Ev at h
 split at h
 ·obtain⟨b,o,rfl,N,J,B,L,q⟩:=h
  obtain⟨t,rfl⟩:=O
  obtain⟨u,rfl,R⟩:=kr D
  cases (show u=Value.ref _ from R)
  obtain⟨E,w,G,_⟩:=I.list N
  rw[show(o.map fun p=>V.str (tx p))=(o.map tx).map V.str by rw[bM];rfl] at w
  obtain⟨l,rfl,f⟩:=BA w
  have Y:100000<=sizeLine:=by decide
  have A:o.length*(1500+b.length)<=50*1510:=fH J (by omega)
  refine call_meets fW (typeIs_str s _ t) PySem.F.entry_str_join (PySem.F.args_str_join_2 _ _) (meets_str_join_list _ t _ l ?_) ⟨G.isList,?_⟩
  ·rw[f]
   have:=LR b B 0
   refine decide_eq_false ?_
   rw[List.foldl_toArray]
   omega
  ·have C:∀n,(Builtin.Str.glued (tx b) (o.map tx)).length=n ->n<=sizeLine:=fun n P=>by
    rw[Ai,iK] at P
    have:=xI b B
    omega
   match l,f with
   |[],f=>
    have z:o=[]:=by simpa using f.symm
    subst z
    exact⟨C _ rfl,⟨.str _,H,I.tok _,⟨_,rfl⟩,q⟩⟩
   | [p],f=>
    obtain⟨g,rfl,z⟩:∃g,o=[g]/\ tx g=p.1:=by
     cases o with
     |nil=>cases f
     |cons g r=>
      cases r with
      |nil=>exact⟨g,rfl,((List.cons.inj f).1).symm⟩
      |cons _ _=>simp at f
    refine⟨.str p.1,H,I,⟨_,rfl⟩,?_⟩
    rw[←z]
    have M:jm b [g]=g:=by simp[jm]
    rw[M] at q
    exact q
   |p::p'::r,f=>
    rw[←Ai] at q
    show _/\ _
    rw[f]
    exact⟨C _ rfl,⟨.str _,H,I.tok _,⟨_,rfl⟩,q⟩⟩
 ·exact h.elim
def HK:R2:=fun x y H Q=>match x,y with
 | .str s,.int n=>∃(l:List Nat) (k:Nat),s=tx l/\ n=(k:Int)/\ l.length*k<=1000/\ k<=1000/\ l.length<=1000/\ Q (.str (tx (bA k l).flatten)) H
 |_,_=>False
theorem Ay(l:List Nat):∀(k:Nat) (p:List Nat),(bA k (tx l).cps).foldl (fun x y=>x++y) p.toArray=(p++(bA k l).flatten).toArray
 |0,p=>by simp
 |k+1,p=>by
  rw[eK,eU,show p.toArray++(tx l).cps=(p++l).toArray by simp[tx],Ay l k,eK,List.flatten_cons]
  simp
theorem Bm:OpR X (binaryOp .Mult) HK:=by
 intro F s D H x y v u Q I z A h
 unfold HK at h
 split at h
 ·obtain⟨t,rfl⟩:=z
  obtain⟨B,rfl⟩:=A
  obtain⟨l,k,rfl,rfl,h1,E,C,q⟩:=h
  have G:100000<=sizeLine:=by decide
  refine PySem.P.mul_str ?_ (fun a b=>?_) (fun a b=>?_) ?_
  ·rw[Bool.or_eq_false_iff]
   exact⟨decide_eq_false (by omega),decide_eq_false (by omega)⟩
  ·rw[iK]
   have:(1000:Int)<=(2^63 - 1)/(k:Int):=by
    refine Int.le_ediv_of_mul_le (by omega) ?_
    omega
   omega
  ·rw[iK]
   refine decide_eq_false ?_
   show ¬(l.length*((k:Int)).toNat>sizeLine)
   rw[show((k:Int)).toNat=k from rfl]
   omega
  ·by_cases c1:(k:Int)<1
   ·rw[if_pos c1]
    have:k=0:=by omega
    subst this
    refine⟨?_,⟨.str (tx []),H,I.tok _,⟨_,rfl⟩,q⟩⟩
    exact cf _
   ·rw [if_neg c1]
    by_cases f:((k:Int) == 1 || (tx l).length == 0)=true
    ·rw [if_pos f]
     refine⟨.str (tx l),H,I,⟨_,rfl⟩,?_⟩
     have e:(bA k l).flatten=l:=by
      rw[Bool.or_eq_true] at f
      rcases f with f|f
      ·have:k=1:=by have:=eq_of_beq f;omega
       subst this
       simp
      ·have:l=[]:=by
        have:=eq_of_beq f
        rw[iK] at this
        exact eO.mp this
       subst this
       simp
     rw[e] at q
     exact q
    ·rw[if_neg f]
     have e:=Ay l k []
     have g:({cps:=List.foldl (fun o w=>o++w) #[] (bA ((k:Int)).toNat (tx l).cps)}:Str)=tx (bA k l).flatten:=by
      show Str.mk _=Str.mk _
      congr 1
     refine⟨?_,?_⟩
     ·rw[g,iK,List.length_flatten]
      simp
      have:k*l.length=l.length*k:=dr _ _
      omega
     ·rw[g]
      exact⟨.str _,H,I.tok _,⟨_,rfl⟩,q⟩
 ·exact h.elim
end
theorem mi{a b c:Nat}:∀{us:List (List Nat)},(∀u∈us,32∉u/\ u≠[]) ->ji (bA a 32++jm (bA (b+1) 32) us++bA c 32)=us:=by
 intro us h
 have e:jm (bA (b+1) 32) us++bA c 32=ud b c us:=by
  cases us with
  |nil=>rfl
  | cons u r=>
   show u++r.flatMap _++_=_
   induction r generalizing u with
   |nil=>simp[ud]
   |cons v r ih=>
    show _=u++(bA (b+1) 32++ud b c (v::r))
    rw[←ih v fun x f=>h x (bc _ f)]
    simp
 rw[dF,e,kZ,uM h]
end L2
namespace Ld
open L2
abbrev Rw:=List Nat × Rat
def iO(rows:List Rw)(u:List Nat):Option Rat:=(rows.find? fun r=>decide (r.1=u)).map (·.2)
def lU(rows:List Rw)(u:List Nat)(c:Rat):List Rw:=
 if(rows.any fun r=>decide (r.1=u))=true then rows.map (fun r=>if r.1=u then(r.1,c) else r) else rows++[(u,c)]
def kP(rows:List Rw)(u:List Nat):List Rw:=rows.filter fun r=>decide (r.1≠u)
theorem kD(r:Rw)(rows:List Rw)(u:List Nat):iO (r::rows) u=if r.1=u then some r.2 else iO rows u:=by
 unfold iO
 by_cases h:r.1=u<;>simp[dJ,h]
theorem nq:∀{rows:List Rw} {j:Nat} {u:List Nat} {c:Rat},(rows.map (·.1)).Nodup ->rows[j]? =some (u,c) ->iO rows u=some c
 |r::rows,0,u,c,_,h=>by
  cases (Option.some.inj h:r=(u,c))
  rw[kD,if_pos rfl]
 |r::rows,j+1,u,c,hn,h=>by
  rw[bH,df] at hn
  have b:u∈rows.map (·.1):=bz.mpr ⟨(u,c),bF.mpr ⟨j,h⟩,rfl⟩
  rw[kD,if_neg fun(z:r.1=u)=>hn.1 (by rw[z];exact b)]
  exact nq (j:=j) hn.2 h
theorem pG:∀{rows:List Rw} {u:List Nat},iO rows u=none↔u∉rows.map (·.1)
 |[],u=>by simp[iO]
 | r::rows,u=>by
  rw[kD]
  by_cases h:r.1=u
  ·rw[if_pos h];simp[h]
  ·rw[if_neg h,pG,bH,bw]
   constructor
   ·intro h1 b
    rcases b with b|b
    ·exact h b.symm
    ·exact h1 b
   ·exact fun h1 b=>h1 (Or.inr b)
theorem sV:∀{rows:List Rw} {u:List Nat} {c:Rat},iO rows u=some c ->∃j:Nat,rows[j]? =some (u,c)/\ ∀m:Nat,m<j ->∀r:Rw,rows[m]? =some r ->r.1≠u
 |[],u,c,h=>by simp[iO] at h
 | r::rows,u,c,h=>by
  rw[kD] at h
  by_cases e:r.1=u
  ·rw[if_pos e] at h
   exact⟨0,by rw[←e, ←Option.some.inj h];rfl,fun m f=>absurd f (Nat.not_lt_zero _)⟩
  ·rw[if_neg e] at h
   obtain⟨j,h1,g⟩:=sV h
   refine⟨j+1,h1,fun m f s b=>?_⟩
   cases m with
   |zero=>cases b;exact e
   |succ m=>exact g m (by omega) s b
theorem oS(rows:List Rw)(u:List Nat):(rows.any fun r=>decide (r.1=u))=(iO rows u).isSome:=by
 induction rows with
 |nil=>rfl
 |cons r rows ih=>
  rw[kD,fq,ih]
  by_cases h:r.1=u<;>simp[h]
theorem Bo{rows:List Rw}{u:List Nat}{c:Rat}(h:iO rows u=none):lU rows u c=rows++[(u,c)]:=by
 unfold lU
 rw[oS,h]
 rfl
theorem FU{rows:List Rw}{u:List Nat}{c:Rat}(h:u∉rows.map (·.1)):rows.map (fun r=>if r.1=u then(r.1,c) else r)=rows:=by
 have:∀r∈rows,(if r.1=u then(r.1,c) else r)=r:=fun r b=>if_neg fun z=>h (bz.mpr ⟨r,b,z⟩)
 exact(cn this).trans (gS _)
theorem xi:∀{rows:List Rw} {j:Nat} {u:List Nat} {c c':Rat},(rows.map (·.1)).Nodup ->rows[j]? =some (u,c) ->lU rows u c'=rows.set j (u,c')
 | rows,j,u,c,c',hn,h=>by
  have b:=nq hn h
  unfold lU
  rw[oS,b]
  show rows.map _=_
  clear b
  induction rows generalizing j with
  |nil=>cases h
  | cons r rows ih=>
   rw[bH,df] at hn
   cases j with
   |zero=>
    cases (Option.some.inj h:r=(u,c))
    rw[bH,if_pos rfl,FU hn.1]
    rfl
   |succ j=>
    have f:u∈rows.map (·.1):=bz.mpr ⟨(u,c),bF.mpr ⟨j,h⟩,rfl⟩
    rw[bH,if_neg fun(z:r.1=u)=>hn.1 (by rw[z];exact f),ih j hn.2 h]
    rfl
theorem DB{rows:List Rw}{u:List Nat}(h:u∉rows.map (·.1)):kP rows u=rows:=by
 refine List.filter_eq_self.mpr fun r b=>decide_eq_true fun z=>h (bz.mpr ⟨r,b,z⟩)
theorem ur:∀{rows:List Rw} {j:Nat} {u:List Nat} {c:Rat},(rows.map (·.1)).Nodup ->rows[j]? =some (u,c) ->kP rows u=rows.eraseIdx j
 |r::rows,0,u,c,hn,h=>by
  rw[bH,df] at hn
  cases (Option.some.inj h:r=(u,c))
  have:=DB hn.1
  unfold kP at this ⊢
  rw[cJ,if_neg (by simp)]
  exact this
 |r::rows,j+1,u,c,hn,h=>by
  rw[bH,df] at hn
  have b:u∈rows.map (·.1):=bz.mpr ⟨(u,c),bF.mpr ⟨j,h⟩,rfl⟩
  have ih:=ur hn.2 (show rows[j]? =some (u,c) from h)
  unfold kP at ih ⊢
  rw[cJ,if_pos (by have:r.1≠u:=fun z=>hn.1 (by rw[z];exact b);simp[this]),ih]
  rfl
theorem xR{rows:List Rw}{u v:List Nat}(h:v≠u):iO (kP rows u) v=iO rows v:=by
 induction rows with
 |nil=>rfl
 |cons r rows ih=>
  unfold kP at ih ⊢
  rw[cJ,kD]
  by_cases e:r.1=u
  ·rw[if_neg (by simp[e]),ih,if_neg fun z=>h (z.symm.trans e)]
  ·rw[if_pos (by simp[e]),kD,ih]
def wrR(x:Rat):List Nat:=Lt.wr x.num (x.den:Int)
def pieceL(r:Rw):List Nat:=r.1++[32]++wrR r.2
def nP(rows:List Rw):List Nat:=if rows.length=0 then [110,111,110,101] else jm [44,32] (rows.map pieceL)
structure jD(u:List Nat):Prop where
 ne:u≠[]
 len:u.length<=8
 az:∀c∈u,97<=c/\ c<=122
structure Rd(x:Rat):Prop where
 nn:0<=x
 n:x.num.natAbs<10^60
 d:x.den<10^60
structure Okk(e:Rat)(rows:List Rw):Prop where
 len:rows.length<=8
 nd:(rows.map (·.1)).Nodup
 nm:∀r∈rows,jD r.1
 rd:∀r∈rows,Rd r.2
 dv:∃D:Nat,0<D/\ D<2^200/\ ∀r∈rows,r.2.den∣D
 e0:0<=e
 es:Sz 1000 e
theorem ke{x:Rat}(h:Rd x):Sz 200 x:=⟨Bd.of_lt (bp h.n (by decide)),Bd.of_lt (bp (by show((x.den:Int)).natAbs<_;exact h.d) (by decide))⟩
theorem IF{x:Rat}(h:Rd x):Lt.my (wrR x)=some (x.num,(x.den:Int)):=by
 rw[Lt.Hm]
 refine⟨rfl,?_,?_,h.n,h.d⟩
 ·have:=x.den_pos;omega
 ·exact x.reduced
theorem JD{p q:Int}(b:Bd 1900 p)(f:Bd 1900 q):(Lt.wr p q).length<=1210:=by
 have h1:(Lt.fg p.natAbs).length<=600:=Lt.om (k:=599) (bp (PySem.intBits_le_iff.mp b) (by decide+kernel))
 have g:(Lt.fg q.natAbs).length<=600:=Lt.om (k:=599) (bp (PySem.intBits_le_iff.mp f) (by decide+kernel))
 unfold Lt.wr Lt.sg
 rw[bf,bf]
 split<;>split<;>simp<;>omega
theorem mP{x:Rat}(h:Sz 1900 x):(wrR x).length<=1210:=JD h.n h.d
theorem qP{p q:Int}:32∉Lt.wr p q/\ Lt.wr p q≠[]:=by
 constructor
 ·intro h
  unfold Lt.wr Lt.sg at h
  rcases bS.mp h with h|h
  ·rcases bS.mp h with h|h
   ·split at h<;>simp at h
   ·exact Lt.qY (by decide) h
  ·split at h
   ·cases h
   ·rcases bw.mp h with h|h
    ·cases h
    ·exact Lt.qY (by decide) h
 ·intro h
  unfold Lt.wr at h
  have h1:=(List.append_eq_nil_iff.mp h).1
  exact Lt.wa _ (List.append_eq_nil_iff.mp h1).2
theorem mQ{u:List Nat}(h:jD u):32∉u/\ u≠[]:=⟨fun z=>by have:=h.az 32 z;omega,h.ne⟩
structure Tl where
 line:List Nat
 new:Option (List Nat):=none
 name:Option (List Nat):=none
 other:Option (List Nat):=none
 rule:Option (List Nat):=none
 r:Option Rat:=none
abbrev sL:List Nat:=[99,108,97,105,109]
abbrev HD:List Nat:=[109,111,114,101]
abbrev HY:List Nat:=[100,114,111,112]
abbrev yx:List Nat:=[112,97,114,116]
abbrev HM:List Nat:=[106,111,105,110]
abbrev lj:List Nat:=[101,115,116,97,116,101]
abbrev Mg:List Nat:=[103,114,111,119]
abbrev DX:List Nat:=[108,101,97,118,101]
abbrev Nc:List Nat:=[115,104,111,119]
abbrev wOk:List Nat:=[111,107]
end Ld
namespace L2
open PySem PySem.Spec PyProof.Rows Ld
structure Ow(F:Addr ->Prop)(H H':Hp):Prop where
 ts:TpS H H'
 st:∀b u,¬F b ->H b=some u ->H' b=some u
theorem Ow.refl{F:Addr ->Prop}{H:Hp}:Ow F H H:=⟨.refl H,fun _ _ _ h=>h⟩
theorem Ow.trans{F:Addr ->Prop}{H l f:Hp}(a:Ow F H l)(b:Ow F l f):Ow F H f:=⟨a.ts.trans b.ts,fun c u g h=>b.st c u g (a.st c u g h)⟩
theorem Ow.same{F:Addr ->Prop}{H f:Hp}(s:iu H f):Ow F H f:=⟨s.ts,fun b u _ h=>s b u h⟩
theorem Ow.chg{F:Addr ->Prop}{H g:Hp}{l:Addr}{o w:HO}(c:Chg H l o g)(f:F l)(h:H l=some w)(A:∀xs,w≠.tup xs):Ow F H g:=
 ⟨fun a xs e=>by
  have:a≠l:=fun z=>by rw[z,h] at e;exact A xs (Option.some.inj e)
  rw[c.oth a this];exact e,fun b u B e=>by rw[c.oth b fun z=>B (z▸f)];exact e⟩
theorem Ow.mono{F G:Addr ->Prop}{H f:Hp}(h:Ow F H f)(l:∀b,F b ->G b):Ow G H f:=⟨h.ts,fun b u g=>h.st b u fun z=>g (l b z)⟩
inductive KR(K:aW)(H:Hp):List (Key × V) ->List Rw ->Prop
 |nil:KR K H [] []
 |cons {u:List Nat} {c:Rat} {v:V} {kvs:List (Key × V)} {rows:List Rw}:ip K H v c ->KR K H kvs rows ->KR K H ((.inr (tx u),v)::kvs) ((u,c)::rows)
theorem sU{u v:List Nat}:((Sum.inr (tx u):Key)=Sum.inr (tx v))↔u=v:=⟨fun h=>li (Sum.inr.inj h),fun h=>by rw[h]⟩
theorem KR.ts{K:aW}{H b:Hp}(s:TpS H b){kvs:List (Key × V)}{rows:List Rw}(h:KR K H kvs rows):KR K b kvs rows:=by
 induction h with
 |nil=>exact .nil
 |cons h _ ih=>exact .cons (h.ts s) ih
theorem KR.len{K:aW}{H:Hp}{kvs:List (Key × V)}{rows:List Rw}(h:KR K H kvs rows):kvs.length=rows.length:=by
 induction h with
 |nil=>rfl
 |cons _ _ ih=>rw[bE,bE,ih]
theorem KR.keys{K:aW}{H:Hp}{kvs:List (Key × V)}{rows:List Rw}(h:KR K H kvs rows):(kvs.map fun p=>kV p.1)=rows.map fun r=>.str (tx r.1):=by
 induction h with
 |nil=>rfl
 |cons _ _ ih=>rw[bH,bH,ih];rfl
theorem KR.vals{K:aW}{H:Hp}{kvs:List (Key × V)}{rows:List Rw}(h:KR K H kvs rows):iR K H (kvs.map (·.2)) (rows.map (·.2)):=by
 induction h with
 |nil=>exact⟨rfl,fun j v x h=>by cases h⟩
 |cons h _ ih=>
  refine⟨by rw[bH,bH,bE,bE,ih.len],fun j v x hv b=>?_⟩
  cases j with
  |zero=>cases hv;cases b;exact h
  |succ j=>exact ih.at_ j v x hv b
theorem KR.val{K:aW}{H:Hp}{kvs:List (Key × V)}{rows:List Rw}(h:KR K H kvs rows)(u:List Nat):(iO rows u=none/\ iP kvs (.inr (tx u))=none)∨∃c v,iO rows u=some c/\ iP kvs (.inr (tx u))=some v/\ ip K H v c:=by
 induction h with
 |nil=>exact .inl ⟨rfl,rfl⟩
 | @cons w c v kvs rows h _ ih=>
  by_cases e:w=u
  ·subst e
   refine .inr ⟨c,v,?_,rb rfl,h⟩
   rw[kD,if_pos rfl]
  ·rw[kD,if_neg e,rF (fun z=>e (sU.mp z))]
   exact ih
theorem KR.any{K:aW}{H:Hp}{kvs:List (Key × V)}{rows:List Rw}(h:KR K H kvs rows)(u:List Nat):(kvs.any fun f=>decide (f.1=(.inr (tx u):Key)))=rows.any fun r=>decide (r.1=u):=by
 rw[vH,oS]
 rcases h.val u with⟨h1,b⟩|⟨c,v,h1,b,_⟩<;>rw[h1,b]<;>rfl
theorem KR.put{K:aW}{H:Hp}{kvs:List (Key × V)}{rows:List Rw}(h:KR K H kvs rows){u:List Nat}{v:V}{c:Rat}(g:ip K H v c):KR K H (kL kvs (.inr (tx u)) v) (lU rows u c):=by
 have e:=h.any u
 unfold kL lU
 rw[e]
 clear e
 split
 ·induction h with
  |nil=>exact .nil
  | @cons w d x kvs rows h h2 ih=>
   rename_i f
   have b:KR K H (kvs.map fun l=>if l.1=(.inr (tx u):Key) then(l.1,v) else l) (rows.map fun r=>if r.1=u then(r.1,c) else r):=by
    clear ih f
    induction h2 with
    |nil=>exact .nil
    | @cons w d x kvs rows h h2 ih=>
     rw[bH,bH]
     by_cases e:w=u
     ·rw[if_pos (sU.mpr e),if_pos e];exact .cons g ih
     ·rw[if_neg (fun z=>e (sU.mp z)),if_neg e];exact .cons h ih
   rw[bH,bH]
   by_cases e:w=u
   ·rw[if_pos (sU.mpr e),if_pos e];exact .cons g b
   ·rw[if_neg (fun z=>e (sU.mp z)),if_neg e];exact .cons h b
 ·rename_i f
  clear f
  induction h with
  |nil=>exact .cons g .nil
  |cons h _ ih=>exact .cons h ih
theorem KR.drop{K:aW}{H:Hp}{kvs:List (Key × V)}{rows:List Rw}(h:KR K H kvs rows)(u:List Nat):KR K H (pI kvs (.inr (tx u))) (kP rows u):=by
 unfold pI kP
 induction h with
 |nil=>exact .nil
 | @cons w d x kvs rows h h2 ih=>
  rw[cJ,cJ]
  by_cases e:w=u
  ·rw[if_neg (by simp[e]),if_neg (by simp[e])];exact ih
  ·rw[if_pos (by simp[e];exact fun z=>e (li z)),if_pos (by simp[e])];exact .cons h ih
abbrev Kx:Str:=Str.ofString "estate"
abbrev JP:Str:=Str.ofString "claims"
structure Dsk(K:aW)(C:Addr)(H:Hp)(a d:Addr)(e:Rat)(rows:List Rw):Prop where
 at_:∃dx ve,H a=some (.ins C dx [(Kx,ve),(JP,.ref d)])/\ ip K H ve e
 dict:∃kvs,H d=some (.dK kvs)/\ KR K H kvs rows
theorem Dsk.same{K:aW}{C:Addr}{H f:Hp}{a d:Addr}{e:Rat}{rows:List Rw}(s:iu H f)(h:Dsk K C H a d e rows):Dsk K C f a d e rows:=by
 obtain⟨⟨l,o,h1,w⟩,b,z,g⟩:=h
 exact⟨⟨l,o,s _ _ h1,w.same s⟩,b,s _ _ z,g.ts s.ts⟩
theorem Dsk.ow{K:aW}{C:Addr}{F:Addr ->Prop}{H f:Hp}{a d:Addr}{e:Rat}{rows:List Rw}(s:Ow F H f)(ha:¬F a)(o:¬F d)(h:Dsk K C H a d e rows):Dsk K C f a d e rows:=by
 obtain⟨⟨A,w,h1,z⟩,b,l,g⟩:=h
 exact⟨⟨A,w,s.st _ _ ha h1,z.ts s.ts⟩,b,s.st _ _ o l,g.ts s.ts⟩
theorem Dsk.ne{K:aW}{C:Addr}{H:Hp}{a d:Addr}{e:Rat}{rows:List Rw}(h:Dsk K C H a d e rows):d≠a:=fun z=>by
 obtain⟨⟨w,l,h1,o⟩,f,b,g⟩:=h
 rw[z,h1] at b
 cases b
abbrev Fw:Str:=tx [78,69,87]
abbrev nR:Str:=tx [78,65,77,69]
abbrev qL:Str:=tx [79,84,72,69,82]
abbrev tR:Str:=tx [82,85,76,69]
abbrev kR:Str:=tx [82]
abbrev yo:Str:=tx [76,73,78,69]
def txO(o:Option (List Nat)):Option V:=o.map fun u=>.str (tx u)
structure TlV(K:aW)(H:Hp)(kvs:List (Key × V))(T:Tl):Prop where
 line:iP kvs (.inr yo)=some (.str (tx T.line))
 new:iP kvs (.inr Fw)=txO T.new
 name:iP kvs (.inr nR)=txO T.name
 other:iP kvs (.inr qL)=txO T.other
 rule:iP kvs (.inr tR)=txO T.rule
 rn:T.r=none ->iP kvs (.inr kR)=none
 rs:∀x,T.r=some x ->∃v,iP kvs (.inr kR)=some v/\ ip K H v x
def oP(K:aW)(H:Hp)(t:Addr)(T:Tl):Prop:=∃kvs,H t=some (.dK kvs)/\ TlV K H kvs T
theorem oP.same{K:aW}{H l:Hp}{t:Addr}{T:Tl}(s:iu H l)(h:oP K H t T):oP K l t T:=by
 obtain⟨g,h1,f⟩:=h
 exact⟨g,s _ _ h1,f.line,f.new,f.name,f.other,f.rule,f.rn,fun x o=>let⟨v,a,b⟩:=f.rs x o;⟨v,a,b.same s⟩⟩
end L2
namespace L2
open PySem PySem.Spec PyProof.Rows Ld
theorem BB{l:List Nat}{D:Addr}{b:St}{h:CB ->TE}{Q:VK}{g:Hp}(f:Nat ->List V ->Hp ->Prop)(h0:f 0 [] g)
  (w:∀i c ys H z,l[i]? =some c ->f i ys H ->h z (some (.str (tx [c]))::b) H (sC D ys (f (i+1))))(A:∀ys H,f l.length ys H ->Q (.ref D) H):
  ma (Itx l) D b h Q g:=by
 refine uj l.length f h0 (fun i ys H o p=>o) (fun ys H p=>rfl) (fun i ys H x C z o p y=>?_) A
 obtain⟨e,c,B,rfl⟩:=y
 subst e
 exact w i c ys _ z B p
theorem lh{t u:TS}{D:pk}{σ:St}{H:Hp}(C:St ->Hp ->Prop)(h:∀σ H,C σ H ->u D σ H)(h1:(∀σ H,C σ H ->u D σ H) ->GP t u D σ H):GP t u D σ H:=h1 h
theorem EU{K:aW}{a b D:Addr}{xs ys:List V}{g:St}{G:CB ->TE}{Q:VK}{F:Hp}(h:Nat ->List V ->Hp ->Prop)(h0:h 0 [] F)(C:∀i f H,i<=xs.length ->h i f H ->SqL K H a xs/\ SqL K H b ys)(J:ys.length=xs.length)
  (L:∀i x y f H p A z,xs[i]? =some x ->ys[i]? =some y ->h i f H ->New H p (.tup [x,y]) A ->G z (some x::some y::g) A (sC D f (h (i+1))))(M:∀f H,h xs.length f H ->Q (.ref D) H):
  ua K (Itz K a b) D g G Q F:=by
 refine zR xs.length h h0 ?_ ?_ ?_ M
 ·intro i f H B p
  obtain⟨o,l⟩:=C i f H (db B) p
  exact⟨xs,_,ys,_,o,bg B,l,bg (by omega)⟩
 ·intro f H p
  obtain⟨o,l⟩:=C _ f H (bh _) p
  exact⟨xs,ys,o,l,.inl (bh _)⟩
 ·rintro i f H x A z B p ⟨E,v,w,rfl,n,hv,I⟩
  obtain⟨o,l⟩:=C i f H (db B) p
  exact⟨E,v,w,rfl,SqT.of n.at_,L i v w f H E A z (hv xs o) (I ys l) p n⟩
theorem BN{rows:List Rw}(h:∀r∈rows,r.1.length<=8/\ Sz 1900 r.2):∀p∈rows.map pieceL,p.length<=1500:=by
 intro p b
 obtain⟨r,g,rfl⟩:=bz.mp b
 obtain⟨h1,f⟩:=h r g
 have:=mP f
 unfold pieceL
 rw[bf,bf,bE,List.length_nil]
 omega
def Ob'(k:Nat)(D:Int)(xs:List Rat):Prop:=0<D/\ Bd k D/\ ∀x∈xs,Lr.Ov D (2^k) x
theorem _root_.Ld.Okk.good{e:Rat}{rows:List Rw}(h:Okk e rows):∃D:Int,Ob' 1500 D (e::rows.map (·.2)):=by
 obtain⟨D,A,b,w⟩:=h.dv
 refine⟨(e.den:Int)*D,?_,?_,?_⟩
 ·exact dC (Lr.den_pos e) (by omega)
 ·exact(h.es.d).mul (Bd.of_lt (n:=200) (by show((D:Int)).natAbs<_;exact b)) (by decide)
 ·intro x f
  rcases bw.mp f with rfl|f
  ·refine⟨x.num*D,?_,?_⟩
   ·refine Lr.ja (dC (Lr.den_pos x) (by omega)) ?_
    have:=Lr.iD (n:=x.num) (Lr.den_pos x)
    rw[Lr.jP] at this
    push_cast at this ⊢
    rw[←this]
    grind
   ·have:=intBits_le_iff.mp ((h.es.n).mul (Bd.of_lt (n:=200) (x:=(D:Int)) (by show((D:Int)).natAbs<_;exact b)) (k:=1200) (by decide))
    exact db (bp this (cI (by decide) (by decide)))
  ·obtain⟨r,o,rfl⟩:=bz.mp f
   obtain⟨q,l⟩:=w r o
   have z:=ke (h.rd r o)
   refine⟨r.2.num*(e.den*q),?_,?_⟩
   ·refine Lr.ja (dC (Lr.den_pos e) (by omega)) ?_
    have:=Lr.iD (n:=r.2.num) (Lr.den_pos r.2)
    rw[Lr.jP] at this
    rw[l]
    push_cast at this ⊢
    rw[←this]
    grind
   ·have g:q<2^200:=by
     have h1:0<r.2.den:=r.2.den_pos
     have:q<=D:=by rw[l];exact Nat.le_mul_of_pos_left q h1
     omega
    have:=intBits_le_iff.mp ((z.n).mul ((h.es.d).mul (Bd.of_lt (n:=200) (x:=(q:Int)) (by show((q:Int)).natAbs<_;exact g)) (k:=1200) (by decide)) (k:=1400) (by decide))
    exact db (bp this (cI (by decide) (by decide)))
end L2
namespace Ld
open L2
def Wh(D:Nat)(x:Rat):Prop:=∃n:Int,x*(D:Rat)=(n:Rat)
theorem Wh.add{D:Nat}{x y:Rat}(h:Wh D x)(g:Wh D y):Wh D (x+y):=by
 obtain⟨n,b⟩:=h
 obtain⟨m,f⟩:=g
 exact⟨n+m,by push_cast;grind⟩
theorem Wh.sub{D:Nat}{x y:Rat}(h:Wh D x)(g:Wh D y):Wh D (x - y):=by
 obtain⟨n,b⟩:=h
 obtain⟨m,f⟩:=g
 exact⟨n - m,by push_cast;grind⟩
theorem Wh.zero{D:Nat}:Wh D 0:=⟨0,by simp⟩
theorem Wh.mul{D:Nat}{x:Rat}(h:Wh D x)(k:Nat):Wh (D*k) x:=by
 obtain⟨n,b⟩:=h
 exact⟨n*k,by push_cast;grind⟩
theorem Wh.dvd{D E:Nat}{x:Rat}(h:Wh D x)(d:D∣E):Wh E x:=by
 obtain⟨k,rfl⟩:=d
 exact h.mul k
theorem Wh.of_rt{a:Int}{b D:Nat}(f:0<b)(h:b∣D):Wh D (Lr.rt a b):=by
 have:Wh b (Lr.rt a b):=⟨a,Lr.iD (n:=a) (D:=(b:Int)) (by omega)⟩
 exact this.dvd h
theorem Wh.den{D:Nat}{x:Rat}(f:0<D)(h:Wh D x):x.den∣D:=by
 obtain⟨n,b⟩:=h
 have e:x=Lr.rt n D:=Lr.ja (D:=(D:Int)) (by omega) b
 have:=Lr.Ov.den (D:=(D:Int)) (by omega) (M:=n.natAbs) ⟨n,e,bh _⟩
 exact Int.natCast_dvd_natCast.mp this
theorem Kc{x:Rat}{B D:Nat}(h0:0<=x)(b:x<=(B:Rat))(g:x.den<=D):x.num.natAbs<=B*D:=by
 have f:(0:Rat)<(x.den:Rat):=by exact_mod_cast x.den_pos
 have e:=Lr.iD (n:=x.num) (Lr.den_pos x)
 rw[Lr.jP] at e
 have h1:(x.num:Rat)<=((B*x.den:Nat):Rat):=by
  rw[←e]
  push_cast
  exact bU b (bX f)
 have l:x.num<=((B*x.den:Nat):Int):=by exact_mod_cast h1
 have o:0<=x.num:=(Lr.num_nonneg x).mpr h0
 have h:B*x.den<=B*D:=fw _ g
 omega
structure Ok(n lv:Nat)(e:Rat)(rows:List Rw):Prop where
 len:rows.length<=8
 nd:(rows.map (·.1)).Nodup
 nm:∀r∈rows,jD r.1
 c0:∀r∈rows,0<=r.2
 cm:∃m:Nat,0<m/\ m<=3^n/\ ∀r∈rows,Wh (27720*m) r.2
 cs:Lr.sm (rows.map (·.2))<=((n*10^30:Nat):Rat)
 e0:0<=e
 es:e<=((n*10^30:Nat):Rat)
 em:∃D:Nat,0<D/\ D<=27720*2^(200*lv)/\ 27720∣D/\ Wh D e
theorem Ok.rows{n lv:Nat}{e:Rat}{rows b:List Rw}(h:Ok n lv e rows)(k:Nat)(k0:0<k)(k3:k<=3)(len:b.length<=8)(w:(b.map (·.1)).Nodup)(nm:∀r∈b,jD r.1)(z:∀r∈b,0<=r.2)
  (l:∀m,(∀r∈rows,Wh (27720*m) r.2) ->∀r∈b,Wh (27720*m*k) r.2)(cs:Lr.sm (b.map (·.2))<=Lr.sm (rows.map (·.2))+((10^30:Nat):Rat)):Ok (n+1) lv e b:=by
 obtain⟨m,g,A,o⟩:=h.cm
 have f:(((n+1)*10^30:Nat):Rat)=((n*10^30:Nat):Rat)+((10^30:Nat):Rat):=by rw[gk,Nat.one_mul];push_cast;rfl
 have C:(0:Rat)<=((10^30:Nat):Rat):=by exact_mod_cast cf _
 refine⟨len,w,nm,z,⟨m*k,Nat.mul_pos g k0,?_,fun r B=>by rw[←gE];exact l m o r B⟩,?_,h.e0,?_,h.em⟩
 ·rw[fb]
  exact fH A k3
 ·have:=h.cs
  rw[f]
  grind
 ·have:=h.es
  rw[f]
  grind
theorem kQ{rows:List Rw}{j:Nat}{u:List Nat}{c f:Rat}(h:rows[j]? =some (u,c)):(rows.set j (u,f)).map (·.1)=rows.map (·.1):=by
 rw[List.map_set]
 refine List.ext_getElem? fun i=>?_
 rw[fO]
 split
 ·rename_i e
  subst e
  have b:=(aZ.mp h).1
  rw[aX,if_pos b,bi,h]
  rfl
 ·rfl
theorem we:∀{xs:List Rat} {j:Nat} {c:Rat} (y:Rat),xs[j]? =some c ->Lr.sm (xs.set j y)=Lr.sm xs - c+y
 |x::xs,0,c,y,h=>by
  cases (Option.some.inj h:x=c)
  show y+Lr.sm xs=x+Lr.sm xs - x+y
  grind
 |x::xs,j+1,c,y,h=>by
  have:=we (xs:=xs) (j:=j) y h
  show x+Lr.sm (xs.set j y)=x+Lr.sm xs - c+y
  rw[this]
  grind
theorem pA:∀{xs:List Rat} {j:Nat} {c:Rat},xs[j]? =some c ->Lr.sm (xs.eraseIdx j)=Lr.sm xs - c
 |x::xs,0,c,h=>by
  cases (Option.some.inj h:x=c)
  show Lr.sm xs=x+Lr.sm xs - x
  grind
 |x::xs,j+1,c,h=>by
  have:=pA (xs:=xs) (j:=j) h
  show x+Lr.sm (xs.eraseIdx j)=x+Lr.sm xs - c
  rw[this]
  grind
theorem tW{rows:List Rw}{j:Nat}{x r:Rw}(h:r∈rows.set j x):r∈rows∨r=x:=List.mem_or_eq_of_mem_set h
theorem lD{rows:List Rw}{j:Nat}{u:List Nat}{c:Rat}(h:rows[j]? =some (u,c)):(rows.map (·.2))[j]? =some c:=by rw[bi,h];rfl
theorem lI{rows:List Rw}{j:Nat}{r:Rw}(h:r∈rows.eraseIdx j):r∈rows:=(fe rows j).subset h
theorem ql(rows:List Rw)(j:Nat)(h:(rows.map (·.1)).Nodup):((rows.eraseIdx j).map (·.1)).Nodup:=h.sublist ((fe rows j).map _)
theorem Ok.drop{n lv:Nat}{e c:Rat}{rows:List Rw}{u:List Nat}{j:Nat}(h:Ok n lv e rows)(f:rows[j]? =some (u,c)):Ok (n+1) lv e (rows.eraseIdx j):=by
 refine h.rows 1 (by decide) (by decide) (bL (fe rows j).length_le h.len) (ql _ _ h.nd) (fun r b=>h.nm r (lI b)) (fun r b=>h.c0 r (lI b)) (fun m g r b=>(g r (lI b)).mul 1) ?_
 rw[jB,pA (lD f)]
 have:=h.c0 _ (bo f)
 have l:(0:Rat)<=((10^30:Nat):Rat):=by exact_mod_cast cf _
 have:0<=c:=this
 grind
end Ld
namespace L2
open PySem PySem.Spec PyProof.Rows Ld
section
variable {X:Cx}
end
structure Mdl(K:aW)(H:Hp)(m r:Addr)(bs:List Addr)(e:Rat)(rows:List Rw):Prop where
 at_:∃ve,H m=some (.lst [ve,.ref r])/\ ip K H ve e
 lst:H r=some (.lst (bs.map V.ref))
 len:bs.length=rows.length
 row:∀(j:Nat) b u c,bs[j]? =some b ->rows[j]? =some (u,c) ->∃v,H b=some (.lst [.str (tx u),v])/\ ip K H v c
 nd:bs.Nodup
def isM(m r:Addr)(bs:List Addr)(b:Addr):Prop:=b=m∨b=r∨b∈bs
section
variable {K:aW} {H H':Hp} {m r:Addr} {bs:List Addr} {e:Rat} {rows:List Rw}
theorem Mdl.mem(h:Mdl K H m r bs e rows){b:Addr}(l:b∈bs):∃u v,H b=some (.lst [.str u,v]):=by
 obtain⟨j,g⟩:=bF.mp l
 have f:=(aZ.mp g).1
 obtain⟨v,h1,_⟩:=h.row j b (rows[j]'(by rw[←h.len];exact f)).1 (rows[j]'(by rw[←h.len];exact f)).2 g (bg _)
 exact⟨_,v,h1⟩
end
end L2
namespace L2
open PySem PySem.Spec PyProof.Rows Ld
theorem _root_.Ld.Ok.lv{n lv b:Nat}{e:Rat}{rows:List Rw}(h:Ok n lv e rows)(l:lv<=b):Ok n b e rows:=by
 obtain⟨D,f,o,g,w⟩:=h.em
 exact⟨h.len,h.nd,h.nm,h.c0,h.cm,h.cs,h.e0,h.es,D,f,bL o (fw _ (cI (by decide) (by omega))),g,w⟩
structure LV(K:aW)(C:Addr)(H0 H:Hp)(a d m r:Addr)(bs:List Addr)(e:Rat)(rows:List Rw):Prop where
 dsk:Dsk K C H a d e rows
 mdl:Mdl K H m r bs e rows
 fa:H0 a=none
 fd:H0 d=none
 fm:∀b,isM m r bs b ->H0 b=none
section
variable {K:aW} {C:Addr} {H0 H H':Hp} {a d m r:Addr} {bs bs':List Addr} {e e':Rat} {rows rows':List Rw}
theorem LV.lst(S:LV K C H0 H a d m r bs e rows):∀b,isM m r bs b ->∃xs,H b=some (.lst xs):=by
 rintro b (rfl|rfl|f)
 ·obtain⟨g,h1,_⟩:=S.mdl.at_
  exact⟨_,h1⟩
 ·exact⟨_,S.mdl.lst⟩
 ·obtain⟨u,v,h1⟩:=S.mdl.mem f
  exact⟨_,h1⟩
end
section
variable {K:aW} {C:Addr} {H0 H H1 H2:Hp} {ld lm:Addr} {a d m r:Bool ->Addr} {bs:Bool ->List Addr} {e:Bool ->Rat} {rows:Bool ->List Rw}
end
end L2
namespace L2
open PySem PySem.Spec PyProof.Rows Builtin Builtin.Str
def Fol(c d:Nat)(l:List Nat):Prop:=∀i:Nat,l[i]? =some c ->l[i+1]? =some d
theorem xH{l:List Nat}{c d:Nat}(F:Fol c d l)(i:Nat):subAt (tx l) (tx [c,d]) i=decide (l[i]? =some c):=by
 have z:(tx [c,d]).length=2:=rfl
 have w:((tx l).cps.extract i (i+2)).toList=(l.drop i).take 2:=by
  rw[eE,jt]
  simp[List.extract]
 unfold subAt
 rw[z]
 by_cases h:l[i]? =some c
 ·rw[decide_eq_true h]
  have f:=F i h
  have A:=(aZ.mp h).1
  have b:=(aZ.mp f).1
  refine beq_iff_eq.mpr (Array.toList_inj.mp ?_)
  rw[w,cK A,(aZ.mp h).2,cK b,(aZ.mp f).2]
  rfl
 ·rw[decide_eq_false h]
  refine beq_eq_false_iff_ne.mpr fun e=>h ?_
  have o:=congrArg gO e
  rw[w] at o
  have B:(l.drop i).take 2=[c,d]:=o
  have g:(l.drop i)[0]? =some c:=by
   have:=congrArg (fun x=>x[0]?) B
   rw[show((l.drop i).take 2)[0]? =(l.drop i)[0]? from dA (by decide)] at this
   exact this
  rw[dj] at g
  exact g
theorem tq{l:List Nat}{c d:Nat}(F:Fol c d l)(f:c≠d):∀(n a:Nat) (b:Array Nat) (free:Nat),a+n=l.length+1 ->(free<=a∨free=a+1/\ l[a]?≠some c) ->b.size<=a ->
  (forIn (dg a n) (b,free) (StrLaws.occBody (tx l) (tx [c,d]) l.length (l.length+1))).run.fst.toList=b.toList++(dg a n).filter fun i=>decide (l[i]? =some c)
 |0,a,b,free,_,_,_=>by simp
 | n+1,a,b,free,e,hf,hs=>by
  rw[eJ,dX,cJ]
  unfold StrLaws.occBody
  by_cases h:l[a]? =some c
  ·have o:=F a h
   have ha:=(aZ.mp o).1
   have g:free<=a:=hf.elim id fun z=>absurd h z.2
   rw[if_pos ⟨⟨⟨by show b.size<l.length+1;omega,g⟩,by show a+2<=l.length;omega⟩,by rw[xH F];exact decide_eq_true h⟩,if_pos (decide_eq_true h)]
   have ih:=tq F f n (a+1) (b.push a) (a+2) (by omega) (.inr ⟨rfl,fun z=>f (Option.some.inj (z.symm.trans o))⟩) (by rw[Array.size_push];omega)
   refine ih.trans ?_
   rw[fN,dF]
   rfl
  ·rw[if_neg (fun z=>h (of_decide_eq_true ((xH F a).symm.trans z.2))),if_neg (by rw[decide_eq_false h];decide)]
   exact tq F f n (a+1) b free (by omega) (.inl (by omega)) (by omega)
def sZ(c:Nat)(l:List Nat):List (List Nat):=match jj c l with|[]=>[]|p::q=>p::q.map (List.drop 1)
theorem EA(c:Nat):∀l:List Nat,jj c l≠[]
 |[]=>fi _ _
 |x::r=>by
  rw[mE]
  split
  ·exact fi _ _
  ·split<;>exact fi _ _
theorem xT{c d:Nat}(b:d≠c){u r:List Nat}(h:c∉u):sZ c (u++c::d::r)=u::sZ c r:=by
 unfold sZ
 rw[mW h,mE,if_neg b]
 cases e:jj c r with
 |nil=>exact absurd e (EA c r)
 |cons p q=>rfl
theorem tF{c:Nat}{l:List Nat}(h:c∉l):sZ c l=[l]:=by unfold sZ;rw[lw h];rfl
theorem qm{l:List Nat}{c d:Nat}(F:Fol c d l)(b:d≠c):∀(n a s:Nat),a+n=l.length+1 ->(s<=a∨s=a+1/\ l[a]?≠some c) ->s<=l.length ->(∀i,s<=i ->i<a ->l[i]?≠some c) ->
  StrLaws.partsFrom (tx l) 2 s ((dg a n).filter fun i=>decide (l[i]? =some c))=(sZ c (l.drop s)).map tx
 | 0,a,s,e,hs,hl,hn=>by
  have w:c∉l.drop s:=fun z=>by
   obtain⟨i,f⟩:=bF.mp z
   rw[dj] at f
   have:=(aZ.mp f).1
   exact hn (s+i) (by omega) (by omega) f
  rw[tF w]
  show [strSub (tx l) s (tx l).length]=[tx (l.drop s)]
  rw[mO,iK,cM (by rw[dB];exact bh _)]
 | n +1,a,s,e,hs,hl,hn=>by
  rw[eJ,cJ]
  by_cases h:l[a]? =some c
  ·have g:=F a h
   have ha:=(aZ.mp h).1
   have o:=(aZ.mp g).1
   have E:s<=a:=hs.elim id fun z=>absurd h z.2
   rw[if_pos (decide_eq_true h)]
   show strSub (tx l) s a::StrLaws.partsFrom (tx l) 2 (a+2) _=_
   rw[qm F b n (a+1) (a+2) (by omega) (.inr ⟨rfl,fun z=>b (Option.some.inj (g.symm.trans z))⟩) (by omega) (fun i h1 g=>by omega),mO]
   have w:c∉(l.drop s).take (a - s):=fun z=>by
    obtain⟨i,f⟩:=bF.mp z
    have A:=(aZ.mp f).1
    rw[bW] at A
    rw[dA (by omega),dj] at f
    exact hn (s+i) (by omega) (by omega) f
   have D:l.drop s=(l.drop s).take (a - s)++c::d::l.drop (a+2):=by
    have G:(l.drop s).drop (a - s)=c::d::l.drop (a+2):=by
     rw[List.drop_drop,show s+(a - s)=a by omega,cK ha,(aZ.mp h).2,cK o,(aZ.mp g).2]
    rw[←G,dQ]
   have C:=xT (r:=l.drop (a+2)) b w
   rw[←D] at C
   rw[C]
   rfl
  ·rw[if_neg (by rw[decide_eq_false h];decide)]
   refine qm F b n (a+1) s (by omega) (.inl (by omega)) hl fun i h1 g=>?_
   rcases Nat.lt_or_ge i a with B|B
   ·exact hn i h1 B
   ·rw[show i=a by omega]
    exact h
theorem Fg{l:List Nat}{c d:Nat}(F:Fol c d l)(b:c≠d)(B:c<256)(h:d<256):Txt.split (tx l) (tx [c,d])=(sZ c l).map tx:=by
 have all:=qm F b.symm (l.length+1) 0 0 (gb _) (.inl (bh _)) (cf _) (fun i h1 f=>by omega)
 rw[ek] at all
 have w:Builtin.Str.strKind (tx [c,d])=1:=by
  unfold Builtin.Str.strKind
  rw[if_pos]
  simp[tx,B,h]
 have g:occurrences (tx l) (tx [c,d]) 0 (tx l).length ((tx l).length+1)=(dg 0 (l.length+1)).filter fun i=>decide (l[i]? =some c):=by
  rw[StrLaws.occ_eq,iK]
  exact tq F b (l.length+1) 0 #[] 0 (gb _) (.inl (bh _)) (bh _)
 unfold Txt.split
 rw[g]
 by_cases h1:(decide ((tx l).length<(tx [c,d]).length) || decide (Builtin.Str.strKind (tx l)<Builtin.Str.strKind (tx [c,d])))=true
 ·rw[if_pos h1]
  rw[w,iK,iK] at h1
  have:=yN (tx l)
  have C:l.length<2:=by
   rcases Bool.or_eq_true_iff.mp h1 with z|z
   ·exact of_decide_eq_true z
   ·have:=of_decide_eq_true z
    omega
  have A:c∉l:=fun z=>by
   obtain⟨i,o⟩:=bF.mp z
   have:=(aZ.mp (F i o)).1
   omega
  rw[tF A]
  rfl
 ·rw[if_neg h1]
  by_cases f:((dg 0 (l.length+1)).filter fun i=>decide (l[i]? =some c)).isEmpty=true
  ·rw[if_pos f]
   rw[List.isEmpty_iff.mp f] at all
   refine Eq.trans ?_ all
   show [tx l]=[strSub (tx l) 0 (tx l).length]
   rw[mO,iK,ek,fC,cg]
  ·rw[if_neg f,StrLaws.partsBetween_eq]
   exact all
theorem Fol.nil{c d:Nat}:Fol c d []:=fun i h=>by simp at h
theorem Fol.app{c d:Nat}{l:List Nat}(h:Fol c d l):∀{u:List Nat},c∉u ->Fol c d (u++l)
 |[],_=>h
 |x::u,hu=>fun i b=>by
  cases i with
  |zero=>exact absurd (Option.some.inj b) fun z=>hu (by rw[z];exact bj)
  |succ i=>exact Fol.app h (fun z=>hu (bc _ z)) i b
theorem Fol.two{c d:Nat}{l:List Nat}(f:c≠d)(h:Fol c d l):Fol c d (c::d::l):=fun i b=>by
 match i,b with
 |0,_=>rfl
 |1,b=>exact absurd (Option.some.inj b).symm f
 |i+2,b=>exact h i b
theorem yU{c d:Nat}(b:c≠d):∀{ps:List (List Nat)},(∀p∈ps,c∉p) ->ps≠[] ->Fol c d (jm [c,d] ps)/\ sZ c (jm [c,d] ps)=ps
 |[],_,h=>absurd rfl h
 |[p],h,_=>by
  have f:=h p bj
  have e:jm [c,d] [p]=p:=by simp[jm]
  rw[e]
  refine⟨?_,tF f⟩
  have:=Fol.app (d:=d) Fol.nil f
  rw[cT] at this
  exact this
 |p::q::r,h,_=>by
  have f:=h p bj
  have e:jm [c,d] (p::q::r)=p++c::d::jm [c,d] (q::r):=by simp[jm]
  obtain⟨h1,g⟩:=yU b (ps:=q::r) (fun x hx=>h x (bc _ hx)) (fi _ _)
  rw[e]
  exact⟨(h1.two b).app f,by rw[xT (Ne.symm b) f,g]⟩
theorem CN{ps:List (List Nat)}(h:∀p∈ps,44∉p)(b:ps≠[]):Txt.split (tx (jm [44,32] ps)) (tx [44,32])=ps.map tx:=by
 obtain⟨h1,f⟩:=yU (by decide:(44:Nat)≠32) h b
 rw[Fg h1 (by decide) (by decide) (by decide),f]
abbrev Kw:=List Nat × Int
structure Kpt(H:Hp)(r:Addr)(bs:List Addr)(ks:List Kw):Prop where
 lst:H r=some (.lst (bs.map V.ref))
 len:bs.length=ks.length
 row:∀(j:Nat) b u n,bs[j]? =some b ->ks[j]? =some (u,n) ->H b=some (.lst [.str (tx u),.int n])
 nd:bs.Nodup
section
variable {H H':Hp} {r:Addr} {bs:List Addr} {ks:List Kw}
theorem Kpt.mem(h:Kpt H r bs ks){b:Addr}(l:b∈bs):∃u n,H b=some (.lst [.str u,.int n]):=by
 obtain⟨j,g⟩:=bF.mp l
 have f:=(aZ.mp g).1
 exact⟨_,_,h.row j b (ks[j]'(by rw[←h.len];exact f)).1 (ks[j]'(by rw[←h.len];exact f)).2 g (bg _)⟩
end
end L2
namespace Ld
open L2
theorem Wh.half{D:Nat}{x:Rat}(h:Wh D x):Wh (D*2) (x*Lr.rt 1 2):=by
 obtain⟨n,b⟩:=h
 refine⟨n,?_⟩
 rw[←b,eV,Lr.jW]
 grind
theorem Wh.sm{D:Nat}:∀{xs:List Rat},(∀x∈xs,Wh D x) ->Wh D (Lr.sm xs)
 |[],_=>.zero
 |x::xs,h=>(h x bj).add (Wh.sm fun y b=>h y (bc _ b))
end Ld
namespace Lt
open PySem
def Up(xs:Array Nat):Prop:=xs.toList.Pairwise (· <·)
theorem Up.lt{xs:Array Nat}(h:Up xs){i j a b:Nat}(l:xs[i]? =some a)(g:xs[j]? =some b)(f:i<j):a<b:=by
 rw[←cG] at l g
 obtain⟨z,w⟩:=aZ.mp l
 obtain⟨o,A⟩:=aZ.mp g
 rw[←w, ←A]
 exact eF.mp h i j z o f
structure At(xs:Array Nat)(j p:Nat):Prop where
 le:p<=xs.size
 lo:∀i a,i<p ->xs[i]? =some a ->a<j
 hi:∀i a,p<=i ->xs[i]? =some a ->j<=a
theorem Cj{xs:Array Nat}{j:Nat}(h:Up xs):∀(fuel lo b:Nat),b - lo<=fuel ->lo<=b ->b<=xs.size ->(∀i a,i<lo ->xs[i]? =some a ->a<j) ->(∀i a,b<=i ->xs[i]? =some a ->j<=a) ->At xs j (SetTable.below.go xs j fuel lo b)
 |0,lo,b,h1,h2,h3,h4,h5=>by
  obtain rfl:lo=b:=by omega
  exact⟨h3,h4,h5⟩
 | fuel+1,lo,b,h1,h2,h3,h4,h5=>by
  unfold SetTable.below.go
  by_cases c:lo<b
  ·rw[if_pos c]
   dsimp only
   have g:(lo+b)/2<xs.size:=by omega
   have f:xs[(lo+b)/2]? =some (xs[(lo+b)/2]'g):=cE g
   have o:xs.getD ((lo+b)/2) j=xs[(lo+b)/2]'g:=by rw[Array.getD_eq_getD_getElem?,f];rfl
   rw[o]
   by_cases d:xs[(lo+b)/2]'g<j
   ·rw[if_pos d]
    refine Cj h fuel _ _ (by omega) (by omega) h3 (fun i a l ha=>?_) h5
    by_cases e:i=(lo+b)/2
    ·subst e
     rw[f] at ha
     cases ha
     exact d
    ·exact Nat.lt_trans (h.lt ha f (by omega)) d
   ·rw[if_neg d]
    refine Cj h fuel _ _ (by omega) (by omega) (by omega) h4 fun i a l ha=>?_
    by_cases e:i=(lo+b)/2
    ·subst e
     rw[f] at ha
     cases ha
     omega
    ·have:=h.lt f ha (by omega)
     omega
  ·rw[if_neg c]
   obtain rfl:lo=b:=by omega
   exact⟨h3,h4,h5⟩
theorem uU{xs:Array Nat}(h:Up xs)(j:Nat):At xs j (SetTable.below xs j):=
 Cj h _ _ _ (by omega) (by omega) (by omega) (fun i a b=>absurd b (by omega)) fun i a b ha=>by
  rw[eY b] at ha
  cases ha
theorem Dj{xs:Array Nat}(h:Up xs){i a:Nat}(ha:xs[i]? =some a):SetTable.below xs (a+1)=i+1:=by
 have A:=uU h (a+1)
 have g:i<xs.size:=by
  obtain⟨z,_⟩:=Array.getElem?_eq_some_iff.mp ha
  exact z
 have h1:i<SetTable.below xs (a+1):=by
  refine Classical.byContradiction fun z=>?_
  have:=A.hi i a (by omega) ha
  omega
 refine Classical.byContradiction fun z=>?_
 have f:i+1<SetTable.below xs (a+1):=by omega
 have l:=A.le
 have b:xs[i+1]? =some (xs[i+1]'(by omega)):=cE (by omega)
 have:=A.lo (i+1) _ f b
 have:=h.lt ha b (by omega)
 omega
theorem AC{xs:Array Nat}(h:Up xs):SetTable.below xs 0=0:=by
 have A:=uU h 0
 refine Classical.byContradiction fun z=>?_
 have f:=A.le
 have b:xs[0]? =some (xs[0]'(by omega)):=cE (by omega)
 have:=A.lo 0 _ (by omega) b
 omega
theorem Kr:Up #[]:=List.Pairwise.nil
theorem LP{xs:Array Nat}(h:Up xs){j:Nat}(B:xs[SetTable.below xs j]?≠some j):Up (SetTable.insertAt xs (SetTable.below xs j) j):=by
 have A:=uU h j
 generalize SetTable.below xs j=p at A B
 unfold Up
 rw[SetTable.toList_insertAt]
 refine List.pairwise_append.mpr ⟨h.take,fE.mpr ⟨fun b g=>?_,h.drop⟩,fun a ha b g=>?_⟩
 ·obtain⟨k,f⟩:=bF.mp g
  rw[dj,cG] at f
  have h1:=A.hi (p+k) b (by omega) f
  by_cases e:b=j
  ·subst e
   refine absurd ?_ B
   by_cases hk0:k=0
   ·subst hk0;exact f
   ·have C:p<xs.size:=by
     obtain⟨z,_⟩:=Array.getElem?_eq_some_iff.mp f
     omega
    have w:xs[p]? =some (xs[p]'C):=cE C
    have:=A.hi p _ (bh _) w
    have:=h.lt w f (by omega)
    omega
  ·omega
 ·obtain⟨k,f⟩:=bF.mp ha
  rw[gy] at f
  split at f
  ·rename_i l
   rw[cG] at f
   have h1:=A.lo k a l f
   rcases bw.mp g with rfl|g
   ·exact h1
   ·obtain⟨m,o⟩:=bF.mp g
    rw[dj,cG] at o
    exact h.lt f o (by omega)
  ·cases f
structure Tb(led:Bool)(t:SetTable):Prop where
 led:t.led=led
 up:t.plain=true ->Up t.place/\ t.dummies= #[]
theorem Tb.fresh(led:Bool):Tb led (SetTable.fresh 0 0 led):=⟨rfl,fun _=>⟨Kr,rfl⟩⟩
theorem Tb.standIn{led:Bool}{t:SetTable}(h:Tb led t)(n:Nat):Tb led (t.standIn n):=⟨h.led,fun z=>by cases z⟩
theorem Tb.off{led:Bool}{t:SetTable}(h:Tb led t):Tb led {t with plain:=false}:=⟨h.led,fun z=>by cases z⟩
theorem Bf(j:Nat):SetTable.has #[] j=false:=rfl
theorem CW{t:SetTable}{j:Nat}(h:t.slot j=.empty):t.place[SetTable.below t.place j]?≠some j:=by
 unfold SetTable.slot at h
 dsimp only at h
 intro e
 rw[if_pos (by rw[e];simp)] at h
 cases h
theorem uH{t:SetTable}{f:Nat ->Int}{h:Int}(b:t.dummies= #[]):∀(fuel:Nat) (p:SetTable.Probe) {j:Nat} {d:Option Nat},p.dummy=none ->SetTable.probe.go t f h fuel p=some (.empty j d) ->d=none/\ t.slot j=.empty
 |0,_,_,_,_,e=>by cases e
 | fuel+1,p,j,d,hp,e=>by
  unfold SetTable.probe.go at e
  cases hs:t.slot p.j with
  |empty=>
   rw[hs] at e
   cases e
   exact⟨hp,hs⟩
  | dummy=>
   unfold SetTable.slot at hs
   dsimp only at hs
   split at hs
   ·cases hs
   ·rw[b,Bf] at hs
    cases hs
  | live i=>
   rw[hs] at e
   dsimp only at e
   split at e
   ·cases e
   ·refine uH b fuel _ ?_ e
    unfold SetTable.advance
    split<;>exact hp
theorem Tb.put{led:Bool}{t:SetTable}(h:Tb led t){k:Int}{j:Nat}{d:Bool}(b:t.freeSlot k=some (j,d)):Tb led (t.put j).1:=by
 refine⟨h.led,fun l=>?_⟩
 obtain⟨u,f⟩:=h.up l
 have o:t.slot j=.empty:=by
  unfold SetTable.freeSlot at b
  split at b
  ·rename_i z w e
   have:=uH f _ _ rfl e
   obtain⟨rfl,g⟩:=this
   cases b
   exact g
  ·cases b
 refine⟨LP u (CW o),?_⟩
 show(if SetTable.has t.dummies j=true then _ else t.dummies)= #[]
 rw[f,Bf]
 rfl
theorem Tb.lay{led:Bool}{t:SetTable}(h:Tb led t)(f:Array (Int × Value))(k:Int)(x:Value):Tb led (layNew t f k x).2.1:=by
 unfold layNew
 split
 ·rename_i j d e
  have b:=h.put e
  show Tb led (SetTable.orStandIn (t.put j).1 _)
  unfold SetTable.orStandIn
  split
  ·exact b
  ·exact b.standIn _
 ·exact h.standIn _
theorem IR(owner:Array (Option Nat))(m:Nat):Up (((dz m).filterMap fun j=>(owner.getD j none).map (j,·)).map (·.1)).toArray:=by
 unfold Up
 show List.Pairwise _ (((dz m).filterMap fun j=>(owner.getD j none).map (j,·)).map (·.1))
 rw[gK,List.pairwise_filterMap]
 refine List.pairwise_lt_range.imp fun {a b} f x g y h=>?_
 obtain⟨z,_,rfl⟩:=bN.mp g
 obtain⟨w,_,rfl⟩:=bN.mp h
 exact f
theorem Tb.relay{led:Bool}{t:SetTable}(h:Tb led t)(f:Array (Int × Value))(n:Nat):Tb led (relayAll t f n).2.1:=by
 unfold relayAll
 split
 ·rename_i g b e
  dsimp only
  split
  ·unfold SetTable.relaid SetTable.laid at e
   cases ho:SetTable.layClean (SetTable.sizeAbove n - 1) (f.map (·.1)) with
   |none=>rw[ho] at e;cases e
   |some owner=>
    rw[ho] at e
    cases e
    exact⟨h.led,fun _=>⟨IR _ _,rfl⟩⟩
  ·exact h.standIn _
 ·exact h.standIn _
end Lt
namespace Lt
open PySem PySem.Spec PyProof.Rows
def pJ(e:Int × Value):Int:=match e.2 with
 | .int k _=>k
 |_=>0
def lx(l:List (Int × Value)):Prop:=∀e∈l,∃(k:Int) (t:Tok),e=(hashInt k,.int k t)
def lM(h:Heap)(a:Addr)(ks:List Int)(led:Bool):Prop:=
 ∃o es ep t,h.get? a=some o/\ o.ExactSet/\ o.data=.set es ep t/\ lx es.toList/\ (es.toList.map pJ).Perm ks/\ es.size<scanBound/\ t.fits es.size=true/\ Tb led t
theorem lx.elems{prog:Program}{w:World}{l:List (Int × Value)}(h:lx l):ElemsOf (intKind prog w) l:=fun e b=>by
 obtain⟨k,t,rfl⟩:=h e b
 exact⟨⟨k,intKind_is _ _ _ _,rfl⟩,rfl⟩
theorem lx.perm{l m:List (Int × Value)}(h:lx l)(p:m.Perm l):lx m:=fun e b=>h e (p.mem_iff.mp b)
theorem lx.snoc{l:List (Int × Value)}(h:lx l)(k:Int)(t:Tok):lx (l++[(hashInt k,.int k t)]):=fun e b=>by
 rcases bS.mp b with b|b
 ·exact h e b
 ·exact⟨k,t,bC.mp b⟩
theorem EW{prog:Program}{w:World}{k k':Int}{t:Tok}:(intKind prog w).is k (.int k' t)=true↔k'=k:=by simp[intKind,Value.isInt]
theorem lx.has{prog:Program}{w:World}{l:List (Int × Value)}(h:lx l)(k:Int):k∈l.map pJ↔∃e∈l,(intKind prog w).is k e.2=true:=by
 constructor
 ·intro b
  obtain⟨e,f,b⟩:=bz.mp b
  obtain⟨g,t,rfl⟩:=h e f
  exact⟨_,f,EW.mpr b⟩
 ·rintro⟨e,f,b⟩
  obtain⟨g,t,rfl⟩:=h e f
  exact bz.mpr ⟨_,f,EW.mp b⟩
theorem Bi{b fs:Array (Int × Value)}(p:fs.toList.Perm b.toList):fs.size=b.size:=by
 have:=p.length_eq
 rw[bY,bY] at this
 exact this
section
variable {prog:Program} {w:World} {A:Around} {E:Value ->Shared ->Prop} {s:Shared}
theorem Ek{h:Heap}{a:Addr}{o:Obj}{l fs:Array (Int × Value)}{ep:Nat}{t u:SetTable}(z:h.get? a=some o)(g:o.ExactSet)(b:o.data=.set l ep t):
  ∃f,(h.update a (Obj.putSet fs u)).get? a=some f/\ f.ExactSet/\ f.data=.set fs (ep+1) u:=by
 refine⟨_,cV (Obj.putSet fs u) z (by rw[putSet_of fs u b];rfl),?_,?_⟩
 ·rw[putSet_of fs u b];exact g
 ·rw[putSet_of fs u b]
theorem add_int{a:Addr}{k:Int}{tk:Tok}{l:List Int}{led:Bool}{Q:Bool ->Shared ->Prop}(hS:lM s.heap a l led)(a4:l.length+1<scanBound)
  (h:∀h',Heap.SameBut a s.heap h' ->lM h' a (if k∈l then l else l++[k]) led ->Q (!decide (k∈l)) {s with heap:=h'}):
  wpAny (model prog w) A (setAddHashed a (.int k tk) (hashInt k)) Q E s:=by
 obtain⟨o,D,ep,t,P,g2,O,U,W,g6,g7,g8⟩:=hS
 have R:D.size=l.length:=by rw[←W.length_eq,aX,bY]
 have kk:=intKind_is prog w k tk
 have N:=U.elems (prog:=prog) (w:=w)
 have G:k∈l↔∃e∈D.toList,(intKind prog w).is k e.2=true:=by rw[←W.mem_iff];exact U.has k
 unfold setAddHashed setAddHashedIn
 refine wpAny_holding (wpAny_bind (wpAny_setState_of P O g7 ?_))
 dsimp only
 rw[byScan_of (x:=.int k tk) rfl g6 N]
 simp only[↓reduceIte]
 unfold setAddByScan
 refine wpAny_bind (wpAny_bind (wpAny_rule (wpAny_bind (wpAny_setScan_of (knd:=intKind prog w) kk P O g7 N ?_))))
 cases hr:List.findIdx? (fun e=>(intKind prog w).is k e.2) D.toList with
 |some j=>
  dsimp only
  obtain⟨hj,a3,_⟩:=List.findIdx?_eq_some_iff_getElem.mp hr
  have B:k∈l:=G.mpr ⟨D.toList[j],gR hj,a3⟩
  have z:=h s.heap (Heap.SameBut.refl a s.heap) (by rw[if_pos B];exact⟨o,D,ep,t,P,g2,O,U,W,g6,g7,g8⟩)
  rw[decide_eq_true B] at z
  exact wpAny_pure (wpAny_pure z)
 | none=>
  dsimp only
  have B:¬k∈l:=fun z=>by
   obtain⟨e,he,hp⟩:=G.mp z
   have:=List.findIdx?_eq_none_iff.mp hr e he
   rw[hp] at this
   cases this
  have quiet:∀(b:Bool) {C:Shared} {Q':Unit ->Shared ->Prop},Q' () C ->wpAny (model prog w) A (match b with|true=>rule "set.scan.the-table-gave-way"|false=>pure ()) Q' E C:=fun b C Q' q=>by
   cases b
   ·exact wpAny_pure q
   ·exact wpAny_rule q
  have H:=layNew_perm t D (hashInt k) (.int k tk)
  have K:=layNew_fits t D (hashInt k) (.int k tk)
  have M:=g8.lay D (hashInt k) (.int k tk)
  generalize layNew t D (hashInt k) (.int k tk)=L at H K M ⊢
  obtain⟨f,t1,a0,a5⟩:=L
  dsimp only at H K M ⊢
  rw[fN] at H
  have e1:lx f.toList:=(U.snoc k tk).perm H
  have n1:f.size=l.length+1:=by
   have:=H.length_eq
   rw[bf,bY,bY,R] at this
   exact this
  have k1:(f.toList.map pJ).Perm (l++[k]):=by
   refine(H.map pJ).trans ?_
   rw[bZ]
   exact W.append_right _
  have sc:f.size<scanBound:=by omega
  have fin:∀h' fs u Z,Heap.SameBut a s.heap h' ->(∃I,h'.get? a=some I/\ I.ExactSet/\ I.data=.set fs Z u) ->fs.toList.Perm f.toList ->u.fits fs.size=true ->Tb led u ->Q true {s with heap:=h'}:=fun h' fs u Z sb ⟨I,X,q2,S⟩ Y ff tf=>by
   have z:=h h' sb (by
    rw[if_neg B]
    exact⟨I,fs,Z,u,X,q2,S,e1.perm Y,(Y.map pJ).trans k1,by rw[Bi Y];exact sc,ff,tf⟩)
   rw[decide_eq_false B] at z
   exact z
  have F:∀g:SetTable,g.fits f.size=true ->Tb led g ->wpAny (model prog w) A (do
    storeSet a f g
    if(!a0 && g.tooFull)=true then do
      (match (relayAll g f (SetTable.grown f.size)).2.2 with|true=>rule "set.scan.the-table-gave-way"|false=>pure ())
      storeSet a (relayAll g f (SetTable.grown f.size)).1 (relayAll g f (SetTable.grown f.size)).2.1
      pure (some true)
     else pure (some true)) (fun r s'=>wpAny (model prog w) A (match r with|some added=>pure added|none=>setAddHashedIn a (.int k tk) (hashInt k) 99999) Q E s') E s:=fun g f2 b2=>by
   refine wpAny_bind (wpAny_storeSet_of P O ?_ (fits_of_scanBound sc))
   have y1:=Ek (fs:=f) (u:=g) P g2 O
   have J:=Heap.SameBut.update s.heap a (Obj.putSet f g)
   split
   ·have T:=relayAll_perm g f (SetTable.grown f.size)
    have f3:=relayAll_fits g f (SetTable.grown f.size)
    have b3:=b2.relay f (SetTable.grown f.size)
    generalize relayAll g f (SetTable.grown f.size)=R3 at T f3 b3 ⊢
    obtain⟨a2,t3,a1⟩:=R3
    dsimp only at T f3 b3 ⊢
    obtain⟨I,X,q2,S⟩:=y1
    refine wpAny_bind (quiet _ (wpAny_bind (wpAny_storeSet_of X S ?_ (fits_of_scanBound (by rw[Bi T];exact sc)))))
    exact wpAny_pure (wpAny_pure (fin _ a2 t3 _ (J.trans (Heap.SameBut.update _ a _)) (Ek X q2 S) T f3 b3))
   ·exact wpAny_pure (wpAny_pure (fin _ f g _ J y1 (List.Perm.refl _) f2 b2))
  refine wpAny_bind (quiet _ ?_)
  split
  ·refine wpAny_bind ?_
   rw[hashByValue_scannable 8 (x:=.int k tk) rfl]
   refine wpAny_pure ?_
   refine F _ ?_ ?_
   ·split
    ·exact K
    ·exact SetTable.fits_plain_off K
   ·split
    ·exact M
    ·exact M.off
  ·refine wpAny_bind (wpAny_pure ?_)
   simp only[↓reduceIte]
   exact F _ K M
end
end Lt
namespace Lt
open PySem PySem.Spec PyProof.Rows
abbrev kM(w:World):Bool:= !w.params.followText "set-order"
def ddS(ks:List Int)(k:Int):List Int:=if k∈ks then ks else ks++[k]
def dd(ns:List Int):List Int:=ns.foldl ddS []
theorem Je(ns:List Int)(k:Int):dd (ns++[k])=ddS (dd ns) k:=by unfold dd;rw[List.foldl_append];rfl
theorem IU(b:List Int)(k:Int):(ddS b k).length<=b.length+1:=by unfold ddS;split<;>simp
theorem BJ{ns:List Int}{i:Nat}(h:i<ns.length):dd (ns.take (i+1))=ddS (dd (ns.take i)) (ns.getD i 0):=by
 rw[cx,bg h,Option.toList_some,Je,dt,bg h]
 rfl
theorem zw:∀(ns:List Int) (i:Nat),i<=ns.length ->(dd (ns.take i)).length<=i
 |ns,0,_=>by simp[dd]
 |ns,i+1,h=>by
  rw[BJ (by omega)]
  have:=zw ns i (by omega)
  have:=IU (dd (ns.take i)) (ns.getD i 0)
  omega
theorem Iw(b:List Int)(k x:Int):x∈ddS b k↔x∈b∨x=k:=by
 unfold ddS
 split
 ·exact⟨.inl,fun h=>h.elim id fun e=>e▸ ‹_›⟩
 ·rw[bS,bC]
theorem JR{g:List Int}(h:g.Nodup)(k:Int):(ddS g k).Nodup:=by
 unfold ddS
 split
 ·exact h
 ·rename_i l
  refine List.nodup_append.mpr ⟨h,df.mpr ⟨by simp,List.nodup_nil⟩,fun a ha b f e=>?_⟩
  rw[bC] at f
  subst e f
  exact l ha
theorem ET(ns:List Int):(∀x,x∈dd ns↔x∈ns)/\ (dd ns).Nodup:=by
 have g:∀(l:List Int) (f:List Int),f.Nodup ->(∀x,x∈l.foldl ddS f↔x∈f∨x∈l)/\ (l.foldl ddS f).Nodup:=fun l=>by
  induction l with
  |nil=>exact fun f h=>⟨fun x=>by simp,h⟩
  |cons k l ih=>
   intro f h
   obtain⟨a,b⟩:=ih (ddS f k) (JR h k)
   refine⟨fun x=>?_,b⟩
   rw[eU,a x,Iw,bw,or_assoc]
 have:=g ns [] List.nodup_nil
 exact⟨fun x=>by rw[show dd ns=ns.foldl ddS [] from rfl,this.1 x];simp,this.2⟩
theorem lM.keep{h h':Heap}{a:Addr}{b:List Int}{led:Bool}(x:lM h a b led)(e:∀o,h.get? a=some o ->h'.get? a=some o):lM h' a b led:=
 let⟨o,es,ep,t,g1,r⟩:=x
 ⟨o,es,ep,t,e o g1,r⟩
theorem lM.fresh{h:Heap}{a:Addr}{led:Bool}(e:h.get? a=some {cls:=.type "set",dict:=none,data:=.set #[] 0 (.fresh 0 0 led)}):lM h a [] led:=
 ⟨_, #[],0,_,e,⟨rfl,rfl,rfl⟩,rfl,fun e b=>by simp at b,List.Perm.nil,by decide,by rfl,Tb.fresh led⟩
section
variable {prog:Program} {w:World} {A:Around} {R:Result ->Shared ->Prop} {I:Addr} {fp wr:List Addr} {G:Array GenState ->Array GenState ->Prop} {P:Nat ->Value ->Prop} {St:Nat ->Shared ->Prop}
theorem FW{ns:List Int}{led:Bool}(W:WalksS prog w A.in1 I fp wr G ns.length P St)(S:Addr)(C:S∉fp)(E:∀i v,P i v ->∃t,v=.int (ns.getD i 0) t)(hb:ns.length+1<scanBound):
  ∀(k i:Nat) (s:Shared),ns.length - i=k ->i<=ns.length ->St i s ->lM s.heap S (dd (ns.take i)) led ->
   (∀f,Moved (S::wr) G s f ->lM f.heap S (dd ns) led ->R (.ok (.ret .none)) f) ->
   codeAny (model prog w) A (.builtin "set.update.loop" ⟨[.ref S,.ref I],[]⟩) R s:=by
 have h:S∉wr:=fun z=>C (W.sub _ z)
 have g:∀b∈wr,b∈S::wr:=fun b z=>bc _ z
 intro k
 induction k with
 |zero=>
  intro i s Y X K J Q
  obtain rfl:i=ns.length:=by omega
  refine codeAny_builtin F.entry_set_update_loop ?_
  rw[Around.under_plainId F.plain_set_update_loop _]
  show wpAny _ A.in1 (pyNext (.ref I)>>=_) _ _ s
  refine wpAny_bind (W.done s _ _ K fun f B=>?_)
  show wpAny _ A.in1 (ret Value.none) _ _ f
  rw[cg] at J
  exact wpAny_pure (Q f (B.mono g) (J.keep fun o e=>B.heap S _ h e))
 | succ k ih=>
  intro i s Y X K J Q
  have lt:i<ns.length:=by omega
  refine codeAny_builtin F.entry_set_update_loop ?_
  rw[Around.under_plainId F.plain_set_update_loop _]
  show wpAny _ A.in1 (pyNext (.ref I)>>=_) _ _ s
  refine wpAny_bind (W.item i s _ _ lt K fun v f Z N B=>?_)
  obtain⟨t,rfl⟩:=E i v Z
  have M:=J.keep (h':=f.heap) fun o e=>B.heap S _ h e
  show wpAny _ A.in1 (holding [Value.int (ns.getD i 0) t] (setAdd S (.int (ns.getD i 0) t))>>=_) _ _ f
  refine wpAny_bind (wpAny_holding ?_)
  unfold setAdd
  refine wpAny_holding (wpAny_bind ((intKind prog w).pyHash (k:=ns.getD i 0) (intKind_is _ _ _ _) ?_))
  have D:(dd (ns.take i)).length+1<scanBound:=by
   have:=zw ns i X
   omega
  refine add_int (s:={f with toks:=f.toks+1}) M D fun h' U O=>?_
  have L:lM h' S (dd (ns.take (i+1))) led:=by rw[BJ lt];exact O
  refine wpAny_pure ⟨plainId_quiet F.plain_set_update_loop _,ih (i+1) _ (by omega) lt (W.frame _ f _ _ N (dN _) fun b z o e=>?_) L fun T l H=>?_⟩
  ·rw[U.2 b (fun q:b=S=>C (by rw[←q];exact z))];exact e
  ·refine Q T (Moved.trans W.gtrans ((B.mono g).then_heap (dN _) fun b o z e=>?_) l) H
   rw[U.2 b (fun q:b=S=>z (by rw[q];exact bj))];exact e
end
section
variable {prog:Program} {w:World} {A:Around} {E:Value ->Shared ->Prop} {s:Shared}
abbrev kA(led:Bool):Obj:={cls:=.type "set",dict:=none,data:=.set #[] 0 (.fresh 0 0 led)}
theorem IY(a:Value){Q₁:Value ->Shared ->Prop}(h:Q₁ (.ref s.heap.objs.size) {s with heap:=s.heap.push (kA (kM w))}):
  codeAny (model prog w) A (.call (.builtin "set.__new__") ⟨[.type "set",a],[]⟩) (wants Q₁ E) s:=by
 refine codeAny_of_tree ?_
 show wpAny _ A.in1 (do checkBuiltinCall "set.__new__" ⟨[.type "set",a],[]⟩;again (.builtin "set.__new__" ⟨[.type "set",a],[]⟩)) _ _ s
 refine wpAny_bind (wpAny_of_eq (F.newCall_set_1 a) (wpAny_pure ⟨plainId_quiet F.plain_set_new _,codeAny_builtin F.entry_set_new ?_⟩))
 rw[Around.under_plainId F.plain_set_new _]
 unfold Builtin.«set.__new__» Builtin.Frozenset.newClass
 have b:=sub_set_self
 obtain⟨f,g,d,tk,l⟩:=s
 dsimp only
 wp_walk
 refine wpAny_askSetting (wpAny_pure ?_)
 dsimp only
 simp only[newObj]
 refine wpAny_bind (wpAny_alloc (wpAny_pure ?_))
 exact wpAny_pure h
theorem FY{l:Addr}{items:Array Value}{ns:List Int}{Q:Value ->Shared ->Prop}(hh:A.handled=none)(hl:s.heap.IsList l items)(hi:IntsAre items.toList ns)(hb:ns.length+1<scanBound)
  (h:∀(h':Heap) (tk:Nat),lM h' s.heap.objs.size (dd ns) (kM w) ->(∀b o,b<s.heap.objs.size ->s.heap.get? b=some o ->h'.get? b=some o) ->Q (.ref s.heap.objs.size) {s with heap:=h',toks:=tk}):
  wpAny (model prog w) A (call (.type "set") [.ref l]) Q E s:=by
 have M:items.size=ns.length:=by rw[←bY];exact IntsAre.length hi
 obtain⟨c,tl,m1⟩:=F.called_set.mro
 have m2:=F.called_set.made
 have m3:=F.called_set.sub
 refine wpAny_call (codeAny_of_tree ?_)
 show wpAny _ _ (callAny (.type "set") _) _ _ _
 refine wpAny_pure ⟨Code.quiet_builtin _ (by decide+kernel),codeAny_builtin F.entry_type_call ?_⟩
 rw[Around.under_plain (weight_type_call_type "set" [.ref l] []) rfl]
 have m4:=F.called_set.notType
 have m5:=F.called_set.canCreate
 have m6:=F.typeCall_set_1 (.ref l)
 repeat any_goals first|assumption|wp_step
 refine codeAny_mono (IY (.ref l) (E:=E) (Q₁:=fun I B=>I=.ref s.heap.objs.size/\ B={s with heap:=s.heap.push (kA (kM w))}) ⟨rfl,rfl⟩) fun r B N=>?_
 cases r with
 |error e=>exact N
 | ok fl=>
  cases fl with
  | ret I=>
   obtain⟨rfl,rfl⟩:=N
   have U:(s.heap.push (kA (kM w))).get? s.heap.objs.size=some (kA (kM w)):=bu _ rfl
   have hT:Shared.TypeIs {s with heap:=s.heap.push (kA (kM w))} (.ref s.heap.objs.size) "set":=⟨_,U,rfl⟩
   have m7:=F.called_set.init.lookup
   have m8:=F.called_set.init.bind (.ref s.heap.objs.size)
   repeat any_goals first|assumption|wp_step
   refine codeAny_mono (codeAny_call_builtin (R:=wants (fun r C=>r=.none/\ ∃h' tk,C={s with heap:=h',toks:=tk}/\ lM h' s.heap.objs.size (dd ns) (kM w)/\
     (∀b o,b<s.heap.objs.size ->s.heap.get? b=some o ->h'.get? b=some o)) E) F.called_set.init.plain F.entry_set_init (check_set_init_1 hT ?_)) fun H C f=>?_
   ·obtain⟨ol,k1,Y,nl,k3⟩:=hl
    obtain⟨T,D,S,g⟩:=ol
    simp only at Y k3
    subst Y;subst k3
    have k4:(s.heap.push (kA (kM w))).get? l=some {cls:=.type "list",dict:=D,data:=.seq items nl,slots:=g}:=aY _ k1
    have k5:=F.sub_list_set
    have k6:=F.sub_list_frozenset
    have k7:(Value.type "list" == Value.type "dict")=false:=by decide
    have Z:(s.heap.push (kA (kM w))).IsList l items:=⟨_,k4,rfl,nl,rfl⟩
    unfold Builtin.«set.__init__» noKeywords Builtin.Frozenset.updateFrom
    generalize hPI:pyIter=PI
    wp_walk
    subst hPI
    refine wpAny_pyIter_list Z ?_
    refine wpAny_bind (wpAny_runValue ?_)
    have k9:l<s.heap.objs.size:=bq k1
    have h3:A.in1.in1.in1.handled=none:=by simp[hh]
    have G:l≠(s.heap.push (kA (kM w))).objs.size:=by rw[cC];exact bD (eZ k9)
    have J:s.heap.objs.size∉[(s.heap.push (kA (kM w))).objs.size,l]:=by
     rw[cC]
     intro z
     rcases bw.mp z with z|z
     ·exact absurd z (bD (dO _))
     ·exact absurd (bC.mp z) (dM k9)
    have val:∀(i:Nat) (v:Value),items[i]? =some v ->∃t,v=.int (ns.getD i 0) t:=fun i v hv=>IntsAre.int_at hi i v (by rw[cG];exact hv)
    have W:=(Walks.list (prog:=prog) (w:=w) h3 _ l G items).toS
    rw[M] at W
    refine FW (led:=kM w) W s.heap.objs.size J val hb (ns.length - 0) 0 _ (by omega) (cf _) ⟨⟨_,bu _ rfl,rfl,rfl⟩,(Z.push _)⟩ ?hS0 ?hR
    case hS0=>exact lM.fresh (aY _ U)
    case hR=>
     intro s' K O
     obtain⟨h',g',d',L,P⟩:=s'
     have eg:g'=s.gens:=K.gens
     have ed:d'=s.drawn:=K.drawn
     have eo:P=s.os:=K.os
     subst eg;subst ed;subst eo
     show wpAny _ _ _ _ _ _
     refine wpAny_pure ?_
     show wpAny _ _ (ret Value.none) _ _ _
     refine wpAny_pure ⟨rfl,h',L,rfl,O,fun b o lt e=>?_⟩
     refine K.heap b o (fun z=>?_) (aY _ (aY _ e))
     rcases bw.mp z with z|z
     ·exact absurd z (bD lt)
     ·have X:=bC.mp z
      rw[cC] at X
      exact absurd X (bD (eZ lt))
   ·cases H with
    |error e=>exact f
    | ok fl₂=>
     cases fl₂ with
     |ret r=>
      obtain⟨rfl,h',tk,rfl,q1,q2⟩:=f
      repeat any_goals first|assumption|wp_step
      exact h _ _ q1 q2
     |_=>exact f.elim
  |_=>exact N.elim
end
end Lt
namespace Lt
open PySem PySem.Spec PyProof.Rows
theorem mR:Slot "set_iterator" "__next__" "set_iterator.__next__":=
 .of (owner:="set_iterator") (n:="__next__") (by rw[typeLookup_type,builtinLookup_eq_fast];kernel_rfl) (by decide+kernel) (by decide+kernel) (by decide+kernel) (by first|exact .inl (by decide+kernel)|exact .inr (by decide+kernel)) (by rw[isSubtype_type];kernel_rfl)
theorem CT:entryFor table "set_iterator.__next__"=some Builtin.«set_iterator.__next__»:=entryFor_of_fast (by kernel_rfl)
theorem Dr(a:Value):argsOk "set_iterator.__next__" ⟨[a],[]⟩:=by unfold argsOk;kernel_rfl
theorem Cc:entryFor table "set.__iter__"=some Builtin.«frozenset.__iter__»:=entryFor_alias (id':="frozenset.__iter__") (by kernel_rfl) rfl (by decide+kernel) (by kernel_rfl)
def jS(h:Heap)(I S:Addr)(first:Value)(i n ep:Nat):Prop:=∃oi,h.get? I=some oi/\ oi.cls=.type "set_iterator"/\ oi.data=.fields #[first,.int i 0,.ref S,.int n 0,.int ep 0]
theorem jS.keep{h h':Heap}{I S:Addr}{first:Value}{i n ep:Nat}(x:jS h I S first i n ep)(e:∀o,h.get? I=some o ->h'.get? I=some o):jS h' I S first i n ep:=
 let⟨o,a,r⟩:=x
 ⟨o,e o a,r⟩
section
variable {prog:Program} {w:World} {A:Around} {E:Value ->Shared ->Prop} {s:Shared}
theorem jS.ty{I S:Addr}{first:Value}{i n ep:Nat}(x:jS s.heap I S first i n ep):s.TypeIs (.ref I) "set_iterator":=let⟨o,a,b,_⟩:=x;⟨o,a,b⟩
theorem oH{I S:Addr}{first:Value}{i n ep:Nat}{Q:Option Value ->Shared ->Prop}(x:jS s.heap I S first i n ep)
  (h:wpAny (model prog w) A.in1 (Builtin.«set_iterator.__next__» ⟨[.ref I],[]⟩) (fun fin f=>∃v,fin=.done (.ret v)/\ Q (some v) f) (fun e f=>f.TypeIs e "StopIteration"/\ Q none f) s):
  wpAny (model prog w) A (pyNext (.ref I)) Q E s:=by
 unfold pyNext
 refine wpAny_bind (wpAny_attempt (wpAny_callSpecial?_slot (name:=Str.ofString "__next__") x.ty mR (wpAny_call_entry mR x.ty CT (wpAny_mono h ?_ ?_) (Dr _))))
 ·rintro fin f ⟨v,rfl,q⟩
  exact⟨v,rfl,wpAny_pure q⟩
 ·rintro e f ⟨t,q⟩
  exact wpAny_bind (wpAny_isInstance (T:="StopIteration") (b:=true) t isSubtype_stop (wpAny_pure q))
theorem wJ{R:Fin ->Shared ->Prop}{q:Shared ->Prop}(g:A.handled=none)(h:∀h':Heap,(∀b o,s.heap.get? b=some o ->h'.get? b=some o) ->q {s with heap:=h'}):
  wpAny (model prog w) A (newExc (.type "StopIteration") []>>=fun e=>raiseNew e) R (fun e f=>f.TypeIs e "StopIteration"/\ q f) s:=by
 refine wpAny_bind ?_
 simp only[newExc,newTuple]
 refine wpAny_bind (wpAny_newObj_type ?_ (by size_fits))
 refine wpAny_bind (m:=firstArgMember _ _) (wpAny_of_eq (a:=Value.none) (by first|rfl|(simp only[firstArgMember];rfl)) ?_)
 refine wpAny_newObj_type ?_ (by size_fits)
 simp only[raiseNew]
 refine wpAny_bind (wpAny_handled ?_)
 rw[show A.handled=none from g]
 refine wpAny_bind (wpAny_pure (wpAny_throw ⟨⟨_,bu _ rfl,rfl⟩,h _ fun b o e=>?_⟩))
 exact aY _ (aY _ e)
theorem Be{h:Heap}{I S:Addr}{first next:Value}{i n ep:Nat}(x:jS h I S first i n ep):
  jS ((h.update I (Obj.mapFields (·.setIfInBounds 0 next))).update I (Obj.mapFields (·.setIfInBounds 1 (rawInt ((i:Int)+1))))) I S next (i+1) n ep:=by
 obtain⟨z,g,o,b⟩:=x
 have l:=cV (Obj.mapFields (·.setIfInBounds 0 next)) g (Obj.isFreed_of_fields (Obj.data_mapFields b _))
 have f:=Obj.data_mapFields b (·.setIfInBounds 0 next)
 refine⟨_,cV _ l (Obj.isFreed_of_fields (Obj.data_mapFields f _)),(Obj.cls_mapFields ..).trans ((Obj.cls_mapFields ..).trans o),?_⟩
 rw[Obj.data_mapFields f]
 simp[rawInt]
theorem FS{h:Heap}{I S:Addr}{first:Value}{i n ep:Nat}(x:jS h I S first i n ep):
  jS (h.update I (Obj.mapFields (·.setIfInBounds 1 (rawInt ((i:Int)+1))))) I S first (i+1) n ep:=by
 obtain⟨l,f,g,b⟩:=x
 refine⟨_,cV _ f (Obj.isFreed_of_fields (Obj.data_mapFields b _)),(Obj.cls_mapFields ..).trans g,?_⟩
 rw[Obj.data_mapFields b]
 simp[rawInt]
theorem Fk{b:Source}{n:Nat}{Q:Nat ->Shared ->Prop}(f:n≠0)(h:∀i,i<n ->∀d,Q i {s with drawn:=d}):wpAny (model prog w) A (choose b n) Q E s:=fun l p g=>⟨f,h _ (Nat.mod_lt _ (by omega)) _⟩
theorem ng{b:Type}:∀{xs:List b} {i:Nat} {x:b},xs[i]? =some x ->(x::xs.eraseIdx i).Perm xs
 |[],_,_,h=>by cases h
 |y::xs,0,x,h=>by cases h;exact List.Perm.refl _
 |y::xs,i+1,x,h=>by
  rw[List.eraseIdx_cons_succ]
  exact(List.Perm.swap y x _).trans ((ng (xs:=xs) (i:=i) h).cons y)
theorem xN{f:Type}:∀(n:Nat) (xs:List f) {s:Shared} {Q:List f ->Shared ->Prop},n=xs.length ->(∀ys d,ys.Perm xs ->Q ys {s with drawn:=d}) ->wpAny (model prog w) A (drawOrder n xs) Q E s
 |0,[],s,Q,_,h=>wpAny_pure (h [] s.drawn List.Perm.nil)
 |0,_::_,_,_,e,_=>by cases e
 |n+1,[],_,_,e,_=>by cases e
 | n+1,x::xs,s,Q,e,h=>by
  unfold drawOrder
  refine wpAny_bind (Fk (by simp) fun i o d=>?_)
  have b:(x::xs)[i]? =some ((x::xs)[i]):=bg o
  rw[b]
  refine wpAny_bind (xN n _ (by
   have:=(ng b).length_eq
   simp only[bE] at this e
   omega) fun ys l g=>?_)
  exact wpAny_pure (h _ l ((g.cons _).trans (ng b)))
theorem xx{g:Type}(next:Nat ->Nat):∀(fuel k:Nat) (b:List g) (out:Array g),fuel=b.length ->(pickOrder.go next fuel k b out).toList.Perm (out.toList++b)
 |0,k,b,out,h=>by
  rw[eO.mp h.symm,cT]
  exact List.Perm.refl _
 | fuel+1,k,b,out,h=>by
  unfold pickOrder.go
  have l:next k%b.length<b.length:=Nat.mod_lt _ (by omega)
  have f:b[next k%b.length]? =some (b[next k%b.length]):=bg l
  rw[f]
  refine(xx next fuel (k+1) _ _ (by
   have:=(ng f).length_eq
   rw[bE] at this
   omega)).trans ?_
  rw[fN,dF]
  exact((ng f).append_left _)
theorem sW{b:Type}(next:Nat ->Nat)(xs:Array b):(pickOrder next xs).toList.Perm xs.toList:=by
 have:=xx next xs.size 0 xs.toList #[] (by simp)
 unfold pickOrder
 simpa using this
end
end Lt
namespace Lt
open PySem PySem.Spec PyProof.Rows
section
variable {prog:Program} {w:World} {A:Around} {E:Value ->Shared ->Prop} {s:Shared} {I S:Addr} {o:Obj} {es:Array (Int × Value)} {ep:Nat} {t:SetTable}
theorem tV{b:Bool}{Q:Bool ->Shared ->Prop}(f:w.params.followText "set-order"=b)(q:Q b s):wpAny (model prog w) A setsByText Q E s:=by
 unfold setsByText
 refine wpAny_bind (wpAny_askSetting (wpAny_pure ?_))
 show Q (w.params.followText "set-order") s
 rw[f]
 exact q
theorem Eg{Q:Array (Int × Value) ->Shared ->Prop}(g:w.params.followText "set-order"=true)(f:s.heap.get? S=some o)(b:o.data=.set es ep t)(h:t.fits es.size=true)(q:Q (pickOrder (w.params.setOrder S ep) es) s):
  wpAny (model prog w) A (setWalk S) Q E s:=by
 unfold setWalk
 refine wpAny_bind (wpAny_setState_of f b h ?_)
 dsimp only
 refine wpAny_bind (tV g ?_)
 rw[if_pos rfl]
 exact wpAny_bind (wpAny_askSetting (wpAny_pure q))
theorem vV{g i:Nat}{Q:Option (Value × Nat) ->Shared ->Prop}(b:w.params.followText "set-order"=true)(l:s.heap.get? S=some o)(h:o.data=.set es ep t)(f:t.fits es.size=true)
  (q:Q ((pickOrder (w.params.setOrder S ep) es)[i]?.map fun e=>(e.2,g)) s):wpAny (model prog w) A (setNext S g i ep) Q E s:=by
 unfold setNext
 refine wpAny_bind (wpAny_setState_of l h f ?_)
 dsimp only
 refine wpAny_bind (tV b ?_)
 rw[if_pos rfl,if_neg (by simp)]
 exact wpAny_bind (Eg b l h f (wpAny_pure q))
def ue(es:Array (Int × Value))(t:SetTable):Prop:=(!t.plain && decide (es.size>1))=false
theorem vR{f i:Nat}{Q:Option (Value × Nat) ->Shared ->Prop}(z:w.params.followText "set-order"=false)(l:t.led=true)(h:ue es t)(D:s.heap.get? S=some o)(C:o.data=.set es ep t)(B:t.fits es.size=true)
  (q:Q (match es[SetTable.below t.place f]?,t.place[SetTable.below t.place f]? with|some (_,x),some j=>some (x,j+1)|_,_=>none) s):wpAny (model prog w) A (setNext S f i ep) Q E s:=by
 unfold setNext
 refine wpAny_bind (wpAny_setState_of D C B ?_)
 dsimp only
 refine wpAny_bind (tV z ?_)
 rw[if_neg (by decide)]
 have b:¬(!t.plain && decide (es.size>1))=true:=by rw[h];decide
 show wpAny _ _ (if(!t.plain && decide (es.size>1))=true then _ else _) _ _ _
 rw[if_neg b]
 refine wpAny_bind ?_
 have g:¬(!t.led && !es.isEmpty)=true:=by rw[l];simp
 show wpAny _ _ (if(!t.led && !es.isEmpty)=true then _ else _) _ _ _
 rw[if_neg g]
 exact wpAny_pure (wpAny_pure q)
theorem Eh{i:Nat}{x:Int × Value}{Q:Option Value ->Shared ->Prop}(C:w.params.followText "set-order"=true)(z:s.heap.get? S=some o)(l:o.data=.set es ep t)(h:t.fits es.size=true)(b:jS s.heap I S (.int 0 0) i es.size ep)
  (B:(pickOrder (w.params.setOrder S ep) es)[i]? =some x)(q:∀h',jS h' I S (.int 0 0) (i+1) es.size ep ->Heap.SameBut I s.heap h' ->Q (some x.2) {s with heap:=h'}):
  wpAny (model prog w) A (pyNext (.ref I)) Q E s:=by
 refine oH b ?_
 obtain⟨G,g,H,f⟩:=id b
 unfold Builtin.«set_iterator.__next__»
 refine wpAny_bind (m:=slotArgs _ _ _) (wpAny_pure (wpAny_bind (wpAny_fieldsOf g f ?_)))
 dsimp only
 refine wpAny_bind (wpAny_setEntries_of z l h ?_)
 rw[if_neg (by simp)]
 refine wpAny_bind (vV C z l h ?_)
 simp only[ef]
 rw[B]
 dsimp only[Option.map]
 refine wpAny_bind (wpAny_setField g f (by simp) ?_)
 have D:=cV (Obj.mapFields (·.setIfInBounds 0 (rawInt ((0:Nat):Int)))) g (Obj.isFreed_of_fields (Obj.data_mapFields f _))
 have F:=Obj.data_mapFields f (·.setIfInBounds 0 (rawInt ((0:Nat):Int)))
 refine wpAny_bind (wpAny_setField D F (by simp) (wpAny_pure ⟨_,rfl,q _ (Be b) ((Heap.SameBut.update ..).trans (Heap.SameBut.update ..))⟩))
theorem GV{i:Nat}{Q:Option Value ->Shared ->Prop}(D:A.handled=none)(g:w.params.followText "set-order"=true)(C:s.heap.get? S=some o)(h:o.data=.set es ep t)(B:t.fits es.size=true)(f:jS s.heap I S (.int 0 0) i es.size ep)
  (F:(pickOrder (w.params.setOrder S ep) es)[i]? =none)(q:∀h',Heap.ExtBut I s.heap h' ->Q none {s with heap:=h'}):wpAny (model prog w) A (pyNext (.ref I)) Q E s:=by
 refine oH f ?_
 obtain⟨H,z,J,l⟩:=id f
 unfold Builtin.«set_iterator.__next__»
 refine wpAny_bind (m:=slotArgs _ _ _) (wpAny_pure (wpAny_bind (wpAny_fieldsOf z l ?_)))
 dsimp only
 refine wpAny_bind (wpAny_setEntries_of C h B ?_)
 rw[if_neg (by simp)]
 refine wpAny_bind (vV g C h B ?_)
 simp only[ef]
 rw[F]
 dsimp only[Option.map]
 refine wpAny_bind (wpAny_setField z l (by simp) ?_)
 exact wJ (q:=fun G=>Q none G) (by simpa using D) fun h' k=>q h' fun b o g e=>k b o ((cL _ _ (Ne.symm g)).trans e)
theorem Fh{i h j:Nat}{x:Int × Value}{Q:Option Value ->Shared ->Prop}(D:w.params.followText "set-order"=false)(H:t.led=true)(G:ue es t)(B:s.heap.get? S=some o)(l:o.data=.set es ep t)(z:t.fits es.size=true)(b:jS s.heap I S (.int h 0) i es.size ep)
  (F:es[SetTable.below t.place h]? =some x)(C:t.place[SetTable.below t.place h]? =some j)(q:∀h',jS h' I S (.int (j+1:Nat) 0) (i+1) es.size ep ->Heap.SameBut I s.heap h' ->Q (some x.2) {s with heap:=h'}):
  wpAny (model prog w) A (pyNext (.ref I)) Q E s:=by
 refine oH b ?_
 obtain⟨L,g,M,f⟩:=id b
 unfold Builtin.«set_iterator.__next__»
 refine wpAny_bind (m:=slotArgs _ _ _) (wpAny_pure (wpAny_bind (wpAny_fieldsOf g f ?_)))
 dsimp only
 refine wpAny_bind (wpAny_setEntries_of B l z ?_)
 rw[if_neg (by simp)]
 refine wpAny_bind (vR D H G B l z ?_)
 simp only[ef]
 rw[F,C]
 dsimp only
 refine wpAny_bind (wpAny_setField g f (by simp) ?_)
 have J:=cV (Obj.mapFields (·.setIfInBounds 0 (rawInt ((j+1:Nat):Int)))) g (Obj.isFreed_of_fields (Obj.data_mapFields f _))
 have K:=Obj.data_mapFields f (·.setIfInBounds 0 (rawInt ((j+1:Nat):Int)))
 refine wpAny_bind (wpAny_setField J K (by simp) (wpAny_pure ⟨_,rfl,q _ (Be b) ((Heap.SameBut.update ..).trans (Heap.SameBut.update ..))⟩))
theorem GJ{i C:Nat}{Q:Option Value ->Shared ->Prop}(F:A.handled=none)(g:w.params.followText "set-order"=false)(J:t.led=true)(H:ue es t)(D:s.heap.get? S=some o)(h:o.data=.set es ep t)(B:t.fits es.size=true)(f:jS s.heap I S (.int C 0) i es.size ep)
  (G:es[SetTable.below t.place C]? =none)(q:∀h',Heap.ExtBut I s.heap h' ->Q none {s with heap:=h'}):wpAny (model prog w) A (pyNext (.ref I)) Q E s:=by
 refine oH f ?_
 obtain⟨L,z,M,l⟩:=id f
 unfold Builtin.«set_iterator.__next__»
 refine wpAny_bind (m:=slotArgs _ _ _) (wpAny_pure (wpAny_bind (wpAny_fieldsOf z l ?_)))
 dsimp only
 refine wpAny_bind (wpAny_setEntries_of D h B ?_)
 rw[if_neg (by simp)]
 refine wpAny_bind (vR g J H D h B ?_)
 simp only[ef]
 rw[G]
 dsimp only
 refine wpAny_bind (wpAny_setField z l (by simp) ?_)
 exact wJ (q:=fun K=>Q none K) (by simpa using F) fun h' k=>q h' fun b o g e=>k b o ((cL _ _ (Ne.symm g)).trans e)
theorem AT{p:Nat}{x:Int × Value}{Q:Value ->Shared ->Prop}(h:s.heap.get? S=some o)(b:o.data=.set es ep t)(f:t.fits es.size=true)(g:es[p]? =some x)(q:Q x.2 s):wpAny (model prog w) A (setNextDrawn S p ep) Q E s:=by
 unfold setNextDrawn
 refine wpAny_bind (wpAny_setState_of h b f ?_)
 dsimp only
 rw[if_neg (by simp),g]
 exact wpAny_pure q
theorem CY{T:Addr}{i p:Nat}{ps:List Nat}{x:Int × Value}{Q:Option Value ->Shared ->Prop}(B:s.heap.get? S=some o)(g:o.data=.set es ep t)(z:t.fits es.size=true)(b:jS s.heap I S (.ref T) i es.size ep)
  (D:s.heap.get? T=some {cls:=.type "tuple",data:=.seq (ps.map fun(k:Nat)=>rawInt k).toArray})(F:ps[i]? =some p)(C:es[p]? =some x)(q:∀h',jS h' I S (.ref T) (i+1) es.size ep ->Heap.SameBut I s.heap h' ->Q (some x.2) {s with heap:=h'}):
  wpAny (model prog w) A (pyNext (.ref I)) Q E s:=by
 refine oH b ?_
 obtain⟨G,l,H,h⟩:=id b
 unfold Builtin.«set_iterator.__next__»
 refine wpAny_bind (m:=slotArgs _ _ _) (wpAny_pure (wpAny_bind (wpAny_fieldsOf l h ?_)))
 dsimp only
 refine wpAny_bind (wpAny_setEntries_of B g z ?_)
 rw[if_neg (by simp)]
 refine wpAny_bind (wpAny_seqItems D rfl ?_)
 dsimp only
 have f:(ps.map fun(k:Nat)=>rawInt k).toArray[i]? =some (rawInt p):=by
  rw[fc,bi,F]
  rfl
 simp only[ef]
 rw[f]
 dsimp only[rawInt]
 refine wpAny_bind (AT (p:=p) B g z C ?_)
 refine wpAny_bind (wpAny_setField l h (by simp) (wpAny_pure ⟨_,rfl,q _ (FS b) (Heap.SameBut.update ..)⟩))
theorem EO{T:Addr}{i:Nat}{ps:List Nat}{Q:Option Value ->Shared ->Prop}(B:A.handled=none)(K:s.heap.get? S=some o)(C:o.data=.set es ep t)(J:t.fits es.size=true)(f:jS s.heap I S (.ref T) i es.size ep)
  (D:s.heap.get? T=some {cls:=.type "tuple",data:=.seq (ps.map fun(k:Nat)=>rawInt k).toArray})(G:ps[i]? =none)(q:∀h',Heap.ExtBut I s.heap h' ->Q none {s with heap:=h'}):wpAny (model prog w) A (pyNext (.ref I)) Q E s:=by
 refine oH f ?_
 obtain⟨M,h,N,g⟩:=id f
 unfold Builtin.«set_iterator.__next__»
 refine wpAny_bind (m:=slotArgs _ _ _) (wpAny_pure (wpAny_bind (wpAny_fieldsOf h g ?_)))
 dsimp only
 refine wpAny_bind (wpAny_setEntries_of K C J ?_)
 rw[if_neg (by simp)]
 refine wpAny_bind (wpAny_seqItems D rfl ?_)
 dsimp only
 have l:(ps.map fun(k:Nat)=>rawInt k).toArray[i]? =none:=by
  rw[fc,bi,G]
  rfl
 simp only[ef]
 rw[l]
 dsimp only
 refine wpAny_bind (wpAny_setField h g (by simp) ?_)
 have H:=cV (Obj.mapFields (·.setIfInBounds 0 (rawInt 0))) h (Obj.isFreed_of_fields (Obj.data_mapFields g _))
 have L:=Obj.data_mapFields g (·.setIfInBounds 0 (rawInt 0))
 refine wpAny_bind (wpAny_setField H L (by simp) ?_)
 exact wJ (q:=fun F=>Q none F) (by simpa using B) fun h' k=>q h' fun b o z e=>k b o ((cL _ _ (Ne.symm z)).trans ((cL _ _ (Ne.symm z)).trans e))
end
end Lt
namespace Lt
open PySem PySem.Spec PyProof.Rows
theorem vY:Slot "set_iterator" "__iter__" "set_iterator.__iter__":=
 .of (owner:="set_iterator") (n:="__iter__") (by rw[typeLookup_type,builtinLookup_eq_fast];kernel_rfl) (by decide+kernel) (by decide+kernel) (by decide+kernel) (by first|exact .inl (by decide+kernel)|exact .inr (by decide+kernel)) (by rw[isSubtype_type];kernel_rfl)
theorem AX:entryFor table "set_iterator.__iter__"=some Builtin.«dict_keyiterator.__iter__»:=entryFor_alias (id':="dict_keyiterator.__iter__") (by kernel_rfl) rfl (by decide+kernel) (by kernel_rfl)
theorem Cd(a:Value):argsOk "set_iterator.__iter__" ⟨[a],[]⟩:=by unfold argsOk;kernel_rfl
theorem lx.ints:∀{l:List (Int × Value)},lx l ->IntsAre (l.map (·.2)) (l.map pJ)
 |[],_=>.nil
 |e::l,h=>by
  obtain⟨k,t,rfl⟩:=h e bj
  exact .cons k t (lx.ints fun e b=>h e (bc _ b))
section
variable {prog:Program} {w:World} {A:Around} {E:Value ->Shared ->Prop} {s:Shared} {I S:Addr} {o:Obj} {es:Array (Int × Value)} {ep:Nat} {t:SetTable}
theorem xh{first:Value}{i n:Nat}{Q:Value ->Shared ->Prop}(x:jS s.heap I S first i n ep)(h:Q (.ref I) s):wpAny (model prog w) A (pyIter (.ref I)) Q E s:=by
 refine wpAny_pyIter_slot x.ty vY (wpAny_call_entry vY x.ty AX ?_ (Cd _))
 show wpAny _ _ (ret (.ref I)) _ _ s
 exact wpAny_pure ⟨_,rfl,"set_iterator",_,x.ty,mR.lookup,h⟩
def Wk(prog:Program)(w:World)(S n0 I:Addr)(vs:List Value)(h:Heap):Prop:=
 ∃fp St,(∀b∈fp,b=S∨n0<=b)/\ (∀A:Around,A.handled=none ->Walks prog w A I fp [I] vs.length (fun i v=>vs[i]? =some v) St)/\ St 0 h/\ (∀b∈fp,b<h.objs.size)/\ I∈fp
theorem IG{N:Addr}(D:N<=I)(f:w.params.followText "set-order"=true)(H:o.data=.set es ep t)(M:t.fits es.size=true)(F:S≠I){h:Heap}(l:jS h I S (.int 0 0) 0 es.size ep)(O:h.get? S=some o):
  Wk prog w S N I ((pickOrder (w.params.setOrder S ep) es).toList.map (·.2)) h:=by
 have R:(pickOrder (w.params.setOrder S ep) es).size=es.size:=by
  have:=(sW (w.params.setOrder S ep) es).length_eq
  rw[bY,bY] at this
  exact this
 refine⟨[I,S],fun i h=>jS h I S (.int 0 0) i es.size ep/\ h.get? S=some o,(fun b f=>by
  rcases bw.mp f with rfl|f
  ·exact .inr D
  ·exact .inl (bC.mp f)),fun A P=>?_,⟨l,O⟩,fun b f=>?_,bj⟩
 ·rw [aX,bY,R]
  exact
   {sub:=fun b f=>by rw[bC.mp f];exact bj
    frame:=fun i h C g L=>⟨g.1.keep fun o e=>L I (by simp) o e,L S (by simp) o g.2⟩
    item:=fun i s Q E W g B=>by
     have J:(pickOrder (w.params.setOrder S ep) es)[i]? =some ((pickOrder (w.params.setOrder S ep) es)[i]'(by omega)):=cE (by omega)
     refine Eh f g.2 H M g.1 J fun C G K=>B _ C s.toks ?_ ⟨G,K.extBut S o F g.2⟩ fun b o f e=>K.extBut b o (fun z=>f (by simp[z])) e
     rw[bi,cG,J]
     rfl
    done:=fun s Q E g B=>GV P f g.2 H M g.1 (eY (by omega)) fun C T=>B C s.toks fun b o f e=>T b o (fun z=>f (by simp[z])) e
    self:=fun i s Q E g B=>xh g.1 B}
 ·rcases bw.mp f with rfl|f
  ·obtain⟨U,e,_⟩:=l
   exact bq e
  ·rw[bC.mp f]
   exact bq O
theorem Jk{Z:Addr}(K:Z<=I)(f:w.params.followText "set-order"=false)(T:t.led=true)(X:ue es t)(W:Up t.place)(O:o.data=.set es ep t)(J:t.fits es.size=true)(L:S≠I){h:Heap}(F:jS h I S (.int 0 0) 0 es.size ep)(B:h.get? S=some o):
  Wk prog w S Z I (es.toList.map (·.2)) h:=by
 have hp:t.place.size=es.size:=by
  simp only[SetTable.fits,eI,beq_iff_eq] at J
  exact J.1
 refine⟨[I,S],fun i h=>(∃C:Nat,jS h I S (.int C 0) i es.size ep/\ SetTable.below t.place C=i)/\ h.get? S=some o,(fun b f=>by
  rcases bw.mp f with rfl|f
  ·exact .inr K
  ·exact .inl (bC.mp f)),fun A hh=>?_,⟨⟨0,F,AC W⟩,B⟩,fun b f=>?_,bj⟩
 ·rw [aX,bY]
  exact
   {sub:=fun b f=>by rw[bC.mp f];exact bj
    frame:=fun i h H l Y=>⟨let⟨C,a,b⟩:=l.1;⟨C,a.keep fun o e=>Y I (by simp) o e,b⟩,Y S (by simp) o l.2⟩
    item:=fun i s Q E U l G=>by
     obtain⟨⟨C,D,g⟩,B⟩:=l
     have P:es[i]? =some (es[i]'U):=cE U
     have N:t.place[i]? =some (t.place[i]'(by omega)):=cE (by omega)
     refine Fh f T X B O J D (by rw[g];exact P) (by rw[g];exact N) fun H M R=>G _ H s.toks ?_ ⟨⟨_,M,Dj W N⟩,R.extBut S o L B⟩ fun b o f e=>R.extBut b o (fun z=>f (by simp[z])) e
     rw[bi,cG,P]
     rfl
    done:=fun s Q E l G=>by
     obtain⟨⟨C,D,g⟩,B⟩:=l
     exact GJ hh f T X B O J D (by rw[g];exact eY (bh _)) fun H eb=>G H s.toks fun b o f e=>eb b o (fun z=>f (by simp[z])) e
    self:=fun i s Q E l G=>by
     obtain⟨⟨C,D,g⟩,B⟩:=l
     exact xh D G}
 ·rcases bw.mp f with rfl|f
  ·obtain⟨oi,e,_⟩:=F
   exact bq e
  ·rw[bC.mp f]
   exact bq B
theorem Gi{T W:Addr}(K:W<=I)(U:W<=T){ps:List Nat}(D:ps.Perm (dz es.size))(X:o.data=.set es ep t)(g3:t.fits es.size=true)(L:S≠I)(P:T≠I){h:Heap}(F:jS h I S (.ref T) 0 es.size ep)(g1:h.get? S=some o)
  (hT:h.get? T=some {cls:=.type "tuple",data:=.seq (ps.map fun(k:Nat)=>rawInt k).toArray}):
  Wk prog w S W I ((ps.filterMap fun p=>es[p]?).map (·.2)) h:=by
 have H:∀p∈ps,p<es.size:=fun p B=>gh.mp (D.mem_iff.mp B)
 have a0:ps.length=es.size:=by rw[D.length_eq,cP]
 have O:∀(l:List Nat),(∀p∈l,p<es.size) ->(l.filterMap fun p=>es[p]?).length=l.length/\ ∀(i p:Nat),l[i]? =some p ->(l.filterMap fun p=>es[p]?)[i]? =es[p]?:=fun l=>by
  induction l with
  |nil=>exact fun _=>⟨rfl,fun i p h=>by cases h⟩
  |cons q l ih=>
   intro Z
   have e:es[q]? =some (es[q]'(Z q bj)):=cE _
   obtain⟨a,b⟩:=ih fun p B=>Z p (bc _ B)
   rw[fv,e]
   refine⟨by rw[bE,bE,a],fun i p h=>?_⟩
   match i,h with
   |0,h=>cases h;rw[e];rfl
   |i+1,h=>exact b i p h
 obtain⟨c1,c2⟩:=O ps H
 refine⟨[I,S,T],fun i h=>jS h I S (.ref T) i es.size ep/\ h.get? S=some o/\ h.get? T=some {cls:=.type "tuple",data:=.seq (ps.map fun(k:Nat)=>rawInt k).toArray},(fun b f=>by
  rcases bw.mp f with rfl|f
  ·exact .inr K
  rcases bw.mp f with rfl|f
  ·exact .inl rfl
  ·exact .inr (by rw[bC.mp f];exact U)),fun A hh=>?_,⟨F,g1,hT⟩,fun b f=>?_,bj⟩
 ·rw [aX,c1]
  exact
   {sub:=fun b f=>by rw[bC.mp f];exact bj
    frame:=fun i h J g R=>⟨g.1.keep fun o e=>R I (by simp) o e,R S (by simp) o g.2.1,R T (by simp) _ g.2.2⟩
    item:=fun i s Q E C g G=>by
     have B:ps[i]? =some (ps[i]'C):=bg C
     have Y:es[ps[i]'C]? =some (es[ps[i]'C]'(H _ (gR C))):=cE _
     refine CY g.2.1 X g3 g.1 g.2.2 B Y fun J M N=>G _ J s.toks ?_ ⟨M,N.extBut S o L g.2.1,N.extBut T _ P g.2.2⟩ fun b o f e=>N.extBut b o (fun z=>f (by simp[z])) e
     rw[bi,c2 i _ B,Y]
     rfl
    done:=fun s Q E g G=>EO hh g.2.1 X g3 g.1 g.2.2 (fX (bh _)) fun J eb=>G J s.toks fun b o f e=>eb b o (fun z=>f (by simp[z])) e
    self:=fun i s Q E g G=>xh g.1 G}
 ·rcases bw.mp f with rfl|f
  ·obtain⟨oi,e,_⟩:=F
   exact bq e
  rcases bw.mp f with rfl|f
  ·exact bq g1
  ·rw[bC.mp f]
   exact bq hT
theorem Hw{xs:Array Nat}(h:xs.size<=1):Up xs:=by
 unfold Up
 match xs.toList,(bY (xs:=xs)) with
 |[],_=>exact List.Pairwise.nil
 |[a],_=>exact eP _ _
 |a::b::r,e=>simp at e;omega
theorem FJ{Q:Bool ->Shared ->Prop}(f:s.heap.get? S=some o)(b:o.data=.set es ep t)(g:t.fits es.size=true)(q:Q (!w.params.followText "set-order" && (!t.plain && decide (es.size>1))) s):wpAny (model prog w) A (setDrawn S) Q E s:=by
 unfold setDrawn
 refine wpAny_bind (wpAny_setState_of f b g ?_)
 dsimp only
 exact wpAny_bind (tV rfl (wpAny_pure q))
theorem Hs{N:List Int}{Q:Value ->Shared ->Prop}(U:lM s.heap S N (kM w))
  (q:∀I vs ns h' d',Wk prog w S s.heap.objs.size I vs h' ->IntsAre vs ns ->ns.Perm N ->(∀b o,s.heap.get? b=some o ->h'.get? b=some o) ->s.heap.objs.size<=I ->Q (.ref I) {s with heap:=h',drawn:=d'}):
  wpAny (model prog w) A (pyIter (.ref S)) Q E s:=by
 obtain⟨o,es,ep,t,h,R,l,G,J,T,g,M⟩:=U
 have O:s.TypeIs (.ref S) "set":=⟨o,h,R.1⟩
 have B:S<s.heap.objs.size:=bq h
 refine wpAny_pyIter_slot O F.slot_set_iter (wpAny_call_entry F.slot_set_iter O Cc ?_ (F.args_set_iter_1 _))
 unfold Builtin.«frozenset.__iter__»
 refine wpAny_bind (m:=Builtin.Frozenset.slot0 _ _) (wpAny_pure ?_)
 unfold Builtin.Frozenset.sizeOf
 refine wpAny_bind (wpAny_bind (wpAny_setEntries_of h l g (wpAny_pure ?_)))
 refine wpAny_bind (FJ h l g ?_)
 dsimp only
 cases hb:w.params.followText "set-order" with
 |true=>
  simp only[gF,Bool.false_and,gz,if_false]
  refine wpAny_bind (wpAny_pure (wpAny_bind (wpAny_setEpoch_of h l g ?_)))
  refine wpAny_bind (wpAny_newObj_type (wpAny_pure ⟨_,rfl,"set_iterator",_,⟨_,bu _ rfl,rfl⟩,mR.lookup,?_⟩))
  have C:=sW (w.params.setOrder S ep) es
  refine q _ _ _ _ s.drawn (IG (bh _) hb l g (bD B) ⟨_,bu _ rfl,rfl,rfl⟩ (aY _ h)) (lx.ints (G.perm C)) ((C.map pJ).trans J) (fun b o e=>aY _ e) (bh _)
 | false=>
  have P:t.led=true:=by rw[M.led];show(!w.params.followText "set-order")=true;rw[hb];rfl
  simp only[Bool.not_false,Bool.true_and]
  by_cases hd:(!t.plain && decide (es.size>1))=true
  ·rw[if_pos hd]
   refine wpAny_bind (xN es.size (dz es.size) (by simp) fun K d z=>?_)
   have H:K.length<=sizeLine:=by rw[z.length_eq,cP];exact fits_of_scanBound T
   refine wpAny_bind (wpAny_newTuple ?_ (by rw[aX];exact H))
   have D:(s.heap.push {cls:=.type "tuple",data:=.seq (K.map fun(i:Nat)=>rawInt i).toArray}).get? S=some o:=aY _ h
   refine wpAny_bind (wpAny_setEpoch_of D l g ?_)
   refine wpAny_bind (wpAny_newObj_type (wpAny_pure ⟨_,rfl,"set_iterator",_,⟨_,bu _ rfl,rfl⟩,mR.lookup,?_⟩))
   have C:(K.filterMap fun p=>es[p]?).Perm es.toList:=by
    have:=z.filterMap (f:=fun p=>es[p]?)
    rw[filterMap_getElem?_range] at this
    exact this
   refine q _ _ _ _ d (Gi ?_ (bh _) z l g ?_ ?_ ⟨_,bu _ rfl,rfl,rfl⟩ (aY _ D) (aY _ (bu _ rfl))) (lx.ints (G.perm C)) ((C.map pJ).trans J) (fun b o e=>aY _ (aY _ e)) ?_
   ·show s.heap.objs.size<=(s.heap.push _).objs.size
    rw[cC]
    exact dN _
   ·show S≠(s.heap.push _).objs.size
    rw[cC]
    exact bD (eZ B)
   ·show s.heap.objs.size≠(s.heap.push _).objs.size
    rw[cC]
    exact bD (dO _)
   ·show s.heap.objs.size<=(s.heap.push _).objs.size
    rw[cC]
    exact dN _
  ·rw [if_neg hd]
   have L:ue es t:=by unfold ue;simpa using hd
   have W:Up t.place:=by
    cases hp:t.plain with
    |true=>exact(M.up hp).1
    | false=>
     refine Hw ?_
     have h1:t.place.size=es.size:=by
      have:=g
      simp only[SetTable.fits,eI,beq_iff_eq] at this
      exact this.1
     rw[hp] at hd
     simp at hd
     omega
   refine wpAny_bind (wpAny_pure (wpAny_bind (wpAny_setEpoch_of h l g ?_)))
   refine wpAny_bind (wpAny_newObj_type (wpAny_pure ⟨_,rfl,"set_iterator",_,⟨_,bu _ rfl,rfl⟩,mR.lookup,?_⟩))
   refine q _ _ _ _ s.drawn (Jk (bh _) hb P L W l g (bD B) ⟨_,bu _ rfl,rfl,rfl⟩ (aY _ h)) (lx.ints G) J (fun b o e=>aY _ e) (bh _)
end
end Lt
namespace Lt
open PySem PySem.Spec PyProof.Rows
theorem IK:typeLookup (.type "set") "__len__"=pure (some (.builtin "set.__len__")):=by rw[typeLookup_type,builtinLookup_eq_fast];kernel_rfl
theorem yd{vs:List Value}{acc:Array Value}(h:ItemsOf (fun i v=>vs[i]? =some v) acc vs.length):acc.toList=vs:=by
 refine List.ext_getElem? fun i=>?_
 by_cases hi:i<vs.length
 ·have h1:acc[i]? =some (acc[i]'(by rw[h.1];exact hi)):=cE _
  rw[cG,h1,h.2 i _ h1]
 ·rw[fX (by rw[bY,h.1];omega),fX (by omega)]
section
variable {prog:Program} {w:World} {A:Around} {E:Value ->Shared ->Prop} {s:Shared} {S:Addr}
theorem LZ{l:Addr}{Q:Unit ->Shared ->Prop}(e:s.heap.get? l=some {cls:=.type "list",data:=.seq ([]:List Value).toArray})
  (q:∀h' c,h'.get? l=some {cls:=.type "list",data:=.seq #[] c} ->Heap.SameBut l s.heap h' ->Q () {s with heap:=h'}):wpAny (model prog w) A (Builtin.List.listTouch (.ref l)) Q E s:=by
 unfold Builtin.List.listTouch
 refine wpAny_bind (listUpdate_at e rfl ?_)
 have b:=get?_update_seq (c:="list") (xs:= #[]) (n:=0) e (fun xs=>xs.push .none)
 refine listUpdate_at b rfl ?_
 exact q _ _ (get?_update_seq b (fun xs=>xs.pop)) ((Heap.SameBut.update ..).trans (Heap.SameBut.update ..))
theorem AO{R:List Int}{Q:List Value ->Shared ->Prop}(hh:A.handled=none)(hS:lM s.heap S R (kM w))(hb:R.length<=1000)
  (q:∀vs ns h' d' tk,IntsAre vs ns ->ns.Perm R ->(∀b o,s.heap.get? b=some o ->h'.get? b=some o) ->s.heap.objs.size<=h'.objs.size ->Q vs {s with heap:=h',drawn:=d',toks:=tk}):
  wpAny (model prog w) A (collect (.ref S)) Q E s:=by
 have hL:(1000:Nat)<=sizeLine:=by decide
 have G:S<s.heap.objs.size:=by
  obtain⟨o,es,ep,t,H,_⟩:=hS
  exact bq H
 unfold collect
 refine wpAny_bind (wpAny_runValue (codeAny_builtin F.entry_proto_collect ?_))
 rw[Around.under_plainId F.plain_proto_collect _]
 show wpAny _ A.in1 (newList []>>=fun l=>again (.builtin "list.__iadd__" ⟨[l,.ref S],[]⟩)) _ _ s
 refine wpAny_bind (wpAny_newObj_type (wpAny_pure ⟨plainId_quiet F.plain_list_iadd _,codeAny_builtin F.entry_list_iadd ?_⟩))
 rw[Around.under_plainId F.plain_list_iadd _]
 have D:=hS.keep (h':=s.heap.push {cls:=.type "list",data:=.seq ([]:List Value).toArray}) fun o e=>aY _ e
 have a2:(s.heap.push {cls:=.type "list",data:=.seq ([]:List Value).toArray}).get? s.heap.objs.size=some {cls:=.type "list",data:=.seq ([]:List Value).toArray}:=bu _ rfl
 have n1:Builtin.List.listSameRef (.ref s.heap.objs.size) (.ref S)=false:=by simp[Builtin.List.listSameRef,dM G]
 have hT:Shared.TypeIs {s with heap:=s.heap.push {cls:=.type "list",data:=.seq ([]:List Value).toArray}} (.ref S) "set":=by
  obtain⟨o,es,ep,t,H,N,_⟩:=D
  exact⟨o,H,N.1⟩
 show wpAny _ A.in1 (Builtin.List.listExtendWith (.ref s.heap.objs.size) (.ref S) (.ref s.heap.objs.size)) _ _ _
 unfold Builtin.List.listExtendWith
 refine wpAny_bind (wpAny_typeOf hT ?_)
 rw[if_neg (by rw[n1];decide)]
 refine wpAny_bind (Hs (s:={s with heap:=s.heap.push {cls:=.type "list",data:=.seq ([]:List Value).toArray}}) D fun I vs ns Y d2 wk hI hp T a1=>?_)
 have f:Shared.TypeIs {s with heap:=Y,drawn:=d2} (.ref S) "set":=by
  obtain⟨o,H,N⟩:=hT
  exact⟨o,T _ _ H,N⟩
 have X:=T _ _ a2
 refine wpAny_bind (wpAny_holding ?_)
 unfold Builtin.List.listLengthHint
 refine wpAny_bind (wpAny_specialOf f IK ?_)
 dsimp only
 generalize hid:("set.__len__":String)=id0
 rw[show splitId id0=some ("set","__len__") from by subst hid;decide+kernel]
 subst hid
 dsimp only
 refine wpAny_bind (wpAny_isInstance (b:=true) f (by rw[isSubtype_type];kernel_rfl) ?_)
 rw[if_neg (by decide)]
 rw[if_pos (by decide+kernel)]
 refine wpAny_bind (wpAny_typeOf f ?_)
 dsimp only
 refine wpAny_pure ?_
 rw[if_pos (by decide+kernel)]
 refine wpAny_bind (wpAny_rule (wpAny_bind (LZ (s:={s with heap:=Y,drawn:=d2}) X fun J c K sb=>?_)))
 obtain⟨fp,St,B,h,O,a5,a4⟩:=wk
 have A3:A.in1.handled=none:=by simp[hh]
 have W:=(h _ A3).toS
 have off:s.heap.objs.size∉fp:=fun hm=>by
  rcases B _ hm with z|z
  ·exact absurd z (dM G)
  ·have z':(s.heap.push {cls:=.type "list",data:=.seq ([]:List Value).toArray}).objs.size<=s.heap.objs.size:=z
   rw[cC] at z'
   exact absurd z' (Nat.not_succ_le_self _)
 have P:vs.length<=sizeLine:=by
  have e1:=IntsAre.length hI
  have e2:=hp.length_eq
  omega
 have Z:St 0 J:=(h _ A3).frame 0 Y J O fun b hb o e=>by rw[sb.2 b fun z=>off (z▸hb)];exact e
 refine wpAny_pure ⟨plainId_quiet F.plain_extend_loop _,codeAny_extend_loopS W P _ off _ vs.length 0 _ #[] c rfl (cf _) Z K (ItemsOf.nil _) fun s' a3 c' L g C=>?_⟩
 show wpAny _ A (load s.heap.objs.size>>=_) _ _ s'
 refine wpAny_bind (wpAny_load g ?_)
 obtain⟨h',g',d',M,U⟩:=s'
 have eg:g'=s.gens:=L.gens
 have eo:U=s.os:=L.os
 subst eg;subst eo
 refine wpAny_pure ?_
 rw[yd C]
 have a0:∀b o,s.heap.get? b=some o ->h'.get? b=some o:=fun b o e=>by
  have lb:=bq e
  have nb:b≠s.heap.objs.size:=bD lb
  have nI:b≠I:=fun z=>by
   have:(s.heap.push {cls:=.type "list",data:=.seq ([]:List Value).toArray}).objs.size<=I:=a1
   rw[cC] at this
   subst z
   exact absurd (bp (eZ lb) this) (cO _)
  refine L.heap b o (fun z=>?_) (by
   show J.get? b=some o
   rw[sb.2 b nb]
   exact T b o (aY _ e))
  rcases bw.mp z with z|z
  ·exact nb z
  ·exact nI (bC.mp z)
 refine q vs ns h' d' M hI hp a0 ?_
 exact db (bq g)
end
end Lt
namespace Lt
open PySem PySem.Spec PyProof.Rows
section
variable {prog:Program} {w:World} {A:Around} {E:Value ->Shared ->Prop} {s:Shared} {S:Addr}
theorem Df{F:List Int}{Q:Value ->Shared ->Prop}(T:A.handled=none)(U:lM s.heap S F (kM w))(hb:F.length<=60)
  (q:∀r h' d' tk e (out:Array Value) (g:List Int),IntsAre out.toList g ->g.Perm F ->g.Pairwise (· <=·) ->h'.get? r=some (seqObj "list" out e) ->(∀b o,s.heap.get? b=some o ->h'.get? b=some o) ->s.heap.objs.size<=r ->Q (.ref r) {s with heap:=h',drawn:=d',toks:=tk}):
  wpAny (model prog w) A (call (.builtin "sorted") [.ref S]) Q E s:=by
 have R:(1000:Nat)<=sizeLine:=by decide
 refine(Calls.call_function_entry kind_sorted plain_sorted entry_sorted (args_sorted1 _) (?_))
 unfold Builtin.«sorted»
 refine wpAny_bind (m:=checkCount "sorted" 1 1 _) (wpAny_pure (wpAny_bind (AO (by simpa using T) U (by omega) fun f ns h1 H z G I D l=>?_)))
 have C:f.length<=60:=by
  have Z:=IntsAre.length G
  have B:=I.length_eq
  omega
 refine wpAny_bind (wpAny_newList ?_ (hsz:=bL C (bL (by decide) R)))
 have B:(h1.push (seqObj "list" f.toArray 0)).get? h1.objs.size=some (seqObj "list" f.toArray 0):=bu _ rfl
 refine wpAny_bind (wpAny_holding (wpAny_call_entry slot_list_sort ⟨_,B,rfl⟩ entry_list_sort (list_sort_tree (s:={s with heap:=h1.push (seqObj "list" f.toArray 0),drawn:=H,toks:=z}) B G (by omega) fun out g W Y P=>⟨_,rfl,?_⟩) (args_list_sort _)))
 refine wpAny_pure ⟨_,rfl,?_⟩
 have h:h1.objs.size<(h1.push (seqObj "list" f.toArray 0)).objs.size:=by rw[size_push'];exact dO _
 obtain⟨e,L⟩:∃e,(sortedHeap (h1.push (seqObj "list" f.toArray 0)) h1.objs.size f out).get? h1.objs.size=some (seqObj "list" out e):=by
  unfold sortedHeap
  have K:=get?_update_seq B (fun _=> #[])
  have X:h1.objs.size≠((h1.push (seqObj "list" f.toArray 0)).update h1.objs.size (Obj.mapSeq fun _=> #[])).objs.size:=by rw[Heap.size_update];exact bD h
  have N:h1.objs.size≠(((h1.push (seqObj "list" f.toArray 0)).update h1.objs.size (Obj.mapSeq fun _=> #[])).push (seqObj "tuple" f.toArray 0)).objs.size:=by rw[size_push',Heap.size_update];exact bD (eZ h)
  have O:((((h1.push (seqObj "list" f.toArray 0)).update h1.objs.size (Obj.mapSeq fun _=> #[])).push (seqObj "tuple" f.toArray 0)).push (seqObj "list" #[] 0)).get? h1.objs.size=some (seqObj "list" #[] (if((#[]:Array Value).size == f.toArray.size)=true then 0 else 0+1)):=by
   rw[Heap.get?_push_ne _ _ _ N,Heap.get?_push_ne _ _ _ X]
   exact K
  exact⟨_,get?_update_seq O (fun _=>out)⟩
 refine q _ _ H z e out g W (Y.trans I) P L (fun b o J=>?_) l
 have M:=bq J
 have nb:h1.objs.size≠b:=dM (bp M l)
 unfold sortedHeap
 rw[cL _ _ nb]
 refine aY _ (aY _ ?_)
 rw[cL _ _ nb]
 exact aY _ (D b o J)
end
end Lt
namespace L2
open PySem PySem.Spec PyProof.Rows
def SetO(w:World)(a:Addr)(ks:List Int):HO:=.ext fun h=>Lt.lM h a ks (Lt.kM w)
def LO(K:aW)(w:World):List V ->Hp ->VK ->Prop:=fun xs H Q=>match xs with
 |[.ref p]=>∃ns:List Int,SqL K H p (ns.map V.int)/\ ns.length<=1000/\ ∀l H',New H l (SetO w l (Lt.dd ns)) H' ->Q (.ref l) H'
 |_=>False
def zN(w:World):List V ->Hp ->VK ->Prop:=fun xs H Q=>match xs with
 |[.ref p]=>∃ks:List Int,H p=some (SetO w p ks)/\ ks.length<=60/\ ∀l (ms:List Int) H',ms.Perm ks ->ms.Pairwise (· <=·) ->New H l (.lst (ms.map V.int)) H' ->Q (.ref l) H'
 |_=>False
section
variable {X:Cx}
theorem Inv.drawn{b:List (Addr × Obj)}{σ:St}{H:Hp}{s:Shared}(I:Inv X b σ H s)(d:Drawn):Inv X b σ H {s with drawn:=d}:=⟨I.ok,I.os,I.bare,I.base,I.loc,I.cell,I.free,I.freeC,I.pin,I.hok,I.len⟩
theorem Ng(N:X.calm=true):jr X (.type "set") (LO X.K X.w):=by
 intro E s J H O P Q I r h
 unfold LO at h
 split at h
 ·rename_i p
  obtain⟨ns,G,S,q⟩:=h
  obtain⟨u,rfl,M⟩:=kr r
  cases (show u=Value.ref p from M)
  obtain⟨A,g,B,_⟩:=I.list G
  have C:=g.length
  rw[aX] at C
  refine Lt.FY (I.ok.hd N) B.isList (by simpa using zO g) (by unfold scanBound;omega) fun l tk z f=>?_
  have F:H s.heap.objs.size=none:=I.hok.fresh (bh _)
  have kk:∀b o,s.heap.get? b=some o ->l.get? b=some o:=fun b o e=>f b o (bq e) e
  have D:Inv X E J (upd H s.heap.objs.size (SetO X.w s.heap.objs.size (Lt.dd ns))) {s with heap:=l,toks:=tk}:=by
   refine I.laid (t':=tk) kk (bh _) ?_
   refine⟨z,?_,fun h1 T a b=>a.keep b⟩
   obtain⟨o,R,U,t,L,_⟩:=z
   exact⟨o,L⟩
  exact⟨.ref s.heap.objs.size,_,D,rfl,q _ _ (.mk' F)⟩
 ·exact h.elim
theorem ER(O:X.calm=true):jr X (.builtin "sorted") (zN X.w):=by
 intro K s E H R S Q I r h
 unfold zN at h
 split at h
 ·rename_i p
  obtain⟨C,G,F,q⟩:=h
  obtain⟨u,rfl,N⟩:=kr r
  cases (show u=Value.ref p from N)
  obtain⟨D,_,_⟩:=(show js X.prog X.w H s.heap p (SetO X.w p C) from I.hok p _ G)
  refine Lt.Df (I.ok.hd O) D F fun l B A tk e out z L o P g f b=>?_
  have M:H l=none:=I.hok.fresh b
  have J:Inv X K E (upd H l (.lst (z.map V.int))) {s with heap:=B,drawn:=A,toks:=tk}:=by
   refine(I.laid (t':=tk) f b ?_).drawn A
   refine⟨?_,out.toList,e,tY L,by simpa [seqObj] using g⟩
   rw[aX,o.length_eq]
   have:(60:Nat)<=sizeLine:=by decide
   omega
  exact⟨.ref l,_,J,rfl,q _ z _ o P (.mk' M)⟩
 ·exact h.elim
end
theorem nj{env:Env}:∀{names:List (Str × NameKind)} {x:Str},names.lookup x=some .cell ->
  (names.map fun(n,k)=>if(k == NameKind.free && env.scope.kind == .function && env.kindOf n == some .cell) then(n,NameKind.cell) else(n,k)).lookup x=some .cell
 |[],_,h=>by simp at h
 | (n,k)::r,x,h=>by
  have ih:=@nj env r x
  show List.lookup x ((if(k == NameKind.free && env.scope.kind == .function && env.kindOf n == some .cell)=true then(n,NameKind.cell) else(n,k))::_)=_
  cases hx:x == n with
  |true=>
   simp only[cq,hx] at h
   cases h
   split<;>simp[cq,hx]
  |false=>
   simp only[cq,hx] at h
   split<;>(simp only[cq,hx];exact ih h)
theorem so{env:Env}:∀{names:List (Str × NameKind)} {x:Str},
  ((names.map fun(n,k)=>if(k == NameKind.free && env.scope.kind == .function && env.kindOf n == some .cell) then(n,NameKind.cell) else(n,k)).lookup x=some .cell∨
  (names.map fun(n,k)=>if(k == NameKind.free && env.scope.kind == .function && env.kindOf n == some .cell) then(n,NameKind.cell) else(n,k)).lookup x=some .free) ->(x,NameKind.free)∈names∨(x,NameKind.cell)∈names
 |[],_,h=>by simp at h
 | (n,k)::r,x,h=>by
  have ih:=@so env r x
  have b:List.lookup x ((if(k == NameKind.free && env.scope.kind == .function && env.kindOf n == some .cell)=true then(n,NameKind.cell) else(n,k))::(r.map fun(n,k)=>if(k == NameKind.free && env.scope.kind == .function && env.kindOf n == some .cell) then(n,NameKind.cell) else(n,k)))=some .cell∨
   List.lookup x ((if(k == NameKind.free && env.scope.kind == .function && env.kindOf n == some .cell)=true then(n,NameKind.cell) else(n,k))::(r.map fun(n,k)=>if(k == NameKind.free && env.scope.kind == .function && env.kindOf n == some .cell) then(n,NameKind.cell) else(n,k)))=some .free:=h
  cases hx:x == n with
  | true=>
   have e:x=n:=by simpa using hx
   subst e
   split at b
   ·rename_i z
    have:k=.free:=by
     have:=(eD.mp (eD.mp z).1).1
     simpa using this
    rw[this]
    exact .inl bj
   ·simp only[cq,hx] at b
    rcases b with z|z
    ·rw[Option.some.inj z];exact .inr bj
    ·rw[Option.some.inj z];exact .inl bj
  | false=>
   have:(x,NameKind.free)∈r∨(x,NameKind.cell)∈r:=by
    refine ih ?_
    split at b<;>(simp only[cq,hx] at b;exact b)
   exact this.imp (bc _) (bc _)
abbrev Cx.compC(X:Cx)(scope:Scope)(cl:List (Str × Addr))(C:Addr)(ns:List Str)(x:Str)(s:Shared)(H:Hp)(fp:List Addr):Cx:=
 {X with N:=ns,s₀:=s,H₀:=H,env:=compEnvC scope cl C X.env,outer:=X.stack,stack:=X.stack,ex:=fp,fn:=fun y=>y == x,pn:=[],xe:=fun _ _=>False}
structure Own(X:Cx)(scope:Scope)(cl:List (Str × Addr))(x:Str)(c:Addr)(s:Shared):Prop where
 own:cl.lookup x=some c
 new:s.heap.objs.size<=c
 old:∀y c',y≠x ->cl.lookup y=some c' ->X.env.cells.lookup y=some c'
 has:∀y,(y,NameKind.free)∈scope.names ->∃c,cl.lookup y=some c
 one:∀y,(y,NameKind.cell)∈scope.names ->y=x
section
variable {X:Cx} {gW:List (Addr × Obj)} {σ:St} {H:Hp} {s:Shared} {scope:Scope} {cl:List (Str × Addr)} {C:Addr} {ns:List Str} {fp:List Addr} {x:Str} {c:Addr}
theorem Own.cases(O:Own X scope cl x c s)(I:Inv X gW σ H s){y:Str}{b:Addr}(h:cl.lookup y=some b):(y=x/\ b=c)∨(y≠x/\ X.env.cells.lookup y=some b/\ b<s.heap.objs.size):=by
 by_cases e:y=x
 ·subst e
  rw[O.own] at h
  exact .inl ⟨rfl,(Option.some.inj h).symm⟩
 ·have:=O.old y b e h
  obtain⟨v,o,f,_⟩:=I.cell y b this
  exact .inr ⟨e,this,bq f⟩
theorem Inv.compOkC(I:Inv X gW σ H s)(O:Own X scope cl x c s)(g:scope.kind=.function)(F:s.heap.objs.size<=C)
  (w:∀b∈fp,kx X gW H b)(l:∀b∈fp,b<s.heap.objs.size):(X.compC scope cl C ns x s H fp).Ok where
 mod:=I.ok.mod
 kind:=g
 glob:=I.ok.glob
 blt:=I.ok.blt
 above:=F
 inj:=fun y z A a b=>by
  rcases O.cases I a with⟨rfl,rfl⟩|⟨G,B,L⟩
  ·rcases O.cases I b with⟨rfl,_⟩|⟨K,E,D⟩
   ·rfl
   ·exact absurd (bp D O.new) (cO _)
  ·rcases O.cases I b with⟨rfl,rfl⟩|⟨K,E,D⟩
   ·exact absurd (bp L O.new) (cO _)
   ·exact I.ok.inj y z A B E
 has:=fun y h=>by
  rcases so (env:=X.env) h with z|z
  ·exact O.has y z
  ·rw[O.one y z]
   exact⟨c,O.own⟩
 cab:=fun y A h e=>by
  have J:y=x:=by simpa using h
  rcases O.cases I e with⟨_,rfl⟩|⟨G,_⟩
  ·exact O.new
  ·exact absurd J G
 hd:=I.ok.hd
 frames:=I.ok.frames
 stk:=.inl rfl
 exf:=fun b f=>⟨bD (bp (l b f) F),fun y A e=>by
  rcases O.cases I e with⟨_,rfl⟩|⟨_,B,_⟩
  ·exact dM (bp (l b f) O.new)
  ·exact(w b f).2.2.2.2.1 y A B⟩
 bs:=I.bs
 bsz:=bL I.ok.bsz I.sz
 noex:=fun b o e f=>by
  rcases(w b f).2.2.2.1 with z|z
  ·exact I.ok.noex b o e z
  ·exact absurd (bp (bq e) (bL I.ok.bsz z)) (cO _)
 exfs:=fun b f z=>by
  rcases bw.mp (I.stkSub b z) with y|y
  ·exact(w b f).2.1 y
  ·exact(w b f).2.2.1 y
 funs:=I.stack
 frf:=I.stkFree
theorem Inv.compC{f:Heap}{tk:Nat}{g:Str ->Option Value}{cs:List Str}{K:List Nat}(I:Inv X gW σ H s)(O:Own X scope cl x c s)(ok:(X.compC scope cl C (x::cs) x s H fp).Ok)(S:x∉cs)
  (Y:s.heap.objs.size<=C)(hn:f.Ns C g)(P:f.IsCell c none)(keep:∀b o,s.heap.get? b=some o ->f.get? b=some o)
  (D:K.map (fun i=>X.N[i]?)=cs.map some)(B:∀y∈cs,scope.names.lookup y=some .free)(h:∀y∈cs,X.env.scope.names.lookup y=some .cell∨X.env.scope.names.lookup y=some .free):
  Inv (X.compC scope cl C (x::cs) x s H fp) [] (none::iI K σ) H {s with heap:=f,toks:=tk} where
 ok:=ok
 os:=rfl
 bare:=I.bare
 base:=Un.kept keep
 loc:=by
  refine⟨g,hn,fun i y v e1 U _=>?_⟩
  cases i with
  |zero=>cases U
  | succ j=>
   have F:cs[j]? =some y:=e1
   have E:(K.map (nth σ))[j]? =some (some v):=U
   rw[bi] at E
   obtain⟨k,hk,hv⟩:=bN.mp E
   have W:X.N[k]? =some y:=by
    have z:=congrArg (fun l=>l[j]?) D
    simp only[bi] at z
    rw[hk,F] at z
    simpa using z
   have G:=bo F
   have Q:y≠x:=fun z=>S (z▸G)
   obtain⟨m,hm,Z⟩:=I.loc
   obtain⟨u,r,l⟩:=Z k y v W (oN.mpr hv) (by rcases h y G with z|z;exact .inr (.inl z);exact .inr (.inr z))
   refine⟨u,r,.inr ⟨ko (env:=X.env) (B y G),?_⟩⟩
   rcases l with⟨k1,_⟩|⟨_,c0,hc,z⟩
   ·have M:X.env.scope.names.lookup y=some .local:=k1
    rcases h y G with w|w<;>(rw[M] at w;cases w)
   ·obtain⟨J,A⟩:=O.has y (mem_of_lookup (B y G))
    have:=O.old y J Q A
    rw[hc] at this
    cases this
    obtain⟨o,L,R⟩:=z
    exact⟨c0,A,o,keep _ _ L,R⟩
 cell:=fun y J e=>by
  rcases O.cases I e with⟨_,rfl⟩|⟨_,T,_⟩
  ·exact⟨none,P⟩
  ·obtain⟨v,o,L,R⟩:=I.cell y J T
   exact⟨v,o,keep _ _ L,R⟩
 free:=I.hok.fresh Y
 freeC:=fun y J e=>by
  rcases O.cases I e with⟨_,rfl⟩|⟨_,T,_⟩
  ·exact I.hok.fresh O.new
  ·exact I.freeC y J T
 pin:=fun p hp=>by simp at hp
 hok:=I.hok.kept keep
 len:=by
  show(none::iI K σ).length=(x::cs).length
  have:=congrArg eX D
  rw[aX,aX] at this
  simp[iI,this]
theorem Inv.uncompC{g:List (Addr × Obj)}{F:St}{B:Hp}{E:Shared}{h':Heap}(I:Inv X gW σ H s)(h:Inv (X.compC scope cl C ns x s H fp) g F B E)(G:∀b∈fp,kx X gW H b)(A:Heap.SameBut C E.heap h'):
  Inv X gW σ B {E with heap:=h'}:=by
 have ne:∀b o,s.heap.get? b=some o ->b≠C:=fun b o e=>bD (bp (bq e) h.ok.above)
 have un:=h.base
 refine I.call' (ch:=fp) h.os ⟨fun b o e n l w=>?_,fun b o e n l w=>?_,un.free,fun b o e w=>?_,un.tups,un.frzs,un.tbls⟩ ?_ h.bare fun b l=>?_
 ·exact(A.2 b (ne b o e)).trans (un.keep b o e n l w)
 ·obtain⟨N,D⟩:=un.slot b o e n l w
  exact⟨N,(A.2 b (ne b o e)).trans D⟩
 ·obtain⟨L,D⟩:=un.there b o e w
  exact⟨L,(A.2 b (ne b o e)).trans D⟩
 ·refine h.hok.stays fun a o ob e q=>(A.2 a ?_).trans q
  intro z
  have f:B C=none:=h.free
  rw[z,f] at e
  cases e
 ·obtain⟨_,O,_,M,K,J⟩:=G b l
  exact⟨M,O,K,J⟩
theorem tG:∀{x:Str} {names:List (Str × NameKind)} {n:Nat} {acc:List (Str × Addr)} {h:Heap},h.objs.size=n ->(∀y,(y,NameKind.cell)∈names ->y=x) ->(x,NameKind.cell)∈names ->∃c,n<=c/\ (cellsFrom n names acc).lookup x=some c/\ (∀y,y≠x ->(cellsFrom n names acc).lookup y=acc.lookup y)/\ (pushCells h names).IsCell c none
 |_,[],_,_,_,_,_,h=>by simp at h
 | x, (y,k)::r,n,acc,h,hn,h1,h2=>by
  by_cases hk:(k == NameKind.cell)=true
  ·have E:k=.cell:=by simpa using hk
   subst E
   have I:y=x:=h1 y bj
   subst I
   unfold cellsFrom pushCells
   rw[if_pos hk,if_pos hk]
   by_cases h3:(y,NameKind.cell)∈r
   ·obtain⟨c,a,b,d,e⟩:=tG (names:=r) (n:=n+1) (acc:=(y,n)::acc) (h:=h.push {cls:=.type "cell",data:=.cell none}) (by rw[cC,hn]) (fun z g=>h1 z (bc _ g)) h3
    refine⟨c,bL (dN _) a,b,fun z g=>?_,e⟩
    rw[d z g,cq]
    have:(z == y)=false:=by simpa using g
    rw[this]
   ·have f:∀(l:List (Str × NameKind)) (m:Nat) (B:List (Str × Addr)) (A:Heap),(∀z∈l,z.2≠.cell) ->cellsFrom m l B=B/\ pushCells A l=A:=fun l=>by
     induction l with
     |nil=>exact fun _ _ _ _=>⟨rfl,rfl⟩
     |cons z l ih=>
      intro m B A g
      have o:¬(z.2 == NameKind.cell)=true:=by simpa using g z bj
      unfold cellsFrom pushCells
      rw[if_neg o,if_neg o]
      exact ih m B A fun w G=>g w (bc _ G)
    obtain⟨J,L⟩:=f r (n+1) ((y,n)::acc) (h.push {cls:=.type "cell",data:=.cell none}) fun z g hc=>by
     obtain⟨K,F⟩:=z
     have D:F=.cell:=hc
     subst D
     have:=h1 K (bc _ g)
     subst this
     exact h3 g
    rw[J,L]
    refine⟨n,bh _,?_,fun z g=>?_,⟨_,by rw[←hn];exact bu _ rfl,rfl⟩⟩
    ·rw[cq]
     simp
    ·rw[cq]
     have:(z == y)=false:=by simpa using g
     rw[this]
  ·unfold cellsFrom pushCells
   rw[if_neg hk,if_neg hk]
   refine tG hn (fun z g=>h1 z (bc _ g)) ?_
   rcases bw.mp h2 with z|z
   ·cases z
    exact absurd rfl hk
   ·exact z
theorem yY{M:Model}{A:Around}{E:Value ->Shared ->Prop}{env:Env}{cl:List (Str × Addr)}{Q:Env ->Shared ->Prop}(h1:∀y,(y,NameKind.cell)∈scope.names ->y=x)(B:(x,NameKind.cell)∈scope.names)
  (q:∀c f h',s.heap.objs.size<=c ->f.lookup x=some c ->(∀y,y≠x ->f.lookup y=cl.lookup y) ->h'.IsCell c none ->(∃m,h'.Ns s.heap.objs.size m) ->(∀b o,s.heap.get? b=some o ->h'.get? b=some o) ->
   Q {scope:=scope,locals:=s.heap.objs.size,globals:=env.globals,cells:=f,qual:=env.qual,func:=none,code:=env.code,frame:=env.frame,builtins:=env.builtins} {s with heap:=h'}):
  wpAny M A (newFunctionEnv scope env.globals cl [] env.qual none .none (some env)) Q E s:=by
 simp only[newFunctionEnv,Option.isSome_some,if_true]
 refine wpAny_bind (wpAny_alloc ?_)
 refine wpAny_bind (wpAny_layCells _ (fun w g cells=>by cases hkc:g == NameKind.cell<;>simp[hkc]) _ _ _ _ ?_)
 obtain⟨c,l,D,F,z⟩:=tG (x:=x) (names:=scope.names) (n:=(s.heap.push {cls:=.type "dict",data:=.dict #[]}).objs.size) (acc:=cl) (h:=s.heap.push {cls:=.type "dict",data:=.dict #[]}) rfl h1 B
 rw[fG]
 refine wpAny_bind (wpAny_pure (wpAny_pure (q c _ _ ?_ D F z ⟨_,(Heap.Ns.new s.heap (.type "dict")).keeps (pushCells_keeps _ _)⟩ fun b o e=>pushCells_keeps _ _ b o (aY _ e))))
 rw[cC] at l
 exact bL (dN _) l
end
section
variable {X:Cx}
theorem BY{Y a5:Expr}{a0:List Expr}{x:Str}{px:Pos}{scope:Scope}{pos:Pos}{cs:List Str}{S:List Nat}{te:CB ->TE}{tc:CB ->TT}{gW:List (Addr × Obj)}{σ:St}{H:Hp}{s:Shared}{J:It}{it:Addr}{g:List Addr}{tn:Nat ->Heap ->Prop}
  {cl:List (Str × Addr)}{E:Value ->Shared ->Prop}{Q:V ->Hp ->Prop}{RR:Value ->Addr ->Result ->Shared ->Prop}
  (hc:X.calm=true)(b1:scope.kind=.function)(a2:∀y,(y,NameKind.cell)∈scope.names ->y=x)(hx:scope.names.lookup x=some .cell)(hN:(x::cs).Nodup)
  (d7:S.map (fun i=>X.N[i]?)=cs.map some)(e8:∀y∈cs,scope.names.lookup y=some .free)(c9:∀y∈cs,X.env.scope.names.lookup y=some .cell∨X.env.scope.names.lookup y=some .free)
  (h1:∀y c,cl.lookup y=some c ->X.env.cells.lookup y=some c)(h2:∀y,(y,NameKind.free)∈scope.names ->∃c,cl.lookup y=some c)
  (a9:(a0=[]/\ tc=fun _ _ H Q=>Q true H)∨∃c,a0=[c]/\ ∀z:CB,PT (X.compC scope z.cl z.C (x::cs) x z.s z.H z.fp) c (tc z))
  (b8:∀z:CB,PE (X.compC scope z.cl z.C (x::cs) x z.s z.H z.fp) Y (te z))
  (I:Inv X gW σ H s)(T:qg X.prog X.w X.K (.Name x px) J g it tn)(c4:tn 0 s.heap)(hf:∀b∈g,kx X gW H b)
  (h:∀D H2,New H D (.lst []) H2 ->∃W:Nat ->Nat ->List V ->Hp ->Prop,(∃m,W 0 m [] H2)/\ ∀i m ys H,W i m ys H ->
   (J.stop i H/\ Q (.ref D) H)∨(J.go i H/\ ∀x B,J.yld i H x B ->∀z,tc z (some x::iI S σ) B fun b H5=>if b=true then te z (some x::iI S σ) H5 fun y l=>l D=some (.lst ys)/\ ys.length<16000000/\ ∀H4,Chg l D (.lst (ys++[y])) H4 ->∃G,G<m/\ W (i+1) G (ys++[y]) H4
    else ∃G,G<m/\ W (i+1) G ys H5))
  (d6:∀D C s1 B,(∃m,s1.heap.Ns C m) ->(∀h',Heap.SameBut C s1.heap h' ->Inv X gW σ B {s1 with heap:=h'}) ->kx X gW B C ->Q (.ref D) B ->RR (.ref D) C (.ok .next) s1):
  wpAny (model X.prog X.w) X.A (newList []) (fun acc c7=>wpAny (model X.prog X.w) X.A (newFunctionEnv scope X.env.globals cl [] X.env.qual none .none (some X.env)) (fun a3 c5=>
   codeAny (model X.prog X.w) X.A (.compStart (.ListComp Y [⟨.Name x px,a5,a0,0⟩] scope pos) 0 (.ref it) acc {a3 with scope:=relabel scope X.env}) (RR acc a3.locals) c5) E c7) E s:=by
 refine wpAny_newObj_type ?_
 have fD:H s.heap.objs.size=none:=I.hok.fresh (bh _)
 have I3:Inv X gW σ (upd H s.heap.objs.size (.lst [])) {s with heap:=s.heap.push {cls:=.type "list",data:=.seq ([]:List Value).toArray}}:=by
  refine I.laid (t':=s.toks) (fun b u e=>aY _ e) (bh _) ?_
  exact⟨cf _,[],_,.nil,bu _ rfl⟩
 have n3:New H s.heap.objs.size (.lst []) (upd H s.heap.objs.size (.lst [])):=.mk' fD
 generalize hD:s.heap.objs.size=D at*
 obtain⟨W,⟨m0,w0⟩,b6⟩:=h D _ n3
 have f1:tn 0 (s.heap.push {cls:=.type "list",data:=.seq ([]:List Value).toArray}):=T.keep 0 _ _ c4 fun b _ o e=>aY _ e
 have e4:∀b∈g,b≠D:=fun b F z=>by
  obtain⟨o,e,_⟩:=T.obj 0 _ c4 b F
  exact absurd (bq e) (by rw[z,hD];exact cO _)
 have b2:∀b∈g,kx X gW (upd H D (.lst [])) b:=fun b F=>by
  obtain⟨f0,r⟩:=hf b F
  exact⟨by rw[iM (e4 b F)];exact f0,r⟩
 generalize hs3:({s with heap:=s.heap.push {cls:=.type "list",data:=.seq ([]:List Value).toArray}}:Shared)=s3 at*
 have a1:tn 0 s3.heap:=by rw[←hs3];exact f1
 generalize upd H D (.lst [])=l at*
 refine yY (x:=x) (cl:=cl) a2 (mem_of_lookup hx) fun cc f a6 c0 c1 c2 c3 ⟨f4,Z⟩ keep=>?_
 have e9:∀b∈g,b<s3.heap.objs.size:=fun b F=>by
  obtain⟨o,e,_⟩:=T.obj 0 _ a1 b F
  exact bq e
 have d4:x∉cs:=(df.mp hN).1
 have fx:∀y,(y,NameKind.free)∈scope.names ->y≠x ->∃c,f.lookup y=some c:=fun y hy b3=>by
  rw[c2 y b3]
  exact h2 y hy
 have O:Own X scope f x cc s3:=⟨c1,c0,fun y c' b3 e=>h1 y c' (by rw[←c2 y b3];exact e),fun y hy=>by
  by_cases e:y=x
  ·exact⟨cc,by rw[e];exact c1⟩
  ·exact fx y hy e,a2⟩
 have ok:=I3.compOkC (ns:=x::cs) O b1 (bh _) b2 e9
 have I4:=I3.compC (tk:=s3.toks) O ok d4 (bh _) Z c3 keep d7 e8 c9
 have b7:tn 0 a6:=T.keep 0 _ _ a1 fun b _ o e=>keep b o e
 generalize hC:s3.heap.objs.size=C at*
 have P:∀{B:Hp} {pins'},pins'=[] ->(∀b∈g,B b=none) ->∀b∈g,kx (X.compC scope f C (x::cs) x s3 l g) pins' B b:=fun hp hn b F=>by
  subst hp
  exact⟨hn b F,(ok.exf b F).1,ok.exfs b F,.inl F,(ok.exf b F).2,fun p hp=>by simp at hp⟩
 have d9:PG (X.compC scope f C (x::cs) x s3 l g) (.Name x px) (kf 0):=iW (X:=X.compC scope f C (x::cs) x s3 l g) (i:=0) hN rfl (.inr (nj hx)) (.inl (by simp))
 have a8:∀R:Shared,R={s3 with heap:=a6,toks:=s3.toks} ->
   codeAny (model X.prog X.w) X.A (.compLoop (.ListComp Y [⟨.Name x px,a5,a0,0⟩] scope pos) 0 (.ref it) (.ref D) (compEnvC scope f C X.env)) (RR (.ref D) C) R:=by
  rintro R rfl
  refine codeAny_compLoop_tests (fun n s'=>∃i v0 B ys,Inv (X.compC scope f C (x::cs) x s3 l g) [] (v0::iI S σ) B s'/\ tn i s'.heap/\ (∀b∈g,B b=none)/\ W i n ys B) ?_ m0 ⟨0,none,l,[],I4,b7,fun b F=>(b2 b F).1,w0⟩
  rintro n s6 ⟨i,v0,H6,ys,I6,b4,d2,w6⟩
  rcases b6 i n ys H6 w6 with⟨b9,qn⟩|⟨go,step⟩
  ·refine wpAny_mono (T.done (X.compC scope f C (x::cs) x s3 l g) rfl rfl rfl hc i [] s6 _ H6 (fun _ _=>False) I6 (P rfl d2) b4 b9) (fun r s7 ⟨hr,I7⟩=>?_) fun _ _ z=>z.elim
   subst hr
   exact d6 D C s7 H6 (by obtain⟨m,hm,_⟩:=I7.loc;exact⟨m,hm⟩) (fun h' hs=>I3.uncompC I7 b2 hs) (I3.fpOk (fB hC) I7.free) qn
  ·refine wpAny_mono (T.item (X.compC scope f C (x::cs) x s3 l g) rfl rfl rfl hc i [] s6 _ H6 (fun _ _=>False) I6 (P rfl d2) b4 go) (fun r s7 ⟨u,hr,h7⟩=>?_) fun _ _ z=>z.elim
   subst hr
   show wpAny (model X.prog X.w) X.A (letOwnedTupleGo (.Name x px) (.ref it) u>>=fun _=>assign (.Name x px) (compEnvC scope f C X.env) u) _ _ s7
   refine wpAny_bind (wpAny_mono h7 (fun _ s8 ⟨xv,H8,I8,r8,y8,b0,f2⟩=>?_) fun _ _ z=>z.elim)
   have e5:=I8.pinned (P rfl f2) (T.obj _ _ b0)
   refine wpAny_mono (d9 _ s8 _ H8 xv u (fun c6 H9=>c6=some xv::iI S σ/\ H9=H8) e5 r8 ⟨rfl,rfl⟩) (fun _ s9 ⟨c6,H9,I9,e1,e2⟩=>?_) fun _ _ z=>z.elim
   subst e1 e2
   have d0:=step xv H9 y8 ⟨f,C,s3,l,g⟩
   have M:∀{H7:Hp} {s7:Shared} {zs:List V} {G:Nat},Inv (X.compC scope f C (x::cs) x s3 l g) ([]++mq g s8.heap) (some xv::iI S σ) H7 s7 ->G<n ->W (i+1) G zs H7 ->
     ∃m,m<n/\ ∃i v0 B ys,Inv (X.compC scope f C (x::cs) x s3 l g) [] (v0::iI S σ) B s7/\ tn i s7.heap/\ (∀b∈g,B b=none)/\ W i m ys B:=fun {H7 s7 zs G} I7 hm w7=>by
    refine⟨G,hm,i+1,_,H7,zs,I7.unpinned,T.keep _ _ _ b0 fun b F o e=>(I7.pin (b,o) (bJ _ (bJ _ (kG F e)))).1,fun b F=>?_,w7⟩
    obtain⟨o,e,d⟩:=T.obj _ _ b0 b F
    exact(I7.pin (b,o) (bJ _ (bJ _ (kG F e)))).2.1
   have a7:∀{H5:Hp} {R:Shared},Inv (X.compC scope f C (x::cs) x s3 l g) ([]++mq g s8.heap) (some xv::iI S σ) H5 R ->
     (te ⟨f,C,s3,l,g⟩ (some xv::iI S σ) H5 fun y l=>l D=some (.lst ys)/\ ys.length<16000000/\ ∀H4,Chg l D (.lst (ys++[y])) H4 ->∃G,G<n/\ W (i+1) G (ys++[y]) H4) ->
     ∀E':Value ->Shared ->Prop,wpAny (model X.prog X.w) X.A (eval Y (compEnvC scope f C X.env)) (fun y s4=>wpAny (model X.prog X.w) X.A (call (.builtin "list.append") [.ref D,y]) (fun _ R=>∃m,m<n/\ ∃i v0 B ys,Inv (X.compC scope f C (x::cs) x s3 l g) [] (v0::iI S σ) B R/\ tn i R.heap/\ (∀b∈g,B b=none)/\ W i m ys B) E' s4) E' R:=fun {H5 R} I5 q5 E'=>by
    refine wpAny_mono (b8 ⟨f,C,s3,l,g⟩ _ R _ H5 _ I5 q5) (fun y b5 ⟨yv,d1,U,e3,d3,hl,L⟩=>?_) fun _ _ z=>z.elim
    refine wpAny_mono (pW (X:=X.compC scope f C (x::cs) x s3 l g) _ b5 _ d1 (.ref D) [yv] (.ref D) [y] (fun _ c8=>∃G,G<n/\ W (i+1) G (ys++[yv]) c8) U rfl (.cons e3 .nil) ⟨D,ys,yv,rfl,rfl,d3,bp hl (by decide),L _ .mk'⟩) (fun _ f5 ⟨_,c8,d8,_,G,hm,f3⟩=>?_) fun _ _ z=>z.elim
    exact M d8 hm f3
   rcases a9 with⟨e0,e1⟩|⟨c,e0,e6⟩
   ·subst e0 e1
    refine wpAny_tests_nil ?_
    rw[if_pos rfl]
    have a4:=(show(if true=true then _ else _) from d0)
    rw[if_pos rfl] at a4
    exact a7 I9 a4 _
   ·subst e0
    refine wpAny_tests_one (wpAny_mono (e6 ⟨f,C,s3,l,g⟩ _ s9 _ H9 _ I9 d0) (fun b b5 ⟨d1,U,L⟩=>?_) fun _ _ z=>z.elim)
    cases b with
    |true=>
     rw[if_pos rfl] at L ⊢
     exact a7 U L _
    |false=>
     rw[if_neg bQ] at L ⊢
     obtain⟨G,hm,d5⟩:=L
     exact M U hm d5
 exact codeAny_compStart_list (a8 _ rfl) (T.self X.A 0 _ _ _ b7 (a8 _ rfl))
theorem Gw{K f:Expr}{x:Str}{px:Pos}{scope:Scope}{pos:Pos}{wi:TI}{te:CB ->TE}(b:Scope)(cs:List Str)(ix:List Nat)(hc:X.calm=true)(hi:PI X (.Name x px) f wi)
  (L:∀z:CB,PE (X.compC scope z.cl z.C (x::cs) x z.s z.H z.fp) K (te z))(hN:(x::cs).Nodup:=by decide+kernel)(g:scope.kind=.function:=by rfl)(A:∀y∈scope.names,y.2=.cell ->y.1=x:=by decide+kernel)
  (hx:scope.names.lookup x=some .cell:=by rfl)(o:∀y∈scope.names,y.2=.local ->scope.names.lookup y.1=some .local:=by decide+kernel)
  (Z:ix.map (fun i=>X.N[i]?)=cs.map some:=by rfl)(Y:∀y∈cs,scope.names.lookup y=some .free:=by decide+kernel)(E:∀y∈cs,b.names.lookup y=some .cell∨b.names.lookup y=some .free:=by decide+kernel)
  (l:∀y∈scope.names,y.2=.free ->b.names.lookup y.1=some .cell∨b.names.lookup y.1=some .free:=by decide+kernel)(F:X.env.scope=b:=by rfl)
  (hs:∀x,foldedSetIterable f X.env x=pure x:=by intro _;rfl):
  PE X (.ListComp K [⟨.Name x px,f,[],0⟩] scope pos) (Dh wi ix te):=by
 have M:∀y∈cs,X.env.scope.names.lookup y=some .cell∨X.env.scope.names.lookup y=some .free:=by rw[F];exact E
 have B:∀y∈scope.names,y.2=.free ->X.env.scope.names.lookup y.1=some .cell∨X.env.scope.names.lookup y.1=some .free:=by rw[F];exact l
 intro gW s σ H Q I h
 obtain⟨cl,U,h1,h2⟩:=lO (scope:=scope) (env:=X.env) fun y R hk=>I.ok.has y.1 (B y R hk)
 rw[eval_ListComp]
 refine wpAny_comprehension_free (use:=none) rfl hs U g o (wpAny_mono (hi gW s σ H _ I h) (fun v s1 h3=>wpAny_mono h3 (fun a0 s2 h4=>?_) fun _ _ z=>z) fun _ _ z=>z)
 obtain⟨it,fp,tn,J,H2,rfl,I2,T,st,hf,q⟩:=h4
 refine BY (Q:=Q) (tc:=fun _ _ H Q=>Q true H) hc g (fun y R=>A (y,NameKind.cell) R rfl) hx hN Z Y M h1 h2 (.inl ⟨rfl,rfl⟩) L I2 T st hf (fun D S n3=>?_) fun D C s3 S O hI a1 hq=>?_
 ·obtain⟨W,w0,G⟩:=q D S n3
  refine⟨W,w0,fun i m ys H w=>?_⟩
  rcases G i m ys H w with z|⟨go,step⟩
  ·exact .inl z
  ·refine .inr ⟨go,fun x H' y z=>?_⟩
   exact Fv (step x H' y z)
 ·obtain⟨m,O⟩:=O
  exact⟨m,O,fun h' P=>⟨.ref D,S,hI h' P,rfl,hq⟩⟩
end
def Gv(scope outer:Scope):Scope:={scope with names:=scope.names.map fun(n,k)=>if(k == NameKind.free && outer.kind == .function && outer.names.lookup n == some .cell) then(n,NameKind.cell) else(n,k)}
def Ga:Stmt ->Scope
 | .FunctionDef _ _ body _ _ _ _ _ _ _=>match body.getLast? with
  |some (.Return (some (.ListComp _ _ sc _)) _)=>sc
  |_=>default
 |_=>default
def Itv(K:aW)(a:Addr)(n:Nat):It:=
 ⟨fun i H=>i<n/\ ∃xs,SqL K H a xs/\ xs.length=n,fun i H x H'=>H'=H/\ ∀xs,SqL K H a xs ->xs[n - 1 - i]? =some x,fun i _=>n<=i⟩
theorem GD{P:Program}{w:World}{K:aW}{tg:Expr}(a l:Addr)(n:Nat):qg P w K tg (Itv K a n) [l] l (fun i h=>i<=n/\ h.IsRevIter l a ((n:Int) - 1 - (i:Int))) where
 mem:=by simp
 obj:=fun i h g b A=>by
  have e:b=l:=by simpa using A
  subst e
  obtain⟨_,o,e,c,d⟩:=g
  exact⟨o,e,fun v z=>by rw[d] at z;cases z⟩
 keep:=fun i h D g k=>⟨g.1,g.2.at fun o e=>k l (by simp) o e⟩
 item:=by
  intro X L G F Z i U s Y H E I C g R
  subst L G F
  obtain⟨hi,S,W,hn⟩:=R
  obtain⟨a0,rv,p,hz⟩:=I.list W
  have T:S[n - 1 - i]? =some (S[n - 1 - i]'(by omega)):=bg _
  obtain⟨u,hu,ru⟩:=rv.get T
  obtain⟨O,J,f2,Q,N,M⟩:=C l (by simp)
  have ei:(n:Int) - 1 - (i:Int)=((n - 1 - i:Nat):Int):=by omega
  obtain⟨si,f⟩:=g
  rw[ei] at f
  refine wpAny_pyNext_rev_item f p.isList (x:=u) (by simpa using hu) fun D B sb=>?_
  have I1:Inv X U Y H {s with heap:=D}:=I.turned (t':=s.toks) (fun b o A e=>(sb.2 b A).trans e) O J Q N M
  obtain⟨o,e,c,d⟩:=id B
  refine⟨u,rfl,vL (s:={s with heap:=D}) e c d (by decide) ⟨_,H,I1,ru,⟨rfl,fun ys hy=>by rw[I.list_inj hy W];exact T⟩,⟨hi,?_⟩,fun b A=>(C b A).1⟩⟩
  rw[show(n:Int) - 1 - ((i+1:Nat):Int)=((n - 1 - i:Nat):Int) - 1 by omega]
  exact B
 done:=by
  intro X L G F Z i U s Y H E I C g R
  subst L G F
  have a1:n<=i:=R
  obtain⟨O,J,f2,Q,N,M⟩:=C l (by simp)
  obtain⟨si,f⟩:=g
  rw[show(n:Int) - 1 - (i:Int)=-1 by omega] at f
  exact wpAny_pyNext_rev_end (I.ok.hd Z) f fun D eb=>⟨rfl,I.turned (t':=s.toks) (fun b o A e=>eb b o A e) O J Q N M⟩
 self:=fun _ _ _ _ _ g h=>wpAny_pyIter_revIter g.2 h
section
variable {X:Cx}
def NM(K:aW)(ta:TA):TI:=fun σ H R=>ta σ H fun vs H1=>match vs with|[.ref a]=>∃xs,SqL K H1 a xs/\ R (Itv K a xs.length) H1|_=>False
theorem Lb{S l:Expr}{D:TA}{p pos:Pos}(T:Gl X "reversed")(M:X.mg "reversed"=none)(ha:PA X [l] D)(O:starEach [l] X.env=[(false,eval l X.env)]:=by rfl):
  PI X S (.Call (.Name "reversed" p) [l] [] pos) (NM X.K D):=by
 intro E s F H R I h
 refine Call_ (mj I T M boot_reversed (PyProof.Rows.callWith_type1 (thn (ha pos E s F H _ I h) fun Y s1 ⟨Z,G,A,U,B⟩=>?_) O rfl))
 dsimp only at B
 split at B
 ·rename_i a
  obtain⟨C,Q,q⟩:=B
  obtain⟨u,rfl,W⟩:=kr U
  cases (show u=Value.ref a from W)
  obtain⟨f,J,L,_⟩:=A.list Q
  have z:=J.length
  refine call_reversed_list L.isList ?_
  have N:Inv X E F G {s1 with heap:=s1.heap.push (revObj a ((f.toArray.size:Int) - 1))}:=A.kept (t':=s1.toks) fun b o e=>aY _ e
  have w:(s1.heap.push (revObj a ((f.toArray.size:Int) - 1))).IsRevIter s1.heap.objs.size a ((C.length:Int) - 1 - ((0:Nat):Int)):=by
   refine⟨_,bu _ rfl,rfl,?_⟩
   rw[z, ←bR]
   show Data.fields #[.ref a,rawInt ((f.toArray.size:Int) - 1)]=_
   rw[show(f.toArray.size:Int) - 1 - ((0:Nat):Int)=(f.toArray.size:Int) - 1 by omega]
  refine wpAny_pyIter_revIter w ?_
  refine⟨s1.heap.objs.size,[s1.heap.objs.size],_,Itv X.K a C.length,G,rfl,N,GD a _ C.length,⟨cf _,w⟩,fun b P=>?_,q⟩
  have g:s1.heap.objs.size<=b:=by rw[bC.mp P];exact bh _
  exact A.fpOk g (A.hok.fresh g)
 ·exact B.elim
end
end L2
namespace Lr
def kb{α:Type}(R:α ->α ->Prop)(l:List α):Prop:=∀(j:Nat) a b,l[j]? =some a ->l[j+1]? =some b ->R a b
def Gf{α:Type}(R:α ->α ->α ->Prop)(l:List α):Prop:=∀(j:Nat) a b c,l[j]? =some a ->l[j+1]? =some b ->l[j+2]? =some c ->R a b c
theorem mB{g b:Type}{f:g ->b}{l:List g}{j:Nat}{y:b}(h:(l.map f)[j]? =some y):∃x,l[j]? =some x/\ f x=y:=by
 rw[bi] at h
 cases e:l[j]? with
 |none=>rw[e] at h;cases h
 |some x=>rw[e] at h;exact⟨x,rfl,Option.some.inj h⟩
theorem kb.map{o g:Type}{f:o ->g}{R:g ->g ->Prop}{l:List o}(h:kb (fun a b=>R (f a) (f b)) l):kb R (l.map f):=fun j a b ha w=>by
 obtain⟨x,h1,rfl⟩:=mB ha
 obtain⟨y,z,rfl⟩:=mB w
 exact h j x y h1 z
theorem Gf.map{o g:Type}{f:o ->g}{R:g ->g ->g ->Prop}{l:List o}(h:Gf (fun a b c=>R (f a) (f b) (f c)) l):Gf R (l.map f):=fun j a b c ha w C=>by
 obtain⟨x,h1,rfl⟩:=mB ha
 obtain⟨y,B,rfl⟩:=mB w
 obtain⟨z,A,rfl⟩:=mB C
 exact h j x y z h1 B A
theorem jz{b:Type}{l:List b}{j:Nat}{a:b}(h:l[j]? =some a):j<l.length:=(aZ.mp h).1
theorem vm{f:Type}{l:List f}{j:Nat}{a:f}(h:l.reverse[j]? =some a):j<l.length/\ l[l.length - 1 - j]? =some a:=by
 have b:=jz h
 rw[eM] at b
 rw[eC b] at h
 exact⟨b,h⟩
theorem kb.rev{f:Type}{R:f ->f ->Prop}{l:List f}(h:kb (fun a b=>R b a) l):kb R l.reverse:=fun j a b ha o=>by
 obtain⟨z,g⟩:=vm ha
 obtain⟨A,w⟩:=vm o
 refine h (l.length - 1 - (j+1)) b a w ?_
 rw[show l.length - 1 - (j+1)+1=l.length - 1 - j by omega]
 exact g
theorem kb.app{g:Type}{R:g ->g ->Prop}{l m:List g}(h1:kb R l)(h:kb R m)(o:∀a b,l[l.length - 1]? =some a ->m[0]? =some b ->0<l.length ->R a b):kb R (l++m):=fun j a b ha f=>by
 by_cases c1:j+1<l.length
 ·rw[cA (by omega)] at ha
  rw[cA c1] at f
  exact h1 j a b ha f
 by_cases c2:j<l.length
 ·rw[cA c2] at ha
  rw[cv (by omega)] at f
  exact o a b (by rw[show l.length - 1=j by omega];exact ha) (by rw[show j+1 - l.length=0 by omega] at f;exact f) (by omega)
 ·rw[cv (by omega)] at ha f
  exact h (j - l.length) a b ha (by rw[show j - l.length+1=j+1 - l.length by omega];exact f)
theorem kb.sub{g:Type}{R:g ->g ->Prop}{l:List g}(h:kb R l):kb R l.dropLast:=fun j a b ha f=>by
 have h1:=jz ha
 have o:=jz f
 rw[eu] at ha f
 rw[cR] at h1 o
 rw[if_pos (by omega)] at ha f
 exact h j a b ha f
structure Lvl(cs ls:List Rat):Prop where
 srt:ls.Pairwise (· <·)
 mem:∀x,x∈ls↔x=0∨x∈cs
def Nb(cs:List Rat)(s t:Rat):Prop:=0<=s/\ s<t/\ t∈cs/\ ∀c∈cs,c<=s∨t<=c
section
variable {cs ls:List Rat}
theorem Lvl.nn(L:Lvl cs ls)(nn:∀c∈cs,0<=c){x:Rat}(h:x∈ls):0<=x:=by
 rcases(L.mem x).mp h with rfl|h
 ·exact cD
 ·exact nn x h
theorem Lvl.lt(L:Lvl cs ls){i j:Nat}{s t:Rat}(g:ls[i]? =some s)(l:ls[j]? =some t)(h:i<j):s<t:=by
 obtain⟨o,f⟩:=aZ.mp g
 obtain⟨b,w⟩:=aZ.mp l
 rw[←f, ←w]
 exact eF.mp L.srt i j o b h
theorem Lvl.nb(L:Lvl cs ls)(nn:∀c∈cs,0<=c):kb (Nb cs) ls:=fun j s t f g=>by
 have h0:s<t:=L.lt f g (by omega)
 have l:0<=s:=L.nn nn (bo f)
 refine⟨l,h0,?_,fun c o=>?_⟩
 ·rcases(L.mem t).mp (bo g) with rfl|h
  ·grind
  ·exact h
 ·obtain⟨i,b⟩:=bF.mp ((L.mem c).mpr (.inr o))
  by_cases hij:i<=j
  ·left
   by_cases e:i=j
   ·subst e
    rw[f] at b
    cases b
    exact cD
   ·exact bX (L.lt b f (by omega))
  ·right
   by_cases e:i=j+1
   ·subst e
    rw[g] at b
    cases b
    exact cD
   ·exact bX (L.lt g b (by omega))
theorem Lvl.head(L:Lvl cs ls)(nn:∀c∈cs,0<=c):ls[0]? =some 0:=by
 obtain⟨i,b⟩:=bF.mp ((L.mem 0).mpr (.inl rfl))
 match i,b with
 |0,b=>exact b
 |i+1,b=>
  have h0:=jz b
  have h1:ls[0]? =some (ls[0]'(by omega)):=bg (by omega)
  have:=L.lt h1 b (by omega)
  have:=L.nn nn (bo h1)
  grind
theorem Lvl.last(L:Lvl cs ls){m:Rat}(h:ls[ls.length - 1]? =some m):∀c∈cs,c<=m:=fun c f=>by
 obtain⟨i,b⟩:=bF.mp ((L.mem c).mpr (.inr f))
 have h0:=jz b
 by_cases e:i=ls.length - 1
 ·subst e
  rw[h] at b
  cases b
  exact cD
 ·exact bX (L.lt b h (by omega))
theorem Lvl.pos(L:Lvl cs ls)(nn:∀c∈cs,0<=c):0<ls.length:=jz (L.head nn)
theorem uG(nn:∀c∈cs,0<=c)(h:sm cs=0):∀c∈cs,c=0:=fun c b=>by
 have h1:=nn c b
 have f:=Ft nn b
 grind
theorem mf:∀{cs:List Rat},(∀c∈cs,c=0) ->sm cs=0
 |[],_=>rfl
 |c::cs,h=>by
  show c+sm cs=0
  rw[h c bj,mf fun c b=>h c (bc _ b)]
  grind
theorem Lvl.two(L:Lvl cs ls)(nn:∀c∈cs,0<=c)(h:sm cs≠0):2<=ls.length:=by
 have h0:=L.head nn
 have f:=L.pos nn
 refine Classical.byContradiction fun z=>h ?_
 refine mf fun c b=>?_
 have h1:=L.last (m:=0) (by rw[show ls.length - 1=0 by omega];exact h0) c b
 have:=nn c b
 grind
def kn(ls:List Rat):Rl ->List (Rat ->Rat)
 | .sh=>[fun _=>0,fun c=>c]
 | .ga=>ls.map fun t c=>mn c t
 | .lo=>ls.reverse.map fun t c=>c - mn c t
 | .ha=>(ls.dropLast.map fun t c=>mn (c*rt 1 2) (t*rt 1 2))++ls.dropLast.reverse.map fun t c=>c - mn (c*rt 1 2) (t*rt 1 2)
 | .tu=>[]
def need:Rl ->Rat ->Rat ->Rat ->Rat
 | .sh,c,a=>fun x=>x*(a/c)
 | .ga,_,a=>fun x=>mn x a
 | .lo,c,a=>fun x=>x - mn x (c - a)
 | .ha,c,a=>if a+a<=c then fun x=>mn (x*rt 1 2) a else fun x=>x - mn (x*rt 1 2) (c - a)
 | .tu,_,_=>fun _=>0
theorem lT(c a:Rat):need .ha c a=if a+a<=c then fun x=>mn (x*rt 1 2) a else fun x=>x - mn (x*rt 1 2) (c - a):=rfl
structure Seg(ρ:Rl)(cs:List Rat)(F G:Rat ->Rat):Prop where
 up:∀c∈cs,F c<=G c
 ne:∃c∈cs,F c<G c
 lin:∀l,0<=l ->l<=1 ->∃H,AF ρ H/\ ∀c∈cs,H c=F c+l*(G c - F c)
 need:∀c∈cs,F c<G c ->∀l,0<l ->l<=1 ->∀x∈cs,need ρ c (F c+l*(G c - F c)) x=F x+l*(G x - F x)
theorem sO{s t c l:Rat}(b:s<t)(h:c<=s∨t<=c)(g:0<=l)(f:l<=1):mn c (s+l*(t - s))=mn c s+l*(mn c t - mn c s):=by
 have o:0<=l*(t - s):=de g (by grind)
 have w:l*(t - s)<=t - s:=by
  have:=bU f (show 0<=t - s by grind)
  grind
 rcases h with h|h
 ·rw[jN (x:=c) (y:=s) h,jN (x:=c) (y:=t) (by grind),jN (by grind)]
  grind
 ·rw[jO (x:=c) (y:=s) (by grind),jO (x:=c) (y:=t) h,jO (by grind)]
theorem JZ{s t:Rat}(N:Nb cs s t):Seg .ga cs (fun c=>mn c s) fun c=>mn c t:=by
 obtain⟨F,b,C,o⟩:=N
 refine⟨fun c _=>kz (bX b),⟨t,C,?_⟩,fun l f w=>⟨fun c=>mn c (s+l*(t - s)),⟨_,?_,rfl⟩,fun c h=>sO b (o c h) f w⟩,fun c h g l f w x D=>?_⟩
 ·show mn t s<mn t t
  rw[jO (bX b),jN cD]
  exact b
 ·have:=de f (show 0<=t - s by grind)
  grind
 ·have B:t<=c:=by
   rcases o c h with z|z
   ·have E:mn c s=c:=jN z
    have G:mn c t=c:=jN (by grind)
    have A:mn c s<mn c t:=g
    grind
   ·exact z
  show mn x (mn c s+l*(mn c t - mn c s))=mn x s+l*(mn x t - mn x s)
  rw[jO (x:=c) (y:=s) (by grind),jO (x:=c) (y:=t) B]
  exact sO b (o x D) (bX f) w
theorem Lk{s t:Rat}(N:Nb cs s t):Seg .lo cs (fun c=>c - mn c t) fun c=>c - mn c s:=by
 obtain⟨H,o,D,B⟩:=N
 have b:∀c∈cs,∀l,0<=l ->l<=1 ->mn c (t - l*(t - s))=mn c t - l*(mn c t - mn c s):=fun c h l g f=>by
  have:=sO o (B c h) (l:=1 - l) (by grind) (by grind)
  rw[show s+(1 - l)*(t - s)=t - l*(t - s) by grind] at this
  rw[this]
  grind
 refine⟨fun c _=>?_,⟨t,D,?_⟩,fun l g f=>⟨fun c=>c - mn c (t - l*(t - s)),⟨_,?_,rfl⟩,fun c h=>?_⟩,fun c h w l g f x E=>?_⟩
 ·have:=kz (x:=c) (bX o)
  show c - mn c t<=c - mn c s
  grind
 ·show t - mn t t<t - mn t s
  rw[jO (x:=t) (y:=s) (bX o),jN (x:=t) (y:=t) cD]
  grind
 ·have:=bU f (show 0<=t - s by grind)
  grind
 ·show c - mn c (t - l*(t - s))=c - mn c t+l*(c - mn c s - (c - mn c t))
  rw[b c h l g f]
  grind
 ·have A:c - mn c t<c - mn c s:=w
  have C:t<=c:=by
   rcases B c h with z|z
   ·have G:mn c s=c:=jN z
    have F:mn c t=c:=jN (by grind)
    grind
   ·exact z
  show x - mn x (c - (c - mn c t+l*(c - mn c s - (c - mn c t))))=x - mn x t+l*(x - mn x s - (x - mn x t))
  rw[jO (x:=c) (y:=s) (by grind),jO (x:=c) (y:=t) C,show c - (c - t+l*(c - s - (c - t)))=t - l*(t - s) by grind,b x E l (bX g) f]
  grind
theorem Kn(nn:∀c∈cs,0<=c)(h:sm cs≠0):Seg .sh cs (fun _=>0) fun c=>c:=by
 refine⟨fun c b=>nn c b,?_,fun l w o=>⟨fun c=>c*l,⟨l,w,o,rfl⟩,fun c _=>?_⟩,fun c b f l w o x A=>?_⟩
 ·refine Classical.byContradiction fun z=>h (mf fun c b=>?_)
  have:=nn c b
  by_cases e:c=0
  ·exact e
  ·exact absurd ⟨c,b,by grind⟩ z
 ·show c*l=0+l*(c - 0)
  grind
 ·have g:0<c:=f
  show x*((0+l*(c - 0))/c)=0+l*(x - 0)
  have:(0+l*(c - 0))/c=l:=by grind
  rw[this]
  grind
theorem lq(x y:Rat):mn (x*rt 1 2) (y*rt 1 2)=mn x y*rt 1 2:=DO (by rw[jW];decide+kernel)
theorem Jp{s t:Rat}(N:Nb cs s t):Seg .ha cs (fun c=>mn (c*rt 1 2) (s*rt 1 2)) fun c=>mn (c*rt 1 2) (t*rt 1 2):=by
 obtain⟨H,o,E,C⟩:=N
 simp only[lq]
 simp only[jW]
 have b:∀c∈cs,∀l,0<=l ->l<=1 ->mn (c*rt 1 2) ((s+l*(t - s))*rt 1 2)=mn c s*(1/2)+l*(mn c t*(1/2) - mn c s*(1/2)):=fun c h l f g=>by
  rw[lq,sO o (C c h) f g,jW]
  grind
 refine⟨fun c _=>?_,⟨t,E,?_⟩,fun l f g=>⟨fun c=>mn (c*rt 1 2) ((s+l*(t - s))*rt 1 2),⟨_,?_,.inl rfl⟩,fun c h=>b c h l f g⟩,fun c h w l f g x F=>?_⟩
 ·have:=kz (x:=c) (bX o)
  grind
 ·show mn t s*(1/2)<mn t t*(1/2)
  rw[jO (x:=t) (y:=s) (bX o),jN (x:=t) (y:=t) cD]
  grind
 ·have:=de f (show 0<=t - s by grind)
  rw[jW]
  grind
 ·have A:mn c s*(1/2)<mn c t*(1/2):=w
  have D:t<=c:=by
   rcases C c h with z|z
   ·have B:mn c s=c:=jN z
    have G:mn c t=c:=jN (by grind)
    grind
   ·exact z
  have I:=bU g (show 0<=t - s by grind)
  have B:mn c s*(1/2)+l*(mn c t*(1/2) - mn c s*(1/2))=(s+l*(t - s))*rt 1 2:=by
   rw[jO (x:=c) (y:=s) (by grind),jO (x:=c) (y:=t) D,jW]
   grind
  rw[B]
  rw[lT]
  rw[if_pos (by rw[jW];grind)]
  exact b x F l (bX f) g
theorem Jm{s t:Rat}(N:Nb cs s t):Seg .ha cs (fun c=>c - mn (c*rt 1 2) (t*rt 1 2)) fun c=>c - mn (c*rt 1 2) (s*rt 1 2):=by
 obtain⟨H,o,E,C⟩:=N
 simp only[lq]
 simp only[jW]
 have b:∀c∈cs,∀l,0<=l ->l<=1 ->mn (c*rt 1 2) ((t - l*(t - s))*rt 1 2)=mn c t*(1/2) - l*(mn c t*(1/2) - mn c s*(1/2)):=fun c h l g f=>by
  have:=sO o (C c h) (l:=1 - l) (by grind) (by grind)
  rw[show s+(1 - l)*(t - s)=t - l*(t - s) by grind] at this
  rw[lq,this,jW]
  grind
 refine⟨fun c _=>?_,⟨t,E,?_⟩,fun l g f=>⟨fun c=>c - mn (c*rt 1 2) ((t - l*(t - s))*rt 1 2),⟨_,?_,.inr rfl⟩,fun c h=>?_⟩,fun c h w l g f x F=>?_⟩
 ·have:=kz (x:=c) (bX o)
  grind
 ·show t - mn t t*(1/2)<t - mn t s*(1/2)
  rw[jO (x:=t) (y:=s) (bX o),jN (x:=t) (y:=t) cD]
  grind
 ·have:=bU f (show 0<=t - s by grind)
  rw[jW]
  grind
 ·show c - mn (c*rt 1 2) ((t - l*(t - s))*rt 1 2)=_
  rw[b c h l g f]
  grind
 ·have A:c - mn c t*(1/2)<c - mn c s*(1/2):=w
  have D:t<=c:=by
   rcases C c h with z|z
   ·have B:mn c s=c:=jN z
    have G:mn c t=c:=jN (by grind)
    grind
   ·exact z
  have I:=bU f (show 0<=t - s by grind)
  have J:=Rat.mul_pos g (show 0<t - s by grind)
  have B:c - mn c t*(1/2)+l*(c - mn c s*(1/2) - (c - mn c t*(1/2)))=c - (t - l*(t - s))*rt 1 2:=by
   rw[jO (x:=c) (y:=s) (by grind),jO (x:=c) (y:=t) D,jW]
   grind
  rw[B]
  rw[lT]
  rw[if_neg (by rw[jW];grind)]
  show x - mn (x*rt 1 2) (c - (c - (t - l*(t - s))*rt 1 2))=_
  rw[show c - (c - (t - l*(t - s))*rt 1 2)=(t - l*(t - s))*rt 1 2 by grind,b x F l (bX g) f]
  grind
theorem Jb{s t:Rat}(N:Nb cs s t)(top:∀c∈cs,c<=t):Seg .ha cs (fun c=>mn (c*rt 1 2) (s*rt 1 2)) fun c=>c - mn (c*rt 1 2) (s*rt 1 2):=by
 obtain⟨K,D,G,I⟩:=N
 have two:∀c∈cs,c<=s∨c=t:=fun c h=>by
  rcases I c h with z|z
  ·exact .inl z
  ·have:=top c h
   exact .inr (by grind)
 have w:∀a,s*(1/2)<=a ->a<=t - s*(1/2) ->∀x∈cs,Lr.need .ha t a x=if x<=s then x*(1/2) else a:=fun a F E x g=>by
  rw[lT]
  by_cases c1:a+a<=t
  ·rw[if_pos c1]
   show mn (x*rt 1 2) a=_
   rw[jW]
   rcases two x g with z|rfl
   ·rw[if_pos z,jN (by grind)]
   ·rw[if_neg (by grind),jO (by grind)]
  ·rw[if_neg c1]
   show x - mn (x*rt 1 2) (t - a)=_
   rw[jW]
   rcases two x g with z|rfl
   ·rw[if_pos z,jN (by grind)]
    grind
   ·rw[if_neg (by grind),jO (by grind)]
    grind
 have af:∀a,0<=a ->a<=t ->AF .ha (Lr.need .ha t a):=fun a F E=>by
  rw[lT]
  by_cases c1:a+a<=t
  ·rw[if_pos c1]
   exact⟨a,F,.inl rfl⟩
  ·rw[if_neg c1]
   exact⟨t - a,by grind,.inr rfl⟩
 simp only[lq]
 simp only[jW]
 have b:∀x∈cs,∀l,(if x<=s then x*(1/2) else s*(1/2)+l*(t - s))=mn x s*(1/2)+l*(x - mn x s*(1/2) - mn x s*(1/2)):=fun x g l=>by
  rcases two x g with z|rfl
  ·rw[if_pos z,jN z]
   grind
  ·rw[if_neg (by grind),jO (by grind)]
   grind
 have rng:∀l,0<=l ->l<=1 ->s*(1/2)<=s*(1/2)+l*(t - s)/\ s*(1/2)+l*(t - s)<=t - s*(1/2):=fun l f o=>by
  have E:=de f (show 0<=t - s by grind)
  have J:=bU o (show 0<=t - s by grind)
  constructor<;>grind
 refine⟨fun c h=>?_,⟨t,G,?_⟩,fun l f o=>⟨_,af (s*(1/2)+l*(t - s)) ?_ ?_,fun c h=>?_⟩,fun c h C l f o x g=>?_⟩
 ·rcases two c h with z|rfl
  ·rw[jN z];grind
  ·rw[jO (by grind)];grind
 ·show mn t s*(1/2)<t - mn t s*(1/2)
  rw[jO (x:=t) (y:=s) (bX D)]
  grind
 ·have:=rng l f o
  grind
 ·have:=rng l f o
  grind
 ·have r:=rng l f o
  rw[w _ r.1 r.2 c h]
  exact b c h l
 ·have A:mn c s*(1/2)<c - mn c s*(1/2):=C
  have B:c=t:=by
   rcases two c h with z|z
   ·rw[jN z] at A
    grind
   ·exact z
  subst B
  have r:=rng l (bX f) o
  have H:mn c s*(1/2)+l*(c - mn c s*(1/2) - mn c s*(1/2))=s*(1/2)+l*(c - s):=by
   rw[jO (x:=c) (y:=s) (bX D)]
   grind
  rw[H,w _ r.1 r.2 x g]
  exact b x g l
theorem Jq{b:Type}{l:List b}{j:Nat}{a:b}(h:l.dropLast[j]? =some a):j+1<l.length/\ l[j]? =some a:=by
 have h1:=jz h
 rw[cR] at h1
 rw[eu,if_pos (by omega)] at h
 exact⟨by omega,h⟩
theorem Lvl.seg(L:Lvl cs ls)(nn:∀c∈cs,0<=c)(h:sm cs≠0){g:Rl}(l:g≠.tu):kb (Seg g cs) (kn ls g):=by
 cases g with
 |tu=>exact absurd rfl l
 |ga=>exact kb.map fun j a b ha f=>JZ (L.nb nn j a b ha f)
 |lo=>exact kb.map (kb.rev fun j a b ha f=>Lk (L.nb nn j a b ha f))
 |sh=>
  intro j a b ha f
  match j,ha,f with
  |0,ha,f=>cases ha;cases f;exact Kn nn h
  |j+1,ha,f=>exact absurd (jz f) (by simp[kn])
 |ha=>
  refine kb.app (kb.map (kb.sub fun j a b ha f=>Jp (L.nb nn j a b ha f))) (kb.map (kb.rev (kb.sub fun j a b ha f=>Jm (L.nb nn j a b ha f)))) fun F G B E z=>?_
  rw[aX] at B z
  obtain⟨s,h1,rfl⟩:=mB B
  obtain⟨H,C,rfl⟩:=mB E
  have o:=(vm C).2
  rw[show ls.dropLast.length - 1 - 0=ls.dropLast.length - 1 by omega,h1] at o
  cases o
  obtain⟨D,w⟩:=Jq h1
  rw[cR] at D w z
  have A:ls[ls.length - 1]? =some (ls[ls.length - 1]'(by omega)):=bg (by omega)
  exact Jb (L.nb nn (ls.length - 1 - 1) s _ w (by rw[show ls.length - 1 - 1+1=ls.length - 1 by omega];exact A)) (L.last A)
end
end Lr
namespace Lr
section
variable {cs ls:List Rat}
theorem Nk(L:Lvl cs ls)(nn:∀c∈cs,0<=c){f:Rl}{F:Rat ->Rat}(h:F∈kn ls f):AF f F:=by
 cases f with
 |tu=>cases h
 |ga=>
  obtain⟨t,b,rfl⟩:=bz.mp h
  exact⟨t,L.nn nn b,rfl⟩
 |lo=>
  obtain⟨t,b,rfl⟩:=bz.mp h
  exact⟨t,L.nn nn (fT.mp b),rfl⟩
 | sh=>
  rcases bw.mp h with rfl|h
  ·exact⟨0,cD,by decide,by funext c;grind⟩
  ·rw[bC.mp h]
   exact⟨1,by decide,cD,by funext c;grind⟩
 | ha=>
  have h0:∀t∈ls.dropLast,0<=t*rt 1 2:=fun t b=>by
   have:=L.nn nn ((fj ls) b)
   rw[jW]
   grind
  rcases bS.mp h with h|h
  ·obtain⟨t,b,rfl⟩:=bz.mp h
   exact⟨_,h0 t b,.inl rfl⟩
  ·obtain⟨t,b,rfl⟩:=bz.mp h
   exact⟨_,h0 t (fT.mp b),.inr rfl⟩
theorem IH(L:Lvl cs ls)(nn:∀c∈cs,0<=c)(h:sm cs≠0){f:Rl}(g:f≠.tu):∃F,(kn ls f)[0]? =some F/\ ∀c∈cs,F c=0:=by
 have h0:=L.head nn
 have o:=L.two nn h
 cases f with
 |tu=>exact absurd rfl g
 |ga=>
  refine⟨fun c=>mn c 0,?_,fun c b=>jO (nn c b)⟩
  show(ls.map _)[0]? =_
  rw[bi,h0];rfl
 |sh=>exact⟨_,rfl,fun c _=>rfl⟩
 | lo=>
  have l:ls[ls.length - 1]? =some (ls[ls.length - 1]'(by omega)):=bg (by omega)
  refine⟨fun c=>c - mn c (ls[ls.length - 1]'(by omega)),?_,fun c b=>?_⟩
  ·show(ls.reverse.map _)[0]? =_
   rw[bi,eC (by omega),fC,l];rfl
  ·have:=L.last l c b
   show c - mn c _=0
   rw[jN this]
   grind
 | ha=>
  refine⟨fun c=>mn (c*rt 1 2) (0*rt 1 2),?_,fun c b=>?_⟩
  ·show((ls.dropLast.map _)++_)[0]? =_
   rw[cA (by rw[aX,cR];omega),bi,eu,if_pos (by omega),h0]
   rfl
  ·show mn (c*rt 1 2) (0*rt 1 2)=0
   rw[lq,jO (nn c b)]
   grind
theorem JE(L:Lvl cs ls)(nn:∀c∈cs,0<=c)(h:sm cs≠0){f:Rl}(g:f≠.tu):∃F,(kn ls f)[(kn ls f).length - 1]? =some F/\ ∀c∈cs,F c=c:=by
 have h0:=L.head nn
 have w:=L.two nn h
 cases f with
 |tu=>exact absurd rfl g
 |ga=>
  have l:ls[ls.length - 1]? =some (ls[ls.length - 1]'(by omega)):=bg (by omega)
  refine⟨fun c=>mn c (ls[ls.length - 1]'(by omega)),?_,fun c b=>jN (L.last l c b)⟩
  show(ls.map _)[(ls.map _).length - 1]? =_
  rw[bi,aX,l];rfl
 |sh=>exact⟨_,rfl,fun c _=>rfl⟩
 | lo=>
  refine⟨fun c=>c - mn c 0,?_,fun c b=>?_⟩
  ·show(ls.reverse.map _)[(ls.reverse.map _).length - 1]? =_
   rw[bi,aX,eM,eC (by omega),show ls.length - 1 - (ls.length - 1)=0 by omega,h0];rfl
  ·show c - mn c 0=c
   rw[jO (nn c b)]
   grind
 | ha=>
  refine⟨fun c=>c - mn (c*rt 1 2) (0*rt 1 2),?_,fun c b=>?_⟩
  ·show((ls.dropLast.map _)++ls.dropLast.reverse.map _)[((ls.dropLast.map _)++ls.dropLast.reverse.map _).length - 1]? =_
   have o:ls.dropLast.length=ls.length - 1:=cR
   rw[bf,aX,aX,eM,cv (by rw[aX];omega),aX,bi,eC (by omega),show ls.dropLast.length - 1 - (ls.dropLast.length+ls.dropLast.length - 1 - ls.dropLast.length)=0 by omega,eu,if_pos (by omega),h0]
   rfl
  ·show c - mn (c*rt 1 2) (0*rt 1 2)=c
   rw[lq,jO (nn c b)]
   grind
theorem DP{F G:Rat ->Rat}(l:Rat):∀cs:List Rat,sm (cs.map fun x=>F x+l*(G x - F x))=sm (cs.map F)+l*(sm (cs.map G) - sm (cs.map F))
 |[]=>by show(0:Rat)=0+l*(0 - 0);grind
 |x::r=>by
  have ih:=DP (F:=F) (G:=G) l r
  show F x+l*(G x - F x)+sm (r.map fun x=>F x+l*(G x - F x))=F x+sm (r.map F)+l*(G x+sm (r.map G) - (F x+sm (r.map F)))
  rw[ih]
  grind
theorem FC{F G:Rat ->Rat}{cs:List Rat}(h:∀c∈cs,F c=G c):sm (cs.map F)=sm (cs.map G):=by rw[cn h]
theorem Lu{x y:Rat}(h1:0<x)(g:x<=y):0<x/y/\ x/y<=1/\ x/y*y=x:=by
 have b:0<y:=by grind
 have e:x/y*y=x:=by grind
 refine⟨?_,?_,e⟩
 ·rw[gj]
  exact Rat.mul_pos h1 (Rat.inv_pos.mpr b)
 ·refine Rat.not_lt.mp fun f=>?_
  have:=dI f b
  grind
theorem Seg.at_{f:Rl}{F G:Rat ->Rat}(S:Seg f cs F G){c a:Rat}(g:c∈cs)(h1:F c<a)(l:a<=G c):sm (cs.map F)+(a - F c)*((sm (cs.map G) - sm (cs.map F))/(G c - F c))=sm (cs.map (Lr.need f c a)):=by
 have⟨l0,l1,le⟩:=Lu (x:=a - F c) (y:=G c - F c) (by grind) (by grind)
 have b:=S.need c g (by grind) _ l0 l1
 rw[le,show F c+(a - F c)=a by grind] at b
 rw[FC b,DP]
 have h:G c - F c≠0:=by grind
 congr 1
 grind
theorem AF.shared{b:Rl}(f:b≠.tu){F:Rat ->Rat}{e:Rat}{ps:List Rat}(h:AF b F)(G:rS cs e)(l:sm (cs.map F)=e)(o:RlR b cs e ps):ps=cs.map F:=by
 obtain⟨A,g,w,z⟩:=RlR.af f G.nn G.e0 G.le o
 rw[w]
 exact cn (g.uniq h G.nn (z.trans l.symm))
theorem AF.sum_bd{l:Rl}{F:Rat ->Rat}(h:AF l F)(nn:∀c∈cs,0<=c):0<=sm (cs.map F)/\ sm (cs.map F)<=sm cs:=by
 have f:=h.fam
 constructor
 ·exact lE fun x o=>by
   obtain⟨c,b,rfl⟩:=bz.mp o
   exact f.b0 c (nn c b)
 ·have:=Cp (f:=F) (g:=fun c=>c) (a:=cs) fun c b=>f.b1 c (nn c b)
  rw[gS] at this
  exact this
end
end Lr
namespace Lr
theorem Ap:rt 1 2+rt 1 2=1:=by decide+kernel
theorem Bq{c x l:Rat}(b:0<c)(h:x<=c*l):x/c<=l:=by
 have g:x/c*c=x:=fF (by grind)
 refine Rat.not_lt.mp fun f=>?_
 have:=Rat.mul_pos (show 0<x/c - l by grind) b
 grind
theorem Il{c x:Rat}(b:0<c)(h:0<=x):0<=x/c:=by
 have g:x/c*c=x:=fF (by grind)
 refine Rat.not_lt.mp fun f=>?_
 have:=Rat.mul_pos (show 0<0 - x/c by grind) b
 grind
theorem Ir{b:Rl}(f:b≠.tu){c x:Rat}(l:0<x)(o:x<=c):need b c x c=x:=by
 have g:c*rt 1 2+c*rt 1 2=c:=by rw[←Rat.mul_add,Ap,Rat.mul_one]
 cases b with
 |tu=>exact absurd rfl f
 |sh=>
  show c*(x/c)=x
  rw[Rat.mul_comm]
  exact fF (by grind)
 |ga=>show mn c x=x;unfold mn;grind
 |lo=>show c - mn c (c - x)=x;unfold mn;grind
 | ha=>
  rw[lT]
  split
  ·show mn (c*rt 1 2) x=x
   generalize c*rt 1 2=h at g ⊢
   unfold mn;grind
  ·show c - mn (c*rt 1 2) (c - x)=x
   generalize c*rt 1 2=h at g ⊢
   unfold mn;grind
theorem Da{o:Rl}{F:Rat ->Rat}(h:AF o F){c x:Rat}(B:0<x)(C:x<=c)(b:x<=F c){y:Rat}(A:0<=y):need o c x y<=F y:=by
 have f:c*rt 1 2+c*rt 1 2=c:=by rw[←Rat.mul_add,Ap,Rat.mul_one]
 have w:y*rt 1 2+y*rt 1 2=y:=by rw[←Rat.mul_add,Ap,Rat.mul_one]
 cases o with
 |tu=>exact h.elim
 |sh=>
  obtain⟨l,D,E,rfl⟩:=h
  have b:x<=c*l:=b
  show y*(x/c)<=y*l
  refine cQ ?_ A
  exact Bq (by grind) b
 |ga=>
  obtain⟨g,z,rfl⟩:=h
  have b:x<=mn c g:=b
  show mn y x<=mn y g
  unfold mn at*;grind
 |lo=>
  obtain⟨g,z,rfl⟩:=h
  have b:x<=c - mn c g:=b
  show y - mn y (c - x)<=y - mn y g
  unfold mn at*;grind
 | ha=>
  rw[lT]
  obtain⟨g,z,rfl|rfl⟩:=h
  ·have b:x<=mn (c*rt 1 2) g:=b
   have h1:x+x<=c:=by
    generalize c*rt 1 2=p at f b
    unfold mn at b;grind
   rw[if_pos h1]
   show mn (y*rt 1 2) x<=mn (y*rt 1 2) g
   generalize c*rt 1 2=p at f b
   generalize y*rt 1 2=q at w ⊢
   unfold mn at*;grind
  ·have b:x<=c - mn (c*rt 1 2) g:=b
   split
   ·show mn (y*rt 1 2) x<=y - mn (y*rt 1 2) g
    generalize c*rt 1 2=p at f b
    generalize y*rt 1 2=q at w ⊢
    unfold mn at*;grind
   ·show y - mn (y*rt 1 2) (c - x)<=y - mn (y*rt 1 2) g
    generalize c*rt 1 2=p at f b
    generalize y*rt 1 2=q at w ⊢
    unfold mn at*;grind
theorem BC{b:Rl}(g:b≠.tu){c x:Rat}(f:0<x)(l:x<=c):AF b (need b c x):=by
 cases b with
 |tu=>exact absurd rfl g
 |sh=>
  have h:0<c:=by grind
  exact⟨x/c,Il h (bX f),Bq h (by rw[Rat.mul_one];exact l),rfl⟩
 |ga=>exact⟨x,bX f,rfl⟩
 |lo=>exact⟨c - x,by grind,rfl⟩
 |ha=>
  rw[lT]
  split
  ·exact⟨x,bX f,.inl rfl⟩
  ·exact⟨c - x,by grind,.inr rfl⟩
theorem EN{b:Rl}(f:b≠.tu){cs:List Rat}{c x e:Rat}{ps:List Rat}{j:Nat}{p:Rat}(G:rS cs e)(l:0<x)(o:x<=c)(D:e<sm (cs.map (need b c x)))(w:RlR b cs e ps)(B:cs[j]? =some c)(g:ps[j]? =some p):p<x:=by
 obtain⟨F,A,rfl,C⟩:=w.af f G.nn G.e0 G.le
 rw[bi,B] at g
 cases g
 refine Rat.not_le.mp fun h=>?_
 have:sm (cs.map (need b c x))<=sm (cs.map F):=Cp fun y z=>Da A l o h (G.nn y z)
 grind
theorem Dm{f:Rl}(b:f≠.tu){cs:List Rat}{c x:Rat}{ps:List Rat}{j:Nat}{p:Rat}(g:0<x)(l:x<=c)(G:rS cs (sm (cs.map (need f c x))))(o:RlR f cs (sm (cs.map (need f c x))) ps)(w:cs[j]? =some c)(h:ps[j]? =some p):p=x:=by
 rw[AF.shared b (BC b g l) G rfl o,bi,w] at h
 cases h
 exact Ir b g l
end Lr
namespace L2
open PySem PySem.Spec PyProof.Rows
section
variable {X:Cx}
def Ha:V ->List V ->Hp ->VK ->Prop:=fun x vs H Q=>∃l:List Nat,x=.str (tx l)/\ vs=[]/\ l≠[]/\ Lt.pD l/\ Q (.bl true) H
theorem Im{l:List Nat}(g:l≠[])(h:Lt.pD l):(decide ((tx l).length>0) && (tx l).cps.all Unicode.isDigit)=true:=by
 have f:∀n:Fin 10,Unicode.isDigit (48+n.1)=true:=by decide+kernel
 have h1:(tx l).length>0:=by
  rw[iK]
  cases l with
  |nil=>exact absurd rfl g
  |cons a r=>exact Nat.succ_pos _
 rw[decide_eq_true h1,Bool.true_and, ←Array.all_toList,jt,fS]
 intro c o
 obtain⟨a,b⟩:=h c o
 have:=f ⟨c - 48,by omega⟩
 rw[show 48+(c - 48)=c by omega] at this
 exact this
theorem De:MtM X "str.isdigit" Ha:=by
 intro B s A H x z v w Q I f b h
 obtain⟨l,rfl,rfl,o,g,q⟩:=h
 obtain⟨t,rfl⟩:=f
 cases b
 refine call_gives PySem.F.slot_str_isdigit (typeIs_str s _ t) PySem.F.entry_str_isdigit (PySem.F.args_str_isdigit_1 _) (gives_str_isdigit (tx l) t) ?_
 rw[Im o g]
 exact⟨.bl true,H,I,rfl,q⟩
end
end L2
namespace My
open PySem L2
theorem ds{X:Cx}{x:Str}{j pos}(l:List Nat)(h:x=tx l:=by decide+kernel):PE X (.Constant (.str x) j pos) (tC (.str (tx l))):=Mm h
theorem scm{N P:List Str}{h:Scope}(a:h.kind=.function:=by rfl)(b:h.isCoroutine=false:=by rfl)(c:h.isGenerator=false:=by rfl)(d:N.Nodup:=by decide+kernel)(e:N.take P.length=P:=by rfl)(f:∀x∈P,h.names.lookup x=some .local∨h.names.lookup x=some .cell:=by decide+kernel)(g:∀y∈h.names,y.2≠.free:=by decide+kernel):im N P h:=⟨a,b,c,d,e,f,g⟩
@[elab_as_elim] theorem _root_.L2.byLen7 {l:Type} {P:List l ->Prop} (us:List l) (h:us.length=7) (k:∀a b c d e f g,P [a,b,c,d,e,f,g]):P us:=by
 match us,h with
 |[a,b,c,d,e,f,g],_=>exact k a b c d e f g
abbrev PRG:=PySem.Challenge.rw_leanestate_k47_whole_need.prog
def top(i:Nat):Stmt:=PySem.Challenge.pw_leanestate_k47_whole_need.main.body.getD i (.Pass ⟨0,0,0,0⟩)
def jV(i:Nat):List Stmt:=match top i with| .ClassDef _ _ _ b _ _ _ _ _ _ _=>b|_=>[]
abbrev sD:Stmt:=top 86
theorem oE:im ["_law_top","_law_bottom","_law_one","_law_other"] aq (hZ sD):=scm
abbrev qe:Stmt:=top 85
theorem zd:im aD aD (hZ qe):=scm
abbrev rE:Stmt:=top 90
theorem kh:im ["_law_script","_law_claims_here","_law_k","_law_cell","_law_claim"] aE (hZ rE):=scm
abbrev jI:Stmt:=(jV 83).getD 0 (.Pass ⟨0,0,0,0⟩)
theorem vE:im aM aM (hZ jI):=scm
abbrev rL:Stmt:=top 89
theorem oh:im ["_law_k","_law_cell","_law_some","_law_size","_law_place","_law_base"] aQ (hZ rL):=scm
abbrev tE:Stmt:=top 71
theorem rQ:im ["words","form","told"] ["words"] (hZ tE):=scm
abbrev oC:Stmt:=top 70
theorem AM:im aU aU (hZ oC):=scm
abbrev nE:Stmt:=top 65
theorem pU:im ["figures","sign"] ["figures"] (hZ nE):=scm
abbrev rK:Stmt:=top 66
theorem AN:im aV aV (hZ rK):=scm
abbrev mG:Stmt:=top 16
theorem jM:im ["one","other","greater","lesser","rest"] ae (hZ mG):=scm
abbrev rP:Stmt:=top 15
theorem AU:im ["value"] ["value"] (hZ rP):=scm
abbrev wR:Stmt:=top 17
theorem uT:im ["top","bottom","divisor"] ay (hZ wR):=scm
abbrev xf:Stmt:=top 64
theorem Ao:im ["one","top"] ["one"] (hZ xf):=scm
abbrev Am:Stmt:=top 67
theorem oG:im ["text","parts","top","bottom","made"] aV (hZ Am):=scm
abbrev nv:Stmt:=top 50
theorem wg:im aP aP (hZ nv):=scm
abbrev kJ:Stmt:=top 53
theorem pE:im aP aP (hZ kJ):=scm
abbrev lB:Stmt:=top 72
theorem rN:im ["told"] ["told"] (hZ lB):=scm
abbrev qj:Stmt:=top 73
theorem sM:im ["line","told"] aU (hZ qj):=scm
abbrev pR:Stmt:=top 81
theorem Db:im ["word"] ["word"] (hZ pR):=scm
abbrev jh:Stmt:=(jV 83).getD 2 (.Pass ⟨0,0,0,0⟩)
theorem mM:im ["self","told","word"] ah (hZ jh):=scm
abbrev zJ:Stmt:=top 22
theorem IP:im ae ae (hZ zJ):=scm
abbrev jd:Stmt:=(jV 83).getD 3 (.Pass ⟨0,0,0,0⟩)
theorem qr:im ah ah (hZ jd):=scm
abbrev jq:Stmt:=(jV 83).getD 4 (.Pass ⟨0,0,0,0⟩)
theorem rW:im ah ah (hZ jq):=scm
abbrev Ax:Stmt:=top 18
theorem IE:im ae ae (hZ Ax):=scm
abbrev jp:Stmt:=(jV 83).getD 10 (.Pass ⟨0,0,0,0⟩)
theorem ra:im aB aB (hZ jp):=scm
abbrev wC:Stmt:=top 19
theorem Hx:im ae ae (hZ wC):=scm
abbrev lG:Stmt:=(jV 83).getD 6 (.Pass ⟨0,0,0,0⟩)
theorem ww:im ["self","told","kind"] ah (hZ lG):=scm
abbrev rH:Stmt:=top 82
theorem Ez:im aR aR (hZ rH):=scm
abbrev kS:Stmt:=(jV 83).getD 12 (.Pass ⟨0,0,0,0⟩)
theorem AB:im ["self","rule","name","other","parts","amount","both"] au (hZ kS):=scm
abbrev mJ:Stmt:=top 29
theorem oq:im ["claims","claim"] aw (hZ mJ):=scm
abbrev rZ:Stmt:=top 47
theorem AY:im ["claims","estate","bottom","tops","top","parted_by"] aa (hZ rZ):=scm
abbrev wY:Stmt:=top 28
theorem rV:im ["claims","found","claim"] aw (hZ wY):=scm
abbrev sB:Stmt:=top 30
theorem Di:im aa aa (hZ sB):=scm
abbrev yH:Stmt:=top 21
theorem JL:im ae ae (hZ yH):=scm
abbrev wO:Stmt:=top 20
theorem GZ:im ae ae (hZ wO):=scm
abbrev lZ:Stmt:=top 39
theorem oW:im ["claims","estate","claimed","share"] aa (hZ lZ):=scm
abbrev mU:Stmt:=top 24
theorem kU:im ["ratios","bottom","one"] ["ratios"] (hZ mU):=scm
abbrev nS:Stmt:=top 25
theorem Aw:im aJ aJ (hZ nS):=scm
abbrev oZ:Stmt:=top 35
theorem jZ:im ["claims","estate","bottom","rest","sharers","top"] aa (hZ oZ):=scm
abbrev qt:Stmt:=top 23
theorem zn:im ae ae (hZ qt):=scm
abbrev ou:Stmt:=top 40
theorem uO:im ["claims","estate","level"] aa (hZ ou):=scm
abbrev zZ:Stmt:=top 31
theorem II:im aa aa (hZ zZ):=scm
abbrev pv:Stmt:=top 36
theorem yk:im aa aa (hZ pv):=scm
abbrev mz:Stmt:=top 32
theorem wM:im aK aK (hZ mz):=scm
abbrev nO:Stmt:=top 41
theorem sP:im ["claims","estate","level"] aa (hZ nO):=scm
abbrev nL:Stmt:=top 42
theorem pj:im ["claims","estate","missing","halves"] aa (hZ nL):=scm
abbrev vd:Stmt:=top 51
theorem EB:im al al (hZ vd):=scm
abbrev jx:Stmt:=top 54
theorem kT:im ["claims","bottom","tops"] aw (hZ jx):=scm
abbrev lQ:Stmt:=top 55
theorem vZ:im aL aL (hZ lQ):=scm
abbrev kH:Stmt:=top 56
theorem kq:im ["rule","claims","claimed","estates","lower"] ar (hZ kH):=scm
abbrev vM:Stmt:=top 57
theorem Jr:im ar ar (hZ vM):=scm
abbrev mL:Stmt:=top 58
theorem ux:im aA aA (hZ mL):=scm
abbrev mF:Stmt:=top 59
theorem lW:im ["knot","later","claimer","amount","part","for_each_whole"] ax (hZ mF):=scm
abbrev vy:Stmt:=top 60
theorem pQ:im ["rule","claims","claimer","amount","knots","place"] av (hZ vy):=scm
abbrev jf:Stmt:=(jV 83).getD 7 (.Pass ⟨0,0,0,0⟩)
theorem qM:im aM aM (hZ jf):=scm
abbrev jK:Stmt:=(jV 83).getD 8 (.Pass ⟨0,0,0,0⟩)
theorem uW:im aN aN (hZ jK):=scm
abbrev kK:Stmt:=(jV 83).getD 13 (.Pass ⟨0,0,0,0⟩)
theorem Ah:im ao ao (hZ kK):=scm
abbrev jF:Stmt:=(jV 83).getD 9 (.Pass ⟨0,0,0,0⟩)
theorem uP:im aO aO (hZ jF):=scm
abbrev kj:Stmt:=(jV 83).getD 11 (.Pass ⟨0,0,0,0⟩)
theorem sj:im ["self","name","rule","part"] aH (hZ kj):=scm
abbrev uZ:Stmt:=top 77
theorem DZ:im al al (hZ uZ):=scm
abbrev jJ:Stmt:=(jV 83).getD 5 (.Pass ⟨0,0,0,0⟩)
theorem pd:im ["self","told","kind"] ah (hZ jJ):=scm
abbrev kY:Stmt:=(jV 83).getD 1 (.Pass ⟨0,0,0,0⟩)
theorem uN:im ["self","line","told"] aI (hZ kY):=scm
abbrev vo:Stmt:=top 87
theorem Ej:im aS aS (hZ vo):=scm
abbrev pi:Stmt:=top 94
theorem je:im ["_law_desk","_law_names","_law_claims_here","_law_cell","_law_many","_law_at","_law_kind","_law_other","_law_line","_law_top","_law_bottom","_law_more","_law_parts","_law_part","_law_fresh"] am (hZ pi):=scm
abbrev vD:Stmt:=top 88
theorem sE:im ["_law_text_here","_law_pieces","_law_piece"] aT (hZ vD):=scm
abbrev uY:Stmt:=top 91
theorem sx:im ["_law_desk","_law_rule","_law_estate","_law_name_here","_law_names","_law_told","_law_k"] aj (hZ uY):=scm
abbrev uV:Stmt:=top 92
theorem Dy:im aF aF (hZ uV):=scm
abbrev rB:Stmt:=top 93
theorem jQ:im ["_law_desk","_law_rule","_law_name_here","_law_names","_law_amount","_law_cell","_law_again","_law_line","_law_before","_law_told","_law_least","_law_found","_law_part","_law_under"] ai (hZ rB):=scm
abbrev yz:Stmt:=top 95
theorem km:im ["_law_script","_law_claims_here","_law_names","_law_desk","_law_k","_law_place","_law_cell","_law_rule","_law_who","_law_part","_law_top","_law_bottom","_law_amount"] aE (hZ yz):=scm
set_option genInjectivity false in
structure Ad where
 aNoRatio:Addr
 aNoText:Addr
 aTooMany:Addr
 aNoClaim:Addr
 aNoEstate:Addr
 aNoRule:Addr
 aNoClaimer:Addr
 aNoAmount:Addr
 aNoLine:Addr
 aNoName:Addr
 aKnown:Addr
 aDesk:Addr
 oNOUGHT:Addr
 oHALF:Addr
 oWORDS:Addr
structure Env(K:aW)(mg:Str ->Option Value)(Ad:Ad):Prop where
 T:Kt K
 e_Zb:oo K mg "NoRatio" Ad.aNoRatio
 e_Zc:oo K mg "NoText" Ad.aNoText
 e_Zd:oo K mg "TooMany" Ad.aTooMany
 e_Ze:oo K mg "NoClaim" Ad.aNoClaim
 e_Zf:oo K mg "NoEstate" Ad.aNoEstate
 e_Zg:oo K mg "NoRule" Ad.aNoRule
 e_Zj:oo K mg "NoClaimer" Ad.aNoClaimer
 e_Zk:oo K mg "NoAmount" Ad.aNoAmount
 e_Zm:oo K mg "NoLine" Ad.aNoLine
 e_Zn:oo K mg "NoName" Ad.aNoName
 e_Zo:oo K mg "Known" Ad.aKnown
 b_len:mg "len"=none
 b_abs:mg "abs"=none
 b_range:mg "range"=none
 b_isinstance:mg "isinstance"=none
 b_int:mg "int"=none
 b_bool:mg "bool"=none
 b_str:mg "str"=none
 b_list:mg "list"=none
 b_sum:mg "sum"=none
 b_min:mg "min"=none
 b_max:mg "max"=none
 b_all:mg "all"=none
 b_reversed:mg "reversed"=none
 b_sorted:mg "sorted"=none
 b_zip:mg "zip"=none
 b_set:mg "set"=none
 b_dict:mg "dict"=none
 g_Desk:mg "Desk"=some (.ref Ad.aDesk)
 cl_Desk:Cls K Ad.aDesk
 mk_Desk:fz K Ad.aDesk=true
 kp_Desk:cj K (.ref Ad.aDesk)=true
 na_Desk_estate:md K Ad.aDesk "estate"
 na_Desk_claims:md K Ad.aDesk "claims"
 m_Desk___init__:∃f fd,jA K Ad.aDesk "__init__" "Desk.__init__" jI aM f fd
 m_Desk_look_at_names:∃f fd,jA K Ad.aDesk "look_at_names" "Desk.look_at_names" jh ah f fd
 m_Desk_look_at_amount:∃f fd,jA K Ad.aDesk "look_at_amount" "Desk.look_at_amount" jd ah f fd
 m_Desk_look_at_room:∃f fd,jA K Ad.aDesk "look_at_room" "Desk.look_at_room" jq ah f fd
 m_Desk_add_to_claim:∃f fd,jA K Ad.aDesk "add_to_claim" "Desk.add_to_claim" jp aB f fd
 m_Desk_do:∃f fd,jA K Ad.aDesk "do" "Desk.do" lG ah f fd
 m_Desk_two:∃f fd,jA K Ad.aDesk "two" "Desk.two" kS au f fd
 m_Desk_claims_listed:∃f fd,jA K Ad.aDesk "claims_listed" "Desk.claims_listed" jf aM f fd
 m_Desk_place_of:∃f fd,jA K Ad.aDesk "place_of" "Desk.place_of" jK aN f fd
 m_Desk_need:∃f fd,jA K Ad.aDesk "need" "Desk.need" kK ao f fd
 m_Desk_parts_by:∃f fd,jA K Ad.aDesk "parts_by" "Desk.parts_by" jF aO f fd
 m_Desk_leave:∃f fd,jA K Ad.aDesk "leave" "Desk.leave" kj aH f fd
 m_Desk_answered:∃f fd,jA K Ad.aDesk "answered" "Desk.answered" jJ ah f fd
 m_Desk_say:∃f fd,jA K Ad.aDesk "say" "Desk.say" kY aI f fd
 c_Zp:Cn mg "NOUGHT" (.ref Ad.oNOUGHT)
 k_Zp:KT K Ad.oNOUGHT [.int 0,.int 1]
 c_Zq:Cn mg "MOST_CLAIMS" (.int 8)
 c_Zr:Cn mg "HALF" (.ref Ad.oHALF)
 k_Zr:KT K Ad.oHALF [.int 1,.int 2]
 c_Zs:Cn mg "WORDS" (.ref Ad.oWORDS)
 k_Zs:KT K Ad.oWORDS [.str (tx [115,104,97,114,101,115]),.str (tx [103,97,105,110,115]),.str (tx [108,111,115,115,101,115]),.str (tx [104,97,108,118,101,115]),.str (tx [116,117,114,110,115])]
 c_FIGURES:Cn mg "FIGURES" (.str (tx [48,49,50,51,52,53,54,55,56,57]))
 c_MOST_FIGURES:Cn mg "MOST_FIGURES" (.int 60)
 c_LETTERS:Cn mg "LETTERS" (.str (tx [97,98,99,100,101,102,103,104,105,106,107,108,109,110,111,112,113,114,115,116,117,118,119,120,121,122]))
 c_LONGEST_NAME:Cn mg "LONGEST_NAME" (.int 8)
theorem Lo{K:aW}{mg:Str ->Option Value}{h:Heap}{a7 c6 b4 b3 a9 c3 a6 c1 c8 a8 c7 b:Addr}{d5 d9 d7 c9 e8 e6 e4 d0 d1 e1 Z a1 a0 a2:Addr}{x0a y6 y4 z9 q7 x0f x1a x9 x1c x1d o8 x1f x2a x2b x2c x2d o3 z8 x3a x3b x3c x3d t7 y8 x4a x4b z6 z2 u3 z1 x5a x5b x5c x5d u2 x5f x6a x6b x6c x6d t6 z0 z3 y9 y7 x7d s6 y5 y2 x8b x7 x8d v5 x8f z7 x9b x9c y1 x1 x9f s9 w1 q6 u1 f0 m2 n9 r0 x6 m0 f6 u5 m7 p3 p0 p9 f1 s5 s8 t8 x3 m6 f7 m3:Value}{y0a y0b y1a y1b z4 y2b y3a x8 y4a y4b y5a y5b z5 y6b y7a y7b y3 y0 y9a y9b r2 u4 u6 o9 t1 x5 s2 v3:Option Addr}{z0a z1a z2a z3a z4a z5a z6a z7a z8a z9a p8 u7 n2 p5:Array (Option Value)}{b9:Addr}{c2:Obj}{f2 f4:Int}{t2 l6:Tok}{k3:Nat}{e9:Int}{o7:Tok}{b6:Addr}{b5:Obj}{f5 f3:Int}{q4 q1:Tok}{k8:Nat}{b0:Addr}{c4:Obj}{i9:Nat}{c5:Str}{i0:Tok}{b2:Str}{l4:Tok}{b8:Str}{g5:Tok}{b1:Str}{g3:Tok}{c0:Str}{j9:Tok}{O:Str}{X:Tok}{w:Int}{M:Tok}{N:Str}{Y:Tok}{z:Int}{L:Tok}(T:Kt K)(A:K.In h)(G:h.Ns mainGlobals mg)(v9:bI K mainGlobals "NoRatio"=some (some (.ref a7)))(w7:bI K mainGlobals "NoText"=some (some (.ref c6)))(x0:bI K mainGlobals "TooMany"=some (some (.ref b4)))(v1:bI K mainGlobals "NoClaim"=some (some (.ref b3)))(s0:bI K mainGlobals "NoEstate"=some (some (.ref a9)))(m4:bI K mainGlobals "NoRule"=some (some (.ref c3)))(r7:bI K mainGlobals "NoClaimer"=some (some (.ref a6)))(o2:bI K mainGlobals "NoAmount"=some (some (.ref c1)))(q9:bI K mainGlobals "NoLine"=some (some (.ref c8)))(r4:bI K mainGlobals "NoName"=some (some (.ref a8)))(l8:bI K mainGlobals "Known"=some (some (.ref c7)))(o0:cX K a7 mx "ValueError.__new__"=true)(x2:cX K c6 mx "ValueError.__new__"=true)(w3:cX K b4 mx "ValueError.__new__"=true)(n7:cX K b3 mx "ValueError.__new__"=true)(r9:cX K a9 mx "ValueError.__new__"=true)(l7:cX K c3 mx "ValueError.__new__"=true)(v8:cX K a6 mx "ValueError.__new__"=true)(s3:cX K c1 mx "ValueError.__new__"=true)(n5:cX K c8 mx "ValueError.__new__"=true)(m1:cX K a8 mx "ValueError.__new__"=true)(s7:cX K c7 mx "ValueError.__new__"=true)(g0:bI K mainGlobals "len"=some none)(j6:bI K mainGlobals "abs"=some none)(b7:bI K mainGlobals "range"=some none)(P:bI K mainGlobals "isinstance"=some none)(l5:bI K mainGlobals "int"=some none)(e5:bI K mainGlobals "bool"=some none)(j1:bI K mainGlobals "str"=some none)(d4:bI K mainGlobals "list"=some none)(h2:bI K mainGlobals "sum"=some none)(j5:bI K mainGlobals "min"=some none)(k5:bI K mainGlobals "max"=some none)(k9:bI K mainGlobals "all"=some none)(R:bI K mainGlobals "reversed"=some none)(a3:bI K mainGlobals "sorted"=some none)(h8:bI K mainGlobals "zip"=some none)(h4:bI K mainGlobals "set"=some none)(e2:bI K mainGlobals "dict"=some none)(d2:bI K mainGlobals "Desk"=some (some (.ref b)))(f:fh K b Str.empty=true)(g:fK K b=true)(o:gI K b=true)(l:bO K (.ref b) "__setattr__"=some (some (.builtin "object.__setattr__")))(a4:fz K b=true)(a5:cj K (.ref b)=true)(J:bO K (.ref b) "estate"=some none)(I:bO K (.ref b) "claims"=some none)(w2:bO K (.ref b) "__init__"=some (some (.ref d5)))(m5:cN K (.ref d5)=true)(w6:K.lookup d5=some ⟨x0a,y0a,.func (cB "__init__" "Desk.__init__" (jc jI) (iZ jI) (hZ jI) .none y6 y4 z9 y0b q7 x0f),z0a⟩)(v4:cF K q7 "Desk.__init__"=true)(p2:cj K (.ref d5)=true)(o6:bO K (.ref b) "look_at_names"=some (some (.ref d9)))(o5:cN K (.ref d9)=true)(w9:K.lookup d9=some ⟨x1a,y1a,.func (cB "look_at_names" "Desk.look_at_names" (jc jh) (iZ jh) (hZ jh) .none x9 x1c x1d y1b o8 x1f),z1a⟩)(r8:cF K o8 "Desk.look_at_names"=true)(w0:cj K (.ref d9)=true)(t9:bO K (.ref b) "look_at_amount"=some (some (.ref d7)))(r6:cN K (.ref d7)=true)(r5:K.lookup d7=some ⟨x2a,z4,.func (cB "look_at_amount" "Desk.look_at_amount" (jc jd) (iZ jd) (hZ jd) .none x2b x2c x2d y2b o3 z8),z2a⟩)(n3:cF K o3 "Desk.look_at_amount"=true)(u9:cj K (.ref d7)=true)(p6:bO K (.ref b) "look_at_room"=some (some (.ref c9)))(w4:cN K (.ref c9)=true)(u8:K.lookup c9=some ⟨x3a,y3a,.func (cB "look_at_room" "Desk.look_at_room" (jc jq) (iZ jq) (hZ jq) .none x3b x3c x3d x8 t7 y8),z3a⟩)(x4:cF K t7 "Desk.look_at_room"=true)(p4:cj K (.ref c9)=true)(s4:bO K (.ref b) "add_to_claim"=some (some (.ref e8)))(n8:cN K (.ref e8)=true)(q0:K.lookup e8=some ⟨x4a,y4a,.func (cB "add_to_claim" "Desk.add_to_claim" (jc jp) (iZ jp) (hZ jp) .none x4b z6 z2 y4b u3 z1),z4a⟩)(p7:cF K u3 "Desk.add_to_claim"=true)(n6:cj K (.ref e8)=true)(v2:bO K (.ref b) "do"=some (some (.ref e6)))(v0:cN K (.ref e6)=true)(w5:K.lookup e6=some ⟨x5a,y5a,.func (cB "do" "Desk.do" (jc lG) (iZ lG) (hZ lG) .none x5b x5c x5d y5b u2 x5f),z5a⟩)(q2:cF K u2 "Desk.do"=true)(o1:cj K (.ref e6)=true)(t5:bO K (.ref b) "two"=some (some (.ref e4)))(t0:cN K (.ref e4)=true)(w8:K.lookup e4=some ⟨x6a,z5,.func (cB "two" "Desk.two" (jc kS) (iZ kS) (hZ kS) .none x6b x6c x6d y6b t6 z0),z6a⟩)(t4:cF K t6 "Desk.two"=true)(o4:cj K (.ref e4)=true)(m8:bO K (.ref b) "claims_listed"=some (some (.ref d0)))(v7:cN K (.ref d0)=true)(n0:K.lookup d0=some ⟨z3,y7a,.func (cB "claims_listed" "Desk.claims_listed" (jc jf) (iZ jf) (hZ jf) .none y9 y7 x7d y7b s6 y5),z7a⟩)(v6:cF K s6 "Desk.claims_listed"=true)(r3:cj K (.ref d0)=true)(p1:bO K (.ref b) "place_of"=some (some (.ref d1)))(n4:cN K (.ref d1)=true)(l9:K.lookup d1=some ⟨y2,y3,.func (cB "place_of" "Desk.place_of" (jc jK) (iZ jK) (hZ jK) .none x8b x7 x8d y0 v5 x8f),z8a⟩)(u0:cF K v5 "Desk.place_of"=true)(n1:cj K (.ref d1)=true)(q5:bO K (.ref b) "need"=some (some (.ref e1)))(q3:cN K (.ref e1)=true)(r1:K.lookup e1=some ⟨z7,y9a,.func (cB "need" "Desk.need" (jc kK) (iZ kK) (hZ kK) .none x9b x9c y1 y9b x1 x9f),z9a⟩)(t3:cF K x1 "Desk.need"=true)(q8:cj K (.ref e1)=true)(k7:bO K (.ref b) "parts_by"=some (some (.ref Z)))(i3:cN K (.ref Z)=true)(k0:K.lookup Z=some ⟨s9,r2,.func (cB "parts_by" "Desk.parts_by" (jc jF) (iZ jF) (hZ jF) .none w1 q6 u1 u4 f0 m2),p8⟩)(l2:cF K f0 "Desk.parts_by"=true)(l1:cj K (.ref Z)=true)(f9:bO K (.ref b) "leave"=some (some (.ref a1)))(i2:cN K (.ref a1)=true)(h9:K.lookup a1=some ⟨n9,u6,.func (cB "leave" "Desk.leave" (jc kj) (iZ kj) (hZ kj) .none r0 x6 m0 o9 f6 u5),u7⟩)(j8:cF K f6 "Desk.leave"=true)(j7:cj K (.ref a1)=true)(i6:bO K (.ref b) "answered"=some (some (.ref a0)))(h7:cN K (.ref a0)=true)(i1:K.lookup a0=some ⟨m7,t1,.func (cB "answered" "Desk.answered" (jc jJ) (iZ jJ) (hZ jJ) .none p3 p0 p9 x5 f1 s5),n2⟩)(k2:cF K f1 "Desk.answered"=true)(i8:cj K (.ref a0)=true)(j0:bO K (.ref b) "say"=some (some (.ref a2)))(h5:cN K (.ref a2)=true)(i7:K.lookup a2=some ⟨s8,s2,.func (cB "say" "Desk.say" (jc kY) (iZ kY) (hZ kY) .none t8 x3 m6 v3 f7 m3),p5⟩)(g1:cF K f7 "Desk.say"=true)(k4:cj K (.ref a2)=true)(j2:bI K mainGlobals "NOUGHT"=some (some (.ref b9)))(i4:List.lookup b9 K=some c2)(g4:c2.cls=.type "tuple")(j4:c2.data=.seq #[.int f2 t2,.int f4 l6] k3)(h3:f2=0)(f8:f4=1)(j3:bI K mainGlobals "MOST_CLAIMS"=some (some (.int e9 o7)))(l3:e9=8)(l0:bI K mainGlobals "HALF"=some (some (.ref b6)))(g9:List.lookup b6 K=some b5)(k1:b5.cls=.type "tuple")(g6:b5.data=.seq #[.int f5 q4,.int f3 q1] k8)(g2:f5=1)(g8:f3=2)(h6:bI K mainGlobals "WORDS"=some (some (.ref b0)))(k6:List.lookup b0 K=some c4)(i5:c4.cls=.type "tuple")(g7:c4.data=.seq #[.str c5 i0,.str b2 l4,.str b8 g5,.str b1 g3,.str c0 j9] i9)(d3:c5=tx [115,104,97,114,101,115])(e3:b2=tx [103,97,105,110,115])(d8:b8=tx [108,111,115,115,101,115])(e0:b1=tx [104,97,108,118,101,115])(d6:c0=tx [116,117,114,110,115])(W:bI K mainGlobals "FIGURES"=some (some (.str O X)))(Q:O=tx [48,49,50,51,52,53,54,55,56,57])(C:bI K mainGlobals "MOST_FIGURES"=some (some (.int w M)))(H:w=60)(S:bI K mainGlobals "LETTERS"=some (some (.str N Y)))(U:N=tx [97,98,99,100,101,102,103,104,105,106,107,108,109,110,111,112,113,114,115,116,117,118,119,120,121,122])(F:bI K mainGlobals "LONGEST_NAME"=some (some (.int z L)))(B:z=8):∃Ad,Env K mg Ad:=
 ⟨⟨a7,c6,b4,b3,a9,c3,a6,c1,c8,a8,c7,b,b9,b6,b0⟩,{T:=T,e_Zb:=⟨cH A G v9,o0⟩,e_Zc:=⟨cH A G w7,x2⟩,e_Zd:=⟨cH A G x0,w3⟩,e_Ze:=⟨cH A G v1,n7⟩,e_Zf:=⟨cH A G s0,r9⟩,e_Zg:=⟨cH A G m4,l7⟩,e_Zj:=⟨cH A G r7,v8⟩,e_Zk:=⟨cH A G o2,s3⟩,e_Zm:=⟨cH A G q9,n5⟩,e_Zn:=⟨cH A G r4,m1⟩,e_Zo:=⟨cH A G l8,s7⟩,b_len:=cy A G g0,b_abs:=cy A G j6,b_range:=cy A G b7,b_isinstance:=cy A G P,b_int:=cy A G l5,b_bool:=cy A G e5,b_str:=cy A G j1,b_list:=cy A G d4,b_sum:=cy A G h2,b_min:=cy A G j5,b_max:=cy A G k5,b_all:=cy A G k9,b_reversed:=cy A G R,b_sorted:=cy A G a3,b_zip:=cy A G h8,b_set:=cy A G h4,b_dict:=cy A G e2,g_Desk:=cH A G d2,cl_Desk:=⟨f,g,o,l⟩,mk_Desk:=a4,kp_Desk:=a5,na_Desk_estate:=J,na_Desk_claims:=I,m_Desk___init__:=⟨_,_,jX (st:=jI) (ps:=aM) ⟨f,g,o,l⟩ w2 m5 w6 v4 p2 (fun _ _ _ _ _ _ D E=>ju D E (fun _=>rfl))⟩,m_Desk_look_at_names:=⟨_,_,jX (st:=jh) (ps:=ah) ⟨f,g,o,l⟩ o6 o5 w9 r8 w0 (fun _ _ _ _ _ _ D E=>iL D E (fun _ _=>rfl))⟩,m_Desk_look_at_amount:=⟨_,_,jX (st:=jd) (ps:=ah) ⟨f,g,o,l⟩ t9 r6 r5 n3 u9 (fun _ _ _ _ _ _ D E=>iL D E (fun _ _=>rfl))⟩,m_Desk_look_at_room:=⟨_,_,jX (st:=jq) (ps:=ah) ⟨f,g,o,l⟩ p6 w4 u8 x4 p4 (fun _ _ _ _ _ _ D E=>iL D E (fun _ _=>rfl))⟩,m_Desk_add_to_claim:=⟨_,_,jX (st:=jp) (ps:=aB) ⟨f,g,o,l⟩ s4 n8 q0 p7 n6 (fun _ _ _ _ _ _ D E=>qH D E (fun _ _ _=>rfl))⟩,m_Desk_do:=⟨_,_,jX (st:=lG) (ps:=ah) ⟨f,g,o,l⟩ v2 v0 w5 q2 o1 (fun _ _ _ _ _ _ D E=>iL D E (fun _ _=>rfl))⟩,m_Desk_two:=⟨_,_,jX (st:=kS) (ps:=au) ⟨f,g,o,l⟩ t5 t0 w8 t4 o4 (fun _ _ _ _ _ _ D E=>qQ D E (fun _ _ _ _=>rfl))⟩,m_Desk_claims_listed:=⟨_,_,jX (st:=jf) (ps:=aM) ⟨f,g,o,l⟩ m8 v7 n0 v6 r3 (fun _ _ _ _ _ _ D E=>ju D E (fun _=>rfl))⟩,m_Desk_place_of:=⟨_,_,jX (st:=jK) (ps:=aN) ⟨f,g,o,l⟩ p1 n4 l9 u0 n1 (fun _ _ _ _ _ _ D E=>iL D E (fun _ _=>rfl))⟩,m_Desk_need:=⟨_,_,jX (st:=kK) (ps:=ao) ⟨f,g,o,l⟩ q5 q3 r1 t3 q8 (fun _ _ _ _ _ _ D E=>qQ D E (fun _ _ _ _=>rfl))⟩,m_Desk_parts_by:=⟨_,_,jX (st:=jF) (ps:=aO) ⟨f,g,o,l⟩ k7 i3 k0 l2 l1 (fun _ _ _ _ _ _ D E=>iL D E (fun _ _=>rfl))⟩,m_Desk_leave:=⟨_,_,jX (st:=kj) (ps:=aH) ⟨f,g,o,l⟩ f9 i2 h9 j8 j7 (fun _ _ _ _ _ _ D E=>qH D E (fun _ _ _=>rfl))⟩,m_Desk_answered:=⟨_,_,jX (st:=jJ) (ps:=ah) ⟨f,g,o,l⟩ i6 h7 i1 k2 i8 (fun _ _ _ _ _ _ D E=>iL D E (fun _ _=>rfl))⟩,m_Desk_say:=⟨_,_,jX (st:=kY) (ps:=aI) ⟨f,g,o,l⟩ j0 h5 i7 g1 k4 (fun _ _ _ _ _ _ D E=>iL D E (fun _ _=>rfl))⟩,c_Zp:=⟨_,cH A G j2,rfl⟩,k_Zp:=HI i4 g4 j4 h3 f8,c_Zq:=zS A G j3 l3,c_Zr:=⟨_,cH A G l0,rfl⟩,k_Zr:=HI g9 k1 g6 g2 g8,c_Zs:=⟨_,cH A G h6,rfl⟩,k_Zs:=by subst d3 e3 d8 e0 d6;exact⟨_,_,_,k6,i5,g7,by show 5<=sizeLine;decide,(.cons ⟨_,rfl⟩ (.cons ⟨_,rfl⟩ (.cons ⟨_,rfl⟩ (.cons ⟨_,rfl⟩ (.cons ⟨_,rfl⟩ .nil)))))⟩,c_FIGURES:=DC A G W Q,c_MOST_FIGURES:=zS A G C H,c_LETTERS:=DC A G S U,c_LONGEST_NAME:=zS A G F B}⟩
structure AdD where
 oFORMS:Addr
 r0:Addr
 t0:Tok
 r1:Addr
 t1:Tok
 r2:Addr
 t2:Tok
 r3:Addr
 t3:Tok
 r4:Addr
 t4:Tok
 r5:Addr
 t5:Tok
 r6:Addr
 t6:Tok
 r7:Addr
 t7:Tok
 r8:Addr
 t8:Tok
 r9:Addr
 t9:Tok
 r10:Addr
 t10:Tok
 r11:Addr
 t11:Tok
 r12:Addr
 t12:Tok
structure CG(w:World)(K:aW)(mg:Str ->Option Value)(AD:AdD):Prop where
 c_FORMS:Cn mg "FORMS" (.ref AD.oFORMS)
 d_FORMS:wW K w AD.oFORMS [(tx [99,108,97,105,109],AD.t0,AD.r0),(tx [109,111,114,101],AD.t1,AD.r1),(tx [100,114,111,112],AD.t2,AD.r2),(tx [112,97,114,116],AD.t3,AD.r3),(tx [106,111,105,110],AD.t4,AD.r4),(tx [101,115,116,97,116,101],AD.t5,AD.r5),(tx [103,114,111,119],AD.t6,AD.r6),(tx [108,101,97,118,101],AD.t7,AD.r7),(tx [115,104,111,119],AD.t8,AD.r8),(tx [115,104,97,114,101],AD.t9,AD.r9),(tx [116,117,114,110,101,100],AD.t10,AD.r10),(tx [116,119,111],AD.t11,AD.r11),(tx [110,101,101,100],AD.t12,AD.r12)]
 k0:KT K AD.r0 [.str (tx [78,69,87]),.str (tx [82])]
 k1:KT K AD.r1 [.str (tx [78,65,77,69]),.str (tx [82])]
 k2:KT K AD.r2 [.str (tx [78,65,77,69])]
 k3:KT K AD.r3 [.str (tx [78,65,77,69]),.str (tx [78,69,87]),.str (tx [82])]
 k4:KT K AD.r4 [.str (tx [78,65,77,69]),.str (tx [79,84,72,69,82])]
 k5:KT K AD.r5 [.str (tx [82])]
 k6:KT K AD.r6 [.str (tx [82])]
 k7:KT K AD.r7 [.str (tx [78,65,77,69]),.str (tx [82,85,76,69])]
 k8:KT K AD.r8 []
 k9:KT K AD.r9 [.str (tx [82,85,76,69])]
 k10:KT K AD.r10 [.str (tx [82,85,76,69])]
 k11:KT K AD.r11 [.str (tx [82,85,76,69]),.str (tx [78,65,77,69]),.str (tx [79,84,72,69,82])]
 k12:KT K AD.r12 [.str (tx [82,85,76,69]),.str (tx [78,65,77,69]),.str (tx [82])]
theorem JJ{w:World}{K:aW}{mg:Str ->Option Value}{h:Heap}{q:Addr}{o:Obj}{n0:Nat}{s0:Str}{t0:Tok}{r0:Addr}{o0:Obj}{m0:Nat}{R:Str}{g1:Tok}{O:Str}{h2:Tok}{s1:Str}{t1:Tok}{r1:Addr}{o1:Obj}{m1:Nat}{S:Str}{c7:Tok}{M:Str}{g8:Tok}{s2:Str}{t2:Tok}{r2:Addr}{o2:Obj}{m2:Nat}{E:Str}{f9:Tok}{s3:Str}{t3:Tok}{r3:Addr}{o3:Obj}{m3:Nat}{P:Str}{b7:Tok}{F:Str}{g2:Tok}{Q:Str}{g4:Tok}{s4:Str}{t4:Tok}{r4:Addr}{o4:Obj}{m4:Nat}{J:Str}{h3:Tok}{N:Str}{c5:Tok}{s5:Str}{t5:Tok}{r5:Addr}{o5:Obj}{m5:Nat}{D:Str}{f8:Tok}{s6:Str}{t6:Tok}{r6:Addr}{o6:Obj}{m6:Nat}{I:Str}{g9:Tok}{s7:Str}{t7:Tok}{r7:Addr}{o7:Obj}{m7:Nat}{H:Str}{f5:Tok}{C:Str}{c4:Tok}{s8:Str}{t8:Tok}{r8:Addr}{o8:Obj}{m8:Nat}{s9:Str}{t9:Tok}{r9:Addr}{o9:Obj}{m9:Nat}{L:Str}{c9:Tok}{X:Str}{f2:Tok}{a7:Addr}{b4:Obj}{i5:Nat}{A:Str}{a2:Tok}{Z:Str}{f0:Tok}{a6:Addr}{a1:Obj}{i8:Nat}{b:Str}{a4:Tok}{g:Str}{U:Tok}{l:Str}{b0:Tok}{W:Str}{f7:Tok}{b6:Addr}{a0:Obj}{i3:Nat}{B:Str}{b5:Tok}{f:Str}{Y:Tok}{z:Str}{T:Tok}(KX:K.In h)(G:h.Ns mainGlobals mg)(c0:bI K mainGlobals "FORMS"=some (some (.ref q)))(c1:List.lookup q K=some o)(c2:o=⟨.type "dict",none,.dict #[⟨PyData.keyHash w.params s0,.str s0 t0,.ref r0⟩,⟨PyData.keyHash w.params s1,.str s1 t1,.ref r1⟩,⟨PyData.keyHash w.params s2,.str s2 t2,.ref r2⟩,⟨PyData.keyHash w.params s3,.str s3 t3,.ref r3⟩,⟨PyData.keyHash w.params s4,.str s4 t4,.ref r4⟩,⟨PyData.keyHash w.params s5,.str s5 t5,.ref r5⟩,⟨PyData.keyHash w.params s6,.str s6 t6,.ref r6⟩,⟨PyData.keyHash w.params s7,.str s7 t7,.ref r7⟩,⟨PyData.keyHash w.params s8,.str s8 t8,.ref r8⟩,⟨PyData.keyHash w.params s9,.str s9 t9,.ref r9⟩,⟨PyData.keyHash w.params X,.str X f2,.ref a7⟩,⟨PyData.keyHash w.params Z,.str Z f0,.ref a6⟩,⟨PyData.keyHash w.params W,.str W f7,.ref b6⟩] n0, #[]⟩)(c3:(q == sysModules)=false)(e0:s0=tx [99,108,97,105,109])(l0:List.lookup r0 K=some o0)(y0:o0.cls=.type "tuple")(d0:o0.data=.seq #[.str R g1,.str O h2] m0)(f6:R=tx [78,69,87])(c6:O=tx [82])(e1:s1=tx [109,111,114,101])(l1:List.lookup r1 K=some o1)(y1:o1.cls=.type "tuple")(d1:o1.data=.seq #[.str S c7,.str M g8] m1)(f1:S=tx [78,65,77,69])(g5:M=tx [82])(e2:s2=tx [100,114,111,112])(l2:List.lookup r2 K=some o2)(y2:o2.cls=.type "tuple")(d2:o2.data=.seq #[.str E f9] m2)(h4:E=tx [78,65,77,69])(e3:s3=tx [112,97,114,116])(l3:List.lookup r3 K=some o3)(y3:o3.cls=.type "tuple")(d3:o3.data=.seq #[.str P b7,.str F g2,.str Q g4] m3)(g6:P=tx [78,65,77,69])(h5:F=tx [78,69,87])(g7:Q=tx [82])(e4:s4=tx [106,111,105,110])(l4:List.lookup r4 K=some o4)(y4:o4.cls=.type "tuple")(d4:o4.data=.seq #[.str J h3,.str N c5] m4)(b9:J=tx [78,65,77,69])(g3:N=tx [79,84,72,69,82])(e5:s5=tx [101,115,116,97,116,101])(l5:List.lookup r5 K=some o5)(y5:o5.cls=.type "tuple")(d5:o5.data=.seq #[.str D f8] m5)(f3:D=tx [82])(e6:s6=tx [103,114,111,119])(l6:List.lookup r6 K=some o6)(y6:o6.cls=.type "tuple")(d6:o6.data=.seq #[.str I g9] m6)(c8:I=tx [82])(e7:s7=tx [108,101,97,118,101])(l7:List.lookup r7 K=some o7)(y7:o7.cls=.type "tuple")(d7:o7.data=.seq #[.str H f5,.str C c4] m7)(f4:H=tx [78,65,77,69])(g0:C=tx [82,85,76,69])(e8:s8=tx [115,104,111,119])(l8:List.lookup r8 K=some o8)(y8:o8.cls=.type "tuple")(d8:o8.data=.seq #[] m8)(e9:s9=tx [115,104,97,114,101])(l9:List.lookup r9 K=some o9)(y9:o9.cls=.type "tuple")(d9:o9.data=.seq #[.str L c9] m9)(b8:L=tx [82,85,76,69])(h6:X=tx [116,117,114,110,101,100])(h7:List.lookup a7 K=some b4)(i9:b4.cls=.type "tuple")(i2:b4.data=.seq #[.str A a2] i5)(b1:A=tx [82,85,76,69])(h9:Z=tx [116,119,111])(i6:List.lookup a6 K=some a1)(j0:a1.cls=.type "tuple")(i4:a1.data=.seq #[.str b a4,.str g U,.str l b0] i8)(a5:b=tx [82,85,76,69])(a9:g=tx [78,65,77,69])(b2:l=tx [79,84,72,69,82])(h8:W=tx [110,101,101,100])(i0:List.lookup b6 K=some a0)(i1:a0.cls=.type "tuple")(i7:a0.data=.seq #[.str B b5,.str f Y,.str z T] i3)(a3:B=tx [82,85,76,69])(b3:f=tx [78,65,77,69])(a8:z=tx [82]):∃AD,CG w K mg AD:=by
 subst e0 e1 e2 e3 e4 e5 e6 e7 e8 e9 h6 h9 h8
 subst f6 c6 f1 g5 h4 g6 h5 g7 b9 g3 f3 c8 f4 g0 b8 b1 a5 a9 b2 a3 b3 a8
 refine⟨⟨q,r0,t0,r1,t1,r2,t2,r3,t3,r4,t4,r5,t5,r6,t6,r7,t7,r8,t8,r9,t9,a7,f2,a6,f0,b6,f7⟩,⟨_,cH KX G c0,rfl⟩,⟨⟨n0,c1.trans (congrArg some c2)⟩,c3,show([tx [99,108,97,105,109],tx [109,111,114,101],tx [100,114,111,112],tx [112,97,114,116],tx [106,111,105,110],tx [101,115,116,97,116,101],tx [103,114,111,119],tx [108,101,97,118,101],tx [115,104,111,119],tx [115,104,97,114,101],tx [116,117,114,110,101,100],tx [116,119,111],tx [110,101,101,100]]:List Str).Nodup by decide+kernel⟩,?_,?_,?_,?_,?_,?_,?_,?_,?_,?_,?_,?_,?_⟩
 ·exact⟨_,_,_,l0,y0,d0,by show 2<=sizeLine;decide,(.cons ⟨_,rfl⟩ (.cons ⟨_,rfl⟩ .nil))⟩
 ·exact⟨_,_,_,l1,y1,d1,by show 2<=sizeLine;decide,(.cons ⟨_,rfl⟩ (.cons ⟨_,rfl⟩ .nil))⟩
 ·exact⟨_,_,_,l2,y2,d2,by show 1<=sizeLine;decide,(.cons ⟨_,rfl⟩ .nil)⟩
 ·exact⟨_,_,_,l3,y3,d3,by show 3<=sizeLine;decide,(.cons ⟨_,rfl⟩ (.cons ⟨_,rfl⟩ (.cons ⟨_,rfl⟩ .nil)))⟩
 ·exact⟨_,_,_,l4,y4,d4,by show 2<=sizeLine;decide,(.cons ⟨_,rfl⟩ (.cons ⟨_,rfl⟩ .nil))⟩
 ·exact⟨_,_,_,l5,y5,d5,by show 1<=sizeLine;decide,(.cons ⟨_,rfl⟩ .nil)⟩
 ·exact⟨_,_,_,l6,y6,d6,by show 1<=sizeLine;decide,(.cons ⟨_,rfl⟩ .nil)⟩
 ·exact⟨_,_,_,l7,y7,d7,by show 2<=sizeLine;decide,(.cons ⟨_,rfl⟩ (.cons ⟨_,rfl⟩ .nil))⟩
 ·exact⟨_,_,_,l8,y8,d8,by show 0<=sizeLine;decide,.nil⟩
 ·exact⟨_,_,_,l9,y9,d9,by show 1<=sizeLine;decide,(.cons ⟨_,rfl⟩ .nil)⟩
 ·exact⟨_,_,_,h7,i9,i2,by show 1<=sizeLine;decide,(.cons ⟨_,rfl⟩ .nil)⟩
 ·exact⟨_,_,_,i6,j0,i4,by show 3<=sizeLine;decide,(.cons ⟨_,rfl⟩ (.cons ⟨_,rfl⟩ (.cons ⟨_,rfl⟩ .nil)))⟩
 ·exact⟨_,_,_,i0,i1,i7,by show 3<=sizeLine;decide,(.cons ⟨_,rfl⟩ (.cons ⟨_,rfl⟩ (.cons ⟨_,rfl⟩ .nil)))⟩
def okR(ρ:Lr.Rl):Prop:=ρ≠.tu
def okT:Prop:=False
def okN:Prop:=True
def okL:Prop:=True
inductive qf(vs:List V)(H:Hp)(Q:VK)(E_:XK):Prop
 |mk (a:Int) (h0_:vs=[.int a]) (h1_:Q (.bl true) H):qf vs H Q E_
inductive vU(vs:List V)(H:Hp)(Q:VK)(E_:XK):Prop
 |mk (a b:Int) (h0_:vs=[.int a,.int b]) (h1_:Q (.int (cu a b)) H):vU vs H Q E_
inductive kX(vs:List V)(H:Hp)(Q:VK)(E_:XK):Prop
 |mk (a b:Int) (h0_:vs=[.int a,.int b]) (h1_:b≠0) (h2_:Bd 9000 b) (h3_:∀z H',New H z (pr (Lr.rt a b)) H' ->Q (.ref z) H'):kX vs H Q E_
inductive vW(K:aW)(o:Rat ->Rat ->Rat)(c:Rat ->Prop)(vs:List V)(H:Hp)(Q:VK)(E_:XK):Prop
 |mk (v w:V) (x y:Rat) (m n:Nat) (h0_:vs=[v,w]) (h1_:ip K H v x) (h2_:ip K H w y) (h3_:Sz m x) (h4_:Sz n y) (h5_:m+n<=9000) (h6_:c y) (h7_:∀z H',New H z (pr (o x y)) H' ->Q (.ref z) H'):vW K o c vs H Q E_
abbrev qN(K:aW):Sp:=vW K (· +·) fun _=>True
abbrev mC(K:aW):Sp:=vW K (· - ·) fun _=>True
abbrev oQ(K:aW):Sp:=vW K (· *·) fun _=>True
abbrev wG(K:aW):Sp:=vW K (· /·) fun y=>y≠0
inductive lP(K:aW)(vs:List V)(H:Hp)(Q:VK)(E_:XK):Prop
 |mk (v w:V) (x y:Rat) (h0_:vs=[v,w]) (h1_:ip K H v x) (h2_:ip K H w y) (h3_:Sz 9000 x) (h4_:Sz 9000 y) (h5_:Q (.bl (decide (x<y))) H):lP K vs H Q E_
inductive pP(K:aW)(vs:List V)(H:Hp)(Q:VK)(E_:XK):Prop
 |mk (v w:V) (x y:Rat) (h0_:vs=[v,w]) (h1_:ip K H v x) (h2_:ip K H w y) (h3_:Sz 9000 x) (h4_:Sz 9000 y) (h5_:∀u,ip K H u (Lr.mn x y) ->Q u H):pP K vs H Q E_
structure Ob(k:Nat)(D:Int)(xs:List Rat):Prop where
 pos:0<D
 bd:Bd k D
 ov:∀x∈xs,Lr.Ov D (2^k) x
theorem Ob.sub{k:Nat}{D:Int}{xs ys:List Rat}(h:Ob k D xs)(l:∀y∈ys,y∈xs):Ob k D ys:=⟨h.pos,h.bd,fun y b=>h.ov y (l y b)⟩
theorem Ob.mono{k m:Nat}{D:Int}{xs:List Rat}(h:Ob k D xs)(l:k<=m):Ob m D xs:=⟨h.pos,h.bd.mono l,fun x b=>(h.ov x b).mono (cI (by decide) l)⟩
theorem zW{k m:Nat}{D:Int}{x:Rat}{M:Nat}(o:0<D)(f:Bd k D)(h:Lr.Ov D M x)(g:M<2^m)(l:k<=m):Sz m x:=by
 obtain⟨n,rfl,b⟩:=h
 exact Sz.rt (n:=m) (by omega) (Bd.of_lt (cS b g)) (f.mono l) (bh _)
theorem Ob.sz{k m:Nat}{D:Int}{xs:List Rat}(h:Ob k D xs)(l:k+1<=m){x:Rat}(b:x∈xs):Sz m x:=by
 refine zW h.pos h.bd (h.ov x b) ?_ (by omega)
 exact bp (Nat.pow_lt_pow_right (by decide) (dO k)) (cI (by decide) l)
inductive uh(K:aW)(vs:List V)(H:Hp)(Q:VK)(E_:XK):Prop
 |mk (a:Addr) (xs:List Rat) (k:Nat) (D:Int) (h0_:vs=[.ref a]) (h1_:iE K H a xs) (h2_:Ob k D xs) (h3_:k<=8000) (h4_:∀B:Int,0<B ->B∣D ->(∀x∈xs,(x.den:Int)∣B) ->Q (.int B) H):uh K vs H Q E_
inductive um(K:aW)(vs:List V)(H:Hp)(Q:VK)(E_:XK):Prop
 |mk (a:Addr) (xs:List Rat) (B:Int) (h0_:vs=[.int B,.ref a]) (h1_:iE K H a xs) (h2_:0<B) (h3_:Bd 9000 B) (h4_:(∀x∈xs,(x.den:Int)∣B)) (h5_:(∀x∈xs,Sz 9000 x)) (h6_:xs.length<=1000000) (h7_:∀l (ts:List Int) H',New H l (.lst (ts.map V.int)) H' ->ts.map (fun(t:Int)=>(t:Rat))=xs.map (· *(B:Rat)) ->Q (.ref l) H'):um K vs H Q E_
inductive nC(K:aW)(vs:List V)(H:Hp)(Q:VK)(E_:XK):Prop
 |mk (a:Addr) (cs:List Rat) (k:Nat) (D:Int) (h0_:vs=[.ref a]) (h1_:iE K H a cs) (h2_:Ob k D cs) (h3_:k<=3000) (h4_:cs.length<=1100) (h5_:∀w H',iu H H' ->ip K H' w (Lr.sm cs) ->Q w H'):nC K vs H Q E_
def lF(A:Ad)(cs:List Rat):Option Addr:=if 8<cs.length then some A.aTooMany else if(cs.any fun c=>decide (c<0))=true then some A.aNoClaim else none
def jv(A:Ad)(cs:List Rat)(e:Rat):Option Addr:=match lF A cs with|some c=>some c|none=>if e<0∨Lr.sm cs<e then some A.aNoEstate else none
theorem qb{A:Ad}{cs:List Rat}(h:lF A cs=none):cs.length<=8/\ ∀c∈cs,0<=c:=by
 unfold lF at h
 split at h
 ·cases h
 ·split at h
  ·cases h
  ·rename_i h1 b
   refine⟨by omega,fun c f=>?_⟩
   have:¬c<0:=fun z=>b (er.mpr ⟨c,f,decide_eq_true z⟩)
   grind
theorem xU{A:Ad}{cs:List Rat}(f:cs.length<=8)(h0:∀c∈cs,0<=c):lF A cs=none:=by
 unfold lF
 rw[if_neg (by omega),if_neg]
 intro z
 obtain⟨c,b,h⟩:=er.mp z
 have h1:=of_decide_eq_true h
 have g:=h0 c b
 grind
theorem mH{A:Ad}{cs:List Rat}{e:Rat}(h:jv A cs e=none):cs.length<=8/\ (∀c∈cs,0<=c)/\ 0<=e/\ e<=Lr.sm cs:=by
 unfold jv at h
 split at h
 ·cases h
 ·rename_i h1
  split at h
  ·cases h
  ·rename_i f
   obtain⟨a,b⟩:=qb h1
   exact⟨a,b,by grind,by grind⟩
theorem pc{A:Ad}{cs:List Rat}{e:Rat}(b:cs.length<=8)(h0:∀c∈cs,0<=c)(f:0<=e)(g:e<=Lr.sm cs):jv A cs e=none:=by
 unfold jv
 rw[xU b h0]
 show(if e<0∨Lr.sm cs<e then some A.aNoEstate else none)=none
 rw[if_neg]
 grind
inductive rD(K:aW)(A:Ad)(vs:List V)(H:Hp)(Q:VK)(E:XK):Prop
 |mk (a:Addr) (cs:List Rat) (h0_:vs=[.ref a]) (h1_:iE K H a cs) (h2_:(∀c∈cs,Sz 9000 c)) (h3_:(lF A cs=none ->Q .non H)) (h4_:∀c,lF A cs=some c ->E (.ref c) none H):rD K A vs H Q E
inductive qy(K:aW)(A:Ad)(vs:List V)(H:Hp)(Q:VK)(E:XK):Prop
 |mk (a:Addr) (v:V) (cs:List Rat) (e:Rat) (k:Nat) (D:Int) (h0_:vs=[.ref a,v]) (h1_:iE K H a cs) (h2_:ip K H v e) (h3_:Ob k D (e::cs)) (h4_:k<=3000) (h5_:(jv A cs e=none ->∀H',iu H H' ->Q .non H')) (h6_:∀c,jv A cs e=some c ->∀H',iu H H' ->E (.ref c) none H'):qy K A vs H Q E
inductive ub(K:aW)(A:Ad)(vs:List V)(H:Hp)(Q:VK)(E:XK):Prop
 |mk (a:Addr) (v:V) (cs:List Rat) (e:Rat) (k:Nat) (D:Int) (h0_:vs=[.ref a,v]) (h1_:iE K H a cs) (h2_:ip K H v e) (h3_:Ob k D (e::cs)) (h4_:k<=3000) (h5_:(jv A cs e=none ->∀w H',iu H H' ->ip K H' w (Lr.sm cs - e) ->Q w H')) (h6_:∀c,jv A cs e=some c ->∀H',iu H H' ->E (.ref c) none H'):ub K A vs H Q E
inductive rm(K:aW)(vs:List V)(H:Hp)(Q:VK)(E_:XK):Prop
 |mk (a b:Addr) (cs ps:List Rat) (m n:Nat) (h0_:vs=[.ref a,.ref b]) (h1_:iE K H a cs) (h2_:iE K H b ps) (h3_:(∀c∈cs,Sz m c)) (h4_:(∀p∈ps,Sz n p)) (h5_:m+n<=9000) (h6_:cs.length<=1000) (h7_:ps.length=cs.length) (h8_:∀l H',iu H H' ->H l=none ->iE K H' l (dZ (· - ·) cs ps) ->Q (.ref l) H'):rm K vs H Q E_
inductive uo(K:aW)(A:Ad)(vs:List V)(H:Hp)(Q:VK)(E:XK):Prop
 |mk (a:Addr) (v:V) (cs:List Rat) (e:Rat) (k:Nat) (D:Int) (h0_:vs=[.ref a,v]) (h1_:iE K H a cs) (h2_:ip K H v e) (h3_:Ob k D (e::cs)) (h4_:k<=2500) (h5_:(jv A cs e=none ->∀w g H',iu H H' ->ip K H' w g ->Lr.lz cs e g ->Lr.Ov (840*D) (840*2^k) g ->Q w H')) (h6_:∀c,jv A cs e=some c ->∀H',iu H H' ->E (.ref c) none H'):uo K A vs H Q E
inductive xg(K:aW)(A:Ad)(vs:List V)(H:Hp)(Q:VK)(E:XK):Prop
 |mk (a:Addr) (v:V) (cs:List Rat) (e:Rat) (k:Nat) (D:Int) (h0_:vs=[.ref a,v]) (h1_:iE K H a cs) (h2_:ip K H v e) (h3_:Ob k D (e::cs)) (h4_:k<=2490) (h5_:(jv A cs e=none ->∀w g H',iu H H' ->ip K H' w g ->Lr.lz cs (Lr.sm cs - e) g ->Lr.Ov (840*D) (840*2^(k+4)) g ->Q w H')) (h6_:∀c,jv A cs e=some c ->∀H',iu H H' ->E (.ref c) none H'):xg K A vs H Q E
inductive uf(K:aW)(due:List Rat ->Rat ->Option Addr)(R:List Rat ->Rat ->List Rat ->Prop)(vs:List V)(H:Hp)(Q:VK)(E:XK):Prop
 |mk (a:Addr) (v:V) (cs:List Rat) (e:Rat) (k:Nat) (D:Int) (h0_:vs=[.ref a,v]) (h1_:iE K H a cs) (h2_:ip K H v e) (h3_:Ob k D (e::cs)) (h4_:k<=2400) (h5_:(due cs e=none ->∀l ps H',iu H H' ->H l=none ->iE K H' l ps ->R cs e ps ->(∃D',Ob (2*k+20) D' ps) ->Q (.ref l) H')) (h6_:∀c,due cs e=some c ->∀H',iu H H' ->E (.ref c) none H'):uf K due R vs H Q E
def zI(cs:List Rat)(e:Rat)(ps:List Rat):Prop:=ps=cs.map fun c=>if Lr.sm cs=0 then 0 else c*(e/Lr.sm cs)
def MB(cs:List Rat)(e:Rat)(ps:List Rat):Prop:=∃g,Lr.lz cs e g/\ ps=cs.map (Lr.mn · g)
def Lv(cs:List Rat)(e:Rat)(ps:List Rat):Prop:=∃g,Lr.lz cs (Lr.sm cs - e) g/\ ps=cs.map fun c=>c - Lr.mn c g
def Kg(cs:List Rat)(e:Rat)(ps:List Rat):Prop:=(e<=Lr.sm cs - e/\ ∃g,Lr.lz (cs.map (· *Lr.rt 1 2)) e g/\ ps=cs.map fun c=>Lr.mn (c*Lr.rt 1 2) g)∨
 (Lr.sm cs - e<e/\ ∃g,Lr.lz (cs.map (· *Lr.rt 1 2)) (Lr.sm cs - e) g/\ ps=cs.map fun c=>c - Lr.mn (c*Lr.rt 1 2) g)
abbrev xB(K:aW)(A:Ad):Sp:=uf K (jv A) zI
inductive rf(K:aW)(A:Ad)(vs:List V)(H:Hp)(Q:VK)(E:XK):Prop
 |mk (a:Addr) (v:V) (cs:List Rat) (e:Rat) (k:Nat) (D:Int) (h0_:vs=[.ref a,v]) (h1_:iE K H a cs) (h2_:ip K H v e) (h3_:Ob k D (e::cs)) (h4_:k<=2410) (h5_:(jv A cs e=none ->∀l ps H',iu H H' ->H l=none ->iE K H' l ps ->MB cs e ps ->Ob (k+10) (840*D) ps ->Q (.ref l) H')) (h6_:∀c,jv A cs e=some c ->∀H',iu H H' ->E (.ref c) none H'):rf K A vs H Q E
abbrev xD(K:aW)(A:Ad):Sp:=uf K (jv A) Lv
abbrev xG(K:aW)(A:Ad):Sp:=uf K (jv A) Kg
def word:Lr.Rl ->Str
 | .sh=>tx [115,104,97,114,101,115]
 | .ga=>tx [103,97,105,110,115]
 | .lo=>tx [108,111,115,115,101,115]
 | .ha=>tx [104,97,108,118,101,115]
 | .tu=>tx [116,117,114,110,115]
theorem lR{b ρ':Lr.Rl}(h:word b=word ρ'):b=ρ':=by
 cases b<;>cases ρ'<;>first|rfl|exact absurd h (by decide+kernel)
def qJ:List V:=[.str (tx [115,104,97,114,101,115]),.str (tx [103,97,105,110,115]),.str (tx [108,111,115,115,101,115]),.str (tx [104,97,108,118,101,115]),.str (tx [116,117,114,110,115])]
theorem Ix(b:Lr.Rl):inV (.str (word b)) qJ=true:=by cases b<;>decide+kernel
theorem IA{s:Str}(h:inV (.str s) qJ=true):∃f,s=word f:=by
 obtain⟨y,b,e⟩:=er.mp h
 unfold qJ at b
 simp only[bw,cU,or_false] at b
 rcases b with rfl|rfl|rfl|rfl|rfl
 ·exact⟨.sh,(eq_of_beq e).symm⟩
 ·exact⟨.ga,(eq_of_beq e).symm⟩
 ·exact⟨.lo,(eq_of_beq e).symm⟩
 ·exact⟨.ha,(eq_of_beq e).symm⟩
 ·exact⟨.tu,(eq_of_beq e).symm⟩
theorem brB{b:Bool}{A B:Prop}(h1:b=true ->A)(f:b=false ->B):if b=true then A else B:=by
 cases b with
 |true=>rw[if_pos rfl];exact h1 rfl
 |false=>rw[if_neg (by decide)];exact f rfl
inductive oX(A:Ad)(vs:List V)(H:Hp)(Q:VK)(E:XK):Prop
 |mk (s:Str) (h0_:vs=[.str s]) (h1_:((∃ρ,s=word ρ) ->Q .non H)) (h2_:((∀ρ,s≠word ρ) ->E (.ref A.aNoRule) none H)):oX A vs H Q E
inductive qa(K:aW)(A:Ad)(vs:List V)(H:Hp)(Q:VK)(E:XK):Prop
 |mk (ρ:Lr.Rl) (a:Addr) (v:V) (cs:List Rat) (e:Rat) (k:Nat) (D:Int) (h0_:vs=[.str (word ρ),.ref a,v]) (h1_:okR ρ) (h2_:iE K H a cs) (h3_:ip K H v e) (h4_:Ob k D (e::cs)) (h5_:k<=2400) (h6_:(jv A cs e=none ->∀l ps H',iu H H' ->H l=none ->iE K H' l ps ->Lr.RlR ρ cs e ps ->(∃D',Ob (2*k+40) D' ps) ->Q (.ref l) H')) (h7_:∀c,jv A cs e=some c ->∀H',iu H H' ->E (.ref c) none H'):qa K A vs H Q E
inductive pS(A:Ad)(vs:List V)(H:Hp)(Q:VK)(E:XK):Prop
 |mk (s:Str) (h0_:vs=[.str s]) (h1_:((∃ρ,ρ≠Lr.Rl.tu/\ s=word ρ) ->Q .non H)) (h2_:((∀ρ,ρ≠Lr.Rl.tu ->s≠word ρ) ->E (.ref A.aNoRule) none H)):pS A vs H Q E
abbrev Est(cs:List Rat)(t:Rat):Rat:=Lr.sm (cs.map (Lr.mn · t))
inductive yP(K:aW)(vs:List V)(H:Hp)(Q:VK)(E_:XK):Prop
 |mk (a:Addr) (cs:List Rat) (k:Nat) (D:Int) (h0_:vs=[.ref a]) (h1_:iE K H a cs) (h2_:Ob k D cs) (h3_:k<=600) (h4_:cs.length<=8) (h5_:(∀c∈cs,0<=c)) (h6_:∀l ls H',iu H H' ->H l=none ->iE K H' l (ls.map (Est cs)) ->Lr.Lvl cs ls ->ls.length<=9 ->Q (.ref l) H'):yP K vs H Q E_
inductive vA(K:aW)(vs:List V)(H:Hp)(Q:VK)(E_:XK):Prop
 |mk (v:V) (a:Addr) (T:Rat) (es:List Rat) (m n:Nat) (h0_:vs=[v,.ref a]) (h1_:ip K H v T) (h2_:iE K H a es) (h3_:Sz m T) (h4_:(∀e∈es,Sz n e)) (h5_:m+n<=9000) (h6_:es.length<=100) (h7_:∀l H',iu H H' ->H l=none ->iE K H' l (es.reverse.map (T - ·)) ->Q (.ref l) H'):vA K vs H Q E_
def kN(cs:List Rat)(ρ:Lr.Rl)(Fs:List (Rat ->Rat)):Prop:=(Lr.sm cs=0/\ Fs=[fun _=>0])∨(Lr.sm cs≠0/\ ∃ls,Lr.Lvl cs ls/\ ls.length<=9/\ Fs=Lr.kn ls ρ)
abbrev smF(cs:List Rat)(F:Rat ->Rat):Rat:=Lr.sm (cs.map F)
inductive za(K:aW)(vs:List V)(H:Hp)(Q:VK)(E_:XK):Prop
 |mk (ρ:Lr.Rl) (a:Addr) (cs:List Rat) (k:Nat) (D:Int) (h0_:vs=[.str (word ρ),.ref a]) (h1_:ρ≠.tu) (h2_:iE K H a cs) (h3_:Ob k D cs) (h4_:k<=600) (h5_:cs.length<=8) (h6_:(∀c∈cs,0<=c)) (h7_:∀l Fs H',iu H H' ->H l=none ->iE K H' l (Fs.map (smF cs)) ->kN cs ρ Fs ->Q (.ref l) H'):za K vs H Q E_
def KnV(K:aW)(H0 H:Hp)(cs:List Rat)(v:V)(F:Rat ->Rat):Prop:=∃(t p:Addr) (w:V),v=.ref t/\ H t=some (.tup [w,.ref p])/\ H0 p=none/\ ip K H w (smF cs F)/\ iE K H p (cs.map F)
theorem KnV.same{K:aW}{g H l:Hp}{cs:List Rat}{v:V}{F:Rat ->Rat}(s:iu H l)(h:KnV K g H cs v F):KnV K g l cs v F:=let⟨t,p,w,e,a,f,b,c⟩:=h;⟨t,p,w,e,s _ _ a,f,b.same s,c.same s⟩
structure xr(K:aW)(H0 H:Hp)(cs:List Rat)(vs:List V)(Fs:List (Rat ->Rat)):Prop where
 len:vs.length=Fs.length
 at_:∀(j:Nat) v F,vs[j]? =some v ->Fs[j]? =some F ->KnV K H0 H cs v F
inductive wX(K:aW)(A:Ad)(vs:List V)(H:Hp)(Q:VK)(E:XK):Prop
 |mk (s:Str) (a:Addr) (cs:List Rat) (k:Nat) (D:Int) (h0_:vs=[.str s,.ref a]) (h1_:iE K H a cs) (h2_:Ob k D cs) (h3_:k<=600) (h4_:(∀ρ,ρ≠Lr.Rl.tu ->s=word ρ ->lF A cs=none ->∀l us Fs H',iu H H' ->H l=none ->H' l=some (.lst us) ->xr K H H' cs us Fs ->kN cs ρ Fs ->Q (.ref l) H')) (h5_:((∀ρ,ρ≠Lr.Rl.tu ->s≠word ρ) ->E (.ref A.aNoRule) none H)) (h6_:∀c,(∃ρ,ρ≠Lr.Rl.tu/\ s=word ρ) ->lF A cs=some c ->E (.ref c) none H):wX K A vs H Q E
inductive vB(K:aW)(A:Ad)(vs:List V)(H:Hp)(Q:VK)(E:XK):Prop
 |mk (a:Addr) (i:Int) (v:V) (cs:List Rat) (x:Rat) (h0_:vs=[.ref a,.int i,v]) (h1_:iE K H a cs) (h2_:ip K H v x) (h3_:(∀c∈cs,Sz 9000 c)) (h4_:Sz 9000 x) (h5_:((i<0∨(cs.length:Int)<=i) ->E (.ref A.aNoClaimer) none H)) (h6_:∀(j:Nat) c,i=(j:Int) ->cs[j]? =some c ->((x<0∨c<x) ->E (.ref A.aNoAmount) none H)/\ (0<=x ->x<=c ->Q .non H)):vB K A vs H Q E
inductive wZ(K:aW)(vs:List V)(H:Hp)(Q:VK)(E_:XK):Prop
 |mk (t u p q:Addr) (j:Nat) (v w1 w2:V) (e1 e2 a b x:Rat) (ps qs:List Rat) (h0_:vs=[.ref t,.ref u,.int (j:Int),v]) (h1_:H t=some (.tup [w1,.ref p])) (h2_:H u=some (.tup [w2,.ref q])) (h3_:ip K H w1 e1) (h4_:ip K H w2 e2) (h5_:iE K H p ps) (h6_:iE K H q qs) (h7_:ps[j]? =some a) (h8_:qs[j]? =some b) (h9_:ip K H v x) (h10_:Sz 800 e1) (h11_:Sz 800 e2) (h12_:Sz 800 a) (h13_:Sz 800 b) (h14_:Sz 800 x) (h15_:b - a≠0) (h16_:∀z H',New H z (pr (e1+(x - a)*((e2 - e1)/(b - a)))) H'∨(iu H H'/\ ip K H' (.ref z) (e1+(x - a)*((e2 - e1)/(b - a)))) ->Q (.ref z) H'):wZ K vs H Q E_
def kO(ρ:Lr.Rl)(cs:List Rat)(c x:Rat):Rat:=if x=0 then 0 else smF cs (Lr.need ρ c x)
inductive sX(K:aW)(A:Ad)(vs:List V)(H:Hp)(Q:VK)(E:XK):Prop
 |mk (s:Str) (a:Addr) (i:Int) (v:V) (cs:List Rat) (x:Rat) (k:Nat) (D:Int) (h0_:vs=[.str s,.ref a,.int i,v]) (h1_:iE K H a cs) (h2_:ip K H v x) (h3_:Ob k D cs) (h4_:k<=600) (h5_:Sz 800 x) (h6_:(∀ρ (j:Nat) c,ρ≠Lr.Rl.tu ->s=word ρ ->lF A cs=none ->i=(j:Int) ->cs[j]? =some c ->0<=x ->x<=c ->∀w H',iu H H' ->ip K H' w (kO ρ cs c x) ->Q w H')) (h7_:((∀ρ,ρ≠Lr.Rl.tu ->s≠word ρ) ->E (.ref A.aNoRule) none H)) (h8_:(∀c,(∃ρ,ρ≠Lr.Rl.tu/\ s=word ρ) ->lF A cs=some c ->E (.ref c) none H)) (h9_:((∃ρ,ρ≠Lr.Rl.tu/\ s=word ρ) ->lF A cs=none ->(i<0∨(cs.length:Int)<=i) ->∀H',iu H H' ->E (.ref A.aNoClaimer) none H')) (h10_:∀(j:Nat) c,(∃ρ,ρ≠Lr.Rl.tu/\ s=word ρ) ->lF A cs=none ->i=(j:Int) ->cs[j]? =some c ->(x<0∨c<x) ->∀H',iu H H' ->E (.ref A.aNoAmount) none H'):sX K A vs H Q E
theorem CI{D:Int}{M:Nat}{x:Rat}(f:0<D)(h:Lr.Ov D M x):Lr.Ov (2*D) M (x*Lr.rt 1 2):=by
 obtain⟨n,rfl,b⟩:=h
 refine⟨n,?_,b⟩
 rw[Lr.EE (by omega) (by decide),Int.mul_one,dW]
theorem pq{D:Int}{M:Nat}{x:Rat}(b:0<D)(h:Lr.Ov D M x):Lr.Ov (2*D) (2*M) x:=by
 obtain⟨n,rfl,f⟩:=h
 exact⟨2*n,by rw[Lr.zr b (show(0:Int)<2 by decide),dW D 2],by omega⟩
theorem Ew{cs b:List Rat}{k:Nat}{D:Int}(f:Ob k D cs)(L:Lr.Lvl cs b){t:Rat}(g:t∈b):Lr.Ov D (2^k) t:=by
 rcases(L.mem t).mp g with rfl|h
 ·exact Lr.Ov.zero f.pos
 ·exact f.ov t h
theorem kN.ov{cs:List Rat}{B:Lr.Rl}{C:List (Rat ->Rat)}{k:Nat}{D:Int}(h:kN cs B C)(A:Ob k D cs){F:Rat ->Rat}(b:F∈C){c:Rat}(E:c∈cs):Lr.Ov (2*D) (2^(k+2)) (F c):=by
 have w:=A.pos
 have o:0<2*D:=by omega
 have G:(2:Nat)^(k+2)=4*2^k:=by rw[di,dr]
 have l:=A.ov c E
 rcases h with⟨_,rfl⟩|⟨_,z,L,_,rfl⟩
 ·rw[bC.mp b]
  exact Lr.Ov.zero o
 have g:∀t∈z,Lr.Ov D (2^k) (Lr.mn c t):=fun t f=>l.mn (Ew A L f)
 cases B with
 |tu=>cases b
 | sh=>
  rcases bw.mp b with rfl|b
  ·exact Lr.Ov.zero o
  ·rw[bC.mp b]
   exact(pq w l).mono (by omega)
 |ga=>
  obtain⟨t,f,rfl⟩:=bz.mp b
  exact(pq w (g t f)).mono (by omega)
 |lo=>
  obtain⟨t,f,rfl⟩:=bz.mp b
  exact(pq w (l.sub w (g t (fT.mp f)))).mono (by omega)
 | ha=>
  rcases bS.mp b with b|b
  ·obtain⟨t,f,rfl⟩:=bz.mp b
   show Lr.Ov (2*D) _ (Lr.mn (c*Lr.rt 1 2) (t*Lr.rt 1 2))
   rw[Lr.lq]
   exact(CI w (g t ((fj z) f))).mono (by omega)
  ·obtain⟨t,f,rfl⟩:=bz.mp b
   show Lr.Ov (2*D) _ (c - Lr.mn (c*Lr.rt 1 2) (t*Lr.rt 1 2))
   rw[Lr.lq]
   exact((pq w l).sub o (CI w (g t ((fj z) (fT.mp f))))).mono (by omega)
theorem kN.ob{cs:List Rat}{o:Lr.Rl}{l:List (Rat ->Rat)}{k:Nat}{D:Int}(h:kN cs o l)(g:Ob k D cs)(z:cs.length<=8){F:Rat ->Rat}(C:F∈l):Ob (k+5) (2*D) (smF cs F::(cs.map F++cs)):=by
 have A:=g.pos
 have f:0<2*D:=by omega
 have B:(2:Nat)^(k+5)=32*2^k:=by rw[di,dr]
 have E:(2:Nat)^(k+2)=4*2^k:=by rw[di,dr]
 have one:∀y∈cs.map F,Lr.Ov (2*D) (2^(k+2)) y:=fun y b=>by
  obtain⟨c,G,rfl⟩:=bz.mp b
  exact h.ov g C G
 have w:Bd (k+1) (2*D):=by
  have:=Bd.mul (Bd.of_lt (n:=2) (show(2:Int).natAbs<2^2 by decide)) g.bd (bh _)
  have h1:D.natAbs<2^k:=intBits_le_iff.mp g.bd
  refine Bd.of_lt ?_
  rw[dP,fb]
  show 2*D.natAbs<_
  omega
 refine⟨f,w.mono (by omega),fun y b=>?_⟩
 rcases bw.mp b with rfl|b
 ·refine(Lr.Ov.sm f one).mono ?_
  rw[aX,B,E]
  have:cs.length*(4*2^k)<=8*(4*2^k):=dn _ z
  omega
 rcases bS.mp b with b|b
 ·exact(one y b).mono (by omega)
 ·exact(pq A (g.ov y b)).mono (by omega)
theorem kN.af{cs:List Rat}{f:Lr.Rl}{l:List (Rat ->Rat)}(h:kN cs f l)(g:f≠.tu)(nn:∀c∈cs,0<=c){F:Rat ->Rat}(o:F∈l):∃G,Lr.AF f G/\ cs.map F=cs.map G:=by
 rcases h with⟨w,rfl⟩|⟨_,A,L,_,rfl⟩
 ·rw[bC.mp o]
  have z:=Lr.uG nn w
  cases f with
  |tu=>exact absurd rfl g
  |sh=>exact⟨fun c=>c*0,⟨0,cD,by decide,rfl⟩,cn fun c b=>by grind⟩
  |ga=>exact⟨fun c=>Lr.mn c 0,⟨0,cD,rfl⟩,cn fun c b=>by rw[z c b];exact(Lr.jN cD).symm⟩
  |lo=>exact⟨fun c=>c - Lr.mn c 0,⟨0,cD,rfl⟩,cn fun c b=>by rw[z c b,Lr.jN cD];grind⟩
  |ha=>exact⟨fun c=>Lr.mn (c*Lr.rt 1 2) 0,⟨0,cD,.inl rfl⟩,cn fun c b=>by rw[z c b,show(0:Rat)*Lr.rt 1 2=0 by grind];exact(Lr.jN cD).symm⟩
 ·exact⟨F,Lr.Nk L nn o,rfl⟩
theorem kN.head{cs:List Rat}{g:Lr.Rl}{f:List (Rat ->Rat)}(h:kN cs g f)(b:g≠.tu)(nn:∀c∈cs,0<=c):∃F,f[0]? =some F/\ ∀c∈cs,F c=0:=by
 rcases h with⟨l,rfl⟩|⟨l,o,L,_,rfl⟩
 ·exact⟨_,rfl,fun _ _=>rfl⟩
 ·exact Lr.IH L nn l b
theorem kN.last{cs:List Rat}{l:Lr.Rl}{b:List (Rat ->Rat)}(h:kN cs l b)(f:l≠.tu)(nn:∀c∈cs,0<=c):∃F,b[b.length - 1]? =some F/\ ∀c∈cs,F c=c:=by
 rcases h with⟨g,rfl⟩|⟨g,w,L,_,rfl⟩
 ·exact⟨_,rfl,fun c o=>(Lr.uG nn g c o).symm⟩
 ·exact Lr.JE L nn g f
theorem kN.seg{cs:List Rat}{f:Lr.Rl}{l:List (Rat ->Rat)}(h:kN cs f l)(g:f≠.tu)(nn:∀c∈cs,0<=c):Lr.kb (Lr.Seg f cs) l:=by
 rcases h with⟨o,rfl⟩|⟨o,z,L,_,rfl⟩
 ·intro j a b ha w
  exact absurd (Lr.jz w) (by simp)
 ·exact L.seg nn o g
theorem kN.len{cs:List Rat}{f:Lr.Rl}{b:List (Rat ->Rat)}(h:kN cs f b):b.length<=18:=by
 rcases h with⟨g,rfl⟩|⟨g,l,L,o,rfl⟩
 ·show 1<=18
  omega
 ·cases f<;>simp[Lr.kn]<;>omega
theorem JI{n D m:Int}(b:0<D)(f:0<m):Lr.rt n D=Lr.rt (n*m) (D*m):=by
 rw[dW n m]
 exact Lr.zr b f
theorem EG{D b:Int}{M g:Nat}(o:0<D)(f:0<b)(h':b.natAbs<=g){x:Rat}(h:Lr.Ov D M x):Lr.Ov (D*b) (M*g) x:=by
 obtain⟨n,rfl,l⟩:=h
 exact⟨n*b,JI o f,by rw[dP];exact fH l h'⟩
theorem Ob.join{k k':Nat}{D f:Int}{xs ys:List Rat}(h:Ob k D xs)(h':Ob k' f ys):Ob (k+k') (D*f) (xs++ys):=by
 have g:D.natAbs<=2^k:=db (intBits_le_iff.mp h.bd)
 have l:f.natAbs<=2^k':=db (intBits_le_iff.mp h'.bd)
 refine⟨dC h.pos h'.pos,Bd.mul h.bd h'.bd (bh _),fun x b=>?_⟩
 rcases bS.mp b with b|b
 ·rw[di]
  exact EG h.pos h'.pos l (h.ov x b)
 ·rw[di,dr,dW]
  exact EG h'.pos h.pos g (h'.ov x b)
abbrev CQ(ρ:Lr.Rl)(cs:List Rat)(c x:Rat):Rat:=kO ρ cs c x
theorem brF{A B:Prop}(h:B):if false=true then A else B:=by
 rw[if_neg (by decide)]
 exact h
open Ld
def oI:Sp:=fun _ _ _ _=>False
inductive jT(K:aW)(vs:List V)(H:Hp)(Q:VK)(E_:XK):Prop
 |mk (v:V) (x:Rat) (h0_:vs=[v]) (h1_:ip K H v x) (h2_:Sz 1900 x) (h3_:Q (.str (tx (wrR x))) H):jT K vs H Q E_
inductive wn(A:Ad)(vs:List V)(H:Hp)(Q:VK)(E:XK):Prop
 |mk (l:List Nat) (h0_:vs=[.str (tx l)]) (h1_:l.length<=1000) (h2_:(∀n,Lt.fgs l=some n ->Q (.int n) H)) (h3_:(Lt.fgs l=none ->E (.ref A.aNoText) none H)):wn A vs H Q E
inductive zi(A:Ad)(vs:List V)(H:Hp)(Q:VK)(E:XK):Prop
 |mk (l:List Nat) (h0_:vs=[.str (tx l)]) (h1_:l.length<=1000) (h2_:(∀n,Lt.lY l=some n ->Q (.int n) H)) (h3_:(Lt.lY l=none ->E (.ref A.aNoText) none H)):zi A vs H Q E
inductive vt(K:aW)(A:Ad)(vs:List V)(H:Hp)(Q:VK)(E:XK):Prop
 |mk (l:List Nat) (h0_:vs=[.str (tx l)]) (h1_:l.length<=1000) (h2_:(∀x:Rat,Lt.my l=some (x.num,(x.den:Int)) ->∀v H',iu H H' ->ip K H' v x ->Q v H')) (h3_:(Lt.my l=none ->∀H',iu H H' ->E (.ref A.aNoText) none H')):vt K A vs H Q E
theorem wK{p:Int}(h:p.natAbs<10^60):Bd 200 p:=Bd.of_lt (bp h (by decide))
theorem Ii{c:Nat}:c∈[48,49,50,51,52,53,54,55,56,57]↔48<=c/\ c<=57:=by simp;omega
theorem Fp{p:Int}:Lt.wr p 1=Lt.sg p++Lt.fg p.natAbs:=by unfold Lt.wr;rw[if_pos rfl,cT]
theorem DH{p q:Int}(h:q≠1)(b:0<q):Lt.wr p q=((Lt.sg p++Lt.fg p.natAbs)++[47])++(Lt.sg q++Lt.fg q.natAbs):=by
 unfold Lt.wr
 rw[if_neg h,show Lt.sg q=[] from if_neg (by omega)]
 simp
theorem tU{p:Int}(h:Bd 1900 p):(Lt.sg p++Lt.fg p.natAbs).length<=601:=by
 have h1:(Lt.fg p.natAbs).length<=600:=Lt.om (k:=599) (bp (PySem.intBits_le_iff.mp h) (by decide+kernel))
 rw[bf]
 unfold Lt.sg
 split<;>simp<;>omega
inductive vi(vs:List V)(H:Hp)(Q:VK)(E_:XK):Prop
 |mk (l:List Nat) (h0_:vs=[.str (tx l)]) (h1_:l.length<=100000) (h2_:∀d H',iu H H' ->H d=none ->H' d=some (.lst ((ji l).map fun u=>.str (tx u))) ->Q (.ref d) H'):vi vs H Q E_
abbrev Fd:List Nat:=[115,104,97,114,101]
abbrev Js:List Nat:=[116,117,114,110,101,100]
abbrev NR:List Nat:=[116,119,111]
abbrev rY:List Nat:=[110,101,101,100]
def jb:Lr.Rl ->List Nat
 | .sh=>[115,104,97,114,101,115]
 | .ga=>[103,97,105,110,115]
 | .lo=>[108,111,115,115,101,115]
 | .ha=>[104,97,108,118,101,115]
 | .tu=>[116,117,114,110,115]
theorem nK(b:Lr.Rl):word b=tx (jb b):=by cases b<;>rfl
theorem vz(b:Lr.Rl):(32∉jb b/\ jb b≠[])/\ (jb b).length<=6:=by cases b<;>decide
inductive Cmd where
 |claim (u:List Nat) (q:Rat)
 |more (u:List Nat) (q:Rat)
 |drop (u:List Nat)
 |part (u v:List Nat) (q:Rat)
 |join (u v:List Nat)
 |estate (q:Rat)
 |grow (q:Rat)
 |leave (u:List Nat) (ρ:Lr.Rl)
 |show_
 |share (ρ:Lr.Rl)
 |turned (ρ:Lr.Rl)
 |two (ρ:Lr.Rl) (u v:List Nat)
 |need (ρ:Lr.Rl) (u:List Nat) (q:Rat)
def Cmd.tl:Cmd ->Tl
 | .claim u q=>{line:=sL,new:=some u,r:=some q}
 | .more u q=>{line:=HD,name:=some u,r:=some q}
 | .drop u=>{line:=HY,name:=some u}
 | .part u v q=>{line:=yx,name:=some u,new:=some v,r:=some q}
 | .join u v=>{line:=HM,name:=some u,other:=some v}
 | .estate q=>{line:=lj,r:=some q}
 | .grow q=>{line:=Mg,r:=some q}
 | .leave u ρ=>{line:=DX,name:=some u,rule:=some (jb ρ)}
 | .show_=>{line:=Nc}
 | .share ρ=>{line:=Fd,rule:=some (jb ρ)}
 | .turned ρ=>{line:=Js,rule:=some (jb ρ)}
 | .two ρ u v=>{line:=NR,rule:=some (jb ρ),name:=some u,other:=some v}
 | .need ρ u q=>{line:=rY,rule:=some (jb ρ),name:=some u,r:=some q}
def Cmd.ws:Cmd ->List (List Nat)
 | .claim u q=>[u,wrR q]
 | .more u q=>[u,wrR q]
 | .drop u=>[u]
 | .part u v q=>[u,v,wrR q]
 | .join u v=>[u,v]
 | .estate q=>[wrR q]
 | .grow q=>[wrR q]
 | .leave u ρ=>[u,jb ρ]
 | .show_=>[]
 | .share ρ=>[jb ρ]
 | .turned ρ=>[jb ρ]
 | .two ρ u v=>[jb ρ,u,v]
 | .need ρ u q=>[jb ρ,u,wrR q]
def Cmd.form:Cmd ->List Str
 | .claim _ _=>[Fw,kR]
 | .more _ _=>[nR,kR]
 | .drop _=>[nR]
 | .part _ _ _=>[nR,Fw,kR]
 | .join _ _=>[nR,qL]
 | .estate _=>[kR]
 | .grow _=>[kR]
 | .leave _ _=>[nR,tR]
 | .show_=>[]
 | .share _=>[tR]
 | .turned _=>[tR]
 | .two _ _ _=>[tR,nR,qL]
 | .need _ _ _=>[tR,nR,kR]
theorem jH(c:Cmd):c.form.length<=3:=by cases c<;>(dsimp only[Cmd.form,eX];omega)
abbrev clm(rows:List Rw):List Rat:=rows.map (·.2)
def Is(rows:List Rw)(u:List Nat):Prop:=∃c,iO rows u=some c
def Cmd.pre(e:Rat)(rows:List Rw):Cmd ->Prop
 | .claim u q=>jD u/\ iO rows u=none/\ rows.length<8/\ Rd q
 | .more u q=>Is rows u/\ Rd q
 | .drop u=>Is rows u
 | .part u v q=>jD v/\ iO rows v=none/\ rows.length<8/\ Rd q/\ ∃c,iO rows u=some c/\ q<=c
 | .join u v=>u≠v/\ Is rows u/\ Is rows v
 | .estate q=>Rd q
 | .grow q=>Rd q
 | .leave u ρ=>okL/\ okR ρ/\ e<=Lr.sm (clm rows)/\ Is rows u
 | .show_=>True
 | .share ρ=>okR ρ/\ e<=Lr.sm (clm rows)
 | .turned ρ=>okT/\ okR ρ/\ e<=Lr.sm (clm rows)
 | .two ρ u v=>okT/\ okR ρ/\ e<=Lr.sm (clm rows)/\ u≠v/\ Is rows u/\ Is rows v
 | .need ρ u q=>okN/\ ρ≠.tu/\ Rd q/\ ∃c,iO rows u=some c/\ q<=c
def zipR(rows:List Rw)(ps:List Rat):List Rw:=dZ (fun r p=>(r.1,p)) rows ps
theorem nJ:∀{rows:List Rw} {ps:List Rat},ps.length=rows.length ->(zipR rows ps).map (·.1)=rows.map (·.1)
 |[],[],_=>rfl
 |r::rows,p::ps,h=>by
  show r.1::(zipR rows ps).map (·.1)=r.1::rows.map (·.1)
  rw[nJ (Nat.succ.inj h)]
theorem rO:∀{rows:List Rw} {ps:List Rat},ps.length=rows.length ->(zipR rows ps).map (·.2)=ps
 |[],[],_=>rfl
 |r::rows,p::ps,h=>by
  show p::(zipR rows ps).map (·.2)=p::ps
  rw[rO (Nat.succ.inj h)]
def Cmd.post(k:Nat)(e:Rat)(rows:List Rw):Cmd ->List Nat ->Rat ->List Rw ->Prop
 | .claim u q,ans,e',rows'=>ans=wOk/\ e'=e/\ rows'=lU rows u q
 | .more u q,ans,e',rows'=>ans=wOk/\ e'=e/\ ∃c,iO rows u=some c/\ rows'=lU rows u (c+q)
 | .drop u,ans,e',rows'=>ans=wOk/\ e'=e/\ rows'=kP rows u
 | .part u v q,ans,e',rows'=>ans=wOk/\ e'=e/\ ∃c,iO rows u=some c/\ rows'=lU (lU rows u (c - q)) v q
 | .join u v,ans,e',rows'=>ans=wOk/\ e'=e/\ ∃c d,iO rows u=some c/\ iO rows v=some d/\ rows'=lU (kP rows v) u (c+d)
 | .estate q,ans,e',rows'=>ans=wOk/\ e'=q/\ rows'=rows
 | .grow q,ans,e',rows'=>ans=wOk/\ e'=e+q/\ rows'=rows
 | .leave u ρ,ans,e',rows'=>rows'=kP rows u/\ ∃(c:Rat) (ps:List Rat) (j:Nat) (p:Rat),rows[j]? =some (u,c)/\ Lr.RlR ρ (clm rows) e ps/\ ps[j]? =some p/\ ans=wrR p/\ e'=e - p
 | .show_,ans,e',rows'=>ans=nP ((lj,e)::rows)/\ e'=e/\ rows'=rows
 | .share ρ,ans,e',rows'=>e'=e/\ rows'=rows/\ ∃(ps:List Rat) (D:Int),Lr.RlR ρ (clm rows) e ps/\ Ob (2*k+40) D ps/\ ans=nP (zipR rows ps)
 | .turned ρ,ans,e',rows'=>e'=e/\ rows'=rows/\ ∃ps:List Rat,Lr.RlR ρ (clm rows) (Lr.sm (clm rows) - e) ps/\ ans=nP (zipR rows (dZ (· - ·) (clm rows) ps))
 | .two ρ u v,ans,e',rows'=>e'=e/\ rows'=rows/\ ∃(c d:Rat) (ps:List Rat) (i j:Nat) (p q x y:Rat),rows[i]? =some (u,c)/\ rows[j]? =some (v,d)/\ Lr.RlR ρ (clm rows) e ps/\ ps[i]? =some p/\ ps[j]? =some q/\ Lr.RlR ρ [c,d] (p+q) [x,y]/\ Sz 1900 x/\ Sz 1900 y/\ ans=wrR x++[32]++wrR y
 | .need ρ u q,ans,e',rows'=>e'=e/\ rows'=rows/\ ∃c,iO rows u=some c/\ ans=wrR (CQ ρ (clm rows) c q)
structure OkD(k:Nat)(e:Rat)(rows:List Rw):Prop where
 len:rows.length<=8
 nd:(rows.map (·.1)).Nodup
 nm:∀r∈rows,jD r.1
 c0:∀r∈rows,0<=r.2
 e0:0<=e
 ob:∃D,Ob k D (e::clm rows)
theorem OkD.nn{k:Nat}{e:Rat}{rows:List Rw}(h:OkD k e rows):∀c∈clm rows,0<=c:=fun c f=>by
 obtain⟨r,b,rfl⟩:=bz.mp f
 exact h.c0 r b
theorem OkD.sz{k m:Nat}{e:Rat}{rows:List Rw}(h:OkD k e rows)(l:k+1<=m){r:Rw}(b:r∈rows):Sz m r.2:=by
 obtain⟨D,f⟩:=h.ob
 exact f.sz l (bc _ (bz.mpr ⟨r,b,rfl⟩))
theorem OkD.se{k m:Nat}{e:Rat}{rows:List Rw}(h:OkD k e rows)(l:k+1<=m):Sz m e:=by
 obtain⟨D,b⟩:=h.ob
 exact b.sz l bj
theorem oV{rows:List Rw}{u:List Nat}{c:Rat}(h:iO rows u=some c):(u,c)∈rows:=by
 obtain⟨j,b,_⟩:=sV h
 exact bo b
def nN(c:Cmd):List (Key × V):=kL (lX c.form (c.ws.map fun u=>.str (tx u)) []) (.inr yo) (.str (tx c.tl.line))
theorem Fy{w:World}{K:aW}{g:Str ->Option Value}{f:AdD}(b:CG w K g f){e:Rat}{rows:List Rw}(c:Cmd)(h:c.pre e rows):
  ∃r xs,wW K w f.oFORMS xs/\ uk xs (tx c.tl.line)=some r/\ KT K r (c.form.map V.str)/\ c.ws.length=c.form.length/\ c.form.length<=3/\
   (iP (lX c.form (c.ws.map fun u=>.str (tx u)) []) (.inr qL)=none∨∃u v,u≠v/\ iP (lX c.form (c.ws.map fun u=>.str (tx u)) []) (.inr qL)=some (.str (tx v))/\ iP (lX c.form (c.ws.map fun u=>.str (tx u)) []) (.inr nR)=some (.str (tx u))):=by
 cases c with
 |claim u x=>exact⟨_,_,b.d_FORMS,rfl,b.k0,rfl,jH _,.inl rfl⟩
 |more u x=>exact⟨_,_,b.d_FORMS,rfl,b.k1,rfl,jH _,.inl rfl⟩
 |drop u=>exact⟨_,_,b.d_FORMS,rfl,b.k2,rfl,jH _,.inl rfl⟩
 |part u v x=>exact⟨_,_,b.d_FORMS,rfl,b.k3,rfl,jH _,.inl rfl⟩
 |join u v=>exact⟨_,_,b.d_FORMS,rfl,b.k4,rfl,jH _,.inr ⟨u,v,h.1,rfl,rfl⟩⟩
 |estate x=>exact⟨_,_,b.d_FORMS,rfl,b.k5,rfl,jH _,.inl rfl⟩
 |grow x=>exact⟨_,_,b.d_FORMS,rfl,b.k6,rfl,jH _,.inl rfl⟩
 |leave u r=>exact⟨_,_,b.d_FORMS,rfl,b.k7,rfl,jH _,.inl rfl⟩
 |show_=>exact⟨_,_,b.d_FORMS,rfl,b.k8,rfl,jH _,.inl rfl⟩
 |share r=>exact⟨_,_,b.d_FORMS,rfl,b.k9,rfl,jH _,.inl rfl⟩
 |turned r=>exact⟨_,_,b.d_FORMS,rfl,b.k10,rfl,jH _,.inl rfl⟩
 |two r u v=>exact⟨_,_,b.d_FORMS,rfl,b.k11,rfl,jH _,.inr ⟨u,v,h.2.2.2.1,rfl,rfl⟩⟩
 |need r u x=>exact⟨_,_,b.d_FORMS,rfl,b.k12,rfl,jH _,.inl rfl⟩
theorem FN(x:V)(xs:List V):qi (x::xs) (some 1) none=xs:=by
 have e:HT.sIx (x::xs).length 0 (some ((1:Nat):Int))=min 1 (x::xs).length:=HT.sIx_nat _ _ _
 have b:HT.sIx (x::xs).length 0 (some 1)=1:=by
  refine Eq.trans e ?_
  rw[bE]
  omega
 have f:HT.sIx (x::xs).length (x::xs).length none=(x::xs).length:=rfl
 unfold qi
 rw[b,f]
 show List.take _ xs=xs
 exact cM (by rw[bE];omega)
inductive wI(vs:List V)(H:Hp)(Q:VK)(E_:XK):Prop
 |mk (a:Addr) (c:Cmd) (e:Rat) (rows:List Rw) (h0_:vs=[.ref a]) (h1_:H a=some (.lst ((c.tl.line::c.ws).map fun u=>.str (tx u)))) (h2_:c.pre e rows) (h3_:∀t H',iu H H' ->H t=none ->H' t=some (.dK (nN c)) ->Q (.ref t) H'):wI vs H Q E_
inductive yQ(K:aW)(vs:List V)(H:Hp)(Q:VK)(E_:XK):Prop
 |mk (t:Addr) (T:Tl) (ρ:Lr.Rl) (h0_:vs=[.ref t]) (h1_:oP K H t T) (h2_:T.rule=some (jb ρ)) (h3_:(T.line=rY ->ρ≠.tu/\ okN)) (h4_:Q .non H):yQ K vs H Q E_
inductive wD(K:aW)(vs:List V)(H:Hp)(Q:VK)(E_:XK):Prop
 |mk (l:List Nat) (c:Cmd) (e:Rat) (rows:List Rw) (h0_:vs=[.str (tx l)]) (h1_:l.length<=100000) (h2_:ji l=c.tl.line::c.ws) (h3_:c.pre e rows) (h4_:∀t H',iu H H' ->H t=none ->oP K H' t c.tl ->Q (.ref t) H'):wD K vs H Q E_
inductive tN(vs:List V)(H:Hp)(Q:VK)(E_:XK):Prop
 |mk (u:List Nat) (h0_:vs=[.str (tx u)]) (h1_:jD u) (h2_:∀H',iu H H' ->Q (.bl true) H'):tN vs H Q E_
inductive tK(K:aW)(vs:List V)(H:Hp)(Q:VK)(E_:XK):Prop
 |mk (a b:Addr) (rows:List Rw) (h0_:vs=[.ref a,.ref b]) (h1_:H a=some (.lst ((rows.map (·.1)).map fun u=>.str (tx u)))) (h2_:iE K H b (rows.map (·.2))) (h3_:rows.length<=9) (h4_:(∀r∈rows,r.1.length<=8/\ Sz 1900 r.2)) (h5_:∀H',iu H H' ->Q (.str (tx (nP rows))) H'):tK K vs H Q E_
inductive vh(A:Ad)(vs:List V)(H:Hp)(Q:VK)(E_:XK):Prop
 |mk (a dx:Addr) (h0_:vs=[.ref a]) (h1_:H a=some (.ins A.aDesk dx [])) (h2_:∀d H',(∀b u,b≠a ->H b=some u ->H' b=some u) ->H d=none ->H' a=some (.ins A.aDesk dx [(Kx,.ref A.oNOUGHT),(JP,.ref d)]) ->H' d=some (.dK []) ->Q .non H'):vh A vs H Q E_
def isA(a d:Addr)(b:Addr):Prop:=b=a∨b=d
inductive qO(K:aW)(A:Ad)(vs:List V)(H:Hp)(Q:VK)(E_:XK):Prop
 |mk (a d:Addr) (l:List Nat) (c:Cmd) (e:Rat) (rows:List Rw) (k:Nat) (h0_:vs=[.ref a,.str (tx l)]) (h1_:l.length<=100000) (h2_:ji l=c.tl.line::c.ws) (h3_:Dsk K A.aDesk H a d e rows) (h4_:c.pre e rows) (h5_:OkD k e rows) (h6_:k<=290) (h7_:∀ans e' rows' H',c.post k e rows ans e' rows' ->Ow (isA a d) H H' ->Dsk K A.aDesk H' a d e' rows' ->Q (.str (tx ans)) H'):qO K A vs H Q E_
inductive vg(K:aW)(A:Ad)(vs:List V)(H:Hp)(Q:VK)(E_:XK):Prop
 |mk (a d t:Addr) (e:Rat) (rows:List Rw) (T:Tl) (h0_:vs=[.ref a,.ref t]) (h1_:Dsk K A.aDesk H a d e rows) (h2_:oP K H t T) (h3_:(∀u,T.new=some u ->jD u/\ iO rows u=none)) (h4_:(∀u,T.name=some u ->∃c,iO rows u=some c)) (h5_:(∀u,T.other=some u ->∃c,iO rows u=some c)) (h6_:∀H',iu H H' ->Q .non H'):vg K A vs H Q E_
inductive rg(K:aW)(A:Ad)(vs:List V)(H:Hp)(Q:VK)(E_:XK):Prop
 |mk (a d t:Addr) (e:Rat) (rows:List Rw) (T:Tl) (h0_:vs=[.ref a,.ref t]) (h1_:Dsk K A.aDesk H a d e rows) (h2_:oP K H t T) (h3_:(∀x,T.r=some x ->0<=x/\ Sz 9000 x)) (h4_:(T.line=yx ->∃u c x,T.name=some u/\ iO rows u=some c/\ T.r=some x/\ x<=c/\ Sz 9000 c)) (h5_:Q .non H):rg K A vs H Q E_
inductive wU(K:aW)(A:Ad)(vs:List V)(H:Hp)(Q:VK)(E_:XK):Prop
 |mk (a d t:Addr) (e:Rat) (rows:List Rw) (T:Tl) (h0_:vs=[.ref a,.ref t]) (h1_:Dsk K A.aDesk H a d e rows) (h2_:oP K H t T) (h3_:(T.new≠none ->rows.length<8)) (h4_:Q .non H):wU K A vs H Q E_
inductive qp(K:aW)(A:Ad)(vs:List V)(H:Hp)(Q:VK)(E_:XK):Prop
 |mk (a d t:Addr) (c:Cmd) (e:Rat) (rows:List Rw) (k:Nat) (h0_:vs=[.ref a,.ref t]) (h1_:Dsk K A.aDesk H a d e rows) (h2_:oP K H t c.tl) (h3_:t≠a) (h4_:t≠d) (h5_:c.pre e rows) (h6_:OkD k e rows) (h7_:k<=290) (h8_:∀ans e' rows' H',c.post k e rows ans e' rows' ->Ow (isA a d) H H' ->Dsk K A.aDesk H' a d e' rows' ->Q (.str (tx ans)) H'):qp K A vs H Q E_
def Cmd.isDo:Cmd ->Prop
 | .claim _ _| .more _ _| .drop _| .part _ _ _| .join _ _| .estate _| .grow _=>True
 |_=>False
inductive yn(K:aW)(A:Ad)(vs:List V)(H:Hp)(Q:VK)(E_:XK):Prop
 |mk (a d t:Addr) (c:Cmd) (e:Rat) (rows:List Rw) (k:Nat) (h0_:vs=[.ref a,.ref t]) (h1_:Dsk K A.aDesk H a d e rows) (h2_:oP K H t c.tl) (h3_:t≠a) (h4_:t≠d) (h5_:c.pre e rows) (h6_:c.isDo) (h7_:OkD k e rows) (h8_:k<=290) (h9_:∀e' rows' H',c.post k e rows wOk e' rows' ->Ow (isA a d) H H' ->Dsk K A.aDesk H' a d e' rows' ->Q .non H'):yn K A vs H Q E_
inductive mY(K:aW)(A:Ad)(vs:List V)(H:Hp)(Q:VK)(E_:XK):Prop
 |mk (a d:Addr) (e:Rat) (rows:List Rw) (h0_:vs=[.ref a]) (h1_:Dsk K A.aDesk H a d e rows) (h2_:∀l H',iu H H' ->H l=none ->iE K H' l (rows.map (·.2)) ->Q (.ref l) H'):mY K A vs H Q E_
inductive qV(K:aW)(A:Ad)(vs:List V)(H:Hp)(Q:VK)(E_:XK):Prop
 |mk (a d:Addr) (e:Rat) (rows:List Rw) (u:List Nat) (c:Rat) (h0_:vs=[.ref a,.str (tx u)]) (h1_:Dsk K A.aDesk H a d e rows) (h2_:iO rows u=some c) (h3_:rows.length<=1000) (h4_:∀(j:Nat) H',iu H H' ->rows[j]? =some (u,c) ->Q (.int (j:Int)) H'):qV K A vs H Q E_
inductive rX(K:aW)(A:Ad)(vs:List V)(H:Hp)(Q:VK)(E_:XK):Prop
 |mk (a d:Addr) (e:Rat) (rows:List Rw) (ρ:Lr.Rl) (k:Nat) (h0_:vs=[.ref a,.str (tx (jb ρ))]) (h1_:Dsk K A.aDesk H a d e rows) (h2_:OkD k e rows) (h3_:k<=290) (h4_:okR ρ) (h5_:e<=Lr.sm (clm rows)) (h6_:∀l ps D H',iu H H' ->H l=none ->iE K H' l ps ->Lr.RlR ρ (clm rows) e ps ->Ob (2*k+40) D ps ->Q (.ref l) H'):rX K A vs H Q E_
inductive wF(K:aW)(A:Ad)(vs:List V)(H:Hp)(Q:VK)(E_:XK):Prop
 |mk (a d:Addr) (e:Rat) (rows:List Rw) (u:List Nat) (v:V) (c x:Rat) (h0_:vs=[.ref a,.str (tx u),v]) (h1_:Dsk K A.aDesk H a d e rows) (h2_:ip K H v x) (h3_:iO rows u=some c) (h4_:Sz 1000 c) (h5_:Sz 1000 x) (h6_:rows.length<=8) (h7_:∀H',Ow (isA a d) H H' ->Dsk K A.aDesk H' a d e (lU rows u (c+x)) ->Q .non H'):wF K A vs H Q E_
inductive tj(K:aW)(A:Ad)(vs:List V)(H:Hp)(Q:VK)(E_:XK):Prop
 |mk (a d:Addr) (e:Rat) (rows:List Rw) (u:List Nat) (ρ:Lr.Rl) (k:Nat) (h0_:vs=[.ref a,.str (tx u),.str (tx (jb ρ))]) (h1_:Dsk K A.aDesk H a d e rows) (h2_:(Cmd.leave u ρ).pre e rows) (h3_:OkD k e rows) (h4_:k<=290) (h5_:∀ans e' rows' H',(Cmd.leave u ρ).post k e rows ans e' rows' ->Ow (isA a d) H H' ->Dsk K A.aDesk H' a d e' rows' ->Q (.str (tx ans)) H'):tj K A vs H Q E_
inductive uS(K:aW)(A:Ad)(vs:List V)(H:Hp)(Q:VK)(E_:XK):Prop
 |mk (a d:Addr) (e:Rat) (rows:List Rw) (ρ:Lr.Rl) (u:List Nat) (v:V) (q:Rat) (k:Nat) (h0_:vs=[.ref a,.str (tx (jb ρ)),.str (tx u),v]) (h1_:ip K H v q) (h2_:Dsk K A.aDesk H a d e rows) (h3_:(Cmd.need ρ u q).pre e rows) (h4_:OkD k e rows) (h5_:k<=290) (h6_:∀ans H',(Cmd.need ρ u q).post k e rows ans e rows ->iu H H' ->Q (.str (tx ans)) H'):uS K A vs H Q E_
theorem IJ{e:Rat}{rows:List Rw}{c:Cmd}(h:c.pre e rows):∀u,c.tl.new=some u ->jD u/\ iO rows u=none:=by
 intro u b
 cases c<;>cases b
 ·exact⟨h.1,h.2.1⟩
 ·exact⟨h.1,h.2.1⟩
theorem Gu{e:Rat}{rows:List Rw}{c:Cmd}(h:c.pre e rows):∀u,c.tl.name=some u ->∃c,iO rows u=some c:=by
 intro u f
 cases c<;>cases f
 ·exact h.1
 ·exact h
 ·obtain⟨_,_,_,_,c,b,_⟩:=h;exact⟨c,b⟩
 ·exact h.2.1
 ·exact h.2.2.2
 ·exact h.2.2.2.2.1
 ·obtain⟨_,_,_,c,b,_⟩:=h;exact⟨c,b⟩
theorem EL{e:Rat}{rows:List Rw}{c:Cmd}(h:c.pre e rows):∀u,c.tl.other=some u ->∃c,iO rows u=some c:=by
 intro u b
 cases c<;>cases b
 ·exact h.2.2
 ·exact h.2.2.2.2.2
theorem zV{e:Rat}{rows:List Rw}{c:Cmd}(h:c.pre e rows):∀x,c.tl.r=some x ->Rd x:=by
 intro x b
 cases c<;>cases b
 ·exact h.2.2.2
 ·exact h.2
 ·exact h.2.2.2.1
 ·exact h
 ·exact h
 ·exact h.2.2.1
theorem Ma{e:Rat}{rows:List Rw}{c:Cmd}(h:c.pre e rows):∀x,c.tl.r=some x ->0<=x/\ Sz 9000 x:=fun x b=>
 ⟨(zV h x b).nn,(ke (zV h x b)).mono (by decide)⟩
theorem Hv{e:Rat}{rows:List Rw}{c:Cmd}{k:Nat}(h:c.pre e rows)(l:OkD k e rows)(o:k<=290):c.tl.line=yx ->∃u d x,c.tl.name=some u/\ iO rows u=some d/\ c.tl.r=some x/\ x<=d/\ Sz 9000 d:=by
 intro f
 cases c with
 |part u v q=>
  obtain⟨_,_,_,_,d,b,g⟩:=h
  exact⟨u,d,q,rfl,b,rfl,g,(l.sz (m:=601) (by omega) (oV b)).mono (by decide)⟩
 |_=>dsimp only[Cmd.tl] at f;exact absurd f (by decide)
theorem Hh{e:Rat}{rows:List Rw}{c:Cmd}(h:c.pre e rows):c.tl.new≠none ->rows.length<8:=by
 intro b
 cases c<;>first|(exact absurd rfl b)|exact h.2.2.1
theorem Gx{e:Rat}{rows:List Rw}{c:Cmd}(h:c.pre e rows){u:List Nat}(f:c.tl.rule=some u):∃b,u=jb b/\ (c.tl.line=rY ->b≠.tu/\ okN):=by
 cases c<;>cases f
 ·exact⟨_,rfl,fun z=>by dsimp only[Cmd.tl] at z;exact absurd z (by decide)⟩
 ·exact⟨_,rfl,fun z=>by dsimp only[Cmd.tl] at z;exact absurd z (by decide)⟩
 ·exact⟨_,rfl,fun z=>by dsimp only[Cmd.tl] at z;exact absurd z (by decide)⟩
 ·exact⟨_,rfl,fun z=>by dsimp only[Cmd.tl] at z;exact absurd z (by decide)⟩
 ·exact⟨_,rfl,fun _=>⟨h.2.1,h.1⟩⟩
theorem LQ(c:Cmd):(c.tl.r=none/\ iP (nN c) (.inr kR)=none/\ ∀K H,TlV K H (nN c) c.tl)∨
  ∃x,c.tl.r=some x/\ iP (nN c) (.inr kR)=some (.str (tx (wrR x)))/\ ∀K H v,ip K H v x ->TlV K H (kL (nN c) (.inr kR) v) c.tl:=by
 cases c with
 |claim u q=>exact .inr ⟨q,rfl,rfl,fun K H v hv=>⟨rfl,rfl,rfl,rfl,rfl,fun z=>(by cases z),fun x b=>by cases b;exact⟨v,rfl,hv⟩⟩⟩
 |more u q=>exact .inr ⟨q,rfl,rfl,fun K H v hv=>⟨rfl,rfl,rfl,rfl,rfl,fun z=>(by cases z),fun x b=>by cases b;exact⟨v,rfl,hv⟩⟩⟩
 |part u v q=>exact .inr ⟨q,rfl,rfl,fun K H v hv=>⟨rfl,rfl,rfl,rfl,rfl,fun z=>(by cases z),fun x b=>by cases b;exact⟨v,rfl,hv⟩⟩⟩
 |estate q=>exact .inr ⟨q,rfl,rfl,fun K H v hv=>⟨rfl,rfl,rfl,rfl,rfl,fun z=>(by cases z),fun x b=>by cases b;exact⟨v,rfl,hv⟩⟩⟩
 |grow q=>exact .inr ⟨q,rfl,rfl,fun K H v hv=>⟨rfl,rfl,rfl,rfl,rfl,fun z=>(by cases z),fun x b=>by cases b;exact⟨v,rfl,hv⟩⟩⟩
 |need r u q=>exact .inr ⟨q,rfl,rfl,fun K H v hv=>⟨rfl,rfl,rfl,rfl,rfl,fun z=>(by cases z),fun x b=>by cases b;exact⟨v,rfl,hv⟩⟩⟩
 |_=>exact .inl ⟨rfl,rfl,fun K H=>⟨rfl,rfl,rfl,rfl,rfl,fun _=>rfl,fun x b=>by cases b⟩⟩
theorem _root_.L2.Dsk.putD{K:PySem.W.Frag}{C:Addr}{H g:Hp}{a d:Addr}{e:Rat}{rows b:List Rw}{f:List (Key × V)}(h:Dsk K C H a d e rows)(c:Chg H d (.dK f) g)(k:KR K H f b):Ow (isA a d) H g/\ Dsk K C g a d e b:=by
 obtain⟨⟨A,w,h1,z⟩,o,l,B⟩:=id h
 have ow:Ow (isA a d) H g:=Ow.chg c (.inr rfl) l (fun _ h=>by cases h)
 exact⟨ow,⟨A,w,(c.oth a h.ne.symm).trans h1,z.ts ow.ts⟩,_,c.at_,k.ts ow.ts⟩
theorem vb{K:aW}{H:Hp}{kvs:List (Key × V)}{rows:List Rw}(h:KR K H kvs rows){u:List Nat}{c:Rat}(g:iO rows u=some c):∃v,iP kvs (.inr (tx u))=some v/\ ip K H v c:=by
 rcases h.val u with⟨b,f⟩|⟨w,l,b,f,o⟩
 ·rw[g] at b;cases b
 ·rw[g] at b;cases b;exact⟨l,f,o⟩
theorem Io(rows:List Rw)(u:List Nat)(c:Rat):(lU rows u c).length<=rows.length+1:=by
 unfold lU
 split
 ·rw[aX];omega
 ·rw[bf];exact bh _
theorem BD{D:Int}:∀{xs:List Rat},(∀x∈xs,∃n:Int,x=Lr.rt n D) ->∃ts:List Int,ts.map (fun t=>Lr.rt t D)=xs
 |[],_=>⟨[],rfl⟩
 |x::xs,h=>by
  obtain⟨ts,e⟩:=BD fun y hy=>h y (bc _ hy)
  obtain⟨n,b⟩:=h x bj
  exact⟨n::ts,by rw[bH,e,b]⟩
theorem Hy{k:Nat}{D:Int}{cs:List Rat}{e:Rat}(b:Ob k D (e::cs))(nn:∀c∈cs,0<=c)(g:0<=e)(le:e<=Lr.sm cs):Lr.rS cs e:=by
 obtain⟨ts,h⟩:=BD (D:=D) (xs:=cs) fun x hx=>let⟨n,a,_⟩:=b.ov x (bc _ hx);⟨n,a⟩
 obtain⟨n,f,_⟩:=b.ov e bj
 exact⟨nn,g,le,D,ts,n,b.pos,h,f.symm⟩
theorem qX{k:Nat}{e:Rat}{rows:List Rw}(h:OkD k e rows)(le:e<=Lr.sm (clm rows)):Lr.rS (clm rows) e:=by
 obtain⟨D,b⟩:=h.ob
 exact Hy b h.nn h.e0 le
inductive qB(vs:List V)(H:Hp)(Q:VK)(E_:XK):Prop
 |mk (a b:Int) (h0_:vs=[.int a,.int b]) (h1_:0<b) (h2_:Bd 9000 b) (h3_:∀z H',New H z (pr (Lr.rt a b)) H' ->Q (.ref z) H'):qB vs H Q E_
theorem LW{x:Rat}(h:Rd x):Ob 200 (x.den:Int) [x]:=by
 have h1:=h.n
 have g:=h.d
 have f:(10:Nat)^60<2^200:=by decide
 refine⟨Lr.den_pos x,(ke h).d,fun y b=>?_⟩
 cases bC.mp b
 exact⟨x.num,(Lr.jP x).symm,by omega⟩
theorem Iu{w:Lr.Rl}(E:w≠.tu){cs:List Rat}{k:Nat}{D:Int}(l:Ob k D cs)(T:k<=290)(K:cs.length<=8){c x:Rat}(I:c∈cs)(g:Rd x)(N:x<=c):Sz 1900 (kO w cs c x):=by
 unfold kO
 by_cases x0:x=0
 ·rw[if_pos x0];exact Sz.zero.mono (by decide)
 rw[if_neg x0]
 have R:0<x:=by have:=g.nn;grind
 have J:=l.join (LW g)
 have A:0<2*(D*(x.den:Int)):=dC (by decide) J.pos
 have f:∀d∈cs,Lr.Ov (D*(x.den:Int)) (2^(k+200)) d:=fun d b=>J.ov d (dD _ b)
 have o:Lr.Ov (D*(x.den:Int)) (2^(k+200)) x:=J.ov x (bJ _ bj)
 have fin:∀F:Rat ->Rat,(∀d∈cs,Lr.Ov (2*(D*(x.den:Int))) (8*2^(k+200)) (F d)) ->Sz 1900 (Lr.sm (cs.map F)):=fun F O=>by
  have:=Lr.Ov.sm A (M:=8*2^(k+200)) (a:=cs.map F) fun y H=>by
   obtain⟨d,b,rfl⟩:=bz.mp H
   exact O d b
  refine(zW (k:=k+202) (m:=k+210) A ?_ this ?_ (by omega)).mono (by omega)
  ·exact Bd.mul (m:=2) (n:=k+200) (Bd.of_lt (by decide)) J.bd (by omega)
  ·rw[aX]
   have h1:cs.length*(8*2^(k+200))<=8*(8*2^(k+200)):=dn _ K
   have C:(2:Nat)^(k+210)=2^(k+200)*1024:=by rw[show k+210=k+200+10 by omega,di]
   have L:0<2^(k+200):=gl (by decide)
   omega
 have P:=J.pos
 have pw:0<2^(k+200):=gl (by decide)
 have up:∀{M:Nat} {y:Rat},M<=4*2^(k+200) ->Lr.Ov (D*(x.den:Int)) M y ->Lr.Ov (2*(D*(x.den:Int))) (8*2^(k+200)) y:=fun S h=>(pq P h).mono (by omega)
 cases w with
 |tu=>exact absurd rfl E
 | sh=>
  show Sz 1900 (Lr.sm (cs.map (· *(x/c))))
  rw[Lr.pC]
  have G:c≠0:=fun z=>by rw[z] at N;grind
  have Q:Sz (k+5) (Lr.sm cs):=by
   have:=Lr.Ov.sm l.pos (M:=2^k) (a:=cs) fun y H=>l.ov y H
   refine zW l.pos l.bd this ?_ (by omega)
   have h1:cs.length*2^k<=8*2^k:=dn _ K
   have C:(2:Nat)^(k+5)=2^k*32:=by rw[di]
   have L:0<2^k:=gl (by decide)
   omega
  exact(Q.mul ((ke g).div (l.sz (m:=k+1) (bh _) I) G)).mono (by omega)
 |ga=>exact fin (fun y=>Lr.mn y x) fun d b=>up (by omega) ((f d b).mn o)
 |lo=>
  refine fin (fun y=>y - Lr.mn y (c - x)) fun d b=>?_
  have h1:=Lr.Ov.sub P (f c I) o
  exact up (M:=2^(k+200)+(2^(k+200)+2^(k+200))) (by omega) (Lr.Ov.sub P (f d b) (((f d b).mono (dm _ _)).mn h1))
 | ha=>
  show Sz 1900 (Lr.sm (cs.map (Lr.need .ha c x)))
  rw[Lr.lT]
  have B:∀{y:Rat} {M:Nat},Lr.Ov (D*(x.den:Int)) M y ->Lr.Ov (2*(D*(x.den:Int))) (2*M) y:=fun h=>pq P h
  split
  ·exact fin _ fun d b=>(((CI P (f d b)).mono (show 2^(k+200)<=2*2^(k+200) by omega)).mn (B o)).mono (by omega)
  ·refine fin _ fun d b=>?_
   have h1:=B (Lr.Ov.sub P (f c I) o)
   have C:=((CI P (f d b)).mono (show 2^(k+200)<=2*(2^(k+200)+2^(k+200)) by omega)).mn h1
   exact(Lr.Ov.sub A (B (f d b)) C).mono (by omega)
def c40(ns:List Int)(k:Int):Int:=if k<(ns.length:Int) then ns.getD k.toNat 0%10^40 else 0
inductive pZ(K:aW)(vs:List V)(H:Hp)(Q:VK)(E_:XK):Prop
 |mk (a:Addr) (ns:List Int) (k:Int) (h0_:vs=[.ref a,.int k]) (h1_:SqL K H a (ns.map V.int)) (h2_:0<=k) (h3_:∀v:Int,v=c40 ns k ->0<=v ->v<10^40 ->Q (.int v) H):pZ K vs H Q E_
structure Fg2(x:Rat):Prop where
 x0:0<=x
 n:x.num.natAbs<10^200
 d:x.den<10^200
theorem Fg2.sz{x:Rat}(h:Fg2 x):Sz 1900 x:=by
 have h1:=h.n
 have f:=h.d
 have b:(10:Nat)^200<2^1900:=by decide+kernel
 exact⟨Bd.of_lt (by omega),Bd.of_lt (by show x.den<_;omega)⟩
inductive qZ(K:aW)(vs:List V)(H:Hp)(Q:VK)(E_:XK):Prop
 |mk (x:Rat) (h0_:vs=[.str (tx (wrR x))]) (h1_:Fg2 x) (h2_:∀v H',iu H H' ->ip K H' v x ->Q v H'):qZ K vs H Q E_
inductive vG(K:aW)(vs:List V)(H:Hp)(Q:VK)(E_:XK):Prop
 |mk (v w:V) (x y:Rat) (h0_:vs=[v,w]) (h1_:ip K H v x) (h2_:ip K H w y) (h3_:Sz 1900 x) (h4_:Sz 1900 y) (h5_:Q (.bl (decide (x<y))) H):vG K vs H Q E_
def base7(c:Int):List Nat:=(dz (1+c%8).toNat).map fun j:Nat=>97+((c.fdiv 64/2^(3*j))%26).toNat
def lg(c:Int):Nat:=(c.fdiv 8%(1+c%8)).toNat
def BQ(k c:Int):Nat:=97+((c.fdiv 11+3*k)%26).toNat
def kB(k c:Int):List Nat:=(base7 c).take (lg c)++[BQ k c]++(base7 c).drop (lg c+1)
theorem sY(c:Int):(base7 c).length=(1+c%8).toNat/\ lg c<(1+c%8).toNat:=by
 have h0:=bV c (show(8:Int)≠0 by decide)
 have h1:=bV (c.fdiv 8) (show 1+c%8≠0 by omega)
 have b:=bK (c.fdiv 8) (show 0<1+c%8 by omega)
 refine⟨by unfold base7;rw[aX,cP],?_⟩
 unfold lg
 omega
theorem EH(k c:Int):(kB k c).length=(1+c%8).toNat:=by
 obtain⟨h1,b⟩:=sY c
 unfold kB
 rw[bf,bf,bW,dB,h1]
 show _+1+_=_
 omega
theorem c26(x:Int):97<=97+(x%26).toNat/\ 97+(x%26).toNat<=122:=by
 have h1:=bK x (show(0:Int)<26 by decide)
 omega
theorem zv(k c:Int):jD (kB k c):=by
 have g:=EH k c
 have h0:=bV c (show(8:Int)≠0 by decide)
 have h1:=bK c (show(0:Int)<8 by decide)
 have f:∀x∈base7 c,97<=x/\ x<=122:=fun x b=>by
  obtain⟨j,_,rfl⟩:=bz.mp b
  exact c26 _
 refine⟨fun z=>by rw[z] at g;simp at g;omega,by omega,fun x b=>?_⟩
 rcases bS.mp b with b|b
 ·rcases bS.mp b with b|b
  ·exact f x (dY b)
  ·cases bC.mp b
   exact c26 _
 ·exact f x (List.mem_of_mem_drop b)
theorem xO{k k':Nat}{c:Int}(g:k<8)(b:k'<8)(h:kB k c=kB k' c):k=k':=by
 obtain⟨h1,l⟩:=sY c
 have f:((base7 c).take (lg c)).length=lg c:=by rw[bW];omega
 have at_:∀j:Int,(kB j c)[lg c]? =some (BQ j c):=fun j=>by
  unfold kB
  rw[dF,cv (by omega),f,Nat.sub_self]
  rfl
 have e:=(at_ k).symm.trans ((congrArg (·[lg c]?) h).trans (at_ k'))
 have e:=Option.some.inj e
 unfold BQ at e
 generalize c.fdiv 11=m at e
 omega
inductive vI(vs:List V)(H:Hp)(Q:VK)(E_:XK):Prop
 |mk (k c:Int) (h0_:vs=[.int k,.int c]) (h1_:0<=k) (h2_:k<=8) (h3_:∀H',iu H H' ->Q (.str (tx (kB k c))) H'):vI vs H Q E_
structure Cl7(c:Rat):Prop where
 c0:0<=c
 c1:c<=((10^12:Nat):Rat)
 w:Wh 27720 c
theorem Ac{a b:Int}(h:0<=a)(w:a<=10^12)(l:1<=b)(o:b<=12):Cl7 (Lr.rt a b):=by
 obtain⟨n,rfl⟩:∃n:Nat,b=(n:Int):=⟨b.toNat,by omega⟩
 have g:∀j:Fin 12,(j.1+1)∣27720:=by decide
 refine⟨(Lr.pV (by omega)).mpr h,?_,Wh.of_rt (by omega) ?_⟩
 ·have f:(0:Int)<(n:Int):=by omega
  have e:((10^12:Nat):Rat)=Lr.rt (((10^12:Nat):Int)*(n:Int)) (n:Int):=Lr.ja f (by rw[bP];rfl)
  rw[e]
  refine Lr.rM f ?_
  omega
 ·have:=g ⟨n - 1,by omega⟩
  rw[show n - 1+1=n by omega] at this
  exact this
theorem Gp:Cl7 0:=by
 have:=Ac (a:=0) (b:=1) (by decide) (by decide) (by decide) (by decide)
 rwa [show Lr.rt 0 1=0 from rfl] at this
inductive qW(K:aW)(vs:List V)(H:Hp)(Q:VK)(E_:XK):Prop
 |mk (a:Addr) (ns:List Int) (h0_:vs=[.ref a]) (h1_:SqL K H a (ns.map V.int)) (h2_:∀l cs H',iu H H' ->H l=none ->iE K H' l cs ->1<=cs.length ->cs.length<=8 ->(∀c∈cs,Cl7 c) ->Q (.ref l) H'):qW K vs H Q E_
inductive xb(K:aW)(A:Ad)(vs:List V)(H:Hp)(Q:VK)(E_:XK):Prop
 |mk (a d ln:Addr) (rows:List Rw) (e0 e c:Rat) (ρ:Lr.Rl) (ve:V) (u:List Nat) (j k:Nat) (h0_:vs=[.ref a,.str (word ρ),ve,.str (tx u),.ref ln]) (h1_:Dsk K A.aDesk H a d e0 rows) (h2_:H ln=some (.lst (rows.map fun r=>.str (tx r.1)))) (h3_:OkD k e0 rows) (h4_:OkD k e rows) (h5_:k<=290) (h6_:ip K H ve e) (h7_:Rd e) (h8_:e<=Lr.sm (clm rows)) (h9_:ρ≠.tu) (h10_:rows[j]? =some (u,c)) (h11_:∀ps p v H',Ow (isA a d) H H' ->Dsk K A.aDesk H' a d e rows ->Lr.RlR ρ (clm rows) e ps ->ps[j]? =some p ->Sz 1900 p ->ip K H' v p ->Q v H'):xb K A vs H Q E_
theorem Lh{D:Int}{k:Nat}{ps:List Rat}(h:Ob k D ps)(o:k<=640){p:Rat}(g:p∈ps)(f:0<=p):Fg2 p:=by
 have b:=h.sz (m:=k+1) (bh _) g
 have h1:(2:Nat)^(k+1)<=2^641:=cI (by decide) (by omega)
 have w:(2:Nat)^641<10^200:=by decide+kernel
 have z:p.num.natAbs<2^(k+1):=PySem.intBits_le_iff.mp b.n
 have l:p.den<2^(k+1):=PySem.intBits_le_iff.mp b.d
 exact⟨f,by omega,by omega⟩
def D7:Nat:=27720*12^8*3200
structure Ok7(i:Nat)(rows:List Rw):Prop where
 len1:1<=rows.length
 len:rows.length<=8
 nd:(rows.map (·.1)).Nodup
 nm:∀r∈rows,jD r.1
 c0:∀r∈rows,0<=r.2
 w:∀r∈rows,Wh (27720*12^i) r.2
 s:Lr.sm (clm rows)<=((8*10^12+i:Nat):Rat)
structure E7(e:Rat):Prop where
 e0:0<=e
 e1:e<=((10^25:Nat):Rat)
 w:Wh D7 e
theorem Ed:0<D7:=by decide
theorem E7.rd{e:Rat}(h:E7 e):Rd e:=by
 have b:=gG Ed (Wh.den Ed h.w)
 have g:=Kc h.e0 h.e1 b
 have l:10^25*D7<10^60:=by decide
 have f:D7<10^60:=by decide
 exact⟨h.e0,by omega,by omega⟩
theorem KC{x:Rat}(h:Rd x):Fg2 x:=by
 have h1:=h.n
 have f:=h.d
 have b:(10:Nat)^60<10^200:=by decide+kernel
 exact⟨h.nn,by omega,by omega⟩
theorem Ln(n:Nat):(0:Rat)<=(n:Rat):=by exact_mod_cast cf n
theorem Jg{n:Int}{k:Nat}(h:(n:Rat)<=(k:Rat)):n<=(k:Int):=by exact_mod_cast h
theorem E7.ov{e:Rat}(h:E7 e):Lr.Ov (D7:Int) (2^140) e:=by
 obtain⟨n,b⟩:=h.w
 have l:(0:Int)<(D7:Int):=by decide
 have g:e=Lr.rt n (D7:Int):=Lr.ja (D:=(D7:Int)) l b
 have f:(0:Rat)<=(D7:Rat):=Ln D7
 have h0:(0:Rat)<=(n:Rat):=by rw[←b];exact de h.e0 f
 have h1:(n:Rat)<=((10^25*D7:Nat):Rat):=by rw[←b,eV];exact bU h.e1 f
 have h0:0<=n:=by exact_mod_cast h0
 have h1:n<=((10^25*D7:Nat):Int):=Jg h1
 have o:10^25*D7<=2^140:=by decide
 exact⟨n,g,by omega⟩
theorem uu{cs:List Rat}(h:∀c∈cs,0<=c){c:Rat}(g:c∈cs):c<=Lr.sm cs:=by
 obtain⟨j,b⟩:=bF.mp g
 have:=pA b
 have l:0<=Lr.sm (cs.eraseIdx j):=Lr.lE fun y f=>h y ((fe cs j).subset f)
 grind
theorem Ok7.nn{i:Nat}{rows:List Rw}(h:Ok7 i rows):∀c∈clm rows,0<=c:=fun c f=>by
 obtain⟨r,b,rfl⟩:=bz.mp f
 exact h.c0 r b
theorem Ok7.wc{i:Nat}{rows:List Rw}(h:Ok7 i rows):∀c∈clm rows,Wh (27720*12^i) c:=fun c f=>by
 obtain⟨r,b,rfl⟩:=bz.mp f
 exact h.w r b
theorem Li{i k:Nat}(b:i<=8)(f:k∣3200):27720*12^i*k∣D7:=by
 unfold D7
 exact Nat.mul_dvd_mul (Nat.mul_dvd_mul_left _ (Nat.pow_dvd_pow 12 b)) f
theorem Ok7.s1{i:Nat}{rows:List Rw}(h:Ok7 i rows)(b:i<=8):Lr.sm (clm rows)<=((10^25:Nat):Rat):=by
 have h1:=h.s
 have f:((8*10^12+i:Nat):Rat)<=((10^25:Nat):Rat):=by
  have:8*10^12+i<=10^25:=by omega
  exact_mod_cast this
 grind
theorem yl{i k:Nat}{rows:List Rw}(h:Ok7 i rows)(b:i<=8)(l:k∣3200){x:Rat}(f:0<=x)(o:x<=Lr.sm (clm rows))(g:Wh (27720*12^i*k) x):E7 x:=
 ⟨f,by have:=h.s1 b;grind,g.dvd (Li b l)⟩
theorem Ok7.e7{i:Nat}{rows:List Rw}(h:Ok7 i rows)(f:i<=8){c:Rat}(b:c∈clm rows):E7 c:=
 yl h f (k:=1) (by decide) (h.nn c b) (uu h.nn b) (by rw[Nat.mul_one];exact h.wc c b)
theorem sN{i:Nat}{rows:List Rw}(h:Ok7 i rows)(g:i<=8){e:Rat}(f:E7 e):OkD 140 e rows:=by
 refine⟨h.len,h.nd,h.nm,h.c0,f.e0,(D7:Int),by decide,Bd.of_lt (by decide),fun x b=>?_⟩
 rcases bw.mp b with rfl|b
 ·exact f.ov
 ·exact(h.e7 g b).ov
theorem _root_.Ld.Wh.mn7{D:Nat}{x y:Rat}(h:Wh D x)(g:Wh D y):Wh D (Lr.mn x y):=by
 unfold Lr.mn
 split
 ·exact g
 ·exact h
theorem MP{i:Nat}{rows:List Rw}(h:Ok7 i rows){o:Lr.Rl}(z:o≠.tu){c x:Rat}{m:Nat}(B:c∈clm rows)(Q:x*40=c*(m:Rat))(K:m<=40):0<=x/\ x<=c/\ Wh (27720*12^i*40) x/\ 0<=kO o (clm rows) c x/\ kO o (clm rows) c x<=Lr.sm (clm rows)/\ Wh (27720*12^i*80) (kO o (clm rows) c x):=by
 have H:=h.nn c B
 have N:(0:Rat)<=(m:Rat):=by exact_mod_cast cf m
 have P:(m:Rat)<=40:=by exact_mod_cast K
 have R:0<=c*(m:Rat):=de H N
 have T:c*(m:Rat)<=c*40:=cQ P H
 have M:0<=x:=by grind
 have E:x<=c:=by grind
 obtain⟨D,J⟩:∃D,D=27720*12^i:=⟨_,rfl⟩
 have A:=h.wc
 rw[←J] at A ⊢
 have g:∀y,Wh D y ->Wh (D*40) (y*((m:Rat)/40)):=fun y f=>by
  obtain⟨n,O⟩:=f
  refine⟨n*m,?_⟩
  rw[eV,bP, ←O]
  have:((40:Nat):Rat)=40:=rfl
  rw[this,show((m:Int):Rat)=(m:Rat) from rfl]
  grind
 have w:Wh (D*40) x:=by
  have:=g c (A c B)
  rwa [show c*((m:Rat)/40)=x by grind] at this
 have up:∀y,Wh (D*40) y ->Wh (D*80) y:=fun y f=>by
  have:=f.mul 2
  rwa [gE] at this
 refine⟨M,E,w,?_⟩
 unfold kO
 by_cases xz:x=0
 ·rw[if_pos xz]
  exact⟨by decide,Lr.lE h.nn,.zero⟩
 rw[if_neg xz]
 have I:0<x:=by grind
 have⟨b0,b1⟩:=Lr.AF.sum_bd (Lr.BC z I E) h.nn
 refine⟨b0,b1,Wh.sm fun y f=>?_⟩
 obtain⟨d,l,rfl⟩:=bz.mp f
 have b:∀y∈clm rows,Wh (D*40) y:=fun y f=>(A y f).mul 40
 have G:∀y∈clm rows,Wh (D*80) (y*Lr.rt 1 2):=fun y f=>by
  have:=(b y f).half
  rwa [gE] at this
 cases o with
 |tu=>exact absurd rfl z
 | sh=>
  show Wh (D*80) (d*(x/c))
  have C:c≠0:=by grind
  have L:x/c=(m:Rat)/40:=by
   have S:x/c*c=x:=fF C
   have h1:(x/c*40 - (m:Rat))*c=0:=by grind
   rcases Rat.mul_eq_zero.mp h1 with F|F
   ·grind
   ·exact absurd F C
  rw[L]
  exact up _ (g d (A d l))
 |ga=>exact up _ ((b d l).mn7 w)
 |lo=>exact up _ ((b d l).sub ((b d l).mn7 ((b c B).sub w)))
 |ha=>
  rw[Lr.lT]
  split
  ·exact(G d l).mn7 (up _ w)
  ·exact(up _ (b d l)).sub ((G d l).mn7 (up _ ((b c B).sub w)))
inductive re(K:aW)(A:Ad)(vs:List V)(H:Hp)(Q:VK)(E_:XK):Prop
 |mk (a d ln:Addr) (rows:List Rw) (e0 c x:Rat) (ρ:Lr.Rl) (va:V) (u:List Nat) (i j m:Nat) (cl ag:Int) (h0_:vs=[.ref a,.str (word ρ),.str (tx u),.ref ln,va,.int cl,.int ag]) (h1_:Dsk K A.aDesk H a d e0 rows) (h2_:H ln=some (.lst (rows.map fun r=>.str (tx r.1)))) (h3_:Ok7 i rows) (h4_:i<=8) (h5_:E7 e0) (h6_:ip K H va x) (h7_:x*40=c*(m:Rat)) (h8_:m<=40) (h9_:ρ≠.tu) (h10_:rows[j]? =some (u,c)) (h11_:∀e' H',Ow (isA a d) H H' ->Dsk K A.aDesk H' a d e' rows ->E7 e' ->Q (.bl true) H'):re K A vs H Q E_
def is7(a d ln lc b:Addr):Prop:=b=a∨b=d∨b=ln∨b=lc
inductive uQ(K:aW)(A:Ad)(vs:List V)(H:Hp)(Q:VK)(E_:XK):Prop
 |mk (a d ln lc:Addr) (rows:List Rw) (e:Rat) (i:Nat) (cl:Int) (h0_:vs=[.ref a,.ref ln,.ref lc,.int cl]) (h1_:Dsk K A.aDesk H a d e rows) (h2_:H ln=some (.lst (rows.map fun r=>.str (tx r.1)))) (h3_:iE K H lc (clm rows)) (h4_:ln≠lc) (h5_:Ok7 i rows) (h6_:i<8) (h7_:E7 e) (h8_:0<=cl) (h9_:∀rows' e' H',Ow (is7 a d ln lc) H H' ->Dsk K A.aDesk H' a d e' rows' ->H' ln=some (.lst (rows'.map fun r=>.str (tx r.1))) ->iE K H' lc (clm rows') ->Ok7 (i+1) rows' ->E7 e' ->Q (.bl true) H'):uQ K A vs H Q E_
theorem pig:∀{xs us:List (List Nat)},xs.Nodup ->(∀x∈xs,x∈us) ->xs.length<=us.length
 |[],_,_,_=>cf _
 |x::xs,us,hn,h=>by
  rw[df] at hn
  have f:=h x bj
  have:=pig (xs:=xs) (us:=us.erase x) hn.2 (fun y b=>(List.mem_erase_of_ne (fun z=>hn.1 (by rw[←z];exact b))).mpr (h y (bc _ b)))
  rw[List.length_erase_of_mem f] at this
  have:=List.length_pos_of_mem f
  show xs.length+1<=us.length
  omega
theorem Mj{u:List Nat}{us:List (List Nat)}:inV (.str (tx u)) (us.map fun u=>V.str (tx u))=decide (u∈us):=by
 by_cases h:u∈us
 ·rw[decide_eq_true h]
  exact er.mpr ⟨_,bz.mpr ⟨u,h,rfl⟩,beq_self_eq_true _⟩
 ·rw[decide_eq_false h]
  cases e:inV (.str (tx u)) (us.map fun u=>V.str (tx u)) with
  |false=>rfl
  |true=>
   obtain⟨y,f,e⟩:=er.mp e
   obtain⟨g,b,rfl⟩:=bz.mp f
   exact absurd (li (eq_of_beq e)▸b) h
theorem Jn(us:List (List Nat)):(us.map fun u=>V.str (tx u)).all nM=true:=by rw[List.all_map];exact fS.mpr fun _ _=>rfl
theorem xa{F:Addr ->Prop}{f l g:Hp}(s:iu f l)(ow:Ow F l g)(o:∀b,F b ->f b=none):iu f g:=fun b u h=>ow.st b u (fun z=>by rw[o b z] at h;cases h) (s b u h)
theorem vK{K:aW}{H:Hp}{vs:List V}{xs:List Rat}(h:iR K H vs xs)(i:Nat):iR K H (vs.eraseIdx i) (xs.eraseIdx i):=by
 refine⟨by rw[fk,fk,h.len],fun j v x hv b=>?_⟩
 rw[List.getElem?_eraseIdx] at hv b
 split at hv
 ·rename_i f
  rw[if_pos f] at b
  exact h.at_ _ v x hv b
 ·rename_i f
  rw[if_neg f] at b
  exact h.at_ _ v x hv b
theorem vn{K:aW}{H:Hp}{vs:List V}{xs:List Rat}{v:V}{x:Rat}(h:iR K H vs xs)(g:ip K H v x)(j:Nat):iR K H (vs.set j v) (xs.set j x):=by
 refine⟨by rw[dG,dG,h.len],fun i w y f l=>?_⟩
 by_cases hij:j=i
 ·subst hij
  have o:=(aZ.mp f).1
  have b:=(aZ.mp l).1
  rw[dG] at o b
  rw[eW o] at f
  rw[eW b] at l
  cases f
  cases l
  exact g
 ·rw[fZ hij] at f l
  exact h.at_ i w y f l
theorem DV{rows:List Rw}{i j:Nat}{u f:List Nat}{c F:Rat}{x:Rat}(b:(rows.map (·.1)).Nodup)(o:rows[j]? =some (u,c))(E:rows[i]? =some (f,F))(w:j≠i):lU (kP rows f) u x=(rows.set j (u,x)).eraseIdx i:=by
 have C:u≠f:=fun z=>by
  have h:(rows.map (·.1))[j]? =some u:=by rw[bi,o];rfl
  have g:(rows.map (·.1))[i]? =some f:=by rw[bi,E];rfl
  exact w ((gL (aZ.mp h).1 b).mp (h.trans ((congrArg some z).trans g.symm)))
 have B:(rows.set j (u,x))[i]? =some (f,F):=by rw[fO,if_neg w];exact E
 have l:((rows.set j (u,x)).map (·.1)).Nodup:=by rw[kQ o];exact b
 rw[←ur l B, ←xi b o]
 have D:iO rows u=some c:=nq b o
 have A:iO (kP rows f) u=some c:=by rw[xR C];exact D
 unfold lU
 rw[oS,oS,D,A]
 show(kP rows f).map _=kP (rows.map _) f
 unfold kP
 clear B l D A o E b
 induction rows with
 |nil=>rfl
 | cons r rows ih=>
  rw[bH,cJ,cJ]
  by_cases h:r.1=u
  ·have g:¬r.1=f:=fun z=>C (h.symm.trans z)
   rw[if_pos h,if_pos (decide_eq_true g),if_pos (decide_eq_true g),bH,if_pos h,ih]
  ·rw[if_neg h]
   by_cases g:r.1=f
   ·rw[if_neg (by simp[g]),if_neg (by simp[g]),ih]
   ·rw[if_pos (decide_eq_true g),if_pos (decide_eq_true g),bH,if_neg h,ih]
theorem Ie(i:Nat):27720*12^(i+1)=27720*12^i*12:=by rw[fb,gE]
theorem mk7{i:Nat}{rows b:List Rw}(h:Ok7 i rows)(l:1<=b.length)(g:b.length<=8)(o:(b.map (·.1)).Nodup)(nm:∀r∈b,jD r.1)(f:∀r∈b,0<=r.2/\ Wh (27720*12^i*12) r.2)(w:Lr.sm (clm b)<=Lr.sm (clm rows)+1):Ok7 (i+1) b:=by
 refine⟨l,g,o,nm,fun r h=>(f r h).1,fun r h=>by rw[Ie];exact(f r h).2,?_⟩
 have h1:=h.s
 have e:((8*10^12+(i+1):Nat):Rat)=((8*10^12+i:Nat):Rat)+1:=by
  rw[←Nat.add_assoc,Rat.natCast_add]
  rfl
 rw[e]
 grind
theorem Ok7.up{i:Nat}{rows:List Rw}(h:Ok7 i rows):Ok7 (i+1) rows:=
 mk7 h h.len1 h.len h.nd h.nm (fun r b=>⟨h.c0 r b,(h.w r b).mul 12⟩) (by grind)
theorem Ok7.le{i:Nat}{rows:List Rw}(h:Ok7 i rows){j:Nat}{u:List Nat}{c:Rat}(g:rows[j]? =some (u,c)):0<=c/\ c<=Lr.sm (clm rows)/\ Wh (27720*12^i*12) c:=by
 have b:=bo g
 exact⟨h.c0 _ b,uu h.nn (cr (f:=(·.2)) b),(h.w _ b).mul 12⟩
theorem Ok7.era{i:Nat}{rows:List Rw}(h:Ok7 i rows)(A:1<rows.length){j:Nat}{u:List Nat}{c:Rat}(l:rows[j]? =some (u,c)):Ok7 (i+1) (rows.eraseIdx j):=by
 have f:=(aZ.mp l).1
 have o:(rows.eraseIdx j).length=rows.length - 1:=by rw[fk,if_pos f]
 have z:=h.len
 refine mk7 h (by omega) (by omega) (ql _ _ h.nd) (fun r b=>h.nm r (lI b)) (fun r b=>⟨h.c0 r (lI b),(h.w r (lI b)).mul 12⟩) ?_
 have:=pA (lD l)
 rw[←jB] at this
 have g:=(h.le l).1
 unfold clm
 rw[this]
 grind
theorem mK{b g:Type}(f:b ->g):∀(xs:List b) (j:Nat) (x:b),(xs.set j x).map f=(xs.map f).set j (f x)
 |[],_,_=>rfl
 |_::_,0,_=>rfl
 |a::xs,j+1,x=>by
  show f a::(xs.set j x).map f=f a::(xs.map f).set j (f x)
  rw[mK]
theorem Ok7.set{i:Nat}{rows:List Rw}(h:Ok7 i rows){j:Nat}{u:List Nat}{c y:Rat}(b:rows[j]? =some (u,c))(l:0<=y)(o:y<=c+1)(g:Wh (27720*12^i*12) y):Ok7 (i+1) (rows.set j (u,y)):=by
 refine mk7 h (by rw[dG];exact h.len1) (by rw[dG];exact h.len) (by rw[kQ b];exact h.nd) (fun r f=>?_) (fun r f=>?_) ?_
 ·rcases tW f with h1|rfl
  ·exact h.nm r h1
  ·exact(h.nm (u,c) (bo b):jD u)
 ·rcases tW f with h1|rfl
  ·exact⟨h.c0 r h1,(h.w r h1).mul 12⟩
  ·exact⟨l,g⟩
 ·unfold clm
  rw[mK,we y (lD b)]
  grind
theorem Ok7.join{i:Nat}{rows:List Rw}(h:Ok7 i rows){j k:Nat}{u v:List Nat}{c d:Rat}(f:rows[j]? =some (u,c))(A:rows[k]? =some (v,d))(z:j≠k):Ok7 (i+1) ((rows.set j (u,c+d)).eraseIdx k):=by
 have l:=(aZ.mp A).1
 have B:=(aZ.mp f).1
 have F:((rows.set j (u,c+d)).eraseIdx k).length=rows.length - 1:=by rw[fk,dG,if_pos l]
 have E:=h.len
 obtain⟨H,I,C⟩:=h.le f
 obtain⟨G,J,D⟩:=h.le A
 have b:∀r∈(rows.set j (u,c+d)).eraseIdx k,r∈rows∨r=(u,c+d):=fun r g=>tW (lI g)
 refine mk7 h (by omega) (by omega) (ql _ _ (by rw[kQ f];exact h.nd)) (fun r g=>?_) (fun r g=>?_) ?_
 ·rcases b r g with h1|rfl
  ·exact h.nm r h1
  ·exact(h.nm (u,c) (bo f):jD u)
 ·rcases b r g with h1|rfl
  ·exact⟨h.c0 r h1,(h.w r h1).mul 12⟩
  ·exact⟨by show 0<=c+d;grind,C.add D⟩
 ·have o:(rows.set j (u,c+d))[k]? =some (v,d):=by rw[fO,if_neg z];exact A
  have:=pA (lD o)
  rw[←jB] at this
  unfold clm
  rw[this,mK,we (c+d) (lD f)]
  grind
theorem Ok7.part{i:Nat}{rows:List Rw}(h:Ok7 i rows){j:Nat}{u v:List Nat}{c y:Rat}(l:rows[j]? =some (u,c))(hv:jD v)(C:v∉rows.map (·.1))(E:rows.length<8)(D:0<=y)(F:y<=c)(o:Wh (27720*12^i*12) y):Ok7 (i+1) (rows.set j (u,c - y)++[(v,y)]):=by
 obtain⟨G,H,B⟩:=h.le l
 have g:∀r∈rows.set j (u,c - y)++[(v,y)],r∈rows∨r=(u,c - y)∨r=(v,y):=fun r f=>by
  rcases bS.mp f with f|f
  ·exact(tW f).imp id .inl
  ·exact .inr (.inr (bC.mp f))
 refine mk7 h (by rw[bf];show 1<=_+1;omega) (by rw[bf,dG];show _+1<=8;omega) ?_ (fun r f=>?_) (fun r f=>?_) ?_
 ·rw[bZ,kQ l]
  exact List.nodup_append.mpr ⟨h.nd,eP _ _,fun a ha b A=>by
   rw[bC.mp A]
   exact fun z=>C (by rw[show v=a from z.symm];exact ha)⟩
 ·rcases g r f with h1|rfl|rfl
  ·exact h.nm r h1
  ·exact(h.nm (u,c) (bo l):jD u)
  ·exact hv
 ·rcases g r f with h1|rfl|rfl
  ·exact⟨h.c0 r h1,(h.w r h1).mul 12⟩
  ·exact⟨by show 0<=c - y;grind,B.sub o⟩
  ·exact⟨D,o⟩
 ·unfold clm
  rw[bZ,mK]
  show Lr.sm (_++[y])<=_
  rw[Lr.Bz,we (c - y) (lD l)]
  grind
theorem rt7{x:Rat}{n D:Int}(b:0<D)(h:x*(D:Rat)=(n:Rat)):Lr.rt n D=x:=(Lr.ja b h).symm
theorem Ab(c:Rat):c*((c.den:Int):Rat)=(c.num:Rat):=by
 have:=Lr.iD (n:=c.num) (Lr.den_pos c)
 rwa [Lr.jP] at this
theorem FZ(c:Rat):Lr.rt (3*c.num+(c.den:Int)) (3*(c.den:Int))=c+Lr.rt 1 3:=by
 have b:=Lr.den_pos c
 have h1:=Ab c
 have f:Lr.rt 1 3*3=1:=by decide+kernel
 refine rt7 (by omega) ?_
 push_cast at h1 ⊢
 rw[←h1]
 grind
theorem GE(c d:Rat):Lr.rt (c.num*(d.den:Int)+d.num*(c.den:Int)) ((c.den:Int)*(d.den:Int))=c+d:=by
 have f:=Lr.den_pos c
 have g:=Lr.den_pos d
 have h1:=Ab c
 have b:=Ab d
 refine rt7 (dC f g) ?_
 push_cast at h1 b ⊢
 rw[←h1, ←b]
 grind
theorem Hd(c:Rat)(t:Int):Lr.rt (c.num*t) ((c.den:Int)*4)=c*((t:Rat)/4):=by
 have b:=Lr.den_pos c
 have h1:=Ab c
 refine rt7 (by omega) ?_
 push_cast at h1 ⊢
 rw[←h1]
 grind
theorem Mo{i:Nat}{c:Rat}{t:Int}(f:0<=c)(B:Wh (27720*12^i*12) c)(b:Wh (27720*12^i) c)(o:0<=t)(l:t<=4):0<=c*((t:Rat)/4)/\ c*((t:Rat)/4)<=c/\ Wh (27720*12^i*12) (c*((t:Rat)/4))/\ c*(((4 - t:Int):Rat)/4)=c - c*((t:Rat)/4):=by
 have w:(0:Rat)<=(t:Rat):=by exact_mod_cast o
 have A:(t:Rat)<=4:=by exact_mod_cast l
 have C:0<=c*(t:Rat):=de f w
 have D:c*(t:Rat)<=c*4:=cQ A f
 refine⟨by grind,by grind,?_,by push_cast;grind⟩
 obtain⟨n,g⟩:=b
 refine⟨n*t*3,?_⟩
 rw[eV,bP,bP, ←g]
 have h:((12:Nat):Rat)=12:=rfl
 have z:((3:Int):Rat)=3:=rfl
 rw[h,z]
 grind
structure St7(K:aW)(C:Addr)(H0 H:Hp)(a d ln lc:Addr)(e:Rat)(rows:List Rw)(us:List (List Nat))(cs:List Rat):Prop where
 ow:Ow (is7 a d ln lc) H0 H
 dsk:Dsk K C H a d e rows
 nms:H ln=some (.lst (us.map fun u=>.str (tx u)))
 cls:iE K H lc cs
 ne:ln≠lc
theorem lr{K:aW}{C:Addr}{H:Hp}{a d l:Addr}{e:Rat}{rows:List Rw}{xs:List V}(b:Dsk K C H a d e rows)(h:H l=some (.lst xs)):¬isA a d l:=fun z=>by
 obtain⟨w,o,h1,_⟩:=b.at_
 obtain⟨g,f,_⟩:=b.dict
 rcases z with z|z
 ·rw[z,h1] at h;cases h
 ·rw[z,f] at h;cases h
theorem xk{K:aW}{F:Addr ->Prop}{H b:Hp}{l:Addr}{xs:List Rat}(h:iE K H l xs)(ow:Ow F H b)(f:¬F l):iE K b l xs:=by
 obtain⟨o,h1,g⟩:=h
 exact⟨o,ow.st _ _ f h1,g.ts ow.ts⟩
section
variable {K:aW} {C:Addr} {H0 H H':Hp} {a d ln lc:Addr} {e:Rat} {rows:List Rw} {us:List (List Nat)} {cs:List Rat}
theorem St7.same(S:St7 K C H0 H a d ln lc e rows us cs)(s:iu H H'):St7 K C H0 H' a d ln lc e rows us cs:=
 ⟨S.ow.trans (Ow.same s),S.dsk.same s,s _ _ S.nms,S.cls.same s,S.ne⟩
theorem St7.nl(S:St7 K C H0 H a d ln lc e rows us cs){us':List (List Nat)}(c:Chg H ln (.lst (us'.map fun u=>.str (tx u))) H'):St7 K C H0 H' a d ln lc e rows us' cs:=by
 have f:Ow (fun b=>b=ln) H H':=Ow.chg c rfl S.nms (fun _ h=>by cases h)
 have l:=f.mono (G:=is7 a d ln lc) fun b o=>.inr (.inr (.inl o))
 have g:=lr S.dsk S.nms
 exact⟨S.ow.trans l,S.dsk.ow f (fun z=>g (.inl z.symm)) (fun z=>g (.inr z.symm)),c.at_,xk S.cls f fun z=>S.ne z.symm,S.ne⟩
theorem St7.cl(S:St7 K C H0 H a d ln lc e rows us cs){g:List V}{f:List Rat}(c:Chg H lc (.lst g) H')(r:iR K H g f):St7 K C H0 H' a d ln lc e rows us f:=by
 obtain⟨D,l,_⟩:=S.cls
 have o:Ow (fun b=>b=lc) H H':=Ow.chg c rfl l (fun _ h=>by cases h)
 have A:=o.mono (G:=is7 a d ln lc) fun b B=>.inr (.inr (.inr B))
 have w:=lr S.dsk l
 exact⟨S.ow.trans A,S.dsk.ow o (fun z=>w (.inl z.symm)) (fun z=>w (.inr z.symm)),o.st _ _ S.ne S.nms,⟨_,c.at_,r.ts o.ts⟩,S.ne⟩
theorem St7.sy(S:St7 K C H0 H a d ln lc e rows us cs){h:Rat}{f:List Rw}(o:Ow (isA a d) H H')(w:Dsk K C H' a d h f):St7 K C H0 H' a d ln lc h f us cs:=by
 obtain⟨A,g,_⟩:=id S.cls
 exact⟨S.ow.trans (o.mono fun b l=>l.elim .inl fun z=>.inr (.inl z)),w,o.st _ _ (lr S.dsk S.nms) S.nms,xk S.cls o (lr S.dsk g),S.ne⟩
end
def fr9(t:Nat):List (List Nat):=(dz 9).map fun j=>(bA t [113,107]).flatten++[97+j]
theorem Ly:∀t:Fin 4,(fr9 t.1).Nodup/\ ∀u∈fr9 t.1,u≠[]/\ u.length<=8/\ ∀c∈u,97<=c/\ c<=122:=by decide+kernel
theorem Hz(c:Rat)(t:Int):Lr.rt (c.num*t) ((c.den:Int)*40)=c*((t:Rat)/40):=by
 have b:=Lr.den_pos c
 have h1:=Ab c
 refine rt7 (by omega) ?_
 push_cast at h1 ⊢
 rw[←h1]
 grind
theorem LC{D:Nat}{N:Rat}{t:Int}(f:0<N)(g:Wh (D*80) N)(o:0<=t)(h:t<=39):0<=N*((t:Rat)/40)/\ N*((t:Rat)/40)<N/\ Wh (D*3200) (N*((t:Rat)/40)):=by
 have w:(0:Rat)<=(t:Rat):=by exact_mod_cast o
 have A:(t:Rat)<=39:=by exact_mod_cast h
 have B:0<=N*(t:Rat):=de (bX f) w
 have C:N*(t:Rat)<=N*39:=cQ A (bX f)
 refine⟨by grind,by grind,?_⟩
 obtain⟨n,b⟩:=g
 refine⟨n*t,?_⟩
 have l:((3200:Nat):Rat)=80*40:=by decide+kernel
 have z:((80:Nat):Rat)=80:=rfl
 rw[eV,z] at b
 rw[eV,l,bP, ←b]
 grind
theorem NX(x:Rat):(decide (x.num=0) && decide ((x.den:Int)=1))=decide (x=0):=wL (x:=x) (y:=0)
theorem BF{B:Nat}:∀{cs:List Rat},(∀c∈cs,c<=(B:Rat)) ->Lr.sm cs<=((cs.length*B:Nat):Rat)
 |[],_=>by show(0:Rat)<=((0*B:Nat):Rat);rw[Nat.zero_mul];exact cD
 | c::cs,h=>by
  have h1:=h c bj
  have f:=BF (cs:=cs) fun d b=>h d (bc _ b)
  have e:(((c::cs).length*B:Nat):Rat)=((cs.length*B:Nat):Rat)+(B:Rat):=by
   rw[bE,Nat.succ_mul,Rat.natCast_add]
  show c+Lr.sm cs<=_
  rw[e]
  grind
def rows7(c:Int)(cs:List Rat):List Rw:=dZ Prod.mk ((dz cs.length).map fun k:Nat=>kB k c) cs
theorem pH(c:Int)(cs:List Rat):(rows7 c cs).length=cs.length:=by unfold rows7;rw[List.length_zipWith,aX,cP,Nat.min_self]
theorem vj{g b:Type}:∀{xs:List g} {ys:List b},xs.length=ys.length ->(dZ Prod.mk xs ys).map (·.1)=xs/\ (dZ Prod.mk xs ys).map (·.2)=ys
 |[],[],_=>⟨rfl,rfl⟩
 |x::xs,y::ys,h=>by
  obtain⟨h1,f⟩:=vj (xs:=xs) (ys:=ys) (Nat.succ.inj h)
  exact⟨congrArg (x::·) h1,congrArg (y::·) f⟩
theorem pT(c:Int)(cs:List Rat):(rows7 c cs).map (·.1)=(dz cs.length).map fun k:Nat=>kB k c:=(vj (by rw[aX,cP])).1
theorem pK(c:Int)(cs:List Rat):clm (rows7 c cs)=cs:=(vj (by rw[aX,cP])).2
theorem FG{c:Int}{cs:List Rat}{k:Nat}{x:Rat}(h:cs[k]? =some x):(rows7 c cs)[k]? =some (kB k c,x):=by
 have b:=(aZ.mp h).1
 unfold rows7
 rw[fV,bi,gg b,h]
 rfl
theorem GR{c:Int}{cs:List Rat}(h1:1<=cs.length)(D:cs.length<=8)(h:∀x∈cs,Cl7 x):Ok7 0 (rows7 c cs):=by
 have z:∀r∈rows7 c cs,jD r.1/\ Cl7 r.2:=fun r b=>by
  have A:r.1∈(rows7 c cs).map (·.1):=cr (f:=(·.1)) b
  have l:r.2∈clm (rows7 c cs):=cr (f:=(·.2)) b
  rw[pK] at l
  rw[pT] at A
  obtain⟨j,_,e⟩:=bz.mp A
  exact⟨e▸zv j c,h _ l⟩
 refine⟨by rw[pH];exact h1,by rw[pH];exact D,?_,fun r b=>(z r b).1,fun r b=>(z r b).2.c0,fun r b=>(z r b).2.w,?_⟩
 ·rw[pT]
  refine gK.mpr (List.Pairwise.imp_of_mem (fun {i j} F C o e=>?_) (List.nodup_range (n:=cs.length)))
  rw[gh] at F C
  exact o (xO (by omega) (by omega) e)
 ·rw[pK]
  have g:=BF (B:=10^12) fun x E=>(h x E).c1
  have l:((cs.length*10^12:Nat):Rat)<=((8*10^12+0:Nat):Rat):=by
   have:cs.length*10^12<=8*10^12+0:=by omega
   exact_mod_cast this
  exact gT g l
theorem GA{k:Nat}{e:Rat}{rows:List Rw}(h:OkD k e rows)(i:Nat):OkD k e (rows.take i):=by
 refine⟨by rw[bW];have:=h.len;omega,h.nd.sublist ((List.take_sublist i rows).map _),fun r b=>h.nm r (dY b),fun r b=>h.c0 r (dY b),h.e0,?_⟩
 obtain⟨D,g⟩:=h.ob
 refine⟨D,g.pos,g.bd,fun x f=>g.ov x ?_⟩
 rcases bw.mp f with rfl|f
 ·exact bj
 ·refine bc _ ?_
  obtain⟨r,b,rfl⟩:=bz.mp f
  exact cr (dY b)
theorem bdN{f:Lr.Rl}(b:f≠.tu){cs:List Rat}{e:Rat}{ps:List Rat}(G:Lr.rS cs e)(h:Lr.RlR f cs e ps){i:Nat}{c p:Rat}(w:cs[i]? =some c)(l:ps[i]? =some p):0<=p/\ p<=c:=by
 obtain⟨F,o,rfl,_⟩:=h.af b G.nn G.e0 G.le
 rw[bi,w] at l
 cases l
 have g:=G.nn c (bo w)
 exact⟨o.fam.b0 c g,o.fam.b1 c g⟩
theorem NH{f:Lr.Rl}(b:f≠.tu){cs:List Rat}{e:Rat}{ps:List Rat}(G:Lr.rS cs e)(h:Lr.RlR f cs e ps):Lr.sm ps=e:=by
 obtain⟨F,l,rfl,g⟩:=h.af b G.nn G.e0 G.le
 exact g
section
variable {P:Program} {w:World} {K:aW} {mg:Str ->Option Value} {base:Heap} {f:Addr} {fd:FuncData} {Ad:Ad} {AdD:AdD}
theorem m9{m n:Nat}{i j:Int}(h1:Bd m i)(b:Bd n j)(l:m+n<=9000):lS i j:=lS.of (m:=9000) (h1.mono (by omega)) (b.mono (by omega)) (by decide)
theorem mm9{i j:Int}(h1:Bd 9000 i)(b:Bd 9000 j):lS i j:=lS.of h1 b (by decide)
theorem BW(F:Has K mg "turned" uZ al f fd)(z:Env K mg Ad):ie P w K mg base "turned" 1 al (oI):=by
 exact F.calE (F.fn.okE DZ (fun g H Q E h=>h.elim) (fun l A b s H g Q E o h=>h.elim))
theorem Aj(F:jA K Ad.aDesk "two" "Desk.two" kS au f fd)(z:Env K mg Ad):jg P w K mg base Ad.aDesk "two" 1 au (oI):=by
 exact F.calE (F.fn.okE AB (fun g H Q E h=>h.elim) (fun l A b s H g Q E o h=>h.elim))
theorem An(F:Has K mg "by_turns" rZ aa f fd)(z:Env K mg Ad):ie P w K mg base "by_turns" 1 aa (oI):=by
 exact F.calE (F.fn.okE AY (fun g H Q E h=>h.elim) (fun l A b s H g Q E o h=>h.elim))
theorem Aa(F:Has K mg "is_whole" rP ["value"] f fd)(b:Env K mg Ad):ie P w K mg base "is_whole" 1 ["value"] (qf):=by
 refine F.calE (F.fn.okE AU (fun l H Q E h=>?_) (fun o A g s H l Q E z h=>?_))
 ·obtain⟨a,rfl,k⟩:=h
  rfl
 obtain⟨a,rfl,k⟩:=h
 refine⟨_,(hV (ig (HW (iA CZ rfl b.b_isinstance PyProof.Rows.boot_isinstance (gX (dv 0) (gX (wQ (v:=.ty "int") rfl b.b_int PyProof.Rows.boot_int rfl) gY))) (Ak (Mc (iA CZ rfl b.b_isinstance PyProof.Rows.boot_isinstance (gX (dv 0) (gX (wQ (v:=.ty "bool") rfl b.b_bool PyProof.Rows.boot_bool rfl) gY)))))))),?_⟩
 exact⟨_,_,.int _,b.T.ii,_,_,.int _,b.T.ib,k⟩
theorem JG{a b:Int}:cu (if a<0 then -a else a) (if b<0 then -b else b)=cu a b:=by
 unfold cu
 congr 1<;>(split<;>omega)
theorem tH(F:Has K mg "common_divisor" mG ae f fd)(l:Env K mg Ad):ie P w K mg base "common_divisor" 1 ae (vU):=by
 refine F.calE (F.fn.okE jM (fun G H Q E h=>?_) (fun J A g s H G Q E O h=>?_))
 ·obtain⟨a,b,rfl,k⟩:=h
  rfl
 obtain⟨a,b,rfl,k⟩:=h
 refine⟨_,(gZ (iq (i:=2) jM.nd rfl (Or.inl rfl) (iA Cu rfl l.b_abs PyProof.Rows.boot_abs (gX (dv 0) gY)))
  (gZ (iq (i:=3) jM.nd rfl (Or.inl rfl) (iA Cu rfl l.b_abs PyProof.Rows.boot_abs (gX (dv 1) gY)))
  (gZ (vx PassesOwn.leaving (ij oU (dv 3) hU (ik _))
   (gZ (iq (i:=4) jM.nd rfl (Or.inl rfl) (ic jl (dv 2) (dv 3)))
  (gZ (iq (i:=2) jM.nd rfl (Or.inl rfl) (dv 3))
  (hV (iq (i:=3) jM.nd rfl (Or.inl rfl) (dv 4))))))
  (hV (ig (dv 2)))))),?_⟩
 refine whl (fun m o B=>B=H/\ ∃(x y:Int) (z:Option V),o=[some (.int a),some (.int b),some (.int x),some (.int y),z]/\ 0<=x/\ 0<=y/\ cu x y=cu a b/\ m=y.toNat) _ ⟨rfl,_,_,none,rfl,by split<;>omega,by split<;>omega,JG,rfl⟩ ?_
 rintro m o B ⟨rfl,x,y,z,rfl,M,N,C,rfl⟩
 refine brN (fun c=>zM ?_) (fun c=>?_)
 ·have D:0<y:=by omega
  have I:=bV x c
  have L:=bK x D
  exact⟨D,_,by omega,rfl,y,x%y,_,rfl,by omega,I,by rw[Lm.yG];exact C,rfl⟩
 ·subst c
  have e:x=((cu a b:Nat):Int):=by
   rw[←C,Int.gcd_zero_right]
   omega
  show Q (.int x) _
  rw[e]
  exact k
theorem Cy{a b:Int}{n:Nat}(g:b≠0)(h:Bd n b):Bd n (Lm.dv a b):=h.of_le (by
 rw[Lm.pM]
 exact gG (by omega) (Int.gcd_dvd_natAbs_right a b))
theorem Dt(F:Has K mg "ratio" wR ay f fd)(J:Env K mg Ad)(g:ie P w K mg base "common_divisor" 1 ae (vU))(l:ie P w K mg base "is_whole" 1 ["value"] (qf)):ie P w K mg base "ratio" 2 ay (kX):=by
 refine F.calE (F.fn.okE uT (fun N H Q E h=>?_) (fun O A G s H N Q E I h=>?_))
 ·obtain⟨a,b,rfl,D,M,L⟩:=h
  rfl
 obtain⟨a,b,rfl,D,M,L⟩:=h
 refine⟨_,(gZ (iw (PW.pt (mV (nh (jC (hW l I (by decide) rfl (gX (dv 0) gY)))) (ml (nh (jC (hW l I (by decide) rfl (gX (dv 1) gY)))))))
   (hV (iQ J.e_Zb rfl (gX (ds [97,32,114,97,116,105,111,32,105,115,32,109,97,100,101,32,111,102,32,116,119,111,32,119,104,111,108,101,32,110,117,109,98,101,114,115]) gY)))
   il)
  (gZ (iw (ij iN (dv 1) hU (ik _))
   (hV (iQ J.e_Zb rfl (gX (ds [116,104,101,32,98,111,116,116,111,109,32,111,102,32,97,32,114,97,116,105,111,32,105,115,32,110,111,116,32,48]) gY)))
   il)
  (gZ (iq (i:=2) uT.nd rfl (Or.inl rfl) (hW g I (by decide) rfl (gX (dv 0) (gX (dv 1) gY))))
  (gZ (iw (ij oO (dv 1) hU (ik _))
   (hV (iq (i:=2) uT.nd rfl (Or.inl rfl) (mS mT (dv 2))))
   il)
  (hV (ig (lC (gX (ic jk (dv 0) (dv 2)) (gX (ic jk (dv 1) (dv 2)) gY))))))))),?_⟩
 have k:∀z o,New H z (.tup [.int (Lm.mk1 a b),.int (Lm.mk2 a b)]) o ->Q (.ref z) o:=fun z o n=>L z o (by
  have e:=Lr.ul (a:=a) D
  rw[e.1,e.2] at n
  exact n)
 refine⟨a,rfl,b,rfl,?_⟩
 refine br (fun c=>absurd c D) (fun _=>?_)
 refine⟨a,b,rfl,?_⟩
 have C:=Lm.CU (a:=a) D
 have B:=Cy (a:=a) D M
 refine br (fun c=>?_) (fun c=>?_)
 ·have e:Lm.dv a b=-(cu a b:Int):=if_pos c
  rw[e] at C B
  refine⟨⟨C,B⟩,⟨C,B⟩,fun p o n=>?_⟩
  have:=k p o
  unfold Lm.mk1 Lm.mk2 at this
  rw[e] at this
  exact this n
 ·have e:Lm.dv a b=(cu a b:Int):=if_neg c
  rw[e] at C B
  refine⟨⟨C,B⟩,⟨C,B⟩,fun p o n=>?_⟩
  have:=k p o
  unfold Lm.mk1 Lm.mk2 at this
  rw[e] at this
  exact this n
theorem Gz(F:Has K mg "plus" Ax ae f fd)(M:Env K mg Ad)(b:ie P w K mg base "ratio" 2 ay (kX)):ie P w K mg base "plus" 3 ae (qN K):=by
 refine F.calE (F.fn.okE IE (fun G H Q E h=>?_) (fun L A C s H G Q E J h=>?_))
 ·obtain⟨v,I,x,y,m,n,rfl,hv,B,l,o,g,-,k⟩:=h
  rfl
 obtain⟨v,I,x,y,m,n,rfl,hv,B,l,o,g,-,k⟩:=h
 refine⟨_,(hV (ig (hW b J (by decide) rfl (gX (ic jL (ic iY (io iH (dv 0) hU (fun _ _=>rfl)) (io iH (dv 1) hU (fun _ _=>rfl))) (ic iY (io iH (dv 1) hU (fun _ _=>rfl)) (io iH (dv 0) hU (fun _ _=>rfl)))) (gX (ic iY (io iH (dv 0) hU (fun _ _=>rfl)) (io iH (dv 1) hU (fun _ _=>rfl))) gY))))),?_⟩
 refine⟨x,hv,.inl ⟨rfl,y,B,.inr ⟨rfl,m9 l.n o.d g,y,B,.inl ⟨rfl,x,hv,.inr ⟨rfl,m9 o.n l.d (by omega),x,hv,.inr ⟨rfl,y,B,.inr ⟨rfl,m9 l.d o.d g,_,_,rfl,dH (kl x) (kl y),l.d.mul o.d g,fun z D n=>k z D ?_⟩⟩⟩⟩⟩⟩⟩
 show New H z (pr (x+y)) D
 rw[Lr.DF]
 exact n
theorem DW(F:Has K mg "minus" wC ae f fd)(M:Env K mg Ad)(b:ie P w K mg base "ratio" 2 ay (kX)):ie P w K mg base "minus" 3 ae (mC K):=by
 refine F.calE (F.fn.okE Hx (fun G H Q E h=>?_) (fun L A C s H G Q E J h=>?_))
 ·obtain⟨v,I,x,y,m,n,rfl,hv,B,l,o,g,-,k⟩:=h
  rfl
 obtain⟨v,I,x,y,m,n,rfl,hv,B,l,o,g,-,k⟩:=h
 refine⟨_,(hV (ig (hW b J (by decide) rfl (gX (ic uv (ic iY (io iH (dv 0) hU (fun _ _=>rfl)) (io iH (dv 1) hU (fun _ _=>rfl))) (ic iY (io iH (dv 1) hU (fun _ _=>rfl)) (io iH (dv 0) hU (fun _ _=>rfl)))) (gX (ic iY (io iH (dv 0) hU (fun _ _=>rfl)) (io iH (dv 1) hU (fun _ _=>rfl))) gY))))),?_⟩
 refine⟨x,hv,.inl ⟨rfl,y,B,.inr ⟨rfl,m9 l.n o.d g,y,B,.inl ⟨rfl,x,hv,.inr ⟨rfl,m9 o.n l.d (by omega),x,hv,.inr ⟨rfl,y,B,.inr ⟨rfl,m9 l.d o.d g,_,_,rfl,dH (kl x) (kl y),l.d.mul o.d g,fun z D n=>k z D ?_⟩⟩⟩⟩⟩⟩⟩
 show New H z (pr (x - y)) D
 rw[Lr.Ex]
 exact n
theorem EX(F:Has K mg "times" wO ae f fd)(M:Env K mg Ad)(b:ie P w K mg base "ratio" 2 ay (kX)):ie P w K mg base "times" 3 ae (oQ K):=by
 refine F.calE (F.fn.okE GZ (fun G H Q E h=>?_) (fun L A C s H G Q E J h=>?_))
 ·obtain⟨v,I,x,y,m,n,rfl,hv,B,l,o,g,-,k⟩:=h
  rfl
 obtain⟨v,I,x,y,m,n,rfl,hv,B,l,o,g,-,k⟩:=h
 refine⟨_,(hV (ig (hW b J (by decide) rfl (gX (ic iY (io iH (dv 0) hU (fun _ _=>rfl)) (io iH (dv 1) hU (fun _ _=>rfl))) (gX (ic iY (io iH (dv 0) hU (fun _ _=>rfl)) (io iH (dv 1) hU (fun _ _=>rfl))) gY))))),?_⟩
 refine⟨x,hv,.inl ⟨rfl,y,B,.inl ⟨rfl,m9 l.n o.n g,x,hv,.inr ⟨rfl,y,B,.inr ⟨rfl,m9 l.d o.d g,_,_,rfl,dH (kl x) (kl y),l.d.mul o.d g,fun z D n=>k z D ?_⟩⟩⟩⟩⟩
 show New H z (pr (x*y)) D
 rw[Lr.DT]
 exact n
theorem FX(F:Has K mg "over" yH ae f fd)(J:Env K mg Ad)(b:ie P w K mg base "ratio" 2 ay (kX)):ie P w K mg base "over" 3 ae (wG K):=by
 refine F.calE (F.fn.okE JL (fun N H Q E h=>?_) (fun M A D s H N Q E L h=>?_))
 ·obtain⟨v,O,x,y,m,n,rfl,hv,l,o,B,g,C,k⟩:=h
  rfl
 obtain⟨v,O,x,y,m,n,rfl,hv,l,o,B,g,C,k⟩:=h
 refine⟨_,(gZ (iw (ij iN (io iH (dv 1) hU (fun _ _=>rfl)) hU (ik _))
   (hV (iQ J.e_Zb rfl (gX (ds [110,111,116,104,105,110,103,32,105,115,32,112,97,114,116,101,100,32,98,121,32,48]) gY)))
   il)
  (hV (ig (hW b L (by decide) rfl (gX (ic iY (io iH (dv 0) hU (fun _ _=>rfl)) (io iH (dv 1) hU (fun _ _=>rfl))) (gX (ic iY (io iH (dv 0) hU (fun _ _=>rfl)) (io iH (dv 1) hU (fun _ _=>rfl))) gY)))))),?_⟩
 have I:y.num≠0:=fun h=>C (Rat.num_eq_zero.mp h)
 refine⟨y,l,.inl ⟨rfl,?_⟩⟩
 refine br (fun c=>absurd c I) (fun _=>?_)
 refine⟨x,hv,.inl ⟨rfl,y,l,.inr ⟨rfl,m9 o.n B.d g,x,hv,.inr ⟨rfl,y,l,.inl ⟨rfl,m9 o.d B.n g,_,_,rfl,dH (kl x) I,o.d.mul B.n g,fun z G n=>k z G ?_⟩⟩⟩⟩⟩
 show New H z (pr (x/y)) G
 rw[Lr.EK x y C]
 exact n
theorem FV(F:Has K mg "less" zJ ae f fd)(D:Env K mg Ad):ie P w K mg base "less" 1 ae (lP K):=by
 refine F.calE (F.fn.okE IP (fun z H Q E h=>?_) (fun C A o s H z Q E G h=>?_))
 ·obtain⟨v,B,x,y,rfl,hv,b,g,l,k⟩:=h
  rfl
 obtain⟨v,B,x,y,rfl,hv,b,g,l,k⟩:=h
 refine⟨_,(hV (ig (ki oO (ic iY (io iH (dv 0) hU (fun _ _=>rfl)) (io iH (dv 1) hU (fun _ _=>rfl))) (ic iY (io iH (dv 1) hU (fun _ _=>rfl)) (io iH (dv 0) hU (fun _ _=>rfl))) (ik _)))),?_⟩
 refine⟨x,hv,.inl ⟨rfl,y,b,.inr ⟨rfl,mm9 g.n l.d,y,b,.inl ⟨rfl,x,hv,.inr ⟨rfl,mm9 l.n g.d,?_⟩⟩⟩⟩⟩
 have e:decide (x<y)=decide (x.num*(y.den:Int)<y.num*(x.den:Int)):=by rw[decide_eq_decide];exact Lr.lt_iff x y
 rw[e] at k
 exact k
theorem yb(F:Has K mg "lesser_of" qt ae f fd)(I:Env K mg Ad)(b:ie P w K mg base "less" 1 ae (lP K)):ie P w K mg base "lesser_of" 2 ae (pP K):=by
 refine F.calE (F.fn.okE zn (fun C H Q E h=>?_) (fun G A o s H C Q E D h=>?_))
 ·obtain⟨v,g,x,y,rfl,hv,l,z,B,k⟩:=h
  rfl
 obtain⟨v,g,x,y,rfl,hv,l,z,B,k⟩:=h
 refine⟨_,(hV (ig (FK (jC (hW b D (by decide) rfl (gX (dv 1) (gX (dv 0) gY)))) (dv 1) (dv 0)))),?_⟩
 refine⟨g,v,y,x,rfl,l,hv,B,z,?_⟩
 refine br (fun c=>?_) (fun c=>?_)
 ·exact k g (by unfold Lr.mn;rw[if_pos c];exact l)
 ·exact k v (by unfold Lr.mn;rw[if_neg c];exact hv)
theorem sw{B D:Int}{k:Nat}(g:0<D)(h:B∣D)(b:Bd k D):Bd k B:=b.of_le (by
 have:=fU.mpr h
 exact gG (by omega) this)
theorem uA(F:Has K mg "common_bottom" mU ["ratios"] f fd)(En:Env K mg Ad)(b:ie P w K mg base "common_divisor" 1 ae (vU)):ie P w K mg base "common_bottom" 2 ["ratios"] (uh K):=by
 refine F.calE (F.fn.okE kU (fun J H Q E h=>?_) (fun Z A O s H J Q E I h=>?_))
 ·obtain⟨a,xs,k,D,rfl,W,o,hk,q⟩:=h
  rfl
 obtain⟨a,xs,k,D,rfl,W,o,hk,q⟩:=h
 refine⟨_,(gZ (iq (i:=1) kU.nd rfl (Or.inl rfl) hU)
  (gZ (lf PassesOwn.leaving rfl (jy (dv 0)) (iW (i:=2) kU.nd rfl (Or.inl rfl))
   (hV (iq (i:=1) kU.nd rfl (Or.inl rfl) (ic iY (dv 1) (ic jk (io iH (dv 2) hU (fun _ _=>rfl)) (hW b I (by decide) rfl (gX (dv 1) (gX (io iH (dv 2) hU (fun _ _=>rfl)) gY))))))))
  (hV (ig (dv 1))))),?_⟩
 obtain⟨J,S,I,he⟩:=W.sq
 refine⟨_,rfl,⟨_,S⟩,no (xs:=J) (fun i N R=>R=H/\ ∃(B:Int) (z:Option V),N=[some (.ref a),some (.int B),z]/\ 0<B/\ B∣D/\ ∀x∈xs.take i,(x.den:Int)∣B) ⟨rfl,1,_,rfl,by decide,Int.one_dvd _,by simp⟩ (fun _ _ _ _ h=>by rw[h.1];exact S) ?_ ?_⟩
 ·rintro i u N R hu ⟨rfl,B,z,rfl,L,l,g⟩
  obtain⟨x,U,hv⟩:=I.get hu
  have M:=bo U
  have hd:=Lr.den_pos x
  have G:=(o.ov x M).den o.pos
  have hg:((cu B x.den:Nat):Int)≠0:=by have:=Int.gcd_pos_of_ne_zero_left (x.den:Int) (show B≠0 by omega);omega
  obtain⟨l1,l2,Y,l4⟩:=Lr.Gk L hd
  have T:Bd 9000 B:=(sw o.pos l o.bd).mono (by omega)
  have X:Bd 9000 (x.den:Int):=(sw o.pos G o.bd).mono (by omega)
  refine⟨x,hv,.inr ⟨rfl,x,hv,.inr ⟨rfl,B,_,rfl,⟨hg,T.of_le ?_⟩,mm9 T X.fdiv,rfl,_,_,rfl,l1,l4 D l G,fun y C=>?_⟩⟩⟩
  ·exact gG (by omega) (Int.gcd_dvd_natAbs_left B x.den)
  ·rw[cx,U] at C
   rcases bS.mp C with C|C
   ·exact Int.dvd_trans (g y C) l2
   ·obtain rfl:y=x:=by simpa using C
    exact Y
 ·rintro N R ⟨rfl,B,z,rfl,L,l,g⟩
  rw[I.len,cg] at g
  exact q B L l g
theorem yg(F:Has K mg "tops_over" nS aJ f fd)(En:Env K mg Ad):ie P w K mg base "tops_over" 1 aJ (um K):=by
 refine F.calE (F.fn.okE Aw (fun N H Q E h=>?_) (fun U A o s H N Q E I h=>?_))
 ·obtain⟨a,O,B,rfl,J,G,L,g,C,b,q⟩:=h
  rfl
 obtain⟨a,O,B,rfl,J,G,L,g,C,b,q⟩:=h
 refine⟨_,(hV (ig (lu (hZ nS) ["bottom"] [0] rfl (jy (dv 1)) (fun z=>(ic iY (io iH (dv 0) hU (fun _ _=>rfl)) (ic jk (dv 1) (io iH (dv 0) hU (fun _ _=>rfl)))))))),?_⟩
 obtain⟨N,W,I,S⟩:=J.sq
 refine⟨_,rfl,⟨_,W⟩,fun D Z X=>?_⟩
 refine IW (fun x=>x.num*(B.fdiv x.den)) X S I b ?_ fun Y T=>?_
 ·exact fun x l u z H' M R h=>⟨x,M,.inl ⟨rfl,x,M,.inr ⟨rfl,⟨kl x,(C x l).d⟩,mm9 (C x l).n L.fdiv,h⟩⟩⟩
 ·refine q D _ Y T ?_
  rw[bM]
  apply cn
  intro x l
  exact Lr.Lx G (g x l)
theorem nr{H:Hp}(b:Env K mg Ad):ip K H (.ref Ad.oNOUGHT) 0:=ip.k b.k_Zp rfl rfl
theorem qG{k:Nat}{D:Int}{cs:List Rat}(b:Ob k D cs)(g:k<=3000)(z:cs.length<=1100)(i:Nat):Sz 3012 (Lr.sm (cs.take i)):=by
 have h1:=Lr.Ov.sm b.pos (M:=2^k) (a:=cs.take i) fun x h=>b.ov x (dY h)
 refine zW b.pos (b.bd.mono g) h1 ?_ (by decide)
 have l:(cs.take i).length<=1100:=by rw[bW];omega
 have o:(2:Nat)^k<=2^3000:=cI (by decide) g
 calc (cs.take i).length*2^k<=1100*2^3000:=fH l o
  _<2^12*2^3000:=Nat.mul_lt_mul_of_pos_right (by decide) (gl (by decide))
  _=2^3012:=by rw[←di]
theorem Fo(F:Has K mg "total" wY aw f fd)(J:Env K mg Ad)(b:ie P w K mg base "plus" 3 ae (qN K)):ie P w K mg base "total" 4 aw (nC K):=by
 refine F.calE (F.fn.okE rV (fun C H Q E h=>?_) (fun T A I s H C Q E o h=>?_))
 ·obtain⟨a,R,k,D,rfl,N,B,S,M,q⟩:=h
  rfl
 obtain⟨a,R,k,D,rfl,N,B,S,M,q⟩:=h
 refine⟨_,(gZ (iq (i:=1) rV.nd rfl (Or.inl rfl) (J.c_Zp.pe rfl))
  (gZ (lf PassesOwn.leaving rfl (jy (dv 0)) (iW (i:=2) rV.nd rfl (Or.inl rfl))
   (hV (iq (i:=1) rV.nd rfl (Or.inl rfl) (hW b o (by decide) rfl (gX (dv 1) (gX (dv 2) gY))))))
  (hV (ig (dv 1))))),?_⟩
 obtain⟨C,O,o,X⟩:=N.sq
 refine⟨_,rfl,⟨_,O⟩,no (xs:=C) (fun i G g=>iu H g/\ ∃(w:V) (z:Option V),G=[some (.ref a),some w,z]/\ ip K g w (Lr.sm (R.take i))) ⟨iu.refl _,_,_,rfl,nr J⟩ (fun _ _ _ _ h=>h.1.seq O) ?_ ?_⟩
 ·rintro i u G g U ⟨s1,w,z,rfl,l⟩
  obtain⟨x,L,hv⟩:=o.get U
  refine⟨w,u,_,x,3012,3001,rfl,l,hv.same s1,qG B S M i,B.sz (by omega) (bo L),by decide,trivial,fun p W n=>?_⟩
  refine⟨s1.trans n.same,_,_,rfl,?_⟩
  rw[Lr.Jh L]
  exact .new n
 ·rintro G g ⟨s1,w,z,rfl,l⟩
  rw[o.len,cg] at l
  exact q w g s1 l
theorem tI(F:Has K mg "look_at_claims" mJ aw f fd)(l:Env K mg Ad)(b:ie P w K mg base "less" 1 ae (lP K)):ie P w K mg base "look_at_claims" 2 aw (rD K Ad):=by
 refine F.calE (F.fn.okE oq (fun L H Q E h=>?_) (fun W A N s H L Q E o h=>?_))
 ·obtain⟨a,J,rfl,S,U,k,G⟩:=h
  rfl
 obtain⟨a,J,rfl,S,U,k,G⟩:=h
 refine⟨_,(gZ (iw (ij rJ (iA kg rfl l.b_len PySem.boot_len (gX (dv 0) gY)) (l.c_Zq.pe rfl) (ik _))
   (hV (iQ l.e_Zd rfl (gX (ds [116,104,101,114,101,32,97,114,101,32,109,111,114,101,32,116,104,97,110,32,101,105,103,104,116,32,99,108,97,105,109,115]) gY)))
   il)
  (hV (lf PassesOwn.leaving rfl (jy (dv 0)) (iW (i:=1) oq.nd rfl (Or.inl rfl))
   (hV (iw (jC (hW b o (by decide) rfl (gX (dv 1) (gX (l.c_Zp.pe rfl) gY))))
   (hV (iQ l.e_Ze rfl (gX (ds [97,32,99,108,97,105,109,32,105,115,32,98,101,108,111,119,32,48]) gY)))
   il))))),?_⟩
 obtain⟨L,I,o,Y⟩:=S.sq
 refine⟨_,.inl I,?_⟩
 refine br (fun c=>?_) (fun c=>?_)
 ·exact⟨by decide,G _ (by unfold lF;rw[if_pos (by rw[o.len] at c;omega)])⟩
 have T:¬8<J.length:=by rw[o.len] at c;omega
 refine⟨_,rfl,⟨_,I⟩,no (xs:=L) (fun i M O=>O=H/\ (∃z,M=[some (.ref a),z])/\ ∀x∈J.take i,¬x<0) ⟨rfl,⟨_,rfl⟩,by simp⟩ (fun _ _ _ _ h=>by rw[h.1];exact I) ?_ ?_⟩
 ·rintro i u M O X ⟨rfl,⟨z,rfl⟩,C⟩
  obtain⟨x,R,hv⟩:=o.get X
  have B:=bo R
  refine⟨u,_,x,0,rfl,hv,nr l,U x B,Sz.zero.mono (by decide),?_⟩
  refine br (fun c=>?_) (fun c=>?_)
  ·refine⟨by decide,G _ ?_⟩
   unfold lF
   rw[if_neg T,if_pos (er.mpr ⟨x,B,decide_eq_true c⟩)]
  ·refine⟨rfl,⟨_,rfl⟩,fun y g=>?_⟩
   rw[cx,R] at g
   rcases bS.mp g with g|g
   ·exact C y g
   ·obtain rfl:y=x:=by simpa using g
    exact c
 ·rintro M O ⟨rfl,⟨z,rfl⟩,C⟩
  rw[o.len,cg] at C
  refine k ?_
  unfold lF
  rw[if_neg T,if_neg]
  intro z
  obtain⟨y,g,D⟩:=er.mp z
  exact C y g (of_decide_eq_true D)
theorem AE(F:Has K mg "look_at" sB aa f fd)(G:Env K mg Ad)(b:ie P w K mg base "look_at_claims" 2 aw (rD K Ad))(g:ie P w K mg base "less" 1 ae (lP K))(l:ie P w K mg base "total" 4 aw (nC K)):ie P w K mg base "look_at" 5 aa (qy K Ad):=by
 refine F.calE (F.fn.okE Di (fun vs H Q E h=>?_) (fun Z A R s H vs Q E I h=>?_))
 ·obtain⟨a,v,o,e,k,D,rfl,M,hv,B,N,q,C⟩:=h
  rfl
 obtain⟨a,v,o,e,k,D,rfl,M,hv,B,N,q,C⟩:=h
 refine⟨_,(gZ (iS (hW b I (by decide) rfl (gX (dv 0) gY)))
  (gZ (iw (jC (hW g I (by decide) rfl (gX (dv 1) (gX (G.c_Zp.pe rfl) gY))))
   (hV (iQ G.e_Zf rfl (gX (ds [116,104,101,32,101,115,116,97,116,101,32,105,115,32,98,101,108,111,119,32,48]) gY)))
   il)
  (hV (iw (jC (hW g I (by decide) rfl (gX (hW l I (by decide) rfl (gX (dv 0) gY)) (gX (dv 1) gY))))
   (hV (iQ G.e_Zf rfl (gX (ds [116,104,101,32,101,115,116,97,116,101,32,105,115,32,109,111,114,101,32,116,104,97,110,32,116,104,101,32,116,111,116,97,108,32,111,102,32,116,104,101,32,99,108,97,105,109,115]) gY)))
   il)))),?_⟩
 have Y:∀c∈o,Sz 9000 c:=fun c S=>(B.sz (m:=3001) (by omega) (bc _ S)).mono (by decide)
 have T:Sz 9000 e:=(B.sz (m:=3001) (by omega) bj).mono (by decide)
 refine⟨a,o,rfl,M,Y,fun J=>?_,fun c S=>C c (by unfold jv;rw[S]) H (iu.refl _)⟩
 have h8:=(qb J).1
 refine⟨v,_,e,0,rfl,hv,nr G,T,Sz.zero.mono (by decide),?_⟩
 refine br (fun c=>?_) (fun c=>?_)
 ·refine⟨by decide,C _ ?_ H (iu.refl _)⟩
  unfold jv
  rw[J]
  exact if_pos (.inl c)
 refine⟨a,o,k,D,rfl,M,B.sub (fun y O=>bc _ O),N,by omega,fun w W s1 X=>?_⟩
 have U:=qG (B.sub (fun y O=>bc _ O)) N (show o.length<=1100 by omega) o.length
 rw[cg] at U
 refine⟨w,v,_,e,rfl,X,hv.same s1,U.mono (by decide),T,?_⟩
 refine br (fun L=>?_) (fun L=>?_)
 ·refine⟨by decide,C _ ?_ W s1⟩
  unfold jv
  rw[J]
  exact if_pos (.inr L)
 ·refine q ?_ W s1
  unfold jv
  rw[J]
  exact if_neg (by rintro(z|z);exact c z;exact L z)
theorem Hl(F:Has K mg "lack" zZ aa f fd)(Z:Env K mg Ad)(b:ie P w K mg base "look_at" 5 aa (qy K Ad))(g:ie P w K mg base "minus" 3 ae (mC K))(l:ie P w K mg base "total" 4 aw (nC K)):ie P w K mg base "lack" 6 aa (ub K Ad):=by
 refine F.calE (F.fn.okE II (fun U H Q E h=>?_) (fun T A L s H U Q E I h=>?_))
 ·obtain⟨a,v,o,e,k,D,rfl,J,hv,C,G,q,N⟩:=h
  rfl
 obtain⟨a,v,o,e,k,D,rfl,J,hv,C,G,q,N⟩:=h
 refine⟨_,(gZ (iS (hW b I (by decide) rfl (gX (dv 0) (gX (dv 1) gY))))
  (hV (ig (hW g I (by decide) rfl (gX (hW l I (by decide) rfl (gX (dv 0) gY)) (gX (dv 1) gY)))))),?_⟩
 refine⟨a,v,o,e,k,D,rfl,J,hv,C,G,fun R H1 s1=>?_,N⟩
 have h8:=(mH R).1
 have B:=C.sub (ys:=o) (fun y W=>bc _ W)
 refine⟨a,o,k,D,rfl,J.same s1,B,G,by omega,fun w Y M S=>?_⟩
 have O:=qG B G (show o.length<=1100 by omega) o.length
 rw[cg] at O
 refine⟨w,v,_,e,3012,3001,rfl,S,hv.same (s1.trans M),O,C.sz (by omega) bj,by decide,trivial,fun z X n=>?_⟩
 exact q R _ X (s1.trans (M.trans n.same)) (.new n)
theorem wf(F:Has K mg "claims_less" mz aK f fd)(X:Env K mg Ad)(g:ie P w K mg base "minus" 3 ae (mC K)):ie P w K mg base "claims_less" 4 aK (rm K):=by
 refine F.calE (F.fn.okE wM (fun T H Q E h=>?_) (fun a0 A J s H T Q E O h=>?_))
 ·obtain⟨a,b,cs,ps,m,n,rfl,I,B,N,U,l,o,M,q⟩:=h
  rfl
 obtain⟨a,b,cs,ps,m,n,rfl,I,B,N,U,l,o,M,q⟩:=h
 refine⟨_,(hV (ig (zQ (hZ mz) [] [] rfl (Et rfl X.b_zip (gX (dv 0) (gX (dv 1) gY))) (fun z=>(jY g O (by decide) rfl (gX (dv 0) (gX (dv 1) gY))))))),?_⟩
 obtain⟨T,hs,O,he⟩:=I.sq
 obtain⟨ws,C,a1,Y⟩:=B.sq
 refine⟨⟨_,hs⟩,⟨_,C⟩,fun D H2 n2=>?_⟩
 refine El (· - ·) n2 I B (by omega) M ?_ fun L s3 G W=>q D L s3 W G
 exact fun x Z y hy u v z H' s' hu hv R h=>⟨u,v,x,y,m,n,rfl,hu,hv,N x Z,U y hy,l,trivial,fun p L S=>h _ L S.same (.new S)⟩
theorem wE(F:Has K mg "gain_level" oZ aa f fd)(En:Env K mg Ad)(o:ie P w K mg base "look_at" 5 aa (qy K Ad))(g:ie P w K mg base "common_bottom" 2 ["ratios"] (uh K))(b:ie P w K mg base "tops_over" 1 aJ (um K))(L:ie P w K mg base "ratio" 2 ay (kX)):ie P w K mg base "gain_level" 6 aa (uo K Ad):=by
 refine F.calE (F.fn.okE jZ (fun vs H Q E h=>?_) (fun b3 A b2 s H vs Q E S h=>?_))
 ·obtain⟨a,v,I,e,k,D,rfl,hL,hv,l,hk,q,qE⟩:=h
  rfl
 obtain⟨a,v,I,e,k,D,rfl,hL,hv,l,hk,q,qE⟩:=h
 refine⟨_,(gZ (iS (hW o S (by decide) rfl (gX (dv 0) (gX (dv 1) gY))))
  (gZ (iq (i:=2) jZ.nd rfl (Or.inl rfl) (hW g S (by decide) rfl (gX (ic vQ (dv 0) (mZ (gX (dv 1) gY))) gY)))
  (gZ (iq (i:=3) jZ.nd rfl (Or.inl rfl) (io iV (hW b S (by decide) rfl (gX (dv 2) (gX (mZ (gX (dv 1) gY)) gY))) hU (fun _ _=>rfl)))
  (gZ (iq (i:=4) jZ.nd rfl (Or.inl rfl) (iA kg rfl En.b_len PySem.boot_len (gX (dv 0) gY)))
  (gZ (lf PassesOwn.leaving rfl (jy (iA FM rfl En.b_sorted PyProof.Rows.boot_sorted (gX (hW b S (by decide) rfl (gX (dv 2) (gX (dv 0) gY))) gY))) (iW (i:=5) jZ.nd rfl (Or.inl rfl))
   (gZ (iw (ij KA (dv 3) (ic iY (dv 5) (dv 4)) (ik _))
   (hV (ig (hW L S (by decide) rfl (gX (dv 3) (gX (ic iY (dv 2) (dv 4)) gY)))))
   il)
  (gZ (iq (i:=3) jZ.nd rfl (Or.inl rfl) (ic uv (dv 3) (dv 5)))
  (hV (iq (i:=4) jZ.nd rfl (Or.inl rfl) (ic uv (dv 4) hU))))))
  (hV (ig (En.c_Zp.pe rfl)))))))),?_⟩
 refine⟨a,v,I,e,k,D,rfl,hL,hv,l,by omega,fun hd H1 s1=>?_,qE⟩
 obtain⟨h8,c0,e0,eT⟩:=mH hd
 have b0:=hL.same s1
 have a6:=hv.same s1
 obtain⟨vs,hs,S,he⟩:=b0.sq
 refine fun p1 H2 n2=>?_
 refine⟨vs,[v],n2.same _ _ he,n2.at_,(by rw[S.len];show I.length+1<=10000000;omega),fun p2 H3 n3=>?_⟩
 have r2:iR K H2 (vs++[v]) (I++[e]):=(S.ts n2.ts).snoc (a6.same n2.same)
 refine⟨p2,I++[e],k,D,rfl,iE.new n3 r2,l.sub (fun y hy=>?_),by omega,fun B U O W=>?_⟩
 ·rcases bS.mp hy with hy|hy
  ·exact bc _ hy
  ·obtain rfl:y=e:=by simpa using hy
   exact bj
 have b9:Bd 9000 B:=(sw l.pos O l.bd).mono (by omega)
 have s3:=s1.trans (n2.same.trans n3.same)
 refine fun p3 H4 n4=>?_
 have s4:=s3.trans n4.same
 refine⟨p3,[e],B,rfl,iE.new n4 (iR.nil.snoc (hv.same s3)),U,b9,fun x J=>W x (bJ _ J),fun x J=>?_,(by show 1<=1000000;decide),fun l1 Z H5 n5 C=>?_⟩
 ·obtain rfl:x=e:=by simpa using J
  exact(l.sz (m:=2501) (by omega) bj).mono (by decide)
 obtain⟨N,rfl,a0⟩:∃N:Int,Z=[N]/\ (N:Rat)=e*(B:Rat):=by
  clear n5
  match Z,C with
  |[],C=>cases C
  |[N],C=>exact⟨N,rfl,(List.cons.inj C).1⟩
  |_::_::_,C=>cases (List.cons.inj C).2
 have s5:=s4.trans n5.same
 refine⟨_,_,SqL.of n5.at_,rfl,?_⟩
 have X:=hL.same s5
 obtain⟨a5,a7,a4,b5⟩:=X.sq
 refine⟨_,.inl a7,?_⟩
 refine⟨a,I,B,rfl,X,U,b9,fun x J=>W x (dD _ J),fun x J=>(l.sz (m:=2501) (by omega) (bc _ J)).mono (by decide),by omega,fun l2 a3 H6 n6 R=>?_⟩
 have a9:a3.length=I.length:=by have:=congrArg eX R;simpa using this
 refine⟨a3,SqL.of n6.at_,by omega,fun l3 ts H7 hp T n7=>?_⟩
 have M:ts.length=I.length:=by rw[hp.length_eq,a9]
 have s7:=s5.trans (n6.same.trans n7.same)
 have tb:∀t∈ts,Bd 2501 t:=by
  intro t ht
  have h1:(t:Rat)∈I.map (· *(B:Rat)):=by rw[←R];exact cr (hp.mem_iff.mp ht)
  obtain⟨c,hc,ec⟩:=bz.mp h1
  have:=Lr.Ll U l.pos O (l.ov c (bc _ hc)) ec.symm
  refine Bd.of_lt (cS this ?_)
  exact Nat.pow_lt_pow_right (by decide) (by omega)
 have a1:((ts.sum:Int):Rat)=Lr.sm I*(B:Rat):=by
  rw[←Lr.DR,Lr.Bn (hp.map _),R,Lr.pC]
 have a2:N<=ts.sum:=by
  have h1:(N:Rat)<=((ts.sum:Int):Rat):=by
   rw[a0,a1]
   exact bU eT (bX (Lr.ni U))
  exact_mod_cast h1
 refine⟨_,rfl,⟨_,SqL.of n7.at_⟩,no (xs:=ts.map V.int) (fun i σ H8=>H8=H7/\ ∃(rest:Int) (z:Option V),σ=[some (.ref a),some v,some (.int B),some (.int rest),some (.int ((ts.length:Int) - i)),z]/\ Lr.Lp ts N i rest)
  ⟨rfl,N,none,(by show [some (V.ref a),some v,some (.int B),some (.int N),some (.int (a5.length:Int)),none]=_;rw[a4.len,M,show((I.length:Int) - ((0:Nat):Int))=I.length by omega]),Lr.Lp.init⟩ (fun _ _ _ _ h=>by rw[h.1];exact SqL.of n7.at_) ?_ ?_⟩
 ·rintro i u σ H8 hu ⟨rfl,rest,z,rfl,Y⟩
  rw[bi] at hu
  obtain⟨x,J,rfl⟩:=bN.mp hu
  have hi:=(aZ.mp J).1
  have b4:(ts.length:Int) - i<=8/\ 0<(ts.length:Int) - i:=by omega
  have bn:Bd 9000 ((ts.length:Int) - i):=(Bd.of_lt (n:=4) (by omega)).mono (by decide)
  have bx:=(tb x (bo J)).mono (show 2501<=9000 by decide)
  refine⟨mm9 bx bn,?_⟩
  refine br (fun c=>?_) (fun c=>?_)
  ·obtain⟨r0,N0,G⟩:=Lr.lz.of_tops U hp R a0 T c0 e0 Y J c
   refine⟨mm9 b9 bn,_,_,rfl,dH (by omega) (by omega),?_,fun z H9 n9=>?_⟩
   ·exact Bd.mul (m:=2500) (n:=4) ((sw l.pos O l.bd).mono (by omega)) (Bd.of_lt (n:=4) (by omega)) (by decide)
   ·exact q hd _ _ H9 (s7.trans n9.same) (.new n9) G (G.ov l.pos (fun c hc=>l.ov c (bc _ hc)) (Lr.Jl U l.pos O (by omega) (by omega) rfl))
  ·refine⟨rfl,rest - x,some (.int x),?_,Y.next T J c⟩
   show [some (V.ref a),some v,some (.int B),some (.int (rest - x)),some (.int ((ts.length:Int) - i - 1)),_]=_
   rw[show(ts.length:Int) - i - 1=(ts.length:Int) - (i+1:Nat) by omega]
 ·rintro σ H8 ⟨rfl,rest,z,rfl,Y⟩
  rw[aX] at Y
  have b1:=Y.end_ a2
  have a8:I=[]:=by
   rw[b1] at M
   exact eO.mp M.symm
  subst a8
  have ez:e=0:=by
   have h1:Lr.sm []=0:=rfl
   rw[h1] at eT
   grind
  exact q hd _ _ H8 s7 (nr En) (Lr.lz.none ez) (Lr.Ov.zero (by have:=l.pos;omega))
theorem Br{k:Nat}{D:Int}{cs:List Rat}{e:Rat}(b:Ob k D (e::cs))(l:cs.length<=8):Ob (k+4) D ((Lr.sm cs - e)::cs):=by
 have h:(2:Nat)^(k+4)=16*2^k:=by rw[di,dr]
 refine⟨b.pos,b.bd.mono (by omega),fun x g=>?_⟩
 rcases bw.mp g with rfl|g
 ·have h1:=Lr.Ov.sm b.pos (M:=2^k) (a:=cs) fun x g=>b.ov x (bc _ g)
  have o:=b.ov e bj
  refine(h1.sub b.pos o).mono ?_
  rw[h]
  have:cs.length*2^k<=8*2^k:=dn _ l
  omega
 ·exact(b.ov x (bc _ g)).mono (by rw[h];omega)
theorem wT(F:Has K mg "loss_level" pv aa f fd)(En:Env K mg Ad)(b:ie P w K mg base "gain_level" 6 aa (uo K Ad))(l:ie P w K mg base "lack" 6 aa (ub K Ad)):ie P w K mg base "loss_level" 7 aa (xg K Ad):=by
 refine F.calE (F.fn.okE yk (fun X H Q E h=>?_) (fun U A I s H X Q E L h=>?_))
 ·obtain⟨a,v,o,e,k,D,rfl,B,hv,z,Z,q,J⟩:=h
  rfl
 obtain⟨a,v,o,e,k,D,rfl,B,hv,z,Z,q,J⟩:=h
 refine⟨_,(hV (ig (hW b L (by decide) rfl (gX (dv 0) (gX (hW l L (by decide) rfl (gX (dv 0) (gX (dv 1) gY))) gY))))),?_⟩
 refine⟨a,v,o,e,k,D,rfl,B,hv,z,by omega,fun N Y H1 s1 T=>?_,J⟩
 obtain⟨M,c0,e0,eT⟩:=mH N
 have C:jv Ad o (Lr.sm o - e)=none:=pc M c0 (by grind) (by grind)
 refine⟨a,Y,o,_,k+4,D,rfl,B.same s1,T,Br z M,by omega,fun _ u g R S W G hg=>q N u g R (s1.trans S) W G hg,fun c O=>?_⟩
 rw[C] at O
 cases O
theorem yt{D:Int}(b:0<D){M:Nat}{x:Rat}(h:Lr.Ov D M x):Lr.Ov (840*D) (840*M) x:=by
 obtain⟨n,rfl,g⟩:=h
 refine⟨840*n,Lr.ja (by omega) ?_,by omega⟩
 rw[bP,bP]
 have:=Lr.iD (n:=n) b
 grind
theorem Cb{k m:Nat}{D:Int}{ps:List Rat}(o:0<D)(b:Bd k D)(l:k<=m)(h:∀p∈ps,Lr.Ov (840*D) (840*2^m) p):Ob (m+10) (840*D) ps:=by
 refine⟨by omega,Bd.mul (m:=10) (n:=k) (Bd.of_lt (by decide)) b (by omega),fun p g=>(h p g).mono ?_⟩
 rw[di,dr]
 exact fw _ (by decide)
theorem CL{k m:Nat}{D:Int}{x:Rat}(o:0<D)(g:Bd k D)(b:k<=m)(h:Lr.Ov (840*D) (840*2^m) x):Sz (m+11) x:=by
 have:=Cb (ps:=[x]) o g b (fun p l=>by rw[bC.mp l];exact h)
 exact this.sz (by omega) bj
theorem Av(F:Has K mg "by_gains" ou aa f fd)(En:Env K mg Ad)(b:ie P w K mg base "gain_level" 6 aa (uo K Ad))(l:ie P w K mg base "lesser_of" 2 ae (pP K)):ie P w K mg base "by_gains" 7 aa (rf K Ad):=by
 refine F.calE (F.fn.okE uO (fun T H Q E h=>?_) (fun a0 A M s H T Q E C h=>?_))
 ·obtain⟨a,v,S,e,k,D,rfl,I,hv,o,hk,q,O⟩:=h
  rfl
 obtain⟨a,v,S,e,k,D,rfl,I,hv,o,hk,q,O⟩:=h
 refine⟨_,(gZ (iq (i:=2) uO.nd rfl (Or.inr rfl) (hW b C (by decide) rfl (gX (dv 0) (gX (dv 1) gY))))
  (hV (ig (lu (hZ ou) ["level"] [2] rfl (jy (dv 0)) (fun z=>(jY l C (by decide) rfl (gX (dv 0) (gX (dv 1) gY)))))))),?_⟩
 refine⟨a,v,S,e,k,D,rfl,I,hv,o,by omega,fun U w' g H1 s1 Y G W=>?_,O⟩
 have zg:Sz 9000 g:=(CL o.pos o.bd (bh _) W).mono (by omega)
 have h8:=(mH U).1
 have B:=I.same s1
 obtain⟨T,hs,C,he⟩:=B.sq
 refine⟨_,rfl,⟨_,hs⟩,fun D2 H2 n2=>?_⟩
 refine oK (fun c=>Lr.mn c g) n2 B (by omega) ?_ fun H3 s3 J X=>?_
 ·exact fun c N u z Z s' hu R h=>⟨u,w',c,g,rfl,hu,Y.same s',(o.sz (m:=2501) (by omega) (bc _ N)).mono (by decide),zg,fun p L=>h p Z (iu.refl _) L⟩
 ·refine q U D2 _ H3 (s1.trans s3) (s1.free X) J ⟨g,G,rfl⟩ ?_
  refine Cb o.pos o.bd (bh k) fun p L=>?_
  obtain⟨c,N,rfl⟩:=bz.mp L
  exact(yt o.pos (o.ov c (bc _ N))).mn W
theorem Bj{f:Rat ->Rat}{cs:List Rat}:dZ (· - ·) cs (cs.map f)=cs.map fun c=>c - f c:=by
 induction cs with
 |nil=>rfl
 |cons c r ih=>rw[bH,List.zipWith_cons_cons,ih,bH]
theorem yh(F:Has K mg "by_losses" nO aa f fd)(En:Env K mg Ad)(o:ie P w K mg base "loss_level" 7 aa (xg K Ad))(b:ie P w K mg base "claims_less" 4 aK (rm K))(B:ie P w K mg base "lesser_of" 2 ae (pP K)):ie P w K mg base "by_losses" 8 aa (xD K Ad):=by
 refine F.calE (F.fn.okE sP (fun vs H Q E h=>?_) (fun a0 A Y s H vs Q E O h=>?_))
 ·obtain⟨a,v,S,e,k,D,rfl,U,hv,C,hk,q,Z⟩:=h
  rfl
 obtain⟨a,v,S,e,k,D,rfl,U,hv,C,hk,q,Z⟩:=h
 refine⟨_,(gZ (iq (i:=2) sP.nd rfl (Or.inr rfl) (hW o O (by decide) rfl (gX (dv 0) (gX (dv 1) gY))))
  (hV (ig (hW b O (by decide) rfl (gX (dv 0) (gX (lu (hZ nO) ["level"] [2] rfl (jy (dv 0)) (fun z=>(jY B O (by decide) rfl (gX (dv 0) (gX (dv 1) gY))))) gY)))))),?_⟩
 refine⟨a,v,S,e,k,D,rfl,U,hv,C,by omega,fun hd w' g H1 s1 hw G hg=>?_,Z⟩
 have zg:Sz 9000 g:=(CL C.pos C.bd (by omega) hg).mono (by omega)
 have h8:=(mH hd).1
 have J:=U.same s1
 obtain⟨vs,hs,O,he⟩:=J.sq
 have N:∀p∈S.map (fun c=>Lr.mn c g),Lr.Ov (840*D) (840*2^(k+4)) p:=by
  intro p L
  obtain⟨c,I,rfl⟩:=bz.mp L
  exact((yt C.pos (C.ov c (bc _ I))).mono (fw _ (cI (by decide) (by omega)))).mn hg
 refine⟨_,rfl,⟨_,hs⟩,fun D2 H2 n2=>?_⟩
 refine oK (fun c=>Lr.mn c g) n2 J (by omega) ?_ fun H3 T W hf=>?_
 ·exact fun c I u z H' s' hu R h=>⟨u,w',c,g,rfl,hu,hw.same s',(C.sz (m:=2501) (by omega) (bc _ I)).mono (by decide),zg,fun p L=>h p H' (iu.refl _) L⟩
 refine⟨a,D2,S,_,2501,2501,rfl,J.same T,W,fun c I=>C.sz (by omega) (bc _ I),fun p L=>(CL C.pos C.bd (by omega) (N p L)).mono (by omega),by decide,by omega,by simp,fun l H4 s4 X M=>?_⟩
 rw[Bj] at M
 refine q hd l _ H4 (s1.trans (T.trans s4)) ((s1.trans T).free X) M ⟨g,G,rfl⟩ ⟨840*D,?_⟩
 refine(Cb (m:=k+5) C.pos C.bd (by omega) fun p L=>?_).mono (by omega)
 obtain⟨c,I,rfl⟩:=bz.mp L
 have h1:=yt C.pos (C.ov c (bc _ I))
 have h2:=N _ (cr I)
 refine(h1.sub (by have:=C.pos;omega) h2).mono ?_
 have e5:(2:Nat)^(k+5)=2*2^(k+4):=by rw[fb,dr]
 have e4:(2:Nat)^k<=2^(k+4):=cI (by decide) (by omega)
 rw[e5]
 omega
theorem yf(F:Has K mg "in_shares" lZ aa f fd)(X:Env K mg Ad)(g:ie P w K mg base "look_at" 5 aa (qy K Ad))(C:ie P w K mg base "total" 4 aw (nC K))(G:ie P w K mg base "over" 3 ae (wG K))(B:ie P w K mg base "times" 3 ae (oQ K)):ie P w K mg base "in_shares" 6 aa (xB K Ad):=by
 refine F.calE (F.fn.okE oW (fun vs H Q E h=>?_) (fun a6 A a4 s H vs Q E N h=>?_))
 ·obtain⟨a,v,o,e,k,D,rfl,Y,hv,b,hk,q,qE⟩:=h
  rfl
 obtain⟨a,v,o,e,k,D,rfl,Y,hv,b,hk,q,qE⟩:=h
 refine⟨_,(gZ (iS (hW g N (by decide) rfl (gX (dv 0) (gX (dv 1) gY))))
  (gZ (iq (i:=2) oW.nd rfl (Or.inl rfl) (hW C N (by decide) rfl (gX (dv 0) gY)))
  (gZ (iw (ij (HR N.units0) (dv 2) (X.c_Zp.pe rfl) (ik _))
   (hV (ig (lu (hZ lZ) [] [] rfl (jy (dv 0)) (fun z=>(X.c_Zp.pe rfl)))))
   il)
  (gZ (iq (i:=3) oW.nd rfl (Or.inr rfl) (hW G N (by decide) rfl (gX (dv 1) (gX (dv 2) gY))))
  (hV (ig (lu (hZ lZ) ["share"] [3] rfl (jy (dv 0)) (fun z=>(jY B N (by decide) rfl (gX (dv 0) (gX (dv 1) gY))))))))))),?_⟩
 refine⟨a,v,o,e,k,D,rfl,Y,hv,b,by omega,fun hd H1 s1=>?_,qE⟩
 obtain⟨h8,c0,e0,eT⟩:=mH hd
 have U:=b.sub (ys:=o) (fun y hy=>bc _ hy)
 have zt:=qG U (show k<=3000 by omega) (show o.length<=1100 by omega) o.length
 rw[cg] at zt
 refine⟨a,o,k,D,rfl,Y.same s1,U,by omega,by omega,fun t H2 s2 ht=>?_⟩
 have l:=s1.trans s2
 have J:=Y.same l
 obtain⟨vs,hs,N,he⟩:=J.sq
 refine⟨_,0,ht,nr X,?_⟩
 refine br (fun c=>?_) (fun c=>?_)
 ·refine⟨_,rfl,⟨_,hs⟩,fun D2 H3 O=>?_⟩
  refine oK (fun _=>0) O J (by omega) ?_ fun H4 s4 a1 hf=>?_
  ·exact fun c hc u z H' s' hu R h=>h _ H' (iu.refl _) (nr X)
  ·refine q hd D2 _ H4 (l.trans s4) (l.free hf) a1 ?_ ⟨D,b.pos,b.bd.mono (by omega),fun p hp=>?_⟩
   ·unfold zI
    simp only[if_pos c]
   ·obtain⟨c,_,rfl⟩:=bz.mp hp
    exact Lr.Ov.zero b.pos
 ·have ze:Sz 2401 e:=b.sz (by omega) bj
  refine⟨v,t,e,_,2401,3012,rfl,hv.same l,ht,ze,zt,by decide,c,fun w' H3 O=>?_⟩
  have zs:Sz 5413 (e/Lr.sm o):=ze.div zt c
  have S:=J.same O.same
  obtain⟨b0,a3,a8,a9⟩:=S.sq
  refine⟨_,rfl,⟨_,a3⟩,fun D2 H4 n4=>?_⟩
  refine oK (fun c=>c*(e/Lr.sm o)) n4 S (by omega) ?_ fun H5 s5 a0 hf=>?_
  ·exact fun c hc u z H' s' hu R h=>⟨u,.ref w',c,_,2401,5413,rfl,hu,(ip.new O).same s',b.sz (by omega) (bc _ hc),zs,by decide,trivial,fun p H6 n6=>h _ H6 n6.same (.new n6)⟩
  ·have a2:=l.trans (O.same.trans s5)
   obtain⟨Z,L,bT⟩:=Lr.Ov.sm b.pos (M:=2^k) (a:=o) fun x hx=>b.ov x (bc _ hx)
   have W:0<=Lr.sm o:=Lr.lE c0
   have I:0<Z:=by
    have h1:0<=Z:=by rw[L] at W;exact(Lr.pV b.pos).mp W
    rcases Int.lt_or_eq_of_le h1 with h|h
    ·exact h
    ·exfalso
     rw[L, ←h,Lr.oM b.pos] at c
     exact c rfl
   refine q hd D2 _ H5 a2 (l.free (O.same.free hf)) a0 ?_ ⟨D*Z,dC b.pos I,Bd.mul (m:=k) (n:=k+4) b.bd (Bd.of_lt (cS bT ?_)) (by omega),fun p hp=>?_⟩
   ·unfold zI
    simp only[if_neg c]
   ·have h1:o.length*2^k<=8*2^k:=dn _ h8
    have p4:(2:Nat)^(k+4)=16*2^k:=by rw[di,dr]
    have p0:0<(2:Nat)^k:=gl (by decide)
    omega
   ·obtain⟨x,hx,rfl⟩:=bz.mp hp
    obtain⟨nx,ex,bx⟩:=b.ov x (bc _ hx)
    obtain⟨ne,ee,be⟩:=b.ov e bj
    refine⟨nx*ne,Lr.ja (dC b.pos I) ?_,?_⟩
    ·have a5:=Lr.ni b.pos
     have a7:=Lr.ni I
     have x1:x*(D:Rat)=(nx:Rat):=by rw[ex];exact Lr.iD b.pos
     have e1:e*(D:Rat)=(ne:Rat):=by rw[ee];exact Lr.iD b.pos
     have t1:Lr.sm o*(D:Rat)=(Z:Rat):=by rw[L];exact Lr.iD b.pos
     rw[bP,bP, ←x1, ←e1, ←t1]
     generalize Lr.sm o=T at c
     grind
    ·rw[dP]
     refine bL (fH bx be) ?_
     rw[←di]
     exact cI (by decide) (by omega)
theorem sf:(Lr.rt 1 2).num=1:=by decide+kernel
theorem sd:(((Lr.rt 1 2).den:Nat):Int)=2:=by decide+kernel
theorem tZ:Lr.rt 1 2=1/2:=by rw[Lr.mX];rfl
theorem ID{D:Int}(b:0<D){M:Nat}{x:Rat}(h:Lr.Ov D M x):Lr.Ov (2*D) M (x*Lr.rt 1 2):=by
 obtain⟨n,rfl,g⟩:=h
 refine⟨n,Lr.ja (by omega) ?_,g⟩
 have:=Lr.iD (n:=n) b
 rw[tZ,bP, ←this]
 show Lr.rt n D*(1/2)*(2*(D:Rat))=_
 grind
theorem EV{D:Int}(b:0<D){M:Nat}{x:Rat}(h:Lr.Ov D M x):Lr.Ov (2*D) (2*M) x:=by
 obtain⟨n,rfl,g⟩:=h
 refine⟨2*n,Lr.ja (by omega) ?_,by omega⟩
 have:=Lr.iD (n:=n) b
 rw[bP,bP]
 show Lr.rt n D*(2*(D:Rat))=2*(n:Rat)
 grind
theorem Bs{k:Nat}{D:Int}{cs:List Rat}{e:Rat}(b:Ob k D (e::cs)):Ob (k+1) (2*D) (e::cs.map (· *Lr.rt 1 2)):=by
 have o:(2:Nat)^(k+1)=2*2^k:=by rw[fb,dr]
 refine⟨by have:=b.pos;omega,?_,fun x g=>?_⟩
 ·have h1:=b.bd
  have l:(D.natAbs)<2^k:=intBits_le_iff.mp h1
  exact Bd.of_lt (by omega)
 ·rcases bw.mp g with rfl|g
  ·exact(EV b.pos (b.ov _ bj)).mono (by omega)
  ·obtain⟨c,h,rfl⟩:=bz.mp g
   exact(ID b.pos (b.ov c (bc _ h))).mono (by omega)
theorem Ba{cs:List Rat}:Lr.sm (cs.map (· *Lr.rt 1 2))=Lr.sm cs*Lr.rt 1 2:=Lr.pC _ _
theorem yj(F:Has K mg "by_halves" nL aa f fd)(En:Env K mg Ad)(N:ie P w K mg base "lack" 6 aa (ub K Ad))(o:ie P w K mg base "claims_less" 4 aK (rm K))(L:ie P w K mg base "times" 3 ae (oQ K))(O:ie P w K mg base "less" 1 ae (lP K))(b:ie P w K mg base "by_gains" 7 aa (rf K Ad)):ie P w K mg base "by_halves" 8 aa (xG K Ad):=by
 refine F.calE (F.fn.okE pj (fun vs H Q E h=>?_) (fun a5 A a4 s H vs Q E U h=>?_))
 ·obtain⟨a,v,S,e,k,D,rfl,hL,hv,M,hk,q,qE⟩:=h
  rfl
 obtain⟨a,v,S,e,k,D,rfl,hL,hv,M,hk,q,qE⟩:=h
 refine⟨_,(gZ (iq (i:=2) pj.nd rfl (Or.inl rfl) (hW N U (by decide) rfl (gX (dv 0) (gX (dv 1) gY))))
  (gZ (ot (k:=3) (hZ nL) [] [] pj.nd rfl (Or.inl rfl) rfl (jy (dv 0)) (fun z=>(jY L U (by decide) rfl (gX (dv 0) (gX (En.c_Zr.pe rfl) gY)))))
  (gZ (iw (nh (jC (hW O U (by decide) rfl (gX (dv 2) (gX (dv 1) gY)))))
   (hV (ig (hW b U (by decide) rfl (gX (dv 3) (gX (dv 1) gY)))))
   il)
  (hV (ig (hW o U (by decide) rfl (gX (dv 0) (gX (hW b U (by decide) rfl (gX (dv 3) (gX (dv 2) gY))) gY)))))))),?_⟩
 refine⟨a,v,S,e,k,D,rfl,hL,hv,M,by omega,fun hd w' H1 s1 hw=>?_,qE⟩
 obtain⟨h8,c0,e0,eT⟩:=mH hd
 have a0:=hL.same s1
 obtain⟨vs,hs,U,he⟩:=a0.sq
 have zh:Sz 2 (Lr.rt 1 2):=⟨by rw[sf];exact Bd.of_lt (by decide),by rw[sd];exact Bd.of_lt (by decide)⟩
 refine⟨_,rfl,⟨_,hs⟩,fun D2 H2 n2=>?_⟩
 refine oK (fun c=>c*Lr.rt 1 2) n2 a0 (by omega) ?_ fun H3 s3 Y hf=>?_
 ·exact fun c J u z H' s' hu R h=>⟨u,_,c,Lr.rt 1 2,2501,2,rfl,hu,ip.k En.k_Zr sf sd,M.sz (by omega) (bc _ J),zh,by decide,trivial,fun p H6 n6=>h _ H6 n6.same (.new n6)⟩
 have I:=s1.trans s3
 have a1:=Br M h8
 have zl:Sz 9000 (Lr.sm S - e):=(a1.sz (m:=2510) (by omega) bj).mono (by decide)
 have ze:Sz 9000 e:=(M.sz (m:=2510) (by omega) bj).mono (by decide)
 have h0:∀c∈S.map (· *Lr.rt 1 2),0<=c:=by
  intro c J
  obtain⟨x,hx,rfl⟩:=bz.mp J
  have:=c0 x hx
  show 0<=x*Lr.rt 1 2
  rw[tZ]
  grind
 refine⟨w',v,_,e,rfl,hw.same s3,hv.same I,zl,ze,?_⟩
 refine brN (fun c=>?_) (fun c=>?_)
 ·have W:jv Ad (S.map (· *Lr.rt 1 2)) e=none:=pc (by simpa using h8) h0 e0 (by rw[Ba,tZ];grind)
  refine⟨D2,v,_,e,k+1,2*D,rfl,Y,hv.same I,Bs M,by omega,fun _ l ps H4 s4 Z T ⟨g,G,C⟩ B=>?_,fun c J=>by rw[W] at J;cases J⟩
  rw[bM] at C
  exact q hd l ps H4 (I.trans s4) (I.free Z) T (.inl ⟨by grind,g,G,C⟩) ⟨_,B.mono (by omega)⟩
 ·have W:jv Ad (S.map (· *Lr.rt 1 2)) (Lr.sm S - e)=none:=pc (by simpa using h8) h0 (by grind) (by rw[Ba,tZ];grind)
  refine⟨D2,w',_,_,k+5,2*D,rfl,Y,hw.same s3,Bs a1,by omega,fun _ l ps H4 s4 Z T ⟨g,G,C⟩ B=>?_,fun c J=>by rw[W] at J;cases J⟩
  rw[bM] at C
  refine⟨a,l,S,ps,2501,6000,rfl,hL.same (I.trans s4),T,fun c J=>M.sz (by omega) (bc _ J),fun p hp=>B.sz (by omega) hp,by decide,by omega,by rw[C];simp,fun l2 H5 s5 a2 X=>?_⟩
  have a3:Ob (k+17) (840*(2*D)) (S.map fun c=>c - Lr.mn (c*Lr.rt 1 2) g):=by
   refine⟨B.pos,B.bd.mono (by omega),fun p hp=>?_⟩
   obtain⟨c,J,rfl⟩:=bz.mp hp
   have h1:=yt (by have:=M.pos;omega) (EV M.pos (M.ov c (bc _ J)))
   have h2:=B.ov (Lr.mn (c*Lr.rt 1 2) g) (by rw[C];exact cr (f:=(fun x=>Lr.mn x g)∘fun x=>x*Lr.rt 1 2) J)
   refine(h1.sub B.pos h2).mono ?_
   have e1:(2:Nat)^(k+17)=131072*2^k:=by rw[di,dr]
   have e2:(2:Nat)^(k+5+10)=32768*2^k:=by rw[Nat.add_assoc,di,dr]
   rw[e1,e2]
   omega
  rw[C,Bj] at X
  exact q hd l2 _ H5 (I.trans (s4.trans s5)) ((I.trans s4).free a2) X (.inr ⟨by grind,g,G,rfl⟩) ⟨_,a3.mono (by omega)⟩
theorem uR{H:Hp}{v:V}{x:Rat}(h:ip K H v x):iR K H [v] [x]:=iR.nil.snoc h
theorem oY(F:Has K mg "look_at_rule_of_path" kJ aP f fd)(D:Env K mg Ad)(b:ie P w K mg base "look_at_rule" 1 aP (oX Ad)):ie P w K mg base "look_at_rule_of_path" 2 aP (pS Ad):=by
 refine F.calE (F.fn.okE pE (fun G H Q E h=>?_) (fun L A B s H G Q E I h=>?_))
 ·obtain⟨s,rfl,q,o⟩:=h
  rfl
 obtain⟨s,rfl,q,o⟩:=h
 refine⟨_,(gZ (iS (hW b I (by decide) rfl (gX (dv 0) gY)))
  (hV (iw (ij iN (dv 0) (ds [116,117,114,110,115]) (ik _))
   (hV (iQ D.e_Zg rfl (gX (ds [97,32,112,97,116,104,32,103,111,101,115,32,98,121,32,115,104,97,114,101,115,44,32,103,97,105,110,115,44,32,108,111,115,115,101,115,32,111,114,32,104,97,108,118,101,115]) gY)))
   il))),?_⟩
 refine⟨s,rfl,fun⟨l,e⟩=>?_,fun z=>o fun l _=>z l⟩
 refine br (fun c=>?_) (fun c=>?_)
 ·refine⟨by decide,o fun C g z=>g ?_⟩
  have J:s=word .tu:=c
  exact lR (z.symm.trans J)
 ·exact q ⟨l,fun z=>c (by rw[e,z];rfl),e⟩
theorem Ks{ts l:List Int}{cs:List Rat}{B:Int}(A:0<B)(F:ts.map (fun t=>Lr.rt t B)=cs)(o:l.Perm (Lt.dd (ts++[0])))(H:l.Pairwise (· <=·)):Lr.Lvl cs (l.map fun t=>Lr.rt t B):=by
 obtain⟨E,G⟩:=Lt.ET (ts++[0])
 have I:l.Nodup:=o.nodup_iff.mpr G
 have D:∀{a b:Int},a<b ->Lr.rt a B<Lr.rt b B:=fun {a b} h=>by
  by_cases z:Lr.rt b B<=Lr.rt a B
  ·have:=(Lr.sG A).mp z
   omega
  ·grind
 refine⟨gK.mpr ((H.and I).imp fun {a b} h=>D (by have h1:=h.1;have J:=h.2;omega)),fun x=>?_⟩
 constructor
 ·intro g
  obtain⟨t,C,rfl⟩:=bz.mp g
  have:=(E t).mp (o.mem_iff.mp C)
  rcases bS.mp this with h|h
  ·exact .inr (by rw[←F];exact cr (f:=fun t=>Lr.rt t B) h)
  ·rw[bC.mp h]
   exact .inl (Lr.oM A)
 ·rintro(rfl|g)
  ·exact bz.mpr ⟨0,o.mem_iff.mpr ((E 0).mpr (bJ _ (by simp))),Lr.oM A⟩
  ·rw[←F] at g
   obtain⟨t,C,rfl⟩:=bz.mp g
   exact bz.mpr ⟨t,o.mem_iff.mpr ((E t).mpr (dD _ C)),rfl⟩
theorem LI{ts:List Int}{cs:List Rat}{B:Int}(b:0<B)(g:ts.map (fun t=>Lr.rt t B)=cs)(m:Int):Est cs (Lr.rt m B)=Lr.rt ((ts.map fun t=>min t m).sum) B:=by
 subst g
 unfold Est
 rw[bM, ←Lr.BH b,bM]
 congr 1
 refine cn fun t _=>?_
 show Lr.mn (Lr.rt t B) (Lr.rt m B)=Lr.rt (min t m) B
 exact Lr.ME b
theorem qS(F:Has K mg "estates_at_claims" jx aw f fd)(N:Env K mg Ad)(b:ie P w K mg base "common_bottom" 2 ["ratios"] (uh K))(g:ie P w K mg base "tops_over" 1 aJ (um K))(l:ie P w K mg base "ratio" 2 ay (kX)):ie P w K mg base "estates_at_claims" 3 aw (yP K):=by
 refine F.calE (F.fn.okE kT (fun vs H Q E h=>?_) (fun a3 A a2 s H vs Q E Z h=>?_))
 ·obtain⟨a,o,k,D,rfl,hL,J,hk,h8,nn,q⟩:=h
  rfl
 obtain⟨a,o,k,D,rfl,hL,J,hk,h8,nn,q⟩:=h
 refine⟨_,(gZ (iq (i:=1) kT.nd rfl (Or.inr rfl) (hW b Z (by decide) rfl (gX (dv 0) gY)))
  (gZ (iq (i:=2) kT.nd rfl (Or.inr rfl) (hW g Z (by decide) rfl (gX (dv 1) (gX (dv 0) gY))))
  (hV (ig (Gw (hZ jx) ["bottom","tops"] [1,2] rfl (jy (iA (ER rfl) rfl N.b_sorted PyProof.Rows.boot_sorted (gX (jo (Ng rfl) rfl N.b_set PyProof.Rows.boot_set (gX (ic vQ (dv 2) (mZ (gX hU gY))) gY)) gY))) (fun z=>(jY l Z (by decide) rfl (gX (iA (LY rfl) rfl N.b_sum PyProof.Rows.boot_sum (gX (lu (Gv (Ga jx) (hZ jx)) ["level"] [0] rfl (jy (dv 2)) (fun z=>(iA (HN rfl) rfl N.b_min PyProof.Rows.boot_min (gX (dv 0) (gX (dv 1) gY))))) gY)) (gX (dv 1) gY))))))))),?_⟩
 refine⟨a,o,k,D,rfl,hL,J,by omega,fun B O Y W=>?_⟩
 have bB:Bd k B:=sw J.pos Y J.bd
 refine⟨a,o,B,rfl,hL,O,bB.mono (by omega),W,fun x I=>(J.sz (m:=700) (by omega) I).mono (by decide),by omega,fun l1 ts H1 n1 ht=>?_⟩
 have hc:ts.map (fun t=>Lr.rt t B)=o:=by
  have e1:=congrArg (List.map fun x:Rat=>x/(B:Rat)) ht
  rw[bM,bM] at e1
  have a4:=Lr.ni O
  have e2:o.map ((fun x=>x/(B:Rat))∘fun x=>x*(B:Rat))=o:=by
   conv=>rhs;rw[←List.map_id o]
   refine cn fun x _=>?_
   show x*(B:Rat)/(B:Rat)=x
   grind
  rw[e2] at e1
  rw[←e1]
  exact cn fun t _=>Lr.mX
 have a5:ts.length=o.length:=by rw[←hc,aX]
 refine fun l2 H2 U=>⟨_,_,U.same _ _ n1.at_,U.at_,(by rw[aX];show _+1<=10000000;omega),fun l3 H3 S=>?_⟩
 have e3:ts.map V.int++[V.int 0]=(ts++[0]).map V.int:=by rw[bZ];rfl
 rw[e3] at S
 refine⟨ts++[0],SqL.of S.at_,(by rw[bf];show _+1<=1000;omega),fun l4 H4 n4=>?_⟩
 have X:(Lt.dd (ts++[0])).length<=9:=by
  have:=Lt.zw (ts++[0]) (ts++[0]).length (bh _)
  rw[cg,bf] at this
  have e:([0]:List Int).length=1:=rfl
  omega
 refine⟨_,n4.at_,by omega,fun lm ms H5 hp M T=>?_⟩
 have a0:ms.length<=9:=by rw[hp.length_eq];exact X
 have L:=Ks O hc hp M
 refine⟨_,rfl,⟨_,SqL.of T.at_⟩,fun D2 H6 n6=>?_⟩
 have s5:=n1.same.trans (U.same.trans (S.same.trans (n4.same.trans T.same)))
 have C:=(U.same.trans (S.same.trans (n4.same.trans T.same))) _ _ n1.at_
 refine xM (xs:=(ms.map fun t=>Lr.rt t B).map (Est o)) n6 (SqL.of T.at_) (by rw[aX];omega) (by rw[aX,aX,aX]) ?_ fun H7 s7 hR hf=>?_
 ·intro j u x hu I z H' s' R k'
  rw[bi] at hu I
  obtain⟨m,hm,rfl⟩:=bN.mp hu
  rw[bi,hm] at I
  cases I
  refine⟨_,rfl,⟨_,SqL.of (s' _ _ C)⟩,fun D3 H8 n8=>?_⟩
  refine DG (fun t=>min t m) n8 (SqL.of (s' _ _ C)) (by omega) (fun w' _ z H' R h=>h) fun H9 n9=>?_
  refine⟨_,SqL.of n9.at_,?_⟩
  refine⟨_,B,rfl,by omega,bB.mono (by omega),fun p a1 G=>k' _ a1 (n9.same.trans G.same) ?_⟩
  rw[LI O hc m]
  exact .new G
 ·exact q D2 _ H7 (s5.trans s7) (s5.free hf) hR L (by rw[aX];exact a0)
theorem Fc{a D:Addr}{us:List V}{o:List Rat}{A:St}{T:CB ->TE}{Q:VK}{C M:Hp}(g:Rat ->Rat)(n:New C D (.lst []) M)(S:SqL K C a us)(O:iR K C us o)(U:o.length<=1000)
  (H:∀x∈o,∀u z b,iu C b ->ip K b u x ->∀R:VK,(∀v G,iu b G ->ip K G v (g x) ->R v G) ->T z (some u::A) b R)(W:∀b,iu C b ->iE K b D (o.reverse.map g) ->C D=none ->Q (.ref D) b):ma (Itv K a us.length) D A T Q M:=by
 have Z:=O.len
 refine uj us.length (fun i B b=>iu C b/\ b D=some (.lst B)/\ iR K b B ((o.reverse.map g).take i)) ⟨n.same,n.at_,.nil⟩ (fun i B b N h=>⟨N,us,h.1.seq S,rfl⟩) (fun B b h=>bh _) ?_ ?_
 ·rintro i B b u J z N ⟨s,E,l⟩ ⟨rfl,Y⟩
  have X:=Y us (s.seq S)
  have I:o[us.length - 1 - i]? =some (o[us.length - 1 - i]'(by omega)):=bg _
  have L:(o.reverse.map g)[i]? =some (g (o[us.length - 1 - i]'(by omega))):=by
   rw[bi,eC (by omega),show o.length - 1 - i=us.length - 1 - i by omega,I]
   rfl
  refine H _ (bo I) u z J s ((O.at_ _ u _ X I).same s) _ fun v G F r=>⟨F _ _ E,?_,fun H4 c=>⟨c.same (s.trans F) n.fr,c.at_,?_⟩⟩
  ·rw[l.len,bW]
   omega
  ·have t:=c.ts (F _ _ E)
   rw[cx,L]
   exact((l.ts F.ts).ts t).snoc (r.ts t)
 ·rintro B b ⟨s,E,l⟩
  rw[cM (by rw[aX,eM];omega)] at l
  exact W b s ⟨B,E,l⟩ n.fr
theorem vc(F:Has K mg "turned_round" lQ aL f fd)(O:Env K mg Ad)(b:ie P w K mg base "minus" 3 ae (mC K)):ie P w K mg base "turned_round" 4 aL (vA K):=by
 refine F.calE (F.fn.okE vZ (fun vs H Q E h=>?_) (fun X A o s H vs Q E l h=>?_))
 ·obtain⟨v,a,T,M,m,n,rfl,hv,C,G,I,g,U,q⟩:=h
  rfl
 obtain⟨v,a,T,M,m,n,rfl,hv,C,G,I,g,U,q⟩:=h
 refine⟨_,(hV (ig (lu (hZ lQ) ["claimed"] [0] rfl (Lb rfl O.b_reversed (gX (dv 1) gY)) (fun z=>(jY b l (by decide) rfl (gX (dv 1) (gX (dv 0) gY))))))),?_⟩
 obtain⟨N,D,l,he⟩:=C.sq
 refine⟨N,D,fun Y H2 n2=>?_⟩
 refine Fc (fun x=>T - x) n2 D l (by omega) ?_ fun H3 W hR J=>q Y H3 W J hR
 exact fun x S u z H' s' Z R h=>⟨v,u,T,x,m,n,rfl,hv.same s',Z,G,I x S,g,trivial,fun p L B=>h _ L B.same (.new B)⟩
theorem GY(us:List V):qi us none (some (-1:Int))=us.dropLast:=by
 unfold qi
 rw[HT.sIx_none,ek,fC,List.dropLast_eq_take]
 congr 1
 show HT.sIx us.length us.length (some (-1:Int))=us.length - 1
 show(if(-1:Int)<0 then((-1:Int)+(us.length:Int)).toNat else min (-1:Int).toNat us.length)=us.length - 1
 rw[if_pos (by decide)]
 omega
theorem yc{H:Hp}{us:List V}{g:List Rat}(h:iR K H us g):iR K H us.dropLast g.dropLast:=by
 refine⟨by rw[cR,cR,h.len],fun j v x hv b=>?_⟩
 rw[eu] at hv b
 split at hv
 ·split at b
  ·exact h.at_ j v x hv b
  ·cases b
 ·cases hv
theorem Dq(x:Rat):∀{ls:List Rat},ls.Pairwise (· <·) ->∃g:List Rat,g.Pairwise (· <·)/\ (∀y,y∈g↔y=x∨y∈ls)/\ g.length<=ls.length+1
 |[],_=>⟨[x],eP _ _,fun y=>by simp,by simp⟩
 | a ::r,h=>by
  have h1:=fE.mp h
  by_cases c1:x<a
  ·refine⟨x::a::r,fE.mpr ⟨fun y b=>?_,h⟩,fun y=>by simp,by simp⟩
   rcases bw.mp b with rfl|b
   ·exact c1
   ·have:=h1.1 y b
    grind
  by_cases c2:x=a
  ·subst c2
   exact⟨x::r,h,fun y=>by simp,by simp⟩
  ·obtain⟨g,o,l,z⟩:=Dq x h1.2
   refine⟨a::g,fE.mpr ⟨fun y b=>?_,o⟩,fun y=>?_,by simp only[bE];omega⟩
   ·rcases(l y).mp b with rfl|b
    ·grind
    ·exact h1.1 y b
   ·rw[bw,l y,bw]
    constructor
    ·rintro(e|e|e)
     ·exact .inr (.inl e)
     ·exact .inl e
     ·exact .inr (.inr e)
    ·rintro(e|e|e)
     ·exact .inr (.inl e)
     ·exact .inl e
     ·exact .inr (.inr e)
theorem Bg:∀cs:List Rat,∃b,Lr.Lvl cs b/\ b.length<=cs.length+1
 |[]=>⟨[0],⟨eP _ _,fun x=>by simp⟩,by simp⟩
 | c::cs=>by
  obtain⟨b,L,o⟩:=Bg cs
  obtain⟨g,l,h,z⟩:=Dq c L.srt
  refine⟨g,⟨l,fun x=>?_⟩,by rw[bE];omega⟩
  rw[h x,L.mem x,bw]
  constructor
  ·rintro(e|e|e)
   ·exact .inr (.inl e)
   ·exact .inl e
   ·exact .inr (.inr e)
  ·rintro(e|e|e)
   ·exact .inr (.inl e)
   ·exact .inl e
   ·exact .inr (.inr e)
theorem KF(cs:List Rat)(g:cs.length<=8):∃b,Lr.Lvl cs b/\ b.length<=9:=by
 obtain⟨b,L,h⟩:=Bg cs
 exact⟨b,L,by omega⟩
theorem rC(F:Has K mg "estates_of_knots" kH ar f fd)(S:Env K mg Ad)(G:ie P w K mg base "total" 4 aw (nC K))(o:ie P w K mg base "estates_at_claims" 3 aw (yP K))(b:ie P w K mg base "turned_round" 4 aL (vA K))(C:ie P w K mg base "times" 3 ae (oQ K)):ie P w K mg base "estates_of_knots" 5 ar (za K):=by
 refine F.calE (F.fn.okE kq (fun vs H Q E h=>?_) (fun b4 A b2 s H vs Q E hr h=>?_))
 ·obtain⟨ρ,a,g,k,D,rfl,a4,hL,O,hk,h8,nn,q⟩:=h
  rfl
 obtain⟨ρ,a,g,k,D,rfl,a4,hL,O,hk,h8,nn,q⟩:=h
 refine⟨_,(gZ (iq (i:=2) kq.nd rfl (Or.inl rfl) (hW G hr (by decide) rfl (gX (dv 1) gY)))
  (gZ (iw (ij (HR hr.units0) (dv 2) (S.c_Zp.pe rfl) (ik _))
   (hV (ig (mZ (gX (S.c_Zp.pe rfl) gY))))
   il)
  (gZ (iw (ij iN (dv 0) (ds [115,104,97,114,101,115]) (ik _))
   (hV (ig (mZ (gX (S.c_Zp.pe rfl) (gX (dv 2) gY)))))
   il)
  (gZ (iq (i:=3) kq.nd rfl (Or.inl rfl) (hW o hr (by decide) rfl (gX (dv 1) gY)))
  (gZ (iw (ij iN (dv 0) (ds [103,97,105,110,115]) (ik _))
   (hV (ig (dv 3)))
   il)
  (gZ (iw (ij iN (dv 0) (ds [108,111,115,115,101,115]) (ik _))
   (hV (ig (hW b hr (by decide) rfl (gX (dv 2) (gX (dv 3) gY)))))
   il)
  (gZ (ot (k:=4) (hZ kH) [] [] kq.nd rfl (Or.inl rfl) rfl (jy (mD Ib (dv 3) nu (pB (mS mT hU)))) (fun z=>(jY C hr (by decide) rfl (gX (dv 0) (gX (S.c_Zr.pe rfl) gY)))))
  (hV (ig (ic vQ (dv 4) (hW b hr (by decide) rfl (gX (dv 2) (gX (dv 4) gY))))))))))))),?_⟩
 have zt:=qG O (show k<=3000 by omega) (show g.length<=1100 by omega) g.length
 rw[cg] at zt
 refine⟨a,g,k,D,rfl,hL,O,by omega,by omega,fun t H1 s1 ht=>?_⟩
 have b0:=hL.same s1
 refine⟨_,0,ht,nr S,?_⟩
 refine br (fun c=>?_) (fun c=>?_)
 ·refine fun l J T=>?_
  have e0:smF g (fun _=>0)=0:=Lr.mf fun x N=>by obtain⟨y,_,rfl⟩:=bz.mp N;rfl
  have hR:iE K J l ([fun _=>(0:Rat)].map (smF g)):=⟨_,T.at_,by
   show iR K J _ [smF g fun _=>0]
   rw[e0]
   exact uR (nr S)⟩
  exact q l [fun _=>0] J (s1.trans T.same) (s1.free T.fr) hR (.inl ⟨c,rfl⟩)
 have zE:∀{B:List Rat},Lr.Lvl g B ->∀e∈B.map (Est g),Sz 700 e:=fun {B} L e Z=>by
  obtain⟨x,N,rfl⟩:=bz.mp Z
  refine zW O.pos O.bd (Lr.Ov.sm O.pos (M:=2^k) (a:=g.map (Lr.mn · x)) fun y hy=>?_) ?_ (by omega)
  ·obtain⟨c,hc,rfl⟩:=bz.mp hy
   exact(O.ov c hc).mn (Ew O L N)
  ·rw[aX]
   have h1:g.length*2^k<=8*2^k:=dn _ h8
   have h2:(2:Nat)^700=2^(700 - k)*2^k:=by rw[←di];congr 1;omega
   have h3:(2:Nat)^100<=2^(700 - k):=cI (by decide) (by omega)
   have h4:0<(2:Nat)^k:=Nat.two_pow_pos k
   have h5:(2:Nat)^100*2^k<=2^(700 - k)*2^k:=dn _ h3
   have h6:8*2^k<(2:Nat)^100*2^k:=Nat.mul_lt_mul_of_pos_right (by decide) h4
   omega
 refine br (fun U=>?_) (fun U=>?_)
 ·have e1:=lR (ρ':=.sh) U
  subst e1
  refine fun l J T=>?_
  refine q l (Lr.kn [] .sh) J (s1.trans T.same) (s1.free T.fr) ⟨_,T.at_,?_⟩ ?_
  ·have e0:smF g (fun _=>0)=0:=Lr.mf fun x N=>by obtain⟨y,_,rfl⟩:=bz.mp N;rfl
   have e2:smF g (fun c=>c)=Lr.sm g:=by unfold smF;rw[gS]
   show iR K J _ [smF g (fun _=>0),smF g fun c=>c]
   rw[e0,e2]
   exact(uR (nr S)).app (uR (ht.same T.same))
  ·obtain⟨B,L,hl⟩:=KF g h8
   exact .inr ⟨c,B,L,hl,rfl⟩
 refine⟨a,g,k,D,rfl,b0,O,hk,h8,nn,fun le B J s2 f2 hE L Y=>?_⟩
 have a3:=ht.same s2
 have I:=s1.trans s2
 have zT:Sz 3012 (Lr.sm g):=zt
 refine br (fun W=>?_) (fun W=>?_)
 ·have e1:=lR (ρ':=.ga) W
  subst e1
  refine q le (Lr.kn B .ga) J I (s1.free f2) ?_ (.inr ⟨c,B,L,Y,rfl⟩)
  show iE K J le ((B.map fun t c=>Lr.mn c t).map (smF g))
  rw[bM]
  exact hE
 refine br (fun a1=>?_) (fun a1=>?_)
 ·have e1:=lR (ρ':=.lo) a1
  subst e1
  refine⟨t,le,_,_,3012,700,rfl,a3,hE,zT,zE L,by decide,by rw[aX];omega,fun l H3 s3 f3 hR=>?_⟩
  refine q l (Lr.kn B .lo) H3 (I.trans s3) (I.free f3) ?_ (.inr ⟨c,B,L,Y,rfl⟩)
  show iE K H3 l ((B.reverse.map fun t c=>c - Lr.mn c t).map (smF g))
  rw[bM]
  rw[←List.map_reverse,bM] at hR
  have e2:B.reverse.map ((fun x=>Lr.sm g - x)∘Est g)=B.reverse.map (smF g∘fun t c=>c - Lr.mn c t):=cn fun t _=>Lr.pL.symm
  rw[←e2]
  exact hR
 have a6:ρ=.ha:=by
  cases ρ with
  |sh=>exact absurd rfl U
  |ga=>exact absurd rfl W
  |lo=>exact absurd rfl a1
  |ha=>rfl
  |tu=>exact absurd rfl a4
 subst a6
 obtain⟨ve,b1,a5,b8⟩:=hE.sq
 refine⟨ve,b1,fun l3 H3 n3=>?_⟩
 rw[show qi ve none (some (-(1:Int)))=ve.dropLast from GY ve] at n3
 have X:iE K H3 l3 (B.map (Est g)).dropLast:=⟨_,n3.at_,yc (a5.ts n3.same.ts)⟩
 rw[←List.map_dropLast] at X
 obtain⟨v3,a8,b6,b7⟩:=X.sq
 have zh:Sz 2 (Lr.rt 1 2):=⟨by rw[sf];exact Bd.of_lt (by decide),by rw[sd];exact Bd.of_lt (by decide)⟩
 have zD:∀e∈B.dropLast.map (Est g),Sz 700 e:=fun e Z=>by
  obtain⟨x,N,rfl⟩:=bz.mp Z
  exact zE L _ (cr ((fj B) N))
 refine⟨_,rfl,⟨_,a8⟩,fun D2 H4 n4=>?_⟩
 refine oK (fun e=>e*Lr.rt 1 2) n4 X (by rw[aX,cR];omega) ?_ fun H5 s5 a2 b5=>?_
 ·exact fun e Z u z H' s' hu R h=>⟨u,_,e,Lr.rt 1 2,700,2,rfl,hu,ip.k S.k_Zr sf sd,zD e Z,zh,by decide,trivial,fun p H6 n6=>h _ H6 n6.same (.new n6)⟩
 have a0:=n3.same.trans s5
 have zL:∀e∈(B.dropLast.map (Est g)).map (fun e=>e*Lr.rt 1 2),Sz 702 e:=fun e Z=>by
  obtain⟨x,N,rfl⟩:=bz.mp Z
  exact(zD x N).mul zh
 refine⟨t,D2,_,_,3012,702,rfl,a3.same a0,a2,zT,zL,by decide,by rw[aX,aX,cR];omega,fun l6 H6 s6 f6 a7=>?_⟩
 obtain⟨v5,e5,r5⟩:=a2
 obtain⟨v6,e6,r6⟩:=a7
 have b3:=r5.len
 have a9:=r6.len
 simp only[aX,cR,eM] at b3 a9
 refine⟨_,_,s6 _ _ e5,e6,by omega,fun l7 H7 n7=>?_⟩
 refine q l7 (Lr.kn B .ha) H7 (I.trans (a0.trans (s6.trans n7.same))) ((I.trans (a0.trans s6)).free n7.fr) ⟨_,n7.at_,?_⟩ (.inr ⟨c,B,L,Y,rfl⟩)
 have r:=(r5.ts (s6.trans n7.same).ts).app (r6.ts n7.same.ts)
 have eA:(Lr.kn B .ha).map (smF g)=(B.dropLast.map (Est g)).map (fun e=>e*Lr.rt 1 2)++((B.dropLast.map (Est g)).map (fun e=>e*Lr.rt 1 2)).reverse.map (fun x=>Lr.sm g - x):=by
  have h1:∀t,Lr.sm (g.map fun c=>Lr.mn (c*Lr.rt 1 2) (t*Lr.rt 1 2))=Est g t*Lr.rt 1 2:=fun t=>by
   unfold Est
   rw[←Lr.pC,bM]
   congr 1
   exact cn fun c _=>Lr.lq c t
  show((B.dropLast.map fun t c=>Lr.mn (c*Lr.rt 1 2) (t*Lr.rt 1 2))++B.dropLast.reverse.map fun t c=>c - Lr.mn (c*Lr.rt 1 2) (t*Lr.rt 1 2)).map (smF g)=_
  rw[bZ,bM,bM,bM, ←List.map_reverse,bM]
  congr 1
  ·exact cn fun t _=>h1 t
  ·refine cn fun t _=>?_
   show Lr.sm (g.map fun c=>c - Lr.mn (c*Lr.rt 1 2) (t*Lr.rt 1 2))=Lr.sm g - Est g t*Lr.rt 1 2
   rw[Lr.pL (F:=fun c=>Lr.mn (c*Lr.rt 1 2) (t*Lr.rt 1 2)),h1]
 rw[eA]
 exact r
theorem Fb{D:Int}:∀{xs:List Rat},(∀x∈xs,∃n:Int,x=Lr.rt n D) ->∃ts:List Int,ts.map (fun t=>Lr.rt t D)=xs
 |[],_=>⟨[],rfl⟩
 |x::xs,h=>by
  obtain⟨ts,e⟩:=Fb fun y hy=>h y (bc _ hy)
  obtain⟨n,b⟩:=h x bj
  exact⟨n::ts,by rw[bH,e,b]⟩
theorem Ji{k:Nat}{D:Int}{cs:List Rat}{e:Rat}(b:Ob k D (e::cs))(nn:∀c∈cs,0<=c)(l:0<=e)(le:e<=Lr.sm cs):Lr.rS cs e:=by
 obtain⟨ts,h⟩:=Fb (D:=D) (xs:=cs) fun x hx=>let⟨n,a,_⟩:=b.ov x (bc _ hx);⟨n,a⟩
 obtain⟨n,g,_⟩:=b.ov e bj
 exact⟨nn,l,le,D,ts,n,b.pos,h,g.symm⟩
theorem xr.snoc{l H:Hp}{cs:List Rat}{vs:List V}{o:List (Rat ->Rat)}{v:V}{F:Rat ->Rat}(h:xr K l H cs vs o)(hv:KnV K l H cs v F):xr K l H cs (vs++[v]) (o++[F]):=by
 refine⟨by rw[bf,bf,h.len];rfl,fun j u G b g=>?_⟩
 by_cases hj:j<vs.length
 ·rw[cA hj] at b
  rw[cA (by rw[←h.len];exact hj)] at g
  exact h.at_ j u G b g
 ·rw[cv (by omega)] at b
  rw[cv (by rw[←h.len];omega), ←h.len] at g
  match hjj:j - vs.length,b,g with
  |0,b,g=>cases b;cases g;exact hv
  |m+1,b,g=>cases b
theorem Hi(F:Has K mg "path" vM ar f fd)(En:Env K mg Ad)(g:ie P w K mg base "look_at_rule_of_path" 2 aP (pS Ad))(B:ie P w K mg base "look_at_claims" 2 aw (rD K Ad))(J:ie P w K mg base "shared" 9 al (qa K Ad))(l:ie P w K mg base "estates_of_knots" 5 ar (za K)):ie P w K mg base "path" 10 ar (wX K Ad):=by
 refine F.calE (F.fn.okE Jr (fun vs H Q E h=>?_) (fun b7 A b5 s H vs Q E hr h=>?_))
 ·obtain⟨s,a,C,k,D,rfl,hL,hO,hk,q,qR,qE⟩:=h
  rfl
 obtain⟨s,a,C,k,D,rfl,hL,hO,hk,q,qR,qE⟩:=h
 refine⟨_,(gZ (iS (hW g hr (by decide) rfl (gX (dv 0) gY)))
  (gZ (iS (hW B hr (by decide) rfl (gX (dv 1) gY)))
  (hV (ig (lu (hZ vM) ar [0,1] rfl (jy (hW l hr (by decide) rfl (gX (dv 0) (gX (dv 1) gY)))) (fun z=>(lC (gX (dv 0) (gX (jY J hr (by decide) rfl (gX (dv 1) (gX (dv 2) (gX (dv 0) gY)))) gY))))))))),?_⟩
 have hz:∀c∈C,Sz 9000 c:=fun c Z=>(hO.sz (m:=700) (by omega) Z).mono (by decide)
 refine⟨s,rfl,fun⟨ρ,hρ,es⟩=>?_,qR⟩
 subst es
 refine⟨a,C,rfl,hL,hz,fun hd=>?_,fun c Z=>qE c ⟨ρ,hρ,rfl⟩ Z⟩
 obtain⟨h8,nn⟩:=qb hd
 refine⟨ρ,a,C,k,D,rfl,hρ,hL,hO,hk,h8,nn,fun le L H1 s1 f1 hE pf=>?_⟩
 obtain⟨ve,a7,a0,b8⟩:=hE.sq
 have b6:=pf.len
 have O:=a0.len
 rw[aX] at O
 have b0:=hL.same s1
 refine⟨_,rfl,⟨_,a7⟩,fun X H2 S=>?_⟩
 refine qd (xs:=ve) (fun i U M=>iu H1 M/\ M X=some (.lst U)/\ xr K H2 M C U (L.take i)) ⟨S.same,S.at_,⟨rfl,fun j v F h=>by cases h⟩⟩ (fun i U M _ h=>h.1.seq a7) ?_ ?_
 ·rintro i u U M z hu ⟨Y,W,I⟩
  have hi:i<L.length:=by rw[←O];exact(aZ.mp hu).1
  have hF:L[i]? =some L[i]:=bg hi
  have a6:=bo hF
  have hv:ip K M u (smF C L[i]):=(a0.at_ i u _ hu (by rw[bi,hF];rfl)).same Y
  obtain⟨G,aG,eG⟩:=pf.af hρ nn a6
  have bG:=aG.sum_bd nn
  have eS:smF C L[i]=Lr.sm (C.map G):=by unfold smF;rw[eG]
  have a8:jv Ad C (smF C L[i])=none:=pc h8 nn (by rw[eS];exact bG.1) (by rw[eS];exact bG.2)
  have b3:=pf.ob hO h8 a6
  have a4:Ob (k+5) (2*D) (smF C L[i]::C):=b3.sub fun y hy=>by
   rcases bw.mp hy with rfl|hy
   ·exact bj
   ·exact bc _ (bJ _ hy)
  refine⟨ρ,a,u,C,smF C L[i],k+5,2*D,rfl,hρ,b0.same Y,hv,a4,by omega,fun _ lp ps H3 s3 f3 hP hR _=>?_,fun c Z=>by rw[a8] at Z;cases Z⟩
  have gd:Lr.rS C (smF C L[i]):=Ji a4 nn (by rw[eS];exact bG.1) (by rw[eS];exact bG.2)
  have b2:ps=C.map L[i]:=by rw[eG];exact aG.shared hρ gd eS.symm hR
  refine fun pt H4 n4=>⟨(s3.trans n4.same) _ _ W,?_,fun H5 c5=>⟨?_,c5.at_,?_⟩⟩
  ·have:=I.len
   rw[bW] at this
   omega
  ·exact c5.same (Y.trans (s3.trans n4.same)) S.fr
  ·have N:iu M H4:=s3.trans n4.same
   have a3:∀b o,H4 b=some o ->b≠X ->H5 b=some o:=fun b o e ne=>(c5.oth b ne).trans e
   have b4:∀b o,H4 b=some (.tup o) ->b≠X:=fun b o e z=>by rw[z,N _ _ W] at e;cases e
   have np:∀p:Addr,H2 p=none ->p≠X:=fun p R z=>by rw[z,S.at_] at R;cases R
   have a5:=c5.ts (N _ _ W)
   have a2:∀{v F},KnV K H2 H4 C v F ->KnV K H2 H5 C v F:=fun {v F} ⟨t,p,w',e,T,R,b,vp,ep,rp⟩=>
    ⟨t,p,w',e,a3 _ _ T (b4 t _ T),R,b.ts a5,vp,a3 _ _ ep (np p R),rp.ts a5⟩
   have a9:H2 lp=none:=by
    have ne:lp≠X:=fun z=>by rw[z,W] at f3;cases f3
    rw[S.oth lp ne]
    exact Y.free f3
   rw[cx,hF]
   refine xr.snoc ⟨I.len,fun j v F T b1=>a2 ((I.at_ j v F T b1).same N)⟩ (a2 ⟨pt,lp,u,rfl,n4.at_,a9,hv.same N,?_⟩)
   have:=hP.same n4.same
   rw[b2] at this
   exact this
 ·rintro U M ⟨Y,W,I⟩
  rw[O,cg] at I
  exact q ρ hρ rfl hd X U L M (s1.trans Y) (s1.free S.fr) W ⟨I.len,fun j v F T b1=>let⟨t,p,w',e,x1,R,r⟩:=I.at_ j v F T b1;⟨t,p,w',e,x1,(s1.trans S.same).free R,r⟩⟩ pf
theorem sJ(F:Has K mg "look_at_amount" mL aA f fd)(l:Env K mg Ad)(b:ie P w K mg base "less" 1 ae (lP K)):ie P w K mg base "look_at_amount" 2 aA (vB K Ad):=by
 refine F.calE (F.fn.okE ux (fun g H Q E h=>?_) (fun X A I s H g Q E z h=>?_))
 ·obtain⟨a,i,v,B,x,rfl,O,hv,T,D,C,L⟩:=h
  rfl
 obtain⟨a,i,v,B,x,rfl,O,hv,T,D,C,L⟩:=h
 refine⟨_,(gZ (iw (PW.pt (mV (ij oO (dv 1) hU (ik _)) (ml (ij Ny (dv 1) (iA kg rfl l.b_len PySem.boot_len (gX (dv 0) gY)) (ik _)))))
   (hV (iQ l.e_Zj rfl (gX (ds [116,104,101,32,110,117,109,98,101,114,32,105,115,32,110,111,32,99,108,97,105,109,101,114,39,115]) gY)))
   il)
  (hV (iw (PW.pt (mV (jC (hW b z (by decide) rfl (gX (dv 2) (gX (l.c_Zp.pe rfl) gY)))) (ml (jC (hW b z (by decide) rfl (gX (io iV (dv 0) (dv 1) (fun _ _=>rfl)) (gX (dv 2) gY)))))))
   (hV (iQ l.e_Zk rfl (gX (ds [116,104,101,32,97,109,111,117,110,116,32,105,115,32,98,101,108,111,119,32,48,32,111,114,32,97,98,111,118,101,32,116,104,101,32,99,108,97,105,109]) gY)))
   il))),?_⟩
 obtain⟨g,R,z,Y⟩:=O.sq
 have Z:=z.len
 refine br (fun c=>?_) (fun c=>?_)
 ·exact⟨by decide,C (.inl c)⟩
 refine⟨g,.inl R,?_⟩
 refine br (fun W=>?_) (fun W=>?_)
 ·exact⟨by decide,C (.inr (by omega))⟩
 obtain⟨j,rfl⟩:∃j:Nat,i=(j:Int):=⟨i.toNat,by omega⟩
 have U:j<g.length:=by omega
 have G:=bg U
 have J:B[j]? =some (B[j]'(by omega)):=bg _
 have M:=z.at_ j _ _ G J
 obtain⟨o,good⟩:=L j _ rfl J
 generalize g[j]=u at G M
 generalize hcc:B[j]'(by omega)=c0 at*
 refine⟨v,_,x,0,rfl,hv,nr l,D,Sz.zero.mono (by decide),?_⟩
 refine br (fun S=>?_) (fun S=>?_)
 ·exact⟨by decide,o (.inl S)⟩
 refine⟨g,u,R,iX G,u,v,c0,x,rfl,M,hv,T c0 (bo J),D,?_⟩
 refine br (fun N=>?_) (fun N=>?_)
 ·exact⟨by decide,o (.inr N)⟩
 exact good (by grind) (by grind)
theorem tL(F:Has K mg "estate_between" mF ax f fd)(En:Env K mg Ad)(z:ie P w K mg base "over" 3 ae (wG K))(l:ie P w K mg base "plus" 3 ae (qN K))(b:ie P w K mg base "minus" 3 ae (mC K))(g:ie P w K mg base "times" 3 ae (oQ K)):ie P w K mg base "estate_between" 4 ax (wZ K):=by
 refine F.calE (F.fn.okE lW (fun vs H Q E h=>?_) (fun a4 A a2 s H vs Q E C h=>?_))
 ·obtain⟨t,u,p,q',j,v,X,w2,e1,e2,Z,b',x,ps,qs,rfl,R,hu,h1,h2,hp,hq,ha,W,hv,D,M,B,J,S,o,q⟩:=h
  rfl
 obtain⟨t,u,p,q',j,v,X,w2,e1,e2,Z,b',x,ps,qs,rfl,R,hu,h1,h2,hp,hq,ha,W,hv,D,M,B,J,S,o,q⟩:=h
 refine⟨_,(gZ (iq (i:=4) lW.nd rfl (Or.inl rfl) (io iV (io oA (dv 0) hU (fun _ _=>rfl)) (dv 2) (fun _ _=>rfl)))
  (gZ (iq (i:=5) lW.nd rfl (Or.inl rfl) (hW z C (by decide) rfl (gX (hW b C (by decide) rfl (gX (io oA (dv 1) hU (fun _ _=>rfl)) (gX (io oA (dv 0) hU (fun _ _=>rfl)) gY))) (gX (hW b C (by decide) rfl (gX (io iV (io oA (dv 1) hU (fun _ _=>rfl)) (dv 2) (fun _ _=>rfl)) (gX (dv 4) gY))) gY))))
  (hV (ig (hW l C (by decide) rfl (gX (io oA (dv 0) hU (fun _ _=>rfl)) (gX (hW g C (by decide) rfl (gX (hW b C (by decide) rfl (gX (dv 3) (gX (dv 4) gY))) (gX (dv 5) gY))) gY))))))),?_⟩
 obtain⟨vp,Y,L,a5⟩:=hp.sq
 obtain⟨vq,a1,I,a3⟩:=hq.sq
 have T:j<vp.length:=by rw[L.len];exact(aZ.mp ha).1
 have a0:j<vq.length:=by rw[I.len];exact(aZ.mp W).1
 have gp:=bg T
 have U:=bg a0
 have rp:=L.at_ j _ _ gp ha
 have rq:=I.at_ j _ _ U W
 generalize vp[j]=up at gp rp
 generalize vq[j]=uq at U rq
 refine⟨_,_,SqT.of R,rfl,_,up,Y,iX gp,?_⟩
 refine⟨_,_,SqT.of hu,rfl,_,_,SqT.of R,rfl,w2,X,e2,e1,800,800,rfl,h2,h1,M,D,by decide,trivial,fun d1 H1 G=>?_⟩
 refine⟨_,_,SqT.of (G.same _ _ hu),rfl,_,uq,G.same.seq a1,iX U,?_⟩
 refine⟨uq,up,b',Z,800,800,rfl,rq.same G.same,rp.same G.same,J,B,by decide,trivial,fun d2 H2 n2=>?_⟩
 refine⟨.ref d1,.ref d2,_,_,1601,1601,rfl,(ip.new G).same n2.same,.new n2,M.sub D,J.sub B,by decide,o,fun d3 H3 n3=>?_⟩
 have N:=G.same.trans (n2.same.trans n3.same)
 refine⟨_,_,SqT.of (N _ _ R),rfl,v,up,x,Z,800,800,rfl,hv.same N,rp.same N,S,B,by decide,trivial,fun d4 H4 O=>?_⟩
 refine⟨.ref d4,.ref d3,_,_,1601,3202,rfl,.new O,(ip.new n3).same O.same,S.sub B,(M.sub D).div (J.sub B) o,by decide,trivial,fun d5 H5 n5=>?_⟩
 refine⟨X,.ref d5,_,_,800,4803,rfl,h1.same (N.trans (O.same.trans n5.same)),.new n5,D,(S.sub B).mul ((M.sub D).div (J.sub B) o),by decide,trivial,fun d6 H6 n6=>?_⟩
 exact q d6 H6 (.inr ⟨N.trans (O.same.trans (n5.same.trans n6.same)),.new n6⟩)
theorem CV(F:Has K mg "needed" vy av f fd)(En:Env K mg Ad)(R:ie P w K mg base "path" 10 ar (wX K Ad))(g:ie P w K mg base "look_at_amount" 2 aA (vB K Ad))(T:ie P w K mg base "less" 1 ae (lP K))(b:ie P w K mg base "estate_between" 4 ax (wZ K)):ie P w K mg base "needed" 11 av (sX K Ad):=by
 refine F.calE (F.fn.okE pQ (fun vs H Q E h=>?_) (fun b5 A b3 s H vs Q E hr h=>?_))
 ·obtain⟨s,a,i,v,J,x,k,D,rfl,hL,hv,hO,hk,hx,q,qR,qE,qC,qA⟩:=h
  rfl
 obtain⟨s,a,i,v,J,x,k,D,rfl,hL,hv,hO,hk,hx,q,qR,qE,qC,qA⟩:=h
 refine⟨_,(gZ (iq (i:=4) pQ.nd rfl (Or.inl rfl) (hW R hr (by decide) rfl (gX (dv 0) (gX (dv 1) gY))))
  (gZ (iS (hW g hr (by decide) rfl (gX (dv 1) (gX (dv 2) (gX (dv 3) gY)))))
  (gZ (iq (i:=5) pQ.nd rfl (Or.inl rfl) hU)
  (gZ (vx PassesOwn.leaving (jC (hW T hr (by decide) rfl (gX (io iV (io oA (io iV (dv 4) (dv 5) (fun _ _=>rfl)) hU (fun _ _=>rfl)) (dv 2) (fun _ _=>rfl)) (gX (dv 3) gY))))
   (hV (iq (i:=5) pQ.nd rfl (Or.inl rfl) (ic jL (dv 5) hU))))
  (gZ (iw (ij iN (dv 5) hU (ik _))
   (hV (ig (En.c_Zp.pe rfl)))
   il)
  (hV (ig (hW b hr (by decide) rfl (gX (io iV (dv 4) (ic uv (dv 5) hU) (fun _ _=>rfl)) (gX (io iV (dv 4) (dv 5) (fun _ _=>rfl)) (gX (dv 2) (gX (dv 3) gY)))))))))))),?_⟩
 refine⟨s,a,J,k,D,rfl,hL,hO,hk,fun ρ C es hd l us o X s1 f1 hl hK pf=>?_,qR,qE⟩
 obtain⟨h8,nn⟩:=qb hd
 have hz:∀c∈J,Sz 9000 c:=fun c O=>(hO.sz (m:=700) (by omega) O).mono (by decide)
 refine⟨a,i,v,J,x,rfl,hL.same s1,hv.same s1,hz,hx.mono (by decide),fun c=>qC ⟨ρ,C,es⟩ hd c X s1,fun j c ei O=>⟨fun z=>qA j c ⟨ρ,C,es⟩ hd ei O z X s1,fun x0 xc=>?_⟩⟩
 obtain⟨F0,a6,z0⟩:=pf.head C nn
 obtain⟨FL,a3,zL⟩:=pf.last C nn
 subst ei
 have N:=bo O
 have a8:=hK.len
 have a1:=hv.same s1
 have a2:∀F∈o,Sz 700 (smF J F)/\ Sz 700 (F c):=fun F hF=>by
  have hb:=pf.ob hO h8 hF
  exact⟨hb.sz (by omega) bj,hb.sz (by omega) (bc _ (dD _ (cr N)))⟩
 have a4:∀(m:Nat) F,o[m]? =some F ->∃(t p:Addr) (w':V) (U:List V) (up:V),us[m]? =some (.ref t)/\ X t=some (.tup [w',.ref p])/\ ip K X w' (smF J F)/\ iE K X p (J.map F)/\ SqL K X p U/\ U[j]? =some up/\ ip K X up (F c):=fun m F hF=>by
  have hm:m<us.length:=by rw[a8];exact Lr.jz hF
  have gu:=bg hm
  obtain⟨t,p,w',e1,e2,_,e3,e4⟩:=hK.at_ m _ F gu hF
  obtain⟨U,a9,a5,b6⟩:=e4.sq
  have a0:j<U.length:=by
   have:=a5.len
   rw[aX] at this
   have:=Lr.jz O
   omega
  refine⟨t,p,w',U,U[j],by rw[gu,e1],e2,e3,e4,a9,bg a0,a5.at_ j _ _ (bg a0) (by rw[bi,O];rfl)⟩
 refine whl (fun m σ H'=>H'=X/\ ∃n:Nat,σ=[some (.str s),some (.ref a),some (.int (j:Int)),some v,some (.ref l),some (.int (n:Int))]/\ n<o.length/\ m=o.length - n/\ ∀n' F,n'<n ->o[n']? =some F ->F c<x) _ ⟨rfl,0,rfl,Lr.jz a6,rfl,fun n' F h=>by omega⟩ ?_
 rintro m σ H' ⟨rfl,n,rfl,hn,rfl,W⟩
 have I:o[n]? =some o[n]:=bg hn
 obtain⟨t,p,w',U,up,g1,g2,g3,g4,g5,g6,g7⟩:=a4 n _ I
 have Y:=a2 _ (bo I)
 refine⟨us,_,SqL.of hl,iX g1,_,_,SqT.of g2,rfl,U,up,g5,iX g6,up,v,_,x,rfl,g7,a1,Y.2.mono (by decide),hx.mono (by decide),?_⟩
 refine br (fun cw=>zM ?_) (fun cw=>?_)
 ·have Z:n+1<o.length:=by
   refine Classical.byContradiction fun z=>?_
   have e:n=o.length - 1:=by omega
   rw[←e,I] at a3
   cases a3
   have:=zL c N
   grind
  refine⟨_,by omega,rfl,n+1,?_,Z,rfl,fun n' F h1 h2=>?_⟩
  ·show _=_
   rw[show((n+1:Nat):Int)=(n:Int)+1 by omega]
   rfl
  ·by_cases e:n'=n
   ·subst e
    rw[I] at h2
    cases h2
    exact cw
   ·exact W n' F (by omega) h2
 ·refine br (fun cz=>?_) (fun cz=>?_)
  ·have n0:n=0:=by omega
   subst n0
   rw[a6] at I
   have e0:=Option.some.inj I
   rw[←e0,z0 c N] at cw
   have ex:x=0:=by grind
   refine q ρ j c C es hd rfl O x0 xc _ H' s1 ?_
   unfold kO
   rw[if_pos ex]
   exact nr En
  ·obtain⟨B,rfl⟩:∃B,n=B+1:=⟨n - 1,by omega⟩
   have Z:B<o.length:=by omega
   have M:o[B]? =some o[B]:=bg Z
   obtain⟨t2,p2,w2,b7,b4,k1,k2,k3,k4,k5,k6,k7⟩:=a4 B _ M
   have a7:=a2 _ (bo M)
   have lo:=W B _ (by omega) M
   have S:=pf.seg C nn B _ _ M I
   have b2:o[B+1] c - o[B] c≠0:=by grind
   have ix:((B+1:Nat):Int) - 1=((B:Nat):Int):=by omega
   refine⟨us,.ref t2,SqL.of hl,by rw[ix];exact iX k1,us,_,SqL.of hl,iX g1,?_⟩
   have gA:(J.map o[B])[j]? =some (o[B] c):=by rw[bi,O];rfl
   have gB:(J.map o[B+1])[j]? =some (o[B+1] c):=by rw[bi,O];rfl
   refine⟨t2,t,p2,p,j,v,w2,w',_,_,_,_,x,_,_,rfl,k2,g2,k3,g3,k4,g4,gA,gB,a1,a7.1.mono (by decide),Y.1.mono (by decide),a7.2.mono (by decide),Y.2.mono (by decide),hx,b2,fun z H3 L=>?_⟩
   have sR:iu H' H3/\ ip K H3 (.ref z) (smF J o[B]+(x - o[B] c)*((smF J o[B+1] - smF J o[B])/(o[B+1] c - o[B] c))):=by
    rcases L with L|L
    ·exact⟨L.same,.new L⟩
    ·exact L
   have b1:x≠0:=by
    intro z
    have f0:0<=o[B] c:=by
     obtain⟨G,aG,eG⟩:=pf.af C nn (bo M)
     have e1:(J.map o[B])[j]? =(J.map G)[j]?:=by rw[eG]
     rw[bi,bi,O] at e1
     have e2:o[B] c=G c:=Option.some.inj e1
     rw[e2]
     exact aG.fam.b0 c (nn c N)
    grind
   refine q ρ j c C es hd rfl O x0 xc _ H3 (s1.trans sR.1) ?_
   unfold kO
   rw[if_neg b1]
   have:=S.at_ N lo (by grind)
   unfold smF
   rw[←this]
   exact sR.2
theorem Ec(F:Has K mg "shown" xf ["one"] f fd)(l:Env K mg Ad):ie P w K mg base "shown" 1 ["one"] (jT K):=by
 refine F.calE (F.fn.okE Ao (fun o H Q E h=>?_) (fun B A g s H o Q E D h=>?_))
 ·obtain⟨v,x,rfl,hv,b,k⟩:=h
  rfl
 obtain⟨v,x,rfl,hv,b,k⟩:=h
 refine⟨_,(gZ (iq (i:=1) Ao.nd rfl (Or.inl rfl) (jo mh rfl l.b_str PyProof.Rows.boot_str (gX (io iH (dv 0) hU (fun _ _=>rfl)) gY)))
  (gZ (iw (ij iN (io iH (dv 0) hU (fun _ _=>rfl)) hU (ik _))
   (hV (ig (dv 1)))
   il)
  (hV (ig (ic iG (ic iG (dv 1) (ds [47])) (jo mh rfl l.b_str PyProof.Rows.boot_str (gX (io iH (dv 0) hU (fun _ _=>rfl)) gY))))))),?_⟩
 refine⟨x,hv,.inl ⟨rfl,b.n,x,hv,.inr ⟨rfl,?_⟩⟩⟩
 have z:=Lr.den_pos x
 refine br (fun c=>?_) (fun c=>?_)
 ·unfold wrR at k
  rw[c,Fp] at k
  exact k
 ·unfold wrR at k
  rw[DH c z] at k
  have G:=tU b.n
  have C:=tU b.d
  refine⟨_,_,rfl,rfl,(by show _+1<=100000;omega),x,hv,.inr ⟨rfl,b.d,_,_,rfl,rfl,?_,k⟩⟩
  rw[bf]
  show _+1+_<=100000
  omega
theorem vF(F:Has K mg "figures_read" nE ["figures"] f fd)(b:Env K mg Ad):ie P w K mg base "figures_read" 1 ["figures"] (wn Ad):=by
 refine F.calE (F.fn.okE pU (fun J H Q E h=>?_) (fun M A D s H J Q E N h=>?_))
 ·obtain⟨l,rfl,L,k,o⟩:=h
  rfl
 obtain⟨l,rfl,L,k,o⟩:=h
 refine⟨_,(gZ (iw (ij iN (dv 0) (ds []) (ik _))
   (hV (iQ b.e_Zc rfl (gX (ds [102,105,103,117,114,101,115,32,97,114,101,32,109,105,115,115,105,110,103]) gY)))
   il)
  (gZ (iw (ij rJ (iA og rfl b.b_len PySem.boot_len (gX (dv 0) gY)) (b.c_MOST_FIGURES.pe rfl) (ik _))
   (hV (iQ b.e_Zc rfl (gX (ds [116,104,101,114,101,32,97,114,101,32,109,111,114,101,32,116,104,97,110,32,115,105,120,116,121,32,102,105,103,117,114,101,115,32,111,110,32,116,111,112,32,111,114,32,98,101,108,111,119]) gY)))
   il)
  (gZ (lf PassesOwn.leaving rfl (yC (dv 0)) (iW (i:=1) pU.nd rfl (Or.inl rfl))
   (hV (iw (ij AA (dv 1) (b.c_FIGURES.pe rfl) (by with_unfolding_all rfl))
   (hV (iQ b.e_Zc rfl (gX (ds [116,104,101,114,101,32,105,115,32,97,32,115,105,103,110,32,116,104,97,116,32,105,115,32,110,111,32,102,105,103,117,114,101]) gY)))
   il)))
  (hV (ig (jo me rfl b.b_int PyProof.Rows.boot_int (gX (dv 0) gY))))))),?_⟩
 refine br (fun c=>?_) (fun c=>?_)
 ·have e:l=[]:=li c
  exact⟨by decide,o (by unfold Lt.fgs;rw[if_pos e])⟩
 have B:l≠[]:=fun e=>c (by rw[e])
 refine⟨l,rfl,by omega,?_⟩
 refine br (fun c=>?_) (fun c=>?_)
 ·exact⟨by decide,o (by unfold Lt.fgs;rw[if_neg B,if_pos (by omega)])⟩
 refine⟨l,rfl,?_⟩
 refine Kh (fun i C G=>G=H/\ (∃z,C=[some (.str (tx l)),z])/\ ∀d∈l.take i,48<=d/\ d<=57) ⟨rfl,⟨_,rfl⟩,by simp⟩ ?_ ?_
 ·rintro i d C G I ⟨rfl,⟨z,rfl⟩,ha⟩
  refine⟨d,_,rfl,rfl,?_⟩
  refine brN (fun m=>?_) (fun m=>?_)
  ·refine⟨by decide,o ?_⟩
   unfold Lt.fgs
   rw[if_neg B,if_neg (by omega),if_neg]
   exact fun z=>m (Ii.mpr (z d (bF.mpr ⟨i,I⟩)))
  ·refine⟨rfl,⟨_,rfl⟩,fun x g=>?_⟩
   rw[cx,I] at g
   rcases bS.mp g with g|g
   ·exact ha x g
   ·have:x=d:=by simpa using g
    subst this
    exact Ii.mp m
 ·rintro C G ⟨rfl,⟨z,rfl⟩,ha⟩
  rw[cg] at ha
  have O:l.length<=60:=by omega
  refine⟨l,((Lt.val l:Nat):Int),rfl,?_,by omega,k _ (by unfold Lt.fgs;rw[if_neg B,if_neg (by omega),if_pos (show Lt.pD l from ha)])⟩
  have:=intText_digits (x:=tx l) (by rw[jt];exact ha) (by rw[jt];exact B) (by rw[iK];omega)
  rw[jt] at this
  exact this
theorem yM(F:Has K mg "top_read" rK aV f fd)(N:Env K mg Ad)(b:ie P w K mg base "figures_read" 1 ["figures"] (wn Ad)):ie P w K mg base "top_read" 2 aV (zi Ad):=by
 refine F.calE (F.fn.okE AN (fun I H Q E h=>?_) (fun M A C s H I Q E D h=>?_))
 ·obtain⟨l,rfl,z,k,o⟩:=h
  rfl
 obtain⟨l,rfl,z,k,o⟩:=h
 refine⟨_,(gZ (iw (jC (kW cZ gr PySem.F.type_str_startswith xV (dv 0) (gX (ds [45]) gY)))
   (hV (ig (mS mT (hW b D (by decide) rfl (gX (mD vO (dv 0) (pB hU) nu) gY)))))
   il)
  (hV (ig (hW b D (by decide) rfl (gX (dv 0) gY))))),?_⟩
 refine⟨rfl,l,45,rfl,rfl,?_⟩
 refine br (fun c=>?_) (fun c=>?_)
 ·cases l with
  |nil=>cases c
  |cons d r=>
   have G:d=45:=by simpa using c
   subst G
   have B:Lt.lY (45::r)=(Lt.fgs r).map fun(n:Nat)=> -(n:Int):=by unfold Lt.lY;rw[if_pos (by rfl)];rfl
   rw[B] at k o
   obtain⟨L,J⟩:=Em (c:=45) (r:=r)
   refine⟨45::r,rfl,by omega,J,?_⟩
   rw[L]
   refine⟨r,rfl,(by rw[bE] at z;omega),fun n g=>?_,fun g=>o (by rw[g];rfl)⟩
   exact k _ (by rw[g];rfl)
 ·have B:Lt.lY l=(Lt.fgs l).map fun(n:Nat)=>(n:Int):=by unfold Lt.lY;rw[if_neg c]
  rw[B] at k o
  exact⟨l,rfl,z,fun n g=>k _ (by rw[g];rfl),fun g=>o (by rw[g];rfl)⟩
theorem HE{a b c:V}:atI [a,b,c] 0=some a:=rfl
theorem HH{a b c:V}:atI [a,b,c] 1=some b:=rfl
theorem Mp{a b c:V}:atI [a,b,c] 2=some c:=rfl
theorem Gj(F:Has K mg "read" Am aV f fd)(En:Env K mg Ad)(B:ie P w K mg base "top_read" 2 aV (zi Ad))(G:ie P w K mg base "ratio" 2 ay (kX))(g:ie P w K mg base "figures_read" 1 ["figures"] (wn Ad))(I:ie P w K mg base "shown" 1 ["one"] (jT K)):ie P w K mg base "read" 3 aV (vt K Ad):=by
 refine F.calE (F.fn.okE oG (fun vs H Q E h=>?_) (fun a1 A a0 s H vs Q E X h=>?_))
 ·obtain⟨l,rfl,hl,k,M⟩:=h
  rfl
 obtain⟨l,rfl,hl,k,M⟩:=h
 refine⟨_,(gZ (iq (i:=1) oG.nd rfl (Or.inl rfl) (kW cZ gC PySem.F.type_str_partition Ag (dv 0) (gX (ds [47]) gY)))
  (gZ (iq (i:=2) oG.nd rfl (Or.inl rfl) (hW B X (by decide) rfl (gX (io oA (dv 1) hU (fun _ _=>rfl)) gY)))
  (gZ (iq (i:=3) oG.nd rfl (Or.inl rfl) hU)
  (gZ (iw (ij iN (io oA (dv 1) hU (fun _ _=>rfl)) (ds [47]) (ik _))
   (hV (iq (i:=3) oG.nd rfl (Or.inl rfl) (hW g X (by decide) rfl (gX (io oA (dv 1) hU (fun _ _=>rfl)) gY))))
   il)
  (gZ (iw (ij iN (dv 3) hU (ik _))
   (hV (iQ En.e_Zc rfl (gX (ds [116,104,101,32,98,111,116,116,111,109,32,105,115,32,48]) gY)))
   il)
  (gZ (iq (i:=4) oG.nd rfl (Or.inl rfl) (hW G X (by decide) rfl (gX (dv 2) (gX (dv 3) gY))))
  (gZ (iw (ij oU (hW I X (by decide) rfl (gX (dv 4) gY)) (dv 0) (ik _))
   (hV (iQ En.e_Zc rfl (gX (ds [110,111,32,114,97,116,105,111,32,105,115,32,119,114,105,116,116,101,110,32,115,111]) gY)))
   il)
  (hV (ig (dv 4)))))))))),?_⟩
 refine⟨rfl,l,47,rfl,rfl,by omega,fun a b el Z t ft=>?_,fun Z t ft=>?_⟩
 ·-- with a stroke
  have n:=New.mk' (o:=.tup [.str (tx a),.str (tx [47]),.str (tx b)]) ft
  generalize upd H t (.tup [.str (tx a),.str (tx [47]),.str (tx b)])=H1 at n ⊢
  have a2:a.length+1+b.length<=1000:=by
   have:=congrArg eX el
   simp at this
   omega
  have N:Lt.my l=(Lt.lY a).bind fun t=>(Lt.fgs b).bind fun n=>Lt.fin l t n:=by
   unfold Lt.my
   rw[el,Lt.pz Z]
  refine⟨_,_,SqT.of n.at_,HE,?_⟩
  refine⟨a,rfl,by omega,fun J R=>?_,fun U=>M (by rw[N,U];rfl) _ n.same⟩
  refine⟨_,_,SqT.of n.at_,HH,?_⟩
  refine⟨_,_,SqT.of n.at_,Mp,?_⟩
  refine⟨b,rfl,by omega,fun bt hb=>?_,fun U=>M (by rw[N,R,U];rfl) _ n.same⟩
  have O:Lt.my l=Lt.fin l J bt:=by rw[N,R,hb];rfl
  have W:((bt:Nat):Int).natAbs<10^60:=by have:=Lt.rR hb;omega
  have s1:=n.same
  refine br (fun c=>?_) (fun c=>?_)
  ·exact⟨by decide,M (by rw[O];unfold Lt.fin;rw[if_pos c]) _ s1⟩
  refine⟨J,_,rfl,c,(wK W).mono (by decide),fun z Y L=>?_⟩
  have T:=cS (Lm.vS J _ c) (Lt.pN R)
  have S:=cS (Lm.wj J _ c) W
  obtain⟨D,C⟩:=Lr.ul (a:=J) c
  rw[D] at T
  rw[C] at S
  refine⟨_,_,rfl,ip.new L,⟨(wK T).mono (by decide),(wK S).mono (by decide)⟩,?_⟩
  refine brN (fun d=>?_) (fun d=>?_)
  ·exact⟨by decide,M (by rw[O];unfold Lt.fin;rw[if_neg c,if_neg (fun w=>d (by rw[D,C] at w;exact congrArg tx w))]) _ (s1.trans L.same)⟩
  ·refine k _ (by rw[O];unfold Lt.fin;rw[if_neg c,D,C,if_pos (show Lt.wr _ _=l from li d)]) _ Y (s1.trans L.same) (ip.new L)
 ·-- without one
  have n:=New.mk' (o:=.tup [.str (tx l),.str (tx []),.str (tx [])]) ft
  generalize upd H t (.tup [.str (tx l),.str (tx []),.str (tx [])])=H1 at n ⊢
  have N:Lt.my l=(Lt.lY l).bind fun t=>Lt.fin l t 1:=by
   unfold Lt.my
   rw[Lt.qU Z]
  refine⟨_,_,SqT.of n.at_,HE,?_⟩
  refine⟨l,rfl,by omega,fun J R=>?_,fun U=>M (by rw[N,U];rfl) _ n.same⟩
  have O:Lt.my l=Lt.fin l J 1:=by rw[N,R];rfl
  have W:(1:Int).natAbs<10^60:=by decide
  have s1:=n.same
  have c:(1:Int)≠0:=by decide
  refine⟨_,_,SqT.of n.at_,HH,?_⟩
  refine⟨J,_,rfl,c,(wK W).mono (by decide),fun z Y L=>?_⟩
  have T:=cS (Lm.vS J _ c) (Lt.pN R)
  have S:=cS (Lm.wj J _ c) W
  obtain⟨D,C⟩:=Lr.ul (a:=J) c
  rw[D] at T
  rw[C] at S
  refine⟨_,_,rfl,ip.new L,⟨(wK T).mono (by decide),(wK S).mono (by decide)⟩,?_⟩
  refine brN (fun d=>?_) (fun d=>?_)
  ·exact⟨by decide,M (by rw[O];unfold Lt.fin;rw[if_neg c,if_neg (fun w=>d (by rw[D,C] at w;exact congrArg tx w))]) _ (s1.trans L.same)⟩
  ·refine k _ (by rw[O];unfold Lt.fin;rw[if_neg c,D,C,if_pos (show Lt.wr _ _=l from li d)]) _ Y (s1.trans L.same) (ip.new L)
theorem vk(F:Has K mg "look_at_rule" nv aP f fd)(g:Env K mg Ad):ie P w K mg base "look_at_rule" 1 aP (oX Ad):=by
 refine F.calE (F.fn.okE wg (fun B H Q E h=>?_) (fun C A l s H B Q E G h=>?_))
 ·obtain⟨s,rfl,q,o⟩:=h
  rfl
 obtain⟨s,rfl,q,o⟩:=h
 refine⟨_,(hV (iw (ij tJ (dv 0) (g.c_Zs.pe rfl) (by with_unfolding_all rfl))
   (hV (iQ g.e_Zg rfl (gX (ds [116,104,101,32,114,117,108,101,115,32,97,114,101,32,115,104,97,114,101,115,44,32,103,97,105,110,115,44,32,108,111,115,115,101,115,44,32,104,97,108,118,101,115,32,97,110,100,32,116,117,114,110,115]) gY)))
   il)),?_⟩
 refine⟨_,qJ,rfl,.inr (.inr g.k_Zs),rfl,rfl,?_⟩
 refine brB (fun c=>?_) (fun c=>?_)
 ·have b:inV (.str s) qJ=false:=by simpa using c
  exact⟨by decide,o fun D z=>by rw[z,Ix] at b;cases b⟩
 ·have b:inV (.str s) qJ=true:=by simpa using c
  exact q (IA b)
theorem Dc(F:Has K mg "shared" vd al f fd)(En:Env K mg Ad)(b:ie P w K mg base "look_at_rule" 1 aP (oX Ad))(C:ie P w K mg base "by_turns" 1 aa (oI))(o:ie P w K mg base "in_shares" 6 aa (xB K Ad))(G:ie P w K mg base "by_gains" 7 aa (rf K Ad))(B:ie P w K mg base "by_losses" 8 aa (xD K Ad))(g:ie P w K mg base "by_halves" 8 aa (xG K Ad)):ie P w K mg base "shared" 9 al (qa K Ad):=by
 refine F.calE (F.fn.okE EB (fun vs H Q E h=>?_) (fun a5 A a3 s H vs Q E S h=>?_))
 ·obtain⟨T,a,v,Z,e,k,D,rfl,ok,Y,hv,X,hk,q,U⟩:=h
  rfl
 obtain⟨T,a,v,Z,e,k,D,rfl,ok,Y,hv,X,hk,q,U⟩:=h
 refine⟨_,(gZ (iS (hW b S (by decide) rfl (gX (dv 0) gY)))
  (gZ (iw (ij iN (dv 0) (ds [115,104,97,114,101,115]) (ik _))
   (hV (ig (hW o S (by decide) rfl (gX (dv 1) (gX (dv 2) gY)))))
   il)
  (gZ (iw (ij iN (dv 0) (ds [103,97,105,110,115]) (ik _))
   (hV (ig (hW G S (by decide) rfl (gX (dv 1) (gX (dv 2) gY)))))
   il)
  (gZ (iw (ij iN (dv 0) (ds [108,111,115,115,101,115]) (ik _))
   (hV (ig (hW B S (by decide) rfl (gX (dv 1) (gX (dv 2) gY)))))
   il)
  (gZ (iw (ij iN (dv 0) (ds [104,97,108,118,101,115]) (ik _))
   (hV (ig (hW g S (by decide) rfl (gX (dv 1) (gX (dv 2) gY)))))
   il)
  (hV (ig (hW C S (by decide) rfl (gX (dv 1) (gX (dv 2) gY)))))))))),?_⟩
 refine⟨word T,rfl,fun _=>?_,fun z=>absurd rfl (z T)⟩
 refine br (fun c=>?_) (fun a0=>?_)
 ·have J:=lR (ρ':=.sh) c
  subst J
  exact⟨a,v,Z,e,k,D,rfl,Y,hv,X,by omega,fun O l N L s f M R ⟨W,I⟩=>q O l N L s f M R ⟨W,I.mono (by omega)⟩,U⟩
 refine br (fun c=>?_) (fun a2=>?_)
 ·have J:=lR (ρ':=.ga) c
  subst J
  exact⟨a,v,Z,e,k,D,rfl,Y,hv,X,by omega,fun O l N L s f M R I=>q O l N L s f M R ⟨_,I.mono (by omega)⟩,U⟩
 refine br (fun c=>?_) (fun a1=>?_)
 ·have J:=lR (ρ':=.lo) c
  subst J
  exact⟨a,v,Z,e,k,D,rfl,Y,hv,X,by omega,fun O l N L s f M R ⟨W,I⟩=>q O l N L s f M R ⟨W,I.mono (by omega)⟩,U⟩
 refine br (fun c=>?_) (fun a4=>?_)
 ·have J:=lR (ρ':=.ha) c
  subst J
  exact⟨a,v,Z,e,k,D,rfl,Y,hv,X,by omega,fun O l N L s f M R ⟨W,I⟩=>q O l N L s f M R ⟨W,I.mono (by omega)⟩,U⟩
 have J:T=.tu:=by
  cases T with
  |sh=>exact absurd rfl a0
  |ga=>exact absurd rfl a2
  |lo=>exact absurd rfl a1
  |ha=>exact absurd rfl a4
  |tu=>rfl
 subst J
 exact absurd rfl ok
theorem Af(F:Has K mg "words_of" oC aU f fd)(Y:Env K mg Ad):ie P w K mg base "words_of" 1 aU (vi):=by
 refine F.calE (F.fn.okE AM (fun U H Q E h=>?_) (fun S A I s H U Q E Z h=>?_))
 ·obtain⟨l,rfl,R,q⟩:=h
  rfl
 obtain⟨l,rfl,R,q⟩:=h
 refine⟨_,(hV (ig (DL (hZ oC) [] [] rfl (jy (kW cZ fP fQ wH (dv 0) (gX (ds [32]) gY))) (fun z=>(ij oU (dv 0) (ds []) (ik _))) (fun z=>(dv 0))))),?_⟩
 have hz:=wu 32 l
 have N:Txt.split (tx l) (tx [32])=(jj 32 l).map tx:=zX l (by decide)
 refine⟨rfl,rfl,by rw[iK];omega,by rw[N,aX];omega,fun l1 W B=>?_⟩
 rw[N,bM] at B
 refine⟨_,rfl,⟨_,SqL.of B.at_⟩,fun O X G=>?_⟩
 refine uE (xs:=(jj 32 l).map (V.str∘tx)) (fun i C o=>iu W o/\ o O=some (.lst C)/\ C=(((jj 32 l).take i).filter fun p=> !p.isEmpty).map fun u=>.str (tx u)) ⟨G.same,G.at_,rfl⟩ (fun _ _ _ _ h=>h.1.seq (SqL.of B.at_)) ?_ ?_
 ·rintro i x C o z J ⟨D,g,rfl⟩
  rw[bi] at J
  obtain⟨u,T,rfl⟩:=bN.mp J
  have M:((jj 32 l).take (i+1)).filter (fun p=> !p.isEmpty)=((jj 32 l).take i).filter (fun p=> !p.isEmpty)++if u.isEmpty then [] else [u]:=by
   rw[cx,T,List.filter_append]
   cases u<;>rfl
  refine brN (fun c=>?_) (fun c=>?_)
  ·have b:u.isEmpty=false:=by
    cases u with
    |nil=>exact absurd rfl c
    |cons a r=>rfl
   refine⟨g,?_,fun H4 L=>⟨L.same D G.fr,L.at_,?_⟩⟩
   ·rw[aX]
    have:=eB (fun p=> !p.isEmpty) ((jj 32 l).take i)
    rw[bW] at this
    omega
   ·rw[M,b,bZ]
    rfl
  ·have b:u=[]:=li c
   refine⟨D,g,?_⟩
   rw[M,b]
   show _=List.map _ (_++[])
   rw[cT]
 ·rintro C o ⟨D,g,rfl⟩
  rw[aX,cg] at g
  exact q O o (B.same.trans D) (B.same.free G.fr) g
theorem AQ(F:Has K mg "told_by" tE ["words"] f fd)(l:Env K mg Ad)(U:CG w K mg AdD):ie P w K mg base "told_by" 1 ["words"] (wI):=by
 refine F.calE (F.fn.okE rQ (fun vs H Q E h=>?_) (fun a0 A T s H vs Q E I h=>?_))
 ·obtain⟨a,c,e,rows,rfl,ha,o,q⟩:=h
  rfl
 obtain⟨a,c,e,rows,rfl,ha,o,q⟩:=h
 refine⟨_,(gZ (iw (PW.pt (mV (ij iN (iA kg rfl l.b_len PySem.boot_len (gX (dv 0) gY)) hU (ik _)) (ml (ij FF (io iV (dv 0) hU (fun _ _=>rfl)) (U.c_FORMS.pe rfl) (by with_unfolding_all rfl)))))
   (hV (iQ l.e_Zm rfl (gX (ds [110,111,32,108,105,110,101,32,98,101,103,105,110,115,32,115,111]) gY)))
   il)
  (gZ (iq (i:=1) rQ.nd rfl (Or.inl rfl) (KZ (U.c_FORMS.pe rfl) (io iV (dv 0) hU (fun _ _=>rfl))))
  (gZ (iw (ij oU (iA kg rfl l.b_len PySem.boot_len (gX (dv 0) gY)) (ic jL hU (iA kg rfl l.b_len PySem.boot_len (gX (dv 1) gY))) (ik _))
   (hV (iQ l.e_Zm rfl (gX (ds [115,117,99,104,32,97,32,108,105,110,101,32,104,97,115,32,97,110,111,116,104,101,114,32,110,117,109,98,101,114,32,111,102,32,119,111,114,100,115]) gY)))
   il)
  (gZ (iq (i:=2) rQ.nd rfl (Or.inl rfl) (Ce rfl l.b_dict rfl l.b_zip (gX (dv 1) (gX (mD Ib (dv 0) (pB hU) nu) gY))))
  (gZ (iw (PW.pt (kF (ij (oF (iC I)) (ds [79,84,72,69,82]) (dv 2) (by with_unfolding_all rfl)) (jU (ij iN (iF (iC I) (dv 2) (ds [79,84,72,69,82])) (iF (iC I) (dv 2) (ds [78,65,77,69])) (ik _)))))
   (hV (iQ l.e_Zm rfl (gX (ds [98,111,116,104,32,110,97,109,101,115,32,97,114,101,32,111,110,101]) gY)))
   il)
  (gZ (qz (iC I) (dv 2) (ds [76,73,78,69]) (io iV (dv 0) hU (fun _ _=>rfl)))
  (hV (ig (dv 2))))))))),?_⟩
 obtain⟨r,X,Y,S,R,g,h3,b⟩:=Fy U c o
 have L:∀(t:Addr) (W:Hp),W t=some (.dK (kL (lX c.form (c.ws.map fun u=>.str (tx u)) []) (.inr yo) (.str (tx c.tl.line)))) ->W t=some (.dK (nN c)):=fun _ _ h=>h
 generalize c.tl.line=w0 at ha S L
 generalize c.ws=ws at ha g b L
 generalize c.form=form at R g h3 b L
 have a1:w0::ws≠[]:=fi _ _
 refine⟨_,.inl (SqL.of ha),?_⟩
 have M:atI ((w0::ws).map fun u=>V.str (tx u)) 0=some (.str (tx w0)):=iX (j:=0) rfl
 refine⟨_,.str (tx w0),SqL.of ha,M,X,Y,?_⟩
 rw[S]
 refine⟨_,.str (tx w0),SqL.of ha,M,X,r,Y,S,?_⟩
 refine⟨_,.inl (SqL.of ha),_,.inr (.inr R),?_⟩
 refine brN (fun c=>absurd (by rw[aX,aX,bE];omega) c) (fun _=>?_)
 refine⟨_,SqL.of ha,fun p H1 G=>?_⟩
 rw[bH,FN] at G
 refine⟨form,_,.inr R,SqL.of G.at_,by rw[aX];exact g,by omega,fun t H2 z=>?_⟩
 have C:=G.same.trans z.same
 have a2:(lX form (ws.map fun u=>V.str (tx u)) []).length<=0+form.length:=rh _ _ _
 set_option simprocs false in dsimp only[kf]
 refine lh (t:=nH _ _ _) (fun σ D=>D=H2/\ σ=[some (.ref a),some (.ref r),some (.ref t)]) ?_ (fun B=>?_)
 rotate_left
 ·refine⟨_,z.at_,?_⟩
  rcases b with J|⟨u,v,N,J,O⟩
  ·rw[show iP (lX form (ws.map fun u=>V.str (tx u)) []) (Sum.inr (tx [79,84,72,69,82]))=none from J]
   exact B _ _ ⟨rfl,rfl⟩
  ·rw[show iP (lX form (ws.map fun u=>V.str (tx u)) []) (Sum.inr (tx [79,84,72,69,82]))=some _ from J]
   refine⟨_,_,z.at_,J,_,_,z.at_,O,?_⟩
   exact br (fun c=>absurd (li c).symm N) (fun _=>B _ _ ⟨rfl,rfl⟩)
 ·rintro σ D ⟨e3,rfl⟩
  subst D
  refine⟨_,.str (tx w0),SqL.of (C _ _ ha),M,_,z.at_,by omega,fun D Z=>?_⟩
  exact q t D (Z.same C (G.same.free z.fr)) (G.same.free z.fr) (L _ _ Z.at_)
theorem qx(F:Has K mg "look_at_rule_told" lB ["told"] f fd)(O:Env K mg Ad)(b:ie P w K mg base "look_at_rule_of_path" 2 aP (pS Ad))(g:ie P w K mg base "look_at_rule" 1 aP (oX Ad)):ie P w K mg base "look_at_rule_told" 3 ["told"] (yQ K):=by
 refine F.calE (F.fn.okE rN (fun M H Q E h=>?_) (fun N A J s H M Q E D h=>?_))
 ·obtain⟨t,T,B,rfl,C,G,L,q⟩:=h
  rfl
 obtain⟨t,T,B,rfl,C,G,L,q⟩:=h
 refine⟨_,(hV (iw (ij iN (iF (iC D) (dv 0) (ds [76,73,78,69])) (ds [110,101,101,100]) (ik _))
   (hV (iS (hW b D (by decide) rfl (gX (iF (iC D) (dv 0) (ds [82,85,76,69])) gY))))
   (hV (iS (hW g D (by decide) rfl (gX (iF (iC D) (dv 0) (ds [82,85,76,69])) gY)))))),?_⟩
 obtain⟨l,I,C⟩:=C
 refine⟨l,_,I,C.line,?_⟩
 have o:=C.rule
 rw[G] at o
 refine br (fun c=>?_) (fun c=>?_)
 ·exact⟨l,_,I,o,_,rfl,fun _=>q,fun z=>absurd (nK B).symm (z B (L (li c)).1)⟩
 ·exact⟨l,_,I,o,_,rfl,fun _=>q,fun z=>absurd (nK B).symm (z B)⟩
theorem yi(F:Has K mg "line_read" qj aU f fd)(En:Env K mg Ad)(z:ie P w K mg base "told_by" 1 ["words"] (wI))(o:ie P w K mg base "words_of" 1 aU (vi))(D:ie P w K mg base "read" 3 aV (vt K Ad))(g:ie P w K mg base "look_at_rule_told" 3 ["told"] (yQ K)):ie P w K mg base "line_read" 4 aU (wD K):=by
 refine F.calE (F.fn.okE sM (fun vs H Q E h=>?_) (fun a6 A a4 s H vs Q E I h=>?_))
 ·obtain⟨l,c,e,rows,rfl,hl,ew,B,q⟩:=h
  rfl
 obtain⟨l,c,e,rows,rfl,hl,ew,B,q⟩:=h
 refine⟨_,(gZ (iq (i:=1) sM.nd rfl (Or.inl rfl) (hW z I (by decide) rfl (gX (hW o I (by decide) rfl (gX (dv 0) gY)) gY)))
  (gZ (iw (ij (oF (iC I)) (ds [82]) (dv 1) (by with_unfolding_all rfl))
   (hV (qz (iC I) (dv 1) (ds [82]) (hW D I (by decide) rfl (gX (iF (iC I) (dv 1) (ds [82])) gY))))
   il)
  (gZ (iw (ij (oF (iC I)) (ds [82,85,76,69]) (dv 1) (by with_unfolding_all rfl))
   (hV (iS (hW g I (by decide) rfl (gX (dv 1) gY))))
   il)
  (hV (ig (dv 1)))))),?_⟩
 refine⟨l,rfl,hl,fun d1 H1 s1 f1 h1=>?_⟩
 rw[ew] at h1
 refine⟨d1,c,e,rows,rfl,h1,B,fun t H2 s2 f2 O=>?_⟩
 have T:=s1.trans s2
 have ft:=s1.free f2
 set_option simprocs false in dsimp only[kf]
 refine lh (t:=nH _ _ _) (fun σ J=>iu H J/\ oP K J t c.tl/\ σ=[some (.str (tx l)),some (.ref t)]) ?_ (fun N=>?_)
 rotate_left
 ·refine⟨_,O,?_⟩
  rcases LQ c with⟨S,U,hk⟩|⟨x,S,U,hk⟩
  ·rw[show iP (nN c) (Sum.inr (tx [82]))=none from U]
   exact N _ _ ⟨T,⟨_,O,hk K H2⟩,rfl⟩
  ·rw[show iP (nN c) (Sum.inr (tx [82]))=some _ from U]
   have Y:=zV B x S
   have R:=IF Y
   refine⟨_,_,O,U,wrR x,rfl,?_,fun y hy v J L hv=>?_,fun hn=>?_⟩
   ·have:=Lt.KJ Y.n (show((x.den:Int)).natAbs<10^60 from Y.d)
    unfold wrR
    omega
   ·have a5:y=x:=by
     rw[R] at hy
     have h0:=Prod.mk.inj (Option.some.inj hy)
     exact Lr.BM.mpr ⟨h0.1.symm,h0.2.symm⟩
    subst a5
    have a0:(nN c).length<1000:=by
     have a1:=nV (lX c.form (c.ws.map fun u=>V.str (tx u)) []) (Sum.inr yo:Key) (.str (tx c.tl.line))
     have a2:(lX c.form (c.ws.map fun u=>V.str (tx u)) []).length<=0+c.form.length:=rh _ _ _
     have a3:=jH c
     unfold nN
     omega
    refine⟨_,L _ _ O,a0,fun H4 Z=>?_⟩
    have X:TpS J H4:=(Ow.chg (F:=fun b=>b=t) Z rfl (L _ _ O) (fun _ h=>by cases h)).ts
    exact N _ _ ⟨Z.same (T.trans L) ft,⟨_,Z.at_,hk K H4 v (hv.ts X)⟩,rfl⟩
   ·rw[R] at hn;cases hn
 ·rintro σ J ⟨L,M,rfl⟩
  obtain⟨C,W,M⟩:=id M
  refine⟨C,W,?_⟩
  have G:=M.rule
  cases hc:c.tl.rule with
  |none=>
   rw[hc] at G
   rw[show iP C (Sum.inr (tx [82,85,76,69]))=none from G]
   exact q t J L ft ⟨C,W,M⟩
  |some u=>
   rw[hc] at G
   rw[show iP C (Sum.inr (tx [82,85,76,69]))=some _ from G]
   obtain⟨ρ,e1,e2⟩:=Gx B hc
   exact⟨t,c.tl,ρ,rfl,⟨C,W,M⟩,by rw[hc,e1],e2,q t J L ft ⟨C,W,M⟩⟩
theorem AZ(F:Has K mg "is_name" pR ["word"] f fd)(o:Env K mg Ad):ie P w K mg base "is_name" 1 ["word"] (tN):=by
 refine F.calE (F.fn.okE Db (fun N H Q E h=>?_) (fun R A D s H N Q E T h=>?_))
 ·obtain⟨u,rfl,b,q⟩:=h
  rfl
 obtain⟨u,rfl,b,q⟩:=h
 refine⟨_,(hV (ig (HW (ki KA (iA og rfl o.b_len PySem.boot_len (gX (dv 0) gY)) (o.c_LONGEST_NAME.pe rfl) (ik _)) (Ak (iA (MD rfl) rfl o.b_all PyProof.Rows.boot_all (gX (lu (hZ pR) [] [] rfl (yC (dv 0)) (fun z=>(ki GQ (dv 0) (o.c_LETTERS.pe rfl) (by with_unfolding_all rfl)))) gY)))))),?_⟩
 refine⟨u,rfl,by have:=b.len;omega,?_⟩
 refine br (fun _=>?_) (fun c=>absurd (by have:=b.len;omega) c)
 refine⟨u,rfl,fun L S G=>?_⟩
 refine BB (fun i l g=>iu H g/\ g L=some (.lst l)/\ l=(bA i true).map V.bl) ⟨G.same,G.at_,rfl⟩ ?_ ?_
 ·rintro i c l g z J ⟨C,B,rfl⟩
  have M:=b.az c (bo J)
  have O:=(aZ.mp J).1
  refine⟨c,_,rfl,rfl,B,by rw[aX,List.length_replicate];have:=b.len;omega,fun U I=>⟨I.same C G.fr,I.at_,?_⟩⟩
  rw[show decide (c∈[97,98,99,100,101,102,103,104,105,106,107,108,109,110,111,112,113,114,115,116,117,118,119,120,121,122])=true from decide_eq_true (show c∈dg 97 26 from List.mem_range'_1.mpr ⟨M.1,by omega⟩),List.replicate_succ',bZ]
  rfl
 ·rintro l g ⟨C,B,rfl⟩
  refine⟨_,SqL.of B,?_⟩
  rw[show(bA u.length true).all id=true by simp]
  exact q g C
theorem Cf(F:Has K mg "listed" rH aR f fd)(O:Env K mg Ad)(g:ie P w K mg base "shown" 1 ["one"] (jT K)):ie P w K mg base "listed" 2 aR (tK K):=by
 refine F.calE (F.fn.okE Ez (fun J H Q E h=>?_) (fun Z A L s H J Q E D h=>?_))
 ·obtain⟨a,b,rows,rfl,ha,W,Y,M,q⟩:=h
  rfl
 obtain⟨a,b,rows,rfl,ha,W,Y,M,q⟩:=h
 refine⟨_,(gZ (iw (ij iN (iA kg rfl O.b_len PySem.boot_len (gX (dv 0) gY)) hU (ik _))
   (hV (ig (ds [110,111,110,101])))
   il)
  (hV (ig (kW cZ fW PySem.F.type_str_join Bw (ds [44,32]) (gX (zQ (hZ rH) [] [] rfl (Et rfl O.b_zip (gX (dv 0) (gX (dv 1) gY))) (fun z=>(ic iG (ic iG (dv 0) (ds [32])) (jY g D (by decide) rfl (gX (dv 1) gY))))) gY))))),?_⟩
 obtain⟨J,U,D,he⟩:=W.sq
 refine⟨_,.inl (SqL.of ha),?_⟩
 refine br (fun c=>?_) (fun c=>?_)
 ·rw[aX,aX] at c
  have:=q H (iu.refl _)
  unfold nP at this
  rw[if_pos (by omega)] at this
  exact this
 rw[aX,aX] at c
 refine⟨rfl,⟨_,SqL.of ha⟩,⟨_,U⟩,fun D2 H2 N=>?_⟩
 refine EU (xs:=(rows.map (·.1)).map fun u=>V.str (tx u)) (ys:=J) (fun i ys o=>iu H o/\ o D2=some (.lst ys)/\ ys=((rows.take i).map pieceL).map fun p=>V.str (tx p)) ⟨N.same,N.at_,rfl⟩ (fun i X o _ h=>⟨h.1.seq (SqL.of ha),h.1.seq U⟩) (by rw[D.len,aX,aX,aX]) ?_ ?_
 ·rintro i x y X o p H3 z S hy ⟨G,C,rfl⟩ I
  rw[bM,bi] at S
  obtain⟨r,l,rfl⟩:=bN.mp S
  obtain⟨c',B,hv⟩:=D.get hy
  rw[bi,l] at B
  cases B
  obtain⟨z1,R⟩:=M r (bo l)
  have a0:=mP R
  have a1:=(aZ.mp l).1
  refine⟨_,_,rfl,rfl,by show r.1.length+1<=100000;omega,y,r.2,rfl,(hv.same G).same I.same,R,_,_,rfl,rfl,by rw[bf];show r.1.length+1+(wrR r.2).length<=100000;omega,?_⟩
  refine⟨I.same _ _ C,by rw[aX,aX,bW];omega,fun H4 T=>⟨T.same (G.trans I.same) N.fr,T.at_,?_⟩⟩
  rw[cx,l]
  show _=List.map _ (List.map _ (_++[r]))
  rw[bZ,bZ]
  rfl
 ·rintro X o ⟨G,C,rfl⟩
  rw[aX,aX,cg] at C
  refine⟨_,_,rfl,SqL.of C,by rw[aX];omega,BN M,by decide,?_⟩
  have:=q o G
  unfold nP at this
  rw[if_neg (by omega)] at this
  exact this
theorem uB(F:jA K Ad.aDesk "__init__" "Desk.__init__" jI aM f fd)(l:Env K mg Ad):jg P w K mg base Ad.aDesk "__init__" 1 aM (vh Ad):=by
 refine F.calE (F.fn.okE vE (fun L H Q E h=>?_) (fun N A D s H L Q E R h=>?_))
 ·obtain⟨a,I,rfl,ha,q⟩:=h
  rfl
 obtain⟨a,I,rfl,ha,q⟩:=h
 refine⟨_,(gZ (oR l.cl_Desk l.na_Desk_estate (dv 0) (l.c_Zp.pe rfl))
  (hV (oR l.cl_Desk l.na_Desk_claims (dv 0) KU))),?_⟩
 refine⟨I,[],ha,by decide,fun S B=>?_⟩
 refine fun d O o=>⟨I,_,o.same _ _ B.at_,(by show 1<1000;decide),fun M C=>?_⟩
 have g:d≠a:=fun z=>by
  have:=o.fr
  rw[z,B.at_] at this
  cases this
 have G:H d=none:=by
  have:=o.fr
  rw[B.oth d g] at this
  exact this
 exact q d M (fun b u J e=>by rw[C.oth b J];exact o.same _ _ (by rw[B.oth b J];exact e)) G C.at_ (by rw[C.oth d g];exact o.at_)
theorem zj(F:jA K Ad.aDesk "say" "Desk.say" kY aI f fd)(En:Env K mg Ad)(D:ie P w K mg base "line_read" 4 aU (wD K))(g:jg P w K mg base Ad.aDesk "look_at_names" 2 ah (vg K Ad))(b:jg P w K mg base Ad.aDesk "look_at_amount" 2 ah (rg K Ad))(o:jg P w K mg base Ad.aDesk "look_at_room" 1 ah (wU K Ad))(C:jg P w K mg base Ad.aDesk "answered" 13 ah (qp K Ad)):jg P w K mg base Ad.aDesk "say" 14 aI (qO K Ad):=by
 refine F.calE (F.fn.okE uN (fun vs H Q E h=>?_) (fun a0 A Y s H vs Q E L h=>?_))
 ·obtain⟨a,d,l,c,e,rows,k,rfl,Z,ew,I,B,U,X,q⟩:=h
  rfl
 obtain⟨a,d,l,c,e,rows,k,rfl,Z,ew,I,B,U,X,q⟩:=h
 refine⟨_,(gZ (iq (i:=2) uN.nd rfl (Or.inl rfl) (hW D L (by decide) rfl (gX (dv 1) gY)))
  (gZ (iS (iJ g L (by decide) (dv 0) (gX (dv 2) gY)))
  (gZ (iS (iJ b L (by decide) (dv 0) (gX (dv 2) gY)))
  (gZ (iS (iJ o L (by decide) (dv 0) (gX (dv 2) gY)))
  (hV (ig (iJ C L (by decide) (dv 0) (gX (dv 2) gY)))))))),?_⟩
 obtain⟨O,ve,ha,a2⟩:=I.at_
 obtain⟨a1,hd,L⟩:=I.dict
 refine⟨l,c,e,rows,rfl,Z,ew,B,fun t H1 s1 N R=>?_⟩
 have W:t≠a:=fun z=>by rw[z,ha] at N;cases N
 have T:t≠d:=fun z=>by rw[z,hd] at N;cases N
 refine⟨⟨O,_,s1 _ _ ha,rfl⟩,a,d,t,e,rows,c.tl,rfl,I.same s1,R,IJ B,Gu B,EL B,fun H2 M=>?_⟩
 have G:=s1.trans M
 refine⟨⟨O,_,G _ _ ha,rfl⟩,a,d,t,e,rows,c.tl,rfl,I.same G,R.same M,Ma B,Hv B U X,?_⟩
 refine⟨⟨O,_,G _ _ ha,rfl⟩,a,d,t,e,rows,c.tl,rfl,I.same G,R.same M,Hh B,?_⟩
 exact⟨⟨O,_,G _ _ ha,rfl⟩,a,d,t,c,e,rows,k,rfl,I.same G,R.same M,W,T,B,U,X,fun S e' J H3 hp ow h3=>q S e' J H3 hp ((Ow.same G).trans ow) h3⟩
theorem qk(F:jA K Ad.aDesk "look_at_names" "Desk.look_at_names" jh ah f fd)(G:Env K mg Ad)(l:ie P w K mg base "is_name" 1 ["word"] (tN)):jg P w K mg base Ad.aDesk "look_at_names" 2 ah (vg K Ad):=by
 refine F.calE (F.fn.okE mM (fun vs H Q E h=>?_) (fun a1 A a0 s H vs Q E B h=>?_))
 ·obtain⟨a,d,t,e,rows,T,rfl,hD,M,hn,W,ho,q⟩:=h
  rfl
 obtain⟨a,d,t,e,rows,T,rfl,hD,M,hn,W,ho,q⟩:=h
 refine⟨_,(gZ (iw (PW.pt (kF (ij (oF (iC B)) (ds [78,69,87]) (dv 1) (by with_unfolding_all rfl)) (jU (nh (jC (hW l B (by decide) rfl (gX (iF (iC B) (dv 1) (ds [78,69,87])) gY)))))))
   (hV (iQ G.e_Zn rfl (gX (ds [97,32,110,97,109,101,32,105,115,32,111,110,101,32,116,111,32,101,105,103,104,116,32,115,109,97,108,108,32,108,101,116,116,101,114,115]) gY)))
   il)
  (gZ (lf PassesOwn.leaving rfl (KQ (lC (gX (ds [78,65,77,69]) (gX (ds [79,84,72,69,82]) gY)))) (iW (i:=2) mM.nd rfl (Or.inl rfl))
   (hV (iw (PW.pt (kF (ij (oF (iC B)) (dv 2) (dv 1) (by with_unfolding_all rfl)) (jU (ij (FI (iC B)) (iF (iC B) (dv 1) (dv 2)) (jE G.cl_Desk G.na_Desk_claims (dv 0)) (by with_unfolding_all rfl)))))
   (hV (iQ G.e_Zn rfl (gX (ds [110,111,32,99,108,97,105,109,101,114,32,105,115,32,99,97,108,108,101,100,32,115,111]) gY)))
   il)))
  (hV (iw (PW.pt (kF (ij (oF (iC B)) (ds [78,69,87]) (dv 1) (by with_unfolding_all rfl)) (jU (ij (oF (iC B)) (iF (iC B) (dv 1) (ds [78,69,87])) (jE G.cl_Desk G.na_Desk_claims (dv 0)) (by with_unfolding_all rfl)))))
   (hV (iQ G.e_Zo rfl (gX (ds [97,32,99,108,97,105,109,101,114,32,105,115,32,99,97,108,108,101,100,32,115,111]) gY)))
   il)))),?_⟩
 obtain⟨dx,ve,ha,a2⟩:=hD.at_
 obtain⟨X,hd,B⟩:=hD.dict
 obtain⟨b,L,M⟩:=M
 have g:=M.new
 refine lh (t:=nH _ _ _) (fun I H1=>iu H H1/\ I=[some (.ref a),some (.ref t),none]) ?_ (fun O=>?_)
 rotate_left
 ·refine⟨b,L,?_⟩
  cases D:T.new with
  |none=>
   rw[D] at g
   rw[show iP b (Sum.inr (tx [78,69,87]))=none from g]
   exact O _ _ ⟨iu.refl _,rfl⟩
  |some u=>
   rw[D] at g
   rw[show iP b (Sum.inr (tx [78,69,87]))=some (.str (tx u)) from g]
   refine⟨b,_,L,g,u,rfl,(hn u D).1,fun H1 s1=>?_⟩
   exact O _ _ ⟨s1,rfl⟩
 ·rintro I H1 ⟨s1,rfl⟩
  refine fun p H2 Y=>?_
  refine⟨p,rfl,⟨_,SqT.of Y.at_⟩,Jc (xs:=[.str nR,.str qL]) (fun i I N=>iu H2 N/\ ∃z,I=[some (.ref a),some (.ref t),z]) ⟨iu.refl _,_,rfl⟩ (fun i I N _ h=>SqT.of (h.1 _ _ Y.at_)) ?_ ?_⟩
  ·rintro i x I N R ⟨U,z,rfl⟩
   have C:iu H N:=s1.trans (Y.same.trans U)
   obtain⟨k,o,rfl,J,Z⟩:∃(k:Str) (o:Option (List Nat)),x=.str k/\ iP b (Sum.inr k)=txO o/\ ∀u,o=some u ->∃c,iO rows u=some c:=by
    match i,R with
    |0,R=>cases R;exact⟨_,_,rfl,M.name,W⟩
    |1,R=>cases R;exact⟨_,_,rfl,M.other,ho⟩
   refine⟨b,C _ _ L,?_⟩
   cases o with
   |none=>
    rw[show iP b (Sum.inr k)=none from J]
    exact⟨U,_,rfl⟩
   | some u=>
    rw[show iP b (Sum.inr k)=some (.str (tx u)) from J]
    obtain⟨c,D⟩:=Z u rfl
    refine⟨b,_,C _ _ L,J,dx,_,_,C _ _ ha,rfl,X,C _ _ hd,?_⟩
    rcases B.val u with⟨h1,S⟩|⟨c',v,h1,S,_⟩
    ·rw[D] at h1;cases h1
    ·rw[S]
     exact⟨U,_,rfl⟩
  ·rintro I N ⟨U,z,rfl⟩
   have C:iu H N:=s1.trans (Y.same.trans U)
   refine⟨b,C _ _ L,?_⟩
   cases D:T.new with
   |none=>
    rw[D] at g
    rw[show iP b (Sum.inr (tx [78,69,87]))=none from g]
    exact q _ C
   | some u=>
    rw[D] at g
    rw[show iP b (Sum.inr (tx [78,69,87]))=some (.str (tx u)) from g]
    refine⟨b,_,C _ _ L,g,dx,_,_,C _ _ ha,rfl,X,C _ _ hd,?_⟩
    rcases B.val u with⟨h1,S⟩|⟨c',v,h1,S,_⟩
    ·rw[S]
     exact q _ C
    ·rw[(hn u D).2] at h1;cases h1
theorem pF(F:jA K Ad.aDesk "look_at_amount" "Desk.look_at_amount" jd ah f fd)(B:Env K mg Ad)(g:ie P w K mg base "less" 1 ae (lP K)):jg P w K mg base Ad.aDesk "look_at_amount" 2 ah (rg K Ad):=by
 refine F.calE (F.fn.okE qr (fun vs H Q E h=>?_) (fun a0 A N s H vs Q E l h=>?_))
 ·obtain⟨a,d,t,e,rows,T,rfl,J,o,h0,Z,q⟩:=h
  rfl
 obtain⟨a,d,t,e,rows,T,rfl,J,o,h0,Z,q⟩:=h
 refine⟨_,(gZ (iw (PW.pt (kF (ij (oF (iC l)) (ds [82]) (dv 1) (by with_unfolding_all rfl)) (jU (jC (hW g l (by decide) rfl (gX (iF (iC l) (dv 1) (ds [82])) (gX (B.c_Zp.pe rfl) gY)))))))
   (hV (iQ B.e_Zk rfl (gX (ds [116,104,101,32,97,109,111,117,110,116,32,105,115,32,98,101,108,111,119,32,48]) gY)))
   il)
  (hV (iw (PW.pt (kF (ij iN (iF (iC l) (dv 1) (ds [76,73,78,69])) (ds [112,97,114,116]) (ik _)) (jU (jC (hW g l (by decide) rfl (gX (iF (iC l) (jE B.cl_Desk B.na_Desk_claims (dv 0)) (iF (iC l) (dv 1) (ds [78,65,77,69]))) (gX (iF (iC l) (dv 1) (ds [82])) gY)))))))
   (hV (iQ B.e_Zk rfl (gX (ds [116,104,101,32,97,109,111,117,110,116,32,105,115,32,97,98,111,118,101,32,116,104,101,32,99,108,97,105,109]) gY)))
   il))),?_⟩
 obtain⟨dx,ve,ha,a1⟩:=J.at_
 obtain⟨M,hd,l⟩:=J.dict
 obtain⟨b,D,o⟩:=o
 refine lh (t:=nH _ _ _) (fun W O=>O=H/\ W=[some (.ref a),some (.ref t)]) ?_ (fun C=>?_)
 rotate_left
 ·refine⟨b,D,?_⟩
  cases hc:T.r with
  |none=>
   rw[show iP b (Sum.inr (tx [82]))=none from o.rn hc]
   exact C _ _ ⟨rfl,rfl⟩
  |some x=>
   obtain⟨v,hv,L⟩:=o.rs x hc
   rw[show iP b (Sum.inr (tx [82]))=some v from hv]
   refine⟨b,v,D,hv,v,_,x,0,rfl,L,nr B,(h0 x hc).2,Sz.zero.mono (by decide),?_⟩
   refine br (fun c=>?_) (fun c=>C _ _ ⟨rfl,rfl⟩)
   have:=(h0 x hc).1
   exact absurd c (by grind)
 ·rintro W O ⟨e,rfl⟩
  subst O
  refine⟨b,_,D,o.line,?_⟩
  refine br (fun I=>?_) (fun I=>?_)
  ·have I:=li I
   obtain⟨u,c,x,h1,U,S,h4,h5⟩:=Z I
   obtain⟨v,hv,L⟩:=o.rs x S
   have Y:=o.name
   rw[h1] at Y
   rcases l.val u with⟨G,R⟩|⟨c',X,G,R,g3⟩
   ·rw[U] at G;cases G
   rw[U] at G
   cases G
   refine⟨dx,_,_,ha,rfl,b,_,D,Y,M,X,hd,R,b,v,D,hv,X,v,c,x,rfl,g3,L,h5,(h0 x S).2,?_⟩
   refine br (fun z=>absurd z (by grind)) (fun _=>q)
  ·exact q
theorem qD(F:jA K Ad.aDesk "look_at_room" "Desk.look_at_room" jq ah f fd)(l:Env K mg Ad):jg P w K mg base Ad.aDesk "look_at_room" 1 ah (wU K Ad):=by
 refine F.calE (F.fn.okE rW (fun J H Q E h=>?_) (fun O A C s H J Q E D h=>?_))
 ·obtain⟨a,d,t,e,rows,T,rfl,z,o,G,q⟩:=h
  rfl
 obtain⟨a,d,t,e,rows,T,rfl,z,o,G,q⟩:=h
 refine⟨_,(hV (iw (PW.pt (kF (ij (oF (iC D)) (ds [78,69,87]) (dv 1) (by with_unfolding_all rfl)) (jU (ij iN (iA JO rfl l.b_len PySem.boot_len (gX (jE l.cl_Desk l.na_Desk_claims (dv 0)) gY)) (l.c_Zq.pe rfl) (ik _)))))
   (hV (iQ l.e_Zd rfl (gX (ds [116,104,101,114,101,32,97,114,101,32,101,105,103,104,116,32,99,108,97,105,109,101,114,115]) gY)))
   il)),?_⟩
 obtain⟨N,S,ha,M⟩:=z.at_
 obtain⟨B,L,D⟩:=z.dict
 obtain⟨g,I,o⟩:=o
 have b:=o.new
 refine⟨g,I,?_⟩
 cases hc:T.new with
 |none=>
  rw[hc] at b
  rw[show iP g (Sum.inr (tx [78,69,87]))=none from b]
  exact q
 |some u=>
  rw[hc] at b
  rw[show iP g (Sum.inr (tx [78,69,87]))=some (.str (tx u)) from b]
  have R:=G (by rw[hc];exact Option.some_ne_none _)
  refine⟨N,_,_,ha,rfl,B,L,?_⟩
  rw[D.len]
  exact br (fun c=>absurd c (by omega)) (fun _=>q)
theorem uy(F:jA K Ad.aDesk "answered" "Desk.answered" jJ ah f fd)(R:Env K mg Ad)(L:jg P w K mg base Ad.aDesk "do" 5 ah (yn K Ad))(z:ie P w K mg base "listed" 2 aR (tK K))(I:jg P w K mg base Ad.aDesk "two" 1 au (oI))(G:jg P w K mg base Ad.aDesk "need" 12 ao (uS K Ad))(C:jg P w K mg base Ad.aDesk "leave" 11 aH (tj K Ad))(o:jg P w K mg base Ad.aDesk "parts_by" 10 aO (rX K Ad))(S:ie P w K mg base "turned" 1 al (oI))(b:jg P w K mg base Ad.aDesk "claims_listed" 1 aM (mY K Ad)):jg P w K mg base Ad.aDesk "answered" 13 ah (qp K Ad):=by
 refine F.calE (F.fn.okE pd (fun vs H Q E h=>?_) (fun b5 A b3 s H vs Q E g h=>?_))
 ·obtain⟨a,d,t,c,e,rows,k,rfl,U,hT,a5,a6,B,W,hk,q⟩:=h
  rfl
 obtain⟨a,d,t,c,e,rows,k,rfl,U,hT,a5,a6,B,W,hk,q⟩:=h
 refine⟨_,(gZ (iq (i:=2) pd.nd rfl (Or.inl rfl) (iF (iC g) (dv 1) (ds [76,73,78,69])))
  (gZ (iw (ij iN (dv 2) (ds [115,104,111,119]) (ik _))
   (hV (ig (hW z g (by decide) rfl (gX (ic vQ (mZ (gX (ds [101,115,116,97,116,101]) gY)) (jo (uc rfl) rfl R.b_list PyProof.Rows.boot_list (gX (jE R.cl_Desk R.na_Desk_claims (dv 0)) gY))) (gX (ic vQ (mZ (gX (jE R.cl_Desk R.na_Desk_estate (dv 0)) gY)) (qc b g (by decide) (dv 0))) gY)))))
   il)
  (gZ (iw (ij iN (dv 2) (ds [115,104,97,114,101]) (ik _))
   (hV (ig (hW z g (by decide) rfl (gX (jo (uc rfl) rfl R.b_list PyProof.Rows.boot_list (gX (jE R.cl_Desk R.na_Desk_claims (dv 0)) gY)) (gX (iJ o g (by decide) (dv 0) (gX (iF (iC g) (dv 1) (ds [82,85,76,69])) gY)) gY)))))
   il)
  (gZ (iw (ij iN (dv 2) (ds [116,117,114,110,101,100]) (ik _))
   (hV (ig (hW z g (by decide) rfl (gX (jo (uc rfl) rfl R.b_list PyProof.Rows.boot_list (gX (jE R.cl_Desk R.na_Desk_claims (dv 0)) gY)) (gX (hW S g (by decide) rfl (gX (iF (iC g) (dv 1) (ds [82,85,76,69])) (gX (qc b g (by decide) (dv 0)) (gX (jE R.cl_Desk R.na_Desk_estate (dv 0)) gY)))) gY)))))
   il)
  (gZ (iw (ij iN (dv 2) (ds [116,119,111]) (ik _))
   (hV (ig (iJ I g (by decide) (dv 0) (gX (iF (iC g) (dv 1) (ds [82,85,76,69])) (gX (iF (iC g) (dv 1) (ds [78,65,77,69])) (gX (iF (iC g) (dv 1) (ds [79,84,72,69,82])) gY))))))
   il)
  (gZ (iw (ij iN (dv 2) (ds [110,101,101,100]) (ik _))
   (hV (ig (iJ G g (by decide) (dv 0) (gX (iF (iC g) (dv 1) (ds [82,85,76,69])) (gX (iF (iC g) (dv 1) (ds [78,65,77,69])) (gX (iF (iC g) (dv 1) (ds [82])) gY))))))
   il)
  (gZ (iw (ij iN (dv 2) (ds [108,101,97,118,101]) (ik _))
   (hV (ig (iJ C g (by decide) (dv 0) (gX (iF (iC g) (dv 1) (ds [78,65,77,69])) (gX (iF (iC g) (dv 1) (ds [82,85,76,69])) gY)))))
   il)
  (gZ (iS (iJ L g (by decide) (dv 0) (gX (dv 1) gY)))
  (hV (ig (ds [111,107]))))))))))),?_⟩
 obtain⟨Z,ve,ha,b2⟩:=U.at_
 obtain⟨a0,hd,g⟩:=U.dict
 obtain⟨M,ht,N⟩:=id hT
 have h8:=W.len
 refine⟨M,_,ht,N.line,?_⟩
 have a1:∀H0,iu H H0 ->∀l T,New H0 l (.lst (a0.map fun p=>kV p.1)) T ->T l=some (.lst ((rows.map (·.1)).map fun u=>.str (tx u))):=fun H0 _ l T n=>by
  rw[n.at_,g.keys,bM];rfl
 have b1:∀O:List Rat,O.length=rows.length ->(∀p∈O,Sz 1900 p) ->∀r∈zipR rows O,r.1.length<=8/\ Sz 1900 r.2:=fun O X hz r g=>by
  have h1:r.1∈rows.map (·.1):=by rw[←nJ X];exact cr g
  have h2:r.2∈O:=by rw[←rO X];exact cr g
  obtain⟨r',a8,e'⟩:=bz.mp h1
  exact⟨by rw[←e'];exact(W.nm r' a8).len,hz _ h2⟩
 have zl:∀O:List Rat,O.length=rows.length ->(zipR rows O).length=rows.length:=fun O X=>by rw[←aX (f:=(·.1)),nJ X,aX]
 have J:c.isDo ->BR Ad.aDesk "do" (yn K Ad) E (vw 0) (HG (vw 1) wV) [some (.ref a),some (.ref t),some (.str (tx c.tl.line))] H (fun _ H'=>Q (.str (tx [111,107])) H'):=fun a9=>
  ⟨⟨Z,_,ha,rfl⟩,a,d,t,c,e,rows,k,rfl,U,hT,a5,a6,B,a9,W,hk,fun e' a2 T hp ow h=>q _ _ _ T hp ow h⟩
 cases c with
 | show_=>
  refine fun l1 T n1=>?_
  have s1:=n1.same
  refine⟨Z,_,_,s1 _ _ ha,rfl,a0,s1 _ _ hd,fun l2 H2 n2=>?_⟩
  have s2:=s1.trans n2.same
  rw[g.keys] at n2
  refine⟨_,_,n2.same _ _ n1.at_,n2.at_,by rw[aX];show 1+_<=_;omega,fun l3 H3 n3=>?_⟩
  have s3:=s2.trans n3.same
  refine⟨Z,_,_,s3 _ _ ha,rfl,fun l4 H4 n4=>?_⟩
  have s4:=s3.trans n4.same
  refine⟨⟨Z,_,s4 _ _ ha,rfl⟩,a,d,e,rows,rfl,U.same s4,fun l5 H5 s5 f5 ⟨vs,b4,a3⟩=>?_⟩
  have s6:=s4.trans s5
  refine⟨_,_,s5 _ _ n4.at_,b4,by have:=a3.len;rw[aX] at this;show 1+_<=_;omega,fun l6 H6 n6=>?_⟩
  have s7:=s6.trans n6.same
  have h3:=n6.same _ _ (s5 _ _ (n4.same _ _ n3.at_))
  rw[show(rows.map fun r=>V.str (tx r.1))=(rows.map (·.1)).map fun u=>V.str (tx u) by rw[bM];rfl] at h3
  refine⟨l3,l6,(lj,e)::rows,rfl,h3,⟨_,n6.at_,?_⟩,by show _+1<=9;omega,?_,fun H7 s8=>q _ _ _ H7 ⟨rfl,rfl,rfl⟩ (Ow.same (s7.trans s8)) (U.same (s7.trans s8))⟩
  ·exact iR.app (iR.snoc iR.nil (b2.same s7)) (a3.ts n6.same.ts)
  ·intro r Y
   rcases bw.mp Y with rfl|Y
   ·exact⟨by show 6<=8;decide,W.se (by omega)⟩
   ·exact⟨(W.nm r Y).len,W.sz (by omega) Y⟩
 |share ρ=>
  refine⟨Z,_,_,ha,rfl,a0,hd,fun l1 T n1=>?_⟩
  refine⟨⟨Z,_,n1.same _ _ ha,rfl⟩,M,_,n1.same _ _ ht,N.rule,a,d,e,rows,ρ,k,rfl,U.same n1.same,W,hk,B.1,B.2,fun l2 O D H2 s2 f2 hP hR a7=>?_⟩
  have X:O.length=rows.length:=by rw[hR.len,aX]
  have a4:=n1.same.trans s2
  refine⟨l1,l2,zipR rows O,rfl,?_,by rw[rO X];exact hP,by rw[zl _ X];omega,b1 O X (fun p hp=>a7.sz (by omega) hp),fun H3 s3=>q _ _ _ H3 ⟨rfl,rfl,O,D,hR,a7,rfl⟩ (Ow.same (a4.trans s3)) (U.same (a4.trans s3))⟩
  rw[nJ X]
  exact s2 _ _ (a1 H (iu.refl _) l1 T n1)
 |turned ρ=>
  exact absurd B.1 id
 |two ρ u v=>
  exact absurd B.1 id
 |need ρ u x=>
  obtain⟨v,hv,hx⟩:=N.rs _ rfl
  exact⟨⟨Z,_,ha,rfl⟩,M,_,ht,N.rule,M,_,ht,N.name,M,v,ht,hv,a,d,e,rows,ρ,u,v,x,k,rfl,hx,U,B,W,hk,fun b0 T hp s1=>q _ _ _ T hp (Ow.same s1) (U.same s1)⟩
 |leave u ρ=>
  exact⟨⟨Z,_,ha,rfl⟩,M,_,ht,N.name,M,_,ht,N.rule,a,d,e,rows,u,ρ,k,rfl,U,B,W,hk,fun b0 e' a2 T hp ow h=>q _ _ _ T hp ow h⟩
 |claim u x=>exact J trivial
 |more u x=>exact J trivial
 |drop u=>exact J trivial
 |part u v x=>exact J trivial
 |join u v=>exact J trivial
 |estate x=>exact J trivial
 |grow x=>exact J trivial
theorem Az(F:jA K Ad.aDesk "do" "Desk.do" lG ah f fd)(C:Env K mg Ad)(b:jg P w K mg base Ad.aDesk "add_to_claim" 4 aB (wF K Ad))(N:ie P w K mg base "minus" 3 ae (mC K))(S:ie P w K mg base "plus" 3 ae (qN K)):jg P w K mg base Ad.aDesk "do" 5 ah (yn K Ad):=by
 refine F.calE (F.fn.okE ww (fun vs H Q E h=>?_) (fun b6 A b4 s H vs Q E g h=>?_))
 ·obtain⟨a,d,t,c,e,rows,k,rfl,R,D,a1,a3,B,G,W,hk,q⟩:=h
  rfl
 obtain⟨a,d,t,c,e,rows,k,rfl,R,D,a1,a3,B,G,W,hk,q⟩:=h
 refine⟨_,(gZ (iq (i:=2) ww.nd rfl (Or.inl rfl) (iF (iC g) (dv 1) (ds [76,73,78,69])))
  (hV (iw (ij iN (dv 2) (ds [99,108,97,105,109]) (ik _))
   (hV (qz (iC g) (jE C.cl_Desk C.na_Desk_claims (dv 0)) (iF (iC g) (dv 1) (ds [78,69,87])) (iF (iC g) (dv 1) (ds [82]))))
   (hV (iw (ij iN (dv 2) (ds [109,111,114,101]) (ik _))
   (hV (iS (iJ b g (by decide) (dv 0) (gX (iF (iC g) (dv 1) (ds [78,65,77,69])) (gX (iF (iC g) (dv 1) (ds [82])) gY)))))
   (hV (iw (ij iN (dv 2) (ds [100,114,111,112]) (ik _))
   (hV (iS (zY (jE C.cl_Desk C.na_Desk_claims (dv 0)) (iF (iC g) (dv 1) (ds [78,65,77,69])) ⟨rfl,rfl,rfl,rfl⟩)))
   (hV (iw (ij iN (dv 2) (ds [112,97,114,116]) (ik _))
   (gZ (qz (iC g) (jE C.cl_Desk C.na_Desk_claims (dv 0)) (iF (iC g) (dv 1) (ds [78,65,77,69])) (hW N g (by decide) rfl (gX (iF (iC g) (jE C.cl_Desk C.na_Desk_claims (dv 0)) (iF (iC g) (dv 1) (ds [78,65,77,69]))) (gX (iF (iC g) (dv 1) (ds [82])) gY))))
  (hV (qz (iC g) (jE C.cl_Desk C.na_Desk_claims (dv 0)) (iF (iC g) (dv 1) (ds [78,69,87])) (iF (iC g) (dv 1) (ds [82])))))
   (hV (iw (ij iN (dv 2) (ds [106,111,105,110]) (ik _))
   (hV (iS (iJ b g (by decide) (dv 0) (gX (iF (iC g) (dv 1) (ds [78,65,77,69])) (gX (zY (jE C.cl_Desk C.na_Desk_claims (dv 0)) (iF (iC g) (dv 1) (ds [79,84,72,69,82])) ⟨rfl,rfl,rfl,rfl⟩) gY)))))
   (hV (iw (ij iN (dv 2) (ds [101,115,116,97,116,101]) (ik _))
   (hV (oR C.cl_Desk C.na_Desk_estate (dv 0) (iF (iC g) (dv 1) (ds [82]))))
   (hV (oR C.cl_Desk C.na_Desk_estate (dv 0) (hW S g (by decide) rfl (gX (jE C.cl_Desk C.na_Desk_estate (dv 0)) (gX (iF (iC g) (dv 1) (ds [82])) gY)))))))))))))))))),?_⟩
 obtain⟨L,ve,ha,b3⟩:=R.at_
 obtain⟨o,U,g⟩:=R.dict
 obtain⟨l,I,D⟩:=D
 have h8:=W.len
 have a0:o.length<1000:=by rw[g.len];omega
 refine⟨l,_,I,D.line,?_⟩
 cases c with
 |claim u x=>
  obtain⟨v,hv,J⟩:=D.rs _ rfl
  refine⟨l,v,I,hv,L,_,_,ha,rfl,l,_,I,D.new,o,U,a0,fun M T=>?_⟩
  have z:=R.putD T (g.put J)
  exact q _ _ M ⟨rfl,rfl,rfl⟩ z.1 z.2
 |more u x=>
  obtain⟨⟨c,Z⟩,X⟩:=B
  obtain⟨v,hv,J⟩:=D.rs _ rfl
  exact⟨⟨L,_,ha,rfl⟩,l,_,I,D.name,l,v,I,hv,a,d,e,rows,u,v,c,x,rfl,R,J,Z,W.sz (by omega) (oV Z),(ke X).mono (by decide),h8,fun M ow h=>q _ _ M ⟨rfl,rfl,c,Z,rfl⟩ ow h⟩
 |drop u=>
  obtain⟨c,Z⟩:=B
  obtain⟨v,hv,J⟩:=vb g Z
  refine⟨L,_,_,ha,rfl,⟨o,U⟩,l,_,I,D.name,o,v,U,hv,fun M T=>?_⟩
  have z:=R.putD T (g.drop u)
  exact q _ _ M ⟨rfl,rfl,rfl⟩ z.1 z.2
 | part u u2 x=>
  obtain⟨Z,g4,g5,g6,c,X,g7⟩:=B
  obtain⟨v,hv,J⟩:=D.rs _ rfl
  obtain⟨v1,a7,b0⟩:=vb g X
  refine⟨L,_,_,ha,rfl,l,_,I,D.name,o,v1,U,a7,l,v,I,hv,v1,v,c,x,1000,200,rfl,b0,J,W.sz (by omega) (oV X),ke g6,by decide,trivial,fun z M n1=>?_⟩
  have s1:=n1.same
  refine⟨L,_,_,s1 _ _ ha,rfl,l,_,s1 _ _ I,D.name,o,s1 _ _ U,a0,fun Y c2=>?_⟩
  have a6:=R.same s1
  obtain⟨ow,O⟩:=a6.putD c2 ((g.ts s1.ts).put (ip.new n1))
  obtain⟨b2,b7,b1,b5⟩:=O.at_
  obtain⟨a5,a9,a2⟩:=O.dict
  have a4:Y t=some (.dK l):=ow.st _ _ (fun z=>z.elim a1 a3) (s1 _ _ I)
  refine⟨l,v,a4,hv,b2,_,_,b1,rfl,l,_,a4,D.new,a5,a9,?_,fun H3 c3=>?_⟩
  ·have:=a2.len
   have:=Io rows u (c - x)
   omega
  ·have z:=O.putD c3 (a2.put ((J.same s1).ts ow.ts))
   exact q _ _ H3 ⟨rfl,rfl,c,X,rfl⟩ ((Ow.same s1).trans (ow.trans z.1)) z.2
 |join u u2=>
  obtain⟨X,⟨c,g4⟩,x,g5⟩:=B
  obtain⟨v,hv,J⟩:=vb g g5
  refine⟨⟨L,_,ha,rfl⟩,l,_,I,D.name,L,_,_,ha,rfl,⟨o,U⟩,l,_,I,D.other,o,v,U,hv,fun M T=>?_⟩
  obtain⟨ow,O⟩:=R.putD T (g.drop u2)
  exact⟨a,d,e,_,u,v,c,x,rfl,O,J.ts ow.ts,by rw[xR X];exact g4,W.sz (by omega) (oV g4),W.sz (by omega) (oV g5),bL (eB _ _) h8,fun Y a8 h=>q _ _ Y ⟨rfl,rfl,c,x,g4,g5,rfl⟩ (ow.trans a8) h⟩
 |estate x=>
  obtain⟨v,hv,J⟩:=D.rs _ rfl
  refine⟨l,v,I,hv,L,_,ha,(by show 2<1000;decide),fun M T=>?_⟩
  have ow:Ow (isA a d) H M:=Ow.chg T (.inl rfl) ha (fun _ h=>by cases h)
  refine q _ _ M ⟨rfl,rfl,rfl⟩ ow ⟨⟨L,_,T.at_,J.ts ow.ts⟩,o,?_,g.ts ow.ts⟩
  rw[T.oth d R.ne];exact U
 |grow x=>
  obtain⟨v,hv,J⟩:=D.rs _ rfl
  refine⟨L,_,_,ha,rfl,l,v,I,hv,ve,v,e,x,1000,200,rfl,b3,J,W.se (by omega),ke B,by decide,trivial,fun z M n1=>?_⟩
  have s1:=n1.same
  refine⟨L,_,s1 _ _ ha,(by show 2<1000;decide),fun Y c2=>?_⟩
  have ow:Ow (isA a d) M Y:=Ow.chg c2 (.inl rfl) (s1 _ _ ha) (fun _ h=>by cases h)
  refine q _ _ Y ⟨rfl,rfl,rfl⟩ ((Ow.same s1).trans ow) ⟨⟨L,_,c2.at_,(ip.new n1).ts ow.ts⟩,o,?_,(g.ts s1.ts).ts ow.ts⟩
  rw[c2.oth d R.ne];exact s1 _ _ U
 |show_=>exact G.elim
 |leave u c=>exact G.elim
 |share c=>exact G.elim
 |turned c=>exact G.elim
 |two c u v=>exact G.elim
 |need c u v=>exact G.elim
theorem qu(F:jA K Ad.aDesk "claims_listed" "Desk.claims_listed" jf aM f fd)(g:Env K mg Ad):jg P w K mg base Ad.aDesk "claims_listed" 1 aM (mY K Ad):=by
 refine F.calE (F.fn.okE qM (fun C H Q E h=>?_) (fun L A o s H C Q E z h=>?_))
 ·obtain⟨a,d,e,rows,rfl,b,q⟩:=h
  rfl
 obtain⟨a,d,e,rows,rfl,b,q⟩:=h
 refine⟨_,(hV (ig (AS rfl g.b_list (jE g.cl_Desk g.na_Desk_claims (dv 0))))),?_⟩
 obtain⟨J,M,ha,I⟩:=b.at_
 obtain⟨B,D,z⟩:=b.dict
 refine⟨J,_,_,ha,rfl,_,D,fun l G n=>?_⟩
 exact q l G n.same n.fr (iE.new n z.vals)
theorem uw(F:jA K Ad.aDesk "place_of" "Desk.place_of" jK aN f fd)(B:Env K mg Ad):jg P w K mg base Ad.aDesk "place_of" 1 aN (qV K Ad):=by
 refine F.calE (F.fn.okE uW (fun N H Q E h=>?_) (fun L A D s H N Q E b h=>?_))
 ·obtain⟨a,d,e,rows,u,c,rfl,o,G,R,q⟩:=h
  rfl
 obtain⟨a,d,e,rows,u,c,rfl,o,G,R,q⟩:=h
 refine⟨_,(hV (ig (kW cW PySem.F.slot_list_index PySem.F.type_list_index JF (jo (uc rfl) rfl B.b_list PyProof.Rows.boot_list (gX (jE B.cl_Desk B.na_Desk_claims (dv 0)) gY)) (gX (dv 1) gY)))),?_⟩
 obtain⟨U,W,ha,S⟩:=o.at_
 obtain⟨M,O,b⟩:=o.dict
 refine⟨U,_,_,ha,rfl,_,O,fun l J n=>?_⟩
 rw[b.keys,show(rows.map fun r=>V.str (tx r.1))=(rows.map fun r=>tx r.1).map V.str by rw[bM];rfl] at n
 obtain⟨j,g,C⟩:=sV G
 have T:=(aZ.mp g).1
 refine⟨.inl ⟨rfl,_,SqL.of n.at_⟩,rows.map fun r=>tx r.1,j,n.at_,by rw[bi,g];rfl,fun m I z=>?_,by omega,q j J n.same g⟩
 rw[bi] at z
 obtain⟨r,b,e⟩:=bN.mp z
 exact C m I r b (li e)
theorem uz(F:jA K Ad.aDesk "parts_by" "Desk.parts_by" jF aO f fd)(N:Env K mg Ad)(g:ie P w K mg base "shared" 9 al (qa K Ad))(b:jg P w K mg base Ad.aDesk "claims_listed" 1 aM (mY K Ad)):jg P w K mg base Ad.aDesk "parts_by" 10 aO (rX K Ad):=by
 refine F.calE (F.fn.okE uP (fun vs H Q E h=>?_) (fun Z A J s H vs Q E O h=>?_))
 ·obtain⟨a,d,e,rows,L,k,rfl,C,o,hk,z,M,q⟩:=h
  rfl
 obtain⟨a,d,e,rows,L,k,rfl,C,o,hk,z,M,q⟩:=h
 refine⟨_,(hV (ig (hW g O (by decide) rfl (gX (dv 1) (gX (qc b O (by decide) (dv 0)) (gX (jE N.cl_Desk N.na_Desk_estate (dv 0)) gY)))))),?_⟩
 obtain⟨R,ve,ha,I⟩:=C.at_
 refine⟨⟨R,_,ha,rfl⟩,a,d,e,rows,rfl,C,fun l H1 s1 f1 hL=>?_⟩
 obtain⟨D,G⟩:=o.ob
 refine⟨R,_,_,s1 _ _ ha,rfl,L,l,ve,_,e,k,D,by rw[nK];rfl,z,hL,I.same s1,G,by omega,fun _ X ps T U f2 Y hR ⟨W,B⟩=>?_,fun c S=>?_⟩
 ·exact q X ps W T (s1.trans U) (s1.free f2) Y hR B
 ·rw[pc (by rw[aX];exact o.len) o.nn o.e0 M] at S
  cases S
theorem qw(F:jA K Ad.aDesk "add_to_claim" "Desk.add_to_claim" jp aB f fd)(D:Env K mg Ad)(b:ie P w K mg base "plus" 3 ae (qN K)):jg P w K mg base Ad.aDesk "add_to_claim" 4 aB (wF K Ad):=by
 refine F.calE (F.fn.okE ra (fun Y H Q E h=>?_) (fun W A M s H Y Q E l h=>?_))
 ·obtain⟨a,d,e,rows,u,v,c,x,rfl,C,hv,I,U,S,X,q⟩:=h
  rfl
 obtain⟨a,d,e,rows,u,v,c,x,rfl,C,hv,I,U,S,X,q⟩:=h
 refine⟨_,(hV (qz (iC l) (jE D.cl_Desk D.na_Desk_claims (dv 0)) (dv 1) (hW b l (by decide) rfl (gX (iF (iC l) (jE D.cl_Desk D.na_Desk_claims (dv 0)) (dv 1)) (gX (dv 2) gY))))),?_⟩
 obtain⟨N,Z,ha,L⟩:=C.at_
 obtain⟨o,J,l⟩:=C.dict
 rcases l.val u with⟨B,R⟩|⟨c',T,B,R,g3⟩
 ·rw[I] at B;cases B
 rw[I] at B
 cases B
 refine⟨N,_,_,ha,rfl,o,T,J,R,T,v,c,x,1000,1000,rfl,g3,hv,U,S,by decide,trivial,fun z H1 g=>?_⟩
 refine⟨N,_,_,g.same _ _ ha,rfl,o,g.same _ _ J,by rw[l.len];omega,fun O G=>?_⟩
 have ow:Ow (isA a d) H1 O:=Ow.chg G (.inr rfl) (g.same _ _ J) (fun _ h=>by cases h)
 refine q O ((Ow.same g.same).trans ow) ⟨⟨N,Z,?_,(L.same g.same).ts ow.ts⟩,_,G.at_,((l.ts g.same.ts).put (ip.new g)).ts ow.ts⟩
 rw[G.oth a C.ne.symm]
 exact g.same _ _ ha
theorem xl(F:jA K Ad.aDesk "leave" "Desk.leave" kj aH f fd)(O:Env K mg Ad)(B:ie P w K mg base "minus" 3 ae (mC K))(C:ie P w K mg base "shown" 1 ["one"] (jT K))(b:jg P w K mg base Ad.aDesk "parts_by" 10 aO (rX K Ad))(g:jg P w K mg base Ad.aDesk "place_of" 1 aN (qV K Ad)):jg P w K mg base Ad.aDesk "leave" 11 aH (tj K Ad):=by
 refine F.calE (F.fn.okE sj (fun X H Q E h=>?_) (fun a5 A a4 s H X Q E J h=>?_))
 ·obtain⟨a,d,e,rows,u,ρ,k,rfl,L,I,Y,hk,q⟩:=h
  rfl
 obtain⟨a,d,e,rows,u,ρ,k,rfl,L,I,Y,hk,q⟩:=h
 refine⟨_,(gZ (iq (i:=3) sj.nd rfl (Or.inl rfl) (io iV (iJ b J (by decide) (dv 0) (gX (dv 2) gY)) (iJ g J (by decide) (dv 0) (gX (dv 1) gY)) (fun _ _=>rfl)))
  (gZ (iS (zY (jE O.cl_Desk O.na_Desk_claims (dv 0)) (dv 1) ⟨rfl,rfl,rfl,rfl⟩))
  (gZ (oR O.cl_Desk O.na_Desk_estate (dv 0) (hW B J (by decide) rfl (gX (jE O.cl_Desk O.na_Desk_estate (dv 0)) (gX (dv 3) gY))))
  (hV (ig (hW C J (by decide) rfl (gX (dv 3) gY))))))),?_⟩
 obtain⟨R,ve,ha,a3⟩:=L.at_
 obtain⟨U,hd,J⟩:=L.dict
 obtain⟨_,a0,he,c,hu⟩:=I
 refine⟨⟨R,_,ha,rfl⟩,a,d,e,rows,ρ,k,rfl,L,Y,hk,a0,he,fun l ps D H1 s1 f1 hL hR a2=>?_⟩
 refine⟨⟨R,_,s1 _ _ ha,rfl⟩,a,d,e,rows,u,c,rfl,L.same s1,hu,by have:=Y.len;omega,fun j H2 s2 hj=>?_⟩
 obtain⟨X,hs,W,_⟩:=hL.sq
 have Z:=(aZ.mp hj).1
 obtain⟨v,hv⟩:∃v,X[j]? =some v:=⟨_,bg (by rw[W.len,hR.len,aX];exact Z)⟩
 obtain⟨p,hx,a1⟩:=W.get hv
 refine⟨X,v,s2.seq hs,iX hv,?_⟩
 have o:=s1.trans s2
 have T:ip K H2 v p:=a1.same s2
 have hz:Sz 1300 p:=a2.sz (by omega) (bo hx)
 rcases J.val u with⟨g1,g2⟩|⟨c',v',g1,g2,g3⟩
 ·rw[hu] at g1;cases g1
 refine⟨R,_,_,o _ _ ha,rfl,⟨U,o _ _ hd⟩,U,v',o _ _ hd,g2,fun H3 c3=>?_⟩
 have G:Ow (isA a d) H2 H3:=Ow.chg c3 (.inr rfl) (o _ _ hd) (fun _ h=>by cases h)
 have N:H3 a=_:=(c3.oth a L.ne.symm).trans (o _ _ ha)
 refine⟨R,_,_,N,rfl,ve,v,e,_,1000,1300,rfl,(a3.same o).ts G.ts,T.ts G.ts,Y.se (by omega),hz,by decide,trivial,fun z H4 S=>?_⟩
 refine⟨R,_,S.same _ _ N,(by show 2<1000;decide),fun H5 c5=>?_⟩
 have M:Ow (isA a d) H4 H5:=Ow.chg c5 (.inl rfl) (S.same _ _ N) (fun _ h=>by cases h)
 have ow:Ow (isA a d) H H5:=(Ow.same o).trans (G.trans ((Ow.same S.same).trans M))
 refine⟨v,_,rfl,((T.ts G.ts).same S.same).ts M.ts,hz.mono (by decide),q _ _ _ H5 ⟨rfl,c,ps,j,p,hj,hR,hx,rfl,rfl⟩ ow ⟨⟨R,_,c5.at_,(ip.new S).ts M.ts⟩,_,?_,(J.drop u).ts ow.ts⟩⟩
 rw[c5.oth d L.ne]
 exact S.same _ _ c3.at_
theorem xW(F:jA K Ad.aDesk "need" "Desk.need" kK ao f fd)(En:Env K mg Ad)(C:ie P w K mg base "shown" 1 ["one"] (jT K))(o:ie P w K mg base "needed" 11 av (sX K Ad))(b:jg P w K mg base Ad.aDesk "claims_listed" 1 aM (mY K Ad))(g:jg P w K mg base Ad.aDesk "place_of" 1 aN (qV K Ad)):jg P w K mg base Ad.aDesk "need" 12 ao (uS K Ad):=by
 refine F.calE (F.fn.okE Ah (fun vs H Q E h=>?_) (fun a2 A Y s H vs Q E R h=>?_))
 ·obtain⟨a,d,e,rows,M,u,v,x,k,rfl,hx,S,G,T,hk,q⟩:=h
  rfl
 obtain⟨a,d,e,rows,M,u,v,x,k,rfl,hx,S,G,T,hk,q⟩:=h
 refine⟨_,(hV (ig (hW C R (by decide) rfl (gX (hW o R (by decide) rfl (gX (dv 1) (gX (qc b R (by decide) (dv 0)) (gX (iJ g R (by decide) (dv 0) (gX (dv 2) gY)) (gX (dv 3) gY))))) gY)))),?_⟩
 obtain⟨dx,ve,ha,a5⟩:=S.at_
 obtain⟨a3,N,I,c,hu,a1⟩:=G
 have h8:=T.len
 obtain⟨D0,J⟩:=T.ob
 refine⟨⟨dx,_,ha,rfl⟩,a,d,e,rows,rfl,S,fun l H1 s1 f1 hL=>?_⟩
 refine⟨⟨dx,_,s1 _ _ ha,rfl⟩,a,d,e,rows,u,c,rfl,S.same s1,hu,by omega,fun j H2 s2 hj=>?_⟩
 have L:=s1.trans s2
 have D:(clm rows)[j]? =some c:=by rw[bi,hj];rfl
 have O:Ob k D0 (clm rows):=J.sub fun y hy=>bc _ hy
 have X:lF Ad (clm rows)=none:=xU (by rw[aX];exact h8) T.nn
 refine⟨tx (jb M),l,(j:Int),v,clm rows,x,k,D0,rfl,hL.same s2,hx.same L,O,by omega,(ke I).mono (by decide),fun U W c' h1 h2 h3 h4 Z h6 h7 w H3 s3 hw=>?_,fun z=>absurd (nK M).symm (z M N),fun c' _ B=>(by rw[X] at B;cases B),fun _ _ hz=>?_,fun W c' _ _ a4 B hz=>?_⟩
 ·obtain rfl:M=U:=lR (by rw[nK];exact h2)
  obtain rfl:j=W:=by omega
  rw[D] at Z
  cases Z
  exact⟨w,_,rfl,hw,Iu N O hk (by rw[aX];exact h8) (bo D) I h7,q _ H3 ⟨rfl,rfl,c,hu,rfl⟩ (L.trans s3)⟩
 ·have a0:=(aZ.mp D).1
  omega
 ·obtain rfl:j=W:=by omega
  rw[D] at B
  cases B
  have:=I.nn
  grind
theorem NL{x y:Int}(h:y.natAbs<2^200)(h0:y≠0):rG x y:=⟨h0,(Bd.of_lt h).mono (by decide)⟩
theorem cdd{x y:Int}(h:y.natAbs<2^200:=by decide)(h0:y≠0:=by decide):rG x y:=NL h h0
theorem ly{x y:Int}(b:x.natAbs<2^250)(g:y.natAbs<2^250):lS x y:=lS.of (m:=250) (Bd.of_lt b) (Bd.of_lt g) (by decide)
theorem LS{x:Int}{k:Int}(h0:0<=k)(g:k<=1000)(b:x.natAbs<2^64):yq x k:=by
 refine⟨h0,?_⟩
 have h1:(Builtin.Int.intBits x:Int)<=64:=by have:Bd 64 x:=Bd.of_lt b;omega
 have:(Builtin.Int.intBits x:Int)*k<=64*1000:=Int.mul_le_mul h1 g h0 (by decide)
 omega
theorem xY(F:Has K mg "_law_cell_at" qe aD f fd)(z:Env K mg Ad):ie P w K mg base "_law_cell_at" 1 aD (pZ K):=by
 refine F.calE (F.fn.okE zd (fun B H Q E h=>?_) (fun C A g s H B Q E D h=>?_))
 ·obtain⟨a,ns,k,rfl,b,h0,q⟩:=h
  rfl
 obtain⟨a,ns,k,rfl,b,h0,q⟩:=h
 refine⟨_,(gZ (iw (ij oO (dv 1) (iA kg rfl z.b_len PySem.boot_len (gX (dv 0) gY)) (ik _))
   (hV (ig (ic jl (io iV (dv 0) (dv 1) (fun _ _=>rfl)) (ic HJ hU hU))))
   il)
  (hV (ig hU))),?_⟩
 refine⟨_,.inl b,?_⟩
 refine br (fun c=>?_) (fun c=>?_)
 ·rw[aX] at c
  have l:k.toNat<ns.length:=by omega
  have hv:atI (ns.map V.int) k=some (.int (ns.getD k.toNat 0)):=by
   have o:atI (ns.map V.int) ((k.toNat:Nat):Int)=some (.int (ns.getD k.toNat 0)):=iX (by rw[bi,bg l,dt,bg l]<;>rfl)
   rw[show((k.toNat:Nat):Int)=k by omega] at o
   exact o
  have e:(10:Int)^((40:Int).toNat)=10^40:=rfl
  exact⟨_,_,b,hv,LS (by decide) (by decide) (by decide),by decide,q _ (by unfold c40;rw[if_pos c];rfl) (bV _ (by rw[e];decide)) (bK _ (by rw[e];decide))⟩
 ·rw[aX] at c
  exact q 0 (by unfold c40;rw[if_neg c]) (by decide) (by decide)
theorem GF{a b:Int}:cu (if a<0 then -a else a) b=cu a b:=by
 unfold cu
 congr 1
 split<;>omega
theorem AL(F:Has K mg "_law_ratio" sD aq f fd)(G:Env K mg Ad):ie P w K mg base "_law_ratio" 1 aq (qB):=by
 refine F.calE (F.fn.okE oE (fun M H Q E h=>?_) (fun J A o s H M Q E S h=>?_))
 ·obtain⟨a,b,rfl,L,l,k⟩:=h
  rfl
 obtain⟨a,b,rfl,L,l,k⟩:=h
 refine⟨_,(gZ (iq (i:=2) oE.nd rfl (Or.inl rfl) (iA Cu rfl G.b_abs PyProof.Rows.boot_abs (gX (dv 0) gY)))
  (gZ (iq (i:=3) oE.nd rfl (Or.inl rfl) (dv 1))
  (gZ (vx PassesOwn.leaving (ij rJ (dv 3) hU (ik _))
   (hV (Ni rfl oE.nd rfl rfl (by decide:2≠3) rfl rfl (gX (dv 3) (gX (ic jl (dv 2) (dv 3)) gY)))))
  (hV (ig (lC (gX (ic jk (dv 0) (dv 2)) (gX (ic jk (dv 1) (dv 2)) gY)))))))),?_⟩
 refine whl (fun m B g=>g=H/\ ∃(x y:Int),B=[some (.int a),some (.int b),some (.int x),some (.int y)]/\ 0<=x/\ 0<=y/\ cu x y=cu a b/\ m=y.toNat) _ ⟨rfl,_,_,rfl,by split<;>omega,by omega,GF,rfl⟩ ?_
 rintro m B g ⟨rfl,x,y,rfl,R,U,D,rfl⟩
 refine br (fun c=>zM ?_) (fun c=>?_)
 ·have O:=bV x (show y≠0 by omega)
  have T:=bK x c
  exact⟨c,_,by omega,rfl,y,x%y,rfl,by omega,O,by rw[Lm.yG];exact D,rfl⟩
 ·have N:y=0:=by omega
  subst N
  have e:x=Lm.dv a b:=by
   have:Lm.dv a b=(cu a b:Int):=if_neg (by omega)
   rw[this, ←D,Int.gcd_zero_right]
   omega
  have nb:b≠0:=by omega
  have d:rG a x:=by rw[e];exact⟨Lm.CU nb,Cy nb l⟩
  have I:rG b x:=by rw[e];exact⟨Lm.CU nb,Cy nb l⟩
  refine⟨d,I,fun p C n=>k p C ?_⟩
  have z:=Lr.ul (a:=a) nb
  rw[e] at n
  show New g p (.tup [.int (Lr.rt a b).num,.int ((Lr.rt a b).den:Int)]) C
  rw[←z.1, ←z.2]
  exact n
theorem BX(F:Has K mg "_law_text" vo aS f fd)(g:Env K mg Ad):ie P w K mg base "_law_text" 1 aS (jT K):=by
 refine F.calE (F.fn.okE Ej (fun o H Q E h=>?_) (fun B A l s H o Q E D h=>?_))
 ·obtain⟨v,x,rfl,hv,b,k⟩:=h
  rfl
 obtain⟨v,x,rfl,hv,b,k⟩:=h
 refine⟨_,(gZ (iw (ij iN (io iH (dv 0) hU (fun _ _=>rfl)) hU (ik _))
   (hV (ig (jo mh rfl g.b_str PyProof.Rows.boot_str (gX (io iH (dv 0) hU (fun _ _=>rfl)) gY))))
   il)
  (hV (ig (ic iG (ic iG (jo mh rfl g.b_str PyProof.Rows.boot_str (gX (io iH (dv 0) hU (fun _ _=>rfl)) gY)) (ds [47])) (jo mh rfl g.b_str PyProof.Rows.boot_str (gX (io iH (dv 0) hU (fun _ _=>rfl)) gY)))))),?_⟩
 have z:=Lr.den_pos x
 refine⟨x,hv,.inr ⟨rfl,?_⟩⟩
 refine br (fun c=>?_) (fun c=>?_)
 ·unfold wrR at k
  rw[c,Fp] at k
  exact⟨x,hv,.inl ⟨rfl,b.n,k⟩⟩
 ·unfold wrR at k
  rw[DH c z] at k
  have G:=tU b.n
  have C:=tU b.d
  refine⟨x,hv,.inl ⟨rfl,b.n,_,_,rfl,rfl,(by show _+1<=100000;omega),x,hv,.inr ⟨rfl,b.d,_,_,rfl,rfl,?_,k⟩⟩⟩
  rw[bf]
  show _+1+_<=100000
  omega
theorem GI{x y:Rat}:(x.num*(y.den:Int)<y.num*(x.den:Int))↔x<y:=by
 rw[←Rat.lt_iff]
theorem Ck(F:Has K mg "_law_less" uV aF f fd)(D:Env K mg Ad):ie P w K mg base "_law_less" 1 aF (vG K):=by
 refine F.calE (F.fn.okE Dy (fun B H Q E h=>?_) (fun C A z s H B Q E G h=>?_))
 ·obtain⟨v,w,x,y,rfl,b,g,l,o,q⟩:=h
  rfl
 obtain⟨v,w,x,y,rfl,b,g,l,o,q⟩:=h
 refine⟨_,(hV (ig (ki oO (ic iY (io iH (dv 0) hU (fun _ _=>rfl)) (io iH (dv 1) hU (fun _ _=>rfl))) (ic iY (io iH (dv 1) hU (fun _ _=>rfl)) (io iH (dv 0) hU (fun _ _=>rfl))) (ik _)))),?_⟩
 refine⟨x,b,.inl ⟨rfl,y,g,.inr ⟨rfl,lS.of l.n o.d (by decide),y,g,.inl ⟨rfl,x,b,.inr ⟨rfl,lS.of o.n l.d (by decide),?_⟩⟩⟩⟩⟩
 show Q (.bl (decide (x.num*(y.den:Int)<y.num*(x.den:Int)))) H
 rw[show decide (x.num*(y.den:Int)<y.num*(x.den:Int))=decide (x<y) from decide_eq_decide.mpr GI]
 exact q
def Cw:List Nat:=[97,98,99,100,101,102,103,104,105,106,107,108,109,110,111,112,113,114,115,116,117,118,119,120,121,122]
theorem HU{i:Int}(h0:0<=i)(h1:i<26):atI Cw i=some (97+i.toNat):=by
 have h:∀n:Fin 26,Cw[n.1]? =some (97+n.1):=by decide
 have:=h ⟨i.toNat,by omega⟩
 rw[show i=((i.toNat:Nat):Int) by omega]
 exact iX this
theorem DY{n d:Nat}(k:Nat):HT.sIx n d (some ((k:Nat):Int))=min k n:=HT.sIx_nat _ _ _
theorem Dn{l:List Nat}{i:Int}{k:Nat}(g:i=(k:Int))(b:k<=l.length):HT.sIx l.length 0 none<=HT.sIx l.length l.length (some i)/\ ny l none (some i)=l.take k:=by
 subst g
 unfold ny
 rw[DY,show HT.sIx l.length 0 none=0 from rfl,Nat.min_eq_left b]
 exact⟨cf _,by rw[ek,fC]⟩
theorem zG{l:List Nat}{i:Int}{k:Nat}(g:i=(k:Int))(b:k<=l.length):HT.sIx l.length 0 (some i)<=HT.sIx l.length l.length none/\ ny l (some i) none=l.drop k:=by
 subst g
 unfold ny
 rw[DY,show HT.sIx l.length l.length none=l.length from rfl,Nat.min_eq_left b]
 exact⟨b,by rw[cM (by rw[dB];exact bh _)]⟩
theorem yW(f:Nat ->Nat):∀l:List Nat,jm [] (l.map fun j=>[f j])=l.map f
 |[]=>rfl
 |[_]=>rfl
 |x::y::r=>by
  have ih:=yW f (y::r)
  show f x::jm [] ((y::r).map fun j=>[f j])=f x::(y::r).map f
  rw[ih]
theorem BZ(F:Has K mg "_law_name" rL aQ f fd)(O:Env K mg Ad):ie P w K mg base "_law_name" 1 aQ (vI):=by
 refine F.calE (F.fn.okE oh (fun X H Q E h=>?_) (fun S A G s H X Q E hr h=>?_))
 ·obtain⟨k,c,rfl,W,R,q⟩:=h
  rfl
 obtain⟨k,c,rfl,W,R,q⟩:=h
 refine⟨_,(gZ (iq (i:=2) oh.nd rfl (Or.inr rfl) (ds [97,98,99,100,101,102,103,104,105,106,107,108,109,110,111,112,113,114,115,116,117,118,119,120,121,122]))
  (gZ (iq (i:=3) oh.nd rfl (Or.inl rfl) (ic jL hU (ic jl (dv 1) hU)))
  (gZ (iq (i:=4) oh.nd rfl (Or.inl rfl) (ic jl (ic jk (dv 1) hU) (dv 3)))
  (gZ (iq (i:=5) oh.nd rfl (Or.inl rfl) (kW cZ fW PySem.F.type_str_join Bw (ds []) (gX (lu (hZ rL) ["_law_some","_law_cell"] [2,1] rfl (nW rfl O.b_range (gX (dv 3) gY)) (fun z=>(io HS (dv 1) (ic jl (ic ML (ic jk (dv 2) hU) (ic iY hU (dv 0))) hU) (fun _ _=>rfl)))) gY)))
  (hV (ig (ic iG (ic iG (mD vO (dv 5) nu (pB (dv 4))) (io HS (dv 2) (ic jl (ic jL (ic jk (dv 1) hU) (ic iY hU (dv 0))) hU) (fun _ _=>rfl))) (mD vO (dv 5) (pB (ic jL (dv 4) hU)) nu)))))))),?_⟩
 obtain⟨h1,h2⟩:=sY c
 have x0:=bV c (show(8:Int)≠0 by decide)
 have x1:=bK c (show(0:Int)<8 by decide)
 have y0:=bV (c.fdiv 8) (show 1+c%8≠0 by omega)
 refine⟨by decide,cdd,by omega,?_⟩
 refine⟨rfl,_,rfl,by omega,by omega,fun U H2 I=>?_⟩
 refine vT (fun i g b=>iu H b/\ b U=some (.lst g)/\ g=((dz i).map fun j:Nat=>[97+((c.fdiv 64/2^(3*j))%26).toNat]).map fun u=>.str (tx u)) ⟨I.same,I.at_,rfl⟩ ?_ ?_
 ·rintro i g b z hi ⟨D,o,rfl⟩
  have T:i<8:=by omega
  have C:=bV (c.fdiv 64/2^(3*(0+(i:Int))).toNat) (show(26:Int)≠0 by decide)
  have B:=bK (c.fdiv 64/2^(3*(0+(i:Int))).toNat) (show(0:Int)<26 by decide)
  refine⟨cdd,ly (by decide) (by omega),by omega,by decide,Cw,_,_,rfl,rfl,by decide,HU C B,o,by rw[aX,aX,cP];omega,fun H4 M=>⟨M.same D I.fr,M.at_,?_⟩⟩
  rw[List.range_succ,bZ,bZ,show(3*(0+(i:Int))).toNat=3*i by omega]
  rfl
 ·rintro g b ⟨D,o,rfl⟩
  refine⟨[],_,rfl,SqL.of o,by rw[aX,cP];omega,fun p Y=>?_,by decide,?_⟩
  ·obtain⟨j,_,rfl⟩:=bz.mp Y
   show 1<=1500
   decide
  rw[show jm [] ((dz (1+c%8).toNat).map fun j:Nat=>[97+((c.fdiv 64/2^(3*j))%26).toNat])=base7 c from yW _ _]
  obtain⟨Z,J⟩:=Dn (l:=base7 c) (i:=c.fdiv 8%(1+c%8)) (k:=lg c) (by unfold lg;omega) (by omega)
  obtain⟨N,L⟩:=zG (l:=base7 c) (i:=c.fdiv 8%(1+c%8)+1) (k:=lg c+1) (by unfold lg;omega) (by omega)
  have C:=bV (c.fdiv 11+3*k) (show(26:Int)≠0 by decide)
  have B:=bK (c.fdiv 11+3*k) (show(0:Int)<26 by decide)
  refine⟨base7 c,rfl,by omega,Z,cdd,ly (by decide) (by omega),by decide,Cw,_,_,rfl,rfl,by decide,HU C B,_,_,rfl,rfl,?_,base7 c,rfl,by omega,N,_,_,rfl,rfl,?_,?_⟩
  ·rw[J,bW];show _+1<=100000;omega
  ·rw[J,L,bf,bW,dB];show _+1+_<=100000;omega
  ·rw[J,L]
   exact q b D
theorem JN{x:Rat}(h:0<=x):wrR x=Lt.fg x.num.natAbs++(if(x.den:Int)=1 then [] else 47::Lt.fg x.den):=by
 unfold wrR Lt.wr
 rw[show Lt.sg x.num=[] from if_neg (by have:=(Lr.num_nonneg x).mpr h;omega)]
 rfl
theorem wl{n:Nat}{m:Nat}(h:(Lt.fg n).length<=m)(b:m<=640):intText? (tx (Lt.fg n))=some (n:Int):=by
 have:=intText_digits (x:=tx (Lt.fg n)) (by rw[jt];exact Lt.sK n) (by rw[jt];exact Lt.wa n) (by rw[iK];omega)
 rw[jt] at this
 rw[this]
 show some ((Lt.val (Lt.fg n):Nat):Int)=_
 rw[Lt.Dl]
theorem CK(F:Has K mg "_law_read" vD aT f fd)(g:Env K mg Ad):ie P w K mg base "_law_read" 1 aT (qZ K):=by
 refine F.calE (F.fn.okE sE (fun vs H Q E h=>?_) (fun a0 A R s H vs Q E hr h=>?_))
 ·obtain⟨x,rfl,D,q⟩:=h
  rfl
 obtain⟨x,rfl,D,q⟩:=h
 refine⟨_,(gZ (iw (nh (jC (iA CZ rfl g.b_isinstance PyProof.Rows.boot_isinstance (gX (dv 0) (gX (wQ (v:=.ty "str") rfl g.b_str PyProof.Rows.boot_str rfl) gY)))))
   (hV (ig (lC (gX (mS mT hU) (gX hU gY)))))
   il)
  (gZ (iq (i:=1) sE.nd rfl (Or.inl rfl) (kW cZ fP fQ wH (dv 0) (gX (ds [47]) gY)))
  (gZ (lf PassesOwn.leaving rfl (jy (dv 1)) (iW (i:=2) sE.nd rfl (Or.inl rfl))
   (hV (iw (PW.pt (mV (nh (jC (KO cZ PySem.F.slot_str_isdigit PySem.F.type_str_isdigit De (dv 2)))) (ml (ij rJ (iA og rfl g.b_len PySem.boot_len (gX (dv 2) gY)) hU (ik _)))))
   (hV (ig (lC (gX (mS mT hU) (gX hU gY)))))
   il)))
  (gZ (iw (ij iN (iA kg rfl g.b_len PySem.boot_len (gX (dv 1) gY)) hU (ik _))
   (hV (ig (lC (gX (jo me rfl g.b_int PyProof.Rows.boot_int (gX (io iV (dv 1) hU (fun _ _=>rfl)) gY)) (gX hU gY)))))
   il)
  (gZ (iw (PW.pt (mV (ij oU (iA kg rfl g.b_len PySem.boot_len (gX (dv 1) gY)) hU (ik _)) (ml (ij oO (jo me rfl g.b_int PyProof.Rows.boot_int (gX (io iV (dv 1) hU (fun _ _=>rfl)) gY)) hU (ik _)))))
   (hV (ig (lC (gX (mS mT hU) (gX hU gY)))))
   il)
  (hV (ig (lC (gX (jo me rfl g.b_int PyProof.Rows.boot_int (gX (io iV (dv 1) hU (fun _ _=>rfl)) gY)) (gX (jo me rfl g.b_int PyProof.Rows.boot_int (gX (io iV (dv 1) hU (fun _ _=>rfl)) gY)) gY)))))))))),?_⟩
 have hd:=Lr.den_pos x
 have Y:=(Lr.num_nonneg x).mpr D.x0
 have M:(Lt.fg x.num.natAbs).length<=200:=Lt.om (k:=199) D.n
 have N:(Lt.fg x.den).length<=200:=Lt.om (k:=199) D.d
 have hl:=mP D.sz
 have ew:=JN D.x0
 have G:47∉Lt.fg x.num.natAbs:=Lt.qY (by decide)
 have U:47∉Lt.fg x.den:=Lt.qY (by decide)
 obtain⟨B,I,W,L⟩:∃B:List Nat,True/\ Txt.split (tx (wrR x)) (tx [47])=(B.map Lt.fg).map tx/\ (B=[x.num.natAbs]/\ (x.den:Int)=1∨B=[x.num.natAbs,x.den]/\ (x.den:Int)≠1):=by
  rw[zX _ (by decide),ew]
  by_cases h1:(x.den:Int)=1
  ·rw[if_pos h1,cT,lw G]
   exact⟨[x.num.natAbs],trivial,rfl,.inl ⟨rfl,h1⟩⟩
  ·rw[if_neg h1,mW G,lw U]
   exact⟨[x.num.natAbs,x.den],trivial,rfl,.inr ⟨rfl,h1⟩⟩
 have I:∀m∈B,(Lt.fg m).length<=200:=by
  rcases L with⟨rfl,_⟩|⟨rfl,_⟩
  ·intro m C;cases bC.mp C;exact M
  ·intro m C
   rcases bw.mp C with rfl|C
   ·exact M
   ·cases bC.mp C;exact N
 have a1:B.length<=2:=by rcases L with⟨rfl,_⟩|⟨rfl,_⟩<;>exact Nat.le_of_ble_eq_true rfl
 refine⟨_,true,.str _,rfl,?_⟩
 refine⟨rfl,rfl,by rw[iK];omega,by rw[W,aX,aX];omega,fun l S T=>?_⟩
 rw[W] at T
 have o:S l=some (.lst (B.map fun m=>.str (tx (Lt.fg m)))):=by rw[T.at_,bM,bM];rfl
 have en:((x.num.natAbs:Nat):Int)=x.num:=by omega
 have fin:∀z b,New S z (.tup [.int ((x.num.natAbs:Nat):Int),.int (x.den:Int)]) b ->Q (.ref z) b:=fun z b J=>by
  rw[en] at J
  exact q _ b (T.same.trans J.same) (ip.new J)
 refine⟨l,rfl,⟨_,SqL.of o⟩,no (xs:=B.map fun m=>.str (tx (Lt.fg m))) (fun i O b=>b=S/\ ∃z,O=[some (.str (tx (wrR x))),some (.ref l),z]) ⟨rfl,none,rfl⟩ (fun _ _ _ _ h=>by rw[h.1];exact SqL.of o) ?_ ?_⟩
 ·rintro i y O b X ⟨e2,z,rfl⟩
  subst b
  rw[bi] at X
  obtain⟨m,C,rfl⟩:=bN.mp X
  have Z:=I m (bo C)
  refine⟨rfl,Lt.fg m,rfl,rfl,Lt.wa m,Lt.sK m,Lt.fg m,rfl,by omega,br (fun c=>?_) (fun _=>⟨rfl,_,rfl⟩)⟩
  omega
 ·rintro O b ⟨e2,z,rfl⟩
  subst b
  refine⟨_,.inl (SqL.of o),br (fun c=>?_) (fun c=>?_)⟩
  ·rw[aX] at c
   rcases L with⟨rfl,h1⟩|⟨rfl,h1⟩
   ·refine⟨_,_,SqL.of o,rfl,Lt.fg x.num.natAbs,_,rfl,wl M (by decide),by omega,fun z b J=>fin z b ?_⟩
    rw[h1]
    exact J
   ·exact absurd c (show ¬((2:Nat):Int)=1 by decide)
  ·rw[aX] at c
   rcases L with⟨rfl,h1⟩|⟨rfl,h1⟩
   ·exact absurd rfl c
   ·refine⟨_,.inl (SqL.of o),?_⟩
    refine⟨_,_,SqL.of o,rfl,Lt.fg x.den,_,rfl,wl N (by decide),by omega,br (fun c=>?_) (fun _=>?_)⟩
    ·omega
    ·exact⟨_,_,SqL.of o,rfl,Lt.fg x.num.natAbs,_,rfl,wl M (by decide),by omega,_,_,SqL.of o,rfl,Lt.fg x.den,_,rfl,wl N (by decide),by omega,fin⟩
theorem Bk{xs:List V}{x:V}(h:xs[xs.length - 1]? =some x):atI xs (-1)=some x:=by
 have b:=(aZ.mp h).1
 unfold atI ixN
 rw[if_neg (by decide),if_pos (by omega)]
 show xs[((-1:Int)+(xs.length:Int)).toNat]? =some x
 rw[show((-1:Int)+(xs.length:Int)).toNat=xs.length - 1 by omega]
 exact h
theorem yO(F:Has K mg "_law_claims" rE aE f fd)(En:Env K mg Ad)(o:ie P w K mg base "_law_ratio" 1 aq (qB))(g:ie P w K mg base "_law_cell_at" 1 aD (pZ K)):ie P w K mg base "_law_claims" 2 aE (qW K):=by
 refine F.calE (F.fn.okE kh (fun O H Q E h=>?_) (fun a9 A a7 s H O Q E L h=>?_))
 ·obtain⟨a,ns,rfl,hS,q⟩:=h
  rfl
 obtain⟨a,ns,rfl,hS,q⟩:=h
 refine⟨_,(gZ (iq (i:=1) kh.nd rfl (Or.inl rfl) (mZ gY))
  (gZ (lf PassesOwn.leaving rfl (nW rfl En.b_range (gX (ic jL hU (ic jl (hW g L (by decide) rfl (gX (dv 0) (gX hU gY))) hU)) gY)) (iW (i:=2) kh.nd rfl (Or.inl rfl))
   (gZ (iq (i:=3) kh.nd rfl (Or.inl rfl) (ic jL (hW g L (by decide) rfl (gX (dv 0) (gX (ic jL hU (dv 2)) gY))) (ic iY hU (dv 2))))
  (gZ (iq (i:=4) kh.nd rfl (Or.inl rfl) (hW o L (by decide) rfl (gX (ic jl (ic jL (ic jL (ic iY (ic jk (dv 3) hU) hU) (ic jk (dv 3) hU)) (ic jl (dv 3) hU)) hU) (gX (ic jL hU (ic jl (ic jk (dv 3) hU) hU)) gY))))
  (gZ (iw (ij iN (ic jl (dv 3) hU) hU (ik _))
   (hV (iq (i:=4) kh.nd rfl (Or.inl rfl) (hW o L (by decide) rfl (gX (ic jl (ic jk (dv 3) hU) (ic HJ hU hU)) (gX (ic jL hU (ic jl (ic jk (dv 3) hU) hU)) gY)))))
   il)
  (gZ (iw (ij iN (ic jl (dv 3) hU) hU (ik _))
   (hV (iq (i:=4) kh.nd rfl (Or.inl rfl) (lC (gX hU (gX hU gY)))))
   il)
  (gZ (iw (PW.pt (kF (ij iN (ic jl (dv 3) hU) hU (ik _)) (jU (ij rJ (dv 2) hU (ik _)))))
   (hV (iq (i:=4) kh.nd rfl (Or.inl rfl) (io iV (dv 1) (mS mT hU) (fun _ _=>rfl))))
   il)
  (hV (iS (vv (dv 1) (gX (dv 4) gY))))))))))
  (hV (ig (dv 1))))),?_⟩
 refine fun l H1 X=>?_
 refine⟨a,ns,0,rfl,X.same.seq hS,by decide,fun v0 _ b3 b4=>⟨by decide,?_⟩⟩
 have r0:=bV v0 (show(8:Int)≠0 by decide)
 have r1:=bK v0 (show(0:Int)<8 by decide)
 refine⟨_,rfl,by omega,by omega,?_⟩
 refine pO (fun i I S=>iu H S/\ ∃(J:List Rat) (x2 x3 x4:Option V),I=[some (.ref a),some (.ref l),x2,x3,x4]/\ iE K S l J/\ J.length=i/\ ∀c∈J,Cl7 c) ⟨X.same,[],_,_,_,rfl,⟨_,X.at_,iR.nil⟩,rfl,by simp⟩ ?_ ?_
 ·rintro i I S hi ⟨Y,J,x2,x3,x4,rfl,hL,hc,L⟩
  have b2:i<8:=by omega
  refine⟨a,ns,_,rfl,Y.seq hS,by omega,fun v _ v1 v2=>⟨ly (by decide) (by omega),?_⟩⟩
  obtain⟨cl,a4⟩:∃c,c=v+13*(0+(i:Int)):=⟨_,rfl⟩
  have a8:cl<10^41:=by omega
  have a0:cl.fdiv 96=cl/96:=dq _ (by decide)
  have e8:cl.fdiv 8=cl/8:=dq _ (by decide)
  dsimp only[Gq]
  rw[←a4]
  have b0:=bV (cl.fdiv 8) (show(12:Int)≠0 by decide)
  have b1:=bK (cl.fdiv 8) (show(0:Int)<12 by decide)
  have bb:Bd 9000 (1+cl.fdiv 8%12):=(Bd.of_lt (n:=200) (by omega)).mono (by decide)
  have t0:=bV (cl.fdiv 96*5+cl.fdiv 8+cl%8) (show(14:Int)≠0 by decide)
  have t1:=bK (cl.fdiv 96*5+cl.fdiv 8+cl%8) (show(0:Int)<14 by decide)
  refine⟨cdd,ly (by rw[a0];omega) (by decide),cdd,by decide,by decide,cdd,by decide,_,_,rfl,by omega,bb,fun z H3 n3=>?_⟩
  have Z:iu H H3/\ iE K H3 l J/\ ∃v x,[some (.ref a),some (.ref l),some (.int (0+(i:Int))),some (.int cl),some (.ref z)]=[some (.ref a),some (.ref l),some (.int (0+(i:Int))),some (.int cl),some v]/\ ip K H3 v x/\ Cl7 x:=⟨Y.trans n3.same,hL.same n3.same,_,_,rfl,ip.new n3,Ac t0 (by omega) (by omega) (by omega)⟩
  dsimp only[kf,List.set]
  refine lh (t:=nH _ _ _) (fun I D=>iu H D/\ iE K D l J/\ ∃v x,I=[some (.ref a),some (.ref l),some (.int (0+(i:Int))),some (.int cl),some v]/\ ip K D v x/\ Cl7 x) ?_ (fun B=>?_)
  rotate_left
  ·refine⟨by decide,br (fun _=>?_) (fun _=>B _ _ Z)⟩
   have f0:=bV (cl.fdiv 96) (show(10:Int)^((12:Int).toNat)≠0 by decide)
   have f1:=bK (cl.fdiv 96) (show(0:Int)<10^((12:Int).toNat) by decide)
   rw[show(12:Int).toNat=12 from rfl] at f0 f1
   exact⟨cdd,LS (by decide) (by decide) (by decide),by decide,cdd,by decide,_,_,rfl,by omega,bb,fun y D n4=>B _ _ ⟨Z.1.trans n4.same,Z.2.1.same n4.same,_,_,rfl,ip.new n4,Ac f0 (by show(cl.fdiv 96)%10^12<=_;omega) (by omega) (by omega)⟩⟩
  clear Z
  rintro I D ⟨s4,N,v4,y4,rfl,U,R⟩
  refine lh (t:=nH _ _ _) (fun I D=>iu H D/\ iE K D l J/\ ∃v x,I=[some (.ref a),some (.ref l),some (.int (0+(i:Int))),some (.int cl),some v]/\ ip K D v x/\ Cl7 x) ?_ (fun B=>?_)
  rotate_left
  ·refine⟨by decide,br (fun _=>?_) (fun _=>B _ _ ⟨s4,N,v4,y4,rfl,U,R⟩)⟩
   exact fun y H5 n5=>B _ _ ⟨s4.trans n5.same,N.same n5.same,_,0,rfl,ip.new n5,Gp⟩
  clear U R s4 N
  rintro I H5 ⟨s5,M,v5,y5,rfl,T,W⟩
  refine lh (t:=nH _ _ _) (fun I D=>iu H D/\ iE K D l J/\ ∃v x,I=[some (.ref a),some (.ref l),some (.int (0+(i:Int))),some (.int cl),some v]/\ ip K D v x/\ Cl7 x) ?_ (fun B=>?_)
  rotate_left
  ·refine⟨by decide,br (fun _=>br (fun ck=>?_) (fun _=>B _ _ ⟨s5,M,v5,y5,rfl,T,W⟩)) (fun _=>B _ _ ⟨s5,M,v5,y5,rfl,T,W⟩)⟩
   have ck:(0:Int)<0+(i:Int):=ck
   obtain⟨O,G,C⟩:=M
   have a3:=C.len
   obtain⟨w,hw⟩:∃w,O[O.length - 1]? =some w:=⟨_,bg (by omega)⟩
   obtain⟨y,hy,a2⟩:=C.get hw
   exact⟨_,_,SqL.of G,Bk hw,B _ _ ⟨s5,⟨O,G,C⟩,w,y,rfl,a2,L y (bo hy)⟩⟩
  rintro I H6 ⟨s6,a1,v6,y6,rfl,a6,a5⟩
  obtain⟨O,G,C⟩:=a1
  have a3:=C.len
  refine⟨⟨_,G⟩,_,G,by omega,fun H7 c7=>?_⟩
  have ts:TpS H6 H7:=(Ow.chg (F:=fun b=>b=l) c7 rfl G (fun _ h=>by cases h)).ts
  refine⟨c7.same s6 X.fr,J++[y6],_,_,_,rfl,⟨_,c7.at_,(C.ts ts).snoc (a6.ts ts)⟩,by rw[bf,hc];rfl,fun c h=>?_⟩
  rcases bS.mp h with h|h
  ·exact L c h
  ·rw[bC.mp h]
   exact a5
 ·rintro I S ⟨Y,J,x2,x3,x4,rfl,hL,hc,L⟩
  exact q l J S Y X.fr hL (by omega) (by omega) L
theorem MA{u:List Nat}(h:jD u){c:Nat}(b:c<97):c∉u:=fun z=>by have:=(h.az c z).1;omega
theorem Jw{x:Rat}:44∉wrR x:=by
 intro h
 unfold wrR Lt.wr Lt.sg at h
 rcases bS.mp h with h|h
 ·rcases bS.mp h with h|h
  ·split at h<;>simp at h
  ·exact Lt.qY (by decide) h
 ·split at h
  ·cases h
  ·rcases bw.mp h with h|h
   ·cases h
   ·exact Lt.qY (by decide) h
theorem Iy(b:Lr.Rl):ji ([115,104,97,114,101,32]++jb b)=[Fd,jb b]:=by cases b<;>rfl
theorem EM(q:Rat):ji ([101,115,116,97,116,101,32]++wrR q)=[lj,wrR q]:=by
 have:=mi (a:=0) (b:=0) (c:=0) (us:=[lj,wrR q]) fun u g=>by
  rcases bw.mp g with rfl|g
  ·decide
  ·cases bC.mp g
   exact qP
 rw[show bA 0 32++jm (bA (0+1) 32) [lj,wrR q]++bA 0 32=[101,115,116,97,116,101,32]++wrR q by simp[jm,lj]] at this
 exact this
theorem qF{x:Str}{H:Hp}{Q:VK}(h:Q (.bl false) H):dNe (.str x) (.str x) H Q:=by
 have e:(!decide (x=x))=false:=by simp
 show Q (.bl (!decide (x=x))) H
 rw[e]
 exact h
theorem CO(F:Has K mg "_law_gets" uY aj f fd)(En:Env K mg Ad)(o:jg P w K mg base Ad.aDesk "say" 14 aI (qO K Ad))(L:ie P w K mg base "_law_read" 1 aT (qZ K))(M:ie P w K mg base "_law_text" 1 aS (jT K)):ie P w K mg base "_law_gets" 15 aj (xb K Ad):=by
 refine F.calE (F.fn.okE sx (fun vs H Q E h=>?_) (fun d4 A c4 s H vs Q E C h=>?_))
 ·obtain⟨a,d,ln,rows,e0,e,c,ρ,ve,u,j,k,rfl,hD,T,a8,Y,hk,b3,X,U,a0,hj,q⟩:=h
  rfl
 obtain⟨a,d,ln,rows,e0,e,c,ρ,ve,u,j,k,rfl,hD,T,a8,Y,hk,b3,X,U,a0,hj,q⟩:=h
 refine⟨_,(gZ (iw (ij oU (iJ o C (by decide) (dv 0) (gX (ic iG (ds [101,115,116,97,116,101,32]) (hW M C (by decide) rfl (gX (dv 2) gY))) gY)) (ds [111,107]) (ik _))
   (hV (ig (lC (gX (mS mT hU) (gX hU gY)))))
   il)
  (gZ (iq (i:=5) sx.nd rfl (Or.inl rfl) (kW cZ fP fQ wH (iJ o C (by decide) (dv 0) (gX (ic iG (ds [115,104,97,114,101,32]) (dv 1)) gY)) (gX (ds [44,32]) gY)))
  (gZ (iw (ij oU (iA kg rfl En.b_len PySem.boot_len (gX (dv 5) gY)) (iA kg rfl En.b_len PySem.boot_len (gX (dv 4) gY)) (ik _))
   (hV (ig (lC (gX (mS mT hU) (gX hU gY)))))
   il)
  (gZ (lf PassesOwn.leaving rfl (nW rfl En.b_range (gX (iA kg rfl En.b_len PySem.boot_len (gX (dv 4) gY)) gY)) (iW (i:=6) sx.nd rfl (Or.inl rfl))
   (hV (iw (PW.pt (kF (ij iN (io iV (dv 4) (dv 6) (fun _ _=>rfl)) (dv 3) (ik _)) (jU (ij iN (mD vO (io iV (dv 5) (dv 6) (fun _ _=>rfl)) nu (pB (ic jL (iA og rfl En.b_len PySem.boot_len (gX (dv 3) gY)) hU))) (ic iG (dv 3) (ds [32])) (ik _)))))
   (hV (ig (hW L C (by decide) rfl (gX (mD vO (io iV (dv 5) (dv 6) (fun _ _=>rfl)) (pB (ic jL (iA og rfl En.b_len PySem.boot_len (gX (dv 3) gY)) hU)) nu) gY))))
   il)))
  (hV (ig (lC (gX (mS mT hU) (gX hU gY))))))))),?_⟩
 obtain⟨d5,d3⟩:=vz ρ
 obtain⟨dx,d2,ha,c7⟩:=hD.at_
 have a7:=(ke X).mono (show _<=1900 by decide)
 have d7:=mP a7
 refine⟨⟨dx,_,ha,rfl⟩,ve,e,rfl,b3,a7,_,_,rfl,rfl,by show 7+_<=100000;omega,a,d,_,.estate e,_,_,k,rfl,by rw[bf];show 7+_<=100000;omega,EM e,hD,X,a8,hk,fun b9 e' b H1 R a9 a3=>?_⟩
 obtain⟨rfl,rfl,rfl⟩:=R
 dsimp only[tC]
 refine qF ?_
 dsimp only[asB]
 refine brF ?_
 obtain⟨c0,d1,c5,c6⟩:=a3.at_
 refine⟨⟨c0,_,c5,rfl⟩,_,jb ρ,rfl,by rw[nK],by show 6+_<=100000;omega,a,d,_,.share ρ,_,_,k,rfl,by rw[bf];show 6+_<=100000;omega,Iy ρ,a3,⟨a0,U⟩,Y,hk,fun b9 e' b H2 R a4 b7=>?_⟩
 obtain⟨rfl,rfl,I,D',hR,b0,rfl⟩:=R
 have G:=qX Y U
 have h8:=Y.len
 have c9:=(aZ.mp hj).1
 have Z:I.length=b.length:=by rw[hR.len,aX]
 have B:(zipR b I).length=b.length:=by rw[←aX (f:=(·.1)),nJ Z,aX]
 have J:∀r∈zipR b I,jD r.1/\ Sz 1900 r.2:=fun r C=>by
  have g1:r.1∈b.map (·.1):=by rw[←nJ Z];exact cr C
  have g2:r.2∈I:=by rw[←rO Z];exact cr C
  obtain⟨r',b8,e⟩:=bz.mp g1
  exact⟨e▸Y.nm r' b8,b0.sz (by omega) g2⟩
 have c3:∀p∈(zipR b I).map pieceL,44∉p:=fun p R=>by
  obtain⟨r,C,rfl⟩:=bz.mp R
  intro h
  unfold pieceL at h
  rcases bS.mp h with h|h
  ·rcases bS.mp h with h|h
   ·exact MA (J r C).1 (by decide) h
   ·simp at h
  ·exact Jw h
 have hJ:=xI [44,32] (m:=1500) (BN fun r C=>⟨(J r C).1.len,(J r C).2⟩)
 rw[aX,B] at hJ
 have d0:b.length*(1500+([44,32]:List Nat).length)<=8*1502:=dn _ h8
 have eL:nP (zipR b I)=jm [44,32] ((zipR b I).map pieceL):=if_neg (by rw[B];omega)
 have eS:Txt.split (tx (nP (zipR b I))) (tx [44,32])=((zipR b I).map pieceL).map tx:=by
  rw[eL]
  exact CN c3 fun z=>by
   have:=congrArg eX z
   rw[aX,B] at this
   have h0:([]:List (List Nat)).length=0:=rfl
   omega
 refine⟨rfl,rfl,by rw[iK,eL];omega,by rw[eS,aX,aX,B];omega,fun lp H3 W=>?_⟩
 rw[eS,bM] at W
 have b5:((zipR b I).map pieceL |>.map (V.str∘tx)).length=b.length:=by rw[aX,aX,B]
 have O:H3 ln=some (.lst (b.map fun r=>.str (tx r.1))):=W.same _ _ ((a9.trans a4).st _ _ (lr hD T) T)
 refine⟨_,.inl (SqL.of W.at_),_,.inl (SqL.of O),brN (fun c=>absurd (by rw[b5,aX]) c) (fun _=>?_)⟩
 refine⟨_,.inl (SqL.of O),_,rfl,by rw[aX];omega,by rw[aX];omega,?_⟩
 refine pO (fun i σ H4=>H4=H3/\ i<=j/\ ∃z,σ=[some (.ref a),some (.str (word ρ)),some ve,some (.str (tx u)),some (.ref ln),some (.ref lp),z]) ⟨rfl,cf _,none,rfl⟩ ?_ ?_
 ·rintro i σ H4 hi ⟨e4,a5,z,rfl⟩
  subst H4
  rw[aX] at hi
  have c2:i<b.length:=by omega
  obtain⟨g,ci,N⟩:∃u c,b[i]? =some (u,c):=⟨_,_,bg c2⟩
  obtain⟨p,R⟩:∃p,I[i]? =some p:=⟨_,bg (by omega)⟩
  have C:(zipR b I)[i]? =some (g,p):=by
   unfold zipR
   rw[fV,N,R]
  have en:atI (b.map fun r=>V.str (tx r.1)) (0+(i:Int))=some (.str (tx g)):=by
   rw[gc]
   exact iX (by rw[bi,N];rfl)
  have et:atI ((zipR b I).map pieceL |>.map (V.str∘tx)) (0+(i:Int))=some (.str (tx (pieceL (g,p)))):=by
   rw[gc]
   exact iX (by rw[bi,bi,C];rfl)
  refine⟨_,_,SqL.of O,en,?_⟩
  have D:pieceL (g,p)=u++32::wrR p∨g≠u:=by
   by_cases h:g=u
   ·subst h;exact .inl (by unfold pieceL;simp)
   ·exact .inr h
  have S:=(J _ (bo C)).2
  have S:Sz 1900 p:=S
  have d6:=mP S
  have a6:=(Y.nm _ (bo hj)).len
  have a6:u.length<=8:=a6
  refine br (fun ce=>?_) (fun ce=>?_)
  ·have ce:=li ce
   rcases D with D|D
   rotate_left
   ·exact absurd ce D
   subst ce
   have c8:(pieceL (g,p)).length=g.length+1+(wrR p).length:=by rw[D,bf,bE];omega
   obtain⟨a1,a2⟩:=Dn (l:=pieceL (g,p)) (i:=(g.length:Int)+1) (k:=g.length+1) (by omega) (by omega)
   obtain⟨b1,b2⟩:=zG (l:=pieceL (g,p)) (i:=(g.length:Int)+1) (k:=g.length+1) (by omega) (by omega)
   refine⟨_,_,SqL.of W.at_,et,g,rfl,by omega,pieceL (g,p),rfl,by omega,a1,_,_,rfl,rfl,by show _+1<=100000;omega,?_⟩
   rw[a2]
   have c1:(pieceL (g,p)).take (g.length+1)=g++[32]:=by
    rw[D,List.take_append,cM (by omega),show g.length+1 - g.length=1 by omega]
    rfl
   have b6:(pieceL (g,p)).drop (g.length+1)=wrR p:=by
    rw[D,List.drop_append,List.drop_of_length_le (by omega),show g.length+1 - g.length=1 by omega]
    rfl
   refine br (fun _=>?_) (fun ch=>absurd (by rw[c1]) ch)
   refine⟨_,_,SqL.of W.at_,et,g,rfl,by omega,pieceL (g,p),rfl,by omega,b1,?_⟩
   rw[b2,b6]
   have b4:i=j:=by
    have e1:(b.map (·.1))[i]? =some g:=by rw[bi,N];rfl
    have e2:(b.map (·.1))[j]? =some g:=by rw[bi,hj];rfl
    exact(gL (aZ.mp e1).1 Y.nd).mp (e1.trans e2.symm)
   subst b4
   have p0:=(bdN a0 G hR (bg (by rw[aX];omega)) R).1
   exact⟨p,rfl,Lh b0 (by omega) (bo R) p0,fun v H5 s5 hv=>q I p v H5 (a9.trans (a4.trans (Ow.same (W.same.trans s5)))) (b7.same (W.same.trans s5)) hR R S hv⟩
  ·refine⟨rfl,?_,_,rfl⟩
   rcases Nat.lt_or_ge i j with h|h
   ·exact h
   ·have e:i=j:=by omega
    subst e
    rw[hj] at N
    cases N
    exact absurd rfl ce
 ·rintro σ H4 ⟨e4,a5,z,rfl⟩
  rw[aX] at a5
  omega
theorem BG(g:Lr.Rl){u:List Nat}(h:jD u)(x:Rat):ji ([110,101,101,100,32]++jb g++[32]++u++[32]++wrR x)=[rY,jb g,u,wrR x]:=by
 have:=mi (a:=0) (b:=0) (c:=0) (us:=[rY,jb g,u,wrR x]) fun v hv=>by
  simp only[bw,cU,or_false] at hv
  rcases hv with rfl|rfl|rfl|rfl
  ·decide
  ·exact(vz g).1
  ·exact mQ h
  ·exact qP
 rw[show bA 0 32++jm (bA (0+1) 32) [rY,jb g,u,wrR x]++bA 0 32=[110,101,101,100,32]++jb g++[32]++u++[32]++wrR x by simp[jm,rY]] at this
 exact this
theorem Nf{a b c d e f g:V}:L2.oz ["_law_desk","_law_rule","_law_name_here","_law_names","_law_amount","_law_cell","_law_again","_law_line","_law_before","_law_told","_law_least","_law_found","_law_part","_law_under"] [a,b,c,d,e,f,g]=[some a,some b,some c,some d,some e,some f,some g,none,none,none,none,none,none,none]:=rfl
theorem nG{x:Str}{H:Hp}{Q:VK}(h:Q (.bl true) H):dEq (.str x) (.str x) H Q:=by
 have e:decide (x=x)=true:=by simp
 show Q (.bl (decide (x=x))) H
 rw[e]
 exact h
theorem Aq(F:Has K mg "_law_needed" rB ai f fd)(En:Env K mg Ad)(g:jg P w K mg base Ad.aDesk "say" 14 aI (qO K Ad))(Y:ie P w K mg base "_law_read" 1 aT (qZ K))(I:ie P w K mg base "_law_gets" 15 aj (xb K Ad))(C:ie P w K mg base "_law_text" 1 aS (jT K))(D:ie P w K mg base "_law_less" 1 aF (vG K))(o:ie P w K mg base "_law_ratio" 1 aq (qB)):ie P w K mg base "_law_needed" 16 ai (re K Ad):=by
 refine F.calE (F.fn.okE jQ (fun vs H Q E h=>?_) (fun i3 A g0 s H vs Q E O h=>?_))
 ·obtain⟨a,d,ln,rows,e0,c,x,L,va,u,i,j,m,cl,ag,rfl,hD,a3,T,hi,hE,a0,hx,hm,B,hj,q⟩:=h
  rfl
 obtain⟨a,d,ln,rows,e0,c,x,L,va,u,i,j,m,cl,ag,rfl,hD,a3,T,hi,hE,a0,hx,hm,B,hj,q⟩:=h
 refine⟨_,(gZ (iq (i:=7) jQ.nd rfl (Or.inl rfl) (ic iG (ic iG (ic iG (ic iG (ic iG (ds [110,101,101,100,32]) (dv 1)) (ds [32])) (dv 2)) (ds [32])) (hW C O (by decide) rfl (gX (dv 4) gY))))
  (gZ (iq (i:=8) jQ.nd rfl (Or.inl rfl) (iJ g O (by decide) (dv 0) (gX (ds [115,104,111,119]) gY)))
  (gZ (iq (i:=9) jQ.nd rfl (Or.inl rfl) (iJ g O (by decide) (dv 0) (gX (dv 7) gY)))
  (gZ (iq (i:=10) jQ.nd rfl (Or.inl rfl) (hW Y O (by decide) rfl (gX (dv 9) gY)))
  (gZ (iw (PW.pt (mV (ij oO (io iH (dv 10) hU (fun _ _=>rfl)) hU (ik _)) (mV (ij (MG O.units0) (hW o O (by decide) rfl (gX (io iH (dv 10) hU (fun _ _=>rfl)) (gX (io iH (dv 10) hU (fun _ _=>rfl)) gY))) (dv 10) (ik _)) (ml (ij oU (dv 9) (hW C O (by decide) rfl (gX (dv 10) gY)) (ik _))))))
   (hV (ig oy))
   il)
  (gZ (iw (PW.pt (mV (ij oU (iJ g O (by decide) (dv 0) (gX (ds [115,104,111,119]) gY)) (dv 8) (ik _)) (ml (PW.pt (kF (ij (MV O.units0) (dv 4) (lC (gX hU (gX hU gY))) (ik _)) (jU (ij oU (dv 9) (ds [48]) (ik _))))))))
   (hV (ig oy))
   il)
  (gZ (iq (i:=11) jQ.nd rfl (Or.inl rfl) (hW I O (by decide) rfl (gX (dv 0) (gX (dv 1) (gX (dv 10) (gX (dv 2) (gX (dv 3) gY)))))))
  (gZ (iw (PW.pt (mV (ij oO (io iH (dv 11) hU (fun _ _=>rfl)) hU (ik _)) (ml (jC (hW D O (by decide) rfl (gX (dv 11) (gX (dv 4) gY)))))))
   (hV (ig oy))
   il)
  (gZ (lf PassesOwn.leaving rfl (jy (mZ (gX (ic jL hU (ic jl (dv 5) hU)) (gX hU gY)))) (iW (i:=12) jQ.nd rfl (Or.inl rfl))
   (hV (iw (ij rJ (io iH (dv 10) hU (fun _ _=>rfl)) hU (ik _))
   (gZ (iq (i:=13) jQ.nd rfl (Or.inl rfl) (hW o O (by decide) rfl (gX (ic iY (io iH (dv 10) hU (fun _ _=>rfl)) (dv 12)) (gX (ic iY (io iH (dv 10) hU (fun _ _=>rfl)) hU) gY))))
  (gZ (iq (i:=11) jQ.nd rfl (Or.inl rfl) (hW I O (by decide) rfl (gX (dv 0) (gX (dv 1) (gX (dv 13) (gX (dv 2) (gX (dv 3) gY)))))))
  (hV (iw (PW.pt (mV (ij oO (io iH (dv 11) hU (fun _ _=>rfl)) hU (ik _)) (ml (nh (jC (hW D O (by decide) rfl (gX (dv 11) (gX (dv 4) gY))))))))
   (hV (ig oy))
   il))))
   il)))
  (hV (ig (NE (ki iN (dv 6) hU (ik _)) (Ak (ki iN (iJ g O (by decide) (dv 0) (gX (dv 7) gY)) (dv 9) (ik _))))))))))))))),?_⟩
 obtain⟨j4,j1⟩:=vz L
 obtain⟨dx,j0,ha,i1⟩:=hD.at_
 have b6:(u,c)∈rows:=bo hj
 have e1:c∈clm rows:=cr (f:=(·.2)) b6
 obtain⟨x0,xc,wx,N0,N1,wN⟩:=MP T B e1 hx hm
 have b7:E7 x:=yl T hi (k:=40) (by decide) x0 (by have:=uu T.nn e1;grind) wx
 have J:E7 (kO L (clm rows) c x):=yl T hi (k:=80) (by decide) N0 N1 wN
 have hu:=T.nm _ b6
 have hu:jD u:=hu
 have i8:u.length<=8:=hu.len
 have a8:Sz 1900 x:=(ke b7.rd).mono (by decide)
 have i7:=mP a8
 have a9:iO rows u=some c:=nq T.nd hj
 have a7:=sN T hi hE
 have L1:([110,101,101,100,32]:List Nat).length=5:=rfl
 have L2:([32]:List Nat).length=1:=rfl
 refine⟨_,jb L,rfl,by rw[nK],by omega,_,_,rfl,rfl,by rw[bf];omega,_,u,rfl,rfl,by rw[bf,bf];omega,_,_,rfl,rfl,by rw[bf,bf,bf];omega,va,x,rfl,a0,a8,_,_,rfl,rfl,by rw[bf,bf,bf,bf];omega,?_⟩
 have b4:([110,101,101,100,32]++jb L++[32]++u++[32]++wrR x).length<=100000:=by rw[bf,bf,bf,bf,bf];omega
 refine⟨⟨dx,_,ha,rfl⟩,a,d,_,.show_,_,_,140,rfl,by decide,rfl,hD,trivial,a7,by decide,fun i6 e' b H1 hp f8 d2=>?_⟩
 obtain⟨rfl,rfl,rfl⟩:=hp
 obtain⟨g9,i9,h6,i0⟩:=d2.at_
 refine⟨⟨g9,_,h6,rfl⟩,a,d,_,.need L u x,_,_,140,rfl,b4,BG L hu x,d2,⟨trivial,B,b7.rd,c,a9,xc⟩,a7,by decide,fun f2 e' b H2 hp g2 g5=>?_⟩
 obtain⟨rfl,rfl,c',a2,rfl⟩:=hp
 rw[a9] at a2
 cases a2
 dsimp only[CQ]
 generalize hN:kO L (clm b) c x=N at N0 N1 wN J
 refine⟨N,rfl,KC J.rd,fun vN H3 s3 b0=>?_⟩
 have j3:=(Lr.num_nonneg N).mpr N0
 have f7:=Lr.den_pos N
 have c5:Sz 1900 N:=(ke J.rd).mono (by decide)
 set_option simprocs false in dsimp only[kf,Nf,List.set]
 refine⟨N,b0,.inl ⟨rfl,br (fun c=>absurd c (by omega)) (fun _=>?_)⟩⟩
 refine⟨N,b0,.inl ⟨rfl,N,b0,.inr ⟨rfl,_,_,rfl,f7,c5.d.mono (by decide),fun z H4 n4=>?_⟩⟩⟩
 rw[Lr.jP] at n4
 have s4:=s3.trans n4.same
 have a4:=b0.same n4.same
 refine⟨N,N,ip.new n4,a4,brN (fun c=>absurd rfl c) (fun _=>?_)⟩
 refine⟨vN,N,rfl,a4,c5,?_⟩
 refine qF ?_
 dsimp only[asB]
 refine brF ?_
 have d8:=g5.same s4
 have c9:Ow (isA a d) H H4:=(f8.trans g2).trans (Ow.same s4)
 have nz:x=0 ->wrR N=[48]:=fun h=>by
  rw[←hN]
  unfold kO
  rw[if_pos h]
  decide+kernel
 obtain⟨b3,M⟩:∃l:List Nat,l=[110,101,101,100,32]++jb L++[32]++u++[32]++wrR x:=⟨_,rfl⟩
 rw[←M]
 set_option simprocs false in dsimp only[yu]
 refine lh (t:=nH _ _ _) (fun σ H6=>σ=[some (.ref a),some (.str (word L)),some (.str (tx u)),some (.ref ln),some va,some (.int cl),some (.int ag),some (.str (tx b3)),some (.str (tx (nP ((lj,e')::b)))),some (.str (tx (wrR N))),some vN,none,none,none]/\ Ow (isA a d) H H6/\ Dsk K Ad.aDesk H6 a d e' b/\ ip K H6 vN N) ?_ (fun e8=>?_)
 rotate_left
 ·obtain⟨g3,i5,f1,h8⟩:=d8.at_
  refine⟨⟨g3,_,f1,rfl⟩,a,d,_,.show_,_,_,140,rfl,by decide,rfl,d8,trivial,a7,by decide,fun j6 e2 g8 H5 hp c1 g6=>?_⟩
  obtain⟨rfl,rfl,rfl⟩:=hp
  dsimp only[vw,nth]
  refine qF ?_
  dsimp only[asB]
  refine brF ?_
  have d7:ip K H5 va x:=a0.ts (c9.trans c1).ts
  refine fun z6 H6 n6=>?_
  obtain⟨bv,rfl,g1⟩:=(d7.same n6.same).sq
  refine⟨_,_,_,_,g1,SqT.of n6.at_,?_⟩
  rw[NX]
  have P6:=e8 _ _ ⟨rfl,(c9.trans c1).trans (Ow.same n6.same),g6.same n6.same,(a4.ts c1.ts).same n6.same⟩
  refine br (fun R=>?_) (fun R=>P6)
  rw[nz R] at P6 ⊢
  set_option simprocs false in dsimp only[qT,tOp,vw,nth,tC]
  refine qF ?_
  dsimp only[asB]
  exact brF P6
 rintro σ H6 ⟨rfl,c0,h5,b5⟩
 have d5:ip K H6 va x:=a0.ts c0.ts
 have e5:=c0.st _ _ (lr hD a3) a3
 have d6:OkD 140 N b:=sN T hi J
 have a5:(clm b)[j]? =some c:=lD hj
 refine⟨a,d,ln,b,e',N,c,L,vN,u,j,140,rfl,h5,e5,a7,d6,by decide,b5,J.rd,N1,B,hj,fun ps p v H7 c3 h4 hR hp f4 hv=>?_⟩
 have G:=qX d6 N1
 have pb:=bdN B G hR a5 hp
 have i2:=(Lr.num_nonneg p).mpr pb.1
 have f3:¬p<x:=by
  by_cases R:x=0
  ·rw[R];grind
  ·have eN:N=Lr.sm ((clm b).map (Lr.need L c x)):=by rw[←hN];unfold kO;rw[if_neg R]
   rw[eN] at G hR
   rw[Lr.Dm B (by grind) xc G hR a5 hp]
   exact Rat.lt_irrefl
 refine⟨p,hv,.inl ⟨rfl,br (fun h=>absurd h (by omega)) (fun _=>?_)⟩⟩
 refine⟨v,va,p,x,rfl,hv,d5.ts c3.ts,f4,a8,?_⟩
 rw[decide_eq_false f3]
 set_option simprocs false in dsimp only[asB,yu]
 refine brF ?_
 refine⟨by decide,fun l8 H8 n8=>?_⟩
 have d3:Ow (isA a d) H H8:=c0.trans (c3.trans (Ow.same n8.same))
 have e3:=h4.same n8.same
 have m0:=bV cl (show(39:Int)≠0 by decide)
 have m1:=bK cl (show(0:Int)<39 by decide)
 refine⟨l8,rfl,⟨_,SqL.of n8.at_⟩,no (xs:=[.int (1+cl%39),.int 39]) (fun q σ H9=>∃e9 v9 b9 c2,σ=[some (.ref a),some (.str (word L)),some (.str (tx u)),some (.ref ln),some va,some (.int cl),some (.int ag),some (.str (tx b3)),some (.str (tx (nP ((lj,e')::b)))),some (.str (tx (wrR N))),some vN,some v9,b9,c2]/\ Ow (isA a d) H8 H9/\ Dsk K Ad.aDesk H9 a d e9 b/\ E7 e9) ⟨N,v,none,none,rfl,Ow.refl,e3,J⟩ (fun _ _ _ _ h=>?_) ?_ ?_⟩
 ·obtain⟨_,_,_,_,_,h2,_⟩:=h
  exact SqL.of (h2.st _ _ (lr e3 n8.at_) n8.at_)
 ·rintro m y σ H9 hy ⟨e9,v9,b9,c2,rfl,X,S,W⟩
  obtain⟨pt,rfl,p0,p1⟩:∃pt:Int,y=.int pt/\ 0<=pt/\ pt<=39:=by
   match m,hy with
   |0,hy=>exact⟨1+cl%39,(Option.some.inj hy).symm,by omega,by omega⟩
   |1,hy=>exact⟨39,(Option.some.inj hy).symm,by decide,by decide⟩
   |m+2,hy=>simp at hy
  have Z:=d3.trans X
  have a1:ip K H9 vN N:=((b5.ts c3.ts).same n8.same).ts X.ts
  have c8:ip K H9 va x:=a0.ts Z.ts
  have c7:=Z.st _ _ (lr hD a3) a3
  refine⟨N,a1,.inl ⟨rfl,br (fun i4=>?_) (fun _=>⟨e9,v9,_,_,rfl,X,S,W⟩)⟩⟩
  have b1:=J.rd.n
  have b2:=J.rd.d
  have Np:0<N:=by
   have:N.num≠0:=by omega
   have:N≠0:=fun z=>this (by rw[z];rfl)
   grind
  obtain⟨u0,u1,u2⟩:=LC Np wN p0 p1
  refine⟨N,a1,.inl ⟨rfl,ly (by omega) (by omega),N,a1,.inr ⟨rfl,ly (by omega) (by decide),_,_,rfl,by omega,Bd.mul (m:=200) (n:=6) (ke J.rd).d (Bd.of_lt (by decide)) (by decide),fun zu HA nA=>?_⟩⟩⟩
  rw[Hz] at nA
  have a6:N*((pt:Rat)/40)<=Lr.sm (clm b):=gT (bX u1) N1
  generalize N*((pt:Rat)/40)=U at u0 u1 u2 a6 nA
  have b8:E7 U:=yl T hi (k:=3200) (by decide) u0 a6 u2
  have d9:=sN T hi b8
  refine⟨a,d,ln,b,e9,U,c,L,.ref zu,u,j,140,rfl,S.same nA.same,nA.same _ _ c7,sN T hi W,d9,by decide,ip.new nA,b8.rd,a6,B,hj,fun j5 p2 v2 HB c6 g4 d0 e6 d1 c4=>?_⟩
  have G2:=qX d9 a6
  have f5:=bdN B G2 d0 a5 e6
  have h7:=(Lr.num_nonneg p2).mpr f5.1
  have R:x≠0:=fun z=>by
   have:N=0:=by rw[←hN];unfold kO;rw[if_pos z]
   grind
  have eN:N=Lr.sm ((clm b).map (Lr.need L c x)):=by rw[←hN];unfold kO;rw[if_neg R]
  have d4:p2<x:=Lr.EN B G2 (by grind) xc (by rw[←eN];exact u1) d0 a5 e6
  refine⟨p2,c4,.inl ⟨rfl,br (fun h=>absurd h (by omega)) (fun _=>?_)⟩⟩
  refine⟨v2,va,p2,x,rfl,c4,(c8.same nA.same).ts c6.ts,d1,a8,?_⟩
  rw[decide_eq_true d4]
  set_option simprocs false in dsimp only[asB,yu,gF]
  refine brF ?_
  exact⟨U,v2,_,_,rfl,X.trans ((Ow.same nA.same).trans c6),g4,b8⟩
 ·rintro σ H9 ⟨e9,v9,b9,c2,rfl,X,S,W⟩
  have Z:=d3.trans X
  refine br (fun _=>q e9 H9 Z S W) (fun _=>?_)
  obtain⟨g7,j2,h3,h9⟩:=S.at_
  refine⟨⟨g7,_,h3,rfl⟩,a,d,_,.need L u x,_,_,140,rfl,by rw[M];exact b4,by rw[M];exact BG L hu x,S,⟨trivial,B,b7.rd,c,a9,xc⟩,sN T hi W,by decide,fun f2 e4 f6 HC hp f0 f9=>?_⟩
  obtain⟨rfl,rfl,c',a2,rfl⟩:=hp
  rw[a9] at a2
  cases a2
  dsimp only[CQ]
  rw[hN]
  exact nG (q e4 HC (Z.trans f0) f9 W)
theorem Na{w u:List Nat}(g:32∉w/\ w≠[])(h:jD u):ji (w++[32]++u)=[w,u]:=by
 have:=mi (a:=0) (b:=0) (c:=0) (us:=[w,u]) fun v hv=>by
  simp only[bw,cU,or_false] at hv
  rcases hv with rfl|rfl
  ·exact g
  ·exact mQ h
 rw[show bA 0 32++jm (bA (0+1) 32) [w,u]++bA 0 32=w++[32]++u by simp[jm]] at this
 exact this
theorem CP{w u v:List Nat}(h:32∉w/\ w≠[])(l:jD u)(hv:32∉v/\ v≠[]):ji (w++[32]++u++[32]++v)=[w,u,v]:=by
 have:=mi (a:=0) (b:=0) (c:=0) (us:=[w,u,v]) fun y g=>by
  simp only[bw,cU,or_false] at g
  rcases g with rfl|rfl|rfl
  ·exact h
  ·exact mQ l
  ·exact hv
 rw[show bA 0 32++jm (bA (0+1) 32) [w,u,v]++bA 0 32=w++[32]++u++[32]++v by simp[jm]] at this
 exact this
theorem Mu{w u v x:List Nat}(l:32∉w/\ w≠[])(o:jD u)(hv:32∉v/\ v≠[])(h:32∉x/\ x≠[]):ji (w++[32]++u++[32]++v++[32]++x)=[w,u,v,x]:=by
 have:=mi (a:=0) (b:=0) (c:=0) (us:=[w,u,v,x]) fun y g=>by
  simp only[bw,cU,or_false] at g
  rcases g with rfl|rfl|rfl|rfl
  ·exact l
  ·exact mQ o
  ·exact hv
  ·exact h
 rw[show bA 0 32++jm (bA (0+1) 32) [w,u,v,x]++bA 0 32=w++[32]++u++[32]++v++[32]++x by simp[jm]] at this
 exact this
theorem NP:∀k:Fin 5,wrR ((10^(20+k.1):Nat):Rat)=49::(bA (20+k.1) [48]).flatten/\ 10^(20+k.1)<=10^25:=by decide+kernel
theorem wy{n:Nat}(h:n<=10^25):E7 (n:Rat):=⟨by exact_mod_cast cf n,by exact_mod_cast h,(n:Int)*D7,by push_cast;rfl⟩
theorem NW{j r n:Int}(h0:0<=j)(h1:j<n)(g:0<=r)(l:r<n - 1):(j+1+r)%n≠j:=fun h=>by
 have e:=Int.mul_ediv_add_emod (j+1+r) n
 rw[h] at e
 generalize (j+1+r)/n=q at e
 rcases Int.lt_or_le q 1 with b|b
 ·have:n*q<=n*0:=ge (by omega) (by omega)
  omega
 ·have:n*1<=n*q:=ge b (by omega)
  omega
theorem wS{n j:Nat}(h:j<n):ixN n (j:Int)=some j:=by
 unfold ixN
 rw[if_pos (by omega),if_pos (by omega)]
 rfl
theorem Ic{c:Rat}(b:0<=c):0<=c+Lr.rt 1 3/\ c+Lr.rt 1 3<=c+1:=by
 have h0:(0:Rat)<=Lr.rt 1 3:=by decide+kernel
 have h1:Lr.rt 1 3<=(1:Rat):=by decide+kernel
 generalize Lr.rt 1 3=t at h0 h1
 constructor<;>grind
theorem IS{m c:Nat}(h:([97,98,99,100,101,102,103,104,105]:List Nat)[m]? =some c):c=97+m:=by
 have g:=(aZ.mp h).1
 have b:∀m:Fin 9,([97,98,99,100,101,102,103,104,105]:List Nat)[m.1]? =some (97+m.1):=by decide
 have:=b ⟨m,g⟩
 rw[h] at this
 exact Option.some.inj this
theorem Cr(F:Has K mg "_law_deed" pi am f fd)(En:Env K mg Ad)(o:ie P w K mg base "_law_ratio" 1 aq (qB))(g:jg P w K mg base Ad.aDesk "say" 14 aI (qO K Ad))(a6:ie P w K mg base "_law_text" 1 aS (jT K)):ie P w K mg base "_law_deed" 15 am (uQ K Ad):=by
 refine F.calE (F.fn.okE je (fun I H Q E h=>?_) (fun l6 A j0 s H I Q E hr h=>?_))
 ·obtain⟨a,d,ln,lc,rows,e,i,cl,rfl,hD,d6,d3,g3,B,hi,hE,h0,q⟩:=h
  rfl
 obtain⟨a,d,ln,lc,rows,e,i,cl,rfl,hD,d6,d3,g3,B,hi,hE,h0,q⟩:=h
 refine⟨_,(gZ (iq (i:=4) je.nd rfl (Or.inl rfl) (iA kg rfl En.b_len PySem.boot_len (gX (dv 2) gY)))
  (gZ (iq (i:=5) je.nd rfl (Or.inl rfl) (ic jl (ic jk (dv 3) hU) (dv 4)))
  (gZ (iq (i:=6) je.nd rfl (Or.inl rfl) (ic jl (dv 3) hU))
  (gZ (iw (PW.pt (kF (ij iN (dv 6) hU (ik _)) (jU (ij rJ (dv 4) hU (ik _)))))
   (gZ (iS (kW cW dR dS oJ (dv 2) (gX (dv 5) gY)))
  (hV (ig (ki iN (iJ g hr (by decide) (dv 0) (gX (ic iG (ds [100,114,111,112,32]) (kW cW dR dS oJ (dv 1) (gX (dv 5) gY))) gY)) (ds [111,107]) (ik _)))))
   il)
  (gZ (iw (PW.pt (kF (ij iN (dv 6) hU (ik _)) (jU (ij rJ (dv 4) hU (ik _)))))
   (gZ (iq (i:=7) je.nd rfl (Or.inl rfl) (ic jl (ic jL (ic jL (dv 5) hU) (ic jl (ic jk (dv 3) hU) (ic uv (dv 4) hU))) (dv 4)))
  (gZ (iq (i:=8) je.nd rfl (Or.inl rfl) (ic iG (ic iG (ic iG (ds [106,111,105,110,32]) (io iV (dv 1) (dv 5) (fun _ _=>rfl))) (ds [32])) (io iV (dv 1) (dv 7) (fun _ _=>rfl))))
  (gZ (nX (io iV (dv 2) (dv 5) (fun _ _=>rfl)) (qv rfl (ky (iW (i:=9) je.nd rfl (Or.inl rfl)) (ky (iW (i:=10) je.nd rfl (Or.inl rfl)) qK))))
  (gZ (nX (io iV (dv 2) (dv 7) (fun _ _=>rfl)) (qv rfl (ky (iW (i:=11) je.nd rfl (Or.inl rfl)) (ky (iW (i:=12) je.nd rfl (Or.inl rfl)) qK))))
  (gZ (nX (hW o hr (by decide) rfl (gX (ic jL (ic iY (dv 9) (dv 12)) (ic iY (dv 11) (dv 10))) (gX (ic iY (dv 10) (dv 12)) gY))) (yE (dv 2) (dv 5) yS))
  (gZ (iS (kW cW dR dS oJ (dv 2) (gX (dv 7) gY)))
  (gZ (iS (kW cW dR dS oJ (dv 1) (gX (dv 7) gY)))
  (hV (ig (ki iN (iJ g hr (by decide) (dv 0) (gX (dv 8) gY)) (ds [111,107]) (ik _)))))))))))
   il)
  (gZ (iw (PW.pt (kF (ij iN (dv 6) hU (ik _)) (jU (ij oO (dv 4) hU (ik _)))))
   (gZ (nX (io iV (dv 2) (dv 5) (fun _ _=>rfl)) (qv rfl (ky (iW (i:=9) je.nd rfl (Or.inl rfl)) (ky (iW (i:=10) je.nd rfl (Or.inl rfl)) qK))))
  (gZ (iq (i:=13) je.nd rfl (Or.inl rfl) (hW o hr (by decide) rfl (gX (ic iY (dv 9) (ic jl (ic jk (dv 3) hU) hU)) (gX (ic iY (dv 10) hU) gY))))
  (gZ (nX (hW o hr (by decide) rfl (gX (ic iY (dv 9) (ic uv hU (ic jl (ic jk (dv 3) hU) hU))) (gX (ic iY (dv 10) hU) gY))) (yE (dv 2) (dv 5) yS))
  (gZ (iS (vv (dv 2) (gX (dv 13) gY)))
  (gZ (ot (k:=14) (hZ pi) ["_law_cell"] [3] je.nd rfl (Or.inl rfl) rfl (yC (ds [97,98,99,100,101,102,103,104,105])) (fun z=>(ic iG (ic Bm (ds [113,107]) (ic jl (ic jk (dv 1) hU) hU)) (dv 0))))
  (gZ (Ar (k:=14) (hZ pi) ["_law_names"] [1] je.nd rfl (Or.inl rfl) rfl (jy (dv 14)) (fun z=>(ij tJ (dv 0) (dv 1) (by with_unfolding_all rfl))) (fun z=>(dv 0)))
  (gZ (iS (vv (dv 1) (gX (io iV (dv 14) (ic jl (ic jk (dv 3) hU) (iA kg rfl En.b_len PySem.boot_len (gX (dv 14) gY))) (fun _ _=>rfl)) gY)))
  (hV (ig (ki iN (iJ g hr (by decide) (dv 0) (gX (ic iG (ic iG (ic iG (ic iG (ic iG (ds [112,97,114,116,32]) (io iV (dv 1) (dv 5) (fun _ _=>rfl))) (ds [32])) (io iV (dv 1) (mS mT hU) (fun _ _=>rfl))) (ds [32])) (hW a6 hr (by decide) rfl (gX (dv 13) gY))) gY)) (ds [111,107]) (ik _)))))))))))
   il)
  (gZ (iw (PW.pt (kF (ij iN (dv 6) hU (ik _)) (jU (ij rJ (dv 4) hU (ik _)))))
   (gZ (iS (kW cW dR dS oJ (dv 2) (gX (dv 5) gY)))
  (gZ (iS (iJ g hr (by decide) (dv 0) (gX (ds [101,115,116,97,116,101,32,48]) gY)))
  (hV (ig (ki iN (iJ g hr (by decide) (dv 0) (gX (ic iG (ic iG (ds [108,101,97,118,101,32]) (kW cW dR dS oJ (dv 1) (gX (dv 5) gY))) (ds [32,103,97,105,110,115])) gY)) (ds [48]) (ik _))))))
   il)
  (gZ (iw (ij iN (dv 6) hU (ik _))
   (hV (ig (ki iN (iJ g hr (by decide) (dv 0) (gX (ic iG (ds [101,115,116,97,116,101,32,49]) (ic Bm (ds [48]) (ic jL hU (ic jl (dv 3) hU)))) gY)) (ds [111,107]) (ik _))))
   il)
  (gZ (iw (ij iN (dv 6) hU (ik _))
   (gZ (nX (io iV (dv 2) (dv 5) (fun _ _=>rfl)) (qv rfl (ky (iW (i:=9) je.nd rfl (Or.inl rfl)) (ky (iW (i:=10) je.nd rfl (Or.inl rfl)) qK))))
  (gZ (nX (hW o hr (by decide) rfl (gX (ic jL (ic iY hU (dv 9)) (dv 10)) (gX (ic iY hU (dv 10)) gY))) (yE (dv 2) (dv 5) yS))
  (hV (ig (ki iN (iJ g hr (by decide) (dv 0) (gX (ic iG (ic iG (ds [109,111,114,101,32]) (io iV (dv 1) (dv 5) (fun _ _=>rfl))) (ds [32,49,47,51])) gY)) (ds [111,107]) (ik _))))))
   il)
  (hV (ig oy))))))))))),?_⟩
 have S:St7 K Ad.aDesk H H a d ln lc e rows (rows.map (·.1)) (clm rows):=⟨Ow.refl,hD,by rw[d6,bM];rfl,d3,g3⟩
 have fin:∀l e' C,St7 K Ad.aDesk H C a d ln lc e' l (l.map (·.1)) (clm l) ->Ok7 (i+1) l ->E7 e' ->Q (.bl true) C:=fun l e' C S' j1 i1=>q l e' C S'.ow S'.dsk (by rw[S'.nms,bM];rfl) S'.cls j1 i1
 clear q hD d6 d3
 have U:i<=8:=by omega
 have h1:=B.len1
 have h8:=B.len
 have a7:=sN B U hE
 obtain⟨dx,m1,ha,l2⟩:=S.dsk.at_
 obtain⟨I,D,R⟩:=id S.cls
 have l7:I.length=rows.length:=by rw[R.len,aX]
 refine⟨_,.inl (SqL.of D),cdd,by omega,by decide,?_⟩
 have r0:=bV (cl.fdiv 8) (show((I.length:Nat):Int)≠0 by omega)
 have r1:=bK (cl.fdiv 8) (show(0:Int)<((I.length:Nat):Int) by omega)
 obtain⟨j,i0⟩:∃j:Nat,cl.fdiv 8%((I.length:Nat):Int)=j:=⟨_,(dL r0).symm⟩
 rw[i0]
 have h5:j<rows.length:=by omega
 obtain⟨u,c,N⟩:∃u c,rows[j]? =some (u,c):=⟨_,_,bg h5⟩
 have c7:=bo N
 have hu:jD u:=B.nm _ c7
 have m0:=hu.len
 obtain⟨c0,c1,cw⟩:=B.le N
 have T:iO rows u=some c:=nq B.nd N
 obtain⟨v,hv⟩:∃v,I[j]? =some v:=⟨_,bg (by omega)⟩
 have b6:(clm rows)[j]? =some c:=lD N
 have d5:=R.at_ j v c hv b6
 have X:(rows.map (·.1))[j]? =some u:=by rw[bi,N];rfl
 have a8:(rows.map (·.1)).length=rows.length:=aX _
 set_option simprocs false in dsimp only[kf]
 refine lh (t:=nH _ _ _) (fun σ C=>C=H/\ σ=[some (.ref a),some (.ref ln),some (.ref lc),some (.int cl),some (.int (I.length:Int)),some (.int (j:Int)),some (.int (cl%8)),none,none,none,none,none,none,none,none]) ?_ (fun L=>?_)
 rotate_left
 ·refine br (fun _=>br (fun h2=>?_) (fun _=>L _ _ ⟨rfl,rfl⟩)) (fun _=>L _ _ ⟨rfl,rfl⟩)
  refine⟨.inl ⟨rfl,_,SqL.of D⟩,I,j,v,D,rfl,by omega,hv,fun H1 c1=>?_⟩
  have S1:=S.cl c1 (vK R j)
  obtain⟨a9,f5,b0,c5⟩:=S1.dsk.at_
  refine⟨⟨a9,_,b0,rfl⟩,.inl ⟨rfl,_,SqL.of S1.nms⟩,_,j,.str (tx u),S1.nms,rfl,by omega,by rw[bi,X];rfl,fun H2 c2=>?_⟩
  rw[←jB] at c2
  have S2:=S1.nl c2
  refine⟨_,u,rfl,rfl,by show 5+_<=100000;omega,a,d,_,.drop u,_,_,140,rfl,by rw[bf];show 5+_<=100000;omega,Na (w:=HY) (by decide) hu,S2.dsk,⟨c,T⟩,a7,by decide,fun a5 e' l H3 hp h6 i7=>?_⟩
  obtain⟨rfl,rfl,rfl⟩:=hp
  have O:=S2.sy h6 i7
  rw[ur B.nd N] at O
  refine nG (fin _ _ H3 ?_ (B.era (by omega) N) hE)
  unfold clm at O ⊢
  rw[jB,jB]
  exact O
 rintro σ C ⟨e9,rfl⟩
 subst C
 refine lh (t:=nH _ _ _) (fun σ C=>C=H/\ σ=[some (.ref a),some (.ref ln),some (.ref lc),some (.int cl),some (.int (I.length:Int)),some (.int (j:Int)),some (.int (cl%8)),none,none,none,none,none,none,none,none]) ?_ (fun L=>?_)
 rotate_left
 ·refine br (fun _=>br (fun h2=>?_) (fun _=>L _ _ ⟨rfl,rfl⟩)) (fun _=>L _ _ ⟨rfl,rfl⟩)
  have g0:=bV (cl.fdiv 64) (show((I.length:Nat):Int) - 1≠0 by omega)
  have g1:=bK (cl.fdiv 64) (show(0:Int)<((I.length:Nat):Int) - 1 by omega)
  have o0:=bV ((j:Int)+1+cl.fdiv 64%(((I.length:Nat):Int) - 1)) (show((I.length:Nat):Int)≠0 by omega)
  have o1:=bK ((j:Int)+1+cl.fdiv 64%(((I.length:Nat):Int) - 1)) (show(0:Int)<((I.length:Nat):Int) by omega)
  have o2:=NW (j:=(j:Int)) (n:=((I.length:Nat):Int)) (by omega) (by omega) g0 g1
  refine⟨cdd,by omega,by omega,?_⟩
  obtain⟨k,k3⟩:∃k:Nat,((j:Int)+1+cl.fdiv 64%(((I.length:Nat):Int) - 1))%((I.length:Nat):Int)=k:=⟨_,(dL o0).symm⟩
  rw[k3]
  have b3:j≠k:=by omega
  have j8:k<rows.length:=by omega
  obtain⟨u2,c2,hk⟩:∃u c,rows[k]? =some (u,c):=⟨_,_,bg j8⟩
  have e6:jD u2:=B.nm _ (bo hk)
  have l5:=e6.len
  obtain⟨w,hw⟩:∃w,I[k]? =some w:=⟨_,bg (by omega)⟩
  have c8:(rows.map (·.1))[k]? =some u2:=by rw[bi,hk];rfl
  have i4:=R.at_ k w c2 hw (lD hk)
  obtain⟨b,rfl,hb⟩:=d5.sq
  obtain⟨b2,rfl,k7⟩:=i4.sq
  have M:=(B.e7 U (bo b6)).rd
  have d1:=(B.e7 U (bo (lD hk))).rd
  have a1:=M.n
  have a2:=M.d
  have a3:=d1.n
  have a4:=d1.d
  have e1:=Lr.den_pos c
  have k9:=Lr.den_pos c2
  refine⟨_,_,SqL.of S.nms,iX (by rw[bi,X];rfl),_,u,rfl,rfl,by show 5+_<=100000;omega,_,_,rfl,rfl,by rw[bf];show 5+_+1<=100000;omega,_,_,SqL.of S.nms,iX (by rw[bi,c8];rfl),_,u2,rfl,rfl,by rw[bf,bf];show 5+_+1+_<=100000;omega,?_⟩
  refine⟨_,_,SqL.of D,iX hv,_,hb,rfl,_,_,SqL.of D,iX hw,_,k7,rfl,?_⟩
  refine⟨ly (by omega) (by omega),ly (by omega) (by omega),ly (by omega) (by omega),_,_,rfl,dC e1 k9,Bd.mul (m:=200) (n:=200) (ke M).d (ke d1).d (by decide),fun z H1 Z=>?_⟩
  rw[GE] at Z
  have S1:=S.same Z.same
  refine⟨I,j,Z.same _ _ D,wS (by omega),fun H2 b1=>?_⟩
  have b9:=vn (R.ts Z.same.ts) (ip.new Z) j
  have S2:=S1.cl b1 b9
  have e8:=b9.ts (Chg.ts b1 (Z.same _ _ D))
  have j2:(I.set j (.ref z))[k]? =some (.ref b2):=by rw[fO,if_neg b3];exact hw
  refine⟨.inl ⟨rfl,_,SqL.of b1.at_⟩,_,k,.ref b2,b1.at_,rfl,by omega,j2,fun H3 c3=>?_⟩
  have O:=S2.cl c3 (vK e8 k)
  refine⟨.inl ⟨rfl,_,SqL.of O.nms⟩,_,k,.str (tx u2),O.nms,rfl,by omega,by rw[bi,c8];rfl,fun H4 c4=>?_⟩
  rw[←jB] at c4
  have S4:=O.nl c4
  obtain⟨a9,f5,b0,c5⟩:=S4.dsk.at_
  refine⟨⟨a9,_,b0,rfl⟩,a,d,_,.join u u2,_,_,140,rfl,by rw[bf,bf,bf];show 5+_+1+_<=100000;omega,CP (w:=HM) (by decide) hu (mQ e6),S4.dsk,⟨fun z=>b3 ((gL (aZ.mp X).1 B.nd).mp (X.trans ((congrArg some z).trans c8.symm))),⟨c,T⟩,⟨c2,nq B.nd hk⟩⟩,a7,by decide,fun a5 e' l H5 hp k2 j6=>?_⟩
  obtain⟨rfl,rfl,x,y,hx,hy,rfl⟩:=hp
  rw[T] at hx
  cases hx
  rw[nq B.nd hk] at hy
  cases hy
  have S5:=S4.sy k2 j6
  rw[DV B.nd N hk b3] at S5
  refine nG (fin _ _ H5 ?_ (B.join N hk b3) hE)
  unfold clm at S5 ⊢
  rw[jB,kQ N,jB,mK]
  exact S5
 rintro σ C ⟨e9,rfl⟩
 subst C
 refine lh (t:=nH _ _ _) (fun σ C=>C=H/\ σ=[some (.ref a),some (.ref ln),some (.ref lc),some (.int cl),some (.int (I.length:Int)),some (.int (j:Int)),some (.int (cl%8)),none,none,none,none,none,none,none,none]) ?_ (fun L=>?_)
 rotate_left
 ·refine br (fun _=>br (fun h2=>?_) (fun _=>L _ _ ⟨rfl,rfl⟩)) (fun _=>L _ _ ⟨rfl,rfl⟩)
  have t0:=bV (cl.fdiv 64) (show(5:Int)≠0 by decide)
  have t1:=bK (cl.fdiv 64) (show(0:Int)<5 by decide)
  have k0:=bV (cl.fdiv 64) (show(4:Int)≠0 by decide)
  have k1:=bK (cl.fdiv 64) (show(0:Int)<4 by decide)
  obtain⟨b,rfl,hb⟩:=d5.sq
  have M:=(B.e7 U (bo b6)).rd
  have a1:=M.n
  have a2:=M.d
  have e1:=Lr.den_pos c
  have e5:Bd 9000 ((c.den:Int)*4):=Bd.mul (m:=200) (n:=4) (ke M).d (Bd.of_lt (by decide)) (by decide)
  refine⟨_,_,SqL.of D,iX hv,_,hb,rfl,cdd,by decide,ly (by omega) (by omega),ly (by omega) (by decide),_,_,rfl,by omega,e5,fun zp H1 Z=>?_⟩
  refine⟨cdd,by decide,ly (by omega) (by omega),ly (by omega) (by decide),_,_,rfl,by omega,e5,fun z H2 W=>?_⟩
  generalize cl.fdiv 64%5=t at t0 t1 Z W
  obtain⟨y0,y1,yw,ye⟩:=Mo c0 cw (B.w _ c7) t0 (show t<=4 by omega)
  rw[Hd] at Z W
  rw[ye] at W
  generalize c*((t:Rat)/4)=y at y0 y1 yw Z W
  have S2:=(S.same Z.same).same W.same
  have Y:=W.same _ _ (Z.same _ _ D)
  have g9:ip K H2 (.ref zp) y:=(ip.new Z).same W.same
  refine⟨I,j,Y,wS (by omega),fun H3 c3=>?_⟩
  have a0:=vn ((R.ts Z.same.ts).ts W.same.ts) (ip.new W) j
  have O:=S2.cl c3 a0
  have d9:=Chg.ts c3 Y
  refine⟨⟨_,c3.at_⟩,_,c3.at_,by rw[dG];omega,fun H4 c4=>?_⟩
  have e2:=(a0.ts d9).snoc (g9.ts d9)
  have S4:=O.cl c4 e2
  have k4:=Chg.ts c4 c3.at_
  obtain⟨kt,e3⟩:∃k:Nat,cl.fdiv 64%4=k:=⟨_,(dL k0).symm⟩
  obtain⟨f1,f2⟩:=Ly ⟨kt,by omega⟩
  have f1:(fr9 kt).Nodup:=f1
  have f2:∀u∈fr9 kt,u≠[]/\ u.length<=8/\ ∀c∈u,97<=c/\ c<=122:=f2
  have f3:(fr9 kt).length=9:=by unfold fr9;rw[aX,cP]
  refine⟨_,rfl,fun D5 H5 n5=>?_⟩
  refine BB (fun i ys C=>iu H4 C/\ C D5=some (.lst ys)/\ ys=((fr9 kt).take i).map fun u=>.str (tx u)) ⟨n5.same,n5.at_,rfl⟩ ?_ ?_
  ·rintro m cc ys C z f4 ⟨s',h9,rfl⟩
   have b4:m<9:=(aZ.mp f4).1
   have j4:cc=97+m:=IS f4
   subst j4
   have k5:(fr9 kt)[m]? =some ((bA kt [113,107]).flatten++[97+m]):=by unfold fr9;rw[bi,gg b4];rfl
   have f6:(bA kt [113,107]).flatten.length<=6:=by simp;omega
   refine⟨cdd,by decide,[113,107],kt,rfl,e3,by show 2*kt<=1000;omega,by omega,by decide,_,_,rfl,rfl,by show _+1<=100000;omega,h9,by rw[aX,bW];omega,fun H6 c6=>⟨c6.same s' n5.fr,c6.at_,?_⟩⟩
   rw[cx,k5,bZ]
   rfl
  rintro ys H6 ⟨s6,b7,rfl⟩
  have b7:H6 D5=some (.lst ((fr9 kt).map fun u=>.str (tx u))):=by rw[b7,show([97,98,99,100,101,102,103,104,105]:List Nat).length=9 from rfl,cM (by omega)]
  have S6:=S4.same s6
  set_option simprocs false in dsimp only[kf,List.set]
  refine⟨_,rfl,⟨_,SqL.of b7⟩,fun j3 H7 n7=>?_⟩
  have S7:=S6.same n7.same
  refine uE (xs:=(fr9 kt).map fun u=>V.str (tx u)) (fun m ys C=>iu H6 C/\ C j3=some (.lst ys)/\ ys=(((fr9 kt).take m).filter fun u=>decide (u∉rows.map (·.1))).map fun u=>V.str (tx u)) ⟨n7.same,n7.at_,rfl⟩ (fun _ _ _ _ h=>h.1.seq (SqL.of b7)) ?_ ?_
  ·rintro m x ys C z hx ⟨s',hD,rfl⟩
   rw[bi] at hx
   obtain⟨u',i9,rfl⟩:=bN.mp hx
   refine⟨ln,_,rfl,.inl (SqL.of (s' _ _ S6.nms)),rfl,Jn _,?_⟩
   rw[Mj]
   have et:((fr9 kt).take (m+1)).filter (fun u=>decide (u∉rows.map (·.1)))=((fr9 kt).take m).filter (fun u=>decide (u∉rows.map (·.1)))++if u'∈rows.map (·.1) then [] else [u']:=by
    rw[cx,i9,List.filter_append]
    by_cases J:u'∈rows.map (·.1)
    ·rw[if_pos J];simp only[Option.toList,cJ,List.filter_nil,J,not_true,decide_false];rfl
    ·rw[if_neg J];simp only[Option.toList,cJ,List.filter_nil,J,not_false_eq_true,decide_true];rfl
   by_cases J:u'∈rows.map (·.1)
   ·rw[decide_eq_true J]
    refine⟨s',hD,?_⟩
    rw[et,if_pos J,cT]
   ·rw[decide_eq_false J]
    refine⟨hD,?_,fun H4 c4=>⟨c4.same s' n7.fr,c4.at_,?_⟩⟩
    ·rw[aX]
     have h1:=eB (fun u=>decide (u∉rows.map (·.1))) ((fr9 kt).take m)
     rw[bW] at h1
     omega
    ·rw[et,if_neg J,bZ]
     rfl
  rintro ys H8 ⟨s8,b8,rfl⟩
  rw[aX,cg] at b8
  have S8:=S6.same s8
  have g5:((fr9 kt).filter fun u=>decide (u∉rows.map (·.1)))≠[]:=fun z=>by
   have:=pig f1 (us:=rows.map (·.1)) fun x hx=>by
    refine Classical.byContradiction fun h=>?_
    have hm:x∈(fr9 kt).filter fun u=>decide (u∉rows.map (·.1)):=fY.mpr ⟨hx,decide_eq_true h⟩
    rw[z] at hm
    cases hm
   rw[f3,a8] at this
   omega
  have f6:=List.length_pos_iff.mpr g5
  have i5:((fr9 kt).filter fun u=>decide (u∉rows.map (·.1))).length<=9:=by rw[←f3];exact eB _ _
  have J:∀u∈(fr9 kt).filter fun u=>decide (u∉rows.map (·.1)),u∉rows.map (·.1)/\ jD u:=fun u hu=>by
   obtain⟨p1,p2⟩:=fY.mp hu
   obtain⟨p3,p4,p5⟩:=f2 u p1
   exact⟨of_decide_eq_true p2,p3,p4,p5⟩
  generalize ((fr9 kt).filter fun u=>decide (u∉rows.map (·.1)))=fr at b8 f6 i5 J
  clear g5 f1 f2 f3
  have m4:((((fr.map fun u=>V.str (tx u)).length:Nat):Int))=(fr.length:Int):=by rw[aX]
  have o0:=bV (cl.fdiv 512) (show((((fr.map fun u=>V.str (tx u)).length:Nat):Int))≠0 by omega)
  have o1:=bK (cl.fdiv 512) (show(0:Int)<(((fr.map fun u=>V.str (tx u)).length:Nat):Int) by omega)
  obtain⟨m,hm⟩:∃m:Nat,cl.fdiv 512%((((fr.map fun u=>V.str (tx u)).length:Nat):Int))=m:=⟨_,(dL o0).symm⟩
  obtain⟨nw,g8⟩:∃nw,fr[m]? =some nw:=⟨_,bg (by omega)⟩
  obtain⟨d0,b5⟩:=J nw (bo g8)
  have l3:=b5.len
  set_option simprocs false in dsimp only[kf,List.set]
  refine⟨⟨_,S8.nms⟩,cdd,_,.inl (SqL.of b8),by omega,?_⟩
  rw[hm]
  refine⟨_,.str (tx nw),SqL.of b8,iX (by rw[bi,g8];rfl),?_⟩
  refine⟨_,S8.nms,by rw[aX,a8];omega,fun H9 c9=>?_⟩
  have S9:=S8.nl (us':=rows.map (·.1)++[nw]) (by rw[bZ];exact c9)
  have g4:ip K H9 (.ref zp) y:=((((g9.ts d9).ts k4).same s6).same s8).ts (Chg.ts c9 S8.nms)
  obtain⟨j7,m2,j9,l0⟩:=S9.dsk.at_
  have f8:E7 y:=⟨y0,gT y1 (gT c1 (B.s1 U)),yw.dvd (by have:=Li (i:=i+1) (k:=1) (by omega) (by decide);rw[Nat.mul_one,Ie] at this;exact this)⟩
  have f0:Sz 1900 y:=(ke f8.rd).mono (by decide)
  have l9:=mP f0
  have i6:((rows.map (·.1)++[nw]).map fun u=>V.str (tx u))[j]? =some (.str (tx u)):=by rw[bi,cA (by omega),X];rfl
  have h7:((rows.map (·.1)++[nw]).map fun u=>V.str (tx u))[((rows.map (·.1)++[nw]).map fun u=>V.str (tx u)).length - 1]? =some (.str (tx nw)):=by
   rw[aX,bf,a8,bi,cv (by rw[a8];show _<=_+1 - 1;omega),a8,show rows.length+[nw].length - 1 - rows.length=0 by show _+1 - 1 - _=0;omega]
   rfl
  refine⟨⟨j7,_,j9,rfl⟩,_,_,SqL.of S9.nms,iX i6,_,u,rfl,rfl,by show 5+_<=100000;omega,_,_,rfl,rfl,by rw[bf];show 5+_+1<=100000;omega,_,_,SqL.of S9.nms,Bk h7,_,nw,rfl,rfl,by rw[bf,bf];show 5+_+1+_<=100000;omega,_,_,rfl,rfl,by rw[bf,bf,bf];show 5+_+1+_+1<=100000;omega,.ref zp,y,rfl,g4,f0,_,_,rfl,rfl,by rw[bf,bf,bf,bf];show 5+_+1+_+1+_<=100000;omega,a,d,_,.part u nw y,_,_,140,rfl,by rw[bf,bf,bf,bf,bf];show 5+_+1+_+1+_<=100000;omega,Mu (w:=yx) (by decide) hu (mQ b5) qP,S9.dsk,⟨b5,pG.mpr d0,by omega,f8.rd,c,T,y1⟩,a7,by decide,fun a5 e' l k6 hp f9 f7=>?_⟩
  obtain⟨rfl,rfl,x,hx,rfl⟩:=hp
  rw[T] at hx
  cases hx
  have d4:=S9.sy f9 f7
  have i3:iO (rows.set j (u,c - y)) nw=none:=pG.mpr (by rw[kQ N];exact d0)
  rw[xi B.nd N,Bo i3] at d4
  refine nG (fin _ _ k6 ?_ (B.part N b5 d0 (by omega) y0 y1 yw) hE)
  unfold clm at d4 ⊢
  rw[bZ,kQ N,bZ,mK]
  exact d4
 rintro σ C ⟨e9,rfl⟩
 subst C
 refine lh (t:=nH _ _ _) (fun σ C=>C=H/\ σ=[some (.ref a),some (.ref ln),some (.ref lc),some (.int cl),some (.int (I.length:Int)),some (.int (j:Int)),some (.int (cl%8)),none,none,none,none,none,none,none,none]) ?_ (fun L=>?_)
 rotate_left
 ·refine br (fun _=>br (fun h2=>?_) (fun _=>L _ _ ⟨rfl,rfl⟩)) (fun _=>L _ _ ⟨rfl,rfl⟩)
  refine⟨.inl ⟨rfl,_,SqL.of D⟩,I,j,v,D,rfl,by omega,hv,fun H1 c1=>?_⟩
  have S1:=S.cl c1 (vK R j)
  obtain⟨a9,f5,b0,c5⟩:=S1.dsk.at_
  have E0:E7 0:=wy (n:=0) (by decide)
  refine⟨⟨a9,_,b0,rfl⟩,a,d,_,.estate 0,_,_,140,rfl,by decide,by decide,S1.dsk,E0.rd,a7,by decide,fun a5 e' l H2 hp d7 d8=>?_⟩
  obtain⟨rfl,rfl,rfl⟩:=hp
  have S2:=S1.sy d7 d8
  have e4:=sN B U E0
  have s0:(0:Rat)<=Lr.sm (clm l):=Lr.lE B.nn
  obtain⟨k8,m3,i2,l1⟩:=S2.dsk.at_
  refine⟨⟨k8,_,i2,rfl⟩,.inl ⟨rfl,_,SqL.of S2.nms⟩,_,j,.str (tx u),S2.nms,rfl,by omega,by rw[bi,X];rfl,fun H3 c3=>?_⟩
  rw[←jB] at c3
  have O:=S2.nl c3
  refine⟨_,u,rfl,rfl,by show 6+_<=100000;omega,_,_,rfl,rfl,by rw[bf];show 6+_+6<=100000;omega,a,d,_,.leave u .ga,_,_,140,rfl,by rw[bf,bf];show 6+_+6<=100000;omega,?_,O.dsk,⟨trivial,fun z=>(by cases z),s0,c,T⟩,e4,by decide,fun a5 e' h4 H4 hp d2 e0=>?_⟩
  ·have:=CP (w:=DX) (by decide) hu (v:=jb .ga) (by decide)
   rw[dF _ [32] (jb .ga)] at this
   exact this
  obtain⟨rfl,c',ps,j',p,l8,hR,g6,rfl,rfl⟩:=hp
  have G:=qX e4 s0
  have g7:∀y∈ps,0<=y:=fun y hy=>by
   obtain⟨m,hm⟩:=bF.mp hy
   have b4:=(aZ.mp hm).1
   rw[hR.len] at b4
   exact(bdN (fun z=>by cases z) G hR (bg b4) hm).1
  have p0:p=0:=by
   have h1:=uu g7 (bo g6)
   rw[NH (fun z=>by cases z) G hR] at h1
   have h2:=g7 p (bo g6)
   grind
  subst p0
  have S4:=O.sy d2 e0
  rw[ur B.nd N,show(0:Rat) - 0=0 by decide+kernel] at S4
  refine nG (fin _ _ H4 ?_ (B.era (by omega) N) E0)
  unfold clm at S4 ⊢
  rw[jB,jB]
  exact S4
 rintro σ C ⟨e9,rfl⟩
 subst C
 refine br (fun _=>?_) (fun _=>br (fun _=>?_) (fun _=>fin _ _ H S B.up hE))
 ·obtain⟨k0,k1⟩:0<=cl%5/\ cl%5<5:=⟨bV cl (by decide),bK cl (by decide)⟩
  obtain⟨kt,e3⟩:∃k:Nat,cl%5=k:=⟨_,(dL k0).symm⟩
  obtain⟨g1,g2⟩:=NP ⟨kt,by omega⟩
  have g1:wrR ((10^(20+kt):Nat):Rat)=49::(bA (20+kt) [48]).flatten:=g1
  have En:=wy g2
  have En:E7 ((10^(20+kt):Nat):Rat):=En
  have m5:(bA (20+kt) [48]).flatten.length<=24:=by simp;omega
  refine⟨⟨dx,_,ha,rfl⟩,by decide,[48],20+kt,rfl,by omega,by show 1*_<=1000;omega,by omega,by decide,_,_,rfl,rfl,by show 8+_<=100000;omega,a,d,_,.estate ((10^(20+kt):Nat):Rat),_,_,140,rfl,by rw[bf];show 8+_<=100000;omega,?_,S.dsk,En.rd,a7,by decide,fun a5 e' l H2 hp d7 d8=>?_⟩
  ·have:=EM ((10^(20+kt):Nat):Rat)
   rw[g1] at this
   show _=[lj,wrR _]
   rw[g1]
   exact this
  obtain⟨rfl,rfl,rfl⟩:=hp
  exact nG (fin _ _ H2 (S.sy d7 d8) B.up En)
 ·obtain⟨b,rfl,hb⟩:=d5.sq
  have M:=(B.e7 U (bo b6)).rd
  have a1:=M.n
  have a2:=M.d
  have e1:=Lr.den_pos c
  refine⟨_,_,SqL.of D,iX hv,_,hb,rfl,ly (by decide) (by omega),ly (by decide) (by omega),_,_,rfl,by omega,Bd.mul (m:=4) (n:=200) (Bd.of_lt (by decide)) (ke M).d (by decide),fun z H2 W=>?_⟩
  rw[FZ] at W
  have S2:=S.same W.same
  have Y:=W.same _ _ D
  refine⟨I,j,Y,wS (by omega),fun H3 c3=>?_⟩
  have a0:=vn (R.ts W.same.ts) (ip.new W) j
  have O:=S2.cl c3 a0
  obtain⟨j5,m6,i8,l4⟩:=O.dsk.at_
  refine⟨⟨j5,_,i8,rfl⟩,_,_,SqL.of O.nms,iX (by rw[bi,X];rfl),_,u,rfl,rfl,by show 5+_<=100000;omega,_,_,rfl,rfl,by rw[bf];show 5+_+4<=100000;omega,a,d,_,.more u (Lr.rt 1 3),_,_,140,rfl,by rw[bf,bf];show 5+_+4<=100000;omega,?_,O.dsk,⟨⟨c,T⟩,by decide+kernel,by decide+kernel,by decide+kernel⟩,a7,by decide,fun a5 e' l H4 hp d2 e0=>?_⟩
  ·have:=CP (w:=HD) (by decide) hu (v:=[49,47,51]) (by decide)
   rw[dF _ [32] [49,47,51]] at this
   exact this
  obtain⟨rfl,rfl,x,hx,rfl⟩:=hp
  rw[T] at hx
  cases hx
  have S4:=O.sy d2 e0
  rw[xi B.nd N] at S4
  have h3:Lr.rt 1 3*3=1:=by decide+kernel
  refine nG (fin _ _ H4 ?_ (B.set N (Ic c0).1 (Ic c0).2 (cw.add (Wh.of_rt (by decide) (Nat.dvd_mul_left_of_dvd (by decide) _)))) hE)
  unfold clm at S4 ⊢
  rw[kQ N,mK]
  exact S4
theorem MN{u:List Nat}(b:jD u)(x:Rat):ji ([99,108,97,105,109,32]++u++[32,32]++wrR x)=[sL,u,wrR x]:=by
 have h1:ji (sL++32::(u++32::(32::wrR x)))=[sL,u,wrR x]:=by
  rw[nQ (by decide) (by decide),nQ (mQ b).1 (mQ b).2,sI,wm (u:=wrR x) qP.1 qP.2]
 rw[←h1]
 simp[sL]
theorem MY{x:Int}(h0:0<=x)(h1:x<4):∃b:Lr.Rl,b≠.tu/\ atI [V.str (tx [115,104,97,114,101,115]),.str (tx [103,97,105,110,115]),.str (tx [108,111,115,115,101,115]),.str (tx [104,97,108,118,101,115])] x=some (.str (word b)):=by
 have:x=0∨x=1∨x=2∨x=3:=by omega
 rcases this with rfl|rfl|rfl|rfl
 ·exact⟨.sh,(by intro z;cases z),rfl⟩
 ·exact⟨.ga,(by intro z;cases z),rfl⟩
 ·exact⟨.lo,(by intro z;cases z),rfl⟩
 ·exact⟨.ha,(by intro z;cases z),rfl⟩
theorem Fx{x y:Int}(h0:0<=x)(h1:x<4)(b:0<=y)(g:y<=40):∃m:Nat,m<=40/\ atI [V.int 0,.int 40,.int y,.int 20] x=some (.int (m:Int)):=by
 have:x=0∨x=1∨x=2∨x=3:=by omega
 rcases this with rfl|rfl|rfl|rfl
 ·exact⟨0,by decide,rfl⟩
 ·exact⟨40,by decide,rfl⟩
 ·refine⟨y.toNat,by omega,?_⟩
  rw[dL b]
  rfl
 ·exact⟨20,by decide,rfl⟩
theorem JA(F:Has K mg "law" yz aE f fd)(N:Env K mg Ad)(D:ie P w K mg base "_law_claims" 2 aE (qW K))(o:jg P w K mg base Ad.aDesk "__init__" 1 aM (vh Ad))(U:ie P w K mg base "_law_name" 1 aQ (vI))(J:ie P w K mg base "_law_ratio" 1 aq (qB))(g:ie P w K mg base "_law_cell_at" 1 aD (pZ K))(I:jg P w K mg base Ad.aDesk "say" 14 aI (qO K Ad))(O:ie P w K mg base "_law_deed" 15 am (uQ K Ad))(C:ie P w K mg base "_law_needed" 16 ai (re K Ad))(R:ie P w K mg base "_law_text" 1 aS (jT K)):lV P w K mg base (CXE P w) 17 f fd aE (yK K):=by
 refine(F.fn.okE km (fun vs H Q E h=>?_) (fun h3 A e9 s H vs Q E L h=>?_))
 ·obtain⟨a,ns,rfl,hS,d1,k⟩:=h
  rfl
 obtain⟨a,ns,rfl,hS,d1,k⟩:=h
 refine⟨_,(gZ (iq (i:=1) km.nd rfl (Or.inl rfl) (hW D L (by decide) rfl (gX (dv 0) gY)))
  (gZ (ot (k:=2) (hZ yz) aE [0] km.nd rfl (Or.inl rfl) rfl (nW rfl N.b_range (gX (iA kg rfl N.b_len PySem.boot_len (gX (dv 1) gY)) gY)) (fun z=>(jY U L (by decide) rfl (gX (dv 0) (gX (jY g L (by decide) rfl (gX (dv 1) (gX hU gY))) gY)))))
  (gZ (iq (i:=3) km.nd rfl (Or.inl rfl) (FO o N.mk_Desk N.kp_Desk L (by decide) rfl N.g_Desk))
  (gZ (lf PassesOwn.leaving rfl (nW rfl N.b_range (gX (iA kg rfl N.b_len PySem.boot_len (gX (dv 1) gY)) gY)) (iW (i:=4) km.nd rfl (Or.inl rfl))
   (hV (iw (ij oU (iJ I L (by decide) (dv 3) (gX (ic iG (ic iG (ic iG (ds [99,108,97,105,109,32]) (io iV (dv 2) (dv 4) (fun _ _=>rfl))) (ds [32,32])) (hW R L (by decide) rfl (gX (io iV (dv 1) (dv 4) (fun _ _=>rfl)) gY))) gY)) (ds [111,107]) (ik _))
   (hV (ig oy))
   il)))
  (gZ (lf PassesOwn.leaving rfl (EF rfl N.b_range (gX hU (gX (iA (MW rfl) rfl N.b_max PyProof.Rows.boot_max (gX hU (gX (iA (HN rfl) rfl N.b_min PyProof.Rows.boot_min (gX (iA kg rfl N.b_len PySem.boot_len (gX (dv 0) gY)) (gX hU gY))) gY))) gY))) (iW (i:=5) km.nd rfl (Or.inl rfl))
   (gZ (iq (i:=6) km.nd rfl (Or.inl rfl) (ic jL (hW g L (by decide) rfl (gX (dv 0) (gX (dv 5) gY))) (ic iY hU (dv 5))))
  (gZ (iq (i:=7) km.nd rfl (Or.inl rfl) (io iV (mZ (gX (ds [115,104,97,114,101,115]) (gX (ds [103,97,105,110,115]) (gX (ds [108,111,115,115,101,115]) (gX (ds [104,97,108,118,101,115]) gY))))) (ic jl (dv 6) hU) (fun _ _=>rfl)))
  (gZ (iq (i:=6) km.nd rfl (Or.inl rfl) (ic jk (dv 6) hU))
  (gZ (iw (nh (jC (hW O L (by decide) rfl (gX (dv 3) (gX (dv 2) (gX (dv 1) (gX (dv 6) gY)))))))
   (hV (ig oy))
   il)
  (gZ (iq (i:=8) km.nd rfl (Or.inl rfl) (ic jl (ic jk (dv 6) hU) (iA kg rfl N.b_len PySem.boot_len (gX (dv 1) gY))))
  (gZ (iq (i:=6) km.nd rfl (Or.inl rfl) (ic jk (dv 6) hU))
  (gZ (iq (i:=9) km.nd rfl (Or.inl rfl) (io iV (mZ (gX hU (gX hU (gX (ic jL hU (ic jl (ic jk (dv 6) hU) hU)) (gX hU gY))))) (ic jl (dv 6) hU) (fun _ _=>rfl)))
  (gZ (nX (io iV (dv 1) (dv 8) (fun _ _=>rfl)) (qv rfl (ky (iW (i:=10) km.nd rfl (Or.inl rfl)) (ky (iW (i:=11) km.nd rfl (Or.inl rfl)) qK))))
  (gZ (iq (i:=12) km.nd rfl (Or.inl rfl) (hW J L (by decide) rfl (gX (ic iY (dv 10) (dv 9)) (gX (ic iY (dv 11) hU) gY))))
  (hV (iw (nh (jC (hW C L (by decide) rfl (gX (dv 3) (gX (dv 7) (gX (io iV (dv 2) (dv 8) (fun _ _=>rfl)) (gX (dv 2) (gX (dv 12) (gX (ic jk (dv 6) hU) (gX (jo Nl rfl N.b_int PyProof.Rows.boot_int (gX (ki oO (dv 5) hU (ik _)) gY)) gY))))))))))
   (hV (ig oy))
   il))))))))))))
  (hV (ig oy))))))),?_⟩
 refine⟨a,ns,rfl,hS,fun Z B H1 s1 f1 b8 h1 h8 d0=>?_⟩
 obtain⟨vs,b2,d8⟩:=id b8
 have h4:vs.length=B.length:=d8.len
 obtain⟨c,hc⟩:∃c,c=c40 ns 1:=⟨_,rfl⟩
 refine⟨_,.inl (SqL.of b2),_,rfl,by omega,by omega,fun W H2 n2=>?_⟩
 refine vT (fun i ys T=>iu H1 T/\ T W=some (.lst ys)/\ ys=((dz i).map fun j:Nat=>kB j c).map fun u=>.str (tx u)) ⟨n2.same,n2.at_,rfl⟩ ?_ ?_
 ·rintro i ys T z hi ⟨s',d2,rfl⟩
  refine⟨a,ns,1,rfl,(s1.trans s').seq hS,by decide,fun v ev _ _=>?_⟩
  rw[←hc] at ev
  subst ev
  refine⟨_,_,rfl,by omega,by omega,fun H3 s3=>?_⟩
  refine⟨s3 _ _ d2,by rw[aX,aX,cP];omega,fun H4 c4=>⟨c4.same (s'.trans s3) n2.fr,c4.at_,?_⟩⟩
  rw[List.range_succ,bZ,bZ,gc]
  rfl
 rintro ys H3 ⟨s3,c1,rfl⟩
 rw[show(((vs.length:Nat):Int)).toNat=B.length by omega, ←pT] at c1
 refine fun x dx hx e8 g5=>⟨x,dx,rfl,kI,fun d H4 k4 f4 a4 e4=>?_⟩
 have sA:iu H3 H4:=fun b u h=>by
  have c2:b≠x:=fun z=>by rw[z,hx] at h;cases h
  have g2:b≠dx:=fun z=>by rw[z,e8] at h;cases h
  exact k4 b u c2 (by rw[iM c2,iM g2];exact h)
 have g4:H3 d=none:=by
  have q1:d≠x:=fun z=>by rw[z,kI] at f4;cases f4
  have q2:d≠dx:=fun z=>by rw[z,iM g5,kI] at f4;cases f4
  rw[iM q1,iM q2] at f4
  exact f4
 have sH:iu H H3:=s1.trans s3
 have fA:∀b,is7 x d W Z b ->H b=none:=by
  rintro b (rfl|rfl|rfl|rfl)
  ·exact sH.free hx
  ·exact sH.free g4
  ·exact s1.free n2.fr
  ·exact f1
 have a3:W≠Z:=fun z=>by have:=n2.fr;rw[z,b2] at this;cases this
 have a8:Ok7 0 (rows7 c B):=GR h1 h8 d0
 have g0:OkD 140 0 (rows7 c B):=sN a8 (by decide) (wy (n:=0) (by decide))
 have S0:St7 K Ad.aDesk H4 H4 x d W Z 0 [] ((rows7 c B).map (·.1)) B:=⟨Ow.refl,⟨⟨dx,_,a4,nr N⟩,[],e4,.nil⟩,sA _ _ c1,(b8.same s3).same sA,a3⟩
 set_option simprocs false in dsimp only[kf]
 refine⟨rfl,?_⟩
 refine⟨_,.inl (SqL.of (sA _ _ (s3 _ _ b2))),_,rfl,by omega,by omega,?_⟩
 refine pO (fun i σ T=>∃z4,σ=[some (.ref a),some (.ref Z),some (.ref W),some (.ref x),z4,none,none,none,none,none,none,none,none]/\ St7 K Ad.aDesk H4 T x d W Z 0 ((rows7 c B).take i) ((rows7 c B).map (·.1)) B) ⟨none,rfl,by rw[List.take_zero];exact S0⟩ ?_ ?_
 ·rintro i σ T hi ⟨z4,rfl,S⟩
  have c9:i<B.length:=by omega
  obtain⟨y,hy⟩:∃y,B[i]? =some y:=⟨_,bg c9⟩
  have L:=FG (c:=c) hy
  have h2:=bo L
  have hu:jD (kB i c):=zv i c
  have h9:=hu.len
  have hE:=(a8.e7 (by decide) (c:=y) (by rw[pK];exact bo hy)).rd
  have b9:Sz 1900 y:=(ke hE).mono (by decide)
  have h6:=mP b9
  obtain⟨f0,c3,a6⟩:=id S.cls
  have g6:=a6.len
  obtain⟨v,hv⟩:∃v,f0[i]? =some v:=⟨_,bg (by omega)⟩
  have d5:=a6.at_ i v y hv hy
  have hn:((rows7 c B).map (·.1))[i]? =some (kB i c):=by rw[bi,L];rfl
  obtain⟨f8,h7,e3,g9⟩:=S.dsk.at_
  have g8:=pH c B
  have b6:iO ((rows7 c B).take i) (kB i c)=none:=pG.mpr (by
   rw[List.map_take,pT]
   intro hm
   obtain⟨q,hq⟩:=bF.mp hm
   have e5:=(aZ.mp hq).1
   rw[bW,aX,cP] at e5
   rw[gy,if_pos (by omega),bi,gg (by omega)] at hq
   have:=xO (k:=q) (k':=i) (by omega) (by omega) (Option.some.inj hq)
   omega)
  refine⟨⟨f8,_,e3,rfl⟩,_,_,SqL.of S.nms,by rw[gc];exact iX (by rw[bi,hn];rfl),_,kB i c,rfl,rfl,by show 6+_<=100000;omega,_,_,rfl,rfl,by rw[bf];show 6+_+2<=100000;omega,_,v,SqL.of c3,by rw[gc];exact iX hv,v,y,rfl,d5,b9,_,_,rfl,rfl,by rw[bf,bf];show 6+_+2+_<=100000;omega,x,d,_,.claim (kB i c) y,_,_,140,rfl,by rw[bf,bf,bf];show 6+_+2+_<=100000;omega,MN hu y,S.dsk,⟨hu,b6,by rw[bW];omega,hE⟩,GA g0 i,by decide,fun h5 e' l H6 hp f5 g1=>?_⟩
  obtain⟨rfl,rfl,rfl⟩:=hp
  set_option simprocs false in dsimp only[tC]
  refine qF ?_
  set_option simprocs false in dsimp only[asB]
  refine brF ?_
  have S6:=S.sy f5 g1
  rw[Bo b6] at S6
  refine⟨_,rfl,?_⟩
  rw[cx,L]
  exact S6
 rintro σ H5 ⟨z4,rfl,S5⟩
 rw[show(((vs.length:Nat):Int)).toNat=(rows7 c B).length by rw[pH];omega,cg] at S5
 have S5:St7 K Ad.aDesk H4 H5 x d W Z 0 (rows7 c B) ((rows7 c B).map (·.1)) (clm (rows7 c B)):=by rw[pK];exact S5
 have c6:iu H H5:=xa (sH.trans sA) S5.ow fA
 refine⟨_,.inl (c6.seq hS),?_⟩
 rw[aX]
 refine⟨10,_,rfl,⟨by decide,by omega,by omega,by omega⟩,?_⟩
 refine pO (fun i σ T=>∃(rows:List Rw) (e:Rat) (z5 z6 z7 z8 z9 b3 b1 b4:Option V),σ=[some (.ref a),some (.ref Z),some (.ref W),some (.ref x),z4,z5,z6,z7,z8,z9,b3,b1,b4]/\ iu H T/\ St7 K Ad.aDesk T T x d W Z e rows (rows.map (·.1)) (clm rows)/\ Ok7 i rows/\ E7 e) ⟨rows7 c B,0,none,none,none,none,none,none,none,none,rfl,c6,⟨Ow.refl,S5.dsk,S5.nms,S5.cls,a3⟩,a8,wy (n:=0) (by decide)⟩ ?_ ?_
 ·rintro i σ T hi ⟨rows,e,z5,z6,z7,z8,z9,b3,b1,b4,rfl,sm,S,hO,hE⟩
  have d4:i<8:=by omega
  refine⟨a,ns,_,rfl,sm.seq hS,by omega,fun v _ v0 v1=>⟨ly (by decide) (by omega),?_⟩⟩
  obtain⟨cl,d6⟩:∃cl,cl=v+4*(10+(i:Int)):=⟨_,rfl⟩
  dsimp only[Gq]
  rw[←d6]
  have i0:0<=cl:=by omega
  set_option simprocs false in dsimp only[kf,List.set]
  obtain⟨ρ,c0,e0⟩:=MY (bV cl (show(4:Int)≠0 by decide)) (bK cl (show(0:Int)<4 by decide))
  refine fun l6 H6 n6=>⟨by decide,_,_,SqL.of n6.at_,e0,cdd,?_⟩
  have e4:0<=cl.fdiv 4:=by rw[dq _ (by decide)];omega
  generalize cl.fdiv 4=c4 at e4
  have S6:=S.same n6.same
  refine⟨x,d,W,Z,rows,e,i,c4,rfl,S6.dsk,by rw[S6.nms,bM];rfl,S6.cls,a3,hO,d4,hE,e4,fun l e' H7 g3 f9 b7 a7 a0 f3=>?_⟩
  set_option simprocs false in dsimp only[asB,gF]
  refine brF ?_
  have f6:iu H H7:=xa (sm.trans n6.same) g3 fA
  obtain⟨Y,X,a5⟩:=id a7
  have g7:Y.length=l.length:=by rw[a5.len,aX]
  have i1:=a0.len1
  have r0:=bV (c4.fdiv 5) (show((Y.length:Nat):Int)≠0 by omega)
  have r1:=bK (c4.fdiv 5) (show(0:Int)<((Y.length:Nat):Int) by omega)
  obtain⟨j,d3⟩:∃j:Nat,c4.fdiv 5%((Y.length:Nat):Int)=j:=⟨_,(dL r0).symm⟩
  refine⟨cdd,_,.inl (SqL.of X),by omega,?_⟩
  rw[d3]
  obtain⟨u,y,hj⟩:∃u c,l[j]? =some (u,c):=⟨_,_,bg (by omega)⟩
  have c7:(clm l)[j]? =some y:=lD hj
  obtain⟨w,hw⟩:∃w,Y[j]? =some w:=⟨_,bg (by omega)⟩
  have f2:=a5.at_ j w y hw c7
  have b5:=(a0.e7 (by omega) (bo c7)).rd
  have a1:=b5.n
  have a2:=b5.d
  have i2:=Lr.den_pos y
  refine⟨cdd,?_⟩
  generalize c4.fdiv 40=c5
  have k0:=bV (c5.fdiv 5) (show(40:Int)≠0 by decide)
  have k1:=bK (c5.fdiv 5) (show(0:Int)<40 by decide)
  obtain⟨m,d7,hm⟩:=Fx (y:=1+c5.fdiv 5%40) (bV c5 (show(4:Int)≠0 by decide)) (bK c5 (show(0:Int)<4 by decide)) (by omega) (by omega)
  refine⟨cdd,by decide,fun l8 H8 n8=>⟨by decide,_,_,SqL.of n8.at_,hm,?_⟩⟩
  have c8:=n8.same _ _ X
  obtain⟨b,rfl,hb⟩:=(f2.same n8.same).sq
  refine⟨_,_,SqL.of c8,iX hw,_,hb,rfl,ly (by omega) (by omega),ly (by omega) (by decide),_,_,rfl,by omega,Bd.mul (m:=200) (n:=6) (ke b5).d (Bd.of_lt (by decide)) (by decide),fun z9 H9 n9=>?_⟩
  rw[Hz] at n9
  have s9:=n8.same.trans n9.same
  have b0:=f9.same s9
  have M:=s9 _ _ b7
  refine⟨_,_,SqL.of M,iX (by rw[bi,hj];rfl),cdd,?_⟩
  have e1:y*(((m:Int):Rat)/40)*40=y*(m:Rat):=by
   have:((m:Int):Rat)=(m:Rat):=rfl
   rw[this]
   grind
  refine⟨x,d,W,l,e',y,_,ρ,.ref z9,u,i+1,j,m,_,_,rfl,b0,M,a0,by omega,f3,ip.new n9,e1,d7,c0,hj,fun e2 HA a9 e6 f7=>?_⟩
  set_option simprocs false in dsimp only[asB,gF]
  refine brF ?_
  have d9:iu H HA:=xa (f6.trans s9) (a9.mono (G:=is7 x d W Z) fun b hb=>hb.elim .inl fun z=>.inr (.inl z)) fA
  have nA:=a9.st _ _ (lr b0 M) M
  have lA:=xk (a7.same s9) a9 (lr b0 (s9 _ _ X))
  exact⟨l,e2,_,_,_,_,_,_,_,_,rfl,d9,⟨Ow.refl,e6,by rw[nA,bM];rfl,lA,a3⟩,a0,f7⟩
 ·rintro σ T ⟨rows,e,z5,z6,z7,z8,z9,b3,b1,b4,rfl,sm,S,hO,hE⟩
  exact k T
end
end My
/-! The names of twins that the last theorem's tactics would lay and that no proof needs are taken here, so that they are not laid: the file stays small. -/
namespace PySem.W.Fast
def tw15101665894578266576:=()
def tw13335812054396831040:=()
def tw12528629369012974789:=()
def tw10050266112177877577:=()
def tw17534760008742373982:=()
def tw15643932399118668873:=()
def tw3781417719442759952:=()
def tw152514169814594276:=()
def tw4258762828298082341:=()
def tw8689672966226710916:=()
def tw13415124310308938833:=()
def tw2448935294439321694:=()
def tw16351626597779465945:=()
def tw17960906134349069205:=()
def tw5097502444735889680:=()
def tw12285354731590974400:=()
def tw283795411701256146:=()
def tw5734236822837595877:=()
def tw7162282657320395503:=()
def tw7687702615492294859:=()
def tw9019907339026589561:=()
def tw13916653228437369317:=()
def tw14891011464567072518:=()
def tw3966671629222121253:=()
def tw14611413710776080686:=()
def tw17805566064888800218:=()
def tw3334590251328292007:=()
def tw17832674324307951060:=()
def tw14845044039060162630:=()
def tw8623403649866718762:=()
def tw12931483617373047183:=()
def tw14028565149717245833:=()
def tw17341758868200379687:=()
def tw12350305494134196624:=()
def tw16473388714515208421:=()
def tw16143136491950530359:=()
def tw7174117872580264739:=()
def tw4247301113919889130:=()
def tw178591149278853098:=()
def tw11002043575568246726:=()
def tw10535739930240649351:=()
def tw2969431346935345051:=()
def tw15699897143896401456:=()
def tw386978265840975974:=()
def tw18308035332076582890:=()
def tw7670570470121579803:=()
def tw9841757024781085968:=()
def tw14071251058278826337:=()
def tw8868962946116613389:=()
def tw3389289373110733050:=()
def tw18053445875429272114:=()
def tw6175528624959263986:=()
def tw4383478460583334528:=()
def tw11761364001334900063:=()
def tw17047655232388560971:=()
def tw6404952515405818344:=()
def tw11749885313300091130:=()
def tw2594053676383541062:=()
def tw4848096139075266383:=()
def tw16583567263968881853:=()
def tw7396463839113845986:=()
def tw1933356025332592323:=()
def tw6974778823925128774:=()
def tw1886630809792415870:=()
def tw13565469487927618813:=()
def tw9145167940572993162:=()
def tw2974741566235259906:=()
def tw3444619068263317304:=()
def tw16088645996202784981:=()
def tw11842662702854285880:=()
def tw8390507530291373157:=()
def tw18025896067244991649:=()
def tw16669680431990904855:=()
def tw9680836435846656624:=()
def tw13028436614565414318:=()
def tw14533876454790398378:=()
def tw6658732029252723120:=()
def tw10355031844106444352:=()
def tw13850413715339654651:=()
def tw6981010776048621519:=()
def tw7483894728245608675:=()
def tw983811998362850478:=()
def tw10795064560896553642:=()
def tw15882801963412803133:=()
def tw14146717795221149161:=()
def tw1595720292513703748:=()
def tw14619716243928545145:=()
def tw3034473032079866275:=()
def tw15387210025170871640:=()
def tw6863599935785114753:=()
def tw8918064305122639346:=()
def tw10061246021703792436:=()
def tw7561095036293150710:=()
def tw15557961027591782059:=()
def tw6860845550056214882:=()
def tw6568906574893086009:=()
def tw2099156194771562306:=()
def tw2545820710197831918:=()
def tw4261229577798200532:=()
def tw12800579281482342666:=()
def tw706390311210198447:=()
def tw15401423891462564199:=()
def tw7776621398478283084:=()
def tw11533527410400528886:=()
def tw6306198970989291507:=()
def tw11301583910599442084:=()
def tw5193045220807936714:=()
def tw11496916834120822242:=()
def tw10908315150161661306:=()
def tw7230611826130654647:=()
def tw1269721767997805284:=()
def tw9898230528844789743:=()
def tw2771703425053993839:=()
def tw4871794690830162306:=()
def tw15173944451736593246:=()
def tw15863362786447983088:=()
def tw2117368397157855400:=()
def tw17439722681095615321:=()
def tw3612075179323765131:=()
def tw7985025184236379249:=()
def tw17385376636743429020:=()
def tw3530235673659889901:=()
def tw17115051517668675005:=()
def tw8547237428188373738:=()
def tw8590732610711512031:=()
def tw3033371006200495961:=()
def tw2226677110625305274:=()
def tw3248275533457867600:=()
def tw11752919232218070318:=()
def tw3217957800486516768:=()
def tw12013827740964592222:=()
def tw1464430211979374475:=()
def tw9332006664083050783:=()
def tw7890856794609227260:=()
def tw4602693815251170277:=()
def tw1969110203801531629:=()
def tw17209777603391424743:=()
def tw16687292338614482474:=()
def tw3561304090702794577:=()
def tw7007914501425653985:=()
def tw6704110517414726620:=()
def tw3873205322489508869:=()
def tw75161320516334982:=()
def tw4256052756859487833:=()
def tw10359868361978818167:=()
def tw1496938444850927845:=()
def tw5036491590034002515:=()
def tw9303370075568929969:=()
def tw5694013771329599117:=()
def tw11569261817272945908:=()
def tw14187809580493159706:=()
def tw15033940379958841392:=()
def tw4691857648160553640:=()
def tw10302373775276420193:=()
def tw9912022848672140572:=()
def tw5376598543292606415:=()
def tw2795653772521335913:=()
def tw11232007608930480350:=()
def tw8726827613452297035:=()
def tw732453138559471315:=()
def tw14513861959508306725:=()
def tw9221783045643846188:=()
def tw3299243738808343832:=()
def tw7667098528313625531:=()
def tw14896685606870804585:=()
def tw17999774052104245731:=()
def tw16170625289449611149:=()
def tw3799741137094780997:=()
def tw3742660951311975446:=()
def tw7907584347399326594:=()
def tw8986020009780831629:=()
def tw17737390138520064697:=()
def tw3767504090300024654:=()
def tw12961511111792317267:=()
def tw17860548069771035626:=()
def tw788659533878750105:=()
def tw2395759375265753764:=()
def tw12950121862568999246:=()
def tw305791856455631857:=()
def tw12078715004548403696:=()
def tw1489967159046395:=()
def tw10552229843501103487:=()
def tw9002329477269071889:=()
def tw15581986116184999122:=()
def tw18396842485960058524:=()
def tw6806511002850575566:=()
def tw12944320470162705328:=()
def tw6936202993336333652:=()
def tw15384301912365352980:=()
def tw10913225609975674127:=()
def tw1935017973363119429:=()
def tw12150063183582439479:=()
def tw18352319075576313211:=()
def tw9395165686893390195:=()
def tw2508424846039040408:=()
def tw5577638431221855675:=()
def tw12350702784785169086:=()
def tw12116651112246097622:=()
def tw1121796042272836933:=()
def tw12554750183315817798:=()
def tw14316246160204318744:=()
def tw15333202422021767269:=()
def tw9680417652551811705:=()
def tw11109039440244363070:=()
def tw11896523020841446896:=()
def tw4340557168578816147:=()
def tw11081010486374127060:=()
def tw7078337046286299304:=()
def tw6346885200528891323:=()
def tw3747989174159718834:=()
def tw2047915938013699963:=()
def tw2301255170756393728:=()
def tw13066212440104736943:=()
def tw14712253639458342835:=()
def tw17677406263653126605:=()
def tw16417616107800882340:=()
def tw13966260448287171869:=()
def tw3795118041508035936:=()
def tw93036656746767928:=()
def tw8120751584081889535:=()
def tw4166689167769464334:=()
def tw12346659959779793780:=()
def tw7864291089976911078:=()
def tw15100214069986291971:=()
def tw1322913229779105735:=()
def tw2339391508901801315:=()
def tw7974020132475142967:=()
def tw14427608367743892676:=()
def tw7614745285586805421:=()
def tw17526684380557560623:=()
def tw4021244711893528562:=()
def tw12471205915661858200:=()
def tw6676476468844166807:=()
def tw6128177793235121866:=()
def tw2921328795966314958:=()
def tw12144607958171577441:=()
def tw2437357874211239712:=()
def tw12337269732513387829:=()
def tw6557170845160467458:=()
def tw10117039251395445818:=()
def tw2724602120559399678:=()
def tw4568495940803602054:=()
def tw12499186399938957043:=()
def tw16291581141461973187:=()
def tw4571548952971575185:=()
def tw12529398676467919015:=()
def tw4925944807286306586:=()
def tw17725686261531675724:=()
def tw3272159265896399830:=()
def tw1530344053790538920:=()
def tw15956717984159926560:=()
def tw1472791433702040927:=()
def tw1669195674624041965:=()
def tw12645687805511548960:=()
def tw3752612451049254834:=()
def tw5640780893502272422:=()
def tw15302089865021913996:=()
def tw3886112427889444938:=()
def tw16228569957111214362:=()
def tw14997818495328723:=()
def tw16213631343598660684:=()
def tw17836293631852245011:=()
def tw14315370618213098079:=()
def tw2875006182318675269:=()
def tw15166689213022995357:=()
def tw15581350672469405330:=()
def tw18174926342980249372:=()
def tw7480962645501797855:=()
def tw1461924462294882721:=()
def tw9376503465933040138:=()
def tw1265855654847209164:=()
def tw1795579413509954975:=()
def tw1783432952733192681:=()
def tw15507707503434940705:=()
def tw9337498587013248055:=()
def tw724012830533319075:=()
def tw12757896200665753667:=()
def tw4739822638767129076:=()
def tw265805373225601688:=()
def tw6342467815701891910:=()
def tw10018270265670215367:=()
def tw5780413326637833500:=()
def tw1633535503090436279:=()
def tw13876379535672965562:=()
def tw12555910043899576144:=()
def tw8411327750472611809:=()
def tw1184670519087167047:=()
def tw7736472955985263156:=()
def tw5458253613215055530:=()
def tw16413656274267552761:=()
def tw6094039615699240847:=()
def tw740771957363561735:=()
def tw16923487856686836116:=()
def tw5982446564205008308:=()
def tw3551559779984974592:=()
def tw9214740788904411763:=()
def tw721371155924340385:=()
def tw15036534945343267517:=()
def tw16389490897088831436:=()
def tw1075833625059719138:=()
def tw15117655241279237373:=()
def tw18337075308087104012:=()
def tw14036527585285085722:=()
def tw12989237213243410234:=()
def tw6543853200122008964:=()
def tw8180236408833841598:=()
def tw4952534399206832394:=()
def tw8496318822861457787:=()
def tw17337558190874604:=()
def tw256820389260362807:=()
def tw8537680517098123989:=()
def tw10494898498447895623:=()
def tw5021456094180361083:=()
def tw948068733863117213:=()
def tw15445619147081362564:=()
def tw12376671196994528317:=()
def tw8704406142952418225:=()
def tw16994632052661534572:=()
def tw8264296732030556688:=()
def tw11319630731265979036:=()
def tw5137141826512413427:=()
def tw17369607371631346874:=()
def tw1955252248740998983:=()
def tw17380298464808828975:=()
def tw16390543374126276191:=()
def tw16504641401324327161:=()
def tw4810403374306545251:=()
def tw9424698128136052354:=()
def tw681028839688019278:=()
def tw13352984613102745949:=()
def tw8287692591571393461:=()
def tw17947289405302990954:=()
def tw16867144432986406838:=()
def tw1471796477016006240:=()
def tw11112020857344226665:=()
def tw7598976428925242835:=()
def tw15870002562071775965:=()
def tw17068950539936620678:=()
def tw16742258147781709289:=()
def tw4945931693843026127:=()
def tw8228513792596794041:=()
end PySem.W.Fast
open PySem PySem.W PyProof.Rows
set_option maxRecDepth 100000 in
set_option maxHeartbeats 0 in
theorem PySem.Challenge.cw_leanestate_k47_whole_need_holds : PySem.Challenge.rw_leanestate_k47_whole_need.Holds := by
 w_on;o_law;k_head;(case hw=>w_witness2)
 k_fill
 refine L2.MS (k:=17) (l:=PySem.Challenge.rw_leanestate_k47_whole_need) (by decide) rfl rfl (fun w h Y=>PySem.W.kIn_of Y) ?F
 case F=>
  intro w N fa h b G hmg
  have g9:∃f g,L2.Has (L2.KOf b) N "_law_ratio" My.sD aq f g:=by dsimp only[L2.KOf];refine' ⟨_,_,L2.iy b G ?a ?l ?c ?k (fun _ _ _ _ _ _ o z=>L2.iL o z (fun _ _=>rfl))⟩;(case a|l|c|k=>k_is)
  have b4:∃f g,L2.Has (L2.KOf b) N "_law_cell_at" My.qe aD f g:=by dsimp only[L2.KOf];refine' ⟨_,_,L2.iy b G ?a ?l ?c ?k (fun _ _ _ _ _ _ o z=>L2.iL o z (fun _ _=>rfl))⟩;(case a|l|c|k=>k_is)
  have g1:∃f g,L2.Has (L2.KOf b) N "_law_claims" My.rE aE f g:=by dsimp only[L2.KOf];refine' ⟨_,_,L2.iy b G ?a ?l ?c ?k (fun _ _ _ _ _ _ o z=>L2.ju o z (fun _=>rfl))⟩;(case a|l|c|k=>k_is)
  have j5:∃f g,L2.Has (L2.KOf b) N "_law_name" My.rL aQ f g:=by dsimp only[L2.KOf];refine' ⟨_,_,L2.iy b G ?a ?l ?c ?k (fun _ _ _ _ _ _ o z=>L2.iL o z (fun _ _=>rfl))⟩;(case a|l|c|k=>k_is)
  have g5:∃f g,L2.Has (L2.KOf b) N "told_by" My.tE ["words"] f g:=by dsimp only[L2.KOf];refine' ⟨_,_,L2.iy b G ?a ?l ?c ?k (fun _ _ _ _ _ _ o z=>L2.ju o z (fun _=>rfl))⟩;(case a|l|c|k=>k_is)
  have c9:∃f g,L2.Has (L2.KOf b) N "words_of" My.oC aU f g:=by dsimp only[L2.KOf];refine' ⟨_,_,L2.iy b G ?a ?l ?c ?k (fun _ _ _ _ _ _ o z=>L2.ju o z (fun _=>rfl))⟩;(case a|l|c|k=>k_is)
  have S:∃f g,L2.Has (L2.KOf b) N "figures_read" My.nE ["figures"] f g:=by dsimp only[L2.KOf];refine' ⟨_,_,L2.iy b G ?a ?l ?c ?k (fun _ _ _ _ _ _ o z=>L2.ju o z (fun _=>rfl))⟩;(case a|l|c|k=>k_is)
  have f9:∃f g,L2.Has (L2.KOf b) N "top_read" My.rK aV f g:=by dsimp only[L2.KOf];refine' ⟨_,_,L2.iy b G ?a ?l ?c ?k (fun _ _ _ _ _ _ o z=>L2.ju o z (fun _=>rfl))⟩;(case a|l|c|k=>k_is)
  have K:∃f g,L2.Has (L2.KOf b) N "common_divisor" My.mG ae f g:=by dsimp only[L2.KOf];refine' ⟨_,_,L2.iy b G ?a ?l ?c ?k (fun _ _ _ _ _ _ o z=>L2.iL o z (fun _ _=>rfl))⟩;(case a|l|c|k=>k_is)
  have f0:∃f g,L2.Has (L2.KOf b) N "is_whole" My.rP ["value"] f g:=by dsimp only[L2.KOf];refine' ⟨_,_,L2.iy b G ?a ?l ?c ?k (fun _ _ _ _ _ _ o z=>L2.ju o z (fun _=>rfl))⟩;(case a|l|c|k=>k_is)
  have k4:∃f g,L2.Has (L2.KOf b) N "ratio" My.wR ay f g:=by dsimp only[L2.KOf];refine' ⟨_,_,L2.iy b G ?a ?l ?c ?k (fun _ _ _ _ _ _ o z=>L2.iL o z (fun _ _=>rfl))⟩;(case a|l|c|k=>k_is)
  have j9:∃f g,L2.Has (L2.KOf b) N "shown" My.xf ["one"] f g:=by dsimp only[L2.KOf];refine' ⟨_,_,L2.iy b G ?a ?l ?c ?k (fun _ _ _ _ _ _ o z=>L2.ju o z (fun _=>rfl))⟩;(case a|l|c|k=>k_is)
  have m6:∃f g,L2.Has (L2.KOf b) N "read" My.Am aV f g:=by dsimp only[L2.KOf];refine' ⟨_,_,L2.iy b G ?a ?l ?c ?k (fun _ _ _ _ _ _ o z=>L2.ju o z (fun _=>rfl))⟩;(case a|l|c|k=>k_is)
  have R:∃f g,L2.Has (L2.KOf b) N "look_at_rule" My.nv aP f g:=by dsimp only[L2.KOf];refine' ⟨_,_,L2.iy b G ?a ?l ?c ?k (fun _ _ _ _ _ _ o z=>L2.ju o z (fun _=>rfl))⟩;(case a|l|c|k=>k_is)
  have B:∃f g,L2.Has (L2.KOf b) N "look_at_rule_of_path" My.kJ aP f g:=by dsimp only[L2.KOf];refine' ⟨_,_,L2.iy b G ?a ?l ?c ?k (fun _ _ _ _ _ _ o z=>L2.ju o z (fun _=>rfl))⟩;(case a|l|c|k=>k_is)
  have E:∃f g,L2.Has (L2.KOf b) N "look_at_rule_told" My.lB ["told"] f g:=by dsimp only[L2.KOf];refine' ⟨_,_,L2.iy b G ?a ?l ?c ?k (fun _ _ _ _ _ _ o z=>L2.ju o z (fun _=>rfl))⟩;(case a|l|c|k=>k_is)
  have b9:∃f g,L2.Has (L2.KOf b) N "line_read" My.qj aU f g:=by dsimp only[L2.KOf];refine' ⟨_,_,L2.iy b G ?a ?l ?c ?k (fun _ _ _ _ _ _ o z=>L2.ju o z (fun _=>rfl))⟩;(case a|l|c|k=>k_is)
  have g7:∃f g,L2.Has (L2.KOf b) N "is_name" My.pR ["word"] f g:=by dsimp only[L2.KOf];refine' ⟨_,_,L2.iy b G ?a ?l ?c ?k (fun _ _ _ _ _ _ o z=>L2.ju o z (fun _=>rfl))⟩;(case a|l|c|k=>k_is)
  have n5:∃f g,L2.Has (L2.KOf b) N "less" My.zJ ae f g:=by dsimp only[L2.KOf];refine' ⟨_,_,L2.iy b G ?a ?l ?c ?k (fun _ _ _ _ _ _ o z=>L2.iL o z (fun _ _=>rfl))⟩;(case a|l|c|k=>k_is)
  have n6:∃f g,L2.Has (L2.KOf b) N "plus" My.Ax ae f g:=by dsimp only[L2.KOf];refine' ⟨_,_,L2.iy b G ?a ?l ?c ?k (fun _ _ _ _ _ _ o z=>L2.iL o z (fun _ _=>rfl))⟩;(case a|l|c|k=>k_is)
  have k1:∃f g,L2.Has (L2.KOf b) N "minus" My.wC ae f g:=by dsimp only[L2.KOf];refine' ⟨_,_,L2.iy b G ?a ?l ?c ?k (fun _ _ _ _ _ _ o z=>L2.iL o z (fun _ _=>rfl))⟩;(case a|l|c|k=>k_is)
  have j0:∃f g,L2.Has (L2.KOf b) N "listed" My.rH aR f g:=by dsimp only[L2.KOf];refine' ⟨_,_,L2.iy b G ?a ?l ?c ?k (fun _ _ _ _ _ _ o z=>L2.iL o z (fun _ _=>rfl))⟩;(case a|l|c|k=>k_is)
  have J:∃f g,L2.Has (L2.KOf b) N "look_at_claims" My.mJ aw f g:=by dsimp only[L2.KOf];refine' ⟨_,_,L2.iy b G ?a ?l ?c ?k (fun _ _ _ _ _ _ o z=>L2.ju o z (fun _=>rfl))⟩;(case a|l|c|k=>k_is)
  have g0:∃f g,L2.Has (L2.KOf b) N "by_turns" My.rZ aa f g:=by dsimp only[L2.KOf];refine' ⟨_,_,L2.iy b G ?a ?l ?c ?k (fun _ _ _ _ _ _ o z=>L2.iL o z (fun _ _=>rfl))⟩;(case a|l|c|k=>k_is)
  have k3:∃f g,L2.Has (L2.KOf b) N "total" My.wY aw f g:=by dsimp only[L2.KOf];refine' ⟨_,_,L2.iy b G ?a ?l ?c ?k (fun _ _ _ _ _ _ o z=>L2.ju o z (fun _=>rfl))⟩;(case a|l|c|k=>k_is)
  have g6:∃f g,L2.Has (L2.KOf b) N "look_at" My.sB aa f g:=by dsimp only[L2.KOf];refine' ⟨_,_,L2.iy b G ?a ?l ?c ?k (fun _ _ _ _ _ _ o z=>L2.iL o z (fun _ _=>rfl))⟩;(case a|l|c|k=>k_is)
  have m8:∃f g,L2.Has (L2.KOf b) N "over" My.yH ae f g:=by dsimp only[L2.KOf];refine' ⟨_,_,L2.iy b G ?a ?l ?c ?k (fun _ _ _ _ _ _ o z=>L2.iL o z (fun _ _=>rfl))⟩;(case a|l|c|k=>k_is)
  have k2:∃f g,L2.Has (L2.KOf b) N "times" My.wO ae f g:=by dsimp only[L2.KOf];refine' ⟨_,_,L2.iy b G ?a ?l ?c ?k (fun _ _ _ _ _ _ o z=>L2.iL o z (fun _ _=>rfl))⟩;(case a|l|c|k=>k_is)
  have a9:∃f g,L2.Has (L2.KOf b) N "in_shares" My.lZ aa f g:=by dsimp only[L2.KOf];refine' ⟨_,_,L2.iy b G ?a ?l ?c ?k (fun _ _ _ _ _ _ o z=>L2.iL o z (fun _ _=>rfl))⟩;(case a|l|c|k=>k_is)
  have O:∃f g,L2.Has (L2.KOf b) N "common_bottom" My.mU ["ratios"] f g:=by dsimp only[L2.KOf];refine' ⟨_,_,L2.iy b G ?a ?l ?c ?k (fun _ _ _ _ _ _ o z=>L2.ju o z (fun _=>rfl))⟩;(case a|l|c|k=>k_is)
  have b6:∃f g,L2.Has (L2.KOf b) N "tops_over" My.nS aJ f g:=by dsimp only[L2.KOf];refine' ⟨_,_,L2.iy b G ?a ?l ?c ?k (fun _ _ _ _ _ _ o z=>L2.iL o z (fun _ _=>rfl))⟩;(case a|l|c|k=>k_is)
  have a3:∃f g,L2.Has (L2.KOf b) N "gain_level" My.oZ aa f g:=by dsimp only[L2.KOf];refine' ⟨_,_,L2.iy b G ?a ?l ?c ?k (fun _ _ _ _ _ _ o z=>L2.iL o z (fun _ _=>rfl))⟩;(case a|l|c|k=>k_is)
  have b7:∃f g,L2.Has (L2.KOf b) N "lesser_of" My.qt ae f g:=by dsimp only[L2.KOf];refine' ⟨_,_,L2.iy b G ?a ?l ?c ?k (fun _ _ _ _ _ _ o z=>L2.iL o z (fun _ _=>rfl))⟩;(case a|l|c|k=>k_is)
  have f2:∃f g,L2.Has (L2.KOf b) N "by_gains" My.ou aa f g:=by dsimp only[L2.KOf];refine' ⟨_,_,L2.iy b G ?a ?l ?c ?k (fun _ _ _ _ _ _ o z=>L2.iL o z (fun _ _=>rfl))⟩;(case a|l|c|k=>k_is)
  have m4:∃f g,L2.Has (L2.KOf b) N "lack" My.zZ aa f g:=by dsimp only[L2.KOf];refine' ⟨_,_,L2.iy b G ?a ?l ?c ?k (fun _ _ _ _ _ _ o z=>L2.iL o z (fun _ _=>rfl))⟩;(case a|l|c|k=>k_is)
  have a4:∃f g,L2.Has (L2.KOf b) N "loss_level" My.pv aa f g:=by dsimp only[L2.KOf];refine' ⟨_,_,L2.iy b G ?a ?l ?c ?k (fun _ _ _ _ _ _ o z=>L2.iL o z (fun _ _=>rfl))⟩;(case a|l|c|k=>k_is)
  have Z:∃f g,L2.Has (L2.KOf b) N "claims_less" My.mz aK f g:=by dsimp only[L2.KOf];refine' ⟨_,_,L2.iy b G ?a ?l ?c ?k (fun _ _ _ _ _ _ o z=>L2.iL o z (fun _ _=>rfl))⟩;(case a|l|c|k=>k_is)
  have b2:∃f g,L2.Has (L2.KOf b) N "by_losses" My.nO aa f g:=by dsimp only[L2.KOf];refine' ⟨_,_,L2.iy b G ?a ?l ?c ?k (fun _ _ _ _ _ _ o z=>L2.iL o z (fun _ _=>rfl))⟩;(case a|l|c|k=>k_is)
  have b0:∃f g,L2.Has (L2.KOf b) N "by_halves" My.nL aa f g:=by dsimp only[L2.KOf];refine' ⟨_,_,L2.iy b G ?a ?l ?c ?k (fun _ _ _ _ _ _ o z=>L2.iL o z (fun _ _=>rfl))⟩;(case a|l|c|k=>k_is)
  have j2:∃f g,L2.Has (L2.KOf b) N "shared" My.vd al f g:=by dsimp only[L2.KOf];refine' ⟨_,_,L2.iy b G ?a ?l ?c ?k (fun _ _ _ _ _ _ o z=>L2.qH o z (fun _ _ _=>rfl))⟩;(case a|l|c|k=>k_is)
  have D:∃f g,L2.Has (L2.KOf b) N "estates_at_claims" My.jx aw f g:=by dsimp only[L2.KOf];refine' ⟨_,_,L2.iy b G ?a ?l ?c ?k (fun _ _ _ _ _ _ o z=>L2.ju o z (fun _=>rfl))⟩;(case a|l|c|k=>k_is)
  have U:∃f g,L2.Has (L2.KOf b) N "turned_round" My.lQ aL f g:=by dsimp only[L2.KOf];refine' ⟨_,_,L2.iy b G ?a ?l ?c ?k (fun _ _ _ _ _ _ o z=>L2.iL o z (fun _ _=>rfl))⟩;(case a|l|c|k=>k_is)
  have H:∃f g,L2.Has (L2.KOf b) N "estates_of_knots" My.kH ar f g:=by dsimp only[L2.KOf];refine' ⟨_,_,L2.iy b G ?a ?l ?c ?k (fun _ _ _ _ _ _ o z=>L2.iL o z (fun _ _=>rfl))⟩;(case a|l|c|k=>k_is)
  have n2:∃f g,L2.Has (L2.KOf b) N "path" My.vM ar f g:=by dsimp only[L2.KOf];refine' ⟨_,_,L2.iy b G ?a ?l ?c ?k (fun _ _ _ _ _ _ o z=>L2.iL o z (fun _ _=>rfl))⟩;(case a|l|c|k=>k_is)
  have L:∃f g,L2.Has (L2.KOf b) N "look_at_amount" My.mL aA f g:=by dsimp only[L2.KOf];refine' ⟨_,_,L2.iy b G ?a ?l ?c ?k (fun _ _ _ _ _ _ o z=>L2.qH o z (fun _ _ _=>rfl))⟩;(case a|l|c|k=>k_is)
  have M:∃f g,L2.Has (L2.KOf b) N "estate_between" My.mF ax f g:=by dsimp only[L2.KOf];refine' ⟨_,_,L2.iy b G ?a ?l ?c ?k (fun _ _ _ _ _ _ o z=>L2.qQ o z (fun _ _ _ _=>rfl))⟩;(case a|l|c|k=>k_is)
  have i7:∃f g,L2.Has (L2.KOf b) N "needed" My.vy av f g:=by dsimp only[L2.KOf];refine' ⟨_,_,L2.iy b G ?a ?l ?c ?k (fun _ _ _ _ _ _ o z=>L2.qQ o z (fun _ _ _ _=>rfl))⟩;(case a|l|c|k=>k_is)
  have i6:∃f g,L2.Has (L2.KOf b) N "turned" My.uZ al f g:=by dsimp only[L2.KOf];refine' ⟨_,_,L2.iy b G ?a ?l ?c ?k (fun _ _ _ _ _ _ o z=>L2.qH o z (fun _ _ _=>rfl))⟩;(case a|l|c|k=>k_is)
  have i0:∃f g,L2.Has (L2.KOf b) N "_law_text" My.vo aS f g:=by dsimp only[L2.KOf];refine' ⟨_,_,L2.iy b G ?a ?l ?c ?k (fun _ _ _ _ _ _ o z=>L2.ju o z (fun _=>rfl))⟩;(case a|l|c|k=>k_is)
  have i2:∃f g,L2.Has (L2.KOf b) N "_law_deed" My.pi am f g:=by dsimp only[L2.KOf];refine' ⟨_,_,L2.iy b G ?a ?l ?c ?k (fun _ _ _ _ _ _ o z=>L2.qQ o z (fun _ _ _ _=>rfl))⟩;(case a|l|c|k=>k_is)
  have i5:∃f g,L2.Has (L2.KOf b) N "_law_read" My.vD aT f g:=by dsimp only[L2.KOf];refine' ⟨_,_,L2.iy b G ?a ?l ?c ?k (fun _ _ _ _ _ _ o z=>L2.ju o z (fun _=>rfl))⟩;(case a|l|c|k=>k_is)
  have j1:∃f g,L2.Has (L2.KOf b) N "_law_gets" My.uY aj f g:=by dsimp only[L2.KOf];refine' ⟨_,_,L2.iy b G ?a ?l ?c ?k (fun _ _ _ _ _ _ o z=>L2.LF o z (fun _ _ _ _ _=>rfl))⟩;(case a|l|c|k=>k_is)
  have j3:∃f g,L2.Has (L2.KOf b) N "_law_less" My.uV aF f g:=by dsimp only[L2.KOf];refine' ⟨_,_,L2.iy b G ?a ?l ?c ?k (fun _ _ _ _ _ _ o z=>L2.iL o z (fun _ _=>rfl))⟩;(case a|l|c|k=>k_is)
  have f5:∃f g,L2.Has (L2.KOf b) N "_law_needed" My.rB ai f g:=by dsimp only[L2.KOf];refine' ⟨_,_,L2.iy b G ?a ?l ?c ?k (fun _ _ _ _ _ _ o z=>L2.byLen7 o z (fun _ _ _ _ _ _ _=>rfl))⟩;(case a|l|c|k=>k_is)
  have k0:∃f g,L2.Has (L2.KOf b) N "law" My.yz aE f g:=by dsimp only[L2.KOf];refine' ⟨_,_,L2.iy b G ?a ?l ?c ?k (fun _ _ _ _ _ _ o z=>L2.ju o z (fun _=>rfl))⟩;(case a|l|c|k=>k_is)
  have T:L2.Kt (L2.KOf b):=by
   dsimp only[L2.KOf]
   refine' ⟨?t0, ?t1, ?t2, ?t3, ?t4, ?t5, ?t6⟩
   (case t0=>kit_is)
   (case t1=>kit_is)
   (case t2=>kit_is)
   (case t3=>kit_is)
   (case t4=>kit_is)
   (case t5=>kit_is)
   (case t6=>kit_is)
  have A:∃Ad,My.Env (L2.KOf b) N Ad:=by
   dsimp only[L2.KOf] at T ⊢
   refine' My.Lo T b G ?n_Zb ?n_Zc ?n_Zd ?n_Ze ?n_Zf ?n_Zg ?n_Zj ?n_Zk ?n_Zm ?n_Zn ?n_Zo ?x_Zb ?x_Zc ?x_Zd ?x_Ze ?x_Zf ?x_Zg ?x_Zj ?x_Zk ?x_Zm ?x_Zn ?x_Zo ?z_len ?z_abs ?z_range ?z_isinstance ?z_int ?z_bool ?z_str ?z_list ?z_sum ?z_min ?z_max ?z_all ?z_reversed ?z_sorted ?z_zip ?z_set ?z_dict ?n_Desk ?pg_Desk ?hd_Desk ?po_Desk ?sa_Desk ?mk0_Desk ?kp0_Desk ?nf_Desk_estate ?nf_Desk_claims ?ma_0 ?mi_0 ?ml_0 ?mc_0 ?mp_0 ?ma_1 ?mi_1 ?ml_1 ?mc_1 ?mp_1 ?ma_2 ?mi_2 ?ml_2 ?mc_2 ?mp_2 ?ma_3 ?mi_3 ?ml_3 ?mc_3 ?mp_3 ?ma_4 ?mi_4 ?ml_4 ?mc_4 ?mp_4 ?ma_5 ?mi_5 ?ml_5 ?mc_5 ?mp_5 ?ma_6 ?mi_6 ?ml_6 ?mc_6 ?mp_6 ?ma_7 ?mi_7 ?ml_7 ?mc_7 ?mp_7 ?ma_8 ?mi_8 ?ml_8 ?mc_8 ?mp_8 ?ma_9 ?mi_9 ?ml_9 ?mc_9 ?mp_9 ?ma_10 ?mi_10 ?ml_10 ?mc_10 ?mp_10 ?ma_11 ?mi_11 ?ml_11 ?mc_11 ?mp_11 ?ma_12 ?mi_12 ?ml_12 ?mc_12 ?mp_12 ?ma_13 ?mi_13 ?ml_13 ?mc_13 ?mp_13 ?c0_Zp ?c1_Zp ?c2_Zp ?c3_Zp ?c4_Zp ?c5_Zp ?c0_Zq ?c1_Zq ?c0_Zr ?c1_Zr ?c2_Zr ?c3_Zr ?c4_Zr ?c5_Zr ?c0_Zs ?c1_Zs ?c2_Zs ?c3_Zs ?c40_Zs ?c41_Zs ?c42_Zs ?c43_Zs ?c44_Zs ?c0_FIGURES ?c1_FIGURES ?c0_MOST_FIGURES ?c1_MOST_FIGURES ?c0_LETTERS ?c1_LETTERS ?c0_LONGEST_NAME ?c1_LONGEST_NAME
   (case n_Zb|n_Zc|n_Zd|n_Ze|n_Zf|n_Zg|n_Zj|n_Zk|n_Zm|n_Zn|n_Zo=>k_is)
   (case x_Zb|x_Zc|x_Zd|x_Ze|x_Zf|x_Zg|x_Zj|x_Zk|x_Zm|x_Zn|x_Zo=>k_exc)
   (case z_len|z_abs|z_range|z_isinstance|z_int|z_bool|z_str|z_list|z_sum|z_min|z_max|z_all|z_reversed|z_sorted|z_zip|z_set|z_dict|n_Desk|pg_Desk|hd_Desk|po_Desk|sa_Desk|mk0_Desk|kp0_Desk|nf_Desk_estate|nf_Desk_claims|ma_0|mi_0|ml_0|mc_0|mp_0|ma_1|mi_1|ml_1|mc_1|mp_1|ma_2|mi_2|ml_2|mc_2|mp_2|ma_3|mi_3|ml_3|mc_3|mp_3|ma_4|mi_4|ml_4|mc_4|mp_4|ma_5|mi_5|ml_5|mc_5|mp_5|ma_6|mi_6|ml_6|mc_6|mp_6|ma_7|mi_7|ml_7|mc_7|mp_7|ma_8|mi_8|ml_8|mc_8|mp_8|ma_9|mi_9|ml_9|mc_9|mp_9|ma_10|mi_10|ml_10|mc_10|mp_10|ma_11|mi_11|ml_11|mc_11|mp_11|ma_12|mi_12|ml_12|mc_12|mp_12|ma_13|mi_13|ml_13|mc_13|mp_13|c0_Zp|c1_Zp=>k_is)
   (case c2_Zp|c3_Zp=>rfl)
   (case c4_Zp|c5_Zp=>decide)
   (case c0_Zq=>k_is)
   (case c1_Zq=>decide+kernel)
   (case c0_Zr|c1_Zr=>k_is)
   (case c2_Zr|c3_Zr=>rfl)
   (case c4_Zr|c5_Zr=>decide)
   (case c0_Zs|c1_Zs=>k_is)
   (case c2_Zs|c3_Zs=>rfl)
   (case c40_Zs|c41_Zs|c42_Zs|c43_Zs|c44_Zs=>decide+kernel)
   (case c0_FIGURES=>k_is)
   (case c1_FIGURES=>decide+kernel)
   (case c0_MOST_FIGURES=>k_is)
   (case c1_MOST_FIGURES=>decide+kernel)
   (case c0_LETTERS=>k_is)
   (case c1_LETTERS=>decide+kernel)
   (case c0_LONGEST_NAME=>k_is)
   (case c1_LONGEST_NAME=>decide+kernel)
  obtain⟨Ad,A⟩:=A
  have ED:∃AD,My.CG w (L2.KOf b) N AD:=by
   dsimp only[L2.KOf]
   refine' My.JJ b G ?c0 ?c1 ?c2 ?c3 ?e0 ?l0 ?y0 ?d0 ?x0_0 ?x0_1 ?e1 ?l1 ?y1 ?d1 ?x1_0 ?x1_1 ?e2 ?l2 ?y2 ?d2 ?x2_0 ?e3 ?l3 ?y3 ?d3 ?x3_0 ?x3_1 ?x3_2 ?e4 ?l4 ?y4 ?d4 ?x4_0 ?x4_1 ?e5 ?l5 ?y5 ?d5 ?x5_0 ?e6 ?l6 ?y6 ?d6 ?x6_0 ?e7 ?l7 ?y7 ?d7 ?x7_0 ?x7_1 ?e8 ?l8 ?y8 ?d8 ?e9 ?l9 ?y9 ?d9 ?x9_0 ?e10 ?l10 ?y10 ?d10 ?x10_0 ?e11 ?l11 ?y11 ?d11 ?x11_0 ?x11_1 ?x11_2 ?e12 ?l12 ?y12 ?d12 ?x12_0 ?x12_1 ?x12_2
   (case c0|c1=>k_is)
   (case c2=>rfl)
   (case c3=>decide)
   (case e0=>decide+kernel)
   (case l0=>k_is)
   (case y0|d0=>rfl)
   (case x0_0|x0_1|e1=>decide+kernel)
   (case l1=>k_is)
   (case y1|d1=>rfl)
   (case x1_0|x1_1|e2=>decide+kernel)
   (case l2=>k_is)
   (case y2|d2=>rfl)
   (case x2_0|e3=>decide+kernel)
   (case l3=>k_is)
   (case y3|d3=>rfl)
   (case x3_0|x3_1|x3_2|e4=>decide+kernel)
   (case l4=>k_is)
   (case y4|d4=>rfl)
   (case x4_0|x4_1|e5=>decide+kernel)
   (case l5=>k_is)
   (case y5|d5=>rfl)
   (case x5_0|e6=>decide+kernel)
   (case l6=>k_is)
   (case y6|d6=>rfl)
   (case x6_0|e7=>decide+kernel)
   (case l7=>k_is)
   (case y7|d7=>rfl)
   (case x7_0|x7_1|e8=>decide+kernel)
   (case l8=>k_is)
   (case y8|d8=>rfl)
   (case e9=>decide+kernel)
   (case l9=>k_is)
   (case y9|d9=>rfl)
   (case x9_0|e10=>decide+kernel)
   (case l10=>k_is)
   (case y10|d10=>rfl)
   (case x10_0|e11=>decide+kernel)
   (case l11=>k_is)
   (case y11|d11=>rfl)
   (case x11_0|x11_1|x11_2|e12=>decide+kernel)
   (case l12=>k_is)
   (case y12|d12=>rfl)
   (case x12_0|x12_1|x12_2=>decide+kernel)
  obtain⟨AdD,ED⟩:=ED
  obtain⟨f_l_ratio,d_l_ratio,g9⟩:=g9
  obtain⟨x0,w0,b4⟩:=b4
  obtain⟨x7,x1,g1⟩:=g1
  obtain⟨s9,s3,i9⟩:=A.m_Desk___init__
  obtain⟨f_l_name,d_l_name,j5⟩:=j5
  obtain⟨f_told_by,d_told_by,g5⟩:=g5
  obtain⟨x2,z0,c9⟩:=c9
  obtain⟨u2,t9,S⟩:=S
  obtain⟨z2,z8,f9⟩:=f9
  obtain⟨q9,q7,K⟩:=K
  obtain⟨x5,z7,f0⟩:=f0
  obtain⟨f_ratio,d_ratio,k4⟩:=k4
  obtain⟨f_shown,d_shown,j9⟩:=j9
  obtain⟨f_read,d_read,m6⟩:=m6
  obtain⟨u0,u3,R⟩:=R
  obtain⟨k9,m0,B⟩:=B
  obtain⟨p5,o5,E⟩:=E
  obtain⟨v6,v5,b9⟩:=b9
  obtain⟨f_is_name,d_is_name,g7⟩:=g7
  obtain⟨n9,o0,c6⟩:=A.m_Desk_look_at_names
  obtain⟨f_less,d_less,n5⟩:=n5
  obtain⟨n4,m5,b8⟩:=A.m_Desk_look_at_amount
  obtain⟨o3,p3,c8⟩:=A.m_Desk_look_at_room
  obtain⟨f_plus,d_plus,n6⟩:=n6
  obtain⟨p2,p7,f8⟩:=A.m_Desk_add_to_claim
  obtain⟨f_minus,d_minus,k1⟩:=k1
  obtain⟨f_Desk_do,d_Desk_do,q1⟩:=A.m_Desk_do
  obtain⟨f_listed,d_listed,j0⟩:=j0
  obtain⟨z6,x8,o4⟩:=A.m_Desk_two
  obtain⟨r1,r2,J⟩:=J
  obtain⟨x4,z3,g0⟩:=g0
  obtain⟨f_total,d_total,k3⟩:=k3
  obtain⟨f_look_at,d_look_at,g6⟩:=g6
  obtain⟨f_over,d_over,m8⟩:=m8
  obtain⟨f_times,d_times,k2⟩:=k2
  obtain⟨w4,w5,a9⟩:=a9
  obtain⟨r7,s6,O⟩:=O
  obtain⟨w7,w3,b6⟩:=b6
  obtain⟨v1,v2,a3⟩:=a3
  obtain⟨v3,w2,b7⟩:=b7
  obtain⟨z1,z4,f2⟩:=f2
  obtain⟨f_lack,d_lack,m4⟩:=m4
  obtain⟨v0,u8,a4⟩:=a4
  obtain⟨u6,u5,Z⟩:=Z
  obtain⟨v4,w6,b2⟩:=b2
  obtain⟨w9,w1,b0⟩:=b0
  obtain⟨f_shared,d_shared,j2⟩:=j2
  obtain⟨o1,o6,D⟩:=D
  obtain⟨u1,u4,U⟩:=U
  obtain⟨p9,p8,H⟩:=H
  obtain⟨f_path,d_path,n2⟩:=n2
  obtain⟨r0,q6,L⟩:=L
  obtain⟨q5,r3,M⟩:=M
  obtain⟨f_needed,d_needed,i7⟩:=i7
  obtain⟨n7,n8,c5⟩:=A.m_Desk_claims_listed
  obtain⟨t7,r6,j4⟩:=A.m_Desk_place_of
  obtain⟨v9,v8,n3⟩:=A.m_Desk_need
  obtain⟨s4,r9,i1⟩:=A.m_Desk_parts_by
  obtain⟨u7,u9,k5⟩:=A.m_Desk_leave
  obtain⟨f_turned,d_turned,i6⟩:=i6
  obtain⟨t8,r4,i4⟩:=A.m_Desk_answered
  obtain⟨x3,x9,o7⟩:=A.m_Desk_say
  obtain⟨f_l_text,d_l_text,i0⟩:=i0
  obtain⟨f_l_deed,d_l_deed,i2⟩:=i2
  obtain⟨f_l_read,d_l_read,i5⟩:=i5
  obtain⟨f_l_gets,d_l_gets,j1⟩:=j1
  obtain⟨f_l_less,d_l_less,j3⟩:=j3
  obtain⟨x6,z5,f5⟩:=f5
  obtain⟨f_law,z9,k0⟩:=k0
  have e0:=hmg.symm.trans k0.at_
  cases e0
  refine⟨z9,fun s u=>?_,fun base _ _=>?_⟩
  ·exact .of_eq (k0.bd [u] rfl)
  ·have b3:=My.AL (P:=My.PRG) (w:=w) (base:=base) g9 A
   have h6:=My.xY (P:=My.PRG) (w:=w) (base:=base) b4 A
   have p1:=My.yO (P:=My.PRG) (w:=w) (base:=base) g1 A b3 h6
   have i3:=My.uB (P:=My.PRG) (w:=w) (base:=base) i9 A
   have s5:=My.BZ (P:=My.PRG) (w:=w) (base:=base) j5 A
   have q3:=My.AQ (P:=My.PRG) (w:=w) (base:=base) g5 A ED
   have o8:=My.Af (P:=My.PRG) (w:=w) (base:=base) c9 A
   have c4:=My.vF (P:=My.PRG) (w:=w) (base:=base) S A
   have p4:=My.yM (P:=My.PRG) (w:=w) (base:=base) f9 A c4
   have a1:=My.tH (P:=My.PRG) (w:=w) (base:=base) K A
   have p0:=My.Aa (P:=My.PRG) (w:=w) (base:=base) f0 A
   have X:=My.Dt (P:=My.PRG) (w:=w) (base:=base) k4 A a1 p0
   have h5:=My.Ec (P:=My.PRG) (w:=w) (base:=base) j9 A
   have w8:=My.Gj (P:=My.PRG) (w:=w) (base:=base) m6 A p4 X c4 h5
   have Q:=My.vk (P:=My.PRG) (w:=w) (base:=base) R A
   have I:=My.oY (P:=My.PRG) (w:=w) (base:=base) B A Q
   have f6:=My.qx (P:=My.PRG) (w:=w) (base:=base) E A I Q
   have n0:=My.yi (P:=My.PRG) (w:=w) (base:=base) b9 A q3 o8 w8 f6
   have q0:=My.AZ (P:=My.PRG) (w:=w) (base:=base) g7 A
   have c7:=My.qk (P:=My.PRG) (w:=w) (base:=base) c6 A q0
   have b1:=My.FV (P:=My.PRG) (w:=w) (base:=base) n5 A
   have b5:=My.pF (P:=My.PRG) (w:=w) (base:=base) b8 A b1
   have f1:=My.qD (P:=My.PRG) (w:=w) (base:=base) c8 A
   have j8:=My.Gz (P:=My.PRG) (w:=w) (base:=base) n6 A X
   have f4:=My.qw (P:=My.PRG) (w:=w) (base:=base) f8 A j8
   have a8:=My.DW (P:=My.PRG) (w:=w) (base:=base) k1 A X
   have q2:=My.Az (P:=My.PRG) (w:=w) (base:=base) q1 A f4 a8 j8
   have s0:=My.Cf (P:=My.PRG) (w:=w) (base:=base) j0 A h5
   have o2:=My.Aj (P:=My.PRG) (w:=w) (base:=base) o4 A
   have a2:=My.tI (P:=My.PRG) (w:=w) (base:=base) J A b1
   have o9:=My.An (P:=My.PRG) (w:=w) (base:=base) g0 A
   have h4:=My.Fo (P:=My.PRG) (w:=w) (base:=base) k3 A j8
   have g8:=My.AE (P:=My.PRG) (w:=w) (base:=base) g6 A a2 b1 h4
   have q4:=My.FX (P:=My.PRG) (w:=w) (base:=base) m8 A X
   have h8:=My.EX (P:=My.PRG) (w:=w) (base:=base) k2 A X
   have m3:=My.yf (P:=My.PRG) (w:=w) (base:=base) a9 A g8 h4 q4 h8
   have a6:=My.uA (P:=My.PRG) (w:=w) (base:=base) O A a1
   have h2:=My.yg (P:=My.PRG) (w:=w) (base:=base) b6 A
   have g4:=My.wE (P:=My.PRG) (w:=w) (base:=base) a3 A g8 a6 h2 X
   have h7:=My.yb (P:=My.PRG) (w:=w) (base:=base) b7 A b1
   have j6:=My.Av (P:=My.PRG) (w:=w) (base:=base) f2 A g4 h7
   have q8:=My.Hl (P:=My.PRG) (w:=w) (base:=base) m4 A g8 a8 h4
   have k7:=My.wT (P:=My.PRG) (w:=w) (base:=base) a4 A g4 q8
   have f3:=My.wf (P:=My.PRG) (w:=w) (base:=base) Z A a8
   have n1:=My.yh (P:=My.PRG) (w:=w) (base:=base) b2 A k7 f3 h7
   have m7:=My.yj (P:=My.PRG) (w:=w) (base:=base) b0 A q8 f3 h8 b1 j6
   have k8:=My.Dc (P:=My.PRG) (w:=w) (base:=base) j2 A Q o9 m3 j6 n1 m7
   have f7:=My.qS (P:=My.PRG) (w:=w) (base:=base) D A a6 h2 X
   have j7:=My.vc (P:=My.PRG) (w:=w) (base:=base) U A a8
   have g3:=My.rC (P:=My.PRG) (w:=w) (base:=base) H A h4 f7 j7 h8
   have v7:=My.Hi (P:=My.PRG) (w:=w) (base:=base) n2 A I a2 k8 g3
   have h3:=My.sJ (P:=My.PRG) (w:=w) (base:=base) L A b1
   have h9:=My.tL (P:=My.PRG) (w:=w) (base:=base) M A q4 j8 a8 h8
   have s2:=My.CV (P:=My.PRG) (w:=w) (base:=base) i7 A v7 h3 b1 h9
   have C:=My.qu (P:=My.PRG) (w:=w) (base:=base) c5 A
   have a7:=My.uw (P:=My.PRG) (w:=w) (base:=base) j4 A
   have m2:=My.xW (P:=My.PRG) (w:=w) (base:=base) n3 A h5 s2 C a7
   have a5:=My.uz (P:=My.PRG) (w:=w) (base:=base) i1 A k8 C
   have k6:=My.xl (P:=My.PRG) (w:=w) (base:=base) k5 A a8 h5 a5 a7
   have r5:=My.BW (P:=My.PRG) (w:=w) (base:=base) i6 A
   have i8:=My.uy (P:=My.PRG) (w:=w) (base:=base) i4 A q2 s0 o2 m2 k6 a5 r5 C
   have a0:=My.zj (P:=My.PRG) (w:=w) (base:=base) o7 A n0 c7 b5 f1 i8
   have g2:=My.BX (P:=My.PRG) (w:=w) (base:=base) i0 A
   have r8:=My.Cr (P:=My.PRG) (w:=w) (base:=base) i2 A b3 a0 g2
   have m1:=My.CK (P:=My.PRG) (w:=w) (base:=base) i5 A
   have s7:=My.CO (P:=My.PRG) (w:=w) (base:=base) j1 A a0 m1 g2
   have s8:=My.Ck (P:=My.PRG) (w:=w) (base:=base) j3 A
   have p6:=My.Aq (P:=My.PRG) (w:=w) (base:=base) f5 A a0 m1 s7 g2 s8 b3
   have g_law:=My.JA (P:=My.PRG) (w:=w) (base:=base) k0 A p1 i3 s5 b3 h6 a0 r8 p6 g2
   exact g_law
