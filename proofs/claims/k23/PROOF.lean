import PyProof.Rows.All
import Wide.All
import OpenK.AllK
import Wide.FinOn
import Lean
import PyProof.EqAt
import PyProof.EqKinds
import PyProof.TupleCall
import PySem.Challenge.RW_bitlead_k23_papers_spoilt
local macro_rules|`(tactic|omega)=>`(tactic|first|lia|omega (config:={}))
set_option Elab.async false
set_option linter.all false
set_option maxRecDepth 100000
set_option hygiene false in
local macro_rules
 | `((41:))=>`(by walk_at "pv")
 | `((0:))=>`(by rfl)
 | `((2:))=>`(@zaa _ _ _ _ _)
 | `((3:))=>`(by decide)
 | `((1:))=>`(by omega)
 | `((33:))=>`(@zao _ _ _ _ _ _ _ (@k_ix _ K (0:)) (@pv1 _ 1 _ _ (41:)) (@zac _ _ _ _) (λ _ _=>rfl))
 | `((30:))=>`(λ _ _ F=>F.binds λ _ _ _ _ _ _ us hl=>match us,hl with | [_,_],_=>rfl)
 | `((31:))=>`(λ _ _ F=>F.binds λ _ _ _ _ _ _ us hl=>match us,hl with | [_],_=>rfl)
 | `((8:))=>`(@pv1 _ 0 _ _ (41:))
 | `((10:))=>`(@zai _ _ _ _ _ _ _ _ _ _)
 | `((5:))=>`(@zac _ _ _ _)
 | `((13:))=>`(@pv1 _ 1 _ _ (41:))
 | `((11:))=>`(@zat _ _ _ _ _ _ _ _)
 | `((53:))=>`(@zaj _ _ _ _ _ _ _ _ _ (@zbk _ K (0:)) rfl B.b_len boot_len ((2:) (8:) (@zab _) (0:)) (3:) (3:) (0:) (0:))
 | `((14:))=>`(by walk_at "vis")
 | `((7:))=>`(@zad _ _ _ _ _)
 | `((45:))=>`(@zao _ _ _ _ _ _ _ (@k_ix _ K (0:)) (8:) (5:) (λ _ _=>rfl))
 | `((54:))=>`(λ _ _ F=>F.binds λ _ _ _ _ _ _ us hl=>match us,hl with | [_,_,_],_=>rfl)
 | `((16:))=>`(@zar _ _ (3:) (3:))
 | `((61:))=>`(@zaj _ _ _ _ _ _ _ _ _ (@zbk _ K (0:)) rfl B.b_len boot_len ((2:) (13:) (@zab _) (0:)) (3:) (3:) (0:) (0:))
 | `((18:))=>`(@pv1 _ 2 _ _ (41:))
 | `((20:))=>`(@zan _ _ _ _ _ _ _ _)
 | `((17:))=>`(by intro _; rfl)
 | `((4:))=>`(@zab _)
 | `((21:))=>`(@pv1 _ 3 _ _ (41:))
 | `((23:))=>`(@zaI _ _ _ _ _ _ _ _)
 | `((72:))=>`(@zaj _ _ _ _ _ _ _ _ _ (@zdq _ K (0:)) rfl B.b_isinstance boot_isinstance ((2:) (13:) ((2:) (@za6 _ _ (.ty "tuple") _ _ rfl B.b_tuple boot_tuple rfl (3:) (3:)) (4:) (0:)) (0:)) (3:) (3:) (0:) (0:))
 | `((25:))=>`(@zao _ _ _ _ _ _ _)
 | `((12:))=>`(@zak _ _ _ _)
 | `((28:))=>`(@pv1 _ 4 _ _ (41:))
 | `((29:))=>`(@k_eq _ K hu (0:))
 | `((15:))=>`(Or.inl rfl)
 | `((19:))=>`(hr.mono (3:))
 | `((26:))=>`(λ _ _=>rfl)
 | `((27:))=>`(@k_ix _ K (0:))
 | `((6:))=>`(by simp)
 | `((35:))=>`(@zaj _ _ _ _ _ _ _ _ _)
 | `((9:))=>`(@zae _ _ _)
 | `((22:))=>`(@zaw _ _ _ _ _)
 | `((34:))=>`(by decide +kernel)
 | `((36:))=>`(@zay _ _ _ _ _ _ _ _ _)
 | `((37:))=>`(by simpa using hz)
 | `((32:))=>`(hr.mono (1:))
 | `((42:))=>`(@pv1 _ 5 _ _ (41:))
 | `((43:))=>`(@pv1 _ 6 _ _ (41:))
 | `((73:))=>`(@zcy _ _ _ _ _ _ _ _ _ _ (@k_sl _ K (0:)) (13:) (@zdz _ _ _ (5:)) (@zdA _))
 | `((69:))=>`(by intro z; have z':@Eq Nat _ _:=z; omega)
 | `((81:))=>`(@za2 _ _ _ _ (@zaO _ _ _ ((35:) (@zdq _ K (0:)) rfl B.b_isinstance boot_isinstance ((2:) (8:) ((2:) (@za6 _ _ (.ty "tuple") _ _ rfl B.b_tuple boot_tuple rfl (3:) (3:)) (4:) (0:)) (0:)) (3:) (3:) (0:) (0:)) (17:)))
 | `((38:))=>`(by simp; omega)
 | `((82:))=>`(@za2 _ _ _ _ (@zaO _ _ _ ((10:) g_is_within (19:) ((2:) (33:) ((2:) (5:) ((2:) ((10:) g_low (19:) ((2:) (8:) (4:) (0:)) (0:) (3:) (0:) (0:)) (4:) (0:)) (0:)) (0:)) (0:) (3:) (0:) (0:)) (17:)))
 | `((74:))=>`(@za6 _ _ (.ty "bool") _ _ rfl B.b_bool boot_bool rfl (3:) (3:))
 | `((39:))=>`(@zbS _ _ _ _)
 | `((75:))=>`(@za5 _ _ _ _ _ _ rfl B.b_range ((2:) (13:) (4:) (0:)) (0:))
 | `((44:))=>`(@zcu _ K (0:))
 | `((49:))=>`(by simpa using hq)
 | `((50:))=>`(@zdW _ _ _ _ _ _ _)
 | `((51:))=>`(@zch _ _ _ _ _ _ _)
 | `((55:))=>`(@pv1 _ 7 _ _ (41:))
 | `((56:))=>`(@zck _ _ _ _ _ _ _)
 | `((46:))=>`(@zdi _ K (0:))
 | `((40:))=>`(@za4 _ _ _ _)
 | `((24:))=>`(@zap _)
 | `((52:))=>`(@zcd _ _ _ _ _ _)
 | `((60:))=>`(@zbt _ _ _ _ _ _ _ _)
 | `((83:))=>`(@za2 _ _ _ _ (@zaO _ _ _ ((10:) g__law_is_mask (32:) ((2:) (21:) ((2:) (33:) (4:) (0:)) (0:)) (0:) (3:) (0:) (0:)) (17:)))
 | `((84:))=>`(@zaC _ _ 0 _ (show List.Nodup (["place","leading","crossing","half"]:List Str) by decide +kernel) rfl (15:) (14:))
 | `((71:))=>`(@zaC _ _ 4 _ nd rfl (15:) (14:))
 | `((78:))=>`(@za6 _ _ (.ty "int") _ _ rfl B.b_int boot_int rfl (3:) (3:))
 | `((62:))=>`(@zcj _ _ _ _ _ _ _ _)
 | `((79:))=>`(@zbw _ K _ _ _ ((25:) (27:) (33:) (5:) (26:)) (0:))
 | `((85:))=>`(@za2 _ _ _ _ (@zaO _ _ _ ((10:) g_is_even (19:) ((2:) (8:) (4:) (0:)) (0:) (3:) (0:) (0:)) (17:)))
 | `((47:))=>`(by cases z)
 | `((76:))=>`(@zb6 _ _ _ _ B.g_NOUGHT (0:) (3:))
 | `((86:))=>`(@zaV _ K _ _ _ _ _ _ rfl B.b_list B.b_range ((2:) (13:) (4:) (0:)) (0:) (0:) (0:) (0:) (0:))
 | `((80:))=>`(@zaO _ _ _ ((25:) (27:) (18:) (8:) (26:)) (17:))
 | `((68:))=>`(@k_ne _ K hu (0:))
 | `((58:))=>`(@zbh _ _ _ _ _)
 | `((70:))=>`(@zeX _ _ _ _ _ _ _ _)
 | `((57:))=>`(@za2 _ _ _ _)
 | `((63:))=>`(@zf2 _ K (0:))
 | `((64:))=>`(@zdq _ K (0:))
 | `((65:))=>`(@zdT _ K (0:))
 | `((77:))=>`(by with_unfolding_all rfl)
 | `((48:))=>`(@zaO _ _ _)
 | `((66:))=>`(@zdL _ _ _ _ _)
 | `((59:))=>`(@zcU _ _ _ _)
 | `((67:))=>`(@zdu _ _ _ _)
def yaa:=@List.length_map
def yab:=@List.getElem?_eq_getElem
def yac:=@List.getD_eq_getElem?_getD
def yad:=@Nat.le_refl
def yae:=@List.getElem?_map
def yaf:=@List.getElem?_eq_some_iff
def yag:=@PySem.Heap.get?_push_of_some
def yah:=@Nat.lt_of_lt_of_le
def yai:=@PySem.Heap.lt_size
def yaj:=@List.size_toArray
def yak:=@Bool.and_eq_true
def yal:=@Bool.false_eq_true
def yam:=@Int.toNat_natCast
def yan:=@List.append_assoc
def yao:=@PySem.Heap.get?_push_size
def yap:=@List.pairwise_append
def yaq:=@List.take_of_length_le
def yar:=@Bool.false_ne_true
def yas:=@List.length_range
def yat:=@List.mem_append_right
def yau:=@List.map_append
def yav:=@List.getElem?_range
def yaw:=@List.mem_range
def yax:=@Nat.le_trans
def yay:=@Nat.le_of_lt
def yaz:=@Int.natCast_nonneg
def yaA:=@PySem.W.mg_none_of
def yaB:=@Nat.ne_of_lt
def yaC:=@Array.toList_append
def yaD:=@List.mem_of_getElem?
def yaE:=@List.length_take
def yaF:=@List.length_append
def yaG:=@List.take_append_drop
def yaH:=@List.mem_cons
def yaI:=@Nat.pow_le_pow_right
def yaJ:=@List.pairwise_iff_getElem
def yaK:=@List.mem_append
def yaL:=@List.getElem?_append_right
def yaM:=@List.mem_cons_of_mem
def yaN:=@List.mem_cons_self
def yaO:=@PySem.W.kia_one
def yaP:=@List.lookup_cons
def yaQ:=@List.all_eq_true
def yaR:=@List.map_congr_left
def yaS:=@List.getElem?_eq_none
def yaT:=@List.take_add_one
def yaU:=@Nat.lt_irrefl
def yaV:=@PyProof.Rows.callWith_type1
def yaW:=@List.mem_map
def yaX:=@Nat.mod_eq_of_lt
def yaY:=@Nat.zero_le
def yaZ:=@PySem.mem_of_lookup
def ya0:=@List.replicate_succ
def ya1:=@List.getElem?_append_left
def ya2:=@List.append_nil
def ya3:=@Int.natAbs_natCast
def ya4:=@List.map_map
def ya5:=@List.mem_filter
def ya6:=@List.length_set
def ya7:=@Nat.min_eq_left
def ya8:=@PySem.PassesOwn.never
def ya9:=@PySem.F.slot_tuple_iterator_next
def yba:=@Nat.mod_lt
def ybb:=@List.filter_append
def ybc:=@List.extract_eq_take_drop
def ybd:=@PyProof.Rows.slot_tuple_getitem
def ybe:=@List.range_succ
def ybf:=@Nat.add_mod_right
def ybg:=@Nat.lt_or_ge
def ybh:=@Int.le_trans
def ybi:=@Nat.pow_succ
def ybj:=@List.map_cons
def ybk:=@Int.toNat_of_nonneg
def ybl:=@List.pairwise_lt_range
def ybm:=@List.length_filter_le
def ybn:=@List.Perm.append_left
def ybo:=@Int.le_of_lt
def ybp:=@Int.le_refl
def ybq:=@List.flatten_cons
def ybr:=@List.ext_getElem?
def ybs:=@List.mem_append_left
def ybt:=@Array.toList_extract
def ybu:=@Array.toList_reverse
def ybv:=@Bool.false_and
def ybw:=@List.getElem_mem
def ybx:=@List.not_mem_nil
def yby:=@List.length_cons
def ybz:=@Array.length_toList
def ybA:=@List.getElem_of_mem
def ybB:=@List.reverse_append
def ybC:=@PySem.F.args_tuple_add_2
def ybD:=@PySem.F.entry_tuple_add
def ybE:=@List.mem_singleton
def ybF:=@Nat.one_le_two_pow
def ybG:=@PySem.W.mg_of
def ybH:=@Nat.two_pow_pos
def ybI:=@PySem.F.plainAttrs_list
def ybJ:=@PySem.F.slot_tuple_add
def ybK:=@List.Perm.append_right
def ybL:=@List.drop_eq_nil_of_le
def ybM:=@Array.toList_push
def ybN:=@List.drop_drop
def ybO:=@Nat.ne_of_gt
def ybP:=@List.length_replicate
def ybQ:=@List.perm_append_comm
def ybR:=@List.map_set
def ybS:=@List.length_drop
def ybT:=@PySem.F.slot_tuple_mul
def ybU:=@List.getElem?_set_ne
def ybV:=@List.mem_iff_getElem
def ybW:=@Bool.not_true
def ybX:=@Bool.true_and
def ybY:=@List.filterMap_cons
def ybZ:=@List.nodup_cons
def yb0:=@List.foldl_cons
def yb1:=@PySem.F.slot_int_rmul
def yb2:=@Nat.mod_mod
def yb3:=@Nat.lt_trans
def yb4:=@List.getElem_idxOf
def yb5:=@List.getElem_range
def yb6:=@Nat.add_sub_cancel
def yb7:=@Nat.zero_add
def yb8:=@Nat.add_zero
def yb9:=@List.take_take
def yca:=@List.map_drop
namespace L2
open PySem PySem.Spec PyProof.Rows
noncomputable abbrev Key:=Sum Int Str
noncomputable def znn:Key -> Value -> Bool
 | .inl k,v=>Value.isInt k v
 | .inr x,v=>Value.isStrOf x v
noncomputable def keyH (w:World):Key -> Int
 | .inl k=>hashInt k
 | .inr x=>hashStr w x
def zaN:∀ {k:Key} {v:Value},znn k v=true -> (∃ i t,k=Sum.inl i /\ v=Value.int i t) \/ (∃ x t,k=Sum.inr x /\ v=Value.str x t)
 | .inl i,v,h=>by
  obtain ⟨t,e⟩:=Value.isInt_shape (k:=i) (v:=v) h;exact .inl ⟨i,t,rfl,e⟩
 | .inr x,v,h=>by
  obtain ⟨t,e⟩:=Value.isStrOf_shape (x:=x) (v:=v) h;exact .inr ⟨x,t,rfl,e⟩
def zmw (a b:Int):decide ((Sum.inl a:Key)=Sum.inl b)=(a == b):=by
 by_cases e:a=b
 ·subst e; simp
 ·have h:¬ (Sum.inl a:Key)=Sum.inl b:=λ q=>e (Sum.inl.inj q);rw [decide_eq_false h];exact (beq_eq_false_iff_ne.mpr e).symm
def zmG (a b:Str):decide ((Sum.inr a:Key)=Sum.inr b)=decide (a=b):=by
 by_cases e:a=b
 ·subst e; simp
 ·have h:¬ (Sum.inr a:Key)=Sum.inr b:=λ q=>e (Sum.inr.inj q);rw [decide_eq_false h,decide_eq_false e]
def zmI (a:Int) (b:Str):decide ((Sum.inl a:Key)=Sum.inr b)=false:=decide_eq_false (λ q=>nomatch q)
def zm0 (a:Str) (b:Int):decide ((Sum.inr a:Key)=Sum.inl b)=false:=decide_eq_false (λ q=>nomatch q)
noncomputable def zil (prog:Program) (w:World):PySem.KeyKind prog w Key where
 is:=znn
 hash:=keyH w
 inj:=λ v a b ha hb=>by
  rcases zaN ha with ⟨i,t,rfl,rfl⟩ | ⟨x,t,rfl,rfl⟩
  ·rcases zaN hb with ⟨j, u, rfl, e⟩ | ⟨y, u, rfl, e⟩
   ·injection e with e1 _; rw [e1]
   ·exact nomatch e
  ·rcases zaN hb with ⟨j, u, rfl, e⟩ | ⟨y, u, rfl, e⟩
   ·exact nomatch e
   ·injection e with e1 _; rw [e1]
 byValue:=λ k v h=>by
  rcases zaN h with ⟨i,t,rfl,rfl⟩ | ⟨x,t,rfl,rfl⟩ <;> rfl
 pyHash:=λ hv h=>by
  rcases zaN hv with ⟨i,t,rfl,rfl⟩ | ⟨x,t,rfl,rfl⟩
  ·exact wpAny_pyHash_int h
  ·exact wpAny_pyHash_str h
 eqBool:=λ hu hv h=>by
  rcases zaN hu with ⟨i,t,rfl,rfl⟩ | ⟨x,t,rfl,rfl⟩
  ·rcases zaN hv with ⟨j, u, rfl, rfl⟩ | ⟨y, u, rfl, rfl⟩
   ·rw [zmw] at h; exact wpAny_eqBool_int h
   ·rw [zmI] at h; exact SeqAt.EqAt.int_str i t y u _ _ _ _ h
  ·rcases zaN hv with ⟨j, u, rfl, rfl⟩ | ⟨y, u, rfl, rfl⟩
   ·rw [zm0] at h; exact SeqAt.EqAt.str_int x t j u _ _ _ _ h
   ·rw [zmG] at h; exact wpAny_eqBool_str h
 «strs»:=λ k x t v h=>by
  rcases zaN h with ⟨i,u,rfl,e⟩ | ⟨y,u,rfl,e⟩
  ·exact nomatch e
  ·injection e with e1 _;subst e1;cases v <;> rfl
inductive V where
 | non | bl (b:Bool) | int (i:Int) | str (x:Str) | byt (b:Array UInt8) | flt (b:UInt64) | ref (a:Addr) | ty (n:String)
 deriving DecidableEq
noncomputable def RelV:V -> Value -> Prop
 | .non,u=>u=Value.none
 | .bl b,u=>u=Value.bool b
 | .int i,u=>∃ t,u=Value.int i t
 | .str x,u=>∃ t,u=Value.str x t
 | .byt b,u=>∃ t,u=Value.bytes b t
 | .flt b,u=>∃ t,u=Value.float b t
 | .ref a,u=>u=Value.ref a
 | .ty n,u=>u=Value.type n
noncomputable abbrev Vals:List V -> List Value -> Prop:=Paired RelV
def Vals.length {xs:List V} {us:List Value} (r:Vals xs us):xs.length=us.length:=Paired.length r
def Vals.get:∀ {xs:List V} {us:List Value} {i:Nat} {x:V},Vals xs us -> xs[i]?=some x -> ∃ u,us[i]?=some u /\ RelV x u
 | _,_,_,_,.nil,e=>by simp at e
 | _,_,0,_,.cons r _,e=>by simp at e; subst e; exact ⟨_,rfl,r⟩
 | _,_,i + 1,x,.cons _ t,e=>by
  obtain ⟨u,h1,h2⟩:=Vals.get (i:=i) (x:=x) t (by simpa using e);exact ⟨u,by simpa using h1,h2⟩
def Vals.set {x:V} {u:Value} (r:RelV x u):∀ {xs:List V} {us:List Value} (i:Nat),Vals xs us -> Vals (xs.set i x) (us.set i u)
 | _,_,_,.nil=>.nil
 | _,_,0,.cons _ t=>.cons r t
 | _,_,i + 1,.cons q t=>.cons q (Vals.set r i t)
def Vals.append:∀ {xs ys:List V} {us ws:List Value},Vals xs us -> Vals ys ws -> Vals (xs ++ ys) (us ++ ws)
 | _,_,_,_,.nil,s=>s
 | _,_,_,_,.cons r t,s=>.cons r (Vals.append t s)
def Vals.take:∀ {xs:List V} {us:List Value} (n:Nat),Vals xs us -> Vals (xs.take n) (us.take n)
 | _,_,0,_=>.nil
 | _,_,_ + 1,.nil=>.nil
 | _,_,n + 1,.cons r t=>.cons r (Vals.take n t)
def Vals.drop:∀ {xs:List V} {us:List Value} (n:Nat),Vals xs us -> Vals (xs.drop n) (us.drop n)
 | _,_,0,r=>r
 | _,_,_ + 1,.nil=>.nil
 | _,_,n + 1,.cons _ t=>Vals.drop n t
noncomputable def RelO:Option V -> Option Value -> Prop
 | some v,some u=>RelV v u
 | none,none=>True
 | _,_=>False
noncomputable def KV {κ:Type}:List (κ × V) -> List (κ × Value) -> Prop:=Paired λ (p:κ × V) (q:κ × Value)=>p.1=q.1 /\ RelV p.2 q.2
noncomputable def kV:Key -> V
 | .inl i=>.int i
 | .inr x=>.str x
inductive HO where
 /-- a list -/
 | lst (xs:List V)
 /-- a tuple (never changes) -/
 | tup (xs:List V)
 /-- a dict whose keys are ints and texts; one whose keys are tuples of ints and texts (the empty one is both) -/
 | dK (kvs:List (Key × V)) | dT (kvs:List (List Key × V))
 /-- a set of ints: its members,its size -/
 | set (S:Int -> Bool) (n:Nat)
 /-- an instance of the class at C,its dict at dx,its attributes -/
 | ins (C dx:Addr) (fs:List (Str × V))
 /-- the dict of the instance at x -/
 | own (x:Addr)
 /-- the dict of an exception -/
 | xd (fs:List (Str × V))
 /-- a bound method,f of x -/
 | met (f x:Addr)
 /-- a range object lo,lo + 1,.. below hi -/
 | rng (lo hi:Int)
 /-- a thing that is known to the object (the script; a dict while a loop walks it): read,never written while it is so -/
 | frz (o:Obj) (u:HO)
 /-- a code object's table -/
 | tbl (ps:Array Value)
 /-- any other thing,by what is true of its one object (a def of one's own: SetO a S n:=HO.ext λ h=>..) -/
 | ext (φ:Heap -> Prop)
noncomputable abbrev Hp:=Addr -> Option HO
noncomputable def upd (H:Hp) (a:Addr) (o:HO):Hp:=λ b=>if b=a then some o else H b
def zaf {H:Hp} {a:Addr} {o:HO}:upd H a o a=some o:=by unfold upd; rw [if_pos rfl]
def zas {H:Hp} {a b:Addr} {o:HO} (h:b ≠ a):upd H a o b=H b:=by unfold upd; rw [if_neg h]
def zir {H:Hp} {a:Addr} {o u:HO}:upd (upd H a o) a u=upd H a u:=by
 funext b; unfold upd; split <;> rfl
def zmY {H:Hp} {a b:Addr} {o u:HO} (h:H a=some o) (h':H b=some u) (d:o ≠ u):a ≠ b:=by
 intro e; subst e; rw [h] at h'; exact d (Option.some.inj h')
def zaq {H:Hp} {a b:Addr} {o:HO} (h:H a=some o) (h':H b=none):a ≠ b:=by
 intro e; subst e; rw [h] at h'; cases h'
noncomputable def zbr (h:Heap) (a:Addr) (items:Array Value):Prop:=∃ o,h.get? a=some o /\ o.cls=.type "tuple" /\ o.dict=none /\ ∃ n,o.data=.seq items n
def zbr.tup {h:Heap} {a:Addr} {items:Array Value} (x:zbr h a items):IsTup h a items:=by
 obtain ⟨o,e,c,_,n⟩:=x;exact ⟨o,e,c,n⟩
def zbr.lt {h:Heap} {a:Addr} {items:Array Value} (x:zbr h a items):a < h.objs.size:=x.tup.lt
def zbr.new (h:Heap) (items:Array Value):zbr (h.push { cls:=.type "tuple",data:=.seq items }) h.objs.size items:=⟨_,yao _ rfl,rfl,rfl,_,rfl⟩
section
variable (P:Program) (w:World)
noncomputable def zb1 (H:Hp) (h:Heap) (a:Addr):HO -> Prop
  | .lst xs=>xs.length <= sizeLine /\ ∃ (its:List Value) (n:Nat),Vals xs its /\ h.get? a=some { cls:=.type "list",data:=.seq its.toArray n }
  | .tup xs=>xs.length <= sizeLine /\ ∃ its:List Value,Vals xs its /\ zbr h a its.toArray
  | .dK kvs=>kvs.length <= sizeLine /\ (a == sysModules)=false /\ ∃ vs,KV kvs vs /\ h.DictOf (zil P w) a vs
  | .dT kvs=>kvs.length <= sizeLine /\ (a == sysModules)=false /\ ∃ xs:List (List Key × Addr × Value),
      Paired (λ (p:List Key × V) (q:List Key × Addr × Value)=>p.1=q.1 /\ H q.2.1=some (.tup (p.1.map kV)) /\ RelV p.2 q.2.2) kvs xs /\
      ∃ o es ep,h.get? a=some o /\ o.ExactDict /\ o.data=.dict es ep /\ es.toList=xs.map (entryOfKey (tupleKind (zil P w))) /\ (xs.map (·.1)).Nodup
  | .set S n=>h.SetOf (intKind P w) a S n
  | .ins C dx fs=>H dx=some (.own a) /\ fs.length <= 1000 /\ dx ≠ a /\ h.get? a=some (PySem.W.instObj C dx) /\
      ∃ mA,h.Ns1 dx mA /\ (∀ f,RelO (fs.lookup f) (mA f)) /\ PySem.Within mA (fs.map (·.1))
  | .own _=>∃ o,h.get? a=some o
  | .xd fs=>∃ mA,h.Ns1 a mA /\ ∀ f,RelO (fs.lookup f) (mA f)
  | .rng lo hi=>∃ t u v,h.get? a=some { cls:=.type "range",data:=.fields #[.int lo t,.int hi u,.int 1 v] }
  | .frz o u=>h.get? a=some o /\ zb1 H h a u
  | .tbl ps=>h.get? a=some { cls:=.none,data:=.fields ps }
  | .met f x=>h.get? a=some (PySem.W.methodObj (.ref f) (.ref x))
  | .ext φ=>φ h /\ (∃ o,h.get? a=some o) /\ ∀ h1 h2:Heap,φ h1 -> (∀ o,h1.get? a=some o -> h2.get? a=some o) -> φ h2
noncomputable def HOk (H:Hp) (h:Heap):Prop:=∀ a o,H a=some o -> zb1 P w H h a o
end
section
variable {P:Program} {w:World} {H H':Hp} {h h':Heap} {a:Addr} {o:HO}
def zb1.lt (x:zb1 P w H h a o):a < h.objs.size:=by
 cases o with
 | lst xs=>obtain ⟨_,_,_,_,e⟩:=x; exact yai e
 | tup xs=>obtain ⟨_,_,_,p⟩:=x; exact p.lt
 | dK kvs=>obtain ⟨_,_,_,_,o,_,_,e,_⟩:=x; exact yai e
 | dT kvs=>obtain ⟨_,_,_,_,o,_,_,e,_⟩:=x; exact yai e
 | set S n=>obtain ⟨o,_,_,_,e,_⟩:=x; exact yai e
 | ins C dx fs=>obtain ⟨_,_,_,e,_⟩:=x; exact yai e
 | own y=>obtain ⟨_,e⟩:=x; exact yai e
 | xd fs=>obtain ⟨_,⟨_,_,_,e,_⟩,_⟩:=x; exact yai e
 | rng lo hi=>obtain ⟨_,_,_,e⟩:=x; exact yai e
 | frz ob u=>obtain ⟨e,_⟩:=x; exact yai e
 | tbl ps=>exact yai (show h.get? a=some _ from x)
 | met f y=>exact yai (show h.get? a=some _ from x)
 | ext φ=>obtain ⟨_,⟨_,e⟩,_⟩:=x; exact yai e
def Paired.mapP {α β:Type} {F G:α -> β -> Prop}:∀ {l₁:List α} {l₂:List β},Paired F l₁ l₂ -> (∀ a b,F a b -> G a b) -> Paired G l₁ l₂
 | _,_,.nil,_=>.nil
 | _,_,.cons r t,f=>.cons (f _ _ r) (Paired.mapP t f)
def zb1.stay (x:zb1 P w H h a o) (k:∀ b u,(b=a \/ H b=some (.own a)) -> h.get? b=some u -> h'.get? b=some u)
  (ho:∀ b,H b=some (.own a) -> H' b=some (.own a)) (ht:∀ b xs,H b=some (.tup xs) -> H' b=some (.tup xs)):zb1 P w H' h' a o:=by
 induction o with
 | lst xs=>obtain ⟨z,its,n,r,e⟩:=x; exact ⟨z,its,n,r,k _ _ (.inl rfl) e⟩
 | tup xs=>obtain ⟨z,its,r,ob,e,c⟩:=x; exact ⟨z,its,r,ob,k _ _ (.inl rfl) e,c⟩
 | dK kvs=>obtain ⟨z,y,vs,r,ob,es,ep,e,c⟩:=x; exact ⟨z,y,vs,r,ob,es,ep,k _ _ (.inl rfl) e,c⟩
 | dT kvs=>
  obtain ⟨z,y,xs,r,ob,es,ep,e,c⟩:=x;exact ⟨z,y,xs,Paired.mapP r λ p q z=>⟨z.1,ht _ _ z.2.1,z.2.2⟩,ob,es,ep,k _ _ (.inl rfl) e,c⟩
 | set S n=>obtain ⟨ob,es,ep,t,e,c⟩:=x; exact ⟨ob,es,ep,t,k _ _ (.inl rfl) e,c⟩
 | ins C dx fs=>
  obtain ⟨d,z,ne,e,mA,⟨od,es,ep,e2,c⟩,r⟩:=x;exact ⟨ho _ d,z,ne,k _ _ (.inl rfl) e,mA,⟨od,es,ep,k _ _ (.inr d) e2,c⟩,r⟩
 | own y=>obtain ⟨ob,e⟩:=x; exact ⟨ob,k _ _ (.inl rfl) e⟩
 | xd fs=>obtain ⟨mA,⟨od,es,ep,e,c⟩,r⟩:=x; exact ⟨mA,⟨od,es,ep,k _ _ (.inl rfl) e,c⟩,r⟩
 | rng lo hi=>obtain ⟨t,u,v,e⟩:=x; exact ⟨t,u,v,k _ _ (.inl rfl) e⟩
 | frz ob u ih=>obtain ⟨e,q⟩:=x; exact ⟨k _ _ (.inl rfl) e,ih q⟩
 | tbl ps=>
  have e:h.get? a=some { cls:=.none,data:=.fields ps }:=x;show h'.get? a=some { cls:=.none,data:=.fields ps };exact k a _ (.inl rfl) e
 | met f y=>
  have e:h.get? a=some (PySem.W.methodObj (.ref f) (.ref y)):=x;show h'.get? a=some (PySem.W.methodObj (.ref f) (.ref y));exact k a _ (.inl rfl) e
 | ext φ=>obtain ⟨p,⟨o,e⟩,st⟩:=x; exact ⟨st _ _ p λ o q=>k _ _ (.inl rfl) q,⟨o,k _ _ (.inl rfl) e⟩,st⟩
def HOk.lt (x:HOk P w H h) (e:H a=some o):a < h.objs.size:=(x a o e).lt
def HOk.fresh (x:HOk P w H h) (e:h.objs.size <= a):H a=none:=by
 cases q:H a with
 | none=>rfl
 | some u=>exact absurd (yah (x.lt q) e) (yaU _)
def HOk.kept (x:HOk P w H h) (k:∀ b u,h.get? b=some u -> h'.get? b=some u):HOk P w H h':=λ a o e=>
 (x a o e).stay (λ b u _ q=>k b u q) (λ _ q=>q) λ _ _ q=>q
def HOk.laid (x:HOk P w H h) (k:∀ b u,h.get? b=some u -> h'.get? b=some u) (hp:h.objs.size <= a) (new:zb1 P w (upd H a o) h' a o):HOk P w (upd H a o) h':=λ b u e=>by
 have hn:=x.fresh hp;by_cases hb:b=a
 ·subst hb; rw [zaf] at e; cases e; exact new
 ·rw [zas hb] at e;exact (x b u e).stay (λ c v _ q=>k c v q) (λ c q=>by rw [zas (zaq q hn)]; exact q) λ c xs q=>by rw [zas (zaq q hn)]; exact q
end
noncomputable def Rd (H:Hp) (a:Addr) (u:HO):Prop:=H a=some u \/ ∃ o,H a=some (.frz o u)
def Rd.ok {P:Program} {w:World} {H:Hp} {h:Heap} {a:Addr} {u:HO} (r:Rd H a u) (x:HOk P w H h):zb1 P w H h a u:=by
 rcases r with r | ⟨o,r⟩
 ·exact x a u r
 ·obtain ⟨_,q⟩:=x a _ r;exact q
noncomputable def Mut:Option HO -> Prop
 | some (.lst _)=>True
 | some (.dK _)=>True
 | some (.dT _)=>True
 | some (.set _ _)=>True
 | some (.ins _ _ _)=>True
 | some (.ext _)=>True
 | _=>False
section
variable {P:Program} {w:World} {H:Hp} {h h':Heap} {x e:Addr} {o':HO}
def HOk.write (ok:HOk P w H h) (mu:Mut (H x)) (he:e=x \/ H e=some (.own x)) (k:∀ b u,b ≠ e -> h.get? b=some u -> h'.get? b=some u) (heo:∃ u,h'.get? e=some u)
  (new:zb1 P w (upd H x o') h' x o'):HOk P w (upd H x o') h':=λ b u q=>by
 have nown:∀ c y,H c=some (.own y) -> c ≠ x:=λ c y r z=>by subst z; rw [r] at mu; exact mu
 have ntup:∀ c xs,H c=some (.tup xs) -> c ≠ x:=λ c xs r z=>by subst z; rw [r] at mu; exact mu
 by_cases hb:b=x
 ·subst hb; rw [zaf] at q; cases q; exact new
 ·rw [zas hb] at q;by_cases hbe : b = e
  ·have q':H b=some (.own x):=by
    rcases he with z | z
    ·exact absurd (hbe.trans z) hb
    ·rw [hbe]; exact z
   rw [q] at q'; cases q';obtain ⟨v,hv⟩:=heo;exact ⟨v,by rw [hbe]; exact hv⟩
  ·refine (ok b u q).stay (fun c v hc r => k c v ?_ r) (fun c r => by rw [zas (nown c b r)]; exact r) fun c xs r => by rw [zas (ntup c xs r)]; exact r
   rcases hc with rfl | hc
   ·exact hbe
   ·rintro rfl;rcases he with z | z
    ·exact nown c b hc z
    ·rw [hc] at z; cases z; exact hb rfl
end
structure Un (fs ex:List Addr) (H H':Hp) (h h':Heap):Prop where
 keep:∀ b o,h.get? b=some o -> H b=none -> b ∉ fs -> b ∉ ex -> h'.get? b=some o
 slot:∀ b o,h.get? b=some o -> H b=none -> b ∈ fs -> b ∉ ex -> ∃ sl,h'.get? b=some { o with slots:=sl }
 free:∀ b o,h.get? b=some o -> H b=none -> b ∉ ex -> H' b=none
 there:∀ b o,h.get? b=some o -> b ∉ ex -> ∃ o',h'.get? b=some o'
 tups:∀ b xs,H b=some (.tup xs) -> H' b=some (.tup xs)
 frzs:∀ b o u,H b=some (.frz o u) -> H' b=some (.frz o u)
 tbls:∀ b ps,H b=some (.tbl ps) -> ∃ more,H' b=some (.tbl (ps ++ more))
section
variable {fs fs' ex ex':List Addr} {H H1 H2:Hp} {h h1 h2 h':Heap} {a x e:Addr} {o:HO}
def Un.any (u:Un fs ex H H1 h h1) {b:Addr} {ob:Obj} (q:h.get? b=some ob) (n:H b=none) (hx:b ∉ ex):∃ sl,h1.get? b=some { ob with slots:=sl }:=by
 by_cases hb:b ∈ fs
 ·exact u.slot b ob q n hb hx
 ·exact ⟨ob.slots,u.keep b ob q n hb hx⟩
def Un.kept (k:∀ b u,h.get? b=some u -> h'.get? b=some u):Un fs ex H H h h':=
 ⟨λ b ob q _ _ _=>k b ob q,λ b ob q _ _ _=>⟨ob.slots,k b ob q⟩,λ _ _ _ n _=>n,λ b ob q _=>⟨ob,k b ob q⟩,λ _ _ q=>q,λ _ _ _ q=>q,λ _ ps q=>⟨#[],by rw [q]; simp⟩⟩
def Un.refl:Un fs ex H H h h:=Un.kept λ _ _ q=>q
def Un.laid (k:∀ b u,h.get? b=some u -> h'.get? b=some u) (hp:h.objs.size <= a) (hn:H a=none):Un fs ex H (upd H a o) h h' where
 keep:=λ b u q _ _ _=>k b u q
 slot:=λ b u q _ _ _=>⟨u.slots,k b u q⟩
 free:=λ b u q n _=>by rw [zas (yaB (yah (yai q) hp))]; exact n
 there:=λ b u q _=>⟨u,k b u q⟩
 tups:=λ b xs q=>by rw [zas (zaq q hn)]; exact q
 frzs:=λ b u xs q=>by rw [zas (zaq q hn)]; exact q
 tbls:=λ b ps q=>⟨#[],by rw [zas (zaq q hn),q]; simp⟩
def Un.write (mu:Mut (H x)) (he:e=x \/ H e=some (.own x)) (k:∀ b u,b ≠ e -> h.get? b=some u -> h'.get? b=some u) (heo:∃ u,h'.get? e=some u):Un fs ex H (upd H x o) h h':=by
 have hx:∀ b,H b=none -> b ≠ x:=λ b n z=>by subst z; rw [n] at mu; exact mu
 have hb:∀ b,H b=none -> b ≠ e:=λ b n z=>by
  subst z;rcases he with r | r
  ·exact hx b n r
  ·rw [n] at r; cases r
 have hm:∀ b u,H b=some u -> ¬ Mut (some u) -> b ≠ x:=λ b u q nm z=>by subst z; rw [q] at mu; exact nm mu
 refine ⟨λ b u q n _ _=>k b u (hb b n) q,λ b u q n _ _=>⟨u.slots,k b u (hb b n) q⟩,λ b u q n _=>by rw [zas (hx b n)]; exact n,λ b u q _=>?_,
  λ b xs q=>by rw [zas (hm b _ q λ z=>z)]; exact q,λ b u xs q=>by rw [zas (hm b _ q λ z=>z)]; exact q,λ b ps q=>⟨#[],by rw [zas (hm b _ q λ z=>z),q]; simp⟩⟩
 by_cases hbe:b=e
 ·subst hbe; exact heo
 ·exact ⟨u,k b u hbe q⟩
end
noncomputable def trk (h:Heap) (H:Hp):List Addr:=(List.range h.objs.size).filter λ a=>(H a).isSome
noncomputable def hidT (h:Heap) (H:Hp):Heap:=PySem.W.hideAll h (trk h H)
def ziE (h:Heap) (H:Hp):(hidT h H).objs.size=h.objs.size:=PySem.W.hideAll_size _ _
def zkm {h:Heap} {H:Hp} {b:Addr} {o:Obj} (e:h.get? b=some o) (n:H b=none):(hidT h H).get? b=some o:=
 PySem.W.hideAll_get _ e λ hm=>by
  have q:(H b).isSome=true:=(ya5.mp hm).2;rw [n] at q; simp at q
def zlq {h:Heap} {H:Hp} {b:Addr} {o:Obj} (e:(hidT h H).get? b=some o):h.get? b=some o /\ H b=none:=by
 have e':h.get? b=some o:=PySem.W.of_hideAll (trk h H) e;refine ⟨e',?_⟩;cases q:H b with
 | none=>rfl
 | some x=>
  have hm:b ∈ trk h H:=ya5.mpr ⟨yaw.mpr (yai e'),by simp [q]⟩;have z:(hidT h H).get? b=none:=PySem.W.hideAll_none (trk h H) hm;rw [z] at e; cases e
noncomputable def zlC (g h:Heap) (L:Addr):List (Addr × Obj):=(List.range h.objs.size).filterMap λ a=>if a=L \/ (g.get? a).isSome=true then none else (h.get? a).map λ o=>(a,o)
noncomputable def rest (g h:Heap) (L d:Addr):List (Addr × Obj):=(zlC g h L).filter λ p=>decide (p.1 ≠ d)
structure Mod (K:PySem.W.Frag) (mg:Str -> Option Value) (base:Heap):Prop where
 kin:K.In base
 glob:base.Ns mainGlobals mg
 blt:∃ mb,base.Ns builtinsNs mb /\ ∀ x:Str,x ≠ "__name__" -> mb x=bootBuiltins x
 nolimit:base.NoLimit
structure Cx where
 prog:Program
 w:World
 K:PySem.W.Frag
 mg:Str -> Option Value
 base:Heap
 A:Around
 N:List Str
 s₀:Shared
 H₀:Hp
 env:Env
 outer:List Env
 stack:List Env
 ex:List Addr
 fn:Str -> Bool
 calm:Bool
 pn:List (Addr × Obj)
 xe:Value -> Shared -> Prop
noncomputable def frs (l:List Env):List Addr:=l.filterMap (·.frame)
noncomputable abbrev Cx.fs (X:Cx):List Addr:=frs X.outer
noncomputable def Vis (sc:Scope) (x:Str):Prop:=sc.names.lookup x=some .local \/ sc.names.lookup x=some .cell \/ sc.names.lookup x=some .free
noncomputable def Loc (sc:Scope) (x:Str):Prop:=sc.names.lookup x=some .local \/ sc.names.lookup x=some .cell
noncomputable def Look (env:Env) (h:Heap) (m:Str -> Option Value) (x:Str) (u:Value):Prop:=
 (env.kindOf x=some .local /\ m x=some u) \/ ((env.kindOf x=some .cell \/ env.kindOf x=some .free) /\ ∃ c,env.cells.lookup x=some c /\ h.IsCell c (some u))
structure Cx.Ok (X:Cx):Prop where
 mod:Mod X.K X.mg X.base
 kind:X.env.scope.kind=.function
 glob:X.env.globals=mainGlobals
 blt:X.env.builtins=builtinsNs
 above:X.s₀.heap.objs.size <= X.env.locals
 inj:∀ x y c,X.env.cells.lookup x=some c -> X.env.cells.lookup y=some c -> x=y
 has:∀ x,(X.env.kindOf x=some .cell \/ X.env.kindOf x=some .free) -> ∃ c,X.env.cells.lookup x=some c
 cab:∀ x c,X.fn x=true -> X.env.cells.lookup x=some c -> X.s₀.heap.objs.size <= c
 hd:X.calm=true -> X.A.handled=none
 frames:X.A.frames=some X.stack
 stk:X.stack=X.outer \/ (X.stack=X.env :: X.outer /\ X.env.frame=some X.env.locals)
 exf:∀ b ∈ X.ex,b ≠ X.env.locals /\ ∀ x c,X.env.cells.lookup x=some c -> c ≠ b
 bs:∀ b o,X.base.get? b=some o -> X.s₀.heap.get? b=some o /\ X.H₀ b=none
 bsz:X.base.objs.size <= X.s₀.heap.objs.size
 noex:∀ b o,X.base.get? b=some o -> b ∉ X.ex
 exfs:∀ b ∈ X.ex,b ∉ X.fs
 funs:X.s₀.heap.FunFrames X.base X.outer
 frf:∀ b ∈ X.fs,X.H₀ b=none
structure Inv (X:Cx) (pins:List (Addr × Obj)) (σ:List (Option V)) (H:Hp) (s:Shared):Prop where
 ok:X.Ok
 os:s.os=X.s₀.os
 bare:AllBare s.gens
 base:Un X.fs X.ex X.H₀ H X.s₀.heap s.heap
 loc:∃ m,s.heap.Ns X.env.locals m /\ ∀ (i:Nat) (x:Str) (v:V),X.N[i]?=some x -> σ[i]?=some (some v) -> Vis X.env.scope x -> ∃ u,RelV v u /\ Look X.env s.heap m x u
 cell:∀ x c,X.env.cells.lookup x=some c -> ∃ v,s.heap.IsCell c v
 free:H X.env.locals=none
 freeC:∀ x c,X.env.cells.lookup x=some c -> H c=none
 pin:∀ p ∈ X.pn ++ pins,s.heap.get? p.1=some p.2 /\ H p.1=none /\ p.1 ≠ X.env.locals /\ p.1 ∉ X.fs /\ ∀ v,p.2.data ≠ .cell v
 hok:HOk X.prog X.w H s.heap
 len:σ.length=X.N.length
section
variable {X:Cx} {pins:List (Addr × Obj)} {σ:List (Option V)} {H H':Hp} {s:Shared} {h':Heap}
def Cx.Ok.nofr (ok:X.Ok) {b:Addr} {o:Obj} (e:X.base.get? b=some o):b ∉ X.fs:=λ hb=>by
 have:=(ok.funs.mem hb).1;rw [e] at this; cases this
def Inv.bs (I:Inv X pins σ H s):∀ b o,X.base.get? b=some o -> s.heap.get? b=some o /\ H b=none:=λ b o e=>
 ⟨I.base.keep b o (I.ok.bs b o e).1 (I.ok.bs b o e).2 (I.ok.nofr e) (I.ok.noex b o e),I.base.free b o (I.ok.bs b o e).1 (I.ok.bs b o e).2 (I.ok.noex b o e)⟩
def Inv.bk (I:Inv X pins σ H s):∀ b o,X.base.get? b=some o -> s.heap.get? b=some o:=λ b o e=>(I.bs b o e).1
def Inv.mod (I:Inv X pins σ H s):Mod X.K X.mg X.base:=I.ok.mod
def Inv.kIn (I:Inv X pins σ H s):X.K.In s.heap:=I.ok.mod.kin.keeps I.bk
def Inv.lt (I:Inv X pins σ H s):X.env.locals < s.heap.objs.size:=let ⟨_,hn,_⟩:=I.loc; hn.lt
def Inv.sz (I:Inv X pins σ H s):X.s₀.heap.objs.size <= s.heap.objs.size:=yax I.ok.above (yay I.lt)
def Inv.nofs (I:Inv X pins σ H s) {a:Addr} (h:s.heap.objs.size <= a):a ∉ X.fs:=λ hb=>by
 obtain ⟨_,o,ho,_⟩:=I.ok.funs.mem hb;exact absurd (yah (yai ho) (yax I.sz h)) (yaU _)
def Inv.cne (I:Inv X pins σ H s):∀ x c,X.env.cells.lookup x=some c -> c ≠ X.env.locals:=λ x c e z=>by
 obtain ⟨v,o,ho,hd⟩:=I.cell x c e;obtain ⟨m,⟨o',es,ep,ho',hd',_⟩,_⟩:=I.loc;rw [z,ho'] at ho; cases ho; rw [hd'] at hd; cases hd
def Inv.funs (I:Inv X pins σ H s):s.heap.FunFrames X.base X.outer:=by
 have all:∀ (l:List Env),(∀ b ∈ frs l,b ∈ X.fs) -> X.s₀.heap.FunFrames X.base l -> s.heap.FunFrames X.base l:=by
  intro l
  induction l with
  | nil=>intro _ _; trivial
  | cons env r ih=>
   intro hs hl;obtain ⟨hk,⟨L,o,hf,hn,ho,hd⟩,hr⟩:=hl;have hL:L ∈ X.fs:=hs L (by unfold frs; rw [ybY,hf]; exact yaN);obtain ⟨sl,e⟩:=I.base.slot L o ho (I.ok.frf L hL) hL λ z=>I.ok.exfs L z hL;exact ⟨hk,⟨L,_,hf,hn,e,hd⟩,ih (λ b hb=>hs b (by unfold frs; rw [ybY,hf]; exact yaM _ hb)) hr⟩
 exact all X.outer (λ _ hb=>hb) I.ok.funs
def Inv.stack (I:Inv X pins σ H s):s.heap.FunFrames X.base X.stack:=by
 rcases I.ok.stk with e | ⟨e,hf⟩
 ·rw [e]; exact I.funs
 ·rw [e];obtain ⟨m,hn,_⟩:=I.loc;refine .cons (by rw [I.ok.kind]; decide) hf hn ?_ I.funs;exact Heap.get?_none_of_le (yax I.ok.bsz I.ok.above)
def Inv.stkSub (I:Inv X pins σ H s):∀ b ∈ frs X.stack,b ∈ X.env.locals :: X.fs:=λ b hb=>by
 rcases I.ok.stk with e | ⟨e,hf⟩
 ·rw [e] at hb; exact yaM _ hb
 ·rw [e] at hb;unfold frs at hb;rw [ybY,hf] at hb;exact hb
def Inv.stkFree (I:Inv X pins σ H s):∀ b ∈ frs X.stack,H b=none:=λ b hb=>by
 rcases yaH.mp (I.stkSub b hb) with e | hb
 ·rw [e]; exact I.free
 ·obtain ⟨_,o,ho,_⟩:=I.ok.funs.mem hb;exact I.base.free b o ho (I.ok.frf b hb) λ z=>I.ok.exfs b z hb
def Inv.step {g':Array GenState} {t':Nat} {d':Drawn} {ch:List Addr} (I:Inv X pins σ H s)
  (hch:∀ b ∈ ch,(b ∈ X.ex \/ X.s₀.heap.objs.size <= b) /\ b ≠ X.env.locals /\ (∀ x c,X.env.cells.lookup x=some c -> c ≠ b) /\ ∀ p ∈ X.pn ++ pins,p.1 ≠ b)
  (keep:∀ b o,b ≠ X.env.locals -> b ∉ X.fs -> b ∉ ch -> s.heap.get? b=some o -> H b=none -> h'.get? b=some o)
  (slot:∀ b o,b ≠ X.env.locals -> b ∈ X.fs -> b ∉ ch -> s.heap.get? b=some o -> H b=none -> ∃ sl,h'.get? b=some { o with slots:=sl }) (free:∀ b o,b ∉ ch -> s.heap.get? b=some o -> H b=none -> H' b=none)
  (there:∀ b o,b ∉ ch -> s.heap.get? b=some o -> ∃ o',h'.get? b=some o')
  (tups:∀ b xs,H b=some (.tup xs) -> H' b=some (.tup xs)) (frzs:∀ b o u,H b=some (.frz o u) -> H' b=some (.frz o u)) (tbls:∀ b ps,H b=some (.tbl ps) -> ∃ more,H' b=some (.tbl (ps ++ more)))
  (ns:∀ m,s.heap.Ns X.env.locals m -> h'.Ns X.env.locals m) (hok:HOk X.prog X.w H' h') (hg:AllBare g') :
  Inv X pins σ H' { s with heap:=h',gens:=g',drawn:=d',toks:=t' }:=by
 have neL:∀ b o,X.s₀.heap.get? b=some o -> b ≠ X.env.locals:=λ b o e=>yaB (yah (yai e) I.ok.above)
 have neC:∀ b o,X.s₀.heap.get? b=some o -> b ∉ X.ex -> b ∉ ch:=λ b o e hx hb=>by
  rcases (hch b hb).1 with z | z
  ·exact hx z
  ·exact absurd (yah (yai e) z) (yaU _)
 have cellK:∀ x c,X.env.cells.lookup x=some c -> ∀ v,s.heap.IsCell c v -> h'.IsCell c v:=λ x c e v ⟨o,ho,hd⟩=>by
  have nch:c ∉ ch:=λ z=>(hch c z).2.2.1 x c e rfl;by_cases hc:c ∈ X.fs
  ·obtain ⟨sl,q⟩:=slot c o (I.cne x c e) hc nch ho (I.freeC x c e);exact ⟨_,q,hd⟩
  ·exact ⟨o,keep c o (I.cne x c e) hc nch ho (I.freeC x c e),hd⟩
 refine ⟨I.ok,I.os,hg,⟨λ b o e n hb hx=>?_,λ b o e n hb hx=>?_,λ b o e n hx=>?_,λ b o e hx=>?_,λ b xs e=>tups b xs (I.base.tups b xs e),λ b o xs e=>frzs b o xs (I.base.frzs b o xs e),λ b ps e=>?_⟩,?_,λ x c e=>?_,?_,λ x c e=>?_,λ p hp=>?_,hok,I.len⟩
 ·exact keep b o (neL b o e) hb (neC b o e hx) (I.base.keep b o e n hb hx) (I.base.free b o e n hx)
 ·obtain ⟨sl,e1⟩:=I.base.slot b o e n hb hx;obtain ⟨sl',e2⟩:=slot b _ (neL b o e) hb (neC b o e hx) e1 (I.base.free b o e n hx);exact ⟨sl',e2⟩
 ·obtain ⟨o',e1⟩:=I.base.there b o e hx;exact free b o' (neC b o e hx) e1 (I.base.free b o e n hx)
 ·obtain ⟨o',e1⟩:=I.base.there b o e hx;exact there b o' (neC b o e hx) e1
 ·obtain ⟨m1,e1⟩:=I.base.tbls b ps e;obtain ⟨m2,e2⟩:=tbls b _ e1;exact ⟨m1 ++ m2,by rw [e2,Array.append_assoc]⟩
 ·obtain ⟨m, hn, hl⟩ := I.loc;refine ⟨m, ns m hn, fun i x v e1 e2 e3 => ?_⟩;obtain ⟨u, r, l⟩ := hl i x v e1 e2 e3;refine ⟨u, r, ?_⟩;rcases l with l | ⟨k, c, e, z⟩
  ·exact .inl l
  ·exact .inr ⟨k,c,e,cellK x c e _ z⟩
 ·obtain ⟨v,z⟩:=I.cell x c e;exact ⟨v,cellK x c e v z⟩
 ·obtain ⟨m,⟨o,_,_,ho,_⟩,_⟩:=I.loc;exact free _ o (λ z=>(hch _ z).2.1 rfl) ho I.free
 ·obtain ⟨v,o,ho,hd⟩:=I.cell x c e;exact free c o (λ z=>(hch c z).2.2.1 x c e rfl) ho (I.freeC x c e)
 ·obtain ⟨e,n,ne,nf,d⟩:=I.pin p hp;have nch:p.1 ∉ ch:=λ z=>(hch p.1 z).2.2.2 p hp rfl;exact ⟨keep p.1 p.2 ne nf nch e n,free p.1 p.2 nch e n,ne,nf,d⟩
def Inv.un {t':Nat} (I:Inv X pins σ H s) (u:Un X.fs [] H H' s.heap h') (hok:HOk X.prog X.w H' h'):Inv X pins σ H' { s with heap:=h',toks:=t' }:=by
 obtain ⟨m,⟨o,es,ep,ho,r⟩,_⟩:=id I.loc;obtain ⟨sl,hL⟩:=u.any ho I.free (6:)
 exact I.step (g':=s.gens) (d':=s.drawn) (ch:=[]) (λ _ z=>nomatch z) (λ b o _ hb _ e n=>u.keep b o e n hb (6:)) (λ b o _ hb _ e n=>u.slot b o e n hb (6:)) (λ b o _ e n=>u.free b o e n (6:)) (λ b o _ e=>u.there b o e (6:)) u.tups u.frzs u.tbls (λ m' hm=>by
  obtain ⟨o',es',ep',ho',r'⟩:=hm;rw [ho] at ho'; cases ho';exact ⟨_,es',ep',hL,r'⟩) hok I.bare
def Inv.call {g':Array GenState} {t':Nat} {d':Drawn} {ch:List Addr} (I:Inv X pins σ H s) (u:Un (frs X.stack) ch H H' s.heap h') (hok:HOk X.prog X.w H' h') (hg:AllBare g')
  (hch:∀ b ∈ ch,(b ∈ X.ex \/ X.s₀.heap.objs.size <= b) /\ b ≠ X.env.locals /\ (∀ x c,X.env.cells.lookup x=some c -> c ≠ b) /\ ∀ p ∈ X.pn ++ pins,p.1 ≠ b) :
  Inv X pins σ H' { s with heap:=h',gens:=g',drawn:=d',toks:=t' }:=by
 obtain ⟨m,⟨o,es,ep,ho,r⟩,_⟩:=id I.loc;obtain ⟨sl,hL⟩:=u.any ho I.free λ z=>(hch _ z).2.1 rfl
 exact I.step (ch:=ch) hch (λ b o hL hb hc e n=>u.keep b o e n (λ z=>(yaH.mp (I.stkSub b z)).elim hL hb) hc) (λ b o _ _ hc e n=>u.any e n hc) (λ b o hc e n=>u.free b o e n hc) (λ b o hc e=>u.there b o e hc) u.tups u.frzs u.tbls (λ m' hm=>by
  obtain ⟨o',es',ep',ho',r'⟩:=hm;rw [ho] at ho'; cases ho';exact ⟨_,es',ep',hL,r'⟩) hok hg
def Inv.turned {t':Nat} {it:Addr} (I:Inv X pins σ H s) (k:∀ b o,b ≠ it -> s.heap.get? b=some o -> h'.get? b=some o) (hn:H it=none) (hL:it ≠ X.env.locals)
  (h1:it ∈ X.ex \/ X.s₀.heap.objs.size <= it) (h2:∀ x c,X.env.cells.lookup x=some c -> c ≠ it) (h3:∀ p ∈ X.pn ++ pins,p.1 ≠ it):Inv X pins σ H { s with heap:=h',toks:=t' }:=by
 have nit:∀ b u,H b=some u -> b ≠ it:=λ b u e z=>by rw [z,hn] at e; cases e
 refine I.step (g':=s.gens) (d':=s.drawn) (ch:=[it]) (λ b hb=>?_) (λ b o _ _ hc e _=>k b o (λ z=>hc (by simp [z])) e) (λ b o _ _ hc e _=>⟨o.slots,k b o (λ z=>hc (by simp [z])) e⟩) (λ _ _ _ _ n=>n)
  (λ b o hc e=>⟨o,k b o (λ z=>hc (by simp [z])) e⟩) (λ _ _ e=>e) (λ _ _ _ e=>e) (λ b ps e=>⟨#[],by rw [e]; simp⟩) (λ m hm=>?_) (λ b u e=>?_) I.bare
 ·have e : b = it := by simpa using hb
  subst e;exact ⟨h1,hL,h2,h3⟩
 ·obtain ⟨o,es,ep,ho,r⟩:=hm;exact ⟨o,es,ep,k _ o (Ne.symm hL) ho,r⟩
 ·refine (I.hok b u e).stay (fun c v hc q => k c v ?_ q) (fun _ q => q) fun _ _ q => q;rcases hc with z | z
  ·rw [z]; exact nit b u e
  ·exact nit c _ z
def Inv.tok (I:Inv X pins σ H s) (t:Nat):Inv X pins σ H { s with toks:=t }:=I.un (h':=s.heap) (t':=t) Un.refl I.hok
def Inv.kept {t':Nat} (I:Inv X pins σ H s) (k:∀ b u,s.heap.get? b=some u -> h'.get? b=some u):Inv X pins σ H { s with heap:=h',toks:=t' }:=I.un (Un.kept k) (I.hok.kept k)
def Inv.laid {a:Addr} {o:HO} {t':Nat} (I:Inv X pins σ H s) (k:∀ b u,s.heap.get? b=some u -> h'.get? b=some u) (hp:s.heap.objs.size <= a) (new:zb1 X.prog X.w (upd H a o) h' a o) :
  Inv X pins σ (upd H a o) { s with heap:=h',toks:=t' }:=I.un (Un.laid k hp (I.hok.fresh hp)) (I.hok.laid k hp new)
def Inv.write {x e:Addr} {o:HO} {t':Nat} (I:Inv X pins σ H s) (mu:Mut (H x)) (he:e=x \/ H e=some (.own x)) (k:∀ b u,b ≠ e -> s.heap.get? b=some u -> h'.get? b=some u) (heo:∃ u,h'.get? e=some u)
  (new:zb1 X.prog X.w (upd H x o) h' x o):Inv X pins σ (upd H x o) { s with heap:=h',toks:=t' }:=I.un (Un.write mu he k heo) (I.hok.write mu he k heo new)
def Inv.weak {σ':List (Option V)} (I:Inv X pins σ H s) (hl:σ'.length=σ.length) (w:∀ (i:Nat) v,σ'[i]?=some (some v) -> σ[i]?=some (some v)):Inv X pins σ' H s:=
 ⟨I.ok,I.os,I.bare,I.base,let ⟨m,hn,hl'⟩:=I.loc; ⟨m,hn,λ i x v e1 e2 e3=>hl' i x v e1 (w i v e2) e3⟩,I.cell,I.free,I.freeC,I.pin,I.hok,hl.trans I.len⟩
def Inv.pins_of {pins':List (Addr × Obj)} (I:Inv X pins σ H s) (h:∀ p ∈ pins',s.heap.get? p.1=some p.2 /\ H p.1=none /\ p.1 ≠ X.env.locals /\ p.1 ∉ X.fs /\ ∀ v,p.2.data ≠ .cell v):Inv X pins' σ H s:=
 ⟨I.ok,I.os,I.bare,I.base,I.loc,I.cell,I.free,I.freeC,λ p hp=>(yaK.mp hp).elim (λ z=>I.pin p (ybs _ z)) (h p),I.hok,I.len⟩
def zhl {N:List Str} (hN:N.Nodup) {i j:Nat} {x:Str} (a:N[i]?=some x) (b:N[j]?=some x):i=j:=by
 obtain ⟨h1,e1⟩:=yaf.mp a;obtain ⟨h2,e2⟩:=yaf.mp b;exact (List.getElem_inj hN).mp (e1.trans e2.symm)
def zjM {M:Model} {A:Around} {E:Value -> Shared -> Prop} {i:Nat} {x:Str} {v:V} {u:Value} {Q:Unit -> Shared -> Prop} (I:Inv X pins σ H s) (hN:X.N.Nodup) (hi:X.N[i]?=some x) (hx:Loc X.env.scope x) (r:RelV v u)
  (h:∀ s',Inv X pins (σ.set i (some v)) H s' -> (∃ a,Heap.SameBut a s.heap s'.heap /\ (a=X.env.locals \/ X.env.cells.lookup x=some a)) -> Q () s') (hf:X.fn x=true \/ X.env.scope.names.lookup x=some .local:=by first | exact .inl rfl | exact .inr rfl | assumption):wpAny M A (storeName X.env x u) Q E s:=by
 obtain ⟨m,hn,hl⟩:=id I.loc;have hcls:(X.env.scope.kind == .class || (X.env.scope.kind == .module && X.env.locals != X.env.globals))=false:=by rw [I.ok.kind]; rfl
 have hiσ:i < σ.length:=by rw [I.len]; exact (yaf.mp hi).1
 have cne:=I.cne
 have tracked:∀ {a:Addr} {h':Heap},(∃ o,s.heap.get? a=some o /\ H a=none) -> Heap.SameBut a s.heap h' -> HOk X.prog X.w H h':=λ {a h'} ha hs b ob e=>by
  obtain ⟨_,_,hfree⟩:=ha;refine (I.hok b ob e).stay (λ c w' hc q=>(hs.2 c ?_).trans q) (λ _ q=>q) λ _ _ q=>q;rintro rfl;rcases hc with rfl | hc
  ·rw [hfree] at e; cases e
  ·rw [hfree] at hc; cases hc
 rcases hx with hk | hk
 ·refine wpAny_storeName_local hk hn (fun h' hn' hs => ?_) hcls;obtain ⟨oL, _, _, hoL, _⟩ := id hn;refine h _ ⟨I.ok, I.os, I.bare, ⟨fun b o e n hb hx => ?_, fun b o e n hb hx => ?_, I.base.free, fun b o e hx => ?_, I.base.tups, I.base.frzs, I.base.tbls⟩, ⟨_, hn', fun j y v' e1 e2 e3 => ?_⟩, fun y c e => ?_, I.free, I.freeC, fun p hp => ?_, tracked ⟨oL, hoL, I.free⟩ hs, by simpa using I.len⟩ ⟨_, hs, .inl rfl⟩
  ·exact (hs.2 b (yaB (yah (yai e) I.ok.above))).trans (I.base.keep b o e n hb hx)
  ·obtain ⟨sl,e1⟩:=I.base.slot b o e n hb hx;exact ⟨sl,(hs.2 b (yaB (yah (yai e) I.ok.above))).trans e1⟩
  ·obtain ⟨o',e1⟩:=I.base.there b o e hx;exact ⟨o',(hs.2 b (yaB (yah (yai e) I.ok.above))).trans e1⟩
  ·by_cases hj : j = i
   ·subst hj;rw [hi] at e1; cases e1;rw [List.getElem?_set_self hiσ] at e2;cases e2;exact ⟨u,r,.inl ⟨hk,by simp⟩⟩
   ·rw [ybU (Ne.symm hj)] at e2;obtain ⟨u', r', q⟩ := hl j y v' e1 e2 e3;refine ⟨u', r', ?_⟩;rcases q with ⟨k, e⟩ | ⟨k, c, e, z⟩
    ·refine .inl ⟨k,?_⟩;have:y ≠ x:=λ e=>hj (zhl hN e1 (e ▸ hi));simp [this,e]
    ·exact .inr ⟨k,c,e,z.sameBut hs (cne y c e)⟩
  ·obtain ⟨w',z⟩:=I.cell y c e;exact ⟨w',z.sameBut hs (cne y c e)⟩
  ·obtain ⟨e,n,ne,nf,d⟩:=I.pin p hp;exact ⟨(hs.2 p.1 ne).trans e,n,ne,nf,d⟩
 ·have hfn:X.fn x=true:=by
   rcases hf with z | z
   ·exact z
   ·rw [z] at hk; cases hk
  obtain ⟨c,hc⟩:=I.ok.has x (.inl hk);obtain ⟨w',z⟩:=I.cell x c hc;refine wpAny_storeName_cell I.ok.kind hk hc z (λ h' hc' hs=>?_);obtain ⟨oc,hoc,hocd⟩:=id z;refine h { s with heap:=h' } ⟨I.ok,I.os,I.bare,⟨λ b o e n hb hx=>?_,λ b o e n hb hx=>?_,I.base.free,λ b o e hx=>?_,I.base.tups,I.base.frzs,I.base.tbls⟩,⟨m,hn.sameBut hs (Ne.symm (cne x c hc)),λ j y v' e1 e2 e3=>?_⟩,λ y c' e=>?_,I.free,I.freeC,λ p hp=>?_,tracked ⟨oc,hoc,I.freeC x c hc⟩ hs,by simpa using I.len⟩ ⟨c,hs,.inr hc⟩
  ·exact (hs.2 b (yaB (yah (yai e) (I.ok.cab x c hfn hc)))).trans (I.base.keep b o e n hb hx)
  ·obtain ⟨sl,e1⟩:=I.base.slot b o e n hb hx;exact ⟨sl,(hs.2 b (yaB (yah (yai e) (I.ok.cab x c hfn hc)))).trans e1⟩
  ·obtain ⟨o',e1⟩:=I.base.there b o e hx;exact ⟨o',(hs.2 b (yaB (yah (yai e) (I.ok.cab x c hfn hc)))).trans e1⟩
  ·by_cases hj : j = i
   ·subst hj;rw [hi] at e1; cases e1;rw [List.getElem?_set_self hiσ] at e2;cases e2;exact ⟨u,r,.inr ⟨.inl hk,c,hc,hc'⟩⟩
   ·rw [ybU (Ne.symm hj)] at e2;obtain ⟨u', r', q⟩ := hl j y v' e1 e2 e3;refine ⟨u', r', ?_⟩;rcases q with q | ⟨k, c', e, z'⟩
    ·exact .inl q
    ·refine .inr ⟨k,c',e,z'.sameBut hs ?_⟩;rintro rfl;exact hj (zhl hN e1 (I.ok.inj _ _ _ e hc ▸ hi))
  ·by_cases hcc : c' = c
   ·subst hcc; exact ⟨_,hc'⟩
   ·obtain ⟨w2,z2⟩:=I.cell y c' e;exact ⟨w2,z2.sameBut hs hcc⟩
  ·obtain ⟨e,n,ne,nf,d⟩:=I.pin p hp;refine ⟨(hs.2 p.1 ?_).trans e,n,ne,nf,d⟩;intro q;rw [q,hoc] at e;have q':oc=p.2:=Option.some.inj e;exact d w' (by rw [<- q']; exact hocd)
def zdg {M:Model} {A:Around} {E:Value -> Shared -> Prop} {i:Nat} {x:Str} {v:V} {u:Value} {Q:Unit -> Shared -> Prop} (I:Inv X pins σ H s) (hN:X.N.Nodup) (hi:X.N[i]?=some x) (hx:Loc X.env.scope x) (r:RelV v u)
  (h:∀ s',Inv X pins (σ.set i (some v)) H s' -> Q () s') (hf:X.fn x=true \/ X.env.scope.names.lookup x=some .local:=by first | exact .inl rfl | exact .inr rfl | assumption):wpAny M A (storeName X.env x u) Q E s:=
 zjM I hN hi hx r (λ s' I' _=>h s' I') hf
end
noncomputable abbrev XK:=Value -> Option Addr -> Hp -> Prop
noncomputable abbrev St:=List (Option V)
noncomputable abbrev VK:=V -> Hp -> Prop
noncomputable abbrev TE:=St -> Hp -> VK -> Prop
noncomputable abbrev TT:=St -> Hp -> (Bool -> Hp -> Prop) -> Prop
noncomputable abbrev TA:=St -> Hp -> (List V -> Hp -> Prop) -> Prop
structure Ends where
 nx:St -> Hp -> Prop
 rt:VK
 bk:St -> Hp -> Prop:=λ _ _=>False
 ct:St -> Hp -> Prop:=λ _ _=>False
noncomputable abbrev TS:=Ends -> St -> Hp -> Prop
noncomputable def EP (X:Cx) (pins:List (Addr × Obj)) (σ:St) (Q:VK) (u:Value) (s':Shared):Prop:=∃ v H',Inv X pins σ H' s' /\ RelV v u /\ Q v H'
noncomputable def TP (X:Cx) (pins:List (Addr × Obj)) (σ:St) (Q:Bool -> Hp -> Prop) (b:Bool) (s':Shared):Prop:=∃ H',Inv X pins σ H' s' /\ Q b H'
noncomputable def AP (X:Cx) (pins:List (Addr × Obj)) (σ:St) (Q:List V -> Hp -> Prop) (us:List Value) (s':Shared):Prop:=∃ vs H',Inv X pins σ H' s' /\ Vals vs us /\ Q vs H'
noncomputable def SP (X:Cx) (pins:List (Addr × Obj)) (D:Ends) (f:Flow) (s':Shared):Prop:=
 match f with
 | .next=>∃ σ' H',Inv X pins σ' H' s' /\ D.nx σ' H'
 | .brk=>∃ σ' H',Inv X pins σ' H' s' /\ D.bk σ' H'
 | .cont=>∃ σ' H',Inv X pins σ' H' s' /\ D.ct σ' H'
 | .ret u=>∃ v σ' H',Inv X pins σ' H' s' /\ RelV v u /\ D.rt v H'
noncomputable def PE (X:Cx) (e:Expr) (t:TE):Prop:=
 ∀ (pins:List (Addr × Obj)) (s:Shared) (σ:St) (H:Hp) (Q:VK),Inv X pins σ H s -> t σ H Q -> wpAny (model X.prog X.w) X.A (eval e X.env) (EP X pins σ Q) X.xe s
noncomputable def PT (X:Cx) (e:Expr) (t:TT):Prop:=
 ∀ (pins:List (Addr × Obj)) (s:Shared) (σ:St) (H:Hp) (Q:Bool -> Hp -> Prop),Inv X pins σ H s -> t σ H Q -> wpAny (model X.prog X.w) X.A (isTrue e X.env (eval e X.env)) (TP X pins σ Q) X.xe s
noncomputable def PW (X:Cx) (e:Expr) (t:TT):Prop:=
 ∀ (whole:Sem Value) (pins:List (Addr × Obj)) (s:Shared) (σ:St) (H:Hp) (Q:Bool -> Hp -> Prop),Inv X pins σ H s -> t σ H Q -> wpAny (model X.prog X.w) X.A (isTrue e X.env whole) (TP X pins σ Q) X.xe s
def PW.pt {X:Cx} {e:Expr} {t:TT} (h:PW X e t):PT X e t:=h _
noncomputable def PA (X:Cx) (es:List Expr) (t:TA):Prop:=
 ∀ (pos:Pos) (pins:List (Addr × Obj)) (s:Shared) (σ:St) (H:Hp) (Q:List V -> Hp -> Prop),Inv X pins σ H s -> t σ H Q -> wpAny (model X.prog X.w) X.A (spliced (backTo pos (starEach es X.env))) (AP X pins σ Q) X.xe s
noncomputable def PS (X:Cx) (st:Stmt) (t:TS):Prop:=
 ∀ (pins:List (Addr × Obj)) (s:Shared) (σ:St) (H:Hp) (D:Ends),Inv X pins σ H s -> t D σ H -> wpAny (model X.prog X.w) X.A (exec st X.env) (SP X pins D) X.xe s
noncomputable def PSs (X:Cx) (st:List Stmt) (t:TS):Prop:=
 ∀ (pins:List (Addr × Obj)) (s:Shared) (σ:St) (H:Hp) (D:Ends),Inv X pins σ H s -> t D σ H -> wpAny (model X.prog X.w) X.A (execs st X.env) (SP X pins D) X.xe s
def thn {α:Type} {t:Sem α} {Q Q':α -> Shared -> Prop} {M:Model} {A:Around} {E:Value -> Shared -> Prop} {s:Shared} (h:wpAny M A t Q E s) (hQ:∀ a s,Q a s -> Q' a s):wpAny M A t Q' E s:=wpAny_mono h hQ λ _ _ x=>x
section
variable {X:Cx}
noncomputable def tVar (i:Nat):TE:=λ σ H Q=>∃ v,σ[i]?=some (some v) /\ Q v H
noncomputable def tC (v:V):TE:=λ _ H Q=>Q v H
def zmV {i:Nat} {x:Str} {pos:Pos} (hN:X.N[i]?=some x) (hv:Vis X.env.scope x) (hd:(x == ("__debug__":Str))=false:=by decide) (hcd:(x == ("__classdict__":Str))=false:=by decide):PE X (.Name x pos) (tVar i):=by
 intro pins s σ H Q I h;obtain ⟨v,e,h⟩:=h;obtain ⟨m,hn,hl⟩:=I.loc;obtain ⟨u,r,l⟩:=hl i x v hN e hv;have fin:EP X pins σ Q u s:=⟨v,H,I,r,h⟩
 rcases l with ⟨hk,hm⟩ | ⟨hk,c,hc,hcell⟩
 ·exact wpAny_Name (wpAny_loadName_local I.ok.kind hk hn hm fin) hd
 ·rcases hk with hk | hk
  ·exact wpAny_Name (wpAny_loadName_cell I.ok.kind hk hc hcell fin) hd
  ·exact wpAny_Name (wpAny_loadName_free I.ok.kind hk hc hcell fin hcd) hd
def zac {i j pos}:PE X (.Constant (.int i) j pos) (tC (.int i)):=λ _ _ _ H _ I h=>wpAny_Constant_int ⟨.int i,H,I.tok _,⟨_,rfl⟩,h⟩
def zbS {b j pos}:PE X (.Constant (.bool b) j pos) (tC (.bl b)):=λ _ _ _ H _ I h=>Constant_bool ⟨.bl b,H,I,rfl,h⟩
def zf6 {j pos}:PE X (.Constant .none j pos) (tC .non):=λ _ _ _ H _ I h=>Constant_none ⟨.non,H,I,rfl,h⟩
def zdu {x j pos}:PE X (.Constant (.str x) j pos) (tC (.str x)):=λ _ _ _ H _ I h=>Calls.Constant_str ⟨.str x,H,I.tok _,⟨_,rfl⟩,h⟩
noncomputable def Gl (X:Cx) (x:Str):Prop:=X.env.kindOf x=some .globalImplicit
def ziD {E:Value -> Shared -> Prop} {pins:List (Addr × Obj)} {s:Shared} {σ:St} {H:Hp} {x:Str} {u:Value} {pos:Pos} {Q:Value -> Shared -> Prop} (I:Inv X pins σ H s) (hg:Gl X x) (hm:X.mg x=some u) (h:Q u s)
  (hd:(x == ("__debug__":Str))=false:=by decide):wpAny (model X.prog X.w) X.A (eval (.Name x pos) X.env) Q E s:=
 Calls.Name_function_global I.ok.kind hg (Calls.loadGlobal_global (by rw [I.ok.glob]; exact I.mod.glob.keeps I.bk) hm h) hd
def zev {E:Value -> Shared -> Prop} {pins:List (Addr × Obj)} {s:Shared} {σ:St} {H:Hp} {x:Str} {u:Value} {pos:Pos} {Q:Value -> Shared -> Prop} (I:Inv X pins σ H s) (hg:Gl X x) (hm:X.mg x=none) (hv:bootBuiltins x=some u) (h:Q u s)
  (hn:x ≠ "__name__":=by decide) (hd:(x == ("__debug__":Str))=false:=by decide):wpAny (model X.prog X.w) X.A (eval (.Name x pos) X.env) Q E s:=by
 obtain ⟨mb,h1,h2⟩:=I.mod.blt;exact Calls.Name_function_global I.ok.kind hg (Calls.loadGlobal_builtin (by rw [I.ok.glob]; exact I.mod.glob.keeps I.bk) hm (by rw [I.ok.blt]; exact h1.keeps I.bk) ((h2 x hn).trans hv) h) hd
def zi5 {x:Str} {v:V} {u:Value} {pos:Pos} (hg:Gl X x) (hm:X.mg x=some u) (r:RelV v u) (hd:(x == ("__debug__":Str))=false:=by decide):PE X (.Name x pos) (tC v):=
 λ _ _ _ H _ I h=>ziD I hg hm ⟨v,H,I,r,h⟩ hd
def za6 {x:Str} {v:V} {u:Value} {pos:Pos} (hg:Gl X x) (hm:X.mg x=none) (hv:bootBuiltins x=some u) (r:RelV v u) (hn:x ≠ "__name__":=by decide) (hd:(x == ("__debug__":Str))=false:=by decide):PE X (.Name x pos) (tC v):=
 λ _ _ _ H _ I h=>zev I hg hm hv ⟨v,H,I,r,h⟩ hn hd
variable {a b:Expr} {ta tb:TE} {pos:Pos}
noncomputable def tB (t:TE):TT:=λ σ H Q=>t σ H λ x H1=>∃ c,x=.bl c /\ Q c H1
def zaO {e:Expr} {t:TE} (h:PE X e t) (he:∀ whole,isTrue e X.env whole=(do let v <- whole; standAt e.pos; holding [v] (truthy v)):=by intro _; rfl):PT X e (tB t):=by
 intro pins s σ H Q I hw;refine isTrue_plain (thn (h pins s σ H _ I hw) λ v s1 ⟨x,H1,I1,r1,q1⟩=>?_) (he _);obtain ⟨d,rfl,q⟩:=q1;cases r1;exact wpAny_truthy_bool ⟨H1,I1,q⟩
variable {tA tB':TT} {rest:List Expr}
noncomputable def tAnd (t u:TT):TT:=λ σ H Q=>t σ H λ c H1=>if c=true then u σ H1 Q else Q false H1
noncomputable def tOr (t u:TT):TT:=λ σ H Q=>t σ H λ c H1=>if c=true then Q true H1 else u σ H1 Q
noncomputable def tNot (t:TT):TT:=λ σ H Q=>t σ H λ c H1=>Q (!c) H1
def zfp (ha:PT X a tA):PW X (.BoolOp .And [a] pos) tA:=by
 intro wh pins s σ H Q I h;refine isTrue_and (thn (ha pins s σ H Q I h) λ c s1 e=>?_);cases c with
 | true=>exact isTrue_and_nil e
 | false=>exact e
def zcU (ha:PT X a tA):PW X (.BoolOp .Or [a] pos) tA:=by
 intro wh pins s σ H Q I h;refine isTrue_or (thn (ha pins s σ H Q I h) λ c s1 e=>?_);cases c with
 | false=>exact isTrue_or_nil e
 | true=>exact e
def zg7 (ha:PT X a tA) (hb:PW X (.BoolOp .And (b :: rest) pos) tB'):PW X (.BoolOp .And (a :: b :: rest) pos) (tAnd tA tB'):=by
 intro wh pins s σ H Q I h;refine isTrue_and (thn (ha pins s σ H _ I h) λ c s1 ⟨H1,I1,q1⟩=>?_);cases c with
 | true=>exact hb wh pins s1 σ H1 Q I1 q1
 | false=>exact ⟨H1,I1,q1⟩
def zdW (ha:PT X a tA) (hb:PW X (.BoolOp .Or (b :: rest) pos) tB'):PW X (.BoolOp .Or (a :: b :: rest) pos) (tOr tA tB'):=by
 intro wh pins s σ H Q I h;refine isTrue_or (thn (ha pins s σ H _ I h) λ c s1 ⟨H1,I1,q1⟩=>?_);cases c with
 | true=>exact ⟨H1,I1,q1⟩
 | false=>exact hb wh pins s1 σ H1 Q I1 q1
def za2 (ha:PT X a tA):PT X (.UnaryOp .Not a pos) (tNot tA):=by
 intro pins s σ H Q I h;exact isTrue_not (ha pins s σ H (λ c H1=>Q (!c) H1) I h)
noncomputable def zmu (ta tb:TE):TE:=λ σ H Q=>ta σ H λ x H1=>∃ c,x=.bl c /\ if c=true then tb σ H1 Q else Q (.bl false) H1
noncomputable def zm1 (ta:TE):TE:=λ σ H Q=>ta σ H λ x H1=>∃ c,x=.bl c /\ Q (.bl (!c)) H1
def zdL {op} {t:TE} (h:PE X a t):PE X (.BoolOp op [a] pos) t:=λ pins s σ H Q I hw=>BoolOp_one (h pins s σ H Q I hw)
def zck (ha:PE X a ta) (hb:PE X (.BoolOp .And (b :: rest) pos) tb):PE X (.BoolOp .And (a :: b :: rest) pos) (zmu ta tb):=by
 intro pins s σ H Q I h;refine BoolOp_and (thn (ha pins s σ H _ I h) λ v s1 ⟨x,H1,I1,r1,q1⟩=>?_);obtain ⟨c,rfl,q1⟩:=q1;cases r1;refine wpAny_truthy_bool ?_;cases c with
 | true=>exact hb pins s1 σ H1 Q I1 q1
 | false=>exact ⟨.bl false,H1,I1,rfl,q1⟩
def zkP (ha:PE X a ta):PE X (.UnaryOp .Not a pos) (zm1 ta):=by
 intro pins s σ H Q I h;refine UnaryOp_ (thn (ha pins s σ H _ I h) λ v s1 ⟨x,H1,I1,r1,q1⟩=>?_);obtain ⟨c,rfl,q1⟩:=q1;cases r1;exact not_of (wpAny_truthy_bool ⟨.bl (!c),H1,I1,rfl,q1⟩)
noncomputable def tIf (t:TT) (ta tb:TE):TE:=λ σ H Q=>t σ H λ c H1=>if c=true then ta σ H1 Q else tb σ H1 Q
def zbt {c:Expr} (hc:PT X c tA) (ha:PE X a ta) (hb:PE X b tb):PE X (.IfExp c a b pos) (tIf tA ta tb):=by
 intro pins s σ H Q I h;refine wpAny_IfExp (thn (hc pins s σ H _ I h) λ d s1 ⟨H1,I1,q1⟩=>?_);cases d with
 | true=>exact ha pins s1 σ H1 Q I1 q1
 | false=>exact hb pins s1 σ H1 Q I1 q1
end
noncomputable def SqL (K:PySem.W.Frag) (H:Hp) (a:Addr) (xs:List V):Prop:=
 Rd H a (.lst xs) \/
  ∃ (o:Obj) (its:Array Value) (n:Nat),K.lookup a=some o /\ o.cls=.type "list" /\ o.dict=none /\ o.data=.seq its n /\ its.size <= sizeLine /\ Vals xs its.toList
noncomputable def SqT (K:PySem.W.Frag) (H:Hp) (a:Addr) (xs:List V):Prop:=
 Rd H a (.tup xs) \/
  ∃ (o:Obj) (its:Array Value) (n:Nat),K.lookup a=some o /\ o.cls=.type "tuple" /\ o.data=.seq its n /\ its.size <= sizeLine /\ Vals xs its.toList
noncomputable def absV:Value -> Option V
 | .none=>some .non
 | .bool b=>some (.bl b)
 | .int i _=>some (.int i)
 | .str x _=>some (.str x)
 | .bytes b _=>some (.byt b)
 | .float b _=>some (.flt b)
 | .ref a=>some (.ref a)
 | .type n=>some (.ty n)
 | _=>none
def RelV.abs {x:V} {u:Value} (r:RelV x u):absV u=some x:=by
 cases x with
 | non=>cases r; rfl
 | bl _=>cases r; rfl
 | int _=>obtain ⟨t,rfl⟩:=r; rfl
 | str _=>obtain ⟨t,rfl⟩:=r; rfl
 | byt _=>obtain ⟨t,rfl⟩:=r; rfl
 | flt _=>obtain ⟨t,rfl⟩:=r; rfl
 | ref _=>cases r; rfl
 | ty _=>cases r; rfl
def RelV.inj {x y:V} {u:Value} (r:RelV x u) (q:RelV y u):x=y:=Option.some.inj (r.abs.symm.trans q.abs)
def Vals.inj:∀ {xs ys:List V} {us:List Value},Vals xs us -> Vals ys us -> xs=ys
 | _,_,_,.nil,.nil=>rfl
 | _,_,_,.cons r t,.cons r' t'=>by rw [r.inj r',Vals.inj t t']
section
variable {X:Cx} {pins:List (Addr × Obj)} {σ:St} {H:Hp} {s:Shared} {a:Addr} {xs ys:List V}
def SqL.of {K:PySem.W.Frag} (h:H a=some (.lst xs)):SqL K H a xs:=.inl (.inl h)
def SqT.of {K:PySem.W.Frag} (h:H a=some (.tup xs)):SqT K H a xs:=.inl (.inl h)
def Inv.list (I:Inv X pins σ H s) (h:SqL X.K H a xs):∃ its:List Value,Vals xs its /\ PlainL s.heap a its.toArray /\ xs.length <= sizeLine:=by
 rcases h with h | ⟨o,its,n,hk,hc,hd,hs,hz,r⟩
 ·obtain ⟨z,its,n,r,e⟩:=h.ok I.hok;exact ⟨its,r,⟨_,n,e,rfl,rfl,rfl⟩,z⟩
 ·refine ⟨its.toList,r,⟨o,n,I.kIn a o hk,hc,hd,by simpa using hs⟩,?_⟩;have e:=r.length;simp only [ybz] at e;omega
def Inv.tuple (I:Inv X pins σ H s) (h:SqT X.K H a xs):∃ its:List Value,Vals xs its /\ IsTup s.heap a its.toArray /\ xs.length <= sizeLine:=by
 rcases h with h | ⟨o,its,n,hk,hc,hs,hz,r⟩
 ·obtain ⟨z,its,r,p⟩:=h.ok I.hok;exact ⟨its,r,p.tup,z⟩
 ·refine ⟨its.toList,r,⟨o,I.kIn a o hk,hc,n,by simpa using hs⟩,?_⟩;have e:=r.length;simp only [ybz] at e;omega
def Inv.list_inj (I:Inv X pins σ H s) (h:SqL X.K H a xs) (h':SqL X.K H a ys):xs=ys:=by
 obtain ⟨its,r,⟨o,n,e,_,_,d⟩,_⟩:=I.list h;obtain ⟨its',r',⟨o',n',e',_,_,d'⟩,_⟩:=I.list h';rw [e] at e'; cases e';rw [d] at d';injection d' with d1 _;have:its=its':=by simpa using congrArg Array.toList d1
 subst this;exact r.inj r'
def Inv.tuple_inj (I:Inv X pins σ H s) (h:SqT X.K H a xs) (h':SqT X.K H a ys):xs=ys:=by
 obtain ⟨its,r,⟨o,e,_,n,d⟩,_⟩:=I.tuple h;obtain ⟨its',r',⟨o',e',_,n',d'⟩,_⟩:=I.tuple h';rw [e] at e'; cases e';rw [d] at d';injection d' with d1 _;have:its=its':=by simpa using congrArg Array.toList d1
 subst this;exact r.inj r'
end
noncomputable abbrev Cx.wish (X:Cx) (E:Value -> Shared -> Prop):Cx:={ X with xe:=E }
noncomputable abbrev Cx.nox (X:Cx):Cx:=X.wish λ _ _=>False
def Cx.Ok.wish {X:Cx} (ok:X.Ok) (E:Value -> Shared -> Prop):(X.wish E).Ok:=
 ⟨ok.mod,ok.kind,ok.glob,ok.blt,ok.above,ok.inj,ok.has,ok.cab,ok.hd,ok.frames,ok.stk,ok.exf,ok.bs,ok.bsz,ok.noex,ok.exfs,ok.funs,ok.frf⟩
def Cx.Ok.unwish {X:Cx} {E:Value -> Shared -> Prop} (ok:(X.wish E).Ok):X.Ok:=
 ⟨ok.mod,ok.kind,ok.glob,ok.blt,ok.above,ok.inj,ok.has,ok.cab,ok.hd,ok.frames,ok.stk,ok.exf,ok.bs,ok.bsz,ok.noex,ok.exfs,ok.funs,ok.frf⟩
section
variable {X:Cx} {pins:List (Addr × Obj)} {σ:St} {H:Hp} {s:Shared} {E:Value -> Shared -> Prop}
def Inv.wish (I:Inv X pins σ H s) (E:Value -> Shared -> Prop):Inv (X.wish E) pins σ H s:=⟨I.ok.wish E,I.os,I.bare,I.base,I.loc,I.cell,I.free,I.freeC,I.pin,I.hok,I.len⟩
def Inv.unwish (I:Inv (X.wish E) pins σ H s):Inv X pins σ H s:=⟨I.ok.unwish,I.os,I.bare,I.base,I.loc,I.cell,I.free,I.freeC,I.pin,I.hok,I.len⟩
def SP.unwish {D:Ends} {f:Flow} {s':Shared} (h:SP (X.wish E) pins D f s'):SP X pins D f s':=by
 cases f with
 | next=>obtain ⟨σ',H',I,q⟩:=h; exact ⟨σ',H',I.unwish,q⟩
 | brk=>obtain ⟨σ',H',I,q⟩:=h; exact ⟨σ',H',I.unwish,q⟩
 | cont=>obtain ⟨σ',H',I,q⟩:=h; exact ⟨σ',H',I.unwish,q⟩
 | ret u=>obtain ⟨v,σ',H',I,r,q⟩:=h; exact ⟨v,σ',H',I.unwish,r,q⟩
def PSs.nox {st:List Stmt} {t:TS} (h:PSs X.nox st t):PSs X st t:=λ pins s σ H D I hw=>
 wpAny_mono (h pins s σ H D (I.wish _) hw) (λ _ _ q=>q.unwish) λ _ _ z=>False.elim z
end
section
variable {X:Cx} {st:Stmt} {rest:List Stmt} {t u:TS} {e:Expr} {te:TE} {pos:Pos}
noncomputable def zlI:TS:=λ D σ H=>D.nx σ H
noncomputable def tSeq (t u:TS):TS:=λ D σ H=>t { D with nx:=u D } σ H
def zap:PSs X [] zlI:=λ _ _ σ H _ I h=>wpAny_execs_nil ⟨σ,H,I,h⟩
def zad (h1:PS X st t) (h2:PSs X rest u):PSs X (st :: rest) (tSeq t u):=by
 intro pins s σ H D I h;refine wpAny_execs_cons (thn (h1 pins s σ H { D with nx:=u D } I h) λ f s1 q=>?_);cases f with
 | next=>
  obtain ⟨σ',H',I',q⟩:=q;exact h2 pins s1 σ' H' D I' q
 | ret v=>exact q
 | brk=>exact q
 | cont=>exact q
def zae (h1:PS X st t):PSs X [st] t:=by
 intro pins s σ H D I h;refine wpAny_execs_cons (thn (h1 pins s σ H D I h) λ f s1 q=>?_);cases f with
 | next=>exact wpAny_execs_nil q
 | ret v=>exact q
 | brk=>exact q
 | cont=>exact q
def Inv.quiet {pins:List (Addr × Obj)} {σ:St} {H:Hp} {s:Shared} (I:Inv X pins σ H s):interactive X.env=false:=by simp [interactive,I.ok.kind]
noncomputable def zl1 (te:TE):TS:=λ D σ H=>te σ H λ _ H1=>D.nx σ H1
def zgI (he:PE X e te) (hs:swapsWith e none pos.line X.env=pure false:=by rfl):PS X (.Expr e pos) (zl1 te):=by
 intro pins s σ H D I h;exact wpAny_Expr_any (thn (he pins s σ H _ I h) λ v s1 ⟨x,H1,I1,r1,q1⟩=>⟨σ,H1,I1,q1⟩) I.quiet hs
noncomputable def tRet (te:TE):TS:=λ D σ H=>te σ H D.rt
def zak (he:PE X e te):PS X (.Return (some e) pos) (tRet te):=by
 intro pins s σ H D I h;exact wpAny_Return_some (thn (he pins s σ H _ I h) λ v s1 ⟨x,H1,I1,r1,q1⟩=>⟨x,σ,H1,I1,r1,q1⟩)
noncomputable def tIfS (c:TT) (t u:TS):TS:=λ D σ H=>c σ H λ b H1=>if b=true then t D σ H1 else u D σ H1
def zaI {c:Expr} {a b:List Stmt} {tc:TT} (hc:PT X c tc) (ha:PSs X a t) (hb:PSs X b u):PS X (.If c a b pos) (tIfS tc t u):=by
 intro pins s σ H D I h;refine wpAny_If (thn (hc pins s σ H _ I h) λ d s1 ⟨H1,I1,q1⟩=>?_);cases d with
 | true=>exact ha pins s1 σ H1 D I1 q1
 | false=>exact hb pins s1 σ H1 D I1 q1
end
noncomputable abbrev TG:=V -> St -> Hp -> (St -> Hp -> Prop) -> Prop
noncomputable abbrev TGs:=List V -> St -> Hp -> (St -> Hp -> Prop) -> Prop
noncomputable def PG (X:Cx) (target:Expr) (t:TG):Prop:=
 ∀ (pins:List (Addr × Obj)) (s:Shared) (σ:St) (H:Hp) (v:V) (u:Value) (Q:St -> Hp -> Prop),Inv X pins σ H s -> RelV v u -> t v σ H Q ->
  wpAny (model X.prog X.w) X.A (assign target X.env u) (λ _ s'=>∃ σ' H',Inv X pins σ' H' s' /\ Q σ' H') X.xe s
noncomputable def PGs (X:Cx) (ts:List Expr) (t:TGs):Prop:=
 ∀ (pins:List (Addr × Obj)) (s:Shared) (σ:St) (H:Hp) (vs:List V) (us:List Value) (Q:St -> Hp -> Prop),Inv X pins σ H s -> Vals vs us -> t vs σ H Q ->
  wpAny (model X.prog X.w) X.A (assignInOrder ((assignEach ts X.env).map (·.2)) us) (λ _ s'=>∃ σ' H',Inv X pins σ' H' s' /\ Q σ' H') X.xe s
noncomputable abbrev TSet:=V -> V -> V -> Hp -> (Hp -> Prop) -> Prop
noncomputable def PSet (X:Cx) (t:TSet):Prop:=
 ∀ (pins:List (Addr × Obj)) (s:Shared) (σ:St) (H:Hp) (o i v:V) (ov iv u:Value) (Q:Hp -> Prop),Inv X pins σ H s -> RelV o ov -> RelV i iv -> RelV v u -> t o i v H Q ->
  wpAny (model X.prog X.w) X.A (setItem ov iv u) (λ _ s'=>∃ H',Inv X pins σ H' s' /\ Q H') X.xe s
section
variable {X:Cx} {pos:Pos}
noncomputable def zkY (i:Nat):TG:=λ v σ H Q=>Q (σ.set i (some v)) H
def zaC {i:Nat} {x:Str} (hN:X.N.Nodup) (hi:X.N[i]?=some x) (hx:Loc X.env.scope x) (hf:X.fn x=true \/ X.env.scope.names.lookup x=some .local:=by first | exact .inl rfl | exact .inr rfl | assumption):PG X (.Name x pos) (zkY i):=by
 intro pins s σ H v u Q I r h;exact wpAny_assign_Name (zdg I hN hi hx r (λ s' I'=>⟨_,H,I',h⟩) hf)
noncomputable def gNil:TGs:=λ vs σ H Q=>vs=[] /\ Q σ H
noncomputable def zno (t:TG) (u:TGs):TGs:=λ vs σ H Q=>∃ v r,vs=v :: r /\ t v σ H λ σ' H'=>u r σ' H' Q
def zfb:PGs X [] gNil:=by
 intro pins s σ H vs us Q I r h;obtain ⟨e,h⟩:=h;subst e;cases r;exact assignInOrder_nil ⟨σ,H,I,h⟩
def zbh {e:Expr} {es:List Expr} {t:TG} {u:TGs} (h1:PG X e t) (h2:PGs X es u)
  (hs:(assignEach (e :: es) X.env).map (·.2)=assign e X.env :: (assignEach es X.env).map (·.2):=by rfl):PGs X (e :: es) (zno t u):=by
 intro pins s σ H vs us Q I r h;obtain ⟨v,vr,e1,h⟩:=h;subst e1;cases r with
 | cons r rr=>
  rw [hs];refine assignInOrder_cons (thn (h1 pins s σ H _ _ _ I r h) λ _ s1 ⟨σ1,H1,I1,q1⟩=>?_);exact h2 pins s1 σ1 H1 _ _ Q I1 rr q1
noncomputable def gTup (K:PySem.W.Frag) (n:Nat) (t:TGs):TG:=λ v σ H Q=>∃ a xs,v=.ref a /\ SqT K H a xs /\ xs.length=n /\ t xs σ H Q
def zmN {es:List Expr} {k:Nat} {t:TGs} {n:Nat} (hc:X.calm=true) (h:PGs X es t)
  (hn:(assignEach es X.env).length=n:=by rfl) (hst:(assignEach es X.env).findIdx? (·.1)=none:=by rfl):PG X (.Tuple es k pos) (gTup X.K n t):=by
 intro pins s σ H v u Q I r hw;obtain ⟨a,xs,e1,hq,hl,hw⟩:=hw;subst e1;cases r;obtain ⟨its,rv,ht,hz⟩:=I.tuple hq;refine assign_Tuple_tuple (I.ok.hd hc) ht (by simp [hn,<- hl,rv.length]) hst λ h' hx=>?_;have I1:Inv X pins σ H { s with heap:=h' }:=I.kept (t':=s.toks) λ b o e=>hx b o (yaB (yai e)) e;exact h pins _ σ H xs _ Q I1 (by simpa using rv) hw
noncomputable def gSub (to ti:TE) (t:TSet):TG:=λ v σ H Q=>to σ H λ o H1=>ti σ H1 λ i H2=>t o i v H2 λ H3=>Q σ H3
def zch {o i:Expr} {to ti:TE} {t:TSet} (ho:PE X o to) (hi:PE X i ti) (hs:PSet X t)
  (ha : ∀ v, assign (.Subscript o i pos) X.env v = (do
   let ov <- holding [v] (eval o X.env)
   let iv <- holding [v,ov] (eval i X.env)
   standAt pos
   holding [v,ov,iv] (setItem ov iv v)
   release [v,ov,iv] []):=by intro _; rfl):PG X (.Subscript o i pos) (gSub to ti t):=by
 intro pins s σ H v u Q I r h;rw [ha];refine wpAny_bind (wpAny_holding (thn (ho pins s σ H _ I h) λ ov s1 ⟨x,H1,I1,r1,q1⟩=>?_));refine wpAny_bind (wpAny_holding (thn (hi pins s1 σ H1 _ I1 q1) λ iv s2 ⟨y,H2,I2,r2,q2⟩=>?_));refine wpAny_bind (wpAny_standAt (wpAny_bind (wpAny_holding (thn (hs pins s2 σ H2 x y v ov iv u _ I2 r1 r2 r q2) λ _ s3 ⟨H3,I3,q3⟩=>?_))));exact wpAny_release ⟨σ,H3,I3,q3⟩
noncomputable def tAsg (te:TE) (g:TG):TS:=λ D σ H=>te σ H λ x H1=>g x σ H1 D.nx
def zcd {tg e:Expr} {te:TE} {g:TG} (he:PE X e te) (hg:PG X tg g) (hs:swapsWithSole [tg] e pos.line X.env=pure false:=by rfl) (hw:swappedStores [tg] e X.env=pure none:=by rfl)
  (h1:(assignEach [tg] X.env).map (·.2)=[assign tg X.env]:=by rfl):PS X (.Assign [tg] e pos) (tAsg te g):=by
 intro pins s σ H D I h;refine wpAny_Assign_stores (thn (he pins s σ H _ I h) λ v s1 ⟨x,H1,I1,r1,q1⟩=>?_) hs hw;rw [h1];exact thn (hg pins s1 σ H1 x v _ I1 r1 q1) λ _ s2 q=>q
def zav {i:Nat} {x:Str} {e:Expr} {te:TE} {pos':Pos} (hN:X.N.Nodup) (hi:X.N[i]?=some x) (hx:Loc X.env.scope x) (he:PE X e te) (hs:swapsWith e (some (.Name x pos')) pos.line X.env=pure false:=by rfl) (hf:X.fn x=true \/ X.env.scope.names.lookup x=some .local:=by first | exact .inl rfl | exact .inr rfl | assumption) :
  PS X (.Assign [.Name x pos'] e pos) (tAsg te (zkY i)):=by
 intro pins s σ H D I h;refine wpAny_Assign_Name (thn (he pins s σ H _ I h) λ v s1 ⟨y,H1,I1,r1,q1⟩=>?_) hs;exact zdg I1 hN hi hx r1 (λ s2 I2=>⟨_,H1,I2,q1⟩) hf
noncomputable def tPar (i j:Nat) (ta:TA):TS:=λ D σ H=>ta σ H λ vs H1=>∃ v w,vs=[v,w] /\ D.nx ((σ.set i (some v)).set j (some w)) H1
def zlW {i j:Nat} {x y:Str} {a b:Expr} {ta:TA} {px py pt:Pos} {kt k2 pt2} (hc:X.calm=true) (hN:X.N.Nodup) (hi:X.N[i]?=some x) (hj:X.N[j]?=some y) (hij:i ≠ j)
  (hx:X.env.scope.names.lookup x=some .local) (hy:X.env.scope.names.lookup y=some .local) (ha:PA X [a,b] ta)
  (hw:swappedStores [.Tuple [.Name x px,.Name y py] kt pt] (.Tuple [a,b] k2 pt2) X.env=pure (some [x,y]))
  (hs:swapsWithSole [.Tuple [.Name x px,.Name y py] kt pt] (.Tuple [a,b] k2 pt2) pos.line X.env=pure false:=by rfl) :
  PS X (.Assign [.Tuple [.Name x px,.Name y py] kt pt] (.Tuple [a,b] k2 pt2) pos) (tPar i j ta):=by
 intro pins s σ H D I h;rw [exec_Assign_arm];refine wpAny_bind (wpAny_standAt ?_);rw [hs];refine wpAny_bind (wpAny_pure ?_);rw [if_neg (3:)];refine wpAny_bind (Tuple_ (thn (ha _ pins s σ H _ I h) λ us s1 ⟨vs,H1,I1,r1,q1⟩=>?_));obtain ⟨v,w,e1,q1⟩:=q1;subst e1
 obtain ⟨u1,u2,rfl,rv,rw'⟩:∃ u1 u2,us=[u1,u2] /\ RelV v u1 /\ RelV w u2:=by
  cases r1 with
  | cons p q=>
   cases q with
   | cons p' q'=>
    cases q';exact ⟨_,_,rfl,p,p'⟩
 refine wpAny_newObj_type ?_ (by show 2 <= sizeLine; decide);have I2:Inv X pins σ H1 { s1 with heap:=s1.heap.push { cls:=.type "tuple",data:=.seq [u1,u2].toArray } }:=I1.kept (t':=s1.toks) λ b o e=>yag _ e;rw [hw];refine wpAny_bind (wpAny_pure ?_);show wpAny (model X.prog X.w) X.A (do rule "assign.swapped-stores"; let items <- unpackItems (.ref s1.heap.objs.size) 2 none; assignInOrder [λ v=>bindName X.env y v,λ v=>bindName X.env x v] items.reverse; pure Flow.next) _ _ _;refine wpAny_bind (wpAny_rule (wpAny_bind (unpackItems_tuple (items:=#[u1,u2]) (I.ok.hd hc) (IsTup.new s1.heap _) λ h' hx'=>?_)));have I3:=I2.kept (h':=h') (t':=s1.toks) λ b o e=>hx' b o (yaB (yai e)) e;show wpAny _ _ (assignInOrder [λ v=>bindName X.env y v,λ v=>bindName X.env x v] [u2,u1] >>= λ _=>pure Flow.next) _ _ _;refine wpAny_bind (assignInOrder_cons (wpAny_bindName (zdg I3 hN hj (.inl hy) rw' (λ s2 I4=>?_) (.inr hy))));refine assignInOrder_cons (wpAny_bindName (zdg I4 hN hi (.inl hx) rv (λ s3 I5=>assignInOrder_nil (wpAny_pure ?_)) (.inr hx)));rw [List.set_comm _ _ (Ne.symm hij)] at I5;exact ⟨_,H1,I5,q1⟩
end
section
variable {X:Cx} {pos:Pos}
noncomputable def zkI (c:TT) (tb:TS):TS:=λ D σ H=>∃ W:Nat -> St -> Hp -> Prop,(∃ m,W m σ H) /\ ∀ m σ H,W m σ H ->
 c σ H λ b H1=>if b=true then ∃ N:St -> Hp -> Prop,(∀ σ' H',N σ' H' -> ∃ m',m' < m /\ W m' σ' H') /\ tb { D with nx:=N,ct:=N,bk:=D.nx } σ H1 else D.nx σ H1
def zhg {c:Expr} {body:List Stmt} {tc:TT} {tb:TS} (hp:PassesOwn (model X.prog X.w) X.A X.env X.xe) (hc:PT X c tc) (hb:PSs X body tb):PS X (.While c body [] pos) (zkI tc tb):=by
 intro pins s σ H D I h;obtain ⟨W,⟨m0,w0⟩,turn⟩:=h;refine wpAny_While (codeAny_whileLoop (λ n s'=>∃ σ' H',Inv X pins σ' H' s' /\ W n σ' H') ?_ m0 ⟨σ,H,I,w0⟩);rintro n s1 ⟨σ1,H1,I1,w1⟩;refine wpAny_passesOwn hp (thn (hc pins s1 σ1 H1 _ I1 (turn n σ1 H1 w1)) λ b s2 ⟨H2,I2,q2⟩=>?_);cases b with
 | true=>
  obtain ⟨N,hN,q2⟩:=q2;rw [if_pos rfl];refine wpAny_passesOwn hp (thn (hb pins s2 σ1 H2 _ I2 q2) λ f s3 q3=>?_);cases f with
  | next=>
   obtain ⟨σ3,H3,I3,n3⟩:=q3;obtain ⟨m',hm,w3⟩:=hN σ3 H3 n3;exact ⟨m',hm,σ3,H3,I3,w3⟩
  | cont=>
   obtain ⟨σ3,H3,I3,n3⟩:=q3;obtain ⟨m',hm,w3⟩:=hN σ3 H3 n3;exact ⟨m',hm,σ3,H3,I3,w3⟩
  | brk=>exact q3
  | ret v=>exact q3
 | false=>
  rw [if_neg yar];exact wpAny_execs_nil ⟨σ1,H2,I2,q2⟩
end
structure It where
 go:Nat -> Hp -> Prop
 yld:Nat -> Hp -> V -> Hp -> Prop
 stop:Nat -> Hp -> Prop
noncomputable def FpOk (X:Cx) (pins:List (Addr × Obj)) (H:Hp) (b:Addr):Prop:=
 H b=none /\ b ≠ X.env.locals /\ b ∉ X.fs /\ (b ∈ X.ex \/ X.s₀.heap.objs.size <= b) /\ (∀ x c,X.env.cells.lookup x=some c -> c ≠ b) /\ ∀ p ∈ X.pn ++ pins,p.1 ≠ b
def Inv.fpOk {X:Cx} {pins:List (Addr × Obj)} {σ:St} {H H':Hp} {s:Shared} {b:Addr} (I:Inv X pins σ H s) (hb:s.heap.objs.size <= b) (hn:H' b=none):FpOk X pins H' b:=by
 refine ⟨hn,ybO (yah I.lt hb),I.nofs hb,.inr (yax I.sz hb),λ x c e z=>?_,λ p hp z=>?_⟩
 ·obtain ⟨v,q⟩:=I.cell x c e;exact absurd (yah q.lt (by rw [z]; exact hb)) (yaU _)
 ·exact absurd (yah (yai (I.pin p hp).1) (by rw [z]; exact hb)) (yaU _)
structure Turn (P:Program) (w:World) (K:PySem.W.Frag) (tg:Expr) (J:It) (fp:List Addr) (it:Addr) (tn:Nat -> Heap -> Prop):Prop where
 mem:it ∈ fp
 obj:∀ i h,tn i h -> ∀ b ∈ fp,∃ o,h.get? b=some o /\ ∀ v,o.data ≠ .cell v
 keep:∀ i h h',tn i h -> (∀ b ∈ fp,∀ o,h.get? b=some o -> h'.get? b=some o) -> tn i h'
 item:∀ (X:Cx),X.prog=P -> X.w=w -> X.K=K -> X.calm=true -> ∀ (i:Nat) (pins:List (Addr × Obj)) (s:Shared) (σ:St) (H:Hp) (E:Value -> Shared -> Prop),Inv X pins σ H s -> (∀ b ∈ fp,FpOk X pins H b) -> tn i s.heap -> J.go i H ->
  wpAny (model P w) X.A (pyNext (.ref it)) (λ r s1=>∃ u,r=some u /\
   wpAny (model P w) X.A (letOwnedTupleGo tg (.ref it) u) (λ _ s2=>∃ x H',Inv X pins σ H' s2 /\ RelV x u /\ J.yld i H x H' /\ tn (i + 1) s2.heap /\ ∀ b ∈ fp,H' b=none) E s1) E s
 done:∀ (X:Cx),X.prog=P -> X.w=w -> X.K=K -> X.calm=true -> ∀ (i:Nat) (pins:List (Addr × Obj)) (s:Shared) (σ:St) (H:Hp) (E:Value -> Shared -> Prop),Inv X pins σ H s -> (∀ b ∈ fp,FpOk X pins H b) -> tn i s.heap -> J.stop i H ->
  wpAny (model P w) X.A (pyNext (.ref it)) (λ r s1=>r=none /\ Inv X pins σ H s1) E s
 self:∀ (A:Around) (i:Nat) (s:Shared) (Q:Value -> Shared -> Prop) (E:Value -> Shared -> Prop),tn i s.heap -> Q (.ref it) s -> wpAny (model P w) A (pyIter (.ref it)) Q E s
noncomputable abbrev TI:=St -> Hp -> (It -> Hp -> Prop) -> Prop
noncomputable def PIE (X:Cx) (pins:List (Addr × Obj)) (σ:St) (tg:Expr) (R:It -> Hp -> Prop) (itv:Value) (s2:Shared):Prop:=
 ∃ (it:Addr) (fp:List Addr) (tn:Nat -> Heap -> Prop) (J:It) (H':Hp),itv=.ref it /\ Inv X pins σ H' s2 /\ Turn X.prog X.w X.K tg J fp it tn /\ tn 0 s2.heap /\ (∀ b ∈ fp,FpOk X pins H' b) /\ R J H'
noncomputable def PI (X:Cx) (tg iter:Expr) (wi:TI):Prop:=
 ∀ (pins:List (Addr × Obj)) (s:Shared) (σ:St) (H:Hp) (R:It -> Hp -> Prop),Inv X pins σ H s -> wi σ H R ->
  wpAny (model X.prog X.w) X.A (eval iter X.env) (λ v s1=>wpAny (model X.prog X.w) X.A (pyIter v) (PIE X pins σ tg R) X.xe s1) X.xe s
def zk7 {M:Model} {A:Around} {E:Value -> Shared -> Prop} {s:Shared} {tg:Expr} {it:Addr} {u:Value} {o:Obj} {n:String} {vs:Array Value} {Q:Unit -> Shared -> Prop} (ho:s.heap.get? it=some o) (hc:o.cls=.type n) (hd:o.data=.fields vs)
    (hn:["enumerate","zip","dict_itemiterator","dict_reverseitemiterator","odict_iterator","itertools.zip_longest","itertools.pairwise"].contains n=false) (hQ:Q () s):wpAny M A (letOwnedTupleGo tg (.ref it) u) Q E s:=by
  unfold letOwnedTupleGo
  cases tg <;> first
    | exact wpAny_pure hQ
    | (cases u <;> first
        | exact wpAny_pure hQ
        | (refine wpAny_bind (wpAny_load ho ?_)
           rw [hc,hd];show wpAny M A (if (["enumerate","zip","dict_itemiterator","dict_reverseitemiterator","odict_iterator","itertools.zip_longest","itertools.pairwise"].contains n && vs[0]? == some (rawInt _))=true then _ else _) Q E s;rw [if_neg (by intro h; rw [hn,ybv] at h; cases h)];exact wpAny_pure hQ))
noncomputable def Itl (K:PySem.W.Frag) (a:Addr):It:=
 ⟨λ i H=>∃ xs x,SqL K H a xs /\ xs[i]?=some x,λ i H x H'=>H'=H /\ ∀ xs,SqL K H a xs -> xs[i]?=some x,λ i H=>∃ xs,SqL K H a xs /\ xs.length <= i⟩
noncomputable def Itt (K:PySem.W.Frag) (a:Addr):It:=
 ⟨λ i H=>∃ xs x,SqT K H a xs /\ xs[i]?=some x,λ i H x H'=>H'=H /\ ∀ xs,SqT K H a xs -> xs[i]?=some x,λ i H=>∃ xs,SqT K H a xs /\ xs.length <= i⟩
noncomputable def Itr (lo:Int) (n:Nat):It:=⟨λ i _=>i < n,λ i H x H'=>H'=H /\ x=.int (lo + i),λ i _=>n <= i⟩
def ziN {P:Program} {w:World} {K:PySem.W.Frag} {tg:Expr} (a it:Addr):Turn P w K tg (Itl K a) [it] it (λ i h=>h.IsListIter it a i) where
 mem:=by simp
 obj:=λ i h st b hb=>by
  have e:b=it:=by simpa using hb
  subst e;obtain ⟨o,e,c,d⟩:=st;exact ⟨o,e,λ v z=>by rw [d] at z; cases z⟩
 keep:=λ i h h' st k=>st.at λ o e=>k it (6:) o e
 item:=by
  intro X hP hw hK hc i pins s σ H E I hf st hg;subst hP hw hK;obtain ⟨xs,x,hq,hx⟩:=hg;obtain ⟨its,rv,p,hz⟩:=I.list hq;obtain ⟨u,hu,ru⟩:=rv.get hx;obtain ⟨f0,f1,f2,f3,f4,f5⟩:=hf it (6:);refine wpAny_pyNext_list_item st p.isList (x:=u) (by simpa using hu) λ h' st' sb=>?_;have I1:Inv X pins σ H { s with heap:=h' }:=I.turned (t':=s.toks) (λ b o hb e=>(sb.2 b hb).trans e) f0 f1 f3 f4 f5;obtain ⟨o,e,c,d⟩:=id st';exact ⟨u,rfl,zk7 (s:={ s with heap:=h' }) e c d (3:) ⟨x,H,I1,ru,⟨rfl,λ ys hy=>by rw [I.list_inj hy hq]; exact hx⟩,st',λ b hb=>(hf b hb).1⟩⟩
 done:=by
  intro X hP hw hK hc i pins s σ H E I hf st hg;subst hP hw hK;obtain ⟨xs,hq,hx⟩:=hg;obtain ⟨its,rv,p,hz⟩:=I.list hq;obtain ⟨f0,f1,f2,f3,f4,f5⟩:=hf it (6:);have hl:=rv.length;exact wpAny_pyNext_list_end (I.ok.hd hc) st p.isList (38:) λ h' eb=>⟨rfl,I.turned (t':=s.toks) (λ b o hb e=>eb b o hb e) f0 f1 f3 f4 f5⟩
 self:=λ _ _ _ _ _ st h=>wpAny_pyIter_listiter st h
def zhM {P:Program} {w:World} {K:PySem.W.Frag} {tg:Expr} (a it:Addr):Turn P w K tg (Itt K a) [it] it (λ i h=>h.IsTupleIter it a i) where
 mem:=by simp
 obj:=λ i h st b hb=>by
  have e:b=it:=by simpa using hb
  subst e;obtain ⟨o,e,c,d⟩:=st;exact ⟨o,e,λ v z=>by rw [d] at z; cases z⟩
 keep:=λ i h h' st k=>st.at λ o e=>k it (6:) o e
 item:=by
  intro X hP hw hK hc i pins s σ H E I hf st hg;subst hP hw hK;obtain ⟨xs,x,hq,hx⟩:=hg;obtain ⟨its,rv,p,hz⟩:=I.tuple hq;obtain ⟨u,hu,ru⟩:=rv.get hx;obtain ⟨f0,f1,f2,f3,f4,f5⟩:=hf it (6:);refine wpAny_pyNext_tuple_item st (show s.heap.IsTuple a its.toArray from p) (x:=u) (by simpa using hu) λ h' st' sb=>?_;have I1:Inv X pins σ H { s with heap:=h' }:=I.turned (t':=s.toks) (λ b o hb e=>(sb.2 b hb).trans e) f0 f1 f3 f4 f5;obtain ⟨o,e,c,d⟩:=id st';exact ⟨u,rfl,zk7 (s:={ s with heap:=h' }) e c d (3:) ⟨x,H,I1,ru,⟨rfl,λ ys hy=>by rw [I.tuple_inj hy hq]; exact hx⟩,st',λ b hb=>(hf b hb).1⟩⟩
 done:=by
  intro X hP hw hK hc i pins s σ H E I hf st hg;subst hP hw hK;obtain ⟨xs,hq,hx⟩:=hg;obtain ⟨its,rv,p,hz⟩:=I.tuple hq;obtain ⟨f0,f1,f2,f3,f4,f5⟩:=hf it (6:);have hl:=rv.length;exact wpAny_pyNext_tuple_end (I.ok.hd hc) st (show s.heap.IsTuple a its.toArray from p) (38:) λ h' eb=>⟨rfl,I.turned (t':=s.toks) (λ b o hb e=>eb b o hb e) f0 f1 f3 f4 f5⟩
 self:=λ _ _ _ _ _ st h=>wpAny_pyIter_tupleiter st h
def zhW {P:Program} {w:World} {K:PySem.W.Frag} {tg:Expr} (it:Addr) (lo:Int) (n:Nat):Turn P w K tg (Itr lo n) [it] it (λ i h=>IsRangeIter h it (lo + (i:Nat) * 1) ((n:Int) - (i:Nat)) 1) where
 mem:=by simp
 obj:=λ i h st b hb=>by
  have e:b=it:=by simpa using hb
  subst e
  exact ⟨_,st,λ v z=>by
   have z':Data.fields _=Data.cell v:=z;cases z'⟩
 keep:=λ i h h' st k=>k it (6:) _ st
 item:=by
  intro X hP hw hK hc i pins s σ H E I hf st hg;subst hP hw hK;obtain ⟨f0,f1,f2,f3,f4,f5⟩:=hf it (6:);have W:=Walks.range (prog:=X.prog) (w:=X.w) (I.ok.hd hc) it lo 1 n;refine W.item i s _ _ hg st λ v h' tk hv st' kk=>?_;obtain ⟨t,rfl⟩:=hv;have I1:Inv X pins σ H { s with heap:=h',toks:=tk }:=I.turned (λ b o hb e=>kk b o (by simpa using hb) e) f0 f1 f3 f4 f5;refine ⟨_,rfl,zk7 (s:={ s with heap:=h',toks:=tk }) (n:="range_iterator") st' rfl rfl (3:) ⟨.int (lo + i),H,I1,⟨t,?_⟩,⟨rfl,rfl⟩,st',λ b hb=>(hf b hb).1⟩⟩;rw [Int.mul_one]
 done:=by
  intro X hP hw hK hc i pins s σ H E I hf st hg;subst hP hw hK;obtain ⟨f0,f1,f2,f3,f4,f5⟩:=hf it (6:);exact wpAny_pyNext_range_end (I.ok.hd hc) st (by have:n <= i:=hg; omega) λ h' eb=>⟨rfl,I.turned (t':=s.toks) (λ b o hb e=>eb b o hb e) f0 f1 f3 f4 f5⟩
 self:=λ _ _ _ _ _ st h=>wpAny_pyIter_rangeiter st h
section
variable {X:Cx} {tg:Expr}
def zks {pins:List (Addr × Obj)} {σ:St} {H:Hp} {s:Shared} {R:It -> Hp -> Prop} {E:Value -> Shared -> Prop} {lo hi:Int} {t u v:Tok} {tk:Nat} (I:Inv X pins σ H s) (h1:-(2 ^ 62) <= lo) (h2:lo < 2 ^ 62) (h3:-(2 ^ 62) <= hi) (h4:hi < 2 ^ 62)
  (q:R (Itr lo (hi - lo).toNat) H):wpAny (model X.prog X.w) X.A (pyIter (.ref s.heap.objs.size)) (PIE X pins σ tg R) E { s with heap:=s.heap.push { cls:=.type "range",data:=.fields #[.int lo t,.int hi u,.int 1 v] },toks:=tk }:=by
 refine wpAny_pyIter_range (IsRange.new ..) (small_one h1 h2 h3 h4) ?_;have I1:Inv X pins σ H { s with heap:=s.heap.push { cls:=.type "range",data:=.fields #[.int lo t,.int hi u,.int 1 v] },toks:=tk }:=I.kept λ b o e=>yag _ e
 refine ⟨(s.heap.push { cls:=.type "range",data:=.fields #[.int lo t,.int hi u,.int 1 v] }).objs.size,[(s.heap.push { cls:=.type "range",data:=.fields #[.int lo t,.int hi u,.int 1 v] }).objs.size],_,_,H,rfl,
  I1.kept (t':=tk) λ b o e=>yag _ e,zhW _ lo (hi - lo).toNat,?_,λ b hb=>?_,q⟩
 ·have e1 : lo + ((0 : Nat) : Int) * 1 = lo := by simp
  have e2:(((hi - lo).toNat:Nat):Int) - ((0:Nat):Int)=Builtin.Range.rangeSize lo hi 1:=by rw [rangeSize_one]; split <;> omega
  show IsRangeIter _ _ (lo + ((0:Nat):Int) * 1) ((((hi - lo).toNat:Nat):Int) - ((0:Nat):Int)) 1;rw [e1,e2];exact yao _ rfl
 ·have e : b = (s.heap.push { cls := .type "range", data := .fields #[.int lo t, .int hi u, .int 1 v] }).objs.size := by simpa using hb
  subst e;exact I1.fpOk (yad _) (I1.hok.fresh (yad _))
noncomputable def zmt (ta:TA):TI:=λ σ H R=>ta σ H λ vs H1=>∃ j:Int,vs=[.int j] /\ -(2 ^ 62) <= j /\ j < 2 ^ 62 /\ R (Itr 0 j.toNat) H1
def za5 {a:Expr} {ta:TA} {p pos:Pos} (hg:Gl X "range") (hm:X.mg "range"=none) (ha:PA X [a] ta) (hs:starEach [a] X.env=[(false,eval a X.env)]:=by rfl):PI X tg (.Call (.Name "range" p) [a] [] pos) (zmt ta):=by
 intro pins s σ H R I h;refine Call_ (zev I hg hm boot_range (yaV (thn (ha pos pins s σ H _ I h) λ us s1 ⟨vs,H1,I1,r1,q1⟩=>?_) hs rfl));obtain ⟨j,e,q1,q2,q⟩:=q1;subst e;cases r1 with
 | cons r rr=>
  cases rr;obtain ⟨t,rfl⟩:=r;exact call_range_1 (zks I1 (1:) (1:) q1 q2 (by simpa using q))
noncomputable def tFor (wi:TI) (g:TG) (tb:TS):TS:=λ D σ H=>wi σ H λ J H1=>∃ W:Nat -> Nat -> St -> Hp -> Prop,(∃ m,W 0 m σ H1) /\ ∀ i m σ H,W i m σ H ->
 (J.stop i H /\ D.nx σ H) \/ (J.go i H /\ ∃ N:St -> Hp -> Prop,(∀ σ' H',N σ' H' -> ∃ m',m' < m /\ W (i + 1) m' σ' H') /\ ∀ x H',J.yld i H x H' -> g x σ H' λ σ2 H2=>tb { D with nx:=N,ct:=N,bk:=D.nx } σ2 H2)
noncomputable def zgg (fp:List Addr) (h:Heap):List (Addr × Obj):=fp.filterMap λ b=>(h.get? b).map λ o=>(b,o)
def zdH {fp:List Addr} {h:Heap} {b:Addr} {o:Obj} (hb:b ∈ fp) (e:h.get? b=some o):(b,o) ∈ zgg fp h:=List.mem_filterMap.mpr ⟨b,hb,by rw [e]; rfl⟩
def zis {fp:List Addr} {h:Heap} {p:Addr × Obj} (hp:p ∈ zgg fp h):p.1 ∈ fp /\ h.get? p.1=some p.2:=by
 obtain ⟨b,hb,e⟩:=List.mem_filterMap.mp hp;cases q:h.get? b with
 | none=>rw [q] at e; cases e
 | some o=>
  rw [q] at e;have e':(b,o)=p:=Option.some.inj e;subst e';exact ⟨hb,q⟩
def Inv.pinned {pins:List (Addr × Obj)} {σ:St} {H:Hp} {s:Shared} {fp:List Addr} (I:Inv X pins σ H s) (hf:∀ b ∈ fp,FpOk X pins H b) (ho:∀ b ∈ fp,∃ o,s.heap.get? b=some o /\ ∀ v,o.data ≠ .cell v):Inv X (pins ++ zgg fp s.heap) σ H s:=
 I.pins_of λ p hp=>(yaK.mp hp).elim (λ z=>I.pin p (yat _ z)) λ z=>by
  obtain ⟨hb,e⟩:=zis z;obtain ⟨f0,f1,f2,_⟩:=hf p.1 hb;obtain ⟨o,e',d⟩:=ho p.1 hb;rw [e] at e'; cases e';exact ⟨e,f0,f1,f2,d⟩
def Inv.unpinned {pins pl:List (Addr × Obj)} {σ:St} {H:Hp} {s:Shared} (I:Inv X (pins ++ pl) σ H s):Inv X pins σ H s:=I.pins_of λ p hp=>I.pin p (yat _ (ybs _ hp))
def zeX {iter:Expr} {body:List Stmt} {wi:TI} {g:TG} {tb:TS} {pos:Pos} (hp:PassesOwn (model X.prog X.w) X.A X.env X.xe) (hc:X.calm=true) (hi:PI X tg iter wi) (hg:PG X tg g) (hb:PSs X body tb)
  (hs:∀ x,foldedSetIterable iter X.env x=pure x:=by intro _; rfl):PS X (.For tg iter body [] pos) (tFor wi g tb):=by
 intro pins s σ H D I h;refine wpAny_For (thn (hi pins s σ H _ I h) λ v s1 h1=>thn h1 λ itv s2 h2=>?_) hs;obtain ⟨it,fp,tn,J,H2,e,I2,T,st2,f2,W,⟨m0,w0⟩,turn⟩:=h2;subst e
 -- what stays true of the iterator's objects through the loop
 have stat:∀ {H':Hp},(∀ b ∈ fp,H' b=none) -> ∀ b ∈ fp,FpOk X pins H' b:=λ hn b hb=>⟨hn b hb,(f2 b hb).2⟩
 refine codeAny_forLoop_any (λ n s'=>∃ i σ' H',Inv X pins σ' H' s' /\ tn i s'.heap /\ (∀ b ∈ fp,H' b=none) /\ W i n σ' H') ?_ m0 ⟨0,σ,H2,I2,st2,λ b hb=>(f2 b hb).1,w0⟩;rintro n s3 ⟨i,σ3,H3,I3,st3,fr3,w3⟩;rcases turn i n σ3 H3 w3 with ⟨stop,qn⟩ | ⟨go,N,hN,step⟩
 ·refine wpAny_passesOwn hp (thn (T.done X rfl rfl rfl hc i pins s3 σ3 H3 X.xe I3 (stat fr3) st3 stop) λ r s4 ⟨hr,I4⟩=>?_);subst hr;exact wpAny_execs_nil ⟨σ3,H3,I4,qn⟩
 ·refine wpAny_passesOwn hp (thn (T.item X rfl rfl rfl hc i pins s3 σ3 H3 X.xe I3 (stat fr3) st3 go) fun r s4 ⟨u, hr, h4⟩ => ?_);subst hr;refine wpAny_passesOwn hp (thn h4 fun _ s5 ⟨x, H5, I5, r5, y5, st5, fr5⟩ => ?_);have I5' := I5.pinned (stat fr5) (T.obj _ _ st5);refine wpAny_passesOwn hp (thn (hg _ s5 σ3 H5 x u _ I5' r5 (step x H5 y5)) fun _ s6 ⟨σ6, H6, I6, q6⟩ => ?_);refine wpAny_passesOwn hp (thn (hb _ s6 σ6 H6 _ I6 q6) fun f s7 q7 => ?_)
  have again:∀ {σ7:St} {H7:Hp},Inv X (pins ++ zgg fp s5.heap) σ7 H7 s7 -> N σ7 H7 -> ∃ m,m < n /\ ∃ i σ' H',Inv X pins σ' H' s7 /\ tn i s7.heap /\ (∀ b ∈ fp,H' b=none) /\ W i m σ' H':=λ {σ7 H7} I7 n7=>by
   obtain ⟨m',hm,w7⟩:=hN σ7 H7 n7;refine ⟨m',hm,i + 1,σ7,H7,I7.unpinned,T.keep _ _ _ st5 λ b hb o e=>(I7.pin (b,o) (yat _ (yat _ (zdH hb e)))).1,λ b hb=>?_,w7⟩;obtain ⟨o,e,d⟩:=T.obj _ _ st5 b hb;exact (I7.pin (b,o) (yat _ (yat _ (zdH hb e)))).2.1
  cases f with
  | next=>obtain ⟨σ7,H7,I7,n7⟩:=q7; exact again I7 n7
  | cont=>obtain ⟨σ7,H7,I7,n7⟩:=q7; exact again I7 n7
  | brk=>obtain ⟨σ7,H7,I7,q7⟩:=q7; exact ⟨σ7,H7,I7.unpinned,q7⟩
  | ret v=>obtain ⟨x7,σ7,H7,I7,r7,q7⟩:=q7; exact ⟨x7,σ7,H7,I7.unpinned,r7,q7⟩
end
def zj9 {K:PySem.W.Frag} {a:Addr} {xs:List V} {g:TG} {tb:TS} {D:Ends} {σ:St} {H:Hp} (Pv:Nat -> St -> Hp -> Prop) (h0:Pv 0 σ H) (hl:∀ i σ H,i <= xs.length -> Pv i σ H -> SqL K H a xs)
  (hs:∀ i x σ H,xs[i]?=some x -> Pv i σ H -> g x σ H λ σ2 H2=>tb { D with nx:=Pv (i + 1),ct:=Pv (i + 1),bk:=D.nx } σ2 H2) (hd:∀ σ H,Pv xs.length σ H -> D.nx σ H) :
  ∃ W:Nat -> Nat -> St -> Hp -> Prop,(∃ m,W 0 m σ H) /\ ∀ i m σ H,W i m σ H ->
   ((Itl K a).stop i H /\ D.nx σ H) \/ ((Itl K a).go i H /\ ∃ N:St -> Hp -> Prop,(∀ σ' H',N σ' H' -> ∃ m',m' < m /\ W (i + 1) m' σ' H') /\ ∀ x H',(Itl K a).yld i H x H' -> g x σ H' λ σ2 H2=>tb { D with nx:=N,ct:=N,bk:=D.nx } σ2 H2):=by
 refine ⟨λ i m σ H=>m=xs.length - i /\ i <= xs.length /\ Pv i σ H,⟨xs.length,by simp,yaY _,h0⟩,?_⟩;rintro i m σ H ⟨rfl,hi,p⟩;have q:=hl i σ H hi p;by_cases hlt:i < xs.length
 ·refine .inr ⟨⟨xs,xs[i],q,by simp [hlt]⟩,Pv (i + 1),λ σ' H' p'=>⟨xs.length - (i + 1),by omega,rfl,hlt,p'⟩,λ x H' y=>?_⟩;obtain ⟨e,y⟩:=y;subst e;exact hs i x σ _ (y xs q) p
 ·have e : i = xs.length := by omega
  subst e;exact .inl ⟨⟨xs,q,yad _⟩,hd σ H p⟩
def zll {K:PySem.W.Frag} {a:Addr} {xs:List V} {g:TG} {tb:TS} {D:Ends} {σ:St} {H:Hp} (Pv:Nat -> St -> Hp -> Prop) (h0:Pv 0 σ H) (hl:∀ i σ H,i <= xs.length -> Pv i σ H -> SqT K H a xs)
  (hs:∀ i x σ H,xs[i]?=some x -> Pv i σ H -> g x σ H λ σ2 H2=>tb { D with nx:=Pv (i + 1),ct:=Pv (i + 1),bk:=D.nx } σ2 H2) (hd:∀ σ H,Pv xs.length σ H -> D.nx σ H) :
  ∃ W:Nat -> Nat -> St -> Hp -> Prop,(∃ m,W 0 m σ H) /\ ∀ i m σ H,W i m σ H ->
   ((Itt K a).stop i H /\ D.nx σ H) \/ ((Itt K a).go i H /\ ∃ N:St -> Hp -> Prop,(∀ σ' H',N σ' H' -> ∃ m',m' < m /\ W (i + 1) m' σ' H') /\ ∀ x H',(Itt K a).yld i H x H' -> g x σ H' λ σ2 H2=>tb { D with nx:=N,ct:=N,bk:=D.nx } σ2 H2):=by
 refine ⟨λ i m σ H=>m=xs.length - i /\ i <= xs.length /\ Pv i σ H,⟨xs.length,by simp,yaY _,h0⟩,?_⟩;rintro i m σ H ⟨rfl,hi,p⟩;have q:=hl i σ H hi p;by_cases hlt:i < xs.length
 ·refine .inr ⟨⟨xs,xs[i],q,by simp [hlt]⟩,Pv (i + 1),λ σ' H' p'=>⟨xs.length - (i + 1),by omega,rfl,hlt,p'⟩,λ x H' y=>?_⟩;obtain ⟨e,y⟩:=y;subst e;exact hs i x σ _ (y xs q) p
 ·have e : i = xs.length := by omega
  subst e;exact .inl ⟨⟨xs,q,yad _⟩,hd σ H p⟩
def zjg {lo:Int} {n:Nat} {g:TG} {tb:TS} {D:Ends} {σ:St} {H:Hp} (Pv:Nat -> St -> Hp -> Prop) (h0:Pv 0 σ H)
  (hs:∀ i σ H,i < n -> Pv i σ H -> g (.int (lo + i)) σ H λ σ2 H2=>tb { D with nx:=Pv (i + 1),ct:=Pv (i + 1),bk:=D.nx } σ2 H2) (hd:∀ σ H,Pv n σ H -> D.nx σ H) :
  ∃ W:Nat -> Nat -> St -> Hp -> Prop,(∃ m,W 0 m σ H) /\ ∀ i m σ H,W i m σ H ->
   ((Itr lo n).stop i H /\ D.nx σ H) \/ ((Itr lo n).go i H /\ ∃ N:St -> Hp -> Prop,(∀ σ' H',N σ' H' -> ∃ m',m' < m /\ W (i + 1) m' σ' H') /\ ∀ x H',(Itr lo n).yld i H x H' -> g x σ H' λ σ2 H2=>tb { D with nx:=N,ct:=N,bk:=D.nx } σ2 H2):=by
 refine ⟨λ i m σ H=>m=n - i /\ i <= n /\ Pv i σ H,⟨n,by simp,yaY _,h0⟩,?_⟩;rintro i m σ H ⟨rfl,hi,p⟩;by_cases hlt:i < n
 ·refine .inr ⟨hlt,Pv (i + 1),λ σ' H' p'=>⟨n - (i + 1),by omega,rfl,hlt,p'⟩,λ x H' y=>?_⟩;obtain ⟨e,y⟩:=y;subst e y;exact hs i σ _ hlt p
 ·have e : i = n := by omega
  subst e;exact .inl ⟨yad _,hd σ H p⟩
def zkv {c:TT} {tb:TS} {D:Ends} {σ:St} {H:Hp} (Pv:St -> Hp -> Prop) (μ:St -> Hp -> Nat) (h0:Pv σ H)
  (hs:∀ σ H,Pv σ H -> c σ H λ b H1=>if b=true then tb { D with nx:=λ σ' H'=>Pv σ' H' /\ μ σ' H' < μ σ H,ct:=λ σ' H'=>Pv σ' H' /\ μ σ' H' < μ σ H,bk:=D.nx } σ H1 else D.nx σ H1)
  (mono:∀ σ H Q Q',(∀ b H1,Q b H1 -> Q' b H1) -> c σ H Q -> c σ H Q'):zkI c tb D σ H:=by
 refine ⟨λ m σ H=>m=μ σ H /\ Pv σ H,⟨_,rfl,h0⟩,?_⟩;rintro m σ H ⟨rfl,p⟩;refine mono σ H _ _ (λ b H1 q=>?_) (hs σ H p);cases b with
 | true=>exact ⟨_,λ σ' H' ⟨p',l⟩=>⟨_,l,rfl,p'⟩,q⟩
 | false=>exact q
noncomputable abbrev R2:=V -> V -> Hp -> VK -> Prop
noncomputable def OpR (X:Cx) (f:Value -> Value -> Sem Value) (r:R2):Prop:=
 ∀ (pins:List (Addr × Obj)) (s:Shared) (σ:St) (H:Hp) (x y:V) (v u:Value) (Q:VK),Inv X pins σ H s -> RelV x v -> RelV y u -> r x y H Q ->
  wpAny (model X.prog X.w) X.A (f v u) (EP X pins σ Q) X.xe s
noncomputable def UnR (X:Cx) (f:Value -> Sem Value) (r:V -> Hp -> VK -> Prop):Prop:=
 ∀ (pins:List (Addr × Obj)) (s:Shared) (σ:St) (H:Hp) (x:V) (v:Value) (Q:VK),Inv X pins σ H s -> RelV x v -> r x H Q ->
  wpAny (model X.prog X.w) X.A (f v) (EP X pins σ Q) X.xe s
noncomputable def zbl (X:Cx) (f:Value) (r:List V -> Hp -> VK -> Prop):Prop:=
 ∀ (pins:List (Addr × Obj)) (s:Shared) (σ:St) (H:Hp) (xs:List V) (us:List Value) (Q:VK),Inv X pins σ H s -> Vals xs us -> r xs H Q ->
  wpAny (model X.prog X.w) X.A (call f us) (EP X pins σ Q) X.xe s
noncomputable def tOp (r:R2) (ta tb:TE):TE:=λ σ H Q=>ta σ H λ x H1=>tb σ H1 λ y H2=>r x y H2 Q
noncomputable def tUn (r:V -> Hp -> VK -> Prop) (ta:TE):TE:=λ σ H Q=>ta σ H λ x H1=>r x H1 Q
noncomputable def rI (C:Int -> Int -> Prop) (g:Int -> Int -> V):R2:=λ x y H Q=>∃ i j,x=.int i /\ y=.int j /\ C i j /\ Q (g i j) H
noncomputable def rI0 (g:Int -> Int -> V):R2:=λ x y H Q=>∃ i j,x=.int i /\ y=.int j /\ Q (g i j) H
noncomputable def rU (g:Int -> V):V -> Hp -> VK -> Prop:=λ x H Q=>∃ i,x=.int i /\ Q (g i) H
section
variable {X:Cx} {a b c:Expr} {ta tb tc:TE} {pos:Pos}
def binT (ha:PE X a ta) (hb:PE X b tb) {pins:List (Addr × Obj)} {s:Shared} {σ:St} {H:Hp} {R:V -> V -> Hp -> Prop} (I:Inv X pins σ H s)
  (h:ta σ H λ x H1=>tb σ H1 λ y H2=>R x y H2) {Q:Value -> Shared -> Prop} {f:Value -> Value -> Sem Value}
  (hf:∀ v u s2 x y H2,Inv X pins σ H2 s2 -> RelV x v -> RelV y u -> R x y H2 -> wpAny (model X.prog X.w) X.A (f v u) Q X.xe s2) :
  wpAny (model X.prog X.w) X.A (eval a X.env) (λ v s₁=>wpAny (model X.prog X.w) X.A (eval b X.env) (λ u s₂=>wpAny (model X.prog X.w) X.A (f v u) Q X.xe s₂) X.xe s₁) X.xe s:=by
 refine thn (ha pins s σ H _ I h) λ v s1 ⟨x,H1,I1,r1,q1⟩=>?_;refine thn (hb pins s1 σ H1 _ I1 q1) λ u s2 ⟨y,H2,I2,r2,q2⟩=>?_;exact hf v u s2 x y H2 I2 r1 r2 q2
def zat {op:Operator} {r:R2} (ho:OpR X (binaryOp op) r) (ha:PE X a ta) (hb:PE X b tb):PE X (.BinOp a op b pos) (tOp r ta tb):=by
 intro pins s σ H Q I h;exact wpAny_BinOp (binT ha hb I h λ v u s2 x y H2 I2 rx ry q=>ho pins s2 σ H2 x y v u Q I2 rx ry q)
def zlx {op:UnaryOp} {r:V -> Hp -> VK -> Prop} (ho:UnR X (unaryOp op) r) (ha:PE X a ta):PE X (.UnaryOp op a pos) (tUn r ta):=by
 intro pins s σ H Q I h;exact UnaryOp_ (thn (ha pins s σ H _ I h) λ v s1 ⟨x,H1,I1,r1,q1⟩=>ho pins s1 σ H1 x v Q I1 r1 q1)
def opI {f:Value -> Value -> Sem Value} {C:Int -> Int -> Prop} {g:Int -> Int -> Int}
    (rule:∀ (i j:Int) (t u:Tok) (s:Shared) (Q:Value -> Shared -> Prop) (E:Value -> Shared -> Prop),C i j -> Q (.int (g i j) s.toks) { s with toks:=s.toks + 1 } -> wpAny (model X.prog X.w) X.A (f (.int i t) (.int j u)) Q E s) :
    OpR X f (rI C λ i j=>.int (g i j)):=by
  intro pins s σ H x y v u Q I rx ry h;obtain ⟨i,j,rfl,rfl,hc,q⟩:=h;obtain ⟨t,rfl⟩:=rx;obtain ⟨t',rfl⟩:=ry;exact rule i j t t' s _ _ hc ⟨.int (g i j),H,I.tok _,⟨_,rfl⟩,q⟩
def opI0 {f:Value -> Value -> Sem Value} {g:Int -> Int -> Int}
    (rule:∀ (i j:Int) (t u:Tok) (s:Shared) (Q:Value -> Shared -> Prop) (E:Value -> Shared -> Prop),Q (.int (g i j) s.toks) { s with toks:=s.toks + 1 } -> wpAny (model X.prog X.w) X.A (f (.int i t) (.int j u)) Q E s) :
    OpR X f (rI0 λ i j=>.int (g i j)):=by
  intro pins s σ H x y v u Q I rx ry h;obtain ⟨i,j,rfl,rfl,q⟩:=h;obtain ⟨t,rfl⟩:=rx;obtain ⟨t',rfl⟩:=ry;exact rule i j t t' s _ _ ⟨.int (g i j),H,I.tok _,⟨_,rfl⟩,q⟩
def opB0 {f:Value -> Value -> Sem Value} {g:Int -> Int -> Bool}
    (rule:∀ (i j:Int) (t u:Tok) (s:Shared) (Q:Value -> Shared -> Prop) (E:Value -> Shared -> Prop),Q (.bool (g i j)) s -> wpAny (model X.prog X.w) X.A (f (.int i t) (.int j u)) Q E s) :
    OpR X f (rI0 λ i j=>.bl (g i j)):=by
  intro pins s σ H x y v u Q I rx ry h;obtain ⟨i,j,rfl,rfl,q⟩:=h;obtain ⟨t,rfl⟩:=rx;obtain ⟨t',rfl⟩:=ry;exact rule i j t t' s _ _ ⟨.bl (g i j),H,I,rfl,q⟩
noncomputable def CPow (i j:Int):Prop:=0 <= j /\ j <= 1000000 /\ i.natAbs < 2 ^ 64
noncomputable def CMul (i j:Int):Prop:=(-(2 ^ 64) < i /\ i < 2 ^ 64) \/ (-(2 ^ 64) < j /\ j < 2 ^ 64)
def CMul.ok {i j:Int} (h:CMul i j):IntMulOk i j:=by
 rcases h with ⟨h1,h2⟩ | ⟨h1,h2⟩
 ·exact .of_left (intBits_le_64 h1 h2)
 ·exact .of_right (intBits_le_64 h1 h2)
def zh5 (k:Nat):(0:Int) <= 2 ^ k:=by
 rw [two_pow_cast];exact yaz _
def zmq:OpR X (binaryOp .Add) (rI0 λ i j=>.int (i + j)):=opI0 λ _ _ _ _ _ _ _ q=>add_int q
def zcv:OpR X (binaryOp .Sub) (rI0 λ i j=>.int (i - j)):=opI0 λ _ _ _ _ _ _ _ q=>sub_int q
def znf:OpR X (binaryOp .Mult) (rI CMul λ i j=>.int (i * j)):=opI λ _ _ _ _ _ _ _ hc q=>mul_int q hc.ok
def zcN:OpR X (binaryOp .Mod) (rI (λ _ j=>0 < j) λ i j=>.int (i % j)):=opI λ i j _ _ _ _ _ hc q=>by
 have h1:(0:Int) < j:=hc;exact mod_int' (1:) (by rw [Int.fmod_eq_emod_of_nonneg i (1:)]; exact q)
def zmO:OpR X (binaryOp .Pow) (rI CPow λ i j=>.int (i ^ j.toNat)):=opI λ _ _ _ _ _ _ _ hc q=>pow_int_small hc.1 hc.2.1 hc.2.2 q
def zeo:OpR X (binaryOp .LShift) (rI CPow λ i j=>.int (i * 2 ^ j.toNat)):=opI λ _ _ _ _ _ _ _ hc q=>lshift_int_small hc.1 hc.2.1 hc.2.2 q
def zkH:OpR X (binaryOp .RShift) (rI (λ _ j=>0 <= j) λ i j=>.int (i / 2 ^ j.toNat)):=opI λ i j _ _ _ _ _ hc q=>
 rshift_int hc (by rw [Int.fdiv_eq_ediv_of_nonneg i (zh5 _)]; exact q)
def zkC:OpR X (binaryOp .BitAnd) (rI0 λ i j=>.int (Builtin.bitAnd i j)):=opI0 λ _ _ _ _ _ _ _ q=>and_int q
def zny:OpR X (binaryOp .BitOr) (rI0 λ i j=>.int (Builtin.bitOr i j)):=opI0 λ _ _ _ _ _ _ _ q=>or_int q
def zmB:OpR X (binaryOp .BitXor) (rI0 λ i j=>.int (Builtin.bitXor i j)):=opI0 λ _ _ _ _ _ _ _ q=>xor_int q
def unI {f:Value -> Sem Value} {g:Int -> Int}
    (rule:∀ (i:Int) (t:Tok) (s:Shared) (Q:Value -> Shared -> Prop) (E:Value -> Shared -> Prop),Q (.int (g i) s.toks) { s with toks:=s.toks + 1 } -> wpAny (model X.prog X.w) X.A (f (.int i t)) Q E s) :
    UnR X f (rU λ i=>.int (g i)):=by
  intro pins s σ H x v Q I rx h;obtain ⟨i,rfl,q⟩:=h;obtain ⟨t,rfl⟩:=rx;exact rule i t s _ _ ⟨.int (g i),H,I.tok _,⟨_,rfl⟩,q⟩
def zjc:UnR X (unaryOp .USub) (rU λ i=>.int (-i)):=unI λ _ _ _ _ _ q=>neg_int q
end
section
variable {X:Cx} {a b c:Expr} {ta tb tc:TE} {pos:Pos}
def zmW {pins:List (Addr × Obj)} {σ:St} {H:Hp} {s:Shared} {Q:VK} {k k':Bool} (I:Inv X pins σ H s) (q:Q (.bl k) H) (e:k=k'):EP X pins σ Q (.bool k') s:=by
 subst e;exact ⟨.bl k,H,I,rfl,q⟩
def ziz:OpR X (compareOp .Lt) (rI0 λ i j=>.bl (decide (i < j))):=opB0 λ _ _ _ _ _ _ _ q=>lt_int q
def zjj:OpR X (compareOp .LtE) (rI0 λ i j=>.bl (decide (i <= j))):=opB0 λ _ _ _ _ _ _ _ q=>le_int q
def znd:OpR X (compareOp .Gt) (rI0 λ i j=>.bl (decide (j < i))):=opB0 λ _ _ _ _ _ _ _ q=>gt_int q
def zkX:OpR X (compareOp .GtE) (rI0 λ i j=>.bl (decide (j <= i))):=opB0 λ _ _ _ _ _ _ _ q=>ge_int q
def zmC:OpR X (compareOp .Is) (λ x y H Q=>y=.non /\ Q (.bl (decide (x=.non))) H):=by
 intro pins s σ H x y v u Q I rx ry h;obtain ⟨rfl,q⟩:=h;cases ry;refine is_none_gen (zmW I q ?_)
 cases x <;> first
  | (cases rx; rfl)
  | (obtain ⟨t,rfl⟩:=rx; rfl)
def OpR.or {f:Value -> Value -> Sem Value} {r r':R2} (h:OpR X f r) (h':OpR X f r'):OpR X f (λ x y H Q=>r x y H Q \/ r' x y H Q):=by
 intro pins s σ H x y v u Q I rx ry q;rcases q with q | q
 ·exact h pins s σ H x y v u Q I rx ry q
 ·exact h' pins s σ H x y v u Q I rx ry q
def zar (b:Expr) {op:CmpOp} (h:op ≠ .In:=by decide) (h2:op ≠ .NotIn:=by decide):behindInMarks op b=false:=by
 have e1:(op == CmpOp.In)=false:=by cases op <;> first | rfl | exact absurd rfl h
 have e2:(op == CmpOp.NotIn)=false:=by cases op <;> first | rfl | exact absurd rfl h2
 cases b <;> simp [behindInMarks,e1,e2]
def zcj {op:CmpOp} {r:R2} (ho:OpR X (compareOp op) r) (ha:PE X a ta) (hb:PE X b tb) (hm:behindInMarks op b=false):PE X (.Compare a [op] [b] pos) (tOp r ta tb):=by
 intro pins s σ H Q I h;exact wpAny_Compare1 (binT ha hb I h λ v u s2 x y H2 I2 rx ry q=>ho pins s2 σ H2 x y v u Q I2 rx ry q) hm
noncomputable def zlR (t:TE):TT:=λ σ H Q=>t σ H λ x H'=>∃ k,x=.bl k /\ Q k H'
def zan {op:CmpOp} {r:R2} (ho:OpR X (compareOp op) r) (ha:PE X a ta) (hb:PE X b tb) (hm:behindInMarks op b=false):PT X (.Compare a [op] [b] pos) (zlR (tOp r ta tb)):=by
 intro pins s σ H Q I h
 refine wpAny_isTrue_Compare1 (thn (ha pins s σ H _ I h) λ v s1 ⟨x,H1,I1,r1,q1⟩=>thn (hb pins s1 σ H1 _ I1 q1) λ u s2 ⟨y,H2,I2,r2,q2⟩=>
  thn (ho pins s2 σ H2 x y v u _ I2 r1 r2 q2) λ c s3 ⟨z,H3,I3,r3,k,e,q3⟩=>?_) hm
 subst e;cases r3;exact wpAny_truthy_bool ⟨H3,I3,q3⟩
noncomputable def zkG (r r':R2) (ta tb tc:TE):TE:=λ σ H Q=>ta σ H λ x H1=>tb σ H1 λ y H2=>r x y H2 λ z H3=>∃ k,z=.bl k /\
 (if k=true then tc σ H3 λ w' H4=>r' y w' H4 Q else Q (.bl false) H3)
def zfg {op op':CmpOp} {r r':R2} (ho:OpR X (compareOp op) r) (ho':OpR X (compareOp op') r') (ha:PE X a ta) (hb:PE X b tb) (hc:PE X c tc)
  (hm:lastMarks [op,op'] [b,c]=false:=by with_unfolding_all rfl):PE X (.Compare a [op,op'] [b,c] pos) (zkG r r' ta tb tc):=by
 intro pins s σ H Q I h
 refine Compare_chain (thn (ha pins s σ H _ I h) λ v s1 ⟨x,H1,I1,r1,q1⟩=>chain_link (thn (hb pins s1 σ H1 _ I1 q1) λ u s2 ⟨y,H2,I2,r2,q2⟩=>
  thn (ho pins s2 σ H2 x y v u _ I2 r1 r2 q2) λ d s3 ⟨z,H3,I3,r3,k,e,q3⟩=>?_)) hm
 subst e;cases r3;refine wpAny_truthy_bool ?_;cases k with
 | false=>exact ite_ff ⟨.bl false,H3,I3,rfl,q3⟩
 | true=>exact ite_tt (chain_last (thn (hc pins s3 σ H3 _ I3 q3) λ w' s4 ⟨z',H4,I4,r4,q4⟩=>ho' pins s4 σ H4 y z' u w' Q I4 r2 r4 q4))
def zfX:(sizeLine:Nat) < 2 ^ 63:=by rw [sizeLine_eq]; decide
def zhI {x:V} {us:List Value} (r:Vals [x] us):∃ u,us=[u] /\ RelV x u:=by
 cases r with
 | cons r1 r2=>cases r2; exact ⟨_,rfl,r1⟩
def zlV {x y:V} {us:List Value} (r:Vals [x,y] us):∃ u w',us=[u,w'] /\ RelV x u /\ RelV y w':=by
 cases r with
 | cons r1 r2=>
  cases r2 with
  | cons r3 r4=>cases r4; exact ⟨_,_,rfl,r1,r3⟩
def zkw:zbl X (.builtin "abs") (λ xs H Q=>∃ i,xs=[.int i] /\ Q (.int (if i < 0 then -i else i)) H):=by
 intro pins s σ H xs us Q I r h;obtain ⟨i,rfl,q⟩:=h;obtain ⟨u,rfl,t,rfl⟩:=zhI r;exact call_abs_int λ u tk=>⟨.int (if i < 0 then -i else i),H,I.tok _,⟨_,rfl⟩,q⟩
def ziA (hc:X.calm=true):zbl X (.builtin "max") (λ xs H Q=>∃ i j,xs=[.int i,.int j] /\ Q (.int (if j > i then j else i)) H):=by
 intro pins s σ H xs us Q I r h;obtain ⟨i,j,rfl,q⟩:=h;obtain ⟨u,w',rfl,⟨t,rfl⟩,⟨t',rfl⟩⟩:=zlV r;refine max_two_ints (I.ok.hd hc) λ h' tk k=>⟨_,H,I.kept k,?_,q⟩
 by_cases hj:j > i
 ·rw [if_pos hj,if_pos hj]; exact ⟨_,rfl⟩
 ·rw [if_neg hj,if_neg hj]; exact ⟨_,rfl⟩
def zjP (hc:X.calm=true):zbl X (.builtin "min") (λ xs H Q=>∃ i j,xs=[.int i,.int j] /\ Q (.int (if j < i then j else i)) H):=by
 intro pins s σ H xs us Q I r h;obtain ⟨i,j,rfl,q⟩:=h;obtain ⟨u,w',rfl,⟨t,rfl⟩,⟨t',rfl⟩⟩:=zlV r;refine min_two_ints (I.ok.hd hc) λ h' tk k=>⟨_,H,I.kept k,?_,q⟩
 by_cases hj:j < i
 ·rw [if_pos hj,if_pos hj]; exact ⟨_,rfl⟩
 ·rw [if_neg hj,if_neg hj]; exact ⟨_,rfl⟩
def zfz:zbl X (.type "str") (λ xs H Q=>∃ i,xs=[.int i] /\ i.natAbs.log2 < 1920 /\ Q (.str (toString i)) H):=by
 intro pins s σ H xs us Q I r h;obtain ⟨i,rfl,hz,q⟩:=h;obtain ⟨u,rfl,t,rfl⟩:=zhI r;exact PySem.P.str_of_int hz ⟨.str _,H,I.tok _,⟨_,rfl⟩,q⟩
noncomputable def LenV (K:PySem.W.Frag) (x:V) (H:Hp) (n:Nat):Prop:=
 match x with
 | .str y=>y.length <= sizeLine /\ n=y.length
 | .byt y=>y.size <= sizeLine /\ n=y.size
 | .ref p=>(∃ xs,SqL K H p xs /\ n=xs.length) \/ ∃ xs,SqT K H p xs /\ n=xs.length
 | _=>False
def zkf:zbl X (.builtin "len") (λ xs H Q=>∃ x n,xs=[x] /\ LenV X.K x H n /\ Q (.int n) H):=by
 intro pins s σ H xs us Q I r h;obtain ⟨x,n,rfl,e,q⟩:=h;obtain ⟨u,rfl,rx⟩:=zhI r;have hl:=zfX;have hs:sizeLine=16777216:=sizeLine_eq;cases x with
 | str y=>
  obtain ⟨t,rfl⟩:=rx;obtain ⟨hy,e'⟩:y.length <= sizeLine /\ n=y.length:=e;subst e';exact len_str (1:) ⟨.int _,H,I.tok _,⟨_,rfl⟩,q⟩
 | byt y=>
  obtain ⟨t,rfl⟩:=rx;obtain ⟨hy,e'⟩:y.size <= sizeLine /\ n=y.size:=e;subst e';exact PySem.W.len_bytes (1:) ⟨.int _,H,I.tok _,⟨_,rfl⟩,q⟩
 | ref p=>
  cases rx;have e':(∃ xs,SqL X.K H p xs /\ n=xs.length) \/ ∃ xs,SqT X.K H p xs /\ n=xs.length:=e;rcases e' with ⟨xs,hx,e'⟩ | ⟨xs,hx,e'⟩
  ·subst e';obtain ⟨its,r',pl,hz⟩:=I.list hx;have hlen:=r'.length;exact Calls.call_len_list pl.isList (by simp only [yaj]; omega) ⟨.int xs.length,H,I.tok _,⟨_,by simp only [yaj]; rw [hlen]⟩,q⟩
  ·subst e';obtain ⟨its,r',pl,hz⟩:=I.tuple hx;have hlen:=r'.length;exact len_tuple pl (by simp only [yaj]; omega) ⟨.int xs.length,H,I.tok _,⟨_,by simp only [yaj]; rw [hlen]⟩,q⟩
 | _=>exact (show False from e).elim
end
structure ObjM (h:Heap) (x dx C:Addr) (mA:Str -> Option Value):Prop where
 obj:h.get? x=some (PySem.W.instObj C dx)
 ns:h.Ns1 dx mA
 ne:dx ≠ x
def ziY {h:Heap} {dx:Addr} {mA:Str -> Option Value} (n:h.Ns1 dx mA):∃ od,h.get? dx=some od /\ ∀ name,PySem.W.lookIn name od=some (mA name):=by
 obtain ⟨o,es,ep,ho,hd,hk,_,hm⟩:=n;refine ⟨o,ho,λ name=>?_⟩;have e:=hm name;unfold nsFind findBy at e;rw [<- Array.find?_toList] at e;unfold PySem.W.lookIn;rw [hd];dsimp only
 split
 ·rename_i y q;rw [q] at e;exact congrArg some e
 ·rename_i q;rw [q] at e
  have a:es.toList.any (·.refKey)=false:=by
   rw [List.any_eq_false];intro y hy;obtain ⟨z,t,hkey⟩:=hk y (Array.mem_toList_iff.mp hy);simp [DictEntry.refKey,hkey]
  have a':¬ es.toList.any (·.refKey)=true:=by rw [a]; exact yar
  rw [if_neg a'];exact congrArg some e
def ObjM.look {h:Heap} {x dx C:Addr} {mA:Str -> Option Value} (I:ObjM h x dx C mA):∃ od,PySem.W.InstAt h x (PySem.W.instObj C dx) C (some od) /\ ∀ name,PySem.W.lookIn name od=some (mA name):=
 let ⟨od,ho,hl⟩:=ziY I.ns
 ⟨od,⟨I.obj,rfl,rfl,ho⟩,hl⟩
section
variable {prog:Program} {w:World} {A:Around} {E:Value -> Shared -> Prop} {s:Shared} {K:PySem.W.Frag} {x dx C f:Addr} {mA:Str -> Option Value} {name:Str} {v:Value}
end
section
variable {P:Program} {w:World} {H H':Hp} {h h':Heap} {a C dx:Addr} {fs fs':List (Str × V)}
def zlr (hok:HOk P w H h) (e:H a=some (.ins C dx fs)):∃ mA,ObjM h a dx C mA /\ (∀ f,RelO (fs.lookup f) (mA f)) /\ PySem.Within mA (fs.map (·.1)) /\ fs.length <= 1000 /\ H dx=some (.own a):=by
 obtain ⟨d,z,ne,ob,mA,n,r,q⟩:=(show zb1 P w H h a (.ins C dx fs) from hok a _ e)
 exact ⟨mA,⟨ob,n,ne⟩,r,q,z,d⟩
end
structure Cls (K:PySem.W.Frag) (C:Addr):Prop where
 pg:PySem.W.plainGet K C Str.empty=true
 hd:PySem.W.hasDictIn K C=true
 po:PySem.W.plainOver K C=true
 sa:PySem.W.findIn K (.ref C) "__setattr__"=some (some (.builtin "object.__setattr__"))
def Cls.get {K:PySem.W.Frag} {C:Addr} (c:Cls K C) (f:Str):PySem.W.plainGet K C f=true:=c.pg
section
variable {X:Cx} {pins:List (Addr × Obj)} {σ:St} {H:Hp} {s:Shared} {a C dx:Addr} {fs:List (Str × V)} {f:Str} {v:V} {A:Around} {E:Value -> Shared -> Prop}
end
section
variable {X:Cx} {o e value:Expr} {f:Str} {pos pos' tpos:Pos} {ta tv:TE}
end
section
variable {X:Cx} {pins:List (Addr × Obj)} {σ:St} {H:Hp} {s:Shared} {A:Around} {E:Value -> Shared -> Prop} {Q:Value -> Shared -> Prop} {c:Value} {b:Bool}
inductive TyOf (K:PySem.W.Frag) (H:Hp):V -> Value -> Prop where
 | non:TyOf K H .non (.type "NoneType")
 | bl (x:Bool):TyOf K H (.bl x) (.type "bool")
 | int (i:Int):TyOf K H (.int i) (.type "int")
 | str (x:Str):TyOf K H (.str x) (.type "str")
 | flt (x:UInt64):TyOf K H (.flt x) (.type "float")
 | lst {a:Addr} {xs:List V} (e:H a=some (.lst xs)):TyOf K H (.ref a) (.type "list")
 | frz {a:Addr} {o:Obj} {xs:List V} (e:H a=some (.frz o (.lst xs))):TyOf K H (.ref a) (.type "list")
 | tup {a:Addr} {xs:List V} (e:H a=some (.tup xs)):TyOf K H (.ref a) (.type "tuple")
 | dK {a:Addr} {kvs:List (Key × V)} (e:H a=some (.dK kvs)):TyOf K H (.ref a) (.type "dict")
 | dT {a:Addr} {kvs:List (List Key × V)} (e:H a=some (.dT kvs)):TyOf K H (.ref a) (.type "dict")
 | ins {a C dx:Addr} {fs:List (Str × V)} (e:H a=some (.ins C dx fs)) (cl:Cls K C) (ha:PySem.W.findIn K (.ref C) "__class__"=some (some (.builtin "object.__class__")))
   (hn:PySem.W.specialIn K (.builtin "object.__class__") "__get__"=some (some (.builtin "getset_descriptor.__get__"))) (htk:PySem.W.takesIn K (.builtin "object.__class__")=some true)
   (hm:PySem.W.mroIn K C (.type "object")=some true):TyOf K H (.ref a) (.ref C)
def zjA {x:V} {u t:Value} (I:Inv X pins σ H s) (rx:RelV x u) (ty:TyOf X.K H x t) (e:PySem.W.kitOne X.K t c=some b) (h:∀ tk,Q (.bool b) { s with toks:=tk }) :
  wpAny (model X.prog X.w) A (call (.builtin "isinstance") [u,c]) Q E s:=by
 cases ty with
 | non=>cases (show u=Value.none from rx); exact yaO PySem.W.kitx_none I.kIn True.intro e (λ z=>nomatch z) h
 | bl y=>cases (show u=Value.bool y from rx); exact yaO PySem.W.kitx_bool I.kIn True.intro e (λ z=>nomatch z) h
 | int i=>obtain ⟨t,q⟩:=(show ∃ t,u=Value.int i t from rx); cases q; exact yaO PySem.W.kitx_int I.kIn True.intro e (λ z=>nomatch z) h
 | str y=>obtain ⟨t,q⟩:=(show ∃ t,u=Value.str y t from rx); cases q; exact yaO PySem.W.kitx_str I.kIn True.intro e (λ z=>nomatch z) h
 | flt y=>obtain ⟨t,q⟩:=(show ∃ t,u=Value.float y t from rx); cases q; exact yaO PySem.W.kitx_float I.kIn True.intro e (λ z=>nomatch z) h
 | @lst a xs ea=>
  cases (show u=Value.ref a from rx);obtain ⟨_,_,n,_,h1⟩:=(show zb1 X.prog X.w H s.heap a (.lst xs) from I.hok a _ ea)
  exact yaO PySem.W.kitx_list I.kIn ⟨_,h1,rfl⟩ e (λ z=>nomatch z) h
 | @frz a ob xs ea=>
  cases (show u=Value.ref a from rx);obtain ⟨_,_,_,n,_,h1⟩:=(show zb1 X.prog X.w H s.heap a (.frz ob (.lst xs)) from I.hok a _ ea)
  exact yaO PySem.W.kitx_list I.kIn ⟨_,h1,rfl⟩ e (λ z=>nomatch z) h
 | @tup a xs ea=>
  cases (show u=Value.ref a from rx);obtain ⟨_,_,_,p⟩:=(show zb1 X.prog X.w H s.heap a (.tup xs) from I.hok a _ ea)
  obtain ⟨o,h1,h2,_⟩:=p;exact yaO PySem.W.kitx_tuple I.kIn ⟨o,h1,h2⟩ e (λ z=>nomatch z) h
 | @dK a kvs ea=>
  cases (show u=Value.ref a from rx);obtain ⟨_,_,vs,_,p⟩:=(show zb1 X.prog X.w H s.heap a (.dK kvs) from I.hok a _ ea)
  obtain ⟨o,es,ep,h1,h2,_⟩:=p;exact yaO PySem.W.kitx_dict I.kIn ⟨o,h1,h2.1⟩ e (λ z=>nomatch z) h
 | @dT a kvs ea=>
  cases (show u=Value.ref a from rx);obtain ⟨_,_,xs,_,o,es,ep,h1,h2,_⟩:=(show zb1 X.prog X.w H s.heap a (.dT kvs) from I.hok a _ ea)
  exact yaO PySem.W.kitx_dict I.kIn ⟨o,h1,h2.1⟩ e (λ z=>nomatch z) h
 | @ins a C dx fs ea cl ha hn htk hm=>
  cases (show u=Value.ref a from rx);obtain ⟨mA,O,_⟩:=zlr I.hok ea;obtain ⟨od,J,_⟩:=O.look;exact yaO (PySem.W.kitx_own (cl.get _) cl.hd ha hn htk hm) I.kIn J e (λ z=>nomatch z) h
end
structure Room (k:Nat) (A:Around):Prop where
 hd:A.handled=none
 dp:A.depth + 3 * k + 5 < recursionLimit
 un:A.units + 16 * k + 200 < cLine
 gd:A.guards=some []
def Room.mono {j k:Nat} {A:Around} (r:Room k A) (h:j <= k):Room j A:=⟨r.hd,by have:=r.dp; omega,by have:=r.un; omega,r.gd⟩
def Room.deeper {k:Nat} {A:Around} (r:Room (k + 1) A) (env:Env):Room k (A.deeper env):=
 ⟨r.hd,by have:=r.dp; show A.depth + 1 + 3 * k + 5 < _; omega,by have:=r.un; show A.units + 3 + 16 * k + 200 < _; omega,r.gd⟩
def Room.depth {k:Nat} {A:Around} (r:Room k A):A.depth < recursionLimit:=by have:=r.dp; omega
def Room.units {k:Nat} {A:Around} (r:Room k A):A.units + 64 < cLine:=by have:=r.un; omega
noncomputable def tNil:TA:=λ _ H Q=>Q [] H
noncomputable def zkW (ta:TE) (tr:TA):TA:=λ σ H Q=>ta σ H λ x H1=>tr σ H1 λ xs H2=>Q (x :: xs) H2
section
variable {X:Cx} {e:Expr} {es:List Expr} {te:TE} {t:TA} {pos:Pos}
def zab:PA X [] tNil:=λ _ _ _ _ H Q I h=>Calls.spliced_nil ⟨[],H,I,.nil,h⟩
def zaa (ha:PE X e te) (hr:PA X es t) (hs:starEach (e :: es) X.env=(false,eval e X.env) :: starEach es X.env:=by rfl):PA X (e :: es) (zkW te t):=by
 intro pos pins s σ H Q I h;rw [hs];show wpAny _ _ (spliced ((false,eval e X.env) :: backTo pos (starEach es X.env))) _ _ s;refine Calls.spliced_cons (thn (ha pins s σ H _ I h) λ u s1 ⟨x,H1,I1,r1,q1⟩=>?_);exact thn (hr pos pins s1 σ H1 _ I1 q1) λ us s2 ⟨xs,H2,I2,r2,q2⟩=>⟨x :: xs,H2,I2,.cons r1 r2,q2⟩
noncomputable def tTup (t:TA):TE:=λ σ H Q=>t σ H λ xs H1=>xs.length <= sizeLine /\ ∀ p,H1 p=none -> Q (.ref p) (upd H1 p (.tup xs))
noncomputable def tLst (t:TA):TE:=λ σ H Q=>t σ H λ xs H1=>xs.length <= sizeLine /\ ∀ p,H1 p=none -> Q (.ref p) (upd H1 p (.lst xs))
def zaw {x1} (h:PA X es t):PE X (.Tuple es x1 pos) (tTup t):=by
 intro pins s σ H Q I hq;refine wpAny_Tuple_spliced (thn (h pos pins s σ H _ I hq) λ us s1 ⟨xs,H1,I1,r,z,q⟩=>⟨by rw [<- r.length]; exact z,?_⟩);have hf:H1 s1.heap.objs.size=none:=I1.hok.fresh (yad _);refine ⟨.ref s1.heap.objs.size,upd H1 s1.heap.objs.size (.tup xs),I1.laid (t':=s1.toks) (λ b u e=>yag _ e) (yad _) ?_,rfl,q _ hf⟩;exact ⟨z,us,r,⟨_,yao _ rfl,rfl,rfl,_,rfl⟩⟩
def za4 (h:PA X es t):PE X (.List es pos) (tLst t):=by
 intro pins s σ H Q I hq;refine wpAny_List_spliced (thn (h pos pins s σ H _ I hq) λ us s1 ⟨xs,H1,I1,r,z,q⟩=>⟨by rw [<- r.length]; exact z,?_⟩);have hf:H1 s1.heap.objs.size=none:=I1.hok.fresh (yad _);refine ⟨.ref s1.heap.objs.size,upd H1 s1.heap.objs.size (.lst xs),I1.laid (t':=s1.toks) (λ b u e=>yag _ e) (yad _) ?_,rfl,q _ hf⟩;exact ⟨z,us,0,r,yao _ rfl⟩
end
noncomputable abbrev Sp:=List V -> Hp -> VK -> XK -> Prop
noncomputable abbrev CXT:=List Env -> Hp -> Shared -> XK -> Value -> Shared -> Prop
structure Env0 (P:Program) (w:World) (K:PySem.W.Frag) (mg:Str -> Option Value) (base:Heap) (A:Around) (outer:List Env) (s:Shared) (H:Hp):Prop where
 frames:A.frames=some outer
 mod:Mod K mg base
 bs:∀ b o,base.get? b=some o -> s.heap.get? b=some o /\ H b=none
 bsz:base.objs.size <= s.heap.objs.size
 funs:s.heap.FunFrames base outer
 frf:∀ b ∈ frs outer,H b=none
 hok:HOk P w H s.heap
 bare:AllBare s.gens
noncomputable def CE (outer:List Env) (P:Program) (w:World) (H:Hp) (s:Shared) (Q:VK) (u:Value) (s':Shared):Prop:=
 ∃ v H',s'.os=s.os /\ AllBare s'.gens /\ Un (frs outer) [] H H' s.heap s'.heap /\ HOk P w H' s'.heap /\ RelV v u /\ Q v H'
noncomputable def CR (CX:CXT) (outer:List Env) (P:Program) (w:World) (H:Hp) (s:Shared) (Q:VK) (E:XK) (r:Result) (s':Shared):Prop:=
 match r with
 | .ok (.ret u)=>CE outer P w H s Q u s'
 | .ok _=>False
 | .error e=>CX outer H s E e s'
structure FnOk (P:Program) (w:World) (K:PySem.W.Frag) (mg:Str -> Option Value) (base:Heap) (CX:CXT) (k:Nat) (f:Addr) (fd:FuncData) (ps:List Str) (sp:Sp):Prop where
 len:∀ vs H Q E,sp vs H Q E -> vs.length=ps.length
 run:∀ (A:Around) (outer:List Env) (s:Shared) (H:Hp) (args:Args) (us:List Value) (vs:List V) (Q:VK) (E:XK),Room k A -> Env0 P w K mg base A outer s H -> BindsTo s fd args (ps.zip us) -> Vals vs us -> sp vs H Q E ->
  codeAny (model P w) A (.call (.ref f) args) (CR CX outer P w H s Q E) s
section
variable {X:Cx} {pins:List (Addr × Obj)} {σ:St} {H:Hp} {s s':Shared}
def Inv.env0 (I:Inv X pins σ H s):Env0 X.prog X.w X.K X.mg X.base X.A X.stack s H:=
 ⟨I.ok.frames,I.ok.mod,I.bs,yax I.ok.bsz I.sz,I.stack,I.stkFree,I.hok,I.bare⟩
def Inv.after {Q:VK} {u:Value} (I:Inv X pins σ H s) (h:CE X.stack X.prog X.w H s Q u s'):EP X pins σ Q u s':=by
 obtain ⟨v,H',os,bare,un,hok,r,q⟩:=h;obtain ⟨hh,g,d,t,os'⟩:=s';obtain rfl:os'=s.os:=os;exact ⟨v,H',I.call (h':=hh) (g':=g) (d':=d) (t':=t) (ch:=[]) un hok bare (λ b z=>absurd z (6:)),r,q⟩
end
noncomputable def zkT (sp:Sp) (dvs:List V) (E:XK) (t:TA):TE:=λ σ H Q=>t σ H λ vs H1=>sp (vs ++ dvs) H1 Q E
noncomputable def zgM (K:PySem.W.Frag) (fd:FuncData) (ps:List Str) (ds:List Value):Prop:=
 ∀ (s:Shared) (us:List Value),K.In s.heap -> (us ++ ds).length=ps.length -> BindsTo s fd ⟨us,[]⟩ (ps.zip (us ++ ds))
def zgM.all {K:PySem.W.Frag} {fd:FuncData} {ps:List Str} (h:∀ us:List Value,us.length=ps.length -> bindArgs fd ⟨us,[]⟩=pure (ps.zip us)):zgM K fd ps []:=λ s us _ hl=>by
 rw [ya2] at hl ⊢;exact .of_eq (h us hl)
noncomputable def zjD (CX:CXT) (X:Cx) (E:XK):Prop:=∀ (pins:List (Addr × Obj)) (σ:St) (H:Hp) (s:Shared) (e:Value) (s':Shared),Inv X pins σ H s -> CX X.stack H s E e s' -> X.xe e s'
section
variable {X:Cx} {CX:CXT} {k:Nat} {f C:Addr} {fd:FuncData} {ps:List Str} {sp:Sp} {dvs:List V} {ds:List Value} {E:XK} {x m:Str} {p pos apos:Pos} {e o:Expr} {es:List Expr} {ta:TE} {t:TA}
def zmv {pins:List (Addr × Obj)} {σ:St} {H:Hp} {s:Shared} {Q:VK} {us:List Value} {vs:List V} (F:FnOk X.prog X.w X.K X.mg X.base CX k f fd ps sp) (hr:Room k X.A) (hb:zgM X.K fd ps ds) (hd:Vals dvs ds) (hx:zjD CX X E)
  (I:Inv X pins σ H s) (r:Vals vs us) (h:sp (vs ++ dvs) H Q E):wpAny (model X.prog X.w) X.A (call (.ref f) us) (EP X pins σ Q) X.xe s:=by
 have r2:Vals (vs ++ dvs) (us ++ ds):=r.append hd;have hl:(us ++ ds).length=ps.length:=by rw [<- r2.length]; exact F.len _ _ _ _ h
 refine wpAny_call (codeAny_mono (F.run X.A X.stack s H ⟨us,[]⟩ (us ++ ds) (vs ++ dvs) Q E hr I.env0 (hb s us I.kIn hl) r2 h) λ r s' hq=>?_);cases r with
 | error e=>exact hx pins σ H s e s' I hq
 | ok fl=>
  cases fl with
  | ret u=>exact I.after hq
  | next=>exact False.elim hq
  | brk=>exact False.elim hq
  | cont=>exact False.elim hq
def zli (F:FnOk X.prog X.w X.K X.mg X.base CX k f fd ps sp) (hr:Room k X.A) (hg:Gl X x) (hm:X.mg x=some (.ref f)) (hk:PySem.W.keepIn X.K (.ref f)=true) (hb:zgM X.K fd ps ds) (hd:Vals dvs ds) (hx:zjD CX X E)
  (ha:PA X (e :: es) t) (hdb:(x == ("__debug__":Str))=false:=by decide) (he:starEach (e :: es) X.env=(false,eval e X.env) :: starEach es X.env:=by rfl) (hpl:(backTo pos (starEach es X.env)).any (·.1)=false:=by rfl) :
  PE X (.Call (.Name x p) (e :: es) [] pos) (zkT sp dvs E t):=by
 intro pins s σ H Q I h;refine wpAny_Call_Name_kw (ziD I hg hm ?_ hdb);refine PySem.W.callWith_K (h₀:=X.base) I.ok.mod.kin hk (thn (ha pos pins s σ H _ I h) λ us s1 ⟨vs,H1,I1,r,q⟩=>⟨I1.kIn,?_⟩) he hpl;exact zmv F hr hb hd hx I1 r q
end
section
variable {X:Cx} {CX:CXT} {k:Nat} {f C:Addr} {fd:FuncData} {ps ks:List Str} {sp:Sp} {E:XK} {x m:Str} {p pos apos kpos:Pos} {e o:Expr} {es:List Expr} {kws:List Keyword} {te ta:TE} {t tk:TA} {nm:Option Str}
variable {g:List Value -> List Value -> List Value} {gV:List V -> List V -> List V}
end
structure FnScope (N P:List Str) (sc:Scope):Prop where
 kind:sc.kind=.function
 co:sc.isCoroutine=false
 gen:sc.isGenerator=false
 nd:N.Nodup
 pre:N.take P.length=P
 par:∀ x ∈ P,sc.names.lookup x=some .local \/ sc.names.lookup x=some .cell
 nofree:∀ y ∈ sc.names,y.2 ≠ .free
def zgh {kindOf:Str -> Option NameKind} {x:Str}:∀ {binds:List (Str × Value)} {m:Str -> Option Value},(∀ v,(x,v) ∉ binds) -> bindL kindOf binds m x=m x
 | [],_,_=>rfl
 | (n,v) :: r,m,h=>by
  unfold bindL;rw [zgh λ w hw=>h w (yaM _ hw)]
  split
  ·have : x ≠ n := by rintro rfl; exact h v yaN
   simp [this]
  ·rfl
def zgo {kindOf:Str -> Option NameKind} {x:Str}:∀ {binds:List (Str × Value)} {m:Str -> Option Value},(∀ v,(x,v) ∉ binds) -> bindC kindOf binds m x=m x
 | [],_,_=>rfl
 | (n,v) :: r,m,h=>by
  unfold bindC;rw [zgo λ w hw=>h w (yaM _ hw)]
  split
  ·rfl
  ·have : x ≠ n := by rintro rfl; exact h v yaN
   simp [this]
def zgd {kindOf:Str -> Option NameKind} {x:Str} {v:Value}:∀ {P:List Str} {vs:List Value} {i:Nat} {m:Str -> Option Value},P.Nodup -> P[i]?=some x -> vs[i]?=some v -> kindOf x=some .local ->
    bindL kindOf (P.zip vs) m x=some v
  | [],_,_,_,_,h,_,_=>by simp at h
  | _ :: _,[],_,_,_,_,h,_=>by simp at h
  | p :: P,w :: vs,0,m,nd,h1,h2,hk=>by
    simp at h1 h2; subst h1; subst h2;show bindL kindOf ((p,w) :: P.zip vs) m p=_;unfold bindL;rw [zgh λ v hv=>(ybZ.mp nd).1 (List.of_mem_zip hv).1,if_pos hk];simp
  | p :: P,w :: vs,i + 1,m,nd,h1,h2,hk=>by
    show bindL kindOf ((p,w) :: P.zip vs) m x=_;unfold bindL;exact zgd (i:=i) (ybZ.mp nd).2 (by simpa using h1) (by simpa using h2) hk
def zfC {kindOf:Str -> Option NameKind} {x:Str} {v:Value}:∀ {P:List Str} {vs:List Value} {i:Nat} {m:Str -> Option Value},P.Nodup -> P[i]?=some x -> vs[i]?=some v -> kindOf x ≠ some .local ->
    bindC kindOf (P.zip vs) m x=some v
  | [],_,_,_,_,h,_,_=>by simp at h
  | _ :: _,[],_,_,_,_,h,_=>by simp at h
  | p :: P,w :: vs,0,m,nd,h1,h2,hk=>by
    simp at h1 h2; subst h1; subst h2;show bindC kindOf ((p,w) :: P.zip vs) m p=_;unfold bindC;rw [zgo λ v hv=>(ybZ.mp nd).1 (List.of_mem_zip hv).1,if_neg hk];simp
  | p :: P,w :: vs,i + 1,m,nd,h1,h2,hk=>by
    show bindC kindOf ((p,w) :: P.zip vs) m x=_;unfold bindC;exact zfC (i:=i) (ybZ.mp nd).2 (by simpa using h1) (by simpa using h2) hk
noncomputable def start (N:List Str) (vs:List V):St:=vs.map some ++ List.replicate (N.length - vs.length) none
noncomputable def cxOf (CX:CXT) (P:Program) (w:World) (K:PySem.W.Frag) (mg:Str -> Option Value) (base:Heap) (N:List Str) (qual:Str) (scope:Scope) (f:Addr) (cd:Value) (A:Around) (outer:List Env) (s:Shared) (H:Hp) (E:XK):Cx where
 prog:=P
 w:=w
 K:=K
 mg:=mg
 base:=base
 A:=A.deeper (envOfC qual scope s.heap.objs.size f cd)
 N:=N
 s₀:=s
 H₀:=H
 env:=envOfC qual scope s.heap.objs.size f cd
 outer:=outer
 stack:=envOfC qual scope s.heap.objs.size f cd :: outer
 ex:=[]
 calm:=true
 fn:=λ _=>true
 pn:=[]
 xe:=λ e s'=>wpAny (model P w) (A.deeper (envOfC qual scope s.heap.objs.size f cd)) (leaving (envOfC qual scope s.heap.objs.size f cd) e) (λ _ s''=>CX outer H s E e s'') (λ e' s''=>CX outer H s E e' s'') s'
def zhz {sc:Scope} {n:Nat} {x:Str} (h:sc.names.lookup x=some .cell):∃ c,(cellsFrom n sc.names []).lookup x=some c:=by
 have q:=PySem.W.cellsFrom_some sc.names n [] (.inl h);exact Option.isSome_iff_exists.mp q
def zi1 {CX:CXT} {P:Program} {w:World} {K:PySem.W.Frag} {mg:Str -> Option Value} {base:Heap} {N ps:List Str} {qual:Str} {scope:Scope} {f:Addr} {cd:Value} {A:Around} {outer:List Env} {s s1:Shared} {H:Hp} {E:XK} {us:List Value} {vs:List V}
    (S:FnScope N ps scope) (hd:A.handled=none) (e0:Env0 P w K mg base A outer s H) (hl:vs.length=ps.length) (r:Vals vs us)
    (x:InCallC s s.heap.objs.size (bindL (envOfC qual scope s.heap.objs.size f cd).kindOf (ps.zip us) λ _=>none) (cellsFrom (s.heap.objs.size + 1) scope.names []) (bindC (envOfC qual scope s.heap.objs.size f cd).kindOf (ps.zip us) λ _=>none) s1) :
    Inv (cxOf CX P w K mg base N qual scope f cd A outer s H E) [] (start N vs) H s1:=by
  have hpl:ps.length <= N.length:=by have:=congrArg List.length S.pre; rw [yaE] at this; omega
  obtain ⟨h1,tk,rfl,hk⟩:=x.done;have noA:∀ b:Addr,b ∉ (cxOf CX P w K mg base N qual scope f cd A outer s H E).ex:=λ b z=>absurd (show b ∈ ([]:List Addr) from z) (6:)
  refine ⟨⟨e0.mod,S.kind,rfl,rfl,yad _,λ y z c h1 h2=>?_,λ y hy=>?_,λ y c _ h=>?_,λ _=>hd,Around.frames_deeper e0.frames,.inr ⟨rfl,rfl⟩,λ b z=>absurd z (noA b),e0.bs,e0.bsz,λ b _ _=>noA b,λ b z=>absurd z (noA b),e0.funs,e0.frf⟩,
    rfl,e0.bare,Un.kept hk,⟨_,x.toInCall.ns,λ i y v h1 h2 h3=>?_⟩,λ y c h=>⟨_,x.cell y c h⟩,e0.hok.fresh (yad _),λ y c h=>?_,λ p hp=>absurd (show p ∈ ([]:List (Addr × Obj)) from hp) (6:),e0.hok.kept hk,?_⟩
  · exact name_of_addr x.apart (yaZ h1) (yaZ h2)
  · have hy : scope.names.lookup y = some .cell \/ scope.names.lookup y = some .free := hy;rcases hy with hy | hy
    · exact zhz hy
    · exact absurd rfl (S.nofree _ (yaZ hy))
  · exact yay (x.above y c (yaZ h))
  · have hi:i < vs.length:=by
      unfold start at h2;by_cases hi:i < vs.length
      · exact hi
      · rw [yaL (by simpa using hi)] at h2;rw [List.getElem?_replicate] at h2
        split at h2 <;> cases h2
    have ha:vs[i]?=some v:=by
      unfold start at h2;rw [ya1 (by simpa using hi),yae] at h2;cases e:vs[i]? with
      | none=>rw [e] at h2; cases h2
      | some a=>rw [e] at h2; cases h2; rfl
    obtain ⟨u,hu,rv⟩:=r.get ha
    have hp:ps[i]?=some y:=by
      rw [<- S.pre,List.getElem?_take_of_lt (1:)]; exact h1
    have ndP:ps.Nodup:=by rw [<- S.pre]; exact S.nd.sublist (List.take_sublist _ _)
    refine ⟨u,rv,?_⟩;rcases S.par y (yaD hp) with k | k
    · exact .inl ⟨k,zgd ndP hp hu k⟩
    · obtain ⟨c,e⟩:=zhz (n:=s.heap.objs.size + 1) k;refine .inr ⟨.inl k,c,e,?_⟩;have q:=x.cell y c e;rw [zfC ndP hp hu (by show scope.names.lookup y ≠ _; rw [k]; decide)] at q;exact q
  · exact e0.hok.fresh (yay (x.above y c (yaZ h)))
  · unfold start;show _=N.length;rw [yaF,yaa,ybP];omega
def znR {CX:CXT} {P:Program} {w:World} {K:PySem.W.Frag} {mg:Str -> Option Value} {base:Heap} {k:Nat} {f:Addr} {name qual:Str} {params:Arguments} {body:List Stmt} {scope:Scope} {dV kV doc pm cdv ct oc:Value} {an od:Option Addr}
    {osl:Array (Option Value)} {N ps:List Str} {sp:Sp} (lk:K.lookup f=some ⟨oc,od,.func (PySem.W.fnOf name qual params body scope dV kV doc pm an cdv ct),osl⟩) (hcd:PySem.W.codeIn K cdv qual=true) (S:FnScope N ps scope)
    (len:∀ vs H Q E,sp vs H Q E -> vs.length=ps.length)
    (hbody:∀ (A:Around) (outer:List Env) (s:Shared) (H:Hp) (vs:List V) (Q:VK) (E:XK),Room k (A.deeper (envOfC qual scope s.heap.objs.size f cdv)) -> sp vs H Q E ->
      ∃ t,PSs (cxOf CX P w K mg base N qual scope f cdv A outer s H E) body t /\ t { nx:=λ _ H'=>Q .non H',rt:=Q } (start N vs) H) :
    FnOk P w K mg base CX (k + 1) f (PySem.W.fnOf name qual params body scope dV kV doc pm an cdv ct) ps sp:=by
  refine ⟨len,λ A outer s H args us vs Q E hr e0 hb r hsp=>?_⟩;have hl:=len _ _ _ _ hsp;have KX:K.In s.heap:=e0.mod.kin.keeps λ b o e=>(e0.bs b o e).1;have lim:s.heap.NoLimit:=e0.mod.nolimit.keeps λ b o e=>(e0.bs b o e).1
  have hkind:∀ y ∈ ps.zip us,scope.names.lookup y.1=some .local \/ (scope.names.lookup y.1=some .cell /\ ((cellsFrom (s.heap.objs.size + 1) scope.names []).lookup y.1).isSome=true):=λ ⟨n,v⟩ hy=>by
    rcases S.par n (List.of_mem_zip hy).1 with q | q
    · exact .inl q
    · exact .inr ⟨q,PySem.W.cellsFrom_some _ _ _ (.inl q)⟩
  refine codeAny_call_function hr.depth (KX _ _ lk) rfl S.co S.gen rfl (PySem.W.codeRec_of KX hcd) (hb _ _ _ _ ?_);refine wpAny_newFunctionEnv_cells S.kind hkind λ env he s1 x=>?_;subst he;refine ⟨lim.keeps x.toInCall.keep,codeAny_func ?_⟩;obtain ⟨t,ht,hq⟩:=hbody A outer s H vs Q E (hr.deeper _) hsp;have I:Inv (cxOf CX P w K mg base N qual scope f cdv A outer s H E) [] (start N vs) H s1:=zi1 S hr.hd e0 hl r x;refine wpAny_mono (ht [] s1 (start N vs) H _ I hq) (λ fl s' hs=>?_) λ e s' hs=>hs
  have fin:∀ {σ':St} {H':Hp} {v:V} {u:Value},Inv (cxOf CX P w K mg base N qual scope f cdv A outer s H E) [] σ' H' s' -> RelV v u -> Q v H' -> CE outer P w H s Q u s':=
    λ {σ' H' v u} J rv q=>⟨v,H',J.os,J.bare,J.base,J.hok,rv,q⟩
  cases fl with
  | ret u=>
    obtain ⟨v,σ',H',J,rv,q⟩:=hs;exact fin J rv q
  | next=>
    obtain ⟨σ',H',J,q⟩:=hs;exact fin (v:=V.non) (u:=Value.none) J rfl q
  | brk=>
    obtain ⟨_,_,_,q⟩:=hs;exact False.elim q
  | cont=>
    obtain ⟨_,_,_,q⟩:=hs;exact False.elim q
section
variable {X:Cx} {x:Str} {p pos:Pos} {e:Expr} {es:List Expr} {t:TA} {id T:String} {r:List V -> Hp -> VK -> Prop}
noncomputable def tCB (r:List V -> Hp -> VK -> Prop) (t:TA):TE:=λ σ H Q=>t σ H λ vs H1=>r vs H1 Q
def zaj (hc:zbl X (.builtin id) r) (hg:Gl X x) (hm:X.mg x=none) (hv:bootBuiltins x=some (.builtin id)) (ha:PA X (e :: es) t) (hn:x ≠ "__name__":=by decide) (hdb:(x == ("__debug__":Str))=false:=by decide)
  (he:starEach (e :: es) X.env=(false,eval e X.env) :: starEach es X.env:=by rfl) (hpl:(backTo pos (starEach es X.env)).any (·.1)=false:=by rfl):PE X (.Call (.Name x p) (e :: es) [] pos) (tCB r t):=by
 intro pins s σ H Q I h;refine wpAny_Call_Name_kw (zev I hg hm hv ?_ hn hdb);exact PyProof.Rows.callWith_builtin1 (thn (ha pos pins s σ H _ I h) λ us s1 ⟨vs,H1,I1,r1,q1⟩=>hc pins s1 σ H1 vs us Q I1 r1 q1) he hpl
def zay (hc:zbl X (.type T) r) (hg:Gl X x) (hm:X.mg x=none) (hv:bootBuiltins x=some (.type T)) (ha:PA X (e :: es) t) (hn:x ≠ "__name__":=by decide) (hdb:(x == ("__debug__":Str))=false:=by decide)
  (he:starEach (e :: es) X.env=(false,eval e X.env) :: starEach es X.env:=by rfl) (hpl:(backTo pos (starEach es X.env)).any (·.1)=false:=by rfl):PE X (.Call (.Name x p) (e :: es) [] pos) (tCB r t):=by
 intro pins s σ H Q I h;refine wpAny_Call_Name_kw (zev I hg hm hv ?_ hn hdb);exact yaV (thn (ha pos pins s σ H _ I h) λ us s1 ⟨vs,H1,I1,r1,q1⟩=>hc pins s1 σ H1 vs us Q I1 r1 q1) he hpl
end
end L2
namespace HT
open PySem PyProof.Rows
section
open PySem.SeqAt
open PySem.AutoSeq1 (wpAny_loadPart')
open PySem.MeetsSeq PySem.MeetsSeq2 PySem.MeetsSeq3
end
section
variable {prog:Program} {w:World} {A:Around} {E:Value -> Shared -> Prop} {s:Shared}
def cat_tup {t b:Addr} {vs ws:List Value} {Q:Value -> Shared -> Prop} (ht:IsTup s.heap t vs.toArray) (hb:IsTup s.heap b ws.toArray) (hv:vs ≠ [])
  (h1:ws=[] -> Q (.ref t) s) (h2:ws ≠ [] -> Q (.ref s.heap.objs.size) { s with heap:=s.heap.push { cls:=.type "tuple",data:=.seq (vs ++ ws).toArray } })
  (hsz:vs.length + ws.length <= sizeLine):wpAny (model prog w) A (binaryOp .Add (.ref t) (.ref b)) Q E s:=by
 obtain ⟨⟨cls,dd,data,sl⟩,ho,hc,n,hd⟩:=id ht;obtain ⟨⟨cls2,dd2,data2,sl2⟩,ho2,hc2,n2,hd2⟩:=id hb;simp only at hc hd hc2 hd2;subst hc hd hc2 hd2;have e:vs.toArray ++ ws.toArray=(vs ++ ws).toArray:=by simp
 by_cases hw:ws=[]
 ·exact concat_meets ⟨_,ho,rfl⟩ ⟨_,ho2,rfl⟩ noFill_tuple_add seq_tuple_add ybJ ybD (ybC _ _)
   (tuple_addW1 t b vs.toArray ws.toArray n n2 dd dd2 sl sl2 (by simpa using hv) (by simp [hw])) ⟨ho,ho2,h1 hw⟩
 ·refine concat_meets ⟨_,ho,rfl⟩ ⟨_,ho2,rfl⟩ noFill_tuple_add seq_tuple_add ybJ ybD (ybC _ _)
   (tuple_addW2 t b vs.toArray ws.toArray n n2 dd dd2 sl sl2 (by simpa using hv) (by simpa using hw) (by rw [yaj,yaj]; exact hsz)) ⟨ho,ho2,?_⟩
  rw [e];exact h2 hw
noncomputable def sIx (n d:Nat):Option Int -> Nat
 | none=>d
 | some v=>if v < 0 then (v + (n:Int)).toNat else min v.toNat n
def sIx_nat (n d k:Nat):sIx n d (some (k:Int))=min k n:=by
 show (if (k:Int) < 0 then ((k:Int) + (n:Int)).toNat else min (k:Int).toNat n)=min k n;rw [if_neg (1:),yam]
def zlN (n d:Nat) (hd:d <= n) (o:Option Int):sIx n d o <= n:=by
 cases o with
 | none=>exact hd
 | some v=>
  show (if v < 0 then (v + (n:Int)).toNat else min v.toNat n) <= n;by_cases hv:v < 0
  ·rw [if_pos hv]; omega
  ·rw [if_neg hv]; exact Nat.min_le_right _ _
def ziy (v:Int) (n d:Nat):(if v < 0 then max (v + (n:Int)) 0 else min v (n:Int))=((sIx n d (some v):Nat):Int):=by
 show (if v < 0 then max (v + (n:Int)) 0 else min v (n:Int))=(((if v < 0 then (v + (n:Int)).toNat else min v.toNat n):Nat):Int);by_cases hv:v < 0
 ·simp only [if_pos hv]; omega
 ·simp only [if_neg hv]; omega
def zh1 (lo hi:Option Int) (n:Nat):Builtin.Slice.sliceAdjust lo hi 1 (n:Int)=(((sIx n 0 lo:Nat):Int),((sIx n n hi:Nat):Int)):=by
 have h1:¬ ((1:Int) < 0):=by omega
 unfold Builtin.Slice.sliceAdjust;simp only [h1,if_false];refine Prod.ext ?_ ?_
 ·cases lo with
  | none=>rfl
  | some v=>exact ziy v n 0
 ·cases hi with
  | none=>rfl
  | some v=>exact ziy v n n
def zhY (i j:Nat):Builtin.Slice.slicePlaces (i:Int) (j:Int) 1=j - i:=by
 unfold Builtin.Slice.slicePlaces;have h1:(1:Int) > 0:=by omega
 simp only [h1,if_true,Int.ediv_one]
 split <;> omega
def zeU {v:Value} {o:Option Int} {Q:Option Int -> Shared -> Prop} (p:IsPart v o) (h:Q o s):wpAny (model prog w) A (Builtin.Slice.slicePartIndex v) Q E s:=by
 cases p with
 | none=>exact slicePart_none h
 | int i t=>exact slicePart_int h
def zdX {sl:Addr} {vl vu:Value} {lo hi:Option Int} {n:Nat} {Q:Int × Int × Nat -> Shared -> Prop} (hs:s.heap.IsSliceOf sl vl vu .none) (pl:IsPart vl lo) (pu:IsPart vu hi)
  (h:Q (((sIx n 0 lo:Nat):Int),1,sIx n n hi - sIx n 0 lo) s):wpAny (model prog w) A (Builtin.Slice.sliceApplied (.ref sl) (pure (n:Int))) Q E s:=by
 obtain ⟨os,hos,hcs,hds⟩:=id hs;unfold Builtin.Slice.sliceApplied Builtin.Slice.sliceFields;refine wpAny_bind (wpAny_bind (wpAny_field hos hds (x:=vl) rfl (wpAny_bind (wpAny_field hos hds (x:=vu) rfl (wpAny_bind (wpAny_field hos hds (x:=.none) rfl (wpAny_pure ?_)))))));refine wpAny_bind (slicePart_none ?_);show wpAny _ _ (if ((1:Int) == 0)=true then _ else _) _ _ s;rw [if_neg (3:)];refine wpAny_bind (zeU pl (wpAny_bind (zeU pu (wpAny_bind (wpAny_pure ?_)))));show wpAny _ _ (match Builtin.Slice.sliceAdjust lo hi 1 (n:Int) with | (lo,hi)=>pure (lo,(1:Int),Builtin.Slice.slicePlaces lo hi 1)) _ _ s
 rw [zh1 lo hi n];show wpAny _ _ (pure (((sIx n 0 lo:Nat):Int),(1:Int),Builtin.Slice.slicePlaces ((sIx n 0 lo:Nat):Int) ((sIx n n hi:Nat):Int) 1)) _ _ s;rw [zhY];exact wpAny_pure h
def zky (xs:Array Value) (i k:Nat):((List.range k).filterMap λ (m:Nat)=>xs[((i:Int) + (m:Int) * 1).toNat]?).toArray=((xs.toList.drop i).take k).toArray:=by
 have e:(λ (m:Nat)=>xs[((i:Int) + (m:Int) * 1).toNat]?)=λ m=>xs[i + m]?:=by
  funext m
  have:((i:Int) + (m:Int) * 1).toNat=i + m:=by omega
  rw [this]
 rw [e];have:=pick_run xs i k;rw [List.filterMap_map] at this;have e2:((λ x=>xs[x]?) ∘ λ x=>i + x)=λ m=>xs[i + m]?:=rfl;rw [e2] at this;rw [this]
def getItem_tuple_cut {t sl:Addr} {items:Array Value} {vl vu:Value} {lo hi:Option Int} {Q:Value -> Shared -> Prop} (ht:IsTup s.heap t items) (hs:s.heap.IsSliceOf sl vl vu .none) (pl:IsPart vl lo) (pu:IsPart vu hi)
  (hw:¬ (sIx items.size 0 lo=0 /\ sIx items.size items.size hi=items.size))
  (h:Q (.ref s.heap.objs.size) { s with heap:=s.heap.push { cls:=.type "tuple",data:=.seq ((items.toList.drop (sIx items.size 0 lo)).take (sIx items.size items.size hi - sIx items.size 0 lo)).toArray } })
  (hsz:items.size <= sizeLine):wpAny (model prog w) A (getItem (.ref t) (.ref sl)) Q E s:=by
 have htake:sizeOk (.seq ((items.toList.drop (sIx items.size 0 lo)).take (sIx items.size items.size hi - sIx items.size 0 lo)).toArray):=by
  show ((items.toList.drop (sIx items.size 0 lo)).take (sIx items.size items.size hi - sIx items.size 0 lo)).toArray.size <= sizeLine;rw [yaj,yaE,ybS,ybz];omega
 have hj:sIx items.size items.size hi <= items.size:=zlN _ _ (yad _) hi;obtain ⟨os,hos,hcs,hds⟩:=id hs;have hTs:s.TypeIs (.ref sl) "slice":=⟨os,hos,hcs⟩
 unfold getItem
 try with_reducible refine wpAny_holding ?_
 first | refine wpAny_bind (wpAny_pure ?_) | skip
 refine wpAny_bind (wpAny_sequenceKey ht.typeIs (3:) ?_)
 refine wpAny_bind (wpAny_callSpecial?_slot (name:=Str.ofString "__getitem__") ht.typeIs ybd
  (wpAny_call_entry ybd ht.typeIs entry_tuple_getitem ?_ (args_tuple_getitem _ _)))
 show wpAny _ _ (Builtin.Tuple.tupleItemsOf (.ref t) >>= _) _ _ s;refine wpAny_bind (tupleItemsOf_ ht ?_);refine wpAny_bind (wpAny_typeOf hTs ?_);rw [if_pos (3:)];refine wpAny_bind (zdX hs pl pu ?_)
 have hno:¬ ((((sIx items.size 0 lo:Nat):Int) == 0 && (1:Int) == 1 && (sIx items.size items.size hi - sIx items.size 0 lo) == items.size)=true):=by
  intro q;rw [yak,yak] at q;have q1:((sIx items.size 0 lo:Nat):Int)=0:=eq_of_beq q.1.1;have q2:sIx items.size items.size hi - sIx items.size 0 lo=items.size:=eq_of_beq q.2;exact hw ⟨by omega,by omega⟩
 show wpAny _ _ (if (((sIx items.size 0 lo:Nat):Int) == 0 && (1:Int) == 1 && (sIx items.size items.size hi - sIx items.size 0 lo) == items.size)=true then _ else _) _ _ s;rw [if_neg hno,zky]
 first
  | exact wpAny_bind (m:=Builtin.Tuple.tupleExact _) (wpAny_newObj_type (wpAny_pure ⟨_,rfl,wpAny_pure h⟩) htake)
  | exact wpAny_bind (m:=Builtin.Tuple.tupleExact _) (wpAny_newObj_type (wpAny_bind (wpAny_pure (wpAny_pure ⟨_,rfl,wpAny_pure h⟩))) htake)
  | exact wpAny_bind (wpAny_bind (m:=Builtin.Tuple.tupleExact _) (wpAny_newObj_type (wpAny_pure (wpAny_pure ⟨_,rfl,wpAny_pure h⟩)) htake))
  | exact wpAny_bind (wpAny_bind (m:=Builtin.Tuple.tupleExact _) (wpAny_newObj_type (wpAny_pure ⟨_,rfl,wpAny_pure h⟩) htake))
end
end HT
namespace L2
open PySem PySem.Spec PyProof.Rows
noncomputable abbrev TO:=St -> Hp -> (Option Int -> Hp -> Prop) -> Prop
noncomputable def PO (X:Cx) (e:Option Expr) (t:TO):Prop:=
 ∀ (pins:List (Addr × Obj)) (s:Shared) (σ:St) (H:Hp) (Q:Option Int -> Hp -> Prop),Inv X pins σ H s -> t σ H Q ->
  wpAny (model X.prog X.w) X.A (evalPart e X.env) (λ u s'=>∃ o H',Inv X pins σ H' s' /\ IsPart u o /\ Q o H') X.xe s
noncomputable def zjx:TO:=λ _ H Q=>Q none H
noncomputable def zmi (t:TE):TO:=λ σ H Q=>t σ H λ x H1=>∃ i,x=.int i /\ Q (some i) H1
section
variable {X:Cx} {e:Expr} {te:TE} {lo hi:Option Expr} {tl th:TO} {pos p2:Pos}
def zdA:PO X none zjx:=by
 intro pins s σ H Q I h;rw [evalPart_none];exact wpAny_pure ⟨none,H,I,.none,h⟩
def zdz (h:PE X e te):PO X (some e) (zmi te):=by
 intro pins s σ H Q I hw;rw [evalPart_some];refine thn (h pins s σ H _ I hw) λ u s1 ⟨x,H1,I1,r1,q1⟩=>?_;obtain ⟨i,rfl,q⟩:=q1;obtain ⟨t,rfl⟩:=r1;exact ⟨some i,H1,I1,.int i t,q⟩
noncomputable def SlR (X:Cx) (r:V -> Option Int -> Option Int -> Hp -> VK -> Prop):Prop:=
 ∀ (pins:List (Addr × Obj)) (s:Shared) (σ:St) (H:Hp) (x:V) (v vl vu:Value) (lo hi:Option Int) (sl:Addr) (Q:VK),Inv X pins σ H s -> RelV x v -> s.heap.IsSliceOf sl vl vu .none -> IsPart vl lo -> IsPart vu hi -> r x lo hi H Q ->
  ∃ T id,typeLookup (.type T) "__getitem__"=pure (some (.builtin id)) /\ s.TypeIs v T /\ wpAny (model X.prog X.w) X.A (getItem v (.ref sl)) (EP X pins σ Q) X.xe s
def SlR.or {r r':V -> Option Int -> Option Int -> Hp -> VK -> Prop} (h:SlR X r) (h':SlR X r'):SlR X (λ x lo hi H Q=>r x lo hi H Q \/ r' x lo hi H Q):=by
 intro pins s σ H x v vl vu lo hi sl Q I rx hs pl pu q;rcases q with q | q
 ·exact h pins s σ H x v vl vu lo hi sl Q I rx hs pl pu q
 ·exact h' pins s σ H x v vl vu lo hi sl Q I rx hs pl pu q
noncomputable def tSl (r:V -> Option Int -> Option Int -> Hp -> VK -> Prop) (te:TE) (tl th:TO):TE:=λ σ H Q=>te σ H λ x H1=>tl σ H1 λ l H2=>th σ H2 λ u H3=>r x l u H3 Q
def zcy {r:V -> Option Int -> Option Int -> Hp -> VK -> Prop} (hr:SlR X r) (he:PE X e te) (hl:PO X lo tl) (hu:PO X hi th):PE X (.Subscript e (.Slice lo hi none p2) pos) (tSl r te tl th):=by
 intro pins s σ H Q I h;refine Subscript_ (thn (he pins s σ H _ I h) λ v s1 ⟨x,H1,I1,r1,q1⟩=>?_);refine wpAny_Slice (thn (hl pins s1 σ H1 _ I1 q1) λ vl s2 ⟨l,H2,I2,pl,q2⟩=>thn (hu pins s2 σ H2 _ I2 q2) λ vu s3 ⟨u,H3,I3,pu,q3⟩=>?_);rw [evalPart_none];refine wpAny_pure ?_;have I4:Inv X pins σ H3 { s3 with heap:=s3.heap.push { cls:=.type "slice",data:=.fields #[vl,vu,.none] } }:=I3.kept (t':=s3.toks) λ b ob q=>yag _ q;obtain ⟨T,id,hT,ht,hg⟩:=hr pins { s3 with heap:=s3.heap.push { cls:=.type "slice",data:=.fields #[vl,vu,.none] } } σ H3 x v vl vu l u s3.heap.objs.size Q I4 r1 (Heap.IsSliceOf.new ..) pl pu q3;show wpAny (model X.prog X.w) X.A (subscriptTail e (.Slice lo hi none p2) v (.ref s3.heap.objs.size)) (EP X pins σ Q) X.xe { s3 with heap:=s3.heap.push { cls:=.type "slice",data:=.fields #[vl,vu,.none] } };exact tail_any (ops:=[.ref s3.heap.objs.size,v]) ht hT hg (77:)
noncomputable def cutV (xs:List V) (lo hi:Option Int):List V:=(xs.drop (HT.sIx xs.length 0 lo)).take (HT.sIx xs.length xs.length hi - HT.sIx xs.length 0 lo)
def zex (xs:List V) (lo hi:Option Int):(cutV xs lo hi).length <= xs.length:=by
 unfold cutV;rw [yaE,ybS];omega
noncomputable def rSlT (K:PySem.W.Frag):V -> Option Int -> Option Int -> Hp -> VK -> Prop:=λ x lo hi H Q=>∃ a xs,x=.ref a /\ SqT K H a xs /\
 ¬ (HT.sIx xs.length 0 lo=0 /\ HT.sIx xs.length xs.length hi=xs.length) /\ ∀ p,H p=none -> Q (.ref p) (upd H p (.tup (cutV xs lo hi)))
def zm6:SlR X (rSlT X.K):=by
 intro pins s σ H x v vl vu lo hi sl Q I rx hs pl pu h;obtain ⟨a,xs,rfl,hx,hw,q⟩:=h;cases rx;obtain ⟨its,r,ht,hz⟩:=I.tuple hx;have hlen:its.toArray.size=xs.length:=by rw [yaj]; exact r.length.symm
 refine ⟨"tuple",_,ybd.lookup,ht.typeIs,?_⟩;refine HT.getItem_tuple_cut ht hs pl pu (by rw [hlen]; exact hw) ?_ (by rw [hlen]; exact hz);rw [hlen];refine ⟨.ref s.heap.objs.size,_,I.laid (t':=s.toks) (o:=.tup (cutV xs lo hi)) (λ b ob q=>yag _ q) (yad _) ?_,rfl,q _ (I.hok.fresh (yad _))⟩;exact ⟨yax (zex xs lo hi) hz,_,(r.drop (HT.sIx xs.length 0 lo)).take (HT.sIx xs.length xs.length hi - HT.sIx xs.length 0 lo),zbr.new _ _⟩
noncomputable def zmf (K:PySem.W.Frag):R2:=λ x y H Q=>∃ a b xs ys,x=.ref a /\ y=.ref b /\ SqT K H a xs /\ SqT K H b ys /\ xs ≠ [] /\ xs.length + ys.length <= sizeLine /\
 (ys=[] -> Q (.ref a) H) /\ (ys ≠ [] -> ∀ p,H p=none -> Q (.ref p) (upd H p (.tup (xs ++ ys))))
def Vals.nil_iff {xs:List V} {us:List Value} (r:Vals xs us):us=[] ↔ xs=[]:=by
 cases r with
 | nil=>simp
 | cons _ _=>simp
def zla:OpR X (binaryOp .Add) (zmf X.K):=by
 intro pins s σ H x y v u Q I rx ry h;obtain ⟨a,b,xs,ys,rfl,rfl,ha,hb,hx,hz,q1,q2⟩:=h;cases rx;cases ry;obtain ⟨its,r1,p1,_⟩:=I.tuple ha;obtain ⟨its2,r2,p2,_⟩:=I.tuple hb;refine HT.cat_tup p1 p2 (λ z=>hx (r1.nil_iff.mp z)) (λ z=>⟨.ref a,H,I,rfl,q1 (r2.nil_iff.mp z)⟩) (λ z=>?_) (by rw [<- r1.length,<- r2.length]; exact hz);refine ⟨.ref s.heap.objs.size,_,I.laid (t':=s.toks) (o:=.tup (xs ++ ys)) (λ b ob q=>yag _ q) (yad _) ?_,rfl,q2 (λ w=>z (r2.nil_iff.mpr w)) _ (I.hok.fresh (yad _))⟩;exact ⟨by rw [yaF]; exact hz,_,r1.append r2,zbr.new _ _⟩
end
noncomputable def ixN (n:Nat) (i:Int):Option Nat:=if 0 <= i then (if i < n then some i.toNat else none) else if -(n:Int) <= i then some (i + n).toNat else none
noncomputable def atI {α:Type} (xs:List α) (i:Int):Option α:=(ixN xs.length i).bind λ j=>xs[j]?
def zi8 {n:Nat} {i:Int} {j:Nat} (h:ixN n i=some j):seqIndex? i n=some j /\ j < n /\ -(n:Int) <= i /\ i < n:=by
 unfold ixN at h;by_cases h0:0 <= i
 ·rw [if_pos h0] at h;by_cases h1 : i < n
  ·rw [if_pos h1] at h;have e:i.toNat=j:=Option.some.inj h;exact ⟨by rw [seqIndex_of h0 h1,e],by omega,by omega,h1⟩
  ·rw [if_neg h1] at h; cases h
 ·rw [if_neg h0] at h;by_cases h1 : -(n : Int) <= i
  ·rw [if_pos h1] at h;have e:(i + n).toNat=j:=Option.some.inj h;exact ⟨by rw [seqIndex_neg (1:) h1,e],by omega,h1,by omega⟩
  ·rw [if_neg h1] at h; cases h
def zg3 {α:Type} {xs:List α} {i:Int} {v:α} (h:atI xs i=some v):∃ j,seqIndex? i xs.length=some j /\ xs[j]?=some v /\ j < xs.length /\ -(xs.length:Int) <= i /\ i < xs.length:=by
 unfold atI at h;cases e:ixN xs.length i with
 | none=>rw [e] at h; cases h
 | some j=>
  rw [e] at h;obtain ⟨h1,h2,h3,h4⟩:=zi8 e;exact ⟨j,h1,h,h2,h3,h4⟩
def zjr {α:Type} {xs:List α} {j:Nat} {v:α} (h:xs[j]?=some v):atI xs (j:Int)=some v:=by
 have hj:j < xs.length:=(yaf.mp h).1
 have e:ixN xs.length (j:Int)=some j:=by
  unfold ixN;rw [if_pos (1:),if_pos (1:)]; simp
 unfold atI; rw [e]; exact h
noncomputable def zly (b:Expr):Prop:=∀ o i,subscripted b false o i=operate [o,i] (getItem o i)
noncomputable def IxR (X:Cx) (r:R2):Prop:=
 ∀ (value slice:Expr) (pins:List (Addr × Obj)) (s:Shared) (σ:St) (H:Hp) (x y:V) (v u:Value) (Q:VK),Inv X pins σ H s -> RelV x v -> RelV y u -> r x y H Q ->
  subscripted slice false v u=operate [v,u] (getItem v u) -> wpAny (model X.prog X.w) X.A (subscriptTail value slice v u) (EP X pins σ Q) X.xe s
noncomputable def MtR (X:Cx) (id:String) (r:V -> List V -> Hp -> VK -> Prop):Prop:=
 ∀ (pins:List (Addr × Obj)) (s:Shared) (σ:St) (H:Hp) (x:V) (xs:List V) (v:Value) (us:List Value) (Q:VK),Inv X pins σ H s -> RelV x v -> Vals xs us -> r x xs H Q ->
  wpAny (model X.prog X.w) X.A (call (.builtin id) (v :: us)) (EP X pins σ Q) X.xe s
section
variable {X:Cx} {a b:Expr} {ta tb:TE} {pos:Pos}
def IxR.or {r r':R2} (h:IxR X r) (h':IxR X r'):IxR X (λ x y H Q=>r x y H Q \/ r' x y H Q):=by
 intro value slice pins s σ H x y v u Q I rx ry q hs;rcases q with q | q
 ·exact h value slice pins s σ H x y v u Q I rx ry q hs
 ·exact h' value slice pins s σ H x y v u Q I rx ry q hs
def zao {r:R2} (hr:IxR X r) (ha:PE X a ta) (hb:PE X b tb) (hs:zly b):PE X (.Subscript a b pos) (tOp r ta tb):=by
 intro pins s σ H Q I h;exact Subscript_ (binT ha hb I h λ v u s2 x y H2 I2 rx ry q=>hr a b pins s2 σ H2 x y v u Q I2 rx ry q (hs _ _))
noncomputable def rIxL (K:PySem.W.Frag):R2:=λ x y H Q=>∃ p xs i v,x=.ref p /\ y=.int i /\ SqL K H p xs /\ atI xs i=some v /\ Q v H
noncomputable def rIxT (K:PySem.W.Frag):R2:=λ x y H Q=>∃ p xs i v,x=.ref p /\ y=.int i /\ SqT K H p xs /\ atI xs i=some v /\ Q v H
noncomputable def rIxS:R2:=λ x y H Q=>∃ z i c,x=.str z /\ y=.int i /\ z.length <= sizeLine /\ atI z.cps.toList i=some c /\ Q (.str ⟨#[c]⟩) H
def zk2:IxR X (rIxL X.K):=by
 intro value slice pins s σ H x y v u Q I rx ry h hs;obtain ⟨p,xs,i,z,rfl,rfl,hq,he,q⟩:=h;cases rx;obtain ⟨t,rfl⟩:=ry;obtain ⟨its,r,pl,hz⟩:=I.list hq;obtain ⟨j,h1,h2,h3,h4,h5⟩:=zg3 he;obtain ⟨w,ew,rw'⟩:=r.get h2;have hl:=r.length;have hn:=zfX;have fin:EP X pins σ Q w s:=⟨z,H,I,rw',q⟩
 by_cases h0:0 <= i
 ·have hj:i.toNat=j:=by
   rw [seqIndex_of h0 h5] at h1;exact Option.some.inj h1
  exact item_listR pl.isList h0 (1:) (by rw [hj]; simpa using ew) fin hs
 ·have hj:(i + (its.toArray.size:Int)).toNat=j:=by
   rw [seqIndex_neg (1:) h4] at h1;rw [yaj,<- hl];exact Option.some.inj h1
  exact subscriptTail_builtinR (x:=w) pl.isList.typeIs slot_list_getitem.lookup
   (wpAny_getItem_list_neg (Q:=λ r s'=>r=w /\ EP X pins σ Q r s') pl.isList (1:) (by rw [yaj] <;> omega) (1:) (by rw [hj]; simpa using ew) ⟨rfl,fin⟩) hs
def zna:IxR X (rIxT X.K):=by
 intro value slice pins s σ H x y v u Q I rx ry h hs;obtain ⟨p,xs,i,z,rfl,rfl,hq,he,q⟩:=h;cases rx;obtain ⟨t,rfl⟩:=ry;obtain ⟨its,r,pl,hz⟩:=I.tuple hq;obtain ⟨j,h1,h2,h3,h4,h5⟩:=zg3 he;obtain ⟨w,ew,rw'⟩:=r.get h2;have hl:=r.length;have hn:=zfX;have fin:EP X pins σ Q w s:=⟨z,H,I,rw',q⟩
 exact subscriptTail_builtinR (x:=w) pl.typeIs slot_tuple_getitem.lookup
  (getItem_tuple (j:=j) (Q:=λ r s'=>r=w /\ EP X pins σ Q r s') pl (1:) (1:) (by rw [yaj,<- hl]; exact h1) (by simpa using ew) ⟨rfl,fin⟩) hs
def zmr:IxR X rIxS:=by
 intro value slice pins s σ H x y v u Q I rx ry h hs;obtain ⟨z,i,c,rfl,rfl,hz,he,q⟩:=h;obtain ⟨t,rfl⟩:=rx;obtain ⟨t',rfl⟩:=ry;obtain ⟨j,h1,h2,h3,h4,h5⟩:=zg3 he;have hl:z.cps.toList.length=z.length:=by simp [Str.length]
 rw [hl] at h1 h4 h5;have hn:=zfX
 exact tail_any (typeIs_str s z t) slot_str_getitem.lookup (getItem_str (c:=c) (by
  have e1:decide (i < -(2 ^ 63:Int))=false:=decide_eq_false (1:);have e2:decide (i >= 2 ^ 63)=false:=decide_eq_false (1:);rw [e1,e2,Bool.or_false]) (by rw [h1]; simpa using h2) ⟨.str ⟨#[c]⟩,H,I.tok _,⟨_,rfl⟩,q⟩) hs
noncomputable def rIx (K:PySem.W.Frag):R2:=λ x y H Q=>rIxL K x y H Q \/ rIxT K x y H Q \/ rIxS x y H Q
def zl0:IxR X (rIx X.K):=zk2.or (zna.or zmr)
def zhH (its:List Value) (n j:Nat) (u:Value):Obj.mapSeq (·.setIfInBounds j u) { cls:=.type "list",data:=.seq its.toArray n }={ cls:=.type "list",data:=.seq (its.set j u).toArray n }:=by
 simp [Obj.mapSeq]
def Inv.lst {pins:List (Addr × Obj)} {σ:St} {H:Hp} {s:Shared} {p:Addr} {xs:List V} (I:Inv X pins σ H s) (h:H p=some (.lst xs)) :
  ∃ (its:List Value) (n:Nat),Vals xs its /\ s.heap.get? p=some { cls:=.type "list",data:=.seq its.toArray n } /\ xs.length <= sizeLine:=by
 obtain ⟨z,its,n,r,e⟩:=I.hok p _ h;exact ⟨its,n,r,e,z⟩
def Inv.lstUpd {pins:List (Addr × Obj)} {σ:St} {H:Hp} {s:Shared} {p:Addr} {xs ys:List V} {its its':List Value} {n n':Nat} {f:Obj -> Obj} (I:Inv X pins σ H s) (h:H p=some (.lst xs))
  (ho:s.heap.get? p=some { cls:=.type "list",data:=.seq its.toArray n }) (hf:f { cls:=.type "list",data:=.seq its.toArray n }={ cls:=.type "list",data:=.seq its'.toArray n' }) (r:Vals ys its') (hz:ys.length <= sizeLine) (t:Nat) :
  Inv X pins σ (upd H p (.lst ys)) { s with heap:=s.heap.update p f,toks:=t }:=by
 have e:(s.heap.update p f).get? p=some { cls:=.type "list",data:=.seq its'.toArray n' }:=by
  rw [Heap.get?_update_self f ho (by rw [hf] <;> rfl),hf]
 refine I.write (x:=p) (e:=p) (by rw [h]; trivial) (.inl rfl) (λ b u hb q=>(Heap.get?_update_other _ _ (Ne.symm hb)).trans q) ⟨_,e⟩ ?_;exact ⟨hz,its',n',r,e⟩
noncomputable def zlk:V -> V -> V -> Hp -> (Hp -> Prop) -> Prop:=λ o i v H Q=>∃ p xs k j,o=.ref p /\ i=.int k /\ H p=some (.lst xs) /\ ixN xs.length k=some j /\ Q (upd H p (.lst (xs.set j v)))
def zaW:PSet X zlk:=by
 intro pins s σ H o i v ov iv u Q I ro ri rv h;obtain ⟨p,xs,k,j,rfl,rfl,hp,hj,q⟩:=h;cases ro;obtain ⟨t,rfl⟩:=ri;obtain ⟨its,n,r,ho,hz⟩:=I.lst hp;obtain ⟨h1,h2,h3,h4⟩:=zi8 hj;have hl:=r.length;have hn:=zfX
 have I':Inv X pins σ (upd H p (.lst (xs.set j v))) { s with heap:=s.heap.update p (Obj.mapSeq (·.setIfInBounds j u)) }:=
  I.lstUpd hp ho (zhH its n j u) (r.set rv j) (by rw [ya6]; exact hz) s.toks
 by_cases h0:0 <= k
 ·have hk:k.toNat=j:=by
   rw [seqIndex_of h0 h4] at h1;exact Option.some.inj h1
  exact PySem.W.ki_setAt ho h0 (1:) (by rw [yaj,<- hl]; exact h4) (by rw [hk]; exact ⟨_,I',q⟩)
 ·have hk:(k + (its.toArray.size:Int)).toNat=j:=by
   rw [seqIndex_neg (1:) h3] at h1;rw [yaj,<- hl];exact Option.some.inj h1
  exact PySem.W.ki_setBack ho (1:) (by rw [yaj,<- hl]; exact h3) (1:) (by rw [hk]; exact ⟨_,I',q⟩)
def zfS (lo hi:Option Int) (n:Nat):(sliceBounds lo hi none n).1=((HT.sIx n 0 lo:Nat):Int) /\ (sliceBounds lo hi none n).2.1=((HT.sIx n n hi:Nat):Int) /\ (sliceBounds lo hi none n).2.2=1:=by
 refine ⟨?_,?_,rfl⟩
 ·cases lo with
  | none=>simp [sliceBounds,HT.sIx]
  | some i=>
   simp only [sliceBounds,HT.sIx,Option.getD_none,show (1:Int) > 0 by decide,if_true];by_cases h:i < 0
   ·simp only [h,if_true] <;> omega
   ·simp only [h,if_false] <;> omega
 ·cases hi with
  | none=>simp [sliceBounds,HT.sIx]
  | some i=>
   simp only [sliceBounds,HT.sIx,Option.getD_none,show (1:Int) > 0 by decide,if_true];by_cases h:i < 0
   ·simp only [h,if_true] <;> omega
   ·simp only [h,if_false] <;> omega
def zfs (its:List Value) (lo hi:Option Int):slicePick its.toArray lo hi none=((its.drop (HT.sIx its.length 0 lo)).take (HT.sIx its.length its.length hi - HT.sIx its.length 0 lo)).toArray:=by
 obtain ⟨h1,h2,h3⟩:=zfS lo hi its.toArray.size;unfold slicePick;rw [h1,h2,h3];simp only [sliceRange_one,pick_run,yaj] <;> rfl
noncomputable def rSlL (K:PySem.W.Frag):V -> Option Int -> Option Int -> Hp -> VK -> Prop:=λ x lo hi H Q=>∃ a xs,x=.ref a /\ SqL K H a xs /\ ∀ p,H p=none -> Q (.ref p) (upd H p (.lst (cutV xs lo hi)))
def zlb:SlR X (rSlL X.K):=by
 intro pins s σ H x v vl vu lo hi sl Q I rx hs pl pu h;obtain ⟨a,xs,rfl,hx,q⟩:=h;cases rx;obtain ⟨its,r,ht,hz⟩:=I.list hx;have hlen:=r.length;refine ⟨"list",_,slot_list_getitem.lookup,ht.isList.typeIs,?_⟩;refine wpAny_getItem_list_slice ht.isList hs pl pu .none (6:) ?_ (by rw [yaj] <;> omega);rw [zfs,<- hlen];refine ⟨.ref s.heap.objs.size,_,I.laid (t':=s.toks) (o:=.lst (cutV xs lo hi)) (λ b ob q=>yag _ q) (yad _) ?_,rfl,q _ (I.hok.fresh (yad _))⟩;exact ⟨yax (zex xs lo hi) hz,_,0,(r.drop (HT.sIx xs.length 0 lo)).take (HT.sIx xs.length xs.length hi - HT.sIx xs.length 0 lo),yao _ rfl⟩
noncomputable def zcX:V -> Bool
 | .non=>true
 | .bl _=>true
 | .int _=>true
 | .str _=>true
 | _=>false
noncomputable def eqV:V -> V -> Bool
 | .non,.non=>true
 | .bl a,.bl b=>a == b
 | .bl a,.int b=>(if a then 1 else 0) == b
 | .int a,.bl b=>a == (if b then 1 else 0)
 | .int a,.int b=>a == b
 | .str a,.str b=>a == b
 | _,_=>false
def znk {A:Around} {s:Shared} {y x:V} {u v:Value} (ry:RelV y u) (rx:RelV x v) (fy:zcX y=true) (fx:zcX x=true):SeqAt.EqAt A s u v (eqV y x):=by
 cases y with
 | non=>
  cases ry;cases x with
  | non=>cases rx; exact SeqAt.EqAt.same _
  | bl b=>cases rx; exact SeqAt.EqAt.none_bool b
  | int b=>obtain ⟨t,rfl⟩:=rx; exact SeqAt.EqAt.none_int b t
  | str b=>obtain ⟨t,rfl⟩:=rx; exact SeqAt.EqAt.none_str b t
  | _=>exact absurd (show false=true from fx) yar
 | bl a=>
  cases ry;cases x with
  | non=>cases rx; exact SeqAt.EqAt.bool_none a
  | bl b=>cases rx; exact SeqAt.EqAt.bool_bool a b
  | int b=>obtain ⟨t,rfl⟩:=rx; exact SeqAt.EqAt.bool_int a b t
  | str b=>obtain ⟨t,rfl⟩:=rx; exact SeqAt.EqAt.bool_str a b t
  | _=>exact absurd (show false=true from fx) yar
 | int a=>
  obtain ⟨t',rfl⟩:=ry;cases x with
  | non=>cases rx; exact SeqAt.EqAt.int_none a t'
  | bl b=>cases rx; exact SeqAt.EqAt.int_bool a t' b
  | int b=>obtain ⟨t,rfl⟩:=rx; exact SeqAt.EqAt.int_int a t' b t
  | str b=>obtain ⟨t,rfl⟩:=rx; exact SeqAt.EqAt.int_str a t' b t
  | _=>exact absurd (show false=true from fx) yar
 | str a=>
  obtain ⟨t',rfl⟩:=ry;cases x with
  | non=>cases rx; exact SeqAt.EqAt.str_none a t'
  | bl b=>cases rx; exact SeqAt.EqAt.str_bool a t' b
  | int b=>obtain ⟨t,rfl⟩:=rx; exact SeqAt.EqAt.str_int a t' b t
  | str b=>obtain ⟨t,rfl⟩:=rx; exact SeqAt.EqAt.str_str a t' b t
  | _=>exact absurd (show false=true from fx) yar
 | _=>exact absurd (show false=true from fy) yar
noncomputable def eqU (x:V) (u:Value):Bool:=match u with
 | .none=>eqV .non x
 | .bool b=>eqV (.bl b) x
 | .int i _=>eqV (.int i) x
 | .str z _=>eqV (.str z) x
 | _=>false
def zhD {x y:V} {u:Value} (r:RelV y u) (f:zcX y=true):eqU x u=eqV y x:=by
 cases y with
 | non=>cases r; rfl
 | bl b=>cases r; rfl
 | int i=>obtain ⟨t,rfl⟩:=r; rfl
 | str z=>obtain ⟨t,rfl⟩:=r; rfl
 | _=>exact absurd (show false=true from f) yar
def zgB {x:V}:∀ {xs:List V} {us:List Value},Vals xs us -> xs.all zcX=true -> us.any (eqU x)=xs.any λ y=>eqV y x
 | _,_,.nil,_=>rfl
 | y :: xs,u :: us,.cons r t,f=>by
  rw [List.all_cons,yak] at f;rw [List.any_cons,List.any_cons,zhD r f.1,zgB t f.2]
def zd1 {A:Around} {s:Shared} {x:V} {v:Value} (rx:RelV x v) (fx:zcX x=true):∀ {xs:List V} {us:List Value},Vals xs us -> xs.all zcX=true -> ∀ u ∈ us,SeqAt.EqAt A s u v (eqU x u)
 | _,_,.nil,_=>λ u hu=>by cases hu
 | y :: xs,u :: us,.cons r t,f=>λ u' hu=>by
  rw [List.all_cons,yak] at f;rcases yaH.mp hu with rfl | hu
  ·rw [zhD r f.1]; exact znk r rx f.1 fx
  ·exact zd1 rx fx t f.2 u' hu
noncomputable def inV (x:V) (xs:List V):Bool:=xs.any λ y=>eqV y x
noncomputable def rIn (K:PySem.W.Frag) (neg:Bool):R2:=λ x y H Q=>∃ p xs,y=.ref p /\ (SqL K H p xs \/ SqT K H p xs) /\ zcX x=true /\ xs.all zcX=true /\ Q (.bl (if neg then !inV x xs else inV x xs)) H
def zfQ:OpR X (compareOp .NotIn) (rIn X.K true):=by
 intro pins s σ H x y v u Q I rx ry h;obtain ⟨p,xs,rfl,hq,fx,fs,q⟩:=h;cases ry;rcases hq with hq | hq
 ·obtain ⟨its,r,pl,hz⟩:=I.list hq;refine SeqAt.notIn_listAt (eqU x) pl.isList (λ w hw=>zd1 rx fx r fs w (by simpa using hw)) ⟨.bl _,H,I,rfl,?_⟩;rw [show its.toArray.any (eqU x)=its.any (eqU x) by simp,zgB r fs];exact q
 ·obtain ⟨its,r,pl,hz⟩:=I.tuple hq;refine SeqAt.notIn_tupleAt (eqU x) pl (λ w hw=>zd1 rx fx r fs w (by simpa using hw)) ⟨.bl _,H,I,rfl,?_⟩;rw [show its.toArray.any (eqU x)=its.any (eqU x) by simp,zgB r fs];exact q
def zgk:zbl X (.type "list") (λ xs H Q=>∃ p ys,xs=[.ref p] /\ (SqL X.K H p ys \/ SqT X.K H p ys) /\ ∀ l,H l=none -> Q (.ref l) (upd H l (.lst ys))):=by
  intro pins s σ H xs us Q I r h;obtain ⟨p,ys,rfl,hq,q⟩:=h;obtain ⟨u,rfl,rx⟩:=zhI r;cases rx
  have fin:∀ (its:List Value),Vals ys its -> ys.length <= sizeLine -> ∀ (h':Heap) (c':Nat),(∀ b o',s.heap.get? b=some o' -> h'.get? b=some o') ->
      h'.get? s.heap.objs.size=some { cls:=.type "list",dict:=none,data:=.seq its.toArray c',slots:=#[] } -> EP X pins σ Q (.ref s.heap.objs.size) { s with heap:=h' }:=λ its r' hz h' c' kp e=>
    ⟨.ref s.heap.objs.size,_,I.laid (t':=s.toks) kp (yad _) (show zb1 X.prog X.w _ h' _ (.lst ys) from ⟨hz,its,c',r',e⟩),rfl,q _ (I.hok.fresh (yad _))⟩
  rcases hq with hq | hq
  · obtain ⟨its,r',pl,hz⟩:=I.list hq;have hlen:=r'.length;obtain ⟨o,ho,hc,n,hd⟩:=pl.isList;exact call_list_seq p (.inl rfl) ho hc hd (λ h' c' kp e=>fin its r' hz h' c' kp e) (by simp only [yaj] <;> omega)
  · obtain ⟨its,r',pl,hz⟩:=I.tuple hq;have hlen:=r'.length;obtain ⟨o,ho,hc,n,hd⟩:=pl;exact call_list_seq p (.inr rfl) ho hc hd (λ h' c' kp e=>fin its r' hz h' c' kp e) (by simp only [yaj] <;> omega)
def ze9:zbl X (.type "tuple") (λ xs H Q=>∃ p ys,xs=[.ref p] /\ ((SqL X.K H p ys /\ ∀ l,H l=none -> Q (.ref l) (upd H l (.tup ys))) \/ (SqT X.K H p ys /\ Q (.ref p) H))):=by
 intro pins s σ H xs us Q I r h;obtain ⟨p,ys,rfl,h⟩:=h;obtain ⟨u,rfl,rx⟩:=zhI r;cases rx;rcases h with ⟨hq,q⟩ | ⟨hq,q⟩
 ·obtain ⟨its, r', pl, hz⟩ := I.list hq;have hlen := r'.length;refine call_tuple_list pl.isList (fun h' kp => ?_) (by simp only [yaj] <;> omega);have I1 : Inv X pins σ H { s with heap := h' } := I.kept (t' := s.toks) kp
  have I2:Inv X pins σ (upd H h'.objs.size (.tup ys)) { s with heap:=h'.push { cls:=.type "tuple",data:=.seq its.toArray } }:=
   I1.laid (t':=s.toks) (λ b o e=>yag _ e) (yad _) (show zb1 X.prog X.w _ _ _ (.tup ys) from ⟨hz,its,r',zbr.new _ _⟩)
  exact ⟨.ref h'.objs.size,_,I2,rfl,q _ (I1.hok.fresh (yad _))⟩
 ·obtain ⟨its,r',pl,hz⟩:=I.tuple hq;exact call_tuple_same pl ⟨.ref p,H,I,rfl,q⟩
noncomputable def tyV (K:PySem.W.Frag) (T:String) (x:V) (H:Hp):Prop:=match x with
  | .str _=>T="str"
  | .int _=>T="int"
  | .ref p=>(T="list" /\ ∃ xs,SqL K H p xs) \/ (T="tuple" /\ ((∃ o,K.lookup p=some o /\ o.cls=.type "tuple" /\ o.dict=none) \/ ∃ xs,H p=some (.tup xs))) \/
      (T="dict" /\ ((∃ kvs,H p=some (.dK kvs)) \/ ∃ kvs,H p=some (.dT kvs))) \/ (T="set" /\ ∃ S n,H p=some (.set S n))
  | _=>False
def zkF {pins:List (Addr × Obj)} {σ:St} {H:Hp} {s:Shared} {T:String} {x:V} {v:Value} (I:Inv X pins σ H s) (r:RelV x v) (ty:tyV X.K T x H) :
  s.TypeIs v T /\ ∀ a,v=.ref a -> ∃ ob,s.heap.get? a=some ob /\ ob.dict=none:=by
 cases x with
 | str z=>
  obtain ⟨t,rfl⟩:=r;cases (show T="str" from ty);exact ⟨typeIs_str s z t,λ _ e=>nomatch e⟩
 | int i=>
  obtain ⟨t,rfl⟩:=r;cases (show T="int" from ty);exact ⟨typeIs_int s i t,λ _ e=>nomatch e⟩
 | ref p=>
  cases r;rcases ty with ⟨rfl,xs,hq⟩ | ⟨rfl,⟨o,hk,hc,hd⟩ | ⟨xs,hx⟩⟩ | ⟨rfl,hk⟩ | ⟨rfl,S,n,hk⟩
  ·obtain ⟨its,_,pl,_⟩:=I.list hq;refine ⟨pl.isList.typeIs,λ a e=>?_⟩;cases e;obtain ⟨o,n,e,c,hd,_⟩:=pl;exact ⟨o,e,hd⟩
  ·refine ⟨⟨o,I.kIn p o hk,hc⟩,λ a e=>?_⟩;cases e;exact ⟨o,I.kIn _ o hk,hd⟩
  ·obtain ⟨_,_,_,o,e,c,hd,_⟩:=I.hok p _ hx;refine ⟨⟨o,e,c⟩,λ a e2=>?_⟩;cases e2;exact ⟨o,e,hd⟩
  ·have z:∃ o,s.heap.get? p=some o /\ o.ExactDict:=by
    rcases hk with ⟨kvs,hk⟩ | ⟨kvs,hk⟩
    ·obtain ⟨_,_,_,_,o,_,_,e,ex,_⟩:=I.hok p _ hk;exact ⟨o,e,ex⟩
    ·obtain ⟨_,_,_,_,o,_,_,e,ex,_⟩:=I.hok p _ hk;exact ⟨o,e,ex⟩
   obtain ⟨o,e,ex⟩:=z;refine ⟨⟨o,e,ex.1⟩,λ a e2=>?_⟩;cases e2;exact ⟨o,e,ex.2.1⟩
  ·obtain ⟨o,_,_,_,e,ex,_⟩:=I.hok p _ hk;refine ⟨⟨o,e,ex.1⟩,λ a e2=>?_⟩;cases e2;exact ⟨o,e,ex.2.1⟩
 | _=>exact False.elim ty
noncomputable def tBM0 (K:PySem.W.Frag) (T:String) (r:V -> List V -> Hp -> VK -> Prop) (to:TE):TE:=λ σ H Q=>to σ H λ x H1=>tyV K T x H1 /\ r x [] H1 Q
noncomputable def tBM (K:PySem.W.Frag) (T:String) (r:V -> List V -> Hp -> VK -> Prop) (to:TE) (t:TA):TE:=λ σ H Q=>to σ H λ x H1=>tyV K T x H1 /\ t σ H1 λ xs H2=>r x xs H2 Q
variable {o e:Expr} {es:List Expr} {to:TE} {t:TA} {name:Str} {apos cpos:Pos} {T id:String} {r:V -> List V -> Hp -> VK -> Prop}
def zlY (pa:PlainAttrs T) (slot:Slot T name id) (hty:typeOf (.builtin id)=pure (.type "method_descriptor")) (hm:MtR X id r) (ho:PE X o to)
  (hbase:attributeBase o name X.env (eval o X.env)=eval o X.env:=by rfl) (hline:(apos.endLine == cpos.line)=true:=by rfl):PE X (.Call (.Attribute o name apos) [] [] cpos) (tBM0 X.K T r to):=by
 intro pins s σ H Q I h;refine wpAny_Call_method0_late hbase hline (thn (ho pins s σ H _ I h) λ v s1 ⟨x,H1,I1,r1,ty,q1⟩=>?_);obtain ⟨h1,h2⟩:=zkF I1 r1 ty;exact ⟨T,id,pa,slot,hty,h1,h2,Calls.callWith_builtin rfl (PySem.evalArgs_none (hm pins s1 σ H1 x [] v [] Q I1 r1 .nil q1))⟩
def znG (pa:PlainAttrs T) (slot:Slot T name id) (hty:typeOf (.builtin id)=pure (.type "method_descriptor")) (hm:MtR X id r) (ho:PE X o to) (ha:PA X (e :: es) t)
  (hbase:attributeBase o name X.env (eval o X.env)=eval o X.env:=by rfl)
  (hfew : ((backTo cpos (starEach (e :: es) X.env)).all (fun x => !x.1) && (backToKw cpos (keywordEach [] X.env)).all (fun x => x.1.isSome)
   && decide ((e :: es).length + ([]:List Keyword).length + (if ([]:List Keyword).isEmpty then 0 else 1) < 30))=true:=by rfl)
  (hline:(apos.endLine == cpos.line)=true:=by rfl) (hs:starEach (e :: es) X.env=(false,eval e X.env) :: starEach es X.env:=by rfl) (hplain:(backTo cpos (starEach es X.env)).any (·.1)=false:=by rfl) :
  PE X (.Call (.Attribute o name apos) (e :: es) [] cpos) (tBM X.K T r to t):=by
 intro pins s σ H Q I h;refine wpAny_Call_method_late hbase hfew hline rfl (thn (ho pins s σ H _ I h) λ v s1 ⟨x,H1,I1,r1,ty,q1⟩=>?_);obtain ⟨h1,h2⟩:=zkF I1 r1 ty;refine ⟨T,id,pa,slot,hty,h1,h2,?_⟩;have hA:=ha cpos pins s1 σ H1 _ I1 q1;rw [hs] at hA ⊢;refine Calls.callWith_builtin (by show (false || (backTo cpos (starEach es X.env)).any (·.1))=false; rw [hplain] <;> rfl) (Calls.evalArgs_plain ?_);exact thn hA λ us s2 ⟨vs,H2,I2,r2,q2⟩=>hm pins s2 σ H2 x vs v us Q I2 r1 r2 q2
end
noncomputable def MtM (X:Cx) (id:String) (r:V -> List V -> Hp -> VK -> Prop):Prop:=
 ∀ (pins:List (Addr × Obj)) (s:Shared) (σ:St) (H:Hp) (x:V) (xs:List V) (v:Value) (us:List Value) (Q:VK),Inv X pins σ H s -> RelV x v -> Vals xs us -> r x xs H Q ->
  wpAny (model X.prog X.w) X.A (call (.builtin id) (v :: us)) (EP X pins σ Q) X.xe s
def Vals.one:∀ {x:V} {us:List Value},Vals [x] us -> ∃ u,us=[u] /\ RelV x u
 | _,_,.cons r .nil=>⟨_,rfl,r⟩
def Vals.two:∀ {x y:V} {us:List Value},Vals [x,y] us -> ∃ u v,us=[u,v] /\ RelV x u /\ RelV y v
 | _,_,_,.cons r (.cons q .nil)=>⟨_,_,rfl,r,q⟩
def Vals.zero:∀ {us:List Value},Vals [] us -> us=[]
 | _,.nil=>rfl
def Vals.eraseIdx:∀ {xs:List V} {us:List Value} (i:Nat),Vals xs us -> Vals (xs.eraseIdx i) (us.eraseIdx i)
 | _,_,_,.nil=>.nil
 | _,_,0,.cons _ t=>t
 | _,_,i + 1,.cons r t=>.cons r (Vals.eraseIdx i t)
def Vals.rep {xs:List V} {us:List Value} (h:Vals xs us):∀ k:Nat,Vals (List.replicate k xs).flatten (List.replicate k us).flatten
 | 0=>.nil
 | k + 1=>by
  rw [ya0,ya0,ybq,ybq];exact Vals.append h (Vals.rep h k)
def zfJ {α:Type}:∀ (l:List α) (i:Nat),(l.eraseIdx i).length <= l.length
 | [],_=>yad _
 | _ :: _,0=>Nat.le_succ _
 | _ :: r,i + 1=>Nat.succ_le_succ (zfJ r i)
def zec (its:List Value):∀ (k:Nat) (acc:List Value),
  List.foldl (λ x1 x2=>x1 ++ x2) acc.toArray (List.replicate k its.toArray)=(acc ++ (List.replicate k its).flatten).toArray
 | 0,acc=>by simp
 | k + 1,acc=>by
  have e:acc.toArray ++ its.toArray=(acc ++ its).toArray:=by simp
  have e2:(acc ++ its) ++ (List.replicate k its).flatten=acc ++ (List.replicate (k + 1) its).flatten:=by
   rw [ya0,ybq,yan]
  rw [<- e2,<- zec its k (acc ++ its),<- e,ya0,yb0]
section
variable {X:Cx} {pins:List (Addr × Obj)} {σ:St} {H:Hp} {s:Shared} {l b:Addr} {xs ys zs:List V}
def Inv.lset {its its':List Value} {n:Nat} {f:Array Value -> Array Value} {t':Nat} (I:Inv X pins σ H s) (hH:H l=some (.lst xs))
  (e:s.heap.get? l=some { cls:=.type "list",data:=.seq its.toArray n }) (hf:f its.toArray=its'.toArray) (hv:Vals ys its') (hz:ys.length <= sizeLine) :
  Inv X pins σ (upd H l (.lst ys)) { s with heap:=s.heap.update l (Obj.mapSeq f),toks:=t' }:=by
 have q:=PySem.IsL.update e f;rw [hf] at q;refine I.write (x:=l) (e:=l) (by rw [hH]; exact trivial) (.inl rfl) (λ b' u hb hu=>(Heap.get?_update_other s.heap (Obj.mapSeq f) (Ne.symm hb)).trans hu) ⟨_,q⟩ ?_;exact ⟨hz,its',_,hv,q⟩
def Inv.lnew {its:List Value} {t':Nat} (I:Inv X pins σ H s) (hv:Vals ys its) (hz:ys.length <= sizeLine) :
  Inv X pins σ (upd H s.heap.objs.size (.lst ys)) { s with heap:=s.heap.push { cls:=.type "list",data:=.seq its.toArray },toks:=t' }:=
 I.laid (λ _ _ q=>yag _ q) (yad _) ⟨hz,its,0,hv,yao _ rfl⟩
def Inv.fresh (I:Inv X pins σ H s):H s.heap.objs.size=none:=I.hok.fresh (yad _)
def Inv.lstM (I:Inv X pins σ H s) (hH:H l=some (.lst xs)):xs.length <= sizeLine /\ ∃ (its:List Value) (n:Nat),Vals xs its /\ xs.length=its.length /\ s.heap.get? l=some { cls:=.type "list",data:=.seq its.toArray n }:=by
 obtain ⟨z,its,n,r,e⟩:=I.hok l _ hH;exact ⟨z,its,n,r,r.length,e⟩
def zj0 {n:Nat} (h:n <= sizeLine):Builtin.List.listTooLong n=false:=by
 unfold Builtin.List.listTooLong;exact decide_eq_false (1:)
end
section
variable {X:Cx}
noncomputable def zjs:V -> List V -> Hp -> VK -> Prop:=λ x vs H Q=>∃ l xs y,x=.ref l /\ vs=[y] /\ H l=some (.lst xs) /\ xs.length < sizeLine /\ Q .non (upd H l (.lst (xs ++ [y])))
def zge:MtM X "list.append" zjs:=by
 intro pins s σ H x vs v us Q I rx rv h;obtain ⟨l,xs,y,rfl,rfl,hH,hz,q⟩:=h;cases rx;obtain ⟨u,rfl,ru⟩:=rv.one;obtain ⟨z,its,n,r,hl,e⟩:=I.lstM hH;refine call_meets F.slot_list_append ⟨_,e,rfl⟩ F.entry_list_append (F.args_list_append_2 _ _) (PySem.list_append l its.toArray n u (by rw [yaj]; omega)) ⟨e,?_⟩;refine ⟨.non,_,I.lset (its':=its ++ [u]) hH e (6:) (r.append (.cons ru .nil)) ?_,rfl,q⟩;rw [yaF,List.length_singleton];omega
noncomputable def znp:V -> List V -> Hp -> VK -> Prop:=λ x vs H Q=>∃ l xs i k y,x=.ref l /\ vs=[.int i] /\ H l=some (.lst xs) /\ -(2 ^ 63) <= i /\ i < 2 ^ 63 /\ seqIndex? i xs.length=some k /\ xs[k]?=some y /\ Q y (upd H l (.lst (xs.eraseIdx k)))
def zj3:MtM X "list.pop" znp:=by
 intro pins s σ H x vs v us Q I rx rv h;obtain ⟨l,xs,i,k,y,rfl,rfl,hH,h1,h2,hk,hy,q⟩:=h;cases rx;obtain ⟨u,rfl,ru⟩:=rv.one;obtain ⟨t,rfl⟩:=ru;obtain ⟨z,its,n,r,hl,e⟩:=I.lstM hH;obtain ⟨w,hw,rw'⟩:=r.get hy
 refine call_meets F.slot_list_pop ⟨_,e,rfl⟩ F.entry_list_pop (F.args_list_pop_2 _ _)
  (MeetsSeq.list_pop_at l its.toArray n i t k w (fitsIndex_both h1 h2) (by rw [yaj,<- hl]; exact hk) (by rw [<- Array.getElem?_toList]; exact hw) (by rw [yaj]; omega)) ⟨e,?_⟩
 refine ⟨y,_,I.lset (its':=its.eraseIdx k) hH e ?_ (r.eraseIdx k) ?_,rw',q⟩
 ·show its.toArray.eraseIdxIfInBounds k=(its.eraseIdx k).toArray;rw [List.eraseIdxIfInBounds_toArray]
 ·have:=zfJ xs k;omega
noncomputable def rCat:R2:=λ x y H Q=>∃ l b xs zs,x=.ref l /\ y=.ref b /\ H l=some (.lst xs) /\ H b=some (.lst zs) /\ xs.length + zs.length <= sizeLine /\ ∀ p,H p=none -> Q (.ref p) (upd H p (.lst (xs ++ zs)))
def zmL:OpR X (binaryOp .Add) rCat:=by
 intro pins s σ H x y v u Q I rx ry h;obtain ⟨l,b,xs,zs,rfl,rfl,hH,hB,hz,q⟩:=h;cases rx;cases ry;obtain ⟨z,its,n,r,hl,e⟩:=I.lstM hH;obtain ⟨z2,its2,n2,r2,hl2,e2⟩:=I.lstM hB;refine PySem.P.add_list e e2 ?_ (by rw [yaj,yaj]; omega);have ea:its.toArray ++ its2.toArray=(its ++ its2).toArray:=by simp
 rw [ea];exact ⟨.ref _,_,I.lnew (t':=s.toks) (r.append r2) (by rw [yaF]; omega),rfl,q _ I.fresh⟩
noncomputable def rRep:R2:=λ x y H Q=>∃ l k xs,x=.ref l /\ y=.int k /\ H l=some (.lst xs) /\ -(2 ^ 63) <= k /\ k < 2 ^ 63 /\ xs.length * k.toNat <= sizeLine /\
 ∀ p,H p=none -> Q (.ref p) (upd H p (.lst (List.replicate k.toNat xs).flatten))
def zjG {α:Type} (xs:List α) (k:Nat):(List.replicate k xs).flatten.length=k * xs.length:=by
 induction k with
 | zero=>simp
 | succ k ih=>rw [ya0,ybq,yaF,ih,Nat.succ_mul,Nat.add_comm]
def zmZ:OpR X (binaryOp .Mult) rRep:=by
 intro pins s σ H x y v u Q I rx ry h;obtain ⟨l,k,xs,rfl,rfl,hH,h1,h2,hz,q⟩:=h;cases rx;obtain ⟨t,rfl⟩:=ry;obtain ⟨z,its,n,r,hl,e⟩:=I.lstM hH;have hlen:its.toArray.size * k.toNat <= sizeLine:=by rw [yaj,<- hl]; exact hz
 have hcap:¬ its.toArray.size * k.toNat > (2 ^ 63 - 1) / 8:=by
  have:(sizeLine:Nat) <= (2 ^ 63 - 1) / 8:=by decide
  omega
 have hfit:¬ (!Builtin.List.listFitsIndex k)=true:=by
  rw [fitsIndex_both h1 h2];exact yar
 have hlong:¬ Builtin.List.listTooLong (its.toArray.size * k.toNat)=true:=by
  rw [zj0 hlen];exact yar
 have hnew:List.foldl (λ x1 x2=>x1 ++ x2) #[] (List.replicate (if its.toArray.isEmpty=true then 0 else k.toNat) its.toArray)=(List.replicate k.toNat its).flatten.toArray:=by
  have f0:∀ m:Nat,List.foldl (λ x1 x2=>x1 ++ x2) #[] (List.replicate m its.toArray)=(List.replicate m its).flatten.toArray:=λ m=>by
   have:=zec its m [];rw [List.nil_append] at this;exact this
  rw [f0];cases its with
  | nil=>simp
  | cons a r'=>rw [if_neg (6:)]
 refine wpAny_binaryOp_repeat_ref (T:="list") (U:="int") (3:) ⟨_,e,rfl⟩ (λ s'=>typeIs_int s' k t) noFill_list_mul F.fills_int_mul yb1 repeat_list F.slot_int_index.lookup
  (call_meets yb1 (typeIs_int s k t) F.entry_int_rmul (F.args_int_rmul_2 _ _) (int___rmul___int_list k t l its.toArray n)
   ⟨e,rfl,⟨_,e,rfl⟩,call_meets F.slot_list_mul ⟨_,e,rfl⟩ F.entry_list_mul (F.args_list_mul_2 _ _) (AutoListH.list___mul___list_int_3 l its.toArray n k t hfit hcap hlong) ⟨e,?_⟩⟩)
 rw [hnew];exact ⟨.ref _,_,I.lnew (t':=s.toks) (r.rep k.toNat) (by rw [zjG,Nat.mul_comm]; exact hz),rfl,q _ I.fresh⟩
end
section
variable {prog:Program} {w:World} {A:Around} {E:Value -> Shared -> Prop} {s:Shared}
end
section
variable {X:Cx}
end
end L2
namespace Att
open PySem PySem.W PySem.Calls PyProof.Rows
def zer {P:Params} {h:Heap}:∀ (ns:List Int) (vs:List Value),WellAll P h vs (ns.map WData.int) -> IntsAre vs ns:=by
 intro ns
 induction ns with
 | nil=>
  intro vs w;rw [List.map_nil] at w;cases w;exact .nil
 | cons n ns ih=>
  intro vs w;rw [ybj] at w;cases w with
  | cons a b=>
   cases a;exact .cons _ _ (ih _ b)
def ziv {l:OpenLaw} {n:Nat} (hn:l.most=some n) {P:Params} {h:Heap} {args:List WData} {vals:List Value}
    (hpre:l.row.toRowW.claim.pre args=true) (hwl:WellAll P h vals args) :
    ∃ a vs ns,vals=[Value.ref a] /\ args=[WData.list (ns.map WData.int)] /\ h.get? a=some { cls:=.type "list",data:=.seq vs.toArray } /\ IntsAre vs ns /\ ns.length <= n:=by
  have hsh:WShape.hasAll [] args [.list .int]=true:=(pre_splitW hpre).1;have hc:l.pre.holds [] { args:=args }=true:=(pre_splitW hpre).2;obtain ⟨d,r,rfl,h1,h2⟩:=hasAllW_cons hsh;obtain rfl:=hasAllW_nil h2;obtain ⟨xs,rfl,h3⟩:=hasW_list h1;obtain ⟨ns,rfl⟩:=items_int h3
  have hlen:ns.length <= n:=by
    unfold OpenLaw.pre at hc
    have h4:(WTm.not (.lt (.lit (.int (n:Int))) (.len (.arg 0)))).holds [] { args:=[.list (ns.map .int)] }=true:=by
      have h4:=(holds_andW hc).1;rw [hn] at h4;exact h4
    have h5:=condW_of h4 (w_not (w_lt w_lit (w_len_list (w_arg rfl))));rw [yaa] at h5;refine Nat.le_of_not_lt λ q=>?_;have q':(n:Int) < ((ns.length:Nat):Int):=by omega
    first
      | (rw [decide_eq_true q'] at h5; exact absurd h5 (3:))
      | (simp at h5; omega)
  cases hwl with
  | cons w1 w2=>
    cases w2;cases w1 with
    | list ho hall=>exact ⟨_,_,ns,rfl,rfl,ho,zer ns _ hall,hlen⟩
def zjt (l:OpenLaw) (args:List WData):l.row.toRowW.claim.post args (.bool true) args=true:=
 postW_of (r:=l.row.toRowW) (X:=(true == true))
  (show WShape.has [] (.bool true) .bool=true by first | rfl | decide | simp [WShape.has,WShape.arms,WShape.armsAll])
  (show (WTm.eq .res (.lit (.bool true))).value [] { args:=args,res:=some (.bool true),after:=args }=some (.bool (true == true)) from w_eq_bool (w_res rfl) w_lit) rfl
def attach_call {l:OpenLaw} {n:Nat} {q:Program} {loose:List Str} {XP:(Str -> Option Value) -> Heap -> Prop} {YP:World -> Heap -> Prop} {d:DefRec}
    (hn:l.most=some n) (hdf:d.params.defaults=[])
    (call:∀ (w:World) (s₀ s₁:Shared) (mg mb:Str -> Option Value) (fa:Addr) (o:Obj) (pm cd doc:Value) (a:Addr) (vs:List Value) (ns:List Int),
      Ground q loose [] XP w s₀ mg mb s₁.heap -> YP w s₁.heap ->
      s₁.heap.get? fa=some o -> o.data=.func (docDef d.name d.params d.body d.scope pm cd doc) -> s₁.heap.CodeRec cd d.name -> mg d.name=some (.ref fa) ->
      s₁.heap.get? a=some { cls:=.type "list",data:=.seq vs.toArray } -> IntsAre vs ns -> ns.length <= n -> s₁.gens=#[] ->
      codeAny (model l.prog w) callerA (.call (.ref fa) ⟨[.ref a],[]⟩) (λ r s'=>r=.ok (.ret (.bool true)) /\ OldK s₁.heap s'.heap /\ s'.os=s₁.os /\ AllBare s'.gens) s₁) :
    WalkO q loose XP YP l.row.toRowW d [] (λ f vs=>PySem.call f vs):=by
  intro w s₀ s₁ mg mb G Y fa o pm cd doc dV kV ho hd hcd hD hmg hg args vals as hpre hlay hrd hwl hlo;obtain rfl:dV=.none:=Dflts.none hD hdf;obtain rfl:kV=.none:=Dflts.noKw hD;obtain ⟨a,vs,ns,rfl,rfl,hobj,hints,hlen⟩:=ziv hn hpre hwl;refine enter_call (codeAny_mono (call w s₀ s₁ mg mb fa o pm cd doc a vs ns G Y ho (fd_plain hd) hcd hmg hobj hints hlen hg) λ r s' hq=>?_);obtain ⟨rfl,h2,h3,h4⟩:=hq;exact ⟨.inl ⟨.bool true,.bool true,[],rfl,λ _=>rfl,.bool true,zjt l _,λ _=>⟨List.Pairwise.nil,λ _ hm=>(nomatch hm)⟩⟩,h2,h3,h4⟩
section
variable {prog:Program} {w:World} {A:Around} {E:Value -> Shared -> Prop} {s:Shared} {K:Frag}
end
end Att
namespace L2
open PySem PySem.Spec PyProof.Rows
def zfW:∀ {vs:List Value} {ns:List Int},IntsAre vs ns -> Vals (ns.map V.int) vs
 | _,_,.nil=>.nil
 | _,_,.cons n t h=>.cons ⟨t,rfl⟩ (zfW h)
noncomputable def Only (H:Hp):Prop:=∀ b,H b=none \/ ∃ o xs,H b=some (.frz o (.lst xs))
def zj4 {P:Program} {w:World} {K:PySem.W.Frag} {mg mb:Str -> Option Value} {CX:CXT} {k:Nat} {fa a:Addr} {fd:FuncData} {x:Str} {sp:Sp} {s₁:Shared} {vs:List Value} {ns:List Int}
    (KX:K.In s₁.heap) (hns:s₁.heap.Ns mainGlobals mg) (hb:s₁.heap.Ns builtinsNs mb) (hbb:∀ x:Str,x ≠ "__name__" -> mb x=bootBuiltins x) (hlim:s₁.heap.NoLimit) (hg:s₁.gens=#[])
    (ha:s₁.heap.get? a=some { cls:=.type "list",data:=.seq vs.toArray }) (hi:IntsAre vs ns) (hl:ns.length <= sizeLine) (hr:Room k callerA)
    (F:∀ base:Heap,K.In base -> base.Ns mainGlobals mg -> FnOk P w K mg base CX k fa fd [x] sp) (hbind:∀ (s:Shared) (u:Value),BindsTo s fd ⟨[u],[]⟩ [(x,u)])
    (hsp:∀ H:Hp,Only H -> SqL K H a (ns.map V.int) -> sp [.ref a] H (λ v _=>v=.bl true) λ _ _ _=>False)
    (hCX:∀ H e s',CX [] H s₁ (λ _ _ _=>False) e s' -> False) :
    codeAny (model P w) callerA (.call (.ref fa) ⟨[.ref a],[]⟩) (λ r s'=>r=.ok (.ret (.bool true)) /\ OldK s₁.heap s'.heap /\ s'.os=s₁.os /\ AllBare s'.gens) s₁:=by
  have rv:=zfW hi;have lenV:=hi.length
  -- from an abstract heap in which nothing but the script may be tracked
  have core:∀ H:Hp,Only H -> SqL K H a (ns.map V.int) -> HOk P w H s₁.heap -> (∀ b,H b ≠ none -> b=a) -> (H a ≠ none -> K.lookup a=none) ->
      codeAny (model P w) callerA (.call (.ref fa) ⟨[.ref a],[]⟩) (λ r s'=>r=.ok (.ret (.bool true)) /\ OldK s₁.heap s'.heap /\ s'.os=s₁.os /\ AllBare s'.gens) s₁:=by
    intro H hO hS hok hA hK;have base_of:∀ {b:Addr} {o:Obj},s₁.heap.get? b=some o -> H b=none -> (hidT s₁.heap H).get? b=some o:=λ e n=>zkm e n
    have noA:∀ {b:Addr} {o:Obj} {es:Array DictEntry} {ep:Nat},s₁.heap.get? b=some o -> o.data=.dict es ep -> H b=none:=λ {b o es ep} e d=>by
      cases q:H b with
      | none=>rfl
      | some u=>
        have e':b=a:=hA b (by rw [q]; simp);subst e';rw [ha] at e; cases e;have d':Data.seq vs.toArray _=Data.dict es ep:=d;cases d'
    have nsK:∀ {b:Addr} {m:Str -> Option Value},s₁.heap.Ns b m -> (hidT s₁.heap H).Ns b m:=λ {b m} ⟨o,es,ep,e,d,r⟩=>⟨o,es,ep,base_of e (noA e d),d,r⟩
    have hKb:K.In (hidT s₁.heap H):=λ b o e=>base_of (KX b o e) (by
      cases q:H b with
      | none=>rfl
      | some u=>
        have e':b=a:=hA b (by rw [q]; simp);subst e';rw [hK (by rw [q]; simp)] at e; cases e)
    have hM:Mod K mg (hidT s₁.heap H):=⟨hKb,nsK hns,⟨mb,nsK hb,hbb⟩,let ⟨mc,h1,h2⟩:=hlim; ⟨mc,nsK h1,h2⟩⟩
    have e0:Env0 P w K mg (hidT s₁.heap H) callerA [] s₁ H:=⟨rfl,hM,λ b o e=>zlq e,Nat.le_of_eq (ziE _ _),trivial,λ b hb=>absurd (show b ∈ ([]:List Addr) from hb) (6:),hok,.of_eq hg⟩
    refine codeAny_mono ((F _ hKb (nsK hns)).run callerA [] s₁ H ⟨[.ref a],[]⟩ [.ref a] [.ref a] _ _ hr e0 (hbind s₁ (.ref a)) (.cons rfl .nil) (hsp H hO hS)) λ r s' h=>?_;cases r with
    | error e=>exact (hCX H e s' h).elim
    | ok fl=>
      cases fl with
      | next=>exact False.elim h
      | brk=>exact False.elim h
      | cont=>exact False.elim h
      | ret u=>
        obtain ⟨v,H',os,bare,un,hok',r',q⟩:=h;have q':v=.bl true:=q;subst q';obtain rfl:u=Value.bool true:=r';refine ⟨rfl,OldK.of_keep λ b o e=>?_,os,bare⟩;cases q:H b with
        | none=>exact un.keep b o e q (by intro z; exact absurd (show b ∈ ([]:List Addr) from z) (6:)) (6:)
        | some u=>
          rcases hO b with z | ⟨ob,xs,z⟩
          · rw [q] at z; cases z
          · have z2:=un.frzs b ob _ z;obtain ⟨e1,_⟩:=hok b _ z;obtain ⟨e2,_⟩:=hok' b _ z2;rw [e] at e1; cases e1;exact e2
  cases hk:K.lookup a with
  | some o=>
    -- the script is one of the module's own objects
    have e:=KX a o hk;rw [ha] at e;cases e;refine core (λ _=>none) (λ _=>.inl rfl) (.inr ⟨_,vs.toArray,_,hk,rfl,rfl,rfl,by rw [yaj,lenV]; exact hl,by simpa using rv⟩) (λ b u z=>by have z':(none:Option HO)=some u:=z; cases z') (λ b z=>absurd rfl z) λ z=>absurd rfl z
  | none=>
    refine core (λ b=>if b=a then some (.frz { cls:=.type "list",data:=.seq vs.toArray } (.lst (ns.map V.int))) else none) (λ b=>?_) (.inl (.inr ⟨{ cls:=.type "list",data:=.seq vs.toArray },if_pos rfl⟩)) (λ b u z=>?_) (λ b z=>?_) λ _=>hk
    · by_cases hb : b = a
      · exact .inr ⟨_,_,if_pos hb⟩
      · exact .inl (if_neg hb)
    · by_cases hb : b = a
      · have z':=(if_pos hb).symm.trans z;cases z';subst hb;exact ⟨ha,by rw [yaa]; exact hl,vs,_,rv,ha⟩
      · have z':=(if_neg hb).symm.trans z;cases z'
    · by_cases hb : b = a
      · exact hb
      · exact absurd (if_neg hb) z
def walk_of {l:PySem.W.OpenLaw} {n k:Nat} {q:Program} {loose:List Str} {XP:(Str -> Option Value) -> Heap -> Prop} {YP:World -> Heap -> Prop} {d:DefRec} {K:Params -> PySem.W.Frag} {CX:World -> CXT} {sp:World -> Sp} {x:Str}
    (hn:l.most=some n) (hn2:n <= sizeLine) (hdf:d.params.defaults=[]) (hr:Room k callerA)
    (hY:∀ (w:World) (h:Heap),YP w h -> (K w.params).In h)
    (F:∀ (w:World) (mg:Str -> Option Value) (fa:Addr) (h:Heap),(K w.params).In h -> h.Ns mainGlobals mg -> mg d.name=some (.ref fa) ->
      ∃ fd:FuncData,(∀ (s:Shared) (u:Value),BindsTo s fd ⟨[u],[]⟩ [(x,u)]) /\
        ∀ base:Heap,(K w.params).In base -> base.Ns mainGlobals mg -> FnOk l.prog w (K w.params) mg base (CX w) k fa fd [x] (sp w))
    (hsp:∀ (w:World) (H:Hp) (a:Addr) (ns:List Int),ns.length <= n -> Only H -> SqL (K w.params) H a (ns.map V.int) -> sp w [.ref a] H (λ v _=>v=.bl true) λ _ _ _=>False)
    (hCX:∀ (w:World) (H:Hp) (s:Shared) (e:Value) (s':Shared),CX w [] H s (λ _ _ _=>False) e s' -> False) :
    PySem.W.WalkO q loose XP YP l.row.toRowW d [] (λ f vs=>PySem.call f vs):=by
  refine Att.attach_call hn hdf λ w s₀ s₁ mg mb fa o pm cd doc a vs ns G Y ho hd hcd hmg hobj hints hlen hg=>?_;have KX:=hY w _ Y;obtain ⟨fd,hb,hF⟩:=F w mg fa _ KX G.T.g hmg;exact zj4 KX G.T.g G.T.b G.T.builtins G.T.nolimit hg hobj hints (yax hlen hn2) hr hF hb (λ H hO hS=>hsp w H a ns hlen hO hS) λ H e s'=>hCX w H s₁ e s'
noncomputable def zc3 (s:Stmt):Arguments:=match s with
 | .FunctionDef _ a _ _ _ _ _ _ _ _=>a
 | _=>{ posonlyargs:=[],args:=[],vararg:=none,kwonlyargs:=[],kw_defaults:=[],kwarg:=none,defaults:=[] }
noncomputable def zco (s:Stmt):List Stmt:=match s with
 | .FunctionDef _ _ b _ _ _ _ _ _ _=>b
 | _=>[]
noncomputable def zag (s:Stmt):Scope:=match s with
 | .FunctionDef _ _ _ _ _ _ sc _ _ _=>sc
 | _=>{ kind:=.function,names:=[],isGenerator:=false,isCoroutine:=false }
noncomputable abbrev CX0:CXT:=λ _ _ _ _ _ _=>False
noncomputable abbrev E0:XK:=λ _ _ _=>False
def znz {X:Cx}:zjD CX0 X E0:=λ _ _ _ _ _ _ _ h=>h.elim
structure Fun (K:PySem.W.Frag) (x qual:Str) (st:Stmt) (f:Addr) (fd:FuncData):Prop where
 ex:∃ (oc:Value) (od:Option Addr) (kV doc pm:Value) (an:Option Addr) (cdv ct:Value) (osl:Array (Option Value)),
  fd=PySem.W.fnOf x qual (zc3 st) (zco st) (zag st) .none kV doc pm an cdv ct /\ K.lookup f=some ⟨oc,od,.func fd,osl⟩ /\ PySem.W.codeIn K cdv qual=true
 kp:PySem.W.keepIn K (.ref f)=true
section
variable {P:Program} {w:World} {K:PySem.W.Frag} {mg:Str -> Option Value} {base:Heap}
def Fun.ok {x qual:Str} {st:Stmt} {f:Addr} {fd:FuncData} {N ps:List Str} {k:Nat} {sp:Sp} (F:Fun K x qual st f fd) (S:FnScope N ps (zag st)) (len:∀ vs H Q E,sp vs H Q E -> vs.length=ps.length)
  (hbody : ∀ (cdv : Value) (A : Around) (outer : List Env) (s : Shared) (H : Hp) (vs : List V) (Q : VK) (E : XK), Room k (A.deeper (envOfC qual (zag st) s.heap.objs.size f cdv)) -> sp vs H Q E ->
   ∃ t,PSs (cxOf CX0 P w K mg base N qual (zag st) f cdv A outer s H E).nox (zco st) t /\ t { nx:=λ _ H'=>Q .non H',rt:=Q } (start N vs) H):FnOk P w K mg base CX0 (k + 1) f fd ps sp:=by
 obtain ⟨oc,od,kV,doc,pm,an,cdv,ct,osl,rfl,lk,hcd⟩:=F.ex;refine znR lk hcd S len λ A outer s H vs Q E hr hsp=>?_;obtain ⟨t,h,q⟩:=hbody cdv A outer s H vs Q E hr hsp;exact ⟨t,h.nox,q⟩
def Fun.binds {x qual:Str} {st:Stmt} {f:Addr} {fd:FuncData} {ps:List Str} (F:Fun K x qual st f fd)
  (h:∀ (kV doc pm:Value) (an:Option Addr) (cdv ct:Value) (us:List Value),us.length=ps.length -> bindArgs (PySem.W.fnOf x qual (zc3 st) (zco st) (zag st) .none kV doc pm an cdv ct) ⟨us,[]⟩=pure (ps.zip us)):zgM K fd ps []:=by
 obtain ⟨oc,od,kV,doc,pm,an,cdv,ct,osl,rfl,lk,hcd⟩:=F.ex;exact .all (h kV doc pm an cdv ct)
def zkB {x qual:Str} {st:Stmt} {f:Addr} {oc:Value} {od an:Option Addr} {osl:Array (Option Value)} {kV doc pm cdv ct:Value} (l:K.lookup f=some ⟨oc,od,.func (PySem.W.fnOf x qual (zc3 st) (zco st) (zag st) .none kV doc pm an cdv ct),osl⟩)
  (c:PySem.W.codeIn K cdv qual=true) (k:PySem.W.keepIn K (.ref f)=true):Fun K x qual st f (PySem.W.fnOf x qual (zc3 st) (zco st) (zag st) .none kV doc pm an cdv ct):=⟨⟨oc,od,kV,doc,pm,an,cdv,ct,osl,rfl,l,c⟩,k⟩
end
section
variable {X:Cx}
def pv (i:Nat) {x:Str} {pos:Pos} (hN:X.N[i]?=some x:=by rfl) (hv:Vis X.env.scope x:=by first | exact Or.inl rfl | exact Or.inr (Or.inl rfl) | exact Or.inr (Or.inr rfl)) (hd:(x == ("__debug__":Str))=false:=by decide)
  (hcd:(x == ("__classdict__":Str))=false:=by decide):PE X (.Name x pos) (tVar i):=zmV hN hv hd hcd
end
def iteF {A B:Prop} (h:B):if false=true then A else B:=by
 rw [if_neg yar];exact h
def iteT {A B:Prop} (h:A):if true=true then A else B:=by
 rw [if_pos rfl];exact h
def ite2 {c A B:Prop} [Decidable c] (h1:c -> A) (h2:¬ c -> B):if c then A else B:=by
 by_cases h:c
 ·rw [if_pos h];exact h1 h
 ·rw [if_neg h];exact h2 h
noncomputable def Same (H H':Hp):Prop:=∀ b o,H b=some o -> H' b=some o
def Same.refl (H:Hp):Same H H:=λ _ _ h=>h
def Same.trans {H H1 H2:Hp} (a:Same H H1) (b:Same H1 H2):Same H H2:=λ c o h=>b c o (a c o h)
def Same.free {H H':Hp} (e:Same H H') {l:Addr} (h:H' l=Option.none):H l=Option.none:=by
 cases q:H l with
 | none=>rfl
 | some o=>
  rw [e l o q] at h;cases h
def Same.seq {K:PySem.W.Frag} {H H':Hp} {a:Addr} {xs:List V} (e:Same H H') (h:SqL K H a xs):SqL K H' a xs:=by
 rcases h with (h | ⟨o,h⟩) | h
 ·exact .inl (.inl (e _ _ h))
 ·exact .inl (.inr ⟨o,e _ _ h⟩)
 ·exact .inr h
noncomputable def zbN (cells:List (Str × Addr)):List (Str × NameKind) -> List (Str × Addr) -> List (Str × Addr)
 | [],cs=>cs
 | (n,k) :: r,cs=>if k == .free then (match cells.lookup n with | some a=>zbN cells r ((n,a) :: cs) | none=>zbN cells r cs) else zbN cells r cs
noncomputable abbrev clOf (env:Env) (scope:Scope):List (Str × Addr):=zbN env.cells scope.names []
def zfo {env:Env}:∀ (names:List (Str × NameKind)) (cs:List (Str × Addr)),(∀ p ∈ names,p.2=.free -> ∃ c,env.cells.lookup p.1=some c) ->
    (forIn names cs λ x r=>(if (x.2 == NameKind.free)=true then (do let a <- cellOf env x.1; pure (ForInStep.yield ((x.1,a) :: r))) else pure (ForInStep.yield r)):Sem (List (Str × Addr)))=pure (zbN env.cells names cs)
  | [],cs,_=>by simp [zbN]
  | (n,k) :: r,cs,h=>by
    have hr:∀ p ∈ r,p.2=.free -> ∃ c,env.cells.lookup p.1=some c:=λ p hp=>h p (yaM _ hp);rw [List.forIn_cons];by_cases hk:k=.free
    · subst hk;obtain ⟨c,e⟩:=h (n,.free) yaN rfl;have ih:=zfo r ((n,c) :: cs) hr;simp only [beq_self_eq_true,if_true,cellOf,e,pure_bind,zbN];exact ih
    · have hb : (k == NameKind.free) = false := by simpa using hk
      have ih:=zfo r cs hr;simp only [hb,yal,if_false,pure_bind,zbN];exact ih
def zc6 {scope:Scope} {env:Env} (h:∀ p ∈ scope.names,p.2=.free -> ∃ c,env.cells.lookup p.1=some c):closureFor scope env=pure (clOf env scope):=by
 have e:=zfo (env:=env) scope.names [] h;unfold closureFor;simp only [bind_pure];exact e
def zcI {cells:List (Str × Addr)}:∀ (names:List (Str × NameKind)) (cs:List (Str × Addr)),(∀ p ∈ cs,cells.lookup p.1=some p.2) -> ∀ p ∈ zbN cells names cs,cells.lookup p.1=some p.2
 | [],_,h=>h
 | (n,k) :: r,cs,h=>by
  unfold zbN
  split
  ·cases e : cells.lookup n with
   | none=>exact zcI r cs h
   | some a=>
    refine zcI r _ λ p hp=>?_;rcases yaH.mp hp with rfl | hp
    ·exact e
    ·exact h p hp
  ·exact zcI r cs h
def zcE {cells:List (Str × Addr)} {x:Str}:∀ (names:List (Str × NameKind)) (cs:List (Str × Addr)),(cs.lookup x).isSome=true -> ((zbN cells names cs).lookup x).isSome=true
 | [],_,h=>h
 | (n,k) :: r,cs,h=>by
  unfold zbN
  split
  ·cases e : cells.lookup n with
   | none=>exact zcE r cs h
   | some a=>
    refine zcE r _ ?_;rw [yaP]
    split
    ·rfl
    ·exact h
  ·exact zcE r cs h
def zcB {cells:List (Str × Addr)} {x:Str} {c:Addr} (e:cells.lookup x=some c):∀ (names:List (Str × NameKind)) (cs:List (Str × Addr)),(x,NameKind.free) ∈ names -> ((zbN cells names cs).lookup x).isSome=true
 | [],_,h=>nomatch h
 | (n,k) :: r,cs,h=>by
  unfold zbN;rcases yaH.mp h with h | h
  ·cases h;rw [if_pos (0:),e];exact zcE r _ (6:)
  ·split
   ·cases e' : cells.lookup n with
    | none=>exact zcB e r cs h
    | some a=>exact zcB e r _ h
   ·exact zcB e r cs h
def zbM {env:Env} {scope:Scope} {x:Str} {c:Addr} (h:(clOf env scope).lookup x=some c):env.cells.lookup x=some c:=
 zcI scope.names [] (λ _ z=>nomatch z) (x,c) (yaZ h)
def zhn {env:Env} {scope:Scope} {x:Str} {c:Addr} (e:env.cells.lookup x=some c) (h:(x,NameKind.free) ∈ scope.names):(clOf env scope).lookup x=some c:=by
 obtain ⟨d,q⟩:=Option.isSome_iff_exists.mp (zcB e scope.names [] h);have:=zbM (scope:=scope) q;rw [e] at this;cases this;exact q
def zbE {env:Env}:∀ {names:List (Str × NameKind)} {x:Str},names.lookup x=some .free ->
    (names.map λ (n,k)=>if (k == NameKind.free && env.scope.kind == .function && env.kindOf n == some .cell) then (n,NameKind.cell) else (n,k)).lookup x=some .cell \/
    (names.map λ (n,k)=>if (k == NameKind.free && env.scope.kind == .function && env.kindOf n == some .cell) then (n,NameKind.cell) else (n,k)).lookup x=some .free
  | [],_,h=>by simp at h
  | (n,k) :: r,x,h=>by
    have ih:=@zbE env r x;show List.lookup x ((if (k == NameKind.free && env.scope.kind == .function && env.kindOf n == some .cell)=true then (n,NameKind.cell) else (n,k)) :: _)=_ \/ List.lookup x ((if (k == NameKind.free && env.scope.kind == .function && env.kindOf n == some .cell)=true then (n,NameKind.cell) else (n,k)) :: _)=_;cases hx:x == n with
    | true=>
      simp only [yaP,hx] at h;cases h;by_cases hc:(NameKind.free == NameKind.free && env.scope.kind == .function && env.kindOf n == some .cell)=true
      · rw [if_pos hc]; simp [yaP,hx]
      · rw [if_neg hc]; simp [yaP,hx]
    | false=>
      simp only [yaP,hx] at h;by_cases hc:(k == NameKind.free && env.scope.kind == .function && env.kindOf n == some .cell)=true
      · rw [if_pos hc]; simp only [yaP,hx]; exact ih h
      · rw [if_neg hc]; simp only [yaP,hx]; exact ih h
def zbz {env:Env}:∀ {names:List (Str × NameKind)} {x:Str},(∀ y ∈ names,y.2 ≠ .cell) ->
    ((names.map λ (n,k)=>if (k == NameKind.free && env.scope.kind == .function && env.kindOf n == some .cell) then (n,NameKind.cell) else (n,k)).lookup x=some .cell \/
    (names.map λ (n,k)=>if (k == NameKind.free && env.scope.kind == .function && env.kindOf n == some .cell) then (n,NameKind.cell) else (n,k)).lookup x=some .free) -> (x,NameKind.free) ∈ names
  | [],_,_,h=>by simp at h
  | (n,k) :: r,x,hc,h=>by
    have ih:=@zbz env r x λ y hy=>hc y (yaM _ hy);have hk:k ≠ .cell:=hc (n,k) yaN
    have h':List.lookup x ((if (k == NameKind.free && env.scope.kind == .function && env.kindOf n == some .cell)=true then (n,NameKind.cell) else (n,k)) :: (r.map λ (n,k)=>if (k == NameKind.free && env.scope.kind == .function && env.kindOf n == some .cell) then (n,NameKind.cell) else (n,k)))=some .cell \/
      List.lookup x ((if (k == NameKind.free && env.scope.kind == .function && env.kindOf n == some .cell)=true then (n,NameKind.cell) else (n,k)) :: (r.map λ (n,k)=>if (k == NameKind.free && env.scope.kind == .function && env.kindOf n == some .cell) then (n,NameKind.cell) else (n,k)))=some .free:=h
    by_cases hq:(k == NameKind.free && env.scope.kind == .function && env.kindOf n == some .cell)=true
    · rw [if_pos hq] at h'
      have hf:k=.free:=by
        have:=hq;simp only [yak] at this;simpa using this.1.1
      cases hx:x == n with
      | true=>
        have:x=n:=by simpa using hx
        subst this;rw [hf];exact yaN
      | false=>
        simp only [yaP,hx] at h';exact yaM _ (ih h')
    · rw [if_neg hq] at h';cases hx : x == n with
      | true=>
        simp only [yaP,hx,Option.some.injEq] at h';have:x=n:=by simpa using hx
        subst this;rcases h' with z | z
        · exact absurd z hk
        · rw [z]; exact yaN
      | false=>
        simp only [yaP,hx] at h';exact yaM _ (ih h')
noncomputable def zfF (N:List Str) (sc scope:Scope):List Str -> List (Option Nat) -> Bool
 | [],[]=>true
 | _ :: N',none :: src=>zfF N sc scope N' src
 | x :: N',some j :: src=>decide (N[j]?=some x) && (decide (sc.names.lookup x=some .cell) || decide (sc.names.lookup x=some .free)) && decide (scope.names.lookup x=some .free) && zfF N sc scope N' src
 | _,_=>false
noncomputable def zg6 (N:List Str) (sc scope:Scope) (N':List Str) (src:List (Option Nat)):Bool:=
 scope.names.all (λ y=>decide (y.2 ≠ .cell)) && decide (scope.kind=.function) && scope.names.all (λ y=>decide (y.2=.local -> scope.names.lookup y.1=some .local)) &&
 scope.names.all (λ y=>decide (y.2=.free -> sc.names.lookup y.1=some .cell \/ sc.names.lookup y.1=some .free)) && decide (src.length=N'.length) && zfF N sc scope N' src
structure CompOk (N:List Str) (sc scope:Scope) (N':List Str) (src:List (Option Nat)):Prop where
 cell:∀ y ∈ scope.names,y.2 ≠ .cell
 kind:scope.kind=.function
 names:∀ y ∈ scope.names,y.2=.local -> scope.names.lookup y.1=some .local
 free:∀ y ∈ scope.names,y.2=.free -> sc.names.lookup y.1=some .cell \/ sc.names.lookup y.1=some .free
 len:src.length=N'.length
 cap:∀ (i j:Nat) (x:Str),src[i]?=some (some j) -> N'[i]?=some x -> N[j]?=some x /\ (sc.names.lookup x=some .cell \/ sc.names.lookup x=some .free) /\ scope.names.lookup x=some .free
def zfa {N:List Str} {sc scope:Scope}:∀ {N':List Str} {src:List (Option Nat)},zfF N sc scope N' src=true -> ∀ (i j:Nat) (x:Str),src[i]?=some (some j) -> N'[i]?=some x ->
    N[j]?=some x /\ (sc.names.lookup x=some .cell \/ sc.names.lookup x=some .free) /\ scope.names.lookup x=some .free
  | [],[],_,i,j,x,h,_=>by simp at h
  | [],_ :: _,h,_,_,_,_,_=>by simp [zfF] at h
  | _ :: _,[],h,_,_,_,_,_=>by simp [zfF] at h
  | y :: N',none :: src,h,i,j,x,h1,h2=>by
    cases i with
    | zero=>simp at h1
    | succ i=>exact zfa (N':=N') (src:=src) (by simpa [zfF] using h) i j x (by simpa using h1) (by simpa using h2)
  | y :: N',some k :: src,h,i,j,x,h1,h2=>by
    simp only [zfF,yak,Bool.or_eq_true,decide_eq_true_eq] at h;cases i with
    | zero=>
      simp at h1 h2;subst h1 h2;exact ⟨h.1.1.1,h.1.1.2,h.1.2⟩
    | succ i=>exact zfa (N':=N') (src:=src) h.2 i j x (by simpa using h1) (by simpa using h2)
def zgl {N:List Str} {sc scope:Scope} {N':List Str} {src:List (Option Nat)} (h:zg6 N sc scope N' src=true):CompOk N sc scope N' src:=by
 simp only [zg6,yak,yaQ,decide_eq_true_eq] at h;exact ⟨h.1.1.1.1.1,h.1.1.1.1.2,h.1.1.1.2,h.1.1.2,h.1.2,zfa h.2⟩
noncomputable def zaK (X:Cx) (scope:Scope) (N':List Str) (C:Addr) (s:Shared) (H:Hp) (fp:List Addr):Cx where
 prog:=X.prog
 w:=X.w
 K:=X.K
 mg:=X.mg
 base:=X.base
 A:=X.A
 N:=N'
 s₀:=s
 H₀:=H
 env:=compEnvC scope (clOf X.env scope) C X.env
 outer:=X.stack
 stack:=X.stack
 ex:=fp
 fn:=λ _=>false
 calm:=X.calm
 pn:=[]
 xe:=λ _ _=>False
noncomputable def capt (src:List (Option Nat)) (σ:St):St:=src.map λ o=>o.bind λ j=>(σ[j]?).getD none
noncomputable def Ext (σ σ':St):Prop:=σ.length=σ'.length /\ ∀ (i:Nat) v,σ[i]?=some (some v) -> σ'[i]?=some (some v)
noncomputable def PTs (X:Cx) (ifs:List Expr) (t:TT):Prop:=
 ∀ (pins:List (Addr × Obj)) (s:Shared) (σ:St) (H:Hp) (Q:Bool -> Hp -> Prop),Inv X pins σ H s -> t σ H Q ->
  wpAny (model X.prog X.w) X.A (forIn ifs true λ c r=>if r=true then do let ok <- isTrue c X.env (eval c X.env); pure (ForInStep.yield ok) else pure (ForInStep.yield r)) (TP X pins σ Q) X.xe s
noncomputable def zmg:TT:=λ _ H Q=>Q true H
def zbH {X:Cx}:PTs X [] zmg:=λ _ _ _ H _ I h=>wpAny_tests_nil ⟨H,I,h⟩
def zgG {X:Cx} {c:Expr} {t:TT} (h:PT X c t):PTs X [c] t:=λ pins s σ H Q I hw=>wpAny_tests_one (h pins s σ H Q I hw)
noncomputable def zcK (J:It) (src:List (Option Nat)) (σ:St) (g:TG) (tc:TT) (te:TE) (Q:VK) (H1:Hp):Prop:=
 ∃ W:Nat -> Nat -> List V -> Hp -> Prop,(∃ m,W 0 m [] H1) /\ ∀ i m acc H,W i m acc H -> acc.length <= sizeLine /\
  ((J.stop i H /\ ∀ p,H p=none -> Q (.ref p) (upd H p (.lst acc))) \/
  (J.go i H /\ ∃ (N1 : V -> Hp -> Prop) (N2 : Hp -> Prop), (∀ y H4, N1 y H4 -> ∃ m', m' < m /\ W (i + 1) m' (acc ++ [y]) H4) /\ (∀ H3, N2 H3 -> ∃ m', m' < m /\ W (i + 1) m' acc H3) /\
   ∀ x H',J.yld i H x H' -> g x (capt src σ) H' λ σ2 H2=>Ext (capt src σ) σ2 /\ tc σ2 H2 λ b H3=>if b=true then te σ2 H3 N1 else N2 H3))
noncomputable def zka (src:List (Option Nat)) (wi:TI) (g:TG) (tc:TT) (te:TE):TE:=λ σ H Q=>wi σ H λ J H1=>zcK J src σ g tc te Q H1
section
variable {prog:Program} {w:World} {A:Around} {R:Result -> Shared -> Prop} {s:Shared}
def zfy {elt target iter:Expr} {ifs:List Expr} {scope:Scope} {pos:Pos} {it acc:Value} {env:Env} (I:Nat -> Shared -> Prop)
  (turn : ∀ n s, I n s -> wpAny (model prog w) A (pyNext it) (fun r s₁ => match r with
   | none=>R (.ok .next) s₁
   | some v=>wpAny (model prog w) A (letOwnedTupleGo target it v) (λ _ s₁'=>wpAny (model prog w) A (assign target env v) (λ _ s₂=>
     wpAny (model prog w) A (forIn ifs true λ c r=>if r=true then do let ok <- isTrue c env (eval c env); pure (ForInStep.yield ok) else pure (ForInStep.yield r)) (λ ok s₃=>
      if ok=true then wpAny (model prog w) A (eval elt env) (λ x s₄=>
       wpAny (model prog w) A (call (.builtin "list.append") [acc,x]) (λ _ s₅=>∃ m,m < n /\ I m s₅) (λ _ _=>False) s₄) (λ _ _=>False) s₃
      else ∃ m,m < n /\ I m s₃) (λ _ _=>False) s₂) (λ _ _=>False) s₁') (λ _ _=>False) s₁) (λ _ _=>False) s)
  (n:Nat) (h:I n s) :
  codeAny (model prog w) A (.compLoop (.ListComp elt [⟨target,iter,ifs,0⟩] scope pos) 0 it acc env) R s:=by
 refine codeAny_loop rfl I (λ n s hI=>?_) n h;show wpAny _ A ((compTurn (.ListComp elt [⟨target,iter,ifs,0⟩] scope pos) 0 it acc env).onRaise (λ x=>do noteFrame x env; theTreesLotGoes x)) _ _ s;refine wpAny_noted ?_;rw [compTurn_list];refine wpAny_bind (wpAny_standAt (wpAny_bind (wpAny_mono (turn n s hI) (λ r s₁ h₁=>?_) λ _ _ h'=>False.elim h')));cases r with
 | none=>exact wpAny_pure h₁
 | some v=>
  refine wpAny_bind (wpAny_mono h₁ (λ _ s₁' h₁'=>?_) λ _ _ h'=>False.elim h');refine wpAny_bind (wpAny_mono h₁' (λ _ s₂ h₂=>wpAny_bind (wpAny_mono h₂ (λ ok s₃ h₃=>?_) λ _ _ h'=>False.elim h')) λ _ _ h'=>False.elim h');cases ok with
  | false=>exact wpAny_pure ⟨rfl,h₃⟩
  | true=>
   exact wpAny_bind (wpAny_bind (wpAny_mono h₃ (λ x s₄ h₄=>wpAny_bind (wpAny_mono h₄ (λ _ s₅ h₅=>wpAny_pure (wpAny_pure ⟨rfl,h₅⟩)) λ _ _ h'=>False.elim h')) λ _ _ h'=>False.elim h'))
end
section
variable {X:Cx} {tg iter elt:Expr} {ifs:List Expr} {scope sc:Scope} {pos:Pos} {N N':List Str} {src:List (Option Nat)} {wi:TI} {g:TG} {tc:TT} {te:TE}
def Inv.lst_made {pins:List (Addr × Obj)} {σ:St} {H:Hp} {h:Heap} {D:Addr} {acc:List V} {its:List Value} (P:Program) (w:World) (hok:HOk P w H h) (hn:H D=none) (hz:acc.length <= sizeLine) (r:Vals acc its) (e:h.PlainList D its.toArray) :
  HOk P w (upd H D (.lst acc)) h:=λ b u q=>by
 by_cases hb:b=D
 ·subst hb;rw [zaf] at q;cases q;obtain ⟨n,e⟩:=e;exact ⟨hz,its,n,r,e⟩
 ·rw [zas hb] at q;exact (hok b u q).stay (λ c v _ q=>q) (λ c q=>by rw [zas (zaq q hn)]; exact q) λ c xs q=>by rw [zas (zaq q hn)]; exact q
def zf1 (hc:X.calm=true) (hN:X.N=N) (hsc:X.env.scope=sc) (ok:CompOk N sc scope N' src)
    (hg:∀ C s H fp,PG (zaK X scope N' C s H fp) tg g) (ht:∀ C s H fp,PTs (zaK X scope N' C s H fp) ifs tc) (he:∀ C s H fp,PE (zaK X scope N' C s H fp) elt te)
    {pins:List (Addr × Obj)} {σ:St} {H2:Hp} {s₂:Shared} {J:It} {it:Addr} {fp:List Addr} {tn:Nat -> Heap -> Prop} (I2:Inv X pins σ H2 s₂) (T:Turn X.prog X.w X.K tg J fp it tn) (st2:tn 0 s₂.heap) (f2:∀ b ∈ fp,FpOk X pins H2 b)
    {Q:VK} (hw:zcK J src σ g tc te Q H2) {E:Value -> Shared -> Prop} {RR:Value -> Addr -> Result -> Shared -> Prop}
    (fin:∀ D C s' acc H' oC m,Inv X pins σ (upd H' D (.lst acc)) s' -> Q (.ref D) (upd H' D (.lst acc)) -> s'.heap.get? C=some oC -> s'.heap.Ns C m -> (∀ v,oC.data ≠ .cell v) -> FpOk X pins (upd H' D (.lst acc)) C -> RR (.ref D) C (.ok .next) s') :
    wpAny (model X.prog X.w) X.A (newList []) (λ acc s₃=>wpAny (model X.prog X.w) X.A (newFunctionEnv scope X.env.globals (clOf X.env scope) [] X.env.qual none .none (some X.env)) (λ cenv s₄=>
      codeAny (model X.prog X.w) X.A (.compStart (.ListComp elt [⟨tg,iter,ifs,0⟩] scope pos) 0 (.ref it) acc { cenv with scope:=relabel scope X.env }) (RR acc cenv.locals) s₄) E s₃) E s₂:=by
  subst hN hsc;refine wpAny_newObj_type (wpAny_newFunctionEnv ok.cell (by intro y hy; simp at hy) (λ h₁ hns₁ hsb₁=>?_) ok.kind);dsimp only at hns₁ hsb₁ ⊢;generalize hHp:s₂.heap.push { cls:=.type "list",dict:=none,data:=.seq ([]:List Value).toArray }=Hp2 at hns₁ hsb₁ ⊢;have hC:Hp2.objs.size=s₂.heap.objs.size + 1:=by rw [<- hHp,Heap.size_push]
  have hDC:s₂.heap.objs.size ≠ Hp2.objs.size:=by rw [hC]; exact yaB (Nat.lt_succ_self _)
  have hCle:s₂.heap.objs.size <= Hp2.objs.size:=by rw [hC]; exact Nat.le_succ _
  have below:∀ b,b < s₂.heap.objs.size -> b ≠ Hp2.objs.size /\ b ≠ s₂.heap.objs.size:=λ b hb=>⟨by rw [hC]; exact yaB (Nat.lt_succ_of_lt hb),yaB hb⟩
  have old:∀ b o,s₂.heap.get? b=some o -> h₁.get? b=some o:=λ b o e=>hsb₁.extBut b o (below b (yai e)).1 (yag _ (hHp ▸ yag _ e));have hacc:h₁.PlainList s₂.heap.objs.size #[]:=⟨_,hsb₁.extBut _ _ hDC (yag _ (hHp ▸ yao _ rfl))⟩
  have hst₁:tn 0 h₁:=T.keep _ _ _ st2 λ b _ o e=>old b o e
  have fpl:∀ b ∈ fp,b < s₂.heap.objs.size:=λ b hb=>by
    obtain ⟨o,e,_⟩:=T.obj 0 _ st2 b hb;exact yai e
  generalize hCd:Hp2.objs.size=C at hns₁ hsb₁ hC hDC hCle below ⊢;generalize hDd:s₂.heap.objs.size=D at hC hDC hCle below hacc fpl ⊢;have freshH:∀ a,D <= a -> H2 a=none:=λ a ha=>I2.hok.fresh (by rw [hDd]; exact ha)
  have cellLt:∀ x c,X.env.cells.lookup x=some c -> c < D:=λ x c e=>by
    obtain ⟨v,o,ho,_⟩:=I2.cell x c e;rw [<- hDd];exact yai ho
  -- the block's context is right
  have oky:(zaK X scope N' C s₂ H2 fp).Ok:=by
    refine ⟨I2.ok.mod,?_,I2.ok.glob,I2.ok.blt,?_,λ x y c h1 h2=>I2.ok.inj x y c (zbM h1) (zbM h2),λ x hx=>?_,λ x c z=>absurd z (by simp [zaK]),I2.ok.hd,I2.ok.frames,.inl rfl,λ b hb=>?_,I2.bs,yax I2.ok.bsz I2.sz,λ b o e hb=>?_,λ b hb z=>?_,I2.stack,I2.stkFree⟩
    · exact ok.kind
    · show s₂.heap.objs.size <= C;rw [hDd]; exact hCle
    · have hm:=zbz (env:=X.env) (x:=x) ok.cell hx;obtain ⟨c,e⟩:=I2.ok.has x (ok.free _ hm rfl);exact ⟨c,zhn e hm⟩
    · exact ⟨(below b (fpl b hb)).1,λ x c e=>(f2 b hb).2.2.2.2.1 x c (zbM e)⟩
    · have q := I2.ok.bs b o e;rcases (f2 b hb).2.2.2.1 with z | z
      · exact I2.ok.noex b o e z
      · exact absurd (yah (yai q.1) z) (yaU _)
    · rcases yaH.mp (I2.stkSub b z) with e | e
      · exact (f2 b hb).2.1 e
      · exact (f2 b hb).2.2.1 e
  have stkLt:∀ b ∈ frs X.stack,b < D:=λ b hb=>by
    obtain ⟨_,o,ho,_⟩:=I2.stack.mem hb;rw [<- hDd];exact yai ho
  have fpo:∀ {H':Hp} {pl:List (Addr × Obj)},(∀ b ∈ fp,H' b=none) -> (∀ p ∈ pl,p.1 ∉ fp) -> ∀ b ∈ fp,FpOk (zaK X scope N' C s₂ H2 fp) pl H' b:=λ {H' pl} hn hp b hb=>
    ⟨hn b hb,(below b (fpl b hb)).1,λ z=>(oky.exfs b hb) z,.inl hb,λ x c e=>(f2 b hb).2.2.2.2.1 x c (zbM e),λ p hp' z=>by
      have hp':p ∈ pl:=by simpa [zaK] using hp'
      exact hp p hp' (by rw [z]; exact hb)⟩
  have Dfp:D ∉ fp:=λ z=>yaU _ (fpl D z)
  -- the start
  have Iy:∀ tk,Inv (zaK X scope N' C s₂ H2 fp) [] (capt src σ) H2 { s₂ with heap:=h₁,toks:=tk }:=λ tk=>by
    refine ⟨oky,rfl,I2.bare,Un.kept old,⟨_,hns₁,λ i x v h1 h2 _=>?_⟩,λ x c e=>?_,freshH _ hCle,λ x c e=>I2.freeC x c (zbM e),λ p hp=>absurd hp (by simp [zaK]),I2.hok.kept old,?_⟩
    · have h2:(src[i]?).map (λ o=>o.bind λ j=>(σ[j]?).getD none)=some (some v):=by
        rw [<- h2]; simp [capt]
      cases e:src[i]? with
      | none=>rw [e] at h2; cases h2
      | some o=>
        rw [e] at h2;cases o with
        | none=>cases h2
        | some j=>
          have h2:(σ[j]?).getD none=some v:=Option.some.inj h2
          have h3:σ[j]?=some (some v):=by
            cases q:σ[j]? with
            | none=>rw [q] at h2; cases h2
            | some y=>rw [q] at h2; cases h2; rfl
          obtain ⟨a1,a2,a3⟩:=ok.cap i j x e h1;obtain ⟨m,hn,hl⟩:=I2.loc;obtain ⟨u,ru,lu⟩:=hl j x v a1 h3 (.inr a2);refine ⟨u,ru,?_⟩;rcases lu with ⟨k,_⟩ | ⟨k,c,ec,hcell⟩
          · have k:X.env.scope.names.lookup x=some .local:=k;rcases a2 with z | z <;> rw [k] at z <;> cases z
          · refine .inr ⟨zbE a3,c,zhn ec (yaZ a3),?_⟩;obtain ⟨o,ho,hd⟩:=hcell;exact ⟨o,old c o ho,hd⟩
    · obtain ⟨v,o,ho,hd⟩:=I2.cell x c (zbM e);exact ⟨v,o,old c o ho,hd⟩
    · show (capt src σ).length=N'.length;rw [capt,yaa]; exact ok.len
  obtain ⟨W,⟨m0,w0⟩,turn⟩:=hw
  have loop:∀ tk,codeAny (model X.prog X.w) X.A (.compLoop (.ListComp elt [⟨tg,iter,ifs,0⟩] scope pos) 0 (.ref it) (.ref D) (compEnvC scope (clOf X.env scope) C X.env)) (RR (.ref D) C) { s₂ with heap:=h₁,toks:=tk }:=by
    intro tk
    refine zfy (λ n s'=>∃ i H' acc its,Inv (zaK X scope N' C s₂ H2 fp) [] (capt src σ) H' s' /\ tn i s'.heap /\ (∀ b ∈ fp,H' b=none) /\ H' D=none /\ s'.heap.PlainList D (List.toArray its) /\ Vals acc its /\ W i n acc H') ?_ m0
      ⟨0,H2,[],[],Iy tk,hst₁,λ b hb=>(f2 b hb).1,freshH _ (yad _),hacc,.nil,w0⟩
    rintro n s3 ⟨i,H3,acc,its,I3,st3,fr3,hD3,pl3,v3,w3⟩;obtain ⟨hz,turn⟩:=turn i n acc H3 w3;obtain ⟨nD,eD⟩:=pl3;have Dfs:D ∉ frs X.stack:=λ z=>yaU _ (stkLt D z)
    have I3D:Inv (zaK X scope N' C s₂ H2 fp) [(D,{ cls:=.type "list",data:=.seq its.toArray nD })] (capt src σ) H3 s3:=I3.pins_of λ p hp=>by
      have hp:p=(D,{ cls:=.type "list",data:=.seq its.toArray nD }):=by simpa [zaK] using hp
      subst hp;exact ⟨eD,hD3,hDC,Dfs,λ v z=>nomatch z⟩
    have pD:∀ p ∈ [(D,({ cls:=.type "list",data:=.seq its.toArray nD }:Obj))],p.1 ∉ fp:=λ p hp=>by
      have hp:p=(D,{ cls:=.type "list",data:=.seq its.toArray nD }):=by simpa using hp
      subst hp;exact Dfp
    rcases turn with ⟨stop,qn⟩ | ⟨go,N1,N2,hN1,hN2,step⟩
    · refine thn (T.done (zaK X scope N' C s₂ H2 fp) rfl rfl rfl hc i _ s3 _ H3 _ I3D (fpo fr3 pD) st3 stop) fun r s4 ⟨hr, I4⟩ => ?_;subst hr;obtain ⟨eD4, hD4, _⟩ := I4.pin (D, { cls := .type "list", data := .seq its.toArray nD }) (by simp [zaK]);have hok4 : HOk X.prog X.w (upd H3 D (.lst acc)) s4.heap := Inv.lst_made (pins := []) (σ := []) _ _ I4.hok hD3 hz v3 ⟨nD, eD4⟩
      have un:Un (frs X.stack) fp H2 (upd H3 D (.lst acc)) s₂.heap s4.heap:=by
        have u:Un (frs X.stack) fp H2 H3 s₂.heap s4.heap:=I4.base;have ne:∀ b o,s₂.heap.get? b=some o -> b ≠ D:=λ b o e=>yaB (hDd ▸ yai e);refine ⟨u.keep,u.slot,λ b o e n hx=>?_,u.there,λ b xs e=>?_,λ b o x e=>?_,λ b ps e=>?_⟩
        · rw [zas (ne b o e)]; exact u.free b o e n hx
        · have q:=u.tups b xs e;rw [zas (zaq q hD3)]; exact q
        · have q:=u.frzs b o x e;rw [zas (zaq q hD3)]; exact q
        · obtain ⟨more,q⟩:=u.tbls b ps e;exact ⟨more,by rw [zas (zaq q hD3)]; exact q⟩
      have chk:∀ b ∈ fp,(b ∈ X.ex \/ X.s₀.heap.objs.size <= b) /\ b ≠ X.env.locals /\ (∀ x c,X.env.cells.lookup x=some c -> c ≠ b) /\ ∀ p ∈ X.pn ++ pins,p.1 ≠ b:=λ b hb=>by
        obtain ⟨_,f1,_,f3,f4,f5⟩:=f2 b hb;exact ⟨f3,f1,f4,f5⟩
      have IX:Inv X pins σ (upd H3 D (.lst acc)) s4:=by
        have hos:s4.os=s₂.os:=I4.os;have hb4:=I4.bare;obtain ⟨hh,gg,dd,tt,os'⟩:=s4;obtain rfl:os'=s₂.os:=hos;exact I2.call (h':=hh) (g':=gg) (d':=dd) (t':=tt) (ch:=fp) un hok4 hb4 chk
      obtain ⟨mC,hnC,_⟩:=I4.loc;have hnC:s4.heap.Ns C mC:=hnC;obtain ⟨oC,es,ep,eC,dC,rC⟩:=id hnC
      have fC:FpOk X pins (upd H3 D (.lst acc)) C:=by
        refine ⟨by rw [zas hDC.symm]; exact I4.free,ybO (yah I2.lt (by rw [hDd]; exact hCle)),I2.nofs (by rw [hDd]; exact hCle),.inr (yax I2.sz (by rw [hDd]; exact hCle)),λ x c e z=>?_,λ p hp z=>?_⟩
        · have:=cellLt x c e;rw [z] at this;exact yaU _ (yah this hCle)
        · have:=yai (I2.pin p hp).1;rw [z,hDd] at this;exact yaU _ (yah this hCle)
      exact fin D C s4 acc H3 oC mC IX (qn D hD3) eC hnC (λ v z=>by rw [dC] at z; cases z) fC
    · refine thn (T.item (zaK X scope N' C s₂ H2 fp) rfl rfl rfl hc i _ s3 _ H3 _ I3D (fpo fr3 pD) st3 go) fun r s4 ⟨u, hr, h4⟩ => ?_;subst hr;refine thn h4 fun _ s5 ⟨x, H5, I5, r5, y5, st5, fr5⟩ => ?_;have I5' := I5.pinned (fpo fr5 pD) (T.obj _ _ st5);refine thn (hg C s₂ H2 fp _ s5 _ H5 x u _ I5' r5 (step x H5 y5)) fun _ s6 ⟨σ6, H6, I6, ex6, q6⟩ => ?_;refine thn (ht C s₂ H2 fp _ s6 σ6 H6 _ I6 q6) fun b s7 ⟨H7, I7, q7⟩ => ?_
      -- back to the start of a turn
      have back:∀ {s8:Shared} {H8:Hp},Inv (zaK X scope N' C s₂ H2 fp) ([(D,({ cls:=.type "list",data:=.seq its.toArray nD }:Obj))] ++ zgg fp s5.heap) σ6 H8 s8 ->
          Inv (zaK X scope N' C s₂ H2 fp) [] (capt src σ) H8 s8 /\ tn (i + 1) s8.heap /\ (∀ b ∈ fp,H8 b=none) /\ H8 D=none /\ s8.heap.get? D=some { cls:=.type "list",data:=.seq its.toArray nD }:=λ {s8 H8} I8=>by
        have pf:∀ b ∈ fp,∀ o,s5.heap.get? b=some o -> s8.heap.get? b=some o /\ H8 b=none:=λ b hb o e=>by
          have q:=I8.pin (b,o) (yat _ (yat _ (zdH hb e)));exact ⟨q.1,q.2.1⟩
        have qD:=I8.pin (D,{ cls:=.type "list",data:=.seq its.toArray nD }) (yat _ (ybs _ yaN));refine ⟨(I8.pins_of (pins':=[]) λ p hp=>absurd hp (by simp [zaK])).weak ex6.1 ex6.2,T.keep _ _ _ st5 λ b hb o e=>(pf b hb o e).1,λ b hb=>?_,qD.2.1,qD.1⟩;obtain ⟨o,e,_⟩:=T.obj _ _ st5 b hb;exact (pf b hb o e).2
      cases b with
      | false=>
        obtain ⟨m',hm,w7⟩:=hN2 H7 (by simpa using q7);obtain ⟨J8,st8,fr8,hD8,eD8⟩:=back I7;exact (by simpa using (⟨m',hm,i + 1,H7,acc,its,J8,st8,fr8,hD8,⟨nD,eD8⟩,v3,w7⟩:∃ m,m < n /\ ∃ i H' acc its,Inv (zaK X scope N' C s₂ H2 fp) [] (capt src σ) H' s7 /\ tn i s7.heap /\ (∀ b ∈ fp,H' b=none) /\ H' D=none /\ s7.heap.PlainList D (List.toArray its) /\ Vals acc its /\ W i m acc H'))
      | true=>
        have q7:te σ6 H7 N1:=by simpa using q7
        show wpAny _ _ _ _ _ _;refine thn (he C s₂ H2 fp _ s7 σ6 H7 _ I7 q7) λ u8 s8 ⟨y,H8,I8,r8,n8⟩=>?_;obtain ⟨m',hm,w8⟩:=hN1 y H8 n8;obtain ⟨J8,st8,fr8,hD8,eD8⟩:=back I8
        have hl8:its.toArray.size <= sizeLine:=by
          have:=v3.length;simp only [yaj];omega
        refine wpAny_list_append_plain (l:=D) (items:=its.toArray) ⟨nD,eD8⟩ (λ h' pl9 sb9=>?_) hl8;have kp:∀ b o,b ≠ D -> s8.heap.get? b=some o -> h'.get? b=some o:=λ b o hb e=>(sb9.2 b hb).trans e
        have J9:Inv (zaK X scope N' C s₂ H2 fp) [] (capt src σ) H8 { s8 with heap:=h' }:=J8.turned (t':=s8.toks) kp hD8 hDC (.inr (show s₂.heap.objs.size <= D from Nat.le_of_eq hDd))
          (λ x c e z=>yaU D (by have:=cellLt x c (zbM e); rw [z] at this; exact this)) (λ p hp=>absurd hp (by simp [zaK]))
        refine ⟨m',hm,i + 1,H8,acc ++ [y],its ++ [u8],J9,T.keep _ _ _ st8 λ b hb o e=>kp b o (λ z=>Dfp (z ▸ hb)) e,fr8,hD8,?_,v3.append (.cons r8 .nil),w8⟩;have e9:its.toArray.push u8=(its ++ [u8]).toArray:=by simp
        rw [<- e9]; exact pl9
  exact codeAny_compStart_list (loop _) (T.self _ 0 _ _ _ hst₁ (loop _))
def zbp (hc:X.calm=true) (hi:PI X tg iter wi) (hg:∀ C s H fp,PG (zaK X scope N' C s H fp) tg g) (ht:∀ C s H fp,PTs (zaK X scope N' C s H fp) ifs tc) (he:∀ C s H fp,PE (zaK X scope N' C s H fp) elt te)
  (ok:zg6 N sc scope N' src=true) (hN:X.N=N:=by rfl) (hsc:X.env.scope=sc:=by rfl) (hs:∀ x,foldedSetIterable iter X.env x=pure x:=by intro _; rfl) :
  PE X (.ListComp elt [⟨tg,iter,ifs,0⟩] scope pos) (zka src wi g tc te):=by
 intro pins s σ H Q I h;have ok:=zgl ok;rw [eval_ListComp];have hclos:closureFor scope X.env=pure (clOf X.env scope):=zc6 λ p hp hf=>I.ok.has p.1 (by subst hsc; exact ok.free p hp hf);refine wpAny_comprehension_free (use:=none) rfl hs hclos ok.kind ok.names (thn (hi pins s σ H _ I h) λ xv s₁ h₁=>thn h₁ λ itv s₂ h₂=>?_);obtain ⟨it,fp,tn,J,H2,e,I2,T,st2,f2,hw⟩:=h₂;subst e;refine zf1 hc hN hsc ok hg ht he I2 T st2 f2 hw (RR:=λ acc C=>compPost (model X.prog X.w) X.A X.xe none (EP X pins σ Q) acc C) ?_;intro D C s' acc H' oC m IX q eC hn nc f;obtain ⟨f0,f1,f2',f3,f4,f5⟩:=f;refine ⟨m,hn,λ h' sb=>⟨.ref D,upd H' D (.lst acc),?_,rfl,q⟩⟩;exact IX.turned (t':=s'.toks) (λ b o hb e=>(sb.2 b hb).trans e) f0 f1 f3 f4 f5
noncomputable def zhy (src:List (Option Nat)) (wi:TI) (g:TG) (tc:TT) (te:TE) (j:Nat):TS:=λ D σ H=>zka src wi g tc te σ H λ x H1=>D.nx (σ.set j (some x)) H1
def zeP {j:Nat} {y:Str} {py spos:Pos} (hnd:X.N.Nodup) (hj:X.N[j]?=some y) (hy:Loc X.env.scope y)
  (hc:X.calm=true) (hi:PI X tg iter wi) (hg:∀ C s H fp,PG (zaK X scope N' C s H fp) tg g) (ht:∀ C s H fp,PTs (zaK X scope N' C s H fp) ifs tc) (he:∀ C s H fp,PE (zaK X scope N' C s H fp) elt te)
  (ok:zg6 N sc scope N' src=true) (hN:X.N=N:=by rfl) (hsc:X.env.scope=sc:=by rfl) (hs:∀ x,foldedSetIterable iter X.env x=pure x:=by intro _; rfl)
  (hsw:swapsWith (.ListComp elt [⟨tg,iter,ifs,0⟩] scope pos) (some (.Name y py)) spos.line X.env=pure true:=by rfl)
  (hf:X.fn y=true \/ X.env.scope.names.lookup y=some .local:=by first | exact .inl rfl | exact .inr rfl | assumption) :
  PS X (.Assign [.Name y py] (.ListComp elt [⟨tg,iter,ifs,0⟩] scope pos) spos) (zhy src wi g tc te j):=by
 intro pins s σ H D I h;have ok:=zgl ok;rw [exec_Assign_Name_used _ _ _ _ hsw];refine wpAny_bind (wpAny_standAt (wpAny_bind ?_));show wpAny _ _ (do let _ <- comprehension (.ListComp elt [⟨tg,iter,ifs,0⟩] scope pos) scope X.env _ (newList []) false (eval iter X.env) (some (assign (.Name y py) X.env))) _ _ s;have hclos:closureFor scope X.env=pure (clOf X.env scope):=zc6 λ p hp hf=>I.ok.has p.1 (by subst hsc; exact ok.free p hp hf)
 refine wpAny_bind (wpAny_mono (wpAny_comprehension_free (use:=some (assign (.Name y py) X.env)) (Q:=λ _ s'=>SP X pins D .next s') rfl hs hclos ok.kind ok.names
  (thn (hi pins s σ H _ I h) λ xv s₁ h₁=>thn h₁ λ itv s₂ h₂=>?_)) (λ _ s' hq=>wpAny_pure (wpAny_pure hq)) λ _ _ e=>e)
 obtain ⟨it,fp,tn,J,H2,e,I2,T,st2,f2,hw⟩:=h₂;subst e;refine zf1 hc hN hsc ok hg ht he I2 T st2 f2 hw (RR:=λ acc C=>compPost (model X.prog X.w) X.A X.xe (some (assign (.Name y py) X.env)) (λ _ s'=>SP X pins D .next s') acc C) ?_;intro D' C s' acc H' oC m IX q eC hn nc f;obtain ⟨f0,f1,f2',f3,f4,f5⟩:=f;show wpAny _ _ (assign (.Name y py) X.env (.ref D')) _ _ s'
 have IC:Inv X (pins ++ [(C,oC)]) σ (upd H' D' (.lst acc)) s':=IX.pins_of λ p hp=>(yaK.mp hp).elim (λ z=>IX.pin p (yat _ z)) λ z=>by
  have z:p=(C,oC):=by simpa using z
  subst z;exact ⟨eC,f0,f1,f2',nc⟩
 refine wpAny_assign_Name (zdg IC hnd hj hy (show RelV (.ref D') (.ref D') from rfl) (λ s2 I2'=>?_) hf);have qC:=I2'.pin (C,oC) (yat _ (yat _ yaN));obtain ⟨oC',es,ep,eC',r⟩:=hn;rw [eC] at eC';cases eC';refine ⟨m,⟨oC,es,ep,qC.1,r⟩,λ h' sb=>⟨σ.set j (some (.ref D')),upd H' D' (.lst acc),?_,q⟩⟩;exact I2'.unpinned.turned (t':=s2.toks) (λ b o hb e=>(sb.2 b hb).trans e) f0 f1 f3 f4 f5
end
def zgZ {σ:St} {i:Nat} {v:V} (h:σ[i]?=some none):Ext σ (σ.set i (some v)):=by
 refine ⟨by simp,λ k u e=>?_⟩;by_cases hk:i=k
 ·subst hk; rw [h] at e; cases e
 ·rw [ybU hk]; exact e
def zid {lo:Int} {n:Nat} {src:List (Option Nat)} {σ:St} {g:TG} {tc:TT} {te:TE} {Q:VK} {H:Hp} (Pv:Nat -> List V -> Hp -> Prop) (h0:Pv 0 [] H) (len:∀ i acc H,Pv i acc H -> acc.length <= sizeLine)
  (step:∀ i acc H,i < n -> Pv i acc H -> g (.int (lo + i)) (capt src σ) H λ σ2 H2=>Ext (capt src σ) σ2 /\ tc σ2 H2 λ b H3=>if b=true then te σ2 H3 (λ y H4=>Pv (i + 1) (acc ++ [y]) H4) else Pv (i + 1) acc H3)
  (done:∀ acc H,Pv n acc H -> ∀ p,H p=none -> Q (.ref p) (upd H p (.lst acc))):zcK (Itr lo n) src σ g tc te Q H:=by
 refine ⟨λ i m acc H=>m=n - i /\ i <= n /\ Pv i acc H,⟨n,by simp,yaY _,h0⟩,?_⟩;rintro i m acc H ⟨rfl,hi,p⟩;refine ⟨len i acc H p,?_⟩;by_cases hlt:i < n
 ·refine .inr ⟨hlt,λ y H4=>Pv (i + 1) (acc ++ [y]) H4,λ H3=>Pv (i + 1) acc H3,λ y H4 q=>⟨n - (i + 1),by omega,rfl,hlt,q⟩,λ H3 q=>⟨n - (i + 1),by omega,rfl,hlt,q⟩,λ x H' y=>?_⟩;obtain ⟨e,y⟩:=y;subst e y;exact step i acc _ hlt p
 ·have e : i = n := by omega
  subst e;exact .inl ⟨yad _,done acc H p⟩
def ziU {K:PySem.W.Frag} {a:Addr} {xs:List V} {src:List (Option Nat)} {σ:St} {g:TG} {tc:TT} {te:TE} {Q:VK} {H:Hp} (Pv:Nat -> List V -> Hp -> Prop) (h0:Pv 0 [] H) (len:∀ i acc H,Pv i acc H -> acc.length <= sizeLine)
  (hl:∀ i acc H,Pv i acc H -> SqL K H a xs)
  (step:∀ i x acc H,xs[i]?=some x -> Pv i acc H -> g x (capt src σ) H λ σ2 H2=>Ext (capt src σ) σ2 /\ tc σ2 H2 λ b H3=>if b=true then te σ2 H3 (λ y H4=>Pv (i + 1) (acc ++ [y]) H4) else Pv (i + 1) acc H3)
  (done:∀ acc H,Pv xs.length acc H -> ∀ p,H p=none -> Q (.ref p) (upd H p (.lst acc))):zcK (Itl K a) src σ g tc te Q H:=by
 refine ⟨λ i m acc H=>m=xs.length - i /\ i <= xs.length /\ Pv i acc H,⟨xs.length,by simp,yaY _,h0⟩,?_⟩;rintro i m acc H ⟨rfl,hi,p⟩;refine ⟨len i acc H p,?_⟩;by_cases hlt:i < xs.length
 ·refine .inr ⟨⟨xs,xs[i],hl i acc H p,by simp [hlt]⟩,λ y H4=>Pv (i + 1) (acc ++ [y]) H4,λ H3=>Pv (i + 1) acc H3,λ y H4 q=>⟨xs.length - (i + 1),by omega,rfl,hlt,q⟩,λ H3 q=>⟨xs.length - (i + 1),by omega,rfl,hlt,q⟩,λ x H' y=>?_⟩;obtain ⟨e,y⟩:=y;subst e;exact step i x acc _ (y xs (hl i acc _ p)) p
 ·have e : i = xs.length := by omega
  subst e;exact .inl ⟨⟨xs,hl _ acc H p,yad _⟩,done acc H p⟩
def zcC {K:PySem.W.Frag} {a:Addr} {xs:List V} {src:List (Option Nat)} {σ:St} {g:TG} {tc:TT} {te:TE} {Q:VK} {H:Hp} (Pv:Nat -> List V -> Hp -> Prop) (h0:Pv 0 [] H) (len:∀ i acc H,Pv i acc H -> acc.length <= sizeLine)
  (hl:∀ i acc H,Pv i acc H -> SqT K H a xs)
  (step:∀ i x acc H,xs[i]?=some x -> Pv i acc H -> g x (capt src σ) H λ σ2 H2=>Ext (capt src σ) σ2 /\ tc σ2 H2 λ b H3=>if b=true then te σ2 H3 (λ y H4=>Pv (i + 1) (acc ++ [y]) H4) else Pv (i + 1) acc H3)
  (done:∀ acc H,Pv xs.length acc H -> ∀ p,H p=none -> Q (.ref p) (upd H p (.lst acc))):zcK (Itt K a) src σ g tc te Q H:=by
 refine ⟨λ i m acc H=>m=xs.length - i /\ i <= xs.length /\ Pv i acc H,⟨xs.length,by simp,yaY _,h0⟩,?_⟩;rintro i m acc H ⟨rfl,hi,p⟩;refine ⟨len i acc H p,?_⟩;by_cases hlt:i < xs.length
 ·refine .inr ⟨⟨xs,xs[i],hl i acc H p,by simp [hlt]⟩,λ y H4=>Pv (i + 1) (acc ++ [y]) H4,λ H3=>Pv (i + 1) acc H3,λ y H4 q=>⟨xs.length - (i + 1),by omega,rfl,hlt,q⟩,λ H3 q=>⟨xs.length - (i + 1),by omega,rfl,hlt,q⟩,λ x H' y=>?_⟩;obtain ⟨e,y⟩:=y;subst e;exact step i x acc _ (y xs (hl i acc _ p)) p
 ·have e : i = xs.length := by omega
  subst e;exact .inl ⟨⟨xs,hl _ acc H p,yad _⟩,done acc H p⟩
def Ext.trans {a b c:St} (h:Ext a b) (k:Ext b c):Ext a c:=⟨h.1.trans k.1,λ i v e=>k.2 i v (h.2 i v e)⟩
noncomputable def FnAt (P:Program) (w:World) (K:PySem.W.Frag) (mg:Str -> Option Value) (base:Heap) (x:Str) (ps:List Str) (k:Nat) (sp:Sp):Prop:=
 ∃ f fd,mg x=some (.ref f) /\ PySem.W.keepIn K (.ref f)=true /\ zgM K fd ps [] /\ FnOk P w K mg base CX0 k f fd ps sp
section
variable {X:Cx} {x:Str} {p pos:Pos} {e:Expr} {es:List Expr} {t:TA} {ps:List Str} {k:Nat} {sp:Sp}
def zai (h:FnAt X.prog X.w X.K X.mg X.base x ps k sp) (hr:Room k X.A) (ha:PA X (e :: es) t) (hg:Gl X x:=by rfl) (hdb:(x == ("__debug__":Str))=false:=by decide)
  (he:starEach (e :: es) X.env=(false,eval e X.env) :: starEach es X.env:=by rfl) (hpl:(backTo pos (starEach es X.env)).any (·.1)=false:=by rfl):PE X (.Call (.Name x p) (e :: es) [] pos) (zkT sp [] E0 t):=by
 obtain ⟨f,fd,hm,hk,hb,F⟩:=h;exact zli F hr hg hm hk hb .nil znz ha hdb he hpl
end
noncomputable def iSeq (K:PySem.W.Frag) (tl:TE):TI:=λ σ H R=>tl σ H λ x H1=>∃ a,x=.ref a /\ (((∃ xs,SqL K H1 a xs) /\ R (Itl K a) H1) \/ ((∃ xs,SqT K H1 a xs) /\ R (Itt K a) H1))
section
variable {X:Cx} {tg:Expr}
def zmA {l:Expr} {tl:TE} (hl:PE X l tl):PI X tg l (iSeq X.K tl):=by
 intro pins s σ H R I h;refine thn (hl pins s σ H _ I h) λ v s1 ⟨x,H1,I1,r1,q1⟩=>?_;obtain ⟨a,e,q1⟩:=q1;subst e;cases r1;rcases q1 with ⟨⟨xs,hq⟩,q⟩ | ⟨⟨xs,hq⟩,q⟩
 ·obtain ⟨its, rv, p, hz⟩ := I1.list hq;refine wpAny_pyIter_list p.isList ?_;refine ⟨s1.heap.objs.size, [s1.heap.objs.size], _, _, H1, rfl, I1.kept (t' := s1.toks) fun b o e => yag _ e, ziN a _, ⟨_, yao _ rfl, rfl, rfl⟩, fun b hb => ?_, q⟩;have e : b = s1.heap.objs.size := by simpa using hb
  subst e;exact I1.fpOk (yad _) (I1.hok.fresh (yad _))
 ·obtain ⟨its, rv, p, hz⟩ := I1.tuple hq;refine wpAny_pyIter_tuple (show s1.heap.IsTuple a its.toArray from p) ?_;refine ⟨s1.heap.objs.size, [s1.heap.objs.size], _, _, H1, rfl, I1.kept (t' := s1.toks) fun b o e => yag _ e, zhM a _, ⟨_, yao _ rfl, rfl, rfl⟩, fun b hb => ?_, q⟩;have e : b = s1.heap.objs.size := by simpa using hb
  subst e;exact I1.fpOk (yad _) (I1.hok.fresh (yad _))
end
section
variable {X:Cx} {pins:List (Addr × Obj)} {σ:St} {H:Hp} {s:Shared} {h':Heap} {ch:List Addr}
def Inv.turnL {t':Nat} (I:Inv X pins σ H s) (hf:∀ b ∈ ch,FpOk X pins H b) (k:∀ b o,b ∉ ch -> s.heap.get? b=some o -> h'.get? b=some o):Inv X pins σ H { s with heap:=h',toks:=t' }:=by
 have nit:∀ b u,H b=some u -> b ∉ ch:=λ b u e z=>by rw [(hf b z).1] at e; cases e
 refine I.step (g':=s.gens) (d':=s.drawn) (ch:=ch) (λ b hb=>?_) (λ b o _ _ hc e _=>k b o hc e) (λ b o _ _ hc e _=>⟨o.slots,k b o hc e⟩) (λ _ _ _ _ n=>n)
  (λ b o hc e=>⟨o,k b o hc e⟩) (λ _ _ e=>e) (λ _ _ _ e=>e) (λ b ps e=>⟨#[],by rw [e]; simp⟩) (λ m hm=>?_) (λ b u e=>?_) I.bare
 ·obtain ⟨_,f1,_,f3,f4,f5⟩:=hf b hb;exact ⟨f3,f1,f4,f5⟩
 ·obtain ⟨o,es,ep,ho,r⟩:=hm;exact ⟨o,es,ep,k _ o (λ z=>(hf _ z).2.1 rfl) ho,r⟩
 ·refine (I.hok b u e).stay (fun c v hc q => k c v ?_ q) (fun _ q => q) fun _ _ q => q;rcases hc with rfl | hc
  ·exact nit _ _ e
  ·exact nit _ _ hc
def Inv.turnTup {T:Addr} {xs:List V} {its:List Value} {t':Nat} (I:Inv X pins σ H s) (hf:∀ b ∈ ch,FpOk X pins H b) (k:∀ b o,b ∉ ch -> s.heap.get? b=some o -> h'.get? b=some o)
  (hT:s.heap.objs.size <= T) (ht:zbr h' T its.toArray) (r:Vals xs its) (hz:xs.length <= sizeLine):Inv X pins σ (upd H T (.tup xs)) { s with heap:=h',toks:=t' }:=by
 have J:Inv X pins σ H { s with heap:=h',toks:=t' }:=I.turnL hf k;have hn:H T=none:=I.hok.fresh hT;have ne:∀ b o,s.heap.get? b=some o -> b ≠ T:=λ b o e=>yaB (yah (yai e) hT);refine ⟨J.ok,J.os,J.bare,?_,J.loc,J.cell,?_,λ x c e=>?_,λ p hp=>?_,λ b u q=>?_,J.len⟩
 ·have u := J.base;refine ⟨u.keep, u.slot, fun b o e n hx => ?_, u.there, fun b ys e => ?_, fun b o x e => ?_, fun b ps e => ?_⟩
  ·rw [zas (yaB (yah (yai e) (yax I.sz hT)))];exact u.free b o e n hx
  ·have q:=u.tups b ys e;rw [zas (zaq q hn)]; exact q
  ·have q:=u.frzs b o x e;rw [zas (zaq q hn)]; exact q
  ·obtain ⟨more,q⟩:=u.tbls b ps e;exact ⟨more,by rw [zas (zaq q hn)]; exact q⟩
 ·rw [zas (yaB (yah I.lt hT))]; exact I.free
 ·obtain ⟨v,o,ho,_⟩:=I.cell x c e;rw [zas (ne c o ho)]; exact I.freeC x c e
 ·obtain ⟨e,n,r⟩:=J.pin p hp;refine ⟨e,?_,r⟩;rw [zas (ne _ _ (I.pin p hp).1)]; exact n
 ·by_cases hb : b = T
  ·subst hb;rw [zaf] at q;cases q;exact ⟨hz,its,r,ht⟩
  ·rw [zas hb] at q;exact (J.hok b u q).stay (λ c v _ q=>q) (λ c q=>by rw [zas (zaq q hn)]; exact q) λ c xs q=>by rw [zas (zaq q hn)]; exact q
end
mutual
noncomputable def DatV (K:PySem.W.Frag) (H:Hp):PyData -> V -> Prop
 | .none,v=>v=.non
 | .bool b,v=>v=.bl b
 | .int i,v=>v=.int i
 | .str x,v=>v=.str x
 | .list ds,v=>∃ a xs,v=.ref a /\ SqL K H a xs /\ DatVs K H ds xs
 | .tuple ds,v=>∃ a xs,v=.ref a /\ SqT K H a xs /\ DatVs K H ds xs
 | .dict _,_=>False
noncomputable def DatVs (K:PySem.W.Frag) (H:Hp):List PyData -> List V -> Prop
 | [],xs=>xs=[]
 | d :: ds,xs=>∃ y ys,xs=y :: ys /\ DatV K H d y /\ DatVs K H ds ys
end
section
variable {X:Cx} {pins:List (Addr × Obj)} {σ:St} {H:Hp} {s:Shared}
mutual
def DatV.reads (I:Inv X pins σ H s):∀ (d:PyData) {x:V} {u:Value},DatV X.K H d x -> RelV x u -> ∃ as,Reads s.heap u d as
 | .none,x,u,h,r=>by
  rw [DatV] at h; subst h; cases r; exact ⟨_,.none⟩
 | .bool b,x,u,h,r=>by
  rw [DatV] at h; subst h; cases r; exact ⟨_,.bool b⟩
 | .int i,x,u,h,r=>by
  rw [DatV] at h; subst h; obtain ⟨t,rfl⟩:=r; exact ⟨_,.int i t⟩
 | .str z,x,u,h,r=>by
  rw [DatV] at h; subst h; obtain ⟨t,rfl⟩:=r; exact ⟨_,.str z t⟩
 | .list ds,x,u,h,r=>by
  rw [DatV] at h;obtain ⟨a,xs,rfl,hq,hd⟩:=h;cases r;obtain ⟨its,rv,⟨o,n,e,c,_,d⟩,hz⟩:=I.list hq;obtain ⟨as,ra⟩:=DatVs.reads I ds hd rv;exact ⟨_,.list e c d (by simpa using ra)⟩
 | .tuple ds,x,u,h,r=>by
  rw [DatV] at h;obtain ⟨a,xs,rfl,hq,hd⟩:=h;cases r;obtain ⟨its,rv,⟨o,e,c,n,d⟩,hz⟩:=I.tuple hq;obtain ⟨as,ra⟩:=DatVs.reads I ds hd rv;exact ⟨_,.tuple e c d (by simpa using ra)⟩
 | .dict _,x,u,h,r=>by
  rw [DatV] at h; exact h.elim
def DatVs.reads (I:Inv X pins σ H s):∀ (ds:List PyData) {xs:List V} {us:List Value},DatVs X.K H ds xs -> Vals xs us -> ∃ as,ReadsAll s.heap us ds as
 | [],xs,us,h,r=>by
  rw [DatVs] at h; subst h; cases r; exact ⟨_,.nil⟩
 | d :: ds,xs,us,h,r=>by
  rw [DatVs] at h;obtain ⟨y,ys,rfl,h1,h2⟩:=h;cases r with
  | cons r1 r2=>
   obtain ⟨as,a1⟩:=DatV.reads I d h1 r1;obtain ⟨bs,a2⟩:=DatVs.reads I ds h2 r2;exact ⟨_,.cons a1 a2⟩
end
end
def DatV.int (K:PySem.W.Frag) (H:Hp) (i:Int):DatV K H (.int i) (.int i):=by rw [DatV]
def DatV.bool (K:PySem.W.Frag) (H:Hp) (i:Bool):DatV K H (.bool i) (.bl i):=by rw [DatV]
def DatV.none (K:PySem.W.Frag) (H:Hp):DatV K H .none .non:=by rw [DatV]
def DatV.str (K:PySem.W.Frag) (H:Hp) (i:Str):DatV K H (.str i) (.str i):=by rw [DatV]
def DatV.list {K:PySem.W.Frag} {H:Hp} {a:Addr} {xs:List V} {ds:List PyData} (h:SqL K H a xs) (k:DatVs K H ds xs):DatV K H (.list ds) (.ref a):=by rw [DatV]; exact ⟨a,xs,rfl,h,k⟩
def DatV.tuple {K:PySem.W.Frag} {H:Hp} {a:Addr} {xs:List V} {ds:List PyData} (h:SqT K H a xs) (k:DatVs K H ds xs):DatV K H (.tuple ds) (.ref a):=by rw [DatV]; exact ⟨a,xs,rfl,h,k⟩
def DatVs.nil {K:PySem.W.Frag} {H:Hp}:DatVs K H [] []:=by rw [DatVs]
def DatVs.cons {K:PySem.W.Frag} {H:Hp} {d:PyData} {ds:List PyData} {x:V} {xs:List V} (h:DatV K H d x) (k:DatVs K H ds xs):DatVs K H (d :: ds) (x :: xs):=by rw [DatVs]; exact ⟨x,xs,rfl,h,k⟩
def DatVs.ints (K:PySem.W.Frag) (H:Hp):∀ ns:List Int,DatVs K H (ns.map .int) (ns.map V.int)
 | []=>.nil
 | n :: ns=>.cons (.int K H n) (DatVs.ints K H ns)
noncomputable abbrev shpd:=SeqAt.shaped
def zkb (i:Int):shpd (.int i)=true:=rfl
def zes (ns:List Int):shpd (.list (ns.map PyData.int))=true:=PySem.W.ke_shaped_ints ns
def zbX (ns:List Int):shpd (.tuple (ns.map PyData.int))=true:=by
 have h:=PySem.W.ke_shaped_ints ns;simpa [SeqAt.shaped,PyData.canLay0,PyData.depth] using h
def zb4:∀ ns ms:List Int,PyData.eqvAll (ns.map .int) (ms.map .int)=decide (ns=ms)
 | [],[]=>by simp [PyData.eqvAll]
 | [],_ :: _=>by simp [PyData.eqvAll]
 | _ :: _,[]=>by simp [PyData.eqvAll]
 | a :: r,b :: t=>by
  simp only [ybj,PyData.eqvAll,PyData.eqv,zb4 r t];by_cases h:a=b <;> by_cases h':r=t <;> simp [h,h']
noncomputable def rEqU (K:PySem.W.Frag):R2:=λ x y H Q=>∃ d e,DatV K H d x /\ DatV K H e y /\ shpd d=true /\ shpd e=true /\ Q (.bl (PyData.eqv d e)) H
noncomputable def rNeU (K:PySem.W.Frag):R2:=λ x y H Q=>∃ d e,DatV K H d x /\ DatV K H e y /\ shpd d=true /\ shpd e=true /\ Q (.bl (!PyData.eqv d e)) H
section
variable {X:Cx}
def zlX (hu:X.A.units + 64 < cLine):OpR X (compareOp .Eq) (rEqU X.K):=by
 intro pins s σ H x y v u Q I rx ry h;obtain ⟨d,e,hd,he,sd,se,q⟩:=h;obtain ⟨as,ra⟩:=DatV.reads I d hd rx;obtain ⟨bs,rb⟩:=DatV.reads I e he ry;exact eq_dataH ra rb sd se hu ⟨.bl _,H,I,rfl,q⟩
def zmo (hu:X.A.units + 64 < cLine):OpR X (compareOp .NotEq) (rNeU X.K):=by
 intro pins s σ H x y v u Q I rx ry h;obtain ⟨d,e,hd,he,sd,se,q⟩:=h;obtain ⟨as,ra⟩:=DatV.reads I d hd rx;obtain ⟨bs,rb⟩:=DatV.reads I e he ry;exact ne_dataH ra rb sd se hu ⟨.bl _,H,I,rfl,q⟩
noncomputable def ziS (K:PySem.W.Frag):R2:=λ x y H Q=>rI0 (λ i j=>.int (i + j)) x y H Q \/ (rCat x y H Q \/ zmf K x y H Q)
def zjQ:OpR X (binaryOp .Add) (ziS X.K):=zmq.or (zmL.or zla)
noncomputable def zm2:R2:=λ x y H Q=>rI CMul (λ i j=>.int (i * j)) x y H Q \/ rRep x y H Q
def zlv:OpR X (binaryOp .Mult) zm2:=znf.or zmZ
noncomputable def rIsU:R2:=λ x y H Q=>(y=.non /\ Q (.bl (decide (x=.non))) H) \/ (∃ a b,x=.bl a /\ y=.bl b /\ Q (.bl (a == b)) H)
def zmF:OpR X (compareOp .Is) (λ x y H Q=>∃ a b,x=.bl a /\ y=.bl b /\ Q (.bl (a == b)) H):=by
 intro pins s σ H x y v u Q I rx ry h;obtain ⟨a,b,rfl,rfl,q⟩:=h;cases rx;cases ry;exact is_bool ⟨.bl _,H,I,rfl,q⟩
def zmE:OpR X (compareOp .Is) rIsU:=zmC.or zmF
def slU:SlR X (λ x lo hi H Q=>rSlL X.K x lo hi H Q \/ rSlT X.K x lo hi H Q):=zlb.or zm6
noncomputable def zl3:V -> List V -> Hp -> VK -> Prop:=λ x xs H Q=>∃ i,x=.int i /\ xs=[] /\ Q (.int (Builtin.Int.intBits i)) H
def zk8:MtR X "int.bit_length" zl3:=by
 intro pins s σ H x xs v us Q I rx rv h;obtain ⟨i,rfl,rfl,q⟩:=h;obtain ⟨t,rfl⟩:=rx;have hus:=rv.zero;subst hus;exact call_int_bit_length ⟨.int _,H,I.tok _,⟨_,rfl⟩,q⟩
def zjJ (bs:List Bool):(List.range bs.length).all (λ i=>bs[i]?.getD false)=bs.all id:=by
 rw [Bool.eq_iff_iff];simp only [yaQ,yaw,id];constructor
 ·intro h b hb;obtain ⟨i,hi,e⟩:=ybV.mp hb;have:=h i hi;simp only [yab hi,Option.getD_some,e] at this;exact this
 ·intro h i hi;simp only [yab hi,Option.getD_some];exact h _ (ybw hi)
noncomputable def zlS (K:PySem.W.Frag) (g:List Bool -> Bool):List V -> Hp -> VK -> Prop:=λ xs H Q=>∃ a bs,xs=[.ref a] /\ SqL K H a (bs.map V.bl) /\ Q (.bl (g bs)) H
def ze2:∀ {bs:List Bool} {us:List Value},Vals (bs.map V.bl) us -> us=bs.map Value.bool
 | [],_,.nil=>rfl
 | b :: bs,_,.cons r t=>by
  have e:_=Value.bool b:=r;rw [e,ze2 t];rfl
def zjv (hc:X.calm=true):zbl X (.builtin "all") (zlS X.K λ bs=>bs.all id):=by
 intro pins s σ H xs us Q I r h;obtain ⟨a,bs,rfl,hq,q⟩:=h;obtain ⟨u,rfl,ru⟩:=r.one;cases ru;obtain ⟨its,rv,pl,hz⟩:=I.list hq;have ei:=ze2 rv;subst ei;have hh:X.A.in1.handled=none:=I.ok.hd hc;have al:a < s.heap.objs.size:=by obtain ⟨o,n,e,_⟩:=pl; exact yai e
 refine call_all_walk (wpAny_pyIter_list pl.isList ?_);refine ⟨s.heap.objs.size,_,_,_,_,_,λ i=>bs[i]?.getD false,rfl,Walks.list hh s.heap.objs.size a (yaB al) (bs.map Value.bool).toArray,⟨⟨_,yao _ rfl,rfl,rfl⟩,pl.isList.push _⟩,?_,λ h' tk hk=>?_⟩
 ·intro i v s' Q' E' hv hQ;have hv : (bs.map Value.bool)[i]? = some v := by simpa using hv
  rw [yae] at hv;cases e:bs[i]? with
  | none=>rw [e] at hv; cases hv
  | some b=>
   rw [e] at hv;cases hv;simp only [e,Option.getD_some] at hQ;exact wpAny_truthy_bool hQ
 ·have I2:Inv X pins σ H { s with heap:=h',toks:=tk }:=I.kept λ b o e=>hk b o (by
   intro z;have z:b=s.heap.objs.size:=by simpa using z
   exact absurd (yai e) (by rw [z]; exact yaU _)) (yag _ e)
  refine ⟨.bl _,H,I2,rfl,?_⟩;have e:(bs.map Value.bool).toArray.size=bs.length:=by simp
  rw [e,zjJ];exact q
noncomputable def rIsi (K:PySem.W.Frag):List V -> Hp -> VK -> Prop:=λ xs H Q=>∃ x T t b,xs=[x,.ty T] /\ TyOf K H x t /\ PySem.W.kitOne K t (.type T)=some b /\ Q (.bl b) H
def zjT:zbl X (.builtin "isinstance") (rIsi X.K):=by
 intro pins s σ H xs us Q I r h;obtain ⟨x,T,t,b,rfl,ty,e,q⟩:=h;obtain ⟨u,v,rfl,ru,rv⟩:=r.two;cases rv;exact zjA I ru ty e λ tk=>⟨.bl b,H,I.tok tk,rfl,q⟩
noncomputable def rLen (K:PySem.W.Frag):List V -> Hp -> VK -> Prop:=λ xs H Q=>∃ x n,xs=[x] /\ LenV K x H n /\ Q (.int n) H
def zjK:zbl X (.builtin "len") (rLen X.K):=zkf
noncomputable def rAbs:List V -> Hp -> VK -> Prop:=λ xs H Q=>∃ i,xs=[.int i] /\ Q (.int (if i < 0 then -i else i)) H
def zjN:zbl X (.builtin "abs") rAbs:=zkw
noncomputable def zgS (K:PySem.W.Frag):List V -> Hp -> VK -> Prop:=λ xs H Q=>∃ p ys,xs=[.ref p] /\ (SqL K H p ys \/ SqT K H p ys) /\ ∀ l,H l=none -> Q (.ref l) (upd H l (.lst ys))
def zic:zbl X (.type "list") (zgS X.K):=zgk
noncomputable def zim (K:PySem.W.Frag):List V -> Hp -> VK -> Prop:=λ xs H Q=>∃ p ys,xs=[.ref p] /\ ((SqL K H p ys /\ ∀ l,H l=none -> Q (.ref l) (upd H l (.tup ys))) \/ (SqT K H p ys /\ Q (.ref p) H))
def zi2:zbl X (.type "tuple") (zim X.K):=ze9
noncomputable def zl9:List V -> Hp -> VK -> Prop:=λ xs H Q=>∃ i j,xs=[.int i,.int j] /\ Q (.int (if j > i then j else i)) H
def zdl (hc:X.calm=true):zbl X (.builtin "max") zl9:=ziA hc
noncomputable def zl7:List V -> Hp -> VK -> Prop:=λ xs H Q=>∃ i j,xs=[.int i,.int j] /\ Q (.int (if j < i then j else i)) H
def ziB (hc:X.calm=true):zbl X (.builtin "min") zl7:=zjP hc
def zb6 {x:Str} {i:Int} {pos:Pos} (h:∃ t,X.mg x=some (.int i t)) (hg:Gl X x:=by rfl) (hd:(x == ("__debug__":Str))=false:=by decide):PE X (.Name x pos) (tC (.int i)):=by
 obtain ⟨t,e⟩:=h;exact zi5 hg e ⟨t,rfl⟩ hd
end
noncomputable abbrev NewL (xs:List V) (H:Hp) (Q:VK):Prop:=xs.length <= sizeLine /\ ∀ p,H p=none -> Q (.ref p) (upd H p (.lst xs))
noncomputable abbrev NewT (xs:List V) (H:Hp) (Q:VK):Prop:=xs.length <= sizeLine /\ ∀ p,H p=none -> Q (.ref p) (upd H p (.tup xs))
section
variable {D:Ends} {σ:St} {H:Hp} {Q:VK}
def znJ {t u:TS} (h:t { D with nx:=u D } σ H):tSeq t u D σ H:=h
def zmU (h:D.nx σ H):zlI D σ H:=h
def s_nx {f:St -> Hp -> Prop} {r:VK} {b c:St -> Hp -> Prop} (h:f σ H):Ends.nx { nx:=f,rt:=r,bk:=b,ct:=c } σ H:=h
def s_rt {f:St -> Hp -> Prop} {r:VK} {b c:St -> Hp -> Prop} {v:V} (h:r v H):Ends.rt { nx:=f,rt:=r,bk:=b,ct:=c } v H:=h
def znw {te:TE} {g:TG} (h:te σ H λ x H1=>g x σ H1 D.nx):tAsg te g D σ H:=h
def znO {te:TE} (h:te σ H D.rt):tRet te D σ H:=h
def zmT {te:TE} (h:te σ H λ _ H1=>D.nx σ H1):zl1 te D σ H:=h
def s_if {c:TT} {t u:TS} (h:c σ H λ b H1=>if b=true then t D σ H1 else u D σ H1):tIfS c t u D σ H:=h
def zlu {i:Nat} {v:V} {K:St -> Hp -> Prop} (h:K (σ.set i (some v)) H):zkY i v σ H K:=h
def zma {K:St -> Hp -> Prop} (h:K σ H):gNil [] σ H K:=⟨rfl,h⟩
def zk6 {t:TG} {u:TGs} {v:V} {r:List V} {K:St -> Hp -> Prop} (h:t v σ H λ σ' H'=>u r σ' H' K):zno t u (v :: r) σ H K:=⟨v,r,rfl,h⟩
def zlO {to ti:TE} {t:TSet} {v:V} {K:St -> Hp -> Prop} (h:to σ H λ o H1=>ti σ H1 λ i H2=>t o i v H2 λ H3=>K σ H3):gSub to ti t v σ H K:=h
def znK {i:Nat} {v:V} (e:σ[i]?=some (some v)) (h:Q v H):tVar i σ H Q:=⟨v,e,h⟩
def s_c {v:V} (h:Q v H):tC v σ H Q:=h
def s_op {r:R2} {ta tb:TE} (h:ta σ H λ x H1=>tb σ H1 λ y H2=>r x y H2 Q):tOp r ta tb σ H Q:=h
def s_un {r:V -> Hp -> VK -> Prop} {ta:TE} (h:ta σ H λ x H1=>r x H1 Q):tUn r ta σ H Q:=h
def s_cb {r:List V -> Hp -> VK -> Prop} {t:TA} (h:t σ H λ vs H1=>r vs H1 Q):tCB r t σ H Q:=h
def znb {sp:Sp} {E:XK} {t:TA} (h:t σ H λ vs H1=>sp (vs ++ []) H1 Q E):zkT sp [] E t σ H Q:=h
def zlQ {K:List V -> Hp -> Prop} (h:K [] H):tNil σ H K:=h
def zmj {ta:TE} {tr:TA} {K:List V -> Hp -> Prop} (h:ta σ H λ x H1=>tr σ H1 λ xs H2=>K (x :: xs) H2):zkW ta tr σ H K:=h
def znN {t:TA} (h:t σ H λ xs H1=>NewL xs H1 Q):tLst t σ H Q:=h
def znu {t:TA} (h:t σ H λ xs H1=>NewT xs H1 Q):tTup t σ H Q:=h
def znl {t:TE} {K:Bool -> Hp -> Prop} (h:t σ H λ x H'=>∃ k,x=.bl k /\ K k H'):zlR t σ H K:=h
def s_b {t:TE} {K:Bool -> Hp -> Prop} (h:t σ H λ x H'=>∃ k,x=.bl k /\ K k H'):tB t σ H K:=h
def znM {b:Bool} {K:Bool -> Prop} (h:K b):∃ k,V.bl b=.bl k /\ K k:=⟨b,rfl,h⟩
def znP {t u:TT} {K:Bool -> Hp -> Prop} (h:t σ H λ c H1=>if c=true then u σ H1 K else K false H1):tAnd t u σ H K:=h
def s_or {t u:TT} {K:Bool -> Hp -> Prop} (h:t σ H λ c H1=>if c=true then K true H1 else u σ H1 K):tOr t u σ H K:=h
def znL {t:TT} {K:Bool -> Hp -> Prop} (h:t σ H λ c H1=>K (!c) H1):tNot t σ H K:=h
def zmP {ta tb:TE} (h:ta σ H λ x H1=>∃ c,x=.bl c /\ if c=true then tb σ H1 Q else Q (.bl false) H1):zmu ta tb σ H Q:=h
def zl2 {ta:TE} (h:ta σ H λ x H1=>∃ c,x=.bl c /\ Q (.bl (!c)) H1):zm1 ta σ H Q:=h
def zmJ {t:TT} {ta tb:TE} (h:t σ H λ c H1=>if c=true then ta σ H1 Q else tb σ H1 Q):tIf t ta tb σ H Q:=h
def zlw {r r':R2} {ta tb tc:TE} (h:ta σ H λ x H1=>tb σ H1 λ y H2=>r x y H2 λ z H3=>∃ k,z=.bl k /\ if k=true then tc σ H3 λ u H4=>r' y u H4 Q else Q (.bl false) H3):zkG r r' ta tb tc σ H Q:=by
  exact h
def zmx {K:Bool -> Hp -> Prop} (h:K true H):zmg σ H K:=h
def s_ri {C:Int -> Int -> Prop} {g:Int -> Int -> V} {i j:Int} (c:C i j) (h:Q (g i j) H):rI C g (.int i) (.int j) H Q:=⟨i,j,rfl,rfl,c,h⟩
def znA {g:Int -> Int -> V} {i j:Int} (h:Q (g i j) H):rI0 g (.int i) (.int j) H Q:=⟨i,j,rfl,rfl,h⟩
def s_ru {g:Int -> V} {i:Int} (h:Q (g i) H):rU g (.int i) H Q:=⟨i,rfl,h⟩
def zle {K:PySem.W.Frag} {i j:Int} (h:Q (.int (i + j)) H):ziS K (.int i) (.int j) H Q:=.inl ⟨i,j,rfl,rfl,h⟩
def zlL {K:PySem.W.Frag} {i j:Int} (h:Q (.bl (i == j)) H):rEqU K (.int i) (.int j) H Q:=⟨.int i,.int j,.int K H i,.int K H j,rfl,rfl,h⟩
def zlM {K:PySem.W.Frag} {i j:Int} (h:Q (.bl (!(i == j))) H):rNeU K (.int i) (.int j) H Q:=⟨.int i,.int j,.int K H i,.int K H j,rfl,rfl,h⟩
def zlJ {K:PySem.W.Frag} {i j:Bool} (h:Q (.bl (i == j)) H):rEqU K (.bl i) (.bl j) H Q:=⟨.bool i,.bool j,.bool K H i,.bool K H j,rfl,rfl,h⟩
def zaR {K:PySem.W.Frag} {p:Addr} {i:Int} {xs:List V} {v:V} (hq:SqL K H p xs) (h0:0 <= i) (e:xs[i.toNat]?=some v) (h:Q v H):rIx K (.ref p) (.int i) H Q:=by
 have e':atI xs i=some v:=by
  have:=zjr e
  rwa [ybk h0] at this
 exact .inl ⟨p,xs,i,v,rfl,rfl,hq,e',h⟩
def zdN {K:PySem.W.Frag} {p:Addr} {i:Int} {xs:List V} {v:V} (hq:SqT K H p xs) (h0:0 <= i) (e:xs[i.toNat]?=some v) (h:Q v H):rIx K (.ref p) (.int i) H Q:=by
 have e':atI xs i=some v:=by
  have:=zjr e
  rwa [ybk h0] at this
 exact .inr (.inl ⟨p,xs,i,v,rfl,rfl,hq,e',h⟩)
def zmM {t:TA} {R:It -> Hp -> Prop} (h:t σ H λ vs H1=>∃ j:Int,vs=[.int j] /\ -(2 ^ 62) <= j /\ j < 2 ^ 62 /\ R (Itr 0 j.toNat) H1):zmt t σ H R:=h
def zm5 {K:PySem.W.Frag} {t:TE} {R:It -> Hp -> Prop} (h:t σ H λ x H1=>∃ a,x=.ref a /\ (((∃ xs,SqL K H1 a xs) /\ R (Itl K a) H1) \/ ((∃ xs,SqT K H1 a xs) /\ R (Itt K a) H1))):iSeq K t σ H R:=h
def znH {K:PySem.W.Frag} {T:String} {r:V -> List V -> Hp -> VK -> Prop} {t:TE} (h:t σ H λ x H1=>tyV K T x H1 /\ r x [] H1 Q):tBM0 K T r t σ H Q:=h
def s_bm {K:PySem.W.Frag} {T:String} {r:V -> List V -> Hp -> VK -> Prop} {t:TE} {ta:TA} (h:t σ H λ x H1=>tyV K T x H1 /\ ta σ H1 λ xs H2=>r x xs H2 Q):tBM K T r t ta σ H Q:=h
end
section
variable {σ:St} {H:Hp} {Q:VK}
def zmK {K:PySem.W.Frag} {a:Addr} {xs:List V} (hq:SqL K H a xs) (h:Q (.int xs.length) H):rLen K [.ref a] H Q:=⟨_,_,rfl,.inl ⟨xs,hq,rfl⟩,h⟩
def zl5 {K:PySem.W.Frag} {a:Addr} {xs:List V} (hq:SqT K H a xs) (h:Q (.int xs.length) H):rLen K [.ref a] H Q:=⟨_,_,rfl,.inr ⟨xs,hq,rfl⟩,h⟩
def znS {i:Int} (h:Q (.int (if i < 0 then -i else i)) H):rAbs [.int i] H Q:=⟨i,rfl,h⟩
def znB {i j:Int} (h:Q (.int (if j > i then j else i)) H):zl9 [.int i,.int j] H Q:=⟨i,j,rfl,h⟩
def znF {i j:Int} (h:Q (.int (if j < i then j else i)) H):zl7 [.int i,.int j] H Q:=⟨i,j,rfl,h⟩
def zns {x:V} (h:Q (.bl (decide (x=.non))) H):rIsU x .non H Q:=.inl ⟨rfl,h⟩
def zlP {p:Addr} {xs:List V} {y:V} (hp:H p=some (.lst xs)) (hz:xs.length < sizeLine) (h:Q .non (upd H p (.lst (xs ++ [y])))):zjs (.ref p) [y] H Q:=⟨p,xs,y,rfl,rfl,hp,hz,h⟩
def zm3 {i:Int} (h:Q (.int (Builtin.Int.intBits i)) H):zl3 (.int i) [] H Q:=⟨i,rfl,rfl,h⟩
def zkj {K:PySem.W.Frag} {i:Int} (h:Q (.bl true) H):rIsi K [.int i,.ty "int"] H Q:=⟨_,"int",_,true,rfl,TyOf.int i,rfl,h⟩
def zkp {K:PySem.W.Frag} {i:Int} (h:Q (.bl false) H):rIsi K [.int i,.ty "bool"] H Q:=⟨_,"bool",_,false,rfl,TyOf.int i,rfl,h⟩
def zkk {K:PySem.W.Frag} {i:Bool} (h:Q (.bl true) H):rIsi K [.bl i,.ty "bool"] H Q:=⟨_,"bool",_,true,rfl,TyOf.bl i,rfl,h⟩
def zkl {K:PySem.W.Frag} {a:Addr} {xs:List V} (hq:H a=some (.tup xs)) (h:Q (.bl true) H):rIsi K [.ref a,.ty "tuple"] H Q:=⟨_,"tuple",_,true,rfl,TyOf.tup hq,rfl,h⟩
def s_sl {r:V -> Option Int -> Option Int -> Hp -> VK -> Prop} {te:TE} {tl th:TO} (h:te σ H λ x H1=>tl σ H1 λ l H2=>th σ H2 λ u H3=>r x l u H3 Q):tSl r te tl th σ H Q:=h
def zjU {K:Option Int -> Hp -> Prop} (h:K none H):zjx σ H K:=h
def zm8 {t:TE} {K:Option Int -> Hp -> Prop} (h:t σ H λ x H1=>∃ i,x=.int i /\ K (some i) H1):zmi t σ H K:=h
def zmd {j:Int} {K:Int -> Prop} (h:K j):∃ i,V.int j=.int i /\ K i:=⟨j,rfl,h⟩
def zmX {K:PySem.W.Frag} {n:Nat} {t:TGs} {a:Addr} {xs:List V} {K':St -> Hp -> Prop} (hq:SqT K H a xs) (hl:xs.length=n) (h:t xs σ H K'):gTup K n t (.ref a) σ H K':=⟨a,xs,rfl,hq,hl,h⟩
def zj8 {p:Addr} {xs:List V} {k:Int} {j:Nat} {v:V} {K:Hp -> Prop} (hp:H p=some (.lst xs)) (e:ixN xs.length k=some j) (h:K (upd H p (.lst (xs.set j v)))):zlk (.ref p) (.int k) v H K:=⟨p,xs,k,j,rfl,rfl,hp,e,h⟩
end
def znx {K:PySem.W.Frag} {i:Int} {H:Hp} {P:Prop} (h:P):tyV K "int" (.int i) H /\ P:=⟨rfl,h⟩
def znD {K:PySem.W.Frag} {p:Addr} {xs:List V} {H:Hp} {P:Prop} (hq:SqL K H p xs) (h:P):tyV K "list" (.ref p) H /\ P:=⟨.inl ⟨rfl,xs,hq⟩,h⟩
def zbb {n:Nat} {src:List (Option Nat)} {σ:St} {g:TG} {tc:TT} {te:TE} {Q:VK} {H:Hp} (Pv:Nat -> List V -> Hp -> Prop) (h0:Pv 0 [] H) (len:∀ i acc H,Pv i acc H -> acc.length <= sizeLine)
  (step:∀ i acc H,i < n -> Pv i acc H -> g (.int (i:Nat)) (capt src σ) H λ σ2 H2=>Ext (capt src σ) σ2 /\ tc σ2 H2 λ b H3=>if b=true then te σ2 H3 (λ y H4=>Pv (i + 1) (acc ++ [y]) H4) else Pv (i + 1) acc H3)
  (done:∀ acc H,Pv n acc H -> ∀ p,H p=none -> Q (.ref p) (upd H p (.lst acc))):zcK (Itr 0 n) src σ g tc te Q H:=
 zid Pv h0 len (λ i acc H hi p=>by rw [Int.zero_add]; exact step i acc H hi p) done
def small5 {n:Nat} (h:n <= 100000):n < sizeLine:=Nat.lt_of_le_of_lt h (3:)
def zdc {c A B:Prop} [Decidable c] (h1:c -> A) (h2:¬ c -> B):if decide c=true then A else B:=by
 by_cases h:c
 ·rw [if_pos (decide_eq_true h)]; exact h1 h
 ·rw [if_neg (by rw [decide_eq_false h]; exact yar)]; exact h2 h
def za1 {i j:Int} {A B:Prop} (h1:i=j -> A) (h2:¬ i=j -> B):if (i == j)=true then A else B:=by
 by_cases h:i=j
 ·rw [if_pos (by simpa using h)]; exact h1 h
 ·rw [if_neg (by simpa using h)]; exact h2 h
def zf4 {i j:Int} {A B:Prop} (h1:¬ i=j -> A) (h2:i=j -> B):if (!(i == j))=true then A else B:=by
 by_cases h:i=j
 ·rw [if_neg (by simp [h])]; exact h2 h
 ·rw [if_pos (by simp [h])]; exact h1 h
def zmp {A B:Prop} (h:B):if (!true)=true then A else B:=iteF h
def zlH {A B:Prop} (h:A):if (!false)=true then A else B:=iteT h
def zmn {σ:St} {i:Nat} {v:V} {P:Prop} (h:σ[i]?=some none) (p:P):Ext σ (σ.set i (some v)) /\ P:=⟨zgZ h,p⟩
def zmc {σ:St} {i j:Nat} {v u:V} {P:Prop} (h:σ[i]?=some none) (k:(σ.set i (some v))[j]?=some none) (p:P):Ext σ ((σ.set i (some v)).set j (some u)) /\ P:=⟨(zgZ h).trans (zgZ k),p⟩
section
variable {X:Cx} {K:PySem.W.Frag} {tg l a b e o:Expr} {es:List Expr} {tl ta tb to:TE} {tA:TA}
def k_eq (hu:X.A.units + 64 < cLine) (hK:X.K=K:=by rfl):OpR X (compareOp .Eq) (rEqU K):=hK ▸ zlX hu
def k_ne (hu:X.A.units + 64 < cLine) (hK:X.K=K:=by rfl):OpR X (compareOp .NotEq) (rNeU K):=hK ▸ zmo hu
def zcu (hK:X.K=K:=by rfl):OpR X (binaryOp .Add) (ziS K):=hK ▸ zjQ
def k_ix (hK:X.K=K:=by rfl):IxR X (rIx K):=hK ▸ zl0
noncomputable def rSlU (K:PySem.W.Frag):V -> Option Int -> Option Int -> Hp -> VK -> Prop:=λ x lo hi H Q=>rSlL K x lo hi H Q \/ rSlT K x lo hi H Q
def k_sl (hK:X.K=K:=by rfl):SlR X (rSlU K):=hK ▸ slU
def zlt (hK:X.K=K:=by rfl):OpR X (compareOp .NotIn) (rIn K true):=hK ▸ zfQ
def zbw (hl:PE X l tl) (hK:X.K=K:=by rfl):PI X tg l (iSeq K tl):=hK ▸ zmA hl
def zbk (hK:X.K=K:=by rfl):zbl X (.builtin "len") (rLen K):=hK ▸ zjK
def zfU (hK:X.K=K:=by rfl):zbl X (.type "list") (zgS K):=hK ▸ zic
def zdi (hK:X.K=K:=by rfl):zbl X (.type "tuple") (zim K):=hK ▸ zi2
def zmh (hc:X.calm=true) (hK:X.K=K:=by rfl):zbl X (.builtin "all") (zlS K λ bs=>bs.all id):=hK ▸ zjv hc
def zdq (hK:X.K=K:=by rfl):zbl X (.builtin "isinstance") (rIsi K):=hK ▸ zjT
def zfj {pos:Pos} {k:Nat} {t:TGs} {n:Nat} (hc:X.calm=true) (h:PGs X es t) (hn:(assignEach es X.env).length=n:=by rfl) (hst:(assignEach es X.env).findIdx? (·.1)=none:=by rfl) (hK:X.K=K:=by rfl):PG X (.Tuple es k pos) (gTup K n t):=hK ▸ zmN hc h hn hst
def znq {name:Str} {apos cpos:Pos} {T id:String} {r:V -> List V -> Hp -> VK -> Prop} (pa:PlainAttrs T) (slot:Slot T name id) (hty:typeOf (.builtin id)=pure (.type "method_descriptor")) (hm:MtR X id r) (ho:PE X o to)
  (hbase:attributeBase o name X.env (eval o X.env)=eval o X.env:=by rfl) (hline:(apos.endLine == cpos.line)=true:=by rfl) (hK:X.K=K:=by rfl):PE X (.Call (.Attribute o name apos) [] [] cpos) (tBM0 K T r to):=hK ▸ zlY pa slot hty hm ho hbase hline
def k_bm {name:Str} {apos cpos:Pos} {T id:String} {r:V -> List V -> Hp -> VK -> Prop} (pa:PlainAttrs T) (slot:Slot T name id) (hty:typeOf (.builtin id)=pure (.type "method_descriptor")) (hm:MtR X id r) (ho:PE X o to) (ha:PA X (e :: es) tA)
  (hbase:attributeBase o name X.env (eval o X.env)=eval o X.env:=by rfl)
  (hfew : ((backTo cpos (starEach (e :: es) X.env)).all (fun x => !x.1) && (backToKw cpos (keywordEach [] X.env)).all (fun x => x.1.isSome)
   && decide ((e :: es).length + ([]:List Keyword).length + (if ([]:List Keyword).isEmpty then 0 else 1) < 30))=true:=by rfl)
  (hline:(apos.endLine == cpos.line)=true:=by rfl) (hs:starEach (e :: es) X.env=(false,eval e X.env) :: starEach es X.env:=by rfl) (hplain:(backTo cpos (starEach es X.env)).any (·.1)=false:=by rfl) (hK:X.K=K:=by rfl) :
  PE X (.Call (.Attribute o name apos) (e :: es) [] cpos) (tBM K T r to tA):=hK ▸ znG pa slot hty hm ho ha hbase hfew hline hs hplain
end
noncomputable abbrev ForW (J:It) (g:TG) (tb:TS) (D:Ends) (σ:St) (H1:Hp):Prop:=∃ W:Nat -> Nat -> St -> Hp -> Prop,(∃ m,W 0 m σ H1) /\ ∀ i m σ H,W i m σ H ->
 (J.stop i H /\ D.nx σ H) \/ (J.go i H /\ ∃ N:St -> Hp -> Prop,(∀ σ' H',N σ' H' -> ∃ m',m' < m /\ W (i + 1) m' σ' H') /\ ∀ x H',J.yld i H x H' -> g x σ H' λ σ2 H2=>tb { D with nx:=N,ct:=N,bk:=D.nx } σ2 H2)
def zdF {n:Nat} {g:TG} {tb:TS} {D:Ends} {σ:St} {H:Hp} (Pv:Nat -> St -> Hp -> Prop) (h0:Pv 0 σ H)
  (hs:∀ i σ H,i < n -> Pv i σ H -> g (.int (i:Nat)) σ H λ σ2 H2=>tb { D with nx:=Pv (i + 1),ct:=Pv (i + 1),bk:=D.nx } σ2 H2) (hd:∀ σ H,Pv n σ H -> D.nx σ H):ForW (Itr 0 n) g tb D σ H:=
 zjg Pv h0 (λ i σ H hi p=>by rw [Int.zero_add]; exact hs i σ H hi p) hd
def znI {wi:TI} {g:TG} {tb:TS} {D:Ends} {σ:St} {H:Hp} (h:wi σ H λ J H1=>ForW J g tb D σ H1):tFor wi g tb D σ H:=h
def zjy {j:Int} {n:Nat} {g:TG} {tb:TS} {D:Ends} {σ:St} {H:Hp} (e:j=(n:Int)) (hn:n <= 1000000) (h:ForW (Itr 0 n) g tb D σ H):∃ i:Int,[V.int j]=[V.int i] /\ -(2 ^ 62) <= i /\ i < 2 ^ 62 /\ ForW (Itr 0 i.toNat) g tb D σ H:=by
 subst e;exact ⟨n,rfl,by omega,by omega,by simpa using h⟩
def zeK {j:Int} {n:Nat} {src:List (Option Nat)} {g:TG} {tc:TT} {te:TE} {Q:VK} {σ:St} {H:Hp} (e:j=(n:Int)) (hn:n <= 1000000) (h:zcK (Itr 0 n) src σ g tc te Q H):∃ i:Int,[V.int j]=[V.int i] /\ -(2 ^ 62) <= i /\ i < 2 ^ 62 /\ zcK (Itr 0 i.toNat) src σ g tc te Q H:=by
 subst e;exact ⟨n,rfl,by omega,by omega,by simpa using h⟩
def zmz {src:List (Option Nat)} {wi:TI} {g:TG} {tc:TT} {te:TE} {σ:St} {H:Hp} {Q:VK} (h:wi σ H λ J H1=>zcK J src σ g tc te Q H1):zka src wi g tc te σ H Q:=h
def ziG {src:List (Option Nat)} {wi:TI} {g:TG} {tc:TT} {te:TE} {j:Nat} {D:Ends} {σ:St} {H:Hp} (h:zka src wi g tc te σ H λ x H1=>D.nx (σ.set j (some x)) H1):zhy src wi g tc te j D σ H:=h
def zhB {K:PySem.W.Frag} {a:Addr} {xs:List V} {g:TG} {tb:TS} {D:Ends} {σ:St} {H:Hp} (hA:SqL K H a xs \/ SqT K H a xs) (Pv:Nat -> St -> Hp -> Prop) (h0:Pv 0 σ H)
  (hs:∀ i σ H',Pv i σ H' -> (SqL K H a xs -> SqL K H' a xs) /\ (SqT K H a xs -> SqT K H' a xs))
  (step:∀ i x σ H',xs[i]?=some x -> Pv i σ H' -> g x σ H' λ σ2 H2=>tb { D with nx:=Pv (i + 1),ct:=Pv (i + 1),bk:=D.nx } σ2 H2) (done:∀ σ H',Pv xs.length σ H' -> D.nx σ H') :
  ∃ b,V.ref a=.ref b /\ (((∃ xs,SqL K H b xs) /\ ForW (Itl K b) g tb D σ H) \/ ((∃ xs,SqT K H b xs) /\ ForW (Itt K b) g tb D σ H)):=by
 refine ⟨a,rfl,?_⟩;rcases hA with hA | hA
 ·exact .inl ⟨⟨xs,hA⟩,zj9 Pv h0 (λ i σ H' _ p=>(hs i σ H' p).1 hA) step done⟩
 ·exact .inr ⟨⟨xs,hA⟩,zll Pv h0 (λ i σ H' _ p=>(hs i σ H' p).2 hA) step done⟩
def zjO {K:PySem.W.Frag} {a:Addr} {xs:List V} {src:List (Option Nat)} {σ:St} {g:TG} {tc:TT} {te:TE} {Q:VK} {H:Hp} (hA:SqL K H a xs)
  (h:zcK (Itl K a) src σ g tc te Q H):∃ b,V.ref a=.ref b /\ (((∃ xs,SqL K H b xs) /\ zcK (Itl K b) src σ g tc te Q H) \/ ((∃ xs,SqT K H b xs) /\ zcK (Itt K b) src σ g tc te Q H)):=⟨a,rfl,.inl ⟨⟨xs,hA⟩,h⟩⟩
def zah {H:Hp} {p:Addr} {o:HO} (h:H p=none):Same H (upd H p o):=λ b u e=>by rw [zas (zaq e h)]; exact e
def Same.seqT {K:PySem.W.Frag} {H H':Hp} {a:Addr} {xs:List V} (e:Same H H') (h:SqT K H a xs):SqT K H' a xs:=by
 rcases h with (h | ⟨o,h⟩) | h
 ·exact .inl (.inl (e _ _ h))
 ·exact .inl (.inr ⟨o,e _ _ h⟩)
 ·exact .inr h
structure But (p:Addr) (H H':Hp):Prop where
 keep:∀ b o,b ≠ p -> H b=some o -> H' b=some o
 fst:∀ q r,H p=some (.lst (.ref q :: r)) -> ∃ r',H' p=some (.lst (.ref q :: r'))
def But.trans {p:Addr} {H H1 H2:Hp} (a:But p H H1) (b:But p H1 H2):But p H H2:=⟨λ c o n h=>b.keep c o n (a.keep c o n h),λ q r h=>by
 obtain ⟨r1,h1⟩:=a.fst q r h;exact b.fst q r1 h1⟩
def Same.but {p:Addr} {H H':Hp} (s:Same H H'):But p H H':=⟨λ b o _ h=>s b o h,λ q r h=>⟨r,s _ _ h⟩⟩
def But.updL {p q:Addr} {H:Hp} {r r':List V} (h:H p=some (.lst (.ref q :: r))):But p H (upd H p (.lst (.ref q :: r'))):=⟨λ b u n e=>by rw [zas n]; exact e,λ q' r2 e=>by
 rw [h] at e;cases e;exact ⟨r',zaf⟩⟩
def But.upd' {p q:Addr} {H0 H:Hp} {o:HO} (b:But p H0 H) (hq:H0 q=none):But p H0 (L2.upd H q o):=⟨λ c u n h=>by rw [zas (zaq h hq)]; exact b.keep c u n h,λ q' r h=>by
 obtain ⟨r',h'⟩:=b.fst q' r h;exact ⟨r',by rw [zas (zaq h hq)]; exact h'⟩⟩
def Same.upd' {q:Addr} {H0 H:Hp} {o:HO} (b:Same H0 H) (hq:H0 q=none):Same H0 (L2.upd H q o):=λ c u h=>by rw [zas (zaq h hq)]; exact b c u h
end L2
namespace PySem
namespace F
end F
section
variable {prog:Program} {w:World} {A:Around} {E:Value -> Shared -> Prop} {s:Shared}
end
end PySem
namespace L2
open PySem PySem.Spec PyProof.Rows
section
variable {X:Cx} {pins:List (Addr × Obj)} {σ:St} {H:Hp} {s:Shared} {h':Heap} {ch:List Addr}
end
section
variable {X:Cx} {K:PySem.W.Frag} {a:Expr} {ta:TA} {p p2 pos pos2:Pos}
end
section
variable {σ:St} {H:Hp} {Q:VK}
end
def zh9 {prog:Program} {w:World} {A:Around} {e it l:Addr} (hei:e ≠ it) (hle:l ≠ e) (hli:l ≠ it) {items:Array Value} {i:Nat} {s:Shared} {Q:Option Value -> Shared -> Prop} {E:Value -> Shared -> Prop} (hi:i < items.size)
  (hst:(∃ old,IsEnum s.heap e it i old) /\ s.heap.IsListIter it l i /\ s.heap.IsList l items)
  (hQ : ∀ T vals h' tk, (∃ t x, items[i]? = some x /\ vals = #[.int i t, x]) -> s.heap.objs.size <= T -> zbr h' T vals ->
   ((∃ x,IsEnumOut h' e it ((i:Int) + 1) x T) /\ h'.IsListIter it l (i + 1) /\ h'.IsList l items /\ T ≠ e /\ T ≠ it) ->
   (∀ b o,b ∉ [e,it] -> s.heap.get? b=some o -> h'.get? b=some o) -> Q (some (.ref T)) { s with heap:=h',toks:=tk }) :
  wpAny (model prog w) A (pyNext (.ref e)) Q E s:=by
 obtain ⟨⟨old,he⟩,hit,hl⟩:=hst;have hx:items[i]?=some items[i]:=Array.getElem?_eq_getElem hi;have l1:e < s.heap.objs.size:=yai he;have l2:it < s.heap.objs.size:=by obtain ⟨_,x,_⟩:=hit; exact yai x
 refine wpAny_pyNext_enum_item he hit hl hx hei λ h' ho hit' hT hsz hk=>?_;refine hQ s.heap.objs.size #[.int i s.toks,items[i]] h' (s.toks + 1) ⟨_,_,hx,rfl⟩ (yad _) ⟨_,hT,rfl,rfl,_,rfl⟩ ⟨⟨_,ho⟩,hit',?_,ybO l1,ybO l2⟩ ?_
 ·exact hl.at λ o x=>hk l o hle hli x
 ·exact λ b o hb x=>hk b o (λ z=>hb (by simp [z])) (λ z=>hb (by simp [z])) x
def zgF {prog:Program} {w:World} {A:Around} {it:Addr} {fp:List Addr} {n:Nat} {P:Nat -> Value -> Prop} {St:Nat -> Heap -> Prop} (D:Draws prog w A.in1 it fp n P St) {e:Addr} (hei:e ≠ it) (hef:e ∉ fp) {i:Nat} {s:Shared} {Q:Option Value -> Shared -> Prop} {E:Value -> Shared -> Prop} (hi:i < n)
  (hst:(∃ old,IsEnum s.heap e it i old) /\ St i s.heap)
  (hQ : ∀ T vals h' tk, (∃ t x, P i x /\ vals = #[.int i t, x]) -> s.heap.objs.size <= T -> zbr h' T vals ->
   ((∃ x,IsEnumOut h' e it ((i:Int) + 1) x T) /\ St (i + 1) h' /\ T ≠ e /\ T ≠ it) ->
   (∀ b o,b ∉ [e,it] -> s.heap.get? b=some o -> h'.get? b=some o) -> Q (some (.ref T)) { s with heap:=h',toks:=tk }) :
  wpAny (model prog w) A (pyNext (.ref e)) Q E s:=by
 obtain ⟨⟨old,he⟩,hs⟩:=hst;have l1:e < s.heap.objs.size:=yai he;have l2:it < s.heap.objs.size:=by obtain ⟨_,y⟩:=D.live _ _ hs; exact yai y
 refine wpAny_pyNext_enum_itemD D he hs hi hei hef λ x h' tk hP ho hs' hT hsz hk=>?_;refine hQ s.heap.objs.size #[.int i tk,x] h' (tk + 1) ⟨_,_,hP,rfl⟩ (yad _) ⟨_,hT,rfl,rfl,_,rfl⟩ ⟨⟨_,ho⟩,hs',ybO l1,ybO l2⟩ ?_;exact λ b o hb y=>hk b o (λ z=>hb (by simp [z])) (λ z=>hb (by simp [z])) y
end L2
namespace PySem
open Sem (wp)
open AutoSeq1 (wpAny_loadPart')
section
variable {prog:Program} {w:World} {A:Around} {E:Value -> Shared -> Prop} {s:Shared}
end
section
variable {prog:Program} {w:World} {A:Around} {E:Value -> Shared -> Prop} {s:Shared}
def zcb {it l:Addr} {i:Nat} {items} {x:Value} {Q:Value -> Shared -> Prop} (hit:s.heap.IsTupleIter it l i)
  (hl:s.heap.IsTuple l items) (hx:items[i]?=some x)
  (hQ:∀ h',h'.IsTupleIter it l (i + 1) -> Heap.SameBut it s.heap h' -> Q x { s with heap:=h' }) :
  wpAny (model prog w) A (Builtin.SmallTypes.nextOf (.ref it)) Q E s:=by
 obtain ⟨o,ho,hc,hd⟩:=id hit;obtain ⟨ol,hol,_,nl,hdl⟩:=hl;unfold Builtin.SmallTypes.nextOf
 refine wpAny_bind (wpAny_callSpecial?_slot (name:=Str.ofString "__next__") hit.typeIs ya9
  (wpAny_call_entry ya9 hit.typeIs F.entry_tuple_iterator_next ?_ (F.args_tuple_iterator_next_1 _)))
 show wpAny _ _ (field (.ref it) 0 >>= _) _ _ s;refine wpAny_bind (wpAny_field ho hd (x:=.ref l) rfl ?_);show wpAny _ _ (if (Value.ref l == Value.none)=true then _ else _) _ _ s;rw [if_neg (show ¬ ((Value.ref l == Value.none)=true) from yar)];show wpAny _ _ (field (.ref it) 1 >>= _) _ _ s;refine wpAny_bind (wpAny_field ho hd (x:=.int i 0) rfl ?_);show wpAny _ _ (seqItems? (.ref l) >>= _) _ _ s;refine wpAny_bind (wpAny_seqItems hol hdl ?_);simp only [yam,hx];refine wpAny_bind (wpAny_setField ho hd (6:) (wpAny_pure ⟨x,rfl,wpAny_pure (hQ _ ?_ (Heap.SameBut.update ..))⟩))
 exact ⟨_,Heap.get?_update_self _ ho (Obj.isFreed_of_fields (Obj.data_mapFields hd _)),(Obj.cls_mapFields ..).trans hc,by
  rw [Obj.data_mapFields hd]; simp [rawInt]⟩
def zci {it l:Addr} {i:Nat} {items} {Q:Value -> Shared -> Prop} (hh:A.handled=none)
  (hit:s.heap.IsTupleIter it l i) (hl:s.heap.IsTuple l items) (hx:items[i]?=none)
  (hE:∀ h' e,Heap.ExtBut it s.heap h' -> (∃ o,h'.get? e=some o /\ o.cls=.type "StopIteration") -> E (.ref e) { s with heap:=h' }) :
  wpAny (model prog w) A (Builtin.SmallTypes.nextOf (.ref it)) Q E s:=by
 obtain ⟨o,ho,hc,hd⟩:=id hit;obtain ⟨ol,hol,_,nl,hdl⟩:=hl;unfold Builtin.SmallTypes.nextOf
 refine wpAny_bind (wpAny_callSpecial?_slot (name:=Str.ofString "__next__") hit.typeIs ya9
  (wpAny_call_entry ya9 hit.typeIs F.entry_tuple_iterator_next ?_ (F.args_tuple_iterator_next_1 _)))
 show wpAny _ _ (field (.ref it) 0 >>= _) _ _ s;refine wpAny_bind (wpAny_field ho hd (x:=.ref l) rfl ?_);show wpAny _ _ (if (Value.ref l == Value.none)=true then _ else _) _ _ s;rw [if_neg (show ¬ ((Value.ref l == Value.none)=true) from yar)];show wpAny _ _ (field (.ref it) 1 >>= _) _ _ s;refine wpAny_bind (wpAny_field ho hd (x:=.int i 0) rfl ?_);show wpAny _ _ (seqItems? (.ref l) >>= _) _ _ s;refine wpAny_bind (wpAny_seqItems hol hdl ?_);simp only [yam,hx];refine wpAny_bind (wpAny_rule (wpAny_bind (wpAny_setField ho hd (6:) ?_)));show wpAny _ _ (newExc (.type "StopIteration") [] >>= _) _ _ _;refine wpAny_bind ?_;simp only [newExc,newTuple];refine wpAny_bind (wpAny_newObj_type ?_ (by size_fits));refine wpAny_bind (m:=firstArgMember _ _) (wpAny_of_eq (a:=Value.none) (by first | rfl | (simp only [firstArgMember]; rfl)) ?_);refine wpAny_newObj_type ?_ (by size_fits);simp only [raiseNew];refine wpAny_bind (wpAny_handled ?_)
 first | rw [show A.in1.handled=none from hh] | rw [hh]
 refine wpAny_bind (wpAny_pure (wpAny_throw ?_));exact hE _ _ (((Heap.SameBut.update ..).extBut.push _).push _) ⟨_,yao _ rfl,rfl⟩
end
def Draws.tuple {prog:Program} {w:World} {A:Around} (hh:A.handled=none) (it l:Addr) (hne:l ≠ it) (items:Array Value) :
  Draws prog w A it [it,l] items.size (λ i v=>items[i]?=some v) (λ i h=>h.IsTupleIter it l i /\ h.IsTuple l items) where
 live:=λ _ _ st=>let ⟨o,ho,_⟩:=st.1; ⟨o,ho⟩
 frame:=λ _ _ _ st hk=>⟨st.1.at λ o e=>hk it (6:) o e,st.2.at λ o e=>hk l (6:) o e⟩
 item:=λ i s Q E hi st hQ=>by
  refine zcb st.1 st.2 (x:=items[i]) (by simp [hi]) λ h' hit' hs'=>?_;exact hQ _ h' s.toks (by simp [hi]) ⟨hit',st.2.at λ o e=>hs'.extBut _ o hne e⟩ hs'
 done:=λ s Q E st hE=>zci hh st.1 st.2 (6:) hE
def zcL (l:Addr) (items:Array Value) (n:Nat) (dct:Option Addr) (sl:Array (Option Value)) :
  Meets (Builtin.«enumerate.__new__» ⟨[.type "enumerate",.ref l],[]⟩) (λ _ R s=>s.heap.get? l=some { cls:=.type "tuple",dict:=dct,data:=.seq items n,slots:=sl } /\
   R (.ok (.ret (.ref (s.heap.push { cls:=.type "tuple_iterator",data:=.fields #[.ref l,.int 0 0] }).objs.size)))
    { s with heap:=(s.heap.push { cls:=.type "tuple_iterator",data:=.fields #[.ref l,.int 0 0] }).push { cls:=.type "enumerate",data:=.fields #[.none,.bool false,.ref s.heap.objs.size,rawInt 0,.none,.none] } }):=
 .of_wp λ prog w A R s h=>by
  obtain ⟨hp,g,d,tk,os⟩:=s; obtain ⟨hl,h⟩:=h;have hsub:=sub_enumerate;have hL:Heap.IsTuple (Shared.heap ⟨hp,g,d,tk,os⟩) l items:=⟨_,hl,rfl,n,rfl⟩
  wp_walk using wpAny_loadPart' hl
  refine wpAny_stack_any λ st=>wpAny_pure ?_
  split
  ·rename_i c _ _ _ _ _;cases (c == Value.type "enumerate")
   ·wp_walk using wpAny_loadPart' hl, wpAny_pyIter_tuple hL
    exact ⟨_,rfl,h⟩
   ·wp_walk using wpAny_loadPart' hl, wpAny_pyIter_tuple hL
    exact ⟨_,rfl,h⟩
  ·wp_walk using wpAny_loadPart' hl, wpAny_pyIter_tuple hL
   exact ⟨_,rfl,h⟩
section
variable {prog:Program} {w:World} {A:Around} {E:Value -> Shared -> Prop} {s:Shared}
def zcJ {l:Addr} {items:Array Value} {Q:Value -> Shared -> Prop} (hL:s.heap.IsTuple l items)
    (h:∀ h',IsEnum h' (s.heap.objs.size + 1) s.heap.objs.size 0 .none -> h'.IsTupleIter s.heap.objs.size l 0 -> h'.objs.size=s.heap.objs.size + 2 ->
      (∀ b o,s.heap.get? b=some o -> h'.get? b=some o) -> Q (.ref (s.heap.objs.size + 1)) { s with heap:=h' }) :
    wpAny (model prog w) A (call (.type "enumerate") [.ref l]) Q E s:=by
  obtain ⟨⟨c,dct,dt,sl⟩,hl,hc,n,hd⟩:=hL
  replace hc:c=.type "tuple":=hc
  replace hd:dt=.seq items n:=hd
  subst hc hd
  refine callType_new F.called_enumerate (3:) (F.typeCall_enumerate_1 _) (F.newCall_enumerate_1 _) (λ obj=>F.args_object_init_2 obj _) F.entry_enumerate_new
    (zcL l items n dct sl) ⟨hl,?_⟩
  have hz:(s.heap.push { cls:=.type "tuple_iterator",data:=.fields #[.ref l,.int 0 0] }).objs.size=s.heap.objs.size + 1:=Heap.size_push ..;show _ /\ _;rw [hz]
  have he:IsEnum ((s.heap.push { cls:=.type "tuple_iterator",data:=.fields #[.ref l,.int 0 0] }).push
      { cls:=.type "enumerate",data:=.fields #[.none,.bool false,.ref s.heap.objs.size,rawInt 0,.none,.none] }) (s.heap.objs.size + 1) s.heap.objs.size 0 .none:=by
    have:=yao (s.heap.push { cls:=.type "tuple_iterator",data:=.fields #[.ref l,.int 0 0] })
      (o:={ cls:=.type "enumerate",data:=.fields #[.none,.bool false,.ref s.heap.objs.size,rawInt 0,.none,.none] }) rfl
    rw [hz] at this; exact this
  refine ⟨⟨_,he,rfl⟩,h _ he ⟨_,yag _ (yao _ rfl),rfl,rfl⟩ (by rw [Heap.size_push,hz]) λ b o x=>yag _ (yag _ x)⟩
end
end PySem
namespace L2
open PySem PySem.Spec PyProof.Rows
section
variable {X:Cx} {K:PySem.W.Frag} {a:Expr} {ta:TA} {p p2 pos pos2:Pos}
def zg2 {acc:Array Value} {n:Nat} (h:ItemsOf (λ i v=>∃ t,v=Value.int ((0:Int) + i * 1) t) acc n):Vals ((List.range n).map λ (x:Nat)=>V.int (x:Int)) acc.toList:=by
 obtain ⟨h1,h2⟩:=h
 have key:∀ (k:Nat) (l:List Value) (j:Nat),l.length=k -> (∀ i v,l[i]?=some v -> ∃ t,v=Value.int ((j + i:Nat):Int) t) -> Vals ((List.range' j k).map λ (x:Nat)=>V.int (x:Int)) l:=by
  intro k
  induction k with
  | zero=>
   intro l j hl _;cases l with
   | nil=>exact .nil
   | cons _ _=>simp at hl
  | succ k ih=>
   intro l j hl hv;cases l with
   | nil=>simp at hl
   | cons x r=>
    rw [List.range'_succ,ybj];refine .cons (hv 0 x rfl) (ih r (j + 1) (by simpa using hl) λ i v e=>?_);obtain ⟨t,q⟩:=hv (i + 1) v (by simpa using e);exact ⟨t,by rw [q]; congr 1; omega⟩
 rw [List.range_eq_range'];refine key n acc.toList 0 (by simpa using h1) λ i v e=>?_;obtain ⟨t,q⟩:=h2 i v (by simpa using e);exact ⟨t,by rw [q]; congr 1; omega⟩
noncomputable def ziC (ta:TA):TE:=λ σ H Q=>ta σ H λ vs H1=>∃ n:Nat,vs=[.int n] /\ n <= 1000000 /\ ∀ l,H1 l=none -> Q (.ref l) (upd H1 l (.lst ((List.range n).map λ (x:Nat)=>V.int (x:Int))))
def zln {n:Nat} (h:n <= 1000000):Builtin.Range.small 0 (n:Int) 1=true:=small_one (1:) (1:) (1:) (1:)
def zlU {n:Nat}:Builtin.Range.rangeSize 0 (n:Int) 1=(n:Nat):=by
 rw [rangeSize_one]; split <;> omega
def zaV (hc:X.calm=true) (hml:X.mg "list"=none) (hmr:X.mg "range"=none) (ha:PA X [a] ta) (hgl:Gl X "list":=by rfl) (hgr:Gl X "range":=by rfl) (hK:X.K=K:=by rfl)
  (hs:starEach [a] X.env=[(false,eval a X.env)]:=by rfl)
  (hs1:starEach [(.Call (.Name "range" p) [a] [] pos:Expr)] X.env=[(false,eval (.Call (.Name "range" p) [a] [] pos) X.env)]:=by rfl) :
  PE X (.Call (.Name "list" p2) [.Call (.Name "range" p) [a] [] pos] [] pos2) (ziC ta):=by
 intro pins s σ H Q I h;refine wpAny_Call_Name_kw (zev I hgl hml boot_list ?_);refine yaV ?_ hs1 rfl;rw [hs1];show wpAny _ _ (spliced ((false,eval (.Call (.Name "range" p) [a] [] pos) X.env) :: backTo pos2 [])) _ _ s;refine Calls.spliced_cons ?_;refine Call_ (zev I hgr hmr boot_range (yaV (thn (ha pos pins s σ H _ I h) λ us s1 ⟨vs,H1,I1,r1,q1⟩=>?_) hs rfl));obtain ⟨n,e,hn,q⟩:=q1;subst e;cases r1 with
 | cons r rr=>
  cases rr;obtain ⟨t,rfl⟩:=r;refine call_range_1 ?_;have I2:Inv X pins σ H1 { s1 with heap:=s1.heap.push { cls:=.type "range",data:=.fields #[.int 0 s1.toks,.int n t,.int 1 (s1.toks + 1)] },toks:=s1.toks + 1 + 1 }:=I1.kept λ b o e=>yag _ e;refine Calls.spliced_nil ?_;refine call_list_range (I.ok.hd hc) (IsRange.new ..) (zln hn) zlU (1:) λ h' tk acc' c' hk hS' hacc=>?_;have rv:=zg2 hacc;exact ⟨.ref _,_,I2.laid (t':=tk) (o:=.lst _) hk (yad _) ⟨by rw [yaa,yas,sizeLine_eq]; omega,_,c',rv,by simpa using hS'⟩,rfl,q _ (I2.hok.fresh (yad _))⟩
end
section
variable {σ:St} {H:Hp} {Q:VK}
def zkq {t:TA} (h:t σ H λ vs H1=>∃ n:Nat,vs=[.int n] /\ n <= 1000000 /\ ∀ l,H1 l=none -> Q (.ref l) (upd H1 l (.lst ((List.range n).map λ (x:Nat)=>V.int (x:Int))))):ziC t σ H Q:=h
end
noncomputable def IteL (K:PySem.W.Frag) (a:Addr) (xs:List V):It:=
 ⟨λ i H=>i < xs.length /\ SqL K H a xs,λ i H x H'=>∃ T u,x=.ref T /\ H T=none /\ H'=upd H T (.tup [.int (i:Int),u]) /\ xs[i]?=some u,λ i H=>i=xs.length /\ SqL K H a xs⟩
def zh3 {P:Program} {w:World} {K:PySem.W.Frag} {elts:List Expr} {kk:Nat} {tpos:Pos} (a e it:Addr) (hei:e ≠ it) (hae:a ≠ e) (hai:a ≠ it) (xs:List V) :
  Turn P w K (.Tuple elts kk tpos) (IteL K a xs) [e,it] e (λ i h=>(∃ old,IsEnum h e it i old) /\ h.IsListIter it a i):=by
 refine ⟨by simp,?_,?_,?_,?_,?_⟩
 ·rintro i h ⟨⟨old, he⟩, h1⟩ c hc;simp only [yaH, ybx, or_false] at hc;rcases hc with rfl | rfl
  ·exact ⟨_,he,λ v q=>nomatch q⟩
  ·obtain ⟨o,e,c,d⟩:=h1; exact ⟨o,e,λ v q=>by rw [d] at q; cases q⟩
 ·rintro i h h' ⟨⟨old,he⟩,h1⟩ k;exact ⟨⟨old,k e (6:) _ he⟩,h1.at λ o q=>k it (6:) o q⟩
 ·intro X hP hw hK hc i pins s σ H E I hf st hg;subst hP hw hK;obtain ⟨hi, hqa⟩ := hg;obtain ⟨he, h1⟩ := st;obtain ⟨ia, ra, pa, za⟩ := I.list hqa;have la := ra.length;have W := WalksT.enumerate (prog := X.prog) (w := X.w) (A := X.A) (I.ok.hd hc) e it a hei hae hai ia.toArray;refine zh9 (items := ia.toArray) hei hae hai (by simpa [<- la] using hi) ⟨he, h1, pa.isList⟩ fun T vals h' tk hP hfr hT hm hk => ?_;obtain ⟨t, u, eu, rfl⟩ := hP;refine ⟨_, rfl, W.go elts kk tpos i T _ _ _ hm fun h2 st2 hk2 => ?_⟩;have eu' : ia[i]? = some u := by simpa using eu
  obtain ⟨u',hu',ru⟩:=ra.get (yab hi);rw [eu'] at hu'; cases hu';have hTw:T ∉ [e,it]:=W.apart i T _ hm
  have hT2:zbr h2 T [Value.int (i:Int) t,u].toArray:=by
   obtain ⟨o,e,c,n,d⟩:=hT;exact ⟨o,hk2 T o hTw e,c,n,d⟩
  refine ⟨.ref T,upd H T (.tup [.int (i:Int),xs[i]]),I.turnTup (ch:=[e,it]) (t':=tk) (λ c hc=>hf c hc) (λ c o hc q=>hk2 c o hc (hk c o hc q)) hfr hT2 (.cons ⟨t,rfl⟩ (.cons ru .nil)) (by show 2 <= sizeLine; decide),rfl,
   ⟨T,_,rfl,I.hok.fresh hfr,rfl,yab hi⟩,⟨st2.1,st2.2.1⟩,λ c hc=>?_⟩
  have hcl:c < s.heap.objs.size:=by
   simp only [yaH,ybx,or_false] at hc;obtain ⟨old,he⟩:=he;rcases hc with rfl | rfl
   ·exact yai he
   ·obtain ⟨o,e,_⟩:=h1; exact yai e
  rw [zas (yaB (yah hcl hfr))];exact (hf c hc).1
 ·intro X hP hw hK hc i pins s σ H E I hf st hg;subst hP hw hK;obtain ⟨hi, hqa⟩ := hg;obtain ⟨he, h1⟩ := st;obtain ⟨ia, ra, pa, za⟩ := I.list hqa;have la := ra.length;have W := WalksT.enumerate (prog := X.prog) (w := X.w) (A := X.A) (I.ok.hd hc) e it a hei hae hai ia.toArray;have hi' : i = ia.toArray.size := by simpa [<- la] using hi
  refine W.done s _ _ (hi' ▸ ⟨he,h1,pa.isList⟩) λ h' tk hk=>⟨rfl,I.turnL (ch:=[e,it]) (λ c hc=>hf c hc) hk⟩
 ·rintro A i s Q E ⟨⟨old,he⟩,_⟩ h;exact wpAny_pyIter_enum he h
noncomputable def IteT (K:PySem.W.Frag) (a:Addr) (xs:List V):It:=
 ⟨λ i H=>i < xs.length /\ SqT K H a xs,λ i H x H'=>∃ T u,x=.ref T /\ H T=none /\ H'=upd H T (.tup [.int (i:Int),u]) /\ xs[i]?=some u,λ i H=>i=xs.length /\ SqT K H a xs⟩
def zhR {P:Program} {w:World} {K:PySem.W.Frag} {elts:List Expr} {kk:Nat} {tpos:Pos} (a e it:Addr) (hei:e ≠ it) (hae:a ≠ e) (hai:a ≠ it) (xs:List V) :
  Turn P w K (.Tuple elts kk tpos) (IteT K a xs) [e,it] e (λ i h=>(∃ old,IsEnum h e it i old) /\ h.IsTupleIter it a i):=by
 refine ⟨by simp,?_,?_,?_,?_,?_⟩
 ·rintro i h ⟨⟨old, he⟩, h1⟩ c hc;simp only [yaH, ybx, or_false] at hc;rcases hc with rfl | rfl
  ·exact ⟨_,he,λ v q=>nomatch q⟩
  ·obtain ⟨o,e,c,d⟩:=h1; exact ⟨o,e,λ v q=>by rw [d] at q; cases q⟩
 ·rintro i h h' ⟨⟨old,he⟩,h1⟩ k;exact ⟨⟨old,k e (6:) _ he⟩,h1.at λ o q=>k it (6:) o q⟩
 ·intro X hP hw hK hc i pins s σ H E I hf st hg;subst hP hw hK;obtain ⟨hi, hqa⟩ := hg;obtain ⟨he, h1⟩ := st;obtain ⟨ia, ra, pa, za⟩ := I.tuple hqa;have la := ra.length;have W := WalksT.enumerateD (prog := X.prog) (w := X.w) (A := X.A) (Draws.tuple (A := X.A.in1) (I.ok.hd hc) it a hai ia.toArray) e hei (fun z => (yaH.mp z).elim (fun q => hei q) (fun q => hae (ybE.mp q).symm)) (6:);refine zgF (Draws.tuple (A := X.A.in1) (I.ok.hd hc) it a hai ia.toArray) hei (fun z => (yaH.mp z).elim (fun q => hei q) (fun q => hae (ybE.mp q).symm)) (by simpa [<- la] using hi) ⟨he, h1, (show s.heap.IsTuple a ia.toArray from pa)⟩ fun T vals h' tk hP hfr hT hm hk => ?_;obtain ⟨t, u, eu, rfl⟩ := hP;refine ⟨_, rfl, W.go elts kk tpos i T _ _ _ hm fun h2 st2 hk2 => ?_⟩;have eu' : ia[i]? = some u := by simpa using eu
  obtain ⟨u',hu',ru⟩:=ra.get (yab hi);rw [eu'] at hu'; cases hu';have hTw:T ∉ [e,it]:=W.apart i T _ hm
  have hT2:zbr h2 T [Value.int (i:Int) t,u].toArray:=by
   obtain ⟨o,e,c,n,d⟩:=hT;exact ⟨o,hk2 T o hTw e,c,n,d⟩
  refine ⟨.ref T,upd H T (.tup [.int (i:Int),xs[i]]),I.turnTup (ch:=[e,it]) (t':=tk) (λ c hc=>hf c hc) (λ c o hc q=>hk2 c o hc (hk c o hc q)) hfr hT2 (.cons ⟨t,rfl⟩ (.cons ru .nil)) (by show 2 <= sizeLine; decide),rfl,
   ⟨T,_,rfl,I.hok.fresh hfr,rfl,yab hi⟩,⟨st2.1,st2.2.1⟩,λ c hc=>?_⟩
  have hcl:c < s.heap.objs.size:=by
   simp only [yaH,ybx,or_false] at hc;obtain ⟨old,he⟩:=he;rcases hc with rfl | rfl
   ·exact yai he
   ·obtain ⟨o,e,_⟩:=h1; exact yai e
  rw [zas (yaB (yah hcl hfr))];exact (hf c hc).1
 ·intro X hP hw hK hc i pins s σ H E I hf st hg;subst hP hw hK;obtain ⟨hi, hqa⟩ := hg;obtain ⟨he, h1⟩ := st;obtain ⟨ia, ra, pa, za⟩ := I.tuple hqa;have la := ra.length;have W := WalksT.enumerateD (prog := X.prog) (w := X.w) (A := X.A) (Draws.tuple (A := X.A.in1) (I.ok.hd hc) it a hai ia.toArray) e hei (fun z => (yaH.mp z).elim (fun q => hei q) (fun q => hae (ybE.mp q).symm)) (6:);have hi' : i = ia.toArray.size := by simpa [<- la] using hi
  refine W.done s _ _ (hi' ▸ ⟨he,h1,(show s.heap.IsTuple a ia.toArray from pa)⟩) λ h' tk hk=>⟨rfl,I.turnL (ch:=[e,it]) (λ c hc=>hf c hc) hk⟩
 ·rintro A i s Q E ⟨⟨old,he⟩,_⟩ h;exact wpAny_pyIter_enum he h
noncomputable def zml (K:PySem.W.Frag) (ta:TA):TI:=λ σ H R=>ta σ H λ vs H1=>∃ a xs,vs=[.ref a] /\ ((SqL K H1 a xs /\ R (IteL K a xs) H1) \/ (SqT K H1 a xs /\ R (IteT K a xs) H1))
def zgr {X:Cx} {K:PySem.W.Frag} {elts:List Expr} {kk:Nat} {tpos:Pos} {a:Expr} {ta:TA} {p pos:Pos} (hm:X.mg "enumerate"=none) (ha:PA X [a] ta) (hg:Gl X "enumerate":=by rfl) (hs:starEach [a] X.env=[(false,eval a X.env)]:=by rfl) (hK:X.K=K:=by rfl) :
  PI X (.Tuple elts kk tpos) (.Call (.Name "enumerate" p) [a] [] pos) (zml K ta):=by
 subst hK;intro pins s σ H R I h;refine Call_ (zev I hg hm boot_enumerate (yaV (thn (ha pos pins s σ H _ I h) λ us s1 ⟨vs,H1,I1,r1,q1⟩=>?_) hs rfl));obtain ⟨a,xs,e,q⟩:=q1;subst e;cases r1 with
 | cons r rr=>
  cases rr;cases r
  have fpo:∀ c ∈ [s1.heap.objs.size + 1,s1.heap.objs.size],FpOk X pins H1 c:=λ c hc=>by
   have hc':s1.heap.objs.size <= c:=by
    simp only [yaH,ybx,or_false] at hc;show @LE.le Nat _ s1.heap.objs.size c;rcases hc with z | z <;> (have z':@Eq Nat c _:=z; omega)
   exact I1.fpOk hc' (I1.hok.fresh hc')
  rcases q with ⟨hqa,q⟩ | ⟨hqa,q⟩
  ·obtain ⟨ia, ra, pa, za⟩ := I1.list hqa;have al : @LT.lt Nat _ a s1.heap.objs.size := by obtain ⟨o, n, e, _⟩ := pa; exact yai e
   refine call_enumerate_list pa.isList λ h' he h1 hsz hk=>?_;have I2:Inv X pins σ H1 { s1 with heap:=h' }:=I1.kept (t':=s1.toks) hk;refine wpAny_pyIter_enum he ?_;exact ⟨s1.heap.objs.size + 1,[s1.heap.objs.size + 1,s1.heap.objs.size],_,_,H1,rfl,I2,zh3 a _ _ (69:) (69:) (69:) xs,⟨⟨_,he⟩,h1⟩,fpo,q⟩
  ·obtain ⟨ia, ra, pa, za⟩ := I1.tuple hqa;have al : @LT.lt Nat _ a s1.heap.objs.size := by obtain ⟨o, e, _⟩ := pa; exact yai e
   refine zcJ (show s1.heap.IsTuple a ia.toArray from pa) λ h' he h1 hsz hk=>?_;have I2:Inv X pins σ H1 { s1 with heap:=h' }:=I1.kept (t':=s1.toks) hk;refine wpAny_pyIter_enum he ?_;exact ⟨s1.heap.objs.size + 1,[s1.heap.objs.size + 1,s1.heap.objs.size],_,_,H1,rfl,I2,zhR a _ _ (69:) (69:) (69:) xs,⟨⟨_,he⟩,h1⟩,fpo,q⟩
def zmm {σ:St} {H:Hp} {K:PySem.W.Frag} {t:TA} {R:It -> Hp -> Prop} (h:t σ H λ vs H1=>∃ a xs,vs=[.ref a] /\ ((SqL K H1 a xs /\ R (IteL K a xs) H1) \/ (SqT K H1 a xs /\ R (IteT K a xs) H1))):zml K t σ H R:=h
end L2
namespace PySem
section
variable {prog:Program} {w:World} {A:Around} {E:Value -> Shared -> Prop} {s:Shared}
end
end PySem
namespace L2
open PySem PySem.Spec PyProof.Rows
def zbV {K:PySem.W.Frag} {a:Addr} {xs:List V} {src:List (Option Nat)} {σ:St} {g:TG} {tc:TT} {te:TE} {Q:VK} {H:Hp} (hA:SqT K H a xs)
  (h:zcK (Itt K a) src σ g tc te Q H):∃ b,V.ref a=.ref b /\ (((∃ xs,SqL K H b xs) /\ zcK (Itl K b) src σ g tc te Q H) \/ ((∃ xs,SqT K H b xs) /\ zcK (Itt K b) src σ g tc te Q H)):=⟨a,rfl,.inr ⟨⟨xs,hA⟩,h⟩⟩
end L2
namespace PySem
open Sem (wp)
open Builtin
def zdy:fillsNumberSlot (.type "tuple") "mul"=pure false:=
 fillsNumberSlot_seq (id:="tuple.__mul__") (r:=some (.builtin "tuple.__rmul__")) ybT.lookup (34:) F.slot_tuple_rmul.lookup (34:)
def zfk:seqRepeat? (.type "tuple")=pure (some (.builtin "tuple.__mul__")):=by
 unfold seqRepeat?;rw [seqSlot_of (T:="tuple") (name:="__mul__") (id:="tuple.__mul__") ybT.lookup (34:),seqSlot_of (T:="tuple") (name:="__rmul__") (id:="tuple.__rmul__") F.slot_tuple_rmul.lookup (34:)];rfl
def zed (a:Int) (t:Tok) (l:Addr) (items:Array Value) (n:Nat) {dd} {sl} :
  Meets (Builtin.«int.__rmul__» ⟨[.int a t,.ref l],[]⟩) (λ _ R s=>s.heap.get? l=some { cls:=.type "tuple",dict:=dd,data:=.seq items n,slots:=sl } /\ R (.ok (.ret Value.notImplemented)) s):=
 .of_wp λ prog w A R s h=>by obtain ⟨hp,g,d,tk,os⟩:=s; obtain ⟨hl,h⟩:=h; wp_walk; exact ⟨_,rfl,h⟩
def zgv (l:Addr) (items:Array Value) (n:Nat) (x:Int) (u:Tok) {dd} {sl} (h0:items.isEmpty=false) (h1:1 < x) (h2:x < 2 ^ 63) (hz:items.size * x.toNat <= sizeLine) :
  Meets (Builtin.«tuple.__mul__» ⟨[.ref l,.int x u],[]⟩) (λ _ R s=>s.heap.get? l=some { cls:=.type "tuple",dict:=dd,data:=.seq items n,slots:=sl } /\ R (.ok (.ret (Value.ref s.heap.objs.size))) { s with heap:=s.heap.push { cls:=Value.type "tuple",data:=Data.seq (List.foldl (λ x1 x2=>x1 ++ x2) #[] (List.replicate x.toNat items)) },toks:=s.toks }):=
 .of_wp λ prog w A R s h=>by
  obtain ⟨hp,g,d,tk,os⟩:=s; obtain ⟨hl,h⟩:=h
  have hm:(items.size:Int) * x=((items.size * x.toNat:Nat):Int):=by
   rw [Int.natCast_mul,ybk (1:)]
  have hcap:(sizeLine:Nat) <= (2 ^ 63 - 1) / 8:=by decide
  have hc0:¬(decide (x < -2 ^ 63) || decide (x >= 2 ^ 63))=true:=by
   rw [decide_eq_false (1:),decide_eq_false (1:)]; decide
  have hc1:¬(items.isEmpty || x == 1)=true:=by
   rw [h0,beq_eq_false_iff_ne.mpr (1:)]; decide
  have hc2:¬(decide (x <= 0) || items.isEmpty)=true:=by
   rw [h0,decide_eq_false (1:)]; decide
  have hc3:¬ (items.size:Int) * x > (2 ^ 63 - 1) / 8:=by
   rw [hm]; omega
  have hc4:¬ Builtin.Tuple.tupleTooMany ((items.size:Int) * x)=true:=by
   rw [hm];unfold Builtin.Tuple.tupleTooMany;rw [decide_eq_false (1:)];decide
  wp_walk
  rw [if_neg hc0]
  wp_walk using wpAny_loadPart' hl
  rw [if_neg hc1]
  wp_walk
  rw [if_neg hc2]
  wp_walk
  rw [if_neg hc3]
  wp_walk
  rw [if_neg hc4]
  wp_walk
  rw [if_neg (by
   have e:=Nat.mul_comm items.size x.toNat;rw [AutoListH.size_joined]; simp only [Array.size_empty]; omega)]
  wp_walk
  exact ⟨_,rfl,h⟩
def zgX (l:Addr) (items:Array Value) (n:Nat) (u:Tok) {dd} {sl} :
  Meets (Builtin.«tuple.__mul__» ⟨[.ref l,.int 1 u],[]⟩) (λ _ R s=>s.heap.get? l=some { cls:=.type "tuple",dict:=dd,data:=.seq items n,slots:=sl } /\ R (.ok (.ret (Value.ref l))) s):=
 .of_wp λ prog w A R s h=>by
  obtain ⟨hp,g,d,tk,os⟩:=s; obtain ⟨hl,h⟩:=h
  wp_walk
  exact ⟨_,rfl,h⟩
end PySem
namespace L2
open PySem PySem.Spec PyProof.Rows
section
variable {X:Cx}
noncomputable def zmb (K:PySem.W.Frag):R2:=λ x y H Q=>∃ a k xs,x=.ref a /\ y=.int k /\ SqT K H a xs /\ 1 <= k /\ k < 2 ^ 63 /\ xs ≠ [] /\ xs.length * k.toNat <= sizeLine /\
 (k=1 -> Q (.ref a) H) /\ (k ≠ 1 -> ∀ p,H p=none -> Q (.ref p) (upd H p (.tup (List.replicate k.toNat xs).flatten)))
def zk0:OpR X (binaryOp .Mult) (zmb X.K):=by
 intro pins s σ H x y v u Q I rx ry h;obtain ⟨a,k,xs,rfl,rfl,ha,h1,h2,hx,hz,q1,q2⟩:=h;cases rx;obtain ⟨t,rfl⟩:=ry;obtain ⟨its,r,p1,_⟩:=I.tuple ha;obtain ⟨⟨cls,dd,data,sl⟩,ho,hc,n,hd⟩:=id p1;simp only at hc hd;subst hc hd
 refine wpAny_binaryOp_repeat_ref (T:="tuple") (U:="int") (3:) ⟨_,ho,rfl⟩ (λ s'=>typeIs_int s' k t) zdy F.fills_int_mul yb1 zfk F.slot_int_index.lookup
  (call_meets yb1 (typeIs_int s k t) F.entry_int_rmul (F.args_int_rmul_2 _ _) (zed k t a its.toArray n) ⟨ho,rfl,⟨_,ho,rfl⟩,?_⟩)
 by_cases e:k=1
 ·subst e;exact call_meets ybT ⟨_,ho,rfl⟩ F.entry_tuple_mul (F.args_tuple_mul_2 _ _) (zgX a its.toArray n t) ⟨ho,.ref a,H,I,rfl,q1 rfl⟩
 ·refine call_meets ybT ⟨_, ho, rfl⟩ F.entry_tuple_mul (F.args_tuple_mul_2 _ _) (zgv a its.toArray n k t ?_ (1:) h2 (by rw [yaj, <- r.length]; exact hz)) ⟨ho, ?_⟩
  ·cases its with
   | nil=>exact absurd (r.nil_iff.mp rfl) hx
   | cons _ _=>rfl
  ·have f0:List.foldl (λ x1 x2=>x1 ++ x2) #[] (List.replicate k.toNat its.toArray)=(List.replicate k.toNat its).flatten.toArray:=by
    have:=zec its k.toNat [];rw [List.nil_append] at this;exact this
   rw [f0];refine ⟨.ref s.heap.objs.size,_,I.laid (t':=s.toks) (o:=.tup (List.replicate k.toNat xs).flatten) (λ b ob q=>yag _ q) (yad _) ?_,rfl,q2 e _ (I.hok.fresh (yad _))⟩;exact ⟨by rw [zjG,Nat.mul_comm]; exact hz,_,r.rep k.toNat,zbr.new _ _⟩
noncomputable def zlo (K:PySem.W.Frag):R2:=λ x y H Q=>zm2 x y H Q \/ zmb K x y H Q
def zf2 {K:PySem.W.Frag} (hK:X.K=K:=by rfl):OpR X (binaryOp .Mult) (zlo K):=hK ▸ zlv.or zk0
end
def zjS {K:PySem.W.Frag} {i j:Int} {H:Hp} {Q:VK} (c:CMul i j) (h:Q (.int (i * j)) H):zlo K (.int i) (.int j) H Q:=.inl (.inl ⟨i,j,rfl,rfl,c,h⟩)
open PySem.W
section
variable {prog:Program} {w:World} {A:Around} {E:Value -> Shared -> Prop} {s:Shared} {t:Addr}
end
section
variable {X:Cx}
def zeZ:∀ {ns:List Int} {us:List Value},Vals (ns.map V.int) us -> IntsAre us ns
 | [],_,.nil=>.nil
 | n :: ns,_,.cons r t=>by
  obtain ⟨k,rfl⟩:=r;exact .cons n k (zeZ t)
end
end L2
namespace L2
open PySem PySem.Spec PyProof.Rows
section
variable {X:Cx} {pos:Pos}
end
def zlK {i j:Nat} {ta:TA} {D:Ends} {σ:St} {H:Hp} (h:ta σ H λ vs H1=>∃ v w,vs=[v,w] /\ D.nx ((σ.set i (some v)).set j (some w)) H1):tPar i j ta D σ H:=h
def znE {u v:V} {P:V -> V -> Prop} (h:P u v):∃ u' v',[u,v]=[u',v'] /\ P u' v':=⟨u,v,rfl,h⟩
def zg9 {K:PySem.W.Frag} {a b:Str} {H:Hp} {Q:VK} (ha:shpd (.str a)=true) (hb:shpd (.str b)=true) (h:Q (.bl (a == b)) H):rEqU K (.str a) (.str b) H Q:=⟨.str a,.str b,.str K H a,.str K H b,ha,hb,h⟩
end L2
namespace Bm
def zgW (n k:Nat):(n / 2 ^ k) &&& 1=(n.testBit k).toNat:=by
 rw [Nat.and_one_is_mod,Nat.testBit_eq_decide_div_mod_eq];have h:n / 2 ^ k % 2 < 2:=yba _ (3:);by_cases e:n / 2 ^ k % 2=1
 ·simp [e]
 ·have : n / 2 ^ k % 2 = 0 := by omega
  simp [this]
def zia:∀ (a b:Nat),(a ||| b)=(a ^^^ b) + (a &&& b):=by
 intro a
 induction a using Nat.strongRecOn with
 | ind a ih=>
  intro b;by_cases h:a=0
  ·subst h; simp
  ·have i := ih (a / 2) (1:) (b / 2);have e1 := Nat.or_div_two (a := a) (b := b);have e2 := Nat.xor_div_two (a := a) (b := b);have e3 := Nat.and_div_two (a := a) (b := b)
   have m1:(a ||| b) % 2=(a ^^^ b) % 2 + (a &&& b) % 2:=by
    have ha:a % 2=0 \/ a % 2=1:=by omega
    have hb:b % 2=0 \/ b % 2=1:=by omega
    have o:=Nat.or_mod_two_pow (a:=a) (b:=b) (n:=1);have x:=Nat.xor_mod_two_pow (a:=a) (b:=b) (n:=1);have n:=Nat.and_mod_two_pow (a:=a) (b:=b) (n:=1);simp only [Nat.pow_one] at o x n;rw [o,x,n];rcases ha with ha | ha <;> rcases hb with hb | hb <;> simp [ha,hb]
   omega
noncomputable def zdx (ps:List Nat):Nat:=ps.foldl (λ m p=>m ||| 2 ^ p) 0
def zdn (k:Nat):∀ (ps:List Nat) (m:Nat),(ps.foldl (λ m p=>m ||| 2 ^ p) m).testBit k=(m.testBit k || decide (k ∈ ps))
 | [],m=>by simp
 | p :: ps,m=>by
  rw [yb0,zdn k ps,Nat.testBit_or,Nat.testBit_two_pow];by_cases h:p=k
  ·subst h; simp
  ·have h':¬ k=p:=λ e=>h e.symm;simp [h,h']
def za7 (ps:List Nat) (k:Nat):(zdx ps).testBit k=decide (k ∈ ps):=by
 unfold zdx;rw [zdn];simp
def zh2 (ps:List Nat) (p:Nat):zdx (ps ++ [p])=zdx ps ||| 2 ^ p:=by
 simp [zdx,List.foldl_append]
noncomputable def bitsB (n w:Nat):List Bool:=(List.range w).map n.testBit
noncomputable def zcp (n:Nat):Nat:=if n=0 then 0 else n.log2 + 1
def zik (n:Nat):n < 2 ^ zcp n:=by
 unfold zcp
 split
 ·rename_i h; subst h; decide
 ·exact Nat.lt_log2_self
def zfI {n w:Nat} (h:n < 2 ^ w):zcp n <= w:=by
 unfold zcp
 split
 ·exact yaY _
 ·rename_i h0;exact (Nat.log2_lt h0).mpr h
def zdf {n k:Nat} (h:zcp n <= k):n.testBit k=false:=
 Nat.testBit_lt_two_pow (yah (zik n) (yaI (3:) h))
noncomputable def zal (n:Nat):List Nat:=(List.range (zcp n)).filter n.testBit
def zd0 {p:Nat -> Bool} {a b:Nat} (h:a <= b) (hp:∀ i,a <= i -> p i=false):(List.range b).filter p=(List.range a).filter p:=by
  induction b with
  | zero => have : a = 0 := by omega
            subst this; rfl
  | succ b ih=>
    by_cases e:a=b + 1
    · subst e; rfl
    · rw [ybe,ybb,ih (1:)];simp [hp b (1:)]
def zdr {n w:Nat} (h:n < 2 ^ w):zal n=(List.range w).filter n.testBit:=by
 unfold zal;exact (zd0 (zfI h) λ i hi=>zdf hi).symm
def zbd {n k:Nat}:k ∈ zal n ↔ n.testBit k=true:=by
 unfold zal;rw [ya5,yaw];constructor
 ·exact λ h=>h.2
 ·intro h;refine ⟨?_, h⟩;by_cases hk : k < zcp n
  ·exact hk
  ·rw [zdf (1:)] at h; cases h
def zft (n:Nat):zdx (zal n)=n:=by
 apply Nat.eq_of_testBit_eq;intro k;rw [za7];by_cases h:n.testBit k=true
 ·simp [zbd,h]
 ·have : n.testBit k = false := by simpa using h
  simp [zbd,this]
end Bm
namespace L2
open PySem PySem.Spec PyProof.Rows Bm
noncomputable abbrev nV (n:Nat):V:=V.int (n:Int)
noncomputable def SqA (K:PySem.W.Frag) (H:Hp) (a:Addr) (xs:List V):Prop:=SqL K H a xs \/ SqT K H a xs
def zeI (a b:Nat):Builtin.bitAnd (a:Int) (b:Int)=((a &&& b:Nat):Int):=by
 simp [Builtin.bitAnd]
def ze3 (a:Nat):Builtin.bitNot (a:Int)=-((a:Int) + 1):=by
 simp [Builtin.bitNot]; omega
def zgb (a b:Nat):Builtin.bitOr (a:Int) (b:Int)=((a ||| b:Nat):Int):=by
 have h1:decide (0 <= Builtin.bitNot (a:Int))=false:=by rw [ze3]; apply decide_eq_false; omega
 have h2:decide (0 <= Builtin.bitNot (b:Int))=false:=by rw [ze3]; apply decide_eq_false; omega
 have n1:(Builtin.bitNot (Builtin.bitNot (a:Int))).toNat=a:=by simp [Builtin.bitNot]; omega
 have n2:(Builtin.bitNot (Builtin.bitNot (b:Int))).toNat=b:=by simp [Builtin.bitNot]; omega
 unfold Builtin.bitOr Builtin.bitAnd;rw [h1,h2];dsimp only;rw [n1,n2];simp [Builtin.bitNot];omega
def zhP (a b:Nat):Builtin.bitXor (a:Int) (b:Int)=((a ^^^ b:Nat):Int):=by
 unfold Builtin.bitXor;rw [zgb,zeI];have h:=zia a b;omega
def zg4 (n:Nat):Builtin.Int.intBits (n:Int)=zcp n:=by
 unfold Builtin.Int.intBits zcp;by_cases h:n=0
 ·subst h; rfl
 ·have:((n:Int) == 0)=false:=by
   apply beq_eq_false_iff_ne.mpr;omega
  rw [this,if_neg h];simp
def modN {n:Nat} (x:Int) (h:0 < n):∃ r:Nat,r < n /\ x % (n:Int)=(r:Int):=by
 have h1:=Int.emod_nonneg x (show (n:Int) ≠ 0 by omega);have h2:=Int.emod_lt_of_pos x (show (0:Int) < n by omega);exact ⟨(x % (n:Int)).toNat,by omega,by omega⟩
def zcn {α β:Type} {f:α -> β} {xs:List α} {i:Nat} {y:β} (h:(xs.map f)[i]?=some y):∃ x,xs[i]?=some x /\ y=f x:=by
 rw [yae] at h;cases e:xs[i]? with
 | none=>rw [e] at h; cases h
 | some x=>rw [e] at h; cases h; exact ⟨x,rfl,rfl⟩
def zfL (n k:Nat):Builtin.bitAnd ((n:Int) / 2 ^ ((k:Int)).toNat) 1=((n.testBit k).toNat:Int):=by
 rw [yam];have e:((n:Int) / 2 ^ k)=((n / 2 ^ k:Nat):Int):=by simp
 rw [e];have:=zeI (n / 2 ^ k) 1;rw [zgW] at this;exact this
def zlF (n:Nat):(1:Int) * 2 ^ ((n:Int)).toNat - 1=((2 ^ n - 1:Nat):Int):=by
 rw [yam];have h:1 <= 2 ^ n:=ybF;rw [Int.natCast_sub h];simp
def zmy (m y:Nat):Builtin.bitOr (m:Int) ((1:Int) * 2 ^ ((y:Int)).toNat)=((m ||| 2 ^ y:Nat):Int):=by
 rw [yam];have e:(1:Int) * 2 ^ y=((2 ^ y:Nat):Int):=by simp
 rw [e,zgb]
def znr (ns:List Int):∃ ms:List Int,cutV (ns.map V.int) none (some 63)=ms.map V.int /\ ms.length <= 63:=by
 refine ⟨(ns.drop (HT.sIx (ns.map V.int).length 0 none)).take (HT.sIx (ns.map V.int).length (ns.map V.int).length (some 63) - HT.sIx (ns.map V.int).length 0 none),?_,?_⟩
 ·unfold cutV;rw [List.map_take,yca]
 ·rw [yaE];have h:HT.sIx (ns.map V.int).length (ns.map V.int).length (some 63)=min 63 (ns.map V.int).length:=HT.sIx_nat _ _ 63;rw [h];omega
def zkV (z:Int):(if z < 0 then -z else z)=(z.natAbs:Int):=by
 split <;> omega
def zeF:∀ ps:List Nat,(ps.map nV).all zcX=true
 | []=>rfl
 | _ :: r=>by rw [ybj,List.all_cons,zeF r]; rfl
def zih {K:PySem.W.Frag} {H:Hp} (ps:List Nat):DatVs K H ((ps.map (λ (x:Nat)=>(x:Int))).map .int) (ps.map nV):=by
 have:=DatVs.ints K H (ps.map (λ (x:Nat)=>(x:Int)));rw [ya4 (f:=λ (x:Nat)=>(x:Int)) (g:=V.int)] at this;exact this
noncomputable def ziK:Sp:=λ vs H Q _=>∃ n k:Nat,vs=[nV n,nV k] /\ Q (nV (n.testBit k).toNat) H
noncomputable def zhv:Sp:=λ vs H Q _=>∃ n:Nat,vs=[nV n] /\ n < 2 ^ 64 /\ ∀ p H',H p=none -> Same H H' -> H' p=some (.lst ((zal n).map nV)) -> Q (.ref p) H'
noncomputable def zhr (K:PySem.W.Frag):Sp:=λ vs H Q _=>∃ (a:Addr) (ps:List Nat),vs=[.ref a] /\ SqA K H a (ps.map nV) /\ (∀ p ∈ ps,p < 64) /\ Q (nV (zdx ps)) H
noncomputable def zmQ:Sp:=λ vs H Q _=>∃ n:Nat,vs=[nV n] /\ n <= 64 /\ Q (nV (2 ^ n - 1)) H
noncomputable def Hand (H:Hp) (p:Addr):Prop:=∃ (q:Addr) (cells:List Nat) (a b c:Nat),H p=some (.lst [.ref q,nV a,nV b,nV c]) /\ H q=some (.lst (cells.map nV)) /\ cells.length <= 63
def Hand.of {H:Hp} {p q:Addr} {cells:List Nat} {a b c:Nat} (h1:H p=some (.lst [.ref q,nV a,nV b,nV c])) (h2:H q=some (.lst (cells.map nV))) (h3:cells.length <= 63):Hand H p:=⟨q,cells,a,b,c,h1,h2,h3⟩
def Hand.same {H H':Hp} {p:Addr} (h:Hand H p) (s:Same H H'):Hand H' p:=by
 obtain ⟨q,cells,a,b,c,h1,h2,h3⟩:=h;exact ⟨q,cells,a,b,c,s _ _ h1,s _ _ h2,h3⟩
def But.free {H H':Hp} {p l:Addr} (b:But p H H') (hp:Hand H' p) (h:H' l=none):H l=none /\ l ≠ p:=by
 have ne:l ≠ p:=by
  rintro rfl;obtain ⟨q,cells,a,b,c,e1,_⟩:=hp;rw [h] at e1;cases e1
 refine ⟨?_,ne⟩;cases e:H l with
 | none=>rfl
 | some o=>
  rw [b.keep l o ne e] at h;cases h
noncomputable def zkK (K:PySem.W.Frag):Sp:=λ vs H Q _=>∃ (a:Addr) (ns:List Int),vs=[.ref a] /\ SqL K H a (ns.map V.int) /\ ∀ p H',H p=none -> Same H H' -> Hand H' p -> Q (.ref p) H'
noncomputable def zkD:Sp:=λ vs H Q _=>∃ (p:Addr) (n:Nat),vs=[.ref p,nV n] /\ Hand H p /\ 0 < n /\ n < 1073741824 /\ ∀ (r:Nat) (H':Hp),r < n -> But p H H' -> Hand H' p -> Q (nV r) H'
noncomputable def zkr (K:PySem.W.Frag):Sp:=λ vs H Q _=>∃ (a:Addr) (ns:List Int),vs=[.ref a] /\ SqL K H a (ns.map V.int) /\ ns.length <= 63 /\ ∀ H',Q (.bl true) H'
noncomputable def Ld (w:Nat) (ls:List Int):Prop:=ls.length=w /\ ∀ e ∈ ls,-2 <= e /\ e < (w:Int)
noncomputable def zbD (w:Nat):List Int:=(List.range w).map λ (x:Nat)=>(x:Int)
noncomputable def zaE (ls ms:List Int):List Int:=ms.map λ e=>if 0 <= e then ls.getD e.toNat 0 else e
def zfe (w:Nat):((List.range w).map λ (x:Nat)=>V.int (x:Int))=(zbD w).map V.int:=by
 unfold zbD;rw [ya4];rfl
def zld {w:Nat} {ls ms:List Int} (h1:Ld w ls) (h2:Ld w ms):Ld w (zaE ls ms):=by
 refine ⟨by rw [zaE,yaa]; exact h2.1,λ e he=>?_⟩;simp only [zaE,yaW] at he;obtain ⟨x,hx,rfl⟩:=he;have q:=h2.2 x hx
 split
 ·rename_i h0;have hl : x.toNat < ls.length := by rw [h1.1]; omega
  rw [yac,yab hl];exact h1.2 _ (ybw hl)
 ·exact q
noncomputable def zkL:Sp:=λ vs H Q _=>∃ (a b:Addr) (ls ms:List Int) (w:Nat),vs=[.ref a,.ref b] /\ H a=some (.tup (ls.map V.int)) /\ H b=some (.tup (ms.map V.int)) /\ Ld w ls /\ Ld w ms /\ w <= 64 /\
 ∀ t H',Same H H' -> H' t=some (.tup ((zaE ls ms).map V.int)) -> Q (.ref t) H'
noncomputable def zkJ:Sp:=λ vs H Q _=>∃ (p:Addr) (w:Nat),vs=[.ref p,nV w] /\ Hand H p /\ 1 <= w /\ w <= 64 /\ ∀ (t:Addr) (ms:List Nat) (H':Hp),ms.Perm (List.range w) -> But p H H' -> Hand H' p -> H' t=some (.tup (ms.map nV)) -> Q (.ref t) H'
def zeO {α:Type}:∀ (l:List α) (i:Nat) (h:i < l.length),(l[i] :: l.eraseIdx i).Perm l
 | [],_,h=>absurd h (Nat.not_lt_zero _)
 | _ :: _,0,_=>by simp
 | x :: l,i + 1,h=>by
  have ih:=zeO l i (by simpa using h);simp only [List.getElem_cons_succ,List.eraseIdx_cons_succ];exact (List.Perm.swap _ _ _).trans (List.Perm.cons x ih)
def zfR {α β:Type} (f:α -> β):∀ (l:List α) (i:Nat),(l.map f).eraseIdx i=(l.eraseIdx i).map f
 | [],_=>by simp
 | _ :: _,0=>by simp
 | x :: l,i + 1=>by simp [zfR f l i]
def Hand.upd {H H':Hp} {p l:Addr} {o:HO} (h0:Hand H p) (b:But p H H') (h:Hand H' p) (hl:H l=none):Hand (L2.upd H' l o) p:=by
 obtain ⟨q,cells,a1,a2,a3,e1,e2,e3⟩:=h0;obtain ⟨q',cells',b1,b2,b3,f1,f2,f3⟩:=h;obtain ⟨r',g⟩:=b.fst q _ e1;rw [f1] at g;cases g;exact ⟨q,cells',b1,b2,b3,by rw [zas (zaq e1 hl)]; exact f1,by rw [zas (zaq e2 hl)]; exact f2,f3⟩
def Hand.ne {H:Hp} {p l:Addr} (h:Hand H p) (e:H l=none):l ≠ p:=by
 rintro rfl;obtain ⟨q,cells,a,b,c,e1,_⟩:=h;rw [e] at e1;cases e1
def zhJ {w:Nat} {ls:List Int} (h:Ld w ls):zaE (zbD w) ls=ls:=by
 have:∀ e ∈ ls,(if 0 <= e then (zbD w).getD e.toNat 0 else e)=e:=λ e he=>by
  have q:=h.2 e he;by_cases z:0 <= e
  ·rw [if_pos z,yac,zbD,yae,yav (1:)];simp;omega
  ·rw [if_neg z]
 rw [zaE,yaR this,List.map_id']
def zm7 {K:PySem.W.Frag} {a b:Addr} {xs ys:List Int} {H:Hp} {Q:VK} (ha:SqT K H a (xs.map V.int)) (hb:SqT K H b (ys.map V.int)) (h:Q (.bl (!decide (xs=ys))) H):rNeU K (.ref a) (.ref b) H Q:=by
 refine ⟨.tuple (xs.map .int),.tuple (ys.map .int),DatV.tuple ha (DatVs.ints K H xs),DatV.tuple hb (DatVs.ints K H ys),zbX _,zbX _,?_⟩;rw [show PyData.eqv (.tuple (xs.map .int)) (.tuple (ys.map .int))=decide (xs=ys) by rw [PyData.eqv,zb4]];exact h
def zne {K:PySem.W.Frag} {a b:Addr} {xs ys:List Int} {H:Hp} {Q:VK} (ha:SqT K H a (xs.map V.int)) (hb:SqT K H b (ys.map V.int)) (h:Q (.bl (decide (xs=ys))) H):rEqU K (.ref a) (.ref b) H Q:=by
 refine ⟨.tuple (xs.map .int),.tuple (ys.map .int),DatV.tuple ha (DatVs.ints K H xs),DatV.tuple hb (DatVs.ints K H ys),zbX _,zbX _,?_⟩;rw [show PyData.eqv (.tuple (xs.map .int)) (.tuple (ys.map .int))=decide (xs=ys) by rw [PyData.eqv,zb4]];exact h
def Hand.neT {H:Hp} {p t:Addr} {xs:List V} (h:Hand H p) (e:H t=some (.tup xs)):t ≠ p:=by
 rintro rfl;obtain ⟨q,cells,a,b,c,e1,_⟩:=h;rw [e] at e1;cases e1
def zcA {m w:Nat} (h:m < 2 ^ w):(zal m).length <= w:=by
 rw [zdr h];have:=ybm m.testBit (List.range w);rw [yas] at this;exact this
def zen {m w x:Nat} (h:m < 2 ^ w) (hx:x ∈ zal m):x < w:=by
 rw [zdr h] at hx;exact yaw.mp (ya5.mp hx).1
def zg0 {m w j:Nat} (h:m < 2 ^ w) (hj:j < (zal m).length):(zal m).getD j 0 < w:=by
 rw [yac,yab hj];exact zen h (ybw hj)
def zfA {m i j:Nat} (hij:i < j) (hj:j < (zal m).length):(zal m).getD i 0 < (zal m).getD j 0:=by
 have hp:(zal m).Pairwise (· < ·):=List.Pairwise.filter _ ybl;rw [yac,yab (yb3 hij hj),yac,yab hj];exact yaJ.mp hp i j _ _ hij
def zk9 {ps:List Nat} {w:Nat} (h:∀ p ∈ ps,p < w):zdx ps < 2 ^ w:=by
 apply Nat.lt_pow_two_of_testBit;intro i hi;rw [za7];apply decide_eq_false;intro z;have:=h i z;omega
def lt64 {m w:Nat} (h:m < 2 ^ w) (hw:w <= 64):m < 2 ^ 64:=yah h (yaI (3:) hw)
def zii {m i j:Nat} (hi:i < (zal m).length) (hj:j < (zal m).length) (e:(zal m).getD i 0=(zal m).getD j 0):i=j:=by
 rcases Nat.lt_trichotomy i j with h | h | h
 ·have:=zfA h hj; omega
 ·exact h
 ·have:=zfA h hi; omega
def zjf {m x:Nat}:m.testBit x=true ↔ ∃ j,j < (zal m).length /\ (zal m).getD j 0=x:=by
 rw [<- zbd,ybV];constructor
 ·rintro ⟨j,hj,e⟩;exact ⟨j,hj,by rw [yac,yab hj]; exact e⟩
 ·rintro ⟨j,hj,e⟩;exact ⟨j,hj,by rw [yac,yab hj] at e; exact e⟩
end L2
namespace L2
open PySem PySem.Spec PyProof.Rows
section
variable {X:Cx}
def zjn {xs:List V} {i:Nat} {u:V} (h:xs.all zcX=true) (e:xs[i]?=some u):zcX u=true:=yaQ.mp h u (yaD e)
end
def zi0 {X:Cx} {x:Str} {j pos} {es:List Expr} {t:TA} (hr:PA X es t):PA X (.Constant (.str x) j pos :: es) (zkW (tC (.str x)) t):=zaa zdu hr rfl
noncomputable def znt (i j:Int):Prop:=0 < j /\ j < 18446744073709551616
def zbi {X:Cx}:OpR X (binaryOp .FloorDiv) (rI znt λ i j=>.int (i / j)):=opI λ i j _ _ _ _ _ hc q=>by
 have h1:(0:Int) < j:=hc.1;have h2:j < 18446744073709551616:=hc.2;refine floordiv_int (1:) (by rw [Int.fdiv_eq_ediv_of_nonneg i (1:)]; exact q) (.inl (PyProof.noPylong_of_log2 ?_));have h3:j.natAbs < 2 ^ 64:=by omega
 have h4:j.natAbs ≠ 0:=by omega
 have:=(Nat.log2_lt h4).mpr h3;omega
def zlE {K:PySem.W.Frag} {a b:Str} {H:Hp} {Q:VK} (e:(shpd (.str a) && shpd (.str b) && (a == b))=true) (h:Q (.bl true) H):rEqU K (.str a) (.str b) H Q:=by
 rw [yak,yak] at e;refine zg9 e.1.1 e.1.2 ?_;rw [e.2];exact h
def zlg {K:PySem.W.Frag} {a b:Str} {H:Hp} {Q:VK} (e:(shpd (.str a) && shpd (.str b) && !(a == b))=true) (h:Q (.bl false) H):rEqU K (.str a) (.str b) H Q:=by
 rw [yak,yak,Bool.not_eq_true'] at e;refine zg9 e.1.1 e.1.2 ?_;rw [e.2];exact h
def zbs {xs:List V} {H:Hp} {Q:VK} (hz:xs.length <= 100000) (h:∀ p H',H p=none -> Same H H' -> H' p=some (.lst xs) -> Q (.ref p) H'):NewL xs H Q:=⟨yay (small5 hz),λ p hp=>h p _ hp (zah hp) zaf⟩
def zau {xs:List V} {H:Hp} {Q:VK} (hz:xs.length <= 100000) (h:∀ p H',H p=none -> Same H H' -> H' p=some (.tup xs) -> Q (.ref p) H'):NewT xs H Q:=⟨yay (small5 hz),λ p hp=>h p _ hp (zah hp) zaf⟩
def zlB (z:Int) (ps:List Nat):inV (.int z) (ps.map λ (n:Nat)=>V.int (n:Int))=decide (0 <= z /\ z.toNat ∈ ps):=by
 induction ps with
 | nil=>simp [inV]
 | cons p r ih=>
  have e:inV (.int z) ((p :: r).map λ (n:Nat)=>V.int (n:Int))=(((p:Int) == z) || inV (.int z) (r.map λ (n:Nat)=>V.int (n:Int))):=rfl;rw [e,ih];apply Bool.eq_iff_iff.mpr;simp only [Bool.or_eq_true,decide_eq_true_iff,beq_iff_eq,yaH];constructor
  ·rintro (h | ⟨h, k⟩)
   ·exact ⟨by omega,.inl (1:)⟩
   ·exact ⟨h,.inr k⟩
  ·rintro ⟨h, k | k⟩
   ·exact .inl (1:)
   ·exact .inr ⟨h,k⟩
open Bm
inductive Dd where
 | and (m:Nat) | or (m:Nat) | left (n:Nat) | right (n:Nat) | turn (n:Nat) | gather (m:Nat) | strew (m:Nat) | swap (m n:Nat) | copy (m:Nat) (n:Int)
 deriving DecidableEq
noncomputable def Dd.vals:Dd -> List V
 | .and m=>[.str "and",nV m]
 | .or m=>[.str "or",nV m]
 | .left n=>[.str "left",nV n]
 | .right n=>[.str "right",nV n]
 | .turn n=>[.str "turn",nV n]
 | .gather m=>[.str "gather",nV m]
 | .strew m=>[.str "strew",nV m]
 | .swap m n=>[.str "swap",nV m,nV n]
 | .copy m n=>[.str "copy",nV m,.int n]
noncomputable def inM (m:Nat) (z:Int):Bool:=decide (0 <= z) && m.testBit z.toNat
noncomputable def Dd.ok (w:Nat):Dd -> Prop
 | .and m=>m < 2 ^ w
 | .or m=>m < 2 ^ w
 | .left n=>n <= w
 | .right n=>n <= w
 | .turn n=>n < w
 | .gather m=>m < 2 ^ w
 | .strew m=>m < 2 ^ w
 | .swap m n=>1 <= n /\ n < w /\ ∀ p,m.testBit p=true -> p + n < w /\ m.testBit (p + n)=false
 | .copy m n=>n ≠ 0 /\ -(w:Int) < n /\ n < w /\ m < 2 ^ w /\ ∀ p,m.testBit p=true -> 0 <= (p:Int) + n /\ (p:Int) + n < w
noncomputable def Dd.src (w:Nat) (p:Nat):Dd -> Int
 | .and m=>if m.testBit p then (p:Int) else -1
 | .or m=>if m.testBit p then -2 else (p:Int)
 | .left n=>if n <= p then (p:Int) - n else -1
 | .right n=>if p + n < w then (p:Int) + n else -1
 | .turn n=>if n <= p then (p:Int) - n else (p:Int) - n + w
 | .gather m=>if p < (zal m).length then ((zal m).getD p 0:Int) else -1
 | .strew m=>if m.testBit p then ((zal m).idxOf p:Int) else -1
 | .swap m n=>if inM m ((p:Int) - n) then (p:Int) - n else if m.testBit p then (p:Int) + n else p
 | .copy m n=>if inM m ((p:Int) - n) then (p:Int) - n else p
noncomputable def Dd.led (w:Nat) (d:Dd):List Int:=(List.range w).map λ p=>d.src w p
def zi3 (m k:Nat):inM m (k:Int)=m.testBit k:=by
 unfold inM; simp
def zfH {x w i:Nat} (h:x < 2 ^ w) (hi:w <= i):x.testBit i=false:=Nat.testBit_lt_two_pow (yah h (yaI (3:) hi))
def zcH {m p:Nat} (h:m.testBit p=true):(zal m).idxOf p < (zal m).length /\ (zal m).getD ((zal m).idxOf p) 0=p:=by
 have hm:p ∈ zal m:=zbd.mpr h;have hl:=List.idxOf_lt_length_iff.mpr hm;refine ⟨hl,?_⟩;rw [yac,yab hl];exact yb4 hl
def Dd.src_ld {w:Nat} {d:Dd} (h:d.ok w) {p:Nat} (hp:p < w):-2 <= d.src w p /\ d.src w p < (w:Int):=by
 cases d with
 | and m=>simp only [Dd.src]; split <;> omega
 | or m=>simp only [Dd.src]; split <;> omega
 | left n=>simp only [Dd.src]; split <;> omega
 | right n=>simp only [Dd.src]; split <;> omega
 | turn n=>simp only [Dd.src,Dd.ok] at h ⊢; split <;> omega
 | gather m=>
  simp only [Dd.src,Dd.ok] at h ⊢
  split
  ·rename_i k; have:=zg0 h k; omega
  ·omega
 | strew m=>
  simp only [Dd.src,Dd.ok] at h ⊢
  split
  ·rename_i k; have:=(zcH k).1; have:=zcA h; omega
  ·omega
 | swap m n=>
  simp only [Dd.src,Dd.ok] at h ⊢
  split
  ·rename_i k; simp only [inM,yak,decide_eq_true_iff] at k; omega
  ·split
   ·rename_i k; have:=(h.2.2 p k).1; omega
   ·omega
 | copy m n=>
  simp only [Dd.src,Dd.ok] at h ⊢
  split
  ·rename_i k;simp only [inM, yak, decide_eq_true_iff] at k
   have:((p:Int) - n).toNat < w:=by
    by_cases z:((p:Int) - n).toNat < w
    ·exact z
    ·rw [zfH h.2.2.2.1 (1:)] at k; exact absurd k.2 yar
   omega
  ·omega
def Dd.led_ld {w:Nat} {d:Dd} (h:d.ok w):Ld w (d.led w):=by
 refine ⟨by simp [Dd.led],λ e he=>?_⟩;simp only [Dd.led,yaW,yaw] at he;obtain ⟨p,hp,rfl⟩:=he;exact d.src_ld h hp
noncomputable def Dd.mask:Dd -> Nat
 | .and m=>m | .or m=>m | .left _=>0 | .right _=>0 | .turn _=>0 | .gather m=>m | .strew m=>m | .swap m _=>m | .copy m _=>m
def zi9 {K:PySem.W.Frag} {a:Addr} {xs:List V} {g:TG} {tb:TS} {D:Ends} {σ:St} {H:Hp} (Pv:Nat -> St -> Hp -> Prop) (h0:Pv 0 σ H) (hl:∀ i σ H,Pv i σ H -> SqL K H a xs)
  (hs:∀ i u T σ H,xs[i]?=some u -> H T=none -> Pv i σ H -> g (.ref T) σ (upd H T (.tup [.int (i:Int),u])) λ σ2 H2=>tb { D with nx:=Pv (i + 1),ct:=Pv (i + 1),bk:=D.nx } σ2 H2) (hd:∀ σ H,Pv xs.length σ H -> D.nx σ H) :
  ForW (IteL K a xs) g tb D σ H:=by
 refine ⟨λ i m σ H=>m=xs.length - i /\ i <= xs.length /\ Pv i σ H,⟨xs.length,by simp,yaY _,h0⟩,?_⟩;rintro i m σ H ⟨rfl,hi,p⟩;by_cases hlt:i < xs.length
 ·refine .inr ⟨⟨hlt,hl i σ H p⟩,Pv (i + 1),λ σ' H' p'=>⟨xs.length - (i + 1),by omega,rfl,hlt,p'⟩,λ x H' y=>?_⟩;obtain ⟨T,u,rfl,hT,rfl,hu⟩:=y;exact hs i u T σ H hu hT p
 ·have e : i = xs.length := by omega
  subst e;exact .inl ⟨⟨rfl,hl _ σ H p⟩,hd σ H p⟩
def ziI {K:PySem.W.Frag} {a:Addr} {x:V} {k:Int} {n:Nat} {H:Hp} {Q:VK} (ha:H a=some (.lst [x])) (e:k=(n:Int)) (h2:n <= 100000) (h:∀ t H',H t=none -> Same H H' -> H' t=some (.lst (List.replicate n x)) -> Q (.ref t) H'):zlo K (.ref a) (.int k) H Q:=by
 subst e;refine .inl (.inr ⟨a,_,_,rfl,rfl,ha,by omega,by omega,?_,λ p hp=>?_⟩)
 ·rw [yam];show 1 * n <= sizeLine;rw [Nat.one_mul];exact yay (small5 h2)
 ·have e:(List.replicate ((n:Int)).toNat [x]).flatten=List.replicate n x:=by
   rw [yam];clear h2 h
   induction n with
   | zero=>rfl
   | succ n ih=>rw [ya0,ybq,ih,ya0]; rfl
  rw [e];exact h p _ hp (zah hp) zaf
def zjB {K:PySem.W.Frag} {a b:Addr} {xs ys:List V} {H:Hp} {Q:VK} (ha:H a=some (.lst xs)) (hb:H b=some (.lst ys)) (hz:xs.length + ys.length <= 100000) (h:∀ t H',H t=none -> Same H H' -> H' t=some (.lst (xs ++ ys)) -> Q (.ref t) H'):ziS K (.ref a) (.ref b) H Q:=
 .inr (.inl ⟨a,b,_,_,rfl,rfl,ha,hb,yay (small5 hz),λ p hp=>h p _ hp (zah hp) zaf⟩)
def zeS {p:Addr} {xs:List V} {j:Nat} {v:V} {H:Hp} {K:Hp -> Prop} (hp:H p=some (.lst xs)) (hj:j < xs.length) (h:K (upd H p (.lst (xs.set j v)))):zlk (.ref p) (.int (j:Int)) v H K:=
 zj8 hp (by unfold ixN; rw [if_pos (1:),if_pos (1:)]; simp) h
def zgD {K:PySem.W.Frag} {a:Addr} {xs:List V} {H:Hp} {Q:VK} (ha:H a=some (.lst xs)) (h:∀ t H',H t=none -> Same H H' -> H' t=some (.tup xs) -> Q (.ref t) H'):zim K [.ref a] H Q:=
 ⟨a,xs,rfl,.inl ⟨SqL.of ha,λ t ht=>h t _ ht (zah ht) zaf⟩⟩
def zkn (xs:List V) (k:Nat) (h:k <= xs.length):cutV xs none (some (k:Int))=xs.take k:=by
 unfold cutV;rw [HT.sIx_nat];show (xs.drop 0).take (min k xs.length - 0)=_;rw [List.drop_zero,Nat.sub_zero,ya7 h]
def zkx (xs:List V) (k:Nat) (h:k <= xs.length):cutV xs (some (k:Int)) none=xs.drop k:=by
 unfold cutV;rw [HT.sIx_nat,ya7 h];show (xs.drop k).take (xs.length - k)=_;rw [yaq (by rw [ybS]; omega)]
noncomputable def pon (w:Nat) (z:Int):Int:=if 0 <= z /\ z <= (w:Int) - 1 then z else -1
noncomputable def zm4:Sp:=λ vs H Q _=>∃ (w:Nat) (z:Int),vs=[nV w,.int z] /\ Q (.int (pon w z)) H
noncomputable def zfP:Sp:=λ vs H Q _=>∃ (m:Nat) (n:Int) (p:Nat),vs=[nV m,.int n,nV p] /\ Q (.int (if inM m ((p:Int) - n) then (p:Int) - n else p)) H
noncomputable def Dd.flat:Dd -> Bool
 | .gather _=>false
 | .strew _=>false
 | _=>true
noncomputable def zhf:Sp:=λ vs H Q _=>∃ (w p:Nat) (a:Addr) (d:Dd),vs=[nV w,.ref a,nV p] /\ H a=some (.tup d.vals) /\ d.ok w /\ d.flat=true /\ p < w /\ w <= 64 /\ Q (.int (d.src w p)) H
noncomputable def zhx:Sp:=λ vs H Q _=>∃ (w m:Nat),vs=[nV w,nV m] /\ m < 2 ^ w /\ w <= 64 /\ ∀ t H',Same H H' -> H' t=some (.tup (((Dd.gather m).led w).map V.int)) -> Q (.ref t) H'
noncomputable def zf3:Sp:=λ vs H Q _=>∃ (w m:Nat),vs=[nV w,nV m] /\ m < 2 ^ w /\ w <= 64 /\ ∀ t H',Same H H' -> H' t=some (.tup (((Dd.strew m).led w).map V.int)) -> Q (.ref t) H'
noncomputable def zhq:Sp:=λ vs H Q _=>∃ (w:Nat) (a:Addr) (d:Dd),vs=[nV w,.ref a] /\ H a=some (.tup d.vals) /\ d.ok w /\ w <= 64 /\ ∀ t H',Same H H' -> H' t=some (.tup ((d.led w).map V.int)) -> Q (.ref t) H'
def zhU {m w:Nat} (h:m < 2 ^ w):((Dd.gather m).led w).map V.int=(zal m).map nV ++ (List.replicate (w - (zal m).length) (V.int (-1))):=by
 have hl:=zcA h;apply ybr;intro i;rw [Dd.led,ya4,yae];by_cases hi:i < w
 ·rw [yav hi];show some (V.int ((Dd.gather m).src w i)) = _;simp only [Dd.src];by_cases hp : i < (zal m).length
  ·rw [if_pos hp,ya1 (by rw [yaa]; exact hp),yae,yab hp,yac,yab hp];rfl
  ·rw [if_neg hp,yaL (by rw [yaa]; omega),List.getElem?_replicate,yaa,if_pos (1:)]
 ·rw [yaS (by rw [yas]; omega),yaS (by rw [yaF,yaa,ybP]; omega)];rfl
noncomputable def zbO (w m i:Nat):List Int:=(List.range w).map λ p=>if (zal m).idxOf p < i /\ m.testBit p=true then ((zal m).idxOf p:Int) else -1
def zgO (w m:Nat):zbO w m 0=List.replicate w (-1):=by
 rw [zbO,yaR (g:=λ _=>(-1:Int)) (λ p _=>by rw [if_neg (1:)])];rw [List.map_const',yas]
def zgY {w m i y:Nat} (h:m < 2 ^ w) (hi:(zal m)[i]?=some y):(zbO w m i).set y (i:Int)=zbO w m (i + 1):=by
 have hil:i < (zal m).length:=(yaf.mp hi).1;have eg:(zal m).getD i 0=y:=by rw [yac,hi]; rfl
 have hy:m.testBit y=true:=zjf.mpr ⟨i,hil,eg⟩;have hyw:y < w:=zen h (zbd.mpr hy)
 have ei:(zal m).idxOf y=i:=by
  obtain ⟨h1,h2⟩:=zcH hy;exact zii h1 hil (h2.trans eg.symm)
 apply ybr;intro p;rw [List.getElem?_set];by_cases e:y=p
 ·subst e;rw [if_pos rfl,if_pos (by simp [zbO]; exact hyw),zbO,yae,yav hyw];show some (i:Int)=some (if (zal m).idxOf y < i + 1 /\ m.testBit y=true then ((zal m).idxOf y:Int) else -1);rw [if_pos ⟨by omega,hy⟩,ei]
 ·rw [if_neg e, zbO, zbO, yae, yae];by_cases hp : p < w
  ·rw [yav hp];show some (if (zal m).idxOf p < i /\ m.testBit p = true then ((zal m).idxOf p : Int) else -1) = some (if (zal m).idxOf p < i + 1 /\ m.testBit p = true then ((zal m).idxOf p : Int) else -1)
   have:((zal m).idxOf p < i /\ m.testBit p=true) ↔ ((zal m).idxOf p < i + 1 /\ m.testBit p=true):=by
    constructor
    ·exact λ ⟨a,b⟩=>⟨by omega,b⟩
    ·rintro ⟨a, b⟩;refine ⟨?_, b⟩
     have:(zal m).idxOf p ≠ i:=λ z=>by
      have:=(zcH b).2;rw [z,eg] at this;exact e this
     omega
   by_cases c:(zal m).idxOf p < i /\ m.testBit p=true
   ·rw [if_pos c,if_pos (this.mp c)]
   ·rw [if_neg c,if_neg (λ z=>c (this.mpr z))]
  ·rw [yaS (by rw [yas]; omega)];rfl
def zhL {w m:Nat}:zbO w m (zal m).length=(Dd.strew m).led w:=by
 rw [zbO,Dd.led];apply yaR;intro p hp;simp only [Dd.src];by_cases c:m.testBit p=true
 ·rw [if_pos c,if_pos ⟨(zcH c).1,c⟩]
 ·rw [if_neg c,if_neg (λ z=>c z.2)]
def zib (w m i:Nat):(zbO w m i).length=w:=by simp [zbO]
noncomputable def rowV (L:List (Addr × Dd)):List V:=L.map λ q=>V.ref q.1
noncomputable def Rw (H:Hp) (w:Nat) (L:List (Addr × Dd)):Prop:=∀ q ∈ L,H q.1=some (.tup q.2.vals) /\ q.2.ok w
noncomputable def dds (L:List (Addr × Dd)):List Dd:=L.map λ q=>q.2
def zjI {A B:Prop} {c:Bool} (e:c=false) (h:B):if c=true then A else B:=by subst e; exact iteF h
def zhG {A B:Prop} {c:Bool} (e:c=true) (h:A):if c=true then A else B:=by subst e; exact iteT h
def zkA {K:PySem.W.Frag} {a b:Addr} {xs ys:List Int} {H:Hp} {Q:VK} (ha:SqL K H a (xs.map V.int)) (hb:SqL K H b (ys.map V.int)) (h:Q (.bl (decide (xs=ys))) H):rEqU K (.ref a) (.ref b) H Q:=by
 refine ⟨.list (xs.map .int),.list (ys.map .int),DatV.list ha (DatVs.ints K H xs),DatV.list hb (DatVs.ints K H ys),zes _,zes _,?_⟩;rw [show PyData.eqv (.list (xs.map .int)) (.list (ys.map .int))=decide (xs=ys) by rw [PyData.eqv,zb4]];exact h
section
variable {X:Cx} {K:PySem.W.Frag}
end
noncomputable def SqIt:Bool -> Heap -> Addr -> Addr -> Nat -> Prop
 | true,h,it,l,i=>h.IsListIter it l i
 | false,h,it,l,i=>h.IsTupleIter it l i
noncomputable def SqOb:Bool -> Heap -> Addr -> Array Value -> Prop
 | true,h,l,xs=>h.IsList l xs
 | false,h,l,xs=>h.IsTuple l xs
section
variable {prog:Program} {w:World} {A:Around} {E:Value -> Shared -> Prop} {s:Shared}
variable {z TI TO i1 i2:Addr} {f1 f2:List Addr} {n1 n2 k:Nat} {P1 P2:Nat -> Value -> Prop} {S1 S2:Nat -> Heap -> Prop} {a b:Value}
end
section
variable {prog:Program} {w:World} {A:Around} {E:Value -> Shared -> Prop} {s:Shared}
end
noncomputable def SqB:Bool -> PySem.W.Frag -> Hp -> Addr -> List V -> Prop
 | true,K,H,a,xs=>SqL K H a xs
 | false,K,H,a,xs=>SqT K H a xs
inductive Alike (H:Hp):Nat -> V -> V -> Prop where
 | non (n:Nat):Alike H n .non .non
 | bl (n:Nat) (b:Bool):Alike H n (.bl b) (.bl b)
 | int (n:Nat) (i:Int):Alike H n (.int i) (.int i)
 | str (n:Nat) (s:Str) (h:shpd (.str s)=true):Alike H n (.str s) (.str s)
 | lst {n:Nat} {a b:Addr} {xs ys:List V} (ha:H a=some (.lst xs)) (hb:H b=some (.lst ys)) (hl:xs.length=ys.length) (hz:xs.length <= 10000) (hi:∀ (i:Nat) (x y:V),xs[i]?=some x -> ys[i]?=some y -> Alike H n x y):Alike H (n + 1) (.ref a) (.ref b)
 | tup {n:Nat} {a b:Addr} {xs ys:List V} (ha:H a=some (.tup xs)) (hb:H b=some (.tup ys)) (hl:xs.length=ys.length) (hz:xs.length <= 10000) (hi:∀ (i:Nat) (x y:V),xs[i]?=some x -> ys[i]?=some y -> Alike H n x y):Alike H (n + 1) (.ref a) (.ref b)
section
variable {K:PySem.W.Frag} {H:Hp} {Q:VK}
end
noncomputable def zj5 (w m:Nat) (n:Int):Bool:=(zal m).all λ (p:Nat)=>decide ((0:Int) <= (p:Int) + n) && decide ((p:Int) + n <= (w:Int) - 1)
section
variable {K:PySem.W.Frag} {H:Hp} {Q:VK} {x y:V} {d:PyData}
end
noncomputable def Dd.dat:Dd -> PyData
 | .and m=>.tuple [.str "and",.int m]
 | .or m=>.tuple [.str "or",.int m]
 | .left n=>.tuple [.str "left",.int n]
 | .right n=>.tuple [.str "right",.int n]
 | .turn n=>.tuple [.str "turn",.int n]
 | .gather m=>.tuple [.str "gather",.int m]
 | .strew m=>.tuple [.str "strew",.int m]
 | .swap m n=>.tuple [.str "swap",.int m,.int n]
 | .copy m n=>.tuple [.str "copy",.int m,.int n]
def zfE {ls ms:List Int} {i:Nat} {e:Int} (he:ms[i]?=some e) (v:Int) (hv:v=(if 0 <= e then ls.getD e.toNat 0 else e)):((zaE ls ms).take i).map V.int ++ [V.int v]=((zaE ls ms).take (i + 1)).map V.int:=by
 rw [yaT,zaE,yae,he,yau];simp [hv]
def SqA.of {K:PySem.W.Frag} {H:Hp} {a:Addr} {xs:List V} (h:H a=some (.lst xs)):SqA K H a xs:=.inl (SqL.of h)
def SqL.keepAt {K:PySem.W.Frag} {H H':Hp} {a:Addr} {xs:List V} (h:SqL K H a xs) (k:∀ o,H a=some o -> H' a=some o):SqL K H' a xs:=by
 rcases h with (h | ⟨o,h⟩) | h
 ·exact .inl (.inl (k _ h))
 ·exact .inl (.inr ⟨o,k _ h⟩)
 ·exact .inr h
noncomputable def SqH (H:Hp) (a:Addr) (xs:List V):Prop:=H a=some (.lst xs) \/ H a=some (.tup xs)
end L2
namespace Bm
end Bm
namespace L2
open PySem PySem.Spec PyProof.Rows Bm
def zdj {K:PySem.W.Frag} {a:Addr} {xs:List V} {H:Hp} {Q:VK} (ha:SqA K H a xs) (h:∀ t H',H t=none -> Same H H' -> H' t=some (.lst xs) -> Q (.ref t) H'):zgS K [.ref a] H Q:=
 ⟨a,xs,rfl,ha,λ t ht=>h t _ ht (zah ht) zaf⟩
section
variable {X:Cx} {K:PySem.W.Frag}
noncomputable def zms (K:PySem.W.Frag):R2:=λ x y H Q=>∃ a b ys,x=.ref a /\ y=.ref b /\ SqT K H a [] /\ SqT K H b ys /\ Q (.ref b) H
def zj6 {prog:Program} {w:World} {A:Around} {E:Value -> Shared -> Prop} {s:Shared} {t b:Addr} {ws:List Value} {Q:Value -> Shared -> Prop} (ht:IsTup s.heap t ([]:List Value).toArray) (hb:IsTup s.heap b ws.toArray) (q:Q (.ref b) s):wpAny (model prog w) A (binaryOp .Add (.ref t) (.ref b)) Q E s:=by
 obtain ⟨⟨c1,d1,x1,l1⟩,g1,e1,n1,f1⟩:=ht;obtain ⟨⟨c2,d2,x2,l2⟩,g2,e2,n2,f2⟩:=hb;dsimp only at e1 f1 e2 f2;subst e1 f1 e2 f2;exact concat_meets ⟨_,g1,rfl⟩ ⟨_,g2,rfl⟩ noFill_tuple_add seq_tuple_add ybJ ybD (ybC _ _) (tuple_addW0 t b _ _ n1 n2 d1 d2 l1 l2 rfl) ⟨g1,g2,q⟩
def zkU:OpR X (binaryOp .Add) (zms X.K):=by
 intro pins s σ H x y v u Q I rx ry h;obtain ⟨a,b,ys,rfl,rfl,ha,hb,q⟩:=h;cases rx;cases ry;obtain ⟨i1,r1,p1,_⟩:=I.tuple ha;obtain ⟨i2,r2,p2,_⟩:=I.tuple hb;cases r1;exact zj6 p1 p2 ⟨.ref b,H,I,rfl,q⟩
noncomputable def zkc (K:PySem.W.Frag):R2:=λ x y H Q=>ziS K x y H Q \/ zms K x y H Q
def zdT (hK:X.K=K:=by rfl):OpR X (binaryOp .Add) (zkc K):=hK ▸ zjQ.or zkU
def zj1 {i j:Int} {H:Hp} {Q:VK} (h:Q (.int (i + j)) H):zkc K (.int i) (.int j) H Q:=.inl (.inl ⟨i,j,rfl,rfl,h⟩)
def zf9 {a b:Addr} {xs ys:List V} {H:Hp} {Q:VK} (ha:H a=some (.tup xs)) (hb:H b=some (.tup ys)) (hz:xs.length + ys.length <= 100000) (h:∀ t H',Same H H' -> H' t=some (.tup (xs ++ ys)) -> Q (.ref t) H'):zkc K (.ref a) (.ref b) H Q:=by
 by_cases e:xs=[]
 ·subst e;exact .inr ⟨a,b,ys,rfl,rfl,SqT.of ha,SqT.of hb,h b H (Same.refl H) hb⟩
 ·refine .inl (.inr (.inr ⟨a,b,xs,ys,rfl,rfl,SqT.of ha,SqT.of hb,e,yay (small5 hz),λ z=>?_,λ _ p hp=>h p _ (zah hp) zaf⟩));subst z;exact h a H (Same.refl H) (by rw [ya2]; exact ha)
def zlA {a b:Addr} {xs ys:List V} {H:Hp} {Q:VK} (ha:H a=some (.lst xs)) (hb:H b=some (.lst ys)) (hz:xs.length + ys.length <= 100000) (h:∀ t H',H t=none -> Same H H' -> H' t=some (.lst (xs ++ ys)) -> Q (.ref t) H'):zkc K (.ref a) (.ref b) H Q:=.inl (zjB ha hb hz h)
variable {a b:Expr} {ta:TA} {p p2 pos pos2:Pos}
end
section
variable {σ:St} {H:Hp} {Q:VK}
end
noncomputable def zax (k:Nat) (ls:List Int):List Int:=ls.map λ e=>if 0 <= e then e + (k:Int) else e
def zbY (k:Nat) (ls:List Int):(zax k ls).length=ls.length:=by simp [zax]
def zjH {k w:Nat} {ls:List Int} (h:Ld w ls):∀ e ∈ zax k ls,-2 <= e /\ e < ((k + w:Nat):Int):=λ e he=>by
 simp only [zax,yaW] at he;obtain ⟨x,hx,rfl⟩:=he;have:=h.2 x hx
 split <;> omega
def zmH {n w:Nat} {a b:List Int} (ha:Ld n a) (hb:Ld w b):Ld (n + w) (a ++ zax n b):=by
 refine ⟨by rw [yaF,zbY,ha.1,hb.1],λ e he=>?_⟩;rcases yaK.mp he with z | z
 ·have:=ha.2 e z; omega
 ·exact zjH hb e z
noncomputable def LdE (ls:List Int):Prop:=Ld ls.length ls
noncomputable def Lds (H:Hp) (A:List (Addr × List Int)):Prop:=∀ q ∈ A,H q.1=some (.tup (q.2.map V.int)) /\ LdE q.2
def zif {K:PySem.W.Frag} {a:Addr} {xs:List V} {src:List (Option Nat)} {σ:St} {g:TG} {tc:TT} {te:TE} {Q:VK} {H:Hp} (Pv:Nat -> List V -> Hp -> Prop) (h0:Pv 0 [] H) (len:∀ i acc H,Pv i acc H -> acc.length <= sizeLine) (hl:∀ i acc H,Pv i acc H -> SqT K H a xs)
  (step:∀ i u T acc H,xs[i]?=some u -> H T=none -> Pv i acc H -> g (.ref T) (capt src σ) (upd H T (.tup [.int (i:Int),u])) λ σ2 H2=>Ext (capt src σ) σ2 /\ tc σ2 H2 λ b H3=>if b=true then te σ2 H3 (λ y H4=>Pv (i + 1) (acc ++ [y]) H4) else Pv (i + 1) acc H3)
  (done:∀ acc H,Pv xs.length acc H -> ∀ p,H p=none -> Q (.ref p) (upd H p (.lst acc))):zcK (IteT K a xs) src σ g tc te Q H:=by
 refine ⟨λ i m acc H=>m=xs.length - i /\ i <= xs.length /\ Pv i acc H,⟨xs.length,by simp,yaY _,h0⟩,?_⟩;rintro i m acc H ⟨rfl,hi,p⟩;refine ⟨len i acc H p,?_⟩;by_cases hlt:i < xs.length
 ·refine .inr ⟨⟨hlt,hl i acc H p⟩,λ y H4=>Pv (i + 1) (acc ++ [y]) H4,λ H3=>Pv (i + 1) acc H3,λ y H4 q=>⟨xs.length - (i + 1),by omega,rfl,hlt,q⟩,λ H3 q=>⟨xs.length - (i + 1),by omega,rfl,hlt,q⟩,λ x H' y=>?_⟩;obtain ⟨T,u,rfl,hT,rfl,hu⟩:=y;exact step i u T acc H hu hT p
 ·have e : i = xs.length := by omega
  subst e;exact .inl ⟨⟨rfl,hl _ acc H p⟩,done acc H p⟩
section
variable {X:Cx}
end
noncomputable def Rws (H:Hp) (w:Nat) (T:List (Addr × List (Addr × Dd))):Prop:=∀ q ∈ T,SqH H q.1 (rowV q.2) /\ Rw H w q.2
def led_getD {w:Nat} (d:Dd) {q:Nat} (h:q < w):(d.led w).getD q 0=d.src w q:=by
 rw [Dd.led,yac,yae,yav h]; rfl
noncomputable def Dd.nm:Dd -> Str
 | .and _=>"and" | .or _=>"or" | .left _=>"left" | .right _=>"right" | .turn _=>"turn" | .gather _=>"gather" | .strew _=>"strew" | .swap _ _=>"swap" | .copy _ _=>"copy"
noncomputable def Dd.num:Dd -> Nat
 | .and m=>m | .or m=>m | .left m=>m | .right m=>m | .turn m=>m | .gather m=>m | .strew m=>m | .swap m _=>m | .copy m _=>m
noncomputable def Dd.rest:Dd -> List V
 | .swap _ n=>[nV n] | .copy _ n=>[.int n] | _=>[]
noncomputable def TogV (H:Hp) (r:V):Option Dd -> Prop
 | none=>r=.non
 | some f=>∃ t,r=.ref t /\ H t=some (.tup f.vals)
section
variable {X:Cx} {K:PySem.W.Frag}
end
inductive AlikeI (H:Hp):Nat -> V -> V -> Prop where
 | non (n:Nat):AlikeI H n .non .non
 | int (n:Nat) (i:Int):AlikeI H n (.int i) (.int i)
 | str (n:Nat) (s:Str) (h:shpd (.str s)=true):AlikeI H n (.str s) (.str s)
 | lst {n:Nat} {a b:Addr} {xs ys:List V} (ha:H a=some (.lst xs)) (hb:H b=some (.lst ys)) (hl:xs.length=ys.length) (hz:xs.length <= 10000) (hi:∀ (i:Nat) (x y:V),xs[i]?=some x -> ys[i]?=some y -> AlikeI H n x y):AlikeI H (n + 1) (.ref a) (.ref b)
 | tup {n:Nat} {a b:Addr} {xs ys:List V} (ha:H a=some (.tup xs)) (hb:H b=some (.tup ys)) (hl:xs.length=ys.length) (hz:xs.length <= 10000) (hi:∀ (i:Nat) (x y:V),xs[i]?=some x -> ys[i]?=some y -> AlikeI H n x y):AlikeI H (n + 1) (.ref a) (.ref b)
section
variable {X:Cx}
end
end L2
namespace HT
open PySem PySem.Spec PyProof.Rows
section
variable {prog:Program} {w:World} {A:Around} {E:Value -> Shared -> Prop} {s:Shared}
end
end HT
namespace L2
open PySem PySem.Spec PyProof.Rows Bm
section
variable {X:Cx}
end
noncomputable def SqHB:Bool -> Hp -> Addr -> List V -> Prop
 | true,H,a,xs=>H a=some (.lst xs)
 | false,H,a,xs=>H a=some (.tup xs)
noncomputable def LR (H:Hp) (p l l2:Addr) (w:Nat) (L2 L:List (Addr × Dd)) (H':Hp):Prop:=But p H H' /\ Hand H' p /\ H' l2=some (.lst (rowV L2)) /\ Rw H' w L2 /\ Rw H' w L /\ H' l=some (.lst (rowV L))
def zjp (xs:List V) (k:Nat):cutV xs none (some (k:Int))=xs.take k:=by
 by_cases h:k <= xs.length
 ·exact zkn xs k h
 ·unfold cutV;rw [HT.sIx_nat,Nat.min_eq_right (1:)];show (xs.drop 0).take (xs.length - 0)=xs.take k;rw [List.drop_zero,Nat.sub_zero,yaq (yad _),yaq (1:)]
def Same.updF {H H':Hp} {t:Addr} {o:HO} (s:Same H H') (h:H t=none):Same H (upd H' t o):=λ b u e=>by rw [zas (zaq e h)]; exact s b u e
end L2
namespace L2
open PySem PySem.Spec PyProof.Rows
section
variable {κ:Type} [DecidableEq κ]
noncomputable def valV (kvs:List (κ × V)) (k:κ):Option V:=(kvs.find? λ kv=>decide (kv.1=k)).map (·.2)
noncomputable def putK (kvs:List (κ × V)) (k:κ) (v:V):List (κ × V):=
 if (kvs.any λ kv=>decide (kv.1=k))=true then kvs.map (λ kv=>if kv.1=k then (kv.1,v) else kv) else kvs ++ [(k,v)]
noncomputable def dropK (kvs:List (κ × V)) (k:κ):List (κ × V):=kvs.filter λ kv=>decide (kv.1 ≠ k)
end
noncomputable abbrev KT (H:Hp):List (List Key × V) -> List (List Key × Addr × Value) -> Prop:=Paired λ p q=>p.1=q.1 /\ H q.2.1=some (.tup (p.1.map kV)) /\ RelV p.2 q.2.2
section
variable {P:Program} {w:World} {H:Hp} {h:Heap} {a:Addr}
end
noncomputable def DGet (H:Hp) (a:Addr) (y:V) (r:Option V):Prop:=
 (∃ kvs k,Rd H a (.dK kvs) /\ y=kV k /\ r=valV kvs k) \/ ∃ kvs k b,Rd H a (.dT kvs) /\ y=.ref b /\ H b=some (.tup (k.map kV)) /\ r=valV kvs k
noncomputable def DPut (H:Hp) (a:Addr) (y v:V) (H':Hp):Prop:=
 (∃ kvs k,H a=some (.dK kvs) /\ y=kV k /\ kvs.length < sizeLine /\ H'=upd H a (.dK (putK kvs k v))) \/
 ∃ kvs k b,H a=some (.dT kvs) /\ y=.ref b /\ H b=some (.tup (k.map kV)) /\ kvs.length < sizeLine /\ H'=upd H a (.dT (putK kvs k v))
section
variable {X:Cx} {pins:List (Addr × Obj)} {σ:St} {H:Hp} {s:Shared} {a:Addr} {y v:V} {u r:Value} {o:Option V} {A:Around} {E:Value -> Shared -> Prop}
end
section
variable {X:Cx} {pins:List (Addr × Obj)} {σ:St} {H:Hp} {s:Shared} {a:Addr} {kvs:List (Key × V)} {k:Key} {u:Value} {A:Around} {E:Value -> Shared -> Prop}
end
section
variable {X:Cx} {o i e value:Expr} {pos pos' tpos:Pos} {td ty tv:TE}
end
section
variable {X:Cx} {pos:Pos}
end
section
variable {X:Cx} {pins:List (Addr × Obj)} {σ:St} {H:Hp} {s:Shared} {a:Addr} {y d:V} {u r:Value} {o:Option V} {A:Around} {E:Value -> Shared -> Prop}
end
section
variable {X:Cx} {o e f:Expr} {apos cpos:Pos} {td ty tx:TE}
end
section
variable {X:Cx} {pins:List (Addr × Obj)} {σ:St} {H:Hp} {s:Shared} {a:Addr} {kvs:List (Key × V)} {A:Around} {E:Value -> Shared -> Prop}
end
section
variable {X:Cx} {pins:List (Addr × Obj)} {σ:St} {H:Hp} {s:Shared} {a:Addr} {y:V} {u:Value} {A:Around} {E:Value -> Shared -> Prop}
end
open Bm
def pv1 {X:Cx} (i:Nat) {x:Str} {pos:Pos} (h:X.N[i]?=some x /\ Vis X.env.scope x /\ (x == ("__debug__":Str))=false /\ (x == ("__classdict__":Str))=false):PE X (.Name x pos) (tVar i):=pv i h.1 h.2.1 h.2.2.1 h.2.2.2
noncomputable def znv (l:Addr) (H H':Hp):Prop:=∀ b o,b ≠ l -> H b=some o -> H' b=some o
inductive Nt (H:Hp):V -> Prop where
 | non:Nt H .non
 | bl (b:Bool):Nt H (.bl b)
 | int (i:Int):Nt H (.int i)
 | str (s:Str):Nt H (.str s)
 | lst {a:Addr} {xs:List V} (e:H a=some (.lst xs)):Nt H (.ref a)
noncomputable def Kd (H:Hp) (v:V):Prop:=Nt H v \/ ∃ a xs,v=.ref a /\ H a=some (.tup xs)
def Nt.same {H H':Hp} {v:V} (h:Nt H v) (s:Same H H'):Nt H' v:=by
 cases h with
 | non=>exact .non
 | bl b=>exact .bl b
 | int i=>exact .int i
 | str x=>exact .str x
 | lst e=>exact .lst (s _ _ e)
noncomputable def zaU:V -> Bool
 | .int _=>true
 | _=>false
noncomputable def zef:V -> Bool
 | .bl _=>true
 | _=>false
def zba {K:PySem.W.Frag} {v:V} {H:Hp} {Q:VK} (hv:Nt H v) (h:Q (.bl false) H):rIsi K [v,.ty "tuple"] H Q:=by
 cases hv with
 | non=>exact ⟨_,"tuple",_,false,rfl,TyOf.non,rfl,h⟩
 | bl b=>exact ⟨_,"tuple",_,false,rfl,TyOf.bl b,rfl,h⟩
 | int i=>exact ⟨_,"tuple",_,false,rfl,TyOf.int i,rfl,h⟩
 | str x=>exact ⟨_,"tuple",_,false,rfl,TyOf.str x,rfl,h⟩
 | lst e=>exact ⟨_,"tuple",_,false,rfl,TyOf.lst e,rfl,h⟩
def zek {K:PySem.W.Frag} {v:V} {H:Hp} {Q:VK} (hv:Kd H v) (h:Q (.bl (zef v)) H):rIsi K [v,.ty "bool"] H Q:=by
 rcases hv with hv | ⟨a,xs,rfl,e⟩
 ·cases hv with
  | non=>exact ⟨_,"bool",_,false,rfl,TyOf.non,rfl,h⟩
  | bl b=>exact ⟨_,"bool",_,true,rfl,TyOf.bl b,rfl,h⟩
  | int i=>exact ⟨_,"bool",_,false,rfl,TyOf.int i,rfl,h⟩
  | str x=>exact ⟨_,"bool",_,false,rfl,TyOf.str x,rfl,h⟩
  | lst e=>exact ⟨_,"bool",_,false,rfl,TyOf.lst e,rfl,h⟩
 ·exact ⟨_,"bool",_,false,rfl,TyOf.tup e,rfl,h⟩
def zbf {K:PySem.W.Frag} {v:V} {H:Hp} {Q:VK} (hv:Kd H v) (h:Q (.bl (zaU v || zef v)) H):rIsi K [v,.ty "int"] H Q:=by
 rcases hv with hv | ⟨a,xs,rfl,e⟩
 ·cases hv with
  | non=>exact ⟨_,"int",_,false,rfl,TyOf.non,rfl,h⟩
  | bl b=>exact ⟨_,"int",_,true,rfl,TyOf.bl b,rfl,h⟩
  | int i=>exact ⟨_,"int",_,true,rfl,TyOf.int i,rfl,h⟩
  | str x=>exact ⟨_,"int",_,false,rfl,TyOf.str x,rfl,h⟩
  | lst e=>exact ⟨_,"int",_,false,rfl,TyOf.lst e,rfl,h⟩
 ·exact ⟨_,"int",_,false,rfl,TyOf.tup e,rfl,h⟩
noncomputable def zaB (v:V) (lo hi:Int):Bool:=match v with
 | .int i=>decide (lo <= i) && decide (i <= hi)
 | _=>false
noncomputable def zfv (xs:List V):Bool:=decide (1 <= xs.length) && decide (xs.length <= 64) && xs.all λ v=>zaB v (-2) ((xs.length:Int) - 1)
noncomputable def zkR (H:Hp) (v:V) (r:Bool):Prop:=(∃ a xs,v=.ref a /\ H a=some (.tup xs) /\ (∀ x ∈ xs,Kd H x) /\ xs.length <= 10000 /\ r=zfv xs) \/ (Nt H v /\ r=false)
noncomputable def zf5:Sp:=λ vs H Q _=>∃ (v:V) (lo hi:Int),vs=[v,.int lo,.int hi] /\ Kd H v /\ Q (.bl (zaB v lo hi)) H
noncomputable def zjb:Sp:=λ vs H Q _=>∃ (v:V) (r:Bool),vs=[v] /\ zkR H v r /\ ∀ H',Same H H' -> Q (.bl r) H'
noncomputable def ToldP (p:Addr) (H:Hp) (v:V):Prop:=v ≠ .ref p /\ ((∃ a xs,v=.ref a /\ H a=some (.tup xs) /\ (∀ x ∈ xs,Kd H x /\ x ≠ .ref p) /\ xs.length <= 10000) \/ Nt H v)
def zja {K:PySem.W.Frag} {a:Addr} {xs:List V} {k:Nat} {H:Hp} {Q:VK} (ha:H a=some (.tup xs)) (hk:k < xs.length) (h:∀ t H',H t=none -> Same H H' -> H' t=some (.tup (xs.take k)) -> Q (.ref t) H'):rSlU K (.ref a) none (some (k:Int)) H Q:=
 .inr ⟨a,xs,rfl,SqT.of ha,λ z=>by have:=z.2; rw [HT.sIx_nat] at this; omega,λ p hp=>by rw [zjp]; exact h p _ hp (zah hp) zaf⟩
def zdm {K:PySem.W.Frag} {a:Addr} {xs:List V} {k:Nat} {H:Hp} {Q:VK} (ha:H a=some (.tup xs)) (h1:1 <= k) (hk:k <= xs.length) (h:∀ t H',H t=none -> Same H H' -> H' t=some (.tup (xs.drop k)) -> Q (.ref t) H'):rSlU K (.ref a) (some (k:Int)) none H Q:=
 .inr ⟨a,xs,rfl,SqT.of ha,λ z=>by have:=z.1; rw [HT.sIx_nat] at this; omega,λ p hp=>by rw [zkx xs k hk]; exact h p _ hp (zah hp) zaf⟩
inductive Kx (H:Hp):V -> Prop where
 | non:Kx H .non
 | bl (b:Bool):Kx H (.bl b)
 | int (i:Int):Kx H (.int i)
 | str (s:Str) (h:shpd (.str s)=true):Kx H (.str s)
 | lst {a:Addr} (is:List Int) (e:H a=some (.lst (is.map V.int))):Kx H (.ref a)
 | tup {a:Addr} (is:List Int) (hl:is.length <= 1) (e:H a=some (.tup (is.map V.int))):Kx H (.ref a)
noncomputable def eqS (s:Str):V -> Bool
 | .str t=>s == t
 | _=>false
noncomputable def inS (ss:List Str) (v:V):Bool:=ss.any λ s=>eqS s v
section
variable {X:Cx} {K:PySem.W.Frag}
end
noncomputable def znm (w:Nat) (a b:V):Bool:=if inS ["and","or","gather","strew"] a then zaB b 0 ((2 ^ w - 1:Nat):Int) else if inS ["left","right"] a then zaB b 0 (w:Int) else eqS "turn" a && zaB b 0 ((w:Int) - 1)
noncomputable def natV:V -> Nat
 | .int i=>i.toNat
 | _=>0
noncomputable def intV:V -> Int
 | .int i=>i
 | _=>0
noncomputable def zlZ (w:Nat) (a m n:V):Bool:=zaB m 0 ((2 ^ w - 1:Nat):Int) && (if eqS "swap" a then zaB n 1 ((w:Int) - 1) && (zj5 w (natV m) (intV n) && decide ((natV m &&& natV m * 2 ^ natV n)=0)) else if eqS "copy" a then zaB n (1 - (w:Int)) ((w:Int) - 1) && (intV n != 0) && zj5 w (natV m) (intV n) else false)
noncomputable def znQ (w:Nat):List V -> Bool
 | [a,b]=>znm w a b
 | [a,m,n]=>zlZ w a m n
 | _=>false
noncomputable def Tu (H:Hp) (a:Addr) (xs:List V):Prop:=H a=some (.tup xs) /\ (∀ x ∈ xs,Kd H x) /\ xs.length <= 1000 /\ ∀ x r,xs=x :: r -> r ≠ [] -> Kx H x
noncomputable def zng (w:Nat) (H:Hp) (v:V) (r:Bool):Prop:=(∃ a xs,v=.ref a /\ Tu H a xs /\ r=znQ w xs) \/ (Nt H v /\ r=false)
noncomputable def Th (H:Hp) (v:V):Prop:=(∃ a xs,v=.ref a /\ Tu H a xs) \/ Nt H v
noncomputable def KxP (p:Addr) (H:Hp) (v:V):Prop:=Kx H v /\ v ≠ .ref p
noncomputable def ThP (p:Addr) (H:Hp) (v:V):Prop:=v ≠ .ref p /\ ((∃ a xs,v=.ref a /\ H a=some (.tup xs) /\ (∀ x ∈ xs,KxP p H x) /\ xs.length <= 1000) \/ Nt H v)
noncomputable def RowIs (w:Nat) (H:Hp) (v:V) (r:Bool):Prop:=(∃ (a:Addr) (xs:List V) (f:Nat -> Bool),v=.ref a /\ SqH H a xs /\ (∀ i x,xs[i]?=some x -> zng w H x (f i)) /\ xs.length <= 1000 /\ r=(List.range xs.length).all f) \/ (zcX v=true /\ r=false)
noncomputable abbrev En:=Nat × List Int
noncomputable def nmE:List Str:=["and","or","left","right","turn","swap","gather","strew","copy"]
noncomputable def nmK (k:Nat):Str:=nmE.getD k "and"
noncomputable def dec (e:En):List V:=.str (nmK e.1) :: e.2.map V.int
noncomputable def fastD (w:Nat) (e:En):Bool:=match e.2 with
 | [b]=>if e.1=0 \/ e.1=1 \/ e.1=6 \/ e.1=7 then zaB (.int b) 0 ((2 ^ w - 1:Nat):Int) else if e.1=2 \/ e.1=3 then zaB (.int b) 0 (w:Int) else decide (e.1=4) && zaB (.int b) 0 ((w:Int) - 1)
 | [m,n]=>zaB (.int m) 0 ((2 ^ w - 1:Nat):Int) && (if e.1=5 then zaB (.int n) 1 ((w:Int) - 1) && (zj5 w m.toNat n && decide ((m.toNat &&& m.toNat * 2 ^ n.toNat)=0)) else if e.1=8 then zaB (.int n) (1 - (w:Int)) ((w:Int) - 1) && (n != 0) && zj5 w m.toNat n else false)
 | _=>false
noncomputable def TL (H:Hp) (L:List (Addr × En)):Prop:=∀ q ∈ L,H q.1=some (.tup (dec q.2))
noncomputable def tlV (L:List (Addr × En)):List V:=L.map λ q=>.ref q.1
noncomputable def Gr (H H':Hp) (l:Addr) (L:List (Addr × En)):Prop:=Same H H' /\ H' l=some (.lst (tlV L)) /\ TL H' L
noncomputable def tNo:TS:=λ _ _ _=>False
def zeq {X:Cx} {e c:Option Expr} {pos:Pos}:PS X (.Raise e c pos) tNo:=λ _ _ _ _ _ _ h=>h.elim
noncomputable def zgP:List Nat:=[1,2,4,8,16,32,64]
noncomputable def zhF:Sp:=λ vs H Q _=>∃ w:Nat,vs=[nV w] /\ w ∈ zgP /\ Q .non H
def zl6 {K:PySem.W.Frag} {w:Nat} {a:Addr} {ws:List Nat} {H:Hp} {Q:VK} (hT:SqT K H a (ws.map nV)) (hw:w ∈ ws) (h:Q (.bl false) H):rIn K true (nV w) (.ref a) H Q:=by
 refine ⟨a,_,rfl,.inr hT,rfl,zeF _,?_⟩
 rw [if_pos rfl,show inV (nV w) (ws.map nV)=true by
  rw [show ws.map nV=ws.map λ (n:Nat)=>V.int (n:Int) from rfl,show nV w=V.int (w:Int) from rfl,zlB];exact decide_eq_true ⟨by omega,by rw [yam]; exact hw⟩]
 exact h
noncomputable def Dl (H:Hp) (L:List (Addr × Dd)):Prop:=∀ q ∈ L,H q.1=some (.tup q.2.vals)
noncomputable def zb0 (A:List Int) (w m n i:Nat):List Int:=(List.range w).map λ q=>if q < i /\ m.testBit q=true then A.getD (q + n) 0 else if n <= q /\ q - n < i /\ m.testBit (q - n)=true then A.getD (q - n) 0 else A.getD q 0
def zbF (A:List Int) (w m n i:Nat):(zb0 A w m n i).length=w:=by rw [zb0,yaa,yas]
def zhN {A:List Int} {w:Nat} (m n:Nat) (h:A.length=w):zb0 A w m n 0=A:=by
 apply List.ext_getElem (by rw [zbF,h]);intro q h1 h2;simp only [zb0,List.getElem_map,yb5];rw [if_neg (1:),if_neg (1:),yac,yab h2];rfl
def zg5 {A:List Int} {w m n i:Nat} (hb:m.testBit i=false):zb0 A w m n (i + 1)=zb0 A w m n i:=by
 apply List.ext_getElem (by rw [zbF,zbF]);intro q h1 h2;simp only [zb0,List.getElem_map,yb5]
 have a1:(q < i + 1 /\ m.testBit q=true) ↔ (q < i /\ m.testBit q=true):=by
  constructor
  ·rintro ⟨x, y⟩;have : q ≠ i := fun z => by rw [z, hb] at y; cases y
   exact ⟨by omega,y⟩
  ·exact λ ⟨x,y⟩=>⟨by omega,y⟩
 have a2:(n <= q /\ q - n < i + 1 /\ m.testBit (q - n)=true) ↔ (n <= q /\ q - n < i /\ m.testBit (q - n)=true):=by
  constructor
  ·rintro ⟨z, x, y⟩;have : q - n ≠ i := fun z => by rw [z, hb] at y; cases y
   exact ⟨z,by omega,y⟩
  ·exact λ ⟨z,x,y⟩=>⟨z,by omega,y⟩
 simp only [a1,a2]
def ziP {A:List Int} {w m n i:Nat} (hn:1 <= n) (hb:m.testBit i=true):((zb0 A w m n i).set i (A.getD (i + n) 0)).set (i + n) (A.getD i 0)=zb0 A w m n (i + 1):=by
 apply List.ext_getElem (by rw [ya6,ya6,zbF,zbF]);intro q h1 h2;rw [List.getElem_set,List.getElem_set];simp only [zb0,List.getElem_map,yb5];by_cases c1:i + n=q
 ·subst c1;rw [if_pos rfl,if_neg (1:),if_pos ⟨by omega,by omega,by rw [yb6]; exact hb⟩,yb6]
 ·rw [if_neg c1];by_cases c2 : i = q
  ·subst c2;rw [if_pos rfl,if_pos ⟨by omega,hb⟩]
  ·rw [if_neg c2];have a1 : (q < i + 1 /\ m.testBit q = true) ↔ (q < i /\ m.testBit q = true) := ⟨fun ⟨x, y⟩ => ⟨by omega, y⟩, fun ⟨x, y⟩ => ⟨by omega, y⟩⟩
   have a2:(n <= q /\ q - n < i + 1 /\ m.testBit (q - n)=true) ↔ (n <= q /\ q - n < i /\ m.testBit (q - n)=true):=⟨λ ⟨z,x,y⟩=>⟨z,by omega,y⟩,λ ⟨z,x,y⟩=>⟨z,by omega,y⟩⟩
   simp only [a1,a2]
def ziF {A:List Int} {w m n:Nat} (h:(Dd.swap m n).ok w):zb0 A w m n w=zaE A ((Dd.swap m n).led w):=by
 obtain ⟨h1,h2,hp⟩:=h;unfold zb0 zaE Dd.led;rw [ya4];apply yaR;intro q hq;have hqw:=yaw.mp hq;show _=(if (0:Int) <= (if inM m ((q:Int) - n) then (q:Int) - n else if m.testBit q then (q:Int) + n else q) then A.getD (if inM m ((q:Int) - n) then (q:Int) - n else if m.testBit q then (q:Int) + n else q).toNat 0 else _);by_cases c1:n <= q /\ m.testBit (q - n)=true
 ·have e : inM m ((q : Int) - n) = true := by rw [show (q : Int) - n = ((q - n : Nat) : Int) by omega, zi3]; exact c1.2
  have nb:m.testBit q=false:=by have:=(hp _ c1.2).2; rw [Nat.sub_add_cancel c1.1] at this; exact this
  rw [if_neg (by rw [nb]; simp),if_pos ⟨c1.1,by omega,c1.2⟩,if_pos e,if_pos (1:),show ((q:Int) - n).toNat=q - n by omega]
 ·have e:¬ (inM m ((q:Int) - n)=true):=λ z=>by
   unfold inM at z;rw [yak,decide_eq_true_iff] at z;exact c1 ⟨by omega,by rw [show q - n=((q:Int) - n).toNat by omega]; exact z.2⟩
  rw [if_neg e];by_cases c2:m.testBit q=true
  ·rw [if_pos ⟨hqw,c2⟩,if_pos c2,if_pos (1:),show ((q:Int) + n).toNat=q + n by omega]
  ·rw [if_neg (λ z=>c2 z.2),if_neg (λ z=>c1 ⟨z.1,z.2.2⟩),if_neg c2,if_pos (1:),yam]
noncomputable def On (H:Hp) (L:List (Addr × Nat)):Prop:=∀ q ∈ L,H q.1=some (.tup [nV q.2])
noncomputable def onV (L:List (Addr × Nat)):List V:=L.map λ q=>.ref q.1
noncomputable def onN (L:List (Addr × Nat)):List Nat:=L.map Prod.snd
noncomputable def onD (ns:List Nat):List PyData:=ns.map λ (n:Nat)=>.tuple [.int (n:Int)]
end L2
namespace Srt
open PySem PyProof.Rows
noncomputable def gallop':Bool -> Keyed -> Array Keyed -> Nat -> Nat -> Nat -> StateT SortSt Sem (Option Nat):=sortPriv% PySem.Builtin.gallop
noncomputable def beyond' (left:Bool) (key:Keyed) (arr:Array Keyed) (base i:Nat):StateT SortSt Sem (Option Bool):=do
  let x <- elem' arr (base + i)
  if left then lt' x key else return (<- lt' key x).map (!·)
noncomputable def zke (left:Bool) (key:Keyed) (arr:Array Keyed) (base n lo0 hi0:Nat):StateT SortSt Sem (Option Nat):=do
 let mut lo:=lo0
 let mut hi:=hi0
 for _ in [0:n] do
  if lo >= hi then break
  let m:=lo + (hi - lo) / 2
  let some more <- beyond' left key arr base m | return none
  if more then lo:=m + 1 else hi:=m
 return some hi
noncomputable def goUp (left:Bool) (key:Keyed) (arr:Array Keyed) (base n hint:Nat):StateT SortSt Sem (Option Nat):=do
 let mut lastofs:=0
 let mut ofs:=1
 let maxofs:=n - hint
 for _ in [0:n] do
  if ofs >= maxofs then break
  let some more <- beyond' left key arr base (hint + ofs) | return none
  if !more then break
  lastofs:=ofs
  ofs:=2 * ofs + 1
 zke left key arr base n (hint + lastofs + 1) (hint + min ofs maxofs)
noncomputable def zkQ (left:Bool) (key:Keyed) (arr:Array Keyed) (base n hint:Nat):StateT SortSt Sem (Option Nat):=do
 let mut lastofs:=0
 let mut ofs:=1
 let maxofs:=hint + 1
 for _ in [0:n] do
  if ofs >= maxofs then break
  let some found <- beyond' left key arr base (hint - ofs) | return none
  if found then break
  lastofs:=ofs
  ofs:=2 * ofs + 1
 zke left key arr base n (hint + 1 - min ofs maxofs) (hint - lastofs)
def gallop'_eq (left:Bool) (key:Keyed) (arr:Array Keyed) (base n hint:Nat):gallop' left key arr base n hint=(do
 let some right <- beyond' left key arr base hint | return none
 if right then goUp left key arr base n hint else zkQ left key arr base n hint):=rfl
noncomputable def mergeLo':Array Keyed -> Array Keyed -> StateT SortSt Sem (Array Keyed):=sortPriv% PySem.Builtin.mergeLo
noncomputable def mergeHi':Array Keyed -> Array Keyed -> StateT SortSt Sem (Array Keyed):=sortPriv% PySem.Builtin.mergeHi
noncomputable def setMinGallop':Nat -> StateT SortSt Sem Unit:=sortPriv% PySem.Builtin.setMinGallop
noncomputable abbrev za0 (st:SortSt) (g:Nat):SortSt:=SortSt.mk' (kindOf st) (arrOf st) (pendingOf st) g (failedOf st)
def setMinGallop'_eq (g:Nat):setMinGallop' g=modify (λ s=>za0 s g):=rfl
section
variable {prog:Program} {w:World} {A:Around} {E:Value -> Shared -> Prop} {s:Shared}
noncomputable def zeT (x:Keyed):Prop:=∃ n t,x.1=.int n t
noncomputable def zda (xs:Array Keyed):Prop:=∀ (i:Nat) (x:Keyed),xs[i]?=some x -> zeT x
def zfT {st:SortSt} {x y:Keyed} {Q:Option Bool -> SortSt -> Prop} (hk:kindOf st=oneType') (hx:zeT x) (hy:zeT y)
  (h:Q (some (decide (numOf x.1 < numOf y.1))) st):wpS (model prog w) A E s (lt' x y) Q st:=by
 obtain ⟨a,t,e1⟩:=hx;obtain ⟨b,u,e2⟩:=hy;rw [lt'_eq];refine wpS_bind (wpS_get ?_);rw [hk,keyLt'_oneType,e1,e2];rw [e1,e2] at h;refine wpS_bind (wpS_lift (wpAny_attempt (oneLt_int ⟨rfl,?_⟩)));exact wpS_pure h
def zaA {st:SortSt} {xs:Array Keyed} {i:Nat} {Q:Keyed -> SortSt -> Prop} (hi:i < xs.size) (h:∀ x,xs[i]?=some x -> Q x st) :
  wpS (model prog w) A E s (elem' xs i) Q st:=by
 have e:xs[i]?=some xs[i]:=getElem?_pos _ i hi;rw [elem'_eq,e];exact wpS_pure (h _ e)
def K_at {xs:Array Keyed} {i:Nat} {x:Keyed} (h:xs[i]?=some x):K xs i=numOf x.1:=by unfold K; rw [h]
noncomputable def zaJ (left:Bool) (k a:Int):Prop:=if left=true then a < k else a <= k
instance (left:Bool) (k a:Int):Decidable (zaJ left k a):=by unfold zaJ; infer_instance
def zaJ.mono {left:Bool} {k a b:Int} (h:zaJ left k b) (hab:a <= b):zaJ left k a:=by
 unfold zaJ at *
 split at h
 ·rename_i e; rw [if_pos e]; omega
 ·rename_i e; rw [if_neg e]; omega
def zcG {st:SortSt} {left:Bool} {key:Keyed} {arr:Array Keyed} {base i:Nat} {Q:Option Bool -> SortSt -> Prop} (hk:kindOf st=oneType') (hkey:zeT key) (ha:zda arr)
  (hi:base + i < arr.size) (h:Q (some (decide (zaJ left (numOf key.1) (K arr (base + i))))) st) :
  wpS (model prog w) A E s (beyond' left key arr base i) Q st:=by
 unfold beyond';refine wpS_bind (zaA hi λ x ex=>?_);rw [K_at ex] at h;by_cases hl:left=true
 ·rw [if_pos hl];refine zfT hk (ha _ _ ex) hkey ?_;unfold zaJ at h;simpa only [if_pos hl] using h
 ·rw [if_neg hl];refine wpS_bind (zfT hk hkey (ha _ _ ex) (wpS_pure ?_));unfold zaJ at h
  have e:(!decide (numOf key.1 < numOf x.1))=decide (numOf x.1 <= numOf key.1):=by
   by_cases hh:numOf key.1 < numOf x.1
   ·rw [decide_eq_true hh,decide_eq_false (1:)]; rfl
   ·rw [decide_eq_false hh,decide_eq_true (1:)]; rfl
  simp only [if_neg hl] at h;simpa only [Option.map_some,e] using h
def zf7 {st:SortSt} {left:Bool} {key:Keyed} {arr:Array Keyed} {base n lo hi:Nat} {Q:Option Nat -> SortSt -> Prop} (hk:kindOf st=oneType') (hkey:zeT key) (ha:zda arr)
    (hn:base + n <= arr.size) (mono:∀ i j,i <= j -> j < n -> K arr (base + i) <= K arr (base + j)) (hlh:lo <= hi) (hhn:hi <= n)
    (hlo:∀ i,i < lo -> zaJ left (numOf key.1) (K arr (base + i))) (hhi:∀ i,hi <= i -> i < n -> ¬ zaJ left (numOf key.1) (K arr (base + i)))
    (h:∀ k,k <= n -> (∀ i,i < k -> zaJ left (numOf key.1) (K arr (base + i))) -> (∀ i,k <= i -> i < n -> ¬ zaJ left (numOf key.1) (K arr (base + i))) -> Q (some k) st) :
    wpS (model prog w) A E s (zke left key arr base n lo hi) Q st:=by
  unfold zke;dsimp only
  refine wpS_bind (wpS_mono (wpS_forRange (I:=λ x c st'=>st'=st /\ ∃ l r,c=(none,l,r) /\ l <= r /\ r <= n /\ r - l <= n - x /\
      (∀ i,i < l -> zaJ left (numOf key.1) (K arr (base + i))) /\ (∀ i,r <= i -> i < n -> ¬ zaJ left (numOf key.1) (K arr (base + i))))
    (Q:=λ c st'=>st'=st /\ ∃ l r,c=(none,l,r) /\ r <= n /\
      (∀ i,i < r -> zaJ left (numOf key.1) (K arr (base + i))) /\ (∀ i,r <= i -> i < n -> ¬ zaJ left (numOf key.1) (K arr (base + i)))) ?step ?fin ?init) ?post)
  case init=>exact ⟨rfl,lo,hi,rfl,hlh,hhn,by omega,hlo,hhi⟩
  case fin=>
    rintro c st' ⟨rfl,l,r,rfl,h1,h2,h3,h4,h5⟩;have:l=r:=by omega
    subst this;exact ⟨rfl,l,l,rfl,h2,h4,h5⟩
  case step=>
    rintro x c st' _ hx ⟨rfl,l,r,rfl,h1,h2,h3,h4,h5⟩;dsimp only;by_cases hge:l >= r
    · rw [if_pos hge];have : l = r := by omega
      subst this;exact wpS_pure ⟨rfl,l,l,rfl,h2,h4,h5⟩
    · rw [if_neg hge];refine wpS_bind (zcG hk hkey ha (1:) ?_);by_cases hl : zaJ left (numOf key.1) (K arr (base + (l + (r - l) / 2)))
      · simp only [hl,decide_true,if_true];exact wpS_pure ⟨rfl,_,r,rfl,by omega,h2,by omega,λ i hi=>hl.mono (mono _ _ (1:) (1:)),h5⟩
      · simp only [hl,decide_false,yal,if_false];exact wpS_pure ⟨rfl,l,_,rfl,by omega,by omega,by omega,h4,λ i hi hin z=>hl (z.mono (mono _ _ (1:) (1:)))⟩
  case post=>
    rintro c st' ⟨rfl,l,r,rfl,h2,h4,h5⟩;exact wpS_pure (h r h2 h4 h5)
def zbx {st:SortSt} {left:Bool} {key:Keyed} {arr:Array Keyed} {base n hint:Nat} {Q:Option Nat -> SortSt -> Prop} (hk:kindOf st=oneType') (hkey:zeT key) (ha:zda arr)
  (hn:base + n <= arr.size) (hh:hint < n) (mono:∀ i j,i <= j -> j < n -> K arr (base + i) <= K arr (base + j))
  (h:∀ k,k <= n -> (∀ i,i < k -> zaJ left (numOf key.1) (K arr (base + i))) -> (∀ i,k <= i -> i < n -> ¬ zaJ left (numOf key.1) (K arr (base + i))) -> Q (some k) st) :
  wpS (model prog w) A E s (gallop' left key arr base n hint) Q st:=by
 rw [gallop'_eq];refine wpS_bind (zcG hk hkey ha (1:) ?_);dsimp only;by_cases hr:zaJ left (numOf key.1) (K arr (base + hint))
 ·simp only [hr, decide_true, if_true];unfold goUp;dsimp only
  refine wpS_bind (wpS_mono (wpS_forRange (I:=λ x c st'=>st'=st /\ ∃ l r,c=(none,l,r) /\ l < r /\ x + 1 <= r /\ hint + l < n /\ zaJ left (numOf key.1) (K arr (base + (hint + l))))
   (Q:=λ c st'=>st'=st /\ ∃ l r,c=(none,l,r) /\ l < r /\ hint + l < n /\ zaJ left (numOf key.1) (K arr (base + (hint + l))) /\ (r >= n - hint \/ ¬ zaJ left (numOf key.1) (K arr (base + (hint + r))))) ?step ?fin ?init) ?post)
  case init=>exact ⟨rfl,0,1,rfl,by omega,by omega,by omega,hr⟩
  case fin=>
   rintro c st' ⟨rfl,l,r,rfl,h1,h2,h3,h4⟩;exact ⟨rfl,l,r,rfl,h1,h3,h4,.inl (1:)⟩
  case step=>
   rintro x c st' _ hx ⟨rfl,l,r,rfl,h1,h2,h3,h4⟩;dsimp only;by_cases hge:r >= n - hint
   ·rw [if_pos hge];exact wpS_pure ⟨rfl,l,r,rfl,h1,h3,h4,.inl hge⟩
   ·rw [if_neg hge];refine wpS_bind (zcG hk hkey ha (1:) ?_);by_cases hl : zaJ left (numOf key.1) (K arr (base + (hint + r)))
    ·simp only [hl,decide_true,ybW,yal,if_false];exact wpS_pure ⟨rfl,r,_,rfl,by omega,by omega,by omega,hl⟩
    ·simp only [hl,decide_false,Bool.not_false,if_true];exact wpS_pure ⟨rfl,l,r,rfl,h1,h3,h4,.inr hl⟩
  case post=>
   rintro c st' ⟨rfl,l,r,rfl,h1,h3,h4,h5⟩;dsimp only;refine zf7 (lo:=hint + l + 1) (hi:=hint + min r (n - hint)) hk hkey ha hn mono (1:) (1:) (λ i hi=>h4.mono (mono _ _ (1:) (1:))) (λ i hi hin z=>?_) h;rcases h5 with h5 | h5
   ·omega
   ·by_cases hq : r <= n - hint
    ·rw [ya7 hq] at hi;exact h5 (z.mono (mono _ _ (1:) (1:)))
    ·omega
 ·simp only [hr, decide_false, yal, if_false];unfold zkQ;dsimp only
  refine wpS_bind (wpS_mono (wpS_forRange (I:=λ x c st'=>st'=st /\ ∃ l r,c=(none,l,r) /\ l < r /\ x + 1 <= r /\ l <= hint /\ ¬ zaJ left (numOf key.1) (K arr (base + (hint - l))))
   (Q:=λ c st'=>st'=st /\ ∃ l r,c=(none,l,r) /\ l < r /\ l <= hint /\ ¬ zaJ left (numOf key.1) (K arr (base + (hint - l))) /\ (r >= hint + 1 \/ zaJ left (numOf key.1) (K arr (base + (hint - r))))) ?step ?fin ?init) ?post)
  case init=>exact ⟨rfl,0,1,rfl,by omega,by omega,by omega,hr⟩
  case fin=>
   rintro c st' ⟨rfl,l,r,rfl,h1,h2,h3,h4⟩;exact ⟨rfl,l,r,rfl,h1,h3,h4,.inl (1:)⟩
  case step=>
   rintro x c st' _ hx ⟨rfl,l,r,rfl,h1,h2,h3,h4⟩;dsimp only;by_cases hge:r >= hint + 1
   ·rw [if_pos hge];exact wpS_pure ⟨rfl,l,r,rfl,h1,h3,h4,.inl hge⟩
   ·rw [if_neg hge];refine wpS_bind (zcG hk hkey ha (1:) ?_);by_cases hl : zaJ left (numOf key.1) (K arr (base + (hint - r)))
    ·simp only [hl,decide_true,if_true];exact wpS_pure ⟨rfl,l,r,rfl,h1,h3,h4,.inr hl⟩
    ·simp only [hl,decide_false,yal,if_false];exact wpS_pure ⟨rfl,r,_,rfl,by omega,by omega,by omega,hl⟩
  case post=>
   rintro c st' ⟨rfl,l,r,rfl,h1,h3,h4,h5⟩;dsimp only;refine zf7 (lo:=hint + 1 - min r (hint + 1)) (hi:=hint - l) hk hkey ha hn mono (1:) (1:) (λ i hi=>?_) (λ i hi hin z=>h4 (z.mono (mono _ _ (1:) (1:)))) h;rcases h5 with h5 | h5
   ·omega
   ·by_cases hq : r <= hint + 1
    ·rw [ya7 hq] at hi;exact h5.mono (mono _ _ (1:) (1:))
    ·omega
end
end Srt
namespace Srt
open PySem PyProof.Rows
noncomputable abbrev kf (x:Keyed):Int:=numOf x.1
noncomputable def Sr (l:List Keyed):Prop:=l.Pairwise λ x y=>kf x <= kf y
structure MI (T L A B:List Keyed):Prop where
 perm:(L ++ (A ++ B)).Perm T
 sa:Sr (L ++ A)
 sb:Sr (L ++ B)
def MI.symm {T L A B:List Keyed} (h:MI T L A B):MI T L B A:=⟨((ybn L ybQ).trans h.perm),h.sb,h.sa⟩
def MI.take {T L A B:List Keyed} (h:MI T L A B) (k:Nat) (hk:∀ x ∈ A.take k,∀ y ∈ B,kf x <= kf y):MI T (L ++ A.take k) (A.drop k) B:=by
 refine ⟨?_,?_,?_⟩
 ·have e : L ++ A.take k ++ (A.drop k ++ B) = L ++ (A ++ B) := by rw [yan, <- yan (A.take k), yaG]
  rw [e]; exact h.perm
 ·rw [yan,yaG]; exact h.sa
 ·have h1 := yap.mp h.sa;have h2 := yap.mp h.sb;rw [Sr, yan, yap];refine ⟨h1.1, yap.mpr ⟨h1.2.1.sublist (List.take_sublist _ _), h2.2.1, hk⟩, fun x hx y hy => ?_⟩;rcases yaK.mp hy with hy | hy
  ·exact h1.2.2 x hx y (List.mem_of_mem_take hy)
  ·exact h2.2.2 x hx y hy
def MI.one {T L A B:List Keyed} {x:Keyed} (h:MI T L (x :: A) B) (hk:∀ y ∈ B,kf x <= kf y):MI T (L ++ [x]) A B:=
 h.take 1 λ z hz y hy=>by
  have:z=x:=by simpa using hz
  subst this; exact hk y hy
def MI.last {T L B:List Keyed} {z:Keyed} (h:MI T L [z] B) (hz:∀ y ∈ B,kf y <= kf z):(L ++ B ++ [z]).Perm T /\ Sr (L ++ B ++ [z]):=by
 have h':=h.symm;refine ⟨by rw [yan]; exact h'.perm,?_⟩;rw [Sr,yap];refine ⟨h.sb,List.pairwise_singleton _ _,λ x hx y hy=>?_⟩;have:y=z:=by simpa using hy
 subst this;rcases yaK.mp hx with hx | hx
 ·exact (yap.mp h.sa).2.2 x hx y (6:)
 ·exact hz x hx
structure MH (T R A B:List Keyed):Prop where
 perm:((A ++ B) ++ R).Perm T
 sa:Sr (A ++ R)
 sb:Sr (B ++ R)
def MH.symm {T R A B:List Keyed} (h:MH T R A B):MH T R B A:=⟨((ybK R ybQ).trans h.perm),h.sb,h.sa⟩
def MH.take {T R A B:List Keyed} (h:MH T R A B) (k:Nat) (hk:∀ x ∈ A.drop k,∀ y ∈ B,kf y <= kf x):MH T (A.drop k ++ R) (A.take k) B:=by
 refine ⟨?_,?_,?_⟩
 ·have e:(A.take k ++ B ++ (A.drop k ++ R)).Perm (A ++ B ++ R):=by
   have p1:(A.take k ++ B ++ A.drop k).Perm (A.take k ++ A.drop k ++ B):=by
    rw [yan,yan]; exact ybn _ ybQ
   rw [yaG] at p1;rw [<- yan];exact ybK R p1
  exact e.trans h.perm
 ·rw [<- yan,yaG]; exact h.sa
 ·have h1 := yap.mp h.sa;have h2 := yap.mp h.sb;rw [Sr, yap];refine ⟨h2.1, yap.mpr ⟨h1.1.sublist (List.drop_sublist _ _), h1.2.1, fun x hx y hy => h1.2.2 x (List.mem_of_mem_drop hx) y hy⟩, fun x hx y hy => ?_⟩;rcases yaK.mp hy with hy | hy
  ·exact hk y hy x hx
  ·exact h2.2.2 x hx y hy
def MH.one {T R A B:List Keyed} {x:Keyed} (h:MH T R (A ++ [x]) B) (hk:∀ y ∈ B,kf y <= kf x):MH T (x :: R) A B:=by
  have e1:(A ++ [x]).drop A.length=[x]:=by simp
  have e2:(A ++ [x]).take A.length=A:=by simp
  have := h.take A.length (by rw [e1]; intro z hz y hy; have : z = x := by simpa using hz
                              subst this; exact hk y hy)
  rw [e1,e2] at this;exact this
def MH.first {T R A:List Keyed} {z:Keyed} (h:MH T R A [z]) (hz:∀ y ∈ A,kf z <= kf y):([z] ++ A ++ R).Perm T /\ Sr ([z] ++ A ++ R):=by
 have h':=h.symm;refine ⟨h'.perm,?_⟩;rw [Sr,yan,yap];refine ⟨List.pairwise_singleton _ _,h.sa,λ x hx y hy=>?_⟩;have:x=z:=by simpa using hx
 subst this;rcases yaK.mp hy with hy | hy
 ·exact hz y hy
 ·exact (yap.mp h.sb).2.2 x (6:) y hy
def zgz {xs:Array Keyed} {i:Nat} {x:Keyed} (h:xs[i]?=some x):xs.toList.drop i=x :: xs.toList.drop (i + 1):=by
 have hi:i < xs.size:=by
  rcases ybg i xs.size with h1 | h1
  ·exact h1
  ·rw [getElem?_neg xs i (1:)] at h; cases h
 rw [getElem?_pos xs i hi] at h;have e:=Option.some.inj h;rw [List.drop_eq_getElem_cons (by simpa using hi)];simp [e]
def zgV {xs:Array Keyed} {i:Nat} {x:Keyed} (h:xs[i]?=some x):xs.toList.take (i + 1)=xs.toList.take i ++ [x]:=by
 have hi:i < xs.size:=by
  rcases ybg i xs.size with h1 | h1
  ·exact h1
  ·rw [getElem?_neg xs i (1:)] at h; cases h
 rw [getElem?_pos xs i hi] at h;have e:=Option.some.inj h;rw [List.take_succ_eq_append_getElem (by simpa using hi)];simp [e]
def zbc {xs:Array Keyed} {i:Nat} {x:Keyed} (h:x ∈ xs.toList.drop i):∃ j,i <= j /\ j < xs.size /\ kf x=K xs j:=by
 obtain ⟨k,hk,e⟩:=ybA h;have hk':i + k < xs.size:=by simp at hk; omega
 refine ⟨i + k,by omega,hk',?_⟩;rw [List.getElem_drop] at e;rw [K_at (getElem?_pos xs (i + k) hk'),<- e];simp
def zby {xs:Array Keyed} {i:Nat} {x:Keyed} (h:x ∈ xs.toList.take i):∃ j,j < i /\ j < xs.size /\ kf x=K xs j:=by
 obtain ⟨k,hk,e⟩:=ybA h;have hk':k < i /\ k < xs.size:=by simp at hk; omega
 refine ⟨k,by omega,hk'.2,?_⟩;rw [List.getElem_take] at e;rw [K_at (getElem?_pos xs k hk'.2),<- e];simp
def ze4 {xs:Array Keyed} {i k:Nat} {x:Keyed} (h:x ∈ (xs.toList.drop i).take k):∃ j,j < k /\ i + j < xs.size /\ kf x=K xs (i + j):=by
 obtain ⟨m,hm,e⟩:=ybA h;have hm':m < k /\ i + m < xs.size:=by simp at hm; omega
 refine ⟨m,hm'.1,hm'.2,?_⟩;rw [List.getElem_take,List.getElem_drop] at e;rw [K_at (getElem?_pos xs (i + m) hm'.2),<- e];simp
def zc4 {xs:Array Keyed} {i k:Nat} {x:Keyed} (h:x ∈ (xs.toList.take i).drop k):∃ j,k <= j /\ j < i /\ j < xs.size /\ kf x=K xs j:=by
 obtain ⟨m,hm,e⟩:=ybA h;have hm':k + m < i /\ k + m < xs.size:=by simp at hm; omega
 refine ⟨k + m,by omega,hm'.1,hm'.2,?_⟩;rw [List.getElem_drop,List.getElem_take] at e;rw [K_at (getElem?_pos xs (k + m) hm'.2),<- e];simp
def zeu {xs:Array Keyed} {i k:Nat}:(xs.extract i (i + k)).toList=(xs.toList.drop i).take k:=by
 rw [ybt,ybc];congr 1; omega
def zdh {xs:Array Keyed} {i:Nat}:(xs.extract i xs.size).toList=xs.toList.drop i:=by
 rw [ybt,ybc];exact yaq (6:)
def zc9 {xs:Array Keyed} {i:Nat}:(xs.extract 0 i).toList=xs.toList.take i:=by
 rw [ybt,ybc];simp
def zfw {xs:Array Keyed} {i k:Nat}:(xs.extract k i).toList=(xs.toList.take i).drop k:=by
 rw [ybt,ybc,List.drop_take]
def zjV {xs:Array Keyed} (h:SortedTo xs xs.size):Sr xs.toList:=by
 rw [Sr,yaJ];intro i j hi hj hij;have h1:=h i j (1:) (by simpa using hj);rw [K_eq (by simpa using hi),K_eq (by simpa using hj)] at h1;simpa using h1
end Srt
namespace Srt
open PySem PyProof.Rows
noncomputable abbrev LoSt:=Option (Array Keyed) × Array Keyed × Nat × Nat × Nat × Nat × Nat
noncomputable abbrev zcO (a b out:Array Keyed) (ia ib:Nat):Array Keyed:=out ++ a.extract ia a.size ++ b.extract ib b.size
noncomputable abbrev zeQ (a b out:Array Keyed) (ia ib:Nat):Array Keyed:=out ++ b.extract ib b.size ++ a.extract ia a.size
noncomputable def lo3 (a b out:Array Keyed) (ia ib mg k k1:Nat):StateT SortSt Sem (ForInStep LoSt):=do
 let x <- elem' a ia
 if ia + 1 + 1 == a.size then pure (.done (some (zeQ a b (out.push x) (ia + 1) ib),out.push x,ia + 1,ib,mg,k,k1))
 else if k < 7 && k1 < 7 then pure (.done (none,out.push x,ia + 1,ib,mg,k,k1))
 else pure (.yield (none,out.push x,ia + 1,ib,mg,k,k1))
noncomputable def lo2 (a b out:Array Keyed) (ia ib mg k bc:Nat):StateT SortSt Sem (ForInStep LoSt):=do
 let y <- elem' b ib
 if ib + 1 == b.size then pure (.done (some (zcO a b (out.push y) ia (ib + 1)),out.push y,ia,ib + 1,mg,k,bc))
 else do
  let z <- elem' a ia
  let r <- gallop' true z b (ib + 1) (b.size - (ib + 1)) 0
  match r with
  | some k1=>
   if k1 > 0 then
    if ib + 1 + k1 == b.size then pure (.done (some (zcO a b (out.push y ++ b.extract (ib + 1) (ib + 1 + k1)) ia (ib + 1 + k1)),out.push y ++ b.extract (ib + 1) (ib + 1 + k1),ia,ib + 1 + k1,mg,k,k1))
    else lo3 a b (out.push y ++ b.extract (ib + 1) (ib + 1 + k1)) ia (ib + 1 + k1) mg k k1
   else lo3 a b (out.push y) ia (ib + 1) mg k k1
  | _=>pure (.done (some (zcO a b (out.push y) ia (ib + 1)),out.push y,ia,ib + 1,mg,k,bc))
noncomputable def lo1 (a b out:Array Keyed) (ia ib mg ac bc:Nat):StateT SortSt Sem (ForInStep LoSt):=do
 setMinGallop' mg
 let y <- elem' b ib
 let r <- gallop' false y a ia (a.size - ia) 0
 match r with
 | some k=>
  if k > 0 then
   if ia + k + 1 == a.size then pure (.done (some (zeQ a b (out ++ a.extract ia (ia + k)) (ia + k) ib),out ++ a.extract ia (ia + k),ia + k,ib,mg,k,bc))
   else if ia + k == a.size then pure (.done (some (zcO a b (out ++ a.extract ia (ia + k)) (ia + k) ib),out ++ a.extract ia (ia + k),ia + k,ib,mg,k,bc))
   else lo2 a b (out ++ a.extract ia (ia + k)) (ia + k) ib mg k bc
  else lo2 a b out ia ib mg k bc
 | _=>pure (.done (some (zcO a b out ia ib),out,ia,ib,mg,ac,bc))
noncomputable abbrev LoS1:=Option (Array Keyed) × Array Keyed × Nat × Nat × Nat × Nat
noncomputable def loB (a b:Array Keyed) (mg:Nat) (out:Array Keyed) (ia ib ac bc:Nat):StateT SortSt Sem (ForInStep LoS1):=do
 let r <- lt' (<- elem' b ib) (<- elem' a ia)
 match r with
 | some bWins=>
  if bWins then do
   let y <- elem' b ib
   if ib + 1 == b.size then pure (.done (some (zcO a b (out.push y) ia (ib + 1)),out.push y,ia,ib + 1,0,bc + 1))
   else if bc + 1 >= mg then pure (.done (none,out.push y,ia,ib + 1,0,bc + 1))
   else pure (.yield (none,out.push y,ia,ib + 1,0,bc + 1))
  else do
   let x <- elem' a ia
   if ia + 1 + 1 == a.size then pure (.done (some (zeQ a b (out.push x) (ia + 1) ib),out.push x,ia + 1,ib,ac + 1,0))
   else if ac + 1 >= mg then pure (.done (none,out.push x,ia + 1,ib,ac + 1,0))
   else pure (.yield (none,out.push x,ia + 1,ib,ac + 1,0))
 | _=>pure (.done (some (zcO a b out ia ib),out,ia,ib,ac,bc))
noncomputable def ziw (a b:Array Keyed) (out:Array Keyed) (ia ib mg:Nat):StateT SortSt Sem (ForInStep (Option (Array Keyed) × Array Keyed × Nat × Nat × Nat)):=do
 let c <- forIn [0:a.size + b.size] ((none,out,ia,ib,0,0):LoS1) λ _ c=>loB a b mg c.2.1 c.2.2.1 c.2.2.2.1 c.2.2.2.2.1 c.2.2.2.2.2
 match c.1 with
 | some r=>pure (.done (some r,c.2.1,c.2.2.1,c.2.2.2.1,mg))
 | none=>do
  liftM (rule "list.sort.gallop")
  let d <- forIn [0:a.size + b.size] ((none,c.2.1,c.2.2.1,c.2.2.2.1,mg + 1,c.2.2.2.2.1,c.2.2.2.2.2):LoSt) λ _ d=>
   if d.2.2.2.2.1 > 1 then lo1 a b d.2.1 d.2.2.1 d.2.2.2.1 (d.2.2.2.2.1 - 1) d.2.2.2.2.2.1 d.2.2.2.2.2.2 else lo1 a b d.2.1 d.2.2.1 d.2.2.2.1 d.2.2.2.2.1 d.2.2.2.2.2.1 d.2.2.2.2.2.2
  match d.1 with
  | some r=>pure (.done (some r,d.2.1,d.2.2.1,d.2.2.2.1,d.2.2.2.2.1))
  | none=>do
   setMinGallop' (d.2.2.2.2.1 + 1)
   pure (.yield (none,d.2.1,d.2.2.1,d.2.2.2.1,d.2.2.2.2.1 + 1))
def zfq (a b:Array Keyed):mergeLo' a b=(do
 liftM (rule "list.sort.merge-lo")
 let y <- elem' b 0
 if 1 == b.size then pure (zcO a b #[y] 0 1)
 else if 0 + 1 == a.size then pure (zeQ a b #[y] 0 1)
 else do
  let st <- get
  let c <- forIn [0:a.size + b.size] ((none,#[y],0,1,gallopOf st):Option (Array Keyed) × Array Keyed × Nat × Nat × Nat) λ _ c=>ziw a b c.2.1 c.2.2.1 c.2.2.2.1 c.2.2.2.2
  match c.1 with
  | some r=>pure r
  | none=>unsupported "internal:list.sort.merge-bound"):=by
 kernel_rfl
end Srt
namespace Srt
open PySem PyProof.Rows
structure Cm (a b:Array Keyed):Prop where
 ia:zda a
 ib:zda b
 sa:SortedTo a a.size
 sb:SortedTo b b.size
 pa:0 < a.size
 pb:0 < b.size
 last:∀ j,j < b.size -> K b j <= K a (a.size - 1)
 first:∀ j,j < a.size -> K b 0 <= K a j
noncomputable def Good (T:List Keyed) (r:Array Keyed):Prop:=r.toList.Perm T /\ Sr r.toList
noncomputable abbrev tot (a b:Array Keyed):List Keyed:=a.toList ++ b.toList
noncomputable abbrev ML (a b out:Array Keyed) (ia ib:Nat):Prop:=MI (tot a b) out.toList (a.toList.drop ia) (b.toList.drop ib)
variable {a b out:Array Keyed} {ia ib:Nat}
def zcm (h:ML a b out ia ib) (hz:ib=b.size \/ ia=a.size):Good (tot a b) (zcO a b out ia ib):=by
 have e:(zcO a b out ia ib).toList=out.toList ++ a.toList.drop ia ++ b.toList.drop ib:=by
  rw [yaC,yaC,zdh,zdh]
 unfold Good;rw [e];refine ⟨by rw [yan]; exact h.perm,?_⟩;rcases hz with hz | hz
 ·have e2:b.toList.drop ib=[]:=ybL (by simp [hz]);rw [e2,ya2]; exact h.sa
 ·have e2:a.toList.drop ia=[]:=ybL (by simp [hz]);rw [e2,ya2]; exact h.sb
def zds (C:Cm a b) (h:ML a b out ia ib) (hz:ia + 1=a.size):Good (tot a b) (zeQ a b out ia ib):=by
 have e:(zeQ a b out ia ib).toList=out.toList ++ b.toList.drop ib ++ a.toList.drop ia:=by
  rw [yaC,yaC,zdh,zdh]
 have ha:a[ia]?=some a[ia]:=getElem?_pos a ia (1:)
 have e2:a.toList.drop ia=[a[ia]]:=by
  rw [zgz ha,ybL (38:)]
 unfold Good;rw [e,e2];have h':=h;unfold ML at h';rw [e2] at h';refine h'.last λ y hy=>?_;obtain ⟨j,_,h2,h3⟩:=zbc hy;rw [h3,show kf a[ia]=K a ia from (K_at ha).symm,show ia=a.size - 1 by omega];exact C.last j h2
def zje (h:ML a b out ia ib) {y:Keyed} (hy:b[ib]?=some y) (hle:∀ j,ia <= j -> j < a.size -> kf y <= K a j):ML a b (out.push y) ia (ib + 1):=by
 have h':=h.symm;rw [zgz hy] at h'
 have:=(h'.one λ z hz=>by
  obtain ⟨j,h1,h2,h3⟩:=zbc hz;rw [h3]; exact hle j h1 h2).symm
 unfold ML;rw [ybM]; exact this
def zkM (h:ML a b out ia ib) {x:Keyed} (hx:a[ia]?=some x) (hle:∀ j,ib <= j -> j < b.size -> kf x <= K b j):ML a b (out.push x) (ia + 1) ib:=by
 have h':=h;unfold ML at h';rw [zgz hx] at h'
 have:=h'.one λ z hz=>by
  obtain ⟨j,h1,h2,h3⟩:=zbc hz;rw [h3]; exact hle j h1 h2
 unfold ML;rw [ybM]; exact this
def znj (h:ML a b out ia ib) {k:Nat} (hle:∀ i,i < k -> ∀ j,ib <= j -> j < b.size -> ia + i < a.size -> K a (ia + i) <= K b j):ML a b (out ++ a.extract ia (ia + k)) (ia + k) ib:=by
 have:=h.take k λ x hx y hy=>by
  obtain ⟨i,h1,h2,h3⟩:=ze4 hx;obtain ⟨j,g1,g2,g3⟩:=zbc hy;rw [h3,g3]; exact hle i h1 j g1 g2 h2
 unfold ML;rw [yaC,zeu];rw [ybN] at this;exact this
def zme (h:ML a b out ia ib) {k:Nat} (hle:∀ i,i < k -> ∀ j,ia <= j -> j < a.size -> ib + i < b.size -> K b (ib + i) <= K a j):ML a b (out ++ b.extract ib (ib + k)) ia (ib + k):=by
 have:=(h.symm.take k λ x hx y hy=>by
  obtain ⟨i,h1,h2,h3⟩:=ze4 hx;obtain ⟨j,g1,g2,g3⟩:=zbc hy;rw [h3,g3]; exact hle i h1 j g1 g2 h2).symm
 unfold ML;rw [yaC,zeu];rw [ybN] at this;exact this
structure LI (a b out:Array Keyed) (ia ib:Nat):Prop where
 ml:ML a b out ia ib
 ha:ia + 1 < a.size
 hb:ib < b.size
noncomputable def GP (a b:Array Keyed) (n0:Nat) (c:Option (Array Keyed)) (out:Array Keyed) (ia ib:Nat):Prop:=
 match c with
 | some r=>Good (tot a b) r
 | none=>LI a b out ia ib /\ n0 <= ia + ib
section
variable {prog:Program} {w:World} {A:Around} {E:Value -> Shared -> Prop} {s:Shared} {st:SortSt} {mg k k1 ac bc n0:Nat}
def ziO (C:Cm a b) (h:LI a b out ia ib) (hn:n0 <= ia + ib) (hle:∀ j,ib <= j -> j < b.size -> K a ia <= K b j) {Q:ForInStep LoSt -> SortSt -> Prop}
    (h1:∀ d:LoSt,GP a b n0 d.1 d.2.1 d.2.2.1 d.2.2.2.1 -> Q (.done d) st) (h2:∀ d:LoSt,d.1=none -> GP a b n0 d.1 d.2.1 d.2.2.1 d.2.2.2.1 -> Q (.yield d) st) :
    wpS (model prog w) A E s (lo3 a b out ia ib mg k k1) Q st:=by
  unfold lo3;have ha:=h.ha;have hb:=h.hb;refine wpS_bind (zaA (1:) λ x hx=>?_);have m:=zkM h.ml hx λ j h1 h2=>by rw [show kf x=K a ia from (K_at hx).symm]; exact hle j h1 h2
  by_cases hz:ia + 1 + 1=a.size
  · rw [if_pos (37:)];exact wpS_pure (h1 _ (zds C m hz))
  · rw [if_neg (37:)];have g : GP a b n0 none (out.push x) (ia + 1) ib := ⟨⟨m, by omega, h.hb⟩, by omega⟩
    split
    · exact wpS_pure (h1 _ g)
    · exact wpS_pure (h2 _ rfl g)
def zjC (C:Cm a b) (hk:kindOf st=oneType') (h:LI a b out ia ib) (hn:n0 <= ia + ib) (hle:∀ j,ia <= j -> j < a.size -> K b ib <= K a j) {Q:ForInStep LoSt -> SortSt -> Prop}
    (h1:∀ d:LoSt,GP a b n0 d.1 d.2.1 d.2.2.1 d.2.2.2.1 -> Q (.done d) st) (h2:∀ d:LoSt,d.1=none -> GP a b n0 d.1 d.2.1 d.2.2.1 d.2.2.2.1 -> Q (.yield d) st) :
    wpS (model prog w) A E s (lo2 a b out ia ib mg k bc) Q st:=by
  unfold lo2;have ha:=h.ha;have hb:=h.hb;refine wpS_bind (zaA (1:) λ y hy=>?_);have m:=zje h.ml hy λ j h1 h2=>by rw [show kf y=K b ib from (K_at hy).symm]; exact hle j h1 h2
  by_cases hz:ib + 1=b.size
  · rw [if_pos (37:)];exact wpS_pure (h1 _ (zcm m (.inl hz)))
  · rw [if_neg (37:)];refine wpS_bind (zaA (1:) fun z hz' => ?_);refine wpS_bind (zbx hk (C.ia _ _ hz') C.ib (1:) (1:) (fun i j hij hj => C.sb _ _ (1:) (1:)) fun k2 hk2 p1 p2 => ?_);dsimp only;have hzk : numOf z.1 = K a ia := (K_at hz').symm;have ah : ∀ i, zaJ true (numOf z.1) (K b (ib + 1 + i)) ↔ K b (ib + 1 + i) < K a ia := fun i => by unfold zaJ; rw [if_pos rfl, hzk]
    have m2:ML a b (out.push y ++ b.extract (ib + 1) (ib + 1 + k2)) ia (ib + 1 + k2):=zme m λ i hi j h1 h2 h3=>by
      have:=(ah i).mp (p1 i hi);exact ybh (ybo this) (C.sa _ _ h1 h2)
    have nx:∀ j,ib + 1 + k2 <= j -> j < b.size -> K a ia <= K b j:=λ j h1 h2=>by
      have:=mt (ah (j - (ib + 1))).mpr (p2 (j - (ib + 1)) (1:) (1:));rw [show ib + 1 + (j - (ib + 1))=j by omega] at this;omega
    by_cases hk0:k2 > 0
    · rw [if_pos hk0];by_cases hq : ib + 1 + k2 = b.size
      · rw [if_pos (49:)];exact wpS_pure (h1 _ (zcm m2 (.inl hq)))
      · rw [if_neg (49:)];exact ziO C ⟨m2,h.ha,by omega⟩ (1:) nx h1 h2
    · rw [if_neg hk0];have : k2 = 0 := by omega
      subst this;exact ziO C ⟨m,h.ha,by omega⟩ (1:) nx h1 h2
def zk3 (C:Cm a b) (hk:kindOf st=oneType') (h:LI a b out ia ib) (hn:n0 <= ia + ib) {Q:ForInStep LoSt -> SortSt -> Prop}
    (h1:∀ d:LoSt,GP a b n0 d.1 d.2.1 d.2.2.1 d.2.2.2.1 -> Q (.done d) (za0 st mg)) (h2:∀ d:LoSt,d.1=none -> GP a b n0 d.1 d.2.1 d.2.2.1 d.2.2.2.1 -> Q (.yield d) (za0 st mg)) :
    wpS (model prog w) A E s (lo1 a b out ia ib mg ac bc) Q st:=by
  unfold lo1;have ha:=h.ha;have hb:=h.hb;rw [setMinGallop'_eq];refine wpS_bind (wpS_modify ?_);refine wpS_bind (zaA (1:) λ y hy=>?_);refine wpS_bind (zbx (st:=za0 st mg) hk (C.ib _ _ hy) C.ia (1:) (1:) (λ i j hij hj=>C.sa _ _ (1:) (1:)) λ k2 hk2 p1 p2=>?_);dsimp only;have hyk:numOf y.1=K b ib:=(K_at hy).symm;have ah:∀ i,zaJ false (numOf y.1) (K a (ia + i)) ↔ K a (ia + i) <= K b ib:=λ i=>by unfold zaJ; rw [if_neg (3:),hyk]
  have m2:ML a b (out ++ a.extract ia (ia + k2)) (ia + k2) ib:=znj h.ml λ i hi j h1 h2 h3=>ybh ((ah i).mp (p1 i hi)) (C.sb _ _ h1 h2)
  have nx:∀ j,ia + k2 <= j -> j < a.size -> K b ib <= K a j:=λ j h1 h2=>by
    have:=mt (ah (j - ia)).mpr (p2 (j - ia) (1:) (1:));rw [show ia + (j - ia)=j by omega] at this;omega
  by_cases hk0:k2 > 0
  · rw [if_pos hk0];by_cases hq : ia + k2 + 1 = a.size
    · rw [if_pos (49:)];exact wpS_pure (h1 _ (zds C m2 hq))
    · rw [if_neg (49:)];by_cases hq2 : ia + k2 = a.size
      · rw [if_pos (by simpa using hq2)];exact wpS_pure (h1 _ (zcm m2 (.inr hq2)))
      · rw [if_neg (by simpa using hq2)];exact zjC (st:=za0 st mg) C hk ⟨m2,by omega,h.hb⟩ (1:) nx h1 h2
  · rw [if_neg hk0];have : k2 = 0 := by omega
    subst this;exact zjC (st:=za0 st mg) C hk h (1:) nx h1 h2
def zkZ (C:Cm a b) (hk:kindOf st=oneType') (h:LI a b out ia ib) (hn:n0 <= ia + ib + 1) {Q:ForInStep LoS1 -> SortSt -> Prop}
    (h1:∀ d:LoS1,GP a b n0 d.1 d.2.1 d.2.2.1 d.2.2.2.1 -> Q (.done d) st) (h2:∀ d:LoS1,d.1=none -> GP a b n0 d.1 d.2.1 d.2.2.1 d.2.2.2.1 -> Q (.yield d) st) :
    wpS (model prog w) A E s (loB a b mg out ia ib ac bc) Q st:=by
  unfold loB;have ha:=h.ha;have hb:=h.hb;refine wpS_bind (zaA (1:) λ y hy=>?_);refine wpS_bind (zaA (1:) λ x hx=>?_);refine wpS_bind (zfT hk (C.ib _ _ hy) (C.ia _ _ hx) ?_);dsimp only;have ey:numOf y.1=K b ib:=(K_at hy).symm;have ex:numOf x.1=K a ia:=(K_at hx).symm;by_cases hl:numOf y.1 < numOf x.1
  · rw [if_pos (by simpa using hl)];refine wpS_bind (zaA (1:) fun y' hy' => ?_);obtain rfl : y = y' := by rw [hy] at hy'; exact Option.some.inj hy'
    have m:=zje h.ml hy λ j g1 g2=>by
      have:=C.sa _ _ g1 g2;show numOf y.1 <= _;omega
    by_cases hz:ib + 1=b.size
    · rw [if_pos (37:)];exact wpS_pure (h1 _ (zcm m (.inl hz)))
    · rw [if_neg (37:)];have g : GP a b n0 none (out.push y) ia (ib + 1) := ⟨⟨m, h.ha, by omega⟩, by omega⟩
      split
      · exact wpS_pure (h1 _ g)
      · exact wpS_pure (h2 _ rfl g)
  · rw [if_neg (by simpa using hl)];refine wpS_bind (zaA (1:) fun x' hx' => ?_);obtain rfl : x = x' := by rw [hx] at hx'; exact Option.some.inj hx'
    have m:=zkM h.ml hx λ j g1 g2=>by
      have:=C.sb _ _ g1 g2;show numOf x.1 <= _;omega
    by_cases hz:ia + 1 + 1=a.size
    · rw [if_pos (37:)];exact wpS_pure (h1 _ (zds C m hz))
    · rw [if_neg (37:)];have g : GP a b n0 none (out.push x) (ia + 1) ib := ⟨⟨m, by omega, h.hb⟩, by omega⟩
      split
      · exact wpS_pure (h1 _ g)
      · exact wpS_pure (h2 _ rfl g)
noncomputable abbrev Gs (st st':SortSt):Prop:=∃ g,st'=za0 st g
def zh0 (C:Cm a b) (hk:kindOf st=oneType') (h:LI a b out ia ib) {Q:ForInStep (Option (Array Keyed) × Array Keyed × Nat × Nat × Nat) -> SortSt -> Prop}
    (h1:∀ d st',Gs st st' -> (∃ r,d.1=some r /\ Good (tot a b) r) -> Q (.done d) st') (h2:∀ d st',Gs st st' -> d.1=none -> LI a b d.2.1 d.2.2.1 d.2.2.2.1 -> ia + ib + 1 <= d.2.2.1 + d.2.2.2.1 -> Q (.yield d) st') :
    wpS (model prog w) A E s (ziw a b out ia ib mg) Q st:=by
  unfold ziw;have pa:=C.pa;refine wpS_bind (wpS_mono (wpS_forRange (I:=λ x c st'=>st'=st /\ c.1=none /\ GP a b (ia + ib + x) c.1 c.2.1 c.2.2.1 c.2.2.2.1) (Q:=λ c st'=>st'=st /\ GP a b (ia + ib + 1) c.1 c.2.1 c.2.2.1 c.2.2.2.1) ?step ?fin ?init) ?post)
  case init=>exact ⟨rfl,rfl,h,by show ia + ib + 0 <= ia + ib; omega⟩
  case fin=>
    rintro ⟨c1,c2⟩ st' ⟨rfl,z,g⟩;obtain rfl:c1=none:=z;refine ⟨rfl,g.1,?_⟩;have:=g.2;omega
  case step=>
    rintro x ⟨c1,c2⟩ st' _ hx ⟨rfl,z,g⟩;obtain rfl:c1=none:=z;have g1:=g.1;have g2:=g.2;refine zkZ (n0:=ia + ib + x + 1) C hk g1 (1:) (λ d hd=>⟨rfl,?_⟩) (λ d hz hd=>⟨rfl,hz,hd⟩);obtain ⟨d1,d2⟩:=d;cases d1 with
    | some r=>exact hd
    | none=>exact ⟨hd.1,by have:=hd.2; omega⟩
  case post=>
    rintro ⟨c1,c2⟩ st' ⟨rfl,g⟩;cases c1 with
    | some r=>exact wpS_pure (h1 _ _ ⟨gallopOf st',rfl⟩ ⟨r,rfl,g⟩)
    | none=>
      dsimp only;refine wpS_bind (wpS_lift (wpAny_rule ⟨rfl,?_⟩));refine wpS_bind (wpS_mono (wpS_forRange (I:=λ x c st''=>Gs st' st'' /\ c.1=none /\ GP a b (ia + ib + 1) c.1 c.2.1 c.2.2.1 c.2.2.2.1) (Q:=λ c st''=>Gs st' st'' /\ GP a b (ia + ib + 1) c.1 c.2.1 c.2.2.1 c.2.2.2.1) ?step2 ?fin2 ⟨⟨gallopOf st',rfl⟩,rfl,g⟩) ?post2)
      case fin2=>
        rintro c st'' ⟨gs,z,g⟩;exact ⟨gs,g⟩
      case step2=>
        rintro x ⟨d1,d2⟩ st'' _ hx ⟨⟨gg,rfl⟩,z,g⟩;obtain rfl:d1=none:=z;dsimp only
        have one:∀ m,wpS (model prog w) A E s (lo1 a b d2.1 d2.2.1 d2.2.2.1 m d2.2.2.2.2.1 d2.2.2.2.2.2) (λ r st''=>match r with | .done c=>Gs st' st'' /\ GP a b (ia + ib + 1) c.1 c.2.1 c.2.2.1 c.2.2.2.1 | .yield c=>Gs st' st'' /\ c.1=none /\ GP a b (ia + ib + 1) c.1 c.2.1 c.2.2.1 c.2.2.2.1) (za0 st' gg):=λ m=>
          zk3 (st:=za0 st' gg) (out:=d2.1) (ia:=d2.2.1) (ib:=d2.2.2.1) (n0:=ia + ib + 1) C hk g.1 g.2 (λ d hd=>⟨⟨m,rfl⟩,hd⟩) (λ d hz hd=>⟨⟨m,rfl⟩,hz,hd⟩)
        split
        · exact wpS_mono (one _) λ r _ hr=>by cases r <;> exact hr
        · exact wpS_mono (one _) λ r _ hr=>by cases r <;> exact hr
      case post2=>
        rintro ⟨d1,d2⟩ st'' ⟨⟨gg,rfl⟩,g⟩;cases d1 with
        | some r=>exact wpS_pure (h1 _ _ ⟨gg,rfl⟩ ⟨r,rfl,g⟩)
        | none=>
          dsimp only;rw [setMinGallop'_eq];exact wpS_bind (wpS_modify (wpS_pure (h2 _ _ ⟨_,rfl⟩ rfl g.1 g.2)))
def zgU (C:Cm a b) (hk:kindOf st=oneType') {Q:Array Keyed -> SortSt -> Prop} (h:∀ r st',Gs st st' -> Good (tot a b) r -> Q r st') :
  wpS (model prog w) A E s (mergeLo' a b) Q st:=by
 rw [zfq];have pa:=C.pa;have pb:=C.pb;refine wpS_bind (wpS_lift (wpAny_rule ⟨rfl,?_⟩));refine wpS_bind (zaA (1:) λ y hy=>?_);have m0:ML a b #[] 0 0:=⟨List.Perm.refl _,zjV C.sa,zjV C.sb⟩
 have m:ML a b #[y] 0 1:=zje m0 hy λ j _ h2=>by
  rw [show kf y=K b 0 from (K_at hy).symm]; exact C.first j h2
 by_cases hz:1=b.size
 ·rw [if_pos (37:)];exact wpS_pure (h _ _ ⟨gallopOf st,rfl⟩ (zcm m (.inl hz)))
 ·rw [if_neg (37:)];by_cases hq : 0 + 1 = a.size
  ·rw [if_pos (49:)];exact wpS_pure (h _ _ ⟨gallopOf st,rfl⟩ (zds C m hq))
  ·rw [if_neg (49:)];refine wpS_bind (wpS_get ?_);refine wpS_bind (wpS_mono (wpS_forRange (I := fun x c st' => Gs st st' /\ c.1 = none /\ LI a b c.2.1 c.2.2.1 c.2.2.2.1 /\ x <= c.2.2.1 + c.2.2.2.1) (Q := fun c st' => Gs st st' /\ ∃ r, c.1 = some r /\ Good (tot a b) r) ?step ?fin ⟨⟨gallopOf st, rfl⟩, rfl, ⟨m, by show 0 + 1 < a.size; omega, by show 1 < b.size; omega⟩, by omega⟩) ?post)
   case fin=>
    rintro c st' ⟨_,_,l,hx⟩;have:=l.ha;have:=l.hb;omega
   case step=>
    rintro x c st' _ hx ⟨⟨g,rfl⟩,z,l,hn⟩;refine zh0 (st:=za0 st g) C hk l (λ d st'' gs hd=>?_) (λ d st'' gs hz l2 hn2=>?_)
    ·obtain ⟨g2,rfl⟩:=gs;exact ⟨⟨g2,rfl⟩,hd⟩
    ·obtain ⟨g2,rfl⟩:=gs;exact ⟨⟨g2,rfl⟩,hz,l2,by omega⟩
   case post=>
    rintro ⟨c1,c2⟩ st' ⟨gs,r,hr,g⟩;obtain rfl:c1=some r:=hr;exact wpS_pure (h r st' gs g)
end
end Srt
namespace Srt
open PySem PyProof.Rows
noncomputable abbrev HiSt:=Option (Array Keyed) × Nat × Nat × Array Keyed × Nat × Nat × Nat
noncomputable abbrev HiS1:=Option (Array Keyed) × Nat × Nat × Array Keyed × Nat × Nat
noncomputable abbrev zcT (a b out:Array Keyed) (na nb:Nat):Array Keyed:=a.extract 0 na ++ b.extract 0 nb ++ out.reverse
noncomputable abbrev zdE (a b out:Array Keyed) (na nb:Nat):Array Keyed:=b.extract 0 nb ++ a.extract 0 na ++ out.reverse
noncomputable def hi3 (a b out:Array Keyed) (na nb mg k k1:Nat):StateT SortSt Sem (ForInStep HiSt):=do
 let x <- elem' a (na - 1)
 if na - 1 == 0 then pure (.done (some (zcT a b (out.push x) (na - 1) nb),na - 1,nb,out.push x,mg,k,k1))
 else if k < 7 && k1 < 7 then pure (.done (none,na - 1,nb,out.push x,mg,k,k1))
 else pure (.yield (none,na - 1,nb,out.push x,mg,k,k1))
noncomputable def hi2 (a b out:Array Keyed) (na nb mg k bc:Nat):StateT SortSt Sem (ForInStep HiSt):=do
 let y <- elem' b (nb - 1)
 if nb - 1 == 1 then pure (.done (some (zdE a b (out.push y) na (nb - 1)),na,nb - 1,out.push y,mg,k,bc))
 else do
  let z <- elem' a (na - 1)
  let r <- gallop' true z b 0 (nb - 1) (nb - 1 - 1)
  match r with
  | some at_=>
   if nb - 1 - at_ > 0 then
    if at_ == 1 then pure (.done (some (zdE a b (out.push y ++ (b.extract at_ (nb - 1)).reverse) na at_),na,at_,out.push y ++ (b.extract at_ (nb - 1)).reverse,mg,k,nb - 1 - at_))
    else if at_ == 0 then pure (.done (some (zcT a b (out.push y ++ (b.extract at_ (nb - 1)).reverse) na at_),na,at_,out.push y ++ (b.extract at_ (nb - 1)).reverse,mg,k,nb - 1 - at_))
    else hi3 a b (out.push y ++ (b.extract at_ (nb - 1)).reverse) na at_ mg k (nb - 1 - at_)
   else hi3 a b (out.push y) na (nb - 1) mg k (nb - 1 - at_)
  | _=>pure (.done (some (zcT a b (out.push y) na (nb - 1)),na,nb - 1,out.push y,mg,k,bc))
noncomputable def hi1 (a b out:Array Keyed) (na nb mg ac bc:Nat):StateT SortSt Sem (ForInStep HiSt):=do
 setMinGallop' mg
 let y <- elem' b (nb - 1)
 let r <- gallop' false y a 0 na (na - 1)
 match r with
 | some at_=>
  if na - at_ > 0 then
   if at_ == 0 then pure (.done (some (zcT a b (out ++ (a.extract at_ na).reverse) at_ nb),at_,nb,out ++ (a.extract at_ na).reverse,mg,na - at_,bc))
   else hi2 a b (out ++ (a.extract at_ na).reverse) at_ nb mg (na - at_) bc
  else hi2 a b out na nb mg (na - at_) bc
 | _=>pure (.done (some (zcT a b out na nb),na,nb,out,mg,ac,bc))
noncomputable def hiB (a b:Array Keyed) (mg na nb:Nat) (out:Array Keyed) (ac bc:Nat):StateT SortSt Sem (ForInStep HiS1):=do
 let r <- lt' (<- elem' b (nb - 1)) (<- elem' a (na - 1))
 match r with
 | some aWins=>
  if aWins then do
   let x <- elem' a (na - 1)
   if na - 1 == 0 then pure (.done (some (zcT a b (out.push x) (na - 1) nb),na - 1,nb,out.push x,ac + 1,0))
   else if ac + 1 >= mg then pure (.done (none,na - 1,nb,out.push x,ac + 1,0))
   else pure (.yield (none,na - 1,nb,out.push x,ac + 1,0))
  else do
   let y <- elem' b (nb - 1)
   if nb - 1 == 1 then pure (.done (some (zdE a b (out.push y) na (nb - 1)),na,nb - 1,out.push y,0,bc + 1))
   else if bc + 1 >= mg then pure (.done (none,na,nb - 1,out.push y,0,bc + 1))
   else pure (.yield (none,na,nb - 1,out.push y,0,bc + 1))
 | _=>pure (.done (some (zcT a b out na nb),na,nb,out,ac,bc))
noncomputable def zjl (a b:Array Keyed) (na nb:Nat) (out:Array Keyed) (mg:Nat):StateT SortSt Sem (ForInStep (Option (Array Keyed) × Nat × Nat × Array Keyed × Nat)):=do
 let c <- forIn [0:a.size + b.size] ((none,na,nb,out,0,0):HiS1) λ _ c=>hiB a b mg c.2.1 c.2.2.1 c.2.2.2.1 c.2.2.2.2.1 c.2.2.2.2.2
 match c.1 with
 | some r=>pure (.done (some r,c.2.1,c.2.2.1,c.2.2.2.1,mg))
 | none=>do
  liftM (rule "list.sort.gallop")
  let d <- forIn [0:a.size + b.size] ((none,c.2.1,c.2.2.1,c.2.2.2.1,mg + 1,c.2.2.2.2.1,c.2.2.2.2.2):HiSt) λ _ d=>
   if d.2.2.2.2.1 > 1 then hi1 a b d.2.2.2.1 d.2.1 d.2.2.1 (d.2.2.2.2.1 - 1) d.2.2.2.2.2.1 d.2.2.2.2.2.2 else hi1 a b d.2.2.2.1 d.2.1 d.2.2.1 d.2.2.2.2.1 d.2.2.2.2.2.1 d.2.2.2.2.2.2
  match d.1 with
  | some r=>pure (.done (some r,d.2.1,d.2.2.1,d.2.2.2.1,d.2.2.2.2.1))
  | none=>do
   setMinGallop' (d.2.2.2.2.1 + 1)
   pure (.yield (none,d.2.1,d.2.2.1,d.2.2.2.1,d.2.2.2.2.1 + 1))
def ze5 (a b:Array Keyed):mergeHi' a b=(do
 liftM (rule "list.sort.merge-hi")
 let x <- elem' a (a.size - 1)
 if a.size - 1 == 0 then pure (zcT a b #[x] (a.size - 1) b.size)
 else if b.size == 1 then pure (zdE a b #[x] (a.size - 1) b.size)
 else do
  let st <- get
  let c <- forIn [0:a.size + b.size] ((none,a.size - 1,b.size,#[x],gallopOf st):Option (Array Keyed) × Nat × Nat × Array Keyed × Nat) λ _ c=>zjl a b c.2.1 c.2.2.1 c.2.2.2.1 c.2.2.2.2
  match c.1 with
  | some r=>pure r
  | none=>unsupported "internal:list.sort.merge-bound"):=by
 kernel_rfl
noncomputable abbrev MR (a b out:Array Keyed) (na nb:Nat):Prop:=MH (tot a b) out.toList.reverse (a.toList.take na) (b.toList.take nb)
variable {a b out:Array Keyed} {na nb:Nat}
def zbW (h:MR a b out na nb) (hz:na=0 \/ nb=0):Good (tot a b) (zcT a b out na nb):=by
 have e:(zcT a b out na nb).toList=a.toList.take na ++ b.toList.take nb ++ out.toList.reverse:=by
  rw [yaC,yaC,zc9,zc9,ybu]
 unfold Good;rw [e];refine ⟨h.perm,?_⟩;rcases hz with rfl | rfl
 ·rw [List.take_zero,List.nil_append]; exact h.sb
 ·rw [List.take_zero,ya2]; exact h.sa
def zcF (C:Cm a b) (h:MR a b out na 1):Good (tot a b) (zdE a b out na 1):=by
 have pb:=C.pb;have hb:b[0]?=some b[0]:=getElem?_pos b 0 (1:);have e2:b.toList.take 1=[b[0]]:=by rw [zgV hb]; rfl
 have e:(zdE a b out na 1).toList=[b[0]] ++ a.toList.take na ++ out.toList.reverse:=by
  rw [yaC,yaC,zc9,zc9,ybu,e2]
 unfold Good;rw [e];have h':=h;unfold MR at h';rw [e2] at h';refine h'.first λ y hy=>?_;obtain ⟨j,h1,h2,h3⟩:=zby hy;rw [h3,show kf b[0]=K b 0 from (K_at hb).symm];exact C.first j h2
def zgA (h:MR a b out na nb) (h1:1 <= na) {x:Keyed} (hx:a[na - 1]?=some x) (hle:∀ j,j < nb -> j < b.size -> K b j <= kf x):MR a b (out.push x) (na - 1) nb:=by
 have h':=h;unfold MR at h';rw [show na=na - 1 + 1 by omega,zgV hx] at h'
 have:=h'.one λ z hz=>by
  obtain ⟨j,h1,h2,h3⟩:=zby hz;rw [h3]; exact hle j h1 h2
 unfold MR;rw [ybM,ybB]; exact this
def zjm (h:MR a b out na nb) (h1:1 <= nb) {y:Keyed} (hy:b[nb - 1]?=some y) (hle:∀ j,j < na -> j < a.size -> K a j <= kf y):MR a b (out.push y) na (nb - 1):=by
 have h':=h.symm;rw [show nb=nb - 1 + 1 by omega,zgV hy] at h'
 have:=(h'.one λ z hz=>by
  obtain ⟨j,h1,h2,h3⟩:=zby hz;rw [h3]; exact hle j h1 h2).symm
 unfold MR;rw [ybM,ybB]; exact this
def zlc (h:MR a b out na nb) {k:Nat} (hk:k <= na) (hle:∀ i,k <= i -> i < na -> i < a.size -> ∀ j,j < nb -> j < b.size -> K b j <= K a i):MR a b (out ++ (a.extract k na).reverse) k nb:=by
 have:=h.take k λ x hx y hy=>by
  obtain ⟨i,h1,h2,h2',h3⟩:=zc4 hx;obtain ⟨j,g1,g2,g3⟩:=zby hy;rw [h3,g3]; exact hle i h1 h2 h2' j g1 g2
 unfold MR;rw [yaC,ybu,zfw,ybB,List.reverse_reverse];rw [yb9,ya7 hk] at this;exact this
def zlG (h:MR a b out na nb) {k:Nat} (hk:k <= nb) (hle:∀ i,k <= i -> i < nb -> i < b.size -> ∀ j,j < na -> j < a.size -> K a j <= K b i):MR a b (out ++ (b.extract k nb).reverse) na k:=by
 have:=(h.symm.take k λ x hx y hy=>by
  obtain ⟨i,h1,h2,h2',h3⟩:=zc4 hx;obtain ⟨j,g1,g2,g3⟩:=zby hy;rw [h3,g3]; exact hle i h1 h2 h2' j g1 g2).symm
 unfold MR;rw [yaC,ybu,zfw,ybB,List.reverse_reverse];rw [yb9,ya7 hk] at this;exact this
structure HI (a b out:Array Keyed) (na nb:Nat):Prop where
 mr:MR a b out na nb
 h1:1 <= na
 h2:2 <= nb
 ha:na <= a.size
 hb:nb <= b.size
noncomputable def HP (a b:Array Keyed) (n0:Nat) (c:Option (Array Keyed)) (na nb:Nat) (out:Array Keyed):Prop:=
 match c with
 | some r=>Good (tot a b) r
 | none=>HI a b out na nb /\ na + nb <= n0
section
variable {prog:Program} {w:World} {A:Around} {E:Value -> Shared -> Prop} {s:Shared} {st:SortSt} {mg k k1 ac bc n0:Nat}
def zin (C:Cm a b) (h:HI a b out na nb) (hn:na + nb <= n0) (hle:∀ j,j < nb -> j < b.size -> K b j <= K a (na - 1)) {Q:ForInStep HiSt -> SortSt -> Prop}
    (h1:∀ d:HiSt,HP a b n0 d.1 d.2.1 d.2.2.1 d.2.2.2.1 -> Q (.done d) st) (h2:∀ d:HiSt,d.1=none -> HP a b n0 d.1 d.2.1 d.2.2.1 d.2.2.2.1 -> Q (.yield d) st) :
    wpS (model prog w) A E s (hi3 a b out na nb mg k k1) Q st:=by
  unfold hi3;obtain ⟨mr,q1,q2,ha,hb⟩:=h;refine wpS_bind (zaA (1:) λ x hx=>?_);have m:=zgA mr q1 hx λ j h1 h2=>by rw [show kf x=K a (na - 1) from (K_at hx).symm]; exact hle j h1 h2
  by_cases hz:na - 1=0
  · rw [if_pos (37:)];exact wpS_pure (h1 _ (zbW m (.inl hz)))
  · rw [if_neg (37:)];have g : HP a b n0 none (na - 1) nb (out.push x) := ⟨⟨m, by omega, q2, by omega, hb⟩, by omega⟩
    split
    · exact wpS_pure (h1 _ g)
    · exact wpS_pure (h2 _ rfl g)
def ziW (C:Cm a b) (hk:kindOf st=oneType') (h:HI a b out na nb) (hn:na + nb <= n0) (hle:∀ j,j < na -> j < a.size -> K a j <= K b (nb - 1)) {Q:ForInStep HiSt -> SortSt -> Prop}
    (h1:∀ d:HiSt,HP a b n0 d.1 d.2.1 d.2.2.1 d.2.2.2.1 -> Q (.done d) st) (h2:∀ d:HiSt,d.1=none -> HP a b n0 d.1 d.2.1 d.2.2.1 d.2.2.2.1 -> Q (.yield d) st) :
    wpS (model prog w) A E s (hi2 a b out na nb mg k bc) Q st:=by
  unfold hi2;obtain ⟨mr,q1,q2,ha,hb⟩:=h;refine wpS_bind (zaA (1:) λ y hy=>?_);have m:=zjm mr (1:) hy λ j h1 h2=>by rw [show kf y=K b (nb - 1) from (K_at hy).symm]; exact hle j h1 h2
  by_cases hz:nb - 1=1
  · rw [if_pos (37:)];refine wpS_pure (h1 _ ?_);dsimp only;rw [hz] at m ⊢;exact zcF C m
  · rw [if_neg (37:)];refine wpS_bind (zaA (1:) fun z hz' => ?_);refine wpS_bind (zbx hk (C.ia _ _ hz') C.ib (1:) (1:) (fun i j hij hj => C.sb _ _ (1:) (1:)) fun k2 hk2 p1 p2 => ?_);dsimp only;have hzk : numOf z.1 = K a (na - 1) := (K_at hz').symm;have ah : ∀ i, zaJ true (numOf z.1) (K b (0 + i)) ↔ K b i < K a (na - 1) := fun i => by unfold zaJ; rw [if_pos rfl, hzk, yb7]
    have m2:MR a b (out.push y ++ (b.extract k2 (nb - 1)).reverse) na k2:=zlG m hk2 λ i h1 h2 h2' j g1 g2=>by
      have:=mt (ah i).mpr (p2 i h1 h2);have:=C.sa j (na - 1) (1:) (1:);omega
    have nx:∀ j,j < k2 -> j < b.size -> K b j <= K a (na - 1):=λ j h1 h2=>ybo ((ah j).mp (p1 j h1));by_cases hk0:nb - 1 - k2 > 0
    · rw [if_pos hk0];by_cases hq : k2 = 1
      · rw [if_pos (49:)];subst hq;exact wpS_pure (h1 _ (zcF C m2))
      · rw [if_neg (49:)];by_cases hq2 : k2 = 0
        · rw [if_pos (by simpa using hq2)];exact wpS_pure (h1 _ (zbW m2 (.inr hq2)))
        · rw [if_neg (by simpa using hq2)];exact zin C ⟨m2,q1,by omega,ha,by omega⟩ (1:) nx h1 h2
    · rw [if_neg hk0];have e : k2 = nb - 1 := by omega
      subst e;exact zin C ⟨m,q1,by omega,ha,by omega⟩ (1:) nx h1 h2
def zlp (C:Cm a b) (hk:kindOf st=oneType') (h:HI a b out na nb) (hn:na + nb <= n0) {Q:ForInStep HiSt -> SortSt -> Prop}
    (h1:∀ d:HiSt,HP a b n0 d.1 d.2.1 d.2.2.1 d.2.2.2.1 -> Q (.done d) (za0 st mg)) (h2:∀ d:HiSt,d.1=none -> HP a b n0 d.1 d.2.1 d.2.2.1 d.2.2.2.1 -> Q (.yield d) (za0 st mg)) :
    wpS (model prog w) A E s (hi1 a b out na nb mg ac bc) Q st:=by
  unfold hi1;have h0:=h;obtain ⟨mr,q1,q2,ha,hb⟩:=h;rw [setMinGallop'_eq];refine wpS_bind (wpS_modify ?_);refine wpS_bind (zaA (1:) λ y hy=>?_);refine wpS_bind (zbx (st:=za0 st mg) hk (C.ib _ _ hy) C.ia (1:) (1:) (λ i j hij hj=>C.sa _ _ (1:) (1:)) λ k2 hk2 p1 p2=>?_);dsimp only;have hyk:numOf y.1=K b (nb - 1):=(K_at hy).symm;have ah:∀ i,zaJ false (numOf y.1) (K a (0 + i)) ↔ K a i <= K b (nb - 1):=λ i=>by unfold zaJ; rw [if_neg (3:),hyk,yb7]
  have m2:MR a b (out ++ (a.extract k2 na).reverse) k2 nb:=zlc mr hk2 λ i h1 h2 h2' j g1 g2=>by
    have:=mt (ah i).mpr (p2 i h1 h2);have:=C.sb j (nb - 1) (1:) (1:);omega
  have nx:∀ j,j < k2 -> j < a.size -> K a j <= K b (nb - 1):=λ j h1 h2=>(ah j).mp (p1 j h1);by_cases hk0:na - k2 > 0
  · rw [if_pos hk0];by_cases hq : k2 = 0
    · rw [if_pos (49:)];exact wpS_pure (h1 _ (zbW m2 (.inl hq)))
    · rw [if_neg (49:)];exact ziW (st:=za0 st mg) C hk ⟨m2,by omega,q2,by omega,hb⟩ (1:) nx h1 h2
  · rw [if_neg hk0];have : k2 = na := by omega
    subst this;exact ziW (st:=za0 st mg) C hk h0 (1:) nx h1 h2
def zlh (C:Cm a b) (hk:kindOf st=oneType') (h:HI a b out na nb) (hn:na + nb <= n0 + 1) {Q:ForInStep HiS1 -> SortSt -> Prop}
    (h1:∀ d:HiS1,HP a b n0 d.1 d.2.1 d.2.2.1 d.2.2.2.1 -> Q (.done d) st) (h2:∀ d:HiS1,d.1=none -> HP a b n0 d.1 d.2.1 d.2.2.1 d.2.2.2.1 -> Q (.yield d) st) :
    wpS (model prog w) A E s (hiB a b mg na nb out ac bc) Q st:=by
  unfold hiB;obtain ⟨mr,q1,q2,ha,hb⟩:=h;refine wpS_bind (zaA (1:) λ y hy=>?_);refine wpS_bind (zaA (1:) λ x hx=>?_);refine wpS_bind (zfT hk (C.ib _ _ hy) (C.ia _ _ hx) ?_);dsimp only;have ey:numOf y.1=K b (nb - 1):=(K_at hy).symm;have ex:numOf x.1=K a (na - 1):=(K_at hx).symm;by_cases hl:numOf y.1 < numOf x.1
  · rw [if_pos (by simpa using hl)];refine wpS_bind (zaA (1:) fun x' hx' => ?_);obtain rfl : x = x' := by rw [hx] at hx'; exact Option.some.inj hx'
    have m:=zgA mr q1 hx λ j g1 g2=>by
      have:=C.sb j (nb - 1) (1:) (1:);show _ <= numOf x.1;omega
    by_cases hz:na - 1=0
    · rw [if_pos (37:)];exact wpS_pure (h1 _ (zbW m (.inl hz)))
    · rw [if_neg (37:)];have g : HP a b n0 none (na - 1) nb (out.push x) := ⟨⟨m, by omega, q2, by omega, hb⟩, by omega⟩
      split
      · exact wpS_pure (h1 _ g)
      · exact wpS_pure (h2 _ rfl g)
  · rw [if_neg (by simpa using hl)];refine wpS_bind (zaA (1:) fun y' hy' => ?_);obtain rfl : y = y' := by rw [hy] at hy'; exact Option.some.inj hy'
    have m:=zjm mr (1:) hy λ j g1 g2=>by
      have:=C.sa j (na - 1) (1:) (1:);show _ <= numOf y.1;omega
    by_cases hz:nb - 1=1
    · rw [if_pos (37:)];refine wpS_pure (h1 _ ?_);dsimp only;rw [hz] at m ⊢;exact zcF C m
    · rw [if_neg (37:)];have g : HP a b n0 none na (nb - 1) (out.push y) := ⟨⟨m, q1, by omega, ha, by omega⟩, by omega⟩
      split
      · exact wpS_pure (h1 _ g)
      · exact wpS_pure (h2 _ rfl g)
def zhT (C:Cm a b) (hk:kindOf st=oneType') (h:HI a b out na nb) {Q:ForInStep (Option (Array Keyed) × Nat × Nat × Array Keyed × Nat) -> SortSt -> Prop}
    (h1:∀ d st',Gs st st' -> (∃ r,d.1=some r /\ Good (tot a b) r) -> Q (.done d) st') (h2:∀ d st',Gs st st' -> d.1=none -> HI a b d.2.2.2.1 d.2.1 d.2.2.1 -> d.2.1 + d.2.2.1 + 1 <= na + nb -> Q (.yield d) st') :
    wpS (model prog w) A E s (zjl a b na nb out mg) Q st:=by
  unfold zjl;have pa:=C.pa;have p1:=h.h1;have p2:=h.h2;have p3:=h.ha;have p4:=h.hb;refine wpS_bind (wpS_mono (wpS_forRange (I:=λ x c st'=>st'=st /\ c.1=none /\ HP a b (na + nb - x) c.1 c.2.1 c.2.2.1 c.2.2.2.1) (Q:=λ c st'=>st'=st /\ HP a b (na + nb - 1) c.1 c.2.1 c.2.2.1 c.2.2.2.1) ?step ?fin ?init) ?post)
  case init=>exact ⟨rfl,rfl,h,by show na + nb <= na + nb - 0; omega⟩
  case fin=>
    rintro ⟨c1,c2⟩ st' ⟨rfl,z,g⟩;obtain rfl:c1=none:=z;refine ⟨rfl,g.1,?_⟩;have:=g.2;omega
  case step=>
    rintro x ⟨c1,c2⟩ st' _ hx ⟨rfl,z,g⟩;obtain rfl:c1=none:=z;have g1:=g.1;have g2:=g.2;have g3:=g1.h1;refine zlh (n0:=na + nb - x - 1) C hk g1 (1:) (λ d hd=>⟨rfl,?_⟩) (λ d hz hd=>⟨rfl,hz,?_⟩)
    · obtain ⟨d1, d2⟩ := d;cases d1 with
      | some r=>exact hd
      | none=>exact ⟨hd.1,by have:=hd.2; omega⟩
    · rw [show na + nb - (x + 1)=na + nb - x - 1 by omega]; exact hd
  case post=>
    rintro ⟨c1,c2⟩ st' ⟨rfl,g⟩;cases c1 with
    | some r=>exact wpS_pure (h1 _ _ ⟨gallopOf st',rfl⟩ ⟨r,rfl,g⟩)
    | none=>
      dsimp only;refine wpS_bind (wpS_lift (wpAny_rule ⟨rfl,?_⟩));refine wpS_bind (wpS_mono (wpS_forRange (I:=λ x c st''=>Gs st' st'' /\ c.1=none /\ HP a b (na + nb - 1) c.1 c.2.1 c.2.2.1 c.2.2.2.1) (Q:=λ c st''=>Gs st' st'' /\ HP a b (na + nb - 1) c.1 c.2.1 c.2.2.1 c.2.2.2.1) ?step2 ?fin2 ⟨⟨gallopOf st',rfl⟩,rfl,g⟩) ?post2)
      case fin2=>
        rintro c st'' ⟨gs,z,g⟩;exact ⟨gs,g⟩
      case step2=>
        rintro x ⟨d1,d2⟩ st'' _ hx ⟨⟨gg,rfl⟩,z,g⟩;obtain rfl:d1=none:=z;dsimp only
        have one:∀ m,wpS (model prog w) A E s (hi1 a b d2.2.2.1 d2.1 d2.2.1 m d2.2.2.2.2.1 d2.2.2.2.2.2) (λ r st''=>match r with | .done c=>Gs st' st'' /\ HP a b (na + nb - 1) c.1 c.2.1 c.2.2.1 c.2.2.2.1 | .yield c=>Gs st' st'' /\ c.1=none /\ HP a b (na + nb - 1) c.1 c.2.1 c.2.2.1 c.2.2.2.1) (za0 st' gg):=λ m=>
          zlp (st:=za0 st' gg) (out:=d2.2.2.1) (na:=d2.1) (nb:=d2.2.1) (n0:=na + nb - 1) C hk g.1 g.2 (λ d hd=>⟨⟨m,rfl⟩,hd⟩) (λ d hz hd=>⟨⟨m,rfl⟩,hz,hd⟩)
        split
        · exact wpS_mono (one _) λ r _ hr=>by cases r <;> exact hr
        · exact wpS_mono (one _) λ r _ hr=>by cases r <;> exact hr
      case post2=>
        rintro ⟨d1,d2⟩ st'' ⟨⟨gg,rfl⟩,g⟩;cases d1 with
        | some r=>exact wpS_pure (h1 _ _ ⟨gg,rfl⟩ ⟨r,rfl,g⟩)
        | none=>
          dsimp only;rw [setMinGallop'_eq];have:=g.2;exact wpS_bind (wpS_modify (wpS_pure (h2 _ _ ⟨_,rfl⟩ rfl g.1 (by dsimp only at *; omega))))
def zgL (C:Cm a b) (hk:kindOf st=oneType') {Q:Array Keyed -> SortSt -> Prop} (h:∀ r st',Gs st st' -> Good (tot a b) r -> Q r st') :
  wpS (model prog w) A E s (mergeHi' a b) Q st:=by
 rw [ze5];have pa:=C.pa;have pb:=C.pb;refine wpS_bind (wpS_lift (wpAny_rule ⟨rfl,?_⟩));refine wpS_bind (zaA (1:) λ x hx=>?_)
 have m0:MR a b #[] a.size b.size:=by
  unfold MR;have e1:a.toList.take a.size=a.toList:=yaq (6:);have e2:b.toList.take b.size=b.toList:=yaq (6:);rw [e1,e2];exact ⟨by show (tot a b ++ []).Perm _; rw [ya2],by show Sr (a.toList ++ []); rw [ya2]; exact zjV C.sa,by show Sr (b.toList ++ []); rw [ya2]; exact zjV C.sb⟩
 have m:MR a b #[x] (a.size - 1) b.size:=zgA m0 (1:) hx λ j h2 _=>by
  rw [show kf x=K a (a.size - 1) from (K_at hx).symm]; exact C.last j h2
 by_cases hz:a.size - 1=0
 ·rw [if_pos (37:)];exact wpS_pure (h _ _ ⟨gallopOf st,rfl⟩ (zbW m (.inl hz)))
 ·rw [if_neg (37:)];by_cases hq : b.size = 1
  ·rw [if_pos (49:)];refine wpS_pure (h _ _ ⟨gallopOf st,rfl⟩ ?_);rw [hq] at m ⊢;exact zcF C m
  ·rw [if_neg (49:)];refine wpS_bind (wpS_get ?_);refine wpS_bind (wpS_mono (wpS_forRange (I := fun x c st' => Gs st st' /\ c.1 = none /\ HI a b c.2.2.2.1 c.2.1 c.2.2.1 /\ c.2.1 + c.2.2.1 + x <= a.size + b.size) (Q := fun c st' => Gs st st' /\ ∃ r, c.1 = some r /\ Good (tot a b) r) ?step ?fin ?init) ?post)
   case init=>exact ⟨⟨gallopOf st,rfl⟩,rfl,⟨m,by show 1 <= a.size - 1; omega,by show 2 <= b.size; omega,by show a.size - 1 <= _; omega,yad _⟩,by show a.size - 1 + b.size + 0 <= _; omega⟩
   case fin=>
    rintro c st' ⟨_,_,l,hx⟩;have:=l.h1;have:=l.h2;omega
   case step=>
    rintro x c st' _ hx ⟨⟨g,rfl⟩,z,l,hn⟩;refine zhT (st:=za0 st g) C hk l (λ d st'' gs hd=>?_) (λ d st'' gs hz l2 hn2=>?_)
    ·obtain ⟨g2,rfl⟩:=gs;exact ⟨⟨g2,rfl⟩,hd⟩
    ·obtain ⟨g2,rfl⟩:=gs;exact ⟨⟨g2,rfl⟩,hz,l2,by omega⟩
   case post=>
    rintro ⟨c1,c2⟩ st' ⟨gs,r,hr,g⟩;obtain rfl:c1=some r:=hr;exact wpS_pure (h r st' gs g)
end
end Srt
namespace Srt
open PySem PyProof.Rows
noncomputable def laid (xs:Array Keyed) (at_:Nat) (ys:List Keyed):Array Keyed:=ys.zipIdx.foldl (λ a (p,j)=>a.setIfInBounds (at_ + j) p) xs
noncomputable def zko (at_:Nat) (m:Array Keyed):StateT SortSt Sem Bool:=do
 modify λ s=>setArr s (laid (arrOf s) at_ m.toList)
 pure (failedOf (<- get)).isNone
noncomputable def zgt (a:Array Keyed) (sa na sb nb:Nat):StateT SortSt Sem Bool:=do
 let y <- elem' a sb
 let r <- gallop' false y a sa na 0
 match r with
 | some k=>
  if na - k == 0 then pure true
  else do
   let x <- elem' a (sa + k + (na - k) - 1)
   let q <- gallop' true x a sb nb (nb - 1)
   match q with
   | some nb2=>
    if nb2 == 0 then pure true
    else if na - k <= nb2 then mergeLo' (a.extract (sa + k) sb) (a.extract sb (sb + nb2)) >>= zko (sa + k)
    else mergeHi' (a.extract (sa + k) sb) (a.extract sb (sb + nb2)) >>= zko (sa + k)
   | _=>pure false
 | _=>pure false
def zhS (i:Nat):mergeAt' i=(do
   let st <- get
   match (pendingOf st)[i]?,(pendingOf st)[i + 1]? with
    | some (sa,na,p),some (sb,nb,_)=>do
       set (setPending st (((pendingOf st).setIfInBounds i (sa,na + nb,p)).eraseIdxIfInBounds (i + 1)))
       zgt (arrOf st) sa na sb nb
    | _,_=>unsupported "internal:list.sort.pending"):=by
  kernel_rfl
def zjL (ys:List Keyed):∀ (xs:Array Keyed) (k n:Nat),((ys.zipIdx n).foldl (λ a (p,j)=>a.setIfInBounds (k + j) p) xs).size=xs.size:=by
 induction ys with
 | nil=>intros; rfl
 | cons y ys ih=>intro xs k n; rw [List.zipIdx_cons,yb0,ih]; simp
def zkh (ys:List Keyed):∀ (xs:Array Keyed) (k n i:Nat),k + n + ys.length <= xs.size ->
    ((ys.zipIdx n).foldl (λ a (p,j)=>a.setIfInBounds (k + j) p) xs)[i]?=if k + n <= i /\ i < k + n + ys.length then ys[i - (k + n)]? else xs[i]?:=by
  induction ys with
  | nil=>intro xs k n i _; rw [if_neg (6:)]; rfl
  | cons y ys ih=>
    intro xs k n i h;rw [yby] at h;rw [List.zipIdx_cons,yb0,ih _ _ _ _ (38:)];by_cases h1:i=k + n
    · subst h1;rw [if_neg (1:),if_pos (6:)];simp only [Nat.sub_self,List.getElem?_cons_zero];rw [Array.getElem?_setIfInBounds_self_of_lt (1:)]
    · by_cases h2 : k + (n + 1) <= i /\ i < k + (n + 1) + ys.length
      · rw [if_pos h2,if_pos (38:),show i - (k + n)=i - (k + (n + 1)) + 1 by omega,List.getElem?_cons_succ]
      · rw [if_neg h2,if_neg (38:),Array.getElem?_setIfInBounds_ne (1:)]
def zjF {xs:Array Keyed} {k:Nat} {ys:List Keyed} (h:k + ys.length <= xs.size):(laid xs k ys).toList=xs.toList.take k ++ ys ++ xs.toList.drop (k + ys.length):=by
 apply ybr;intro i;have e:=zkh ys xs k 0 i (1:);have e':(laid xs k ys).toList[i]?=(laid xs k ys)[i]?:=by simp
 rw [e'];unfold laid;rw [show (ys.zipIdx)=ys.zipIdx 0 from rfl,e];by_cases h1:i < k
 ·rw [if_neg (1:),yan,ya1 (38:),List.getElem?_take_of_lt h1];simp
 ·by_cases h2 : i < k + ys.length
  ·rw [if_pos (1:),yan,yaL (38:),ya1 (38:)];congr 1;simp; omega
  ·rw [if_neg (1:),yan,yaL (38:),yaL (38:),List.getElem?_drop];rw [show xs[i]?=xs.toList[i]? by simp];congr 1;simp; omega
def znC {xs:Array Keyed} (h:Sr xs.toList):SortedTo xs xs.size:=by
 intro i j hij hj;rw [K_eq (1:),K_eq hj];rcases ybg i j with h1 | h1
 ·have:=yaJ.mp h i j (38:) (by simpa using hj) h1;simpa using this
 ·have : i = j := by omega
  subst this; exact ybp _
def zgm {xs:Array Keyed} {i j k:Nat} (hj:j <= xs.size) (h:i + k < j):K (xs.extract i j) k=K xs (i + k):=by
 refine K_congr ?_;rw [Array.getElem?_extract];rw [if_pos (1:)]
def zcS {xs:Array Keyed} (h:zda xs) (i j:Nat):zda (xs.extract i j):=by
 intro k x hx;rw [Array.getElem?_extract] at hx
 split at hx
 ·exact h _ _ hx
 ·cases hx
def between {L1 X Y L2 M:List Keyed} (h1:Sr (L1 ++ X)) (h2:Sr (Y ++ L2)) (h3:∀ l ∈ L1,∀ y ∈ Y ++ L2,kf l <= kf y) (h4:∀ x ∈ X,∀ y ∈ L2,kf x <= kf y) (hp:M.Perm (X ++ Y)) (hs:Sr M) :
  (L1 ++ M ++ L2).Perm (L1 ++ X ++ (Y ++ L2)) /\ Sr (L1 ++ M ++ L2):=by
 refine ⟨?_,?_⟩
 ·rw [yan,yan,<- yan X];exact ybn _ (ybK _ hp)
 ·have q1 := yap.mp h1;have q2 := yap.mp h2;rw [Sr, yan, yap];refine ⟨q1.1, yap.mpr ⟨hs, q2.2.1, fun m hm y hy => ?_⟩, fun l hl y hy => ?_⟩
  ·rcases yaK.mp (hp.mem_iff.mp hm) with hm | hm
   ·exact h4 m hm y hy
   ·exact q2.2.2 m hm y hy
  ·rcases yaK.mp hy with hy | hy
   ·rcases yaK.mp (hp.mem_iff.mp hy) with hy | hy
    ·exact q1.2.2 l hl y hy
    ·exact h3 l hl y (ybs _ hy)
   ·exact h3 l hl y (yat _ hy)
section
variable {prog:Program} {w:World} {A:Around} {E:Value -> Shared -> Prop} {s:Shared} {st:SortSt}
def zgw {a:Array Keyed} {n:Nat} (hk:kindOf st=oneType') (hf:failedOf st=none) (ha:arrOf st=a) (hi:zda a) (h1:1 <= n) (h2:n < a.size)
  (s1:SortedTo a n) (s2:∀ i j,n <= i -> i <= j -> j < a.size -> K a i <= K a j) {Q:Bool -> SortSt -> Prop}
  (h:∀ st',pendingOf st'=pendingOf st -> failedOf st'=none -> (arrOf st').Perm a -> SortedTo (arrOf st') a.size -> Q true st') :
  wpS (model prog w) A E s (zgt a 0 n n (a.size - n)) Q st:=by
 unfold zgt
 -- already in order
 have inOrder:K a (n - 1) <= K a n -> Q true st:=λ hle=>by
  refine h st rfl hf (by rw [ha]) ?_;rw [ha];intro i j hij hj;by_cases c1:j < n
  ·exact s1 i j hij c1
  ·by_cases c2 : n <= i
   ·exact s2 i j c2 hij hj
   ·exact ybh (s1 i (n - 1) (1:) (1:)) (ybh hle (s2 n j (1:) (1:) hj))
 refine wpS_bind (zaA (1:) λ y hy=>?_);refine wpS_bind (zbx hk (hi _ _ hy) hi (1:) (1:) (λ i j hij hj=>s1 _ _ (1:) (1:)) λ k hk1 p1 p2=>?_);dsimp only;have hyk:numOf y.1=K a n:=(K_at hy).symm;have ah:∀ i,zaJ false (numOf y.1) (K a (0 + i)) ↔ K a i <= K a n:=λ i=>by unfold zaJ; rw [if_neg (3:),hyk,yb7]
 by_cases hz:n - k=0
 ·rw [if_pos (37:)];exact wpS_pure (inOrder ((ah (n - 1)).mp (p1 (n - 1) (1:))))
 ·rw [if_neg (37:)];have e0 : 0 + k + (n - k) - 1 = n - 1 := by omega
  refine wpS_bind (zaA (1:) λ x hx=>?_);refine wpS_bind (zbx hk (hi _ _ hx) hi (1:) (1:) (λ i j hij hj=>s2 _ _ (1:) (1:) (1:)) λ k2 hk2 r1 r2=>?_);dsimp only;have hxk:numOf x.1=K a (n - 1):=by rw [<- e0]; exact (K_at hx).symm
  have ah2:∀ i,zaJ true (numOf x.1) (K a (n + i)) ↔ K a (n + i) < K a (n - 1):=λ i=>by unfold zaJ; rw [if_pos rfl,hxk]
  by_cases hz2:k2=0
  ·rw [if_pos (by simpa using hz2)];refine wpS_pure (inOrder ?_);have:=mt (ah2 0).mpr (r2 0 (1:) (1:));simp only [yb8] at this;omega
  ·rw [if_neg (by simpa using hz2)];rw [yb7];have zX : (a.extract k n).size = n - k := by simp; omega
   have zY:(a.extract n (n + k2)).size=k2:=by simp; omega
   have kX:∀ i,i < n - k -> K (a.extract k n) i=K a (k + i):=λ i hi=>zgm (1:) (1:);have kY:∀ i,i < k2 -> K (a.extract n (n + k2)) i=K a (n + i):=λ i hi=>zgm (1:) (1:)
   have up:∀ i,k <= i -> i < n -> K a n < K a i:=λ i q1 q2=>by
    have:=mt (ah i).mpr (p2 i q1 q2);omega
   have C:Cm (a.extract k n) (a.extract n (n + k2)):=by
    refine ⟨zcS hi _ _,zcS hi _ _,?_,?_,by omega,by omega,?_,?_⟩
    ·rw [zX]; intro i j hij hj;rw [kX i (1:),kX j hj]; exact s1 _ _ (1:) (1:)
    ·rw [zY]; intro i j hij hj;rw [kY i (1:),kY j hj]; exact s2 _ _ (1:) (1:) (1:)
    ·rw [zX,zY]; intro j hj;rw [kY j hj,kX _ (1:),show k + (n - k - 1)=n - 1 by omega];exact ybo ((ah2 j).mp (r1 j hj))
    ·rw [zX]; intro j hj;rw [kY 0 (1:),kX j hj];exact ybo (up _ (1:) (1:))
   have fin:∀ r st',Gs st st' -> Good (tot (a.extract k n) (a.extract n (n + k2))) r -> wpS (model prog w) A E s (zko k r) Q st':=by
    rintro r st' ⟨g,rfl⟩ ⟨gp,gs⟩;unfold zko;refine wpS_bind (wpS_modify (wpS_bind (wpS_get ?_)));have ef:(failedOf st).isNone=true:=by rw [hf]; rfl
    show wpS _ _ _ _ (pure (failedOf st).isNone) Q _;rw [ef];refine wpS_pure (h _ rfl hf ?_ ?_)
    all_goals
     have hl:r.toList.length=n - k + k2:=by
      rw [gp.length_eq]; simp only [tot,yaF,ybz,zX,zY]
     have el:(laid a k r.toList).toList=a.toList.take k ++ r.toList ++ a.toList.drop (n + k2):=by
      rw [zjF (1:),hl,show k + (n - k + k2)=n + k2 by omega]
     have eX:(a.extract k n).toList=(a.toList.take n).drop k:=zfw;have eY:(a.extract n (n + k2)).toList=(a.toList.drop n).take k2:=zeu
     have sA:Sr (a.toList.take k ++ (a.toList.take n).drop k):=by
      have e:a.toList.take k ++ (a.toList.take n).drop k=a.toList.take n:=by
       have:=yaG k (a.toList.take n)
       rwa [yb9,ya7 (1:)] at this
      rw [e,Sr,yaJ];intro i j hi' hj' hij;simp at hi' hj';have:=s1 i j (1:) (1:);rw [K_eq (1:),K_eq (1:)] at this;simpa using this
     have sB:Sr ((a.toList.drop n).take k2 ++ a.toList.drop (n + k2)):=by
      rw [<- ybN,yaG,Sr,yaJ];intro i j hi' hj' hij;simp at hi' hj';have:=s2 (n + i) (n + j) (1:) (1:) (1:);rw [K_eq (1:),K_eq (1:)] at this;simpa using this
     have whole:a.toList.take k ++ (a.toList.take n).drop k ++ ((a.toList.drop n).take k2 ++ a.toList.drop (n + k2))=a.toList:=by
      have e:a.toList.take k ++ (a.toList.take n).drop k=a.toList.take n:=by
       have:=yaG k (a.toList.take n)
       rwa [yb9,ya7 (1:)] at this
      rw [e,<- ybN,yaG,yaG]
     have bt:=between (L1:=a.toList.take k) (X:=(a.toList.take n).drop k) (Y:=(a.toList.drop n).take k2) (L2:=a.toList.drop (n + k2)) (M:=r.toList) sA sB (λ l hl' y hy'=>by
      obtain ⟨i,i1,i2,i3⟩:=zby hl';have hy2:y ∈ a.toList.drop n:=by rwa [<- ybN,yaG] at hy'
      obtain ⟨j,j1,j2,j3⟩:=zbc hy2;rw [i3,j3];exact ybh ((ah i).mp (p1 i i1)) (s2 n j (1:) j1 j2)) (λ x' hx' y hy'=>by
      obtain ⟨i,i1,i2,i2',i3⟩:=zc4 hx';obtain ⟨j,j1,j2,j3⟩:=zbc hy';rw [i3,j3];have q:=mt (ah2 (j - n)).mpr (r2 (j - n) (1:) (1:));rw [show n + (j - n)=j by omega] at q;exact ybh (s1 i (n - 1) (1:) (1:)) (1:)) (by rw [<- eX,<- eY]; exact gp) gs
     rw [whole] at bt
     have arr:arrOf (setArr (za0 st g) (laid (arrOf (za0 st g)) k r.toList))=laid a k r.toList:=by
      show laid (arrOf st) k r.toList=_;rw [ha]
    ·rw [arr,Array.perm_iff_toList_perm,el]; exact bt.1
    ·rw [arr];have := znC (xs := laid a k r.toList) (by rw [el]; exact bt.2);have e : (laid a k r.toList).size = a.size := zjL _ _ _ _
     rwa [e] at this
   split
   ·exact wpS_bind (zgU C hk λ r st' gs gd=>fin r st' gs gd)
   ·exact wpS_bind (zgL C hk λ r st' gs gd=>fin r st' gs gd)
end
end Srt
namespace Srt
open PySem PyProof.Rows
noncomputable def rise (lo a nrem:Nat):StateT SortSt Sem (Option (Option Nat) × Nat):=
 forIn [a:nrem] ((none,a):Option (Option Nat) × Nat) λ _ c=>do
  match <- ltAt' (lo + c.2) (lo + c.2 - 1) with
  | some b=>if b then pure (.done (none,c.2)) else pure (.yield (none,c.2 + 1))
  | _=>pure (.done (some none,c.2))
noncomputable def fall (lo a nrem:Nat):StateT SortSt Sem (Option (Option Nat) × Nat × Nat):=
 forIn [a:nrem] ((none,a,0):Option (Option Nat) × Nat × Nat) λ _ c=>do
  match <- ltAt' (lo + c.2.1) (lo + c.2.1 - 1) with
  | some b=>
   if b then
    if c.2.2 > 0 then do
     reverseSlice' (lo + c.2.1 - (c.2.2 + 1)) (lo + c.2.1)
     pure (.yield (none,c.2.1 + 1,0))
    else pure (.yield (none,c.2.1 + 1,0))
   else do
    match <- ltAt' (lo + c.2.1 - 1) (lo + c.2.1) with
    | some g=>if g then pure (.done (none,c.2.1,c.2.2)) else pure (.yield (none,c.2.1 + 1,c.2.2 + 1))
    | _=>pure (.done (some none,c.2.1,c.2.2))
  | _=>pure (.done (some none,c.2.1,c.2.2))
noncomputable def zdb (lo n nrem:Nat):StateT SortSt Sem (Option Nat):=do
 reverseSlice' lo (lo + n)
 let c <- rise lo n nrem
 match c.1 with
 | some r=>pure r
 | none=>pure (some c.2)
noncomputable def zfh (lo n nrem:Nat):StateT SortSt Sem (Option Nat):=do
 liftM (rule "list.sort.descending-run")
 let c <- fall lo (n + 1) nrem
 match c.1 with
 | some r=>pure r
 | none=>if c.2.2 > 0 then (reverseSlice' (lo + c.2.1 - (c.2.2 + 1)) (lo + c.2.1) >>= λ _=>zdb lo c.2.1 nrem) else zdb lo c.2.1 nrem
def zeE (lo nrem:Nat):countRun' lo nrem=(do
  let c <- rise lo 1 nrem
  match c.1 with
  | some r=>pure r
  | none=>
   if c.2 == nrem then pure (some c.2)
   else if c.2 > 1 then do
    match <- ltAt' lo (lo + c.2 - 1) with
    | some b=>if b then pure (some c.2) else do
      reverseSlice' lo (lo + c.2)
      zfh lo c.2 nrem
    | _=>pure none
   else zfh lo c.2 nrem):=by
 kernel_rfl
structure SB (a₀:Array Keyed) (lo:Nat) (p:Array (Nat × Nat × Nat)) (f:Nat -> Int) (st:SortSt):Prop where
 perm:(arrOf st).Perm a₀
 kind:kindOf st=oneType'
 failed:failedOf st=none
 pend:pendingOf st=p
 low:∀ i,i < lo -> K (arrOf st) i=f i
variable {a₀:Array Keyed} {lo:Nat} {p:Array (Nat × Nat × Nat)} {f:Nat -> Int} {st:SortSt}
def SB.size (h:SB a₀ lo p f st):(arrOf st).size=a₀.size:=h.perm.size_eq
def SB.put (h:SB a₀ lo p f st) {xs:Array Keyed} (hp:xs.Perm (arrOf st)) (hl:∀ i,i < lo -> K xs i=K (arrOf st) i):SB a₀ lo p f (setArr st xs):=
 ⟨hp.trans h.perm,h.kind,h.failed,h.pend,λ i hi=>(hl i hi).trans (h.low i hi)⟩
def zee {xs:Array Keyed} (h0:IntKeys a₀) (hp:xs.Perm a₀):zda xs:=by
 intro i x hx
 have hi:i < xs.size:=by
  rcases ybg i xs.size with h1 | h1
  ·exact h1
  ·rw [getElem?_neg xs i (1:)] at hx; cases hx
 rw [getElem?_pos xs i hi] at hx;have e:=Option.some.inj hx;exact h0 _ ((Array.perm_iff_toList_perm.mp hp).mem_iff.mp (by rw [<- e]; simp))
noncomputable def Up (lo:Nat) (xs:Array Keyed) (m:Nat):Prop:=∀ i j,i <= j -> j < m -> K xs (lo + i) <= K xs (lo + j)
noncomputable def Dn (lo:Nat) (xs:Array Keyed) (m:Nat):Prop:=∀ i j,i <= j -> j < m -> K xs (lo + j) <= K xs (lo + i)
def Up.one {xs:Array Keyed}:Up lo xs 1:=λ i j h1 h2=>by
 have:i=j:=by omega
 subst this; exact ybp _
def Up.more {xs:Array Keyed} {m:Nat} (h:Up lo xs m) (h1:1 <= m) (hl:K xs (lo + (m - 1)) <= K xs (lo + m)):Up lo xs (m + 1):=λ i j hij hj=>by
 by_cases c:j < m
 ·exact h i j hij c
 ·have : j = m := by omega
  subst this;by_cases c2:i=j
  ·subst c2; exact ybp _
  ·exact ybh (h i (j - 1) (1:) (1:)) hl
def Dn.more {xs:Array Keyed} {m:Nat} (h:Dn lo xs m) (h1:1 <= m) (hl:K xs (lo + m) <= K xs (lo + (m - 1))):Dn lo xs (m + 1):=λ i j hij hj=>by
 by_cases c:j < m
 ·exact h i j hij c
 ·have : j = m := by omega
  subst this;by_cases c2:i=j
  ·subst c2; exact ybp _
  ·exact ybh hl (h i (j - 1) (1:) (1:))
section
variable {prog:Program} {w:World} {A:Around} {E:Value -> Shared -> Prop} {s:Shared}
def zel {i j:Nat} {Q:Option Bool -> SortSt -> Prop} (hB:SB a₀ lo p f st) (h0:IntKeys a₀) (hi:i < a₀.size) (hj:j < a₀.size)
  (h:Q (some (decide (K (arrOf st) i < K (arrOf st) j))) st):wpS (model prog w) A E s (ltAt' i j) Q st:=by
 have hs:=hB.size;have ai:=zee h0 hB.perm;have e1:(arrOf st)[i]?=some (arrOf st)[i]:=getElem?_pos _ i (1:);have e2:(arrOf st)[j]?=some (arrOf st)[j]:=getElem?_pos _ j (1:);rw [ltAt'_eq];refine wpS_bind (wpS_get (wpS_bind (zaA (1:) λ x hx=>wpS_bind (zaA (1:) λ y hy=>zfT hB.kind (ai _ _ hx) (ai _ _ hy) ?_))));rw [K_at hx,K_at hy] at h;exact h
def zha {m nrem:Nat} {Q:Option (Option Nat) × Nat -> SortSt -> Prop} (h0:IntKeys a₀) (hn:lo + nrem <= a₀.size) (h1:1 <= m) (hmn:m <= nrem) (hB:SB a₀ lo p f st) (hu:Up lo (arrOf st) m)
  (h:∀ n,m <= n -> n <= nrem -> Up lo (arrOf st) n -> (n=nrem \/ K (arrOf st) (lo + n) < K (arrOf st) (lo + (n - 1))) -> Q (none,n) st) :
  wpS (model prog w) A E s (rise lo m nrem) Q st:=by
 unfold rise;refine wpS_forRange (I:=λ x c st'=>st'=st /\ c=(none,x) /\ Up lo (arrOf st) x) ?step ?fin ⟨rfl,rfl,hu⟩
 case fin=>
  rintro c st' ⟨rfl,rfl,hu'⟩;rw [show max m nrem=nrem by omega] at hu' ⊢;exact h nrem hmn (yad _) hu' (.inl rfl)
 case step=>
  rintro x c st' h2 h3 ⟨rfl,rfl,hu'⟩;dsimp only;refine wpS_bind (zel hB h0 (1:) (1:) ?_);rw [show lo + x - 1=lo + (x - 1) by omega];by_cases hl:K (arrOf st') (lo + x) < K (arrOf st') (lo + (x - 1))
  ·simp only [hl,decide_true,if_true];exact wpS_pure (h x h2 (1:) hu' (.inr hl))
  ·simp only [hl,decide_false,yal,if_false];exact wpS_pure ⟨rfl,rfl,hu'.more (1:) (1:)⟩
def ziX {xs:Array Keyed} {i j:Nat} (hj:j <= xs.size) (heq:∀ k,i <= k -> k < j -> K xs k=K xs (j - 1)) (k:Nat):K (mirror xs i j ((j - i) / 2)) k=K xs k:=by
 rw [K_mirror hj]
 split
 ·rw [heq (i + j - 1 - k) (1:) (1:),heq k (1:) (1:)]
 ·rfl
def zc7 {n nrem:Nat} {Q:Option Nat -> SortSt -> Prop} (h0:IntKeys a₀) (hn:lo + nrem <= a₀.size) (h1:1 <= n) (hnn:n <= nrem) (hB:SB a₀ lo p f st) (hd:Dn lo (arrOf st) n)
  (h:∀ m st',SB a₀ lo p f st' -> 1 <= m -> m <= nrem -> Up lo (arrOf st') m -> Q (some m) st') :
  wpS (model prog w) A E s (zdb lo n nrem) Q st:=by
 unfold zdb;have hsz:lo + n <= (arrOf st).size:=by rw [hB.size]; omega
 refine wpS_bind (wpS_reverse ?_);have hB':SB a₀ lo p f (setArr st (mirror (arrOf st) lo (lo + n) ((lo + n - lo) / 2))):=hB.put (mirror_perm _ _ _ _) λ i hi=>by rw [K_mirror hsz,if_neg (1:)]
 refine wpS_bind (zha h0 hn h1 hnn hB' ?_ λ m hm1 hm2 hsm _=>wpS_pure (h m _ hB' (1:) hm2 hsm));intro i j hij hj;show K (mirror (arrOf st) lo (lo + n) ((lo + n - lo) / 2)) (lo + i) <= K (mirror (arrOf st) lo (lo + n) ((lo + n - lo) / 2)) (lo + j);rw [K_mirror hsz,K_mirror hsz,if_pos (1:),if_pos (1:),show lo + (lo + n) - 1 - (lo + i)=lo + (n - 1 - i) by omega,show lo + (lo + n) - 1 - (lo + j)=lo + (n - 1 - j) by omega];exact hd _ _ (1:) (1:)
def zkz {n nrem:Nat} {Q:Option (Option Nat) × Nat × Nat -> SortSt -> Prop} (h0:IntKeys a₀) (hn:lo + nrem <= a₀.size) (h1:1 <= n) (hnn:n <= nrem) (hB:SB a₀ lo p f st) (hd:Dn lo (arrOf st) n)
  (h:∀ m q st',SB a₀ lo p f st' -> n <= m -> m <= nrem -> Dn lo (arrOf st') m -> q + 1 <= m -> (∀ i,lo + m - (q + 1) <= i -> i < lo + m -> K (arrOf st') i=K (arrOf st') (lo + m - 1)) -> Q (none,m,q) st') :
  wpS (model prog w) A E s (fall lo n nrem) Q st:=by
 unfold fall;refine wpS_forRange (I:=λ x c st'=>∃ q,c=(none,x,q) /\ SB a₀ lo p f st' /\ Dn lo (arrOf st') x /\ q + 1 <= x /\ (∀ i,lo + x - (q + 1) <= i -> i < lo + x -> K (arrOf st') i=K (arrOf st') (lo + x - 1))) ?step ?fin ⟨0,rfl,hB,hd,by omega,λ i _ _=>by congr 1; omega⟩
 case fin=>
  rintro c st' ⟨q,rfl,hB',hd',hq,he⟩;rw [show max n nrem=nrem by omega] at hd' hq he ⊢;exact h nrem q st' hB' hnn (yad _) hd' hq he
 case step=>
  rintro x c st' h2 h3 ⟨q,rfl,hB',hd',hq,he⟩;dsimp only;have hsz:lo + x <= (arrOf st').size:=by rw [hB'.size]; omega
  have ex:lo + x - 1=lo + (x - 1):=by omega
  refine wpS_bind (zel hB' h0 (1:) (1:) ?_);by_cases hl:K (arrOf st') (lo + x) < K (arrOf st') (lo + x - 1)
  ·simp only [hl, decide_true, if_true];rw [ex] at hl;have d1 := hd'.more (1:) (ybo hl);by_cases hq0 : q > 0
   ·rw [if_pos hq0];have sm:=ziX hsz he;refine wpS_bind (wpS_reverse (wpS_pure ⟨0,rfl,hB'.put (mirror_perm _ _ _ _) λ i _=>sm i,λ i j hij hj=>?_,by omega,λ i _ _=>by congr 1; omega⟩));show K (mirror (arrOf st') _ _ _) _ <= K (mirror (arrOf st') _ _ _) _;rw [sm,sm]; exact d1 i j hij hj
   ·rw [if_neg hq0];exact wpS_pure ⟨0,rfl,hB',d1,by omega,λ i _ _=>by congr 1; omega⟩
  ·simp only [hl, decide_false, yal, if_false];refine wpS_bind (zel hB' h0 (1:) (1:) ?_);by_cases hg : K (arrOf st') (lo + x - 1) < K (arrOf st') (lo + x)
   ·simp only [hg,decide_true,if_true];exact wpS_pure (h x q st' hB' h2 (1:) hd' hq he)
   ·simp only [hg, decide_false, yal, if_false];have eqx : K (arrOf st') (lo + x) = K (arrOf st') (lo + x - 1) := by omega
    refine wpS_pure ⟨q + 1,rfl,hB',hd'.more (1:) (by rw [<- ex]; omega),by omega,λ i g1 g2=>?_⟩;rw [show lo + (x + 1) - 1=lo + x by omega];by_cases c:i=lo + x
    ·rw [c]
    ·rw [eqx]; exact he i (1:) (1:)
def zd7 {n nrem:Nat} {Q:Option Nat -> SortSt -> Prop} (h0:IntKeys a₀) (hn:lo + nrem <= a₀.size) (hnn:n + 1 <= nrem) (hB:SB a₀ lo p f st) (hd:Dn lo (arrOf st) (n + 1))
  (h:∀ m st',SB a₀ lo p f st' -> 1 <= m -> m <= nrem -> Up lo (arrOf st') m -> Q (some m) st') :
  wpS (model prog w) A E s (zfh lo n nrem) Q st:=by
 unfold zfh;refine wpS_bind (wpS_lift (wpAny_rule ⟨rfl,?_⟩));refine wpS_bind (zkz h0 hn (1:) hnn hB hd λ m q st' hB' hm1 hm2 hd' hq he=>?_);dsimp only;have hsz:lo + m <= (arrOf st').size:=by rw [hB'.size]; omega
 by_cases hq0:q > 0
 ·rw [if_pos hq0];have sm:=ziX hsz he;refine wpS_bind (wpS_reverse (zc7 h0 hn (1:) hm2 (hB'.put (mirror_perm _ _ _ _) λ i _=>sm i) (λ i j hij hj=>?_) h));show K (mirror (arrOf st') _ _ _) _ <= K (mirror (arrOf st') _ _ _) _;rw [sm,sm]; exact hd' i j hij hj
 ·rw [if_neg hq0];exact zc7 h0 hn (1:) hm2 hB' hd' h
def ze8 {nrem:Nat} {Q:Option Nat -> SortSt -> Prop} (h0:IntKeys a₀) (hn:lo + nrem <= a₀.size) (h1:1 <= nrem) (hB:SB a₀ lo p f st)
  (h:∀ m st',SB a₀ lo p f st' -> 1 <= m -> m <= nrem -> Up lo (arrOf st') m -> Q (some m) st') :
  wpS (model prog w) A E s (countRun' lo nrem) Q st:=by
 rw [zeE];refine wpS_bind (zha h0 hn (yad 1) h1 hB Up.one λ n hn1 hn2 hu hor=>?_);dsimp only;by_cases hnn:n=nrem
 ·rw [if_pos (by simpa using hnn)];exact wpS_pure (h n st hB hn1 hn2 hu)
 ·rw [if_neg (by simpa using hnn)];have hlt := hor.resolve_left hnn;have hsz : lo + n <= (arrOf st).size := by rw [hB.size]; omega
  by_cases hgt:n > 1
  ·rw [if_pos hgt];refine wpS_bind (zel hB h0 (1:) (1:) ?_);rw [show lo + n - 1 = lo + (n - 1) by omega];by_cases hr : K (arrOf st) lo < K (arrOf st) (lo + (n - 1))
   ·simp only [hr,decide_true,if_true];exact wpS_pure (h n st hB hn1 hn2 hu)
   ·simp only [hr, decide_false, yal, if_false]
    have hall:∀ k,lo <= k -> k < lo + n -> K (arrOf st) k=K (arrOf st) (lo + n - 1):=by
     intro k g1 g2;have a1:=hu 0 (k - lo) (1:) (1:);have a2:=hu (k - lo) (n - 1) (1:) (1:);rw [show lo + (k - lo)=k by omega] at a1 a2;rw [show lo + n - 1=lo + (n - 1) by omega];simp only [yb8] at a1;omega
    have sm:=ziX hsz hall;refine wpS_bind (wpS_reverse (zd7 h0 hn (1:) (hB.put (mirror_perm _ _ _ _) λ i _=>sm i) (λ i j hij hj=>?_) h));show K (mirror (arrOf st) _ _ _) _ <= K (mirror (arrOf st) _ _ _) _;rw [sm,sm];by_cases c:j < n
    ·rw [hall (lo + i) (1:) (1:),hall (lo + j) (1:) (1:)]; exact ybp _
    ·have : j = n := by omega
     subst this;by_cases c2:i=j
     ·subst c2; exact ybp _
     ·rw [hall (lo + i) (1:) (1:),show lo + j - 1=lo + (j - 1) by omega]; exact ybo hlt
  ·rw [if_neg hgt];have : n = 1 := by omega
   subst this;refine zd7 h0 hn (1:) hB (λ i j hij hj=>?_) h;by_cases c:i=j
   ·subst c; exact ybp _
   ·have e1 : i = 0 := by omega
    have e2:j=1:=by omega
    subst e1; subst e2;exact ybo hlt
def zeg {n ok:Nat} {Q:Bool -> SortSt -> Prop} (h0:IntKeys a₀) (hn:lo + n <= a₀.size) (hok:ok <= n) (hB:SB a₀ lo p f st) (hu:Up lo (arrOf st) ok)
    (h:∀ st',SB a₀ lo p f st' -> Up lo (arrOf st') n -> Q true st'):wpS (model prog w) A E s (binarySort' lo n ok) Q st:=by
  rw [binarySort'_eq];refine wpS_bind (wpS_mono (wpS_forRange (I:=λ k c st'=>c=(none,()) /\ SB a₀ lo p f st' /\ Up lo (arrOf st') (min k n)) (Q:=λ c st'=>c=(none,()) /\ SB a₀ lo p f st' /\ Up lo (arrOf st') n) ?step ?fin ?init) ?post)
  case post=>
    rintro c st' ⟨rfl,hB',hu'⟩;exact wpS_pure (h st' hB' hu')
  case init=>
    refine ⟨rfl,hB,λ i j hij hj=>?_⟩;by_cases c:ok=0
    · have : i = j := by omega
      subst this; exact ybp _
    · exact hu i j hij (1:)
  case fin=>
    rintro c st' ⟨hc,hB',hu'⟩;rw [show min (max (max ok 1) n) n=n by omega] at hu';exact ⟨hc,hB',hu'⟩
  case step=>
    rintro k c st' g1 g2 ⟨rfl,hB',hu'⟩;rw [show min k n=k by omega] at hu'
    refine wpS_bind (wpS_mono (wpS_forRange (I:=λ x c st''=>st''=st' /\ ∃ l r,c=(none,l,r) /\ l <= r /\ r <= k /\ r - l <= k - x /\
        (∀ i,i < l -> K (arrOf st') (lo + i) <= K (arrOf st') (lo + k)) /\ (∀ i,r <= i -> i < k -> K (arrOf st') (lo + k) < K (arrOf st') (lo + i)))
      (Q:=λ c st''=>st''=st' /\ ∃ l r,c=(none,l,r) /\ l <= k /\
        (∀ i,i < l -> K (arrOf st') (lo + i) <= K (arrOf st') (lo + k)) /\ (∀ i,l <= i -> i < k -> K (arrOf st') (lo + k) < K (arrOf st') (lo + i))) ?istep ?ifin ?iinit) ?ipost)
    case iinit=>exact ⟨rfl,0,k,rfl,by omega,by omega,by omega,λ i hi=>by omega,λ i h1 h2=>by omega⟩
    case ifin=>
      rintro c st'' ⟨rfl,l,r,rfl,q1,q2,q3,q4,q5⟩;have:l=r:=by omega
      subst this;exact ⟨rfl,l,l,rfl,q2,q4,q5⟩
    case istep=>
      rintro x c st'' _ hx ⟨rfl,l,r,rfl,q1,q2,q3,q4,q5⟩;dsimp only;by_cases hge:l >= r
      · rw [if_pos hge];have : l = r := by omega
        subst this;exact wpS_pure ⟨rfl,l,l,rfl,q2,q4,q5⟩
      · rw [if_neg hge];refine wpS_bind (zel hB' h0 (1:) (1:) ?_);by_cases hl : K (arrOf st'') (lo + k) < K (arrOf st'') (lo + (l + r) / 2)
        · simp only [hl,decide_true,if_true];exact wpS_pure ⟨rfl,l,_,rfl,by omega,by omega,by omega,q4,λ i g3 g4=>Int.lt_of_lt_of_le hl (hu' _ _ g3 g4)⟩
        · simp only [hl,decide_false,yal,if_false];exact wpS_pure ⟨rfl,_,r,rfl,by omega,by omega,by omega,λ i g3=>ybh (hu' i ((l + r) / 2) (1:) (1:)) (Int.not_lt.mp hl),q5⟩
    case ipost=>
      rintro c st'' ⟨rfl,l,r,rfl,q1,q4,q5⟩;show wpS _ _ _ _ (do moveDown' (lo + k) (lo + l); pure (ForInStep.yield (none,()))) _ _;rw [moveDown'_eq];have hks:lo + k < (arrOf st'').size:=by rw [hB'.size]; omega
      have kb:∀ i,K (bubble (arrOf st'') (lo + k) (lo + k - (lo + l))) i=if i=lo + l then K (arrOf st'') (lo + k) else if lo + l < i /\ i <= lo + k then K (arrOf st'') (i - 1) else K (arrOf st'') i:=λ i=>by
        rw [K_bubble hks (1:),show lo + k - (lo + k - (lo + l))=lo + l by omega]
      refine wpS_bind (wpS_modify (wpS_pure ⟨rfl,hB'.put (bubble_perm _ _ _) λ i hi=>by rw [kb,if_neg (1:),if_neg (1:)],?_⟩));rw [show min (k + 1) n=k + 1 by omega];intro i j hij hj;show K (bubble (arrOf st'') (lo + k) (lo + k - (lo + l))) (lo + i) <= K (bubble (arrOf st'') (lo + k) (lo + k - (lo + l))) (lo + j);rw [kb,kb]
      repeat' split
      all_goals first
        | (exfalso; omega)
        | exact ybp _
        | (rw [show lo + i - 1=lo + (i - 1) by omega,show lo + j - 1=lo + (j - 1) by omega]; exact hu' _ _ (1:) (1:))
        | (rw [show lo + j - 1=lo + (j - 1) by omega]; exact ybo (q5 _ (1:) (1:)))
        | (rw [show lo + j - 1=lo + (j - 1) by omega]; exact hu' _ _ (1:) (1:))
        | exact q4 _ (1:)
        | exact hu' _ _ (1:) (1:)
end
end Srt
namespace Srt
open PySem PyProof.Rows
noncomputable def zgs (pw:Nat):StateT SortSt Sem (ForInStep (Option Unit × Unit)):=do
 let st <- get
 match (if (pendingOf st).size > 1 then (pendingOf st)[(pendingOf st).size - 2]? else none) with
 | some (_,_,older)=>if older <= pw then pure (.done (none,())) else do
   let b <- mergeAt' ((pendingOf st).size - 2)
   if !b then pure (.done (some (),())) else pure (.yield (none,()))
 | _=>pure (.done (none,()))
noncomputable def zh4 (sz lo n:Nat):StateT SortSt Sem (ForInStep (Option Unit × Nat)):=do
 let st <- get
 match (pendingOf st).back? with
 | some (s1,n1,_)=>do
  let c <- forIn [0:sz] ((none,()):Option Unit × Unit) λ _ _=>zgs (power' sz (2 * s1 + n1) (2 * s1 + n1 + n1 + n) sz)
  match c.1 with
  | some r=>pure (.done (some r,lo))
  | none=>do
   modify λ s=>setPending s ((pendingOf s).modify ((pendingOf s).size - 1) λ x=>(x.1,x.2.1,power' sz (2 * s1 + n1) (2 * s1 + n1 + n1 + n) sz))
   modify λ s=>setPending s ((pendingOf s).push (lo,n,0))
   pure (.yield (none,lo + n))
 | _=>do
  modify λ s=>setPending s ((pendingOf s).push (lo,n,0))
  pure (.yield (none,lo + n))
noncomputable def zfc (sz mr lo:Nat):StateT SortSt Sem (ForInStep (Option Unit × Nat)):=
 if lo >= sz then pure (.done (none,lo)) else do
  match <- countRun' lo (sz - lo) with
  | some found=>
   if found < mr then do
    liftM (rule "list.sort.binary-insertion")
    let b <- binarySort' lo (min (sz - lo) mr) found
    if !b then pure (.done (some (),lo)) else zh4 sz lo (min (sz - lo) mr)
   else zh4 sz lo found
  | _=>pure (.done (some (),lo))
noncomputable def zhh (p:Array (Nat × Nat × Nat)):Nat:=
 if Option.any (λ x=>decide (x < p[p.size - 2 + 1]?.elim 0 λ x=>x.2.1)) (if p.size - 2 > 0 then p[p.size - 2 - 1]?.map (λ x=>x.2.1) else none)=true then p.size - 2 - 1 else p.size - 2
noncomputable def zfm:StateT SortSt Sem (ForInStep (Option Unit × Unit)):=do
 let st <- get
 if (pendingOf st).size <= 1 then pure (.done (none,())) else do
  let b <- mergeAt' (zhh (pendingOf st))
  if !b then pure (.done (some (),())) else pure (.yield (none,()))
def zeD:sortRuns'=(do
  let st <- get
  let c <- forIn [0:(arrOf st).size] ((none,0):Option Unit × Nat) λ _ c=>zfc (arrOf st).size (minRun' (arrOf st).size (arrOf st).size 0) c.2
  match c.1 with
  | some r=>pure r
  | none=>do
   let d <- forIn [0:(arrOf st).size] ((none,()):Option Unit × Unit) λ _ _=>zfm
   match d.1 with
   | some r=>pure r
   | none=>pure ()):=by
 kernel_rfl
def zls {σ:Type} {M:Model} {A:Around} {E:Value -> Shared -> Prop} {s:Shared} {x:σ} {Q:PUnit -> σ -> Prop} {st:σ} (h:Q ⟨⟩ x):wpS M A E s (set x:StateT σ Sem PUnit) Q st:=by
 unfold wpS; rw [StateT.run_set]; exact wpAny_pure ⟨rfl,h⟩
section
variable {prog:Program} {w:World} {A:Around} {E:Value -> Shared -> Prop} {s:Shared} {a₀:Array Keyed}
structure Fst (a₀:Array Keyed) (n:Nat) (st:SortSt):Prop where
 perm:(arrOf st).Perm a₀
 kind:kindOf st=oneType'
 failed:failedOf st=none
 pend:pendingOf st=#[(0,n,0)]
 up:SortedTo (arrOf st) n
structure Snd (a₀:Array Keyed) (n pw:Nat) (st:SortSt):Prop where
 perm:(arrOf st).Perm a₀
 kind:kindOf st=oneType'
 failed:failedOf st=none
 pend:pendingOf st=#[(0,n,pw),(n,a₀.size - n,0)]
 up:SortedTo (arrOf st) n
 up2:∀ i j,n <= i -> i <= j -> j < a₀.size -> K (arrOf st) i <= K (arrOf st) j
def zeL {st:SortSt} {sz n:Nat} {Q:ForInStep (Option Unit × Nat) -> SortSt -> Prop} (hB:SBase a₀ st) (hs:SortedTo (arrOf st) n) (h:∀ st',Fst a₀ n st' -> Q (.yield (none,n)) st') :
  wpS (model prog w) A E s (zh4 sz 0 n) Q st:=by
 unfold zh4;refine wpS_bind (wpS_get ?_);have hb:(pendingOf st).back?=none:=by rw [hB.pend]; rfl
 rw [hb];dsimp only;refine wpS_bind (wpS_modify (wpS_pure ?_));rw [yb7];exact h _ ⟨hB.perm,hB.kind,hB.failed,by show (pendingOf st).push _=_; rw [hB.pend]; rfl,hs⟩
def zeH {st:SortSt} {sz n m:Nat} {f:Nat -> Int} {Q:ForInStep (Option Unit × Nat) -> SortSt -> Prop} (hB:SB a₀ n #[(0,n,0)] f st) (hs:SortedTo (arrOf st) n) (hu:Up n (arrOf st) m) (hm:m=a₀.size - n) (hn:n <= a₀.size)
  (h:∀ pw st',Snd a₀ n pw st' -> Q (.yield (none,a₀.size)) st') :
  wpS (model prog w) A E s (zh4 sz n m) Q st:=by
 unfold zh4;refine wpS_bind (wpS_get ?_);have hb:(pendingOf st).back?=some (0,n,0):=by rw [hB.pend]; rfl
 rw [hb];dsimp only;generalize power' sz (2 * 0 + n) (2 * 0 + n + n + m) sz=pw;refine wpS_bind (wpS_mono (wpS_forRange (I:=λ _ c st'=>st'=st /\ c=(none,())) (Q:=λ c st'=>st'=st /\ c=(none,())) ?_ (λ _ _ hh=>hh) ⟨rfl,rfl⟩) ?_)
 ·rintro x c st' _ _ ⟨rfl, rfl⟩;unfold zgs;refine wpS_bind (wpS_get ?_)
  have e:(if (pendingOf st').size > 1 then (pendingOf st')[(pendingOf st').size - 2]? else none)=none:=by
   rw [if_neg];rw [hB.pend]; simp
  rw [e];exact wpS_pure ⟨rfl,rfl⟩
 ·rintro c st' ⟨rfl, rfl⟩;dsimp only;refine wpS_bind (wpS_modify (wpS_bind (wpS_modify (wpS_pure ?_))));rw [show n + m = a₀.size by omega];refine h pw _ ⟨hB.perm, hB.kind, hB.failed, ?_, hs, fun i j h1 h2 h3 => ?_⟩
  ·show ((pendingOf st').modify ((pendingOf st').size - 1) _).push _=_;rw [hB.pend,hm];rfl
  ·have:=hu (i - n) (j - n) (1:) (1:);rw [show n + (i - n)=i by omega,show n + (j - n)=j by omega] at this;exact this
def zhZ {st:SortSt} {n pw:Nat} {Q:Bool -> SortSt -> Prop} (h0:IntKeys a₀) (h1:1 <= n) (h2:n < a₀.size) (hS:Snd a₀ n pw st)
  (h:∀ st',pendingOf st'=#[(0,a₀.size,pw)] -> failedOf st'=none -> (arrOf st').Perm a₀ -> SortedTo (arrOf st') a₀.size -> Q true st') :
  wpS (model prog w) A E s (mergeAt' 0) Q st:=by
 rw [zhS];refine wpS_bind (wpS_get ?_);have e1:(pendingOf st)[0]?=some (0,n,pw):=by rw [hS.pend]; rfl
 have e2:(pendingOf st)[0 + 1]?=some (n,a₀.size - n,0):=by rw [hS.pend]; rfl
 have hz:(arrOf st).size=a₀.size:=hS.perm.size_eq;rw [e1,e2];dsimp only;refine wpS_bind (zls ?_)
 have ep:((pendingOf st).setIfInBounds 0 (0,n + (a₀.size - n),pw)).eraseIdxIfInBounds (0 + 1)=#[(0,a₀.size,pw)]:=by
  rw [hS.pend,show n + (a₀.size - n)=a₀.size by omega];apply Array.ext';simp [Array.eraseIdxIfInBounds]
 rw [ep,<- hz];refine zgw (st:=setPending st #[(0,(arrOf st).size,pw)]) (a:=arrOf st) hS.kind hS.failed rfl (zee h0 hS.perm) h1 (1:) hS.up (by rw [hz]; exact hS.up2) λ st' p1 p2 p3 p4=>h st' ?_ p2 (p3.trans hS.perm) (by rw [<- hz]; exact p4);rw [p1,<- hz]
def zeA {st:SortSt} {Q:Unit -> SortSt -> Prop} (h0:IntKeys a₀) (hB:SBase a₀ st) (h64:a₀.size=64)
  (h:∀ st',(arrOf st').Perm a₀ -> failedOf st'=none -> SortedTo (arrOf st') a₀.size -> Q () st'):wpS (model prog w) A E s sortRuns' Q st:=by
 rw [zeD];refine wpS_bind (wpS_get ?_);have hs:=hB.size;rw [h64] at hs;have hmr:minRun' 64 64 0=32:=rfl;simp only [hs,hmr]
 refine wpS_bind (wpS_mono (wpS_forRange
  (I:=λ x c st'=>(x=0 /\ c=(none,0) /\ SBase a₀ st') \/ (x=1 /\ ∃ n,32 <= n /\ n <= 64 /\ c=(none,n) /\ Fst a₀ n st') \/ (2 <= x /\ c=(none,64) /\ ∃ n pw,32 <= n /\ n < 64 /\ Snd a₀ n pw st'))
  (Q:=λ c st'=>c=(none,64) /\ (Fst a₀ 64 st' \/ ∃ n pw,32 <= n /\ n < 64 /\ Snd a₀ n pw st')) ?step ?fin (.inl ⟨rfl,rfl,hB⟩)) ?post)
 case fin=>
  rintro c st' (⟨hx,_⟩ | ⟨hx,_⟩ | ⟨_,hc,hD⟩)
  ·omega
  ·omega
  ·exact ⟨hc,.inr hD⟩
 case step=>
  rintro x c st' _ hx (⟨rfl,rfl,hB'⟩ | ⟨rfl,n,hn1,hn2,rfl,hF⟩ | ⟨hx2,rfl,hD⟩)
  ·unfold zfc;rw [if_neg (1:)];refine wpS_bind (wpS_countRun h0 (1:) (1:) hB' fun m st2 hB2 hm1 hm2 hs2 => ?_);dsimp only;by_cases hlt : m < 32
   ·rw [if_pos hlt];refine wpS_bind (wpS_lift (wpAny_rule ⟨rfl,?_⟩));rw [show min (64 - 0) 32=32 by omega];refine wpS_bind (wpS_binarySort h0 (1:) (1:) hB2 hs2 λ st3 hB3 hs3=>?_);simp only [ybW,yal,if_false];exact zeL hB3 hs3 λ st4 hF=>.inr (.inl ⟨by simp,32,by omega,by omega,rfl,hF⟩)
   ·rw [if_neg hlt];exact zeL hB2 hs2 λ st4 hF=>.inr (.inl ⟨rfl,m,by omega,by omega,rfl,hF⟩)
  ·unfold zfc;by_cases hge : n >= 64
   ·rw [if_pos hge];have : n = 64 := by omega
    subst this;exact wpS_pure ⟨rfl,.inl hF⟩
   ·rw [if_neg hge];have hB1 : SB a₀ n #[(0, n, 0)] (K (arrOf st')) st' := ⟨hF.perm, hF.kind, hF.failed, hF.pend, fun i _ => rfl⟩
    have low:∀ st2,SB a₀ n #[(0,n,0)] (K (arrOf st')) st2 -> SortedTo (arrOf st2) n:=λ st2 q i j hij hj=>by
     rw [q.low i (1:),q.low j hj]; exact hF.up i j hij hj
    refine wpS_bind (ze8 h0 (1:) (1:) hB1 λ m st2 hB2 hm1 hm2 hs2=>?_);dsimp only;by_cases hlt:m < 32
    ·rw [if_pos hlt];refine wpS_bind (wpS_lift (wpAny_rule ⟨rfl,?_⟩));rw [show min (64 - n) 32=64 - n by omega];refine wpS_bind (zeg h0 (1:) hm2 hB2 hs2 λ st3 hB3 hs3=>?_);simp only [ybW,yal,if_false];exact zeH hB3 (low _ hB3) hs3 (1:) (1:) λ pw st4 hS=>.inr (.inr ⟨by omega,by rw [h64],n,pw,hn1,by omega,hS⟩)
    ·rw [if_neg hlt];exact zeH hB2 (low _ hB2) hs2 (1:) (1:) λ pw st4 hS=>.inr (.inr ⟨by omega,by rw [h64],n,pw,hn1,by omega,hS⟩)
  ·unfold zfc;rw [if_pos (by dsimp only; omega)];exact wpS_pure ⟨rfl,.inr hD⟩
 case post=>
  rintro c st' ⟨rfl,hD⟩;dsimp only
  refine wpS_bind (wpS_mono (wpS_forRange (I:=λ x c st''=>c=(none,()) /\ ((x=0 /\ st''=st') \/ (1 <= x /\ (pendingOf st'').size <= 1 /\ (arrOf st'').Perm a₀ /\ failedOf st''=none /\ SortedTo (arrOf st'') a₀.size)))
   (Q:=λ c st''=>c=(none,()) /\ (arrOf st'').Perm a₀ /\ failedOf st''=none /\ SortedTo (arrOf st'') a₀.size) ?step2 ?fin2 ⟨rfl,.inl ⟨rfl,rfl⟩⟩) ?post2)
  case fin2=>
   rintro c st'' ⟨hc,⟨hx,_⟩ | ⟨_,_,hh⟩⟩
   ·omega
   ·exact ⟨hc,hh⟩
  case step2=>
   rintro x c st'' _ _ ⟨rfl,⟨rfl,rfl⟩ | ⟨_,hz,hh⟩⟩
   ·unfold zfm;refine wpS_bind (wpS_get ?_);rcases hD with hF | ⟨n, pw, hn1, hn2, hS⟩
    ·rw [if_pos (by rw [hF.pend]; exact yad 1)];exact wpS_pure ⟨rfl,hF.perm,hF.failed,by rw [h64]; exact hF.up⟩
    ·rw [if_neg (by rw [hS.pend]; simp)];have e : zhh (pendingOf st'') = 0 := by rw [hS.pend]; rfl
     rw [e];refine wpS_bind (zhZ h0 (1:) (1:) hS λ st3 p1 p2 p3 p4=>?_);simp only [ybW,yal,if_false];exact wpS_pure ⟨rfl,.inr ⟨by omega,by rw [p1]; exact yad 1,p3,p2,p4⟩⟩
   ·unfold zfm;refine wpS_bind (wpS_get ?_);rw [if_pos hz];exact wpS_pure ⟨rfl,hh⟩
  case post2=>
   rintro c st'' ⟨rfl,h1,h2,h3⟩;exact wpS_pure (h _ h1 h2 h3)
end
end Srt
namespace Srt
open PySem PyProof.Rows
section
variable {prog:Program} {w:World} {A:Around} {E:Value -> Shared -> Prop} {s:Shared}
def zdY {a₀:Array Keyed} {st:SortSt} {Q:Unit -> SortSt -> Prop} (h0:IntKeys a₀) (hB:SBase a₀ st) (h2:2 <= a₀.size) (h64:a₀.size <= 64)
  (h:∀ st',(arrOf st').Perm a₀ -> failedOf st'=none -> SortedTo (arrOf st') a₀.size -> Q () st'):wpS (model prog w) A E s sortRuns' Q st:=by
 rcases ybg a₀.size 64 with hlt | hge
 ·exact wpS_sortRuns h0 hB h2 hlt h
 ·exact zeA h0 hB (1:) h
def ziM {a:Addr} {vs:List Value} {ns:List Int} {n:Nat} {P:Fin -> Shared -> Prop} (ho:s.heap.get? a=some (seqObj "list" vs.toArray n)) (hI:IntsAre vs ns) (h64:vs.length <= 64)
  (h:∀ (out:Array Value) (ns':List Int),IntsAre out.toList ns' -> ns'.Perm ns -> ns'.Pairwise (· <= ·) -> P (.done (.ret .none)) { s with heap:=sortedHeap s.heap a vs out }) :
  wpAny (model prog w) A (Builtin.«list.sort» ⟨[.ref a],[]⟩) P E s:=by
 by_cases hlt:vs.length < 64
 ·exact list_sort_tree ho hI hlt h
 have hl:vs.length=64:=by omega
 have la:a < s.heap.objs.size:=yai ho;have e1:=get?_update_seq ho (λ _=>#[])
 have e6:(((s.heap.update a (Obj.mapSeq λ _=>#[])).push (seqObj "tuple" vs.toArray 0)).push (seqObj "list" #[] 0)).get? a=some (seqObj "list" #[] (if (#[]:Array Value).size == vs.toArray.size then n else n + 1)):=by
  rw [Heap.get?_push_ne _ _ _ (by rw [size_push',Heap.size_update]; exact yaB (Nat.lt_succ_of_lt la)),Heap.get?_push_ne _ _ _ (by rw [Heap.size_update]; exact yaB la)];exact e1
 have kk:keyKind' vs.toArray=pure oneType':=by
  match vs,hl with
  | v₁ :: v₂ :: rest,_=>exact keyKind_ints hI
 have n2:¬ vs.toArray.size < 2:=by simp; omega
 rw [list_sort_plain];refine wpAny_bind (listItems_at ho rfl (wpAny_bind (listUpdate_at ho rfl (wpAny_bind (seqEpoch_at e1 rfl (wpAny_bind (wpAny_newTuple (wpAny_bind (wpAny_newList (wpAny_holding ?_)))))) ))));show wpAny (model prog w) A _ P E { s with heap:=((s.heap.update a (Obj.mapSeq λ _=>#[])).push (seqObj "tuple" vs.toArray 0)).push (seqObj "list" #[] 0) };dsimp only;rw [if_neg n2,if_neg n2,kk]
 refine wpAny_bind (wpAny_pure (wpAny_bind (wpAny_mono (zdY (a₀:=pairsOf vs) (st:=SortSt.mk' oneType' (vs.toArray.zip vs.toArray) #[] 7 none)
  (Q:=λ _ st'=>(arrOf st').Perm (pairsOf vs) /\ failedOf st'=none /\ SortedTo (arrOf st') (pairsOf vs).size)
  hI.intKeys ⟨Array.Perm.refl _,rfl,rfl,rfl⟩ (by rw [pairsOf_size]; omega) (by rw [pairsOf_size]; omega) λ st' a1 a2 a3=>⟨a1,a2,a3⟩) ?_ λ _ _ e=>e)))
 rintro ⟨⟨⟩,st'⟩ s' ⟨rfl,hp,hf,hs⟩;dsimp only;obtain ⟨ns',g1,g2,g3⟩:=sorted_out hI hp hs;have hz:((arrOf st').map (·.2)).size=64:=by rw [Array.size_map,hp.size_eq,pairsOf_size,hl]
 refine wpAny_bind (seqEpoch_at e6 rfl (wpAny_bind (listUpdate_at e6 rfl ?_ (hsz2:=by show ((arrOf st').map (·.2)).size <= _; rw [hz,sizeLine_eq]; omega))));rw [hf];simp only [bne_self_eq_false,yal,if_false];exact wpAny_pure (h _ ns' g1 g2 g3)
def zgy {l:Addr} {o:Obj} {T:String} {n:Nat} {vs:List Value} {Q:List Value -> Shared -> Prop} (ho:s.heap.get? l=some o) (hc:o.cls=.type T) (hT:T="list" \/ T="tuple") (hd:o.data=.seq vs.toArray n) (hz:vs.length <= 64)
  (h:Q vs { s with heap:=(s.heap.push (seqObj "list" #[] 0)).update s.heap.objs.size (Obj.mapSeq (· ++ vs.toArray)) }) :
  wpAny (model prog w) A (collect (.ref l)) Q E s:=by
 unfold collect;refine wpAny_bind (wpAny_runValue (codeAny_builtin entry_proto_collect' ?_));show wpAny _ _ (do again (.builtin "list.__iadd__" ⟨[<- newList [],.ref l],[]⟩)) _ _ s;refine wpAny_bind (wpAny_newList (wpAny_pure ⟨Code.quiet_builtin _ (34:),codeAny_builtin entry_list_iadd' ?_⟩));show wpAny _ _ (Builtin.List.listExtendWith (.ref s.heap.objs.size) (.ref l) (.ref s.heap.objs.size)) _ _ { s with heap:=s.heap.push (seqObj "list" #[] 0) };unfold Builtin.List.listExtendWith;have ho':(s.heap.push (seqObj "list" #[] 0)).get? l=some o:=yag _ ho;refine wpAny_bind (wpAny_typeOf (T:=T) ⟨o,ho',hc⟩ ?_);have b1:(Value.type "list" == Value.type "list")=true:=rfl;have b2:(Value.type "tuple" == Value.type "tuple")=true:=rfl;rw [if_pos (by rcases hT with rfl | rfl <;> simp [b1,b2])];have hne:¬ ((!(#[]:Array Value).isEmpty && Builtin.List.listTooLong ((#[]:Array Value).size + vs.toArray.size))=true):=by simp
 refine wpAny_bind (listItems_at ho' hd (wpAny_bind (listItems_at (xs:=#[]) (n:=0) (yao _ rfl) rfl ?_)));rw [if_neg hne];refine wpAny_bind (listUpdate_at (xs:=#[]) (n:=0) (yao _ rfl) rfl (wpAny_pure ?_) (yaY _) (by show (#[] ++ vs.toArray).size <= sizeLine + 1; simp only [Array.size_append,yaj,List.length_nil,sizeLine_eq]; omega))
 show wpAny (model prog w) A (do
   let o <- load s.heap.objs.size
   match o.data with
   | .seq xs _=>pure xs.toList
   | _=>unsupported "internal:collect") Q E { s with heap:=(s.heap.push (seqObj "list" #[] 0)).update s.heap.objs.size (Obj.mapSeq (· ++ vs.toArray)) }
 refine wpAny_bind (wpAny_load (get?_update_seq (yao _ rfl) _) ?_);have ev:((#[]:Array Value) ++ vs.toArray).toList=vs:=by simp
 show wpAny _ _ (pure ((#[]:Array Value) ++ vs.toArray).toList) Q E _;rw [ev];exact wpAny_pure h
def sorted_seq {l:Addr} {o:Obj} {T:String} {n:Nat} {vs:List Value} {ns:List Int} {Q:Value -> Shared -> Prop} (ho:s.heap.get? l=some o) (hc:o.cls=.type T) (hT:T="list" \/ T="tuple") (hd:o.data=.seq vs.toArray n) (hI:IntsAre vs ns) (hz:vs.length <= 64)
  (h : ∀ (h' : Heap) (vs' : List Value) (ns' : List Int) (e : Nat), (∀ b u, s.heap.get? b = some u -> h'.get? b = some u) -> h'.get? (s.heap.objs.size + 1) = some (seqObj "list" vs'.toArray e) ->
   IntsAre vs' ns' -> ns'.Perm ns -> ns'.Pairwise (· <= ·) -> Q (.ref (s.heap.objs.size + 1)) { s with heap:=h' }) :
  wpAny (model prog w) A (call (.builtin "sorted") [.ref l]) Q E s:=by
 refine Calls.call_function_entry kind_sorted plain_sorted entry_sorted (args_sorted1 _) ?_;unfold Builtin.«sorted»;refine wpAny_bind (m:=checkCount "sorted" 1 1 _) (wpAny_pure (wpAny_bind (zgy ho hc hT hd hz (wpAny_bind (wpAny_newList ?_)))))
 have hsz:((s.heap.push (seqObj "list" #[] 0)).update s.heap.objs.size (Obj.mapSeq (· ++ vs.toArray))).objs.size=s.heap.objs.size + 1:=by
  rw [Heap.size_update,size_push']
 have hoL:(((s.heap.push (seqObj "list" #[] 0)).update s.heap.objs.size (Obj.mapSeq (· ++ vs.toArray))).push (seqObj "list" vs.toArray 0)).get? (s.heap.objs.size + 1)=some (seqObj "list" vs.toArray 0):=by
  rw [<- hsz]; exact yao _ rfl
 show wpAny _ _ _ _ _ { s with heap:=((s.heap.push (seqObj "list" #[] 0)).update s.heap.objs.size (Obj.mapSeq (· ++ vs.toArray))).push (seqObj "list" vs.toArray 0) };rw [hsz];refine wpAny_bind (wpAny_holding (wpAny_call_entry slot_list_sort ⟨_,hoL,rfl⟩ entry_list_sort (ziM hoL hI hz λ out ns' a1 a2 a3=>⟨_,rfl,wpAny_pure ⟨_,rfl,?_⟩⟩) (args_list_sort _)));obtain ⟨e,he⟩:=sortedAll_at s.heap vs out;exact h _ out.toList ns' e (λ _ _=>sortedAll_old) he a1 a2 a3
end
end Srt
namespace L2
open PySem PySem.Spec PyProof.Rows
section
variable {X:Cx}
def zet:∀ {ns:List Int} {us:List Value},IntsAre us ns -> Vals (ns.map V.int) us
 | _,_,.nil=>.nil
 | _,_,.cons n t h=>.cons ⟨t,rfl⟩ (zet h)
noncomputable def zi7 (K:PySem.W.Frag):List V -> Hp -> VK -> Prop:=λ xs H Q=>∃ (a:Addr) (ns:List Int),xs=[.ref a] /\ (SqL K H a (ns.map V.int) \/ SqT K H a (ns.map V.int)) /\ ns.length <= 64 /\
 ∀ (p:Addr) (ns':List Int),H p=none -> ns'.Perm ns -> ns'.Pairwise (· <= ·) -> Q (.ref p) (upd H p (.lst (ns'.map V.int)))
def zgJ:zbl X (.builtin "sorted") (zi7 X.K):=by
  intro pins s σ H xs us Q I r h;obtain ⟨a,ns,rfl,hq,hz,q⟩:=h;obtain ⟨u,rfl,ru⟩:=r.one;cases ru
  have go:∀ (o:Obj) (T:String) (n:Nat) (its:List Value),s.heap.get? a=some o -> o.cls=.type T -> (T="list" \/ T="tuple") -> o.data=.seq its.toArray n -> Vals (ns.map V.int) its ->
      wpAny (model X.prog X.w) X.A (call (.builtin "sorted") [.ref a]) (EP X pins σ Q) X.xe s:=by
    intro o T n its ho hc hT hd rv;have hi:=zeZ rv;have hl:its.length=ns.length:=by have:=rv.length; simp at this; omega
    refine Srt.sorted_seq ho hc hT hd hi (1:) λ h' vs' ns' e hk he hi' hp hs=>?_;have hl':=(zet hi').length;have hle:s.heap.objs.size <= s.heap.objs.size + 1:=Nat.le_succ _;refine ⟨.ref (s.heap.objs.size + 1),_,I.laid hk hle ?_,rfl,q _ ns' (I.hok.fresh hle) hp hs⟩;refine ⟨?_,vs',e,zet hi',he⟩;have:=hp.length_eq;simp only [yaa];rw [sizeLine_eq];omega
  rcases hq with hq | hq
  · obtain ⟨its,rv,⟨o,n,ho,hc,hd,hs⟩,_⟩:=I.list hq;exact go o "list" n its ho hc (.inl rfl) hs rv
  · obtain ⟨its,rv,ht,_⟩:=I.tuple hq;obtain ⟨o,ho,hc,n,hd⟩:=ht;exact go o "tuple" n its ho hc (.inr rfl) hd rv
def zhE {K:PySem.W.Frag} (hK:X.K=K:=by rfl):zbl X (.builtin "sorted") (zi7 K):=hK ▸ zgJ
end
end L2
namespace PySem.SeqAt
open PySem PySem.Spec PyProof.Rows
def zj7 {M:Model} {A:Around} {E:Value -> Shared -> Prop} {s:Shared} {β:Type} {a b:Nat} {f:Nat -> β -> Sem (ForInStep β)} (I:Nat -> β -> Shared -> Prop) {Q:β -> Shared -> Prop} {c:β}
    (turn:∀ i c s,a <= i -> i < b -> I i c s -> wpAny M A (f i c) (λ r s'=>match r with | .done c'=>Q c' s' | .yield c'=>I (i + 1) c' s') E s)
    (fin:∀ c s,I (max a b) c s -> Q c s) (h:I a c s):wpAny M A (forIn [a:b] c f) Q E s:=by
  rw [Std.Legacy.Range.forIn_eq_forIn_range'];have hsz:([a:b]:Std.Legacy.Range).size=b - a:=by simp [Std.Legacy.Range.size]
  show wpAny M A (forIn (List.range' a ([a:b]:Std.Legacy.Range).size 1) c f) Q E s;rw [hsz];refine wpAny_forIn_list f (λ l c s=>∃ i,a <= i /\ i <= max a b /\ l=List.range' i (max a b - i) 1 /\ I i c s) Q ?_ ?_ _ c ⟨a,yad _,by omega,by congr 1; omega,h⟩
  · rintro x rest c s ⟨i, h1, h2, h3, h4⟩
    have hlt:i < max a b:=by
      rcases ybg i (max a b) with z | z
      · exact z
      · rw [show max a b - i=0 by omega] at h3; simp at h3
    obtain ⟨n,hn⟩:∃ n,max a b - i=n + 1:=⟨max a b - i - 1,by omega⟩
    rw [hn,List.range'_succ] at h3;obtain ⟨rfl,rfl⟩:=List.cons.inj h3;refine wpAny_mono (turn x c s h1 (1:) h4) (λ r s' q=>?_) λ _ _ e=>e;cases r with
    | done c'=>exact q
    | yield c'=>exact ⟨x + 1,by omega,by omega,by congr 1; omega,q⟩
  · rintro c s ⟨i, h1, h2, h3, h4⟩
    have:i=max a b:=by
      rcases ybg i (max a b) with z | z
      · obtain ⟨n, hn⟩ : ∃ n, max a b - i = n + 1 := ⟨max a b - i - 1, by omega⟩
        rw [hn,List.range'_succ] at h3; simp at h3
      · omega
    subst this; exact fin _ _ h4
def tuple_indexAt (l:Addr) (items:Array Value) (n:Nat) (dd:Option Addr) (sl:Array (Option Value)) (x:Value) (e:Value -> Bool) (j:Nat) (hj:j < items.size) (hit:e items[j]=true)
  (hno:∀ m (hm:m < items.size),m < j -> e items[m]=false) :
  Meets (Builtin.«tuple.index» ⟨[.ref l,x],[]⟩)
   (λ A R s=>s.heap.get? l=some { cls:=.type "tuple",dict:=dd,data:=.seq items n,slots:=sl } /\ (∀ y,y ∈ items -> EqAt A.in1 s y x (e y)) /\ R (.ok (.ret (.int j s.toks))) { s with toks:=s.toks + 1 }):=
 .of_wp λ prog w A R s h=>by
  obtain ⟨hp,g,d,tk,os⟩:=s; obtain ⟨hl,he,h⟩:=h
  wp_walk using PySem.AutoSeq1.wpAny_loadPart' hl,zj7 (λ i c s'=>c=(none,()) /\ s'=⟨hp,g,d,tk,os⟩ /\ i <= j)
  case turn=>
   rintro i c s' _ hi ⟨rfl,rfl,hij⟩;have hz:i < items.size:=by omega
   dsimp only;rw [getElem?_pos items i hz];dsimp only;refine wpAny_bind (he _ (Array.getElem_mem hz) prog w _ _ ?_);by_cases hq:i=j
   ·subst hq;rw [hit]
    wp_walk
    exact ⟨_,rfl,h⟩
   ·rw [hno i hz (1:)]
    wp_walk
    exact ⟨rfl,rfl,by omega⟩
  case fin=>
   rintro c s' ⟨rfl,rfl,hij⟩;omega
  case h=>exact ⟨rfl,rfl,by omega⟩
end PySem.SeqAt
namespace L2
open PySem PySem.Spec PyProof.Rows Bm
section
variable {X:Cx}
noncomputable def ziV (K:PySem.W.Frag):V -> List V -> Hp -> VK -> Prop:=λ x vs H Q=>∃ (l:Addr) (xs:List V) (y u:V) (j:Nat),x=.ref l /\ vs=[y] /\ SqT K H l xs /\ zcX y=true /\ xs.all zcX=true /\ xs[j]?=some u /\ eqV u y=true /\
 (∀ (m:Nat) (u:V),m < j -> xs[m]?=some u -> eqV u y=false) /\ Q (.int (j:Int)) H
def zjd {K:PySem.W.Frag} (hK:X.K=K:=by rfl):MtR X "tuple.index" (ziV K):=by
 subst hK;intro pins s σ H x vs v us Q I rx rv h;obtain ⟨l,xs,y,u,j,rfl,rfl,hH,fy,fs,hj,hit,hno,q⟩:=h;cases rx;obtain ⟨uy,rfl,ry⟩:=Vals.one rv;obtain ⟨its,r,⟨⟨cls,dd,data,sl⟩,e,hc,n,hd⟩,z⟩:=I.tuple hH;obtain rfl:cls=.type "tuple":=hc;obtain rfl:data=.seq its.toArray n:=hd;have hl:=r.length;obtain ⟨ju,hju,rju⟩:=r.get hj;have hjl:j < its.length:=(yaf.mp hju).1;have eju:its[j]=ju:=(yaf.mp hju).2
 refine call_meets F.slot_tuple_index ⟨_,e,rfl⟩ F.entry_tuple_index (F.args_tuple_index_2 _ _)
  (SeqAt.tuple_indexAt l its.toArray n dd sl uy (eqU y) j (by simpa using hjl) ?_ ?_) ⟨e,λ w hw=>zd1 ry fy r fs w (by simpa using hw),?_⟩
 ·show eqU y its[j]=true;rw [eju,zhD rju (zjn fs hj)];exact hit
 ·intro m hm hlt;have hm' : m < xs.length := by rw [hl]; simpa using hm
  obtain ⟨mu,hmu,rmu⟩:=r.get (yab hm');have emu:its[m]'(by simpa using hm)=mu:=(yaf.mp hmu).2;show eqU y (its[m]'(by simpa using hm))=false;rw [emu,zhD rmu (zjn fs (yab hm'))];exact hno m _ hlt (yab hm')
 ·exact ⟨.int _,H,I.tok _,⟨_,rfl⟩,q⟩
end
noncomputable abbrev zaD (ls:List Int):Prop:=ls.Perm (zbD ls.length)
noncomputable def zgQ (ls:List Int):Bool:=decide (zaD ls)
noncomputable def zfV (ls:List Int):List Int:=(List.range ls.length).map λ (p:Nat)=>((ls.idxOf (p:Int):Nat):Int)
def zku (w:Nat):(zbD w).length=w:=by simp [zbD]
def zgK (w:Nat):(zbD w).Pairwise (· <= ·):=by
 rw [zbD,List.pairwise_map];exact ybl.imp λ h=>by omega
def zey {ls ns:List Int} (hp:ns.Perm ls) (hs:ns.Pairwise (· <= ·)):decide (ns=zbD ls.length)=zgQ ls:=by
 unfold zgQ;apply decide_eq_decide.mpr;constructor
 ·intro e;rw [e] at hp;exact hp.symm
 ·intro e;exact PySem.W.ksm_same (hp.trans e) hs (zgK _)
def zhC {ls:List Int} (h:zaD ls) {p:Nat} (hp:p < ls.length):(p:Int) ∈ ls:=
 h.mem_iff.mpr (by rw [zbD,yaW]; exact ⟨p,yaw.mpr hp,rfl⟩)
def zbU {ls:List Int} (h:zaD ls) {e:Int} (he:e ∈ ls):0 <= e /\ e < (ls.length:Int):=by
 have:=h.mem_iff.mp he;rw [zbD,yaW] at this;obtain ⟨x,hx,rfl⟩:=this;have:=yaw.mp hx;omega
def zeG (w:Nat):(zbD w).Nodup:=by
 rw [zbD,List.Nodup,List.pairwise_map];exact ybl.imp λ h=>by omega
def zhX {ls:List Int} (h:zaD ls):ls.Nodup:=h.nodup_iff.mpr (zeG _)
def zdI {ls:List Int} (h:zaD ls):Ld ls.length ls:=⟨rfl,λ e he=>by have:=zbU h he; omega⟩
def zfN {w:Nat} {ms:List Nat} (h:ms.Perm (List.range w)):zaD (ms.map λ (x:Nat)=>(x:Int)):=by
 unfold zaD;rw [yaa,h.length_eq,yas];exact h.map _
def zjX (ls:List Int):(zfV ls).length=ls.length:=by simp [zfV]
def zjk {ls:List Int} {x:Int} (h:x ∈ ls):ls.idxOf x < ls.length /\ ls.getD (ls.idxOf x) 0=x:=by
 have h1:=List.idxOf_lt_length_of_mem h;refine ⟨h1,?_⟩;rw [yac,yab h1];exact yb4 h1
def ziu {ls:List Int} (h:ls.Nodup) {i:Nat} (hi:i < ls.length):ls.idxOf (ls.getD i 0)=i:=by
 have e:ls.getD i 0=ls[i]:=by rw [yac,yab hi]; rfl
 rw [e];have hm:ls[i] ∈ ls:=ybw hi;have q:=zjk hm;have e2:ls[ls.idxOf ls[i]]'q.1=ls[i]:=yb4 q.1;rcases Nat.lt_trichotomy (ls.idxOf ls[i]) i with z | z | z
 ·exact absurd e2 (yaJ.mp h _ _ q.1 hi z)
 ·exact z
 ·exact absurd e2.symm (yaJ.mp h _ _ hi q.1 z)
def zcV (ls:List Int):ls=(List.range ls.length).map λ i=>ls.getD i 0:=by
 apply ybr;intro i;by_cases hi:i < ls.length
 ·rw [yae,yav hi,yab hi];simp [yac,yab hi]
 ·rw [yaS (1:),yaS (by rw [yaa,yas]; omega)]
def getD_mem' {ls:List Int} {k:Nat} (hk:k < ls.length):ls.getD k 0 ∈ ls:=by
 rw [yac,yab hk]; exact ybw hk
noncomputable def zhd:Sp:=λ vs H Q _=>∃ (a:Addr) (ls:List Int) (w:Nat),vs=[.ref a] /\ H a=some (.tup (ls.map V.int)) /\ Ld w ls /\ w <= 64 /\ ∀ H',Same H H' -> Q (.bl (zgQ ls)) H'
noncomputable def zeM:Sp:=λ vs H Q _=>∃ (a:Addr) (ls:List Int),vs=[.ref a] /\ H a=some (.tup (ls.map V.int)) /\ zaD ls /\ ls.length <= 64 /\ ∀ t H',Same H H' -> H' t=some (.tup ((zfV ls).map V.int)) -> Q (.ref t) H'
def tyT {K:PySem.W.Frag} {H:Hp} {p:Addr} {xs:List V} (h:H p=some (.tup xs)):tyV K "tuple" (.ref p) H:=.inr (.inl ⟨rfl,.inr ⟨xs,h⟩⟩)
def zjw (ls:List Int):(ls.map V.int).all zcX=true:=by
 rw [yaQ];intro x hx;obtain ⟨z,_,rfl⟩:=yaW.mp hx;rfl
def zhi (a b:Int):eqV (.int a) (.int b)=decide (a=b):=by
 by_cases h:a=b
 ·subst h; rw [decide_eq_true rfl]; exact beq_self_eq_true a
 ·rw [decide_eq_false h]; exact beq_eq_false_iff_ne.mpr h
def zjW {K:PySem.W.Frag} {ls:List Int} {z:Int} {l:Addr} {H:Hp} {Q:VK} (hl:SqT K H l (ls.map V.int)) (hq:ls.idxOf z < ls.length /\ ls.getD (ls.idxOf z) 0=z) (h:Q (.int ((ls.idxOf z:Nat):Int)) H):ziV K (.ref l) [.int z] H Q:=by
 refine ⟨l,_,.int z,.int z,ls.idxOf z,rfl,rfl,hl,rfl,zjw ls,?_,by rw [zhi,decide_eq_true rfl],λ m u hm hu=>?_,h⟩
 ·have e:=hq.2;rw [yac,yab hq.1] at e;rw [yae,yab hq.1];have e:ls[ls.idxOf z]=z:=e;rw [e]; rfl
 ·obtain ⟨x,hx,rfl⟩:=zcn hu;rw [zhi];apply decide_eq_false;rintro rfl;have hml:m < ls.length:=(yaf.mp hx).1;have:=List.not_of_lt_findIdx (p:=(· == x)) (xs:=ls) (i:=m) (by exact hm);rw [(yaf.mp hx).2] at this;simp at this
def zkg {a b:List Int} (hl:a.length=b.length) (h:∀ p,p < a.length -> a.getD p 0=b.getD p 0):a=b:=by
 rw [zcV a,zcV b,hl];apply yaR;intro p hp;exact h p (by rw [hl]; exact yaw.mp hp)
def Dd.led_len (w:Nat) (d:Dd):(d.led w).length=w:=by simp [Dd.led]
def Dd.led_getD {w p:Nat} (d:Dd) (hp:p < w):(d.led w).getD p 0=d.src w p:=by
 rw [Dd.led,yac,yae,yav hp]; rfl
def zfB {ls ms:List Int} {p:Nat} (hp:p < ms.length) (h0:0 <= ms.getD p 0):(zaE ls ms).getD p 0=ls.getD (ms.getD p 0).toNat 0:=by
 have e:ms.getD p 0=ms[p]:=by rw [yac,yab hp]; rfl
 rw [e] at h0 ⊢
 have e2:(zaE ls ms).getD p 0=if 0 <= ms[p] then ls.getD ms[p].toNat 0 else ms[p]:=by
  rw [zaE,yac,yae,yab hp]; rfl
 rw [e2,if_pos h0]
def zhm (ls ms:List Int):(zaE ls ms).length=ms.length:=by simp [zaE]
end L2
namespace L2
open PySem PySem.Spec PyProof.Rows
section
variable {X:Cx} {tg iter elt:Expr} {ifs:List Expr} {scope sc:Scope} {pos:Pos} {N N':List Str} {src:List (Option Nat)} {wi:TI} {g:TG} {tc:TT} {te:TE}
end
open Bm
noncomputable abbrev Mat:=Nat -> Nat -> Bool
noncomputable def rowB (n:Nat) (f:Mat) (i:Nat):List Bool:=(List.range n).map λ j=>f i j
noncomputable def bV (l:List Bool):List V:=l.map λ b=>nV b.toNat
noncomputable def Mx (H:Hp) (l:Addr) (n:Nat) (f:Mat):Prop:=∃ as:List Addr,as.length=n /\ H l=some (.lst (as.map V.ref)) /\ ∀ i (h:i < as.length),H as[i]=some (.lst (bV (rowB n f i)))
noncomputable def opp (h p:Nat):Nat:=if h <= p then p - h else p + h
def zcf {h p:Nat} (hp:p < 2 * h):opp h p < 2 * h:=by unfold opp; split <;> omega
def zbm {h p:Nat} (hp:p < 2 * h):opp h (opp h p)=p:=by unfold opp; split <;> split <;> omega
def zhu {h p:Nat} (hp:p < 2 * h):opp h p ≠ p:=by unfold opp; split <;> omega
def zej {h p:Nat} (hp:p < 2 * h):p % h=if p < h then p else p - h:=by
 split
 ·exact yaX (1:)
 ·rw [Nat.mod_eq_sub_mod (1:)]; exact yaX (1:)
def zgu {h p y:Nat} (hp:p < 2 * h) (hy:y < 2 * h) (e:y % h=p % h):y=p \/ y=opp h p:=by
 rw [zej hp,zej hy] at e;unfold opp
 split at e <;> split at e <;> split <;> omega
structure Prs (h:Nat) (τ:Nat -> Nat):Prop where
 lt:∀ p,p < 2 * h -> τ p < 2 * h
 inv:∀ p,p < 2 * h -> τ (τ p)=p
 ne:∀ p,p < 2 * h -> τ p ≠ p
noncomputable abbrev Cr:=Nat -> Option Bool
noncomputable def putC (c:Cr) (p:Nat) (b:Bool):Cr:=λ q=>if q=p then some b else c q
def zbu (c:Cr) (p:Nat) (b:Bool):putC c p b p=some b:=if_pos rfl
def zaP {c:Cr} {p q:Nat} (b:Bool) (h:q ≠ p):putC c p b q=c q:=if_neg h
structure Closed (h:Nat) (τ:Nat -> Nat) (c:Cr):Prop where
 t:∀ p b,p < 2 * h -> c p=some b -> c (τ p)=some (!b)
 o:∀ p b,p < 2 * h -> c p=some b -> c (opp h p)=some (!b)
structure Chain (h:Nat) (τ:Nat -> Nat) (c:Cr) (p0 q:Nat):Prop where
 l0:p0 < 2 * h
 lq:q < 2 * h
 t:∀ p b,p < 2 * h -> c p=some b -> c (τ p)=some (!b)
 c0:c p0=some false
 cz:c (opp h q)=some true
 o:∀ p b,p < 2 * h -> c p=some b -> p ≠ p0 -> p ≠ opp h q -> c (opp h p)=some (!b)
 en:c q=none \/ q=p0
variable {h:Nat} {τ:Nat -> Nat} {c:Cr} {p0 q:Nat}
def zhw (P:Prs h τ) (t:∀ p b,p < 2 * h -> c p=some b -> c (τ p)=some (!b)) (hq:q < 2 * h) (hn:c q=none):c (τ q)=none:=by
 cases e:c (τ q) with
 | none=>rfl
 | some b=>
  have:=t _ _ (P.lt q hq) e;rw [P.inv q hq,hn] at this;cases this
def zmR (P:Prs h τ) (t:∀ p b,p < 2 * h -> c p=some b -> c (τ p)=some (!b)) (hq:q < 2 * h) (hn:c q=none):∀ p b,p < 2 * h -> putC (putC c q false) (τ q) true p=some b -> putC (putC c q false) (τ q) true (τ p)=some (!b):=by
 intro p b hp e;by_cases c1:p=τ q
 ·subst c1;rw [zbu] at e;cases e;rw [P.inv q hq,zaP true (P.ne q hq).symm,zbu];rfl
 ·by_cases c2 : p = q
  ·subst c2;rw [zaP true (P.ne p hp).symm,zbu] at e;cases e;rw [zbu]; rfl
  ·rw [zaP true c1,zaP false c2] at e;have e2:=t p b hp e;have n1:τ p ≠ τ q:=λ z=>c2 (by rw [<- P.inv p hp,z,P.inv q hq]);have n2:τ p ≠ q:=λ z=>c1 (by rw [<- z,P.inv p hp]);rw [zaP true n1,zaP false n2];exact e2
def zgH (P:Prs h τ) (C:Closed h τ c) (hp:p0 < 2 * h) (hn:c p0=none):Chain h τ (putC (putC c p0 false) (τ p0) true) p0 (opp h (τ p0)):=by
 have lz:=P.lt p0 hp;have zn:=zhw P C.t hp hn;refine ⟨hp,zcf lz,zmR P C.t hp hn,?_,?_,λ p b hp' e n0 nz=>?_,?_⟩
 ·rw [zaP true (P.ne p0 hp).symm,zbu]
 ·rw [zbm lz,zbu]
 ·rw [zbm lz] at nz;rw [zaP true nz, zaP false n0] at e;have e2 := C.o p b hp' e;have n1 : opp h p ≠ τ p0 := fun z => by rw [z, zn] at e2; cases e2
  have n2:opp h p ≠ p0:=λ z=>by rw [z,hn] at e2; cases e2
  rw [zaP true n1,zaP false n2];exact e2
 ·by_cases c1 : opp h (τ p0) = p0
  ·exact .inr c1
  ·refine .inl ?_;rw [zaP true (zhu lz), zaP false c1];cases e : c (opp h (τ p0)) with
   | none=>rfl
   | some b=>
    have:=C.o _ _ (zcf lz) e;rw [zbm lz,zn] at this;cases this
def zh6 (P:Prs h τ) (C:Chain h τ c p0 q) (hn:c q=none):Chain h τ (putC (putC c q false) (τ q) true) p0 (opp h (τ q)):=by
 have lq:=C.lq;have lz:=P.lt q lq;have zn:=zhw P C.t lq hn;have n0q:p0 ≠ q:=λ z=>by rw [<- z,C.c0] at hn; cases hn
 have n0z:p0 ≠ τ q:=λ z=>by rw [<- z,C.c0] at zn; cases zn
 have oq:opp h q ≠ q:=zhu lq;have oz:opp h q ≠ τ q:=λ z=>by rw [<- z,C.cz] at zn; cases zn
 refine ⟨C.l0,zcf lz,zmR P C.t lq hn,?_,?_,λ p b hp' e n0 nz=>?_,?_⟩
 ·rw [zaP true n0z,zaP false n0q]; exact C.c0
 ·rw [zbm lz,zbu]
 ·rw [zbm lz] at nz;rw [zaP true nz] at e;by_cases c1 : p = q
  ·subst c1;rw [zbu] at e;cases e;rw [zaP true oz,zaP false oq];exact C.cz
  ·rw [zaP false c1] at e;by_cases c2 : p = opp h q
   ·subst c2;rw [C.cz] at e;cases e;rw [zbm lq,zaP true (P.ne q lq).symm,zbu];rfl
   ·have e2 := C.o p b hp' e n0 c2;have n1 : opp h p ≠ τ q := fun z => by rw [z, zn] at e2; cases e2
    have n2:opp h p ≠ q:=λ z=>by rw [z,hn] at e2; cases e2
    rw [zaP true n1,zaP false n2];exact e2
 ·by_cases c0 : opp h (τ q) = p0
  ·exact .inr c0
  ·refine .inl ?_
   have n1:opp h (τ q) ≠ q:=λ z=>by
    have:=congrArg (opp h) z;rw [zbm lz] at this;exact oz this.symm
   rw [zaP true (zhu lz),zaP false n1];cases e:c (opp h (τ q)) with
   | none=>rfl
   | some b=>
    have n2:opp h (τ q) ≠ opp h q:=λ z=>P.ne q lq (by rw [<- zbm lz,z,zbm lq]);have:=C.o _ _ (zcf lz) e c0 n2;rw [zbm lz,zn] at this;cases this
def zij (C:Chain h τ c p0 q) (hn:c q ≠ none):Closed h τ c:=by
 have e:q=p0:=C.en.resolve_left hn;refine ⟨C.t,λ p b hp ep=>?_⟩;by_cases c0:p=p0
 ·rw [c0] at ep ⊢;rw [C.c0] at ep;cases ep;rw [<- e];exact C.cz
 ·by_cases cz : p = opp h q
  ·rw [cz] at ep ⊢;rw [C.cz] at ep;cases ep;rw [zbm C.lq,e];exact C.c0
  ·exact C.o p b hp ep c0 cz
noncomputable def zb2 (h:Nat) (c:Cr):Nat:=(List.range (2 * h)).countP λ p=>(c p).isNone
def zgi {α:Type} {f g:α -> Bool}:∀ {l:List α} {x:α},x ∈ l -> (∀ y,g y=true -> f y=true) -> f x=true -> g x=false -> l.countP g < l.countP f
 | a :: l,x,hx,himp,h1,h2=>by
  have le:l.countP g <= l.countP f:=List.countP_mono_left λ y _=>himp y;rw [List.countP_cons,List.countP_cons];rcases yaH.mp hx with rfl | hx
  ·rw [h1,h2]; simp; omega
  ·have ih := zgi hx himp h1 h2;cases e : g a with
   | false=>cases f a <;> simp <;> omega
   | true=>rw [himp a e]; simp; omega
def zdt {τq:Nat} (hq:q < 2 * h) (hn:c q=none):zb2 h (putC (putC c q false) τq true) < zb2 h c:=by
 refine zgi (x:=q) (yaw.mpr hq) (λ y hy=>?_) (by rw [hn]; rfl) ?_
 ·unfold putC at hy
  split at hy
  ·cases hy
  ·split at hy
   ·cases hy
   ·exact hy
 ·unfold putC
  split
  ·rfl
  ·rw [if_pos rfl]; rfl
noncomputable def srcP (ls:List Int) (p:Nat):Nat:=(ls.getD p 0).toNat
noncomputable def plcE (ls:List Int) (e:Nat):Nat:=ls.idxOf (e:Int)
noncomputable def tauL (h:Nat) (ls:List Int) (p:Nat):Nat:=plcE ls (opp h (srcP ls p))
variable {ls:List Int}
def zde (E:zaD ls) {p:Nat} (hp:p < ls.length):srcP ls p < ls.length /\ ls.getD p 0=(srcP ls p:Int) /\ plcE ls (srcP ls p)=p:=by
 have b:=zbU E (getD_mem' hp);have e:ls.getD p 0=(srcP ls p:Int):=by unfold srcP; omega
 refine ⟨by unfold srcP; omega,e,?_⟩;unfold plcE;rw [<- e];exact ziu (zhX E) hp
def ze1 (E:zaD ls) {e:Nat} (he:e < ls.length):plcE ls e < ls.length /\ srcP ls (plcE ls e)=e:=by
 have q:=zjk (zhC E he);refine ⟨q.1,?_⟩;unfold srcP plcE;rw [q.2,yam]
def zi4 (E:zaD ls) (hl:ls.length=2 * h):Prs h (tauL h ls):=by
 refine ⟨λ p hp=>?_,λ p hp=>?_,λ p hp z=>?_⟩
 ·have s:=zde E (p:=p) (1:);exact (by have:=(ze1 E (e:=opp h (srcP ls p)) (by have:=zcf (h:=h) (p:=srcP ls p) (1:); omega)).1; unfold tauL; omega)
 ·have s:=zde E (p:=p) (1:);have o:=zcf (h:=h) (p:=srcP ls p) (1:);have q:=ze1 E (e:=opp h (srcP ls p)) (1:);unfold tauL;rw [q.2,zbm (1:),s.2.2]
 ·have s:=zde E (p:=p) (1:);have o:=zcf (h:=h) (p:=srcP ls p) (1:);have q:=ze1 E (e:=opp h (srcP ls p)) (1:);unfold tauL at z;have:=congrArg (srcP ls) z;rw [q.2] at this;exact zhu (1:) this
structure Cross (h:Nat) (ls:List Int) (X:Nat -> Bool):Prop where
 t:∀ p,p < 2 * h -> X (tauL h ls p)=!X p
 o:∀ p,p < 2 * h -> X (opp h p)=!X p
def zki {c:Cr} (C:Closed h (tauL h ls) c) (P:Prs h (tauL h ls)) (all:∀ p,p < h -> c p ≠ none):∃ X,Cross h ls X /\ ∀ p,p < 2 * h -> c p=some (X p):=by
 have tot:∀ p,p < 2 * h -> c p ≠ none:=λ p hp z=>by
  by_cases c1:p < h
  ·exact all p c1 z
  ·have hq : p - h < h := by omega
   cases e:c (p - h) with
   | none=>exact all _ hq e
   | some b=>
    have:=C.o _ _ (1:) e;rw [show opp h (p - h)=p by unfold opp; rw [if_neg (1:)]; omega,z] at this;cases this
 have val:∀ p,p < 2 * h -> c p=some ((c p).getD false):=λ p hp=>by
  cases e:c p with
  | none=>exact absurd e (tot p hp)
  | some b=>rfl
 refine ⟨λ p=>(c p).getD false,⟨λ p hp=>?_,λ p hp=>?_⟩,val⟩
 ·have:=C.t p _ hp (val p hp);rw [this]; rfl
 ·have:=C.o p _ hp (val p hp);rw [this]; rfl
section
variable {X:Nat -> Bool}
noncomputable def lowE (h:Nat) (ls:List Int) (X:Nat -> Bool) (r:Nat):Nat:=srcP ls (if X r then r + h else r) % h
noncomputable def uppE (h:Nat) (ls:List Int) (X:Nat -> Bool) (r:Nat):Nat:=srcP ls (if X r then r else r + h) % h
noncomputable def lowL (h:Nat) (ls:List Int) (X:Nat -> Bool):List Int:=(List.range h).map λ r=>(lowE h ls X r:Int)
noncomputable def uppL (h:Nat) (ls:List Int) (X:Nat -> Bool):List Int:=(List.range h).map λ r=>(uppE h ls X r:Int)
noncomputable def m1N (h:Nat) (ls:List Int) (X:Nat -> Bool):Nat:=zdx ((List.range h).filter λ e=>X (plcE ls e))
noncomputable def m2N (h:Nat) (X:Nat -> Bool):Nat:=zdx ((List.range h).filter X)
def ziT (e:Nat):(m1N h ls X).testBit e=(decide (e < h) && X (plcE ls e)):=by
 rw [m1N,za7];by_cases a:e < h <;> cases b:X (plcE ls e) <;> simp [a,b]
def zkO (e:Nat):(m2N h X).testBit e=(decide (e < h) && X e):=by
 rw [m2N,za7];by_cases a:e < h <;> cases b:X e <;> simp [a,b]
def ziZ (m:Nat) (hm:∀ e,m.testBit e=true -> e < h):m < 2 ^ h:=by
 rw [<- zft m];exact zk9 λ p hp=>hm p (zbd.mp hp)
def znh:m1N h ls X < 2 ^ h:=ziZ _ λ e he=>by rw [ziT,yak,decide_eq_true_eq] at he; exact he.1
def zl8:m2N h X < 2 ^ h:=ziZ _ λ e he=>by rw [zkO,yak,decide_eq_true_eq] at he; exact he.1
def zgp (E:zaD ls) (hl:ls.length=2 * h) (C:Cross h ls X) (b:Bool) (f:Nat -> Nat) (hf:∀ r,r < h -> f r < 2 * h /\ X (f r)=b /\ f r % h=r):zaD ((List.range h).map λ r=>((srcP ls (f r) % h:Nat):Int)):=by
 by_cases h0:h=0
 ·subst h0; exact List.Perm.refl _
 have hpos:0 < h:=by omega
 have inj:∀ p q,p < 2 * h -> q < 2 * h -> X p=b -> X q=b -> srcP ls p % h=srcP ls q % h -> p=q:=λ p q hp hq xp xq e=>by
  have sp:=zde E (p:=p) (1:);have sq:=zde E (p:=q) (1:);by_cases z:srcP ls p=srcP ls q
  ·rw [<- sp.2.2,z,sq.2.2]
  ·have e2 : srcP ls p = opp h (srcP ls q) := (zgu (1:) (1:) e).resolve_left z;have e3 : tauL h ls q = p := by unfold tauL; rw [<- e2, sp.2.2]
   have:=C.t q hq;rw [e3,xp,xq] at this;cases b <;> cases this
 have len:((List.range h).map λ r=>((srcP ls (f r) % h:Nat):Int)).length=h:=by simp
 unfold zaD;rw [len];refine (List.perm_ext_iff_of_nodup ?_ (zeG h)).mpr λ z=>?_
 ·rw [List.Nodup,List.pairwise_map];refine List.Pairwise.imp_of_mem (λ {r r'} hr hr' hlt e=>?_) ybl;have a:=hf r (yaw.mp hr);have a':=hf r' (yaw.mp hr');have:=inj _ _ a.1 a'.1 a.2.1 a'.2.1 (1:);have:=congrArg (· % h) this;simp only [a.2.2,a'.2.2] at this;omega
 ·rw [yaW, zbD, yaW];constructor
  ·rintro ⟨r,hr,rfl⟩;exact ⟨_,yaw.mpr (yba _ hpos),rfl⟩
  ·rintro ⟨v, hv, rfl⟩;have hv := yaw.mp hv;have q := ze1 E (e := v) (1:);have qo := ze1 E (e := v + h) (1:)
   obtain ⟨p,hp,xp,ep⟩:∃ p,p < 2 * h /\ X p=b /\ srcP ls p % h=v:=by
    by_cases c:X (plcE ls v)=b
    ·exact ⟨plcE ls v,by omega,c,by rw [q.2]; exact yaX hv⟩
    ·have e3:tauL h ls (plcE ls v)=plcE ls (v + h):=by
      unfold tauL;rw [q.2,show opp h v=v + h by unfold opp; rw [if_neg (1:)]]
     have:=C.t (plcE ls v) (1:);rw [e3] at this;refine ⟨plcE ls (v + h),by omega,?_,by rw [qo.2,ybf]; exact yaX hv⟩;rw [this];revert c;cases X (plcE ls v) <;> cases b <;> simp
   have hr:p % h < h:=yba _ hpos;have a:=hf (p % h) hr
   have same:f (p % h)=p:=by
    rcases zgu hp a.1 a.2.2 with z | e4
    ·exact z
    ·exfalso;have:=C.o p hp;rw [<- e4,a.2.1,xp] at this;cases b <;> cases this
   exact ⟨p % h,yaw.mpr hr,by rw [same,ep]⟩
def zhj (E:zaD ls) (hl:ls.length=2 * h) (C:Cross h ls X):zaD (lowL h ls X):=by
 refine zgp E hl C false (λ r=>if X r then r + h else r) λ r hr=>?_;have o:=C.o r (1:);rw [show opp h r=r + h by unfold opp; rw [if_neg (1:)]] at o;cases e:X r with
 | true=>rw [e] at o; simp only [if_true]; exact ⟨by omega,o,by rw [ybf]; exact yaX hr⟩
 | false=>simp only [yal,if_false]; exact ⟨by omega,e,yaX hr⟩
def zho (E:zaD ls) (hl:ls.length=2 * h) (C:Cross h ls X):zaD (uppL h ls X):=by
 refine zgp E hl C true (λ r=>if X r then r else r + h) λ r hr=>?_;have o:=C.o r (1:);rw [show opp h r=r + h by unfold opp; rw [if_neg (1:)]] at o;cases e:X r with
 | false=>rw [e] at o; simp only [yal,if_false]; exact ⟨by omega,o,by rw [ybf]; exact yaX hr⟩
 | true=>simp only [if_true]; exact ⟨by omega,e,yaX hr⟩
end
variable {h:Nat} {ls:List Int} {X:Nat -> Bool}
def zk1 (m p n:Nat):inM m ((p:Int) - n)=(decide (n <= p) && m.testBit (p - n)):=by
 unfold inM;by_cases c:n <= p
 ·rw [decide_eq_true c,decide_eq_true (show (0:Int) <= (p:Int) - n by omega),show ((p:Int) - n).toNat=p - n by omega]
 ·rw [decide_eq_false c,decide_eq_false (show ¬ (0:Int) <= (p:Int) - n by omega)]; rfl
def zjZ (w m n p:Nat):(Dd.swap m n).src w p=if (decide (n <= p) && m.testBit (p - n)) then (p:Int) - n else if m.testBit p then (p:Int) + n else p:=by
 rw [<- zk1]; rfl
def zc0 {m:Nat} (h1:1 <= h) (hm:m < 2 ^ h):(Dd.swap m h).ok (2 * h):=by
 refine ⟨h1,by omega,λ p hp=>?_⟩
 have hb:p < h:=by
  rcases ybg p h with z | z
  ·exact z
  ·rw [zfH hm z] at hp; cases hp
 exact ⟨by omega,zfH hm (1:)⟩
def zhs {m p:Nat} (hm:m < 2 ^ h) (hp:p < 2 * h):(Dd.swap m h).src (2 * h) p=((if m.testBit (p % h) then opp h p else p:Nat):Int):=by
 rw [zjZ,zej hp];by_cases c:p < h
 ·rw [decide_eq_false (1:),ybv,if_pos c];unfold opp;rw [if_neg (show ¬ h <= p by omega)];cases m.testBit p <;> simp
 ·rw [decide_eq_true (1:),ybX,if_neg c,zfH hm (show h <= p by omega)];unfold opp;rw [if_pos (show h <= p by omega)];cases m.testBit (p - h) <;> simp <;> omega
def zlm {a b:List Int} {p:Nat} (hp:p < a.length):(a ++ b).getD p 0=a.getD p 0:=by
 rw [yac,yac,ya1 hp]
def zkd {a b:List Int} {p:Nat} (hp:a.length <= p):(a ++ b).getD p 0=b.getD (p - a.length) 0:=by
 rw [yac,yac,yaL hp]
def zgx {k p:Nat} {a:List Int} (hp:p < a.length) (h0:0 <= a.getD p 0):(zax k a).getD p 0=a.getD p 0 + k:=by
 have e:a.getD p 0=a[p]:=by rw [yac,yab hp]; rfl
 rw [e] at h0 ⊢;rw [zax,yac,yae,yab hp];show (if 0 <= a[p] then a[p] + (k:Int) else a[p])=_;rw [if_pos h0]
noncomputable def zdG (h m1 m2:Nat) (lo up:List Int):List Int:=zaE (zaE ((Dd.swap m1 h).led (2 * h)) (lo ++ zax h up)) ((Dd.swap m2 h).led (2 * h))
def zig (E:zaD ls) (hl:ls.length=2 * h) (C:Cross h ls X):zdG h (m1N h ls X) (m2N h X) (lowL h ls X) (uppL h ls X)=ls:=by
 have ll:(lowL h ls X).length=h:=by simp [lowL]
 have lu:(uppL h ls X).length=h:=by simp [uppL]
 refine zkg (by rw [zdG,zhm,Dd.led_len,hl]) λ p hp=>?_;rw [zdG,zhm,Dd.led_len] at hp;have hpos:0 < h:=by omega
 have sp:=zde E (p:=p) (1:);have hr:p % h < h:=yba _ hpos
 -- the last exchange
 have e2:((Dd.swap (m2N h X) h).led (2 * h)).getD p 0=((if X p then p % h + h else p % h:Nat):Int):=by
  rw [Dd.led_getD _ hp,zhs zl8 hp,zkO,decide_eq_true hr,ybX]
  have key:(if X (p % h)=true then opp h p else p)=(if X p=true then p % h + h else p % h):=by
   have o:=C.o p hp;by_cases c:p < h
   ·rw [yaX c,show opp h p=p + h by unfold opp; rw [if_neg (1:)]]
   ·have em : p % h = p - h := by rw [zej hp, if_neg c]
    have eo:opp h p=p - h:=by unfold opp; rw [if_pos (1:)]
    rw [eo] at o;rw [em,eo,o];cases X p
    ·simp
    ·simp; omega
  rw [key]
 rw [zdG,zfB (by rw [Dd.led_len]; exact hp) (by rw [e2]; omega),e2,yam]
 -- between
 have e1:(lowL h ls X ++ zax h (uppL h ls X)).getD (if X p then p % h + h else p % h) 0=((srcP ls p % h + (if X p then h else 0):Nat):Int):=by
  have same:∀ y,y < 2 * h -> X y=X p -> y % h=p % h -> y=p:=λ y hy xy e=>by
   rcases zgu hp hy e with z | z
   ·exact z
   ·have:=C.o p hp;rw [<- z,xy] at this;revert this;cases X p <;> simp
  have or:=C.o (p % h) (1:);rw [show opp h (p % h)=p % h + h by unfold opp; rw [if_neg (1:)]] at or;cases xp:X p with
  | false=>
   simp only [yal,if_false];rw [zlm (by rw [ll]; exact hr),lowL,yac,yae,yav hr];show ((lowE h ls X (p % h):Nat):Int)=_
   rw [lowE,yb8,show (if X (p % h)=true then p % h + h else p % h)=p by
    cases xr:X (p % h) with
    | true=>rw [xr] at or; simp only [if_true]; exact same _ (1:) (by rw [or,xp]; rfl) (by rw [ybf,yb2])
    | false=>simp only [yal,if_false]; exact same _ (1:) (by rw [xr,xp]) (yb2 _ _)]
  | true=>
   simp only [if_true]
   have eu:(uppL h ls X).getD (p % h) 0=((uppE h ls X (p % h):Nat):Int):=by
    rw [uppL,yac,yae,yav hr]; rfl
   rw [zkd (by rw [ll]; omega),ll,yb6,zgx (by rw [lu]; exact hr) (by rw [eu]; omega),eu,uppE]
   rw [show (if X (p % h)=true then p % h else p % h + h)=p by
    cases xr:X (p % h) with
    | true=>simp only [if_true]; exact same _ (1:) (by rw [xr,xp]) (yb2 _ _)
    | false=>rw [xr] at or; simp only [yal,if_false]; exact same _ (1:) (by rw [or,xp]; rfl) (by rw [ybf,yb2])]
   omega
 have hv:srcP ls p % h + (if X p then h else 0) < 2 * h:=by
  have:=yba (srcP ls p) hpos
  split <;> omega
 rw [zfB (by rw [yaF,zbY,ll,lu]; split <;> omega) (by rw [e1]; omega),e1,yam,Dd.led_getD _ hv,zhs znh hv,sp.2.1];refine congrArg (λ n:Nat=>(n:Int)) ?_
 -- the first exchange
 have ep:(srcP ls p % h + (if X p then h else 0)) % h=srcP ls p % h:=by
  split
  ·rw [ybf,yb2]
  ·rw [yb8,yb2]
 rw [ep,ziT,decide_eq_true (yba _ hpos),ybX];have t:=C.t p hp;unfold tauL at t;have s2:srcP ls p < 2 * h:=by omega
 rw [zej s2];by_cases c:srcP ls p < h
 ·rw [if_pos c,sp.2.2];cases X p <;> simp [opp] <;> omega
 ·rw [if_neg c];rw [show opp h (srcP ls p) = srcP ls p - h by unfold opp; rw [if_pos (1:)]] at t;rw [t];cases X p with
  | false=>
   simp only [Bool.not_false,yal,if_true,if_false,yb8];unfold opp;rw [if_neg (1:)];omega
  | true=>
   simp only [ybW,yal,if_true,if_false];omega
inductive Pap where
 | nil
 | node (m1 m2:Nat) (lo:List Int) (pl:Pap) (up:List Int) (pu:Pap)
noncomputable def zlz:List Int -> Pap -> Prop
 | ls,.nil=>ls.length=1 /\ zaD ls
 | ls,.node m1 m2 lo pl up pu=>∃ h,1 <= h /\ ls.length=2 * h /\ m1 < 2 ^ h /\ m2 < 2 ^ h /\ lo.length=h /\ up.length=h /\ zaD lo /\ zaD up /\ zdG h m1 m2 lo up=ls /\ zlz lo pl /\ zlz up pu
variable {h:Nat}
noncomputable def PapH (H:Hp):Addr -> Pap -> Prop
  | a,.nil=>H a=some (.tup [])
  | a,.node m1 m2 lo pl up pu=>∃ x y lx px ly py:Addr,H a=some (.tup [nV m1,nV m2,.ref x,.ref y]) /\ H x=some (.tup [.ref lx,.ref px]) /\ H lx=some (.tup (lo.map V.int)) /\ PapH H px pl /\
      H y=some (.tup [.ref ly,.ref py]) /\ H ly=some (.tup (up.map V.int)) /\ PapH H py pu
def PapH.same {H H':Hp} (s:Same H H'):∀ {P:Pap} {a:Addr},PapH H a P -> PapH H' a P
 | .nil,_,h=>s _ _ h
 | .node _ _ _ _ _ _,_,⟨x,y,lx,px,ly,py,h1,h2,h3,h4,h5,h6,h7⟩=>⟨x,y,lx,px,ly,py,s _ _ h1,s _ _ h2,s _ _ h3,PapH.same s h4,s _ _ h5,s _ _ h6,PapH.same s h7⟩
noncomputable def cV:Option Bool -> V
 | none=>.non
 | some b=>.bl b
noncomputable def crV (n:Nat) (c:Cr):List V:=(List.range n).map λ p=>cV (c p)
def zc5 (n:Nat) (c:Cr):(crV n c).length=n:=by simp [crV]
def ziR {n p:Nat} (c:Cr) (hp:p < n):(crV n c)[p]?=some (cV (c p)):=by
 rw [crV,yae,yav hp]; rfl
def ziL {n p:Nat} (c:Cr) (b:Bool):(crV n c).set p (.bl b)=crV n (putC c p b):=by
 apply ybr;intro i;rw [List.getElem?_set];by_cases hi:i < n
 ·rw [ziR _ hi, ziR _ hi, zc5];by_cases e : p = i
  ·subst e;rw [if_pos rfl,if_pos hi];unfold putC;rw [if_pos rfl]; rfl
  ·rw [if_neg e];unfold putC;rw [if_neg (λ z=>e z.symm)]
 ·rw [yaS (by rw [zc5]; omega), yaS (by rw [zc5]; omega), zc5];by_cases e : p = i
  ·rw [if_pos e,if_neg (1:)]
  ·rw [if_neg e]
variable {ls:List Int}
noncomputable def zgR (h:Nat) (ls:List Int) (c:Cr) (q:Nat):Cr:=putC (putC c q false) (tauL h ls q) true
noncomputable def runF (h:Nat) (ls:List Int):Nat -> Cr -> Nat -> Cr
 | 0,c,_=>c
 | n + 1,c,q=>if (c q).isNone then runF h ls n (zgR h ls c q) (opp h (tauL h ls q)) else c
def zhA {c:Cr} {q:Nat} (hq:q < 2 * h) (hn:c q=none):0 < zb2 h c:=List.countP_pos_iff.mpr ⟨q,yaw.mpr hq,by rw [hn]; rfl⟩
def zhb (P:Prs h (tauL h ls)):∀ (n m:Nat) (c:Cr) (q:Nat),q < 2 * h -> zb2 h c <= n -> zb2 h c <= m -> runF h ls n c q=runF h ls m c q
 | 0,0,_,_,_,_,_=>rfl
 | 0,m + 1,c,q,hq,h1,_=>by
  show c=if (c q).isNone then _ else c
  cases e:c q with
  | none=>have:=zhA hq e; omega
  | some b=>rfl
 | n + 1,0,c,q,hq,_,h2=>by
  show (if (c q).isNone then _ else c)=c;cases e:c q with
  | none=>have:=zhA hq e; omega
  | some b=>rfl
 | n + 1,m + 1,c,q,hq,h1,h2=>by
  show (if (c q).isNone then _ else c)=if (c q).isNone then _ else c
  cases e:c q with
  | none=>
   have lt:zb2 h (zgR h ls c q) < zb2 h c:=zdt hq e;simp only [Option.isNone_none,if_true];exact zhb P n m _ _ (zcf (P.lt q hq)) (1:) (1:)
  | some b=>rfl
noncomputable def runC (h:Nat) (ls:List Int) (c:Cr) (q:Nat):Cr:=runF h ls (zb2 h c) c q
def ze6 (P:Prs h (tauL h ls)) {c:Cr} {q:Nat} (hq:q < 2 * h) (hn:c q=none):runC h ls c q=runC h ls (zgR h ls c q) (opp h (tauL h ls q)):=by
 have lt:zb2 h (zgR h ls c q) < zb2 h c:=zdt hq hn;unfold runC;obtain ⟨m,hm⟩:∃ m,zb2 h c=m + 1:=⟨zb2 h c - 1,by omega⟩
 rw [hm];show (if (c q).isNone then _ else c)=_;rw [hn];simp only [Option.isNone_none,if_true];exact zhb P _ _ _ _ (zcf (P.lt q hq)) (1:) (yad _)
def zfi {c:Cr} {q:Nat} (hn:c q ≠ none):runC h ls c q=c:=by
 unfold runC;cases zb2 h c with
 | zero=>rfl
 | succ n=>
  show (if (c q).isNone then _ else c)=c;cases e:c q with
  | none=>exact absurd e hn
  | some b=>rfl
noncomputable def za8 (h:Nat) (ls:List Int):Nat -> Cr
 | 0=>λ _=>none
 | i + 1=>runC h ls (za8 h ls i) i
def zeJ (P:Prs h (tauL h ls)):∀ (n:Nat) (c:Cr) (p0 q:Nat),zb2 h c <= n -> Chain h (tauL h ls) c p0 q -> Closed h (tauL h ls) (runC h ls c q) /\ ∀ p,c p ≠ none -> runC h ls c q p ≠ none
 | n,c,p0,q,hn,C=>by
  cases e:c q with
  | some b=>rw [zfi (by rw [e]; exact nofun)]; exact ⟨zij C (by rw [e]; exact nofun),λ _ z=>z⟩
  | none=>
   have lt:zb2 h (zgR h ls c q) < zb2 h c:=zdt C.lq e;rw [ze6 P C.lq e];cases n with
   | zero=>omega
   | succ n=>
    obtain ⟨r1,r2⟩:=zeJ P n (zgR h ls c q) p0 (opp h (tauL h ls q)) (1:) (zh6 P C e);refine ⟨r1,λ p hp=>r2 p ?_⟩;unfold zgR putC
    split
    ·exact nofun
    ·split
     ·exact nofun
     ·exact hp
def zfO (P:Prs h (tauL h ls)):∀ i,i <= h -> Closed h (tauL h ls) (za8 h ls i) /\ ∀ p,p < i -> za8 h ls i p ≠ none
 | 0,_=>⟨⟨λ _ _ _ z=>(nomatch z),λ _ _ _ z=>(nomatch z)⟩,λ p hp=>absurd hp (1:)⟩
 | i + 1,hi=>by
  obtain ⟨C,a⟩:=zfO P i (1:);show Closed h _ (runC h ls (za8 h ls i) i) /\ ∀ p,p < i + 1 -> runC h ls (za8 h ls i) i p ≠ none;cases e:za8 h ls i i with
  | some b=>
   rw [zfi (by rw [e]; exact nofun)];refine ⟨C,λ p hp=>?_⟩;by_cases z:p=i
   ·rw [z,e]; exact nofun
   ·exact a p (1:)
  | none=>
   have ch:=zgH P C (p0:=i) (1:) e;rw [ze6 P (1:) e];obtain ⟨r1,r2⟩:=zeJ P _ _ i _ (yad _) ch;refine ⟨r1,λ p hp=>r2 p ?_⟩;unfold putC
   split
   ·exact nofun
   ·split
    ·exact nofun
    ·rename_i n1 n2;exact a p (1:)
noncomputable def zam (h:Nat) (ls:List Int) (p:Nat):Bool:=(za8 h ls h p).getD false
def ze7 (E:zaD ls) (hl:ls.length=2 * h):Cross h ls (zam h ls) /\ ∀ p,p < 2 * h -> za8 h ls h p=some (zam h ls p):=by
 have P:=zi4 E hl;obtain ⟨C,a⟩:=zfO P h (yad _);obtain ⟨X,cx,ex⟩:=zki C P a;have same:∀ p,p < 2 * h -> zam h ls p=X p:=λ p hp=>by unfold zam; rw [ex p hp]; rfl
 refine ⟨⟨λ p hp=>?_,λ p hp=>?_⟩,λ p hp=>by rw [same p hp]; exact ex p hp⟩
 ·rw [same _ (P.lt p hp),same p hp]; exact cx.t p hp
 ·rw [same _ (zcf hp),same p hp]; exact cx.o p hp
noncomputable def papF:Nat -> List Int -> Pap
 | 0,_=>.nil
 | k + 1,ls=>.node (m1N (2 ^ k) ls (zam (2 ^ k) ls)) (m2N (2 ^ k) (zam (2 ^ k) ls)) (lowL (2 ^ k) ls (zam (2 ^ k) ls)) (papF k (lowL (2 ^ k) ls (zam (2 ^ k) ls)))
   (uppL (2 ^ k) ls (zam (2 ^ k) ls)) (papF k (uppL (2 ^ k) ls (zam (2 ^ k) ls)))
noncomputable def zmk:Sp:=λ vs H Q _=>∃ (p h:Nat),vs=[nV p,nV h] /\ Q (nV (opp h p)) H
noncomputable def zgq:Sp:=λ vs H Q _=>∃ (a:Addr) (ls:List Int) (h:Nat),vs=[.ref a] /\ H a=some (.tup (ls.map V.int)) /\ zaD ls /\ ls.length=2 * h /\ 1 <= h /\ h <= 32 /\
 ∀ (l:Addr) (H':Hp),Same H H' -> H' l=some (.lst ((List.range (2 * h)).map λ p=>V.bl (zam h ls p))) -> Q (.ref l) H'
noncomputable def zbC:Nat -> Sp
 | 0=>λ _ _ _ _=>False
 | j + 1=>λ vs H Q _=>∃ (a:Addr) (ls:List Int) (k:Nat),vs=[.ref a] /\ H a=some (.tup (ls.map V.int)) /\ zaD ls /\ ls.length=2 ^ k /\ k <= j /\ k <= 6 /\ ∀ (t:Addr) (H':Hp),Same H H' -> PapH H' t (papF k ls) -> Q (.ref t) H'
noncomputable def zb5:Nat -> Sp
 | 0=>λ _ _ _ _=>False
 | j + 1=>λ vs H Q _=>∃ (a:Addr) (ls:List Int) (k:Nat),vs=[.ref a] /\ H a=some (.tup (ls.map V.int)) /\ zaD ls /\ ls.length=2 ^ k /\ k < j /\ k <= 6 /\ ∀ (x t:Addr) (H':Hp),Same H H' -> H' x=some (.tup [.ref a,.ref t]) -> PapH H' t (papF k ls) -> Q (.ref x) H'
noncomputable def zhc:Sp:=λ vs H Q _=>∃ (a:Addr) (ls:List Int) (k:Nat),vs=[.ref a] /\ H a=some (.tup (ls.map V.int)) /\ zaD ls /\ ls.length=2 ^ k /\ k <= 6 /\ ∀ (t:Addr) (H':Hp),Same H H' -> PapH H' t (papF k ls) -> Q (.ref t) H'
def zhQ:∀ k,k <= 6 -> 2 ^ k ∈ zgP:=by
 intro k hk;rcases (show k=0 \/ k=1 \/ k=2 \/ k=3 \/ k=4 \/ k=5 \/ k=6 by omega) with rfl | rfl | rfl | rfl | rfl | rfl | rfl <;> decide
def zcD {k:Nat} (hk:k <= 6):2 ^ k <= 64:=yaI (n:=2) (3:) hk
end L2
set_option maxHeartbeats 1000000
namespace L2
open PySem PyProof.Rows Bm
section
variable {X:Cx} {e st:Expr} {te:TE} {ts:TE} {pos p2:Pos}
end
section
variable {h n:Nat} {ls:List Int} {X:Nat -> Bool}
noncomputable def fstL (h:Nat) (ls:List Int) (X:Nat -> Bool) (n:Nat):List Nat:=((List.range n).filter λ p=>X p && decide (srcP ls p < h)).map (srcP ls)
def zfn:fstL h ls X (n + 1)=fstL h ls X n ++ if (X n && decide (srcP ls n < h))=true then [srcP ls n] else []:=by
 unfold fstL;rw [ybe,ybb,yau];congr 1;cases e:(X n && decide (srcP ls n < h)) <;> simp only [List.filter_cons,List.filter_nil,e] <;> rfl
def ziq {e:Nat} (he:e ∈ fstL h ls X n):e < h:=by
 obtain ⟨p,hp,rfl⟩:=yaW.mp he;have:=(ya5.mp hp).2;rw [yak,decide_eq_true_eq] at this;exact this.2
def zk4:(fstL h ls X n).length <= n:=by
 unfold fstL;rw [yaa];exact yax (ybm _ _) (by rw [yas]; exact yad _)
def zj2 (E:zaD ls) (hl:ls.length=2 * h):zdx (fstL h ls X (2 * h))=m1N h ls X:=by
 apply Nat.eq_of_testBit_eq;intro e;rw [za7,ziT];by_cases a:e < h
 ·have q := ze1 E (e := e) (1:);cases b : X (plcE ls e)
  ·rw [decide_eq_false]
   ·simp
   ·intro he;obtain ⟨p,hp,rfl⟩:=yaW.mp he;obtain ⟨h1,h2⟩:=ya5.mp hp;have s:=zde E (p:=p) (by have:=yaw.mp h1; omega);rw [s.2.2] at b;rw [b] at h2;cases h2
  ·rw [decide_eq_true, decide_eq_true a]
   ·rfl
   ·exact yaW.mpr ⟨plcE ls e,ya5.mpr ⟨yaw.mpr (1:),by rw [b,q.2,decide_eq_true a]; rfl⟩,q.2⟩
 ·rw [decide_eq_false (λ he=>a (ziq he)),decide_eq_false a];rfl
def zf8 (E:zaD ls) {p:Nat} (hp:p < ls.length):(ls.map V.int)[p]?=some (nV (srcP ls p)):=by
 have sq:=zde E hp;rw [yae,yab hp];have:=sq.2.1;rw [yac,yab hp] at this;exact congrArg (λ z=>some (V.int z)) this
def zhk {m p:Nat} (hp:p < m):((List.range m).map λ p=>V.bl (X p))[p]?=some (.bl (X p)):=by
 rw [yae,yav hp];rfl
def zd2 {f:Nat -> Nat}:((List.range (n + 1)).map λ r=>V.int (f r:Int))=((List.range n).map λ r=>V.int (f r:Int)) ++ [nV (f n)]:=by
 rw [ybe,yau];rfl
end
open PySem.Spec
noncomputable def zfr:Nat -> Pap -> Prop
 | 0,.nil=>True
 | k + 1,.node m1 m2 lo pl up pu=>m1 < 2 ^ 2 ^ k /\ m2 < 2 ^ 2 ^ k /\ zaD lo /\ lo.length=2 ^ k /\ zaD up /\ up.length=2 ^ k /\ zfr k pl /\ zfr k pu
 | _,_=>False
noncomputable def zeV:List Int -> Pap -> Bool
 | _,.nil=>true
 | ls,.node m1 m2 lo pl up pu=>decide (zdG lo.length m1 m2 lo up=ls) && (zeV lo pl && zeV up pu)
def zjR:∀ (k:Nat) (ls:List Int),zaD ls -> ls.length=2 ^ k -> zfr k (papF k ls) /\ zeV ls (papF k ls)=true
 | 0,_,_,_=>⟨trivial,rfl⟩
 | k + 1,ls,E,hl=>by
  have h2:ls.length=2 * 2 ^ k:=by rw [hl,ybi]; omega
  have C:=(ze7 E h2).1;have e1:=zhj E h2 C;have e2:=zho E h2 C;have l1:(lowL (2 ^ k) ls (zam (2 ^ k) ls)).length=2 ^ k:=by simp [lowL]
  have l2:(uppL (2 ^ k) ls (zam (2 ^ k) ls)).length=2 ^ k:=by simp [uppL]
  have i1:=zjR k _ e1 l1;have i2:=zjR k _ e2 l2;refine ⟨⟨znh,zl8,e1,l1,e2,l2,i1.1,i2.1⟩,?_⟩;show (decide (zdG (lowL (2 ^ k) ls (zam (2 ^ k) ls)).length _ _ _ _=ls) && (zeV _ _ && zeV _ _))=true;rw [l1,i1.2,i2.2,decide_eq_true (zig E h2 C)];rfl
noncomputable def zjz:Sp:=λ vs H Q _=>∃ (h m:Nat),vs=[nV h,nV m] /\ 1 <= h /\ h <= 32 /\ m < 2 ^ h /\ ∀ (t:Addr) (H':Hp),Same H H' -> H' t=some (.tup (((Dd.swap m h).led (2 * h)).map V.int)) -> Q (.ref t) H'
noncomputable def Four (H:Hp) (h:Nat) (t:Addr) (m1 m2:Nat) (lo up:List Int):Prop:=∃ x y a p b q:Addr,H t=some (.tup [nV m1,nV m2,.ref x,.ref y]) /\ H x=some (.tup [.ref a,.ref p]) /\ H a=some (.tup (lo.map V.int)) /\ H y=some (.tup [.ref b,.ref q]) /\ H b=some (.tup (up.map V.int)) /\
 m1 < 2 ^ h /\ m2 < 2 ^ h /\ zaD lo /\ lo.length=h /\ zaD up /\ up.length=h /\ 1 <= h /\ h <= 32
def zht {ls:List Int} {w:Nat} (E:zaD ls) (hl:ls.length=w):Ld w ls:=hl ▸ zdI E
def zio {h:Nat} {lo up:List Int} (E1:zaD lo) (l1:lo.length=h) (E2:zaD up) (l2:up.length=h):Ld (2 * h) (lo ++ zax h up):=by
 have:=zmH (n:=h) (w:=h) (zht E1 l1) (zht E2 l2);rw [show h + h=2 * h by omega] at this;exact this
section
variable {h:Nat} {A B:List Int}
end
noncomputable def pdat:Pap -> PyData
 | .nil=>.tuple []
 | .node m1 m2 lo pl up pu=>.tuple [.int m1,.int m2,.tuple [.tuple (lo.map .int),pdat pl],.tuple [.tuple (up.map .int),pdat pu]]
def zjE {K:PySem.W.Frag} {H:Hp}:∀ {P:Pap} {a:Addr},PapH H a P -> DatV K H (pdat P) (.ref a)
 | .nil,_,h=>DatV.tuple (xs:=[]) (SqT.of h) .nil
 | .node _ _ lo _ up _,_,⟨x,y,lx,px,ly,py,h1,h2,h3,h4,h5,h6,h7⟩=>
  DatV.tuple (SqT.of h1) (.cons (.int K H _) (.cons (.int K H _) (.cons (DatV.tuple (SqT.of h2) (.cons (DatV.tuple (SqT.of h3) (DatVs.ints K H lo)) (.cons (zjE h4) .nil))) (.cons (DatV.tuple (SqT.of h5) (.cons (DatV.tuple (SqT.of h6) (DatVs.ints K H up)) (.cons (zjE h7) .nil))) .nil))))
def ziJ (l:List Int):(PyData.tuple (l.map .int)).canLay0=true /\ (PyData.tuple (l.map .int)).depth <= 1:=by
 have dp:∀ ns:List Int,PyData.depthAll (ns.map PyData.int)=0:=λ ns=>by
  induction ns with
  | nil=>simp [PyData.depthAll]
  | cons n ns ih=>rw [ybj,PyData.depthAll,ih,PyData.depth]; rfl
 exact ⟨SeqAt.canLay_of_shaped (zbX l),by rw [PyData.depth,dp]; omega⟩
def zgE:∀ (k:Nat) (P:Pap),zfr k P -> (pdat P).canLay0=true /\ (pdat P).depth <= 2 * k + 1
 | 0,.nil,_=>by
  rw [pdat,PyData.canLay0,PyData.depth,PyData.canLayAll0,PyData.depthAll];exact ⟨rfl,by omega⟩
 | k + 1,.node m1 m2 lo pl up pu,ok=>by
  have a:=zgE k pl ok.2.2.2.2.2.2.1;have b:=zgE k pu ok.2.2.2.2.2.2.2;have c:=ziJ lo;have d:=ziJ up
  have part:∀ (l:List Int) (Q:Pap),(PyData.tuple (l.map .int)).canLay0=true /\ (PyData.tuple (l.map .int)).depth <= 1 -> (pdat Q).canLay0=true /\ (pdat Q).depth <= 2 * k + 1 -> (PyData.tuple [.tuple (l.map .int),pdat Q]).canLay0=true /\ (PyData.tuple [.tuple (l.map .int),pdat Q]).depth <= 2 * k + 2:=λ l Q h1 h2=>by
   rw [PyData.canLay0,PyData.depth,PyData.canLayAll0,PyData.depthAll,PyData.canLayAll0,PyData.depthAll,PyData.canLayAll0,PyData.depthAll,h1.1,h2.1];exact ⟨rfl,by omega⟩
  have p1:=part lo pl c a;have p2:=part up pu d b;have i1:∀ i:Int,(PyData.int i).canLay0=true /\ (PyData.int i).depth=0:=λ i=>⟨SeqAt.canLay_of_shaped (zkb i),by rw [PyData.depth]⟩
  rw [pdat,PyData.canLay0,PyData.depth,PyData.canLayAll0,PyData.depthAll,PyData.canLayAll0,PyData.depthAll,PyData.canLayAll0,PyData.depthAll,PyData.canLayAll0,PyData.depthAll,PyData.canLayAll0,PyData.depthAll,(i1 _).1,(i1 _).2,(i1 _).1,(i1 _).2,p1.1,p2.1];exact ⟨rfl,by omega⟩
def zmD {k:Nat} {P:Pap} (ok:zfr k P) (hk:k <= 6):shpd (pdat P)=true:=by
 have h:=zgE k P ok;show (PyData.canLay0 (pdat P) && decide (PyData.depth (pdat P) <= 64))=true;rw [h.1,decide_eq_true (1:)];rfl
def zie {A:List Int} {h m:Nat} (h1:1 <= h) (hm:m < 2 ^ h):zb0 A (2 * h) m h h=zaE A ((Dd.swap m h).led (2 * h)):=by
 rw [<- ziF (zc0 h1 hm)]
 have:∀ j,zb0 A (2 * h) m h (h + j)=zb0 A (2 * h) m h h:=λ j=>by
  induction j with
  | zero=>rfl
  | succ j ih=>rw [<- Nat.add_assoc,zg5 (zfH hm (1:)),ih]
 rw [<- this h,show h + h=2 * h by omega]
noncomputable def zd4:Sp:=λ vs H Q _=>∃ (a:Addr) (A:List Int) (h m:Nat),vs=[nV m,.ref a] /\ H a=some (.lst (A.map V.int)) /\ A.length=2 * h /\ 1 <= h /\ h <= 32 /\ m < 2 ^ h /\
 ∀ (l:Addr) (H':Hp),Same H H' -> H' l=some (.lst ((zaE A ((Dd.swap m h).led (2 * h))).map V.int)) -> Q (.ref l) H'
section
variable {X:Cx} {a b c:Expr} {ta:TA} {p p2 pos pos2:Pos}
end
noncomputable def Evs (H:Hp) (A:List (Addr × List Int)) (w:Nat):Prop:=∀ q ∈ A,H q.1=some (.tup (q.2.map V.int)) /\ zaD q.2 /\ q.2.length=w
section
variable {X:Cx} {i o:Expr} {ty td:TE} {pos:Pos}
end
section
variable {ty td:TE} {σ:St} {H:Hp} {Q:VK}
end
end L2
namespace PySem
open Sem (wp)
open AutoSeq1 (wpAny_loadPart')
section
variable {prog:Program} {w:World} {A:Around} {E:Value -> Shared -> Prop} {s:Shared}
end
section
variable {prog:Program} {w:World} {A:Around} {E:Value -> Shared -> Prop} {s:Shared}
end
end PySem
namespace L2
open PySem PySem.Spec PyProof.Rows Bm
section
variable {X:Cx} {a:Expr} {ta:TA} {p p1 p2 pos pos1 pos2:Pos}
end
section
variable {X:Cx} {e lw st:Expr} {te tl:TE} {ts:TE} {pos p2:Pos}
end
noncomputable def MxN (H:Hp) (l:Addr) (n:Nat) (g:Nat -> Nat -> Nat):Prop:=∃ as:List Addr,as.length=n /\ H l=some (.lst (as.map V.ref)) /\ ∀ i (h:i < as.length),H as[i]=some (.lst (((List.range n).map (g i)).map nV))
section
variable {X:Cx} {o i value:Expr} {td ty tv:TE} {pos pos':Pos}
end
section
variable {td ty tv:TE} {D:Ends} {σ:St} {H:Hp} {Q:VK}
end
noncomputable def Good (k:Nat) (ls:List Int) (P:Pap):Prop:=zfr k P /\ zeV ls P=true /\ zlz ls P
noncomputable def Part (H:Hp) (k:Nat) (x:Addr) (ls:List Int) (P:Pap):Prop:=∃ lx px:Addr,H x=some (.tup [.ref lx,.ref px]) /\ H lx=some (.tup (ls.map V.int)) /\ PapH H px P /\ Good k ls P
section
variable {X:Cx} {K:PySem.W.Frag}
noncomputable def rStr (K:PySem.W.Frag):List V -> Hp -> VK -> Prop:=λ xs H Q=>∃ p d,xs=[.ref p] /\ DatV K H d (.ref p) /\ d.showable=true /\ d.hasDict=false /\ d.depth <= 40 /\ d.shown.length <= sizeLine /\ Q (.str d.shown) H
def znc (hgd:X.A.guards=some []) (hu:X.A.units + 64 < cLine) (hK:X.K=K:=by rfl):zbl X (.type "str") (rStr K):=by
 subst hK;intro pins s σ H xs us Q I r h;obtain ⟨p,d,rfl,hd,h1,h2,h3,h4,q⟩:=h;obtain ⟨u,rfl,rx⟩:=zhI r;obtain ⟨as,rr⟩:=DatV.reads I d hd rx;cases rx;exact str_of_reads rr h1 (PyData.noDict_hsm h2) hgd (1:) (λ _ _ e=>e) (λ h' u tk hk=>⟨.str d.shown,H,I.kept (t':=tk) hk,⟨u,rfl⟩,q⟩) h4
end
section
variable {X:Cx}
end
mutual
inductive Tv (p:Addr) (H:Hp):PyData -> V -> Prop where
 | non:Tv p H .none .non
 | bl (b:Bool):Tv p H (.bool b) (.bl b)
 | int (i:Int):Tv p H (.int i) (.int i)
 | str (s:Str):Tv p H (.str s) (.str s)
 | lst {a:Addr} {ds:List PyData} {xs:List V} (h:H a=some (.lst xs)) (n:a ≠ p) (k:Tvs p H ds xs):Tv p H (.list ds) (.ref a)
 | tup {a:Addr} {ds:List PyData} {xs:List V} (h:H a=some (.tup xs)) (k:Tvs p H ds xs):Tv p H (.tuple ds) (.ref a)
inductive Tvs (p:Addr) (H:Hp):List PyData -> List V -> Prop where
 | nil:Tvs p H [] []
 | cons {d:PyData} {v:V} {ds:List PyData} {vs:List V} (h:Tv p H d v) (k:Tvs p H ds vs):Tvs p H (d :: ds) (v :: vs)
end
section
variable {p:Addr} {H H':Hp}
mutual
def Tv.mono (k1:∀ a xs,a ≠ p -> H a=some (.lst xs) -> H' a=some (.lst xs)) (k2:∀ a xs,H a=some (.tup xs) -> H' a=some (.tup xs)):∀ {d:PyData} {v:V},Tv p H d v -> Tv p H' d v
 | _,_,.non=>.non
 | _,_,.bl b=>.bl b
 | _,_,.int i=>.int i
 | _,_,.str s=>.str s
 | _,_,.lst h n k=>.lst (k1 _ _ n h) n (Tvs.mono k1 k2 k)
 | _,_,.tup h k=>.tup (k2 _ _ h) (Tvs.mono k1 k2 k)
def Tvs.mono (k1:∀ a xs,a ≠ p -> H a=some (.lst xs) -> H' a=some (.lst xs)) (k2:∀ a xs,H a=some (.tup xs) -> H' a=some (.tup xs)):∀ {ds:List PyData} {vs:List V},Tvs p H ds vs -> Tvs p H' ds vs
 | _,_,.nil=>.nil
 | _,_,.cons h k=>.cons (Tv.mono k1 k2 h) (Tvs.mono k1 k2 k)
end
def Tv.same {d:PyData} {v:V} (h:Tv p H d v) (s:Same H H'):Tv p H' d v:=h.mono (λ _ _ _ e=>s _ _ e) λ _ _ e=>s _ _ e
def Tv.but {d:PyData} {v:V} (h:Tv p H d v) (hp:Hand H p) (b:But p H H'):Tv p H' d v:=h.mono (λ _ _ n e=>b.keep _ _ n e) λ a _ e=>b.keep a _ (hp.neT e) e
mutual
def Tv.dat {K:PySem.W.Frag}:∀ {d:PyData} {v:V},Tv p H d v -> DatV K H d v
 | _,_,.non=>.none K H
 | _,_,.bl b=>.bool K H b
 | _,_,.int i=>.int K H i
 | _,_,.str s=>.str K H s
 | _,_,.lst h _ k=>.list (SqL.of h) (Tvs.dat k)
 | _,_,.tup h k=>.tuple (SqT.of h) (Tvs.dat k)
def Tvs.dat {K:PySem.W.Frag}:∀ {ds:List PyData} {vs:List V},Tvs p H ds vs -> DatVs K H ds vs
 | _,_,.nil=>.nil
 | _,_,.cons h k=>.cons (Tv.dat h) (Tvs.dat k)
end
def Tv.kd {d:PyData} {v:V} (h:Tv p H d v):Kd H v:=by
 cases h with
 | non=>exact .inl .non
 | bl b=>exact .inl (.bl b)
 | int i=>exact .inl (.int i)
 | str s=>exact .inl (.str s)
 | lst h _ _=>exact .inl (.lst h)
 | tup h _=>exact .inr ⟨_,_,rfl,h⟩
def Tvs.len:∀ {ds:List PyData} {vs:List V},Tvs p H ds vs -> ds.length=vs.length
 | _,_,.nil=>rfl
 | _,_,.cons _ k=>congrArg (· + 1) (Tvs.len k)
def Tvs.ints (p:Addr) (H:Hp):∀ ls:List Int,Tvs p H (ls.map .int) (ls.map V.int)
 | []=>.nil
 | i :: ls=>.cons (.int i) (Tvs.ints p H ls)
def Tvs.nth:∀ {ds:List PyData} {vs:List V} {i:Nat} {v:V},Tvs p H ds vs -> vs[i]?=some v -> ∃ d,ds[i]?=some d /\ Tv p H d v
 | _,_,_,_,.nil,e=>by simp at e
 | _,_,0,_,.cons h _,e=>by simp at e; subst e; exact ⟨_,rfl,h⟩
 | _,_,i + 1,_,.cons _ k,e=>Tvs.nth (i:=i) k (by simpa using e)
def Tvs.kds {ds:List PyData} {vs:List V} (h:Tvs p H ds vs):∀ x ∈ vs,Kd H x:=λ x hx=>by
 obtain ⟨i,hi,rfl⟩:=ybV.mp hx;obtain ⟨d,_,hd⟩:=h.nth (yab hi);exact hd.kd
def Tvs.of_ints:∀ {ls:List Int} {vs:List V},Tvs p H (ls.map .int) vs -> vs=ls.map V.int
 | [],_,.nil=>rfl
 | i :: ls,_,.cons h k=>by
  cases h;rw [Tvs.of_ints k]; rfl
def Tvs.to_ints:∀ {ds:List PyData} {ls:List Int},Tvs p H ds (ls.map V.int) -> ds=ls.map .int
 | _,[],.nil=>rfl
 | _,i :: ls,.cons h k=>by
  cases h;rw [Tvs.to_ints k]; rfl
def zdM:∀ {P:Pap} {a:Addr},PapH H a P -> Tv p H (pdat P) (.ref a)
 | .nil,_,h=>.tup h .nil
 | .node _ _ lo _ up _,_,⟨x,y,lx,px,ly,py,h1,h2,h3,h4,h5,h6,h7⟩=>
  .tup h1 (.cons (.int _) (.cons (.int _) (.cons (.tup h2 (.cons (.tup h3 (Tvs.ints p H lo)) (.cons (zdM h4) .nil))) (.cons (.tup h5 (.cons (.tup h6 (Tvs.ints p H up)) (.cons (zdM h7) .nil))) .nil))))
end
structure Bt (c k:Nat) (d:PyData):Prop where
 sh:d.showable=true
 nd:d.hasDict=false
 ls:d.leavesShort 70=true
 bk:d.bulk <= c
 dp:d.depth <= k
 cl:d.canLay0=true
def Bt.mono {c c' k k':Nat} {d:PyData} (h:Bt c k d) (hc:c <= c') (hk:k <= k'):Bt c' k' d:=⟨h.sh,h.nd,h.ls,yax h.bk hc,yax h.dp hk,h.cl⟩
structure BtL (c k:Nat) (ds:List PyData):Prop where
 sh:PyData.showableAll ds=true
 nd:PyData.hasDictAll ds=false
 ls:PyData.leavesShortAll 70 ds=true
 bk:PyData.bulkAll ds <= c
 dp:PyData.depthAll ds <= k
 cl:PyData.canLayAll0 ds=true
def BtL.nil (k:Nat):BtL 0 k []:=⟨by rw [PyData.showableAll],by rw [PyData.hasDictAll],by rw [PyData.leavesShortAll],by rw [PyData.bulkAll]; omega,by rw [PyData.depthAll]; omega,by rw [PyData.canLayAll0]⟩
def BtL.cons {c c' k:Nat} {d:PyData} {ds:List PyData} (h:Bt c k d) (t:BtL c' k ds):BtL (c + c' + 1) k (d :: ds):=
 ⟨by rw [PyData.showableAll,h.sh,t.sh]; rfl,by rw [PyData.hasDictAll,h.nd,t.nd]; rfl,by rw [PyData.leavesShortAll,h.ls,t.ls]; rfl,by have:=h.bk; have:=t.bk; rw [PyData.bulkAll]; omega,by have:=h.dp; have:=t.dp; rw [PyData.depthAll]; omega,by rw [PyData.canLayAll0,h.cl,t.cl]; rfl⟩
def BtL.mono {c c' k k':Nat} {d:List PyData} (h:BtL c k d) (hc:c <= c') (hk:k <= k'):BtL c' k' d:=⟨h.sh,h.nd,h.ls,yax h.bk hc,yax h.dp hk,h.cl⟩
def Bt.tup {c k:Nat} {ds:List PyData} (h:BtL c k ds):Bt c (k + 1) (.tuple ds):=
 ⟨by rw [PyData.showable]; exact h.sh,by rw [PyData.hasDict]; exact h.nd,by rw [PyData.leavesShort]; exact h.ls,by rw [PyData.bulk]; exact h.bk,by have:=h.dp; rw [PyData.depth]; omega,by rw [PyData.canLay0]; exact h.cl⟩
def Bt.lst {c k:Nat} {ds:List PyData} (h:BtL c k ds):Bt c (k + 1) (.list ds):=
 ⟨by rw [PyData.showable]; exact h.sh,by rw [PyData.hasDict]; exact h.nd,by rw [PyData.leavesShort]; exact h.ls,by rw [PyData.bulk]; exact h.bk,by have:=h.dp; rw [PyData.depth]; omega,by rw [PyData.canLay0]; exact h.cl⟩
def Bt.non (k:Nat):Bt 0 k .none:=⟨by rw [PyData.showable],by rw [PyData.hasDict],by rw [PyData.leavesShort],by rw [PyData.bulk]; omega,by rw [PyData.depth]; omega,by rw [PyData.canLay0]⟩
def Bt.bl (k:Nat) (b:Bool):Bt 0 k (.bool b):=⟨by rw [PyData.showable],by rw [PyData.hasDict],by rw [PyData.leavesShort],by rw [PyData.bulk]; omega,by rw [PyData.depth]; omega,by rw [PyData.canLay0]⟩
def Bt.int (k:Nat) {i:Int} (h:i.natAbs < 2 ^ 72):Bt 0 k (.int i):=by
 have hl:i.natAbs.log2 < 72:=by
  by_cases z:i.natAbs=0
  ·rw [z]; decide
  ·exact (Nat.log2_lt z).mpr h
 refine ⟨by rw [PyData.showable]; exact decide_eq_true (1:),by rw [PyData.hasDict],?_,by rw [PyData.bulk]; omega,by rw [PyData.depth]; omega,by rw [PyData.canLay0]⟩;rw [PyData.leavesShort];refine decide_eq_true ?_;rw [PyData.shown,ofString_len];have:=int_text_length_le10 (a:=i) (k:=30) (3:) (1:);omega
def BtL.ints (k:Nat):∀ {ls:List Int},(∀ i ∈ ls,i.natAbs < 2 ^ 72) -> BtL ls.length k (ls.map .int)
 | [],_=>BtL.nil k
 | i :: ls,h=>by
  have:=BtL.cons (Bt.int k (h i (.head _))) (BtL.ints k (ls:=ls) λ j hj=>h j (.tail _ hj));exact this.mono (by rw [yby]; omega) (yad _)
def zcz {ls:List Int} (E:zaD ls) (hl:ls.length <= 64):∀ i ∈ ls,i.natAbs < 2 ^ 72:=λ i hi=>by
 have:=(zdI E).2 i hi;omega
def Bt.shpd {c k:Nat} {d:PyData} (h:Bt c k d) (hk:k <= 64):shpd d=true:=by
 show (PyData.canLay0 d && decide (PyData.depth d <= 64))=true;rw [h.cl,decide_eq_true (yax h.dp hk)];rfl
def Bt.shown {c k:Nat} {d:PyData} (h:Bt c k d) (hc:c <= 100000):d.shown.length <= sizeLine:=by
 have:=PyData.shown_le_bulk 70 (3:) d h.ls;have:=h.bk;rw [sizeLine_eq];have:72 * d.bulk <= 72 * 100000:=Nat.mul_le_mul_left _ (1:);omega
noncomputable def szP (k:Nat):Nat:=138 * 2 ^ k
noncomputable def szB (k:Nat):Nat:=138 * 2 ^ k + 200
def zjh (k:Nat):138 <= szP k:=by
 unfold szP;have:=ybF (n:=k);omega
def zfK:∀ (k:Nat) {P:Pap},zfr k P -> k <= 6 -> Bt (szP k - 138) (2 * k + 1) (pdat P)
 | 0,.nil,_,_=>(Bt.tup (BtL.nil 0)).mono (by unfold szP; omega) (1:)
 | k + 1,.node m1 m2 lo pl up pu,⟨o1,o2,o3,o4,o5,o6,o7,o8⟩,hk=>by
  have b1:=zfK k o7 (1:);have b2:=zfK k o8 (1:);have h32:2 ^ k <= 32:=yax (yaI (3:) (show k <= 5 by omega)) (3:)
  have hm:∀ m:Nat,m < 2 ^ 2 ^ k -> ((m:Nat):Int).natAbs < 2 ^ 72:=λ m h=>by
   rw [ya3];exact yah h (yaI (3:) (1:))
  have part:∀ (ls:List Int) (P:Pap),zaD ls -> ls.length=2 ^ k -> Bt (szP k - 138) (2 * k + 1) (pdat P) -> Bt (szP k - 138 + 34) (2 * k + 2) (.tuple [.tuple (ls.map .int),pdat P]):=λ ls P e1 e2 e3=>
   (Bt.tup (BtL.cons ((Bt.tup (BtL.ints 0 (zcz e1 (1:)))).mono (yad _) (1:)) (BtL.cons e3 (BtL.nil _)))).mono (1:) (yad _)
  have p1:=part lo pl o3 o4 b1;have p2:=part up pu o5 o6 b2;have e:szP (k + 1)=2 * szP k:=by unfold szP; rw [ybi]; omega
  have:=zjh k;exact (Bt.tup (BtL.cons (Bt.int (2 * k + 2) (hm m1 o1)) (BtL.cons (Bt.int (2 * k + 2) (hm m2 o2)) (BtL.cons p1 (BtL.cons p2 (BtL.nil _)))))).mono (1:) (1:)
structure FourD (h:Nat) (d:PyData) (m1 m2:Nat) (lo:List Int) (x:PyData) (up:List Int) (y:PyData):Prop where
 eq:d=.tuple [.int m1,.int m2,.tuple [.tuple (lo.map .int),x],.tuple [.tuple (up.map .int),y]]
 b1:m1 < 2 ^ h
 b2:m2 < 2 ^ h
 e1:zaD lo
 l1:lo.length=h
 e2:zaD up
 l2:up.length=h
noncomputable def OkD:Nat -> List Int -> PyData -> Prop
 | 0,_,d=>d=.tuple []
 | k + 1,ls,d=>∃ m1 m2 lo x up y,FourD (2 ^ k) d m1 m2 lo x up y /\ zdG (2 ^ k) m1 m2 lo up=ls /\ OkD k lo x /\ OkD k up y
def zaY:∀ {a b:List Int},a.map PyData.int=b.map PyData.int -> a=b
 | [],[],_=>rfl
 | [],_ :: _,e=>by cases e
 | _ :: _,[],e=>by cases e
 | x :: a,y :: b,e=>by
  simp only [ybj,List.cons.injEq,PyData.int.injEq] at e;rw [e.1,zaY e.2]
def FourD.uniq {h:Nat} {d:PyData} {m1 m2 n1 n2:Nat} {lo up lo' up':List Int} {x y x' y':PyData} (a:FourD h d m1 m2 lo x up y) (b:FourD h d n1 n2 lo' x' up' y'):m1=n1 /\ m2=n2 /\ lo=lo' /\ x=x' /\ up=up' /\ y=y':=by
 have e:=a.eq.symm.trans b.eq;simp only [PyData.tuple.injEq,List.cons.injEq,PyData.int.injEq,and_true] at e;obtain ⟨e1,e2,⟨e3,e4⟩,e5,e6⟩:=e;exact ⟨by omega,by omega,zaY e3,e4,zaY e5,e6⟩
def OkD.step {k:Nat} {ls:List Int} {d:PyData} {m1 m2:Nat} {lo up:List Int} {x y:PyData} (F:FourD (2 ^ k) d m1 m2 lo x up y):OkD (k + 1) ls d ↔ zdG (2 ^ k) m1 m2 lo up=ls /\ OkD k lo x /\ OkD k up y:=by
 constructor
 ·rintro ⟨n1,n2,lo',x',up',y',F',h⟩;obtain ⟨rfl,rfl,rfl,rfl,rfl,rfl⟩:=F.uniq F';exact h
 ·exact λ h=>⟨m1,m2,lo,x,up,y,F,h⟩
noncomputable def zh7 (p:Addr) (H:Hp) (h:Nat) (t:Addr) (m1 m2:Nat) (lo:List Int) (x:PyData) (up:List Int) (y:PyData):Prop:=∃ (s1 s2 a b:Addr) (v1 v2:V),H t=some (.tup [nV m1,nV m2,.ref s1,.ref s2]) /\ H s1=some (.tup [.ref a,v1]) /\ H a=some (.tup (lo.map V.int)) /\ H s2=some (.tup [.ref b,v2]) /\ H b=some (.tup (up.map V.int)) /\ Tv p H x v1 /\ Tv p H y v2
def zh7.of {p:Addr} {H:Hp} {h:Nat} {t:Addr} {m1 m2:Nat} {lo up:List Int} {x y:PyData} (T:Tv p H (.tuple [.int m1,.int m2,.tuple [.tuple (lo.map .int),x],.tuple [.tuple (up.map .int),y]]) (.ref t)):zh7 p H h t m1 m2 lo x up y:=by
 cases T with
 | tup h0 k0=>
  cases k0 with | cons a1 k1=>
  cases k1 with | cons a2 k2=>
  cases k2 with | cons a3 k3=>
  cases k3 with | cons a4 k4=>
  cases k4;cases a1;cases a2;cases a3 with | tup h3 j3=>
  cases a4 with | tup h4 j4=>
  cases j3 with | cons c1 c2=>
  cases c2 with | cons c3 c4=>
  cases c4;cases c1 with | tup h5 j5=>
  cases j4 with | cons g1 g2=>
  cases g2 with | cons g3 g4=>
  cases g4;cases g1 with | tup h6 j6=>
  obtain rfl:=j5.of_ints;obtain rfl:=j6.of_ints;exact ⟨_,_,_,_,_,_,h0,h3,h5,h4,h6,c3,g3⟩
def Bt.str (k:Nat) {c:Nat} {x:Str} (h1:(x.cps.toList.all λ c=>decide (c < 16 ^ 8))=true) (h2:x.cps.size <= c) (h3:(PyData.str x).canLay0=true):Bt c k (.str x):=
 ⟨by rw [PyData.showable],by rw [PyData.hasDict],by rw [PyData.leavesShort]; exact h1,by rw [PyData.bulk]; exact h2,by rw [PyData.depth]; omega,h3⟩
def zhe:∀ ds:List PyData,ds.length <= PyData.bulkAll ds
 | []=>yaY _
 | d :: ds=>by have:=zhe ds; rw [PyData.bulkAll,yby]; omega
def BtL.len {c k:Nat} {ds:List PyData} (h:BtL c k ds):ds.length <= c:=yax (zhe ds) h.bk
def BtL.parts {c k:Nat} {d:PyData} {ds:List PyData} (h:BtL c k (d :: ds)):Bt c k d /\ BtL c k ds:=by
 have a1:=h.sh;have a2:=h.nd;have a3:=h.ls;have a4:=h.bk;have a5:=h.dp;have a6:=h.cl;rw [PyData.showableAll,yak] at a1;rw [PyData.hasDictAll,Bool.or_eq_false_iff] at a2;rw [PyData.leavesShortAll,yak] at a3;rw [PyData.bulkAll] at a4;rw [PyData.depthAll] at a5;rw [PyData.canLayAll0,yak] at a6;exact ⟨⟨a1.1,a2.1,a3.1,by omega,by omega,a6.1⟩,⟨a1.2,a2.2,a3.2,by omega,by omega,a6.2⟩⟩
def Bt.parts {c k:Nat} {ds:List PyData} (h:Bt c k (.tuple ds)):BtL c k ds:=by
 have a1:=h.sh;have a2:=h.nd;have a3:=h.ls;have a4:=h.bk;have a5:=h.dp;have a6:=h.cl;rw [PyData.showable] at a1;rw [PyData.hasDict] at a2;rw [PyData.leavesShort] at a3;rw [PyData.bulk] at a4;rw [PyData.depth] at a5;rw [PyData.canLay0] at a6;exact ⟨a1,a2,a3,a4,by omega,a6⟩
noncomputable abbrev Bx (d:PyData):Prop:=Bt 9999 40 d
def Bt.bx {c k:Nat} {d:PyData} (h:Bt c k d) (hc:c <= 9999) (hk:k <= 40):Bx d:=h.mono hc hk
section
variable {p:Addr} {H:Hp}
def Tv.cases2 {d:PyData} {v:V} (h:Tv p H d v):(∃ (a:Addr) (ds:List PyData) (xs:List V),d=.tuple ds /\ v=.ref a /\ H a=some (.tup xs) /\ Tvs p H ds xs) \/ (Nt H v /\ ∀ ds,d ≠ .tuple ds):=by
 cases h with
 | tup h k=>exact .inl ⟨_,_,_,rfl,rfl,h,k⟩
 | non=>exact .inr ⟨.non,nofun⟩
 | bl b=>exact .inr ⟨.bl b,nofun⟩
 | int i=>exact .inr ⟨.int i,nofun⟩
 | str s=>exact .inr ⟨.str s,nofun⟩
 | lst h _ _=>exact .inr ⟨.lst h,nofun⟩
def zji {xs:List V} (h:zfv xs=true):∃ lo:List Int,xs=lo.map V.int /\ Ld lo.length lo /\ 1 <= lo.length /\ lo.length <= 64:=by
 unfold zfv at h;rw [yak,yak,decide_eq_true_iff,decide_eq_true_iff,yaQ] at h;obtain ⟨⟨h1,h2⟩,h3⟩:=h
 have w:∀ v ∈ xs,v=.int (intV v) /\ -2 <= intV v /\ intV v < (xs.length:Int):=λ v hv=>by
  have:=h3 v hv;cases v <;> simp [zaB] at this;exact ⟨rfl,this.1,by have:=this.2; show _ < _; simp only [intV]; omega⟩
 have e:xs=(xs.map intV).map V.int:=by
  rw [ya4]
  conv=>lhs; rw [<- List.map_id xs]
  exact yaR λ v hv=>(w v hv).1
 refine ⟨xs.map intV,e,⟨rfl,λ i hi=>?_⟩,by rw [yaa]; exact h1,by rw [yaa]; exact h2⟩;obtain ⟨v,hv,rfl⟩:=yaW.mp hi;rw [yaa];exact (w v hv).2
def zi6 {lo:List Int} (E:zaD lo) (h1:1 <= lo.length) (h2:lo.length <= 64):zfv (lo.map V.int)=true:=by
 unfold zfv;rw [yaa,decide_eq_true h1,decide_eq_true h2,Bool.and_true,ybX,List.all_map,yaQ];intro i hi;have:=(zdI E).2 i hi;show (decide ((-2:Int) <= i) && decide (i <= (lo.length:Int) - 1))=true;rw [decide_eq_true (1:),decide_eq_true (1:)];rfl
def Tv.lead {d:PyData} {v:V} (h:Tv p H d v) (hb:Bx d):∃ r,zkR H v r /\ (r=true -> ∃ (a:Addr) (lo:List Int),v=.ref a /\ H a=some (.tup (lo.map V.int)) /\ d=.tuple (lo.map .int) /\ Ld lo.length lo /\ 1 <= lo.length /\ lo.length <= 64) /\ (∀ lo:List Int,d=.tuple (lo.map .int) -> zaD lo -> 1 <= lo.length -> lo.length <= 64 -> r=true):=by
 rcases h.cases2 with ⟨a,ds,xs,rfl,rfl,ha,hk⟩ | ⟨hn,hd⟩
 ·have hl := hk.len;have hz := hb.parts.len;refine ⟨zfv xs, .inl ⟨a, xs, rfl, ha, hk.kds, by omega, rfl⟩, fun z => ?_, fun lo e E l1 l2 => ?_⟩
  ·obtain ⟨lo,rfl,h1,h2,h3⟩:=zji z;exact ⟨a,lo,rfl,ha,by rw [hk.to_ints],h1,h2,h3⟩
  ·cases e;rw [hk.of_ints];exact zi6 E l1 l2
 ·exact ⟨false,.inr ⟨hn,rfl⟩,(λ z=>(47:)),λ lo e=>absurd e (hd _)⟩
end
def Bt.text (k:Nat) {i:Int} (h:i.natAbs < 2 ^ 72):Bt 31 k (.str (Str.ofString (toString i))):=by
 have hc:∀ c ∈ (Str.ofString (toString i)).cps.toList,c < 100:=λ c hc=>by
  rcases ybg c 100 with z | z
  ·exact z
  ·exact absurd hc (int_text_free' c ⟨by omega,by omega⟩ i)
 refine Bt.str k (yaQ.mpr λ c z=>decide_eq_true (yb3 (hc c z) (3:))) ?_ ?_
 ·have e:(Str.ofString (toString i)).cps.size=(Str.ofString (toString i)).length:=rfl;rw [e,ofString_len];exact int_text_length_le10 (a:=i) (k:=30) (3:) (1:)
 ·rw [PyData.canLay0,PyData.strOk,<- Array.all_toList,yaQ];exact λ c z=>decide_eq_true (yb3 (hc c z) (3:))
def zb9 {c1 c2 k:Nat} {d1 d2:PyData} (h1:Bt c1 k d1) (h2:Bt c2 k d2):Bt (c1 + c2 + 2) (k + 1) (.tuple [d1,d2]):=(Bt.tup (BtL.cons h1 (BtL.cons h2 (BtL.nil k)))).mono (1:) (yad _)
def zbG {c1 c2 c3 c4 k:Nat} {d1 d2 d3 d4:PyData} (h1:Bt c1 k d1) (h2:Bt c2 k d2) (h3:Bt c3 k d3) (h4:Bt c4 k d4):Bt (c1 + c2 + c3 + c4 + 4) (k + 1) (.tuple [d1,d2,d3,d4]):=
 (Bt.tup (BtL.cons h1 (BtL.cons h2 (BtL.cons h3 (BtL.cons h4 (BtL.nil k)))))).mono (1:) (yad _)
def zix {ls:List Int} (E:zaD ls) (hl:ls.length <= 32) (k:Nat):Bt 32 (k + 1) (.tuple (ls.map .int)):=(Bt.tup (BtL.ints k (zcz E (1:)))).mono hl (yad _)
def PapH.mono {H H':Hp} (s:∀ a xs,H a=some (.tup xs) -> H' a=some (.tup xs)):∀ {P:Pap} {a:Addr},PapH H a P -> PapH H' a P
 | .nil,_,h=>s _ _ h
 | .node _ _ _ _ _ _,_,⟨x,y,lx,px,ly,py,h1,h2,h3,h4,h5,h6,h7⟩=>⟨x,y,lx,px,ly,py,s _ _ h1,s _ _ h2,s _ _ h3,PapH.mono s h4,s _ _ h5,s _ _ h6,PapH.mono s h7⟩
def zaT {H H':Hp} {p:Addr} (hp:Hand H p) (b:But p H H'):∀ a xs,H a=some (.tup xs) -> H' a=some (.tup xs):=λ a _ e=>b.keep a _ (hp.neT e) e
def zkt (ds:List PyData):PyData.eqv (.tuple ds) (.tuple [])=ds.isEmpty:=by cases ds <;> rfl
def zk5 {P:Pap}:∃ ds,pdat P=.tuple ds /\ (ds.isEmpty=true ↔ P=.nil):=by
 cases P with
 | nil=>exact ⟨_,rfl,⟨λ _=>rfl,λ _=>rfl⟩⟩
 | node _ _ _ _ _ _=>exact ⟨_,rfl,⟨λ z=>(47:),λ z=>(47:)⟩⟩
def zd9 {K:PySem.W.Frag} {H:Hp} {Q:VK} {k:Nat} {t q:Addr} {P:Pap} (h:PapH H t P) (ok:zfr k P) (hk:k <= 6) (hq:H q=some (.tup [])) (y:∀ b,(b=true ↔ P=.nil) -> Q (.bl b) H):rEqU K (.ref t) (.ref q) H Q:=by
 obtain ⟨ds,e,z⟩:=zk5 (P:=P);refine ⟨pdat P,.tuple [],zjE h,DatV.tuple (xs:=[]) (SqT.of hq) .nil,zmD ok hk,rfl,?_⟩;rw [e,zkt];exact y _ z
noncomputable def zlT (h:Nat) (d:PyData):Prop:=∃ (lo:List Int) (x:PyData),d=.tuple [.tuple (lo.map .int),x] /\ zaD lo /\ lo.length=h
noncomputable def zgf:Sp:=λ vs H Q _=>∃ (p:Addr) (h:Nat) (v:V) (d:PyData),vs=[nV h,v] /\ Tv p H d v /\ Bx d /\ 1 <= h /\ h <= 32 /\ ∀ b H',(b=true ↔ zlT h d) -> Same H H' -> Q (.bl b) H'
noncomputable def zm9 (h:Nat) (ds:List PyData):Prop:=∃ m1 m2 lo x up y,FourD h (.tuple ds) m1 m2 lo x up y
noncomputable def zeN:Sp:=λ vs H Q _=>∃ (p:Addr) (h:Nat) (t:Addr) (ds:List PyData) (xs:List V),vs=[nV h,.ref t] /\ H t=some (.tup xs) /\ Tvs p H ds xs /\ BtL 9999 40 ds /\ 1 <= h /\ h <= 32 /\ ∀ b H',(b=true ↔ zm9 h ds) -> Same H H' -> Q (.bl b) H'
noncomputable def zfY:Sp:=λ vs H Q _=>∃ (p:Addr) (h:Nat) (t:Addr) (m1 m2:Nat) (lo:List Int) (x:PyData) (up:List Int) (y:PyData),vs=[nV h,.ref t] /\ zh7 p H h t m1 m2 lo x up y /\ m1 < 2 ^ h /\ m2 < 2 ^ h /\ zaD lo /\ lo.length=h /\ zaD up /\ up.length=h /\ 1 <= h /\ h <= 32 /\
 ∀ (r:Addr) (H':Hp),Same H H' -> H' r=some (.tup ((zdG h m1 m2 lo up).map V.int)) -> Q (.ref r) H'
noncomputable def zaS:Nat -> Sp
 | 0=>λ _ _ _ _=>False
 | j + 1=>λ vs H Q _=>∃ (p a:Addr) (v:V) (d:PyData) (ls:List Int) (k:Nat),vs=[.ref a,v] /\ H a=some (.tup (ls.map V.int)) /\ ls.length=2 ^ k /\ Tv p H d v /\ Bx d /\ k <= j /\ k <= 6 /\ ∀ b H',(b=true ↔ OkD k ls d) -> Same H H' -> Q (.bl b) H'
noncomputable def za9:Nat -> Sp
 | 0=>λ _ _ _ _=>False
 | j + 1=>λ vs H Q _=>∃ (p x a:Addr) (v:V) (d:PyData) (ls:List Int) (k:Nat),vs=[.ref x] /\ H x=some (.tup [.ref a,v]) /\ H a=some (.tup (ls.map V.int)) /\ ls.length=2 ^ k /\ Tv p H d v /\ Bx d /\ k < j /\ k <= 6 /\ ∀ b H',(b=true ↔ OkD k ls d) -> Same H H' -> Q (.bl b) H'
noncomputable def zfD:Sp:=λ vs H Q _=>∃ (p:Addr) (h:Nat) (v:V) (d:PyData),vs=[nV h,v] /\ Tv p H d v /\ h <= 32 /\ ∀ b H',(b=true ↔ ∃ m:Nat,d=.int m /\ m < 2 ^ h) -> Same H H' -> Q (.bl b) H'
noncomputable def OrdP (h:Nat) (d:PyData):Prop:=∃ lo:List Int,d=.tuple (lo.map .int) /\ zaD lo /\ lo.length=h
noncomputable def zeW:Sp:=λ vs H Q _=>∃ (p:Addr) (h:Nat) (v:V) (d:PyData),vs=[v,nV h] /\ Tv p H d v /\ Bx d /\ h <= 32 /\ ∀ b H',(b=true ↔ OrdP h d) -> Same H H' -> Q (.bl b) H'
noncomputable def zaG:Nat -> Sp
 | 0=>λ _ _ _ _=>False
 | j + 1=>λ vs H Q _=>∃ (p a:Addr) (v:V) (d:PyData) (ls:List Int) (k:Nat),vs=[.ref a,v] /\ H a=some (.tup (ls.map V.int)) /\ ls.length=2 ^ k /\ Tv p H d v /\ Bx d /\ k <= j /\ k <= 6 /\ ∀ b H',(b=true ↔ OkD k ls d) -> Same H H' -> Q (.bl b) H'
noncomputable def zju:Sp:=λ vs H Q _=>∃ p:Addr,vs=[.ref p] /\ Hand H p /\ ∀ (v:V) (d:PyData) (H':Hp),But p H H' -> Hand H' p -> Tv p H' d v -> Bt 30 5 d -> Q v H'
noncomputable def zhp:Sp:=λ vs H Q _=>∃ (p a:Addr) (ls:List Int),vs=[.ref p,.ref a] /\ Hand H p /\ H a=some (.tup (ls.map V.int)) /\ zaD ls /\ 1 <= ls.length /\ ls.length <= 32 /\ ∀ (v:V) (d:PyData) (H':Hp),But p H H' -> Hand H' p -> Tv p H' d v -> Bt 40 6 d -> Q v H'
noncomputable def zbB:Nat -> Sp
 | 0=>λ _ _ _ _=>False
 | j + 1=>λ vs H Q _=>∃ (p t:Addr) (P:Pap) (k hf:Nat),vs=[.ref p,.ref t,nV hf] /\ Hand H p /\ PapH H t P /\ zfr k P /\ k <= j /\ k <= 6 /\ 1 <= hf /\ hf <= 32 /\ ∀ (v:V) (d:PyData) (H':Hp),But p H H' -> Hand H' p -> Tv p H' d v -> Bt (szB k) (2 * k + 9) d -> Q v H'
noncomputable def zjq:Sp:=λ vs H Q _=>∃ (p a:Addr) (v:V) (d:PyData) (ls:List Int) (k:Nat),vs=[.ref a,v] /\ H a=some (.tup (ls.map V.int)) /\ zaD ls /\ ls.length=2 ^ k /\ k <= 6 /\ Tv p H d v /\ Bt 9900 30 d /\ ∀ H',Same H H' -> Q (.bl true) H'
section
variable {X:Cx} {K:PySem.W.Frag}
noncomputable def rEqW (K:PySem.W.Frag):R2:=λ x y H Q=>(∃ t:Str,x=.str t /\ y=.str t /\ Q (.bl true) H) \/ rEqU K x y H Q
def zmS (hu:X.A.units + 64 < cLine) (hK:X.K=K:=by rfl):OpR X (compareOp .Eq) (rEqW K):=by
 intro pins s σ H x y v u Q I rx ry h;rcases h with ⟨t,rfl,rfl,q⟩ | h
 ·obtain ⟨ta,rfl⟩:∃ ta,v=.str t ta:=rx;obtain ⟨tb,rfl⟩:∃ tb,u=.str t tb:=ry;refine P.eq_str ?_;rw [beq_self_eq_true];exact ⟨.bl true,H,I,rfl,q⟩
 ·exact k_eq hu hK pins s σ H x y v u Q I rx ry h
def zlj {t:Str} {H:Hp} {Q:VK} (h:Q (.bl true) H):rEqW K (.str t) (.str t) H Q:=.inl ⟨t,rfl,rfl,h⟩
def zlD {x y:V} {H:Hp} {Q:VK} (h:rEqU K x y H Q):rEqW K x y H Q:=.inr h
end
end L2
set_option maxHeartbeats 0
open L2 in
local macro_rules | `(tactic| walk_at "pv")=>`(tactic| exact ⟨rfl,by first | exact Or.inl rfl | exact Or.inr (.inl rfl) | exact Or.inr (.inr rfl),by decide,by decide⟩)
open L2 in
local macro_rules | `(tactic| walk_at "vis")=>`(tactic| first | exact .inl rfl | exact .inr rfl | assumption)
open L2 in
local macro_rules | `(tactic| walk_at "lk2")=>`(tactic| first | assumption | exact zaf | (refine (?h:∀ o,upd _ _ o _=some (HO.lst _)) _; (case h=>assumption)))
open L2 in
local macro_rules | `(tactic| walk_at "lk")=>`(tactic| first | assumption | exact zaf | exact SqL.of (by walk_at "lk2") | exact SqT.of (by walk_at "lk2") | (refine (?h:∀ o,upd _ _ o _=some (HO.lst _)) _; (case h=>assumption)))
open L2 in
local macro_rules | `(tactic| walk_at "side")=>`(tactic| first | omega | decide | exact ⟨by omega,by omega⟩ | exact ⟨by omega,by omega,by omega⟩ | exact .inl ⟨by omega,by omega⟩ | exact .inr ⟨by omega,by omega⟩)
open L2 in
local macro_rules | `(tactic| walk_at "sz")=>`(tactic| (refine small5 ?_; first | omega | (simp only [yaa,yaF,yby,List.length_nil,yas,yaE,Bm.bitsB]; omega)))
open L2 in
local macro_rules | `(tactic| walk_at "st")=>`(tactic| first
  | (with_reducible first | refine znJ ?_ | refine s_nx ?_ | refine s_rt ?_ | refine znw ?_ | refine zlu ?_)
  | ((with_reducible refine znK (v:=?v) ?e ?_); (case e=>exact rfl))
  | (with_reducible first | refine s_c ?_ | refine s_op ?_ | refine zmj ?_ | refine zlQ ?_ | refine znA ?_)
  | ((with_reducible refine s_ri ?c ?_); (case c=>walk_at "side"))
  | (with_reducible first | refine zle ?_)
  | ((with_reducible refine zjS ?c ?_); (case c=>walk_at "side"))
  | (with_reducible first | refine zlL ?_ | refine zlM ?_ | refine zlJ ?_)
  | ((with_reducible refine zlE ?e ?_); (case e=>decide +kernel))
  | ((with_reducible refine zlg ?e ?_); (case e=>decide +kernel))
  | (with_reducible first | refine znO ?_ | refine s_if ?_ | refine znl ?_ | refine s_b ?_ | refine znM ?_ | refine znL ?_ | refine s_or ?_ | refine znP ?_ | refine zmP ?_ | refine zl2 ?_ | refine zmJ ?_ | refine s_un ?_ | refine s_ru ?_ | refine s_cb ?_ | refine znb ?_ | refine znN ?_ | refine znu ?_ | refine zmT ?_ | refine zmU ?_ | refine zk6 ?_ | refine zma ?_ | refine zlO ?_ | refine zmx ?_ | refine zm5 ?_ | refine zmM ?_ | refine znI ?_ | refine zmz ?_ | refine ziG ?_ | refine s_sl ?_ | refine zjU ?_ | refine zm8 ?_ | refine zmd ?_)
  | ((with_reducible refine zmK (xs:=?xs) ?hq ?_); (case hq=>walk_at "lk"))
  | ((with_reducible refine zl5 (xs:=?xs) ?hq ?_); (case hq=>walk_at "lk"))
  | ((with_reducible refine zaR (xs:=?xs) (v:=?v) ?hq ?h0 ?e ?_); (case hq=>walk_at "lk"); (case h0=>decide); (case e=>exact rfl))
  | ((with_reducible refine zdN (xs:=?xs) (v:=?v) ?hq ?h0 ?e ?_); (case hq=>walk_at "lk"); (case h0=>decide); (case e=>exact rfl))
  | ((with_reducible refine zj8 (xs:=?xs) (j:=?j) ?hp ?e ?_); (case hp=>walk_at "lk"); (case e=>exact rfl); (try rw [zir]))
  | (with_reducible first | refine znS ?_ | refine znB ?_ | refine znF ?_ | refine zns ?_ | refine zm3 ?_ | refine zkj ?_ | refine zkp ?_ | refine zkk ?_)
  | ((with_reducible refine zkl (xs:=?xs) ?hq ?_); (case hq=>walk_at "lk"))
  | (with_reducible first | refine zmp ?_ | refine zlH ?_)
  | ((with_reducible refine zmX (xs:=?xs) ?hq ?hl ?_); (case hq=>walk_at "lk"); (case hl=>exact rfl))
  | ((with_reducible refine zmn ?e ?_); (case e=>exact rfl))
  | ((with_reducible refine zmc ?e ?f ?_); (case e=>exact rfl); (case f=>exact rfl))
  | (with_reducible first | refine znx ?_)
  | ((with_reducible refine znD (xs:=?xs) ?hq ?_); (case hq=>walk_at "lk"))
  | ((with_reducible refine zlP (xs:=?xs) ?hp ?hz ?_); (case hp=>walk_at "lk"); (case hz=>walk_at "sz"); (try rw [zir]))
  | (with_reducible first | refine zlw ?_ | refine zkq ?_ | refine zj1 ?_ | refine zmm ?_)
  | (with_reducible first | refine zlK ?_ | refine znE ?_ | refine znH ?_ | refine s_bm ?_ | refine iteT ?_ | refine iteF ?_))
open L2 in
local macro_rules | `(tactic| walk_at "go")=>`(tactic| repeat (walk_at "st"))
open L2 in
local macro_rules | `(tactic| walk_at "goI")=>`(tactic| repeat ((fail_if_success (with_reducible refine zmJ ?_)); (fail_if_success (with_reducible refine s_if ?_)); walk_at "st"))
namespace PySem.W.Fast
def tw3303096721393720908:=0
def tw7877852797566084996:=0
def tw15810529738923016809:=0
def tw2102288237237549097:=0
def tw4044197527011910196:=0
def tw9750562679140400616:=0
def tw11234813576724717495:=0
def tw4026600920526145477:=0
def tw1919188231136989712:=0
def tw15308985737405200328:=0
def tw17741536043858349252:=0
def tw6287614476613889603:=0
def tw6256760215428757856:=0
def tw175087947177903620:=0
def tw13472519969817948285:=0
def tw13233067844242831570:=0
def tw9137785795549845225:=0
def tw3376426877163734300:=0
def tw11246074688103169970:=0
def tw8330940925249188370:=0
def tw2013604237621941272:=0
def tw9816290391347061687:=0
def tw12639719001291721529:=0
def tw1040129447744219859:=0
def tw6879919107341679557:=0
def tw4313253401034438850:=0
def tw7085757287498819551:=0
def tw7494423203493901109:=0
def tw5497419499351834931:=0
def tw1397854525876713175:=0
def tw8655597359998299627:=0
def tw4728038470952587443:=0
def tw10896203015167401460:=0
def tw4906846472904287257:=0
def tw9998892795074697758:=0
def tw667588250271345626:=0
def tw10155877497821827083:=0
def tw17182825213621972481:=0
def tw7189546871774187930:=0
def tw16442687212163910599:=0
def tw16839056618352780991:=0
def tw16100253439343177194:=0
def tw16687778815744723548:=0
def tw13277210834152267424:=0
def tw4570783878157139592:=0
def tw17251065531166700447:=0
def tw16242119674897455059:=0
def tw14906120733687601457:=0
def tw17661070683865702815:=0
def tw13042552603704536926:=0
def tw5557438840442330508:=0
def tw6499229231574447452:=0
def tw6367837910102887264:=0
def tw753766151065949410:=0
def tw15050994020784406555:=0
def tw11561589489753279550:=0
def tw11138601181250741335:=0
def tw15815978687629764843:=0
def tw8144593616155965668:=0
def tw10022258893865790309:=0
def tw9306425787861159008:=0
def tw3470389135235645963:=0
def tw18277746526546658895:=0
def tw9708705424391483254:=0
def tw7707657751149967526:=0
def tw15410085843135110676:=0
def tw9264023606653991436:=0
def tw9701411995264605354:=0
def tw14832922878656912242:=0
def tw15962183304588077999:=0
def tw17300720057823252537:=0
def tw11924873147898979912:=0
def tw16633031143169390557:=0
def tw14055775431071327672:=0
def tw7340930065675426883:=0
def tw1781243432178010560:=0
def tw3950939912093472547:=0
def tw10572635848638328129:=0
def tw11493985839874599557:=0
def tw102635040665470355:=0
def tw17589954479663931704:=0
def tw4602922663795446438:=0
def tw9491928975062257600:=0
def tw9414262213406015843:=0
def tw2568973134556794355:=0
def tw5510621276907922645:=0
def tw7794073665636444262:=0
def tw7303568840427744091:=0
def tw6084237465937111234:=0
def tw16915441794370332569:=0
end PySem.W.Fast
namespace Lw
local macro_rules | `(tactic| symm)=>`(tactic| walk_at "go")
open PySem PyProof.Rows L2 Bm
noncomputable def top (i:Nat):Stmt:=PySem.Challenge.pw_bitlead_k23_papers_spoilt.main.body.getD i (.Pass ⟨0,0,0,0⟩)
noncomputable abbrev zeb:Stmt:=top 17
noncomputable abbrev zbR:Stmt:=top 35
noncomputable abbrev zd8:Stmt:=top 3
noncomputable abbrev zbv:Stmt:=top 18
noncomputable abbrev zdv:Stmt:=top 40
noncomputable abbrev zbJ:Stmt:=top 39
noncomputable abbrev zcl:Stmt:=top 38
noncomputable abbrev zbe:Stmt:=top 37
noncomputable abbrev zfu:Stmt:=top 36
noncomputable abbrev zca:Stmt:=top 42
noncomputable abbrev zc1:Stmt:=top 43
noncomputable abbrev zcZ:Stmt:=top 44
noncomputable abbrev zct:Stmt:=top 49
noncomputable abbrev zaX:Stmt:=top 50
noncomputable abbrev zc2:Stmt:=top 51
noncomputable abbrev zkS:Stmt:=top 4
noncomputable abbrev zcY:Stmt:=top 6
noncomputable abbrev zbL:Stmt:=top 15
noncomputable abbrev zea:Stmt:=top 29
noncomputable abbrev zdw:Stmt:=top 28
noncomputable abbrev zg8:Stmt:=top 16
noncomputable abbrev zff:Stmt:=top 1
noncomputable abbrev zb3:Stmt:=top 2
noncomputable abbrev zbo:Stmt:=top 21
noncomputable abbrev zbI:Stmt:=top 22
noncomputable abbrev zbg:Stmt:=top 24
noncomputable abbrev zb7:Stmt:=top 25
noncomputable abbrev zcW:Stmt:=top 23
noncomputable abbrev zbj:Stmt:=top 20
noncomputable abbrev zdD:Stmt:=top 32
noncomputable abbrev zd3:Stmt:=top 31
noncomputable abbrev zcw:Stmt:=top 30
noncomputable abbrev zbP:Stmt:=top 27
noncomputable abbrev zbQ:Stmt:=top 45
noncomputable abbrev zbn:Stmt:=top 46
noncomputable abbrev za3:Stmt:=top 47
noncomputable abbrev zaH:Stmt:=top 48
noncomputable abbrev zb8:Stmt:=top 52
noncomputable abbrev zgT:Stmt:=top 53
structure Blt (K:PySem.W.Frag) (mg:Str -> Option Value):Prop where
 b_abs:mg "abs"=none
 b_all:mg "all"=none
 b_bool:mg "bool"=none
 b_enumerate:mg "enumerate"=none
 b_int:mg "int"=none
 b_isinstance:mg "isinstance"=none
 b_len:mg "len"=none
 b_list:mg "list"=none
 b_max:mg "max"=none
 b_min:mg "min"=none
 b_range:mg "range"=none
 b_sorted:mg "sorted"=none
 b_str:mg "str"=none
 b_tuple:mg "tuple"=none
 g_HALVED_WIDTHS:∃ a:Addr,mg "HALVED_WIDTHS"=some (.ref a) /\ ∀ H,L2.SqT K H a [.int 1,.int 2,.int 4,.int 8,.int 16,.int 32,.int 64]
 g_NOUGHT:∃ t,mg "NOUGHT"=some (.int (-1) t)
 g_ONE:∃ t,mg "ONE"=some (.int (-2) t)
 g_WIDEST:∃ t,mg "WIDEST"=some (.int (64) t)
section
variable (P:Program) (w:World) (K:PySem.W.Frag) (mg:Str -> Option Value) (base:Heap)
noncomputable abbrev A0:Prop:=FnAt P w K mg base "is_even" ["leading"] 1 zhd
noncomputable abbrev A1:Prop:=FnAt P w K mg base "check_halved" ["width"] 1 zhF
noncomputable abbrev A2:Prop:=FnAt P w K mg base "mask_of" ["places"] 1 (zhr K)
noncomputable abbrev A3:Prop:=FnAt P w K mg base "turned_back" ["leading"] 2 zeM
noncomputable abbrev A4:Prop:=FnAt P w K mg base "opposite" ["place","half"] 1 zmk
noncomputable abbrev A5:Prop:=FnAt P w K mg base "through_upper" ["leading"] 3 zgq
noncomputable abbrev A7:Prop:=FnAt P w K mg base "paper_of" ["leading"] 17 (zbC 7)
noncomputable abbrev A8:Prop:=FnAt P w K mg base "halves" ["leading"] 18 zhc
noncomputable abbrev A9:Prop:=FnAt P w K mg base "_law_hand" ["_law_script"] 1 (zkK K)
noncomputable abbrev A10:Prop:=FnAt P w K mg base "_law_draw" ["_law_hand_here","_law_many"] 1 zkD
noncomputable abbrev A11:Prop:=FnAt P w K mg base "_law_even" ["_law_hand_here","_law_width"] 2 zkJ
noncomputable abbrev A12:Prop:=FnAt P w K mg base "_law_thing" ["_law_hand_here"] 2 zju
noncomputable abbrev A13:Prop:=FnAt P w K mg base "_law_bent_leading" ["_law_hand_here","_law_leading"] 3 zhp
noncomputable abbrev A14:Prop:=FnAt P w K mg base "_law_bent" ["_law_hand_here","_law_paper","_law_half"] 10 (zbB 7)
noncomputable abbrev A15:Prop:=FnAt P w K mg base "low" ["many"] 1 zmQ
noncomputable abbrev A16:Prop:=FnAt P w K mg base "is_within" ["thing","least","most"] 1 zf5
noncomputable abbrev A17:Prop:=FnAt P w K mg base "is_leading" ["thing"] 2 zjb
noncomputable abbrev A18:Prop:=FnAt P w K mg base "is_part" ["half","thing"] 3 zgf
noncomputable abbrev A19:Prop:=FnAt P w K mg base "has_form" ["half","paper"] 4 zeN
noncomputable abbrev A20:Prop:=FnAt P w K mg base "then" ["one","other"] 1 zkL
noncomputable abbrev A21:Prop:=FnAt P w K mg base "bit_at" ["word","place"] 1 ziK
noncomputable abbrev A22:Prop:=FnAt P w K mg base "places_in" ["mask"] 2 zhv
noncomputable abbrev A23:Prop:=FnAt P w K mg base "gather_leading" ["width","mask"] 3 zhx
noncomputable abbrev A24:Prop:=FnAt P w K mg base "strew_leading" ["width","mask"] 3 zf3
noncomputable abbrev A25:Prop:=FnAt P w K mg base "place_or_nought" ["width","place"] 2 zm4
noncomputable abbrev A26:Prop:=FnAt P w K mg base "copy_source" ["mask","by","place"] 2 zfP
noncomputable abbrev A27:Prop:=FnAt P w K mg base "source_of" ["width","deed","place"] 3 zhf
noncomputable abbrev A28:Prop:=FnAt P w K mg base "deed_leading" ["width","deed"] 4 zhq
noncomputable abbrev A29:Prop:=FnAt P w K mg base "exchange" ["half","mask"] 5 zjz
noncomputable abbrev A30:Prop:=FnAt P w K mg base "joined" ["half","paper"] 6 zfY
noncomputable abbrev A32:Prop:=FnAt P w K mg base "shows_halves" ["leading","paper"] 20 (zaS 7)
noncomputable abbrev A33:Prop:=FnAt P w K mg base "_law_is_mask" ["_law_width","_law_mask"] 1 zfD
noncomputable abbrev A34:Prop:=FnAt P w K mg base "_law_exchanged" ["_law_mask","_law_entries"] 1 zd4
noncomputable abbrev A35:Prop:=FnAt P w K mg base "_law_is_order" ["_law_thing_here","_law_width"] 1 zeW
noncomputable abbrev A36:Prop:=FnAt P w K mg base "_law_paper_right" ["_law_leading","_law_paper"] 8 (zaG 7)
noncomputable abbrev A37:Prop:=FnAt P w K mg base "_law_as_due" ["_law_leading","_law_paper"] 21 zjq
end
noncomputable def At (K:PySem.W.Frag) (n:Str) (st:Stmt):Prop:=∃ (f:Addr) (od an:Option Addr) (sl:Array (Option Value)) (oc kV dc pm cd ct:Value),PySem.W.nsIn K mainGlobals n=some (some (.ref f)) /\ K.lookup f=some ⟨oc,od,.func (PySem.W.fnOf n n (zc3 st) (zco st) (zag st) .none kV dc pm an cd ct),sl⟩ /\ PySem.W.codeIn K cd n=true /\ PySem.W.keepIn K (.ref f)=true
def At.mk {K:PySem.W.Frag} {n:Str} {st:Stmt} {f:Addr} {od an:Option Addr} {sl:Array (Option Value)} {oc kV dc pm cd ct:Value} (e1:PySem.W.nsIn K mainGlobals n=some (some (.ref f))) (e2:K.lookup f=some ⟨oc,od,.func (PySem.W.fnOf n n (zc3 st) (zco st) (zag st) .none kV dc pm an cd ct),sl⟩) (e3:PySem.W.codeIn K cd n=true) (e4:PySem.W.keepIn K (.ref f)=true):At K n st:=⟨f,od,an,sl,oc,kV,dc,pm,cd,ct,e1,e2,e3,e4⟩
def At.at {P:Program} {w:World} {K:PySem.W.Frag} {h base:Heap} {mg:Str -> Option Value} {n:Str} {st:Stmt} {ps:List Str} {k:Nat} {sp:Sp} (X:K.In h) (G:h.Ns mainGlobals mg) (a:At K n st) (hb:∀ f fd,Fun K n n st f fd -> zgM K fd ps []) (ok:∀ f fd,Fun K n n st f fd -> FnOk P w K mg base CX0 k f fd ps sp):FnAt P w K mg base n ps k sp:=by
 obtain ⟨f,od,an,sl,oc,kV,dc,pm,cd,ct,e1,e2,e3,e4⟩:=a;have F:=zkB (st:=st) e2 e3 e4;exact ⟨f,_,ybG X G e1,e4,hb _ _ F,ok _ _ F⟩
section
variable {P:Program} {w:World} {K:PySem.W.Frag} {mg:Str -> Option Value} {base:Heap}
def ze0:FnScope ["leading"] ["leading"] (zag zeb):=⟨rfl,rfl,rfl,by decide +kernel,rfl,by decide +kernel,by decide +kernel⟩
def zhV {a:Addr} {fd:FuncData} (B:Blt K mg)  (F:Fun K "is_even" "is_even" zeb a fd):FnOk P w K mg base CX0 1 a fd ["leading"] zhd:=by
 refine F.ok ze0 (λ vs H Q E h=>?_) (λ cdv A outer s H vs Q E hr h=>?_)
 ·obtain ⟨b,ls,w,rfl,_⟩:=h;rfl
 ·have nd := ze0.nd;have hu := hr.units;obtain ⟨b, ls, w, rfl, hb, hL, hw, k⟩ := h;have hlen : ls.length <= 64 := by rw [hL.1]; exact hw
  refine ⟨_,(@zae _ _ _ (@zak _ _ _ _ (@zcj _ _ _ _ _ _ _ _ (29:) (@zaj _ _ _ _ _ _ _ _ _ (@zhE _ K (0:)) rfl B.b_sorted boot_sorted (@zaa _ _ _ _ _ (8:) (4:) (0:)) (3:) (3:) (0:) (0:)) (@zaV _ K _ _ _ _ _ _ rfl B.b_list B.b_range (@zaa _ _ _ _ _ (53:) (4:) (0:)) (0:) (0:) (0:) (0:) (0:)) (16:)))),?_⟩;symm;refine ⟨b,ls,rfl,.inr (SqT.of hb),hlen,λ p ns hp pm sd=>?_⟩;have s1:=zah (o:=.lst (ns.map V.int)) hp;have n1:upd H p (.lst (ns.map V.int)) p=some (.lst (ns.map V.int)):=zaf;generalize upd H p (.lst (ns.map V.int))=H1 at s1 n1 ⊢;have hb:=s1 _ _ hb;symm;rw [yaa];refine ⟨ls.length,rfl,by omega,λ l hl=>?_⟩;rw [zfe];have s2:=zah (o:=.lst ((zbD ls.length).map V.int)) hl;refine zkA (SqL.of (s2 _ _ n1)) (SqL.of zaf) ?_;rw [zey pm sd];exact k _ (s1.trans s2)
def zcs:FnScope ["width"] ["width"] (zag zbR):=⟨rfl,rfl,rfl,by decide +kernel,rfl,by decide +kernel,by decide +kernel⟩
def zei {a:Addr} {fd:FuncData} (B:Blt K mg)  (F:Fun K "check_halved" "check_halved" zbR a fd):FnOk P w K mg base CX0 1 a fd ["width"] zhF:=by
 refine F.ok zcs (λ vs H Q E h=>?_) (λ cdv A outer s H vs Q E hr h=>?_)
 ·obtain ⟨w,rfl,_⟩:=h;rfl
 ·have nd:=zcs.nd;have hu:=hr.units;obtain ⟨w,rfl,hw,k⟩:=h;obtain ⟨gt_HALVED_WIDTHS,gm_HALVED_WIDTHS,hT⟩:=B.g_HALVED_WIDTHS;have hT:∀ H,SqT K H gt_HALVED_WIDTHS (zgP.map nV):=hT;refine ⟨_,(@zae _ _ _ (@zaI _ _ _ _ _ _ _ _ (@zan _ _ _ _ _ _ _ _ (@zlt _ K (0:)) (8:) (@zi5 _ _ (.ref gt_HALVED_WIDTHS) _ _ rfl gm_HALVED_WIDTHS rfl (3:)) rfl) (@zae _ _ _ (@zeq _ _ _ _)) (24:))),?_⟩;symm;refine zl6 (hT _) hw ?_;symm;exact k
def zeR:FnScope ["places","mask","place"] ["places"] (zag zd8):=⟨rfl,rfl,rfl,by decide +kernel,rfl,by decide +kernel,by decide +kernel⟩
def zh8 {a:Addr} {fd:FuncData} (B:Blt K mg)  (F:Fun K "mask_of" "mask_of" zd8 a fd):FnOk P w K mg base CX0 1 a fd ["places"] (zhr K):=by
 refine F.ok zeR (λ vs H Q E h=>?_) (λ cdv A outer s H vs Q E hr h=>?_)
 ·obtain ⟨b,ps,rfl,_⟩:=h;rfl
 ·have nd := zeR.nd;have hu := hr.units;obtain ⟨b, ps, rfl, hA, hp, q⟩ := h;refine ⟨_, (@zad _ _ _ _ _ (@zav _ _ 1 _ _ _ _ nd rfl (15:) (5:) (0:) (14:)) (@zad _ _ _ _ _ (@zeX _ _ _ _ _ _ _ _ ya8 rfl (@zbw _ K _ _ _ (8:) (0:)) (@zaC _ _ 2 _ nd rfl (15:) (14:)) (@zae _ _ _ (@zav _ _ 1 _ _ _ _ nd rfl (15:) (@zat _ _ _ _ _ _ _ _ (@zny _) (13:) (@zat _ _ _ _ _ _ _ _ (@zeo _) (5:) (18:))) (0:) (14:))) (17:)) (@zae _ _ _ (@zak _ _ _ _ (13:))))), ?_⟩;symm;refine zhB hA (fun i σ H' => H' = H /\ ∃ v, σ = [some (.ref b), some (nV (zdx (ps.take i))), v]) ⟨rfl, none, rfl⟩ (fun i σ H' h => by rw [h.1]; exact ⟨id, id⟩) ?_ ?_
  ·rintro i x σ H' hx ⟨rfl,v,rfl⟩;obtain ⟨y,hy,rfl⟩:=zcn hx;have hy64:=hp y (yaD hy);symm;refine ⟨rfl,some (nV y),?_⟩;rw [yaT,hy,show ((some y).toList:List Nat)=[y] from rfl,zh2,zmy];rfl
  ·rintro σ H' ⟨rfl,v,rfl⟩;symm;rw [yaa,List.take_length];exact q
def zcQ:FnScope ["leading"] ["leading"] (zag zbv):=⟨rfl,rfl,rfl,by decide +kernel,rfl,by decide +kernel,by decide +kernel⟩
def zeC {a:Addr} {fd:FuncData} (B:Blt K mg) (g_is_even:A0 P w K mg base) (F:Fun K "turned_back" "turned_back" zbv a fd):FnOk P w K mg base CX0 2 a fd ["leading"] zeM:=by
 refine F.ok zcQ (λ vs H Q E h=>?_) (λ cdv A outer s H vs Q E hr h=>?_)
 ·obtain ⟨b,ls,rfl,_⟩:=h;rfl
 ·have nd := zcQ.nd;have hu := hr.units;obtain ⟨b, ls, rfl, hb, hev, hlen, k⟩ := h;have hL := zdI hev;refine ⟨_, (@zad _ _ _ _ _ (@zaI _ _ _ _ _ _ _ _ (85:) (@zae _ _ _ (@zeq _ _ _ _)) (24:)) (@zae _ _ _ (@zak _ _ _ _ (@zay _ _ _ _ _ _ _ _ _ (46:) rfl B.b_tuple boot_tuple (@zaa _ _ _ _ _ (@zbp _ _ _ _ _ _ (zag zbv) _ ["leading"] ["place", "leading"] [none, some 0] _ _ _ _ rfl (@za5 _ _ _ _ _ _ rfl B.b_range (@zaa _ _ _ _ _ (53:) (4:) (0:)) (0:)) (fun _ _ _ _ => (@zaC _ _ 0 _ (show List.Nodup (["place", "leading"] : List Str) by decide +kernel) rfl (15:) (14:))) (fun _ _ _ _ => (@zbH _)) (fun _ _ _ _ => (@k_bm _ K _ _ _ _ _ _ _ _ _ _ _ PySem.F.plainAttrs_tuple PySem.F.slot_tuple_index PySem.F.type_tuple_index (@zjd _ K (0:)) (13:) (@zaa _ _ _ _ _ (8:) (4:) (0:)) (0:) (0:) (0:) (0:) (0:) (0:))) (34:) (0:) (0:) (17:)) (4:) (0:)) (3:) (3:) (0:) (0:))))), ?_⟩;symm;refine ⟨b, ls, ls.length, rfl, hb, hL, hlen, fun H1 s1 => ?_⟩;have hb := s1 _ _ hb;rw [show zgQ ls = true from decide_eq_true hev];symm;refine zeK (n := ls.length) (by rw [yaa]) (1:) ?_;refine zbb (fun i acc H' => H' = H1 /\ i <= ls.length /\ acc = ((zfV ls).take i).map V.int) ⟨rfl, by omega, rfl⟩ (fun i acc H' h => ?_) ?_ ?_
  ·obtain ⟨_,hi,rfl⟩:=h;rw [yaa,yaE];exact yay (small5 (1:))
  ·rintro i acc H' hi ⟨rfl,_,rfl⟩;have q:=zjk (zhC hev hi);symm;refine ⟨tyT hb,?_⟩;symm;refine zjW (SqT.of hb) q ?_;refine ⟨rfl,by omega,?_⟩;rw [yaT,yau];congr 1;rw [zfV,yae,yav hi];rfl
  ·rintro acc H' ⟨rfl,_,rfl⟩ p hp;rw [yaq (Nat.le_of_eq (zjX ls))];symm;refine ⟨p,_,rfl,.inl ⟨SqL.of zaf,λ t ht=>?_⟩⟩;exact k t _ ((s1.trans (zah hp)).trans (zah ht)) zaf
def zd5:FnScope ["place","half"] ["place","half"] (zag zdv):=⟨rfl,rfl,rfl,by decide +kernel,rfl,by decide +kernel,by decide +kernel⟩
def zgC {a:Addr} {fd:FuncData} (B:Blt K mg)  (F:Fun K "opposite" "opposite" zdv a fd):FnOk P w K mg base CX0 1 a fd ["place","half"] zmk:=by
 refine F.ok zd5 (λ vs H Q E h=>?_) (λ cdv A outer s H vs Q E hr h=>?_)
 ·obtain ⟨p,h,rfl,_⟩:=h;rfl
 ·have nd := zd5.nd;have hu := hr.units;obtain ⟨p, h, rfl, k⟩ := h;refine ⟨_, (@zae _ _ _ (@zak _ _ _ _ (@zbt _ _ _ _ _ _ _ _ (@zan _ _ _ _ _ _ _ _ (@zkX _) (8:) (13:) (16:)) (@zat _ _ _ _ _ _ _ _ (@zcv _) (8:) (13:)) (@zat _ _ _ _ _ _ _ _ (44:) (8:) (13:))))), ?_⟩;symm;by_cases c : h <= p
  ·refine zdc (λ h1=>?_) (λ h1=>absurd h1 (1:));symm;rw [show (p:Int) - (h:Int)=((opp h p:Nat):Int) by unfold opp; rw [if_pos c]; omega];exact k
  ·refine zdc (λ h1=>absurd h1 (1:)) (λ h1=>?_);symm;rw [show (p:Int) + (h:Int)=((opp h p:Nat):Int) by unfold opp; rw [if_neg c]; omega];exact k
def zcc:FnScope ["leading","half","back","crossing","start","place","other"] ["leading"] (zag zbJ):=⟨rfl,rfl,rfl,by decide +kernel,rfl,by decide +kernel,by decide +kernel⟩
def zdV {a:Addr} {fd:FuncData} (B:Blt K mg) (g_turned_back:A3 P w K mg base) (g_opposite:A4 P w K mg base) (F:Fun K "through_upper" "through_upper" zbJ a fd):FnOk P w K mg base CX0 3 a fd ["leading"] zgq:=by
 refine F.ok zcc (λ vs H Q E h=>?_) (λ cdv A outer s H vs Q E hr h=>?_)
 ·obtain ⟨a,ls,h,rfl,_⟩:=h;rfl
 ·have nd := zcc.nd;have hu := hr.units;obtain ⟨a, ls, h, rfl, ha, hev, hl, h1, h32, k⟩ := h;have P := zi4 hev hl;have eh : ((ls.map V.int).length : Int) / 2 = (h : Int) := by rw [yaa, hl]; omega
  refine ⟨_,(@zad _ _ _ _ _ (@zav _ _ 1 _ _ _ _ nd rfl (15:) (@zat _ _ _ _ _ _ _ _ (@zbi _) (53:) (5:)) (0:) (14:)) (@zad _ _ _ _ _ (@zav _ _ 2 _ _ _ _ nd rfl (15:) (@zai _ _ _ _ _ _ _ _ _ _ g_turned_back (19:) (@zaa _ _ _ _ _ (8:) (4:) (0:)) (0:) (3:) (0:) (0:)) (0:) (14:)) (@zad _ _ _ _ _ (@zav _ _ 3 _ _ _ _ nd rfl (15:) (@zat _ _ _ _ _ _ _ _ (63:) (@za4 _ _ _ _ (@zaa _ _ _ _ _ (@zf6 _ _ _) (4:) (0:))) (53:)) (0:) (14:)) (@zad _ _ _ _ _ (@zeX _ _ _ _ _ _ _ _ ya8 rfl (75:) (71:) (@zad _ _ _ _ _ (@zav _ _ 5 _ _ _ _ nd rfl (15:) (28:) (0:) (14:)) (@zae _ _ _ (@zhg _ _ _ _ _ _ ya8 (@zan _ _ _ _ _ _ _ _ (@zmE _) (@zao _ _ _ _ _ _ _ (27:) (21:) (42:) (26:)) (@zf6 _ _ _) (16:)) (@zad _ _ _ _ _ (@zcd _ _ _ _ _ _ (39:) (@zch _ _ _ _ _ _ _ (21:) (42:) (@zaW _) (17:)) (0:) (0:) (0:)) (@zad _ _ _ _ _ (@zav _ _ 6 _ _ _ _ nd rfl (15:) (@zao _ _ _ _ _ _ _ (27:) (18:) (@zai _ _ _ _ _ _ _ _ _ _ g_opposite (19:) (@zaa _ _ _ _ _ (@zao _ _ _ _ _ _ _ (27:) (8:) (42:) (26:)) (@zaa _ _ _ _ _ (13:) (4:) (0:)) (0:)) (0:) (3:) (0:) (0:)) (26:)) (0:) (14:)) (@zad _ _ _ _ _ (@zcd _ _ _ _ _ _ (39:) (@zch _ _ _ _ _ _ _ (21:) (43:) (@zaW _) (17:)) (0:) (0:) (0:)) (@zae _ _ _ (@zav _ _ 5 _ _ _ _ nd rfl (15:) (@zai _ _ _ _ _ _ _ _ _ _ g_opposite (19:) (@zaa _ _ _ _ _ (43:) (@zaa _ _ _ _ _ (13:) (4:) (0:)) (0:)) (0:) (3:) (0:) (0:)) (0:) (14:))))))))) (17:)) (@zae _ _ _ (@zak _ _ _ _ (21:))))))),?_⟩;symm;refine ⟨a,ls,rfl,ha,hev,by omega,λ t H1 s1 n1=>?_⟩;rw [eh];have ha:=s1 _ _ ha;symm;refine zbs (6:) λ l0 H2 f2 s2 n2=>?_;have ha:=s2 _ _ ha;have n1:=s2 _ _ n1;symm;refine ziI n2 (n:=2 * h) (by rw [yaa,hl]) (1:) λ l H3 f3 s3 n3=>?_
  have n3:H3 l=some (.lst (crV (2 * h) (za8 h ls 0))):=by
   rw [n3]
   have e:crV (2 * h) (za8 h ls 0)=List.replicate (2 * h) V.non:=List.eq_replicate_iff.mpr ⟨zc5 _ _,λ b hb=>by
    obtain ⟨p,_,e⟩:=yaW.mp hb;exact e.symm⟩
   rw [e]
  symm;refine zjy (n:=h) rfl (1:) ?_;refine zdF (λ i σ H'=>Same H2 H' /\ H' l=some (.lst (crV (2 * h) (za8 h ls i))) /\ ∃ v4 v5 v6,σ=[some (.ref a),some (nV h),some (.ref t),some (.ref l),v4,v5,v6]) ⟨s3,n3,_,_,_,rfl⟩ ?_ ?_
  ·rintro i σ H4 hi ⟨s4, n4, v4, v5, v6, rfl⟩;symm;refine ⟨fun m σ H' => Same H2 H' /\ ∃ (c : Cr) (q : Nat) (v6 : Option V), q < 2 * h /\ zb2 h c = m /\ runC h ls c q = za8 h ls (i + 1) /\ H' l = some (.lst (crV (2 * h) c)) /\ σ = [some (.ref a), some (nV h), some (.ref t), some (.ref l), some (nV i), some (nV q), v6], ⟨_, s4, za8 h ls i, i, v6, by omega, rfl, rfl, n4, rfl⟩, ?_⟩;rintro m σ H5 ⟨s5, c, q, v6, hq, rfl, hrun, n5, rfl⟩;have ha5 := s5 _ _ ha;have nt5 := s5 _ _ n1;symm;refine zaR (xs := crV (2 * h) c) (v := cV (c q)) (SqL.of n5) (1:) (ziR c hq) ?_;symm;cases ec : c q with
   | none=>
    refine zdc (λ _=>?_) (λ z=>absurd rfl z);refine ⟨λ σ' H'=>∃ m',m' < zb2 h c /\ Same H2 H' /\ ∃ (c:Cr) (q:Nat) (v6:Option V),q < 2 * h /\ zb2 h c=m' /\ runC h ls c q=za8 h ls (i + 1) /\ H' l=some (.lst (crV (2 * h) c)) /\ σ'=[some (.ref a),some (nV h),some (.ref t),some (.ref l),some (nV i),some (nV q),v6],λ σ' H' h=>h,?_⟩;have sq:=zde hev (p:=q) (1:);have oq:=zcf (h:=h) (p:=srcP ls q) (1:);have tq:=P.lt q hq;symm;refine zj8 (j:=q) n5 (by rw [zc5]; unfold ixN; simp; omega) ?_;rw [ziL];have s6:Same H2 (upd H5 l (.lst (crV (2 * h) (putC c q false)))):=s5.updF f3;have n6:upd H5 l (.lst (crV (2 * h) (putC c q false))) l=some (.lst (crV (2 * h) (putC c q false))):=zaf;generalize upd H5 l (.lst (crV (2 * h) (putC c q false)))=H6 at s6 n6 ⊢;have ha6:=s6 _ _ ha;have nt6:=s6 _ _ n1;symm;refine zdN (xs:=ls.map V.int) (v:=nV (srcP ls q)) (SqT.of ha6) (1:) ?_ ?_
    ·show (ls.map V.int)[q]?=_;rw [yae,yab (1:)];have:=sq.2.1;rw [yac,yab (1:)] at this;exact congrArg (λ z=>some (V.int z)) this
    symm;refine ⟨srcP ls q,h,rfl,?_⟩;symm;refine zdN (xs:=(zfV ls).map V.int) (v:=nV (tauL h ls q)) (SqT.of nt6) (1:) ?_ ?_
    ·show ((zfV ls).map V.int)[opp h (srcP ls q)]?=_;rw [yae,zfV,yae,yav (1:)];rfl
    symm;refine zj8 (j:=tauL h ls q) n6 (by rw [zc5]; unfold ixN; simp; omega) ?_;rw [ziL];have s7:Same H2 (upd H6 l (.lst (crV (2 * h) (putC (putC c q false) (tauL h ls q) true)))):=s6.updF f3;have n7:upd H6 l (.lst (crV (2 * h) (putC (putC c q false) (tauL h ls q) true))) l=some (.lst (crV (2 * h) (putC (putC c q false) (tauL h ls q) true))):=zaf;generalize upd H6 l (.lst (crV (2 * h) (putC (putC c q false) (tauL h ls q) true)))=H7 at s7 n7 ⊢;symm;refine ⟨tauL h ls q,h,rfl,?_⟩;symm;exact ⟨_,zdt hq ec,s7,_,opp h (tauL h ls q),_,zcf tq,rfl,by rw [<- hrun,ze6 P hq ec]; rfl,n7,rfl⟩
   | some b=>
    refine zdc (λ z=>by cases z) (λ _=>?_);symm;rw [zfi (by rw [ec]; simp)] at hrun;rw [hrun] at n5;exact ⟨s5,n5,_,_,_,rfl⟩
  ·rintro σ H4 ⟨s4,n4,v4,v5,v6,rfl⟩;symm;refine k l H4 ((s1.trans s2).trans s4) ?_;rw [n4];congr 2;unfold crV;apply yaR;intro p hp;rw [(ze7 hev hl).2 p (yaw.mp hp)];rfl
def zdo:FnScope ["leading"] ["leading"] (zag zcl):=⟨rfl,rfl,rfl,by decide +kernel,rfl,by decide +kernel,by decide +kernel⟩
def zaL {a:Addr} {fd:FuncData} (B:Blt K mg) {j:Nat}  (g_paper_of:FnAt P w K mg base "paper_of" ["leading"] (2 * j + 3) (zbC j)) (F:Fun K "with_paper" "with_paper" zcl a fd):FnOk P w K mg base CX0 (2 * j + 3 + 1) a fd ["leading"] (zb5 (j + 1)):=by
 refine F.ok zdo (λ vs H Q E h=>?_) (λ cdv A outer s H vs Q E hr h=>?_)
 ·obtain ⟨a,ls,k,rfl,_⟩:=h;rfl
 ·have nd := zdo.nd;have hu := hr.units;obtain ⟨a, ls, k, rfl, ha, hev, hl, hk, hk6, kk⟩ := h;obtain ⟨i, rfl⟩ : ∃ i, j = i + 1 := ⟨j - 1, by omega⟩
  refine ⟨_,(@zae _ _ _ (@zak _ _ _ _ (@zaw _ _ _ _ _ (@zaa _ _ _ _ _ (8:) (@zaa _ _ _ _ _ (@zai _ _ _ _ _ _ _ _ _ _ g_paper_of (32:) (@zaa _ _ _ _ _ (8:) (4:) (0:)) (0:) (3:) (0:) (0:)) (4:) (0:)) (0:))))),?_⟩;symm;refine ⟨a,ls,k,rfl,ha,hev,hl,by omega,hk6,λ t H1 s1 ht=>?_⟩;refine zau (6:) λ x H2 f2 s2 n2=>?_;exact kk x t H2 (s1.trans s2) n2 (ht.same s2)
def zep:FnScope ["leading","half","crossing","first","last","lower","upper"] ["leading"] (zag zbe):=⟨rfl,rfl,rfl,by decide +kernel,rfl,by decide +kernel,by decide +kernel⟩
def zaZ {a:Addr} {fd:FuncData} (B:Blt K mg) {j:Nat} (g_mask_of:A2 P w K mg base) (g_through_upper:A5 P w K mg base) (g_with_paper:FnAt P w K mg base "with_paper" ["leading"] (2 * j + 4) (zb5 (j + 1))) (F:Fun K "paper_of" "paper_of" zbe a fd):FnOk P w K mg base CX0 (2 * j + 4 + 1) a fd ["leading"] (zbC (j + 1)):=by
 refine F.ok zep (λ vs H Q E h=>?_) (λ cdv A outer s H vs Q E hr h=>?_)
 ·obtain ⟨a,ls,k,rfl,_⟩:=h;rfl
 ·have nd := zep.nd;have hu := hr.units;obtain ⟨a, ls, k, rfl, ha, hev, hl, hk, hk6, kk⟩ := h;have h64 := zcD hk6;refine ⟨_, (@zad _ _ _ _ _ (@zav _ _ 1 _ _ _ _ nd rfl (Or.inr rfl) (@zat _ _ _ _ _ _ _ _ (@zbi _) (53:) (5:)) (0:) (14:)) (@zad _ _ _ _ _ (@zaI _ _ _ _ _ _ _ _ (@zan _ _ _ _ _ _ _ _ (29:) (13:) (5:) (16:)) (@zae _ _ _ (@zak _ _ _ _ (@zaw _ _ _ _ _ (4:)))) (24:)) (@zad _ _ _ _ _ (@zav _ _ 2 _ _ _ _ nd rfl (Or.inr rfl) (@zai _ _ _ _ _ _ _ _ _ _ g_through_upper (32:) (@zaa _ _ _ _ _ (8:) (4:) (0:)) (0:) (3:) (0:) (0:)) (0:) (14:)) (@zad _ _ _ _ _ (@zav _ _ 3 _ _ _ _ nd rfl (15:) (@zai _ _ _ _ _ _ _ _ _ _ g_mask_of (32:) (@zaa _ _ _ _ _ (@zbp _ _ _ _ _ _ (zag zbe) _ ["leading", "half", "crossing", "first", "last", "lower", "upper"] ["place", "entry", "crossing", "half"] [none, none, some 2, some 1] _ _ _ _ rfl (@zgr _ K _ _ _ _ _ _ _ B.b_enumerate (@zaa _ _ _ _ _ (8:) (4:) (0:)) (0:) (0:) (0:)) (fun _ _ _ _ => (@zfj _ K _ _ _ _ 2 rfl (@zbh _ _ _ _ _ (@zaC _ _ 0 _ (show List.Nodup (["place", "entry", "crossing", "half"] : List Str) by decide +kernel) rfl (15:) (14:)) (@zbh _ _ _ _ _ (@zaC _ _ 1 _ (show List.Nodup (["place", "entry", "crossing", "half"] : List Str) by decide +kernel) rfl (15:) (14:)) (@zfb _) (0:)) (0:)) (0:) (0:) (0:))) (fun _ _ _ _ => (@zgG _ _ _ (@PW.pt _ _ _ (@zg7 _ _ _ _ _ _ _ (80:) (@zfp _ _ _ _ (@zan _ _ _ _ _ _ _ _ (@ziz _) (13:) (21:) (16:))))))) (fun _ _ _ _ => (13:)) (34:) (0:) (0:) (17:)) (4:) (0:)) (0:) (3:) (0:) (0:)) (0:) (14:)) (@zad _ _ _ _ _ (@zav _ _ 4 _ _ _ _ nd rfl (15:) (@zai _ _ _ _ _ _ _ _ _ _ g_mask_of (32:) (@zaa _ _ _ _ _ (@zbp _ _ _ _ _ _ (zag zbe) _ ["leading", "half", "crossing", "first", "last", "lower", "upper"] ["place", "crossing"] [none, some 2] _ _ _ _ rfl (75:) (fun _ _ _ _ => (@zaC _ _ 0 _ (show List.Nodup (["place", "crossing"] : List Str) by decide +kernel) rfl (15:) (14:))) (fun _ _ _ _ => (@zgG _ _ _ (@zaO _ _ _ (@zao _ _ _ _ _ _ _ (27:) (13:) (8:) (26:)) (17:)))) (fun _ _ _ _ => (8:)) (34:) (0:) (0:) (17:)) (4:) (0:)) (0:) (3:) (0:) (0:)) (0:) (14:)) (@zad _ _ _ _ _ (@zeP _ _ _ _ _ _ (zag zbe) _ ["leading", "half", "crossing", "first", "last", "lower", "upper"] ["place", "leading", "crossing", "half"] [none, some 0, some 2, some 1] _ _ _ _ 5 _ _ _ nd rfl (15:) rfl (75:) (fun _ _ _ _ => (84:)) (fun _ _ _ _ => (@zbH _)) (fun _ _ _ _ => (@zat _ _ _ _ _ _ _ _ (@zcN _) (@zao _ _ _ _ _ _ _ (27:) (13:) (@zbt _ _ _ _ _ _ _ _ (80:) (@zat _ _ _ _ _ _ _ _ (44:) (8:) (21:)) (8:)) (26:)) (21:))) (34:) (0:) (0:) (17:) (0:) (14:)) (@zad _ _ _ _ _ (@zeP _ _ _ _ _ _ (zag zbe) _ ["leading", "half", "crossing", "first", "last", "lower", "upper"] ["place", "leading", "crossing", "half"] [none, some 0, some 2, some 1] _ _ _ _ 6 _ _ _ nd rfl (15:) rfl (75:) (fun _ _ _ _ => (84:)) (fun _ _ _ _ => (@zbH _)) (fun _ _ _ _ => (@zat _ _ _ _ _ _ _ _ (@zcN _) (@zao _ _ _ _ _ _ _ (27:) (13:) (@zbt _ _ _ _ _ _ _ _ (80:) (8:) (@zat _ _ _ _ _ _ _ _ (44:) (8:) (21:))) (26:)) (21:))) (34:) (0:) (0:) (17:) (0:) (14:)) (@zae _ _ _ (@zak _ _ _ _ (@zaw _ _ _ _ _ (@zaa _ _ _ _ _ (21:) (@zaa _ _ _ _ _ (28:) (@zaa _ _ _ _ _ (@zai _ _ _ _ _ _ _ _ _ _ g_with_paper (32:) (@zaa _ _ _ _ _ (@zay _ _ _ _ _ _ _ _ _ (46:) rfl B.b_tuple boot_tuple (@zaa _ _ _ _ _ (42:) (4:) (0:)) (3:) (3:) (0:) (0:)) (4:) (0:)) (0:) (3:) (0:) (0:)) (@zaa _ _ _ _ _ (@zai _ _ _ _ _ _ _ _ _ _ g_with_paper (32:) (@zaa _ _ _ _ _ (@zay _ _ _ _ _ _ _ _ _ (46:) rfl B.b_tuple boot_tuple (@zaa _ _ _ _ _ (43:) (4:) (0:)) (3:) (3:) (0:) (0:)) (4:) (0:)) (0:) (3:) (0:) (0:)) (4:) (0:)) (0:)) (0:)) (0:)))))))))))), ?_⟩;symm;cases k with
  | zero=>
   refine za1 (λ z=>?_) (λ z=>absurd (show _=(0:Int) by rw [yaa,hl]; rfl) z);symm;refine zau (6:) λ t H1 f1 s1 n1=>?_;exact kk t H1 s1 n1
  | succ k=>
   obtain ⟨h,eh⟩:∃ h,h=2 ^ k:=⟨_,rfl⟩
   have h1:1 <= h:=by rw [eh]; exact ybH k
   have hl2:ls.length=2 * h:=by rw [hl,eh,ybi]; omega
   have h32:h <= 32:=by rw [ybi,<- eh] at h64; omega
   rw [show ((ls.map V.int).length:Int) / 2=(h:Int) by rw [yaa,hl2]; omega];refine za1 (λ z=>absurd z (1:)) (λ _=>?_);symm;refine ⟨a,ls,h,rfl,ha,hev,hl2,h1,h32,λ c H1 s1 n1=>?_⟩;have ha:=s1 _ _ ha;symm;refine ⟨a,ls.map V.int,rfl,.inr ⟨SqT.of ha,?_⟩⟩;refine zif (λ i acc H'=>Same H1 H' /\ i <= 64 /\ acc=(fstL h ls (zam h ls) i).map nV) ⟨Same.refl _,by omega,rfl⟩ (λ i acc H' z=>?_) (λ i acc H' z=>SqT.of (z.1 _ _ ha)) ?_ ?_
   ·obtain ⟨_,hi,rfl⟩:=z;have:=zk4 (h:=h) (ls:=ls) (X:=zam h ls) (n:=i);rw [yaa];exact yay (small5 (1:))
   ·rintro i u T acc H' hu hT ⟨s2, hi, rfl⟩;have hi2 : i < ls.length := by have := (yaf.mp hu).1; rw [yaa] at this; exact this
    rw [zf8 hev hi2] at hu;cases hu;have s3:=s2.trans (zah (o:=.tup [V.int (i:Int),nV (srcP ls i)]) hT);have nT:upd H' T (.tup [V.int (i:Int),nV (srcP ls i)]) T=some (.tup [V.int (i:Int),nV (srcP ls i)]):=zaf;generalize upd H' T (.tup [V.int (i:Int),nV (srcP ls i)])=H2 at s3 nT ⊢;symm;refine zaR (v:=.bl (zam h ls i)) (SqL.of (s3 _ _ n1)) (1:) (zhk (1:)) ?_;symm;cases hx:zam h ls i
    ·symm;exact ⟨s3,by omega,by rw [zfn,hx]; simp⟩
    ·symm;by_cases hs : srcP ls i < h
     ·refine zdc (λ _=>?_) (λ z=>absurd (1:) z);symm;exact ⟨s3,by omega,by rw [zfn,hx,decide_eq_true hs]; simp⟩
     ·refine zdc (λ z=>absurd z (1:)) (λ _=>?_);exact ⟨s3,by omega,by rw [zfn,hx,decide_eq_false hs]; simp⟩
   ·rintro acc H2 ⟨s2, _, rfl⟩ p hp;rw [show (ls.map V.int).length = 2 * h by rw [yaa, hl2]];have s3 := s2.trans (zah (o := .lst ((fstL h ls (zam h ls) (2 * h)).map nV)) hp);have n3 : upd H2 p (.lst ((fstL h ls (zam h ls) (2 * h)).map nV)) p = some (.lst ((fstL h ls (zam h ls) (2 * h)).map nV)) := zaf;generalize upd H2 p (.lst ((fstL h ls (zam h ls) (2 * h)).map nV)) = H3 at s3 n3 ⊢;symm;refine ⟨p, _, rfl, .inl (SqL.of n3), fun q hq => by have := ziq hq; omega, ?_⟩;rw [zj2 hev hl2];have ha := s3 _ _ ha;have n1 := s3 _ _ n1;symm;refine zeK (n := h) rfl (1:) ?_;refine zbb (fun i acc H' => H' = H3 /\ i <= 64 /\ acc = ((List.range i).filter (zam h ls)).map nV) ⟨rfl, by omega, rfl⟩ (fun i acc H' z => ?_) ?_ ?_
    ·obtain ⟨_,hi,rfl⟩:=z;have:=ybm (zam h ls) (List.range i);rw [yas] at this;rw [yaa];exact yay (small5 (1:))
    ·rintro i acc H' hi ⟨rfl, _, rfl⟩;symm;refine zaR (v := .bl (zam h ls i)) (SqL.of n1) (1:) (zhk (1:)) ?_;symm;cases hx : zam h ls i
     ·symm;exact ⟨rfl,by omega,by rw [ybe,ybb,yau]; simp [hx]⟩
     ·symm;exact ⟨rfl,by omega,by rw [ybe,ybb,yau]; simp [hx]⟩
    ·rintro acc H4 ⟨rfl, _, rfl⟩ q hq;have s5 := s3.trans (zah (o := .lst (((List.range h).filter (zam h ls)).map nV)) hq);have n5 : upd H4 q (.lst (((List.range h).filter (zam h ls)).map nV)) q = some (.lst (((List.range h).filter (zam h ls)).map nV)) := zaf;have ha := zah (o := .lst (((List.range h).filter (zam h ls)).map nV)) hq _ _ ha;have n1 := zah (o := .lst (((List.range h).filter (zam h ls)).map nV)) hq _ _ n1;generalize upd H4 q (.lst (((List.range h).filter (zam h ls)).map nV)) = H5 at s5 n5 ha n1 ⊢;symm;refine ⟨q, _, rfl, .inl (SqL.of n5), fun q hq => by have := yaw.mp (ya5.mp hq).1; omega, ?_⟩;rw [show zdx ((List.range h).filter (zam h ls)) = m2N h (zam h ls) from rfl];symm;refine zeK (n := h) rfl (1:) ?_;refine zbb (fun i acc H' => H' = H5 /\ i <= 64 /\ acc = (List.range i).map fun r => V.int (lowE h ls (zam h ls) r : Int)) ⟨rfl, by omega, rfl⟩ (fun i acc H' z => ?_) ?_ ?_
     ·obtain ⟨_,hi,rfl⟩:=z;rw [yaa,yas];exact yay (small5 (1:))
     ·rintro i acc H' hi ⟨rfl, _, rfl⟩;symm;refine zaR (v := .bl (zam h ls i)) (SqL.of n1) (1:) (zhk (1:)) ?_;symm;cases hx : zam h ls i
      ·symm;refine zdN (v := nV (srcP ls (i))) (SqT.of ha) (1:) ?_ ?_
       ·rw [show Int.toNat ((i:Int))=i by omega];exact zf8 hev (1:)
       symm;rw [show ((srcP ls (i):Nat):Int) % (h:Int)=((lowE h ls (zam h ls) i:Nat):Int) by unfold lowE; rw [hx]; simp];exact ⟨rfl,by omega,zd2.symm⟩
      ·symm;refine zdN (v := nV (srcP ls (i + h))) (SqT.of ha) (1:) ?_ ?_
       ·rw [show Int.toNat ((i:Int) + (h:Int))=i + h by omega];exact zf8 hev (1:)
       symm;rw [show ((srcP ls (i + h):Nat):Int) % (h:Int)=((lowE h ls (zam h ls) i:Nat):Int) by unfold lowE; rw [hx]; simp];exact ⟨rfl,by omega,zd2.symm⟩
     ·rintro acc H6 ⟨rfl, _, rfl⟩ r hr;have s7 := s5.trans (zah (o := .lst ((List.range h).map fun r => V.int (lowE h ls (zam h ls) r : Int))) hr);have n7 : upd H6 r (.lst ((List.range h).map fun r => V.int (lowE h ls (zam h ls) r : Int))) r = some (.lst ((List.range h).map fun r => V.int (lowE h ls (zam h ls) r : Int))) := zaf;have ha := zah (o := .lst ((List.range h).map fun r => V.int (lowE h ls (zam h ls) r : Int))) hr _ _ ha;have n1 := zah (o := .lst ((List.range h).map fun r => V.int (lowE h ls (zam h ls) r : Int))) hr _ _ n1;generalize upd H6 r (.lst ((List.range h).map fun r => V.int (lowE h ls (zam h ls) r : Int))) = H7 at s7 n7 ha n1 ⊢;symm;refine zeK (n := h) rfl (1:) ?_;refine zbb (fun i acc H' => H' = H7 /\ i <= 64 /\ acc = (List.range i).map fun r => V.int (uppE h ls (zam h ls) r : Int)) ⟨rfl, by omega, rfl⟩ (fun i acc H' z => ?_) ?_ ?_
      ·obtain ⟨_,hi,rfl⟩:=z;rw [yaa,yas];exact yay (small5 (1:))
      ·rintro i acc H' hi ⟨rfl, _, rfl⟩;symm;refine zaR (v := .bl (zam h ls i)) (SqL.of n1) (1:) (zhk (1:)) ?_;symm;cases hx : zam h ls i
       ·symm;refine zdN (v := nV (srcP ls (i + h))) (SqT.of ha) (1:) ?_ ?_
        ·rw [show Int.toNat ((i:Int) + (h:Int))=i + h by omega];exact zf8 hev (1:)
        symm;rw [show ((srcP ls (i + h):Nat):Int) % (h:Int)=((uppE h ls (zam h ls) i:Nat):Int) by unfold uppE; rw [hx]; simp];exact ⟨rfl,by omega,zd2.symm⟩
       ·symm;refine zdN (v := nV (srcP ls (i))) (SqT.of ha) (1:) ?_ ?_
        ·rw [show Int.toNat ((i:Int))=i by omega];exact zf8 hev (1:)
        symm;rw [show ((srcP ls (i):Nat):Int) % (h:Int)=((uppE h ls (zam h ls) i:Nat):Int) by unfold uppE; rw [hx]; simp];exact ⟨rfl,by omega,zd2.symm⟩
      ·rintro acc H8 ⟨rfl, _, rfl⟩ u hu;have s9 := s7.trans (zah (o := .lst ((List.range h).map fun r => V.int (uppE h ls (zam h ls) r : Int))) hu);have n9 : upd H8 u (.lst ((List.range h).map fun r => V.int (uppE h ls (zam h ls) r : Int))) u = some (.lst ((List.range h).map fun r => V.int (uppE h ls (zam h ls) r : Int))) := zaf;have n7 := zah (o := .lst ((List.range h).map fun r => V.int (uppE h ls (zam h ls) r : Int))) hu _ _ n7;generalize upd H8 u (.lst ((List.range h).map fun r => V.int (uppE h ls (zam h ls) r : Int))) = H9 at s9 n9 n7 ⊢;have C := (ze7 hev hl2).1;have e1 := zhj hev hl2 C;have e2 := zho hev hl2 C;rw [show ((List.range h).map fun r => V.int (lowE h ls (zam h ls) r : Int)) = (lowL h ls (zam h ls)).map V.int by unfold lowL; rw [ya4]; rfl] at n7;rw [show ((List.range h).map fun r => V.int (uppE h ls (zam h ls) r : Int)) = (uppL h ls (zam h ls)).map V.int by unfold uppL; rw [ya4]; rfl] at n9;have l1 : (lowL h ls (zam h ls)).length = 2 ^ k := by rw [<- eh]; simp [lowL]
       have l2:(uppL h ls (zam h ls)).length=2 ^ k:=by rw [<- eh]; simp [uppL]
       symm;refine ⟨r,_,rfl,.inl ⟨SqL.of n7,λ t1 ht1=>?_⟩⟩;have sa:=zah (o:=.tup ((lowL h ls (zam h ls)).map V.int)) ht1;have na:upd H9 t1 (.tup ((lowL h ls (zam h ls)).map V.int)) t1=some (.tup ((lowL h ls (zam h ls)).map V.int)):=zaf;generalize upd H9 t1 (.tup ((lowL h ls (zam h ls)).map V.int))=Ha at sa na ⊢;symm;refine ⟨t1,_,k,rfl,na,e1,l1,by omega,by omega,λ x1 p1 Hb sb nb pb=>?_⟩;symm;refine ⟨u,_,rfl,.inl ⟨SqL.of (sb _ _ (sa _ _ n9)),λ t2 ht2=>?_⟩⟩;have sc:=zah (o:=.tup ((uppL h ls (zam h ls)).map V.int)) ht2;have nc:upd Hb t2 (.tup ((uppL h ls (zam h ls)).map V.int)) t2=some (.tup ((uppL h ls (zam h ls)).map V.int)):=zaf;generalize upd Hb t2 (.tup ((uppL h ls (zam h ls)).map V.int))=Hc at sc nc ⊢;symm;refine ⟨t2,_,k,rfl,nc,e2,l2,by omega,by omega,λ x2 p2 Hd sd nd2 pd=>?_⟩;refine zau (6:) λ t He fe se ne=>?_;refine kk t He (((((s1.trans s9).trans sa).trans sb).trans sc).trans (sd.trans se)) ?_;have sce:=sc.trans (sd.trans se);subst eh;exact ⟨x1,x2,t1,p1,t2,p2,ne,sce _ _ nb,sce _ _ (sb _ _ na),pb.same sce,se _ _ nd2,(sd.trans se) _ _ nc,pd.same se⟩
def zfG:FnScope ["leading"] ["leading"] (zag zfu):=⟨rfl,rfl,rfl,by decide +kernel,rfl,by decide +kernel,by decide +kernel⟩
def ziQ {a:Addr} {fd:FuncData} (B:Blt K mg) (g_is_even:A0 P w K mg base) (g_check_halved:A1 P w K mg base) (g_paper_of:A7 P w K mg base) (F:Fun K "halves" "halves" zfu a fd):FnOk P w K mg base CX0 18 a fd ["leading"] zhc:=by
 refine F.ok zfG (λ vs H Q E h=>?_) (λ cdv A outer s H vs Q E hr h=>?_)
 ·obtain ⟨a,ls,k,rfl,_⟩:=h;rfl
 ·have nd:=zfG.nd;have hu:=hr.units;obtain ⟨a,ls,k,rfl,ha,hev,hl,hk,kk⟩:=h;have h64:=zcD hk;refine ⟨_,(@zad _ _ _ _ _ (@zgI _ _ _ _ (@zai _ _ _ _ _ _ _ _ _ _ g_check_halved (19:) (@zaa _ _ _ _ _ (53:) (4:) (0:)) (0:) (3:) (0:) (0:)) (0:)) (@zad _ _ _ _ _ (@zaI _ _ _ _ _ _ _ _ (85:) (@zae _ _ _ (@zeq _ _ _ _)) (24:)) (@zae _ _ _ (@zak _ _ _ _ (@zai _ _ _ _ _ _ _ _ _ _ g_paper_of (19:) (@zaa _ _ _ _ _ (8:) (4:) (0:)) (0:) (3:) (0:) (0:)))))),?_⟩;symm;rw [yaa,hl];refine ⟨2 ^ k,rfl,zhQ k hk,?_⟩;symm;refine ⟨a,ls,2 ^ k,rfl,ha,hl ▸ zdI hev,h64,λ H1 s1=>?_⟩;have ha:=s1 _ _ ha;rw [show zgQ ls=true from decide_eq_true hev];symm;refine ⟨a,ls,k,rfl,ha,hev,hl,hk,hk,λ t H2 s2 ht=>?_⟩;exact kk t H2 (s1.trans s2) ht
def zdS:FnScope ["_law_script"] ["_law_script"] (zag zca):=⟨rfl,rfl,rfl,by decide +kernel,rfl,by decide +kernel,by decide +kernel⟩
def zga {a:Addr} {fd:FuncData} (B:Blt K mg)  (F:Fun K "_law_hand" "_law_hand" zca a fd):FnOk P w K mg base CX0 1 a fd ["_law_script"] (zkK K):=by
 refine F.ok zdS (λ vs H Q E h=>?_) (λ cdv A outer s H vs Q E hr h=>?_)
 ·obtain ⟨b,ns,rfl,_⟩:=h;rfl
 ·have nd := zdS.nd;have hu := hr.units;obtain ⟨b, ns, rfl, hS, k⟩ := h;obtain ⟨ms, ems, lms⟩ := znr ns;refine ⟨_, (@zae _ _ _ (@zak _ _ _ _ (@za4 _ _ _ _ (@zaa _ _ _ _ _ (@zbp _ _ _ _ _ _ (zag zca) _ ["_law_script"] ["_law_cell"] [none] _ _ _ _ rfl (@zbw _ K _ _ _ (@zcy _ _ _ _ _ _ _ _ _ _ (@k_sl _ K (0:)) (8:) (@zdA _) (@zdz _ _ _ (5:))) (0:)) (fun _ _ _ _ => (@zaC _ _ 0 _ (show List.Nodup (["_law_cell"] : List Str) by decide +kernel) rfl (15:) (14:))) (fun _ _ _ _ => (@zbH _)) (fun _ _ _ _ => (@zaj _ _ _ _ _ _ _ _ _ (@zjN _) rfl B.b_abs boot_abs (@zaa _ _ _ _ _ (8:) (4:) (0:)) (3:) (3:) (0:) (0:))) (34:) (0:) (0:) (17:)) (@zaa _ _ _ _ _ (5:) (@zaa _ _ _ _ _ (5:) (@zaa _ _ _ _ _ (5:) (4:) (0:)) (0:)) (0:)) (0:))))), ?_⟩;symm;refine .inl ⟨b, _, rfl, hS, fun p1 hp1 => ?_⟩;have s1 := zah (o := .lst (cutV (ns.map V.int) none (some 63))) hp1;generalize hH1 : upd H p1 (.lst (cutV (ns.map V.int) none (some 63))) = H1 at s1 ⊢;have n1 : H1 p1 = some (.lst (ms.map V.int)) := by rw [<- hH1, zaf, ems]
  refine zjO (SqL.of n1) ?_;refine ziU (xs:=ms.map V.int) (λ i acc H'=>H'=H1 /\ i <= 63 /\ acc=(ms.take i).map λ z=>nV z.natAbs) ⟨rfl,by omega,rfl⟩ (λ i acc H' h=>?_) (λ i acc H' h=>by rw [h.1]; exact SqL.of n1) ?_ ?_
  ·obtain ⟨_,hi,rfl⟩:=h;rw [yaa,yaE];exact yay (small5 (1:))
  ·rintro i x acc H' hx ⟨rfl,hi,rfl⟩;obtain ⟨z,hz,rfl⟩:=zcn hx;have hil:i < ms.length:=(yaf.mp hz).1;symm;refine ⟨rfl,by omega,?_⟩;rw [yaT,hz,show ((some z).toList:List Int)=[z] from rfl,yau,ybj,List.map_nil,zkV]
  ·rintro acc H' ⟨rfl, _, rfl⟩ p2 hp2;rw [yaa, List.take_length];symm;refine ⟨yay (small5 (6:)), fun p3 hp3 => ?_⟩;have e2 : H' p2 = none := hp2;have ne23 : p2 ≠ p3 := zaq zaf hp3;refine k p3 _ (s1.free ((zah hp2).free hp3)) ?_ (Hand.of (q := p2) (cells := ms.map Int.natAbs) (a := 0) (b := 0) (c := 0) zaf ?_ (by rw [yaa]; exact lms))
   ·exact s1.trans ((zah hp2).trans (zah hp3))
   ·rw [zas ne23,zaf,ya4];rfl
def zdJ:FnScope ["_law_hand_here","_law_many","_law_cell","_law_once","_law_twice","_law_found"] ["_law_hand_here","_law_many"] (zag zc1):=⟨rfl,rfl,rfl,by decide +kernel,rfl,by decide +kernel,by decide +kernel⟩
def zgc {a:Addr} {fd:FuncData} (B:Blt K mg)  (F:Fun K "_law_draw" "_law_draw" zc1 a fd):FnOk P w K mg base CX0 1 a fd ["_law_hand_here","_law_many"] zkD:=by
 refine F.ok zdJ (λ vs H Q E h=>?_) (λ cdv A outer s H vs Q E hr h=>?_)
 ·obtain ⟨p,n,rfl,_⟩:=h;rfl
 ·have nd := zdJ.nd;have hu := hr.units;obtain ⟨p, n, rfl, hH, hn0, hn1, k⟩ := h;obtain ⟨q, cells, ca, cb, cc, h1, h2, h3⟩ := hH
  have npq:q ≠ p:=by
   intro e;rw [e,h1] at h2;cases cells with
   | nil=>cases h2
   | cons c r=>cases h2
  have hq:∀ o,upd H p o q=some (.lst (cells.map nV)):=λ o=>by rw [zas npq]; exact h2
  have fin:∀ (r a b c:Nat),r < n -> Q (nV r) (upd H p (.lst [.ref q,nV a,nV b,nV c])):=λ r a b c hr=>k r _ hr (But.updL h1) ⟨q,cells,a,b,c,zaf,hq _,h3⟩;refine ⟨_,(@zad _ _ _ _ _ (@zcd _ _ _ _ _ _ (@zat _ _ _ _ _ _ _ _ (44:) (45:) (5:)) (@zch _ _ _ _ _ _ _ (8:) (5:) (@zaW _) (17:)) (0:) (0:) (0:)) (@zad _ _ _ _ _ (@zaI _ _ _ _ _ _ _ _ (@zan _ _ _ _ _ _ _ _ (29:) (45:) (5:) (16:)) (@zad _ _ _ _ _ (@zav _ _ 2 _ _ _ _ nd rfl (15:) (5:) (0:) (14:)) (@zad _ _ _ _ _ (@zaI _ _ _ _ _ _ _ _ (@zan _ _ _ _ _ _ _ _ (@znd _) (@zaj _ _ _ _ _ _ _ _ _ (@zbk _ K (0:)) rfl B.b_len boot_len (@zaa _ _ _ _ _ (45:) (4:) (0:)) (3:) (3:) (0:) (0:)) (5:) (16:)) (@zae _ _ _ (@zav _ _ 2 _ _ _ _ nd rfl (15:) (@zao _ _ _ _ _ _ _ (27:) (45:) (@zat _ _ _ _ _ _ _ _ (@zcN _) (45:) (@zaj _ _ _ _ _ _ _ _ _ (@zbk _ K (0:)) rfl B.b_len boot_len (@zaa _ _ _ _ _ (45:) (4:) (0:)) (3:) (3:) (0:) (0:))) (26:)) (0:) (14:))) (24:)) (@zad _ _ _ _ _ (@zcd _ _ _ _ _ _ (@zat _ _ _ _ _ _ _ _ (44:) (45:) (5:)) (@zch _ _ _ _ _ _ _ (8:) (5:) (@zaW _) (17:)) (0:) (0:) (0:)) (@zad _ _ _ _ _ (@zaI _ _ _ _ _ _ _ _ (@PW.pt _ _ _ (@zdW _ _ _ _ _ _ _ (@zan _ _ _ _ _ _ _ _ (@ziz _) (18:) (@zat _ _ _ _ _ _ _ _ (@zmO _) (5:) (5:)) (16:)) (@zcU _ _ _ _ (@zan _ _ _ _ _ _ _ _ (@znd _) (45:) (@zaj _ _ _ _ _ _ _ _ _ (@zbk _ K (0:)) rfl B.b_len boot_len (@zaa _ _ _ _ _ (45:) (4:) (0:)) (3:) (3:) (0:) (0:)) (16:))))) (@zad _ _ _ _ _ (@zav _ _ 3 _ _ _ _ nd rfl (15:) (@zat _ _ _ _ _ _ _ _ (@zcN _) (@zat _ _ _ _ _ _ _ _ (63:) (@zat _ _ _ _ _ _ _ _ (44:) (@zat _ _ _ _ _ _ _ _ (44:) (@zat _ _ _ _ _ _ _ _ (@zcN _) (18:) (5:)) (@zat _ _ _ _ _ _ _ _ (63:) (5:) (45:))) (5:)) (5:)) (5:)) (0:) (14:)) (@zad _ _ _ _ _ (@zav _ _ 4 _ _ _ _ nd rfl (15:) (@zat _ _ _ _ _ _ _ _ (@zcN _) (@zat _ _ _ _ _ _ _ _ (44:) (@zat _ _ _ _ _ _ _ _ (63:) (21:) (@zat _ _ _ _ _ _ _ _ (44:) (@zat _ _ _ _ _ _ _ _ (@zcN _) (21:) (5:)) (45:))) (@zat _ _ _ _ _ _ _ _ (63:) (5:) (45:))) (5:)) (0:) (14:)) (@zae _ _ _ (@zak _ _ _ _ (@zat _ _ _ _ _ _ _ _ (@zcN _) (@zat _ _ _ _ _ _ _ _ (@zbi _) (28:) (5:)) (13:)))))) (24:)) (@zae _ _ _ (@zcd _ _ _ _ _ _ (18:) (@zch _ _ _ _ _ _ _ (8:) (5:) (@zaW _) (17:)) (0:) (0:) (0:))))))) (24:)) (@zad _ _ _ _ _ (@zav _ _ 5 _ _ _ _ nd rfl (15:) (@zat _ _ _ _ _ _ _ _ (@zcN _) (45:) (13:)) (0:) (14:)) (@zad _ _ _ _ _ (@zcd _ _ _ _ _ _ (@zat _ _ _ _ _ _ _ _ (@zbi _) (45:) (13:)) (@zch _ _ _ _ _ _ _ (8:) (5:) (@zaW _) (17:)) (0:) (0:) (0:)) (@zae _ _ _ (@zak _ _ _ _ (42:))))))),?_⟩;symm;refine za1 (λ hc=>?_) (λ hc=>?_)
  ·symm;refine zdc (fun hl => ?_) (fun hl => ?_)
   ·have hl' : 0 < cells.length := by simpa using hl
    symm
    have hidx:((ca:Int) % ((cells.map nV).length:Int)).toNat=ca % cells.length:=by
     rw [yaa,<- Int.natCast_emod,yam]
    have e0:(cells.map nV)[((ca:Int) % ((cells.map nV).length:Int)).toNat]?=some (nV (cells[ca % cells.length]'(yba _ hl'))):=by
     rw [hidx,yae,yab (yba _ hl')];rfl
    refine zaR (SqL.of (hq _)) (Int.emod_nonneg _ (by rw [yaa]; omega)) e0 ?_;symm;generalize (10:Int) ^ Int.toNat 18=big;refine ite2 (λ h18=>?_) (λ h18=>?_)
    ·symm;obtain ⟨r,hr1,er⟩:=modN _ hn0;rw [er];exact fin r (ca + 1) cb (cc + 1) hr1
    ·symm;refine ite2 (fun h19 => ?_) (fun h19 => ?_)
     ·symm;obtain ⟨r,hr1,er⟩:=modN _ hn0;rw [er];exact fin r (ca + 1) cb (cc + 1) hr1
     ·symm;exact fin ((cells[ca % cells.length]'(yba _ hl')) % n) (ca + 1) ((cells[ca % cells.length]'(yba _ hl')) / n) (cc + 1) (yba _ hn0)
   ·skip
    symm;generalize (10:Int) ^ Int.toNat 18=big;refine ite2 (λ h18=>?_) (λ h18=>?_)
    ·symm;obtain ⟨r,hr1,er⟩:=modN _ hn0;rw [er];exact fin r (ca + 1) cb (cc + 1) hr1
    ·symm;refine ite2 (fun h19 => ?_) (fun h19 => ?_)
     ·symm;obtain ⟨r,hr1,er⟩:=modN _ hn0;rw [er];exact fin r (ca + 1) cb (cc + 1) hr1
     ·symm;exact fin (0 % n) (ca + 1) (0 / n) (cc + 1) (yba _ hn0)
  ·symm;exact fin (cb % n) ca (cb / n) (cc + 1) (yba _ hn0)
def zdQ:FnScope ["_law_hand_here","_law_width","_law_left","_law_found"] ["_law_hand_here","_law_width"] (zag zcZ):=⟨rfl,rfl,rfl,by decide +kernel,rfl,by decide +kernel,by decide +kernel⟩
def zfM {a:Addr} {fd:FuncData} (B:Blt K mg) (g__law_draw:A10 P w K mg base) (F:Fun K "_law_even" "_law_even" zcZ a fd):FnOk P w K mg base CX0 2 a fd ["_law_hand_here","_law_width"] zkJ:=by
 refine F.ok zdQ (λ vs H Q E h=>?_) (λ cdv A outer s H vs Q E hr h=>?_)
 ·obtain ⟨p,w,rfl,_⟩:=h;rfl
 ·have nd := zdQ.nd;have hu := hr.units;obtain ⟨p, w, rfl, hH, hw1, hw2, k⟩ := h;refine ⟨_, (@zad _ _ _ _ _ (@zav _ _ 2 _ _ _ _ nd rfl (15:) (86:) (0:) (14:)) (@zad _ _ _ _ _ (@zav _ _ 3 _ _ _ _ nd rfl (15:) (@za4 _ _ _ _ (4:)) (0:) (14:)) (@zad _ _ _ _ _ (@zhg _ _ _ _ _ _ ya8 (@zan _ _ _ _ _ _ _ _ (68:) (18:) (@za4 _ _ _ _ (4:)) (16:)) (@zae _ _ _ (@zgI _ _ _ _ (@k_bm _ K _ _ _ _ _ _ _ _ _ _ _ ybI PySem.F.slot_list_append PySem.F.type_list_append (@zge _) (21:) (@zaa _ _ _ _ _ (@k_bm _ K _ _ _ _ _ _ _ _ _ _ _ ybI PySem.F.slot_list_pop PySem.F.type_list_pop (@zj3 _) (18:) (@zaa _ _ _ _ _ (@zai _ _ _ _ _ _ _ _ _ _ g__law_draw (19:) (@zaa _ _ _ _ _ (8:) (@zaa _ _ _ _ _ (@zaj _ _ _ _ _ _ _ _ _ (@zbk _ K (0:)) rfl B.b_len boot_len (@zaa _ _ _ _ _ (18:) (4:) (0:)) (3:) (3:) (0:) (0:)) (4:) (0:)) (0:)) (0:) (3:) (0:) (0:)) (4:) (0:)) (0:) (0:) (0:) (0:) (0:) (0:)) (4:) (0:)) (0:) (0:) (0:) (0:) (0:) (0:)) (0:)))) (@zae _ _ _ (@zak _ _ _ _ (@zay _ _ _ _ _ _ _ _ _ (46:) rfl B.b_tuple boot_tuple (@zaa _ _ _ _ _ (21:) (4:) (0:)) (3:) (3:) (0:) (0:))))))), ?_⟩;symm;refine ⟨w, rfl, by omega, fun l hl => ?_⟩;have nlp := hH.ne hl;have b1 : But p H (upd H l (.lst ((List.range w).map fun (x : Nat) => V.int (x : Int)))) := (zah hl).but;have h1 := hH.same (zah (o := .lst ((List.range w).map fun (x : Nat) => V.int (x : Int))) hl);have n1 : upd H l (.lst ((List.range w).map fun (x : Nat) => V.int (x : Int))) l = some (.lst ((List.range w).map nV)) := zaf;generalize upd H l (.lst ((List.range w).map fun (x : Nat) => V.int (x : Int))) = H1 at b1 h1 n1 ⊢;symm;refine ⟨yaY _, fun f hf => ?_⟩;have nfl : f ≠ l := fun z => by rw [z, n1] at hf; cases hf
  have nfp:=h1.ne hf;have fH:H f=none:=(But.free b1 h1 hf).1;symm
  refine zkv (λ σ H'=>σ=[some (.ref p),some (nV w),some (.ref l),some (.ref f)] /\ But p H H' /\ Hand H' p /\ ∃ L F:List Nat,H' l=some (.lst (L.map nV)) /\ H' f=some (.lst (F.map nV)) /\ (F ++ L).Perm (List.range w)) (λ _ H'=>match H' l with | some (.lst xs)=>xs.length | _=>0)
   ⟨rfl,b1.trans (zah hf).but,h1.same (zah hf),List.range w,[],(zah hf) _ _ n1,zaf,List.Perm.refl _⟩ ?_ ?_
  ·rintro σ H' ⟨rfl, b2, h2, L, F, nL, nF, pm⟩
   have lenF:F.length + L.length=w:=by
    have:=pm.length_eq;rw [yaF,yas] at this;exact this
   symm;refine ⟨yaY _,λ e he=>?_⟩;have se:=zah (o:=.lst []) he;have ne0:upd H' e (.lst []) e=some (.lst []):=zaf;have hle:∀ o,upd H' e o l=some (.lst (L.map nV)):=λ o=>(zah he) _ _ nL;generalize hHe:upd H' e (.lst [])=H3 at se ne0 ⊢;have nL3:=se _ _ nL;have nF3:=se _ _ nF;have h3:=h2.same se;have b3:But p H H3:=b2.trans se.but;refine ⟨.list ((L.map (λ (x:Nat)=>(x:Int))).map .int),.list [],DatV.list (SqL.of nL3) (zih L),DatV.list (SqL.of ne0) DatVs.nil,zes _,rfl,?_⟩;cases L with
   | nil=>
    rw [show (!PyData.eqv (.list ((([]:List Nat).map (λ (x:Nat)=>(x:Int))).map .int)) (.list []))=false from rfl];symm;refine ⟨f,_,rfl,.inl ⟨SqL.of nF3,λ t ht=>?_⟩⟩;rw [ya2] at pm;exact k t F _ pm (b3.trans (zah ht).but) (h3.same (zah ht)) zaf
   | cons y ys=>
    rw [show (!PyData.eqv (.list (((y :: ys).map (λ (x:Nat)=>(x:Int))).map .int)) (.list []))=true from rfl];symm;rw [yaa];refine ⟨p,(y :: ys).length,rfl,h3,by simp,by rw [yby] at lenF ⊢; omega,λ r H4 hr4 b4 h4=>?_⟩;have nL4:=b4.keep _ _ nlp nL3;have nF4:=b4.keep _ _ nfp nF3;symm;have er:((y :: ys).map nV)[r]?=some (nV ((y :: ys)[r])):=by rw [yae,yab hr4]; rfl
    refine ⟨l,_,_,r,_,rfl,rfl,nL4,by omega,by omega,?_,er,?_⟩
    ·rw [seqIndex_of (yaz r) (by rw [yaa]; omega),yam]
    ·have nF5 : ∀ o, upd H4 l o f = some (.lst (F.map nV)) := fun o => by rw [zas nfl]; exact nF4
     refine zlQ ?_;refine zlP (nF5 _) (small5 (by rw [yaa]; omega)) ?_;symm;refine ⟨⟨rfl,?_,?_,(y :: ys).eraseIdx r,F ++ [(y :: ys)[r]],?_,?_,?_⟩,?_⟩
     ·exact ((b3.trans b4).upd' hl).upd' fH
     ·exact Hand.upd hH ((b3.trans b4).upd' hl) (Hand.upd hH (b3.trans b4) h4 hl) fH
     ·rw [zas nfl.symm,zaf,zfR]
     ·rw [zaf,yau]; rfl
     ·rw [yan];exact (ybn F (zeO _ r hr4)).trans pm
     ·have e6 : upd (upd H4 l (.lst (((y :: ys).map nV).eraseIdx r))) f (.lst (F.map nV ++ [nV ((y :: ys)[r])])) l = some (.lst (((y :: ys).map nV).eraseIdx r)) := by rw [zas nfl.symm, zaf]
      rw [e6,nL];show (((y :: ys).map nV).eraseIdx r).length < ((y :: ys).map nV).length;rw [List.length_eraseIdx_of_lt (by rw [yaa]; exact hr4),yaa];simp
  ·rintro σ H' Q' Q'' hq ⟨v,e1,hz,h⟩;refine ⟨v,e1,hz,λ q hq0=>?_⟩;obtain ⟨d,e,h1,h2,h3,h4,kk,e5,h6⟩:=h q hq0;exact ⟨d,e,h1,h2,h3,h4,kk,e5,hq _ _ h6⟩
def zc8:FnScope ["_law_hand_here","_law_some"] ["_law_hand_here"] (zag zct):=⟨rfl,rfl,rfl,by decide +kernel,rfl,by decide +kernel,by decide +kernel⟩
def zfl {a:Addr} {fd:FuncData} (B:Blt K mg) (g__law_draw:A10 P w K mg base) (F:Fun K "_law_thing" "_law_thing" zct a fd):FnOk P w K mg base CX0 2 a fd ["_law_hand_here"] zju:=by
 refine F.ok zc8 (λ vs H Q E h=>?_) (λ cdv A outer s H vs Q E hr h=>?_)
 ·obtain ⟨p,rfl,_⟩:=h;rfl
 ·have nd := zc8.nd;have hu := hr.units;obtain ⟨p, rfl, hH, k⟩ := h;have h0 := hH;refine ⟨_, (@zad _ _ _ _ _ (@zav _ _ 1 _ _ _ _ nd rfl (15:) (@za4 _ _ _ _ (@zaa _ _ _ _ _ (@zf6 _ _ _) (@zaa _ _ _ _ _ (39:) (@zaa _ _ _ _ _ (39:) (@zaa _ _ _ _ _ (5:) (@zaa _ _ _ _ _ (5:) (@zaa _ _ _ _ _ (@zlx _ _ _ _ _ _ (@zjc _) (5:)) (@zaa _ _ _ _ _ (@zat _ _ _ _ _ _ _ _ (@zeo _) (5:) (5:)) (@zi0 _ _ _ _ _ _ (@zi0 _ _ _ _ _ _ (@zaa _ _ _ _ _ (@zaw _ _ _ _ _ (4:)) (@zaa _ _ _ _ _ (@za4 _ _ _ _ (4:)) (@zaa _ _ _ _ _ (@zaw _ _ _ _ _ (@zaa _ _ _ _ _ (5:) (4:) (0:))) (@zaa _ _ _ _ _ (@za4 _ _ _ _ (@zaa _ _ _ _ _ (5:) (@zaa _ _ _ _ _ (5:) (4:) (0:)) (0:))) (@zaa _ _ _ _ _ (@zaw _ _ _ _ _ (@zaa _ _ _ _ _ (@zaw _ _ _ _ _ (@zaa _ _ _ _ _ (5:) (4:) (0:))) (@zaa _ _ _ _ _ (@zaw _ _ _ _ _ (4:)) (4:) (0:)) (0:))) (4:) (0:)) (0:)) (0:)) (0:)) (0:)))) (0:)) (0:)) (0:)) (0:)) (0:)) (0:)) (0:))) (0:) (14:)) (@zad _ _ _ _ _ (@zgI _ _ _ _ (@k_bm _ K _ _ _ _ _ _ _ _ _ _ _ ybI PySem.F.slot_list_append PySem.F.type_list_append (@zge _) (13:) (@zaa _ _ _ _ _ (@zaw _ _ _ _ _ (@zaa _ _ _ _ _ (5:) (@zaa _ _ _ _ _ (5:) (@zaa _ _ _ _ _ (@zaw _ _ _ _ _ (@zaa _ _ _ _ _ (@zaw _ _ _ _ _ (@zaa _ _ _ _ _ (5:) (4:) (0:))) (@zaa _ _ _ _ _ (@zaw _ _ _ _ _ (4:)) (4:) (0:)) (0:))) (@zaa _ _ _ _ _ (@zaw _ _ _ _ _ (@zaa _ _ _ _ _ (@zaw _ _ _ _ _ (@zaa _ _ _ _ _ (5:) (4:) (0:))) (@zaa _ _ _ _ _ (@zaw _ _ _ _ _ (4:)) (4:) (0:)) (0:))) (4:) (0:)) (0:)) (0:)) (0:))) (4:) (0:)) (0:) (0:) (0:) (0:) (0:) (0:)) (0:)) (@zae _ _ _ (@zak _ _ _ _ (@zao _ _ _ _ _ _ _ (27:) (13:) (@zai _ _ _ _ _ _ _ _ _ _ g__law_draw (19:) (@zaa _ _ _ _ _ (8:) (@zaa _ _ _ _ _ (5:) (4:) (0:)) (0:)) (0:) (3:) (0:) (0:)) (26:)))))), ?_⟩;symm;refine zau (6:) fun a1 H1 f1 s1 n1 => ?_;have e1 : a1 ≠ p := h0.ne f1;have h1 := h0.same s1;symm;refine zbs (6:) fun a2 H2 f2 s2 n2 => ?_;have e2 : a2 ≠ p := h1.ne f2;have h2 := h1.same s2;symm;refine zau (6:) fun a3 H3 f3 s3 n3 => ?_;have e3 : a3 ≠ p := h2.ne f3;have h3 := h2.same s3;symm;refine zbs (6:) fun a4 H4 f4 s4 n4 => ?_;have e4 : a4 ≠ p := h3.ne f4;have h4 := h3.same s4;symm;refine zau (6:) fun a5 H5 f5 s5 n5 => ?_;have e5 : a5 ≠ p := h4.ne f5;have h5 := h4.same s5;symm;refine zau (6:) fun a6 H6 f6 s6 n6 => ?_;have e6 : a6 ≠ p := h5.ne f6;have h6 := h5.same s6;symm;refine zau (6:) fun a7 H7 f7 s7 n7 => ?_;have e7 : a7 ≠ p := h6.ne f7;have h7 := h6.same s7;symm;refine zbs (6:) fun a8 H8 f8 s8 n8 => ?_;have e8 : a8 ≠ p := h7.ne f8;have h8 := h7.same s8;symm;refine zau (6:) fun a9 H9 f9 s9 n9 => ?_;have e9 : a9 ≠ p := h8.ne f9;have h9 := h8.same s9;symm;refine zau (6:) fun a10 H10 f10 s10 n10 => ?_;have e10 : a10 ≠ p := h9.ne f10;have h10 := h9.same s10;symm;refine zau (6:) fun a11 H11 f11 s11 n11 => ?_;have e11 : a11 ≠ p := h10.ne f11;have h11 := h10.same s11;symm;refine zau (6:) fun a12 H12 f12 s12 n12 => ?_;have e12 : a12 ≠ p := h11.ne f12;have h12 := h11.same s12;symm;refine zau (6:) fun a13 H13 f13 s13 n13 => ?_;have e13 : a13 ≠ p := h12.ne f13;have h13 := h12.same s13;symm;refine zau (6:) fun a14 H14 f14 s14 n14 => ?_;have e14 : a14 ≠ p := h13.ne f14;have h14 := h13.same s14;symm;refine zau (6:) fun a15 H15 f15 s15 n15 => ?_;have e15 : a15 ≠ p := h14.ne f15;have h15 := h14.same s15;have sA : Same H7 H15 := s8.trans (s9.trans (s10.trans (s11.trans (s12.trans (s13.trans (s14.trans s15))))));have sL : Same H8 H15 := s9.trans (s10.trans (s11.trans (s12.trans (s13.trans (s14.trans s15)))));have f8' : H7 a8 = none := f8;have nL := sL _ _ n8;symm;have sU : Same H7 (upd H15 a8 (.lst ([V.non, V.bl true, V.bl false, V.int 0, V.int 1, V.int (-1), V.int (1 * 2 ^ Int.toNat 70), V.str (Str.ofString ""), V.str (Str.ofString "0"), V.ref a1, V.ref a2, V.ref a3, V.ref a4, V.ref a7] ++ [V.ref a15]))) := sA.updF f8';have tU : ∀ a xs, H15 a = some (.tup xs) -> (upd H15 a8 (.lst ([V.non, V.bl true, V.bl false, V.int 0, V.int 1, V.int (-1), V.int (1 * 2 ^ Int.toNat 70), V.str (Str.ofString ""), V.str (Str.ofString "0"), V.ref a1, V.ref a2, V.ref a3, V.ref a4, V.ref a7] ++ [V.ref a15]))) a = some (.tup xs) := fun a xs e => by rw [zas (zmY e nL nofun)]; exact e
  have nF:(upd H15 a8 (.lst ([V.non,V.bl true,V.bl false,V.int 0,V.int 1,V.int (-1),V.int (1 * 2 ^ Int.toNat 70),V.str (Str.ofString ""),V.str (Str.ofString "0"),V.ref a1,V.ref a2,V.ref a3,V.ref a4,V.ref a7] ++ [V.ref a15]))) a8=some (.lst ([V.non,V.bl true,V.bl false,V.int 0,V.int 1,V.int (-1),V.int (1 * 2 ^ Int.toNat 70),V.str (Str.ofString ""),V.str (Str.ofString "0"),V.ref a1,V.ref a2,V.ref a3,V.ref a4,V.ref a7] ++ [V.ref a15])):=zaf;have s07:=s1.trans (s2.trans (s3.trans (s4.trans (s5.trans (s6.trans s7)))));have hU:Hand (upd H15 a8 (.lst ([V.non,V.bl true,V.bl false,V.int 0,V.int 1,V.int (-1),V.int (1 * 2 ^ Int.toNat 70),V.str (Str.ofString ""),V.str (Str.ofString "0"),V.ref a1,V.ref a2,V.ref a3,V.ref a4,V.ref a7] ++ [V.ref a15]))) p:=h7.same sU;generalize (upd H15 a8 (.lst ([V.non,V.bl true,V.bl false,V.int 0,V.int 1,V.int (-1),V.int (1 * 2 ^ Int.toNat 70),V.str (Str.ofString ""),V.str (Str.ofString "0"),V.ref a1,V.ref a2,V.ref a3,V.ref a4,V.ref a7] ++ [V.ref a15])))=H16 at sU tU nF hU ⊢;symm;refine ⟨p,15,rfl,hU,by decide,by decide,λ r H17 hr bb hh=>?_⟩;have n17:=bb.keep _ _ e8 nF;have b17:But p H H17:=(s07.trans sU).but.trans bb;have T:∀ a xs,H15 a=some (.tup xs) -> H17 a=some (.tup xs):=λ a xs e=>bb.keep a _ (hU.neT (tU a xs e)) (tU a xs e);have L2:H17 a2=some (.lst []):=bb.keep _ _ e2 (sU _ _ ((s3.trans (s4.trans (s5.trans (s6.trans s7)))) _ _ n2));have L4:H17 a4=some (.lst [V.int 0,V.int 0]):=bb.keep _ _ e4 (sU _ _ ((s5.trans (s6.trans s7)) _ _ n4));have m1:=T _ _ ((s2.trans (s3.trans (s4.trans (s5.trans (s6.trans (s7.trans (s8.trans (s9.trans (s10.trans (s11.trans (s12.trans (s13.trans (s14.trans (s15)))))))))))))) _ _ n1);have m3:=T _ _ ((s4.trans (s5.trans (s6.trans (s7.trans (s8.trans (s9.trans (s10.trans (s11.trans (s12.trans (s13.trans (s14.trans (s15)))))))))))) _ _ n3);have m5:=T _ _ ((s6.trans (s7.trans (s8.trans (s9.trans (s10.trans (s11.trans (s12.trans (s13.trans (s14.trans (s15)))))))))) _ _ n5);have m6:=T _ _ ((s7.trans (s8.trans (s9.trans (s10.trans (s11.trans (s12.trans (s13.trans (s14.trans (s15))))))))) _ _ n6);have m7:=T _ _ ((s8.trans (s9.trans (s10.trans (s11.trans (s12.trans (s13.trans (s14.trans (s15)))))))) _ _ n7);have m9:=T _ _ ((s10.trans (s11.trans (s12.trans (s13.trans (s14.trans (s15)))))) _ _ n9);have m10:=T _ _ ((s11.trans (s12.trans (s13.trans (s14.trans (s15))))) _ _ n10);have m11:=T _ _ ((s12.trans (s13.trans (s14.trans (s15)))) _ _ n11);have m12:=T _ _ ((s13.trans (s14.trans (s15))) _ _ n12);have m13:=T _ _ ((s14.trans (s15)) _ _ n13);have m14:=T _ _ ((s15) _ _ n14);have m15:=T _ _ ((Same.refl _) _ _ n15);have u0:Tvs p H17 [.int 0] [V.int 0]:=(.cons (.int 0) .nil)
  have t7:Tv p H17 (.tuple [.tuple [.int 0],.tuple []]) (.ref a7):=.tup m7 (.cons (.tup m5 u0) (.cons (.tup m6 .nil) .nil));have t11:Tv p H17 (.tuple [.tuple [.int 0],.tuple []]) (.ref a11):=.tup m11 (.cons (.tup m9 u0) (.cons (.tup m10 .nil) .nil));have t14:Tv p H17 (.tuple [.tuple [.int 0],.tuple []]) (.ref a14):=.tup m14 (.cons (.tup m12 u0) (.cons (.tup m13 .nil) .nil));have t15:Tv p H17 (.tuple [.int 0,.int 0,.tuple [.tuple [.int 0],.tuple []],.tuple [.tuple [.int 0],.tuple []]]) (.ref a15):=.tup m15 (.cons (.int 0) (.cons (.int 0) (.cons t11 (.cons t14 .nil))));have z0:∀ k,Bt 0 k (.int 0):=λ k=>Bt.int k (3:);have q0:∀ k,Bt 1 (k + 1) (.tuple [.int 0]):=λ k=>Bt.tup (BtL.cons (z0 k) (BtL.nil k));have q1:∀ k,Bt 0 (k + 1) (.tuple []):=λ k=>Bt.tup (BtL.nil k);have q7:Bt 5 3 (.tuple [.tuple [.int 0],.tuple []]):=(Bt.tup (BtL.cons (q0 1) (BtL.cons (q1 1) (BtL.nil 2)))).mono (3:) (3:);have q15:Bt 20 4 (.tuple [.int 0,.int 0,.tuple [.tuple [.int 0],.tuple []],.tuple [.tuple [.int 0],.tuple []]]):=(Bt.tup (BtL.cons (z0 3) (BtL.cons (z0 3) (BtL.cons q7 (BtL.cons q7 (BtL.nil 3)))))).mono (3:) (3:)
  obtain ⟨v,d,ev,tv,bv⟩:∃ (v:V) (d:PyData),([V.non,V.bl true,V.bl false,V.int 0,V.int 1,V.int (-1),V.int (1 * 2 ^ Int.toNat 70),V.str (Str.ofString ""),V.str (Str.ofString "0"),V.ref a1,V.ref a2,V.ref a3,V.ref a4,V.ref a7] ++ [V.ref a15])[((r:Nat):Int).toNat]?=some v /\ Tv p H17 d v /\ Bt 30 5 d:=by
   match r,hr with
   | 0,_=>exact ⟨_,_,rfl,.non,(Bt.non 0).mono (3:) (3:)⟩
   | 1,_=>exact ⟨_,_,rfl,.bl true,(Bt.bl 0 _).mono (3:) (3:)⟩
   | 2,_=>exact ⟨_,_,rfl,.bl false,(Bt.bl 0 _).mono (3:) (3:)⟩
   | 3,_=>exact ⟨_,_,rfl,.int 0,(Bt.int 0 (3:)).mono (3:) (3:)⟩
   | 4,_=>exact ⟨_,_,rfl,.int 1,(Bt.int 0 (3:)).mono (3:) (3:)⟩
   | 5,_=>exact ⟨_,_,rfl,.int (-1),(Bt.int 0 (3:)).mono (3:) (3:)⟩
   | 6,_=>exact ⟨_,_,rfl,.int _,(Bt.int 0 (34:)).mono (3:) (3:)⟩
   | 7,_=>exact ⟨_,_,rfl,.str _,(Bt.str 0 (c:=1) (34:) (34:) (34:)).mono (3:) (3:)⟩
   | 8,_=>exact ⟨_,_,rfl,.str _,(Bt.str 0 (c:=1) (34:) (34:) (34:)).mono (3:) (3:)⟩
   | 9,_=>exact ⟨_,_,rfl,.tup m1 .nil,(q1 0).mono (3:) (3:)⟩
   | 10,_=>exact ⟨_,_,rfl,.lst L2 e2 .nil,(Bt.lst (BtL.nil 0)).mono (3:) (3:)⟩
   | 11,_=>exact ⟨_,_,rfl,.tup m3 u0,(q0 0).mono (3:) (3:)⟩
   | 12,_=>exact ⟨_,_,rfl,.lst L4 e4 (.cons (.int 0) u0),(Bt.lst (BtL.cons (z0 0) (BtL.cons (z0 0) (BtL.nil 0)))).mono (3:) (3:)⟩
   | 13,_=>exact ⟨_,_,rfl,t7,q7.mono (3:) (3:)⟩
   | 14,_=>exact ⟨_,_,rfl,t15,q15.mono (3:) (3:)⟩
  refine zaR (v:=v) (SqL.of n17) (yaz r) ev ?_;exact k v d H17 b17 hh tv bv
def zbq:FnScope ["_law_hand_here","_law_leading","_law_one","_law_other","_law_found","_law_some"] ["_law_hand_here","_law_leading"] (zag zaX):=⟨rfl,rfl,rfl,by decide +kernel,rfl,by decide +kernel,by decide +kernel⟩
def zcM {a:Addr} {fd:FuncData} (B:Blt K mg) (g__law_draw:A10 P w K mg base) (g__law_thing:A12 P w K mg base) (F:Fun K "_law_bent_leading" "_law_bent_leading" zaX a fd):FnOk P w K mg base CX0 3 a fd ["_law_hand_here","_law_leading"] zhp:=by
 refine F.ok zbq (λ vs H Q E h=>?_) (λ cdv A outer s H vs Q E hr h=>?_)
 ·obtain ⟨p,a,ls,rfl,_⟩:=h;rfl
 ·have nd := zbq.nd;have hu := hr.units;obtain ⟨p, a, ls, rfl, hH, ha, E, hl1, hl2, k⟩ := h;have hL := zdI E;refine ⟨_, (@zad _ _ _ _ _ (@zlW _ _ 2 3 _ _ _ _ _ _ _ _ _ _ _ rfl nd rfl rfl (3:) rfl rfl (@zaa _ _ _ _ _ (@zai _ _ _ _ _ _ _ _ _ _ g__law_draw (19:) (@zaa _ _ _ _ _ (8:) (@zaa _ _ _ _ _ (61:) (4:) (0:)) (0:)) (0:) (3:) (0:) (0:)) (@zaa _ _ _ _ _ (@zai _ _ _ _ _ _ _ _ _ _ g__law_draw (19:) (@zaa _ _ _ _ _ (8:) (@zaa _ _ _ _ _ (61:) (4:) (0:)) (0:)) (0:) (3:) (0:) (0:)) (4:) (0:)) (0:)) rfl (0:)) (@zad _ _ _ _ _ (@zav _ _ 4 _ _ _ _ nd rfl (15:) (@zay _ _ _ _ _ _ _ _ _ (@zfU _ K (0:)) rfl B.b_list boot_list (@zaa _ _ _ _ _ (13:) (4:) (0:)) (3:) (3:) (0:) (0:)) (0:) (14:)) (@zad _ _ _ _ _ (@zcd _ _ _ _ _ _ (@zaw _ _ _ _ _ (@zaa _ _ _ _ _ (@zao _ _ _ _ _ _ _ (27:) (28:) (21:) (26:)) (@zaa _ _ _ _ _ (@zao _ _ _ _ _ _ _ (27:) (28:) (18:) (26:)) (4:) (0:)) (0:))) (@zfj _ K _ _ _ _ 2 rfl (@zbh _ _ _ _ _ (@zch _ _ _ _ _ _ _ (28:) (18:) (@zaW _) (17:)) (@zbh _ _ _ _ _ (@zch _ _ _ _ _ _ _ (28:) (21:) (@zaW _) (17:)) (@zfb _) (0:)) (0:)) (0:) (0:) (0:)) (0:) (0:) (0:)) (@zad _ _ _ _ _ (@zav _ _ 5 _ _ _ _ nd rfl (15:) (@za4 _ _ _ _ (@zaa _ _ _ _ _ (@zay _ _ _ _ _ _ _ _ _ (46:) rfl B.b_tuple boot_tuple (@zaa _ _ _ _ _ (28:) (4:) (0:)) (3:) (3:) (0:) (0:)) (@zaa _ _ _ _ _ (@zay _ _ _ _ _ _ _ _ _ (46:) rfl B.b_tuple boot_tuple (@zaa _ _ _ _ _ (28:) (4:) (0:)) (3:) (3:) (0:) (0:)) (@zaa _ _ _ _ _ (@zay _ _ _ _ _ _ _ _ _ (@zfU _ K (0:)) rfl B.b_list boot_list (@zaa _ _ _ _ _ (13:) (4:) (0:)) (3:) (3:) (0:) (0:)) (@zaa _ _ _ _ _ (@zat _ _ _ _ _ _ _ _ (65:) (13:) (@zaw _ _ _ _ _ (@zaa _ _ _ _ _ (61:) (4:) (0:)))) (@zaa _ _ _ _ _ (73:) (4:) (0:)) (0:)) (0:)) (0:)) (0:))) (0:) (14:)) (@zad _ _ _ _ _ (@zcd _ _ _ _ _ _ (@zao _ _ _ _ _ _ _ (27:) (28:) (21:) (26:)) (@zch _ _ _ _ _ _ _ (28:) (18:) (@zaW _) (17:)) (0:) (0:) (0:)) (@zae _ _ _ (@zak _ _ _ _ (@zao _ _ _ _ _ _ _ (27:) (@zat _ _ _ _ _ _ _ _ (65:) (42:) (@za4 _ _ _ _ (@zaa _ _ _ _ _ (@zay _ _ _ _ _ _ _ _ _ (46:) rfl B.b_tuple boot_tuple (@zaa _ _ _ _ _ (28:) (4:) (0:)) (3:) (3:) (0:) (0:)) (@zaa _ _ _ _ _ (@zat _ _ _ _ _ _ _ _ (65:) (@zaw _ _ _ _ _ (@zaa _ _ _ _ _ (@zlx _ _ _ _ _ _ (@zjc _) (5:)) (4:) (0:))) (73:)) (@zaa _ _ _ _ _ (@zat _ _ _ _ _ _ _ _ (65:) (@zaw _ _ _ _ _ (@zaa _ _ _ _ _ (39:) (4:) (0:))) (73:)) (@zaa _ _ _ _ _ (@zai _ _ _ _ _ _ _ _ _ _ g__law_thing (19:) (@zaa _ _ _ _ _ (8:) (4:) (0:)) (0:) (3:) (0:) (0:)) (4:) (0:)) (0:)) (0:)) (0:)))) (@zai _ _ _ _ _ _ _ _ _ _ g__law_draw (19:) (@zaa _ _ _ _ _ (8:) (@zaa _ _ _ _ _ (5:) (4:) (0:)) (0:)) (0:) (3:) (0:) (0:)) (26:))))))))), ?_⟩;symm;rw [yaa];refine ⟨p, ls.length, rfl, hH, by omega, by omega, fun r1 H1 hr1 b1 h1 => ?_⟩;have a1 := b1.keep _ _ (hH.neT ha) ha;symm;rw [yaa];refine ⟨p, ls.length, rfl, h1, by omega, by omega, fun r2 H2 hr2 b2 h2 => ?_⟩;have a2 := b2.keep _ _ (h1.neT a1) a1;have b02 := b1.trans b2;symm;refine zdj (.inr (SqT.of a2)) fun l H3 f3 s3 n3 => ?_
  have ix:∀ (g:List Int) (q:Nat),q < g.length -> (g.map V.int)[((q:Nat):Int).toNat]?=some (.int (g.getD q 0)):=λ g q hq=>by
   rw [yam,yae,yab hq,yac,yab hq];rfl
  have nlp:l ≠ p:=h2.ne f3;have fl:H l=none:=(But.free b02 h2 f3).1;have h3:=h2.same s3;symm;refine zaR (v:=.int (ls.getD r2 0)) (SqL.of n3) (yaz _) (ix ls r2 hr2) ?_;symm;refine zaR (v:=.int (ls.getD r1 0)) (SqL.of n3) (yaz _) (ix ls r1 hr1) ?_;symm;refine zau (6:) λ t4 H4 f4 s4 n4=>?_;have n34:=s4 _ _ n3;symm;refine zeS n34 (by rw [yaa]; exact hr1) ?_;symm;refine zeS zaf (by rw [ya6,yaa]; exact hr2) ?_;have s25:Same H2 (upd (upd H4 l (.lst ((ls.map V.int).set r1 (.int (ls.getD r2 0))))) l (.lst (((ls.map V.int).set r1 (.int (ls.getD r2 0))).set r2 (.int (ls.getD r1 0))))):=((s3.trans s4).updF f3).updF f3;have n5:(upd (upd H4 l (.lst ((ls.map V.int).set r1 (.int (ls.getD r2 0))))) l (.lst (((ls.map V.int).set r1 (.int (ls.getD r2 0))).set r2 (.int (ls.getD r1 0))))) l=some (.lst (((ls.set r1 (ls.getD r2 0)).set r2 (ls.getD r1 0)).map V.int)):=by rw [zaf,ybR,ybR]
  generalize (upd (upd H4 l (.lst ((ls.map V.int).set r1 (.int (ls.getD r2 0))))) l (.lst (((ls.map V.int).set r1 (.int (ls.getD r2 0))).set r2 (.int (ls.getD r1 0)))))=H5 at s25 n5 ⊢;generalize hg:(ls.set r1 (ls.getD r2 0)).set r2 (ls.getD r1 0)=g at n5;have lg:g.length=ls.length:=by rw [<- hg,ya6,ya6]
  have a5:=s25 _ _ a2;symm;refine ⟨l,_,rfl,.inl ⟨SqL.of n5,λ t6 ht6=>?_⟩⟩;have s6:=zah (o:=.tup (g.map V.int)) ht6;have n6:upd H5 t6 (.tup (g.map V.int)) t6=some (.tup (g.map V.int)):=zaf;generalize upd H5 t6 (.tup (g.map V.int))=H6 at s6 n6 ⊢;symm;refine ⟨l,_,rfl,.inl ⟨SqL.of (s6 _ _ n5),λ t7 ht7=>?_⟩⟩;have s7:=zah (o:=.tup (g.map V.int)) ht7;have n7:upd H6 t7 (.tup (g.map V.int)) t7=some (.tup (g.map V.int)):=zaf;generalize upd H6 t7 (.tup (g.map V.int))=H7 at s7 n7 ⊢;have s57:=s6.trans s7;have h7:Hand H7 p:=h2.same (s25.trans s57);symm;refine zdj (.inr (SqT.of (s57 _ _ a5))) λ c8 H8 f8 s8 n8=>?_;have e8:c8 ≠ p:=h7.ne f8;have s58:=s57.trans s8;have a8:=s58 _ _ a5;have n5_8:=s58 _ _ n5;have ec8:c8 ≠ l:=λ z=>by rw [z] at f8; rw [s57 _ _ n5] at f8; cases f8
  symm;rw [yaa];refine zau (6:) λ t9 H9 f9 s9 n9=>?_;refine zf9 (s9 _ _ a8) n9 (38:) λ t10 H10 s10 n10=>?_;have s8_10:=s9.trans s10;symm;refine zdm (k:=1) (s8_10 _ _ a8) (1:) (38:) λ c11 H11 f11 s11 n11=>?_;symm;refine zbs (6:) λ l12 H12 f12 s12 n12=>?_;have s8_12:=s8_10.trans (s11.trans s12);have n5_12:=s8_12 _ _ n5_8;have a12:=s8_12 _ _ a8;have s5_12:=s58.trans s8_12;have h12:Hand H12 p:=h2.same (s25.trans s5_12);symm;refine zaR (v:=.int (g.getD r2 0)) (SqL.of n5_12) (yaz _) (ix g r2 (1:)) ?_;symm;refine zeS n5_12 (by rw [yaa]; omega) ?_;have s2_13:Same H2 (upd H12 l (.lst ((g.map V.int).set r1 (.int (g.getD r2 0))))):=(s25.trans s5_12).updF f3;have n13:(upd H12 l (.lst ((g.map V.int).set r1 (.int (g.getD r2 0))))) l=some (.lst ((g.set r1 (g.getD r2 0)).map V.int)):=by rw [zaf,ybR]
  have T13:∀ x xs,H12 x=some (.tup xs) -> (upd H12 l (.lst ((g.map V.int).set r1 (.int (g.getD r2 0))))) x=some (.tup xs):=λ x xs e=>by rw [zas (zmY e n5_12 nofun)]; exact e
  have c13:(upd H12 l (.lst ((g.map V.int).set r1 (.int (g.getD r2 0))))) c8=some (.lst (ls.map V.int)):=by rw [zas ec8]; exact s8_12 _ _ n8
  have el12:l12 ≠ l:=λ z=>by rw [z,(s8_10.trans s11) _ _ n5_8] at f12; cases f12
  have ep12:l12 ≠ p:=(h2.same (s25.trans (s58.trans (s8_10.trans s11)))).ne f12;have m12:(upd H12 l (.lst ((g.map V.int).set r1 (.int (g.getD r2 0))))) l12=some (.lst [V.ref t6,V.ref t7,V.ref c8,V.ref t10,V.ref c11]):=by rw [zas el12]; exact n12
  generalize (upd H12 l (.lst ((g.map V.int).set r1 (.int (g.getD r2 0)))))=H13 at s2_13 n13 T13 c13 m12 ⊢;generalize hg2:g.set r1 (g.getD r2 0)=g2 at n13;have lg2:g2.length=ls.length:=by rw [<- hg2,ya6,lg]
  have a13:=s2_13 _ _ a2;have h13:Hand H13 p:=h2.same s2_13;symm;refine ⟨l,_,rfl,.inl ⟨SqL.of n13,λ t14 ht14=>?_⟩⟩;have s14:=zah (o:=.tup (g2.map V.int)) ht14;have n14:upd H13 t14 (.tup (g2.map V.int)) t14=some (.tup (g2.map V.int)):=zaf;generalize upd H13 t14 (.tup (g2.map V.int))=H14 at s14 n14 ⊢;symm;refine zau (6:) λ t15 H15 f15 s15 n15=>?_;have a15:=(s14.trans s15) _ _ a13;symm;refine zdm (k:=1) a15 (1:) (38:) λ c16 H16 f16 s16 n16=>?_;refine zf9 (s16 _ _ n15) n16 (38:) λ t17 H17 s17 n17=>?_;symm;refine zau (6:) λ t18 H18 f18 s18 n18=>?_;have a18:=(s16.trans (s17.trans s18)) _ _ a15;symm;refine zdm (k:=1) a18 (1:) (38:) λ c19 H19 f19 s19 n19=>?_;refine zf9 (s19 _ _ n18) n19 (38:) λ t20 H20 s20 n20=>?_;have s17_20:=s18.trans (s19.trans s20);have s14_20:=s15.trans (s16.trans (s17.trans s17_20));have s13_20:=s14.trans s14_20;have h20:=h13.same s13_20;symm;refine ⟨p,rfl,h20,λ v dv H21 b21 h21 tv bv=>?_⟩;symm;refine zbs (6:) λ l22 H22 f22 s22 n22=>?_;have b20_22:=b21.trans s22.but;have h22:=h21.same s22;have m22:=b20_22.keep _ _ ep12 (s13_20 _ _ m12);refine zlA m22 n22 (6:) λ l23 H23 f23 s23 n23=>?_;have e23:l23 ≠ p:=h22.ne f23;have h23:=h22.same s23;symm;refine ⟨p,9,rfl,h23,by decide,by decide,λ r H24 hr b24 h24=>?_⟩;have m24:=b24.keep _ _ e23 n23;have b20_24:=b20_22.trans (s23.but.trans b24);have fin:But p H H24:=b02.trans ((s2_13.trans s13_20).but.trans b20_24);have TT:∀ x xs,H20 x=some (.tup xs) -> H24 x=some (.tup xs):=λ x xs e=>b20_24.keep _ _ (h20.neT e) e;have T12:∀ x xs,H12 x=some (.tup xs) -> H24 x=some (.tup xs):=λ x xs e=>TT _ _ (s13_20 _ _ (T13 _ _ e));have small:∀ y ∈ ls,y.natAbs < 2 ^ 72:=zcz E (1:)
  have sg:∀ (q:List Int) (i:Nat) (x:Int),x.natAbs < 2 ^ 72 -> (∀ y ∈ q,y.natAbs < 2 ^ 72) -> ∀ y ∈ q.set i x,y.natAbs < 2 ^ 72:=λ q i x hx hq y hy=>by
   rcases List.mem_or_eq_of_mem_set hy with z | z
   ·exact hq y z
   ·rw [z]; exact hx
  have gd:∀ (q:List Int) (i:Nat),(∀ y ∈ q,y.natAbs < 2 ^ 72) -> (q.getD i 0).natAbs < 2 ^ 72:=λ q i hq=>by
   rw [yac];cases e:q[i]? with
   | none=>exact (3:)
   | some y=>exact hq y (yaD e)
  have sg1:∀ y ∈ g,y.natAbs < 2 ^ 72:=by rw [<- hg]; exact sg _ _ _ (gd _ _ small) (sg _ _ _ (gd _ _ small) small)
  have sg2:∀ y ∈ g2,y.natAbs < 2 ^ 72:=by rw [<- hg2]; exact sg _ _ _ (gd _ _ sg1) sg1
  have bi:∀ q:List Int,q.length <= 40 -> (∀ y ∈ q,y.natAbs < 2 ^ 72) -> Bt 40 6 (.tuple (q.map .int)):=λ q h1 h2=>(Bt.tup (BtL.ints 0 h2)).mono h1 (3:);have ti:∀ (x:Addr) (q:List Int),H24 x=some (.tup (q.map V.int)) -> Tv p H24 (.tuple (q.map .int)) (.ref x):=λ x q e=>.tup e (Tvs.ints p H24 q);have dr:∀ y ∈ ls.drop 1,y.natAbs < 2 ^ 72:=λ y hy=>small y (List.mem_of_mem_drop hy);have dl:(ls.drop 1).length <= 32:=by rw [ybS]; omega
  obtain ⟨u,d,eu,tu,bu⟩:∃ (u:V) (d:PyData),([V.ref t6,V.ref t7,V.ref c8,V.ref t10,V.ref c11] ++ [V.ref t14,V.ref t17,V.ref t20,v])[((r:Nat):Int).toNat]?=some u /\ Tv p H24 d u /\ Bt 40 6 d:=by
   match r,hr with
   | 0,_=>exact ⟨_,_,rfl,ti _ g (T12 _ _ ((s7.trans (s8.trans s8_12)) _ _ n6)),bi _ (1:) sg1⟩
   | 1,_=>exact ⟨_,_,rfl,ti _ g (T12 _ _ ((s8.trans s8_12) _ _ n7)),bi _ (1:) sg1⟩
   | 2,_=>exact ⟨_,.list (ls.map .int),rfl,.lst (b20_24.keep _ _ e8 (s13_20 _ _ c13)) e8 (Tvs.ints p H24 ls),(Bt.lst (BtL.ints 0 small)).mono (1:) (3:)⟩
   | 3,_=>
    refine ⟨_,_,rfl,ti _ (ls ++ [(ls.length:Int)]) ?_,bi _ (38:) λ y hy=>?_⟩
    ·rw [yau]; exact T12 _ _ ((s11.trans s12) _ _ n10)
    ·rcases yaK.mp hy with z | z
     ·exact small y z
     ·rw [ybE.mp z,ya3]; omega
   | 4,_=>exact ⟨_,_,rfl,ti _ (ls.drop 1) (by rw [yca]; exact T12 _ _ (s12 _ _ n11)),bi _ (1:) dr⟩
   | 5,_=>exact ⟨_,_,rfl,ti _ g2 (TT _ _ (s14_20 _ _ n14)),bi _ (1:) sg2⟩
   | 6,_=>
    refine ⟨_,_,rfl,ti _ (-1 :: ls.drop 1) ?_,bi _ (38:) λ y hy=>?_⟩
    ·rw [ybj,yca]; exact TT _ _ (s17_20 _ _ n17)
    ·rcases yaH.mp hy with z | z
     ·rw [z]; decide
     ·exact dr y z
   | 7,_=>
    refine ⟨_,.tuple (.bool true :: (ls.drop 1).map .int),rfl,.tup (xs:=V.bl true :: (ls.drop 1).map V.int) ?_ (.cons (.bl true) (Tvs.ints p H24 _)),(Bt.tup (BtL.cons (Bt.bl 0 true) (BtL.ints 0 dr))).mono (1:) (3:)⟩;rw [yca]; exact TT _ _ n20
   | 8,_=>exact ⟨_,dv,rfl,((tv.same s22).same s23).but h23 b24,bv.mono (3:) (3:)⟩
  refine zaR (v:=u) (SqL.of m24) (yaz r) eu ?_;exact k u d H24 fin h24 tu bu
def zdO:FnScope ["_law_hand_here","_law_paper","_law_half","_law_way","_law_first","_law_last","_law_lower","_law_upper","_law_bit","_law_mask","_law_some","_law_odd"] ["_law_hand_here","_law_paper","_law_half"] (zag zc2):=⟨rfl,rfl,rfl,by decide +kernel,rfl,by decide +kernel,by decide +kernel⟩
def zaQ {a:Addr} {fd:FuncData} (B:Blt K mg) {j:Nat} (g__law_draw:A10 P w K mg base) (g__law_thing:A12 P w K mg base) (g__law_bent_leading:A13 P w K mg base) (g__law_bent:FnAt P w K mg base "_law_bent" ["_law_hand_here","_law_paper","_law_half"] (j + 3) (zbB j)) (F:Fun K "_law_bent" "_law_bent" zc2 a fd):FnOk P w K mg base CX0 (j + 3 + 1) a fd ["_law_hand_here","_law_paper","_law_half"] (zbB (j + 1)):=by
 refine F.ok zdO (λ vs H Q E h=>?_) (λ cdv A outer s H vs Q E hr h=>?_)
 ·obtain ⟨p,t,P,k,hf,rfl,_⟩:=h;rfl
 ·have nd := zdO.nd;have hu := hr.units;obtain ⟨p, t, P, k, hf, rfl, hH, hP, ok, hk, hk6, hf1, hf2, kk⟩ := h
  refine ⟨_,(@zad _ _ _ _ _ (@zav _ _ 3 _ _ _ _ nd rfl (15:) (@zai _ _ _ _ _ _ _ _ _ _ g__law_draw (32:) (@zaa _ _ _ _ _ (8:) (@zaa _ _ _ _ _ (5:) (4:) (0:)) (0:)) (0:) (3:) (0:) (0:)) (0:) (14:)) (@zad _ _ _ _ _ (@zaI _ _ _ _ _ _ _ _ (@PW.pt _ _ _ (@zdW _ _ _ _ _ _ _ (@zan _ _ _ _ _ _ _ _ (29:) (13:) (@zaw _ _ _ _ _ (4:)) (16:)) (@zcU _ _ _ _ (@zan _ _ _ _ _ _ _ _ (29:) (21:) (5:) (16:))))) (@zae _ _ _ (@zak _ _ _ _ (@zbt _ _ _ _ _ _ _ _ (@zan _ _ _ _ _ _ _ _ (29:) (13:) (@zaw _ _ _ _ _ (4:)) (16:)) (@zao _ _ _ _ _ _ _ (27:) (@za4 _ _ _ _ (@zaa _ _ _ _ _ (@zaw _ _ _ _ _ (4:)) (@zaa _ _ _ _ _ (@zaw _ _ _ _ _ (@zaa _ _ _ _ _ (5:) (4:) (0:))) (@zaa _ _ _ _ _ (@za4 _ _ _ _ (4:)) (@zaa _ _ _ _ _ (@zf6 _ _ _) (@zaa _ _ _ _ _ (@zaw _ _ _ _ _ (@zaa _ _ _ _ _ (@zaw _ _ _ _ _ (@zaa _ _ _ _ _ (5:) (@zaa _ _ _ _ _ (5:) (4:) (0:)) (0:))) (4:) (0:))) (4:) (0:)) (0:)) (0:)) (0:)) (0:))) (@zai _ _ _ _ _ _ _ _ _ _ g__law_draw (32:) (@zaa _ _ _ _ _ (8:) (@zaa _ _ _ _ _ (5:) (4:) (0:)) (0:)) (0:) (3:) (0:) (0:)) (26:)) (@zai _ _ _ _ _ _ _ _ _ _ g__law_thing (32:) (@zaa _ _ _ _ _ (8:) (4:) (0:)) (0:) (3:) (0:) (0:))))) (24:)) (@zad _ _ _ _ _ (@zcd _ _ _ _ _ _ (13:) (@zfj _ K _ _ _ _ 4 rfl (@zbh _ _ _ _ _ (71:) (@zbh _ _ _ _ _ (@zaC _ _ 5 _ nd rfl (15:) (14:)) (@zbh _ _ _ _ _ (@zaC _ _ 6 _ nd rfl (15:) (14:)) (@zbh _ _ _ _ _ (@zaC _ _ 7 _ nd rfl (15:) (14:)) (@zfb _) (0:)) (0:)) (0:)) (0:)) (0:) (0:) (0:)) (0:) (0:) (0:)) (@zad _ _ _ _ _ (@zav _ _ 8 _ _ _ _ nd rfl (15:) (@zat _ _ _ _ _ _ _ _ (@zeo _) (5:) (@zai _ _ _ _ _ _ _ _ _ _ g__law_draw (32:) (@zaa _ _ _ _ _ (8:) (@zaa _ _ _ _ _ (18:) (4:) (0:)) (0:)) (0:) (3:) (0:) (0:))) (0:) (14:)) (@zad _ _ _ _ _ (@zav _ _ 9 _ _ _ _ nd rfl (15:) (@zao _ _ _ _ _ _ _ (27:) (@za4 _ _ _ _ (@zaa _ _ _ _ _ (28:) (@zaa _ _ _ _ _ (42:) (4:) (0:)) (0:))) (@zai _ _ _ _ _ _ _ _ _ _ g__law_draw (32:) (@zaa _ _ _ _ _ (8:) (@zaa _ _ _ _ _ (5:) (4:) (0:)) (0:)) (0:) (3:) (0:) (0:)) (26:)) (0:) (14:)) (@zad _ _ _ _ _ (@zav _ _ 10 _ _ _ _ nd rfl (15:) (@za4 _ _ _ _ (@zaa _ _ _ _ _ (@zat _ _ _ _ _ _ _ _ (@zmB _) (@pv1 _ 9 _ _ (41:)) (@pv1 _ 8 _ _ (41:))) (@zaa _ _ _ _ _ (@zat _ _ _ _ _ _ _ _ (65:) (@pv1 _ 9 _ _ (41:)) (@zat _ _ _ _ _ _ _ _ (@zeo _) (5:) (18:))) (@zaa _ _ _ _ _ (@zat _ _ _ _ _ _ _ _ (@zcv _) (@pv1 _ 9 _ _ (41:)) (@zat _ _ _ _ _ _ _ _ (@zeo _) (5:) (18:))) (@zaa _ _ _ _ _ (@zat _ _ _ _ _ _ _ _ (@zcv _) (@zlx _ _ _ _ _ _ (@zjc _) (5:)) (@pv1 _ 9 _ _ (41:))) (@zaa _ _ _ _ _ (39:) (@zaa _ _ _ _ _ (@zay _ _ _ _ _ _ _ _ _ (@zfz _) rfl B.b_str boot_str (@zaa _ _ _ _ _ (@pv1 _ 9 _ _ (41:)) (4:) (0:)) (3:) (3:) (0:) (0:)) (@zaa _ _ _ _ _ (@zf6 _ _ _) (4:) (0:)) (0:)) (0:)) (0:)) (0:)) (0:)) (0:))) (0:) (14:)) (@zad _ _ _ _ _ (@zav _ _ 11 _ _ _ _ nd rfl (15:) (@zao _ _ _ _ _ _ _ (27:) (@pv1 _ 10 _ _ (41:)) (@zai _ _ _ _ _ _ _ _ _ _ g__law_draw (32:) (@zaa _ _ _ _ _ (8:) (@zaa _ _ _ _ _ (5:) (4:) (0:)) (0:)) (0:) (3:) (0:) (0:)) (26:)) (0:) (14:)) (@zad _ _ _ _ _ (@zaI _ _ _ _ _ _ _ _ (@zan _ _ _ _ _ _ _ _ (@ziz _) (21:) (5:) (16:)) (@zae _ _ _ (@zak _ _ _ _ (@zaw _ _ _ _ _ (@zaa _ _ _ _ _ (@pv1 _ 11 _ _ (41:)) (@zaa _ _ _ _ _ (42:) (@zaa _ _ _ _ _ (43:) (@zaa _ _ _ _ _ (55:) (4:) (0:)) (0:)) (0:)) (0:))))) (24:)) (@zad _ _ _ _ _ (@zaI _ _ _ _ _ _ _ _ (@zan _ _ _ _ _ _ _ _ (@ziz _) (21:) (5:) (16:)) (@zae _ _ _ (@zak _ _ _ _ (@zaw _ _ _ _ _ (@zaa _ _ _ _ _ (28:) (@zaa _ _ _ _ _ (@pv1 _ 11 _ _ (41:)) (@zaa _ _ _ _ _ (43:) (@zaa _ _ _ _ _ (55:) (4:) (0:)) (0:)) (0:)) (0:))))) (24:)) (@zad _ _ _ _ _ (@zaI _ _ _ _ _ _ _ _ (@zan _ _ _ _ _ _ _ _ (29:) (21:) (5:) (16:)) (@zae _ _ _ (@zak _ _ _ _ (@zao _ _ _ _ _ _ _ (27:) (@za4 _ _ _ _ (@zaa _ _ _ _ _ (@zaw _ _ _ _ _ (@zaa _ _ _ _ _ (28:) (@zaa _ _ _ _ _ (42:) (@zaa _ _ _ _ _ (55:) (@zaa _ _ _ _ _ (43:) (4:) (0:)) (0:)) (0:)) (0:))) (@zaa _ _ _ _ _ (@zaw _ _ _ _ _ (@zaa _ _ _ _ _ (28:) (@zaa _ _ _ _ _ (42:) (@zaa _ _ _ _ _ (43:) (@zaa _ _ _ _ _ (43:) (4:) (0:)) (0:)) (0:)) (0:))) (4:) (0:)) (0:))) (@zai _ _ _ _ _ _ _ _ _ _ g__law_draw (32:) (@zaa _ _ _ _ _ (8:) (@zaa _ _ _ _ _ (5:) (4:) (0:)) (0:)) (0:) (3:) (0:) (0:)) (26:)))) (24:)) (@zad _ _ _ _ _ (@zaI _ _ _ _ _ _ _ _ (@zan _ _ _ _ _ _ _ _ (29:) (21:) (5:) (16:)) (@zae _ _ _ (@zak _ _ _ _ (@zao _ _ _ _ _ _ _ (27:) (@za4 _ _ _ _ (@zaa _ _ _ _ _ (@zat _ _ _ _ _ _ _ _ (65:) (13:) (@zaw _ _ _ _ _ (@zaa _ _ _ _ _ (5:) (4:) (0:)))) (@zaa _ _ _ _ _ (@zcy _ _ _ _ _ _ _ _ _ _ (@k_sl _ K (0:)) (13:) (@zdA _) (@zdz _ _ _ (5:))) (@zaa _ _ _ _ _ (@zay _ _ _ _ _ _ _ _ _ (@zfU _ K (0:)) rfl B.b_list boot_list (@zaa _ _ _ _ _ (13:) (4:) (0:)) (3:) (3:) (0:) (0:)) (@zaa _ _ _ _ _ (@zaw _ _ _ _ _ (@zaa _ _ _ _ _ (28:) (@zaa _ _ _ _ _ (42:) (@zaa _ _ _ _ _ (@zay _ _ _ _ _ _ _ _ _ (@zfU _ K (0:)) rfl B.b_list boot_list (@zaa _ _ _ _ _ (43:) (4:) (0:)) (3:) (3:) (0:) (0:)) (@zaa _ _ _ _ _ (55:) (4:) (0:)) (0:)) (0:)) (0:))) (4:) (0:)) (0:)) (0:)) (0:))) (@zai _ _ _ _ _ _ _ _ _ _ g__law_draw (32:) (@zaa _ _ _ _ _ (8:) (@zaa _ _ _ _ _ (5:) (4:) (0:)) (0:)) (0:) (3:) (0:) (0:)) (26:)))) (24:)) (@zad _ _ _ _ _ (@zaI _ _ _ _ _ _ _ _ (@PW.pt _ _ _ (@zg7 _ _ _ _ _ _ _ (@zan _ _ _ _ _ _ _ _ (29:) (21:) (5:) (16:)) (@zfp _ _ _ _ (@zan _ _ _ _ _ _ _ _ (29:) (@zai _ _ _ _ _ _ _ _ _ _ g__law_draw (32:) (@zaa _ _ _ _ _ (8:) (@zaa _ _ _ _ _ (5:) (4:) (0:)) (0:)) (0:) (3:) (0:) (0:)) (5:) (16:))))) (@zae _ _ _ (@zak _ _ _ _ (@zaw _ _ _ _ _ (@zaa _ _ _ _ _ (28:) (@zaa _ _ _ _ _ (42:) (@zaa _ _ _ _ _ (@zaw _ _ _ _ _ (@zaa _ _ _ _ _ (@zai _ _ _ _ _ _ _ _ _ _ g__law_bent_leading (32:) (@zaa _ _ _ _ _ (8:) (@zaa _ _ _ _ _ (@zao _ _ _ _ _ _ _ (27:) (43:) (5:) (26:)) (4:) (0:)) (0:)) (0:) (3:) (0:) (0:)) (@zaa _ _ _ _ _ (@zao _ _ _ _ _ _ _ (27:) (43:) (5:) (26:)) (4:) (0:)) (0:))) (@zaa _ _ _ _ _ (55:) (4:) (0:)) (0:)) (0:)) (0:))))) (24:)) (@zad _ _ _ _ _ (@zaI _ _ _ _ _ _ _ _ (@zan _ _ _ _ _ _ _ _ (29:) (21:) (5:) (16:)) (@zae _ _ _ (@zak _ _ _ _ (@zaw _ _ _ _ _ (@zaa _ _ _ _ _ (28:) (@zaa _ _ _ _ _ (42:) (@zaa _ _ _ _ _ (43:) (@zaa _ _ _ _ _ (@zaw _ _ _ _ _ (@zaa _ _ _ _ _ (@zai _ _ _ _ _ _ _ _ _ _ g__law_bent_leading (32:) (@zaa _ _ _ _ _ (8:) (@zaa _ _ _ _ _ (@zao _ _ _ _ _ _ _ (27:) (55:) (5:) (26:)) (4:) (0:)) (0:)) (0:) (3:) (0:) (0:)) (@zaa _ _ _ _ _ (@zao _ _ _ _ _ _ _ (27:) (55:) (5:) (26:)) (4:) (0:)) (0:))) (4:) (0:)) (0:)) (0:)) (0:))))) (24:)) (@zad _ _ _ _ _ (@zaI _ _ _ _ _ _ _ _ (@zan _ _ _ _ _ _ _ _ (29:) (21:) (5:) (16:)) (@zae _ _ _ (@zak _ _ _ _ (@zaw _ _ _ _ _ (@zaa _ _ _ _ _ (28:) (@zaa _ _ _ _ _ (42:) (@zaa _ _ _ _ _ (43:) (@zaa _ _ _ _ _ (@zaw _ _ _ _ _ (@zaa _ _ _ _ _ (@zao _ _ _ _ _ _ _ (27:) (55:) (5:) (26:)) (@zaa _ _ _ _ _ (@zai _ _ _ _ _ _ _ _ _ _ g__law_thing (32:) (@zaa _ _ _ _ _ (8:) (4:) (0:)) (0:) (3:) (0:) (0:)) (4:) (0:)) (0:))) (4:) (0:)) (0:)) (0:)) (0:))))) (24:)) (@zad _ _ _ _ _ (@zaI _ _ _ _ _ _ _ _ (@zan _ _ _ _ _ _ _ _ (29:) (21:) (5:) (16:)) (@zae _ _ _ (@zak _ _ _ _ (@zaw _ _ _ _ _ (@zaa _ _ _ _ _ (28:) (@zaa _ _ _ _ _ (42:) (@zaa _ _ _ _ _ (43:) (@zaa _ _ _ _ _ (@zai _ _ _ _ _ _ _ _ _ _ g__law_thing (32:) (@zaa _ _ _ _ _ (8:) (4:) (0:)) (0:) (3:) (0:) (0:)) (4:) (0:)) (0:)) (0:)) (0:))))) (24:)) (@zad _ _ _ _ _ (@zaI _ _ _ _ _ _ _ _ (@zan _ _ _ _ _ _ _ _ (29:) (21:) (5:) (16:)) (@zae _ _ _ (@zak _ _ _ _ (@zaw _ _ _ _ _ (@zaa _ _ _ _ _ (28:) (@zaa _ _ _ _ _ (42:) (@zaa _ _ _ _ _ (43:) (@zaa _ _ _ _ _ (@zaw _ _ _ _ _ (@zaa _ _ _ _ _ (@zao _ _ _ _ _ _ _ (27:) (55:) (5:) (26:)) (@zaa _ _ _ _ _ (@zai _ _ _ _ _ _ _ _ _ _ g__law_bent (32:) (@zaa _ _ _ _ _ (8:) (@zaa _ _ _ _ _ (@zao _ _ _ _ _ _ _ (27:) (55:) (5:) (26:)) (@zaa _ _ _ _ _ (@zaj _ _ _ _ _ _ _ _ _ (@zdl _ rfl) rfl B.b_max boot_max (@zaa _ _ _ _ _ (5:) (@zaa _ _ _ _ _ (@zat _ _ _ _ _ _ _ _ (@zbi _) (18:) (5:)) (4:) (0:)) (0:)) (3:) (3:) (0:) (0:)) (4:) (0:)) (0:)) (0:)) (0:) (3:) (0:) (0:)) (4:) (0:)) (0:))) (4:) (0:)) (0:)) (0:)) (0:))))) (24:)) (@zae _ _ _ (@zak _ _ _ _ (@zaw _ _ _ _ _ (@zaa _ _ _ _ _ (28:) (@zaa _ _ _ _ _ (42:) (@zaa _ _ _ _ _ (@zaw _ _ _ _ _ (@zaa _ _ _ _ _ (@zao _ _ _ _ _ _ _ (27:) (43:) (5:) (26:)) (@zaa _ _ _ _ _ (@zai _ _ _ _ _ _ _ _ _ _ g__law_bent (32:) (@zaa _ _ _ _ _ (8:) (@zaa _ _ _ _ _ (@zao _ _ _ _ _ _ _ (27:) (43:) (5:) (26:)) (@zaa _ _ _ _ _ (@zaj _ _ _ _ _ _ _ _ _ (@zdl _ rfl) rfl B.b_max boot_max (@zaa _ _ _ _ _ (5:) (@zaa _ _ _ _ _ (@zat _ _ _ _ _ _ _ _ (@zbi _) (18:) (5:)) (4:) (0:)) (0:)) (3:) (3:) (0:) (0:)) (4:) (0:)) (0:)) (0:)) (0:) (3:) (0:) (0:)) (4:) (0:)) (0:))) (@zaa _ _ _ _ _ (55:) (4:) (0:)) (0:)) (0:)) (0:))))))))))))))))))))),?_⟩
  symm;refine ⟨p,12,rfl,hH,by decide,by decide,λ way H1 hw b1 h1=>?_⟩;have hP1:PapH H1 t P:=hP.mono (zaT hH b1);symm;refine zau (6:) λ q2 H2 f2 s2 n2=>?_;have hP2:=hP1.same s2;have h2:=h1.same s2;have b02:=b1.trans s2.but;refine zd9 hP2 ok hk6 n2 λ b hb=>?_;refine ⟨_,rfl,?_⟩;cases P with
  | nil=>
   obtain rfl:b=true:=hb.mpr rfl;symm;refine zau (6:) λ q3 H3 f3 s3 n3=>?_;have h3:=h2.same s3;refine zd9 (hP2.same s3) ok hk6 n3 λ b' hb'=>?_;obtain rfl:b'=true:=hb'.mpr rfl;refine ⟨_,rfl,?_⟩;symm;refine zau (6:) λ a4 H4 f4 s4 n4=>?_;symm;refine zau (6:) λ a5 H5 f5 s5 n5=>?_;symm;refine zbs (6:) λ a6 H6 f6 s6 n6=>?_;have h5:=h3.same (s4.trans s5);have e6:a6 ≠ p:=h5.ne f6;have h6:=h5.same s6;symm;refine zau (6:) λ a7 H7 f7 s7 n7=>?_;symm;refine zau (6:) λ a8 H8 f8 s8 n8=>?_;symm;have h8:=h6.same (s7.trans s8);refine zbs (6:) λ a9 H9 f9 s9 n9=>?_;have e9:a9 ≠ p:=h8.ne f9;have h9:=h8.same s9;symm;refine ⟨p,5,rfl,h9,by decide,by decide,λ r H10 hr b10 h10=>?_⟩;have T:=zaT h9 b10;have n10:=b10.keep _ _ e9 n9;have m4:=T _ _ ((s5.trans (s6.trans (s7.trans (s8.trans s9)))) _ _ n4);have m5:=T _ _ ((s6.trans (s7.trans (s8.trans s9))) _ _ n5);have m6:=b10.keep _ _ e6 ((s7.trans (s8.trans s9)) _ _ n6);have m7:=T _ _ ((s8.trans s9) _ _ n7);have m8:=T _ _ (s9 _ _ n8);have z0:∀ k,Bt 0 k (.int 0):=λ k=>Bt.int k (3:);have sz:=zjh k
   obtain ⟨u,d,eu,tu,bu⟩:∃ (u:V) (d:PyData),([V.ref a4,V.ref a5,V.ref a6,V.non,V.ref a8])[((r:Nat):Int).toNat]?=some u /\ Tv p H10 d u /\ Bt 10 5 d:=by
    match r,hr with
    | 0,_=>exact ⟨_,_,rfl,.tup m4 .nil,(Bt.tup (BtL.nil 0)).mono (3:) (3:)⟩
    | 1,_=>exact ⟨_,_,rfl,.tup m5 (.cons (.int 0) .nil),(Bt.tup (BtL.cons (z0 0) (BtL.nil 0))).mono (3:) (3:)⟩
    | 2,_=>exact ⟨_,_,rfl,.lst m6 e6 .nil,(Bt.lst (BtL.nil 0)).mono (3:) (3:)⟩
    | 3,_=>exact ⟨_,_,rfl,.non,(Bt.non 0).mono (3:) (3:)⟩
    | 4,_=>exact ⟨_,_,rfl,.tup m8 (.cons (.tup m7 (.cons (.int 0) (.cons (.int 0) .nil))) .nil),(Bt.tup (BtL.cons (zb9 (z0 0) (z0 0)) (BtL.nil 1))).mono (3:) (3:)⟩
   refine zaR (v:=u) (SqL.of n10) (yaz r) eu ?_;exact kk u d H10 (b02.trans ((s3.trans (s4.trans (s5.trans (s6.trans (s7.trans (s8.trans s9)))))).but.trans b10)) h10 tu (bu.mono (by unfold szB; omega) (1:))
  | node m1 m2 lo pl up pu=>
   obtain rfl:b=false:=Bool.eq_false_iff.mpr λ z=>by cases hb.mp z
   cases k with
   | zero=>exact ok.elim
   | succ k=>
   obtain ⟨o1,o2,o3,o4,o5,o6,o7,o8⟩:=id ok;have sz:=zjh k;have esz:szB (k + 1)=2 * szP k + 200:=by unfold szB szP; rw [ybi]; omega
   have h32:2 ^ k <= 32:=yax (yaI (3:) (show k <= 5 by omega)) (3:);have ok0:=ok;obtain ⟨j',rfl⟩:∃ j',j=j' + 1:=⟨j - 1,by omega⟩
   symm;refine za1 (λ z=>?_) (λ z=>?_)
   ·symm;refine zau (6:) fun q3 H3 f3 s3 n3 => ?_;refine zd9 (hP2.same s3) ok hk6 n3 fun b' hb' => ?_;obtain rfl : b' = false := Bool.eq_false_iff.mpr fun z => by cases hb'.mp z
    refine ⟨_,rfl,?_⟩;symm;exact ⟨p,rfl,h2.same s3,λ v d H4 b4 h4 tv bv=>kk v d H4 (b02.trans (s3.but.trans b4)) h4 tv (bv.mono (1:) (1:))⟩
   obtain ⟨x,y,lx,px,ly,py,i1,i2,i3,i4,i5,i6,i7⟩:=hP2;have mlt:∀ m:Nat,m < 2 ^ 2 ^ k -> m < 4294967296:=λ m h=>yah h (yax (yaI (3:) h32) (3:));have q1:=mlt m1 o1;have q2':=mlt m2 o2;symm;refine ⟨p,hf,rfl,h2,by omega,by omega,λ r3 H3 hr3 b3 h3=>?_⟩;have hr64:r3 <= 64:=by omega
   have hf64:hf <= 64:=by omega
   symm;refine zbs (6:) λ l4 H4 f4 s4 n4=>?_;have e4:l4 ≠ p:=h3.ne f4;have h4:=h3.same s4;symm;refine ⟨p,2,rfl,h4,by decide,by decide,λ r5 H5 hr5 b5 h5=>?_⟩;have n5:=b5.keep _ _ e4 n4
   obtain ⟨m,hm,em⟩:∃ m:Nat,m < 4294967296 /\ ([nV m1,nV m2])[((r5:Nat):Int).toNat]?=some (nV m):=by
    match r5,hr5 with
    | 0,_=>exact ⟨m1,q1,rfl⟩
    | 1,_=>exact ⟨m2,q2',rfl⟩
   refine zaR (v:=nV m) (SqL.of n5) (yaz _) em ?_;symm;have p3:(1:Int) * 2 ^ ((r3:Int)).toNat=((2 ^ r3:Nat):Int):=by rw [yam,Int.one_mul,Int.natCast_pow]; rfl
   have p4:(1:Int) * 2 ^ ((hf:Int)).toNat=((2 ^ hf:Nat):Int):=by rw [yam,Int.one_mul,Int.natCast_pow]; rfl
   rw [p3,p4];have l3:2 ^ r3 < 2 ^ 64:=Nat.pow_lt_pow_right (3:) (1:);have l4':2 ^ hf <= 4294967296:=yax (yaI (3:) hf2) (3:);refine ⟨(m:Int),rfl,?_,?_⟩
   ·rw [ya3];by_cases z : m = 0
    ·rw [z]; decide
    ·exact yb3 ((Nat.log2_lt z).mpr (show m < 2 ^ 64 by omega)) (3:)
   symm;refine zbs (6:) λ l6 H6 f6 s6 n6=>?_;have e6:l6 ≠ p:=h5.ne f6;have h6:=h5.same s6;symm;refine ⟨p,7,rfl,h6,by decide,by decide,λ r7 H7 hr7 b7 h7=>?_⟩;have n7:=b7.keep _ _ e6 n6;have mi:((m:Nat):Int).natAbs < 2 ^ 72:=by rw [ya3]; omega
   obtain ⟨vo,dO,eo,to,bo⟩:∃ (v:V) (d:PyData),([V.int (Builtin.bitXor (m:Int) ((2 ^ r3:Nat):Int)),V.int ((m:Int) + ((2 ^ hf:Nat):Int)),V.int ((m:Int) - ((2 ^ hf:Nat):Int)),V.int (-1 - (m:Int)),V.bl true,V.str (Str.ofString (toString (m:Int))),V.non])[((r7:Nat):Int).toNat]?=some v /\ (∀ H',Tv p H' d v) /\ Bt 31 0 d:=by
    match r7,hr7 with
    | 0,_=>
     refine ⟨_,_,rfl,λ _=>.int _,(Bt.int 0 ?_).mono (3:) (3:)⟩;rw [zhP,ya3];exact yb3 (Nat.xor_lt_two_pow (n:=64) (1:) l3) (3:)
    | 1,_=>exact ⟨_,_,rfl,λ _=>.int _,(Bt.int 0 (by revert l4'; generalize 2 ^ hf=B; intro l4'; omega)).mono (3:) (3:)⟩
    | 2,_=>exact ⟨_,_,rfl,λ _=>.int _,(Bt.int 0 (by revert l4'; generalize 2 ^ hf=B; intro l4'; omega)).mono (3:) (3:)⟩
    | 3,_=>exact ⟨_,_,rfl,λ _=>.int _,(Bt.int 0 (1:)).mono (3:) (3:)⟩
    | 4,_=>exact ⟨_,_,rfl,λ _=>.bl true,(Bt.bl 0 _).mono (3:) (3:)⟩
    | 5,_=>exact ⟨_,_,rfl,λ _=>.str _,Bt.text 0 mi⟩
    | 6,_=>exact ⟨_,_,rfl,λ _=>.non,(Bt.non 0).mono (3:) (3:)⟩
   refine zaR (v:=vo) (SqL.of n7) (yaz _) eo ?_;have T:∀ a xs,H2 a=some (.tup xs) -> H7 a=some (.tup xs):=λ a xs e=>zaT h6 b7 _ _ (s6 _ _ (zaT h4 b5 _ _ (s4 _ _ (zaT h2 b3 _ _ e))));have b07:But p H H7:=b02.trans (b3.trans (s4.but.trans (b5.trans (s6.but.trans b7))));have j1:=T _ _ i1;have j2:=T _ _ i2;have j3:=T _ _ i3;have j4:=i4.mono T;have j5:=T _ _ i5;have j6:=T _ _ i6;have j7:=i7.mono T;have vx:Tv p H7 (.tuple [.tuple (lo.map .int),pdat pl]) (.ref x):=.tup j2 (.cons (.tup j3 (Tvs.ints p H7 lo)) (.cons (zdM j4) .nil));have vy:Tv p H7 (.tuple [.tuple (up.map .int),pdat pu]) (.ref y):=.tup j5 (.cons (.tup j6 (Tvs.ints p H7 up)) (.cons (zdM j7) .nil));have blo:Bt 32 (2 * k + 1) (.tuple (lo.map .int)):=(zix o3 (1:) 0).mono (yad _) (1:);have bup:Bt 32 (2 * k + 1) (.tuple (up.map .int)):=(zix o5 (1:) 0).mono (yad _) (1:);have bpl:=zfK k o7 (1:);have bpu:=zfK k o8 (1:);have bX:Bt (szP k - 104) (2 * k + 2) (.tuple [.tuple (lo.map .int),pdat pl]):=(zb9 blo bpl).mono (1:) (1:);have bY:Bt (szP k - 104) (2 * k + 2) (.tuple [.tuple (up.map .int),pdat pu]):=(zb9 bup bpu).mono (1:) (1:);have bm1:∀ K,Bt 0 K (.int m1):=λ K=>Bt.int K (by rw [ya3]; omega);have bm2:∀ K,Bt 0 K (.int m2):=λ K=>Bt.int K (by rw [ya3]; omega);have boK:∀ K,Bt 31 K dO:=λ K=>bo.mono (yad _) (yaY _);have fin:∀ (v:V) (d:PyData) (HF:Hp),But p H7 HF -> Hand HF p -> Tv p HF d v -> Bt (2 * szP k + 200) (2 * k + 11) d -> Q v HF:=λ v d HF b hh tv bt=>kk v d HF (b07.trans b) hh tv (bt.mono (1:) (1:));symm;refine zdc (λ c3=>?_) (λ c3=>?_)
   ·symm;refine zau (6:) λ q8 H8 f8 s8 n8=>?_;exact fin _ _ H8 s8.but (h7.same s8) (.tup n8 (.cons (to H8) (.cons (.int _) (.cons (vx.same s8) (.cons (vy.same s8) .nil))))) ((zbG (boK (2 * k + 2)) (bm2 _) bX bY).mono (1:) (1:))
   symm;refine zdc (λ c5=>?_) (λ c5=>?_)
   ·symm;refine zau (6:) λ q8 H8 f8 s8 n8=>?_;exact fin _ _ H8 s8.but (h7.same s8) (.tup n8 (.cons (.int _) (.cons (to H8) (.cons (vx.same s8) (.cons (vy.same s8) .nil))))) ((zbG (bm1 (2 * k + 2)) (boK _) bX bY).mono (1:) (1:))
   symm;refine za1 (λ c6=>?_) (λ c6=>?_)
   ·symm;refine zau (6:) fun q8 H8 f8 s8 n8 => ?_;symm;refine zau (6:) fun q9 H9 f9 s9 n9 => ?_;symm;have h9 := (h7.same s8).same s9;refine zbs (6:) fun q10 H10 f10 s10 n10 => ?_;have e10 : q10 ≠ p := h9.ne f10;have h10 := h9.same s10;symm;refine ⟨p, 2, rfl, h10, by decide, by decide, fun r H11 hr b11 h11 => ?_⟩;have n11 := b11.keep _ _ e10 n10;have s7_10 := s8.trans (s9.trans s10);have vx1 := (vx.same s7_10).but h10 b11;have vy1 := (vy.same s7_10).but h10 b11
    obtain ⟨u,d,eu,tu,bu⟩:∃ (u:V) (d:PyData),([V.ref q8,V.ref q9])[((r:Nat):Int).toNat]?=some u /\ Tv p H11 d u /\ Bt (2 * szP k + 200) (2 * k + 11) d:=by
     match r,hr with
     | 0,_=>exact ⟨_,_,rfl,.tup (zaT h10 b11 _ _ ((s9.trans s10) _ _ n8)) (.cons (.int _) (.cons (.int _) (.cons vy1 (.cons vx1 .nil)))),(zbG (bm1 (2 * k + 2)) (bm2 _) bY bX).mono (1:) (1:)⟩
     | 1,_=>exact ⟨_,_,rfl,.tup (zaT h10 b11 _ _ (s10 _ _ n9)) (.cons (.int _) (.cons (.int _) (.cons vx1 (.cons vx1 .nil)))),(zbG (bm1 (2 * k + 2)) (bm2 _) bX bX).mono (1:) (1:)⟩
    refine zaR (v:=u) (SqL.of n11) (yaz r) eu ?_;exact fin u d H11 (s7_10.but.trans b11) h11 tu bu
   symm;refine za1 (λ c7=>?_) (λ c7=>?_)
   ·symm;refine zau (6:) fun q8 H8 f8 s8 n8 => ?_;refine zf9 (s8 _ _ j1) n8 (6:) fun q9 H9 s9 n9 => ?_;have s79 := s8.trans s9;symm;refine zja (k := 3) (s79 _ _ j1) (6:) fun q10 H10 f10 s10 n10 => ?_;have s7_10 := s79.trans s10;have h10 := h7.same s7_10;symm;refine zdj (.inr (SqT.of (s7_10 _ _ j1))) fun q11 H11 f11 s11 n11 => ?_;have e11 : q11 ≠ p := h10.ne f11;have h11 := h10.same s11;have s7_11 := s7_10.trans s11;symm;refine zdj (.inr (SqT.of (s7_11 _ _ j2))) fun q12 H12 f12 s12 n12 => ?_;have e12 : q12 ≠ p := h11.ne f12;have h12 := h11.same s12;symm;refine zau (6:) fun q13 H13 f13 s13 n13 => ?_;have h13 := h12.same s13;symm;refine zbs (6:) fun q14 H14 f14 s14 n14 => ?_;have e14 : q14 ≠ p := h13.ne f14;have h14 := h13.same s14;have s12_14 := s13.trans s14;have s7_14 := s7_11.trans (s12.trans s12_14);symm;refine ⟨p, 4, rfl, h14, by decide, by decide, fun r H15 hr b15 h15 => ?_⟩;have n15 := b15.keep _ _ e14 n14;have T15 := zaT h14 b15;have vx1 := (vx.same s7_14).but h14 b15;have vy1 := (vy.same s7_14).but h14 b15;have z0 : ∀ k, Bt 0 k (.int 0) := fun k => Bt.int k (3:);have ux : Tvs p H15 [.tuple (lo.map .int), pdat pl] [V.ref lx, V.ref px] := .cons (.tup (T15 _ _ (s7_14 _ _ j3)) (Tvs.ints p H15 lo)) (.cons (zdM (j4.mono fun a xs e => T15 _ _ (s7_14 _ _ e))) .nil)
    obtain ⟨u,d,eu,tu,bu⟩:∃ (u:V) (d:PyData),([V.ref q9,V.ref q10,V.ref q11,V.ref q13])[((r:Nat):Int).toNat]?=some u /\ Tv p H15 d u /\ Bt (2 * szP k + 200) (2 * k + 11) d:=by
     match r,hr with
     | 0,_=>exact ⟨_,_,rfl,.tup (T15 _ _ ((s10.trans (s11.trans (s12.trans s12_14))) _ _ n9)) (.cons (.int _) (.cons (.int _) (.cons vx1 (.cons vy1 (.cons (.int 0) .nil))))),(Bt.tup (BtL.cons (bm1 (2 * k + 2)) (BtL.cons (bm2 _) (BtL.cons bX (BtL.cons bY (BtL.cons (z0 _) (BtL.nil _))))))).mono (1:) (1:)⟩
     | 1,_=>exact ⟨_,_,rfl,.tup (T15 _ _ ((s11.trans (s12.trans s12_14)) _ _ n10)) (.cons (.int _) (.cons (.int _) (.cons vx1 .nil))),(Bt.tup (BtL.cons (bm1 (2 * k + 2)) (BtL.cons (bm2 _) (BtL.cons bX (BtL.nil _))))).mono (1:) (1:)⟩
     | 2,_=>exact ⟨_,_,rfl,.lst (b15.keep _ _ e11 ((s12.trans s12_14) _ _ n11)) e11 (.cons (.int _) (.cons (.int _) (.cons vx1 (.cons vy1 .nil)))),(Bt.lst (BtL.cons (bm1 (2 * k + 2)) (BtL.cons (bm2 _) (BtL.cons bX (BtL.cons bY (BtL.nil _)))))).mono (1:) (1:)⟩
     | 3,_=>
      have bl:Bt (szP k - 104) (2 * k + 2) (.list [.tuple (lo.map .int),pdat pl]):=(Bt.lst (BtL.cons blo (BtL.cons bpl (BtL.nil _)))).mono (1:) (1:);exact ⟨_,_,rfl,.tup (T15 _ _ (s14 _ _ n13)) (.cons (.int _) (.cons (.int _) (.cons (.lst (b15.keep _ _ e12 (s12_14 _ _ n12)) e12 ux) (.cons vy1 .nil)))),(zbG (bm1 (2 * k + 2)) (bm2 _) bl bY).mono (1:) (1:)⟩
    refine zaR (v:=u) (SqL.of n15) (yaz r) eu ?_;exact fin u d H15 (s7_14.but.trans b15) h15 tu bu
   symm;refine za1 (λ c8=>?_) (λ c8=>?_)
   ·symm;refine ⟨p, 2, rfl, h7, by decide, by decide, fun r8 H8 hr8 b8 h8 => ?_⟩;have T8 := zaT h7 b8;have k1 := T8 _ _ j1;have k2 := T8 _ _ j2;have k5 := T8 _ _ j5;symm;refine za1 (fun c9 => ?_) (fun c9 => ?_)
    ·symm;refine ⟨p, lx, lo, rfl, h8, T8 _ _ j3, o3, by rw [o4]; exact ybF, by rw [o4]; exact h32, fun v d H9 b9 h9 tv bv => ?_⟩;have T9 := zaT h8 b9;have g2 := T9 _ _ k2;symm;refine zau (6:) fun q10 H10 f10 s10 n10 => ?_;symm;refine zau (6:) fun q11 H11 f11 s11 n11 => ?_;have s9_11 := s10.trans s11;have vy1 := ((vy.but h7 b8).but h8 b9).same s9_11;have vp : Tv p H11 (pdat pl) (.ref px) := zdM (j4.mono fun a xs e => s9_11 _ _ (T9 _ _ (T8 _ _ e)));have bb := (zb9 (bv.mono (yad _) (show 6 <= 2 * k + 7 by omega)) (bpl.mono (yad _) (show 2 * k + 1 <= 2 * k + 7 by omega)))
     exact fin _ _ H11 (b8.trans (b9.trans s9_11.but)) (h9.same s9_11) (.tup n11 (.cons (.int _) (.cons (.int _) (.cons (.tup (s11 _ _ n10) (.cons (tv.same s9_11) (.cons vp .nil))) (.cons vy1 .nil))))) ((zbG (bm1 (2 * k + 8)) (bm2 _) bb (bY.mono (yad _) (1:))).mono (1:) (1:))
    ·symm;refine zhG (beq_iff_eq.mpr c8) ?_;symm;refine ⟨p, ly, up, rfl, h8, T8 _ _ j6, o5, by rw [o6]; exact ybF, by rw [o6]; exact h32, fun v d H9 b9 h9 tv bv => ?_⟩;have T9 := zaT h8 b9;have g5 := T9 _ _ k5;symm;refine zau (6:) fun q10 H10 f10 s10 n10 => ?_;symm;refine zau (6:) fun q11 H11 f11 s11 n11 => ?_;have s9_11 := s10.trans s11;have vx1 := ((vx.but h7 b8).but h8 b9).same s9_11;have vp : Tv p H11 (pdat pu) (.ref py) := zdM (j7.mono fun a xs e => s9_11 _ _ (T9 _ _ (T8 _ _ e)));have bb := (zb9 (bv.mono (yad _) (show 6 <= 2 * k + 7 by omega)) (bpu.mono (yad _) (show 2 * k + 1 <= 2 * k + 7 by omega)))
     exact fin _ _ H11 (b8.trans (b9.trans s9_11.but)) (h9.same s9_11) (.tup n11 (.cons (.int _) (.cons (.int _) (.cons vx1 (.cons (.tup (s11 _ _ n10) (.cons (tv.same s9_11) (.cons vp .nil))) .nil))))) ((zbG (bm1 (2 * k + 8)) (bm2 _) (bX.mono (yad _) (1:)) bb).mono (1:) (1:))
   symm;refine zjI (beq_eq_false_iff_ne.mpr c8) ?_;symm;refine za1 (λ c9=>?_) (λ c9=>?_)
   ·symm;refine ⟨p, rfl, h7, fun v d H9 b9 h9 tv bv => ?_⟩;have T9 := zaT h7 b9;symm;refine zau (6:) fun q10 H10 f10 s10 n10 => ?_;symm;refine zau (6:) fun q11 H11 f11 s11 n11 => ?_;have s9_11 := s10.trans s11;have vx1 := (vx.but h7 b9).same s9_11;have vl : Tv p H11 (.tuple (up.map .int)) (.ref ly) := .tup (s9_11 _ _ (T9 _ _ j6)) (Tvs.ints p H11 up);have bb := (zb9 (bup.mono (yad _) (show 2 * k + 1 <= 2 * k + 7 by omega)) (bv.mono (yad _) (show 5 <= 2 * k + 7 by omega)))
    exact fin _ _ H11 (b9.trans s9_11.but) (h9.same s9_11) (.tup n11 (.cons (.int _) (.cons (.int _) (.cons vx1 (.cons (.tup (s11 _ _ n10) (.cons vl (.cons (tv.same s9_11) .nil))) .nil))))) ((zbG (bm1 (2 * k + 8)) (bm2 _) (bX.mono (yad _) (1:)) bb).mono (1:) (1:))
   symm;refine za1 (λ c10=>?_) (λ c10=>?_)
   ·symm;refine ⟨p,rfl,h7,λ v d H9 b9 h9 tv bv=>?_⟩;symm;refine zau (6:) λ q11 H11 f11 s11 n11=>?_;have vx1:=(vx.but h7 b9).same s11;exact fin _ _ H11 (b9.trans s11.but) (h9.same s11) (.tup n11 (.cons (.int _) (.cons (.int _) (.cons vx1 (.cons (tv.same s11) .nil))))) ((zbG (bm1 (2 * k + 8)) (bm2 _) (bX.mono (yad _) (1:)) (bv.mono (yad _) (1:))).mono (1:) (1:))
   have mx:∃ g:Nat,1 <= g /\ g <= 32 /\ (if (hf:Int) / 2 > 1 then (hf:Int) / 2 else 1)=(g:Int):=by
    by_cases c:(hf:Int) / 2 > 1
    ·exact ⟨hf / 2,by omega,by omega,by rw [if_pos c]; omega⟩
    ·exact ⟨1,by omega,by omega,by rw [if_neg c]; rfl⟩
   obtain ⟨gf,g1,g2,eg⟩:=mx;have esB:szB k=szP k + 200:=rfl;symm;refine za1 (λ c11=>?_) (λ c11=>?_)
   ·symm;rw [eg];refine ⟨p, py, pu, k, gf, rfl, h7, j7, o8, by omega, by omega, g1, g2, fun v d H9 b9 h9 tv bv => ?_⟩;have T9 := zaT h7 b9;symm;refine zau (6:) fun q10 H10 f10 s10 n10 => ?_;symm;refine zau (6:) fun q11 H11 f11 s11 n11 => ?_;have s9_11 := s10.trans s11;have vz1 := (vx.but h7 b9).same s9_11;have vl : Tv p H11 (.tuple (up.map .int)) (.ref ly) := .tup (s9_11 _ _ (T9 _ _ j6)) (Tvs.ints p H11 up);have bb := (zb9 (bup.mono (yad _) (show 2 * k + 1 <= 2 * k + 9 by omega)) bv)
    exact fin _ _ H11 (b9.trans s9_11.but) (h9.same s9_11) (.tup n11 (.cons (.int _) (.cons (.int _) (.cons vz1 (.cons (.tup (s11 _ _ n10) (.cons vl (.cons (tv.same s9_11) .nil))) .nil))))) ((zbG (bm1 (2 * k + 10)) (bm2 _) (bX.mono (yad _) (1:)) bb).mono (1:) (1:))
   ·symm;rw [eg];refine ⟨p, px, pl, k, gf, rfl, h7, j4, o7, by omega, by omega, g1, g2, fun v d H9 b9 h9 tv bv => ?_⟩;have T9 := zaT h7 b9;symm;refine zau (6:) fun q10 H10 f10 s10 n10 => ?_;symm;refine zau (6:) fun q11 H11 f11 s11 n11 => ?_;have s9_11 := s10.trans s11;have vz1 := (vy.but h7 b9).same s9_11;have vl : Tv p H11 (.tuple (lo.map .int)) (.ref lx) := .tup (s9_11 _ _ (T9 _ _ j3)) (Tvs.ints p H11 lo);have bb := (zb9 (blo.mono (yad _) (show 2 * k + 1 <= 2 * k + 9 by omega)) bv)
    exact fin _ _ H11 (b9.trans s9_11.but) (h9.same s9_11) (.tup n11 (.cons (.int _) (.cons (.int _) (.cons (.tup (s11 _ _ n10) (.cons vl (.cons (tv.same s9_11) .nil))) (.cons vz1 .nil))))) ((zbG (bm1 (2 * k + 10)) (bm2 _) bb (bY.mono (yad _) (1:))).mono (1:) (1:))
def zkE:FnScope ["many"] ["many"] (zag zkS):=⟨rfl,rfl,rfl,by decide +kernel,rfl,by decide +kernel,by decide +kernel⟩
def zni {a:Addr} {fd:FuncData} (B:Blt K mg)  (F:Fun K "low" "low" zkS a fd):FnOk P w K mg base CX0 1 a fd ["many"] zmQ:=by
 refine F.ok zkE (λ vs H Q E h=>?_) (λ cdv A outer s H vs Q E hr h=>?_)
 ·obtain ⟨n,rfl,_⟩:=h;rfl
 ·have nd:=zkE.nd;have hu:=hr.units;obtain ⟨n,rfl,hn,q⟩:=h;refine ⟨_,(@zae _ _ _ (@zak _ _ _ _ (@zat _ _ _ _ _ _ _ _ (@zcv _) (@zat _ _ _ _ _ _ _ _ (@zeo _) (5:) (8:)) (5:)))),?_⟩;symm;rw [zlF];exact q
def zdK:FnScope ["thing","least","most"] ["thing","least","most"] (zag zcY):=⟨rfl,rfl,rfl,by decide +kernel,rfl,by decide +kernel,by decide +kernel⟩
def zgj {a:Addr} {fd:FuncData} (B:Blt K mg)  (F:Fun K "is_within" "is_within" zcY a fd):FnOk P w K mg base CX0 1 a fd ["thing","least","most"] zf5:=by
 refine F.ok zdK (λ vs H Q E h=>?_) (λ cdv A outer s H vs Q E hr h=>?_)
 ·obtain ⟨v,lo,hi,rfl,_⟩:=h;rfl
 ·have nd := zdK.nd;have hu := hr.units;obtain ⟨v, lo, hi, rfl, hv, k⟩ := h;refine ⟨_, (@zad _ _ _ _ _ (@zaI _ _ _ _ _ _ _ _ (@PW.pt _ _ _ (@zdW _ _ _ _ _ _ _ (@zaO _ _ _ (@zaj _ _ _ _ _ _ _ _ _ (64:) rfl B.b_isinstance boot_isinstance (@zaa _ _ _ _ _ (8:) (@zaa _ _ _ _ _ (74:) (4:) (0:)) (0:)) (3:) (3:) (0:) (0:)) (17:)) (@zcU _ _ _ _ (@za2 _ _ _ _ (@zaO _ _ _ (@zaj _ _ _ _ _ _ _ _ _ (64:) rfl B.b_isinstance boot_isinstance (@zaa _ _ _ _ _ (8:) (@zaa _ _ _ _ _ (78:) (4:) (0:)) (0:)) (3:) (3:) (0:) (0:)) (17:)))))) (@zae _ _ _ (@zak _ _ _ _ (39:))) (24:)) (@zae _ _ _ (@zak _ _ _ _ (@zfg _ _ _ _ _ _ _ _ _ _ _ _ (@zjj _) (@zjj _) (13:) (8:) (18:) (77:))))), ?_⟩;symm;refine zek hv ?_;symm;cases hbv : zef v with
  | true=>
   refine zhG rfl ?_;symm;rw [show zaB v lo hi=false by cases v <;> simp_all [zef,zaB]] at k;exact k
  | false=>
   refine zjI rfl ?_;symm;refine zbf hv ?_;rw [hbv];symm;cases hiv:zaU v with
   | false=>
    refine zhG rfl ?_;symm;rw [show zaB v lo hi=false by cases v <;> simp_all [zaU,zaB]] at k;exact k
   | true=>
    obtain ⟨i,rfl⟩:∃ i,v=.int i:=by
     cases v with
     | int i=>exact ⟨i,rfl⟩
     | _=>simp [zaU] at hiv
    refine zjI rfl ?_;symm;refine zdc (λ h1=>?_) (λ h1=>?_)
    ·symm;rw [zaB,decide_eq_true h1,ybX] at k;exact k
    ·symm;rw [zaB,decide_eq_false h1,ybv] at k;exact k
def zdp:FnScope ["thing","width"] ["thing"] (zag zbL):=⟨rfl,rfl,rfl,by decide +kernel,rfl,by decide +kernel,by decide +kernel⟩
def zfd {a:Addr} {fd:FuncData} (B:Blt K mg) (g_is_within:A16 P w K mg base) (F:Fun K "is_leading" "is_leading" zbL a fd):FnOk P w K mg base CX0 2 a fd ["thing"] zjb:=by
 refine F.ok zdp (λ vs H Q E h=>?_) (λ cdv A outer s H vs Q E hr h=>?_)
 ·obtain ⟨v,r,rfl,_⟩:=h;rfl
 ·have nd := zdp.nd;have hu := hr.units;obtain ⟨v, r, rfl, hv, k⟩ := h;refine ⟨_, (@zad _ _ _ _ _ (@zaI _ _ _ _ _ _ _ _ (81:) (@zae _ _ _ (@zak _ _ _ _ (39:))) (24:)) (@zad _ _ _ _ _ (@zav _ _ 1 _ _ _ _ nd rfl (Or.inr rfl) (53:) (0:) (14:)) (@zae _ _ _ (@zak _ _ _ _ (@zck _ _ _ _ _ _ _ (@zfg _ _ _ _ _ _ _ _ _ _ _ _ (@zjj _) (@zjj _) (5:) (13:) (@zb6 _ _ _ _ B.g_WIDEST (0:) (3:)) (77:)) (@zdL _ _ _ _ _ (@zaj _ _ _ _ _ _ _ _ _ (@zmh _ K rfl (0:)) rfl B.b_all boot_all (@zaa _ _ _ _ _ (@zbp _ _ _ _ _ _ (zag zbL) _ ["thing", "width"] ["entry", "width"] [none, some 1] _ _ _ _ rfl (@zbw _ K _ _ _ (8:) (0:)) (fun _ _ _ _ => (@zaC _ _ 0 _ (show List.Nodup (["entry", "width"] : List Str) by decide +kernel) rfl (15:) (14:))) (fun _ _ _ _ => (@zbH _)) (fun _ _ _ _ => (@zai _ _ _ _ _ _ _ _ _ _ g_is_within (19:) (@zaa _ _ _ _ _ (8:) (@zaa _ _ _ _ _ (@zb6 _ _ _ _ B.g_ONE (0:) (3:)) (@zaa _ _ _ _ _ (@zat _ _ _ _ _ _ _ _ (@zcv _) (13:) (5:)) (4:) (0:)) (0:)) (0:)) (0:) (3:) (0:) (0:))) (34:) (0:) (0:) (17:)) (4:) (0:)) (3:) (3:) (0:) (0:)))))))), ?_⟩;rcases hv with ⟨b, xs, rfl, hb, hk, hz, rfl⟩ | ⟨hn, rfl⟩
  ·symm;refine zdc (fun h1 => ?_) (fun h1 => ?_)
   ·symm;by_cases h2 : (xs.length : Int) <= 64
    ·rw [decide_eq_true h2];symm;refine zbV (SqT.of hb) ?_;refine zcC (xs := xs) (fun i acc H' => H' = H /\ i <= 64 /\ acc = ((xs.take i).map fun v => zaB v (-2) ((xs.length : Int) - 1)).map V.bl) ⟨rfl, by omega, rfl⟩ (fun i acc H' h => ?_) (fun i acc H' h => by rw [h.1]; exact SqT.of hb) ?_ ?_
     ·obtain ⟨_,hi,rfl⟩:=h;rw [yaa,yaa,yaE];exact yay (small5 (1:))
     ·rintro i x acc H' hx ⟨rfl,hi,rfl⟩;have hil:i < xs.length:=(yaf.mp hx).1;symm;refine ⟨x,-2,(xs.length:Int) - 1,rfl,hk x (yaD hx),?_⟩;refine ⟨rfl,by omega,?_⟩;rw [yaT,hx,yau,yau];rfl
     ·rintro acc H' ⟨rfl,_,rfl⟩ p hp;rw [yaq (yad _)] at *;symm;refine ⟨p,_,rfl,SqL.of zaf,?_⟩;have:=k _ (zah (o:=.lst ((xs.map λ v=>zaB v (-2) ((xs.length:Int) - 1)).map V.bl)) hp);rw [zfv,decide_eq_true (show 1 <= xs.length by omega),decide_eq_true (show xs.length <= 64 by omega)] at this;rw [show (λ bs:List Bool=>bs.all id) (xs.map λ v=>zaB v (-2) ((xs.length:Int) - 1))=xs.all λ v=>zaB v (-2) ((xs.length:Int) - 1) by simp [List.all_map]];exact this
    ·rw [decide_eq_false h2];symm;have:=k _ (Same.refl _);rw [zfv,decide_eq_false (show ¬ xs.length <= 64 by omega),Bool.and_false,ybv] at this;exact this
   ·symm;have:=k _ (Same.refl _);rw [zfv,decide_eq_false (show ¬ 1 <= xs.length by omega),ybv,ybv] at this;exact this
  ·symm;refine zba hn ?_;symm;exact k _ (Same.refl _)
def zeY:FnScope ["half","thing"] ["half","thing"] (zag zea):=⟨rfl,rfl,rfl,by decide +kernel,rfl,by decide +kernel,by decide +kernel⟩
def zhK {a:Addr} {fd:FuncData} (B:Blt K mg) (g_is_leading:A17 P w K mg base) (g_is_even:A0 P w K mg base) (F:Fun K "is_part" "is_part" zea a fd):FnOk P w K mg base CX0 3 a fd ["half","thing"] zgf:=by
 refine F.ok zeY (λ vs H Q E h=>?_) (λ cdv A outer s H vs Q E hr h=>?_)
 ·obtain ⟨p,h,v,d,rfl,_⟩:=h;rfl
 ·have nd := zeY.nd;have hu := hr.units;obtain ⟨p, h, v, d, rfl, hv, hb, h1, h32, k⟩ := h;have no : ∀ H', (¬ zlT h d) -> Same H H' -> Q (.bl false) H' := fun H' n s => k false H' ⟨fun z => (47:), fun z => absurd z n⟩ s;refine ⟨_, (@zad _ _ _ _ _ (@zaI _ _ _ _ _ _ _ _ (@PW.pt _ _ _ (@zdW _ _ _ _ _ _ _ (@za2 _ _ _ _ (@zaO _ _ _ (72:) (17:))) (@zcU _ _ _ _ (@zan _ _ _ _ _ _ _ _ (68:) (61:) (5:) (16:))))) (@zae _ _ _ (@zak _ _ _ _ (39:))) (24:)) (@zae _ _ _ (@zak _ _ _ _ (@zck _ _ _ _ _ _ _ (@zai _ _ _ _ _ _ _ _ _ _ g_is_leading (19:) (@zaa _ _ _ _ _ (33:) (4:) (0:)) (0:) (3:) (0:) (0:)) (@zck _ _ _ _ _ _ _ (@zcj _ _ _ _ _ _ _ _ (29:) (@zaj _ _ _ _ _ _ _ _ _ (@zbk _ K (0:)) rfl B.b_len boot_len (@zaa _ _ _ _ _ (33:) (4:) (0:)) (3:) (3:) (0:) (0:)) (8:) (16:)) (@zdL _ _ _ _ _ (@zai _ _ _ _ _ _ _ _ _ _ g_is_even (19:) (@zaa _ _ _ _ _ (33:) (4:) (0:)) (0:) (3:) (0:) (0:)))))))), ?_⟩;rcases hv.cases2 with ⟨t, ds, xs, rfl, rfl, ht, hk⟩ | ⟨hn, hd⟩
  ·symm;refine zf4 (fun z => ?_) (fun z => ?_)
   ·symm;refine no H (λ ⟨lo,x,e,_⟩=>z ?_) (Same.refl _);cases e;rw [<- hk.len];rfl
   ·have hl : xs.length = 2 := by omega
    obtain ⟨v1,v2,rfl⟩:∃ v1 v2,xs=[v1,v2]:=by
     match xs,hl with
     | [a,c],_=>exact ⟨a,c,rfl⟩
    obtain ⟨d1,ds1,rfl,g1,hk1⟩:∃ d1 ds1,ds=d1 :: ds1 /\ Tv p H d1 v1 /\ Tvs p H ds1 [v2]:=by cases hk with | cons a b=>exact ⟨_,_,rfl,a,b⟩
    obtain ⟨d2,ds2,rfl,g2,hk2⟩:∃ d2 ds2,ds1=d2 :: ds2 /\ Tv p H d2 v2 /\ Tvs p H ds2 []:=by cases hk1 with | cons a b=>exact ⟨_,_,rfl,a,b⟩
    obtain rfl:ds2=[]:=by cases hk2; rfl
    have hb1:Bx d1:=hb.parts.parts.1;obtain ⟨r,lr,y1,y2⟩:=g1.lead hb1;symm;refine ⟨v1,r,rfl,lr,λ H1 s1=>?_⟩;have ht1:=s1 _ _ ht;symm;cases r with
    | false=>
     refine iteF ?_;refine no H1 (λ ⟨lo,x,e,E,ll⟩=>?_) s1;cases e;exact Bool.noConfusion (y2 lo rfl E (1:) (1:))
    | true=>
     refine iteT ?_;obtain ⟨a,lo,rfl,ha,rfl,hL,l1,l2⟩:=y1 rfl;have ha1:=s1 _ _ ha;symm;rw [yaa];by_cases c:(lo.length:Int)=(h:Int)
     ·rw [show ((lo.length:Int) == (h:Int))=true from beq_iff_eq.mpr c];symm;refine ⟨a,lo,lo.length,rfl,ha1,hL,by omega,λ H2 s2=>?_⟩;refine k _ H2 ?_ (s1.trans s2);unfold zgQ;rw [decide_eq_true_iff];refine ⟨λ E=>⟨lo,_,rfl,E,by omega⟩,λ ⟨lo',x,e,E,_⟩=>?_⟩;simp only [PyData.tuple.injEq,List.cons.injEq,and_true] at e;rw [zaY e.1];exact E
     ·rw [show ((lo.length:Int) == (h:Int))=false from beq_eq_false_iff_ne.mpr c];symm;refine no H1 (λ ⟨lo',x,e,E,ll⟩=>?_) s1;simp only [PyData.tuple.injEq,List.cons.injEq,and_true] at e;rw [zaY e.1] at c;exact c (1:)
  ·symm;refine zba hn ?_;symm;exact no H (λ ⟨lo,x,e,_⟩=>hd _ e) (Same.refl _)
def zem:FnScope ["half","paper"] ["half","paper"] (zag zdw):=⟨rfl,rfl,rfl,by decide +kernel,rfl,by decide +kernel,by decide +kernel⟩
def zg1 {a:Addr} {fd:FuncData} (B:Blt K mg) (g_low:A15 P w K mg base) (g_is_within:A16 P w K mg base) (g_is_part:A18 P w K mg base) (F:Fun K "has_form" "has_form" zdw a fd):FnOk P w K mg base CX0 4 a fd ["half","paper"] zeN:=by
 refine F.ok zem (λ vs H Q E h=>?_) (λ cdv A outer s H vs Q E hr h=>?_)
 ·obtain ⟨p,h,t,ds,xs,rfl,_⟩:=h;rfl
 ·have nd := zem.nd;have hu := hr.units;obtain ⟨p, h, t, ds, xs, rfl, ht, hk, hb, h1, h32, k⟩ := h;have no : ∀ H', (¬ zm9 h ds) -> Same H H' -> Q (.bl false) H' := fun H' n s => k false H' ⟨fun z => (47:), fun z => absurd z n⟩ s;refine ⟨_, (@zad _ _ _ _ _ (@zaI _ _ _ _ _ _ _ _ (@zan _ _ _ _ _ _ _ _ (68:) (61:) (5:) (16:)) (@zae _ _ _ (@zak _ _ _ _ (39:))) (24:)) (@zad _ _ _ _ _ (@zaI _ _ _ _ _ _ _ _ (@PW.pt _ _ _ (@zdW _ _ _ _ _ _ _ (82:) (@zcU _ _ _ _ (82:)))) (@zae _ _ _ (@zak _ _ _ _ (39:))) (24:)) (@zae _ _ _ (@zak _ _ _ _ (@zck _ _ _ _ _ _ _ (@zai _ _ _ _ _ _ _ _ _ _ g_is_part (19:) (@zaa _ _ _ _ _ (8:) (@zaa _ _ _ _ _ (33:) (4:) (0:)) (0:)) (0:) (3:) (0:) (0:)) (@zdL _ _ _ _ _ (@zai _ _ _ _ _ _ _ _ _ _ g_is_part (19:) (@zaa _ _ _ _ _ (8:) (@zaa _ _ _ _ _ (33:) (4:) (0:)) (0:)) (0:) (3:) (0:) (0:)))))))), ?_⟩;symm;refine zf4 (fun z => ?_) (fun z => ?_)
  ·symm;refine no H (λ ⟨m1,m2,lo,x,up,y,F⟩=>z ?_) (Same.refl _);have e:=F.eq;simp only [PyData.tuple.injEq] at e;rw [<- hk.len,e];rfl
  have hl:xs.length=4:=by omega
  obtain ⟨v1,v2,v3,v4,rfl⟩:∃ v1 v2 v3 v4,xs=[v1,v2,v3,v4]:=by
   match xs,hl with
   | [a,b,c,d],_=>exact ⟨a,b,c,d,rfl⟩
  obtain ⟨d1,ds1,rfl,g1,hk1⟩:∃ d1 ds1,ds=d1 :: ds1 /\ Tv p H d1 v1 /\ Tvs p H ds1 [v2,v3,v4]:=by cases hk with | cons a b=>exact ⟨_,_,rfl,a,b⟩
  obtain ⟨d2,ds2,rfl,g2,hk2⟩:∃ d2 ds2,ds1=d2 :: ds2 /\ Tv p H d2 v2 /\ Tvs p H ds2 [v3,v4]:=by cases hk1 with | cons a b=>exact ⟨_,_,rfl,a,b⟩
  obtain ⟨d3,ds3,rfl,g3,hk3⟩:∃ d3 ds3,ds2=d3 :: ds3 /\ Tv p H d3 v3 /\ Tvs p H ds3 [v4]:=by cases hk2 with | cons a b=>exact ⟨_,_,rfl,a,b⟩
  obtain ⟨d4,ds4,rfl,g4,hk4⟩:∃ d4 ds4,ds3=d4 :: ds4 /\ Tv p H d4 v4 /\ Tvs p H ds4 []:=by cases hk3 with | cons a b=>exact ⟨_,_,rfl,a,b⟩
  obtain rfl:ds4=[]:=by cases hk4; rfl
  have hb3:Bx d3:=hb.parts.2.parts.2.parts.1;have hb4:Bx d4:=hb.parts.2.parts.2.parts.2.parts.1
  have wt:∀ (d:PyData) (v:V),Tv p H d v -> (zaB v 0 ((2 ^ h - 1:Nat):Int)=true ↔ ∃ m:Nat,d=.int m /\ m < 2 ^ h):=λ d v T=>by
   have hp2:=ybH h;cases T with
   | int i=>
    show (decide ((0:Int) <= i) && decide (i <= ((2 ^ h - 1:Nat):Int)))=true ↔ _;rw [yak,decide_eq_true_iff,decide_eq_true_iff];constructor
    ·exact λ z=>⟨i.toNat,by rw [ybk z.1],by omega⟩
    ·rintro ⟨m,e,hm⟩;cases e;omega
   | non=>exact ⟨λ z=>(47:),λ ⟨m,e,_⟩=>by cases e⟩
   | bl b=>exact ⟨λ z=>(47:),λ ⟨m,e,_⟩=>by cases e⟩
   | str s=>exact ⟨λ z=>(47:),λ ⟨m,e,_⟩=>by cases e⟩
   | lst _ _ _=>exact ⟨λ z=>(47:),λ ⟨m,e,_⟩=>by cases e⟩
   | tup _ _=>exact ⟨λ z=>(47:),λ ⟨m,e,_⟩=>by cases e⟩
  have w1:=wt d1 v1 g1;have w2:=wt d2 v2 g2;symm;refine ⟨h,rfl,by omega,?_⟩;symm;refine ⟨v1,0,_,rfl,g1.kd,?_⟩;cases c1:zaB v1 0 ((2 ^ h - 1:Nat):Int) with
  | false=>
   symm;refine no H (λ ⟨m1,m2,lo,x,up,y,F⟩=>?_) (Same.refl _);have e:=F.eq;simp only [PyData.tuple.injEq,List.cons.injEq] at e;rw [w1.mpr ⟨m1,e.1,F.b1⟩] at c1;cases c1
  | true=>
   symm;refine ⟨h,rfl,by omega,?_⟩;symm;refine ⟨v2,0,_,rfl,g2.kd,?_⟩;cases c2:zaB v2 0 ((2 ^ h - 1:Nat):Int) with
   | false=>
    symm;refine no H (λ ⟨m1,m2,lo,x,up,y,F⟩=>?_) (Same.refl _);have e:=F.eq;simp only [PyData.tuple.injEq,List.cons.injEq] at e;rw [w2.mpr ⟨m2,e.2.1,F.b2⟩] at c2;cases c2
   | true=>
    obtain ⟨m1,rfl,b1⟩:=w1.mp c1;obtain ⟨m2,rfl,b2⟩:=w2.mp c2;symm;refine ⟨p,h,v3,d3,rfl,g3,hb3,h1,h32,λ r H1 e1 s1=>?_⟩;have ht1:=s1 _ _ ht;symm;cases r with
    | false=>
     refine iteF ?_;refine no H1 (λ ⟨n1,n2,lo,x,up,y,F⟩=>?_) s1;have e:=F.eq;simp only [PyData.tuple.injEq,List.cons.injEq] at e;exact Bool.noConfusion (e1.mpr ⟨lo,x,e.2.2.1,F.e1,F.l1⟩)
    | true=>
     refine iteT ?_;symm;refine ⟨p,h,v4,d4,rfl,g4.same s1,hb4,h1,h32,λ r2 H2 e2 s2=>?_⟩;refine k r2 H2 ?_ (s1.trans s2);rw [e2];constructor
     ·rintro ⟨up,y,rfl,E2,L2⟩;obtain ⟨lo,x,rfl,E1,L1⟩:=e1.mp rfl;exact ⟨m1,m2,lo,x,up,y,rfl,b1,b2,E1,L1,E2,L2⟩
     ·rintro ⟨n1,n2,lo,x,up,y,F⟩;have e:=F.eq;simp only [PyData.tuple.injEq,List.cons.injEq] at e;exact ⟨up,y,e.2.2.2.1,F.e2,F.l2⟩
def zjo:FnScope ["one","other"] ["one","other"] (zag zg8):=⟨rfl,rfl,rfl,by decide +kernel,rfl,by decide +kernel,by decide +kernel⟩
def zlf {a:Addr} {fd:FuncData} (B:Blt K mg)  (F:Fun K "then" "then" zg8 a fd):FnOk P w K mg base CX0 1 a fd ["one","other"] zkL:=by
 refine F.ok zjo (λ vs H Q E h=>?_) (λ cdv A outer s H vs Q E hr h=>?_)
 ·obtain ⟨b,c,ls,ms,w,rfl,_⟩:=h;rfl
 ·have nd := zjo.nd;have hu := hr.units;obtain ⟨b, c, ls, ms, w, rfl, hb, hc, h1, h2, hw, k⟩ := h;refine ⟨_, (@zae _ _ _ (@zak _ _ _ _ (@zay _ _ _ _ _ _ _ _ _ (46:) rfl B.b_tuple boot_tuple (@zaa _ _ _ _ _ (@zbp _ _ _ _ _ _ (zag zg8) _ ["one", "other"] ["entry", "one"] [none, some 0] _ _ _ _ rfl (@zbw _ K _ _ _ (13:) (0:)) (fun _ _ _ _ => (@zaC _ _ 0 _ (show List.Nodup (["entry", "one"] : List Str) by decide +kernel) rfl (15:) (14:))) (fun _ _ _ _ => (@zbH _)) (fun _ _ _ _ => (@zbt _ _ _ _ _ _ _ _ (@zan _ _ _ _ _ _ _ _ (@zkX _) (8:) (5:) (16:)) (@zao _ _ _ _ _ _ _ (27:) (13:) (8:) (26:)) (8:))) (34:) (0:) (0:) (17:)) (4:) (0:)) (3:) (3:) (0:) (0:)))), ?_⟩;symm;refine zbV (SqT.of hc) ?_;refine zcC (xs := ms.map V.int) (fun i acc H' => H' = H /\ i <= 64 /\ acc = ((zaE ls ms).take i).map V.int) ⟨rfl, by omega, rfl⟩ (fun i acc H' h => ?_) (fun i acc H' h => by rw [h.1]; exact SqT.of hc) ?_ ?_
  ·obtain ⟨_,hi,rfl⟩:=h;rw [yaa,yaE];exact yay (small5 (1:))
  ·rintro i x acc H' hx ⟨rfl, hi, rfl⟩;obtain ⟨e, he, rfl⟩ := zcn hx;have hil : i < ms.length := (yaf.mp he).1;have q := h2.2 e (yaD he);have hi2 : i < w := by rw [<- h2.1]; exact hil
   have tk:∀ v:Int,v=(if 0 <= e then ls.getD e.toNat 0 else e) -> ((zaE ls ms).take i).map V.int ++ [V.int v]=((zaE ls ms).take (i + 1)).map V.int:=λ v hv=>by
    rw [yaT,zaE,yae,he,yau];simp [hv]
   symm;refine zdc (λ h0=>?_) (λ h0=>?_)
   ·have hl : e.toNat < ls.length := by rw [h1.1]; omega
    symm;refine zdN (SqT.of hb) h0 (by rw [yae,yab hl]; rfl) ?_;refine ⟨rfl,by omega,(tk _ ?_)⟩;rw [if_pos h0,yac,yab hl];rfl
   ·symm;exact ⟨rfl,by omega,tk _ (by rw [if_neg h0])⟩
  ·rintro acc H' ⟨rfl,_,rfl⟩ p hp;rw [yaa,yaq (by rw [zaE,yaa]; omega)];symm;refine ⟨p,_,rfl,.inl ⟨SqL.of zaf,λ t ht=>?_⟩⟩;exact k t _ ((zah hp).trans (zah ht)) zaf
def zfZ:FnScope ["word","place"] ["word","place"] (zag zff):=⟨rfl,rfl,rfl,by decide +kernel,rfl,by decide +kernel,by decide +kernel⟩
def ziH {a:Addr} {fd:FuncData} (B:Blt K mg)  (F:Fun K "bit_at" "bit_at" zff a fd):FnOk P w K mg base CX0 1 a fd ["word","place"] ziK:=by
 refine F.ok zfZ (λ vs H Q E h=>?_) (λ cdv A outer s H vs Q E hr h=>?_)
 ·obtain ⟨n,k,rfl,_⟩:=h;rfl
 ·have nd:=zfZ.nd;have hu:=hr.units;obtain ⟨n,k,rfl,q⟩:=h;refine ⟨_,(@zae _ _ _ (@zak _ _ _ _ (@zat _ _ _ _ _ _ _ _ (@zkC _) (@zat _ _ _ _ _ _ _ _ (@zkH _) (8:) (13:)) (5:)))),?_⟩;symm;rw [zfL];exact q
def zdR:FnScope ["mask"] ["mask"] (zag zb3):=⟨rfl,rfl,rfl,by decide +kernel,rfl,by decide +kernel,by decide +kernel⟩
def zf0 {a:Addr} {fd:FuncData} (B:Blt K mg) (g_bit_at:A21 P w K mg base) (F:Fun K "places_in" "places_in" zb3 a fd):FnOk P w K mg base CX0 2 a fd ["mask"] zhv:=by
 refine F.ok zdR (λ vs H Q E h=>?_) (λ cdv A outer s H vs Q E hr h=>?_)
 ·obtain ⟨n,rfl,_⟩:=h;rfl
 ·have nd := zdR.nd;have hu := hr.units;obtain ⟨n, rfl, hn, q⟩ := h;have hb64 : zcp n <= 64 := zfI hn;refine ⟨_, (@zae _ _ _ (@zak _ _ _ _ (@zbp _ _ _ _ _ _ (zag zb3) _ ["mask"] ["place", "mask"] [none, some 0] _ _ _ _ rfl (@za5 _ _ _ _ _ _ rfl B.b_range (@zaa _ _ _ _ _ (@znq _ K _ _ _ _ _ _ _ _ PySem.F.plainAttrs_int PySem.F.slot_int_bit_length PySem.F.type_int_bit_length (@zk8 _) (8:) (0:) (0:) (0:)) (4:) (0:)) (0:)) (fun _ _ _ _ => (@zaC _ _ 0 _ (show List.Nodup (["place", "mask"] : List Str) by decide +kernel) rfl (15:) (14:))) (fun _ _ _ _ => (@zgG _ _ _ (@zan _ _ _ _ _ _ _ _ (29:) (@zai _ _ _ _ _ _ _ _ _ _ g_bit_at (19:) (@zaa _ _ _ _ _ (13:) (@zaa _ _ _ _ _ (8:) (4:) (0:)) (0:)) (0:) (3:) (0:) (0:)) (5:) (16:)))) (fun _ _ _ _ => (8:)) (34:) (0:) (0:) (17:)))), ?_⟩;symm;refine zeK (n := zcp n) (by rw [zg4]) (1:) ?_;refine zbb (fun i acc H' => H' = H /\ i <= 64 /\ acc = ((List.range i).filter n.testBit).map nV) ⟨rfl, by omega, rfl⟩ (fun i acc H' h => ?_) ?_ ?_
  ·obtain ⟨_,hi,rfl⟩:=h;have:=ybm n.testBit (List.range i);rw [yas] at this;rw [yaa];exact yay (small5 (1:))
  ·rintro i acc H' hi ⟨rfl, hi64, rfl⟩;symm;refine ⟨n, i, rfl, ?_⟩;symm;refine za1 (fun h => ?_) (fun h => ?_)
   ·have hb:n.testBit i=true:=by
     cases e:n.testBit i
     ·rw [e] at h; cases h
     ·rfl
    symm;refine ⟨rfl,by omega,?_⟩;rw [ybe,ybb];simp [hb]
   ·have hb:n.testBit i=false:=by
     cases e:n.testBit i
     ·rfl
     ·rw [e] at h; exact absurd rfl h
    refine ⟨rfl,by omega,?_⟩;rw [ybe,ybb];simp [hb]
  ·rintro acc H' ⟨rfl,_,rfl⟩ p hp;exact q p _ hp (zah hp) zaf
def zbZ:FnScope ["width","mask","places"] ["width","mask"] (zag zbo):=⟨rfl,rfl,rfl,by decide +kernel,rfl,by decide +kernel,by decide +kernel⟩
def zdC {a:Addr} {fd:FuncData} (B:Blt K mg) (g_places_in:A22 P w K mg base) (F:Fun K "gather_leading" "gather_leading" zbo a fd):FnOk P w K mg base CX0 3 a fd ["width","mask"] zhx:=by
 refine F.ok zbZ (λ vs H Q E h=>?_) (λ cdv A outer s H vs Q E hr h=>?_)
 ·obtain ⟨w,m,rfl,_⟩:=h;rfl
 ·have nd:=zbZ.nd;have hu:=hr.units;obtain ⟨w,m,rfl,hm,hw,k⟩:=h;have hl:=zcA hm;refine ⟨_,(@zad _ _ _ _ _ (@zav _ _ 2 _ _ _ _ nd rfl (15:) (@zai _ _ _ _ _ _ _ _ _ _ g_places_in (19:) (@zaa _ _ _ _ _ (13:) (4:) (0:)) (0:) (3:) (0:) (0:)) (0:) (14:)) (@zae _ _ _ (@zak _ _ _ _ (@zay _ _ _ _ _ _ _ _ _ (46:) rfl B.b_tuple boot_tuple (@zaa _ _ _ _ _ (@zat _ _ _ _ _ _ _ _ (44:) (18:) (@zat _ _ _ _ _ _ _ _ (63:) (@za4 _ _ _ _ (@zaa _ _ _ _ _ (76:) (4:) (0:))) (@zat _ _ _ _ _ _ _ _ (@zcv _) (8:) (@zaj _ _ _ _ _ _ _ _ _ (@zbk _ K (0:)) rfl B.b_len boot_len (@zaa _ _ _ _ _ (18:) (4:) (0:)) (3:) (3:) (0:) (0:))))) (4:) (0:)) (3:) (3:) (0:) (0:))))),?_⟩;symm;refine ⟨m,rfl,lt64 hm hw,λ q H1 fq s1 n1=>?_⟩;symm;refine zbs (6:) λ a H2 f2 s2 n2=>?_;have n1':=s2 _ _ n1;symm;rw [yaa];refine ziI (n:=w - (zal m).length) n2 (1:) (1:) λ r H3 f3 s3 n3=>?_;have n1'':=s3 _ _ n1';refine zjB n1'' n3 (by rw [yaa,ybP]; omega) λ c H4 f4 s4 n4=>?_;symm;refine zgD n4 λ t H5 f5 s5 n5=>?_;exact k t H5 (s1.trans (s2.trans (s3.trans (s4.trans s5)))) (by rw [n5,zhU hm])
def zce:FnScope ["width","mask","entries","place","to"] ["width","mask"] (zag zbI):=⟨rfl,rfl,rfl,by decide +kernel,rfl,by decide +kernel,by decide +kernel⟩
def zdU {a:Addr} {fd:FuncData} (B:Blt K mg) (g_places_in:A22 P w K mg base) (F:Fun K "strew_leading" "strew_leading" zbI a fd):FnOk P w K mg base CX0 3 a fd ["width","mask"] zf3:=by
 refine F.ok zce (λ vs H Q E h=>?_) (λ cdv A outer s H vs Q E hr h=>?_)
 ·obtain ⟨w,m,rfl,_⟩:=h;rfl
 ·have nd := zce.nd;have hu := hr.units;obtain ⟨w, m, rfl, hm, hw, k⟩ := h;have hl := zcA hm;refine ⟨_, (@zad _ _ _ _ _ (@zav _ _ 2 _ _ _ _ nd rfl (15:) (@zat _ _ _ _ _ _ _ _ (63:) (@za4 _ _ _ _ (@zaa _ _ _ _ _ (76:) (4:) (0:))) (8:)) (0:) (14:)) (@zad _ _ _ _ _ (@zeX _ _ _ _ _ _ _ _ ya8 rfl (@zgr _ K _ _ _ _ _ _ _ B.b_enumerate (@zaa _ _ _ _ _ (@zai _ _ _ _ _ _ _ _ _ _ g_places_in (19:) (@zaa _ _ _ _ _ (13:) (4:) (0:)) (0:) (3:) (0:) (0:)) (4:) (0:)) (0:) (0:) (0:)) (@zfj _ K _ _ _ _ 2 rfl (@zbh _ _ _ _ _ (@zaC _ _ 3 _ nd rfl (15:) (14:)) (@zbh _ _ _ _ _ (71:) (@zfb _) (0:)) (0:)) (0:) (0:) (0:)) (@zae _ _ _ (@zcd _ _ _ _ _ _ (21:) (@zch _ _ _ _ _ _ _ (18:) (28:) (@zaW _) (17:)) (0:) (0:) (0:))) (17:)) (@zae _ _ _ (@zak _ _ _ _ (@zay _ _ _ _ _ _ _ _ _ (46:) rfl B.b_tuple boot_tuple (@zaa _ _ _ _ _ (18:) (4:) (0:)) (3:) (3:) (0:) (0:)))))), ?_⟩;symm;refine zbs (6:) fun a H2 f2 s2 n2 => ?_;symm;refine ziI (n := w) n2 rfl (1:) fun r H3 f3 s3 n3 => ?_;have s3 := s2.trans s3;have fr := s2.free f3;symm;refine ⟨m, rfl, lt64 hm hw, fun q H4 fq s4 n4 => ?_⟩
  have n3':H4 r=some (.lst ((zbO w m 0).map V.int)):=by
   rw [zgO,List.map_replicate];exact s4 _ _ n3
  have s4:=s3.trans s4;have nqr:q ≠ r:=λ e=>by rw [e] at fq; rw [n3] at fq; cases fq
  symm;refine ⟨q,_,rfl,.inl ⟨SqL.of n4,?_⟩⟩;refine zi9 (λ i σ H'=>Same H H' /\ i <= 64 /\ H' q=some (.lst ((zal m).map nV)) /\ H' r=some (.lst ((zbO w m i).map V.int)) /\ ∃ v3 v4,σ=[some (nV w),some (nV m),some (.ref r),v3,v4]) ⟨s4,by omega,n4,n3',_,_,rfl⟩ (λ i σ H' h=>SqL.of h.2.2.1) ?_ ?_
  ·rintro i u T σ H' hu hT ⟨s5,hi,nq,nr,v3,v4,rfl⟩;obtain ⟨y,hy,rfl⟩:=zcn hu;have hil:i < (zal m).length:=(yaf.mp hy).1;have hyw:y < w:=zen hm (yaD hy);have s6:=zah (o:=.tup [V.int (i:Int),nV y]) hT;have nT:upd H' T (.tup [V.int (i:Int),nV y]) T=some (.tup [V.int (i:Int),nV y]):=zaf;generalize upd H' T (.tup [V.int (i:Int),nV y])=H6 at s6 nT ⊢;have nq6:=s6 _ _ nq;have nr6:=s6 _ _ nr;symm;refine zeS nr6 (by rw [yaa,zib]; exact hyw) ?_;refine ⟨(s5.trans s6).upd' fr,by omega,by rw [zas nqr]; exact nq6,?_,_,_,rfl⟩;rw [zaf,<- zgY hm hy,ybR]
  ·rintro σ H' ⟨s5,_,nq,nr,v3,v4,rfl⟩;rw [yaa,zhL] at nr;symm;refine zgD nr λ t H7 f7 s7 n7=>?_;exact k t H7 (s5.trans s7) n7
def zbK:FnScope ["width","place"] ["width","place"] (zag zbg):=⟨rfl,rfl,rfl,by decide +kernel,rfl,by decide +kernel,by decide +kernel⟩
def zdk {a:Addr} {fd:FuncData} (B:Blt K mg) (g_is_within:A16 P w K mg base) (F:Fun K "place_or_nought" "place_or_nought" zbg a fd):FnOk P w K mg base CX0 2 a fd ["width","place"] zm4:=by
 refine F.ok zbK (λ vs H Q E h=>?_) (λ cdv A outer s H vs Q E hr h=>?_)
 ·obtain ⟨w,z,rfl,_⟩:=h;rfl
 ·have nd := zbK.nd;have hu := hr.units;obtain ⟨w, z, rfl, q⟩ := h;refine ⟨_, (@zae _ _ _ (@zak _ _ _ _ (@zbt _ _ _ _ _ _ _ _ (@zaO _ _ _ (@zai _ _ _ _ _ _ _ _ _ _ g_is_within (19:) (@zaa _ _ _ _ _ (13:) (@zaa _ _ _ _ _ (5:) (@zaa _ _ _ _ _ (@zat _ _ _ _ _ _ _ _ (@zcv _) (8:) (5:)) (4:) (0:)) (0:)) (0:)) (0:) (3:) (0:) (0:)) (17:)) (13:) (76:)))), ?_⟩;symm;refine ⟨.int z, 0, (w : Int) - 1, rfl, .inl (.int z), ?_⟩;symm;refine ite2 (fun h => ?_) (fun h => ?_)
  ·symm;change (decide ((0:Int) <= z) && decide (z <= (w:Int) - 1))=true at h;rw [yak,decide_eq_true_iff,decide_eq_true_iff] at h;rw [pon,if_pos h] at q;exact q
  ·symm;change ¬ (decide ((0:Int) <= z) && decide (z <= (w:Int) - 1))=true at h;rw [yak,decide_eq_true_iff,decide_eq_true_iff] at h;rw [pon,if_neg h] at q;exact q
def zcP:FnScope ["mask","by","place","source"] ["mask","by","place"] (zag zb7):=⟨rfl,rfl,rfl,by decide +kernel,rfl,by decide +kernel,by decide +kernel⟩
def zez {a:Addr} {fd:FuncData} (B:Blt K mg) (g_bit_at:A21 P w K mg base) (F:Fun K "copy_source" "copy_source" zb7 a fd):FnOk P w K mg base CX0 2 a fd ["mask","by","place"] zfP:=by
 refine F.ok zcP (λ vs H Q E h=>?_) (λ cdv A outer s H vs Q E hr h=>?_)
 ·obtain ⟨m,n,p,rfl,_⟩:=h;rfl
 ·have nd := zcP.nd;have hu := hr.units;obtain ⟨m, n, p, rfl, q⟩ := h;refine ⟨_, (@zad _ _ _ _ _ (@zav _ _ 3 _ _ _ _ nd rfl (15:) (@zat _ _ _ _ _ _ _ _ (@zcv _) (18:) (13:)) (0:) (14:)) (@zae _ _ _ (@zak _ _ _ _ (@zbt _ _ _ _ _ _ _ _ (@PW.pt _ _ _ (@zg7 _ _ _ _ _ _ _ (@zan _ _ _ _ _ _ _ _ (@zkX _) (21:) (5:) (16:)) (@zfp _ _ _ _ (@zan _ _ _ _ _ _ _ _ (29:) (@zai _ _ _ _ _ _ _ _ _ _ g_bit_at (19:) (@zaa _ _ _ _ _ (8:) (@zaa _ _ _ _ _ (21:) (4:) (0:)) (0:)) (0:) (3:) (0:) (0:)) (5:) (16:))))) (21:) (18:))))), ?_⟩;symm;refine zdc (fun h => ?_) (fun h => ?_)
  ·obtain ⟨y, ey⟩ : ∃ y : Nat, (p : Int) - n = (y : Int) := ⟨((p : Int) - n).toNat, by omega⟩
   rw [ey] at q ⊢;rw [zi3] at q;symm;refine ⟨m,y,rfl,?_⟩;symm;refine za1 (λ h2=>?_) (λ h2=>?_)
   ·symm
    have:m.testBit y=true:=by
     cases e:m.testBit y
     ·rw [e] at h2; cases h2
     ·rfl
    rw [if_pos this] at q;exact q
   ·symm;have:¬ m.testBit y=true:=λ e=>h2 (by rw [e]; rfl);rw [if_neg this] at q;exact q
  ·symm;rw [if_neg (by unfold inM; rw [decide_eq_false (1:)]; exact yar)] at q;exact q
def zdP:FnScope ["width","deed","place","name"] ["width","deed","place"] (zag zcW):=⟨rfl,rfl,rfl,by decide +kernel,rfl,by decide +kernel,by decide +kernel⟩
def zgn {a:Addr} {fd:FuncData} (B:Blt K mg) (g_bit_at:A21 P w K mg base) (g_place_or_nought:A25 P w K mg base) (g_copy_source:A26 P w K mg base) (F:Fun K "source_of" "source_of" zcW a fd):FnOk P w K mg base CX0 3 a fd ["width","deed","place"] zhf:=by
 refine F.ok zdP (λ vs H Q E h=>?_) (λ cdv A outer s H vs Q E hr h=>?_)
 ·obtain ⟨w,p,b,d,rfl,_⟩:=h;rfl
 ·have nd := zdP.nd;have hu := hr.units;obtain ⟨w, p, b, d, rfl, hb, hd, hf, hp, hw, q⟩ := h;refine ⟨_, (@zad _ _ _ _ _ (@zav _ _ 3 _ _ _ _ nd rfl (15:) (33:) (0:) (14:)) (@zad _ _ _ _ _ (@zaI _ _ _ _ _ _ _ _ (@zan _ _ _ _ _ _ _ _ (29:) (21:) (67:) (16:)) (@zae _ _ _ (@zak _ _ _ _ (@zbt _ _ _ _ _ _ _ _ (@zan _ _ _ _ _ _ _ _ (29:) (@zai _ _ _ _ _ _ _ _ _ _ g_bit_at (19:) (@zaa _ _ _ _ _ (33:) (@zaa _ _ _ _ _ (18:) (4:) (0:)) (0:)) (0:) (3:) (0:) (0:)) (5:) (16:)) (18:) (76:)))) (24:)) (@zad _ _ _ _ _ (@zaI _ _ _ _ _ _ _ _ (@zan _ _ _ _ _ _ _ _ (29:) (21:) (67:) (16:)) (@zae _ _ _ (@zak _ _ _ _ (@zbt _ _ _ _ _ _ _ _ (@zan _ _ _ _ _ _ _ _ (29:) (@zai _ _ _ _ _ _ _ _ _ _ g_bit_at (19:) (@zaa _ _ _ _ _ (33:) (@zaa _ _ _ _ _ (18:) (4:) (0:)) (0:)) (0:) (3:) (0:) (0:)) (5:) (16:)) (@zb6 _ _ _ _ B.g_ONE (0:) (3:)) (18:)))) (24:)) (@zad _ _ _ _ _ (@zaI _ _ _ _ _ _ _ _ (@zan _ _ _ _ _ _ _ _ (29:) (21:) (67:) (16:)) (@zae _ _ _ (@zak _ _ _ _ (@zai _ _ _ _ _ _ _ _ _ _ g_place_or_nought (19:) (@zaa _ _ _ _ _ (8:) (@zaa _ _ _ _ _ (@zat _ _ _ _ _ _ _ _ (@zcv _) (18:) (33:)) (4:) (0:)) (0:)) (0:) (3:) (0:) (0:)))) (24:)) (@zad _ _ _ _ _ (@zaI _ _ _ _ _ _ _ _ (@zan _ _ _ _ _ _ _ _ (29:) (21:) (67:) (16:)) (@zae _ _ _ (@zak _ _ _ _ (@zai _ _ _ _ _ _ _ _ _ _ g_place_or_nought (19:) (@zaa _ _ _ _ _ (8:) (@zaa _ _ _ _ _ (@zat _ _ _ _ _ _ _ _ (44:) (18:) (33:)) (4:) (0:)) (0:)) (0:) (3:) (0:) (0:)))) (24:)) (@zad _ _ _ _ _ (@zaI _ _ _ _ _ _ _ _ (@zan _ _ _ _ _ _ _ _ (29:) (21:) (67:) (16:)) (@zae _ _ _ (@zak _ _ _ _ (@zat _ _ _ _ _ _ _ _ (@zcN _) (@zat _ _ _ _ _ _ _ _ (@zcv _) (18:) (33:)) (8:)))) (24:)) (@zad _ _ _ _ _ (@zaI _ _ _ _ _ _ _ _ (@PW.pt _ _ _ (@zg7 _ _ _ _ _ _ _ (@zan _ _ _ _ _ _ _ _ (29:) (21:) (67:) (16:)) (@zfp _ _ _ _ (@zan _ _ _ _ _ _ _ _ (29:) (@zai _ _ _ _ _ _ _ _ _ _ g_bit_at (19:) (@zaa _ _ _ _ _ (33:) (@zaa _ _ _ _ _ (18:) (4:) (0:)) (0:)) (0:) (3:) (0:) (0:)) (5:) (16:))))) (@zae _ _ _ (@zak _ _ _ _ (@zat _ _ _ _ _ _ _ _ (44:) (18:) (33:)))) (24:)) (@zae _ _ _ (@zak _ _ _ _ (@zai _ _ _ _ _ _ _ _ _ _ g_copy_source (19:) (@zaa _ _ _ _ _ (33:) (@zaa _ _ _ _ _ (33:) (@zaa _ _ _ _ _ (18:) (4:) (0:)) (0:)) (0:)) (0:) (3:) (0:) (0:))))))))))), ?_⟩;cases d with
  | and m=>
   symm;refine ⟨m,p,rfl,?_⟩;symm;refine za1 (λ h2=>?_) (λ h2=>?_)
   ·symm
    have:m.testBit p=true:=by
     cases e:m.testBit p
     ·rw [e] at h2; cases h2
     ·rfl
    simp only [Dd.src] at q;rw [if_pos this] at q;exact q
   ·symm;have:¬ m.testBit p=true:=λ e=>h2 (by rw [e]; rfl);simp only [Dd.src] at q;rw [if_neg this] at q;exact q
  | or m=>
   symm;refine ⟨m,p,rfl,?_⟩;symm;refine za1 (λ h2=>?_) (λ h2=>?_)
   ·symm
    have:m.testBit p=true:=by
     cases e:m.testBit p
     ·rw [e] at h2; cases h2
     ·rfl
    simp only [Dd.src] at q;rw [if_pos this] at q;exact q
   ·symm;have:¬ m.testBit p=true:=λ e=>h2 (by rw [e]; rfl);simp only [Dd.src] at q;rw [if_neg this] at q;exact q
  | left n=>
   symm;refine ⟨w,(p:Int) - n,rfl,?_⟩
   have e:pon w ((p:Int) - n)=(Dd.left n).src w p:=by
    simp only [Dd.src,pon];by_cases h:n <= p
    ·rw [if_pos h,if_pos ⟨by omega,by omega⟩]
    ·rw [if_neg h,if_neg (1:)]
   rw [e];exact q
  | right n=>
   symm;refine ⟨w,(p:Int) + n,rfl,?_⟩
   have e:pon w ((p:Int) + n)=(Dd.right n).src w p:=by
    simp only [Dd.src,pon];by_cases h:p + n < w
    ·rw [if_pos h,if_pos ⟨by omega,by omega⟩]
    ·rw [if_neg h,if_neg (1:)]
   rw [e];exact q
  | turn n=>
   have hn:n < w:=hd;symm
   have e:((p:Int) - n) % (w:Int)=(Dd.turn n).src w p:=by
    simp only [Dd.src];by_cases h:n <= p
    ·rw [if_pos h];exact Int.emod_eq_of_lt (1:) (1:)
    ·rw [if_neg h,<- Int.add_emod_right];exact Int.emod_eq_of_lt (1:) (1:)
   rw [e];exact q
  | gather m=>cases hf
  | strew m=>cases hf
  | swap m n=>
   have e0:(Dd.swap m n).src w p=(if inM m ((p:Int) - n) then (p:Int) - n else if m.testBit p then (p:Int) + n else p):=rfl;rw [e0] at q;symm;refine ⟨m,p,rfl,?_⟩;symm;refine za1 (λ h2=>?_) (λ h2=>?_)
   ·symm
    have h3:m.testBit p=true:=by
     cases e:m.testBit p
     ·rw [e] at h2; cases h2
     ·rfl
    have h4:¬ inM m ((p:Int) - n)=true:=λ z=>by
     simp only [inM,yak,decide_eq_true_iff] at z;have:=(hd.2.2 _ z.2).2;rw [show ((p:Int) - n).toNat + n=p by omega,h3] at this;cases this
    rw [if_neg h4,if_pos h3] at q;exact q
   ·symm;have h3:¬ m.testBit p=true:=λ e=>h2 (by rw [e]; rfl);rw [if_neg h3] at q;exact ⟨m,n,p,rfl,q⟩
  | copy m n=>
   symm;exact ⟨m,n,p,rfl,q⟩
def zcr:FnScope ["width","deed"] ["width","deed"] (zag zbj):=⟨rfl,rfl,rfl,by decide +kernel,rfl,by decide +kernel,by decide +kernel⟩
def zd6 {a:Addr} {fd:FuncData} (B:Blt K mg) (g_gather_leading:A23 P w K mg base) (g_strew_leading:A24 P w K mg base) (g_source_of:A27 P w K mg base) (F:Fun K "deed_leading" "deed_leading" zbj a fd):FnOk P w K mg base CX0 4 a fd ["width","deed"] zhq:=by
 refine F.ok zcr (λ vs H Q E h=>?_) (λ cdv A outer s H vs Q E hr h=>?_)
 ·obtain ⟨w,b,d,rfl,_⟩:=h;rfl
 ·have nd := zcr.nd;have hu := hr.units;obtain ⟨w, b, d, rfl, hb, hd, hw, k⟩ := h
  have tk:∀ i,i < w -> ((d.led w).take i).map V.int ++ [V.int (d.src w i)]=((d.led w).take (i + 1)).map V.int:=λ i hi=>by
   rw [yaT,Dd.led,yae,yav hi,yau];rfl
  refine ⟨_,(@zad _ _ _ _ _ (@zaI _ _ _ _ _ _ _ _ (@zan _ _ _ _ _ _ _ _ (29:) (33:) (67:) (16:)) (@zae _ _ _ (@zak _ _ _ _ (@zai _ _ _ _ _ _ _ _ _ _ g_gather_leading (19:) (@zaa _ _ _ _ _ (8:) (@zaa _ _ _ _ _ (33:) (4:) (0:)) (0:)) (0:) (3:) (0:) (0:)))) (24:)) (@zad _ _ _ _ _ (@zaI _ _ _ _ _ _ _ _ (@zan _ _ _ _ _ _ _ _ (29:) (33:) (67:) (16:)) (@zae _ _ _ (@zak _ _ _ _ (@zai _ _ _ _ _ _ _ _ _ _ g_strew_leading (19:) (@zaa _ _ _ _ _ (8:) (@zaa _ _ _ _ _ (33:) (4:) (0:)) (0:)) (0:) (3:) (0:) (0:)))) (24:)) (@zae _ _ _ (@zak _ _ _ _ (@zay _ _ _ _ _ _ _ _ _ (46:) rfl B.b_tuple boot_tuple (@zaa _ _ _ _ _ (@zbp _ _ _ _ _ _ (zag zbj) _ ["width","deed"] ["place","width","deed"] [none,some 0,some 1] _ _ _ _ rfl (@za5 _ _ _ _ _ _ rfl B.b_range (@zaa _ _ _ _ _ (8:) (4:) (0:)) (0:)) (λ _ _ _ _=>(@zaC _ _ 0 _ (show List.Nodup (["place","width","deed"]:List Str) by decide +kernel) rfl (15:) (14:))) (λ _ _ _ _=>(@zbH _)) (λ _ _ _ _=>(@zai _ _ _ _ _ _ _ _ _ _ g_source_of (19:) (@zaa _ _ _ _ _ (13:) (@zaa _ _ _ _ _ (18:) (@zaa _ _ _ _ _ (8:) (4:) (0:)) (0:)) (0:)) (0:) (3:) (0:) (0:))) (34:) (0:) (0:) (17:)) (4:) (0:)) (3:) (3:) (0:) (0:)))))),?_⟩;cases hf:d.flat with
  | false=>
   cases d with
   | gather m=>symm; exact ⟨w,m,rfl,hd,hw,k⟩
   | strew m=>symm; exact ⟨w,m,rfl,hd,hw,k⟩
   | _=>cases hf
  | true=>
   have nm:∃ s xs,d.vals=.str s :: xs /\ (shpd (.str s)=true) /\ (s == "gather")=false /\ (s == "strew")=false:=by
    cases d with
    | gather m=>cases hf
    | strew m=>cases hf
    | _=>exact ⟨_,_,rfl,by decide +kernel,by decide +kernel,by decide +kernel⟩
   obtain ⟨sn,xs,ev,hs0,hs1,hs2⟩:=nm;have hb':=hb;rw [ev] at hb';symm;refine zg9 hs0 (34:) ?_;rw [hs1];symm;refine zg9 hs0 (34:) ?_;rw [hs2];symm;refine zeK (n:=w) rfl (1:) ?_;refine zbb (λ i acc H'=>H'=H /\ i <= 64 /\ acc=(((d.led w).take i).map V.int)) ⟨rfl,by omega,rfl⟩ (λ i acc H' h=>?_) ?_ ?_
   ·obtain ⟨_,hi,rfl⟩:=h;rw [yaa,yaE];exact yay (small5 (1:))
   ·rintro i acc H' hi ⟨rfl,hi2,rfl⟩;symm;refine ⟨w,i,b,d,rfl,hb,hd,hf,hi,hw,?_⟩;exact ⟨rfl,by omega,tk i hi⟩
   ·rintro acc H' ⟨rfl,_,rfl⟩ q hq;rw [yaq (by simp [Dd.led])];symm;refine zgD zaf λ t H5 f5 s5 n5=>?_;exact k t H5 ((zah hq).trans s5) n5
def zeh:FnScope ["half","mask"] ["half","mask"] (zag zdD):=⟨rfl,rfl,rfl,by decide +kernel,rfl,by decide +kernel,by decide +kernel⟩
def zgN {a:Addr} {fd:FuncData} (B:Blt K mg) (g_deed_leading:A28 P w K mg base) (F:Fun K "exchange" "exchange" zdD a fd):FnOk P w K mg base CX0 5 a fd ["half","mask"] zjz:=by
 refine F.ok zeh (λ vs H Q E h=>?_) (λ cdv A outer s H vs Q E hr h=>?_)
 ·obtain ⟨h,m,rfl,_⟩:=h;rfl
 ·have nd:=zeh.nd;have hu:=hr.units;obtain ⟨h,m,rfl,h1,h32,hm,k⟩:=h;refine ⟨_,(@zae _ _ _ (@zak _ _ _ _ (@zai _ _ _ _ _ _ _ _ _ _ g_deed_leading (19:) (@zaa _ _ _ _ _ (@zat _ _ _ _ _ _ _ _ (63:) (5:) (8:)) (@zaa _ _ _ _ _ (@zaw _ _ _ _ _ (@zi0 _ _ _ _ _ _ (@zaa _ _ _ _ _ (13:) (@zaa _ _ _ _ _ (8:) (4:) (0:)) (0:)))) (4:) (0:)) (0:)) (0:) (3:) (0:) (0:)))),?_⟩;symm;refine zau (6:) λ t H1 f1 s1 n1=>?_;symm;rw [show (2:Int) * (h:Int)=((2 * h:Nat):Int) by omega];refine ⟨2 * h,t,.swap m h,rfl,n1,zc0 h1 hm,by omega,λ r H2 s2 n2=>?_⟩;exact k r H2 (s1.trans s2) n2
def zfx:FnScope ["half","paper","between"] ["half","paper"] (zag zd3):=⟨rfl,rfl,rfl,by decide +kernel,rfl,by decide +kernel,by decide +kernel⟩
def zit {a:Addr} {fd:FuncData} (B:Blt K mg) (g_then:A20 P w K mg base) (g_exchange:A29 P w K mg base) (F:Fun K "joined" "joined" zd3 a fd):FnOk P w K mg base CX0 6 a fd ["half","paper"] zfY:=by
 refine F.ok zfx (λ vs H Q E h=>?_) (λ cdv A outer s H vs Q E hr h=>?_)
 ·obtain ⟨p,h,t,m1,m2,lo,x,up,y,rfl,_⟩:=h;rfl
 ·have nd := zfx.nd;have hu := hr.units;obtain ⟨p0, h, t, m1, m2, lo, x0, up, y0, rfl, ⟨x, y, a, b, v1, v2, ht, hx, ha, hy, hb, _, _⟩, b1, b2, e1, l1, e2, l2, h1, h32, k⟩ := h;refine ⟨_, (@zad _ _ _ _ _ (@zav _ _ 2 _ _ _ _ nd rfl (15:) (@zat _ _ _ _ _ _ _ _ (65:) (@zao _ _ _ _ _ _ _ (27:) (33:) (5:) (26:)) (@zay _ _ _ _ _ _ _ _ _ (46:) rfl B.b_tuple boot_tuple (@zaa _ _ _ _ _ (@zbp _ _ _ _ _ _ (zag zd3) _ ["half", "paper", "between"] ["entry", "half"] [none, some 0] _ _ _ _ rfl (79:) (fun _ _ _ _ => (@zaC _ _ 0 _ (show List.Nodup (["entry", "half"] : List Str) by decide +kernel) rfl (15:) (14:))) (fun _ _ _ _ => (@zbH _)) (fun _ _ _ _ => (@zat _ _ _ _ _ _ _ _ (65:) (8:) (13:))) (34:) (0:) (0:) (17:)) (4:) (0:)) (3:) (3:) (0:) (0:))) (0:) (14:)) (@zae _ _ _ (@zak _ _ _ _ (@zai _ _ _ _ _ _ _ _ _ _ g_then (19:) (@zaa _ _ _ _ _ (@zai _ _ _ _ _ _ _ _ _ _ g_then (19:) (@zaa _ _ _ _ _ (@zai _ _ _ _ _ _ _ _ _ _ g_exchange (19:) (@zaa _ _ _ _ _ (8:) (@zaa _ _ _ _ _ (33:) (4:) (0:)) (0:)) (0:) (3:) (0:) (0:)) (@zaa _ _ _ _ _ (18:) (4:) (0:)) (0:)) (0:) (3:) (0:) (0:)) (@zaa _ _ _ _ _ (@zai _ _ _ _ _ _ _ _ _ _ g_exchange (19:) (@zaa _ _ _ _ _ (8:) (@zaa _ _ _ _ _ (33:) (4:) (0:)) (0:)) (0:) (3:) (0:) (0:)) (4:) (0:)) (0:)) (0:) (3:) (0:) (0:))))), ?_⟩;symm;refine zbV (SqT.of hb) ?_;refine zcC (xs := up.map V.int) (fun i acc H' => H' = H /\ i <= 64 /\ acc = ((zax h up).take i).map V.int) ⟨rfl, by omega, rfl⟩ (fun i acc H' h => ?_) (fun i acc H' h => by rw [h.1]; exact SqT.of hb) ?_ ?_
  ·obtain ⟨_,hi,rfl⟩:=h;rw [yaa,yaE];exact yay (small5 (1:))
  ·rintro i z acc H' hz ⟨rfl,hi,rfl⟩;obtain ⟨e,he,rfl⟩:=zcn hz;have hil:i < up.length:=(yaf.mp he).1;have e0:=zbU e2 (yaD he);symm;refine ⟨rfl,by omega,?_⟩;rw [yaT,zax,yae,he,yau];simp [e0.1]
  ·rintro acc H' ⟨rfl, _, rfl⟩ u hu;rw [yaq (by rw [yaa, zax, yaa]; omega)];have s2 := zah (o := .lst ((zax h up).map V.int)) hu;have n2 : upd H' u (.lst ((zax h up).map V.int)) u = some (.lst ((zax h up).map V.int)) := zaf;generalize upd H' u (.lst ((zax h up).map V.int)) = H2 at s2 n2 ⊢;symm;refine ⟨u, _, rfl, .inl ⟨SqL.of n2, fun v hv => ?_⟩⟩;have s3 := s2.trans (zah (o := .tup ((zax h up).map V.int)) hv);have n3 : upd H2 v (.tup ((zax h up).map V.int)) v = some (.tup ((zax h up).map V.int)) := zaf;generalize upd H2 v (.tup ((zax h up).map V.int)) = H3 at s3 n3 ⊢;have hll : (zax h up).length = h := by rw [zax, yaa, l2]
   refine zf9 (s3 _ _ ha) n3 (by rw [yaa,yaa]; omega) λ r H4 s4 n4=>?_;rw [<- yau] at n4;have ht4:=s4 _ _ (s3 _ _ ht);symm;refine ⟨h,m1,rfl,h1,h32,b1,λ r1 H5 s5 n5=>?_⟩;symm;refine ⟨r1,r,_,_,2 * h,rfl,n5,s5 _ _ n4,Dd.led_ld (zc0 h1 b1),zio e1 l1 e2 l2,by omega,λ r2 H6 s6 n6=>?_⟩;have ht6:=s6 _ _ (s5 _ _ ht4);symm;refine ⟨h,m2,rfl,h1,h32,b2,λ r3 H7 s7 n7=>?_⟩;symm;refine ⟨r2,r3,_,_,2 * h,rfl,s7 _ _ n6,n7,zld (Dd.led_ld (zc0 h1 b1)) (zio e1 l1 e2 l2),Dd.led_ld (zc0 h1 b2),by omega,λ r4 H8 s8 n8=>?_⟩;exact k r4 H8 (s3.trans (s4.trans (s5.trans (s6.trans (s7.trans s8))))) n8
def zdd:FnScope ["part"] ["part"] (zag zcw):=⟨rfl,rfl,rfl,by decide +kernel,rfl,by decide +kernel,by decide +kernel⟩
def zaM {a:Addr} {fd:FuncData} (B:Blt K mg) {j:Nat}  (g_shows_halves:FnAt P w K mg base "shows_halves" ["leading","paper"] (2 * j + 6) (zaS j)) (F:Fun K "shows_part" "shows_part" zcw a fd):FnOk P w K mg base CX0 (2 * j + 6 + 1) a fd ["part"] (za9 (j + 1)):=by
 refine F.ok zdd (λ vs H Q E h=>?_) (λ cdv A outer s H vs Q E hr h=>?_)
 ·obtain ⟨p,x,a,v,d,ls,k,rfl,_⟩:=h;rfl
 ·have nd := zdd.nd;have hu := hr.units;obtain ⟨p, x, a, v, d, ls, k, rfl, hx, ha, hl, hv, hb, hk, hk6, kk⟩ := h;obtain ⟨i, rfl⟩ : ∃ i, j = i + 1 := ⟨j - 1, by omega⟩
  refine ⟨_,(@zae _ _ _ (@zak _ _ _ _ (@zai _ _ _ _ _ _ _ _ _ _ g_shows_halves (32:) (@zaa _ _ _ _ _ (45:) (@zaa _ _ _ _ _ (45:) (4:) (0:)) (0:)) (0:) (3:) (0:) (0:)))),?_⟩;symm;exact ⟨p,a,v,d,ls,k,rfl,ha,hl,hv,hb,by omega,hk6,kk⟩
def zcq:FnScope ["leading","paper","half"] ["leading","paper"] (zag zbP):=⟨rfl,rfl,rfl,by decide +kernel,rfl,by decide +kernel,by decide +kernel⟩
def zaF {a:Addr} {fd:FuncData} (B:Blt K mg) {j:Nat} (g_has_form:A19 P w K mg base) (g_joined:A30 P w K mg base) (g_shows_part:FnAt P w K mg base "shows_part" ["part"] (2 * j + 7) (za9 (j + 1))) (F:Fun K "shows_halves" "shows_halves" zbP a fd):FnOk P w K mg base CX0 (2 * j + 7 + 1) a fd ["leading","paper"] (zaS (j + 1)):=by
 refine F.ok zcq (λ vs H Q E h=>?_) (λ cdv A outer s H vs Q E hr h=>?_)
 ·obtain ⟨p,a,v,d,ls,k,rfl,_⟩:=h;rfl
 ·have nd := zcq.nd;have hu := hr.units;obtain ⟨p, a, v, d, ls, k, rfl, ha, hl, hv, hb, hk, hk6, kk⟩ := h;have h64 := zcD hk6;have no : ∀ H', (¬ OkD k ls d) -> Same H H' -> Q (.bl false) H' := fun H' n s => kk false H' ⟨fun z => (47:), fun z => absurd z n⟩ s;refine ⟨_, (@zad _ _ _ _ _ (@zaI _ _ _ _ _ _ _ _ (@za2 _ _ _ _ (@zaO _ _ _ (72:) (17:))) (@zae _ _ _ (@zak _ _ _ _ (39:))) (24:)) (@zad _ _ _ _ _ (@zav _ _ 2 _ _ _ _ nd rfl (15:) (@zat _ _ _ _ _ _ _ _ (@zbi _) (53:) (5:)) (0:) (14:)) (@zad _ _ _ _ _ (@zaI _ _ _ _ _ _ _ _ (@zan _ _ _ _ _ _ _ _ (29:) (18:) (5:) (16:)) (@zae _ _ _ (@zak _ _ _ _ (@zcj _ _ _ _ _ _ _ _ (29:) (61:) (5:) (16:)))) (24:)) (@zad _ _ _ _ _ (@zaI _ _ _ _ _ _ _ _ (@PW.pt _ _ _ (@zdW _ _ _ _ _ _ _ (@za2 _ _ _ _ (@zaO _ _ _ (@zai _ _ _ _ _ _ _ _ _ _ g_has_form (32:) (@zaa _ _ _ _ _ (18:) (@zaa _ _ _ _ _ (13:) (4:) (0:)) (0:)) (0:) (3:) (0:) (0:)) (17:))) (@zcU _ _ _ _ (@zan _ _ _ _ _ _ _ _ (68:) (@zai _ _ _ _ _ _ _ _ _ _ g_joined (32:) (@zaa _ _ _ _ _ (18:) (@zaa _ _ _ _ _ (13:) (4:) (0:)) (0:)) (0:) (3:) (0:) (0:)) (8:) (16:))))) (@zae _ _ _ (@zak _ _ _ _ (39:))) (24:)) (@zae _ _ _ (@zak _ _ _ _ (@zck _ _ _ _ _ _ _ (@zai _ _ _ _ _ _ _ _ _ _ g_shows_part (32:) (@zaa _ _ _ _ _ (33:) (4:) (0:)) (0:) (3:) (0:) (0:)) (@zdL _ _ _ _ _ (@zai _ _ _ _ _ _ _ _ _ _ g_shows_part (32:) (@zaa _ _ _ _ _ (33:) (4:) (0:)) (0:) (3:) (0:) (0:)))))))))), ?_⟩;rcases hv.cases2 with ⟨t, ds, xs, rfl, rfl, ht, hks⟩ | ⟨hn, hd⟩
  ·cases k with
   | zero=>
    symm;refine za1 (λ z=>?_) (λ z=>absurd (show _=(0:Int) by rw [yaa,hl]; rfl) z);symm;refine kk _ H ?_ (Same.refl _);rw [beq_iff_eq];constructor
    ·intro z;have : ds.length = 0 := by rw [hks.len]; omega
     rw [List.length_eq_zero_iff.mp this];rfl
    ·intro z
     have e:ds=[]:=by
      have z:PyData.tuple ds=.tuple []:=z;simpa using z
     rw [<- hks.len,e];rfl
   | succ k=>
    obtain ⟨h,eh⟩:∃ h,h=2 ^ k:=⟨_,rfl⟩
    have h1:1 <= h:=by rw [eh]; exact ybH k
    have hl2:ls.length=2 * h:=by rw [hl,eh,ybi]; omega
    have h32:h <= 32:=by rw [ybi,<- eh] at h64; omega
    symm;rw [show ((ls.map V.int).length:Int) / 2=(h:Int) by rw [yaa,hl2]; omega];refine za1 (λ z=>absurd z (1:)) (λ _=>?_);symm;refine ⟨p,h,t,ds,xs,rfl,ht,hks,hb.parts,h1,h32,λ r H1 e1 s1=>?_⟩;cases r with
    | false=>
     symm;refine no H1 (λ ⟨m1,m2,lo,x,up,y,F,_⟩=>?_) s1;rw [<- eh] at F;exact Bool.noConfusion (e1.mpr ⟨m1,m2,lo,x,up,y,F⟩)
    | true=>
     obtain ⟨m1,m2,lo,x,up,y,F⟩:=e1.mp rfl;have F':FourD (2 ^ k) (.tuple ds) m1 m2 lo x up y:=by rw [<- eh]; exact F
     have hv1:=hv.same s1;rw [F.eq] at hv1;have V1:zh7 p H1 h t m1 m2 lo x up y:=zh7.of hv1;have hbs:=hb;rw [F.eq] at hbs;have hb3:=hbs.parts.parts.2.parts.2.parts.1;have hb4:=hbs.parts.parts.2.parts.2.parts.2.parts.1;have hbx:Bx x:=hb3.parts.parts.2.parts.1;have hby:Bx y:=hb4.parts.parts.2.parts.1;symm;refine ⟨p,h,t,m1,m2,lo,x,up,y,rfl,V1,F.b1,F.b2,F.e1,F.l1,F.e2,F.l2,h1,h32,λ r H2 s2 n2=>?_⟩;obtain ⟨c1,c2,a1,a2,v1,v2,i1,i2,i3,i4,i5,i6,i7⟩:=V1;have s02:=s1.trans s2;have ha:=s02 _ _ ha;have j1:=s2 _ _ i1;have j2:=s2 _ _ i2;symm;refine zm7 (SqT.of n2) (SqT.of ha) ?_;by_cases c:zdG h m1 m2 lo up=ls
     ·rw [decide_eq_true c];symm;refine ⟨p, c1, a1, v1, x, lo, k, rfl, j2, s2 _ _ i3, by rw [F.l1, eh], i6.same s2, hbx, by omega, by omega, fun r3 H3 e3 s3 => ?_⟩;have j31 := s3 _ _ j1;symm;cases r3 with
      | false=>
       refine iteF ?_;refine no H3 (λ z=>?_) (s02.trans s3);have:=((OkD.step F').mp z).2.1;exact Bool.noConfusion (e3.mpr this)
      | true=>
       refine iteT ?_;symm;have s23:=s2.trans s3;refine ⟨p,c2,a2,v2,y,up,k,rfl,s23 _ _ i4,s23 _ _ i5,by rw [F.l2,eh],i7.same s23,hby,by omega,by omega,λ r4 H4 e4 s4=>?_⟩;refine kk r4 H4 ?_ (s02.trans (s3.trans s4));rw [e4,OkD.step F',<- eh];exact ⟨λ z=>⟨c,e3.mp rfl,z⟩,λ z=>z.2.2⟩
     ·rw [decide_eq_false c];symm;refine no H2 (λ z=>c ?_) s02;have:=((OkD.step F').mp z).1;rw [<- eh] at this;exact this
  ·symm;refine zba hn ?_;symm;refine no H (fun z => ?_) (Same.refl _);cases k with
   | zero=>exact hd _ z
   | succ k=>
    obtain ⟨m1,m2,lo,x,up,y,F,_⟩:=z;exact hd _ F.eq
def zcx:FnScope ["_law_width","_law_mask"] ["_law_width","_law_mask"] (zag zbQ):=⟨rfl,rfl,rfl,by decide +kernel,rfl,by decide +kernel,by decide +kernel⟩
def zew {a:Addr} {fd:FuncData} (B:Blt K mg)  (F:Fun K "_law_is_mask" "_law_is_mask" zbQ a fd):FnOk P w K mg base CX0 1 a fd ["_law_width","_law_mask"] zfD:=by
 refine F.ok zcx (λ vs H Q E h=>?_) (λ cdv A outer s H vs Q E hr h=>?_)
 ·obtain ⟨p,h,v,d,rfl,_⟩:=h;rfl
 ·have nd := zcx.nd;have hu := hr.units;obtain ⟨p, h, v, d, rfl, hv, h32, k⟩ := h;have no : (¬ ∃ m : Nat, d = .int m /\ m < 2 ^ h) -> Q (.bl false) H := fun n => k false H ⟨fun z => (47:), fun z => absurd z n⟩ (Same.refl _);refine ⟨_, (@zae _ _ _ (@zak _ _ _ _ (@zck _ _ _ _ _ _ _ (@zaj _ _ _ _ _ _ _ _ _ (64:) rfl B.b_isinstance boot_isinstance (@zaa _ _ _ _ _ (13:) (@zaa _ _ _ _ _ (78:) (4:) (0:)) (0:)) (3:) (3:) (0:) (0:)) (@zck _ _ _ _ _ _ _ (@zkP _ _ _ _ (@zaj _ _ _ _ _ _ _ _ _ (64:) rfl B.b_isinstance boot_isinstance (@zaa _ _ _ _ _ (13:) (@zaa _ _ _ _ _ (74:) (4:) (0:)) (0:)) (3:) (3:) (0:) (0:))) (@zdL _ _ _ _ _ (@zfg _ _ _ _ _ _ _ _ _ _ _ _ (@zjj _) (@ziz _) (5:) (13:) (@zat _ _ _ _ _ _ _ _ (@zeo _) (5:) (8:)) (77:))))))), ?_⟩;cases hv with
  | int i=>
   symm;refine zdc (λ h0=>?_) (λ h0=>?_)
   ·symm;rw [show (1 : Int) * 2 ^ ((h : Int)).toNat = ((2 ^ h : Nat) : Int) by rw [yam]; simp];refine k _ H ?_ (Same.refl _);rw [decide_eq_true_iff];constructor
    ·exact λ z=>⟨i.toNat,by rw [ybk h0],by omega⟩
    ·rintro ⟨m,e,hm⟩;cases e;omega
   ·symm;refine no λ ⟨m,e,hm⟩=>?_;cases e;omega
  | bl b=>
   symm;refine zbf (.inl (.bl b)) ?_;rw [show (zaU (.bl b) || zef (.bl b))=true from rfl];symm;exact no λ ⟨m,e,hm⟩=>by cases e
  | non=>
   symm;refine zbf (.inl .non) ?_;rw [show (zaU .non || zef .non)=false from rfl];symm;exact no λ ⟨m,e,hm⟩=>by cases e
  | str s=>
   symm;refine zbf (.inl (.str s)) ?_;rw [show (zaU (.str s) || zef (.str s))=false from rfl];symm;exact no λ ⟨m,e,hm⟩=>by cases e
  | @lst a _ _ ha _ _=>
   symm;refine zbf (.inl (.lst ha)) ?_;rw [show (zaU (.ref a) || zef (.ref a))=false from rfl];symm;exact no λ ⟨m,e,hm⟩=>by cases e
  | @tup a _ _ ha _=>
   symm;refine zbf (.inr ⟨_,_,rfl,ha⟩) ?_;rw [show (zaU (.ref a) || zef (.ref a))=false from rfl];symm;exact no λ ⟨m,e,hm⟩=>by cases e
def zbT:FnScope ["_law_mask","_law_entries","_law_half","_law_found","_law_place"] ["_law_mask","_law_entries"] (zag zbn):=⟨rfl,rfl,rfl,by decide +kernel,rfl,by decide +kernel,by decide +kernel⟩
def zdB {a:Addr} {fd:FuncData} (B:Blt K mg)  (F:Fun K "_law_exchanged" "_law_exchanged" zbn a fd):FnOk P w K mg base CX0 1 a fd ["_law_mask","_law_entries"] zd4:=by
 refine F.ok zbT (λ vs H Q E h=>?_) (λ cdv A outer s H vs Q E hr h=>?_)
 ·obtain ⟨b,A,h,m,rfl,_⟩:=h;rfl
 ·have nd := zbT.nd;have hu := hr.units;obtain ⟨b, A, h, m, rfl, hb, hA, h1, h32, hm, k⟩ := h;have hm64 : m < 18446744073709551616 := yah hm (yaI (n := 2) (3:) (show h <= 64 by omega));refine ⟨_, (@zad _ _ _ _ _ (@zav _ _ 2 _ _ _ _ nd rfl (15:) (@zat _ _ _ _ _ _ _ _ (@zbi _) (61:) (5:)) (0:) (14:)) (@zad _ _ _ _ _ (@zav _ _ 3 _ _ _ _ nd rfl (15:) (@zay _ _ _ _ _ _ _ _ _ (@zfU _ K (0:)) rfl B.b_list boot_list (@zaa _ _ _ _ _ (13:) (4:) (0:)) (3:) (3:) (0:) (0:)) (0:) (14:)) (@zad _ _ _ _ _ (@zeX _ _ _ _ _ _ _ _ ya8 rfl (@za5 _ _ _ _ _ _ rfl B.b_range (@zaa _ _ _ _ _ (18:) (4:) (0:)) (0:)) (71:) (@zae _ _ _ (@zaI _ _ _ _ _ _ _ _ (@zan _ _ _ _ _ _ _ _ (29:) (@zat _ _ _ _ _ _ _ _ (@zkC _) (@zat _ _ _ _ _ _ _ _ (@zkH _) (8:) (28:)) (5:)) (5:) (16:)) (@zad _ _ _ _ _ (@zcd _ _ _ _ _ _ (@zao _ _ _ _ _ _ _ (27:) (13:) (@zat _ _ _ _ _ _ _ _ (44:) (28:) (18:)) (26:)) (@zch _ _ _ _ _ _ _ (21:) (28:) (@zaW _) (17:)) (0:) (0:) (0:)) (@zae _ _ _ (@zcd _ _ _ _ _ _ (@zao _ _ _ _ _ _ _ (27:) (13:) (28:) (26:)) (@zch _ _ _ _ _ _ _ (21:) (@zat _ _ _ _ _ _ _ _ (44:) (28:) (18:)) (@zaW _) (17:)) (0:) (0:) (0:)))) (24:))) (17:)) (@zae _ _ _ (@zak _ _ _ _ (21:)))))), ?_⟩;symm;rw [show ((A.map V.int).length : Int) / 2 = (h : Int) by rw [yaa, hA]; omega];refine zdj (SqA.of hb) fun l H1 f1 s1 n1 => ?_;have hb1 := s1 _ _ hb;have nbl : b ≠ l := fun z => by rw [<- z, hb] at f1; cases f1
  have ag:∀ z,z < 2 * h -> (A.map V.int)[z]?=some (.int (A.getD z 0)):=λ z hz=>by
   rw [yae,yac,yab (1:)];rfl
  symm;refine zjy (n:=h) rfl (1:) ?_;refine zdF (λ i σ H'=>i <= 64 /\ Same H H' /\ H' l=some (.lst ((zb0 A (2 * h) m h i).map V.int)) /\ ∃ v4,σ=[some (nV m),some (.ref b),some (nV h),some (.ref l),v4]) ⟨by omega,s1,by rw [zhN m h hA]; exact n1,_,rfl⟩ ?_ ?_
  ·rintro i σ H3 hi ⟨hi64, s3, n3, v4, rfl⟩;have hb3 := s3 _ _ hb;symm;rw [zfL];refine za1 (fun z => ?_) (fun z => ?_)
   ·have hbit:m.testBit i=true:=by
     cases e:m.testBit i
     ·rw [e] at z; cases z
     ·rfl
    symm;refine zaR (v:=.int (A.getD (i + h) 0)) (SqL.of hb3) (1:) (by rw [show ((i:Int) + (h:Int)).toNat=i + h by omega]; exact ag _ (1:)) ?_;symm;refine zeS n3 (by rw [yaa,zbF]; omega) ?_;have s4:Same H (upd H3 l (.lst (((zb0 A (2 * h) m h i).map V.int).set i (.int (A.getD (i + h) 0))))):=s3.updF f1;have n4:upd H3 l (.lst (((zb0 A (2 * h) m h i).map V.int).set i (.int (A.getD (i + h) 0)))) l=some (.lst (((zb0 A (2 * h) m h i).set i (A.getD (i + h) 0)).map V.int)):=by rw [zaf,ybR]
    generalize upd H3 l (.lst (((zb0 A (2 * h) m h i).map V.int).set i (.int (A.getD (i + h) 0))))=H4 at s4 n4;have hb4:=s4 _ _ hb;symm;refine zaR (v:=.int (A.getD i 0)) (SqL.of hb4) (1:) (by rw [yam]; exact ag _ (1:)) ?_;symm;rw [show (i:Int) + (h:Int)=((i + h:Nat):Int) by omega];refine zeS n4 (by rw [yaa,ya6,zbF]; omega) ?_;exact ⟨by omega,s4.updF f1,by rw [zaf,<- ybR,ziP h1 hbit],_,rfl⟩
   ·have hbit:m.testBit i=false:=by
     cases e:m.testBit i
     ·rfl
     ·rw [e] at z; exact absurd rfl z
    symm;exact ⟨by omega,s3,by rw [zg5 hbit]; exact n3,_,rfl⟩
  ·rintro σ H3 ⟨hi64,s3,n3,v4,rfl⟩;rw [zie h1 hm] at n3;symm;exact k l H3 s3 n3
def zcg:FnScope ["_law_thing_here","_law_width"] ["_law_thing_here","_law_width"] (zag za3):=⟨rfl,rfl,rfl,by decide +kernel,rfl,by decide +kernel,by decide +kernel⟩
def zdZ {a:Addr} {fd:FuncData} (B:Blt K mg)  (F:Fun K "_law_is_order" "_law_is_order" za3 a fd):FnOk P w K mg base CX0 1 a fd ["_law_thing_here","_law_width"] zeW:=by
 refine F.ok zcg (λ vs H Q E h=>?_) (λ cdv A outer s H vs Q E hr h=>?_)
 ·obtain ⟨p,h,v,d,rfl,_⟩:=h;rfl
 ·have nd := zcg.nd;have hu := hr.units;obtain ⟨p, h, v, d, rfl, hv, hb, h32, k⟩ := h;have no : ∀ H', (¬ OrdP h d) -> Same H H' -> Q (.bl false) H' := fun H' n s => k false H' ⟨fun z => (47:), fun z => absurd z n⟩ s;refine ⟨_, (@zad _ _ _ _ _ (@zaI _ _ _ _ _ _ _ _ (@PW.pt _ _ _ (@zdW _ _ _ _ _ _ _ (81:) (@zcU _ _ _ _ (@zan _ _ _ _ _ _ _ _ (68:) (53:) (13:) (16:))))) (@zae _ _ _ (@zak _ _ _ _ (39:))) (24:)) (@zad _ _ _ _ _ (@zaI _ _ _ _ _ _ _ _ (@za2 _ _ _ _ (@zaO _ _ _ (@zaj _ _ _ _ _ _ _ _ _ (@zmh _ K rfl (0:)) rfl B.b_all boot_all (@zaa _ _ _ _ _ (@zbp _ _ _ _ _ _ (zag za3) _ ["_law_thing_here", "_law_width"] ["_law_one"] [none] _ _ _ _ rfl (@zbw _ K _ _ _ (8:) (0:)) (fun _ _ _ _ => (@zaC _ _ 0 _ (show List.Nodup (["_law_one"] : List Str) by decide +kernel) rfl (15:) (14:))) (fun _ _ _ _ => (@zbH _)) (fun _ _ _ _ => (@zck _ _ _ _ _ _ _ (@zaj _ _ _ _ _ _ _ _ _ (64:) rfl B.b_isinstance boot_isinstance (@zaa _ _ _ _ _ (8:) (@zaa _ _ _ _ _ (78:) (4:) (0:)) (0:)) (3:) (3:) (0:) (0:)) (@zdL _ _ _ _ _ (@zkP _ _ _ _ (@zaj _ _ _ _ _ _ _ _ _ (64:) rfl B.b_isinstance boot_isinstance (@zaa _ _ _ _ _ (8:) (@zaa _ _ _ _ _ (74:) (4:) (0:)) (0:)) (3:) (3:) (0:) (0:)))))) (34:) (0:) (0:) (17:)) (4:) (0:)) (3:) (3:) (0:) (0:)) (17:))) (@zae _ _ _ (@zak _ _ _ _ (39:))) (24:)) (@zae _ _ _ (@zak _ _ _ _ (@zcj _ _ _ _ _ _ _ _ (29:) (@zaj _ _ _ _ _ _ _ _ _ (@zhE _ K (0:)) rfl B.b_sorted boot_sorted (@zaa _ _ _ _ _ (8:) (4:) (0:)) (3:) (3:) (0:) (0:)) (86:) (16:)))))), ?_⟩;rcases hv.cases2 with ⟨t, ds, xs, rfl, rfl, ht, hk⟩ | ⟨hn, hd⟩
  ·symm;refine zf4 (fun z => ?_) (fun z => ?_)
   ·symm;refine no H (λ ⟨lo,e,E,ll⟩=>z ?_) (Same.refl _);cases e;rw [<- hk.len,yaa,ll]
   have hl:xs.length=h:=by omega
   symm;refine zbV (SqT.of ht) ?_;refine zcC (xs:=xs) (λ i acc H'=>H'=H /\ i <= 64 /\ acc=((xs.take i).map zaU).map V.bl) ⟨rfl,by omega,rfl⟩ (λ i acc H' h=>?_) (λ i acc H' h=>by rw [h.1]; exact SqT.of ht) ?_ ?_
   ·obtain ⟨_,hi,rfl⟩:=h;rw [yaa,yaa,yaE];exact yay (small5 (1:))
   ·rintro i x acc H' hx ⟨rfl, hi, rfl⟩;have hil : i < xs.length := (yaf.mp hx).1;have hkd := hk.kds x (yaD hx)
    have fin:∀ b:Bool,b=zaU x -> ((xs.take i).map zaU).map V.bl ++ [V.bl b]=((xs.take (i + 1)).map zaU).map V.bl:=λ b e=>by
     rw [yaT,hx,yau,yau,e];rfl
    symm;refine zbf hkd ?_;symm;cases c1:zaU x with
    | true=>
     refine iteT ?_;symm;refine zek hkd ?_;symm;exact ⟨rfl,by omega,fin _ (by rw [c1]; cases x <;> simp_all [zaU,zef])⟩
    | false=>
     cases c2:zef x with
     | true=>
      refine iteT ?_;symm;refine zek hkd ?_;symm;exact ⟨rfl,by omega,fin _ (by rw [c1,c2]; rfl)⟩
     | false=>
      refine iteF ?_;exact ⟨rfl,by omega,fin _ (by rw [c1])⟩
   ·rintro acc H' ⟨rfl, _, rfl⟩ q hq;rw [yaq (yad _)];symm;refine ⟨q, _, rfl, SqL.of zaf, ?_⟩;have s0 := zah (o := .lst ((xs.map zaU).map V.bl)) hq;rw [show (fun bs : List Bool => bs.all id) (xs.map zaU) = xs.all zaU by simp [List.all_map]];generalize upd H' q (.lst ((xs.map zaU).map V.bl)) = H0 at s0 ⊢;cases c : xs.all zaU with
    | false=>
     symm;refine no H0 (λ ⟨lo,e,_⟩=>?_) s0;cases e;rw [hk.of_ints,List.all_map] at c;exact Bool.noConfusion (c.symm.trans (yaQ.mpr λ _ _=>rfl))
    | true=>
     obtain ⟨lo,rfl⟩:∃ lo:List Int,xs=lo.map V.int:=by
      refine ⟨xs.map intV,?_⟩;rw [ya4]
      conv=>lhs; rw [<- List.map_id xs]
      refine yaR λ v hv=>?_;have:=yaQ.mp c v hv;cases v <;> simp_all [zaU,intV]
     obtain rfl:=hk.to_ints;rw [yaa] at hl;have hb0:=s0 _ _ ht;symm;refine ⟨t,lo,rfl,.inr (SqT.of hb0),by omega,λ q2 ns hq2 pm sd=>?_⟩;have s1:=zah (o:=.lst (ns.map V.int)) hq2;have n1:upd H0 q2 (.lst (ns.map V.int)) q2=some (.lst (ns.map V.int)):=zaf;generalize upd H0 q2 (.lst (ns.map V.int))=H1 at s1 n1 ⊢;symm;refine ⟨h,rfl,by omega,λ l hl2=>?_⟩;rw [zfe];have s2:=zah (o:=.lst ((zbD h).map V.int)) hl2;refine zkA (SqL.of (s2 _ _ n1)) (SqL.of zaf) ?_;have es:=zey pm sd;rw [hl] at es;rw [es];refine k _ _ ?_ (s0.trans (s1.trans s2));unfold zgQ;rw [decide_eq_true_iff];refine ⟨λ E=>⟨lo,rfl,E,hl⟩,λ ⟨lo',e,E,_⟩=>?_⟩;simp only [PyData.tuple.injEq] at e;rw [zaY e];exact E
  ·symm;refine zba hn ?_;symm;exact no H (λ ⟨lo,e,_⟩=>hd _ e) (Same.refl _)
def zbA:FnScope ["_law_leading","_law_paper","_law_width","_law_half","_law_one","_law_entries"] ["_law_leading","_law_paper"] (zag zaH):=⟨rfl,rfl,rfl,by decide +kernel,rfl,by decide +kernel,by decide +kernel⟩
def zjY (ds:List PyData):PyData.eqv (.tuple ds) (.tuple [])=ds.isEmpty:=by
 cases ds <;> rfl
noncomputable def zhO (h k:Nat) (d:PyData):Prop:=∃ (lo:List Int) (x:PyData),d=.tuple [.tuple (lo.map .int),x] /\ zaD lo /\ lo.length=h /\ OkD k lo x
def zaz {a:Addr} {fd:FuncData} (B:Blt K mg) {j:Nat} (g__law_is_mask:A33 P w K mg base) (g__law_exchanged:A34 P w K mg base) (g__law_is_order:A35 P w K mg base) (g__law_paper_right:FnAt P w K mg base "_law_paper_right" ["_law_leading","_law_paper"] (j + 1) (zaG j)) (F:Fun K "_law_paper_right" "_law_paper_right" zaH a fd):FnOk P w K mg base CX0 (j + 1 + 1) a fd ["_law_leading","_law_paper"] (zaG (j + 1)):=by
 refine F.ok zbA (λ vs H Q E h=>?_) (λ cdv A outer s H vs Q E hr h=>?_)
 ·obtain ⟨p,a,v,d,ls,k,rfl,_⟩:=h;rfl
 ·have nd := zbA.nd;have hu := hr.units;obtain ⟨p, a, v, d, ls, k, rfl, ha, hl, hv, hb, hk, hk6, kk0⟩ := h;have h64 := zcD hk6;have no : ∀ H', (¬ OkD k ls d) -> Same H H' -> Q (.bl false) H' := fun H' n s => kk0 false H' ⟨fun z => (47:), fun z => absurd z n⟩ s;refine ⟨_, (@zad _ _ _ _ _ (@zav _ _ 2 _ _ _ _ nd rfl (15:) (53:) (0:) (14:)) (@zad _ _ _ _ _ (@zaI _ _ _ _ _ _ _ _ (@PW.pt _ _ _ (@zdW _ _ _ _ _ _ _ (@za2 _ _ _ _ (@zaO _ _ _ (72:) (17:))) (@zcU _ _ _ _ (@zan _ _ _ _ _ _ _ _ (29:) (18:) (5:) (16:))))) (@zae _ _ _ (@zak _ _ _ _ (@zck _ _ _ _ _ _ _ (72:) (@zdL _ _ _ _ _ (@zcj _ _ _ _ _ _ _ _ (29:) (13:) (@zaw _ _ _ _ _ (4:)) (16:)))))) (24:)) (@zad _ _ _ _ _ (@zav _ _ 3 _ _ _ _ nd rfl (Or.inr rfl) (@zat _ _ _ _ _ _ _ _ (@zbi _) (18:) (5:)) (0:) (14:)) (@zad _ _ _ _ _ (@zaI _ _ _ _ _ _ _ _ (@PW.pt _ _ _ (@zdW _ _ _ _ _ _ _ (@zan _ _ _ _ _ _ _ _ (68:) (61:) (5:) (16:)) (@zdW _ _ _ _ _ _ _ (83:) (@zcU _ _ _ _ (83:))))) (@zae _ _ _ (@zak _ _ _ _ (39:))) (24:)) (@zad _ _ _ _ _ (@zeX _ _ _ _ _ _ _ _ ya8 rfl (@zbw _ K _ _ _ (73:) (0:)) (71:) (@zad _ _ _ _ _ (@zaI _ _ _ _ _ _ _ _ (@PW.pt _ _ _ (@zdW _ _ _ _ _ _ _ (@za2 _ _ _ _ (@zaO _ _ _ (@zaj _ _ _ _ _ _ _ _ _ (64:) rfl B.b_isinstance boot_isinstance (@zaa _ _ _ _ _ (28:) (@zaa _ _ _ _ _ (@za6 _ _ (.ty "tuple") _ _ rfl B.b_tuple boot_tuple rfl (3:) (3:)) (4:) (0:)) (0:)) (3:) (3:) (0:) (0:)) (17:))) (@zdW _ _ _ _ _ _ _ (@zan _ _ _ _ _ _ _ _ (68:) (@zaj _ _ _ _ _ _ _ _ _ (@zbk _ K (0:)) rfl B.b_len boot_len (@zaa _ _ _ _ _ (28:) (4:) (0:)) (3:) (3:) (0:) (0:)) (5:) (16:)) (@zcU _ _ _ _ (@za2 _ _ _ _ (@zaO _ _ _ (@zai _ _ _ _ _ _ _ _ _ _ g__law_is_order (32:) (@zaa _ _ _ _ _ (@zao _ _ _ _ _ _ _ (27:) (28:) (5:) (26:)) (@zaa _ _ _ _ _ (21:) (4:) (0:)) (0:)) (0:) (3:) (0:) (0:)) (17:))))))) (@zae _ _ _ (@zak _ _ _ _ (39:))) (24:)) (@zae _ _ _ (@zaI _ _ _ _ _ _ _ _ (@za2 _ _ _ _ (@zaO _ _ _ (@zai _ _ _ _ _ _ _ _ _ _ g__law_paper_right (32:) (@zaa _ _ _ _ _ (@zao _ _ _ _ _ _ _ (27:) (28:) (5:) (26:)) (@zaa _ _ _ _ _ (@zao _ _ _ _ _ _ _ (27:) (28:) (5:) (26:)) (4:) (0:)) (0:)) (0:) (3:) (0:) (0:)) (17:))) (@zae _ _ _ (@zak _ _ _ _ (39:))) (24:)))) (17:)) (@zad _ _ _ _ _ (@zav _ _ 5 _ _ _ _ nd rfl (Or.inr rfl) (@zai _ _ _ _ _ _ _ _ _ _ g__law_exchanged (32:) (@zaa _ _ _ _ _ (33:) (@zaa _ _ _ _ _ (@zaV _ K _ _ _ _ _ _ rfl B.b_list B.b_range (@zaa _ _ _ _ _ (18:) (4:) (0:)) (0:) (0:) (0:) (0:) (0:)) (4:) (0:)) (0:)) (0:) (3:) (0:) (0:)) (0:) (14:)) (@zad _ _ _ _ _ (@zav _ _ 5 _ _ _ _ nd rfl (Or.inr rfl) (@zat _ _ _ _ _ _ _ _ (44:) (@zbp _ _ _ _ _ _ (zag zaH) _ ["_law_leading", "_law_paper", "_law_width", "_law_half", "_law_one", "_law_entries"] ["_law_one", "_law_entries"] [none, some 5] _ _ _ _ rfl (79:) (fun _ _ _ _ => (@zaC _ _ 0 _ (show List.Nodup (["_law_one", "_law_entries"] : List Str) by decide +kernel) rfl (15:) (14:))) (fun _ _ _ _ => (@zbH _)) (fun _ _ _ _ => (@zao _ _ _ _ _ _ _ (27:) (13:) (8:) (26:))) (34:) (0:) (0:) (17:)) (@zbp _ _ _ _ _ _ (zag zaH) _ ["_law_leading", "_law_paper", "_law_width", "_law_half", "_law_one", "_law_entries"] ["_law_one", "_law_entries", "_law_half"] [none, some 5, some 3] _ _ _ _ rfl (79:) (fun _ _ _ _ => (@zaC _ _ 0 _ (show List.Nodup (["_law_one", "_law_entries", "_law_half"] : List Str) by decide +kernel) rfl (15:) (14:))) (fun _ _ _ _ => (@zbH _)) (fun _ _ _ _ => (@zao _ _ _ _ _ _ _ (27:) (13:) (@zat _ _ _ _ _ _ _ _ (44:) (18:) (8:)) (26:))) (34:) (0:) (0:) (17:))) (0:) (14:)) (@zae _ _ _ (@zak _ _ _ _ (@zcj _ _ _ _ _ _ _ _ (29:) (@zay _ _ _ _ _ _ _ _ _ (46:) rfl B.b_tuple boot_tuple (@zaa _ _ _ _ _ (@zai _ _ _ _ _ _ _ _ _ _ g__law_exchanged (32:) (@zaa _ _ _ _ _ (33:) (@zaa _ _ _ _ _ (42:) (4:) (0:)) (0:)) (0:) (3:) (0:) (0:)) (4:) (0:)) (3:) (3:) (0:) (0:)) (@zay _ _ _ _ _ _ _ _ _ (46:) rfl B.b_tuple boot_tuple (@zaa _ _ _ _ _ (8:) (4:) (0:)) (3:) (3:) (0:) (0:)) (16:))))))))))), ?_⟩;rcases hv.cases2 with ⟨t, ds, xs, rfl, rfl, ht, hks⟩ | ⟨hn, hd⟩
  ·cases k with
   | zero=>
    symm;rw [show ((ls.map V.int).length:Int)=1 by rw [yaa,hl]; rfl];refine zhG rfl ?_;symm;refine zau (6:) λ q H1 f1 s1 n1=>?_;refine ⟨.tuple ds,.tuple [],(hv.same s1).dat,DatV.tuple (xs:=[]) (SqT.of n1) .nil,hb.shpd (3:),rfl,?_⟩;rw [zjY];refine kk0 _ H1 ?_ s1;rw [List.isEmpty_iff];exact ⟨λ z=>by rw [z]; rfl,λ z=>by have z:PyData.tuple ds=.tuple []:=z; simpa using z⟩
   | succ k=>
    obtain ⟨h,eh⟩:∃ h,h=2 ^ k:=⟨_,rfl⟩
    have g1:1 <= h:=by rw [eh]; exact ybH k
    have e:ls.length=2 * h:=by rw [hl,eh,ybi]; omega
    have h32:h <= 32:=by rw [ybi,<- eh] at h64; omega
    symm;rw [show ((ls.map V.int).length:Int)=((2 * h:Nat):Int) by rw [yaa,e]];refine za1 (λ z=>absurd z (1:)) (λ _=>?_);obtain ⟨i',rfl⟩:∃ i',j=i' + 1:=⟨j - 1,by omega⟩
    symm;rw [show ((2 * h:Nat):Int) / 2=(h:Int) by omega];refine zf4 (λ z=>?_) (λ z=>?_)
    ·symm;refine no H (λ ⟨m1,m2,lo,x,up,y,F,_⟩=>z ?_) (Same.refl _);have e:=F.eq;simp only [PyData.tuple.injEq] at e;rw [<- hks.len,e];rfl
    have hxl:xs.length=4:=by omega
    obtain ⟨v1,v2,v3,v4,rfl⟩:∃ v1 v2 v3 v4,xs=[v1,v2,v3,v4]:=by
     match xs,hxl with
     | [a,b,c,d],_=>exact ⟨a,b,c,d,rfl⟩
    obtain ⟨d1,ds1,rfl,y1,hk1⟩:∃ d1 ds1,ds=d1 :: ds1 /\ Tv p H d1 v1 /\ Tvs p H ds1 [v2,v3,v4]:=by cases hks with | cons a b=>exact ⟨_,_,rfl,a,b⟩
    obtain ⟨d2,ds2,rfl,y2,hk2⟩:∃ d2 ds2,ds1=d2 :: ds2 /\ Tv p H d2 v2 /\ Tvs p H ds2 [v3,v4]:=by cases hk1 with | cons a b=>exact ⟨_,_,rfl,a,b⟩
    obtain ⟨d3,ds3,rfl,y3,hk3⟩:∃ d3 ds3,ds2=d3 :: ds3 /\ Tv p H d3 v3 /\ Tvs p H ds3 [v4]:=by cases hk2 with | cons a b=>exact ⟨_,_,rfl,a,b⟩
    obtain ⟨d4,ds4,rfl,y4,hk4⟩:∃ d4 ds4,ds3=d4 :: ds4 /\ Tv p H d4 v4 /\ Tvs p H ds4 []:=by cases hk3 with | cons a b=>exact ⟨_,_,rfl,a,b⟩
    obtain rfl:ds4=[]:=by cases hk4; rfl
    have hb3:Bx d3:=hb.parts.parts.2.parts.2.parts.1;have hb4:Bx d4:=hb.parts.parts.2.parts.2.parts.2.parts.1
    have four:OkD (k + 1) ls (.tuple [d1,d2,d3,d4]) -> (∃ m:Nat,d1=.int m /\ m < 2 ^ h) /\ (∃ m:Nat,d2=.int m /\ m < 2 ^ h) /\ zhO h k d3 /\ zhO h k d4:=λ ⟨m1,m2,lo,x,up,y,F,_,z1,z2⟩=>by
     rw [<- eh] at F;have e:=F.eq;simp only [PyData.tuple.injEq,List.cons.injEq,and_true] at e;exact ⟨⟨m1,e.1,F.b1⟩,⟨m2,e.2.1,F.b2⟩,⟨lo,x,e.2.2.1,F.e1,F.l1,z1⟩,⟨up,y,e.2.2.2,F.e2,F.l2,z2⟩⟩
    symm;refine ⟨p,h,v1,d1,rfl,y1,h32,λ r1 Hm q1 sm=>?_⟩;cases r1 with
    | false=>
     symm;exact no Hm (λ z=>Bool.noConfusion (q1.mpr (four z).1)) sm
    | true=>
    obtain ⟨m1,rfl,b1⟩:=q1.mp rfl;have htm:=sm _ _ ht;symm;refine ⟨p,h,v2,d2,rfl,y2.same sm,h32,λ r2 Hn q2 sn=>?_⟩;have smn:=sm.trans sn;cases r2 with
    | false=>
     symm;exact no Hn (λ z=>Bool.noConfusion (q2.mpr (four z).2.1)) smn
    | true=>
    obtain ⟨m2,rfl,b2⟩:=q2.mp rfl;have htn:=smn _ _ ht;symm;refine zdm (k:=2) htn (1:) (6:) λ c H2 f2 s2n n2=>?_;have s2':=smn.trans s2n;have n2:H2 c=some (.tup [v3,v4]):=n2;symm;refine zhB (xs:=[v3,v4]) (.inr (SqT.of n2)) (λ i σ H'=>Same H2 H' /\ ((0 < i -> zhO h k d3) /\ (1 < i -> zhO h k d4)) /\ ∃ w4 w5,σ=[some (.ref a),some (.ref t),some (nV (2 * h)),some (nV h),w4,w5]) ⟨Same.refl _,⟨λ z=>absurd z (3:),λ z=>absurd z (3:)⟩,_,_,rfl⟩ (λ i σ H' z=>⟨λ q=>z.1.seq q,λ q=>z.1.seqT q⟩) ?_ ?_
    ·rintro i v σ H3 hv3 ⟨s3, ⟨z3, z4⟩, w4, w5, rfl⟩
     obtain ⟨dz,ez,yz,bz,nz⟩:∃ dz,(i=0 /\ dz=d3 \/ i=1 /\ dz=d4) /\ Tv p H dz v /\ Bx dz /\ (OkD (k + 1) ls (.tuple [.int m1,.int m2,d3,d4]) -> zhO h k dz):=by
      rcases (show i=0 \/ i=1 by have:=(yaf.mp hv3).1; simp at this; omega) with rfl | rfl
      ·cases hv3;exact ⟨d3,.inl ⟨rfl,rfl⟩,y3,hb3,λ z=>(four z).2.2.1⟩
      ·cases hv3;exact ⟨d4,.inr ⟨rfl,rfl⟩,y4,hb4,λ z=>(four z).2.2.2⟩
     have s03:=s2'.trans s3;rcases yz.cases2 with ⟨z,es,vs,rfl,rfl,hz,hzs⟩ | ⟨hn,hdz⟩
     ·have hz3 := s03 _ _ hz;symm;refine zf4 (fun cc => ?_) (fun cc => ?_)
      ·symm;refine no H3 (λ u=>?_) s03;obtain ⟨lo,x,e,_⟩:=nz u;cases e;exact cc (by rw [<- hzs.len]; rfl)
      have hvl:vs.length=2:=by omega
      obtain ⟨u1,u2,rfl⟩:∃ u1 u2,vs=[u1,u2]:=by
       match vs,hvl with
       | [a,b],_=>exact ⟨a,b,rfl⟩
      obtain ⟨c1,es1,rfl,x1,hzs1⟩:∃ d1 ds1,es=d1 :: ds1 /\ Tv p H d1 u1 /\ Tvs p H ds1 [u2]:=by cases hzs with | cons a b=>exact ⟨_,_,rfl,a,b⟩
      obtain ⟨c2,es2,rfl,x2,hzs2⟩:∃ d2 ds2,es1=d2 :: ds2 /\ Tv p H d2 u2 /\ Tvs p H ds2 []:=by cases hzs1 with | cons a b=>exact ⟨_,_,rfl,a,b⟩
      obtain rfl:es2=[]:=by cases hzs2; rfl
      have bc1:Bx c1:=bz.parts.parts.1;have bc2:Bx c2:=bz.parts.parts.2.parts.1;symm;refine ⟨p,h,u1,c1,rfl,x1.same s03,bc1,h32,λ r4 H4 q4 s4=>?_⟩;have s04:=s03.trans s4;cases r4 with
      | false=>
       symm;refine no H4 (λ u=>?_) s04;obtain ⟨lo,x,e,E,ll,_⟩:=nz u;simp only [PyData.tuple.injEq,List.cons.injEq,and_true] at e;exact Bool.noConfusion (q4.mpr ⟨lo,e.1,E,ll⟩)
      | true=>
      obtain ⟨lo,rfl,E,ll⟩:=q4.mp rfl
      obtain ⟨la,rfl,hla⟩:∃ la,u1=.ref la /\ H la=some (.tup (lo.map V.int)):=by
       cases x1 with
       | tup q w=>rw [w.of_ints] at q; exact ⟨_,rfl,q⟩
      have hz4:=s04 _ _ hz;symm;refine ⟨p,la,u2,c2,lo,k,rfl,s04 _ _ hla,by rw [ll,eh],x2.same s04,bc2,by omega,by omega,λ r5 H5 q5 s5=>?_⟩;cases r5 with
      | false=>
       symm;refine no H5 (λ u=>?_) (s04.trans s5);obtain ⟨lo',x,e,E',ll',ok⟩:=nz u;simp only [PyData.tuple.injEq,List.cons.injEq,and_true] at e;obtain ⟨e1,rfl⟩:=e;obtain rfl:=zaY e1;exact Bool.noConfusion (q5.mpr ok)
      | true=>
      symm;have gz:zhO h k (.tuple [.tuple (lo.map .int),c2]):=⟨lo,c2,rfl,E,ll,q5.mp rfl⟩
      refine ⟨s3.trans (s4.trans s5),⟨λ _=>?_,λ u=>?_⟩,_,_,rfl⟩
      ·rcases ez with ⟨rfl, e⟩ | ⟨rfl, e⟩
       ·rw [<- e]; exact gz
       ·exact z3 (3:)
      ·rcases ez with ⟨rfl, e⟩ | ⟨rfl, e⟩
       ·exact absurd u (3:)
       ·rw [<- e]; exact gz
     ·symm;refine zba (hn.same s03) ?_;symm;refine no H3 (λ u=>?_) s03;obtain ⟨lo,x,e,_⟩:=nz u;exact hdz _ e
    ·rintro σ H3 ⟨s3, ⟨z3, z4⟩, w4, w5, rfl⟩;obtain ⟨lo, dx, rfl, e1, l1, okx⟩ := z3 (6:);obtain ⟨up, dy, rfl, e2, l2, oky⟩ := z4 (6:);have F' : FourD (2 ^ k) (.tuple [.int m1, .int m2, .tuple [.tuple (lo.map .int), dx], .tuple [.tuple (up.map .int), dy]]) m1 m2 lo dx up dy := ⟨rfl, by rw [<- eh]; exact b1, by rw [<- eh]; exact b2, e1, by rw [<- eh]; exact l1, e2, by rw [<- eh]; exact l2⟩
     obtain ⟨x,y,lx,ly,pv1,pv2,ht',hx,hlx,hy,hly,_,_⟩:=zh7.of (h:=h) hv;have ht:=ht';have kk:∀ (b:Bool) Hc,(b=true ↔ zdG h m1 m2 lo up=ls) -> Same H Hc -> Q (.bl b) Hc:=λ b Hc q s=>kk0 b Hc (by rw [q,OkD.step F',<- eh]; exact ⟨λ z=>⟨z,okx,oky⟩,λ z=>z.1⟩) s;have s03:=s2'.trans s3;have ht3:=s03 _ _ ht;symm;refine ⟨2 * h,rfl,by omega,λ l0 hl0=>?_⟩;rw [zfe];have s4:=zah (o:=.lst ((zbD (2 * h)).map V.int)) hl0;have n4:upd H3 l0 (.lst ((zbD (2 * h)).map V.int)) l0=some (.lst ((zbD (2 * h)).map V.int)):=zaf;generalize upd H3 l0 (.lst ((zbD (2 * h)).map V.int))=H4 at s4 n4 ⊢;symm;refine ⟨l0,zbD (2 * h),h,m1,rfl,n4,zku _,g1,h32,b1,λ l5 H5 s5 n5=>?_⟩;have o1:=zc0 g1 b1;have o2:=zc0 g1 b2;have E1:=Dd.led_ld o1;rw [zhJ E1] at n5;have s05:=s03.trans (s4.trans s5);have ht5:=s05 _ _ ht;have hx5:=s05 _ _ hx;have hy5:=s05 _ _ hy;have hlx5:=s05 _ _ hlx
     have eg:∀ z,z < 2 * h -> (((Dd.swap m1 h).led (2 * h)).map V.int)[z]?=some (.int (((Dd.swap m1 h).led (2 * h)).getD z 0)):=λ z hz=>by
      rw [yae,yac,yab (by rw [E1.1]; exact hz)];rfl
     unfold zdG at kk;generalize (Dd.swap m1 h).led (2 * h)=E at *;symm;refine zbV (SqT.of hlx5) ?_;refine zcC (xs:=lo.map V.int) (λ i acc H'=>H'=H5 /\ i <= 64 /\ acc=((zaE E lo).take i).map V.int) ⟨rfl,by omega,rfl⟩ (λ i acc H' z=>?_) (λ i acc H' z=>by rw [z.1]; exact SqT.of hlx5) ?_ ?_
     ·obtain ⟨_,hi,rfl⟩:=z;rw [yaa,yaE];exact yay (small5 (1:))
     ·rintro i v acc H' hv ⟨rfl,hi,rfl⟩;obtain ⟨q,hq,rfl⟩:=zcn hv;have hil:i < lo.length:=(yaf.mp hq).1;have q0:=zbU e1 (yaD hq);symm;refine zaR (v:=.int (E.getD q.toNat 0)) (SqL.of n5) q0.1 (eg _ (1:)) ?_;exact ⟨rfl,by omega,zfE hq _ (by rw [if_pos q0.1])⟩
     ·rintro acc H6 ⟨rfl, _, rfl⟩ u1 hu1;rw [yaq (by rw [yaa, zaE, yaa]; exact yad _)];have s7 := zah (o := .lst ((zaE E lo).map V.int)) hu1;have n7 : upd H6 u1 (.lst ((zaE E lo).map V.int)) u1 = some (.lst ((zaE E lo).map V.int)) := zaf;generalize upd H6 u1 (.lst ((zaE E lo).map V.int)) = H7 at s7 n7 ⊢;have s07 := s05.trans s7;have ht7 := s07 _ _ ht;have hy7 := s07 _ _ hy;have hly7 := s07 _ _ hly;have n57 := s7 _ _ n5;symm;refine zbV (SqT.of hly7) ?_;refine zcC (xs := up.map V.int) (fun i acc H' => H' = H7 /\ i <= 64 /\ acc = ((zaE E (zax h up)).take i).map V.int) ⟨rfl, by omega, rfl⟩ (fun i acc H' z => ?_) (fun i acc H' z => by rw [z.1]; exact SqT.of hly7) ?_ ?_
      ·obtain ⟨_,hi,rfl⟩:=z;rw [yaa,yaE];exact yay (small5 (1:))
      ·rintro i v acc H' hv ⟨rfl, hi, rfl⟩;obtain ⟨q, hq, rfl⟩ := zcn hv;have hil : i < up.length := (yaf.mp hq).1;have q0 := zbU e2 (yaD hq);have hq2 : (zax h up)[i]? = some (q + h) := by rw [zax, yae, hq]; simp [q0.1]
       symm;refine zaR (v:=.int (E.getD (q + h).toNat 0)) (SqL.of n57) (1:) (by rw [show (h:Int) + q=q + h by omega]; exact eg _ (1:)) ?_;exact ⟨rfl,by omega,zfE hq2 _ (by rw [if_pos (1:)])⟩
      ·rintro acc H8 ⟨rfl, _, rfl⟩ u2 hu2;rw [yaq (by rw [yaa, zaE, yaa, zbY]; exact yad _)];have s9 := zah (o := .lst ((zaE E (zax h up)).map V.int)) hu2;have n9 : upd H8 u2 (.lst ((zaE E (zax h up)).map V.int)) u2 = some (.lst ((zaE E (zax h up)).map V.int)) := zaf;generalize upd H8 u2 (.lst ((zaE E (zax h up)).map V.int)) = H9 at s9 n9 ⊢;have lt1 : (zaE E lo).length = h := by rw [zaE, yaa, l1]
       have lt2:(zaE E (zax h up)).length=h:=by rw [zaE,yaa,zbY,l2]
       symm;refine zjB (s9 _ _ n7) n9 (by rw [yaa,yaa]; omega) λ u3 Ha fa sa na=>?_;rw [<- yau,show zaE E lo ++ zaE E (zax h up)=zaE E (lo ++ zax h up) by rw [zaE,zaE,zaE,yau]] at na;have s0a:=s07.trans (s9.trans sa);have hta:=s0a _ _ ht;symm;refine ⟨u3,_,h,m2,rfl,na,by rw [zaE,yaa,yaF,zbY]; omega,g1,h32,b2,λ u4 Hb sb nb=>?_⟩;generalize zaE (zaE E (lo ++ zax h up)) ((Dd.swap m2 h).led (2 * h))=js at nb kk;symm;refine ⟨u4,_,rfl,.inl ⟨SqL.of nb,λ u5 hu5=>?_⟩⟩;have sc:=zah (o:=.tup (js.map V.int)) hu5;have nc:upd Hb u5 (.tup (js.map V.int)) u5=some (.tup (js.map V.int)):=zaf;generalize upd Hb u5 (.tup (js.map V.int))=Hc at sc nc ⊢;have s0c:=s0a.trans (sb.trans sc);have hac:=s0c _ _ ha;symm;refine ⟨a,_,rfl,.inr ⟨SqT.of hac,?_⟩⟩;refine zne (SqT.of nc) (SqT.of hac) ?_;exact kk _ Hc decide_eq_true_iff s0c
  ·symm;refine zba hn ?_;symm;refine zba hn ?_;symm;refine no H (fun z => ?_) (Same.refl _);cases k with
   | zero=>exact hd _ z
   | succ k=>
    obtain ⟨m1,m2,lo,x,up,y,F,_⟩:=z;exact hd _ F.eq
def zcR:FnScope ["_law_leading","_law_paper","_law_before","_law_found"] ["_law_leading","_law_paper"] (zag zb8):=⟨rfl,rfl,rfl,by decide +kernel,rfl,by decide +kernel,by decide +kernel⟩
def zeB {a:Addr} {fd:FuncData} (B:Blt K mg) (g_shows_halves:A32 P w K mg base) (g__law_paper_right:A36 P w K mg base) (F:Fun K "_law_as_due" "_law_as_due" zb8 a fd):FnOk P w K mg base CX0 21 a fd ["_law_leading","_law_paper"] zjq:=by
 refine F.ok zcR (λ vs H Q E h=>?_) (λ cdv A outer s H vs Q E hr h=>?_)
 ·obtain ⟨p,a,v,d,ls,k,rfl,_⟩:=h;rfl
 ·have nd:=zcR.nd;have hu:=hr.units;obtain ⟨p,a,v,d,ls,k,rfl,ha,E,hl,hk6,hv,hb,kk⟩:=h;have h64:=zcD hk6;have hbx:Bx d:=hb.bx (3:) (3:);have bl:Bt 64 30 (.tuple (ls.map .int)):=(Bt.tup (BtL.ints 0 (zcz E (1:)))).mono (1:) (3:);have BB:=zb9 bl hb;have str2:∀ (H':Hp) (q:Addr),H' a=some (.tup (ls.map V.int)) -> Tv p H' d v -> H' q=some (.tup [.ref a,v]) -> DatV K H' (.tuple [.tuple (ls.map .int),d]) (.ref q):=λ H' q g1 g2 g3=>Tv.dat (p:=p) (.tup g3 (.cons (.tup g1 (Tvs.ints p H' ls)) (.cons g2 .nil)));refine ⟨_,(@zad _ _ _ _ _ (@zav _ _ 2 _ _ _ _ nd rfl (15:) (@zay _ _ _ _ _ _ _ _ _ (@znc _ K hr.gd hu (0:)) rfl B.b_str boot_str (@zaa _ _ _ _ _ (@zaw _ _ _ _ _ (@zaa _ _ _ _ _ (8:) (@zaa _ _ _ _ _ (13:) (4:) (0:)) (0:))) (4:) (0:)) (3:) (3:) (0:) (0:)) (0:) (14:)) (@zad _ _ _ _ _ (@zav _ _ 3 _ _ _ _ nd rfl (15:) (@zai _ _ _ _ _ _ _ _ _ _ g_shows_halves (19:) (@zaa _ _ _ _ _ (8:) (@zaa _ _ _ _ _ (13:) (4:) (0:)) (0:)) (0:) (3:) (0:) (0:)) (0:) (14:)) (@zae _ _ _ (@zak _ _ _ _ (@zck _ _ _ _ _ _ _ (@zaj _ _ _ _ _ _ _ _ _ (64:) rfl B.b_isinstance boot_isinstance (@zaa _ _ _ _ _ (21:) (@zaa _ _ _ _ _ (74:) (4:) (0:)) (0:)) (3:) (3:) (0:) (0:)) (@zck _ _ _ _ _ _ _ (@zcj _ _ _ _ _ _ _ _ (@zmS _ K hu (0:)) (21:) (@zai _ _ _ _ _ _ _ _ _ _ g__law_paper_right (19:) (@zaa _ _ _ _ _ (8:) (@zaa _ _ _ _ _ (13:) (4:) (0:)) (0:)) (0:) (3:) (0:) (0:)) (16:)) (@zdL _ _ _ _ _ (@zcj _ _ _ _ _ _ _ _ (@zmS _ K hu (0:)) (@zay _ _ _ _ _ _ _ _ _ (@znc _ K hr.gd hu (0:)) rfl B.b_str boot_str (@zaa _ _ _ _ _ (@zaw _ _ _ _ _ (@zaa _ _ _ _ _ (8:) (@zaa _ _ _ _ _ (13:) (4:) (0:)) (0:))) (4:) (0:)) (3:) (3:) (0:) (0:)) (18:) (16:))))))))),?_⟩;symm;refine zau (6:) λ q1 H1 f1 s1 n1=>?_;symm;refine ⟨q1,_,rfl,str2 H1 q1 (s1 _ _ ha) (hv.same s1) n1,BB.sh,BB.nd,yax BB.dp (3:),BB.shown (3:),?_⟩;symm;refine ⟨p,a,v,d,ls,k,rfl,s1 _ _ ha,hl,hv.same s1,hbx,(show k <= 6 from hk6),hk6,λ b1 H2 e1 s2=>?_⟩;have s02:=s1.trans s2;symm;refine ⟨p,a,v,d,ls,k,rfl,s02 _ _ ha,hl,hv.same s02,hbx,(show k <= 6 from hk6),hk6,λ b2 H3 e2 s3=>?_⟩;have s03:=s02.trans s3;obtain rfl:b1=b2:=Bool.eq_iff_iff.mpr (e1.trans e2.symm);refine zlD ?_;symm;rw [beq_self_eq_true];symm;refine zau (6:) λ q4 H4 f4 s4 n4=>?_;have s04:=s03.trans s4;symm;refine ⟨q4,_,rfl,str2 H4 q4 (s04 _ _ ha) (hv.same s04) n4,BB.sh,BB.nd,yax BB.dp (3:),BB.shown (3:),?_⟩;symm;refine zlj ?_;exact kk H4 s04
def zkN:FnScope ["_law_script","_law_hand_here","_law_width","_law_leading","_law_paper","_law_turn"] ["_law_script"] (zag zgT):=⟨rfl,rfl,rfl,by decide +kernel,rfl,by decide +kernel,by decide +kernel⟩
def zl4 {a:Addr} {fd:FuncData} (B:Blt K mg) (g_halves:A8 P w K mg base) (g__law_hand:A9 P w K mg base) (g__law_draw:A10 P w K mg base) (g__law_even:A11 P w K mg base) (g__law_bent:A14 P w K mg base) (g__law_as_due:A37 P w K mg base) (F:Fun K "law" "law" zgT a fd):FnOk P w K mg base CX0 22 a fd ["_law_script"] (zkr K):=by
 refine F.ok zkN (λ vs H Q E h=>?_) (λ cdv A outer s H vs Q E hr h=>?_)
 ·obtain ⟨b,ns,rfl,_⟩:=h;rfl
 ·have nd := zkN.nd;have hu := hr.units;obtain ⟨b, ns, rfl, hS, hlen, k⟩ := h;refine ⟨_, (@zad _ _ _ _ _ (@zav _ _ 1 _ _ _ _ nd rfl (15:) (@zai _ _ _ _ _ _ _ _ _ _ g__law_hand (19:) (@zaa _ _ _ _ _ (8:) (4:) (0:)) (0:) (3:) (0:) (0:)) (0:) (14:)) (@zad _ _ _ _ _ (@zav _ _ 2 _ _ _ _ nd rfl (15:) (@zao _ _ _ _ _ _ _ (27:) (@za4 _ _ _ _ (@zaa _ _ _ _ _ (5:) (@zaa _ _ _ _ _ (5:) (@zaa _ _ _ _ _ (5:) (@zaa _ _ _ _ _ (5:) (@zaa _ _ _ _ _ (5:) (@zaa _ _ _ _ _ (5:) (@zaa _ _ _ _ _ (5:) (@zaa _ _ _ _ _ (@zao _ _ _ _ _ _ _ (27:) (@za4 _ _ _ _ (@zaa _ _ _ _ _ (5:) (@zaa _ _ _ _ _ (5:) (@zaa _ _ _ _ _ (5:) (4:) (0:)) (0:)) (0:))) (@zai _ _ _ _ _ _ _ _ _ _ g__law_draw (19:) (@zaa _ _ _ _ _ (13:) (@zaa _ _ _ _ _ (5:) (4:) (0:)) (0:)) (0:) (3:) (0:) (0:)) (26:)) (4:) (0:)) (0:)) (0:)) (0:)) (0:)) (0:)) (0:)) (0:))) (@zai _ _ _ _ _ _ _ _ _ _ g__law_draw (19:) (@zaa _ _ _ _ _ (13:) (@zaa _ _ _ _ _ (5:) (4:) (0:)) (0:)) (0:) (3:) (0:) (0:)) (26:)) (0:) (14:)) (@zad _ _ _ _ _ (@zav _ _ 3 _ _ _ _ nd rfl (15:) (@zai _ _ _ _ _ _ _ _ _ _ g__law_even (19:) (@zaa _ _ _ _ _ (13:) (@zaa _ _ _ _ _ (18:) (4:) (0:)) (0:)) (0:) (3:) (0:) (0:)) (0:) (14:)) (@zad _ _ _ _ _ (@zav _ _ 4 _ _ _ _ nd rfl (15:) (@zai _ _ _ _ _ _ _ _ _ _ g_halves (19:) (@zaa _ _ _ _ _ (21:) (4:) (0:)) (0:) (3:) (0:) (0:)) (0:) (14:)) (@zad _ _ _ _ _ (@zeX _ _ _ _ _ _ _ _ ya8 rfl (@za5 _ _ _ _ _ _ rfl B.b_range (@zaa _ _ _ _ _ (@zat _ _ _ _ _ _ _ _ (44:) (5:) (@zaj _ _ _ _ _ _ _ _ _ (@ziB _ rfl) rfl B.b_min boot_min (@zaa _ _ _ _ _ (5:) (@zaa _ _ _ _ _ (@zaj _ _ _ _ _ _ _ _ _ (@zdl _ rfl) rfl B.b_max boot_max (@zaa _ _ _ _ _ (5:) (@zaa _ _ _ _ _ (@zat _ _ _ _ _ _ _ _ (@zcv _) (53:) (5:)) (4:) (0:)) (0:)) (3:) (3:) (0:) (0:)) (4:) (0:)) (0:)) (3:) (3:) (0:) (0:))) (4:) (0:)) (0:)) (@zaC _ _ 5 _ nd rfl (15:) (14:)) (@zad _ _ _ _ _ (@zaI _ _ _ _ _ _ _ _ (@za2 _ _ _ _ (@zaO _ _ _ (@zai _ _ _ _ _ _ _ _ _ _ g__law_as_due (19:) (@zaa _ _ _ _ _ (21:) (@zaa _ _ _ _ _ (@zai _ _ _ _ _ _ _ _ _ _ g__law_bent (19:) (@zaa _ _ _ _ _ (13:) (@zaa _ _ _ _ _ (28:) (@zaa _ _ _ _ _ (@zaj _ _ _ _ _ _ _ _ _ (@zdl _ rfl) rfl B.b_max boot_max (@zaa _ _ _ _ _ (5:) (@zaa _ _ _ _ _ (@zat _ _ _ _ _ _ _ _ (@zbi _) (18:) (5:)) (4:) (0:)) (0:)) (3:) (3:) (0:) (0:)) (4:) (0:)) (0:)) (0:)) (0:) (3:) (0:) (0:)) (4:) (0:)) (0:)) (0:) (3:) (0:) (0:)) (17:))) (@zae _ _ _ (@zak _ _ _ _ (39:))) (24:)) (@zae _ _ _ (@zaI _ _ _ _ _ _ _ _ (@za2 _ _ _ _ (@zaO _ _ _ (@zai _ _ _ _ _ _ _ _ _ _ g__law_as_due (19:) (@zaa _ _ _ _ _ (@zai _ _ _ _ _ _ _ _ _ _ g__law_even (19:) (@zaa _ _ _ _ _ (13:) (@zaa _ _ _ _ _ (18:) (4:) (0:)) (0:)) (0:) (3:) (0:) (0:)) (@zaa _ _ _ _ _ (28:) (4:) (0:)) (0:)) (0:) (3:) (0:) (0:)) (17:))) (@zae _ _ _ (@zak _ _ _ _ (39:))) (24:)))) (17:)) (@zae _ _ _ (@zak _ _ _ _ (@zai _ _ _ _ _ _ _ _ _ _ g__law_as_due (19:) (@zaa _ _ _ _ _ (21:) (@zaa _ _ _ _ _ (28:) (4:) (0:)) (0:)) (0:) (3:) (0:) (0:))))))))), ?_⟩;symm;refine ⟨b, ns, rfl, hS, fun p H1 fp s1 h1 => ?_⟩;have hS0 := hS;symm;refine zbs (6:) fun l2 H2 f2 s2 n2 => ?_;have e2 : l2 ≠ p := h1.ne f2;have h2 := h1.same s2;symm;refine ⟨p, 3, rfl, h2, by decide, by decide, fun r3 H3 hr3 b3 h3 => ?_⟩;have n3 := b3.keep _ _ e2 n2
  obtain ⟨k0,hk0,em⟩:∃ k0:Nat,k0 <= 6 /\ ([V.int 1,V.int 32,V.int 64])[((r3:Nat):Int).toNat]?=some (nV (2 ^ k0)):=by
   match r3,hr3 with
   | 0,_=>exact ⟨0,by decide,rfl⟩
   | 1,_=>exact ⟨5,by decide,rfl⟩
   | 2,_=>exact ⟨6,by decide,rfl⟩
  refine zaR (v:=nV (2 ^ k0)) (SqL.of n3) (yaz _) em ?_;symm;refine zbs (6:) λ l4 H4 f4 s4 n4=>?_;have e4:l4 ≠ p:=h3.ne f4;have h4:=h3.same s4;symm;refine ⟨p,8,rfl,h4,by decide,by decide,λ r5 H5 hr5 b5 h5=>?_⟩;have n5:=b5.keep _ _ e4 n4
  obtain ⟨kw,hk6,ew⟩:∃ kw:Nat,kw <= 6 /\ ([V.int 2,V.int 4,V.int 8,V.int 16,V.int 2,V.int 4,V.int 8,nV (2 ^ k0)])[((r5:Nat):Int).toNat]?=some (nV (2 ^ kw)):=by
   match r5,hr5 with
   | 0,_=>exact ⟨1,by decide,rfl⟩
   | 1,_=>exact ⟨2,by decide,rfl⟩
   | 2,_=>exact ⟨3,by decide,rfl⟩
   | 3,_=>exact ⟨4,by decide,rfl⟩
   | 4,_=>exact ⟨1,by decide,rfl⟩
   | 5,_=>exact ⟨2,by decide,rfl⟩
   | 6,_=>exact ⟨3,by decide,rfl⟩
   | 7,_=>exact ⟨k0,hk0,rfl⟩
  refine zaR (v:=nV (2 ^ kw)) (SqL.of n5) (yaz _) ew ?_;have h64:=zcD hk6;have w1:1 <= 2 ^ kw:=ybH kw;symm;refine ⟨p,2 ^ kw,rfl,h5,w1,h64,λ t ms H6 pm b6 h6 n6=>?_⟩;have E:=zfN pm;have hl:(ms.map λ (x:Nat)=>(x:Int)).length=2 ^ kw:=by rw [yaa,pm.length_eq,yas]
  have n6':H6 t=some (.tup ((ms.map λ (x:Nat)=>(x:Int)).map V.int)):=by rw [n6,ya4]; rfl
  generalize (ms.map λ (x:Nat)=>(x:Int))=ls at E hl n6';have ok:=zjR kw ls E hl;have bp:=zfK kw ok.1 hk6
  have szk:szP kw <= 8832:=by
   unfold szP;omega
  symm;refine ⟨t,ls,kw,rfl,n6',E,hl,hk6,λ t7 H7 s7 p7=>?_⟩;generalize papF kw ls=P at ok bp p7;have h7:=h6.same s7;have n7:=s7 _ _ n6'
  have hS7:SqL K H7 b (ns.map V.int):=SqL.keepAt hS0 λ o e=>by
   have ne:b ≠ p:=λ z=>by rw [z,fp] at e; cases e
   exact s7 _ _ (b6.keep _ _ ne (b5.keep _ _ ne (s4 _ _ (b3.keep _ _ ne (s2 _ _ (s1 _ _ e))))))
  symm
  obtain ⟨m,hm,em⟩:∃ m:Nat,m <= 9 /\ ((1:Int) + if (if ((ns.map V.int).length:Int) - 1 > 0 then ((ns.map V.int).length:Int) - 1 else 0) < 8 then (if ((ns.map V.int).length:Int) - 1 > 0 then ((ns.map V.int).length:Int) - 1 else 0) else 8)=(m:Int):=by
   generalize ((ns.map V.int).length:Int) - 1=A;have h0:0 <= (if A > 0 then A else 0):=by split <;> omega
   generalize (if A > 0 then A else 0)=B at h0;by_cases c:B < 8
   ·exact ⟨1 + B.toNat,by omega,by rw [if_pos c]; omega⟩
   ·exact ⟨9,by omega,by rw [if_neg c]; rfl⟩
  rw [em]
  obtain ⟨gf,g1,g2,eg⟩:∃ g:Nat,1 <= g /\ g <= 32 /\ (if ((2 ^ kw:Nat):Int) / 2 > 1 then ((2 ^ kw:Nat):Int) / 2 else 1)=(g:Int):=by
   by_cases c:((2 ^ kw:Nat):Int) / 2 > 1
   ·exact ⟨2 ^ kw / 2,by omega,by omega,by rw [if_pos c]; omega⟩
   ·exact ⟨1,by omega,by omega,by rw [if_neg c]; rfl⟩
  have tp:∀ H',(∀ a xs,H7 a=some (.tup xs) -> H' a=some (.tup xs)) -> Tv p H' (pdat P) (.ref t7):=λ H' T=>zdM (p7.mono T);refine zjy (n:=m) rfl (1:) ?_;refine zdF (λ i σ H'=>Hand H' p /\ (∀ a xs,H7 a=some (.tup xs) -> H' a=some (.tup xs)) /\ ∃ v5,σ=[some (.ref b),some (.ref p),some (nV (2 ^ kw)),some (.ref t),some (.ref t7),v5]) ⟨h7,λ _ _ e=>e,none,rfl⟩ ?_ ?_
  ·rintro i σ H8 hi ⟨h8, T8, v5, rfl⟩;symm;rw [eg];refine ⟨p, t7, P, kw, gf, rfl, h8, p7.mono T8, ok.1, (show kw <= 6 from hk6), hk6, g1, g2, fun v d H9 b9 h9 tv bv => ?_⟩;have T9 : ∀ a xs, H7 a = some (.tup xs) -> H9 a = some (.tup xs) := fun a xs e => zaT h8 b9 _ _ (T8 _ _ e);symm;refine ⟨p, t, v, d, ls, kw, rfl, T9 _ _ n7, E, hl, hk6, tv, bv.mono (show szP kw + 200 <= 9900 by omega) (1:), fun H10 s10 => ?_⟩;have h10 := h9.same s10;symm;refine ⟨p, 2 ^ kw, rfl, h10, w1, h64, fun t2 ms2 H11 pm2 b11 h11 n11 => ?_⟩;have T11 : ∀ a xs, H7 a = some (.tup xs) -> H11 a = some (.tup xs) := fun a xs e => zaT h10 b11 _ _ (s10 _ _ (T9 _ _ e));have n11' : H11 t2 = some (.tup ((ms2.map fun (x : Nat) => (x : Int)).map V.int)) := by rw [n11, ya4]; rfl
   symm;refine ⟨p,t2,.ref t7,pdat P,_,kw,rfl,n11',zfN pm2,by rw [yaa,pm2.length_eq,yas],hk6,tp H11 T11,bp.mono (1:) (1:),λ H12 s12=>?_⟩;symm;exact ⟨h11.same s12,λ a xs e=>s12 _ _ (T11 _ _ e),_,rfl⟩
  rintro σ H8 ⟨h8,T8,v5,rfl⟩;symm;exact ⟨p,t,.ref t7,pdat P,ls,kw,rfl,T8 _ _ n7,E,hl,hk6,tp H8 T8,bp.mono (1:) (1:),λ H9 _=>k H9⟩
end
def all_mk {l:PySem.W.OpenLaw} {w:World} {K:PySem.W.Frag} {h:Heap} {mg:Str -> Option Value} {fa:Addr} (X:K.In h) (G:h.Ns mainGlobals mg) (hfa:mg "law"=some (.ref fa))
  {t_NOUGHT t_ONE t_WIDEST:Tok}
  {ta_HALVED_WIDTHS:Addr} {to_HALVED_WIDTHS:Option Addr} {tn_HALVED_WIDTHS:Nat} {ts_HALVED_WIDTHS:Array (Option Value)} {t_HALVED_WIDTHS0 t_HALVED_WIDTHS1 t_HALVED_WIDTHS2 t_HALVED_WIDTHS3 t_HALVED_WIDTHS4 t_HALVED_WIDTHS5 t_HALVED_WIDTHS6:Tok}
  (a0:At K "is_even" zeb)
  (a1:At K "check_halved" zbR)
  (a2:At K "mask_of" zd8)
  (a3:At K "turned_back" zbv)
  (a4:At K "opposite" zdv)
  (a5:At K "through_upper" zbJ)
  (a6:At K "with_paper" zcl)
  (a7:At K "paper_of" zbe)
  (a8:At K "halves" zfu)
  (a9:At K "_law_hand" zca)
  (a10:At K "_law_draw" zc1)
  (a11:At K "_law_even" zcZ)
  (a12:At K "_law_thing" zct)
  (a13:At K "_law_bent_leading" zaX)
  (a14:At K "_law_bent" zc2)
  (a15:At K "low" zkS)
  (a16:At K "is_within" zcY)
  (a17:At K "is_leading" zbL)
  (a18:At K "is_part" zea)
  (a19:At K "has_form" zdw)
  (a20:At K "then" zg8)
  (a21:At K "bit_at" zff)
  (a22:At K "places_in" zb3)
  (a23:At K "gather_leading" zbo)
  (a24:At K "strew_leading" zbI)
  (a25:At K "place_or_nought" zbg)
  (a26:At K "copy_source" zb7)
  (a27:At K "source_of" zcW)
  (a28:At K "deed_leading" zbj)
  (a29:At K "exchange" zdD)
  (a30:At K "joined" zd3)
  (a31:At K "shows_part" zcw)
  (a32:At K "shows_halves" zbP)
  (a33:At K "_law_is_mask" zbQ)
  (a34:At K "_law_exchanged" zbn)
  (a35:At K "_law_is_order" za3)
  (a36:At K "_law_paper_right" zaH)
  (a37:At K "_law_as_due" zb8)
  (a38:At K "law" zgT)
  (z_abs:PySem.W.nsIn K mainGlobals "abs"=some none)
  (z_all:PySem.W.nsIn K mainGlobals "all"=some none)
  (z_bool:PySem.W.nsIn K mainGlobals "bool"=some none)
  (z_enumerate:PySem.W.nsIn K mainGlobals "enumerate"=some none)
  (z_int:PySem.W.nsIn K mainGlobals "int"=some none)
  (z_isinstance:PySem.W.nsIn K mainGlobals "isinstance"=some none)
  (z_len:PySem.W.nsIn K mainGlobals "len"=some none)
  (z_list:PySem.W.nsIn K mainGlobals "list"=some none)
  (z_max:PySem.W.nsIn K mainGlobals "max"=some none)
  (z_min:PySem.W.nsIn K mainGlobals "min"=some none)
  (z_range:PySem.W.nsIn K mainGlobals "range"=some none)
  (z_sorted:PySem.W.nsIn K mainGlobals "sorted"=some none)
  (z_str:PySem.W.nsIn K mainGlobals "str"=some none)
  (z_tuple:PySem.W.nsIn K mainGlobals "tuple"=some none)
  (y_NOUGHT:PySem.W.nsIn K mainGlobals "NOUGHT"=some (some (.int (-1) t_NOUGHT)))
  (y_ONE:PySem.W.nsIn K mainGlobals "ONE"=some (some (.int (-2) t_ONE)))
  (y_WIDEST:PySem.W.nsIn K mainGlobals "WIDEST"=some (some (.int (64) t_WIDEST)))
  (y_HALVED_WIDTHS:PySem.W.nsIn K mainGlobals "HALVED_WIDTHS"=some (some (.ref ta_HALVED_WIDTHS))) (x_HALVED_WIDTHS:K.lookup ta_HALVED_WIDTHS=some ⟨.type "tuple",to_HALVED_WIDTHS,.seq (List.toArray [Value.int 1 t_HALVED_WIDTHS0,Value.int 2 t_HALVED_WIDTHS1,Value.int 4 t_HALVED_WIDTHS2,Value.int 8 t_HALVED_WIDTHS3,Value.int 16 t_HALVED_WIDTHS4,Value.int 32 t_HALVED_WIDTHS5,Value.int 64 t_HALVED_WIDTHS6]) tn_HALVED_WIDTHS,ts_HALVED_WIDTHS⟩)
  : ∃ fd:FuncData,(∀ (s:Shared) (v:Value),BindsTo s fd ⟨[v],[]⟩ [("_law_script",v)]) /\ ∀ base:Heap,K.In base -> base.Ns mainGlobals mg -> FnOk l.prog w K mg base CX0 22 fa fd ["_law_script"] (zkr K):=by
 obtain ⟨ff,od,an38,sl,oc,kV38,dc38,pm38,cd38,ct38,aa,ll,cc,kk⟩:=a38;have e:=hfa.symm.trans (ybG X G aa);cases e;have B:Blt K mg:=⟨yaA X G z_abs,yaA X G z_all,yaA X G z_bool,yaA X G z_enumerate,yaA X G z_int,yaA X G z_isinstance,yaA X G z_len,yaA X G z_list,yaA X G z_max,yaA X G z_min,yaA X G z_range,yaA X G z_sorted,yaA X G z_str,yaA X G z_tuple,⟨_,ybG X G y_HALVED_WIDTHS,λ H=>.inr ⟨_,_,_,x_HALVED_WIDTHS,rfl,rfl,yay (L2.small5 (show (7:Nat) <= 100000 by decide)),(.cons ⟨_,rfl⟩ (.cons ⟨_,rfl⟩ (.cons ⟨_,rfl⟩ (.cons ⟨_,rfl⟩ (.cons ⟨_,rfl⟩ (.cons ⟨_,rfl⟩ (.cons ⟨_,rfl⟩ .nil)))))))⟩⟩,⟨_,ybG X G y_NOUGHT⟩,⟨_,ybG X G y_ONE⟩,⟨_,ybG X G y_WIDEST⟩⟩
 have F38:=zkB (st:=zgT) ll cc kk;refine ⟨PySem.W.fnOf "law" "law" (zc3 zgT) (zco zgT) (zag zgT) .none kV38 dc38 pm38 an38 cd38 ct38,λ s v=>.of_eq rfl,λ base _ _=>?_⟩;have g_is_even:A0 l.prog w K mg base:=a0.at X G (31:) λ _ _=>zhV B ;have g_check_halved:A1 l.prog w K mg base:=a1.at X G (31:) λ _ _=>zei B ;have g_mask_of:A2 l.prog w K mg base:=a2.at X G (31:) λ _ _=>zh8 B ;have g_turned_back:A3 l.prog w K mg base:=a3.at X G (31:) λ _ _=>zeC B g_is_even;have g_opposite:A4 l.prog w K mg base:=a4.at X G (30:) λ _ _=>zgC B ;have g_through_upper:A5 l.prog w K mg base:=a5.at X G (31:) λ _ _=>zdV B g_turned_back g_opposite;have g0_paper_of:FnAt l.prog w K mg base "paper_of" ["leading"] (2 * 0 + 3) (zbC 0):=a7.at X G (31:) λ _ _ _=>⟨λ _ _ _ _ h=>h.elim,λ _ _ _ _ _ _ _ _ _ _ _ _ _ h=>h.elim⟩
 have g1_with_paper:FnAt l.prog w K mg base "with_paper" ["leading"] (2 * 0 + 4) (zb5 (0 + 1)):=a6.at X G (31:) λ _ _=>zaL (j:=0) B  g0_paper_of;have g1_paper_of:FnAt l.prog w K mg base "paper_of" ["leading"] (2 * 1 + 3) (zbC 1):=a7.at X G (31:) λ _ _=>zaZ (j:=0) B g_mask_of g_through_upper g1_with_paper;have g2_with_paper:FnAt l.prog w K mg base "with_paper" ["leading"] (2 * 1 + 4) (zb5 (1 + 1)):=a6.at X G (31:) λ _ _=>zaL (j:=1) B  g1_paper_of;have g2_paper_of:FnAt l.prog w K mg base "paper_of" ["leading"] (2 * 2 + 3) (zbC 2):=a7.at X G (31:) λ _ _=>zaZ (j:=1) B g_mask_of g_through_upper g2_with_paper;have g3_with_paper:FnAt l.prog w K mg base "with_paper" ["leading"] (2 * 2 + 4) (zb5 (2 + 1)):=a6.at X G (31:) λ _ _=>zaL (j:=2) B  g2_paper_of;have g3_paper_of:FnAt l.prog w K mg base "paper_of" ["leading"] (2 * 3 + 3) (zbC 3):=a7.at X G (31:) λ _ _=>zaZ (j:=2) B g_mask_of g_through_upper g3_with_paper;have g4_with_paper:FnAt l.prog w K mg base "with_paper" ["leading"] (2 * 3 + 4) (zb5 (3 + 1)):=a6.at X G (31:) λ _ _=>zaL (j:=3) B  g3_paper_of;have g4_paper_of:FnAt l.prog w K mg base "paper_of" ["leading"] (2 * 4 + 3) (zbC 4):=a7.at X G (31:) λ _ _=>zaZ (j:=3) B g_mask_of g_through_upper g4_with_paper;have g5_with_paper:FnAt l.prog w K mg base "with_paper" ["leading"] (2 * 4 + 4) (zb5 (4 + 1)):=a6.at X G (31:) λ _ _=>zaL (j:=4) B  g4_paper_of;have g5_paper_of:FnAt l.prog w K mg base "paper_of" ["leading"] (2 * 5 + 3) (zbC 5):=a7.at X G (31:) λ _ _=>zaZ (j:=4) B g_mask_of g_through_upper g5_with_paper;have g6_with_paper:FnAt l.prog w K mg base "with_paper" ["leading"] (2 * 5 + 4) (zb5 (5 + 1)):=a6.at X G (31:) λ _ _=>zaL (j:=5) B  g5_paper_of;have g6_paper_of:FnAt l.prog w K mg base "paper_of" ["leading"] (2 * 6 + 3) (zbC 6):=a7.at X G (31:) λ _ _=>zaZ (j:=5) B g_mask_of g_through_upper g6_with_paper;have g7_with_paper:FnAt l.prog w K mg base "with_paper" ["leading"] (2 * 6 + 4) (zb5 (6 + 1)):=a6.at X G (31:) λ _ _=>zaL (j:=6) B  g6_paper_of;have g_paper_of:FnAt l.prog w K mg base "paper_of" ["leading"] (2 * 7 + 3) (zbC 7):=a7.at X G (31:) λ _ _=>zaZ (j:=6) B g_mask_of g_through_upper g7_with_paper;have g_halves:A8 l.prog w K mg base:=a8.at X G (31:) λ _ _=>ziQ B g_is_even g_check_halved g_paper_of;have g__law_hand:A9 l.prog w K mg base:=a9.at X G (31:) λ _ _=>zga B ;have g__law_draw:A10 l.prog w K mg base:=a10.at X G (30:) λ _ _=>zgc B ;have g__law_even:A11 l.prog w K mg base:=a11.at X G (30:) λ _ _=>zfM B g__law_draw;have g__law_thing:A12 l.prog w K mg base:=a12.at X G (31:) λ _ _=>zfl B g__law_draw;have g__law_bent_leading:A13 l.prog w K mg base:=a13.at X G (30:) λ _ _=>zcM B g__law_draw g__law_thing;have g0__law_bent:FnAt l.prog w K mg base "_law_bent" ["_law_hand_here","_law_paper","_law_half"] (0 + 3) (zbB 0):=a14.at X G (54:) λ _ _ _=>⟨λ _ _ _ _ h=>h.elim,λ _ _ _ _ _ _ _ _ _ _ _ _ _ h=>h.elim⟩
 have g1__law_bent:FnAt l.prog w K mg base "_law_bent" ["_law_hand_here","_law_paper","_law_half"] (1 + 3) (zbB 1):=a14.at X G (54:) λ _ _=>zaQ (j:=0) B g__law_draw g__law_thing g__law_bent_leading g0__law_bent;have g2__law_bent:FnAt l.prog w K mg base "_law_bent" ["_law_hand_here","_law_paper","_law_half"] (2 + 3) (zbB 2):=a14.at X G (54:) λ _ _=>zaQ (j:=1) B g__law_draw g__law_thing g__law_bent_leading g1__law_bent;have g3__law_bent:FnAt l.prog w K mg base "_law_bent" ["_law_hand_here","_law_paper","_law_half"] (3 + 3) (zbB 3):=a14.at X G (54:) λ _ _=>zaQ (j:=2) B g__law_draw g__law_thing g__law_bent_leading g2__law_bent;have g4__law_bent:FnAt l.prog w K mg base "_law_bent" ["_law_hand_here","_law_paper","_law_half"] (4 + 3) (zbB 4):=a14.at X G (54:) λ _ _=>zaQ (j:=3) B g__law_draw g__law_thing g__law_bent_leading g3__law_bent;have g5__law_bent:FnAt l.prog w K mg base "_law_bent" ["_law_hand_here","_law_paper","_law_half"] (5 + 3) (zbB 5):=a14.at X G (54:) λ _ _=>zaQ (j:=4) B g__law_draw g__law_thing g__law_bent_leading g4__law_bent;have g6__law_bent:FnAt l.prog w K mg base "_law_bent" ["_law_hand_here","_law_paper","_law_half"] (6 + 3) (zbB 6):=a14.at X G (54:) λ _ _=>zaQ (j:=5) B g__law_draw g__law_thing g__law_bent_leading g5__law_bent;have g__law_bent:FnAt l.prog w K mg base "_law_bent" ["_law_hand_here","_law_paper","_law_half"] (7 + 3) (zbB 7):=a14.at X G (54:) λ _ _=>zaQ (j:=6) B g__law_draw g__law_thing g__law_bent_leading g6__law_bent;have g_low:A15 l.prog w K mg base:=a15.at X G (31:) λ _ _=>zni B ;have g_is_within:A16 l.prog w K mg base:=a16.at X G (54:) λ _ _=>zgj B ;have g_is_leading:A17 l.prog w K mg base:=a17.at X G (31:) λ _ _=>zfd B g_is_within;have g_is_part:A18 l.prog w K mg base:=a18.at X G (30:) λ _ _=>zhK B g_is_leading g_is_even;have g_has_form:A19 l.prog w K mg base:=a19.at X G (30:) λ _ _=>zg1 B g_low g_is_within g_is_part;have g_then:A20 l.prog w K mg base:=a20.at X G (30:) λ _ _=>zlf B ;have g_bit_at:A21 l.prog w K mg base:=a21.at X G (30:) λ _ _=>ziH B ;have g_places_in:A22 l.prog w K mg base:=a22.at X G (31:) λ _ _=>zf0 B g_bit_at;have g_gather_leading:A23 l.prog w K mg base:=a23.at X G (30:) λ _ _=>zdC B g_places_in;have g_strew_leading:A24 l.prog w K mg base:=a24.at X G (30:) λ _ _=>zdU B g_places_in;have g_place_or_nought:A25 l.prog w K mg base:=a25.at X G (30:) λ _ _=>zdk B g_is_within;have g_copy_source:A26 l.prog w K mg base:=a26.at X G (54:) λ _ _=>zez B g_bit_at;have g_source_of:A27 l.prog w K mg base:=a27.at X G (54:) λ _ _=>zgn B g_bit_at g_place_or_nought g_copy_source;have g_deed_leading:A28 l.prog w K mg base:=a28.at X G (30:) λ _ _=>zd6 B g_gather_leading g_strew_leading g_source_of;have g_exchange:A29 l.prog w K mg base:=a29.at X G (30:) λ _ _=>zgN B g_deed_leading;have g_joined:A30 l.prog w K mg base:=a30.at X G (30:) λ _ _=>zit B g_then g_exchange;have g0_shows_halves:FnAt l.prog w K mg base "shows_halves" ["leading","paper"] (2 * 0 + 6) (zaS 0):=a32.at X G (30:) λ _ _ _=>⟨λ _ _ _ _ h=>h.elim,λ _ _ _ _ _ _ _ _ _ _ _ _ _ h=>h.elim⟩
 have g1_shows_part:FnAt l.prog w K mg base "shows_part" ["part"] (2 * 0 + 7) (za9 (0 + 1)):=a31.at X G (31:) λ _ _=>zaM (j:=0) B  g0_shows_halves;have g1_shows_halves:FnAt l.prog w K mg base "shows_halves" ["leading","paper"] (2 * 1 + 6) (zaS 1):=a32.at X G (30:) λ _ _=>zaF (j:=0) B g_has_form g_joined g1_shows_part;have g2_shows_part:FnAt l.prog w K mg base "shows_part" ["part"] (2 * 1 + 7) (za9 (1 + 1)):=a31.at X G (31:) λ _ _=>zaM (j:=1) B  g1_shows_halves;have g2_shows_halves:FnAt l.prog w K mg base "shows_halves" ["leading","paper"] (2 * 2 + 6) (zaS 2):=a32.at X G (30:) λ _ _=>zaF (j:=1) B g_has_form g_joined g2_shows_part;have g3_shows_part:FnAt l.prog w K mg base "shows_part" ["part"] (2 * 2 + 7) (za9 (2 + 1)):=a31.at X G (31:) λ _ _=>zaM (j:=2) B  g2_shows_halves;have g3_shows_halves:FnAt l.prog w K mg base "shows_halves" ["leading","paper"] (2 * 3 + 6) (zaS 3):=a32.at X G (30:) λ _ _=>zaF (j:=2) B g_has_form g_joined g3_shows_part;have g4_shows_part:FnAt l.prog w K mg base "shows_part" ["part"] (2 * 3 + 7) (za9 (3 + 1)):=a31.at X G (31:) λ _ _=>zaM (j:=3) B  g3_shows_halves;have g4_shows_halves:FnAt l.prog w K mg base "shows_halves" ["leading","paper"] (2 * 4 + 6) (zaS 4):=a32.at X G (30:) λ _ _=>zaF (j:=3) B g_has_form g_joined g4_shows_part;have g5_shows_part:FnAt l.prog w K mg base "shows_part" ["part"] (2 * 4 + 7) (za9 (4 + 1)):=a31.at X G (31:) λ _ _=>zaM (j:=4) B  g4_shows_halves;have g5_shows_halves:FnAt l.prog w K mg base "shows_halves" ["leading","paper"] (2 * 5 + 6) (zaS 5):=a32.at X G (30:) λ _ _=>zaF (j:=4) B g_has_form g_joined g5_shows_part;have g6_shows_part:FnAt l.prog w K mg base "shows_part" ["part"] (2 * 5 + 7) (za9 (5 + 1)):=a31.at X G (31:) λ _ _=>zaM (j:=5) B  g5_shows_halves;have g6_shows_halves:FnAt l.prog w K mg base "shows_halves" ["leading","paper"] (2 * 6 + 6) (zaS 6):=a32.at X G (30:) λ _ _=>zaF (j:=5) B g_has_form g_joined g6_shows_part;have g7_shows_part:FnAt l.prog w K mg base "shows_part" ["part"] (2 * 6 + 7) (za9 (6 + 1)):=a31.at X G (31:) λ _ _=>zaM (j:=6) B  g6_shows_halves;have g_shows_halves:FnAt l.prog w K mg base "shows_halves" ["leading","paper"] (2 * 7 + 6) (zaS 7):=a32.at X G (30:) λ _ _=>zaF (j:=6) B g_has_form g_joined g7_shows_part;have g__law_is_mask:A33 l.prog w K mg base:=a33.at X G (30:) λ _ _=>zew B ;have g__law_exchanged:A34 l.prog w K mg base:=a34.at X G (30:) λ _ _=>zdB B ;have g__law_is_order:A35 l.prog w K mg base:=a35.at X G (30:) λ _ _=>zdZ B ;have g0__law_paper_right:FnAt l.prog w K mg base "_law_paper_right" ["_law_leading","_law_paper"] (0 + 1) (zaG 0):=a36.at X G (30:) λ _ _ _=>⟨λ _ _ _ _ h=>h.elim,λ _ _ _ _ _ _ _ _ _ _ _ _ _ h=>h.elim⟩
 have g1__law_paper_right:FnAt l.prog w K mg base "_law_paper_right" ["_law_leading","_law_paper"] (1 + 1) (zaG 1):=a36.at X G (30:) λ _ _=>zaz (j:=0) B g__law_is_mask g__law_exchanged g__law_is_order g0__law_paper_right;have g2__law_paper_right:FnAt l.prog w K mg base "_law_paper_right" ["_law_leading","_law_paper"] (2 + 1) (zaG 2):=a36.at X G (30:) λ _ _=>zaz (j:=1) B g__law_is_mask g__law_exchanged g__law_is_order g1__law_paper_right;have g3__law_paper_right:FnAt l.prog w K mg base "_law_paper_right" ["_law_leading","_law_paper"] (3 + 1) (zaG 3):=a36.at X G (30:) λ _ _=>zaz (j:=2) B g__law_is_mask g__law_exchanged g__law_is_order g2__law_paper_right;have g4__law_paper_right:FnAt l.prog w K mg base "_law_paper_right" ["_law_leading","_law_paper"] (4 + 1) (zaG 4):=a36.at X G (30:) λ _ _=>zaz (j:=3) B g__law_is_mask g__law_exchanged g__law_is_order g3__law_paper_right;have g5__law_paper_right:FnAt l.prog w K mg base "_law_paper_right" ["_law_leading","_law_paper"] (5 + 1) (zaG 5):=a36.at X G (30:) λ _ _=>zaz (j:=4) B g__law_is_mask g__law_exchanged g__law_is_order g4__law_paper_right;have g6__law_paper_right:FnAt l.prog w K mg base "_law_paper_right" ["_law_leading","_law_paper"] (6 + 1) (zaG 6):=a36.at X G (30:) λ _ _=>zaz (j:=5) B g__law_is_mask g__law_exchanged g__law_is_order g5__law_paper_right;have g__law_paper_right:FnAt l.prog w K mg base "_law_paper_right" ["_law_leading","_law_paper"] (7 + 1) (zaG 7):=a36.at X G (30:) λ _ _=>zaz (j:=6) B g__law_is_mask g__law_exchanged g__law_is_order g6__law_paper_right;have g__law_as_due:A37 l.prog w K mg base:=a37.at X G (30:) λ _ _=>zeB B g_shows_halves g__law_paper_right;exact zl4 B g_halves g__law_hand g__law_draw g__law_even g__law_bent g__law_as_due F38
def walk {l:PySem.W.OpenLaw} {q:Program} {loose:List Str} {XP:(Str -> Option Value) -> Heap -> Prop} {YP:World -> Heap -> Prop} {d:DefRec} {K:Params -> PySem.W.Frag} (hn:l.most=some 63) (hdf:d.params.defaults=[])
  (hY:∀ (w:World) (h:Heap),YP w h -> (K w.params).In h)
  (F : ∀ (w : World) (mg : Str -> Option Value) (fa : Addr) (h : Heap), (K w.params).In h -> h.Ns mainGlobals mg -> mg d.name = some (.ref fa) ->
   ∃ fd:FuncData,(∀ (s:Shared) (u:Value),BindsTo s fd ⟨[u],[]⟩ [("_law_script",u)]) /\ ∀ base:Heap,(K w.params).In base -> base.Ns mainGlobals mg -> FnOk l.prog w (K w.params) mg base CX0 22 fa fd ["_law_script"] (zkr (K w.params))) :
  PySem.W.WalkO q loose XP YP l.row.toRowW d [] (λ f vs=>PySem.call f vs):=
 L2.walk_of (n:=63) (k:=22) (x:="_law_script") (CX:=λ _=>CX0) (sp:=λ w=>zkr (K w.params)) hn (3:) hdf ⟨rfl,by decide,by decide,rfl⟩ hY F (λ _ _ a ns hl _ hS=>⟨a,ns,rfl,hS,hl,λ _=>rfl⟩) λ _ _ _ _ _ z=>z
end Lw
local macro_rules | `(tactic| walk_at "at")=>`(tactic| (refine' Lw.At.mk ?xn ?xl ?xc ?xk; (case xn=>k_is); (case xl=>k_is); (case xc=>k_is); (case xk=>k_is)))
open PySem PySem.W PyProof.Rows
set_option maxRecDepth 100000 in
set_option maxHeartbeats 0 in
theorem PySem.Challenge.cw_bitlead_k23_papers_spoilt_holds : PySem.Challenge.rw_bitlead_k23_papers_spoilt.Holds := by
 w_on; o_law; k_head; (case hw=>w_witness2)
 k_fill
 refine Lw.walk (l:=PySem.Challenge.rw_bitlead_k23_papers_spoilt) rfl rfl (λ w h Y=>PySem.W.kIn_of Y) ?F
 case F=>
  intro w mg fa h KX G hmg;refine' Lw.all_mk KX G hmg ?a0 ?a1 ?a2 ?a3 ?a4 ?a5 ?a6 ?a7 ?a8 ?a9 ?a10 ?a11 ?a12 ?a13 ?a14 ?a15 ?a16 ?a17 ?a18 ?a19 ?a20 ?a21 ?a22 ?a23 ?a24 ?a25 ?a26 ?a27 ?a28 ?a29 ?a30 ?a31 ?a32 ?a33 ?a34 ?a35 ?a36 ?a37 ?a38 ?z_abs ?z_all ?z_bool ?z_enumerate ?z_int ?z_isinstance ?z_len ?z_list ?z_max ?z_min ?z_range ?z_sorted ?z_str ?z_tuple ?y_NOUGHT ?y_ONE ?y_WIDEST ?y_HALVED_WIDTHS ?x_HALVED_WIDTHS
  (case a0=>walk_at "at")
  (case a1=>walk_at "at")
  (case a2=>walk_at "at")
  (case a3=>walk_at "at")
  (case a4=>walk_at "at")
  (case a5=>walk_at "at")
  (case a6=>walk_at "at")
  (case a7=>walk_at "at")
  (case a8=>walk_at "at")
  (case a9=>walk_at "at")
  (case a10=>walk_at "at")
  (case a11=>walk_at "at")
  (case a12=>walk_at "at")
  (case a13=>walk_at "at")
  (case a14=>walk_at "at")
  (case a15=>walk_at "at")
  (case a16=>walk_at "at")
  (case a17=>walk_at "at")
  (case a18=>walk_at "at")
  (case a19=>walk_at "at")
  (case a20=>walk_at "at")
  (case a21=>walk_at "at")
  (case a22=>walk_at "at")
  (case a23=>walk_at "at")
  (case a24=>walk_at "at")
  (case a25=>walk_at "at")
  (case a26=>walk_at "at")
  (case a27=>walk_at "at")
  (case a28=>walk_at "at")
  (case a29=>walk_at "at")
  (case a30=>walk_at "at")
  (case a31=>walk_at "at")
  (case a32=>walk_at "at")
  (case a33=>walk_at "at")
  (case a34=>walk_at "at")
  (case a35=>walk_at "at")
  (case a36=>walk_at "at")
  (case a37=>walk_at "at")
  (case a38=>walk_at "at")
  (case z_abs=>k_is)
  (case z_all=>k_is)
  (case z_bool=>k_is)
  (case z_enumerate=>k_is)
  (case z_int=>k_is)
  (case z_isinstance=>k_is)
  (case z_len=>k_is)
  (case z_list=>k_is)
  (case z_max=>k_is)
  (case z_min=>k_is)
  (case z_range=>k_is)
  (case z_sorted=>k_is)
  (case z_str=>k_is)
  (case z_tuple=>k_is)
  (case y_NOUGHT=>k_is)
  (case y_ONE=>k_is)
  (case y_WIDEST=>k_is)
  (case y_HALVED_WIDTHS=>k_is)
  (case x_HALVED_WIDTHS=>k_is)
