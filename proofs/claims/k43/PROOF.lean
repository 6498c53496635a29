import PyProof.Rows.All
import Wide.All
import OpenK.AllK
import Wide.FinOn
import Lean
import PyProof.EqAt
import PyProof.EqKinds
import PyProof.TupleCall
import PySem.Challenge.RW_bitlead_k43_whole_there_and_back
local macro_rules|`(tactic|omega)=>`(tactic|first|lia|omega (config:={}))
set_option Elab.async false
set_option linter.all false
set_option maxRecDepth 100000
set_option hygiene false in
local macro_rules
 | `((28:))=>`(by walk_at "pv")
 | `((0:))=>`(by rfl)
 | `((2:))=>`(@zaa _ _ _ _ _)
 | `((3:))=>`(by decide)
 | `((1:))=>`(by omega)
 | `((27:))=>`(@zaA _ _ _ _ _ _ _ (@k_ix _ K (0:)) (@pv1 _ 1 _ _ (28:)) (@zad _ _ _ _) (λ _ _=>rfl))
 | `((10:))=>`(@zah _ _ _ _ _ _ _ _ _ _)
 | `((29:))=>`(λ _ _ F=>F.binds λ _ _ _ _ _ _ us hl=>match us,hl with | [_,_],_=>rfl)
 | `((12:))=>`(@pv1 _ 0 _ _ (28:))
 | `((11:))=>`(@zao _ _ _ _ _ _ _ _)
 | `((14:))=>`(@pv1 _ 2 _ _ (28:))
 | `((7:))=>`(@zad _ _ _ _)
 | `((36:))=>`(@zak _ _ _ _ _ _ _ _ (@k_eq _ K hu (0:)) (@pv1 _ 3 _ _ (28:)) (@zaT _ _ _ _) (@zap _ _ (3:) (3:)))
 | `((34:))=>`(λ _ _ F=>F.binds λ _ _ _ _ _ _ us hl=>match us,hl with | [_,_,_],_=>rfl)
 | `((16:))=>`(by walk_at "vis")
 | `((15:))=>`(@pv1 _ 1 _ _ (28:))
 | `((9:))=>`(hr.mono (3:))
 | `((8:))=>`(@zac _ _ _ _ _)
 | `((19:))=>`(@zaz _ _ _ _ _ _ _ _)
 | `((20:))=>`(@zak _ _ _ _ _ _ _ _)
 | `((18:))=>`(@pv1 _ 3 _ _ (28:))
 | `((22:))=>`(@zap _ _ (3:) (3:))
 | `((37:))=>`(@zaA _ _ _ _ _ _ _ (@k_ix _ K (0:)) (12:) (7:) (λ _ _=>rfl))
 | `((43:))=>`(λ _ _ F=>F.binds λ _ _ _ _ _ _ us hl=>match us,hl with | [_],_=>rfl)
 | `((57:))=>`(@zc6 _ K _ _ _ _ 2 rfl (@zaK _ _ _ _ _ (@zav _ _ 3 _ nd rfl (Or.inl rfl) (16:)) (@zaK _ _ _ _ _ (@zav _ _ 4 _ nd rfl (Or.inl rfl) (16:)) (@zc1 _) (0:)) (0:)) (0:) (0:) (0:))
 | `((13:))=>`(@zaj _ _ _ _)
 | `((4:))=>`(@zab _)
 | `((6:))=>`(@zae _ _ _)
 | `((5:))=>`(by simp)
 | `((17:))=>`(Or.inl rfl)
 | `((24:))=>`(@pv1 _ 4 _ _ (28:))
 | `((23:))=>`(by intro _; rfl)
 | `((25:))=>`(@k_eq _ K hu (0:))
 | `((60:))=>`(@zaN _ _ _ _ _ _ rfl B.b_range ((2:) (@zaE _ _ _ _ _ _ _ _ _ (@zgu _ K (0:)) rfl B.b_len boot_len ((2:) (12:) (4:) (0:)) (3:) (3:) (0:) (0:)) (4:) (0:)) (0:))
 | `((26:))=>`(@zaD _ _ _ _ _ _)
 | `((30:))=>`(by simpa using hz)
 | `((64:))=>`(@zeH _ _ _ _ (@k_bm _ K _ _ _ _ _ _ _ _ _ _ _ ybg PySem.F.slot_list_insert PySem.F.type_list_insert (@zgL _) (14:) ((2:) (7:) ((2:) ((10:) g_undone_deed (9:) ((2:) (12:) ((2:) (24:) (4:) (0:)) (0:)) (0:) (3:) (0:) (0:)) (4:) (0:)) (0:)) (0:) (0:) (0:) (0:) (0:) (0:)) (0:))
 | `((61:))=>`(@zbN _ K _ _ _ _ _ _ _ B.b_enumerate ((2:) ((10:) g_places_in (9:) ((2:) (15:) (4:) (0:)) (0:) (3:) (0:) (0:)) (4:) (0:)) (0:) (0:) (0:))
 | `((32:))=>`(by decide +kernel)
 | `((38:))=>`(@zaE _ _ _ _ _ _ _ _ _)
 | `((52:))=>`(by intro z; have z':@Eq Nat _ _:=z; omega)
 | `((39:))=>`(@zbz _ _ _ _ _ _ _ _)
 | `((33:))=>`(@zbK _ K (0:))
 | `((31:))=>`(@zaU _ _ _ _ _)
 | `((49:))=>`(@zbf _ _ _ _ B.g_NOUGHT (0:) (3:))
 | `((65:))=>`(@zdU _ _ _ _ (@zcX _ _ _ ((10:) g_is_even (9:) ((2:) ((10:) g_deed_leading (9:) ((2:) (12:) ((2:) (24:) (4:) (0:)) (0:)) (0:) (3:) (0:) (0:)) (4:) (0:)) (0:) (3:) (0:) (0:)) (23:)))
 | `((62:))=>`(@zaA _ _ _ _ _ _ _ (@k_ix _ K (0:)) (24:) (@ziS _ _ _ _ _ _ (@zfr _) (7:)) (λ _ _=>rfl))
 | `((21:))=>`(@zan _)
 | `((41:))=>`(by simpa using hq)
 | `((35:))=>`(by simp; omega)
 | `((42:))=>`(@pv1 _ 5 _ _ (28:))
 | `((66:))=>`(@zas _ _ 3 _ _ _ _ nd rfl (17:) ((10:) g__law_draw (9:) ((2:) (12:) ((2:) (7:) (4:) (0:)) (0:)) (0:) (3:) (0:) (0:)) (0:) (16:))
 | `((58:))=>`(@zhe _ _ _ _ _ _ _ (12:) (7:) (@zdl _) (23:))
 | `((67:))=>`(@zav _ _ 0 _ (show List.Nodup (["_law_k","_law_hand_here","_law_width_here"]:List Str) by decide +kernel) rfl (17:) (16:))
 | `((50:))=>`(by rw [hDd]; exact hCle)
 | `((63:))=>`(@zas _ _ 2 _ _ _ _ nd rfl (17:) (@zbO _ _ _ _ (4:)) (0:) (16:))
 | `((40:))=>`(@zds _ _ _ _)
 | `((68:))=>`(@k_bm _ K _ _ _ _ _ _ _ _ _ _ _ ybV ybW ybX (@ze8 _ K (0:)) (12:) ((2:) (14:) (4:) (0:)) (0:) (0:) (0:) (0:) (0:) (0:))
 | `((46:))=>`(@zbD _ _ _ _ _ _ _ _)
 | `((69:))=>`(@zav _ _ 0 _ (show List.Nodup (["place","leading","mask"]:List Str) by decide +kernel) rfl (17:) (16:))
 | `((51:))=>`(@zbu _ _ _ _ _ _ _ _ _)
 | `((44:))=>`(by simp [zar])
 | `((70:))=>`(@zas _ _ 2 _ _ _ _ nd rfl (17:) ((11:) (@zbg _) ((11:) (@za4 _) (7:) (15:)) (7:)) (0:) (16:))
 | `((59:))=>`(by show 2 <= sizeLine; decide)
 | `((47:))=>`(@zaN _ _ _ _ _ _)
 | `((71:))=>`(@zbN _ K _ _ _ _ _ _ _ B.b_enumerate ((2:) (15:) (4:) (0:)) (0:) (0:) (0:))
 | `((53:))=>`(by simpa using hw)
 | `((48:))=>`(@zgC _ K (0:))
 | `((54:))=>`(@k_ne _ K hu (0:))
 | `((55:))=>`(@zjq _ _ _ _ _ _ _)
 | `((56:))=>`(@zfq _ _ _ _ _ _ _)
 | `((45:))=>`(@zbO _ _ _ _)
def yaa:=@List.getElem?_eq_getElem
def yab:=@List.getD_eq_getElem?_getD
def yac:=@PySem.Heap.get?_push_of_some
def yad:=@List.length_map
def yae:=@PySem.Heap.lt_size
def yaf:=@Nat.lt_of_lt_of_le
def yag:=@List.getElem?_map
def yah:=@Nat.le_refl
def yai:=@Bool.and_eq_true
def yaj:=@List.getElem?_eq_some_iff
def yak:=@List.size_toArray
def yal:=@PySem.Heap.get?_push_size
def yam:=@Int.toNat_natCast
def yan:=@List.getElem?_range
def yao:=@List.mem_cons
def yap:=@Nat.ne_of_lt
def yaq:=@List.mem_range
def yar:=@List.length_range
def yas:=@List.take_of_length_le
def yat:=@List.map_append
def yau:=@List.mem_append
def yav:=@List.mem_cons_of_mem
def yaw:=@List.mem_of_getElem?
def yax:=@List.pairwise_append
def yay:=@Bool.false_ne_true
def yaz:=@List.mem_singleton
def yaA:=@List.append_assoc
def yaB:=@List.take_add_one
def yaC:=@List.mem_append_right
def yaD:=@PyProof.Rows.callWith_type1
def yaE:=@List.getElem?_eq_none
def yaF:=@List.mem_cons_self
def yaG:=@List.length_append
def yaH:=@Bool.false_eq_true
def yaI:=@PySem.W.mg_none_of
def yaJ:=@Nat.lt_irrefl
def yaK:=@Nat.le_of_lt
def yaL:=@List.not_mem_nil
def yaM:=@Nat.testBit_and
def yaN:=@Array.toList_append
def yaO:=@Nat.pow_le_pow_right
def yaP:=@List.mem_map
def yaQ:=@List.take_append_drop
def yaR:=@Nat.zero_le
def yaS:=@List.pairwise_iff_getElem
def yaT:=@List.length_take
def yaU:=@PySem.PassesOwn.never
def yaV:=@Nat.le_trans
def yaW:=@List.filter_append
def yaX:=@List.map_congr_left
def yaY:=@Nat.testBit_div_two_pow
def yaZ:=@List.mem_filter
def ya0:=@PySem.W.kia_one
def ya1:=@List.lookup_cons
def ya2:=@PySem.mem_of_lookup
def ya3:=@List.range_succ
def ya4:=@Nat.testBit_mul_two_pow
def ya5:=@Nat.testBit_two_pow_sub_one
def ya6:=@List.mem_append_left
def ya7:=@List.getElem_mem
def ya8:=@List.getElem?_append_right
def ya9:=@PySem.Heap.get?_update_other
def yba:=@List.replicate_succ
def ybb:=@List.reverse_append
def ybc:=@PySem.W.mg_of
def ybd:=@PySem.Heap.get?_update_self
def ybe:=@List.length_filter_le
def ybf:=@Nat.lt_of_le_of_lt
def ybg:=@PySem.F.plainAttrs_list
def ybh:=@PySem.Heap.size_push
def ybi:=@List.foldl_append
def ybj:=@Ne.symm
def ybk:=@List.append_nil
def ybl:=@Int.toNat_of_nonneg
def ybm:=@Nat.testBit_xor
def ybn:=@PySem.F.slot_tuple_iterator_next
def ybo:=@Nat.ne_of_gt
def ybp:=@List.map_map
def ybq:=@List.getElem?_append_left
def ybr:=@Nat.testBit_or
def ybs:=@List.extract_eq_take_drop
def ybt:=@Nat.pow_lt_pow_right
def ybu:=@List.mem_of_mem_take
def ybv:=@PyProof.Rows.slot_tuple_getitem
def ybw:=@Nat.mod_lt
def ybx:=@List.ext_getElem?
def yby:=@Bool.not_eq_true'
def ybz:=@Nat.min_eq_left
def ybA:=@Int.le_trans
def ybB:=@Nat.testBit_two_pow
def ybC:=@List.length_cons
def ybD:=@Nat.testBit_lt_two_pow
def ybE:=@List.pairwise_lt_range
def ybF:=@Nat.two_pow_pos
def ybG:=@Int.le_of_lt
def ybH:=@Int.le_refl
def ybI:=@List.idxOf_lt_length_of_mem
def ybJ:=@List.flatten_cons
def ybK:=@PySem.F.excBase_ValueError
def ybL:=@Array.getElem?_eq_some_iff
def ybM:=@List.getElem?_set_ne
def ybN:=@Nat.eq_of_testBit_eq
def ybO:=@Array.toList_extract
def ybP:=@Array.toList_reverse
def ybQ:=@Array.length_toList
def ybR:=@List.getElem_of_mem
def ybS:=@Nat.testBit_two_pow_self
def ybT:=@Nat.lt_or_ge
def ybU:=@PySem.F.store_ValueError
def ybV:=@PySem.F.plainAttrs_tuple
def ybW:=@PySem.F.slot_tuple_index
def ybX:=@PySem.F.type_tuple_index
def ybY:=@List.nodup_cons
def ybZ:=@List.of_mem_zip
def yb0:=@PySem.Obj.data_mapFields
def yb1:=@List.getElem_idxOf
def yb2:=@List.filter_cons_of_pos
def yb3:=@List.filter_cons_of_neg
def yb4:=@List.getElem?_set_self
def yb5:=@PySem.Calls.callWith_builtin
def yb6:=@List.Perm.append_right
def yb7:=@List.drop_eq_nil_of_le
def yb8:=@Array.toList_push
def yb9:=@List.drop_drop
def yca:=@List.length_replicate
def ycb:=@Nat.zero_add
def ycc:=@List.Perm.append_left
def ycd:=@List.perm_append_comm
def yce:=@PySem.ofString_length
def ycf:=@PySem.F.slot_tuple_mul
def ycg:=@List.zipIdx_cons
def ych:=@PySem.Heap.get?_none_of_le
def yci:=@PySem.Calls.evalArgs_plain
def ycj:=@List.mem_iff_getElem
def yck:=@List.reverse_reverse
def ycl:=@List.filterMap_cons
def ycm:=@List.foldl_cons
def ycn:=@PySem.F.slot_int_rmul
def yco:=@PySem.F.slot_zip_next
def ycp:=@List.length_zip
def ycq:=@Array.append_assoc
def ycr:=@List.mem_filterMap
def ycs:=@PySem.Calls.spliced_cons
def yct:=@PySem.Code.quiet_builtin
def ycu:=@List.take_take
def ycv:=@List.map_cons
def ycw:=@Bool.false_or
def ycx:=@Bool.not_true
namespace L2
open PySem PySem.Spec PyProof.Rows
noncomputable abbrev Key:=Sum Int Str
noncomputable def zoW:Key -> Value -> Bool
 | .inl k,v=>Value.isInt k v
 | .inr x,v=>Value.isStrOf x v
noncomputable def keyH (w:World):Key -> Int
 | .inl k=>hashInt k
 | .inr x=>hashStr w x
def zaH:∀ {k:Key} {v:Value},zoW k v=true -> (∃ i t,k=Sum.inl i /\ v=Value.int i t) \/ (∃ x t,k=Sum.inr x /\ v=Value.str x t)
 | .inl i,v,h=>by
  obtain ⟨t,e⟩:=Value.isInt_shape (k:=i) (v:=v) h;exact .inl ⟨i,t,rfl,e⟩
 | .inr x,v,h=>by
  obtain ⟨t,e⟩:=Value.isStrOf_shape (x:=x) (v:=v) h;exact .inr ⟨x,t,rfl,e⟩
def znV (a b:Int):decide ((Sum.inl a:Key)=Sum.inl b)=(a == b):=by
 by_cases e:a=b
 ·subst e; simp
 ·have h:¬ (Sum.inl a:Key)=Sum.inl b:=λ q=>e (Sum.inl.inj q);rw [decide_eq_false h];exact (beq_eq_false_iff_ne.mpr e).symm
def zpn (a b:Str):decide ((Sum.inr a:Key)=Sum.inr b)=decide (a=b):=by
 by_cases e:a=b
 ·subst e; simp
 ·have h:¬ (Sum.inr a:Key)=Sum.inr b:=λ q=>e (Sum.inr.inj q);rw [decide_eq_false h,decide_eq_false e]
def zpr (a:Int) (b:Str):decide ((Sum.inl a:Key)=Sum.inr b)=false:=decide_eq_false (λ q=>nomatch q)
def zpp (a:Str) (b:Int):decide ((Sum.inr a:Key)=Sum.inl b)=false:=decide_eq_false (λ q=>nomatch q)
noncomputable def zkP (prog:Program) (w:World):PySem.KeyKind prog w Key where
 is:=zoW
 hash:=keyH w
 inj:=λ v a b ha hb=>by
  rcases zaH ha with ⟨i,t,rfl,rfl⟩ | ⟨x,t,rfl,rfl⟩
  ·rcases zaH hb with ⟨j, u, rfl, e⟩ | ⟨y, u, rfl, e⟩
   ·injection e with e1 _; rw [e1]
   ·exact nomatch e
  ·rcases zaH hb with ⟨j, u, rfl, e⟩ | ⟨y, u, rfl, e⟩
   ·exact nomatch e
   ·injection e with e1 _; rw [e1]
 byValue:=λ k v h=>by
  rcases zaH h with ⟨i,t,rfl,rfl⟩ | ⟨x,t,rfl,rfl⟩ <;> rfl
 pyHash:=λ hv h=>by
  rcases zaH hv with ⟨i,t,rfl,rfl⟩ | ⟨x,t,rfl,rfl⟩
  ·exact wpAny_pyHash_int h
  ·exact wpAny_pyHash_str h
 eqBool:=λ hu hv h=>by
  rcases zaH hu with ⟨i,t,rfl,rfl⟩ | ⟨x,t,rfl,rfl⟩
  ·rcases zaH hv with ⟨j, u, rfl, rfl⟩ | ⟨y, u, rfl, rfl⟩
   ·rw [znV] at h; exact wpAny_eqBool_int h
   ·rw [zpr] at h; exact SeqAt.EqAt.int_str i t y u _ _ _ _ h
  ·rcases zaH hv with ⟨j, u, rfl, rfl⟩ | ⟨y, u, rfl, rfl⟩
   ·rw [zpp] at h; exact SeqAt.EqAt.str_int x t j u _ _ _ _ h
   ·rw [zpn] at h; exact wpAny_eqBool_str h
 «strs»:=λ k x t v h=>by
  rcases zaH h with ⟨i,u,rfl,e⟩ | ⟨y,u,rfl,e⟩
  ·exact nomatch e
  ·injection e with e1 _;subst e1;cases v <;> rfl
inductive V where
 | non | bl (b:Bool) | int (i:Int) | str (x:Str) | byt (b:Array UInt8) | flt (b:UInt64) | ref (a:Addr) | ty (n:String)
 deriving DecidableEq
noncomputable def RelV:V -> Value -> Prop
 | .non,u=>u=Value.none
 | .bl b,u=>u=Value.bool b
 | .int i,u=>∃ t,u=Value.int i t
 | .str x,u=>∃ t,u=Value.str x t
 | .byt b,u=>∃ t,u=Value.bytes b t
 | .flt b,u=>∃ t,u=Value.float b t
 | .ref a,u=>u=Value.ref a
 | .ty n,u=>u=Value.type n
noncomputable abbrev Vals:List V -> List Value -> Prop:=Paired RelV
def Vals.length {xs:List V} {us:List Value} (r:Vals xs us):xs.length=us.length:=Paired.length r
def Vals.get:∀ {xs:List V} {us:List Value} {i:Nat} {x:V},Vals xs us -> xs[i]?=some x -> ∃ u,us[i]?=some u /\ RelV x u
 | _,_,_,_,.nil,e=>by simp at e
 | _,_,0,_,.cons r _,e=>by simp at e; subst e; exact ⟨_,rfl,r⟩
 | _,_,i + 1,x,.cons _ t,e=>by
  obtain ⟨u,h1,h2⟩:=Vals.get (i:=i) (x:=x) t (by simpa using e);exact ⟨u,by simpa using h1,h2⟩
def Vals.set {x:V} {u:Value} (r:RelV x u):∀ {xs:List V} {us:List Value} (i:Nat),Vals xs us -> Vals (xs.set i x) (us.set i u)
 | _,_,_,.nil=>.nil
 | _,_,0,.cons _ t=>.cons r t
 | _,_,i + 1,.cons q t=>.cons q (Vals.set r i t)
def Vals.append:∀ {xs ys:List V} {us ws:List Value},Vals xs us -> Vals ys ws -> Vals (xs ++ ys) (us ++ ws)
 | _,_,_,_,.nil,s=>s
 | _,_,_,_,.cons r t,s=>.cons r (Vals.append t s)
def Vals.take:∀ {xs:List V} {us:List Value} (n:Nat),Vals xs us -> Vals (xs.take n) (us.take n)
 | _,_,0,_=>.nil
 | _,_,_ + 1,.nil=>.nil
 | _,_,n + 1,.cons r t=>.cons r (Vals.take n t)
def Vals.drop:∀ {xs:List V} {us:List Value} (n:Nat),Vals xs us -> Vals (xs.drop n) (us.drop n)
 | _,_,0,r=>r
 | _,_,_ + 1,.nil=>.nil
 | _,_,n + 1,.cons _ t=>Vals.drop n t
noncomputable def RelO:Option V -> Option Value -> Prop
 | some v,some u=>RelV v u
 | none,none=>True
 | _,_=>False
noncomputable def KV {κ:Type}:List (κ × V) -> List (κ × Value) -> Prop:=Paired λ (p:κ × V) (q:κ × Value)=>p.1=q.1 /\ RelV p.2 q.2
noncomputable def kV:Key -> V
 | .inl i=>.int i
 | .inr x=>.str x
inductive HO where
 /-- a list -/
 | lst (xs:List V)
 /-- a tuple (never changes) -/
 | tup (xs:List V)
 /-- a dict whose keys are ints and texts; one whose keys are tuples of ints and texts (the empty one is both) -/
 | dK (kvs:List (Key × V)) | dT (kvs:List (List Key × V))
 /-- a set of ints: its members,its size -/
 | set (S:Int -> Bool) (n:Nat)
 /-- an instance of the class at C,its dict at dx,its attributes -/
 | ins (C dx:Addr) (fs:List (Str × V))
 /-- the dict of the instance at x -/
 | own (x:Addr)
 /-- the dict of an exception -/
 | xd (fs:List (Str × V))
 /-- a bound method,f of x -/
 | met (f x:Addr)
 /-- a range object lo,lo + 1,.. below hi -/
 | rng (lo hi:Int)
 /-- a thing that is known to the object (the script; a dict while a loop walks it): read,never written while it is so -/
 | frz (o:Obj) (u:HO)
 /-- a code object's table -/
 | tbl (ps:Array Value)
 /-- any other thing,by what is true of its one object (a def of one's own: SetO a S n:=HO.ext λ h=>..) -/
 | ext (φ:Heap -> Prop)
noncomputable abbrev Hp:=Addr -> Option HO
noncomputable def upd (H:Hp) (a:Addr) (o:HO):Hp:=λ b=>if b=a then some o else H b
def zai {H:Hp} {a:Addr} {o:HO}:upd H a o a=some o:=by unfold upd; rw [if_pos rfl]
def zal {H:Hp} {a b:Addr} {o:HO} (h:b ≠ a):upd H a o b=H b:=by unfold upd; rw [if_neg h]
def zk1 {H:Hp} {a:Addr} {o u:HO}:upd (upd H a o) a u=upd H a u:=by
 funext b; unfold upd; split <;> rfl
def zaq {H:Hp} {a b:Addr} {o:HO} (h:H a=some o) (h':H b=none):a ≠ b:=by
 intro e; subst e; rw [h] at h'; cases h'
noncomputable def za5 (h:Heap) (a:Addr) (items:Array Value):Prop:=∃ o,h.get? a=some o /\ o.cls=.type "tuple" /\ o.dict=none /\ ∃ n,o.data=.seq items n
def za5.tup {h:Heap} {a:Addr} {items:Array Value} (x:za5 h a items):IsTup h a items:=by
 obtain ⟨o,e,c,_,n⟩:=x;exact ⟨o,e,c,n⟩
def za5.lt {h:Heap} {a:Addr} {items:Array Value} (x:za5 h a items):a < h.objs.size:=x.tup.lt
def za5.new (h:Heap) (items:Array Value):za5 (h.push { cls:=.type "tuple",data:=.seq items }) h.objs.size items:=⟨_,yal _ rfl,rfl,rfl,_,rfl⟩
section
variable (P:Program) (w:World)
noncomputable def zbh (H:Hp) (h:Heap) (a:Addr):HO -> Prop
  | .lst xs=>xs.length <= sizeLine /\ ∃ (its:List Value) (n:Nat),Vals xs its /\ h.get? a=some { cls:=.type "list",data:=.seq its.toArray n }
  | .tup xs=>xs.length <= sizeLine /\ ∃ its:List Value,Vals xs its /\ za5 h a its.toArray
  | .dK kvs=>kvs.length <= sizeLine /\ (a == sysModules)=false /\ ∃ vs,KV kvs vs /\ h.DictOf (zkP P w) a vs
  | .dT kvs=>kvs.length <= sizeLine /\ (a == sysModules)=false /\ ∃ xs:List (List Key × Addr × Value),
      Paired (λ (p:List Key × V) (q:List Key × Addr × Value)=>p.1=q.1 /\ H q.2.1=some (.tup (p.1.map kV)) /\ RelV p.2 q.2.2) kvs xs /\
      ∃ o es ep,h.get? a=some o /\ o.ExactDict /\ o.data=.dict es ep /\ es.toList=xs.map (entryOfKey (tupleKind (zkP P w))) /\ (xs.map (·.1)).Nodup
  | .set S n=>h.SetOf (intKind P w) a S n
  | .ins C dx fs=>H dx=some (.own a) /\ fs.length <= 1000 /\ dx ≠ a /\ h.get? a=some (PySem.W.instObj C dx) /\
      ∃ mA,h.Ns1 dx mA /\ (∀ f,RelO (fs.lookup f) (mA f)) /\ PySem.Within mA (fs.map (·.1))
  | .own _=>∃ o,h.get? a=some o
  | .xd fs=>∃ mA,h.Ns1 a mA /\ ∀ f,RelO (fs.lookup f) (mA f)
  | .rng lo hi=>∃ t u v,h.get? a=some { cls:=.type "range",data:=.fields #[.int lo t,.int hi u,.int 1 v] }
  | .frz o u=>h.get? a=some o /\ zbh H h a u
  | .tbl ps=>h.get? a=some { cls:=.none,data:=.fields ps }
  | .met f x=>h.get? a=some (PySem.W.methodObj (.ref f) (.ref x))
  | .ext φ=>φ h /\ (∃ o,h.get? a=some o) /\ ∀ h1 h2:Heap,φ h1 -> (∀ o,h1.get? a=some o -> h2.get? a=some o) -> φ h2
noncomputable def HOk (H:Hp) (h:Heap):Prop:=∀ a o,H a=some o -> zbh P w H h a o
end
section
variable {P:Program} {w:World} {H H':Hp} {h h':Heap} {a:Addr} {o:HO}
def zbh.lt (x:zbh P w H h a o):a < h.objs.size:=by
 cases o with
 | lst xs=>obtain ⟨_,_,_,_,e⟩:=x; exact yae e
 | tup xs=>obtain ⟨_,_,_,p⟩:=x; exact p.lt
 | dK kvs=>obtain ⟨_,_,_,_,o,_,_,e,_⟩:=x; exact yae e
 | dT kvs=>obtain ⟨_,_,_,_,o,_,_,e,_⟩:=x; exact yae e
 | set S n=>obtain ⟨o,_,_,_,e,_⟩:=x; exact yae e
 | ins C dx fs=>obtain ⟨_,_,_,e,_⟩:=x; exact yae e
 | own y=>obtain ⟨_,e⟩:=x; exact yae e
 | xd fs=>obtain ⟨_,⟨_,_,_,e,_⟩,_⟩:=x; exact yae e
 | rng lo hi=>obtain ⟨_,_,_,e⟩:=x; exact yae e
 | frz ob u=>obtain ⟨e,_⟩:=x; exact yae e
 | tbl ps=>exact yae (show h.get? a=some _ from x)
 | met f y=>exact yae (show h.get? a=some _ from x)
 | ext φ=>obtain ⟨_,⟨_,e⟩,_⟩:=x; exact yae e
def Paired.mapP {α β:Type} {F G:α -> β -> Prop}:∀ {l₁:List α} {l₂:List β},Paired F l₁ l₂ -> (∀ a b,F a b -> G a b) -> Paired G l₁ l₂
 | _,_,.nil,_=>.nil
 | _,_,.cons r t,f=>.cons (f _ _ r) (Paired.mapP t f)
def zbh.stay (x:zbh P w H h a o) (k:∀ b u,(b=a \/ H b=some (.own a)) -> h.get? b=some u -> h'.get? b=some u)
  (ho:∀ b,H b=some (.own a) -> H' b=some (.own a)) (ht:∀ b xs,H b=some (.tup xs) -> H' b=some (.tup xs)):zbh P w H' h' a o:=by
 induction o with
 | lst xs=>obtain ⟨z,its,n,r,e⟩:=x; exact ⟨z,its,n,r,k _ _ (.inl rfl) e⟩
 | tup xs=>obtain ⟨z,its,r,ob,e,c⟩:=x; exact ⟨z,its,r,ob,k _ _ (.inl rfl) e,c⟩
 | dK kvs=>obtain ⟨z,y,vs,r,ob,es,ep,e,c⟩:=x; exact ⟨z,y,vs,r,ob,es,ep,k _ _ (.inl rfl) e,c⟩
 | dT kvs=>
  obtain ⟨z,y,xs,r,ob,es,ep,e,c⟩:=x;exact ⟨z,y,xs,Paired.mapP r λ p q z=>⟨z.1,ht _ _ z.2.1,z.2.2⟩,ob,es,ep,k _ _ (.inl rfl) e,c⟩
 | set S n=>obtain ⟨ob,es,ep,t,e,c⟩:=x; exact ⟨ob,es,ep,t,k _ _ (.inl rfl) e,c⟩
 | ins C dx fs=>
  obtain ⟨d,z,ne,e,mA,⟨od,es,ep,e2,c⟩,r⟩:=x;exact ⟨ho _ d,z,ne,k _ _ (.inl rfl) e,mA,⟨od,es,ep,k _ _ (.inr d) e2,c⟩,r⟩
 | own y=>obtain ⟨ob,e⟩:=x; exact ⟨ob,k _ _ (.inl rfl) e⟩
 | xd fs=>obtain ⟨mA,⟨od,es,ep,e,c⟩,r⟩:=x; exact ⟨mA,⟨od,es,ep,k _ _ (.inl rfl) e,c⟩,r⟩
 | rng lo hi=>obtain ⟨t,u,v,e⟩:=x; exact ⟨t,u,v,k _ _ (.inl rfl) e⟩
 | frz ob u ih=>obtain ⟨e,q⟩:=x; exact ⟨k _ _ (.inl rfl) e,ih q⟩
 | tbl ps=>
  have e:h.get? a=some { cls:=.none,data:=.fields ps }:=x;show h'.get? a=some { cls:=.none,data:=.fields ps };exact k a _ (.inl rfl) e
 | met f y=>
  have e:h.get? a=some (PySem.W.methodObj (.ref f) (.ref y)):=x;show h'.get? a=some (PySem.W.methodObj (.ref f) (.ref y));exact k a _ (.inl rfl) e
 | ext φ=>obtain ⟨p,⟨o,e⟩,st⟩:=x; exact ⟨st _ _ p λ o q=>k _ _ (.inl rfl) q,⟨o,k _ _ (.inl rfl) e⟩,st⟩
def HOk.lt (x:HOk P w H h) (e:H a=some o):a < h.objs.size:=(x a o e).lt
def HOk.fresh (x:HOk P w H h) (e:h.objs.size <= a):H a=none:=by
 cases q:H a with
 | none=>rfl
 | some u=>exact absurd (yaf (x.lt q) e) (yaJ _)
def HOk.kept (x:HOk P w H h) (k:∀ b u,h.get? b=some u -> h'.get? b=some u):HOk P w H h':=λ a o e=>
 (x a o e).stay (λ b u _ q=>k b u q) (λ _ q=>q) λ _ _ q=>q
def HOk.laid (x:HOk P w H h) (k:∀ b u,h.get? b=some u -> h'.get? b=some u) (hp:h.objs.size <= a) (new:zbh P w (upd H a o) h' a o):HOk P w (upd H a o) h':=λ b u e=>by
 have hn:=x.fresh hp;by_cases hb:b=a
 ·subst hb; rw [zai] at e; cases e; exact new
 ·rw [zal hb] at e;exact (x b u e).stay (λ c v _ q=>k c v q) (λ c q=>by rw [zal (zaq q hn)]; exact q) λ c xs q=>by rw [zal (zaq q hn)]; exact q
end
noncomputable def Rd (H:Hp) (a:Addr) (u:HO):Prop:=H a=some u \/ ∃ o,H a=some (.frz o u)
def Rd.ok {P:Program} {w:World} {H:Hp} {h:Heap} {a:Addr} {u:HO} (r:Rd H a u) (x:HOk P w H h):zbh P w H h a u:=by
 rcases r with r | ⟨o,r⟩
 ·exact x a u r
 ·obtain ⟨_,q⟩:=x a _ r;exact q
noncomputable def Mut:Option HO -> Prop
 | some (.lst _)=>True
 | some (.dK _)=>True
 | some (.dT _)=>True
 | some (.set _ _)=>True
 | some (.ins _ _ _)=>True
 | some (.ext _)=>True
 | _=>False
section
variable {P:Program} {w:World} {H:Hp} {h h':Heap} {x e:Addr} {o':HO}
def HOk.write (ok:HOk P w H h) (mu:Mut (H x)) (he:e=x \/ H e=some (.own x)) (k:∀ b u,b ≠ e -> h.get? b=some u -> h'.get? b=some u) (heo:∃ u,h'.get? e=some u)
  (new:zbh P w (upd H x o') h' x o'):HOk P w (upd H x o') h':=λ b u q=>by
 have nown:∀ c y,H c=some (.own y) -> c ≠ x:=λ c y r z=>by subst z; rw [r] at mu; exact mu
 have ntup:∀ c xs,H c=some (.tup xs) -> c ≠ x:=λ c xs r z=>by subst z; rw [r] at mu; exact mu
 by_cases hb:b=x
 ·subst hb; rw [zai] at q; cases q; exact new
 ·rw [zal hb] at q;by_cases hbe : b = e
  ·have q':H b=some (.own x):=by
    rcases he with z | z
    ·exact absurd (hbe.trans z) hb
    ·rw [hbe]; exact z
   rw [q] at q'; cases q';obtain ⟨v,hv⟩:=heo;exact ⟨v,by rw [hbe]; exact hv⟩
  ·refine (ok b u q).stay (fun c v hc r => k c v ?_ r) (fun c r => by rw [zal (nown c b r)]; exact r) fun c xs r => by rw [zal (ntup c xs r)]; exact r
   rcases hc with rfl | hc
   ·exact hbe
   ·rintro rfl;rcases he with z | z
    ·exact nown c b hc z
    ·rw [hc] at z; cases z; exact hb rfl
end
structure Un (fs ex:List Addr) (H H':Hp) (h h':Heap):Prop where
 keep:∀ b o,h.get? b=some o -> H b=none -> b ∉ fs -> b ∉ ex -> h'.get? b=some o
 slot:∀ b o,h.get? b=some o -> H b=none -> b ∈ fs -> b ∉ ex -> ∃ sl,h'.get? b=some { o with slots:=sl }
 free:∀ b o,h.get? b=some o -> H b=none -> b ∉ ex -> H' b=none
 there:∀ b o,h.get? b=some o -> b ∉ ex -> ∃ o',h'.get? b=some o'
 tups:∀ b xs,H b=some (.tup xs) -> H' b=some (.tup xs)
 frzs:∀ b o u,H b=some (.frz o u) -> H' b=some (.frz o u)
 tbls:∀ b ps,H b=some (.tbl ps) -> ∃ more,H' b=some (.tbl (ps ++ more))
section
variable {fs fs' ex ex':List Addr} {H H1 H2:Hp} {h h1 h2 h':Heap} {a x e:Addr} {o:HO}
def Un.any (u:Un fs ex H H1 h h1) {b:Addr} {ob:Obj} (q:h.get? b=some ob) (n:H b=none) (hx:b ∉ ex):∃ sl,h1.get? b=some { ob with slots:=sl }:=by
 by_cases hb:b ∈ fs
 ·exact u.slot b ob q n hb hx
 ·exact ⟨ob.slots,u.keep b ob q n hb hx⟩
def Un.kept (k:∀ b u,h.get? b=some u -> h'.get? b=some u):Un fs ex H H h h':=
 ⟨λ b ob q _ _ _=>k b ob q,λ b ob q _ _ _=>⟨ob.slots,k b ob q⟩,λ _ _ _ n _=>n,λ b ob q _=>⟨ob,k b ob q⟩,λ _ _ q=>q,λ _ _ _ q=>q,λ _ ps q=>⟨#[],by rw [q]; simp⟩⟩
def Un.refl:Un fs ex H H h h:=Un.kept λ _ _ q=>q
def Un.laid (k:∀ b u,h.get? b=some u -> h'.get? b=some u) (hp:h.objs.size <= a) (hn:H a=none):Un fs ex H (upd H a o) h h' where
 keep:=λ b u q _ _ _=>k b u q
 slot:=λ b u q _ _ _=>⟨u.slots,k b u q⟩
 free:=λ b u q n _=>by rw [zal (yap (yaf (yae q) hp))]; exact n
 there:=λ b u q _=>⟨u,k b u q⟩
 tups:=λ b xs q=>by rw [zal (zaq q hn)]; exact q
 frzs:=λ b u xs q=>by rw [zal (zaq q hn)]; exact q
 tbls:=λ b ps q=>⟨#[],by rw [zal (zaq q hn),q]; simp⟩
def Un.write (mu:Mut (H x)) (he:e=x \/ H e=some (.own x)) (k:∀ b u,b ≠ e -> h.get? b=some u -> h'.get? b=some u) (heo:∃ u,h'.get? e=some u):Un fs ex H (upd H x o) h h':=by
 have hx:∀ b,H b=none -> b ≠ x:=λ b n z=>by subst z; rw [n] at mu; exact mu
 have hb:∀ b,H b=none -> b ≠ e:=λ b n z=>by
  subst z;rcases he with r | r
  ·exact hx b n r
  ·rw [n] at r; cases r
 have hm:∀ b u,H b=some u -> ¬ Mut (some u) -> b ≠ x:=λ b u q nm z=>by subst z; rw [q] at mu; exact nm mu
 refine ⟨λ b u q n _ _=>k b u (hb b n) q,λ b u q n _ _=>⟨u.slots,k b u (hb b n) q⟩,λ b u q n _=>by rw [zal (hx b n)]; exact n,λ b u q _=>?_,
  λ b xs q=>by rw [zal (hm b _ q λ z=>z)]; exact q,λ b u xs q=>by rw [zal (hm b _ q λ z=>z)]; exact q,λ b ps q=>⟨#[],by rw [zal (hm b _ q λ z=>z),q]; simp⟩⟩
 by_cases hbe:b=e
 ·subst hbe; exact heo
 ·exact ⟨u,k b u hbe q⟩
end
noncomputable def trk (h:Heap) (H:Hp):List Addr:=(List.range h.objs.size).filter λ a=>(H a).isSome
noncomputable def hidT (h:Heap) (H:Hp):Heap:=PySem.W.hideAll h (trk h H)
def zjD (h:Heap) (H:Hp):(hidT h H).objs.size=h.objs.size:=PySem.W.hideAll_size _ _
def zly {h:Heap} {H:Hp} {b:Addr} {o:Obj} (e:h.get? b=some o) (n:H b=none):(hidT h H).get? b=some o:=
 PySem.W.hideAll_get _ e λ hm=>by
  have q:(H b).isSome=true:=(yaZ.mp hm).2;rw [n] at q; simp at q
def zm2 {h:Heap} {H:Hp} {b:Addr} {o:Obj} (e:(hidT h H).get? b=some o):h.get? b=some o /\ H b=none:=by
 have e':h.get? b=some o:=PySem.W.of_hideAll (trk h H) e;refine ⟨e',?_⟩;cases q:H b with
 | none=>rfl
 | some x=>
  have hm:b ∈ trk h H:=yaZ.mpr ⟨yaq.mpr (yae e'),by simp [q]⟩;have z:(hidT h H).get? b=none:=PySem.W.hideAll_none (trk h H) hm;rw [z] at e; cases e
noncomputable def zm3 (g h:Heap) (L:Addr):List (Addr × Obj):=(List.range h.objs.size).filterMap λ a=>if a=L \/ (g.get? a).isSome=true then none else (h.get? a).map λ o=>(a,o)
noncomputable def rest (g h:Heap) (L d:Addr):List (Addr × Obj):=(zm3 g h L).filter λ p=>decide (p.1 ≠ d)
structure Mod (K:PySem.W.Frag) (mg:Str -> Option Value) (base:Heap):Prop where
 kin:K.In base
 glob:base.Ns mainGlobals mg
 blt:∃ mb,base.Ns builtinsNs mb /\ ∀ x:Str,x ≠ "__name__" -> mb x=bootBuiltins x
 nolimit:base.NoLimit
structure Cx where
 prog:Program
 w:World
 K:PySem.W.Frag
 mg:Str -> Option Value
 base:Heap
 A:Around
 N:List Str
 s₀:Shared
 H₀:Hp
 env:Env
 outer:List Env
 stack:List Env
 ex:List Addr
 fn:Str -> Bool
 calm:Bool
 pn:List (Addr × Obj)
 xe:Value -> Shared -> Prop
noncomputable def frs (l:List Env):List Addr:=l.filterMap (·.frame)
noncomputable abbrev Cx.fs (X:Cx):List Addr:=frs X.outer
noncomputable def Vis (sc:Scope) (x:Str):Prop:=sc.names.lookup x=some .local \/ sc.names.lookup x=some .cell \/ sc.names.lookup x=some .free
noncomputable def Loc (sc:Scope) (x:Str):Prop:=sc.names.lookup x=some .local \/ sc.names.lookup x=some .cell
noncomputable def Look (env:Env) (h:Heap) (m:Str -> Option Value) (x:Str) (u:Value):Prop:=
 (env.kindOf x=some .local /\ m x=some u) \/ ((env.kindOf x=some .cell \/ env.kindOf x=some .free) /\ ∃ c,env.cells.lookup x=some c /\ h.IsCell c (some u))
structure Cx.Ok (X:Cx):Prop where
 mod:Mod X.K X.mg X.base
 kind:X.env.scope.kind=.function
 glob:X.env.globals=mainGlobals
 blt:X.env.builtins=builtinsNs
 above:X.s₀.heap.objs.size <= X.env.locals
 inj:∀ x y c,X.env.cells.lookup x=some c -> X.env.cells.lookup y=some c -> x=y
 has:∀ x,(X.env.kindOf x=some .cell \/ X.env.kindOf x=some .free) -> ∃ c,X.env.cells.lookup x=some c
 cab:∀ x c,X.fn x=true -> X.env.cells.lookup x=some c -> X.s₀.heap.objs.size <= c
 hd:X.calm=true -> X.A.handled=none
 frames:X.A.frames=some X.stack
 stk:X.stack=X.outer \/ (X.stack=X.env :: X.outer /\ X.env.frame=some X.env.locals)
 exf:∀ b ∈ X.ex,b ≠ X.env.locals /\ ∀ x c,X.env.cells.lookup x=some c -> c ≠ b
 bs:∀ b o,X.base.get? b=some o -> X.s₀.heap.get? b=some o /\ X.H₀ b=none
 bsz:X.base.objs.size <= X.s₀.heap.objs.size
 noex:∀ b o,X.base.get? b=some o -> b ∉ X.ex
 exfs:∀ b ∈ X.ex,b ∉ X.fs
 funs:X.s₀.heap.FunFrames X.base X.outer
 frf:∀ b ∈ X.fs,X.H₀ b=none
structure Inv (X:Cx) (pins:List (Addr × Obj)) (σ:List (Option V)) (H:Hp) (s:Shared):Prop where
 ok:X.Ok
 os:s.os=X.s₀.os
 bare:AllBare s.gens
 base:Un X.fs X.ex X.H₀ H X.s₀.heap s.heap
 loc:∃ m,s.heap.Ns X.env.locals m /\ ∀ (i:Nat) (x:Str) (v:V),X.N[i]?=some x -> σ[i]?=some (some v) -> Vis X.env.scope x -> ∃ u,RelV v u /\ Look X.env s.heap m x u
 cell:∀ x c,X.env.cells.lookup x=some c -> ∃ v,s.heap.IsCell c v
 free:H X.env.locals=none
 freeC:∀ x c,X.env.cells.lookup x=some c -> H c=none
 pin:∀ p ∈ X.pn ++ pins,s.heap.get? p.1=some p.2 /\ H p.1=none /\ p.1 ≠ X.env.locals /\ p.1 ∉ X.fs /\ ∀ v,p.2.data ≠ .cell v
 hok:HOk X.prog X.w H s.heap
 len:σ.length=X.N.length
section
variable {X:Cx} {pins:List (Addr × Obj)} {σ:List (Option V)} {H H':Hp} {s:Shared} {h':Heap}
def Cx.Ok.nofr (ok:X.Ok) {b:Addr} {o:Obj} (e:X.base.get? b=some o):b ∉ X.fs:=λ hb=>by
 have:=(ok.funs.mem hb).1;rw [e] at this; cases this
def Inv.bs (I:Inv X pins σ H s):∀ b o,X.base.get? b=some o -> s.heap.get? b=some o /\ H b=none:=λ b o e=>
 ⟨I.base.keep b o (I.ok.bs b o e).1 (I.ok.bs b o e).2 (I.ok.nofr e) (I.ok.noex b o e),I.base.free b o (I.ok.bs b o e).1 (I.ok.bs b o e).2 (I.ok.noex b o e)⟩
def Inv.bk (I:Inv X pins σ H s):∀ b o,X.base.get? b=some o -> s.heap.get? b=some o:=λ b o e=>(I.bs b o e).1
def Inv.mod (I:Inv X pins σ H s):Mod X.K X.mg X.base:=I.ok.mod
def Inv.kIn (I:Inv X pins σ H s):X.K.In s.heap:=I.ok.mod.kin.keeps I.bk
def Inv.lt (I:Inv X pins σ H s):X.env.locals < s.heap.objs.size:=let ⟨_,hn,_⟩:=I.loc; hn.lt
def Inv.sz (I:Inv X pins σ H s):X.s₀.heap.objs.size <= s.heap.objs.size:=yaV I.ok.above (yaK I.lt)
def Inv.nofs (I:Inv X pins σ H s) {a:Addr} (h:s.heap.objs.size <= a):a ∉ X.fs:=λ hb=>by
 obtain ⟨_,o,ho,_⟩:=I.ok.funs.mem hb;exact absurd (yaf (yae ho) (yaV I.sz h)) (yaJ _)
def Inv.cne (I:Inv X pins σ H s):∀ x c,X.env.cells.lookup x=some c -> c ≠ X.env.locals:=λ x c e z=>by
 obtain ⟨v,o,ho,hd⟩:=I.cell x c e;obtain ⟨m,⟨o',es,ep,ho',hd',_⟩,_⟩:=I.loc;rw [z,ho'] at ho; cases ho; rw [hd'] at hd; cases hd
def Inv.funs (I:Inv X pins σ H s):s.heap.FunFrames X.base X.outer:=by
 have all:∀ (l:List Env),(∀ b ∈ frs l,b ∈ X.fs) -> X.s₀.heap.FunFrames X.base l -> s.heap.FunFrames X.base l:=by
  intro l
  induction l with
  | nil=>intro _ _; trivial
  | cons env r ih=>
   intro hs hl;obtain ⟨hk,⟨L,o,hf,hn,ho,hd⟩,hr⟩:=hl;have hL:L ∈ X.fs:=hs L (by unfold frs; rw [ycl,hf]; exact yaF);obtain ⟨sl,e⟩:=I.base.slot L o ho (I.ok.frf L hL) hL λ z=>I.ok.exfs L z hL;exact ⟨hk,⟨L,_,hf,hn,e,hd⟩,ih (λ b hb=>hs b (by unfold frs; rw [ycl,hf]; exact yav _ hb)) hr⟩
 exact all X.outer (λ _ hb=>hb) I.ok.funs
def Inv.stack (I:Inv X pins σ H s):s.heap.FunFrames X.base X.stack:=by
 rcases I.ok.stk with e | ⟨e,hf⟩
 ·rw [e]; exact I.funs
 ·rw [e];obtain ⟨m,hn,_⟩:=I.loc;refine .cons (by rw [I.ok.kind]; decide) hf hn ?_ I.funs;exact ych (yaV I.ok.bsz I.ok.above)
def Inv.stkSub (I:Inv X pins σ H s):∀ b ∈ frs X.stack,b ∈ X.env.locals :: X.fs:=λ b hb=>by
 rcases I.ok.stk with e | ⟨e,hf⟩
 ·rw [e] at hb; exact yav _ hb
 ·rw [e] at hb;unfold frs at hb;rw [ycl,hf] at hb;exact hb
def Inv.stkFree (I:Inv X pins σ H s):∀ b ∈ frs X.stack,H b=none:=λ b hb=>by
 rcases yao.mp (I.stkSub b hb) with e | hb
 ·rw [e]; exact I.free
 ·obtain ⟨_,o,ho,_⟩:=I.ok.funs.mem hb;exact I.base.free b o ho (I.ok.frf b hb) λ z=>I.ok.exfs b z hb
def Inv.step {g':Array GenState} {t':Nat} {d':Drawn} {ch:List Addr} (I:Inv X pins σ H s)
  (hch:∀ b ∈ ch,(b ∈ X.ex \/ X.s₀.heap.objs.size <= b) /\ b ≠ X.env.locals /\ (∀ x c,X.env.cells.lookup x=some c -> c ≠ b) /\ ∀ p ∈ X.pn ++ pins,p.1 ≠ b)
  (keep:∀ b o,b ≠ X.env.locals -> b ∉ X.fs -> b ∉ ch -> s.heap.get? b=some o -> H b=none -> h'.get? b=some o)
  (slot:∀ b o,b ≠ X.env.locals -> b ∈ X.fs -> b ∉ ch -> s.heap.get? b=some o -> H b=none -> ∃ sl,h'.get? b=some { o with slots:=sl }) (free:∀ b o,b ∉ ch -> s.heap.get? b=some o -> H b=none -> H' b=none)
  (there:∀ b o,b ∉ ch -> s.heap.get? b=some o -> ∃ o',h'.get? b=some o')
  (tups:∀ b xs,H b=some (.tup xs) -> H' b=some (.tup xs)) (frzs:∀ b o u,H b=some (.frz o u) -> H' b=some (.frz o u)) (tbls:∀ b ps,H b=some (.tbl ps) -> ∃ more,H' b=some (.tbl (ps ++ more)))
  (ns:∀ m,s.heap.Ns X.env.locals m -> h'.Ns X.env.locals m) (hok:HOk X.prog X.w H' h') (hg:AllBare g') :
  Inv X pins σ H' { s with heap:=h',gens:=g',drawn:=d',toks:=t' }:=by
 have neL:∀ b o,X.s₀.heap.get? b=some o -> b ≠ X.env.locals:=λ b o e=>yap (yaf (yae e) I.ok.above)
 have neC:∀ b o,X.s₀.heap.get? b=some o -> b ∉ X.ex -> b ∉ ch:=λ b o e hx hb=>by
  rcases (hch b hb).1 with z | z
  ·exact hx z
  ·exact absurd (yaf (yae e) z) (yaJ _)
 have cellK:∀ x c,X.env.cells.lookup x=some c -> ∀ v,s.heap.IsCell c v -> h'.IsCell c v:=λ x c e v ⟨o,ho,hd⟩=>by
  have nch:c ∉ ch:=λ z=>(hch c z).2.2.1 x c e rfl;by_cases hc:c ∈ X.fs
  ·obtain ⟨sl,q⟩:=slot c o (I.cne x c e) hc nch ho (I.freeC x c e);exact ⟨_,q,hd⟩
  ·exact ⟨o,keep c o (I.cne x c e) hc nch ho (I.freeC x c e),hd⟩
 refine ⟨I.ok,I.os,hg,⟨λ b o e n hb hx=>?_,λ b o e n hb hx=>?_,λ b o e n hx=>?_,λ b o e hx=>?_,λ b xs e=>tups b xs (I.base.tups b xs e),λ b o xs e=>frzs b o xs (I.base.frzs b o xs e),λ b ps e=>?_⟩,?_,λ x c e=>?_,?_,λ x c e=>?_,λ p hp=>?_,hok,I.len⟩
 ·exact keep b o (neL b o e) hb (neC b o e hx) (I.base.keep b o e n hb hx) (I.base.free b o e n hx)
 ·obtain ⟨sl,e1⟩:=I.base.slot b o e n hb hx;obtain ⟨sl',e2⟩:=slot b _ (neL b o e) hb (neC b o e hx) e1 (I.base.free b o e n hx);exact ⟨sl',e2⟩
 ·obtain ⟨o',e1⟩:=I.base.there b o e hx;exact free b o' (neC b o e hx) e1 (I.base.free b o e n hx)
 ·obtain ⟨o',e1⟩:=I.base.there b o e hx;exact there b o' (neC b o e hx) e1
 ·obtain ⟨m1,e1⟩:=I.base.tbls b ps e;obtain ⟨m2,e2⟩:=tbls b _ e1;exact ⟨m1 ++ m2,by rw [e2,ycq]⟩
 ·obtain ⟨m, hn, hl⟩ := I.loc;refine ⟨m, ns m hn, fun i x v e1 e2 e3 => ?_⟩;obtain ⟨u, r, l⟩ := hl i x v e1 e2 e3;refine ⟨u, r, ?_⟩;rcases l with l | ⟨k, c, e, z⟩
  ·exact .inl l
  ·exact .inr ⟨k,c,e,cellK x c e _ z⟩
 ·obtain ⟨v,z⟩:=I.cell x c e;exact ⟨v,cellK x c e v z⟩
 ·obtain ⟨m,⟨o,_,_,ho,_⟩,_⟩:=I.loc;exact free _ o (λ z=>(hch _ z).2.1 rfl) ho I.free
 ·obtain ⟨v,o,ho,hd⟩:=I.cell x c e;exact free c o (λ z=>(hch c z).2.2.1 x c e rfl) ho (I.freeC x c e)
 ·obtain ⟨e,n,ne,nf,d⟩:=I.pin p hp;have nch:p.1 ∉ ch:=λ z=>(hch p.1 z).2.2.2 p hp rfl;exact ⟨keep p.1 p.2 ne nf nch e n,free p.1 p.2 nch e n,ne,nf,d⟩
def Inv.un {t':Nat} (I:Inv X pins σ H s) (u:Un X.fs [] H H' s.heap h') (hok:HOk X.prog X.w H' h'):Inv X pins σ H' { s with heap:=h',toks:=t' }:=by
 obtain ⟨m,⟨o,es,ep,ho,r⟩,_⟩:=id I.loc;obtain ⟨sl,hL⟩:=u.any ho I.free (5:)
 exact I.step (g':=s.gens) (d':=s.drawn) (ch:=[]) (λ _ z=>nomatch z) (λ b o _ hb _ e n=>u.keep b o e n hb (5:)) (λ b o _ hb _ e n=>u.slot b o e n hb (5:)) (λ b o _ e n=>u.free b o e n (5:)) (λ b o _ e=>u.there b o e (5:)) u.tups u.frzs u.tbls (λ m' hm=>by
  obtain ⟨o',es',ep',ho',r'⟩:=hm;rw [ho] at ho'; cases ho';exact ⟨_,es',ep',hL,r'⟩) hok I.bare
def Inv.call {g':Array GenState} {t':Nat} {d':Drawn} {ch:List Addr} (I:Inv X pins σ H s) (u:Un (frs X.stack) ch H H' s.heap h') (hok:HOk X.prog X.w H' h') (hg:AllBare g')
  (hch:∀ b ∈ ch,(b ∈ X.ex \/ X.s₀.heap.objs.size <= b) /\ b ≠ X.env.locals /\ (∀ x c,X.env.cells.lookup x=some c -> c ≠ b) /\ ∀ p ∈ X.pn ++ pins,p.1 ≠ b) :
  Inv X pins σ H' { s with heap:=h',gens:=g',drawn:=d',toks:=t' }:=by
 obtain ⟨m,⟨o,es,ep,ho,r⟩,_⟩:=id I.loc;obtain ⟨sl,hL⟩:=u.any ho I.free λ z=>(hch _ z).2.1 rfl
 exact I.step (ch:=ch) hch (λ b o hL hb hc e n=>u.keep b o e n (λ z=>(yao.mp (I.stkSub b z)).elim hL hb) hc) (λ b o _ _ hc e n=>u.any e n hc) (λ b o hc e n=>u.free b o e n hc) (λ b o hc e=>u.there b o e hc) u.tups u.frzs u.tbls (λ m' hm=>by
  obtain ⟨o',es',ep',ho',r'⟩:=hm;rw [ho] at ho'; cases ho';exact ⟨_,es',ep',hL,r'⟩) hok hg
def Inv.turned {t':Nat} {it:Addr} (I:Inv X pins σ H s) (k:∀ b o,b ≠ it -> s.heap.get? b=some o -> h'.get? b=some o) (hn:H it=none) (hL:it ≠ X.env.locals)
  (h1:it ∈ X.ex \/ X.s₀.heap.objs.size <= it) (h2:∀ x c,X.env.cells.lookup x=some c -> c ≠ it) (h3:∀ p ∈ X.pn ++ pins,p.1 ≠ it):Inv X pins σ H { s with heap:=h',toks:=t' }:=by
 have nit:∀ b u,H b=some u -> b ≠ it:=λ b u e z=>by rw [z,hn] at e; cases e
 refine I.step (g':=s.gens) (d':=s.drawn) (ch:=[it]) (λ b hb=>?_) (λ b o _ _ hc e _=>k b o (λ z=>hc (by simp [z])) e) (λ b o _ _ hc e _=>⟨o.slots,k b o (λ z=>hc (by simp [z])) e⟩) (λ _ _ _ _ n=>n)
  (λ b o hc e=>⟨o,k b o (λ z=>hc (by simp [z])) e⟩) (λ _ _ e=>e) (λ _ _ _ e=>e) (λ b ps e=>⟨#[],by rw [e]; simp⟩) (λ m hm=>?_) (λ b u e=>?_) I.bare
 ·have e : b = it := by simpa using hb
  subst e;exact ⟨h1,hL,h2,h3⟩
 ·obtain ⟨o,es,ep,ho,r⟩:=hm;exact ⟨o,es,ep,k _ o (ybj hL) ho,r⟩
 ·refine (I.hok b u e).stay (fun c v hc q => k c v ?_ q) (fun _ q => q) fun _ _ q => q;rcases hc with z | z
  ·rw [z]; exact nit b u e
  ·exact nit c _ z
def Inv.tok (I:Inv X pins σ H s) (t:Nat):Inv X pins σ H { s with toks:=t }:=I.un (h':=s.heap) (t':=t) Un.refl I.hok
def Inv.kept {t':Nat} (I:Inv X pins σ H s) (k:∀ b u,s.heap.get? b=some u -> h'.get? b=some u):Inv X pins σ H { s with heap:=h',toks:=t' }:=I.un (Un.kept k) (I.hok.kept k)
def Inv.laid {a:Addr} {o:HO} {t':Nat} (I:Inv X pins σ H s) (k:∀ b u,s.heap.get? b=some u -> h'.get? b=some u) (hp:s.heap.objs.size <= a) (new:zbh X.prog X.w (upd H a o) h' a o) :
  Inv X pins σ (upd H a o) { s with heap:=h',toks:=t' }:=I.un (Un.laid k hp (I.hok.fresh hp)) (I.hok.laid k hp new)
def Inv.write {x e:Addr} {o:HO} {t':Nat} (I:Inv X pins σ H s) (mu:Mut (H x)) (he:e=x \/ H e=some (.own x)) (k:∀ b u,b ≠ e -> s.heap.get? b=some u -> h'.get? b=some u) (heo:∃ u,h'.get? e=some u)
  (new:zbh X.prog X.w (upd H x o) h' x o):Inv X pins σ (upd H x o) { s with heap:=h',toks:=t' }:=I.un (Un.write mu he k heo) (I.hok.write mu he k heo new)
def Inv.weak {σ':List (Option V)} (I:Inv X pins σ H s) (hl:σ'.length=σ.length) (w:∀ (i:Nat) v,σ'[i]?=some (some v) -> σ[i]?=some (some v)):Inv X pins σ' H s:=
 ⟨I.ok,I.os,I.bare,I.base,let ⟨m,hn,hl'⟩:=I.loc; ⟨m,hn,λ i x v e1 e2 e3=>hl' i x v e1 (w i v e2) e3⟩,I.cell,I.free,I.freeC,I.pin,I.hok,hl.trans I.len⟩
def Inv.pins_of {pins':List (Addr × Obj)} (I:Inv X pins σ H s) (h:∀ p ∈ pins',s.heap.get? p.1=some p.2 /\ H p.1=none /\ p.1 ≠ X.env.locals /\ p.1 ∉ X.fs /\ ∀ v,p.2.data ≠ .cell v):Inv X pins' σ H s:=
 ⟨I.ok,I.os,I.bare,I.base,I.loc,I.cell,I.free,I.freeC,λ p hp=>(yau.mp hp).elim (λ z=>I.pin p (ya6 _ z)) (h p),I.hok,I.len⟩
def zgn {N:List Str} (hN:N.Nodup) {i j:Nat} {x:Str} (a:N[i]?=some x) (b:N[j]?=some x):i=j:=by
 obtain ⟨h1,e1⟩:=yaj.mp a;obtain ⟨h2,e2⟩:=yaj.mp b;exact (List.getElem_inj hN).mp (e1.trans e2.symm)
def zk5 {M:Model} {A:Around} {E:Value -> Shared -> Prop} {i:Nat} {x:Str} {v:V} {u:Value} {Q:Unit -> Shared -> Prop} (I:Inv X pins σ H s) (hN:X.N.Nodup) (hi:X.N[i]?=some x) (hx:Loc X.env.scope x) (r:RelV v u)
  (h:∀ s',Inv X pins (σ.set i (some v)) H s' -> (∃ a,Heap.SameBut a s.heap s'.heap /\ (a=X.env.locals \/ X.env.cells.lookup x=some a)) -> Q () s') (hf:X.fn x=true \/ X.env.scope.names.lookup x=some .local:=by first | exact .inl rfl | exact .inr rfl | assumption):wpAny M A (storeName X.env x u) Q E s:=by
 obtain ⟨m,hn,hl⟩:=id I.loc;have hcls:(X.env.scope.kind == .class || (X.env.scope.kind == .module && X.env.locals != X.env.globals))=false:=by rw [I.ok.kind]; rfl
 have hiσ:i < σ.length:=by rw [I.len]; exact (yaj.mp hi).1
 have cne:=I.cne
 have tracked:∀ {a:Addr} {h':Heap},(∃ o,s.heap.get? a=some o /\ H a=none) -> Heap.SameBut a s.heap h' -> HOk X.prog X.w H h':=λ {a h'} ha hs b ob e=>by
  obtain ⟨_,_,hfree⟩:=ha;refine (I.hok b ob e).stay (λ c w' hc q=>(hs.2 c ?_).trans q) (λ _ q=>q) λ _ _ q=>q;rintro rfl;rcases hc with rfl | hc
  ·rw [hfree] at e; cases e
  ·rw [hfree] at hc; cases hc
 rcases hx with hk | hk
 ·refine wpAny_storeName_local hk hn (fun h' hn' hs => ?_) hcls;obtain ⟨oL, _, _, hoL, _⟩ := id hn;refine h _ ⟨I.ok, I.os, I.bare, ⟨fun b o e n hb hx => ?_, fun b o e n hb hx => ?_, I.base.free, fun b o e hx => ?_, I.base.tups, I.base.frzs, I.base.tbls⟩, ⟨_, hn', fun j y v' e1 e2 e3 => ?_⟩, fun y c e => ?_, I.free, I.freeC, fun p hp => ?_, tracked ⟨oL, hoL, I.free⟩ hs, by simpa using I.len⟩ ⟨_, hs, .inl rfl⟩
  ·exact (hs.2 b (yap (yaf (yae e) I.ok.above))).trans (I.base.keep b o e n hb hx)
  ·obtain ⟨sl,e1⟩:=I.base.slot b o e n hb hx;exact ⟨sl,(hs.2 b (yap (yaf (yae e) I.ok.above))).trans e1⟩
  ·obtain ⟨o',e1⟩:=I.base.there b o e hx;exact ⟨o',(hs.2 b (yap (yaf (yae e) I.ok.above))).trans e1⟩
  ·by_cases hj : j = i
   ·subst hj;rw [hi] at e1; cases e1;rw [yb4 hiσ] at e2;cases e2;exact ⟨u,r,.inl ⟨hk,by simp⟩⟩
   ·rw [ybM (ybj hj)] at e2;obtain ⟨u', r', q⟩ := hl j y v' e1 e2 e3;refine ⟨u', r', ?_⟩;rcases q with ⟨k, e⟩ | ⟨k, c, e, z⟩
    ·refine .inl ⟨k,?_⟩;have:y ≠ x:=λ e=>hj (zgn hN e1 (e ▸ hi));simp [this,e]
    ·exact .inr ⟨k,c,e,z.sameBut hs (cne y c e)⟩
  ·obtain ⟨w',z⟩:=I.cell y c e;exact ⟨w',z.sameBut hs (cne y c e)⟩
  ·obtain ⟨e,n,ne,nf,d⟩:=I.pin p hp;exact ⟨(hs.2 p.1 ne).trans e,n,ne,nf,d⟩
 ·have hfn:X.fn x=true:=by
   rcases hf with z | z
   ·exact z
   ·rw [z] at hk; cases hk
  obtain ⟨c,hc⟩:=I.ok.has x (.inl hk);obtain ⟨w',z⟩:=I.cell x c hc;refine wpAny_storeName_cell I.ok.kind hk hc z (λ h' hc' hs=>?_);obtain ⟨oc,hoc,hocd⟩:=id z;refine h { s with heap:=h' } ⟨I.ok,I.os,I.bare,⟨λ b o e n hb hx=>?_,λ b o e n hb hx=>?_,I.base.free,λ b o e hx=>?_,I.base.tups,I.base.frzs,I.base.tbls⟩,⟨m,hn.sameBut hs (ybj (cne x c hc)),λ j y v' e1 e2 e3=>?_⟩,λ y c' e=>?_,I.free,I.freeC,λ p hp=>?_,tracked ⟨oc,hoc,I.freeC x c hc⟩ hs,by simpa using I.len⟩ ⟨c,hs,.inr hc⟩
  ·exact (hs.2 b (yap (yaf (yae e) (I.ok.cab x c hfn hc)))).trans (I.base.keep b o e n hb hx)
  ·obtain ⟨sl,e1⟩:=I.base.slot b o e n hb hx;exact ⟨sl,(hs.2 b (yap (yaf (yae e) (I.ok.cab x c hfn hc)))).trans e1⟩
  ·obtain ⟨o',e1⟩:=I.base.there b o e hx;exact ⟨o',(hs.2 b (yap (yaf (yae e) (I.ok.cab x c hfn hc)))).trans e1⟩
  ·by_cases hj : j = i
   ·subst hj;rw [hi] at e1; cases e1;rw [yb4 hiσ] at e2;cases e2;exact ⟨u,r,.inr ⟨.inl hk,c,hc,hc'⟩⟩
   ·rw [ybM (ybj hj)] at e2;obtain ⟨u', r', q⟩ := hl j y v' e1 e2 e3;refine ⟨u', r', ?_⟩;rcases q with q | ⟨k, c', e, z'⟩
    ·exact .inl q
    ·refine .inr ⟨k,c',e,z'.sameBut hs ?_⟩;rintro rfl;exact hj (zgn hN e1 (I.ok.inj _ _ _ e hc ▸ hi))
  ·by_cases hcc : c' = c
   ·subst hcc; exact ⟨_,hc'⟩
   ·obtain ⟨w2,z2⟩:=I.cell y c' e;exact ⟨w2,z2.sameBut hs hcc⟩
  ·obtain ⟨e,n,ne,nf,d⟩:=I.pin p hp;refine ⟨(hs.2 p.1 ?_).trans e,n,ne,nf,d⟩;intro q;rw [q,hoc] at e;have q':oc=p.2:=Option.some.inj e;exact d w' (by rw [<- q']; exact hocd)
def zdg {M:Model} {A:Around} {E:Value -> Shared -> Prop} {i:Nat} {x:Str} {v:V} {u:Value} {Q:Unit -> Shared -> Prop} (I:Inv X pins σ H s) (hN:X.N.Nodup) (hi:X.N[i]?=some x) (hx:Loc X.env.scope x) (r:RelV v u)
  (h:∀ s',Inv X pins (σ.set i (some v)) H s' -> Q () s') (hf:X.fn x=true \/ X.env.scope.names.lookup x=some .local:=by first | exact .inl rfl | exact .inr rfl | assumption):wpAny M A (storeName X.env x u) Q E s:=
 zk5 I hN hi hx r (λ s' I' _=>h s' I') hf
def Inv.call' {s':Shared} {ch:List Addr} (I:Inv X pins σ H s) (ho:s'.os=s.os) (u:Un (frs X.stack) ch H H' s.heap s'.heap) (hok:HOk X.prog X.w H' s'.heap) (hg:AllBare s'.gens)
  (hch:∀ b ∈ ch,(b ∈ X.ex \/ X.s₀.heap.objs.size <= b) /\ b ≠ X.env.locals /\ (∀ x c,X.env.cells.lookup x=some c -> c ≠ b) /\ ∀ p ∈ X.pn ++ pins,p.1 ≠ b):Inv X pins σ H' s':=by
 obtain ⟨h',g',d',t',o'⟩:=s';have e:o'=s.os:=ho;subst e;exact I.call (g':=g') (t':=t') (d':=d') u hok hg hch
end
noncomputable abbrev XK:=Value -> Option Addr -> Hp -> Prop
noncomputable abbrev St:=List (Option V)
noncomputable abbrev VK:=V -> Hp -> Prop
noncomputable abbrev TE:=St -> Hp -> VK -> Prop
noncomputable abbrev TT:=St -> Hp -> (Bool -> Hp -> Prop) -> Prop
noncomputable abbrev TA:=St -> Hp -> (List V -> Hp -> Prop) -> Prop
structure Ends where
 nx:St -> Hp -> Prop
 rt:VK
 bk:St -> Hp -> Prop:=λ _ _=>False
 ct:St -> Hp -> Prop:=λ _ _=>False
noncomputable abbrev TS:=Ends -> St -> Hp -> Prop
noncomputable def EP (X:Cx) (pins:List (Addr × Obj)) (σ:St) (Q:VK) (u:Value) (s':Shared):Prop:=∃ v H',Inv X pins σ H' s' /\ RelV v u /\ Q v H'
noncomputable def TP (X:Cx) (pins:List (Addr × Obj)) (σ:St) (Q:Bool -> Hp -> Prop) (b:Bool) (s':Shared):Prop:=∃ H',Inv X pins σ H' s' /\ Q b H'
noncomputable def AP (X:Cx) (pins:List (Addr × Obj)) (σ:St) (Q:List V -> Hp -> Prop) (us:List Value) (s':Shared):Prop:=∃ vs H',Inv X pins σ H' s' /\ Vals vs us /\ Q vs H'
noncomputable def SP (X:Cx) (pins:List (Addr × Obj)) (D:Ends) (f:Flow) (s':Shared):Prop:=
 match f with
 | .next=>∃ σ' H',Inv X pins σ' H' s' /\ D.nx σ' H'
 | .brk=>∃ σ' H',Inv X pins σ' H' s' /\ D.bk σ' H'
 | .cont=>∃ σ' H',Inv X pins σ' H' s' /\ D.ct σ' H'
 | .ret u=>∃ v σ' H',Inv X pins σ' H' s' /\ RelV v u /\ D.rt v H'
noncomputable def PE (X:Cx) (e:Expr) (t:TE):Prop:=
 ∀ (pins:List (Addr × Obj)) (s:Shared) (σ:St) (H:Hp) (Q:VK),Inv X pins σ H s -> t σ H Q -> wpAny (model X.prog X.w) X.A (eval e X.env) (EP X pins σ Q) X.xe s
noncomputable def PT (X:Cx) (e:Expr) (t:TT):Prop:=
 ∀ (pins:List (Addr × Obj)) (s:Shared) (σ:St) (H:Hp) (Q:Bool -> Hp -> Prop),Inv X pins σ H s -> t σ H Q -> wpAny (model X.prog X.w) X.A (isTrue e X.env (eval e X.env)) (TP X pins σ Q) X.xe s
noncomputable def PW (X:Cx) (e:Expr) (t:TT):Prop:=
 ∀ (whole:Sem Value) (pins:List (Addr × Obj)) (s:Shared) (σ:St) (H:Hp) (Q:Bool -> Hp -> Prop),Inv X pins σ H s -> t σ H Q -> wpAny (model X.prog X.w) X.A (isTrue e X.env whole) (TP X pins σ Q) X.xe s
def PW.pt {X:Cx} {e:Expr} {t:TT} (h:PW X e t):PT X e t:=h _
noncomputable def PA (X:Cx) (es:List Expr) (t:TA):Prop:=
 ∀ (pos:Pos) (pins:List (Addr × Obj)) (s:Shared) (σ:St) (H:Hp) (Q:List V -> Hp -> Prop),Inv X pins σ H s -> t σ H Q -> wpAny (model X.prog X.w) X.A (spliced (backTo pos (starEach es X.env))) (AP X pins σ Q) X.xe s
noncomputable def PS (X:Cx) (st:Stmt) (t:TS):Prop:=
 ∀ (pins:List (Addr × Obj)) (s:Shared) (σ:St) (H:Hp) (D:Ends),Inv X pins σ H s -> t D σ H -> wpAny (model X.prog X.w) X.A (exec st X.env) (SP X pins D) X.xe s
noncomputable def PSs (X:Cx) (st:List Stmt) (t:TS):Prop:=
 ∀ (pins:List (Addr × Obj)) (s:Shared) (σ:St) (H:Hp) (D:Ends),Inv X pins σ H s -> t D σ H -> wpAny (model X.prog X.w) X.A (execs st X.env) (SP X pins D) X.xe s
def thn {α:Type} {t:Sem α} {Q Q':α -> Shared -> Prop} {M:Model} {A:Around} {E:Value -> Shared -> Prop} {s:Shared} (h:wpAny M A t Q E s) (hQ:∀ a s,Q a s -> Q' a s):wpAny M A t Q' E s:=wpAny_mono h hQ λ _ _ x=>x
section
variable {X:Cx}
noncomputable def tVar (i:Nat):TE:=λ σ H Q=>∃ v,σ[i]?=some (some v) /\ Q v H
noncomputable def tC (v:V):TE:=λ _ H Q=>Q v H
def zpo {i:Nat} {x:Str} {pos:Pos} (hN:X.N[i]?=some x) (hv:Vis X.env.scope x) (hd:(x == ("__debug__":Str))=false:=by decide) (hcd:(x == ("__classdict__":Str))=false:=by decide):PE X (.Name x pos) (tVar i):=by
 intro pins s σ H Q I h;obtain ⟨v,e,h⟩:=h;obtain ⟨m,hn,hl⟩:=I.loc;obtain ⟨u,r,l⟩:=hl i x v hN e hv;have fin:EP X pins σ Q u s:=⟨v,H,I,r,h⟩
 rcases l with ⟨hk,hm⟩ | ⟨hk,c,hc,hcell⟩
 ·exact wpAny_Name (wpAny_loadName_local I.ok.kind hk hn hm fin) hd
 ·rcases hk with hk | hk
  ·exact wpAny_Name (wpAny_loadName_cell I.ok.kind hk hc hcell fin) hd
  ·exact wpAny_Name (wpAny_loadName_free I.ok.kind hk hc hcell fin hcd) hd
def zad {i j pos}:PE X (.Constant (.int i) j pos) (tC (.int i)):=λ _ _ _ H _ I h=>wpAny_Constant_int ⟨.int i,H,I.tok _,⟨_,rfl⟩,h⟩
def zds {b j pos}:PE X (.Constant (.bool b) j pos) (tC (.bl b)):=λ _ _ _ H _ I h=>Constant_bool ⟨.bl b,H,I,rfl,h⟩
def zki {j pos}:PE X (.Constant .none j pos) (tC .non):=λ _ _ _ H _ I h=>Constant_none ⟨.non,H,I,rfl,h⟩
def zaT {x j pos}:PE X (.Constant (.str x) j pos) (tC (.str x)):=λ _ _ _ H _ I h=>Calls.Constant_str ⟨.str x,H,I.tok _,⟨_,rfl⟩,h⟩
noncomputable def Gl (X:Cx) (x:Str):Prop:=X.env.kindOf x=some .globalImplicit
def zeo {E:Value -> Shared -> Prop} {pins:List (Addr × Obj)} {s:Shared} {σ:St} {H:Hp} {x:Str} {u:Value} {pos:Pos} {Q:Value -> Shared -> Prop} (I:Inv X pins σ H s) (hg:Gl X x) (hm:X.mg x=some u) (h:Q u s)
  (hd:(x == ("__debug__":Str))=false:=by decide):wpAny (model X.prog X.w) X.A (eval (.Name x pos) X.env) Q E s:=
 Calls.Name_function_global I.ok.kind hg (Calls.loadGlobal_global (by rw [I.ok.glob]; exact I.mod.glob.keeps I.bk) hm h) hd
def zce {E:Value -> Shared -> Prop} {pins:List (Addr × Obj)} {s:Shared} {σ:St} {H:Hp} {x:Str} {u:Value} {pos:Pos} {Q:Value -> Shared -> Prop} (I:Inv X pins σ H s) (hg:Gl X x) (hm:X.mg x=none) (hv:bootBuiltins x=some u) (h:Q u s)
  (hn:x ≠ "__name__":=by decide) (hd:(x == ("__debug__":Str))=false:=by decide):wpAny (model X.prog X.w) X.A (eval (.Name x pos) X.env) Q E s:=by
 obtain ⟨mb,h1,h2⟩:=I.mod.blt;exact Calls.Name_function_global I.ok.kind hg (Calls.loadGlobal_builtin (by rw [I.ok.glob]; exact I.mod.glob.keeps I.bk) hm (by rw [I.ok.blt]; exact h1.keeps I.bk) ((h2 x hn).trans hv) h) hd
def zm7 {x:Str} {v:V} {u:Value} {pos:Pos} (hg:Gl X x) (hm:X.mg x=some u) (r:RelV v u) (hd:(x == ("__debug__":Str))=false:=by decide):PE X (.Name x pos) (tC v):=
 λ _ _ _ H _ I h=>zeo I hg hm ⟨v,H,I,r,h⟩ hd
def zkt {x:Str} {v:V} {u:Value} {pos:Pos} (hg:Gl X x) (hm:X.mg x=none) (hv:bootBuiltins x=some u) (r:RelV v u) (hn:x ≠ "__name__":=by decide) (hd:(x == ("__debug__":Str))=false:=by decide):PE X (.Name x pos) (tC v):=
 λ _ _ _ H _ I h=>zce I hg hm hv ⟨v,H,I,r,h⟩ hn hd
variable {a b:Expr} {ta tb:TE} {pos:Pos}
noncomputable def tB (t:TE):TT:=λ σ H Q=>t σ H λ x H1=>∃ c,x=.bl c /\ Q c H1
def zcX {e:Expr} {t:TE} (h:PE X e t) (he:∀ whole,isTrue e X.env whole=(do let v <- whole; standAt e.pos; holding [v] (truthy v)):=by intro _; rfl):PT X e (tB t):=by
 intro pins s σ H Q I hw;refine isTrue_plain (thn (h pins s σ H _ I hw) λ v s1 ⟨x,H1,I1,r1,q1⟩=>?_) (he _);obtain ⟨d,rfl,q⟩:=q1;cases r1;exact wpAny_truthy_bool ⟨H1,I1,q⟩
variable {tA tB':TT} {rest:List Expr}
noncomputable def tAnd (t u:TT):TT:=λ σ H Q=>t σ H λ c H1=>if c=true then u σ H1 Q else Q false H1
noncomputable def tOr (t u:TT):TT:=λ σ H Q=>t σ H λ c H1=>if c=true then Q true H1 else u σ H1 Q
noncomputable def tNot (t:TT):TT:=λ σ H Q=>t σ H λ c H1=>Q (!c) H1
def ze3 (ha:PT X a tA):PW X (.BoolOp .And [a] pos) tA:=by
 intro wh pins s σ H Q I h;refine isTrue_and (thn (ha pins s σ H Q I h) λ c s1 e=>?_);cases c with
 | true=>exact isTrue_and_nil e
 | false=>exact e
def zfF (ha:PT X a tA):PW X (.BoolOp .Or [a] pos) tA:=by
 intro wh pins s σ H Q I h;refine isTrue_or (thn (ha pins s σ H Q I h) λ c s1 e=>?_);cases c with
 | false=>exact isTrue_or_nil e
 | true=>exact e
def zfq (ha:PT X a tA) (hb:PW X (.BoolOp .And (b :: rest) pos) tB'):PW X (.BoolOp .And (a :: b :: rest) pos) (tAnd tA tB'):=by
 intro wh pins s σ H Q I h;refine isTrue_and (thn (ha pins s σ H _ I h) λ c s1 ⟨H1,I1,q1⟩=>?_);cases c with
 | true=>exact hb wh pins s1 σ H1 Q I1 q1
 | false=>exact ⟨H1,I1,q1⟩
def zjq (ha:PT X a tA) (hb:PW X (.BoolOp .Or (b :: rest) pos) tB'):PW X (.BoolOp .Or (a :: b :: rest) pos) (tOr tA tB'):=by
 intro wh pins s σ H Q I h;refine isTrue_or (thn (ha pins s σ H _ I h) λ c s1 ⟨H1,I1,q1⟩=>?_);cases c with
 | true=>exact ⟨H1,I1,q1⟩
 | false=>exact hb wh pins s1 σ H1 Q I1 q1
def zdU (ha:PT X a tA):PT X (.UnaryOp .Not a pos) (tNot tA):=by
 intro pins s σ H Q I h;exact isTrue_not (ha pins s σ H (λ c H1=>Q (!c) H1) I h)
noncomputable def tIf (t:TT) (ta tb:TE):TE:=λ σ H Q=>t σ H λ c H1=>if c=true then ta σ H1 Q else tb σ H1 Q
def zbD {c:Expr} (hc:PT X c tA) (ha:PE X a ta) (hb:PE X b tb):PE X (.IfExp c a b pos) (tIf tA ta tb):=by
 intro pins s σ H Q I h;refine wpAny_IfExp (thn (hc pins s σ H _ I h) λ d s1 ⟨H1,I1,q1⟩=>?_);cases d with
 | true=>exact ha pins s1 σ H1 Q I1 q1
 | false=>exact hb pins s1 σ H1 Q I1 q1
end
noncomputable def SqL (K:PySem.W.Frag) (H:Hp) (a:Addr) (xs:List V):Prop:=
 Rd H a (.lst xs) \/
  ∃ (o:Obj) (its:Array Value) (n:Nat),K.lookup a=some o /\ o.cls=.type "list" /\ o.dict=none /\ o.data=.seq its n /\ its.size <= sizeLine /\ Vals xs its.toList
noncomputable def SqT (K:PySem.W.Frag) (H:Hp) (a:Addr) (xs:List V):Prop:=
 Rd H a (.tup xs) \/
  ∃ (o:Obj) (its:Array Value) (n:Nat),K.lookup a=some o /\ o.cls=.type "tuple" /\ o.data=.seq its n /\ its.size <= sizeLine /\ Vals xs its.toList
noncomputable def absV:Value -> Option V
 | .none=>some .non
 | .bool b=>some (.bl b)
 | .int i _=>some (.int i)
 | .str x _=>some (.str x)
 | .bytes b _=>some (.byt b)
 | .float b _=>some (.flt b)
 | .ref a=>some (.ref a)
 | .type n=>some (.ty n)
 | _=>none
def RelV.abs {x:V} {u:Value} (r:RelV x u):absV u=some x:=by
 cases x with
 | non=>cases r; rfl
 | bl _=>cases r; rfl
 | int _=>obtain ⟨t,rfl⟩:=r; rfl
 | str _=>obtain ⟨t,rfl⟩:=r; rfl
 | byt _=>obtain ⟨t,rfl⟩:=r; rfl
 | flt _=>obtain ⟨t,rfl⟩:=r; rfl
 | ref _=>cases r; rfl
 | ty _=>cases r; rfl
def RelV.inj {x y:V} {u:Value} (r:RelV x u) (q:RelV y u):x=y:=Option.some.inj (r.abs.symm.trans q.abs)
def Vals.inj:∀ {xs ys:List V} {us:List Value},Vals xs us -> Vals ys us -> xs=ys
 | _,_,_,.nil,.nil=>rfl
 | _,_,_,.cons r t,.cons r' t'=>by rw [r.inj r',Vals.inj t t']
section
variable {X:Cx} {pins:List (Addr × Obj)} {σ:St} {H:Hp} {s:Shared} {a:Addr} {xs ys:List V}
def SqL.of {K:PySem.W.Frag} (h:H a=some (.lst xs)):SqL K H a xs:=.inl (.inl h)
def SqT.of {K:PySem.W.Frag} (h:H a=some (.tup xs)):SqT K H a xs:=.inl (.inl h)
def Inv.list (I:Inv X pins σ H s) (h:SqL X.K H a xs):∃ its:List Value,Vals xs its /\ PlainL s.heap a its.toArray /\ xs.length <= sizeLine:=by
 rcases h with h | ⟨o,its,n,hk,hc,hd,hs,hz,r⟩
 ·obtain ⟨z,its,n,r,e⟩:=h.ok I.hok;exact ⟨its,r,⟨_,n,e,rfl,rfl,rfl⟩,z⟩
 ·refine ⟨its.toList,r,⟨o,n,I.kIn a o hk,hc,hd,by simpa using hs⟩,?_⟩;have e:=r.length;simp only [ybQ] at e;omega
def Inv.tuple (I:Inv X pins σ H s) (h:SqT X.K H a xs):∃ its:List Value,Vals xs its /\ IsTup s.heap a its.toArray /\ xs.length <= sizeLine:=by
 rcases h with h | ⟨o,its,n,hk,hc,hs,hz,r⟩
 ·obtain ⟨z,its,r,p⟩:=h.ok I.hok;exact ⟨its,r,p.tup,z⟩
 ·refine ⟨its.toList,r,⟨o,I.kIn a o hk,hc,n,by simpa using hs⟩,?_⟩;have e:=r.length;simp only [ybQ] at e;omega
def Inv.list_inj (I:Inv X pins σ H s) (h:SqL X.K H a xs) (h':SqL X.K H a ys):xs=ys:=by
 obtain ⟨its,r,⟨o,n,e,_,_,d⟩,_⟩:=I.list h;obtain ⟨its',r',⟨o',n',e',_,_,d'⟩,_⟩:=I.list h';rw [e] at e'; cases e';rw [d] at d';injection d' with d1 _;have:its=its':=by simpa using congrArg Array.toList d1
 subst this;exact r.inj r'
def Inv.tuple_inj (I:Inv X pins σ H s) (h:SqT X.K H a xs) (h':SqT X.K H a ys):xs=ys:=by
 obtain ⟨its,r,⟨o,e,_,n,d⟩,_⟩:=I.tuple h;obtain ⟨its',r',⟨o',e',_,n',d'⟩,_⟩:=I.tuple h';rw [e] at e'; cases e';rw [d] at d';injection d' with d1 _;have:its=its':=by simpa using congrArg Array.toList d1
 subst this;exact r.inj r'
end
noncomputable abbrev Cx.wish (X:Cx) (E:Value -> Shared -> Prop):Cx:={ X with xe:=E }
noncomputable abbrev Cx.nox (X:Cx):Cx:=X.wish λ _ _=>False
def Cx.Ok.wish {X:Cx} (ok:X.Ok) (E:Value -> Shared -> Prop):(X.wish E).Ok:=
 ⟨ok.mod,ok.kind,ok.glob,ok.blt,ok.above,ok.inj,ok.has,ok.cab,ok.hd,ok.frames,ok.stk,ok.exf,ok.bs,ok.bsz,ok.noex,ok.exfs,ok.funs,ok.frf⟩
def Cx.Ok.unwish {X:Cx} {E:Value -> Shared -> Prop} (ok:(X.wish E).Ok):X.Ok:=
 ⟨ok.mod,ok.kind,ok.glob,ok.blt,ok.above,ok.inj,ok.has,ok.cab,ok.hd,ok.frames,ok.stk,ok.exf,ok.bs,ok.bsz,ok.noex,ok.exfs,ok.funs,ok.frf⟩
section
variable {X:Cx} {pins:List (Addr × Obj)} {σ:St} {H:Hp} {s:Shared} {E:Value -> Shared -> Prop}
def Inv.wish (I:Inv X pins σ H s) (E:Value -> Shared -> Prop):Inv (X.wish E) pins σ H s:=⟨I.ok.wish E,I.os,I.bare,I.base,I.loc,I.cell,I.free,I.freeC,I.pin,I.hok,I.len⟩
def Inv.unwish (I:Inv (X.wish E) pins σ H s):Inv X pins σ H s:=⟨I.ok.unwish,I.os,I.bare,I.base,I.loc,I.cell,I.free,I.freeC,I.pin,I.hok,I.len⟩
def SP.unwish {D:Ends} {f:Flow} {s':Shared} (h:SP (X.wish E) pins D f s'):SP X pins D f s':=by
 cases f with
 | next=>obtain ⟨σ',H',I,q⟩:=h; exact ⟨σ',H',I.unwish,q⟩
 | brk=>obtain ⟨σ',H',I,q⟩:=h; exact ⟨σ',H',I.unwish,q⟩
 | cont=>obtain ⟨σ',H',I,q⟩:=h; exact ⟨σ',H',I.unwish,q⟩
 | ret u=>obtain ⟨v,σ',H',I,r,q⟩:=h; exact ⟨v,σ',H',I.unwish,r,q⟩
def PT.nox {e:Expr} {t:TT} (h:PT X.nox e t):PT X e t:=λ pins s σ H Q I hw=>
 wpAny_mono (h pins s σ H Q (I.wish _) hw) (λ _ _ ⟨H',I',q⟩=>⟨H',I'.unwish,q⟩) λ _ _ z=>False.elim z
def PSs.nox {st:List Stmt} {t:TS} (h:PSs X.nox st t):PSs X st t:=λ pins s σ H D I hw=>
 wpAny_mono (h pins s σ H D (I.wish _) hw) (λ _ _ q=>q.unwish) λ _ _ z=>False.elim z
end
section
variable {X:Cx} {st:Stmt} {rest:List Stmt} {t u:TS} {e:Expr} {te:TE} {pos:Pos}
noncomputable def zpd:TS:=λ D σ H=>D.nx σ H
noncomputable def tSeq (t u:TS):TS:=λ D σ H=>t { D with nx:=u D } σ H
def zan:PSs X [] zpd:=λ _ _ σ H _ I h=>wpAny_execs_nil ⟨σ,H,I,h⟩
def zac (h1:PS X st t) (h2:PSs X rest u):PSs X (st :: rest) (tSeq t u):=by
 intro pins s σ H D I h;refine wpAny_execs_cons (thn (h1 pins s σ H { D with nx:=u D } I h) λ f s1 q=>?_);cases f with
 | next=>
  obtain ⟨σ',H',I',q⟩:=q;exact h2 pins s1 σ' H' D I' q
 | ret v=>exact q
 | brk=>exact q
 | cont=>exact q
def zae (h1:PS X st t):PSs X [st] t:=by
 intro pins s σ H D I h;refine wpAny_execs_cons (thn (h1 pins s σ H D I h) λ f s1 q=>?_);cases f with
 | next=>exact wpAny_execs_nil q
 | ret v=>exact q
 | brk=>exact q
 | cont=>exact q
def Inv.quiet {pins:List (Addr × Obj)} {σ:St} {H:Hp} {s:Shared} (I:Inv X pins σ H s):interactive X.env=false:=by simp [interactive,I.ok.kind]
noncomputable def zpf (te:TE):TS:=λ D σ H=>te σ H λ _ H1=>D.nx σ H1
def zeH (he:PE X e te) (hs:swapsWith e none pos.line X.env=pure false:=by rfl):PS X (.Expr e pos) (zpf te):=by
 intro pins s σ H D I h;exact wpAny_Expr_any (thn (he pins s σ H _ I h) λ v s1 ⟨x,H1,I1,r1,q1⟩=>⟨σ,H1,I1,q1⟩) I.quiet hs
noncomputable def tRet (te:TE):TS:=λ D σ H=>te σ H D.rt
def zaj (he:PE X e te):PS X (.Return (some e) pos) (tRet te):=by
 intro pins s σ H D I h;exact wpAny_Return_some (thn (he pins s σ H _ I h) λ v s1 ⟨x,H1,I1,r1,q1⟩=>⟨x,σ,H1,I1,r1,q1⟩)
noncomputable def tIfS (c:TT) (t u:TS):TS:=λ D σ H=>c σ H λ b H1=>if b=true then t D σ H1 else u D σ H1
def zaz {c:Expr} {a b:List Stmt} {tc:TT} (hc:PT X c tc) (ha:PSs X a t) (hb:PSs X b u):PS X (.If c a b pos) (tIfS tc t u):=by
 intro pins s σ H D I h;refine wpAny_If (thn (hc pins s σ H _ I h) λ d s1 ⟨H1,I1,q1⟩=>?_);cases d with
 | true=>exact ha pins s1 σ H1 D I1 q1
 | false=>exact hb pins s1 σ H1 D I1 q1
end
noncomputable abbrev TG:=V -> St -> Hp -> (St -> Hp -> Prop) -> Prop
noncomputable abbrev TGs:=List V -> St -> Hp -> (St -> Hp -> Prop) -> Prop
noncomputable def PG (X:Cx) (target:Expr) (t:TG):Prop:=
 ∀ (pins:List (Addr × Obj)) (s:Shared) (σ:St) (H:Hp) (v:V) (u:Value) (Q:St -> Hp -> Prop),Inv X pins σ H s -> RelV v u -> t v σ H Q ->
  wpAny (model X.prog X.w) X.A (assign target X.env u) (λ _ s'=>∃ σ' H',Inv X pins σ' H' s' /\ Q σ' H') X.xe s
noncomputable def PGs (X:Cx) (ts:List Expr) (t:TGs):Prop:=
 ∀ (pins:List (Addr × Obj)) (s:Shared) (σ:St) (H:Hp) (vs:List V) (us:List Value) (Q:St -> Hp -> Prop),Inv X pins σ H s -> Vals vs us -> t vs σ H Q ->
  wpAny (model X.prog X.w) X.A (assignInOrder ((assignEach ts X.env).map (·.2)) us) (λ _ s'=>∃ σ' H',Inv X pins σ' H' s' /\ Q σ' H') X.xe s
noncomputable abbrev TSet:=V -> V -> V -> Hp -> (Hp -> Prop) -> Prop
noncomputable def PSet (X:Cx) (t:TSet):Prop:=
 ∀ (pins:List (Addr × Obj)) (s:Shared) (σ:St) (H:Hp) (o i v:V) (ov iv u:Value) (Q:Hp -> Prop),Inv X pins σ H s -> RelV o ov -> RelV i iv -> RelV v u -> t o i v H Q ->
  wpAny (model X.prog X.w) X.A (setItem ov iv u) (λ _ s'=>∃ H',Inv X pins σ H' s' /\ Q H') X.xe s
section
variable {X:Cx} {pos:Pos}
noncomputable def zna (i:Nat):TG:=λ v σ H Q=>Q (σ.set i (some v)) H
def zav {i:Nat} {x:Str} (hN:X.N.Nodup) (hi:X.N[i]?=some x) (hx:Loc X.env.scope x) (hf:X.fn x=true \/ X.env.scope.names.lookup x=some .local:=by first | exact .inl rfl | exact .inr rfl | assumption):PG X (.Name x pos) (zna i):=by
 intro pins s σ H v u Q I r h;exact wpAny_assign_Name (zdg I hN hi hx r (λ s' I'=>⟨_,H,I',h⟩) hf)
noncomputable def gNil:TGs:=λ vs σ H Q=>vs=[] /\ Q σ H
noncomputable def zom (t:TG) (u:TGs):TGs:=λ vs σ H Q=>∃ v r,vs=v :: r /\ t v σ H λ σ' H'=>u r σ' H' Q
def zc1:PGs X [] gNil:=by
 intro pins s σ H vs us Q I r h;obtain ⟨e,h⟩:=h;subst e;cases r;exact assignInOrder_nil ⟨σ,H,I,h⟩
def zaK {e:Expr} {es:List Expr} {t:TG} {u:TGs} (h1:PG X e t) (h2:PGs X es u)
  (hs:(assignEach (e :: es) X.env).map (·.2)=assign e X.env :: (assignEach es X.env).map (·.2):=by rfl):PGs X (e :: es) (zom t u):=by
 intro pins s σ H vs us Q I r h;obtain ⟨v,vr,e1,h⟩:=h;subst e1;cases r with
 | cons r rr=>
  rw [hs];refine assignInOrder_cons (thn (h1 pins s σ H _ _ _ I r h) λ _ s1 ⟨σ1,H1,I1,q1⟩=>?_);exact h2 pins s1 σ1 H1 _ _ Q I1 rr q1
noncomputable def gTup (K:PySem.W.Frag) (n:Nat) (t:TGs):TG:=λ v σ H Q=>∃ a xs,v=.ref a /\ SqT K H a xs /\ xs.length=n /\ t xs σ H Q
def zpF {es:List Expr} {k:Nat} {t:TGs} {n:Nat} (hc:X.calm=true) (h:PGs X es t)
  (hn:(assignEach es X.env).length=n:=by rfl) (hst:(assignEach es X.env).findIdx? (·.1)=none:=by rfl):PG X (.Tuple es k pos) (gTup X.K n t):=by
 intro pins s σ H v u Q I r hw;obtain ⟨a,xs,e1,hq,hl,hw⟩:=hw;subst e1;cases r;obtain ⟨its,rv,ht,hz⟩:=I.tuple hq;refine assign_Tuple_tuple (I.ok.hd hc) ht (by simp [hn,<- hl,rv.length]) hst λ h' hx=>?_;have I1:Inv X pins σ H { s with heap:=h' }:=I.kept (t':=s.toks) λ b o e=>hx b o (yap (yae e)) e;exact h pins _ σ H xs _ Q I1 (by simpa using rv) hw
noncomputable def gSub (to ti:TE) (t:TSet):TG:=λ v σ H Q=>to σ H λ o H1=>ti σ H1 λ i H2=>t o i v H2 λ H3=>Q σ H3
def zhe {o i:Expr} {to ti:TE} {t:TSet} (ho:PE X o to) (hi:PE X i ti) (hs:PSet X t)
  (ha : ∀ v, assign (.Subscript o i pos) X.env v = (do
   let ov <- holding [v] (eval o X.env)
   let iv <- holding [v,ov] (eval i X.env)
   standAt pos
   holding [v,ov,iv] (setItem ov iv v)
   release [v,ov,iv] []):=by intro _; rfl):PG X (.Subscript o i pos) (gSub to ti t):=by
 intro pins s σ H v u Q I r h;rw [ha];refine wpAny_bind (wpAny_holding (thn (ho pins s σ H _ I h) λ ov s1 ⟨x,H1,I1,r1,q1⟩=>?_));refine wpAny_bind (wpAny_holding (thn (hi pins s1 σ H1 _ I1 q1) λ iv s2 ⟨y,H2,I2,r2,q2⟩=>?_));refine wpAny_bind (wpAny_standAt (wpAny_bind (wpAny_holding (thn (hs pins s2 σ H2 x y v ov iv u _ I2 r1 r2 r q2) λ _ s3 ⟨H3,I3,q3⟩=>?_))));exact wpAny_release ⟨σ,H3,I3,q3⟩
noncomputable def tAsg (te:TE) (g:TG):TS:=λ D σ H=>te σ H λ x H1=>g x σ H1 D.nx
def zgz {tg e:Expr} {te:TE} {g:TG} (he:PE X e te) (hg:PG X tg g) (hs:swapsWithSole [tg] e pos.line X.env=pure false:=by rfl) (hw:swappedStores [tg] e X.env=pure none:=by rfl)
  (h1:(assignEach [tg] X.env).map (·.2)=[assign tg X.env]:=by rfl):PS X (.Assign [tg] e pos) (tAsg te g):=by
 intro pins s σ H D I h;refine wpAny_Assign_stores (thn (he pins s σ H _ I h) λ v s1 ⟨x,H1,I1,r1,q1⟩=>?_) hs hw;rw [h1];exact thn (hg pins s1 σ H1 x v _ I1 r1 q1) λ _ s2 q=>q
def zas {i:Nat} {x:Str} {e:Expr} {te:TE} {pos':Pos} (hN:X.N.Nodup) (hi:X.N[i]?=some x) (hx:Loc X.env.scope x) (he:PE X e te) (hs:swapsWith e (some (.Name x pos')) pos.line X.env=pure false:=by rfl) (hf:X.fn x=true \/ X.env.scope.names.lookup x=some .local:=by first | exact .inl rfl | exact .inr rfl | assumption) :
  PS X (.Assign [.Name x pos'] e pos) (tAsg te (zna i)):=by
 intro pins s σ H D I h;refine wpAny_Assign_Name (thn (he pins s σ H _ I h) λ v s1 ⟨y,H1,I1,r1,q1⟩=>?_) hs;exact zdg I1 hN hi hx r1 (λ s2 I2=>⟨_,H1,I2,q1⟩) hf
noncomputable def tPar (i j:Nat) (ta:TA):TS:=λ D σ H=>ta σ H λ vs H1=>∃ v w,vs=[v,w] /\ D.nx ((σ.set i (some v)).set j (some w)) H1
def zmF {i j:Nat} {x y:Str} {a b:Expr} {ta:TA} {px py pt:Pos} {kt k2 pt2} (hc:X.calm=true) (hN:X.N.Nodup) (hi:X.N[i]?=some x) (hj:X.N[j]?=some y) (hij:i ≠ j)
  (hx:X.env.scope.names.lookup x=some .local) (hy:X.env.scope.names.lookup y=some .local) (ha:PA X [a,b] ta)
  (hw:swappedStores [.Tuple [.Name x px,.Name y py] kt pt] (.Tuple [a,b] k2 pt2) X.env=pure (some [x,y]))
  (hs:swapsWithSole [.Tuple [.Name x px,.Name y py] kt pt] (.Tuple [a,b] k2 pt2) pos.line X.env=pure false:=by rfl) :
  PS X (.Assign [.Tuple [.Name x px,.Name y py] kt pt] (.Tuple [a,b] k2 pt2) pos) (tPar i j ta):=by
 intro pins s σ H D I h;rw [exec_Assign_arm];refine wpAny_bind (wpAny_standAt ?_);rw [hs];refine wpAny_bind (wpAny_pure ?_);rw [if_neg (3:)];refine wpAny_bind (Tuple_ (thn (ha _ pins s σ H _ I h) λ us s1 ⟨vs,H1,I1,r1,q1⟩=>?_));obtain ⟨v,w,e1,q1⟩:=q1;subst e1
 obtain ⟨u1,u2,rfl,rv,rw'⟩:∃ u1 u2,us=[u1,u2] /\ RelV v u1 /\ RelV w u2:=by
  cases r1 with
  | cons p q=>
   cases q with
   | cons p' q'=>
    cases q';exact ⟨_,_,rfl,p,p'⟩
 refine wpAny_newObj_type ?_ (59:);have I2:Inv X pins σ H1 { s1 with heap:=s1.heap.push { cls:=.type "tuple",data:=.seq [u1,u2].toArray } }:=I1.kept (t':=s1.toks) λ b o e=>yac _ e;rw [hw];refine wpAny_bind (wpAny_pure ?_);show wpAny (model X.prog X.w) X.A (do rule "assign.swapped-stores"; let items <- unpackItems (.ref s1.heap.objs.size) 2 none; assignInOrder [λ v=>bindName X.env y v,λ v=>bindName X.env x v] items.reverse; pure Flow.next) _ _ _;refine wpAny_bind (wpAny_rule (wpAny_bind (unpackItems_tuple (items:=#[u1,u2]) (I.ok.hd hc) (IsTup.new s1.heap _) λ h' hx'=>?_)));have I3:=I2.kept (h':=h') (t':=s1.toks) λ b o e=>hx' b o (yap (yae e)) e;show wpAny _ _ (assignInOrder [λ v=>bindName X.env y v,λ v=>bindName X.env x v] [u2,u1] >>= λ _=>pure Flow.next) _ _ _;refine wpAny_bind (assignInOrder_cons (wpAny_bindName (zdg I3 hN hj (.inl hy) rw' (λ s2 I4=>?_) (.inr hy))));refine assignInOrder_cons (wpAny_bindName (zdg I4 hN hi (.inl hx) rv (λ s3 I5=>assignInOrder_nil (wpAny_pure ?_)) (.inr hx)));rw [List.set_comm _ _ (ybj hij)] at I5;exact ⟨_,H1,I5,q1⟩
end
section
variable {X:Cx} {pos:Pos}
end
structure It where
 go:Nat -> Hp -> Prop
 yld:Nat -> Hp -> V -> Hp -> Prop
 stop:Nat -> Hp -> Prop
noncomputable def FpOk (X:Cx) (pins:List (Addr × Obj)) (H:Hp) (b:Addr):Prop:=
 H b=none /\ b ≠ X.env.locals /\ b ∉ X.fs /\ (b ∈ X.ex \/ X.s₀.heap.objs.size <= b) /\ (∀ x c,X.env.cells.lookup x=some c -> c ≠ b) /\ ∀ p ∈ X.pn ++ pins,p.1 ≠ b
def Inv.fpOk {X:Cx} {pins:List (Addr × Obj)} {σ:St} {H H':Hp} {s:Shared} {b:Addr} (I:Inv X pins σ H s) (hb:s.heap.objs.size <= b) (hn:H' b=none):FpOk X pins H' b:=by
 refine ⟨hn,ybo (yaf I.lt hb),I.nofs hb,.inr (yaV I.sz hb),λ x c e z=>?_,λ p hp z=>?_⟩
 ·obtain ⟨v,q⟩:=I.cell x c e;exact absurd (yaf q.lt (by rw [z]; exact hb)) (yaJ _)
 ·exact absurd (yaf (yae (I.pin p hp).1) (by rw [z]; exact hb)) (yaJ _)
structure Turn (P:Program) (w:World) (K:PySem.W.Frag) (tg:Expr) (J:It) (fp:List Addr) (it:Addr) (tn:Nat -> Heap -> Prop):Prop where
 mem:it ∈ fp
 obj:∀ i h,tn i h -> ∀ b ∈ fp,∃ o,h.get? b=some o /\ ∀ v,o.data ≠ .cell v
 keep:∀ i h h',tn i h -> (∀ b ∈ fp,∀ o,h.get? b=some o -> h'.get? b=some o) -> tn i h'
 item:∀ (X:Cx),X.prog=P -> X.w=w -> X.K=K -> X.calm=true -> ∀ (i:Nat) (pins:List (Addr × Obj)) (s:Shared) (σ:St) (H:Hp) (E:Value -> Shared -> Prop),Inv X pins σ H s -> (∀ b ∈ fp,FpOk X pins H b) -> tn i s.heap -> J.go i H ->
  wpAny (model P w) X.A (pyNext (.ref it)) (λ r s1=>∃ u,r=some u /\
   wpAny (model P w) X.A (letOwnedTupleGo tg (.ref it) u) (λ _ s2=>∃ x H',Inv X pins σ H' s2 /\ RelV x u /\ J.yld i H x H' /\ tn (i + 1) s2.heap /\ ∀ b ∈ fp,H' b=none) E s1) E s
 done:∀ (X:Cx),X.prog=P -> X.w=w -> X.K=K -> X.calm=true -> ∀ (i:Nat) (pins:List (Addr × Obj)) (s:Shared) (σ:St) (H:Hp) (E:Value -> Shared -> Prop),Inv X pins σ H s -> (∀ b ∈ fp,FpOk X pins H b) -> tn i s.heap -> J.stop i H ->
  wpAny (model P w) X.A (pyNext (.ref it)) (λ r s1=>r=none /\ Inv X pins σ H s1) E s
 self:∀ (A:Around) (i:Nat) (s:Shared) (Q:Value -> Shared -> Prop) (E:Value -> Shared -> Prop),tn i s.heap -> Q (.ref it) s -> wpAny (model P w) A (pyIter (.ref it)) Q E s
noncomputable abbrev TI:=St -> Hp -> (It -> Hp -> Prop) -> Prop
noncomputable def PIE (X:Cx) (pins:List (Addr × Obj)) (σ:St) (tg:Expr) (R:It -> Hp -> Prop) (itv:Value) (s2:Shared):Prop:=
 ∃ (it:Addr) (fp:List Addr) (tn:Nat -> Heap -> Prop) (J:It) (H':Hp),itv=.ref it /\ Inv X pins σ H' s2 /\ Turn X.prog X.w X.K tg J fp it tn /\ tn 0 s2.heap /\ (∀ b ∈ fp,FpOk X pins H' b) /\ R J H'
noncomputable def PI (X:Cx) (tg iter:Expr) (wi:TI):Prop:=
 ∀ (pins:List (Addr × Obj)) (s:Shared) (σ:St) (H:Hp) (R:It -> Hp -> Prop),Inv X pins σ H s -> wi σ H R ->
  wpAny (model X.prog X.w) X.A (eval iter X.env) (λ v s1=>wpAny (model X.prog X.w) X.A (pyIter v) (PIE X pins σ tg R) X.xe s1) X.xe s
def zlx {M:Model} {A:Around} {E:Value -> Shared -> Prop} {s:Shared} {tg:Expr} {it:Addr} {u:Value} {o:Obj} {n:String} {vs:Array Value} {Q:Unit -> Shared -> Prop} (ho:s.heap.get? it=some o) (hc:o.cls=.type n) (hd:o.data=.fields vs)
    (hn:["enumerate","zip","dict_itemiterator","dict_reverseitemiterator","odict_iterator","itertools.zip_longest","itertools.pairwise"].contains n=false) (hQ:Q () s):wpAny M A (letOwnedTupleGo tg (.ref it) u) Q E s:=by
  unfold letOwnedTupleGo
  cases tg <;> first
    | exact wpAny_pure hQ
    | (cases u <;> first
        | exact wpAny_pure hQ
        | (refine wpAny_bind (wpAny_load ho ?_)
           rw [hc,hd];show wpAny M A (if (["enumerate","zip","dict_itemiterator","dict_reverseitemiterator","odict_iterator","itertools.zip_longest","itertools.pairwise"].contains n && vs[0]? == some (rawInt _))=true then _ else _) Q E s;rw [if_neg (by intro h; rw [hn,Bool.false_and] at h; cases h)];exact wpAny_pure hQ))
noncomputable def Itl (K:PySem.W.Frag) (a:Addr):It:=
 ⟨λ i H=>∃ xs x,SqL K H a xs /\ xs[i]?=some x,λ i H x H'=>H'=H /\ ∀ xs,SqL K H a xs -> xs[i]?=some x,λ i H=>∃ xs,SqL K H a xs /\ xs.length <= i⟩
noncomputable def Itt (K:PySem.W.Frag) (a:Addr):It:=
 ⟨λ i H=>∃ xs x,SqT K H a xs /\ xs[i]?=some x,λ i H x H'=>H'=H /\ ∀ xs,SqT K H a xs -> xs[i]?=some x,λ i H=>∃ xs,SqT K H a xs /\ xs.length <= i⟩
noncomputable def Itr (lo:Int) (n:Nat):It:=⟨λ i _=>i < n,λ i H x H'=>H'=H /\ x=.int (lo + i),λ i _=>n <= i⟩
def zjz {P:Program} {w:World} {K:PySem.W.Frag} {tg:Expr} (a it:Addr):Turn P w K tg (Itl K a) [it] it (λ i h=>h.IsListIter it a i) where
 mem:=by simp
 obj:=λ i h st b hb=>by
  have e:b=it:=by simpa using hb
  subst e;obtain ⟨o,e,c,d⟩:=st;exact ⟨o,e,λ v z=>by rw [d] at z; cases z⟩
 keep:=λ i h h' st k=>st.at λ o e=>k it (5:) o e
 item:=by
  intro X hP hw hK hc i pins s σ H E I hf st hg;subst hP hw hK;obtain ⟨xs,x,hq,hx⟩:=hg;obtain ⟨its,rv,p,hz⟩:=I.list hq;obtain ⟨u,hu,ru⟩:=rv.get hx;obtain ⟨f0,f1,f2,f3,f4,f5⟩:=hf it (5:);refine wpAny_pyNext_list_item st p.isList (x:=u) (by simpa using hu) λ h' st' sb=>?_;have I1:Inv X pins σ H { s with heap:=h' }:=I.turned (t':=s.toks) (λ b o hb e=>(sb.2 b hb).trans e) f0 f1 f3 f4 f5;obtain ⟨o,e,c,d⟩:=id st';exact ⟨u,rfl,zlx (s:={ s with heap:=h' }) e c d (3:) ⟨x,H,I1,ru,⟨rfl,λ ys hy=>by rw [I.list_inj hy hq]; exact hx⟩,st',λ b hb=>(hf b hb).1⟩⟩
 done:=by
  intro X hP hw hK hc i pins s σ H E I hf st hg;subst hP hw hK;obtain ⟨xs,hq,hx⟩:=hg;obtain ⟨its,rv,p,hz⟩:=I.list hq;obtain ⟨f0,f1,f2,f3,f4,f5⟩:=hf it (5:);have hl:=rv.length;exact wpAny_pyNext_list_end (I.ok.hd hc) st p.isList (35:) λ h' eb=>⟨rfl,I.turned (t':=s.toks) (λ b o hb e=>eb b o hb e) f0 f1 f3 f4 f5⟩
 self:=λ _ _ _ _ _ st h=>wpAny_pyIter_listiter st h
def zjl {P:Program} {w:World} {K:PySem.W.Frag} {tg:Expr} (a it:Addr):Turn P w K tg (Itt K a) [it] it (λ i h=>h.IsTupleIter it a i) where
 mem:=by simp
 obj:=λ i h st b hb=>by
  have e:b=it:=by simpa using hb
  subst e;obtain ⟨o,e,c,d⟩:=st;exact ⟨o,e,λ v z=>by rw [d] at z; cases z⟩
 keep:=λ i h h' st k=>st.at λ o e=>k it (5:) o e
 item:=by
  intro X hP hw hK hc i pins s σ H E I hf st hg;subst hP hw hK;obtain ⟨xs,x,hq,hx⟩:=hg;obtain ⟨its,rv,p,hz⟩:=I.tuple hq;obtain ⟨u,hu,ru⟩:=rv.get hx;obtain ⟨f0,f1,f2,f3,f4,f5⟩:=hf it (5:);refine wpAny_pyNext_tuple_item st (show s.heap.IsTuple a its.toArray from p) (x:=u) (by simpa using hu) λ h' st' sb=>?_;have I1:Inv X pins σ H { s with heap:=h' }:=I.turned (t':=s.toks) (λ b o hb e=>(sb.2 b hb).trans e) f0 f1 f3 f4 f5;obtain ⟨o,e,c,d⟩:=id st';exact ⟨u,rfl,zlx (s:={ s with heap:=h' }) e c d (3:) ⟨x,H,I1,ru,⟨rfl,λ ys hy=>by rw [I.tuple_inj hy hq]; exact hx⟩,st',λ b hb=>(hf b hb).1⟩⟩
 done:=by
  intro X hP hw hK hc i pins s σ H E I hf st hg;subst hP hw hK;obtain ⟨xs,hq,hx⟩:=hg;obtain ⟨its,rv,p,hz⟩:=I.tuple hq;obtain ⟨f0,f1,f2,f3,f4,f5⟩:=hf it (5:);have hl:=rv.length;exact wpAny_pyNext_tuple_end (I.ok.hd hc) st (show s.heap.IsTuple a its.toArray from p) (35:) λ h' eb=>⟨rfl,I.turned (t':=s.toks) (λ b o hb e=>eb b o hb e) f0 f1 f3 f4 f5⟩
 self:=λ _ _ _ _ _ st h=>wpAny_pyIter_tupleiter st h
def ziY {P:Program} {w:World} {K:PySem.W.Frag} {tg:Expr} (it:Addr) (lo:Int) (n:Nat):Turn P w K tg (Itr lo n) [it] it (λ i h=>IsRangeIter h it (lo + (i:Nat) * 1) ((n:Int) - (i:Nat)) 1) where
 mem:=by simp
 obj:=λ i h st b hb=>by
  have e:b=it:=by simpa using hb
  subst e
  exact ⟨_,st,λ v z=>by
   have z':Data.fields _=Data.cell v:=z;cases z'⟩
 keep:=λ i h h' st k=>k it (5:) _ st
 item:=by
  intro X hP hw hK hc i pins s σ H E I hf st hg;subst hP hw hK;obtain ⟨f0,f1,f2,f3,f4,f5⟩:=hf it (5:);have W:=Walks.range (prog:=X.prog) (w:=X.w) (I.ok.hd hc) it lo 1 n;refine W.item i s _ _ hg st λ v h' tk hv st' kk=>?_;obtain ⟨t,rfl⟩:=hv;have I1:Inv X pins σ H { s with heap:=h',toks:=tk }:=I.turned (λ b o hb e=>kk b o (by simpa using hb) e) f0 f1 f3 f4 f5;refine ⟨_,rfl,zlx (s:={ s with heap:=h',toks:=tk }) (n:="range_iterator") st' rfl rfl (3:) ⟨.int (lo + i),H,I1,⟨t,?_⟩,⟨rfl,rfl⟩,st',λ b hb=>(hf b hb).1⟩⟩;rw [Int.mul_one]
 done:=by
  intro X hP hw hK hc i pins s σ H E I hf st hg;subst hP hw hK;obtain ⟨f0,f1,f2,f3,f4,f5⟩:=hf it (5:);exact wpAny_pyNext_range_end (I.ok.hd hc) st (by have:n <= i:=hg; omega) λ h' eb=>⟨rfl,I.turned (t':=s.toks) (λ b o hb e=>eb b o hb e) f0 f1 f3 f4 f5⟩
 self:=λ _ _ _ _ _ st h=>wpAny_pyIter_rangeiter st h
section
variable {X:Cx} {tg:Expr}
def zlS {pins:List (Addr × Obj)} {σ:St} {H:Hp} {s:Shared} {R:It -> Hp -> Prop} {E:Value -> Shared -> Prop} {lo hi:Int} {t u v:Tok} {tk:Nat} (I:Inv X pins σ H s) (h1:-(2 ^ 62) <= lo) (h2:lo < 2 ^ 62) (h3:-(2 ^ 62) <= hi) (h4:hi < 2 ^ 62)
  (q:R (Itr lo (hi - lo).toNat) H):wpAny (model X.prog X.w) X.A (pyIter (.ref s.heap.objs.size)) (PIE X pins σ tg R) E { s with heap:=s.heap.push { cls:=.type "range",data:=.fields #[.int lo t,.int hi u,.int 1 v] },toks:=tk }:=by
 refine wpAny_pyIter_range (IsRange.new ..) (small_one h1 h2 h3 h4) ?_;have I1:Inv X pins σ H { s with heap:=s.heap.push { cls:=.type "range",data:=.fields #[.int lo t,.int hi u,.int 1 v] },toks:=tk }:=I.kept λ b o e=>yac _ e
 refine ⟨(s.heap.push { cls:=.type "range",data:=.fields #[.int lo t,.int hi u,.int 1 v] }).objs.size,[(s.heap.push { cls:=.type "range",data:=.fields #[.int lo t,.int hi u,.int 1 v] }).objs.size],_,_,H,rfl,
  I1.kept (t':=tk) λ b o e=>yac _ e,ziY _ lo (hi - lo).toNat,?_,λ b hb=>?_,q⟩
 ·have e1 : lo + ((0 : Nat) : Int) * 1 = lo := by simp
  have e2:(((hi - lo).toNat:Nat):Int) - ((0:Nat):Int)=Builtin.Range.rangeSize lo hi 1:=by rw [rangeSize_one]; split <;> omega
  show IsRangeIter _ _ (lo + ((0:Nat):Int) * 1) ((((hi - lo).toNat:Nat):Int) - ((0:Nat):Int)) 1;rw [e1,e2];exact yal _ rfl
 ·have e : b = (s.heap.push { cls := .type "range", data := .fields #[.int lo t, .int hi u, .int 1 v] }).objs.size := by simpa using hb
  subst e;exact I1.fpOk (yah _) (I1.hok.fresh (yah _))
noncomputable def zpe (ta:TA):TI:=λ σ H R=>ta σ H λ vs H1=>∃ j:Int,vs=[.int j] /\ -(2 ^ 62) <= j /\ j < 2 ^ 62 /\ R (Itr 0 j.toNat) H1
def zaN {a:Expr} {ta:TA} {p pos:Pos} (hg:Gl X "range") (hm:X.mg "range"=none) (ha:PA X [a] ta) (hs:starEach [a] X.env=[(false,eval a X.env)]:=by rfl):PI X tg (.Call (.Name "range" p) [a] [] pos) (zpe ta):=by
 intro pins s σ H R I h;refine Call_ (zce I hg hm boot_range (yaD (thn (ha pos pins s σ H _ I h) λ us s1 ⟨vs,H1,I1,r1,q1⟩=>?_) hs rfl));obtain ⟨j,e,q1,q2,q⟩:=q1;subst e;cases r1 with
 | cons r rr=>
  cases rr;obtain ⟨t,rfl⟩:=r;exact call_range_1 (zlS I1 (1:) (1:) q1 q2 (by simpa using q))
noncomputable def tFor (wi:TI) (g:TG) (tb:TS):TS:=λ D σ H=>wi σ H λ J H1=>∃ W:Nat -> Nat -> St -> Hp -> Prop,(∃ m,W 0 m σ H1) /\ ∀ i m σ H,W i m σ H ->
 (J.stop i H /\ D.nx σ H) \/ (J.go i H /\ ∃ N:St -> Hp -> Prop,(∀ σ' H',N σ' H' -> ∃ m',m' < m /\ W (i + 1) m' σ' H') /\ ∀ x H',J.yld i H x H' -> g x σ H' λ σ2 H2=>tb { D with nx:=N,ct:=N,bk:=D.nx } σ2 H2)
noncomputable def zfK (fp:List Addr) (h:Heap):List (Addr × Obj):=fp.filterMap λ b=>(h.get? b).map λ o=>(b,o)
def zcr {fp:List Addr} {h:Heap} {b:Addr} {o:Obj} (hb:b ∈ fp) (e:h.get? b=some o):(b,o) ∈ zfK fp h:=ycr.mpr ⟨b,hb,by rw [e]; rfl⟩
def zlp {fp:List Addr} {h:Heap} {p:Addr × Obj} (hp:p ∈ zfK fp h):p.1 ∈ fp /\ h.get? p.1=some p.2:=by
 obtain ⟨b,hb,e⟩:=ycr.mp hp;cases q:h.get? b with
 | none=>rw [q] at e; cases e
 | some o=>
  rw [q] at e;have e':(b,o)=p:=Option.some.inj e;subst e';exact ⟨hb,q⟩
def Inv.pinned {pins:List (Addr × Obj)} {σ:St} {H:Hp} {s:Shared} {fp:List Addr} (I:Inv X pins σ H s) (hf:∀ b ∈ fp,FpOk X pins H b) (ho:∀ b ∈ fp,∃ o,s.heap.get? b=some o /\ ∀ v,o.data ≠ .cell v):Inv X (pins ++ zfK fp s.heap) σ H s:=
 I.pins_of λ p hp=>(yau.mp hp).elim (λ z=>I.pin p (yaC _ z)) λ z=>by
  obtain ⟨hb,e⟩:=zlp z;obtain ⟨f0,f1,f2,_⟩:=hf p.1 hb;obtain ⟨o,e',d⟩:=ho p.1 hb;rw [e] at e'; cases e';exact ⟨e,f0,f1,f2,d⟩
def Inv.unpinned {pins pl:List (Addr × Obj)} {σ:St} {H:Hp} {s:Shared} (I:Inv X (pins ++ pl) σ H s):Inv X pins σ H s:=I.pins_of λ p hp=>I.pin p (yaC _ (ya6 _ hp))
def zbz {iter:Expr} {body:List Stmt} {wi:TI} {g:TG} {tb:TS} {pos:Pos} (hp:PassesOwn (model X.prog X.w) X.A X.env X.xe) (hc:X.calm=true) (hi:PI X tg iter wi) (hg:PG X tg g) (hb:PSs X body tb)
  (hs:∀ x,foldedSetIterable iter X.env x=pure x:=by intro _; rfl):PS X (.For tg iter body [] pos) (tFor wi g tb):=by
 intro pins s σ H D I h;refine wpAny_For (thn (hi pins s σ H _ I h) λ v s1 h1=>thn h1 λ itv s2 h2=>?_) hs;obtain ⟨it,fp,tn,J,H2,e,I2,T,st2,f2,W,⟨m0,w0⟩,turn⟩:=h2;subst e
 -- what stays true of the iterator's objects through the loop
 have stat:∀ {H':Hp},(∀ b ∈ fp,H' b=none) -> ∀ b ∈ fp,FpOk X pins H' b:=λ hn b hb=>⟨hn b hb,(f2 b hb).2⟩
 refine codeAny_forLoop_any (λ n s'=>∃ i σ' H',Inv X pins σ' H' s' /\ tn i s'.heap /\ (∀ b ∈ fp,H' b=none) /\ W i n σ' H') ?_ m0 ⟨0,σ,H2,I2,st2,λ b hb=>(f2 b hb).1,w0⟩;rintro n s3 ⟨i,σ3,H3,I3,st3,fr3,w3⟩;rcases turn i n σ3 H3 w3 with ⟨stop,qn⟩ | ⟨go,N,hN,step⟩
 ·refine wpAny_passesOwn hp (thn (T.done X rfl rfl rfl hc i pins s3 σ3 H3 X.xe I3 (stat fr3) st3 stop) λ r s4 ⟨hr,I4⟩=>?_);subst hr;exact wpAny_execs_nil ⟨σ3,H3,I4,qn⟩
 ·refine wpAny_passesOwn hp (thn (T.item X rfl rfl rfl hc i pins s3 σ3 H3 X.xe I3 (stat fr3) st3 go) fun r s4 ⟨u, hr, h4⟩ => ?_);subst hr;refine wpAny_passesOwn hp (thn h4 fun _ s5 ⟨x, H5, I5, r5, y5, st5, fr5⟩ => ?_);have I5' := I5.pinned (stat fr5) (T.obj _ _ st5);refine wpAny_passesOwn hp (thn (hg _ s5 σ3 H5 x u _ I5' r5 (step x H5 y5)) fun _ s6 ⟨σ6, H6, I6, q6⟩ => ?_);refine wpAny_passesOwn hp (thn (hb _ s6 σ6 H6 _ I6 q6) fun f s7 q7 => ?_)
  have again:∀ {σ7:St} {H7:Hp},Inv X (pins ++ zfK fp s5.heap) σ7 H7 s7 -> N σ7 H7 -> ∃ m,m < n /\ ∃ i σ' H',Inv X pins σ' H' s7 /\ tn i s7.heap /\ (∀ b ∈ fp,H' b=none) /\ W i m σ' H':=λ {σ7 H7} I7 n7=>by
   obtain ⟨m',hm,w7⟩:=hN σ7 H7 n7;refine ⟨m',hm,i + 1,σ7,H7,I7.unpinned,T.keep _ _ _ st5 λ b hb o e=>(I7.pin (b,o) (yaC _ (yaC _ (zcr hb e)))).1,λ b hb=>?_,w7⟩;obtain ⟨o,e,d⟩:=T.obj _ _ st5 b hb;exact (I7.pin (b,o) (yaC _ (yaC _ (zcr hb e)))).2.1
  cases f with
  | next=>obtain ⟨σ7,H7,I7,n7⟩:=q7; exact again I7 n7
  | cont=>obtain ⟨σ7,H7,I7,n7⟩:=q7; exact again I7 n7
  | brk=>obtain ⟨σ7,H7,I7,q7⟩:=q7; exact ⟨σ7,H7,I7.unpinned,q7⟩
  | ret v=>obtain ⟨x7,σ7,H7,I7,r7,q7⟩:=q7; exact ⟨x7,σ7,H7,I7.unpinned,r7,q7⟩
end
def ziE {K:PySem.W.Frag} {a:Addr} {xs:List V} {g:TG} {tb:TS} {D:Ends} {σ:St} {H:Hp} (Pv:Nat -> St -> Hp -> Prop) (h0:Pv 0 σ H) (hl:∀ i σ H,i <= xs.length -> Pv i σ H -> SqL K H a xs)
  (hs:∀ i x σ H,xs[i]?=some x -> Pv i σ H -> g x σ H λ σ2 H2=>tb { D with nx:=Pv (i + 1),ct:=Pv (i + 1),bk:=D.nx } σ2 H2) (hd:∀ σ H,Pv xs.length σ H -> D.nx σ H) :
  ∃ W:Nat -> Nat -> St -> Hp -> Prop,(∃ m,W 0 m σ H) /\ ∀ i m σ H,W i m σ H ->
   ((Itl K a).stop i H /\ D.nx σ H) \/ ((Itl K a).go i H /\ ∃ N:St -> Hp -> Prop,(∀ σ' H',N σ' H' -> ∃ m',m' < m /\ W (i + 1) m' σ' H') /\ ∀ x H',(Itl K a).yld i H x H' -> g x σ H' λ σ2 H2=>tb { D with nx:=N,ct:=N,bk:=D.nx } σ2 H2):=by
 refine ⟨λ i m σ H=>m=xs.length - i /\ i <= xs.length /\ Pv i σ H,⟨xs.length,by simp,yaR _,h0⟩,?_⟩;rintro i m σ H ⟨rfl,hi,p⟩;have q:=hl i σ H hi p;by_cases hlt:i < xs.length
 ·refine .inr ⟨⟨xs,xs[i],q,by simp [hlt]⟩,Pv (i + 1),λ σ' H' p'=>⟨xs.length - (i + 1),by omega,rfl,hlt,p'⟩,λ x H' y=>?_⟩;obtain ⟨e,y⟩:=y;subst e;exact hs i x σ _ (y xs q) p
 ·have e : i = xs.length := by omega
  subst e;exact .inl ⟨⟨xs,q,yah _⟩,hd σ H p⟩
def znb {K:PySem.W.Frag} {a:Addr} {xs:List V} {g:TG} {tb:TS} {D:Ends} {σ:St} {H:Hp} (Pv:Nat -> St -> Hp -> Prop) (h0:Pv 0 σ H) (hl:∀ i σ H,i <= xs.length -> Pv i σ H -> SqT K H a xs)
  (hs:∀ i x σ H,xs[i]?=some x -> Pv i σ H -> g x σ H λ σ2 H2=>tb { D with nx:=Pv (i + 1),ct:=Pv (i + 1),bk:=D.nx } σ2 H2) (hd:∀ σ H,Pv xs.length σ H -> D.nx σ H) :
  ∃ W:Nat -> Nat -> St -> Hp -> Prop,(∃ m,W 0 m σ H) /\ ∀ i m σ H,W i m σ H ->
   ((Itt K a).stop i H /\ D.nx σ H) \/ ((Itt K a).go i H /\ ∃ N:St -> Hp -> Prop,(∀ σ' H',N σ' H' -> ∃ m',m' < m /\ W (i + 1) m' σ' H') /\ ∀ x H',(Itt K a).yld i H x H' -> g x σ H' λ σ2 H2=>tb { D with nx:=N,ct:=N,bk:=D.nx } σ2 H2):=by
 refine ⟨λ i m σ H=>m=xs.length - i /\ i <= xs.length /\ Pv i σ H,⟨xs.length,by simp,yaR _,h0⟩,?_⟩;rintro i m σ H ⟨rfl,hi,p⟩;have q:=hl i σ H hi p;by_cases hlt:i < xs.length
 ·refine .inr ⟨⟨xs,xs[i],q,by simp [hlt]⟩,Pv (i + 1),λ σ' H' p'=>⟨xs.length - (i + 1),by omega,rfl,hlt,p'⟩,λ x H' y=>?_⟩;obtain ⟨e,y⟩:=y;subst e;exact hs i x σ _ (y xs q) p
 ·have e : i = xs.length := by omega
  subst e;exact .inl ⟨⟨xs,q,yah _⟩,hd σ H p⟩
def zjM {lo:Int} {n:Nat} {g:TG} {tb:TS} {D:Ends} {σ:St} {H:Hp} (Pv:Nat -> St -> Hp -> Prop) (h0:Pv 0 σ H)
  (hs:∀ i σ H,i < n -> Pv i σ H -> g (.int (lo + i)) σ H λ σ2 H2=>tb { D with nx:=Pv (i + 1),ct:=Pv (i + 1),bk:=D.nx } σ2 H2) (hd:∀ σ H,Pv n σ H -> D.nx σ H) :
  ∃ W:Nat -> Nat -> St -> Hp -> Prop,(∃ m,W 0 m σ H) /\ ∀ i m σ H,W i m σ H ->
   ((Itr lo n).stop i H /\ D.nx σ H) \/ ((Itr lo n).go i H /\ ∃ N:St -> Hp -> Prop,(∀ σ' H',N σ' H' -> ∃ m',m' < m /\ W (i + 1) m' σ' H') /\ ∀ x H',(Itr lo n).yld i H x H' -> g x σ H' λ σ2 H2=>tb { D with nx:=N,ct:=N,bk:=D.nx } σ2 H2):=by
 refine ⟨λ i m σ H=>m=n - i /\ i <= n /\ Pv i σ H,⟨n,by simp,yaR _,h0⟩,?_⟩;rintro i m σ H ⟨rfl,hi,p⟩;by_cases hlt:i < n
 ·refine .inr ⟨hlt,Pv (i + 1),λ σ' H' p'=>⟨n - (i + 1),by omega,rfl,hlt,p'⟩,λ x H' y=>?_⟩;obtain ⟨e,y⟩:=y;subst e y;exact hs i σ _ hlt p
 ·have e : i = n := by omega
  subst e;exact .inl ⟨yah _,hd σ H p⟩
noncomputable abbrev R2:=V -> V -> Hp -> VK -> Prop
noncomputable def OpR (X:Cx) (f:Value -> Value -> Sem Value) (r:R2):Prop:=
 ∀ (pins:List (Addr × Obj)) (s:Shared) (σ:St) (H:Hp) (x y:V) (v u:Value) (Q:VK),Inv X pins σ H s -> RelV x v -> RelV y u -> r x y H Q ->
  wpAny (model X.prog X.w) X.A (f v u) (EP X pins σ Q) X.xe s
noncomputable def UnR (X:Cx) (f:Value -> Sem Value) (r:V -> Hp -> VK -> Prop):Prop:=
 ∀ (pins:List (Addr × Obj)) (s:Shared) (σ:St) (H:Hp) (x:V) (v:Value) (Q:VK),Inv X pins σ H s -> RelV x v -> r x H Q ->
  wpAny (model X.prog X.w) X.A (f v) (EP X pins σ Q) X.xe s
noncomputable def zcd (X:Cx) (f:Value) (r:List V -> Hp -> VK -> Prop):Prop:=
 ∀ (pins:List (Addr × Obj)) (s:Shared) (σ:St) (H:Hp) (xs:List V) (us:List Value) (Q:VK),Inv X pins σ H s -> Vals xs us -> r xs H Q ->
  wpAny (model X.prog X.w) X.A (call f us) (EP X pins σ Q) X.xe s
noncomputable def tOp (r:R2) (ta tb:TE):TE:=λ σ H Q=>ta σ H λ x H1=>tb σ H1 λ y H2=>r x y H2 Q
noncomputable def tUn (r:V -> Hp -> VK -> Prop) (ta:TE):TE:=λ σ H Q=>ta σ H λ x H1=>r x H1 Q
noncomputable def rI (C:Int -> Int -> Prop) (g:Int -> Int -> V):R2:=λ x y H Q=>∃ i j,x=.int i /\ y=.int j /\ C i j /\ Q (g i j) H
noncomputable def rI0 (g:Int -> Int -> V):R2:=λ x y H Q=>∃ i j,x=.int i /\ y=.int j /\ Q (g i j) H
noncomputable def rU (g:Int -> V):V -> Hp -> VK -> Prop:=λ x H Q=>∃ i,x=.int i /\ Q (g i) H
section
variable {X:Cx} {a b c:Expr} {ta tb tc:TE} {pos:Pos}
def binT (ha:PE X a ta) (hb:PE X b tb) {pins:List (Addr × Obj)} {s:Shared} {σ:St} {H:Hp} {R:V -> V -> Hp -> Prop} (I:Inv X pins σ H s)
  (h:ta σ H λ x H1=>tb σ H1 λ y H2=>R x y H2) {Q:Value -> Shared -> Prop} {f:Value -> Value -> Sem Value}
  (hf:∀ v u s2 x y H2,Inv X pins σ H2 s2 -> RelV x v -> RelV y u -> R x y H2 -> wpAny (model X.prog X.w) X.A (f v u) Q X.xe s2) :
  wpAny (model X.prog X.w) X.A (eval a X.env) (λ v s₁=>wpAny (model X.prog X.w) X.A (eval b X.env) (λ u s₂=>wpAny (model X.prog X.w) X.A (f v u) Q X.xe s₂) X.xe s₁) X.xe s:=by
 refine thn (ha pins s σ H _ I h) λ v s1 ⟨x,H1,I1,r1,q1⟩=>?_;refine thn (hb pins s1 σ H1 _ I1 q1) λ u s2 ⟨y,H2,I2,r2,q2⟩=>?_;exact hf v u s2 x y H2 I2 r1 r2 q2
def zao {op:Operator} {r:R2} (ho:OpR X (binaryOp op) r) (ha:PE X a ta) (hb:PE X b tb):PE X (.BinOp a op b pos) (tOp r ta tb):=by
 intro pins s σ H Q I h;exact wpAny_BinOp (binT ha hb I h λ v u s2 x y H2 I2 rx ry q=>ho pins s2 σ H2 x y v u Q I2 rx ry q)
def ziS {op:UnaryOp} {r:V -> Hp -> VK -> Prop} (ho:UnR X (unaryOp op) r) (ha:PE X a ta):PE X (.UnaryOp op a pos) (tUn r ta):=by
 intro pins s σ H Q I h;exact UnaryOp_ (thn (ha pins s σ H _ I h) λ v s1 ⟨x,H1,I1,r1,q1⟩=>ho pins s1 σ H1 x v Q I1 r1 q1)
def opI {f:Value -> Value -> Sem Value} {C:Int -> Int -> Prop} {g:Int -> Int -> Int}
    (rule:∀ (i j:Int) (t u:Tok) (s:Shared) (Q:Value -> Shared -> Prop) (E:Value -> Shared -> Prop),C i j -> Q (.int (g i j) s.toks) { s with toks:=s.toks + 1 } -> wpAny (model X.prog X.w) X.A (f (.int i t) (.int j u)) Q E s) :
    OpR X f (rI C λ i j=>.int (g i j)):=by
  intro pins s σ H x y v u Q I rx ry h;obtain ⟨i,j,rfl,rfl,hc,q⟩:=h;obtain ⟨t,rfl⟩:=rx;obtain ⟨t',rfl⟩:=ry;exact rule i j t t' s _ _ hc ⟨.int (g i j),H,I.tok _,⟨_,rfl⟩,q⟩
def opI0 {f:Value -> Value -> Sem Value} {g:Int -> Int -> Int}
    (rule:∀ (i j:Int) (t u:Tok) (s:Shared) (Q:Value -> Shared -> Prop) (E:Value -> Shared -> Prop),Q (.int (g i j) s.toks) { s with toks:=s.toks + 1 } -> wpAny (model X.prog X.w) X.A (f (.int i t) (.int j u)) Q E s) :
    OpR X f (rI0 λ i j=>.int (g i j)):=by
  intro pins s σ H x y v u Q I rx ry h;obtain ⟨i,j,rfl,rfl,q⟩:=h;obtain ⟨t,rfl⟩:=rx;obtain ⟨t',rfl⟩:=ry;exact rule i j t t' s _ _ ⟨.int (g i j),H,I.tok _,⟨_,rfl⟩,q⟩
def opB0 {f:Value -> Value -> Sem Value} {g:Int -> Int -> Bool}
    (rule:∀ (i j:Int) (t u:Tok) (s:Shared) (Q:Value -> Shared -> Prop) (E:Value -> Shared -> Prop),Q (.bool (g i j)) s -> wpAny (model X.prog X.w) X.A (f (.int i t) (.int j u)) Q E s) :
    OpR X f (rI0 λ i j=>.bl (g i j)):=by
  intro pins s σ H x y v u Q I rx ry h;obtain ⟨i,j,rfl,rfl,q⟩:=h;obtain ⟨t,rfl⟩:=rx;obtain ⟨t',rfl⟩:=ry;exact rule i j t t' s _ _ ⟨.bl (g i j),H,I,rfl,q⟩
noncomputable def CPow (i j:Int):Prop:=0 <= j /\ j <= 1000000 /\ i.natAbs < 2 ^ 64
noncomputable def CMul (i j:Int):Prop:=(-(2 ^ 64) < i /\ i < 2 ^ 64) \/ (-(2 ^ 64) < j /\ j < 2 ^ 64)
def CMul.ok {i j:Int} (h:CMul i j):IntMulOk i j:=by
 rcases h with ⟨h1,h2⟩ | ⟨h1,h2⟩
 ·exact .of_left (intBits_le_64 h1 h2)
 ·exact .of_right (intBits_le_64 h1 h2)
def zjw (k:Nat):(0:Int) <= 2 ^ k:=by
 rw [two_pow_cast];exact Int.natCast_nonneg _
def zoa:OpR X (binaryOp .Add) (rI0 λ i j=>.int (i + j)):=opI0 λ _ _ _ _ _ _ _ q=>add_int q
def zbg:OpR X (binaryOp .Sub) (rI0 λ i j=>.int (i - j)):=opI0 λ _ _ _ _ _ _ _ q=>sub_int q
def zoq:OpR X (binaryOp .Mult) (rI CMul λ i j=>.int (i * j)):=opI λ _ _ _ _ _ _ _ hc q=>mul_int q hc.ok
def zde:OpR X (binaryOp .Mod) (rI (λ _ j=>0 < j) λ i j=>.int (i % j)):=opI λ i j _ _ _ _ _ hc q=>by
 have h1:(0:Int) < j:=hc;exact mod_int' (1:) (by rw [Int.fmod_eq_emod_of_nonneg i (1:)]; exact q)
def zpq:OpR X (binaryOp .Pow) (rI CPow λ i j=>.int (i ^ j.toNat)):=opI λ _ _ _ _ _ _ _ hc q=>pow_int_small hc.1 hc.2.1 hc.2.2 q
def za4:OpR X (binaryOp .LShift) (rI CPow λ i j=>.int (i * 2 ^ j.toNat)):=opI λ _ _ _ _ _ _ _ hc q=>lshift_int_small hc.1 hc.2.1 hc.2.2 q
def zdm:OpR X (binaryOp .RShift) (rI (λ _ j=>0 <= j) λ i j=>.int (i / 2 ^ j.toNat)):=opI λ i j _ _ _ _ _ hc q=>
 rshift_int hc (by rw [Int.fdiv_eq_ediv_of_nonneg i (zjw _)]; exact q)
def zby:OpR X (binaryOp .BitAnd) (rI0 λ i j=>.int (Builtin.bitAnd i j)):=opI0 λ _ _ _ _ _ _ _ q=>and_int q
def zjj:OpR X (binaryOp .BitOr) (rI0 λ i j=>.int (Builtin.bitOr i j)):=opI0 λ _ _ _ _ _ _ _ q=>or_int q
def ziw:OpR X (binaryOp .BitXor) (rI0 λ i j=>.int (Builtin.bitXor i j)):=opI0 λ _ _ _ _ _ _ _ q=>xor_int q
def unI {f:Value -> Sem Value} {g:Int -> Int}
    (rule:∀ (i:Int) (t:Tok) (s:Shared) (Q:Value -> Shared -> Prop) (E:Value -> Shared -> Prop),Q (.int (g i) s.toks) { s with toks:=s.toks + 1 } -> wpAny (model X.prog X.w) X.A (f (.int i t)) Q E s) :
    UnR X f (rU λ i=>.int (g i)):=by
  intro pins s σ H x v Q I rx h;obtain ⟨i,rfl,q⟩:=h;obtain ⟨t,rfl⟩:=rx;exact rule i t s _ _ ⟨.int (g i),H,I.tok _,⟨_,rfl⟩,q⟩
def zfr:UnR X (unaryOp .USub) (rU λ i=>.int (-i)):=unI λ _ _ _ _ _ q=>neg_int q
end
section
variable {X:Cx} {a b c:Expr} {ta tb tc:TE} {pos:Pos}
def zmK {pins:List (Addr × Obj)} {σ:St} {H:Hp} {s:Shared} {Q:VK} {k k':Bool} (I:Inv X pins σ H s) (q:Q (.bl k) H) (e:k=k'):EP X pins σ Q (.bool k') s:=by
 subst e;exact ⟨.bl k,H,I,rfl,q⟩
def zi3:OpR X (compareOp .Lt) (rI0 λ i j=>.bl (decide (i < j))):=opB0 λ _ _ _ _ _ _ _ q=>lt_int q
def zpi:OpR X (compareOp .LtE) (rI0 λ i j=>.bl (decide (i <= j))):=opB0 λ _ _ _ _ _ _ _ q=>le_int q
def zos:OpR X (compareOp .Gt) (rI0 λ i j=>.bl (decide (j < i))):=opB0 λ _ _ _ _ _ _ _ q=>gt_int q
def zj1:OpR X (compareOp .GtE) (rI0 λ i j=>.bl (decide (j <= i))):=opB0 λ _ _ _ _ _ _ _ q=>ge_int q
def zo7:OpR X (compareOp .Is) (λ x y H Q=>y=.non /\ Q (.bl (decide (x=.non))) H):=by
 intro pins s σ H x y v u Q I rx ry h;obtain ⟨rfl,q⟩:=h;cases ry;refine is_none_gen (zmK I q ?_)
 cases x <;> first
  | (cases rx; rfl)
  | (obtain ⟨t,rfl⟩:=rx; rfl)
def zni:OpR X (compareOp .IsNot) (λ x y H Q=>y=.non /\ Q (.bl (!decide (x=.non))) H):=by
 intro pins s σ H x y v u Q I rx ry h;obtain ⟨rfl,q⟩:=h;cases ry;refine isnot_none_gen (zmK I q ?_)
 cases x <;> first
  | (cases rx; rfl)
  | (obtain ⟨t,rfl⟩:=rx; rfl)
def OpR.or {f:Value -> Value -> Sem Value} {r r':R2} (h:OpR X f r) (h':OpR X f r'):OpR X f (λ x y H Q=>r x y H Q \/ r' x y H Q):=by
 intro pins s σ H x y v u Q I rx ry q;rcases q with q | q
 ·exact h pins s σ H x y v u Q I rx ry q
 ·exact h' pins s σ H x y v u Q I rx ry q
def zap (b:Expr) {op:CmpOp} (h:op ≠ .In:=by decide) (h2:op ≠ .NotIn:=by decide):behindInMarks op b=false:=by
 have e1:(op == CmpOp.In)=false:=by cases op <;> first | rfl | exact absurd rfl h
 have e2:(op == CmpOp.NotIn)=false:=by cases op <;> first | rfl | exact absurd rfl h2
 cases b <;> simp [behindInMarks,e1,e2]
def zeD {op:CmpOp} {r:R2} (ho:OpR X (compareOp op) r) (ha:PE X a ta) (hb:PE X b tb) (hm:behindInMarks op b=false):PE X (.Compare a [op] [b] pos) (tOp r ta tb):=by
 intro pins s σ H Q I h;exact wpAny_Compare1 (binT ha hb I h λ v u s2 x y H2 I2 rx ry q=>ho pins s2 σ H2 x y v u Q I2 rx ry q) hm
noncomputable def zpt (t:TE):TT:=λ σ H Q=>t σ H λ x H'=>∃ k,x=.bl k /\ Q k H'
def zak {op:CmpOp} {r:R2} (ho:OpR X (compareOp op) r) (ha:PE X a ta) (hb:PE X b tb) (hm:behindInMarks op b=false):PT X (.Compare a [op] [b] pos) (zpt (tOp r ta tb)):=by
 intro pins s σ H Q I h
 refine wpAny_isTrue_Compare1 (thn (ha pins s σ H _ I h) λ v s1 ⟨x,H1,I1,r1,q1⟩=>thn (hb pins s1 σ H1 _ I1 q1) λ u s2 ⟨y,H2,I2,r2,q2⟩=>
  thn (ho pins s2 σ H2 x y v u _ I2 r1 r2 q2) λ c s3 ⟨z,H3,I3,r3,k,e,q3⟩=>?_) hm
 subst e;cases r3;exact wpAny_truthy_bool ⟨H3,I3,q3⟩
noncomputable def zmD (r r':R2) (ta tb tc:TE):TE:=λ σ H Q=>ta σ H λ x H1=>tb σ H1 λ y H2=>r x y H2 λ z H3=>∃ k,z=.bl k /\
 (if k=true then tc σ H3 λ w' H4=>r' y w' H4 Q else Q (.bl false) H3)
def zmj {op op':CmpOp} {r r':R2} (ho:OpR X (compareOp op) r) (ho':OpR X (compareOp op') r') (ha:PE X a ta) (hb:PE X b tb) (hc:PE X c tc)
  (hm:lastMarks [op,op'] [b,c]=false:=by with_unfolding_all rfl):PE X (.Compare a [op,op'] [b,c] pos) (zmD r r' ta tb tc):=by
 intro pins s σ H Q I h
 refine Compare_chain (thn (ha pins s σ H _ I h) λ v s1 ⟨x,H1,I1,r1,q1⟩=>chain_link (thn (hb pins s1 σ H1 _ I1 q1) λ u s2 ⟨y,H2,I2,r2,q2⟩=>
  thn (ho pins s2 σ H2 x y v u _ I2 r1 r2 q2) λ d s3 ⟨z,H3,I3,r3,k,e,q3⟩=>?_)) hm
 subst e;cases r3;refine wpAny_truthy_bool ?_;cases k with
 | false=>exact ite_ff ⟨.bl false,H3,I3,rfl,q3⟩
 | true=>exact ite_tt (chain_last (thn (hc pins s3 σ H3 _ I3 q3) λ w' s4 ⟨z',H4,I4,r4,q4⟩=>ho' pins s4 σ H4 y z' u w' Q I4 r2 r4 q4))
def zhi:(sizeLine:Nat) < 2 ^ 63:=by rw [sizeLine_eq]; decide
def znz {x:V} {us:List Value} (r:Vals [x] us):∃ u,us=[u] /\ RelV x u:=by
 cases r with
 | cons r1 r2=>cases r2; exact ⟨_,rfl,r1⟩
def zn4 {x y:V} {us:List Value} (r:Vals [x,y] us):∃ u w',us=[u,w'] /\ RelV x u /\ RelV y w':=by
 cases r with
 | cons r1 r2=>
  cases r2 with
  | cons r3 r4=>cases r4; exact ⟨_,_,rfl,r1,r3⟩
def zl0:zcd X (.builtin "abs") (λ xs H Q=>∃ i,xs=[.int i] /\ Q (.int (if i < 0 then -i else i)) H):=by
 intro pins s σ H xs us Q I r h;obtain ⟨i,rfl,q⟩:=h;obtain ⟨u,rfl,t,rfl⟩:=znz r;exact call_abs_int λ u tk=>⟨.int (if i < 0 then -i else i),H,I.tok _,⟨_,rfl⟩,q⟩
def zjF (hc:X.calm=true):zcd X (.builtin "max") (λ xs H Q=>∃ i j,xs=[.int i,.int j] /\ Q (.int (if j > i then j else i)) H):=by
 intro pins s σ H xs us Q I r h;obtain ⟨i,j,rfl,q⟩:=h;obtain ⟨u,w',rfl,⟨t,rfl⟩,⟨t',rfl⟩⟩:=zn4 r;refine max_two_ints (I.ok.hd hc) λ h' tk k=>⟨_,H,I.kept k,?_,q⟩
 by_cases hj:j > i
 ·rw [if_pos hj,if_pos hj]; exact ⟨_,rfl⟩
 ·rw [if_neg hj,if_neg hj]; exact ⟨_,rfl⟩
def zjG (hc:X.calm=true):zcd X (.builtin "min") (λ xs H Q=>∃ i j,xs=[.int i,.int j] /\ Q (.int (if j < i then j else i)) H):=by
 intro pins s σ H xs us Q I r h;obtain ⟨i,j,rfl,q⟩:=h;obtain ⟨u,w',rfl,⟨t,rfl⟩,⟨t',rfl⟩⟩:=zn4 r;refine min_two_ints (I.ok.hd hc) λ h' tk k=>⟨_,H,I.kept k,?_,q⟩
 by_cases hj:j < i
 ·rw [if_pos hj,if_pos hj]; exact ⟨_,rfl⟩
 ·rw [if_neg hj,if_neg hj]; exact ⟨_,rfl⟩
noncomputable def LenV (K:PySem.W.Frag) (x:V) (H:Hp) (n:Nat):Prop:=
 match x with
 | .str y=>y.length <= sizeLine /\ n=y.length
 | .byt y=>y.size <= sizeLine /\ n=y.size
 | .ref p=>(∃ xs,SqL K H p xs /\ n=xs.length) \/ ∃ xs,SqT K H p xs /\ n=xs.length
 | _=>False
def zlr:zcd X (.builtin "len") (λ xs H Q=>∃ x n,xs=[x] /\ LenV X.K x H n /\ Q (.int n) H):=by
 intro pins s σ H xs us Q I r h;obtain ⟨x,n,rfl,e,q⟩:=h;obtain ⟨u,rfl,rx⟩:=znz r;have hl:=zhi;have hs:sizeLine=16777216:=sizeLine_eq;cases x with
 | str y=>
  obtain ⟨t,rfl⟩:=rx;obtain ⟨hy,e'⟩:y.length <= sizeLine /\ n=y.length:=e;subst e';exact len_str (1:) ⟨.int _,H,I.tok _,⟨_,rfl⟩,q⟩
 | byt y=>
  obtain ⟨t,rfl⟩:=rx;obtain ⟨hy,e'⟩:y.size <= sizeLine /\ n=y.size:=e;subst e';exact PySem.W.len_bytes (1:) ⟨.int _,H,I.tok _,⟨_,rfl⟩,q⟩
 | ref p=>
  cases rx;have e':(∃ xs,SqL X.K H p xs /\ n=xs.length) \/ ∃ xs,SqT X.K H p xs /\ n=xs.length:=e;rcases e' with ⟨xs,hx,e'⟩ | ⟨xs,hx,e'⟩
  ·subst e';obtain ⟨its,r',pl,hz⟩:=I.list hx;have hlen:=r'.length;exact Calls.call_len_list pl.isList (by simp only [yak]; omega) ⟨.int xs.length,H,I.tok _,⟨_,by simp only [yak]; rw [hlen]⟩,q⟩
  ·subst e';obtain ⟨its,r',pl,hz⟩:=I.tuple hx;have hlen:=r'.length;exact len_tuple pl (by simp only [yak]; omega) ⟨.int xs.length,H,I.tok _,⟨_,by simp only [yak]; rw [hlen]⟩,q⟩
 | _=>exact (show False from e).elim
end
structure ObjM (h:Heap) (x dx C:Addr) (mA:Str -> Option Value):Prop where
 obj:h.get? x=some (PySem.W.instObj C dx)
 ns:h.Ns1 dx mA
 ne:dx ≠ x
def zjK {h:Heap} {dx:Addr} {mA:Str -> Option Value} (n:h.Ns1 dx mA):∃ od,h.get? dx=some od /\ ∀ name,PySem.W.lookIn name od=some (mA name):=by
 obtain ⟨o,es,ep,ho,hd,hk,_,hm⟩:=n;refine ⟨o,ho,λ name=>?_⟩;have e:=hm name;unfold nsFind findBy at e;rw [<- Array.find?_toList] at e;unfold PySem.W.lookIn;rw [hd];dsimp only
 split
 ·rename_i y q;rw [q] at e;exact congrArg some e
 ·rename_i q;rw [q] at e
  have a:es.toList.any (·.refKey)=false:=by
   rw [List.any_eq_false];intro y hy;obtain ⟨z,t,hkey⟩:=hk y (Array.mem_toList_iff.mp hy);simp [DictEntry.refKey,hkey]
  have a':¬ es.toList.any (·.refKey)=true:=by rw [a]; exact yay
  rw [if_neg a'];exact congrArg some e
def ObjM.look {h:Heap} {x dx C:Addr} {mA:Str -> Option Value} (I:ObjM h x dx C mA):∃ od,PySem.W.InstAt h x (PySem.W.instObj C dx) C (some od) /\ ∀ name,PySem.W.lookIn name od=some (mA name):=
 let ⟨od,ho,hl⟩:=zjK I.ns
 ⟨od,⟨I.obj,rfl,rfl,ho⟩,hl⟩
section
variable {prog:Program} {w:World} {A:Around} {E:Value -> Shared -> Prop} {s:Shared} {K:PySem.W.Frag} {x dx C f:Addr} {mA:Str -> Option Value} {name:Str} {v:Value}
end
section
variable {P:Program} {w:World} {H H':Hp} {h h':Heap} {a C dx:Addr} {fs fs':List (Str × V)}
def znj (hok:HOk P w H h) (e:H a=some (.ins C dx fs)):∃ mA,ObjM h a dx C mA /\ (∀ f,RelO (fs.lookup f) (mA f)) /\ PySem.Within mA (fs.map (·.1)) /\ fs.length <= 1000 /\ H dx=some (.own a):=by
 obtain ⟨d,z,ne,ob,mA,n,r,q⟩:=(show zbh P w H h a (.ins C dx fs) from hok a _ e)
 exact ⟨mA,⟨ob,n,ne⟩,r,q,z,d⟩
end
structure Cls (K:PySem.W.Frag) (C:Addr):Prop where
 pg:PySem.W.plainGet K C Str.empty=true
 hd:PySem.W.hasDictIn K C=true
 po:PySem.W.plainOver K C=true
 sa:PySem.W.findIn K (.ref C) "__setattr__"=some (some (.builtin "object.__setattr__"))
def Cls.get {K:PySem.W.Frag} {C:Addr} (c:Cls K C) (f:Str):PySem.W.plainGet K C f=true:=c.pg
section
variable {X:Cx} {pins:List (Addr × Obj)} {σ:St} {H:Hp} {s:Shared} {a C dx:Addr} {fs:List (Str × V)} {f:Str} {v:V} {A:Around} {E:Value -> Shared -> Prop}
def zno {prog:Program} {w:World} {env:Env} {e:Expr} {f:Str} {pos:Pos} {s:Shared} {Q:Value -> Shared -> Prop} (hb:attributeBase e f env (eval e env)=eval e env)
  (h:wpAny (model prog w) A (eval e env) (λ o s₁=>wpAny (model prog w) A (getAttr o f true) Q E s₁) E s):wpAny (model prog w) A (eval (.Attribute e f pos) env) Q E s:=
 Attribute_any_ h (by rw [arm_eval_Attribute,hb])
end
section
variable {X:Cx} {o e value:Expr} {f:Str} {pos pos' tpos:Pos} {ta tv:TE}
end
section
variable {X:Cx} {pins:List (Addr × Obj)} {σ:St} {H:Hp} {s:Shared} {A:Around} {E:Value -> Shared -> Prop} {Q:Value -> Shared -> Prop} {c:Value} {b:Bool}
inductive TyOf (K:PySem.W.Frag) (H:Hp):V -> Value -> Prop where
 | non:TyOf K H .non (.type "NoneType")
 | bl (x:Bool):TyOf K H (.bl x) (.type "bool")
 | int (i:Int):TyOf K H (.int i) (.type "int")
 | str (x:Str):TyOf K H (.str x) (.type "str")
 | flt (x:UInt64):TyOf K H (.flt x) (.type "float")
 | lst {a:Addr} {xs:List V} (e:H a=some (.lst xs)):TyOf K H (.ref a) (.type "list")
 | frz {a:Addr} {o:Obj} {xs:List V} (e:H a=some (.frz o (.lst xs))):TyOf K H (.ref a) (.type "list")
 | tup {a:Addr} {xs:List V} (e:H a=some (.tup xs)):TyOf K H (.ref a) (.type "tuple")
 | dK {a:Addr} {kvs:List (Key × V)} (e:H a=some (.dK kvs)):TyOf K H (.ref a) (.type "dict")
 | dT {a:Addr} {kvs:List (List Key × V)} (e:H a=some (.dT kvs)):TyOf K H (.ref a) (.type "dict")
 | ins {a C dx:Addr} {fs:List (Str × V)} (e:H a=some (.ins C dx fs)) (cl:Cls K C) (ha:PySem.W.findIn K (.ref C) "__class__"=some (some (.builtin "object.__class__")))
   (hn:PySem.W.specialIn K (.builtin "object.__class__") "__get__"=some (some (.builtin "getset_descriptor.__get__"))) (htk:PySem.W.takesIn K (.builtin "object.__class__")=some true)
   (hm:PySem.W.mroIn K C (.type "object")=some true):TyOf K H (.ref a) (.ref C)
def zkc {x:V} {u t:Value} (I:Inv X pins σ H s) (rx:RelV x u) (ty:TyOf X.K H x t) (e:PySem.W.kitOne X.K t c=some b) (h:∀ tk,Q (.bool b) { s with toks:=tk }) :
  wpAny (model X.prog X.w) A (call (.builtin "isinstance") [u,c]) Q E s:=by
 cases ty with
 | non=>cases (show u=Value.none from rx); exact ya0 PySem.W.kitx_none I.kIn True.intro e (λ z=>nomatch z) h
 | bl y=>cases (show u=Value.bool y from rx); exact ya0 PySem.W.kitx_bool I.kIn True.intro e (λ z=>nomatch z) h
 | int i=>obtain ⟨t,q⟩:=(show ∃ t,u=Value.int i t from rx); cases q; exact ya0 PySem.W.kitx_int I.kIn True.intro e (λ z=>nomatch z) h
 | str y=>obtain ⟨t,q⟩:=(show ∃ t,u=Value.str y t from rx); cases q; exact ya0 PySem.W.kitx_str I.kIn True.intro e (λ z=>nomatch z) h
 | flt y=>obtain ⟨t,q⟩:=(show ∃ t,u=Value.float y t from rx); cases q; exact ya0 PySem.W.kitx_float I.kIn True.intro e (λ z=>nomatch z) h
 | @lst a xs ea=>
  cases (show u=Value.ref a from rx);obtain ⟨_,_,n,_,h1⟩:=(show zbh X.prog X.w H s.heap a (.lst xs) from I.hok a _ ea)
  exact ya0 PySem.W.kitx_list I.kIn ⟨_,h1,rfl⟩ e (λ z=>nomatch z) h
 | @frz a ob xs ea=>
  cases (show u=Value.ref a from rx);obtain ⟨_,_,_,n,_,h1⟩:=(show zbh X.prog X.w H s.heap a (.frz ob (.lst xs)) from I.hok a _ ea)
  exact ya0 PySem.W.kitx_list I.kIn ⟨_,h1,rfl⟩ e (λ z=>nomatch z) h
 | @tup a xs ea=>
  cases (show u=Value.ref a from rx);obtain ⟨_,_,_,p⟩:=(show zbh X.prog X.w H s.heap a (.tup xs) from I.hok a _ ea)
  obtain ⟨o,h1,h2,_⟩:=p;exact ya0 PySem.W.kitx_tuple I.kIn ⟨o,h1,h2⟩ e (λ z=>nomatch z) h
 | @dK a kvs ea=>
  cases (show u=Value.ref a from rx);obtain ⟨_,_,vs,_,p⟩:=(show zbh X.prog X.w H s.heap a (.dK kvs) from I.hok a _ ea)
  obtain ⟨o,es,ep,h1,h2,_⟩:=p;exact ya0 PySem.W.kitx_dict I.kIn ⟨o,h1,h2.1⟩ e (λ z=>nomatch z) h
 | @dT a kvs ea=>
  cases (show u=Value.ref a from rx);obtain ⟨_,_,xs,_,o,es,ep,h1,h2,_⟩:=(show zbh X.prog X.w H s.heap a (.dT kvs) from I.hok a _ ea)
  exact ya0 PySem.W.kitx_dict I.kIn ⟨o,h1,h2.1⟩ e (λ z=>nomatch z) h
 | @ins a C dx fs ea cl ha hn htk hm=>
  cases (show u=Value.ref a from rx);obtain ⟨mA,O,_⟩:=znj I.hok ea;obtain ⟨od,J,_⟩:=O.look;exact ya0 (PySem.W.kitx_own (cl.get _) cl.hd ha hn htk hm) I.kIn J e (λ z=>nomatch z) h
end
structure Room (k:Nat) (A:Around):Prop where
 hd:A.handled=none
 dp:A.depth + 3 * k + 5 < recursionLimit
 un:A.units + 16 * k + 200 < cLine
def Room.mono {j k:Nat} {A:Around} (r:Room k A) (h:j <= k):Room j A:=⟨r.hd,by have:=r.dp; omega,by have:=r.un; omega⟩
def Room.deeper {k:Nat} {A:Around} (r:Room (k + 1) A) (env:Env):Room k (A.deeper env):=
 ⟨r.hd,by have:=r.dp; show A.depth + 1 + 3 * k + 5 < _; omega,by have:=r.un; show A.units + 3 + 16 * k + 200 < _; omega⟩
def ziX {A:Around} {C:Addr} {us:List Value} {kw:List (Str × Value)}:(A.under (.builtin "type.__call__" ⟨.ref C :: us,kw⟩)).depth=A.depth + 1:=by
 first | rfl | simp [Around.under,Code.weight,Code.isCreation,Code.isGuard,Code.isCaller,Code.frames,Code.isFrame,guardIds]
def zjd {A:Around} {C:Addr} {us:List Value} {kw:List (Str × Value)}:(A.under (.builtin "type.__call__" ⟨.ref C :: us,kw⟩)).units=A.units + 1:=by
 first | rfl | simp [Around.under,Code.cUnits,Code.frames,Code.isFrame]
def Room.make {k:Nat} {A:Around} (r:Room (k + 1) A) (C:Addr) (us:List Value) (kw:List (Str × Value)):Room k (A.under (.builtin "type.__call__" ⟨.ref C :: us,kw⟩)):=
 ⟨r.hd,by have:=r.dp; rw [ziX]; omega,by have:=r.un; rw [zjd]; omega⟩
def Room.depth {k:Nat} {A:Around} (r:Room k A):A.depth < recursionLimit:=by have:=r.dp; omega
def Room.units {k:Nat} {A:Around} (r:Room k A):A.units + 64 < cLine:=by have:=r.un; omega
noncomputable def tNil:TA:=λ _ H Q=>Q [] H
noncomputable def zhK (ta:TE) (tr:TA):TA:=λ σ H Q=>ta σ H λ x H1=>tr σ H1 λ xs H2=>Q (x :: xs) H2
section
variable {X:Cx} {e:Expr} {es:List Expr} {te:TE} {t:TA} {pos:Pos}
def zab:PA X [] tNil:=λ _ _ _ _ H Q I h=>Calls.spliced_nil ⟨[],H,I,.nil,h⟩
def zaa (ha:PE X e te) (hr:PA X es t) (hs:starEach (e :: es) X.env=(false,eval e X.env) :: starEach es X.env:=by rfl):PA X (e :: es) (zhK te t):=by
 intro pos pins s σ H Q I h;rw [hs];show wpAny _ _ (spliced ((false,eval e X.env) :: backTo pos (starEach es X.env))) _ _ s;refine ycs (thn (ha pins s σ H _ I h) λ u s1 ⟨x,H1,I1,r1,q1⟩=>?_);exact thn (hr pos pins s1 σ H1 _ I1 q1) λ us s2 ⟨xs,H2,I2,r2,q2⟩=>⟨x :: xs,H2,I2,.cons r1 r2,q2⟩
noncomputable def tTup (t:TA):TE:=λ σ H Q=>t σ H λ xs H1=>xs.length <= sizeLine /\ ∀ p,H1 p=none -> Q (.ref p) (upd H1 p (.tup xs))
noncomputable def tLst (t:TA):TE:=λ σ H Q=>t σ H λ xs H1=>xs.length <= sizeLine /\ ∀ p,H1 p=none -> Q (.ref p) (upd H1 p (.lst xs))
def zaU {x1} (h:PA X es t):PE X (.Tuple es x1 pos) (tTup t):=by
 intro pins s σ H Q I hq;refine wpAny_Tuple_spliced (thn (h pos pins s σ H _ I hq) λ us s1 ⟨xs,H1,I1,r,z,q⟩=>⟨by rw [<- r.length]; exact z,?_⟩);have hf:H1 s1.heap.objs.size=none:=I1.hok.fresh (yah _);refine ⟨.ref s1.heap.objs.size,upd H1 s1.heap.objs.size (.tup xs),I1.laid (t':=s1.toks) (λ b u e=>yac _ e) (yah _) ?_,rfl,q _ hf⟩;exact ⟨z,us,r,⟨_,yal _ rfl,rfl,rfl,_,rfl⟩⟩
def zbO (h:PA X es t):PE X (.List es pos) (tLst t):=by
 intro pins s σ H Q I hq;refine wpAny_List_spliced (thn (h pos pins s σ H _ I hq) λ us s1 ⟨xs,H1,I1,r,z,q⟩=>⟨by rw [<- r.length]; exact z,?_⟩);have hf:H1 s1.heap.objs.size=none:=I1.hok.fresh (yah _);refine ⟨.ref s1.heap.objs.size,upd H1 s1.heap.objs.size (.lst xs),I1.laid (t':=s1.toks) (λ b u e=>yac _ e) (yah _) ?_,rfl,q _ hf⟩;exact ⟨z,us,0,r,yal _ rfl⟩
end
noncomputable abbrev Sp:=List V -> Hp -> VK -> XK -> Prop
noncomputable abbrev CXT:=List Env -> Hp -> Shared -> XK -> Value -> Shared -> Prop
structure Env0 (P:Program) (w:World) (K:PySem.W.Frag) (mg:Str -> Option Value) (base:Heap) (A:Around) (outer:List Env) (s:Shared) (H:Hp):Prop where
 frames:A.frames=some outer
 mod:Mod K mg base
 bs:∀ b o,base.get? b=some o -> s.heap.get? b=some o /\ H b=none
 bsz:base.objs.size <= s.heap.objs.size
 funs:s.heap.FunFrames base outer
 frf:∀ b ∈ frs outer,H b=none
 hok:HOk P w H s.heap
 bare:AllBare s.gens
noncomputable def CE (outer:List Env) (P:Program) (w:World) (H:Hp) (s:Shared) (Q:VK) (u:Value) (s':Shared):Prop:=
 ∃ v H',s'.os=s.os /\ AllBare s'.gens /\ Un (frs outer) [] H H' s.heap s'.heap /\ HOk P w H' s'.heap /\ RelV v u /\ Q v H'
noncomputable def CR (CX:CXT) (outer:List Env) (P:Program) (w:World) (H:Hp) (s:Shared) (Q:VK) (E:XK) (r:Result) (s':Shared):Prop:=
 match r with
 | .ok (.ret u)=>CE outer P w H s Q u s'
 | .ok _=>False
 | .error e=>CX outer H s E e s'
structure FnOk (P:Program) (w:World) (K:PySem.W.Frag) (mg:Str -> Option Value) (base:Heap) (CX:CXT) (k:Nat) (f:Addr) (fd:FuncData) (ps:List Str) (sp:Sp):Prop where
 len:∀ vs H Q E,sp vs H Q E -> vs.length=ps.length
 run:∀ (A:Around) (outer:List Env) (s:Shared) (H:Hp) (args:Args) (us:List Value) (vs:List V) (Q:VK) (E:XK),Room k A -> Env0 P w K mg base A outer s H -> BindsTo s fd args (ps.zip us) -> Vals vs us -> sp vs H Q E ->
  codeAny (model P w) A (.call (.ref f) args) (CR CX outer P w H s Q E) s
def Env0.make {P:Program} {w:World} {K:PySem.W.Frag} {mg:Str -> Option Value} {base:Heap} {A:Around} {outer:List Env} {s:Shared} {H:Hp} (e:Env0 P w K mg base A outer s H) (C:Addr) (us:List Value) (kw:List (Str × Value)) :
  Env0 P w K mg base (A.under (.builtin "type.__call__" ⟨.ref C :: us,kw⟩)) outer s H:=⟨by first | exact e.frames | (simpa [Around.under,Code.envs,Code.isFrame,pushEnvs] using e.frames),e.mod,e.bs,e.bsz,e.funs,e.frf,e.hok,e.bare⟩
section
variable {X:Cx} {pins:List (Addr × Obj)} {σ:St} {H:Hp} {s s':Shared}
def Inv.env0 (I:Inv X pins σ H s):Env0 X.prog X.w X.K X.mg X.base X.A X.stack s H:=
 ⟨I.ok.frames,I.ok.mod,I.bs,yaV I.ok.bsz I.sz,I.stack,I.stkFree,I.hok,I.bare⟩
def Inv.after {Q:VK} {u:Value} (I:Inv X pins σ H s) (h:CE X.stack X.prog X.w H s Q u s'):EP X pins σ Q u s':=by
 obtain ⟨v,H',os,bare,un,hok,r,q⟩:=h;obtain ⟨hh,g,d,t,os'⟩:=s';obtain rfl:os'=s.os:=os;exact ⟨v,H',I.call (h':=hh) (g':=g) (d':=d) (t':=t) (ch:=[]) un hok bare (λ b z=>absurd z (5:)),r,q⟩
end
noncomputable def zhJ (sp:Sp) (dvs:List V) (E:XK) (t:TA):TE:=λ σ H Q=>t σ H λ vs H1=>sp (vs ++ dvs) H1 Q E
noncomputable def zdj (K:PySem.W.Frag) (fd:FuncData) (ps:List Str) (ds:List Value):Prop:=
 ∀ (s:Shared) (us:List Value),K.In s.heap -> (us ++ ds).length=ps.length -> BindsTo s fd ⟨us,[]⟩ (ps.zip (us ++ ds))
def zdj.all {K:PySem.W.Frag} {fd:FuncData} {ps:List Str} (h:∀ us:List Value,us.length=ps.length -> bindArgs fd ⟨us,[]⟩=pure (ps.zip us)):zdj K fd ps []:=λ s us _ hl=>by
 rw [ybk] at hl ⊢;exact .of_eq (h us hl)
noncomputable def zli (CX:CXT) (X:Cx) (E:XK):Prop:=∀ (pins:List (Addr × Obj)) (σ:St) (H:Hp) (s:Shared) (e:Value) (s':Shared),Inv X pins σ H s -> CX X.stack H s E e s' -> X.xe e s'
section
variable {X:Cx} {CX:CXT} {k:Nat} {f C:Addr} {fd:FuncData} {ps:List Str} {sp:Sp} {dvs:List V} {ds:List Value} {E:XK} {x m:Str} {p pos apos:Pos} {e o:Expr} {es:List Expr} {ta:TE} {t:TA}
def zot {pins:List (Addr × Obj)} {σ:St} {H:Hp} {s:Shared} {Q:VK} {us:List Value} {vs:List V} (F:FnOk X.prog X.w X.K X.mg X.base CX k f fd ps sp) (hr:Room k X.A) (hb:zdj X.K fd ps ds) (hd:Vals dvs ds) (hx:zli CX X E)
  (I:Inv X pins σ H s) (r:Vals vs us) (h:sp (vs ++ dvs) H Q E):wpAny (model X.prog X.w) X.A (call (.ref f) us) (EP X pins σ Q) X.xe s:=by
 have r2:Vals (vs ++ dvs) (us ++ ds):=r.append hd;have hl:(us ++ ds).length=ps.length:=by rw [<- r2.length]; exact F.len _ _ _ _ h
 refine wpAny_call (codeAny_mono (F.run X.A X.stack s H ⟨us,[]⟩ (us ++ ds) (vs ++ dvs) Q E hr I.env0 (hb s us I.kIn hl) r2 h) λ r s' hq=>?_);cases r with
 | error e=>exact hx pins σ H s e s' I hq
 | ok fl=>
  cases fl with
  | ret u=>exact I.after hq
  | next=>exact False.elim hq
  | brk=>exact False.elim hq
  | cont=>exact False.elim hq
def zjN (F:FnOk X.prog X.w X.K X.mg X.base CX k f fd ps sp) (hr:Room k X.A) (hg:Gl X x) (hm:X.mg x=some (.ref f)) (hk:PySem.W.keepIn X.K (.ref f)=true) (hb:zdj X.K fd ps ds) (hd:Vals dvs ds) (hx:zli CX X E)
  (ha:PA X (e :: es) t) (hdb:(x == ("__debug__":Str))=false:=by decide) (he:starEach (e :: es) X.env=(false,eval e X.env) :: starEach es X.env:=by rfl) (hpl:(backTo pos (starEach es X.env)).any (·.1)=false:=by rfl) :
  PE X (.Call (.Name x p) (e :: es) [] pos) (zhJ sp dvs E t):=by
 intro pins s σ H Q I h;refine wpAny_Call_Name_kw (zeo I hg hm ?_ hdb);refine PySem.W.callWith_K (h₀:=X.base) I.ok.mod.kin hk (thn (ha pos pins s σ H _ I h) λ us s1 ⟨vs,H1,I1,r,q⟩=>⟨I1.kIn,?_⟩) he hpl;exact zot F hr hb hd hx I1 r q
end
section
variable {X:Cx} {CX:CXT} {k:Nat} {f C:Addr} {fd:FuncData} {ps ks:List Str} {sp:Sp} {E:XK} {x m:Str} {p pos apos kpos:Pos} {e o:Expr} {es:List Expr} {kws:List Keyword} {te ta:TE} {t tk:TA} {nm:Option Str}
variable {g:List Value -> List Value -> List Value} {gV:List V -> List V -> List V}
end
structure FnScope (N P:List Str) (sc:Scope):Prop where
 kind:sc.kind=.function
 co:sc.isCoroutine=false
 gen:sc.isGenerator=false
 nd:N.Nodup
 pre:N.take P.length=P
 par:∀ x ∈ P,sc.names.lookup x=some .local \/ sc.names.lookup x=some .cell
 nofree:∀ y ∈ sc.names,y.2 ≠ .free
def zg4 {kindOf:Str -> Option NameKind} {x:Str}:∀ {binds:List (Str × Value)} {m:Str -> Option Value},(∀ v,(x,v) ∉ binds) -> bindL kindOf binds m x=m x
 | [],_,_=>rfl
 | (n,v) :: r,m,h=>by
  unfold bindL;rw [zg4 λ w hw=>h w (yav _ hw)]
  split
  ·have : x ≠ n := by rintro rfl; exact h v yaF
   simp [this]
  ·rfl
def zgJ {kindOf:Str -> Option NameKind} {x:Str}:∀ {binds:List (Str × Value)} {m:Str -> Option Value},(∀ v,(x,v) ∉ binds) -> bindC kindOf binds m x=m x
 | [],_,_=>rfl
 | (n,v) :: r,m,h=>by
  unfold bindC;rw [zgJ λ w hw=>h w (yav _ hw)]
  split
  ·rfl
  ·have : x ≠ n := by rintro rfl; exact h v yaF
   simp [this]
def zg7 {kindOf:Str -> Option NameKind} {x:Str} {v:Value}:∀ {P:List Str} {vs:List Value} {i:Nat} {m:Str -> Option Value},P.Nodup -> P[i]?=some x -> vs[i]?=some v -> kindOf x=some .local ->
    bindL kindOf (P.zip vs) m x=some v
  | [],_,_,_,_,h,_,_=>by simp at h
  | _ :: _,[],_,_,_,_,h,_=>by simp at h
  | p :: P,w :: vs,0,m,nd,h1,h2,hk=>by
    simp at h1 h2; subst h1; subst h2;show bindL kindOf ((p,w) :: P.zip vs) m p=_;unfold bindL;rw [zg4 λ v hv=>(ybY.mp nd).1 (ybZ hv).1,if_pos hk];simp
  | p :: P,w :: vs,i + 1,m,nd,h1,h2,hk=>by
    show bindL kindOf ((p,w) :: P.zip vs) m x=_;unfold bindL;exact zg7 (i:=i) (ybY.mp nd).2 (by simpa using h1) (by simpa using h2) hk
def zgK {kindOf:Str -> Option NameKind} {x:Str} {v:Value}:∀ {P:List Str} {vs:List Value} {i:Nat} {m:Str -> Option Value},P.Nodup -> P[i]?=some x -> vs[i]?=some v -> kindOf x ≠ some .local ->
    bindC kindOf (P.zip vs) m x=some v
  | [],_,_,_,_,h,_,_=>by simp at h
  | _ :: _,[],_,_,_,_,h,_=>by simp at h
  | p :: P,w :: vs,0,m,nd,h1,h2,hk=>by
    simp at h1 h2; subst h1; subst h2;show bindC kindOf ((p,w) :: P.zip vs) m p=_;unfold bindC;rw [zgJ λ v hv=>(ybY.mp nd).1 (ybZ hv).1,if_neg hk];simp
  | p :: P,w :: vs,i + 1,m,nd,h1,h2,hk=>by
    show bindC kindOf ((p,w) :: P.zip vs) m x=_;unfold bindC;exact zgK (i:=i) (ybY.mp nd).2 (by simpa using h1) (by simpa using h2) hk
noncomputable def zdG (N:List Str) (vs:List V):St:=vs.map some ++ List.replicate (N.length - vs.length) none
noncomputable def cxOf (CX:CXT) (P:Program) (w:World) (K:PySem.W.Frag) (mg:Str -> Option Value) (base:Heap) (N:List Str) (qual:Str) (scope:Scope) (f:Addr) (cd:Value) (A:Around) (outer:List Env) (s:Shared) (H:Hp) (E:XK):Cx where
 prog:=P
 w:=w
 K:=K
 mg:=mg
 base:=base
 A:=A.deeper (envOfC qual scope s.heap.objs.size f cd)
 N:=N
 s₀:=s
 H₀:=H
 env:=envOfC qual scope s.heap.objs.size f cd
 outer:=outer
 stack:=envOfC qual scope s.heap.objs.size f cd :: outer
 ex:=[]
 calm:=true
 fn:=λ _=>true
 pn:=[]
 xe:=λ e s'=>wpAny (model P w) (A.deeper (envOfC qual scope s.heap.objs.size f cd)) (leaving (envOfC qual scope s.heap.objs.size f cd) e) (λ _ s''=>CX outer H s E e s'') (λ e' s''=>CX outer H s E e' s'') s'
def ziB {sc:Scope} {n:Nat} {x:Str} (h:sc.names.lookup x=some .cell):∃ c,(cellsFrom n sc.names []).lookup x=some c:=by
 have q:=PySem.W.cellsFrom_some sc.names n [] (.inl h);exact Option.isSome_iff_exists.mp q
def zkm {CX:CXT} {P:Program} {w:World} {K:PySem.W.Frag} {mg:Str -> Option Value} {base:Heap} {N ps:List Str} {qual:Str} {scope:Scope} {f:Addr} {cd:Value} {A:Around} {outer:List Env} {s s1:Shared} {H:Hp} {E:XK} {us:List Value} {vs:List V}
    (S:FnScope N ps scope) (hd:A.handled=none) (e0:Env0 P w K mg base A outer s H) (hl:vs.length=ps.length) (r:Vals vs us)
    (x:InCallC s s.heap.objs.size (bindL (envOfC qual scope s.heap.objs.size f cd).kindOf (ps.zip us) λ _=>none) (cellsFrom (s.heap.objs.size + 1) scope.names []) (bindC (envOfC qual scope s.heap.objs.size f cd).kindOf (ps.zip us) λ _=>none) s1) :
    Inv (cxOf CX P w K mg base N qual scope f cd A outer s H E) [] (zdG N vs) H s1:=by
  have hpl:ps.length <= N.length:=by have:=congrArg List.length S.pre; rw [yaT] at this; omega
  obtain ⟨h1,tk,rfl,hk⟩:=x.done;have noA:∀ b:Addr,b ∉ (cxOf CX P w K mg base N qual scope f cd A outer s H E).ex:=λ b z=>absurd (show b ∈ ([]:List Addr) from z) (5:)
  refine ⟨⟨e0.mod,S.kind,rfl,rfl,yah _,λ y z c h1 h2=>?_,λ y hy=>?_,λ y c _ h=>?_,λ _=>hd,Around.frames_deeper e0.frames,.inr ⟨rfl,rfl⟩,λ b z=>absurd z (noA b),e0.bs,e0.bsz,λ b _ _=>noA b,λ b z=>absurd z (noA b),e0.funs,e0.frf⟩,
    rfl,e0.bare,Un.kept hk,⟨_,x.toInCall.ns,λ i y v h1 h2 h3=>?_⟩,λ y c h=>⟨_,x.cell y c h⟩,e0.hok.fresh (yah _),λ y c h=>?_,λ p hp=>absurd (show p ∈ ([]:List (Addr × Obj)) from hp) (5:),e0.hok.kept hk,?_⟩
  · exact name_of_addr x.apart (ya2 h1) (ya2 h2)
  · have hy : scope.names.lookup y = some .cell \/ scope.names.lookup y = some .free := hy;rcases hy with hy | hy
    · exact ziB hy
    · exact absurd rfl (S.nofree _ (ya2 hy))
  · exact yaK (x.above y c (ya2 h))
  · have hi:i < vs.length:=by
      unfold zdG at h2;by_cases hi:i < vs.length
      · exact hi
      · rw [ya8 (by simpa using hi)] at h2;rw [List.getElem?_replicate] at h2
        split at h2 <;> cases h2
    have ha:vs[i]?=some v:=by
      unfold zdG at h2;rw [ybq (by simpa using hi),yag] at h2;cases e:vs[i]? with
      | none=>rw [e] at h2; cases h2
      | some a=>rw [e] at h2; cases h2; rfl
    obtain ⟨u,hu,rv⟩:=r.get ha
    have hp:ps[i]?=some y:=by
      rw [<- S.pre,List.getElem?_take_of_lt (1:)]; exact h1
    have ndP:ps.Nodup:=by rw [<- S.pre]; exact S.nd.sublist (List.take_sublist _ _)
    refine ⟨u,rv,?_⟩;rcases S.par y (yaw hp) with k | k
    · exact .inl ⟨k,zg7 ndP hp hu k⟩
    · obtain ⟨c,e⟩:=ziB (n:=s.heap.objs.size + 1) k;refine .inr ⟨.inl k,c,e,?_⟩;have q:=x.cell y c e;rw [zgK ndP hp hu (by show scope.names.lookup y ≠ _; rw [k]; decide)] at q;exact q
  · exact e0.hok.fresh (yaK (x.above y c (ya2 h)))
  · unfold zdG;show _=N.length;rw [yaG,yad,yca];omega
def zpm {CX:CXT} {P:Program} {w:World} {K:PySem.W.Frag} {mg:Str -> Option Value} {base:Heap} {k:Nat} {f:Addr} {name qual:Str} {params:Arguments} {body:List Stmt} {scope:Scope} {dV kV doc pm cdv ct oc:Value} {an od:Option Addr}
    {osl:Array (Option Value)} {N ps:List Str} {sp:Sp} (lk:K.lookup f=some ⟨oc,od,.func (PySem.W.fnOf name qual params body scope dV kV doc pm an cdv ct),osl⟩) (hcd:PySem.W.codeIn K cdv qual=true) (S:FnScope N ps scope)
    (len:∀ vs H Q E,sp vs H Q E -> vs.length=ps.length)
    (hbody:∀ (A:Around) (outer:List Env) (s:Shared) (H:Hp) (vs:List V) (Q:VK) (E:XK),Room k (A.deeper (envOfC qual scope s.heap.objs.size f cdv)) -> sp vs H Q E ->
      ∃ t,PSs (cxOf CX P w K mg base N qual scope f cdv A outer s H E) body t /\ t { nx:=λ _ H'=>Q .non H',rt:=Q } (zdG N vs) H) :
    FnOk P w K mg base CX (k + 1) f (PySem.W.fnOf name qual params body scope dV kV doc pm an cdv ct) ps sp:=by
  refine ⟨len,λ A outer s H args us vs Q E hr e0 hb r hsp=>?_⟩;have hl:=len _ _ _ _ hsp;have KX:K.In s.heap:=e0.mod.kin.keeps λ b o e=>(e0.bs b o e).1;have lim:s.heap.NoLimit:=e0.mod.nolimit.keeps λ b o e=>(e0.bs b o e).1
  have hkind:∀ y ∈ ps.zip us,scope.names.lookup y.1=some .local \/ (scope.names.lookup y.1=some .cell /\ ((cellsFrom (s.heap.objs.size + 1) scope.names []).lookup y.1).isSome=true):=λ ⟨n,v⟩ hy=>by
    rcases S.par n (ybZ hy).1 with q | q
    · exact .inl q
    · exact .inr ⟨q,PySem.W.cellsFrom_some _ _ _ (.inl q)⟩
  refine codeAny_call_function hr.depth (KX _ _ lk) rfl S.co S.gen rfl (PySem.W.codeRec_of KX hcd) (hb _ _ _ _ ?_);refine wpAny_newFunctionEnv_cells S.kind hkind λ env he s1 x=>?_;subst he;refine ⟨lim.keeps x.toInCall.keep,codeAny_func ?_⟩;obtain ⟨t,ht,hq⟩:=hbody A outer s H vs Q E (hr.deeper _) hsp;have I:Inv (cxOf CX P w K mg base N qual scope f cdv A outer s H E) [] (zdG N vs) H s1:=zkm S hr.hd e0 hl r x;refine wpAny_mono (ht [] s1 (zdG N vs) H _ I hq) (λ fl s' hs=>?_) λ e s' hs=>hs
  have fin:∀ {σ':St} {H':Hp} {v:V} {u:Value},Inv (cxOf CX P w K mg base N qual scope f cdv A outer s H E) [] σ' H' s' -> RelV v u -> Q v H' -> CE outer P w H s Q u s':=
    λ {σ' H' v u} J rv q=>⟨v,H',J.os,J.bare,J.base,J.hok,rv,q⟩
  cases fl with
  | ret u=>
    obtain ⟨v,σ',H',J,rv,q⟩:=hs;exact fin J rv q
  | next=>
    obtain ⟨σ',H',J,q⟩:=hs;exact fin (v:=V.non) (u:=Value.none) J rfl q
  | brk=>
    obtain ⟨_,_,_,q⟩:=hs;exact False.elim q
  | cont=>
    obtain ⟨_,_,_,q⟩:=hs;exact False.elim q
section
variable {X:Cx} {x:Str} {p pos:Pos} {e:Expr} {es:List Expr} {t:TA} {id T:String} {r:List V -> Hp -> VK -> Prop}
noncomputable def tCB (r:List V -> Hp -> VK -> Prop) (t:TA):TE:=λ σ H Q=>t σ H λ vs H1=>r vs H1 Q
def zaE (hc:zcd X (.builtin id) r) (hg:Gl X x) (hm:X.mg x=none) (hv:bootBuiltins x=some (.builtin id)) (ha:PA X (e :: es) t) (hn:x ≠ "__name__":=by decide) (hdb:(x == ("__debug__":Str))=false:=by decide)
  (he:starEach (e :: es) X.env=(false,eval e X.env) :: starEach es X.env:=by rfl) (hpl:(backTo pos (starEach es X.env)).any (·.1)=false:=by rfl):PE X (.Call (.Name x p) (e :: es) [] pos) (tCB r t):=by
 intro pins s σ H Q I h;refine wpAny_Call_Name_kw (zce I hg hm hv ?_ hn hdb);exact PyProof.Rows.callWith_builtin1 (thn (ha pos pins s σ H _ I h) λ us s1 ⟨vs,H1,I1,r1,q1⟩=>hc pins s1 σ H1 vs us Q I1 r1 q1) he hpl
def zbu (hc:zcd X (.type T) r) (hg:Gl X x) (hm:X.mg x=none) (hv:bootBuiltins x=some (.type T)) (ha:PA X (e :: es) t) (hn:x ≠ "__name__":=by decide) (hdb:(x == ("__debug__":Str))=false:=by decide)
  (he:starEach (e :: es) X.env=(false,eval e X.env) :: starEach es X.env:=by rfl) (hpl:(backTo pos (starEach es X.env)).any (·.1)=false:=by rfl):PE X (.Call (.Name x p) (e :: es) [] pos) (tCB r t):=by
 intro pins s σ H Q I h;refine wpAny_Call_Name_kw (zce I hg hm hv ?_ hn hdb);exact yaD (thn (ha pos pins s σ H _ I h) λ us s1 ⟨vs,H1,I1,r1,q1⟩=>hc pins s1 σ H1 vs us Q I1 r1 q1) he hpl
end
end L2
namespace HT
open PySem PyProof.Rows
section
open PySem.SeqAt
open PySem.AutoSeq1 (wpAny_loadPart')
open PySem.MeetsSeq PySem.MeetsSeq2 PySem.MeetsSeq3
end
section
variable {prog:Program} {w:World} {A:Around} {E:Value -> Shared -> Prop} {s:Shared}
def cat_tup {t b:Addr} {vs ws:List Value} {Q:Value -> Shared -> Prop} (ht:IsTup s.heap t vs.toArray) (hb:IsTup s.heap b ws.toArray) (hv:vs ≠ [])
  (h1:ws=[] -> Q (.ref t) s) (h2:ws ≠ [] -> Q (.ref s.heap.objs.size) { s with heap:=s.heap.push { cls:=.type "tuple",data:=.seq (vs ++ ws).toArray } })
  (hsz:vs.length + ws.length <= sizeLine):wpAny (model prog w) A (binaryOp .Add (.ref t) (.ref b)) Q E s:=by
 obtain ⟨⟨cls,dd,data,sl⟩,ho,hc,n,hd⟩:=id ht;obtain ⟨⟨cls2,dd2,data2,sl2⟩,ho2,hc2,n2,hd2⟩:=id hb;simp only at hc hd hc2 hd2;subst hc hd hc2 hd2;have e:vs.toArray ++ ws.toArray=(vs ++ ws).toArray:=by simp
 by_cases hw:ws=[]
 ·exact concat_meets ⟨_,ho,rfl⟩ ⟨_,ho2,rfl⟩ noFill_tuple_add seq_tuple_add PySem.F.slot_tuple_add PySem.F.entry_tuple_add (PySem.F.args_tuple_add_2 _ _)
   (tuple_addW1 t b vs.toArray ws.toArray n n2 dd dd2 sl sl2 (by simpa using hv) (by simp [hw])) ⟨ho,ho2,h1 hw⟩
 ·refine concat_meets ⟨_,ho,rfl⟩ ⟨_,ho2,rfl⟩ noFill_tuple_add seq_tuple_add PySem.F.slot_tuple_add PySem.F.entry_tuple_add (PySem.F.args_tuple_add_2 _ _)
   (tuple_addW2 t b vs.toArray ws.toArray n n2 dd dd2 sl sl2 (by simpa using hv) (53:) (by rw [yak,yak]; exact hsz)) ⟨ho,ho2,?_⟩
  rw [e];exact h2 hw
noncomputable def sIx (n d:Nat):Option Int -> Nat
 | none=>d
 | some v=>if v < 0 then (v + (n:Int)).toNat else min v.toNat n
def sIx_nat (n d k:Nat):sIx n d (some (k:Int))=min k n:=by
 show (if (k:Int) < 0 then ((k:Int) + (n:Int)).toNat else min (k:Int).toNat n)=min k n;rw [if_neg (1:),yam]
def zn7 (n d:Nat) (hd:d <= n) (o:Option Int):sIx n d o <= n:=by
 cases o with
 | none=>exact hd
 | some v=>
  show (if v < 0 then (v + (n:Int)).toNat else min v.toNat n) <= n;by_cases hv:v < 0
  ·rw [if_pos hv]; omega
  ·rw [if_neg hv]; exact Nat.min_le_right _ _
def zjY (v:Int) (n d:Nat):(if v < 0 then max (v + (n:Int)) 0 else min v (n:Int))=((sIx n d (some v):Nat):Int):=by
 show (if v < 0 then max (v + (n:Int)) 0 else min v (n:Int))=(((if v < 0 then (v + (n:Int)).toNat else min v.toNat n):Nat):Int);by_cases hv:v < 0
 ·simp only [if_pos hv]; omega
 ·simp only [if_neg hv]; omega
def ziO (lo hi:Option Int) (n:Nat):Builtin.Slice.sliceAdjust lo hi 1 (n:Int)=(((sIx n 0 lo:Nat):Int),((sIx n n hi:Nat):Int)):=by
 have h1:¬ ((1:Int) < 0):=by omega
 unfold Builtin.Slice.sliceAdjust;simp only [h1,if_false];refine Prod.ext ?_ ?_
 ·cases lo with
  | none=>rfl
  | some v=>exact zjY v n 0
 ·cases hi with
  | none=>rfl
  | some v=>exact zjY v n n
def zi0 (i j:Nat):Builtin.Slice.slicePlaces (i:Int) (j:Int) 1=j - i:=by
 unfold Builtin.Slice.slicePlaces;have h1:(1:Int) > 0:=by omega
 simp only [h1,if_true,Int.ediv_one]
 split <;> omega
def zfn {v:Value} {o:Option Int} {Q:Option Int -> Shared -> Prop} (p:IsPart v o) (h:Q o s):wpAny (model prog w) A (Builtin.Slice.slicePartIndex v) Q E s:=by
 cases p with
 | none=>exact slicePart_none h
 | int i t=>exact slicePart_int h
def zd2 {sl:Addr} {vl vu:Value} {lo hi:Option Int} {n:Nat} {Q:Int × Int × Nat -> Shared -> Prop} (hs:s.heap.IsSliceOf sl vl vu .none) (pl:IsPart vl lo) (pu:IsPart vu hi)
  (h:Q (((sIx n 0 lo:Nat):Int),1,sIx n n hi - sIx n 0 lo) s):wpAny (model prog w) A (Builtin.Slice.sliceApplied (.ref sl) (pure (n:Int))) Q E s:=by
 obtain ⟨os,hos,hcs,hds⟩:=id hs;unfold Builtin.Slice.sliceApplied Builtin.Slice.sliceFields;refine wpAny_bind (wpAny_bind (wpAny_field hos hds (x:=vl) rfl (wpAny_bind (wpAny_field hos hds (x:=vu) rfl (wpAny_bind (wpAny_field hos hds (x:=.none) rfl (wpAny_pure ?_)))))));refine wpAny_bind (slicePart_none ?_);show wpAny _ _ (if ((1:Int) == 0)=true then _ else _) _ _ s;rw [if_neg (3:)];refine wpAny_bind (zfn pl (wpAny_bind (zfn pu (wpAny_bind (wpAny_pure ?_)))));show wpAny _ _ (match Builtin.Slice.sliceAdjust lo hi 1 (n:Int) with | (lo,hi)=>pure (lo,(1:Int),Builtin.Slice.slicePlaces lo hi 1)) _ _ s
 rw [ziO lo hi n];show wpAny _ _ (pure (((sIx n 0 lo:Nat):Int),(1:Int),Builtin.Slice.slicePlaces ((sIx n 0 lo:Nat):Int) ((sIx n n hi:Nat):Int) 1)) _ _ s;rw [zi0];exact wpAny_pure h
def zml (xs:Array Value) (i k:Nat):((List.range k).filterMap λ (m:Nat)=>xs[((i:Int) + (m:Int) * 1).toNat]?).toArray=((xs.toList.drop i).take k).toArray:=by
 have e:(λ (m:Nat)=>xs[((i:Int) + (m:Int) * 1).toNat]?)=λ m=>xs[i + m]?:=by
  funext m
  have:((i:Int) + (m:Int) * 1).toNat=i + m:=by omega
  rw [this]
 rw [e];have:=pick_run xs i k;rw [List.filterMap_map] at this;have e2:((λ x=>xs[x]?) ∘ λ x=>i + x)=λ m=>xs[i + m]?:=rfl;rw [e2] at this;rw [this]
def getItem_tuple_cut {t sl:Addr} {items:Array Value} {vl vu:Value} {lo hi:Option Int} {Q:Value -> Shared -> Prop} (ht:IsTup s.heap t items) (hs:s.heap.IsSliceOf sl vl vu .none) (pl:IsPart vl lo) (pu:IsPart vu hi)
  (hw:¬ (sIx items.size 0 lo=0 /\ sIx items.size items.size hi=items.size))
  (h:Q (.ref s.heap.objs.size) { s with heap:=s.heap.push { cls:=.type "tuple",data:=.seq ((items.toList.drop (sIx items.size 0 lo)).take (sIx items.size items.size hi - sIx items.size 0 lo)).toArray } })
  (hsz:items.size <= sizeLine):wpAny (model prog w) A (getItem (.ref t) (.ref sl)) Q E s:=by
 have htake:sizeOk (.seq ((items.toList.drop (sIx items.size 0 lo)).take (sIx items.size items.size hi - sIx items.size 0 lo)).toArray):=by
  show ((items.toList.drop (sIx items.size 0 lo)).take (sIx items.size items.size hi - sIx items.size 0 lo)).toArray.size <= sizeLine;rw [yak,yaT,List.length_drop,ybQ];omega
 have hj:sIx items.size items.size hi <= items.size:=zn7 _ _ (yah _) hi;obtain ⟨os,hos,hcs,hds⟩:=id hs;have hTs:s.TypeIs (.ref sl) "slice":=⟨os,hos,hcs⟩
 unfold getItem
 try with_reducible refine wpAny_holding ?_
 first | refine wpAny_bind (wpAny_pure ?_) | skip
 refine wpAny_bind (wpAny_sequenceKey ht.typeIs (3:) ?_)
 refine wpAny_bind (wpAny_callSpecial?_slot (name:=Str.ofString "__getitem__") ht.typeIs ybv
  (wpAny_call_entry ybv ht.typeIs entry_tuple_getitem ?_ (args_tuple_getitem _ _)))
 show wpAny _ _ (Builtin.Tuple.tupleItemsOf (.ref t) >>= _) _ _ s;refine wpAny_bind (tupleItemsOf_ ht ?_);refine wpAny_bind (wpAny_typeOf hTs ?_);rw [if_pos (3:)];refine wpAny_bind (zd2 hs pl pu ?_)
 have hno:¬ ((((sIx items.size 0 lo:Nat):Int) == 0 && (1:Int) == 1 && (sIx items.size items.size hi - sIx items.size 0 lo) == items.size)=true):=by
  intro q;rw [yai,yai] at q;have q1:((sIx items.size 0 lo:Nat):Int)=0:=eq_of_beq q.1.1;have q2:sIx items.size items.size hi - sIx items.size 0 lo=items.size:=eq_of_beq q.2;exact hw ⟨by omega,by omega⟩
 show wpAny _ _ (if (((sIx items.size 0 lo:Nat):Int) == 0 && (1:Int) == 1 && (sIx items.size items.size hi - sIx items.size 0 lo) == items.size)=true then _ else _) _ _ s;rw [if_neg hno,zml]
 first
  | exact wpAny_bind (m:=Builtin.Tuple.tupleExact _) (wpAny_newObj_type (wpAny_pure ⟨_,rfl,wpAny_pure h⟩) htake)
  | exact wpAny_bind (m:=Builtin.Tuple.tupleExact _) (wpAny_newObj_type (wpAny_bind (wpAny_pure (wpAny_pure ⟨_,rfl,wpAny_pure h⟩))) htake)
  | exact wpAny_bind (wpAny_bind (m:=Builtin.Tuple.tupleExact _) (wpAny_newObj_type (wpAny_pure (wpAny_pure ⟨_,rfl,wpAny_pure h⟩)) htake))
  | exact wpAny_bind (wpAny_bind (m:=Builtin.Tuple.tupleExact _) (wpAny_newObj_type (wpAny_pure ⟨_,rfl,wpAny_pure h⟩) htake))
end
end HT
namespace L2
open PySem PySem.Spec PyProof.Rows
noncomputable abbrev TO:=St -> Hp -> (Option Int -> Hp -> Prop) -> Prop
noncomputable def PO (X:Cx) (e:Option Expr) (t:TO):Prop:=
 ∀ (pins:List (Addr × Obj)) (s:Shared) (σ:St) (H:Hp) (Q:Option Int -> Hp -> Prop),Inv X pins σ H s -> t σ H Q ->
  wpAny (model X.prog X.w) X.A (evalPart e X.env) (λ u s'=>∃ o H',Inv X pins σ H' s' /\ IsPart u o /\ Q o H') X.xe s
noncomputable def zkV:TO:=λ _ H Q=>Q none H
noncomputable def zpk (t:TE):TO:=λ σ H Q=>t σ H λ x H1=>∃ i,x=.int i /\ Q (some i) H1
section
variable {X:Cx} {e:Expr} {te:TE} {lo hi:Option Expr} {tl th:TO} {pos p2:Pos}
def zne:PO X none zkV:=by
 intro pins s σ H Q I h;rw [evalPart_none];exact wpAny_pure ⟨none,H,I,.none,h⟩
def znH (h:PE X e te):PO X (some e) (zpk te):=by
 intro pins s σ H Q I hw;rw [evalPart_some];refine thn (h pins s σ H _ I hw) λ u s1 ⟨x,H1,I1,r1,q1⟩=>?_;obtain ⟨i,rfl,q⟩:=q1;obtain ⟨t,rfl⟩:=r1;exact ⟨some i,H1,I1,.int i t,q⟩
noncomputable def SlR (X:Cx) (r:V -> Option Int -> Option Int -> Hp -> VK -> Prop):Prop:=
 ∀ (pins:List (Addr × Obj)) (s:Shared) (σ:St) (H:Hp) (x:V) (v vl vu:Value) (lo hi:Option Int) (sl:Addr) (Q:VK),Inv X pins σ H s -> RelV x v -> s.heap.IsSliceOf sl vl vu .none -> IsPart vl lo -> IsPart vu hi -> r x lo hi H Q ->
  ∃ T id,typeLookup (.type T) "__getitem__"=pure (some (.builtin id)) /\ s.TypeIs v T /\ wpAny (model X.prog X.w) X.A (getItem v (.ref sl)) (EP X pins σ Q) X.xe s
def SlR.or {r r':V -> Option Int -> Option Int -> Hp -> VK -> Prop} (h:SlR X r) (h':SlR X r'):SlR X (λ x lo hi H Q=>r x lo hi H Q \/ r' x lo hi H Q):=by
 intro pins s σ H x v vl vu lo hi sl Q I rx hs pl pu q;rcases q with q | q
 ·exact h pins s σ H x v vl vu lo hi sl Q I rx hs pl pu q
 ·exact h' pins s σ H x v vl vu lo hi sl Q I rx hs pl pu q
noncomputable def tSl (r:V -> Option Int -> Option Int -> Hp -> VK -> Prop) (te:TE) (tl th:TO):TE:=λ σ H Q=>te σ H λ x H1=>tl σ H1 λ l H2=>th σ H2 λ u H3=>r x l u H3 Q
def zlD {r:V -> Option Int -> Option Int -> Hp -> VK -> Prop} (hr:SlR X r) (he:PE X e te) (hl:PO X lo tl) (hu:PO X hi th):PE X (.Subscript e (.Slice lo hi none p2) pos) (tSl r te tl th):=by
 intro pins s σ H Q I h;refine Subscript_ (thn (he pins s σ H _ I h) λ v s1 ⟨x,H1,I1,r1,q1⟩=>?_);refine wpAny_Slice (thn (hl pins s1 σ H1 _ I1 q1) λ vl s2 ⟨l,H2,I2,pl,q2⟩=>thn (hu pins s2 σ H2 _ I2 q2) λ vu s3 ⟨u,H3,I3,pu,q3⟩=>?_);rw [evalPart_none];refine wpAny_pure ?_;have I4:Inv X pins σ H3 { s3 with heap:=s3.heap.push { cls:=.type "slice",data:=.fields #[vl,vu,.none] } }:=I3.kept (t':=s3.toks) λ b ob q=>yac _ q;obtain ⟨T,id,hT,ht,hg⟩:=hr pins { s3 with heap:=s3.heap.push { cls:=.type "slice",data:=.fields #[vl,vu,.none] } } σ H3 x v vl vu l u s3.heap.objs.size Q I4 r1 (Heap.IsSliceOf.new ..) pl pu q3;show wpAny (model X.prog X.w) X.A (subscriptTail e (.Slice lo hi none p2) v (.ref s3.heap.objs.size)) (EP X pins σ Q) X.xe { s3 with heap:=s3.heap.push { cls:=.type "slice",data:=.fields #[vl,vu,.none] } };exact tail_any (ops:=[.ref s3.heap.objs.size,v]) ht hT hg (by with_unfolding_all rfl)
noncomputable def cutV (xs:List V) (lo hi:Option Int):List V:=(xs.drop (HT.sIx xs.length 0 lo)).take (HT.sIx xs.length xs.length hi - HT.sIx xs.length 0 lo)
def ze5 (xs:List V) (lo hi:Option Int):(cutV xs lo hi).length <= xs.length:=by
 unfold cutV;rw [yaT,List.length_drop];omega
noncomputable def rSlT (K:PySem.W.Frag):V -> Option Int -> Option Int -> Hp -> VK -> Prop:=λ x lo hi H Q=>∃ a xs,x=.ref a /\ SqT K H a xs /\
 ¬ (HT.sIx xs.length 0 lo=0 /\ HT.sIx xs.length xs.length hi=xs.length) /\ ∀ p,H p=none -> Q (.ref p) (upd H p (.tup (cutV xs lo hi)))
def zpb:SlR X (rSlT X.K):=by
 intro pins s σ H x v vl vu lo hi sl Q I rx hs pl pu h;obtain ⟨a,xs,rfl,hx,hw,q⟩:=h;cases rx;obtain ⟨its,r,ht,hz⟩:=I.tuple hx;have hlen:its.toArray.size=xs.length:=by rw [yak]; exact r.length.symm
 refine ⟨"tuple",_,ybv.lookup,ht.typeIs,?_⟩;refine HT.getItem_tuple_cut ht hs pl pu (by rw [hlen]; exact hw) ?_ (by rw [hlen]; exact hz);rw [hlen];refine ⟨.ref s.heap.objs.size,_,I.laid (t':=s.toks) (o:=.tup (cutV xs lo hi)) (λ b ob q=>yac _ q) (yah _) ?_,rfl,q _ (I.hok.fresh (yah _))⟩;exact ⟨yaV (ze5 xs lo hi) hz,_,(r.drop (HT.sIx xs.length 0 lo)).take (HT.sIx xs.length xs.length hi - HT.sIx xs.length 0 lo),za5.new _ _⟩
noncomputable def zoJ (K:PySem.W.Frag):R2:=λ x y H Q=>∃ a b xs ys,x=.ref a /\ y=.ref b /\ SqT K H a xs /\ SqT K H b ys /\ xs ≠ [] /\ xs.length + ys.length <= sizeLine /\
 (ys=[] -> Q (.ref a) H) /\ (ys ≠ [] -> ∀ p,H p=none -> Q (.ref p) (upd H p (.tup (xs ++ ys))))
def Vals.nil_iff {xs:List V} {us:List Value} (r:Vals xs us):us=[] ↔ xs=[]:=by
 cases r with
 | nil=>simp
 | cons _ _=>simp
def znp:OpR X (binaryOp .Add) (zoJ X.K):=by
 intro pins s σ H x y v u Q I rx ry h;obtain ⟨a,b,xs,ys,rfl,rfl,ha,hb,hx,hz,q1,q2⟩:=h;cases rx;cases ry;obtain ⟨its,r1,p1,_⟩:=I.tuple ha;obtain ⟨its2,r2,p2,_⟩:=I.tuple hb;refine HT.cat_tup p1 p2 (λ z=>hx (r1.nil_iff.mp z)) (λ z=>⟨.ref a,H,I,rfl,q1 (r2.nil_iff.mp z)⟩) (λ z=>?_) (by rw [<- r1.length,<- r2.length]; exact hz);refine ⟨.ref s.heap.objs.size,_,I.laid (t':=s.toks) (o:=.tup (xs ++ ys)) (λ b ob q=>yac _ q) (yah _) ?_,rfl,q2 (λ w=>z (r2.nil_iff.mpr w)) _ (I.hok.fresh (yah _))⟩;exact ⟨by rw [yaG]; exact hz,_,r1.append r2,za5.new _ _⟩
end
noncomputable def ixN (n:Nat) (i:Int):Option Nat:=if 0 <= i then (if i < n then some i.toNat else none) else if -(n:Int) <= i then some (i + n).toNat else none
noncomputable def atI {α:Type} (xs:List α) (i:Int):Option α:=(ixN xs.length i).bind λ j=>xs[j]?
def zkh {n:Nat} {i:Int} {j:Nat} (h:ixN n i=some j):seqIndex? i n=some j /\ j < n /\ -(n:Int) <= i /\ i < n:=by
 unfold ixN at h;by_cases h0:0 <= i
 ·rw [if_pos h0] at h;by_cases h1 : i < n
  ·rw [if_pos h1] at h;have e:i.toNat=j:=Option.some.inj h;exact ⟨by rw [seqIndex_of h0 h1,e],by omega,by omega,h1⟩
  ·rw [if_neg h1] at h; cases h
 ·rw [if_neg h0] at h;by_cases h1 : -(n : Int) <= i
  ·rw [if_pos h1] at h;have e:(i + n).toNat=j:=Option.some.inj h;exact ⟨by rw [seqIndex_neg (1:) h1,e],by omega,h1,by omega⟩
  ·rw [if_neg h1] at h; cases h
def zhz {α:Type} {xs:List α} {i:Int} {v:α} (h:atI xs i=some v):∃ j,seqIndex? i xs.length=some j /\ xs[j]?=some v /\ j < xs.length /\ -(xs.length:Int) <= i /\ i < xs.length:=by
 unfold atI at h;cases e:ixN xs.length i with
 | none=>rw [e] at h; cases h
 | some j=>
  rw [e] at h;obtain ⟨h1,h2,h3,h4⟩:=zkh e;exact ⟨j,h1,h,h2,h3,h4⟩
def zlk {α:Type} {xs:List α} {j:Nat} {v:α} (h:xs[j]?=some v):atI xs (j:Int)=some v:=by
 have hj:j < xs.length:=(yaj.mp h).1
 have e:ixN xs.length (j:Int)=some j:=by
  unfold ixN;rw [if_pos (1:),if_pos (1:)]; simp
 unfold atI; rw [e]; exact h
noncomputable def znP (b:Expr):Prop:=∀ o i,subscripted b false o i=operate [o,i] (getItem o i)
noncomputable def IxR (X:Cx) (r:R2):Prop:=
 ∀ (value slice:Expr) (pins:List (Addr × Obj)) (s:Shared) (σ:St) (H:Hp) (x y:V) (v u:Value) (Q:VK),Inv X pins σ H s -> RelV x v -> RelV y u -> r x y H Q ->
  subscripted slice false v u=operate [v,u] (getItem v u) -> wpAny (model X.prog X.w) X.A (subscriptTail value slice v u) (EP X pins σ Q) X.xe s
noncomputable def MtR (X:Cx) (id:String) (r:V -> List V -> Hp -> VK -> Prop):Prop:=
 ∀ (pins:List (Addr × Obj)) (s:Shared) (σ:St) (H:Hp) (x:V) (xs:List V) (v:Value) (us:List Value) (Q:VK),Inv X pins σ H s -> RelV x v -> Vals xs us -> r x xs H Q ->
  wpAny (model X.prog X.w) X.A (call (.builtin id) (v :: us)) (EP X pins σ Q) X.xe s
section
variable {X:Cx} {a b:Expr} {ta tb:TE} {pos:Pos}
def IxR.or {r r':R2} (h:IxR X r) (h':IxR X r'):IxR X (λ x y H Q=>r x y H Q \/ r' x y H Q):=by
 intro value slice pins s σ H x y v u Q I rx ry q hs;rcases q with q | q
 ·exact h value slice pins s σ H x y v u Q I rx ry q hs
 ·exact h' value slice pins s σ H x y v u Q I rx ry q hs
def zaA {r:R2} (hr:IxR X r) (ha:PE X a ta) (hb:PE X b tb) (hs:znP b):PE X (.Subscript a b pos) (tOp r ta tb):=by
 intro pins s σ H Q I h;exact Subscript_ (binT ha hb I h λ v u s2 x y H2 I2 rx ry q=>hr a b pins s2 σ H2 x y v u Q I2 rx ry q (hs _ _))
noncomputable def rIxL (K:PySem.W.Frag):R2:=λ x y H Q=>∃ p xs i v,x=.ref p /\ y=.int i /\ SqL K H p xs /\ atI xs i=some v /\ Q v H
noncomputable def rIxT (K:PySem.W.Frag):R2:=λ x y H Q=>∃ p xs i v,x=.ref p /\ y=.int i /\ SqT K H p xs /\ atI xs i=some v /\ Q v H
noncomputable def rIxS:R2:=λ x y H Q=>∃ z i c,x=.str z /\ y=.int i /\ z.length <= sizeLine /\ atI z.cps.toList i=some c /\ Q (.str ⟨#[c]⟩) H
def znv:IxR X (rIxL X.K):=by
 intro value slice pins s σ H x y v u Q I rx ry h hs;obtain ⟨p,xs,i,z,rfl,rfl,hq,he,q⟩:=h;cases rx;obtain ⟨t,rfl⟩:=ry;obtain ⟨its,r,pl,hz⟩:=I.list hq;obtain ⟨j,h1,h2,h3,h4,h5⟩:=zhz he;obtain ⟨w,ew,rw'⟩:=r.get h2;have hl:=r.length;have hn:=zhi;have fin:EP X pins σ Q w s:=⟨z,H,I,rw',q⟩
 by_cases h0:0 <= i
 ·have hj:i.toNat=j:=by
   rw [seqIndex_of h0 h5] at h1;exact Option.some.inj h1
  exact item_listR pl.isList h0 (1:) (by rw [hj]; simpa using ew) fin hs
 ·have hj:(i + (its.toArray.size:Int)).toNat=j:=by
   rw [seqIndex_neg (1:) h4] at h1;rw [yak,<- hl];exact Option.some.inj h1
  exact subscriptTail_builtinR (x:=w) pl.isList.typeIs slot_list_getitem.lookup
   (wpAny_getItem_list_neg (Q:=λ r s'=>r=w /\ EP X pins σ Q r s') pl.isList (1:) (by rw [yak] <;> omega) (1:) (by rw [hj]; simpa using ew) ⟨rfl,fin⟩) hs
def zox:IxR X (rIxT X.K):=by
 intro value slice pins s σ H x y v u Q I rx ry h hs;obtain ⟨p,xs,i,z,rfl,rfl,hq,he,q⟩:=h;cases rx;obtain ⟨t,rfl⟩:=ry;obtain ⟨its,r,pl,hz⟩:=I.tuple hq;obtain ⟨j,h1,h2,h3,h4,h5⟩:=zhz he;obtain ⟨w,ew,rw'⟩:=r.get h2;have hl:=r.length;have hn:=zhi;have fin:EP X pins σ Q w s:=⟨z,H,I,rw',q⟩
 exact subscriptTail_builtinR (x:=w) pl.typeIs slot_tuple_getitem.lookup
  (getItem_tuple (j:=j) (Q:=λ r s'=>r=w /\ EP X pins σ Q r s') pl (1:) (1:) (by rw [yak,<- hl]; exact h1) (by simpa using ew) ⟨rfl,fin⟩) hs
def zoe:IxR X rIxS:=by
 intro value slice pins s σ H x y v u Q I rx ry h hs;obtain ⟨z,i,c,rfl,rfl,hz,he,q⟩:=h;obtain ⟨t,rfl⟩:=rx;obtain ⟨t',rfl⟩:=ry;obtain ⟨j,h1,h2,h3,h4,h5⟩:=zhz he;have hl:z.cps.toList.length=z.length:=by simp [Str.length]
 rw [hl] at h1 h4 h5;have hn:=zhi
 exact tail_any (typeIs_str s z t) slot_str_getitem.lookup (getItem_str (c:=c) (by
  have e1:decide (i < -(2 ^ 63:Int))=false:=decide_eq_false (1:);have e2:decide (i >= 2 ^ 63)=false:=decide_eq_false (1:);rw [e1,e2,Bool.or_false]) (by rw [h1]; simpa using h2) ⟨.str ⟨#[c]⟩,H,I.tok _,⟨_,rfl⟩,q⟩) hs
noncomputable def rIx (K:PySem.W.Frag):R2:=λ x y H Q=>rIxL K x y H Q \/ rIxT K x y H Q \/ rIxS x y H Q
def zoM:IxR X (rIx X.K):=znv.or (zox.or zoe)
def zju (its:List Value) (n j:Nat) (u:Value):Obj.mapSeq (·.setIfInBounds j u) { cls:=.type "list",data:=.seq its.toArray n }={ cls:=.type "list",data:=.seq (its.set j u).toArray n }:=by
 simp [Obj.mapSeq]
def Inv.lst {pins:List (Addr × Obj)} {σ:St} {H:Hp} {s:Shared} {p:Addr} {xs:List V} (I:Inv X pins σ H s) (h:H p=some (.lst xs)) :
  ∃ (its:List Value) (n:Nat),Vals xs its /\ s.heap.get? p=some { cls:=.type "list",data:=.seq its.toArray n } /\ xs.length <= sizeLine:=by
 obtain ⟨z,its,n,r,e⟩:=I.hok p _ h;exact ⟨its,n,r,e,z⟩
def Inv.lstUpd {pins:List (Addr × Obj)} {σ:St} {H:Hp} {s:Shared} {p:Addr} {xs ys:List V} {its its':List Value} {n n':Nat} {f:Obj -> Obj} (I:Inv X pins σ H s) (h:H p=some (.lst xs))
  (ho:s.heap.get? p=some { cls:=.type "list",data:=.seq its.toArray n }) (hf:f { cls:=.type "list",data:=.seq its.toArray n }={ cls:=.type "list",data:=.seq its'.toArray n' }) (r:Vals ys its') (hz:ys.length <= sizeLine) (t:Nat) :
  Inv X pins σ (upd H p (.lst ys)) { s with heap:=s.heap.update p f,toks:=t }:=by
 have e:(s.heap.update p f).get? p=some { cls:=.type "list",data:=.seq its'.toArray n' }:=by
  rw [ybd f ho (by rw [hf] <;> rfl),hf]
 refine I.write (x:=p) (e:=p) (by rw [h]; trivial) (.inl rfl) (λ b u hb q=>(ya9 _ _ (ybj hb)).trans q) ⟨_,e⟩ ?_;exact ⟨hz,its',n',r,e⟩
noncomputable def zm6:V -> V -> V -> Hp -> (Hp -> Prop) -> Prop:=λ o i v H Q=>∃ p xs k j,o=.ref p /\ i=.int k /\ H p=some (.lst xs) /\ ixN xs.length k=some j /\ Q (upd H p (.lst (xs.set j v)))
def zdl:PSet X zm6:=by
 intro pins s σ H o i v ov iv u Q I ro ri rv h;obtain ⟨p,xs,k,j,rfl,rfl,hp,hj,q⟩:=h;cases ro;obtain ⟨t,rfl⟩:=ri;obtain ⟨its,n,r,ho,hz⟩:=I.lst hp;obtain ⟨h1,h2,h3,h4⟩:=zkh hj;have hl:=r.length;have hn:=zhi
 have I':Inv X pins σ (upd H p (.lst (xs.set j v))) { s with heap:=s.heap.update p (Obj.mapSeq (·.setIfInBounds j u)) }:=
  I.lstUpd hp ho (zju its n j u) (r.set rv j) (by rw [List.length_set]; exact hz) s.toks
 by_cases h0:0 <= k
 ·have hk:k.toNat=j:=by
   rw [seqIndex_of h0 h4] at h1;exact Option.some.inj h1
  exact PySem.W.ki_setAt ho h0 (1:) (by rw [yak,<- hl]; exact h4) (by rw [hk]; exact ⟨_,I',q⟩)
 ·have hk:(k + (its.toArray.size:Int)).toNat=j:=by
   rw [seqIndex_neg (1:) h3] at h1;rw [yak,<- hl];exact Option.some.inj h1
  exact PySem.W.ki_setBack ho (1:) (by rw [yak,<- hl]; exact h3) (1:) (by rw [hk]; exact ⟨_,I',q⟩)
def zgE (lo hi:Option Int) (n:Nat):(sliceBounds lo hi none n).1=((HT.sIx n 0 lo:Nat):Int) /\ (sliceBounds lo hi none n).2.1=((HT.sIx n n hi:Nat):Int) /\ (sliceBounds lo hi none n).2.2=1:=by
 refine ⟨?_,?_,rfl⟩
 ·cases lo with
  | none=>simp [sliceBounds,HT.sIx]
  | some i=>
   simp only [sliceBounds,HT.sIx,Option.getD_none,show (1:Int) > 0 by decide,if_true];by_cases h:i < 0
   ·simp only [h,if_true] <;> omega
   ·simp only [h,if_false] <;> omega
 ·cases hi with
  | none=>simp [sliceBounds,HT.sIx]
  | some i=>
   simp only [sliceBounds,HT.sIx,Option.getD_none,show (1:Int) > 0 by decide,if_true];by_cases h:i < 0
   ·simp only [h,if_true] <;> omega
   ·simp only [h,if_false] <;> omega
def zf9 (its:List Value) (lo hi:Option Int):slicePick its.toArray lo hi none=((its.drop (HT.sIx its.length 0 lo)).take (HT.sIx its.length its.length hi - HT.sIx its.length 0 lo)).toArray:=by
 obtain ⟨h1,h2,h3⟩:=zgE lo hi its.toArray.size;unfold slicePick;rw [h1,h2,h3];simp only [sliceRange_one,pick_run,yak] <;> rfl
noncomputable def rSlL (K:PySem.W.Frag):V -> Option Int -> Option Int -> Hp -> VK -> Prop:=λ x lo hi H Q=>∃ a xs,x=.ref a /\ SqL K H a xs /\ ∀ p,H p=none -> Q (.ref p) (upd H p (.lst (cutV xs lo hi)))
def znU:SlR X (rSlL X.K):=by
 intro pins s σ H x v vl vu lo hi sl Q I rx hs pl pu h;obtain ⟨a,xs,rfl,hx,q⟩:=h;cases rx;obtain ⟨its,r,ht,hz⟩:=I.list hx;have hlen:=r.length;refine ⟨"list",_,slot_list_getitem.lookup,ht.isList.typeIs,?_⟩;refine wpAny_getItem_list_slice ht.isList hs pl pu .none (5:) ?_ (by rw [yak] <;> omega);rw [zf9,<- hlen];refine ⟨.ref s.heap.objs.size,_,I.laid (t':=s.toks) (o:=.lst (cutV xs lo hi)) (λ b ob q=>yac _ q) (yah _) ?_,rfl,q _ (I.hok.fresh (yah _))⟩;exact ⟨yaV (ze5 xs lo hi) hz,_,0,(r.drop (HT.sIx xs.length 0 lo)).take (HT.sIx xs.length xs.length hi - HT.sIx xs.length 0 lo),yal _ rfl⟩
noncomputable def zbw:V -> Bool
 | .non=>true
 | .bl _=>true
 | .int _=>true
 | .str _=>true
 | _=>false
noncomputable def eqV:V -> V -> Bool
 | .non,.non=>true
 | .bl a,.bl b=>a == b
 | .bl a,.int b=>(if a then 1 else 0) == b
 | .int a,.bl b=>a == (if b then 1 else 0)
 | .int a,.int b=>a == b
 | .str a,.str b=>a == b
 | _,_=>false
def zpg {A:Around} {s:Shared} {y x:V} {u v:Value} (ry:RelV y u) (rx:RelV x v) (fy:zbw y=true) (fx:zbw x=true):SeqAt.EqAt A s u v (eqV y x):=by
 cases y with
 | non=>
  cases ry;cases x with
  | non=>cases rx; exact SeqAt.EqAt.same _
  | bl b=>cases rx; exact SeqAt.EqAt.none_bool b
  | int b=>obtain ⟨t,rfl⟩:=rx; exact SeqAt.EqAt.none_int b t
  | str b=>obtain ⟨t,rfl⟩:=rx; exact SeqAt.EqAt.none_str b t
  | _=>exact absurd (show false=true from fx) yay
 | bl a=>
  cases ry;cases x with
  | non=>cases rx; exact SeqAt.EqAt.bool_none a
  | bl b=>cases rx; exact SeqAt.EqAt.bool_bool a b
  | int b=>obtain ⟨t,rfl⟩:=rx; exact SeqAt.EqAt.bool_int a b t
  | str b=>obtain ⟨t,rfl⟩:=rx; exact SeqAt.EqAt.bool_str a b t
  | _=>exact absurd (show false=true from fx) yay
 | int a=>
  obtain ⟨t',rfl⟩:=ry;cases x with
  | non=>cases rx; exact SeqAt.EqAt.int_none a t'
  | bl b=>cases rx; exact SeqAt.EqAt.int_bool a t' b
  | int b=>obtain ⟨t,rfl⟩:=rx; exact SeqAt.EqAt.int_int a t' b t
  | str b=>obtain ⟨t,rfl⟩:=rx; exact SeqAt.EqAt.int_str a t' b t
  | _=>exact absurd (show false=true from fx) yay
 | str a=>
  obtain ⟨t',rfl⟩:=ry;cases x with
  | non=>cases rx; exact SeqAt.EqAt.str_none a t'
  | bl b=>cases rx; exact SeqAt.EqAt.str_bool a t' b
  | int b=>obtain ⟨t,rfl⟩:=rx; exact SeqAt.EqAt.str_int a t' b t
  | str b=>obtain ⟨t,rfl⟩:=rx; exact SeqAt.EqAt.str_str a t' b t
  | _=>exact absurd (show false=true from fx) yay
 | _=>exact absurd (show false=true from fy) yay
noncomputable def eqU (x:V) (u:Value):Bool:=match u with
 | .none=>eqV .non x
 | .bool b=>eqV (.bl b) x
 | .int i _=>eqV (.int i) x
 | .str z _=>eqV (.str z) x
 | _=>false
def ziA {x y:V} {u:Value} (r:RelV y u) (f:zbw y=true):eqU x u=eqV y x:=by
 cases y with
 | non=>cases r; rfl
 | bl b=>cases r; rfl
 | int i=>obtain ⟨t,rfl⟩:=r; rfl
 | str z=>obtain ⟨t,rfl⟩:=r; rfl
 | _=>exact absurd (show false=true from f) yay
def zeV {x:V}:∀ {xs:List V} {us:List Value},Vals xs us -> xs.all zbw=true -> us.any (eqU x)=xs.any λ y=>eqV y x
 | _,_,.nil,_=>rfl
 | y :: xs,u :: us,.cons r t,f=>by
  rw [List.all_cons,yai] at f;rw [List.any_cons,List.any_cons,ziA r f.1,zeV t f.2]
def zcz {A:Around} {s:Shared} {x:V} {v:Value} (rx:RelV x v) (fx:zbw x=true):∀ {xs:List V} {us:List Value},Vals xs us -> xs.all zbw=true -> ∀ u ∈ us,SeqAt.EqAt A s u v (eqU x u)
 | _,_,.nil,_=>λ u hu=>by cases hu
 | y :: xs,u :: us,.cons r t,f=>λ u' hu=>by
  rw [List.all_cons,yai] at f;rcases yao.mp hu with rfl | hu
  ·rw [ziA r f.1]; exact zpg r rx f.1 fx
  ·exact zcz rx fx t f.2 u' hu
noncomputable def inV (x:V) (xs:List V):Bool:=xs.any λ y=>eqV y x
noncomputable def rIn (K:PySem.W.Frag) (neg:Bool):R2:=λ x y H Q=>∃ p xs,y=.ref p /\ (SqL K H p xs \/ SqT K H p xs) /\ zbw x=true /\ xs.all zbw=true /\ Q (.bl (if neg then !inV x xs else inV x xs)) H
def zkY:OpR X (compareOp .In) (rIn X.K false):=by
 intro pins s σ H x y v u Q I rx ry h;obtain ⟨p,xs,rfl,hq,fx,fs,q⟩:=h;cases ry;rcases hq with hq | hq
 ·obtain ⟨its,r,pl,hz⟩:=I.list hq;refine SeqAt.in_listAt (eqU x) pl.isList (λ w hw=>zcz rx fx r fs w (53:)) ⟨.bl _,H,I,rfl,?_⟩;rw [show its.toArray.any (eqU x)=its.any (eqU x) by simp,zeV r fs];exact q
 ·obtain ⟨its,r,pl,hz⟩:=I.tuple hq;refine SeqAt.in_tupleAt (eqU x) pl (λ w hw=>zcz rx fx r fs w (53:)) ⟨.bl _,H,I,rfl,?_⟩;rw [show its.toArray.any (eqU x)=its.any (eqU x) by simp,zeV r fs];exact q
def zhh:OpR X (compareOp .NotIn) (rIn X.K true):=by
 intro pins s σ H x y v u Q I rx ry h;obtain ⟨p,xs,rfl,hq,fx,fs,q⟩:=h;cases ry;rcases hq with hq | hq
 ·obtain ⟨its,r,pl,hz⟩:=I.list hq;refine SeqAt.notIn_listAt (eqU x) pl.isList (λ w hw=>zcz rx fx r fs w (53:)) ⟨.bl _,H,I,rfl,?_⟩;rw [show its.toArray.any (eqU x)=its.any (eqU x) by simp,zeV r fs];exact q
 ·obtain ⟨its,r,pl,hz⟩:=I.tuple hq;refine SeqAt.notIn_tupleAt (eqU x) pl (λ w hw=>zcz rx fx r fs w (53:)) ⟨.bl _,H,I,rfl,?_⟩;rw [show its.toArray.any (eqU x)=its.any (eqU x) by simp,zeV r fs];exact q
def zgi:zcd X (.type "tuple") (λ xs H Q=>∃ p ys,xs=[.ref p] /\ ((SqL X.K H p ys /\ ∀ l,H l=none -> Q (.ref l) (upd H l (.tup ys))) \/ (SqT X.K H p ys /\ Q (.ref p) H))):=by
 intro pins s σ H xs us Q I r h;obtain ⟨p,ys,rfl,h⟩:=h;obtain ⟨u,rfl,rx⟩:=znz r;cases rx;rcases h with ⟨hq,q⟩ | ⟨hq,q⟩
 ·obtain ⟨its, r', pl, hz⟩ := I.list hq;have hlen := r'.length;refine call_tuple_list pl.isList (fun h' kp => ?_) (by simp only [yak] <;> omega);have I1 : Inv X pins σ H { s with heap := h' } := I.kept (t' := s.toks) kp
  have I2:Inv X pins σ (upd H h'.objs.size (.tup ys)) { s with heap:=h'.push { cls:=.type "tuple",data:=.seq its.toArray } }:=
   I1.laid (t':=s.toks) (λ b o e=>yac _ e) (yah _) (show zbh X.prog X.w _ _ _ (.tup ys) from ⟨hz,its,r',za5.new _ _⟩)
  exact ⟨.ref h'.objs.size,_,I2,rfl,q _ (I1.hok.fresh (yah _))⟩
 ·obtain ⟨its,r',pl,hz⟩:=I.tuple hq;exact call_tuple_same pl ⟨.ref p,H,I,rfl,q⟩
noncomputable def tyV (K:PySem.W.Frag) (T:String) (x:V) (H:Hp):Prop:=match x with
  | .str _=>T="str"
  | .int _=>T="int"
  | .ref p=>(T="list" /\ ∃ xs,SqL K H p xs) \/ (T="tuple" /\ ((∃ o,K.lookup p=some o /\ o.cls=.type "tuple" /\ o.dict=none) \/ ∃ xs,H p=some (.tup xs))) \/
      (T="dict" /\ ((∃ kvs,H p=some (.dK kvs)) \/ ∃ kvs,H p=some (.dT kvs))) \/ (T="set" /\ ∃ S n,H p=some (.set S n))
  | _=>False
def zmz {pins:List (Addr × Obj)} {σ:St} {H:Hp} {s:Shared} {T:String} {x:V} {v:Value} (I:Inv X pins σ H s) (r:RelV x v) (ty:tyV X.K T x H) :
  s.TypeIs v T /\ ∀ a,v=.ref a -> ∃ ob,s.heap.get? a=some ob /\ ob.dict=none:=by
 cases x with
 | str z=>
  obtain ⟨t,rfl⟩:=r;cases (show T="str" from ty);exact ⟨typeIs_str s z t,λ _ e=>nomatch e⟩
 | int i=>
  obtain ⟨t,rfl⟩:=r;cases (show T="int" from ty);exact ⟨typeIs_int s i t,λ _ e=>nomatch e⟩
 | ref p=>
  cases r;rcases ty with ⟨rfl,xs,hq⟩ | ⟨rfl,⟨o,hk,hc,hd⟩ | ⟨xs,hx⟩⟩ | ⟨rfl,hk⟩ | ⟨rfl,S,n,hk⟩
  ·obtain ⟨its,_,pl,_⟩:=I.list hq;refine ⟨pl.isList.typeIs,λ a e=>?_⟩;cases e;obtain ⟨o,n,e,c,hd,_⟩:=pl;exact ⟨o,e,hd⟩
  ·refine ⟨⟨o,I.kIn p o hk,hc⟩,λ a e=>?_⟩;cases e;exact ⟨o,I.kIn _ o hk,hd⟩
  ·obtain ⟨_,_,_,o,e,c,hd,_⟩:=I.hok p _ hx;refine ⟨⟨o,e,c⟩,λ a e2=>?_⟩;cases e2;exact ⟨o,e,hd⟩
  ·have z:∃ o,s.heap.get? p=some o /\ o.ExactDict:=by
    rcases hk with ⟨kvs,hk⟩ | ⟨kvs,hk⟩
    ·obtain ⟨_,_,_,_,o,_,_,e,ex,_⟩:=I.hok p _ hk;exact ⟨o,e,ex⟩
    ·obtain ⟨_,_,_,_,o,_,_,e,ex,_⟩:=I.hok p _ hk;exact ⟨o,e,ex⟩
   obtain ⟨o,e,ex⟩:=z;refine ⟨⟨o,e,ex.1⟩,λ a e2=>?_⟩;cases e2;exact ⟨o,e,ex.2.1⟩
  ·obtain ⟨o,_,_,_,e,ex,_⟩:=I.hok p _ hk;refine ⟨⟨o,e,ex.1⟩,λ a e2=>?_⟩;cases e2;exact ⟨o,e,ex.2.1⟩
 | _=>exact False.elim ty
noncomputable def tBM0 (K:PySem.W.Frag) (T:String) (r:V -> List V -> Hp -> VK -> Prop) (to:TE):TE:=λ σ H Q=>to σ H λ x H1=>tyV K T x H1 /\ r x [] H1 Q
noncomputable def tBM (K:PySem.W.Frag) (T:String) (r:V -> List V -> Hp -> VK -> Prop) (to:TE) (t:TA):TE:=λ σ H Q=>to σ H λ x H1=>tyV K T x H1 /\ t σ H1 λ xs H2=>r x xs H2 Q
variable {o e:Expr} {es:List Expr} {to:TE} {t:TA} {name:Str} {apos cpos:Pos} {T id:String} {r:V -> List V -> Hp -> VK -> Prop}
def zoQ (pa:PlainAttrs T) (slot:Slot T name id) (hty:typeOf (.builtin id)=pure (.type "method_descriptor")) (hm:MtR X id r) (ho:PE X o to)
  (hbase:attributeBase o name X.env (eval o X.env)=eval o X.env:=by rfl) (hline:(apos.endLine == cpos.line)=true:=by rfl):PE X (.Call (.Attribute o name apos) [] [] cpos) (tBM0 X.K T r to):=by
 intro pins s σ H Q I h;refine wpAny_Call_method0_late hbase hline (thn (ho pins s σ H _ I h) λ v s1 ⟨x,H1,I1,r1,ty,q1⟩=>?_);obtain ⟨h1,h2⟩:=zmz I1 r1 ty;exact ⟨T,id,pa,slot,hty,h1,h2,yb5 rfl (PySem.evalArgs_none (hm pins s1 σ H1 x [] v [] Q I1 r1 .nil q1))⟩
def zpJ (pa:PlainAttrs T) (slot:Slot T name id) (hty:typeOf (.builtin id)=pure (.type "method_descriptor")) (hm:MtR X id r) (ho:PE X o to) (ha:PA X (e :: es) t)
  (hbase:attributeBase o name X.env (eval o X.env)=eval o X.env:=by rfl)
  (hfew : ((backTo cpos (starEach (e :: es) X.env)).all (fun x => !x.1) && (backToKw cpos (keywordEach [] X.env)).all (fun x => x.1.isSome)
   && decide ((e :: es).length + ([]:List Keyword).length + (if ([]:List Keyword).isEmpty then 0 else 1) < 30))=true:=by rfl)
  (hline:(apos.endLine == cpos.line)=true:=by rfl) (hs:starEach (e :: es) X.env=(false,eval e X.env) :: starEach es X.env:=by rfl) (hplain:(backTo cpos (starEach es X.env)).any (·.1)=false:=by rfl) :
  PE X (.Call (.Attribute o name apos) (e :: es) [] cpos) (tBM X.K T r to t):=by
 intro pins s σ H Q I h;refine wpAny_Call_method_late hbase hfew hline rfl (thn (ho pins s σ H _ I h) λ v s1 ⟨x,H1,I1,r1,ty,q1⟩=>?_);obtain ⟨h1,h2⟩:=zmz I1 r1 ty;refine ⟨T,id,pa,slot,hty,h1,h2,?_⟩;have hA:=ha cpos pins s1 σ H1 _ I1 q1;rw [hs] at hA ⊢;refine yb5 (by show (false || (backTo cpos (starEach es X.env)).any (·.1))=false; rw [hplain] <;> rfl) (yci ?_);exact thn hA λ us s2 ⟨vs,H2,I2,r2,q2⟩=>hm pins s2 σ H2 x vs v us Q I2 r1 r2 q2
end
noncomputable def MtM (X:Cx) (id:String) (r:V -> List V -> Hp -> VK -> Prop):Prop:=
 ∀ (pins:List (Addr × Obj)) (s:Shared) (σ:St) (H:Hp) (x:V) (xs:List V) (v:Value) (us:List Value) (Q:VK),Inv X pins σ H s -> RelV x v -> Vals xs us -> r x xs H Q ->
  wpAny (model X.prog X.w) X.A (call (.builtin id) (v :: us)) (EP X pins σ Q) X.xe s
def Vals.one:∀ {x:V} {us:List Value},Vals [x] us -> ∃ u,us=[u] /\ RelV x u
 | _,_,.cons r .nil=>⟨_,rfl,r⟩
def Vals.two:∀ {x y:V} {us:List Value},Vals [x,y] us -> ∃ u v,us=[u,v] /\ RelV x u /\ RelV y v
 | _,_,_,.cons r (.cons q .nil)=>⟨_,_,rfl,r,q⟩
def Vals.zero:∀ {us:List Value},Vals [] us -> us=[]
 | _,.nil=>rfl
def Vals.dropLast {xs:List V} {us:List Value} (h:Vals xs us):Vals xs.dropLast us.dropLast:=by
 induction h with
 | nil=>exact .nil
 | cons r t ih=>
  cases t with
  | nil=>exact .nil
  | cons q t'=>exact .cons r ih
def Vals.rep {xs:List V} {us:List Value} (h:Vals xs us):∀ k:Nat,Vals (List.replicate k xs).flatten (List.replicate k us).flatten
 | 0=>.nil
 | k + 1=>by
  rw [yba,yba,ybJ,ybJ];exact Vals.append h (Vals.rep h k)
def zi2 {α:Type} (l:List α):l.eraseIdx (l.length - 1)=l.dropLast:=by
 induction l with
 | nil=>rfl
 | cons a r ih=>
  cases r with
  | nil=>rfl
  | cons b r=>
   have e:(a :: b :: r).length - 1=((b :: r).length - 1) + 1:=by
    have h1:(a :: b :: r).length=r.length + 2:=rfl;have h2:(b :: r).length=r.length + 1:=rfl;omega
   rw [e,List.eraseIdx_cons_succ,ih]
   all_goals rfl
def zej (its:List Value):∀ (k:Nat) (acc:List Value),
  List.foldl (λ x1 x2=>x1 ++ x2) acc.toArray (List.replicate k its.toArray)=(acc ++ (List.replicate k its).flatten).toArray
 | 0,acc=>by simp
 | k + 1,acc=>by
  have e:acc.toArray ++ its.toArray=(acc ++ its).toArray:=by simp
  have e2:(acc ++ its) ++ (List.replicate k its).flatten=acc ++ (List.replicate (k + 1) its).flatten:=by
   rw [yba,ybJ,yaA]
  rw [<- e2,<- zej its k (acc ++ its),<- e,yba,ycm]
section
variable {X:Cx} {pins:List (Addr × Obj)} {σ:St} {H:Hp} {s:Shared} {l b:Addr} {xs ys zs:List V}
def Inv.lset {its its':List Value} {n:Nat} {f:Array Value -> Array Value} {t':Nat} (I:Inv X pins σ H s) (hH:H l=some (.lst xs))
  (e:s.heap.get? l=some { cls:=.type "list",data:=.seq its.toArray n }) (hf:f its.toArray=its'.toArray) (hv:Vals ys its') (hz:ys.length <= sizeLine) :
  Inv X pins σ (upd H l (.lst ys)) { s with heap:=s.heap.update l (Obj.mapSeq f),toks:=t' }:=by
 have q:=PySem.IsL.update e f;rw [hf] at q;refine I.write (x:=l) (e:=l) (by rw [hH]; exact trivial) (.inl rfl) (λ b' u hb hu=>(ya9 s.heap (Obj.mapSeq f) (ybj hb)).trans hu) ⟨_,q⟩ ?_;exact ⟨hz,its',_,hv,q⟩
def Inv.lnew {its:List Value} {t':Nat} (I:Inv X pins σ H s) (hv:Vals ys its) (hz:ys.length <= sizeLine) :
  Inv X pins σ (upd H s.heap.objs.size (.lst ys)) { s with heap:=s.heap.push { cls:=.type "list",data:=.seq its.toArray },toks:=t' }:=
 I.laid (λ _ _ q=>yac _ q) (yah _) ⟨hz,its,0,hv,yal _ rfl⟩
def Inv.fresh (I:Inv X pins σ H s):H s.heap.objs.size=none:=I.hok.fresh (yah _)
def Inv.lstM (I:Inv X pins σ H s) (hH:H l=some (.lst xs)):xs.length <= sizeLine /\ ∃ (its:List Value) (n:Nat),Vals xs its /\ xs.length=its.length /\ s.heap.get? l=some { cls:=.type "list",data:=.seq its.toArray n }:=by
 obtain ⟨z,its,n,r,e⟩:=I.hok l _ hH;exact ⟨z,its,n,r,r.length,e⟩
def zlZ {n:Nat} (h:n <= sizeLine):Builtin.List.listTooLong n=false:=by
 unfold Builtin.List.listTooLong;exact decide_eq_false (1:)
end
section
variable {X:Cx}
noncomputable def zlj:V -> List V -> Hp -> VK -> Prop:=λ x vs H Q=>∃ l xs y,x=.ref l /\ vs=[y] /\ H l=some (.lst xs) /\ xs.length < sizeLine /\ Q .non (upd H l (.lst (xs ++ [y])))
def zha:MtM X "list.append" zlj:=by
 intro pins s σ H x vs v us Q I rx rv h;obtain ⟨l,xs,y,rfl,rfl,hH,hz,q⟩:=h;cases rx;obtain ⟨u,rfl,ru⟩:=rv.one;obtain ⟨z,its,n,r,hl,e⟩:=I.lstM hH;refine call_meets F.slot_list_append ⟨_,e,rfl⟩ F.entry_list_append (F.args_list_append_2 _ _) (PySem.list_append l its.toArray n u (by rw [yak]; omega)) ⟨e,?_⟩;refine ⟨.non,_,I.lset (its':=its ++ [u]) hH e (5:) (r.append (.cons ru .nil)) ?_,rfl,q⟩;rw [yaG,List.length_singleton];omega
noncomputable def rPop:V -> List V -> Hp -> VK -> Prop:=λ x vs H Q=>∃ l xs y,x=.ref l /\ vs=[] /\ H l=some (.lst xs) /\ xs[xs.length - 1]?=some y /\ Q y (upd H l (.lst xs.dropLast))
def zps:MtM X "list.pop" rPop:=by
 intro pins s σ H x vs v us Q I rx rv h;obtain ⟨l,xs,y,rfl,rfl,hH,hy,q⟩:=h;cases rx;have hus:=rv.zero;subst hus;obtain ⟨z,its,n,r,hl,e⟩:=I.lstM hH;obtain ⟨u,hu,ru⟩:=r.get hy
 have hy':its.toArray[its.toArray.size - 1]?=some u:=by
  show its.toArray[its.length - 1]?=some u;rw [<- Array.getElem?_toList,<- hl];exact hu
 refine call_meets F.slot_list_pop ⟨_,e,rfl⟩ F.entry_list_pop (F.args_list_pop_1 _) (MeetsSeq.list_pop_last l its.toArray n u hy' (by rw [yak]; omega)) ⟨e,?_⟩;refine ⟨y,_,I.lset (its':=its.dropLast) hH e ?_ r.dropLast ?_,ru,q⟩
 ·show its.toArray.eraseIdxIfInBounds (its.toArray.size - 1)=its.dropLast.toArray;rw [yak,List.eraseIdxIfInBounds_toArray,zi2]
 ·rw [List.length_dropLast];omega
noncomputable def rCat:R2:=λ x y H Q=>∃ l b xs zs,x=.ref l /\ y=.ref b /\ H l=some (.lst xs) /\ H b=some (.lst zs) /\ xs.length + zs.length <= sizeLine /\ ∀ p,H p=none -> Q (.ref p) (upd H p (.lst (xs ++ zs)))
def zoZ:OpR X (binaryOp .Add) rCat:=by
 intro pins s σ H x y v u Q I rx ry h;obtain ⟨l,b,xs,zs,rfl,rfl,hH,hB,hz,q⟩:=h;cases rx;cases ry;obtain ⟨z,its,n,r,hl,e⟩:=I.lstM hH;obtain ⟨z2,its2,n2,r2,hl2,e2⟩:=I.lstM hB;refine PySem.P.add_list e e2 ?_ (by rw [yak,yak]; omega);have ea:its.toArray ++ its2.toArray=(its ++ its2).toArray:=by simp
 rw [ea];exact ⟨.ref _,_,I.lnew (t':=s.toks) (r.append r2) (by rw [yaG]; omega),rfl,q _ I.fresh⟩
noncomputable def rRep:R2:=λ x y H Q=>∃ l k xs,x=.ref l /\ y=.int k /\ H l=some (.lst xs) /\ -(2 ^ 63) <= k /\ k < 2 ^ 63 /\ xs.length * k.toNat <= sizeLine /\
 ∀ p,H p=none -> Q (.ref p) (upd H p (.lst (List.replicate k.toNat xs).flatten))
def zkK {α:Type} (xs:List α) (k:Nat):(List.replicate k xs).flatten.length=k * xs.length:=by
 induction k with
 | zero=>simp
 | succ k ih=>rw [yba,ybJ,yaG,ih,Nat.succ_mul,Nat.add_comm]
def zpx:OpR X (binaryOp .Mult) rRep:=by
 intro pins s σ H x y v u Q I rx ry h;obtain ⟨l,k,xs,rfl,rfl,hH,h1,h2,hz,q⟩:=h;cases rx;obtain ⟨t,rfl⟩:=ry;obtain ⟨z,its,n,r,hl,e⟩:=I.lstM hH;have hlen:its.toArray.size * k.toNat <= sizeLine:=by rw [yak,<- hl]; exact hz
 have hcap:¬ its.toArray.size * k.toNat > (2 ^ 63 - 1) / 8:=by
  have:(sizeLine:Nat) <= (2 ^ 63 - 1) / 8:=by decide
  omega
 have hfit:¬ (!Builtin.List.listFitsIndex k)=true:=by
  rw [fitsIndex_both h1 h2];exact yay
 have hlong:¬ Builtin.List.listTooLong (its.toArray.size * k.toNat)=true:=by
  rw [zlZ hlen];exact yay
 have hnew:List.foldl (λ x1 x2=>x1 ++ x2) #[] (List.replicate (if its.toArray.isEmpty=true then 0 else k.toNat) its.toArray)=(List.replicate k.toNat its).flatten.toArray:=by
  have f0:∀ m:Nat,List.foldl (λ x1 x2=>x1 ++ x2) #[] (List.replicate m its.toArray)=(List.replicate m its).flatten.toArray:=λ m=>by
   have:=zej its m [];rw [List.nil_append] at this;exact this
  rw [f0];cases its with
  | nil=>simp
  | cons a r'=>rw [if_neg (5:)]
 refine wpAny_binaryOp_repeat_ref (T:="list") (U:="int") (3:) ⟨_,e,rfl⟩ (λ s'=>typeIs_int s' k t) noFill_list_mul F.fills_int_mul ycn repeat_list F.slot_int_index.lookup
  (call_meets ycn (typeIs_int s k t) F.entry_int_rmul (F.args_int_rmul_2 _ _) (int___rmul___int_list k t l its.toArray n)
   ⟨e,rfl,⟨_,e,rfl⟩,call_meets F.slot_list_mul ⟨_,e,rfl⟩ F.entry_list_mul (F.args_list_mul_2 _ _) (AutoListH.list___mul___list_int_3 l its.toArray n k t hfit hcap hlong) ⟨e,?_⟩⟩)
 rw [hnew];exact ⟨.ref _,_,I.lnew (t':=s.toks) (r.rep k.toNat) (by rw [zkK,Nat.mul_comm]; exact hz),rfl,q _ I.fresh⟩
end
section
variable {prog:Program} {w:World} {A:Around} {E:Value -> Shared -> Prop} {s:Shared}
end
section
variable {X:Cx}
end
end L2
namespace Att
open PySem PySem.W PySem.Calls PyProof.Rows
def zet {P:Params} {h:Heap}:∀ (ns:List Int) (vs:List Value),WellAll P h vs (ns.map WData.int) -> IntsAre vs ns:=by
 intro ns
 induction ns with
 | nil=>
  intro vs w;rw [List.map_nil] at w;cases w;exact .nil
 | cons n ns ih=>
  intro vs w;rw [ycv] at w;cases w with
  | cons a b=>
   cases a;exact .cons _ _ (ih _ b)
def zjA {l:OpenLaw} {n:Nat} (hn:l.most=some n) {P:Params} {h:Heap} {args:List WData} {vals:List Value}
    (hpre:l.row.toRowW.claim.pre args=true) (hwl:WellAll P h vals args) :
    ∃ a vs ns,vals=[Value.ref a] /\ args=[WData.list (ns.map WData.int)] /\ h.get? a=some { cls:=.type "list",data:=.seq vs.toArray } /\ IntsAre vs ns /\ ns.length <= n:=by
  have hsh:WShape.hasAll [] args [.list .int]=true:=(pre_splitW hpre).1;have hc:l.pre.holds [] { args:=args }=true:=(pre_splitW hpre).2;obtain ⟨d,r,rfl,h1,h2⟩:=hasAllW_cons hsh;obtain rfl:=hasAllW_nil h2;obtain ⟨xs,rfl,h3⟩:=hasW_list h1;obtain ⟨ns,rfl⟩:=items_int h3
  have hlen:ns.length <= n:=by
    unfold OpenLaw.pre at hc
    have h4:(WTm.not (.lt (.lit (.int (n:Int))) (.len (.arg 0)))).holds [] { args:=[.list (ns.map .int)] }=true:=by
      have h4:=(holds_andW hc).1;rw [hn] at h4;exact h4
    have h5:=condW_of h4 (w_not (w_lt w_lit (w_len_list (w_arg rfl))));rw [yad] at h5;refine Nat.le_of_not_lt λ q=>?_;have q':(n:Int) < ((ns.length:Nat):Int):=by omega
    first
      | (rw [decide_eq_true q'] at h5; exact absurd h5 (3:))
      | (simp at h5; omega)
  cases hwl with
  | cons w1 w2=>
    cases w2;cases w1 with
    | list ho hall=>exact ⟨_,_,ns,rfl,rfl,ho,zet ns _ hall,hlen⟩
def zk2 (l:OpenLaw) (args:List WData):l.row.toRowW.claim.post args (.bool true) args=true:=
 postW_of (r:=l.row.toRowW) (X:=(true == true))
  (show WShape.has [] (.bool true) .bool=true by first | rfl | decide | simp [WShape.has,WShape.arms,WShape.armsAll])
  (show (WTm.eq .res (.lit (.bool true))).value [] { args:=args,res:=some (.bool true),after:=args }=some (.bool (true == true)) from w_eq_bool (w_res rfl) w_lit) rfl
def attach_call {l:OpenLaw} {n:Nat} {q:Program} {loose:List Str} {XP:(Str -> Option Value) -> Heap -> Prop} {YP:World -> Heap -> Prop} {d:DefRec}
    (hn:l.most=some n) (hdf:d.params.defaults=[])
    (call:∀ (w:World) (s₀ s₁:Shared) (mg mb:Str -> Option Value) (fa:Addr) (o:Obj) (pm cd doc:Value) (a:Addr) (vs:List Value) (ns:List Int),
      Ground q loose [] XP w s₀ mg mb s₁.heap -> YP w s₁.heap ->
      s₁.heap.get? fa=some o -> o.data=.func (docDef d.name d.params d.body d.scope pm cd doc) -> s₁.heap.CodeRec cd d.name -> mg d.name=some (.ref fa) ->
      s₁.heap.get? a=some { cls:=.type "list",data:=.seq vs.toArray } -> IntsAre vs ns -> ns.length <= n -> s₁.gens=#[] ->
      codeAny (model l.prog w) callerA (.call (.ref fa) ⟨[.ref a],[]⟩) (λ r s'=>r=.ok (.ret (.bool true)) /\ OldK s₁.heap s'.heap /\ s'.os=s₁.os /\ AllBare s'.gens) s₁) :
    WalkO q loose XP YP l.row.toRowW d [] (λ f vs=>PySem.call f vs):=by
  intro w s₀ s₁ mg mb G Y fa o pm cd doc dV kV ho hd hcd hD hmg hg args vals as hpre hlay hrd hwl hlo;obtain rfl:dV=.none:=Dflts.none hD hdf;obtain rfl:kV=.none:=Dflts.noKw hD;obtain ⟨a,vs,ns,rfl,rfl,hobj,hints,hlen⟩:=zjA hn hpre hwl;refine enter_call (codeAny_mono (call w s₀ s₁ mg mb fa o pm cd doc a vs ns G Y ho (fd_plain hd) hcd hmg hobj hints hlen hg) λ r s' hq=>?_);obtain ⟨rfl,h2,h3,h4⟩:=hq;exact ⟨.inl ⟨.bool true,.bool true,[],rfl,λ _=>rfl,.bool true,zk2 l _,λ _=>⟨List.Pairwise.nil,λ _ hm=>(nomatch hm)⟩⟩,h2,h3,h4⟩
section
variable {prog:Program} {w:World} {A:Around} {E:Value -> Shared -> Prop} {s:Shared} {K:Frag}
end
end Att
namespace L2
open PySem PySem.Spec PyProof.Rows
def zhb:∀ {vs:List Value} {ns:List Int},IntsAre vs ns -> Vals (ns.map V.int) vs
 | _,_,.nil=>.nil
 | _,_,.cons n t h=>.cons ⟨t,rfl⟩ (zhb h)
noncomputable def Only (H:Hp):Prop:=∀ b,H b=none \/ ∃ o xs,H b=some (.frz o (.lst xs))
def zme {P:Program} {w:World} {K:PySem.W.Frag} {mg mb:Str -> Option Value} {CX:CXT} {k:Nat} {fa a:Addr} {fd:FuncData} {x:Str} {sp:Sp} {s₁:Shared} {vs:List Value} {ns:List Int}
    (KX:K.In s₁.heap) (hns:s₁.heap.Ns mainGlobals mg) (hb:s₁.heap.Ns builtinsNs mb) (hbb:∀ x:Str,x ≠ "__name__" -> mb x=bootBuiltins x) (hlim:s₁.heap.NoLimit) (hg:s₁.gens=#[])
    (ha:s₁.heap.get? a=some { cls:=.type "list",data:=.seq vs.toArray }) (hi:IntsAre vs ns) (hl:ns.length <= sizeLine) (hr:Room k callerA)
    (F:∀ base:Heap,K.In base -> base.Ns mainGlobals mg -> FnOk P w K mg base CX k fa fd [x] sp) (hbind:∀ (s:Shared) (u:Value),BindsTo s fd ⟨[u],[]⟩ [(x,u)])
    (hsp:∀ H:Hp,Only H -> SqL K H a (ns.map V.int) -> sp [.ref a] H (λ v _=>v=.bl true) λ _ _ _=>False)
    (hCX:∀ H e s',CX [] H s₁ (λ _ _ _=>False) e s' -> False) :
    codeAny (model P w) callerA (.call (.ref fa) ⟨[.ref a],[]⟩) (λ r s'=>r=.ok (.ret (.bool true)) /\ OldK s₁.heap s'.heap /\ s'.os=s₁.os /\ AllBare s'.gens) s₁:=by
  have rv:=zhb hi;have lenV:=hi.length
  -- from an abstract heap in which nothing but the script may be tracked
  have core:∀ H:Hp,Only H -> SqL K H a (ns.map V.int) -> HOk P w H s₁.heap -> (∀ b,H b ≠ none -> b=a) -> (H a ≠ none -> K.lookup a=none) ->
      codeAny (model P w) callerA (.call (.ref fa) ⟨[.ref a],[]⟩) (λ r s'=>r=.ok (.ret (.bool true)) /\ OldK s₁.heap s'.heap /\ s'.os=s₁.os /\ AllBare s'.gens) s₁:=by
    intro H hO hS hok hA hK;have base_of:∀ {b:Addr} {o:Obj},s₁.heap.get? b=some o -> H b=none -> (hidT s₁.heap H).get? b=some o:=λ e n=>zly e n
    have noA:∀ {b:Addr} {o:Obj} {es:Array DictEntry} {ep:Nat},s₁.heap.get? b=some o -> o.data=.dict es ep -> H b=none:=λ {b o es ep} e d=>by
      cases q:H b with
      | none=>rfl
      | some u=>
        have e':b=a:=hA b (by rw [q]; simp);subst e';rw [ha] at e; cases e;have d':Data.seq vs.toArray _=Data.dict es ep:=d;cases d'
    have nsK:∀ {b:Addr} {m:Str -> Option Value},s₁.heap.Ns b m -> (hidT s₁.heap H).Ns b m:=λ {b m} ⟨o,es,ep,e,d,r⟩=>⟨o,es,ep,base_of e (noA e d),d,r⟩
    have hKb:K.In (hidT s₁.heap H):=λ b o e=>base_of (KX b o e) (by
      cases q:H b with
      | none=>rfl
      | some u=>
        have e':b=a:=hA b (by rw [q]; simp);subst e';rw [hK (by rw [q]; simp)] at e; cases e)
    have hM:Mod K mg (hidT s₁.heap H):=⟨hKb,nsK hns,⟨mb,nsK hb,hbb⟩,let ⟨mc,h1,h2⟩:=hlim; ⟨mc,nsK h1,h2⟩⟩
    have e0:Env0 P w K mg (hidT s₁.heap H) callerA [] s₁ H:=⟨rfl,hM,λ b o e=>zm2 e,Nat.le_of_eq (zjD _ _),trivial,λ b hb=>absurd (show b ∈ ([]:List Addr) from hb) (5:),hok,.of_eq hg⟩
    refine codeAny_mono ((F _ hKb (nsK hns)).run callerA [] s₁ H ⟨[.ref a],[]⟩ [.ref a] [.ref a] _ _ hr e0 (hbind s₁ (.ref a)) (.cons rfl .nil) (hsp H hO hS)) λ r s' h=>?_;cases r with
    | error e=>exact (hCX H e s' h).elim
    | ok fl=>
      cases fl with
      | next=>exact False.elim h
      | brk=>exact False.elim h
      | cont=>exact False.elim h
      | ret u=>
        obtain ⟨v,H',os,bare,un,hok',r',q⟩:=h;have q':v=.bl true:=q;subst q';obtain rfl:u=Value.bool true:=r';refine ⟨rfl,OldK.of_keep λ b o e=>?_,os,bare⟩;cases q:H b with
        | none=>exact un.keep b o e q (by intro z; exact absurd (show b ∈ ([]:List Addr) from z) (5:)) (5:)
        | some u=>
          rcases hO b with z | ⟨ob,xs,z⟩
          · rw [q] at z; cases z
          · have z2:=un.frzs b ob _ z;obtain ⟨e1,_⟩:=hok b _ z;obtain ⟨e2,_⟩:=hok' b _ z2;rw [e] at e1; cases e1;exact e2
  cases hk:K.lookup a with
  | some o=>
    -- the script is one of the module's own objects
    have e:=KX a o hk;rw [ha] at e;cases e;refine core (λ _=>none) (λ _=>.inl rfl) (.inr ⟨_,vs.toArray,_,hk,rfl,rfl,rfl,by rw [yak,lenV]; exact hl,by simpa using rv⟩) (λ b u z=>by have z':(none:Option HO)=some u:=z; cases z') (λ b z=>absurd rfl z) λ z=>absurd rfl z
  | none=>
    refine core (λ b=>if b=a then some (.frz { cls:=.type "list",data:=.seq vs.toArray } (.lst (ns.map V.int))) else none) (λ b=>?_) (.inl (.inr ⟨{ cls:=.type "list",data:=.seq vs.toArray },if_pos rfl⟩)) (λ b u z=>?_) (λ b z=>?_) λ _=>hk
    · by_cases hb : b = a
      · exact .inr ⟨_,_,if_pos hb⟩
      · exact .inl (if_neg hb)
    · by_cases hb : b = a
      · have z':=(if_pos hb).symm.trans z;cases z';subst hb;exact ⟨ha,by rw [yad]; exact hl,vs,_,rv,ha⟩
      · have z':=(if_neg hb).symm.trans z;cases z'
    · by_cases hb : b = a
      · exact hb
      · exact absurd (if_neg hb) z
def walk_of {l:PySem.W.OpenLaw} {n k:Nat} {q:Program} {loose:List Str} {XP:(Str -> Option Value) -> Heap -> Prop} {YP:World -> Heap -> Prop} {d:DefRec} {K:Params -> PySem.W.Frag} {CX:World -> CXT} {sp:World -> Sp} {x:Str}
    (hn:l.most=some n) (hn2:n <= sizeLine) (hdf:d.params.defaults=[]) (hr:Room k callerA)
    (hY:∀ (w:World) (h:Heap),YP w h -> (K w.params).In h)
    (F:∀ (w:World) (mg:Str -> Option Value) (fa:Addr) (h:Heap),(K w.params).In h -> h.Ns mainGlobals mg -> mg d.name=some (.ref fa) ->
      ∃ fd:FuncData,(∀ (s:Shared) (u:Value),BindsTo s fd ⟨[u],[]⟩ [(x,u)]) /\
        ∀ base:Heap,(K w.params).In base -> base.Ns mainGlobals mg -> FnOk l.prog w (K w.params) mg base (CX w) k fa fd [x] (sp w))
    (hsp:∀ (w:World) (H:Hp) (a:Addr) (ns:List Int),ns.length <= n -> Only H -> SqL (K w.params) H a (ns.map V.int) -> sp w [.ref a] H (λ v _=>v=.bl true) λ _ _ _=>False)
    (hCX:∀ (w:World) (H:Hp) (s:Shared) (e:Value) (s':Shared),CX w [] H s (λ _ _ _=>False) e s' -> False) :
    PySem.W.WalkO q loose XP YP l.row.toRowW d [] (λ f vs=>PySem.call f vs):=by
  refine Att.attach_call hn hdf λ w s₀ s₁ mg mb fa o pm cd doc a vs ns G Y ho hd hcd hmg hobj hints hlen hg=>?_;have KX:=hY w _ Y;obtain ⟨fd,hb,hF⟩:=F w mg fa _ KX G.T.g hmg;exact zme KX G.T.g G.T.b G.T.builtins G.T.nolimit hg hobj hints (yaV hlen hn2) hr hF hb (λ H hO hS=>hsp w H a ns hlen hO hS) λ H e s'=>hCX w H s₁ e s'
noncomputable def zbr (s:Stmt):Arguments:=match s with
 | .FunctionDef _ a _ _ _ _ _ _ _ _=>a
 | _=>{ posonlyargs:=[],args:=[],vararg:=none,kwonlyargs:=[],kw_defaults:=[],kwarg:=none,defaults:=[] }
noncomputable def za7 (s:Stmt):List Stmt:=match s with
 | .FunctionDef _ _ b _ _ _ _ _ _ _=>b
 | _=>[]
noncomputable def zaf (s:Stmt):Scope:=match s with
 | .FunctionDef _ _ _ _ _ _ sc _ _ _=>sc
 | _=>{ kind:=.function,names:=[],isGenerator:=false,isCoroutine:=false }
noncomputable abbrev CX0:CXT:=λ _ _ _ _ _ _=>False
noncomputable abbrev E0:XK:=λ _ _ _=>False
def zp6 {X:Cx}:zli CX0 X E0:=λ _ _ _ _ _ _ _ h=>h.elim
structure Fun (K:PySem.W.Frag) (x qual:Str) (st:Stmt) (f:Addr) (fd:FuncData):Prop where
 ex:∃ (oc:Value) (od:Option Addr) (kV doc pm:Value) (an:Option Addr) (cdv ct:Value) (osl:Array (Option Value)),
  fd=PySem.W.fnOf x qual (zbr st) (za7 st) (zaf st) .none kV doc pm an cdv ct /\ K.lookup f=some ⟨oc,od,.func fd,osl⟩ /\ PySem.W.codeIn K cdv qual=true
 kp:PySem.W.keepIn K (.ref f)=true
section
variable {P:Program} {w:World} {K:PySem.W.Frag} {mg:Str -> Option Value} {base:Heap}
def Fun.ok {x qual:Str} {st:Stmt} {f:Addr} {fd:FuncData} {N ps:List Str} {k:Nat} {sp:Sp} (F:Fun K x qual st f fd) (S:FnScope N ps (zaf st)) (len:∀ vs H Q E,sp vs H Q E -> vs.length=ps.length)
  (hbody : ∀ (cdv : Value) (A : Around) (outer : List Env) (s : Shared) (H : Hp) (vs : List V) (Q : VK) (E : XK), Room k (A.deeper (envOfC qual (zaf st) s.heap.objs.size f cdv)) -> sp vs H Q E ->
   ∃ t,PSs (cxOf CX0 P w K mg base N qual (zaf st) f cdv A outer s H E).nox (za7 st) t /\ t { nx:=λ _ H'=>Q .non H',rt:=Q } (zdG N vs) H):FnOk P w K mg base CX0 (k + 1) f fd ps sp:=by
 obtain ⟨oc,od,kV,doc,pm,an,cdv,ct,osl,rfl,lk,hcd⟩:=F.ex;refine zpm lk hcd S len λ A outer s H vs Q E hr hsp=>?_;obtain ⟨t,h,q⟩:=hbody cdv A outer s H vs Q E hr hsp;exact ⟨t,h.nox,q⟩
def Fun.binds {x qual:Str} {st:Stmt} {f:Addr} {fd:FuncData} {ps:List Str} (F:Fun K x qual st f fd)
  (h:∀ (kV doc pm:Value) (an:Option Addr) (cdv ct:Value) (us:List Value),us.length=ps.length -> bindArgs (PySem.W.fnOf x qual (zbr st) (za7 st) (zaf st) .none kV doc pm an cdv ct) ⟨us,[]⟩=pure (ps.zip us)):zdj K fd ps []:=by
 obtain ⟨oc,od,kV,doc,pm,an,cdv,ct,osl,rfl,lk,hcd⟩:=F.ex;exact .all (h kV doc pm an cdv ct)
def zir {x qual:Str} {st:Stmt} {f:Addr} {oc:Value} {od an:Option Addr} {osl:Array (Option Value)} {kV doc pm cdv ct:Value} (l:K.lookup f=some ⟨oc,od,.func (PySem.W.fnOf x qual (zbr st) (za7 st) (zaf st) .none kV doc pm an cdv ct),osl⟩)
  (c:PySem.W.codeIn K cdv qual=true) (k:PySem.W.keepIn K (.ref f)=true):Fun K x qual st f (PySem.W.fnOf x qual (zbr st) (za7 st) (zaf st) .none kV doc pm an cdv ct):=⟨⟨oc,od,kV,doc,pm,an,cdv,ct,osl,rfl,l,c⟩,k⟩
end
section
variable {X:Cx}
def pv (i:Nat) {x:Str} {pos:Pos} (hN:X.N[i]?=some x:=by rfl) (hv:Vis X.env.scope x:=by first | exact Or.inl rfl | exact Or.inr (Or.inl rfl) | exact Or.inr (Or.inr rfl)) (hd:(x == ("__debug__":Str))=false:=by decide)
  (hcd:(x == ("__classdict__":Str))=false:=by decide):PE X (.Name x pos) (tVar i):=zpo hN hv hd hcd
end
def iteF {A B:Prop} (h:B):if false=true then A else B:=by
 rw [if_neg yay];exact h
def iteT {A B:Prop} (h:A):if true=true then A else B:=by
 rw [if_pos rfl];exact h
def ite2 {c A B:Prop} [Decidable c] (h1:c -> A) (h2:¬ c -> B):if c then A else B:=by
 by_cases h:c
 ·rw [if_pos h];exact h1 h
 ·rw [if_neg h];exact h2 h
noncomputable def Same (H H':Hp):Prop:=∀ b o,H b=some o -> H' b=some o
def Same.refl (H:Hp):Same H H:=λ _ _ h=>h
def Same.trans {H H1 H2:Hp} (a:Same H H1) (b:Same H1 H2):Same H H2:=λ c o h=>b c o (a c o h)
def Same.free {H H':Hp} (e:Same H H') {l:Addr} (h:H' l=Option.none):H l=Option.none:=by
 cases q:H l with
 | none=>rfl
 | some o=>
  rw [e l o q] at h;cases h
def Same.seq {K:PySem.W.Frag} {H H':Hp} {a:Addr} {xs:List V} (e:Same H H') (h:SqL K H a xs):SqL K H' a xs:=by
 rcases h with (h | ⟨o,h⟩) | h
 ·exact .inl (.inl (e _ _ h))
 ·exact .inl (.inr ⟨o,e _ _ h⟩)
 ·exact .inr h
noncomputable def zbA (cells:List (Str × Addr)):List (Str × NameKind) -> List (Str × Addr) -> List (Str × Addr)
 | [],cs=>cs
 | (n,k) :: r,cs=>if k == .free then (match cells.lookup n with | some a=>zbA cells r ((n,a) :: cs) | none=>zbA cells r cs) else zbA cells r cs
noncomputable abbrev clOf (env:Env) (scope:Scope):List (Str × Addr):=zbA env.cells scope.names []
def zgd {env:Env}:∀ (names:List (Str × NameKind)) (cs:List (Str × Addr)),(∀ p ∈ names,p.2=.free -> ∃ c,env.cells.lookup p.1=some c) ->
    (forIn names cs λ x r=>(if (x.2 == NameKind.free)=true then (do let a <- cellOf env x.1; pure (ForInStep.yield ((x.1,a) :: r))) else pure (ForInStep.yield r)):Sem (List (Str × Addr)))=pure (zbA env.cells names cs)
  | [],cs,_=>by simp [zbA]
  | (n,k) :: r,cs,h=>by
    have hr:∀ p ∈ r,p.2=.free -> ∃ c,env.cells.lookup p.1=some c:=λ p hp=>h p (yav _ hp);rw [List.forIn_cons];by_cases hk:k=.free
    · subst hk;obtain ⟨c,e⟩:=h (n,.free) yaF rfl;have ih:=zgd r ((n,c) :: cs) hr;simp only [beq_self_eq_true,if_true,cellOf,e,pure_bind,zbA];exact ih
    · have hb : (k == NameKind.free) = false := by simpa using hk
      have ih:=zgd r cs hr;simp only [hb,yaH,if_false,pure_bind,zbA];exact ih
def zdd {scope:Scope} {env:Env} (h:∀ p ∈ scope.names,p.2=.free -> ∃ c,env.cells.lookup p.1=some c):closureFor scope env=pure (clOf env scope):=by
 have e:=zgd (env:=env) scope.names [] h;unfold closureFor;simp only [bind_pure];exact e
def zct {cells:List (Str × Addr)}:∀ (names:List (Str × NameKind)) (cs:List (Str × Addr)),(∀ p ∈ cs,cells.lookup p.1=some p.2) -> ∀ p ∈ zbA cells names cs,cells.lookup p.1=some p.2
 | [],_,h=>h
 | (n,k) :: r,cs,h=>by
  unfold zbA
  split
  ·cases e : cells.lookup n with
   | none=>exact zct r cs h
   | some a=>
    refine zct r _ λ p hp=>?_;rcases yao.mp hp with rfl | hp
    ·exact e
    ·exact h p hp
  ·exact zct r cs h
def zcB {cells:List (Str × Addr)} {x:Str}:∀ (names:List (Str × NameKind)) (cs:List (Str × Addr)),(cs.lookup x).isSome=true -> ((zbA cells names cs).lookup x).isSome=true
 | [],_,h=>h
 | (n,k) :: r,cs,h=>by
  unfold zbA
  split
  ·cases e : cells.lookup n with
   | none=>exact zcB r cs h
   | some a=>
    refine zcB r _ ?_;rw [ya1]
    split
    ·rfl
    ·exact h
  ·exact zcB r cs h
def zcw {cells:List (Str × Addr)} {x:Str} {c:Addr} (e:cells.lookup x=some c):∀ (names:List (Str × NameKind)) (cs:List (Str × Addr)),(x,NameKind.free) ∈ names -> ((zbA cells names cs).lookup x).isSome=true
 | [],_,h=>nomatch h
 | (n,k) :: r,cs,h=>by
  unfold zbA;rcases yao.mp h with h | h
  ·cases h;rw [if_pos (0:),e];exact zcB r _ (5:)
  ·split
   ·cases e' : cells.lookup n with
    | none=>exact zcw e r cs h
    | some a=>exact zcw e r _ h
   ·exact zcw e r cs h
def zaI {env:Env} {scope:Scope} {x:Str} {c:Addr} (h:(clOf env scope).lookup x=some c):env.cells.lookup x=some c:=
 zct scope.names [] (λ _ z=>nomatch z) (x,c) (ya2 h)
def zd7 {env:Env} {scope:Scope} {x:Str} {c:Addr} (e:env.cells.lookup x=some c) (h:(x,NameKind.free) ∈ scope.names):(clOf env scope).lookup x=some c:=by
 obtain ⟨d,q⟩:=Option.isSome_iff_exists.mp (zcw e scope.names [] h);have:=zaI (scope:=scope) q;rw [e] at this;cases this;exact q
def zaX {env:Env}:∀ {names:List (Str × NameKind)} {x:Str},names.lookup x=some .free ->
    (names.map λ (n,k)=>if (k == NameKind.free && env.scope.kind == .function && env.kindOf n == some .cell) then (n,NameKind.cell) else (n,k)).lookup x=some .cell \/
    (names.map λ (n,k)=>if (k == NameKind.free && env.scope.kind == .function && env.kindOf n == some .cell) then (n,NameKind.cell) else (n,k)).lookup x=some .free
  | [],_,h=>by simp at h
  | (n,k) :: r,x,h=>by
    have ih:=@zaX env r x;show List.lookup x ((if (k == NameKind.free && env.scope.kind == .function && env.kindOf n == some .cell)=true then (n,NameKind.cell) else (n,k)) :: _)=_ \/ List.lookup x ((if (k == NameKind.free && env.scope.kind == .function && env.kindOf n == some .cell)=true then (n,NameKind.cell) else (n,k)) :: _)=_;cases hx:x == n with
    | true=>
      simp only [ya1,hx] at h;cases h;by_cases hc:(NameKind.free == NameKind.free && env.scope.kind == .function && env.kindOf n == some .cell)=true
      · rw [if_pos hc]; simp [ya1,hx]
      · rw [if_neg hc]; simp [ya1,hx]
    | false=>
      simp only [ya1,hx] at h;by_cases hc:(k == NameKind.free && env.scope.kind == .function && env.kindOf n == some .cell)=true
      · rw [if_pos hc]; simp only [ya1,hx]; exact ih h
      · rw [if_neg hc]; simp only [ya1,hx]; exact ih h
def zaW {env:Env}:∀ {names:List (Str × NameKind)} {x:Str},(∀ y ∈ names,y.2 ≠ .cell) ->
    ((names.map λ (n,k)=>if (k == NameKind.free && env.scope.kind == .function && env.kindOf n == some .cell) then (n,NameKind.cell) else (n,k)).lookup x=some .cell \/
    (names.map λ (n,k)=>if (k == NameKind.free && env.scope.kind == .function && env.kindOf n == some .cell) then (n,NameKind.cell) else (n,k)).lookup x=some .free) -> (x,NameKind.free) ∈ names
  | [],_,_,h=>by simp at h
  | (n,k) :: r,x,hc,h=>by
    have ih:=@zaW env r x λ y hy=>hc y (yav _ hy);have hk:k ≠ .cell:=hc (n,k) yaF
    have h':List.lookup x ((if (k == NameKind.free && env.scope.kind == .function && env.kindOf n == some .cell)=true then (n,NameKind.cell) else (n,k)) :: (r.map λ (n,k)=>if (k == NameKind.free && env.scope.kind == .function && env.kindOf n == some .cell) then (n,NameKind.cell) else (n,k)))=some .cell \/
      List.lookup x ((if (k == NameKind.free && env.scope.kind == .function && env.kindOf n == some .cell)=true then (n,NameKind.cell) else (n,k)) :: (r.map λ (n,k)=>if (k == NameKind.free && env.scope.kind == .function && env.kindOf n == some .cell) then (n,NameKind.cell) else (n,k)))=some .free:=h
    by_cases hq:(k == NameKind.free && env.scope.kind == .function && env.kindOf n == some .cell)=true
    · rw [if_pos hq] at h'
      have hf:k=.free:=by
        have:=hq;simp only [yai] at this;simpa using this.1.1
      cases hx:x == n with
      | true=>
        have:x=n:=by simpa using hx
        subst this;rw [hf];exact yaF
      | false=>
        simp only [ya1,hx] at h';exact yav _ (ih h')
    · rw [if_neg hq] at h';cases hx : x == n with
      | true=>
        simp only [ya1,hx,Option.some.injEq] at h';have:x=n:=by simpa using hx
        subst this;rcases h' with z | z
        · exact absurd z hk
        · rw [z]; exact yaF
      | false=>
        simp only [ya1,hx] at h';exact yav _ (ih h')
noncomputable def zhc (N:List Str) (sc scope:Scope):List Str -> List (Option Nat) -> Bool
 | [],[]=>true
 | _ :: N',none :: src=>zhc N sc scope N' src
 | x :: N',some j :: src=>decide (N[j]?=some x) && (decide (sc.names.lookup x=some .cell) || decide (sc.names.lookup x=some .free)) && decide (scope.names.lookup x=some .free) && zhc N sc scope N' src
 | _,_=>false
noncomputable def zh9 (N:List Str) (sc scope:Scope) (N':List Str) (src:List (Option Nat)):Bool:=
 scope.names.all (λ y=>decide (y.2 ≠ .cell)) && decide (scope.kind=.function) && scope.names.all (λ y=>decide (y.2=.local -> scope.names.lookup y.1=some .local)) &&
 scope.names.all (λ y=>decide (y.2=.free -> sc.names.lookup y.1=some .cell \/ sc.names.lookup y.1=some .free)) && decide (src.length=N'.length) && zhc N sc scope N' src
structure CompOk (N:List Str) (sc scope:Scope) (N':List Str) (src:List (Option Nat)):Prop where
 cell:∀ y ∈ scope.names,y.2 ≠ .cell
 kind:scope.kind=.function
 names:∀ y ∈ scope.names,y.2=.local -> scope.names.lookup y.1=some .local
 free:∀ y ∈ scope.names,y.2=.free -> sc.names.lookup y.1=some .cell \/ sc.names.lookup y.1=some .free
 len:src.length=N'.length
 cap:∀ (i j:Nat) (x:Str),src[i]?=some (some j) -> N'[i]?=some x -> N[j]?=some x /\ (sc.names.lookup x=some .cell \/ sc.names.lookup x=some .free) /\ scope.names.lookup x=some .free
def zgg {N:List Str} {sc scope:Scope}:∀ {N':List Str} {src:List (Option Nat)},zhc N sc scope N' src=true -> ∀ (i j:Nat) (x:Str),src[i]?=some (some j) -> N'[i]?=some x ->
    N[j]?=some x /\ (sc.names.lookup x=some .cell \/ sc.names.lookup x=some .free) /\ scope.names.lookup x=some .free
  | [],[],_,i,j,x,h,_=>by simp at h
  | [],_ :: _,h,_,_,_,_,_=>by simp [zhc] at h
  | _ :: _,[],h,_,_,_,_,_=>by simp [zhc] at h
  | y :: N',none :: src,h,i,j,x,h1,h2=>by
    cases i with
    | zero=>simp at h1
    | succ i=>exact zgg (N':=N') (src:=src) (by simpa [zhc] using h) i j x (by simpa using h1) (by simpa using h2)
  | y :: N',some k :: src,h,i,j,x,h1,h2=>by
    simp only [zhc,yai,Bool.or_eq_true,decide_eq_true_eq] at h;cases i with
    | zero=>
      simp at h1 h2;subst h1 h2;exact ⟨h.1.1.1,h.1.1.2,h.1.2⟩
    | succ i=>exact zgg (N':=N') (src:=src) h.2 i j x (by simpa using h1) (by simpa using h2)
def zg8 {N:List Str} {sc scope:Scope} {N':List Str} {src:List (Option Nat)} (h:zh9 N sc scope N' src=true):CompOk N sc scope N' src:=by
 simp only [zh9,yai,List.all_eq_true,decide_eq_true_eq] at h;exact ⟨h.1.1.1.1.1,h.1.1.1.1.2,h.1.1.1.2,h.1.1.2,h.1.2,zgg h.2⟩
noncomputable def zar (X:Cx) (scope:Scope) (N':List Str) (C:Addr) (s:Shared) (H:Hp) (fp:List Addr):Cx where
 prog:=X.prog
 w:=X.w
 K:=X.K
 mg:=X.mg
 base:=X.base
 A:=X.A
 N:=N'
 s₀:=s
 H₀:=H
 env:=compEnvC scope (clOf X.env scope) C X.env
 outer:=X.stack
 stack:=X.stack
 ex:=fp
 fn:=λ _=>false
 calm:=X.calm
 pn:=[]
 xe:=λ _ _=>False
noncomputable def capt (src:List (Option Nat)) (σ:St):St:=src.map λ o=>o.bind λ j=>(σ[j]?).getD none
noncomputable def Ext (σ σ':St):Prop:=σ.length=σ'.length /\ ∀ (i:Nat) v,σ[i]?=some (some v) -> σ'[i]?=some (some v)
noncomputable def PTs (X:Cx) (ifs:List Expr) (t:TT):Prop:=
 ∀ (pins:List (Addr × Obj)) (s:Shared) (σ:St) (H:Hp) (Q:Bool -> Hp -> Prop),Inv X pins σ H s -> t σ H Q ->
  wpAny (model X.prog X.w) X.A (forIn ifs true λ c r=>if r=true then do let ok <- isTrue c X.env (eval c X.env); pure (ForInStep.yield ok) else pure (ForInStep.yield r)) (TP X pins σ Q) X.xe s
noncomputable def zoT:TT:=λ _ H Q=>Q true H
def zch {X:Cx}:PTs X [] zoT:=λ _ _ _ H _ I h=>wpAny_tests_nil ⟨H,I,h⟩
def zfU {X:Cx} {c:Expr} {t:TT} (h:PT X c t):PTs X [c] t:=λ pins s σ H Q I hw=>wpAny_tests_one (h pins s σ H Q I hw)
noncomputable def zcl (J:It) (src:List (Option Nat)) (σ:St) (g:TG) (tc:TT) (te:TE) (Q:VK) (H1:Hp):Prop:=
 ∃ W:Nat -> Nat -> List V -> Hp -> Prop,(∃ m,W 0 m [] H1) /\ ∀ i m acc H,W i m acc H -> acc.length <= sizeLine /\
  ((J.stop i H /\ ∀ p,H p=none -> Q (.ref p) (upd H p (.lst acc))) \/
  (J.go i H /\ ∃ (N1 : V -> Hp -> Prop) (N2 : Hp -> Prop), (∀ y H4, N1 y H4 -> ∃ m', m' < m /\ W (i + 1) m' (acc ++ [y]) H4) /\ (∀ H3, N2 H3 -> ∃ m', m' < m /\ W (i + 1) m' acc H3) /\
   ∀ x H',J.yld i H x H' -> g x (capt src σ) H' λ σ2 H2=>Ext (capt src σ) σ2 /\ tc σ2 H2 λ b H3=>if b=true then te σ2 H3 N1 else N2 H3))
noncomputable def znn (src:List (Option Nat)) (wi:TI) (g:TG) (tc:TT) (te:TE):TE:=λ σ H Q=>wi σ H λ J H1=>zcl J src σ g tc te Q H1
section
variable {prog:Program} {w:World} {A:Around} {R:Result -> Shared -> Prop} {s:Shared}
def zgH {elt target iter:Expr} {ifs:List Expr} {scope:Scope} {pos:Pos} {it acc:Value} {env:Env} (I:Nat -> Shared -> Prop)
  (turn : ∀ n s, I n s -> wpAny (model prog w) A (pyNext it) (fun r s₁ => match r with
   | none=>R (.ok .next) s₁
   | some v=>wpAny (model prog w) A (letOwnedTupleGo target it v) (λ _ s₁'=>wpAny (model prog w) A (assign target env v) (λ _ s₂=>
     wpAny (model prog w) A (forIn ifs true λ c r=>if r=true then do let ok <- isTrue c env (eval c env); pure (ForInStep.yield ok) else pure (ForInStep.yield r)) (λ ok s₃=>
      if ok=true then wpAny (model prog w) A (eval elt env) (λ x s₄=>
       wpAny (model prog w) A (call (.builtin "list.append") [acc,x]) (λ _ s₅=>∃ m,m < n /\ I m s₅) (λ _ _=>False) s₄) (λ _ _=>False) s₃
      else ∃ m,m < n /\ I m s₃) (λ _ _=>False) s₂) (λ _ _=>False) s₁') (λ _ _=>False) s₁) (λ _ _=>False) s)
  (n:Nat) (h:I n s) :
  codeAny (model prog w) A (.compLoop (.ListComp elt [⟨target,iter,ifs,0⟩] scope pos) 0 it acc env) R s:=by
 refine codeAny_loop rfl I (λ n s hI=>?_) n h;show wpAny _ A ((compTurn (.ListComp elt [⟨target,iter,ifs,0⟩] scope pos) 0 it acc env).onRaise (λ x=>do noteFrame x env; theTreesLotGoes x)) _ _ s;refine wpAny_noted ?_;rw [compTurn_list];refine wpAny_bind (wpAny_standAt (wpAny_bind (wpAny_mono (turn n s hI) (λ r s₁ h₁=>?_) λ _ _ h'=>False.elim h')));cases r with
 | none=>exact wpAny_pure h₁
 | some v=>
  refine wpAny_bind (wpAny_mono h₁ (λ _ s₁' h₁'=>?_) λ _ _ h'=>False.elim h');refine wpAny_bind (wpAny_mono h₁' (λ _ s₂ h₂=>wpAny_bind (wpAny_mono h₂ (λ ok s₃ h₃=>?_) λ _ _ h'=>False.elim h')) λ _ _ h'=>False.elim h');cases ok with
  | false=>exact wpAny_pure ⟨rfl,h₃⟩
  | true=>
   exact wpAny_bind (wpAny_bind (wpAny_mono h₃ (λ x s₄ h₄=>wpAny_bind (wpAny_mono h₄ (λ _ s₅ h₅=>wpAny_pure (wpAny_pure ⟨rfl,h₅⟩)) λ _ _ h'=>False.elim h')) λ _ _ h'=>False.elim h'))
end
section
variable {X:Cx} {tg iter elt:Expr} {ifs:List Expr} {scope sc:Scope} {pos:Pos} {N N':List Str} {src:List (Option Nat)} {wi:TI} {g:TG} {tc:TT} {te:TE}
def Inv.lst_made {pins:List (Addr × Obj)} {σ:St} {H:Hp} {h:Heap} {D:Addr} {acc:List V} {its:List Value} (P:Program) (w:World) (hok:HOk P w H h) (hn:H D=none) (hz:acc.length <= sizeLine) (r:Vals acc its) (e:h.PlainList D its.toArray) :
  HOk P w (upd H D (.lst acc)) h:=λ b u q=>by
 by_cases hb:b=D
 ·subst hb;rw [zai] at q;cases q;obtain ⟨n,e⟩:=e;exact ⟨hz,its,n,r,e⟩
 ·rw [zal hb] at q;exact (hok b u q).stay (λ c v _ q=>q) (λ c q=>by rw [zal (zaq q hn)]; exact q) λ c xs q=>by rw [zal (zaq q hn)]; exact q
def zjC (hc:X.calm=true) (hN:X.N=N) (hsc:X.env.scope=sc) (ok:CompOk N sc scope N' src)
    (hg:∀ C s H fp,PG (zar X scope N' C s H fp) tg g) (ht:∀ C s H fp,PTs (zar X scope N' C s H fp) ifs tc) (he:∀ C s H fp,PE (zar X scope N' C s H fp) elt te)
    {pins:List (Addr × Obj)} {σ:St} {H2:Hp} {s₂:Shared} {J:It} {it:Addr} {fp:List Addr} {tn:Nat -> Heap -> Prop} (I2:Inv X pins σ H2 s₂) (T:Turn X.prog X.w X.K tg J fp it tn) (st2:tn 0 s₂.heap) (f2:∀ b ∈ fp,FpOk X pins H2 b)
    {Q:VK} (hw:zcl J src σ g tc te Q H2) {E:Value -> Shared -> Prop} {RR:Value -> Addr -> Result -> Shared -> Prop}
    (fin:∀ D C s' acc H' oC m,Inv X pins σ (upd H' D (.lst acc)) s' -> Q (.ref D) (upd H' D (.lst acc)) -> s'.heap.get? C=some oC -> s'.heap.Ns C m -> (∀ v,oC.data ≠ .cell v) -> FpOk X pins (upd H' D (.lst acc)) C -> RR (.ref D) C (.ok .next) s') :
    wpAny (model X.prog X.w) X.A (newList []) (λ acc s₃=>wpAny (model X.prog X.w) X.A (newFunctionEnv scope X.env.globals (clOf X.env scope) [] X.env.qual none .none (some X.env)) (λ cenv s₄=>
      codeAny (model X.prog X.w) X.A (.compStart (.ListComp elt [⟨tg,iter,ifs,0⟩] scope pos) 0 (.ref it) acc { cenv with scope:=relabel scope X.env }) (RR acc cenv.locals) s₄) E s₃) E s₂:=by
  subst hN hsc;refine wpAny_newObj_type (wpAny_newFunctionEnv ok.cell (by intro y hy; simp at hy) (λ h₁ hns₁ hsb₁=>?_) ok.kind);dsimp only at hns₁ hsb₁ ⊢;generalize hHp:s₂.heap.push { cls:=.type "list",dict:=none,data:=.seq ([]:List Value).toArray }=Hp2 at hns₁ hsb₁ ⊢;have hC:Hp2.objs.size=s₂.heap.objs.size + 1:=by rw [<- hHp,ybh]
  have hDC:s₂.heap.objs.size ≠ Hp2.objs.size:=by rw [hC]; exact yap (Nat.lt_succ_self _)
  have hCle:s₂.heap.objs.size <= Hp2.objs.size:=by rw [hC]; exact Nat.le_succ _
  have below:∀ b,b < s₂.heap.objs.size -> b ≠ Hp2.objs.size /\ b ≠ s₂.heap.objs.size:=λ b hb=>⟨by rw [hC]; exact yap (Nat.lt_succ_of_lt hb),yap hb⟩
  have old:∀ b o,s₂.heap.get? b=some o -> h₁.get? b=some o:=λ b o e=>hsb₁.extBut b o (below b (yae e)).1 (yac _ (hHp ▸ yac _ e));have hacc:h₁.PlainList s₂.heap.objs.size #[]:=⟨_,hsb₁.extBut _ _ hDC (yac _ (hHp ▸ yal _ rfl))⟩
  have hst₁:tn 0 h₁:=T.keep _ _ _ st2 λ b _ o e=>old b o e
  have fpl:∀ b ∈ fp,b < s₂.heap.objs.size:=λ b hb=>by
    obtain ⟨o,e,_⟩:=T.obj 0 _ st2 b hb;exact yae e
  generalize hCd:Hp2.objs.size=C at hns₁ hsb₁ hC hDC hCle below ⊢;generalize hDd:s₂.heap.objs.size=D at hC hDC hCle below hacc fpl ⊢;have freshH:∀ a,D <= a -> H2 a=none:=λ a ha=>I2.hok.fresh (by rw [hDd]; exact ha)
  have cellLt:∀ x c,X.env.cells.lookup x=some c -> c < D:=λ x c e=>by
    obtain ⟨v,o,ho,_⟩:=I2.cell x c e;rw [<- hDd];exact yae ho
  -- the block's context is right
  have oky:(zar X scope N' C s₂ H2 fp).Ok:=by
    refine ⟨I2.ok.mod,?_,I2.ok.glob,I2.ok.blt,?_,λ x y c h1 h2=>I2.ok.inj x y c (zaI h1) (zaI h2),λ x hx=>?_,λ x c z=>absurd z (44:),I2.ok.hd,I2.ok.frames,.inl rfl,λ b hb=>?_,I2.bs,yaV I2.ok.bsz I2.sz,λ b o e hb=>?_,λ b hb z=>?_,I2.stack,I2.stkFree⟩
    · exact ok.kind
    · show s₂.heap.objs.size <= C;rw [hDd]; exact hCle
    · have hm:=zaW (env:=X.env) (x:=x) ok.cell hx;obtain ⟨c,e⟩:=I2.ok.has x (ok.free _ hm rfl);exact ⟨c,zd7 e hm⟩
    · exact ⟨(below b (fpl b hb)).1,λ x c e=>(f2 b hb).2.2.2.2.1 x c (zaI e)⟩
    · have q := I2.ok.bs b o e;rcases (f2 b hb).2.2.2.1 with z | z
      · exact I2.ok.noex b o e z
      · exact absurd (yaf (yae q.1) z) (yaJ _)
    · rcases yao.mp (I2.stkSub b z) with e | e
      · exact (f2 b hb).2.1 e
      · exact (f2 b hb).2.2.1 e
  have stkLt:∀ b ∈ frs X.stack,b < D:=λ b hb=>by
    obtain ⟨_,o,ho,_⟩:=I2.stack.mem hb;rw [<- hDd];exact yae ho
  have fpo:∀ {H':Hp} {pl:List (Addr × Obj)},(∀ b ∈ fp,H' b=none) -> (∀ p ∈ pl,p.1 ∉ fp) -> ∀ b ∈ fp,FpOk (zar X scope N' C s₂ H2 fp) pl H' b:=λ {H' pl} hn hp b hb=>
    ⟨hn b hb,(below b (fpl b hb)).1,λ z=>(oky.exfs b hb) z,.inl hb,λ x c e=>(f2 b hb).2.2.2.2.1 x c (zaI e),λ p hp' z=>by
      have hp':p ∈ pl:=by simpa [zar] using hp'
      exact hp p hp' (by rw [z]; exact hb)⟩
  have Dfp:D ∉ fp:=λ z=>yaJ _ (fpl D z)
  -- the zdG
  have Iy:∀ tk,Inv (zar X scope N' C s₂ H2 fp) [] (capt src σ) H2 { s₂ with heap:=h₁,toks:=tk }:=λ tk=>by
    refine ⟨oky,rfl,I2.bare,Un.kept old,⟨_,hns₁,λ i x v h1 h2 _=>?_⟩,λ x c e=>?_,freshH _ hCle,λ x c e=>I2.freeC x c (zaI e),λ p hp=>absurd hp (44:),I2.hok.kept old,?_⟩
    · have h2:(src[i]?).map (λ o=>o.bind λ j=>(σ[j]?).getD none)=some (some v):=by
        rw [<- h2]; simp [capt]
      cases e:src[i]? with
      | none=>rw [e] at h2; cases h2
      | some o=>
        rw [e] at h2;cases o with
        | none=>cases h2
        | some j=>
          have h2:(σ[j]?).getD none=some v:=Option.some.inj h2
          have h3:σ[j]?=some (some v):=by
            cases q:σ[j]? with
            | none=>rw [q] at h2; cases h2
            | some y=>rw [q] at h2; cases h2; rfl
          obtain ⟨a1,a2,a3⟩:=ok.cap i j x e h1;obtain ⟨m,hn,hl⟩:=I2.loc;obtain ⟨u,ru,lu⟩:=hl j x v a1 h3 (.inr a2);refine ⟨u,ru,?_⟩;rcases lu with ⟨k,_⟩ | ⟨k,c,ec,hcell⟩
          · have k:X.env.scope.names.lookup x=some .local:=k;rcases a2 with z | z <;> rw [k] at z <;> cases z
          · refine .inr ⟨zaX a3,c,zd7 ec (ya2 a3),?_⟩;obtain ⟨o,ho,hd⟩:=hcell;exact ⟨o,old c o ho,hd⟩
    · obtain ⟨v,o,ho,hd⟩:=I2.cell x c (zaI e);exact ⟨v,o,old c o ho,hd⟩
    · show (capt src σ).length=N'.length;rw [capt,yad]; exact ok.len
  obtain ⟨W,⟨m0,w0⟩,turn⟩:=hw
  have loop:∀ tk,codeAny (model X.prog X.w) X.A (.compLoop (.ListComp elt [⟨tg,iter,ifs,0⟩] scope pos) 0 (.ref it) (.ref D) (compEnvC scope (clOf X.env scope) C X.env)) (RR (.ref D) C) { s₂ with heap:=h₁,toks:=tk }:=by
    intro tk
    refine zgH (λ n s'=>∃ i H' acc its,Inv (zar X scope N' C s₂ H2 fp) [] (capt src σ) H' s' /\ tn i s'.heap /\ (∀ b ∈ fp,H' b=none) /\ H' D=none /\ s'.heap.PlainList D (List.toArray its) /\ Vals acc its /\ W i n acc H') ?_ m0
      ⟨0,H2,[],[],Iy tk,hst₁,λ b hb=>(f2 b hb).1,freshH _ (yah _),hacc,.nil,w0⟩
    rintro n s3 ⟨i,H3,acc,its,I3,st3,fr3,hD3,pl3,v3,w3⟩;obtain ⟨hz,turn⟩:=turn i n acc H3 w3;obtain ⟨nD,eD⟩:=pl3;have Dfs:D ∉ frs X.stack:=λ z=>yaJ _ (stkLt D z)
    have I3D:Inv (zar X scope N' C s₂ H2 fp) [(D,{ cls:=.type "list",data:=.seq its.toArray nD })] (capt src σ) H3 s3:=I3.pins_of λ p hp=>by
      have hp:p=(D,{ cls:=.type "list",data:=.seq its.toArray nD }):=by simpa [zar] using hp
      subst hp;exact ⟨eD,hD3,hDC,Dfs,λ v z=>nomatch z⟩
    have pD:∀ p ∈ [(D,({ cls:=.type "list",data:=.seq its.toArray nD }:Obj))],p.1 ∉ fp:=λ p hp=>by
      have hp:p=(D,{ cls:=.type "list",data:=.seq its.toArray nD }):=by simpa using hp
      subst hp;exact Dfp
    rcases turn with ⟨stop,qn⟩ | ⟨go,N1,N2,hN1,hN2,step⟩
    · refine thn (T.done (zar X scope N' C s₂ H2 fp) rfl rfl rfl hc i _ s3 _ H3 _ I3D (fpo fr3 pD) st3 stop) fun r s4 ⟨hr, I4⟩ => ?_;subst hr;obtain ⟨eD4, hD4, _⟩ := I4.pin (D, { cls := .type "list", data := .seq its.toArray nD }) (44:);have hok4 : HOk X.prog X.w (upd H3 D (.lst acc)) s4.heap := Inv.lst_made (pins := []) (σ := []) _ _ I4.hok hD3 hz v3 ⟨nD, eD4⟩
      have un:Un (frs X.stack) fp H2 (upd H3 D (.lst acc)) s₂.heap s4.heap:=by
        have u:Un (frs X.stack) fp H2 H3 s₂.heap s4.heap:=I4.base;have ne:∀ b o,s₂.heap.get? b=some o -> b ≠ D:=λ b o e=>yap (hDd ▸ yae e);refine ⟨u.keep,u.slot,λ b o e n hx=>?_,u.there,λ b xs e=>?_,λ b o x e=>?_,λ b ps e=>?_⟩
        · rw [zal (ne b o e)]; exact u.free b o e n hx
        · have q:=u.tups b xs e;rw [zal (zaq q hD3)]; exact q
        · have q:=u.frzs b o x e;rw [zal (zaq q hD3)]; exact q
        · obtain ⟨more,q⟩:=u.tbls b ps e;exact ⟨more,by rw [zal (zaq q hD3)]; exact q⟩
      have chk:∀ b ∈ fp,(b ∈ X.ex \/ X.s₀.heap.objs.size <= b) /\ b ≠ X.env.locals /\ (∀ x c,X.env.cells.lookup x=some c -> c ≠ b) /\ ∀ p ∈ X.pn ++ pins,p.1 ≠ b:=λ b hb=>by
        obtain ⟨_,f1,_,f3,f4,f5⟩:=f2 b hb;exact ⟨f3,f1,f4,f5⟩
      have IX:Inv X pins σ (upd H3 D (.lst acc)) s4:=by
        have hos:s4.os=s₂.os:=I4.os;have hb4:=I4.bare;obtain ⟨hh,gg,dd,tt,os'⟩:=s4;obtain rfl:os'=s₂.os:=hos;exact I2.call (h':=hh) (g':=gg) (d':=dd) (t':=tt) (ch:=fp) un hok4 hb4 chk
      obtain ⟨mC,hnC,_⟩:=I4.loc;have hnC:s4.heap.Ns C mC:=hnC;obtain ⟨oC,es,ep,eC,dC,rC⟩:=id hnC
      have fC:FpOk X pins (upd H3 D (.lst acc)) C:=by
        refine ⟨by rw [zal hDC.symm]; exact I4.free,ybo (yaf I2.lt (50:)),I2.nofs (50:),.inr (yaV I2.sz (50:)),λ x c e z=>?_,λ p hp z=>?_⟩
        · have:=cellLt x c e;rw [z] at this;exact yaJ _ (yaf this hCle)
        · have:=yae (I2.pin p hp).1;rw [z,hDd] at this;exact yaJ _ (yaf this hCle)
      exact fin D C s4 acc H3 oC mC IX (qn D hD3) eC hnC (λ v z=>by rw [dC] at z; cases z) fC
    · refine thn (T.item (zar X scope N' C s₂ H2 fp) rfl rfl rfl hc i _ s3 _ H3 _ I3D (fpo fr3 pD) st3 go) fun r s4 ⟨u, hr, h4⟩ => ?_;subst hr;refine thn h4 fun _ s5 ⟨x, H5, I5, r5, y5, st5, fr5⟩ => ?_;have I5' := I5.pinned (fpo fr5 pD) (T.obj _ _ st5);refine thn (hg C s₂ H2 fp _ s5 _ H5 x u _ I5' r5 (step x H5 y5)) fun _ s6 ⟨σ6, H6, I6, ex6, q6⟩ => ?_;refine thn (ht C s₂ H2 fp _ s6 σ6 H6 _ I6 q6) fun b s7 ⟨H7, I7, q7⟩ => ?_
      -- back to the zdG of a turn
      have back:∀ {s8:Shared} {H8:Hp},Inv (zar X scope N' C s₂ H2 fp) ([(D,({ cls:=.type "list",data:=.seq its.toArray nD }:Obj))] ++ zfK fp s5.heap) σ6 H8 s8 ->
          Inv (zar X scope N' C s₂ H2 fp) [] (capt src σ) H8 s8 /\ tn (i + 1) s8.heap /\ (∀ b ∈ fp,H8 b=none) /\ H8 D=none /\ s8.heap.get? D=some { cls:=.type "list",data:=.seq its.toArray nD }:=λ {s8 H8} I8=>by
        have pf:∀ b ∈ fp,∀ o,s5.heap.get? b=some o -> s8.heap.get? b=some o /\ H8 b=none:=λ b hb o e=>by
          have q:=I8.pin (b,o) (yaC _ (yaC _ (zcr hb e)));exact ⟨q.1,q.2.1⟩
        have qD:=I8.pin (D,{ cls:=.type "list",data:=.seq its.toArray nD }) (yaC _ (ya6 _ yaF));refine ⟨(I8.pins_of (pins':=[]) λ p hp=>absurd hp (44:)).weak ex6.1 ex6.2,T.keep _ _ _ st5 λ b hb o e=>(pf b hb o e).1,λ b hb=>?_,qD.2.1,qD.1⟩;obtain ⟨o,e,_⟩:=T.obj _ _ st5 b hb;exact (pf b hb o e).2
      cases b with
      | false=>
        obtain ⟨m',hm,w7⟩:=hN2 H7 (by simpa using q7);obtain ⟨J8,st8,fr8,hD8,eD8⟩:=back I7;exact (by simpa using (⟨m',hm,i + 1,H7,acc,its,J8,st8,fr8,hD8,⟨nD,eD8⟩,v3,w7⟩:∃ m,m < n /\ ∃ i H' acc its,Inv (zar X scope N' C s₂ H2 fp) [] (capt src σ) H' s7 /\ tn i s7.heap /\ (∀ b ∈ fp,H' b=none) /\ H' D=none /\ s7.heap.PlainList D (List.toArray its) /\ Vals acc its /\ W i m acc H'))
      | true=>
        have q7:te σ6 H7 N1:=by simpa using q7
        show wpAny _ _ _ _ _ _;refine thn (he C s₂ H2 fp _ s7 σ6 H7 _ I7 q7) λ u8 s8 ⟨y,H8,I8,r8,n8⟩=>?_;obtain ⟨m',hm,w8⟩:=hN1 y H8 n8;obtain ⟨J8,st8,fr8,hD8,eD8⟩:=back I8
        have hl8:its.toArray.size <= sizeLine:=by
          have:=v3.length;simp only [yak];omega
        refine wpAny_list_append_plain (l:=D) (items:=its.toArray) ⟨nD,eD8⟩ (λ h' pl9 sb9=>?_) hl8;have kp:∀ b o,b ≠ D -> s8.heap.get? b=some o -> h'.get? b=some o:=λ b o hb e=>(sb9.2 b hb).trans e
        have J9:Inv (zar X scope N' C s₂ H2 fp) [] (capt src σ) H8 { s8 with heap:=h' }:=J8.turned (t':=s8.toks) kp hD8 hDC (.inr (show s₂.heap.objs.size <= D from Nat.le_of_eq hDd))
          (λ x c e z=>yaJ D (by have:=cellLt x c (zaI e); rw [z] at this; exact this)) (λ p hp=>absurd hp (44:))
        refine ⟨m',hm,i + 1,H8,acc ++ [y],its ++ [u8],J9,T.keep _ _ _ st8 λ b hb o e=>kp b o (λ z=>Dfp (z ▸ hb)) e,fr8,hD8,?_,v3.append (.cons r8 .nil),w8⟩;have e9:its.toArray.push u8=(its ++ [u8]).toArray:=by simp
        rw [<- e9]; exact pl9
  exact codeAny_compStart_list (loop _) (T.self _ 0 _ _ _ hst₁ (loop _))
def zbt (hc:X.calm=true) (hi:PI X tg iter wi) (hg:∀ C s H fp,PG (zar X scope N' C s H fp) tg g) (ht:∀ C s H fp,PTs (zar X scope N' C s H fp) ifs tc) (he:∀ C s H fp,PE (zar X scope N' C s H fp) elt te)
  (ok:zh9 N sc scope N' src=true) (hN:X.N=N:=by rfl) (hsc:X.env.scope=sc:=by rfl) (hs:∀ x,foldedSetIterable iter X.env x=pure x:=by intro _; rfl) :
  PE X (.ListComp elt [⟨tg,iter,ifs,0⟩] scope pos) (znn src wi g tc te):=by
 intro pins s σ H Q I h;have ok:=zg8 ok;rw [eval_ListComp];have hclos:closureFor scope X.env=pure (clOf X.env scope):=zdd λ p hp hf=>I.ok.has p.1 (by subst hsc; exact ok.free p hp hf);refine wpAny_comprehension_free (use:=none) rfl hs hclos ok.kind ok.names (thn (hi pins s σ H _ I h) λ xv s₁ h₁=>thn h₁ λ itv s₂ h₂=>?_);obtain ⟨it,fp,tn,J,H2,e,I2,T,st2,f2,hw⟩:=h₂;subst e;refine zjC hc hN hsc ok hg ht he I2 T st2 f2 hw (RR:=λ acc C=>compPost (model X.prog X.w) X.A X.xe none (EP X pins σ Q) acc C) ?_;intro D C s' acc H' oC m IX q eC hn nc f;obtain ⟨f0,f1,f2',f3,f4,f5⟩:=f;refine ⟨m,hn,λ h' sb=>⟨.ref D,upd H' D (.lst acc),?_,rfl,q⟩⟩;exact IX.turned (t':=s'.toks) (λ b o hb e=>(sb.2 b hb).trans e) f0 f1 f3 f4 f5
end
def zhY {σ:St} {i:Nat} {v:V} (h:σ[i]?=some none):Ext σ (σ.set i (some v)):=by
 refine ⟨by simp,λ k u e=>?_⟩;by_cases hk:i=k
 ·subst hk; rw [h] at e; cases e
 ·rw [ybM hk]; exact e
def zi9 {lo:Int} {n:Nat} {src:List (Option Nat)} {σ:St} {g:TG} {tc:TT} {te:TE} {Q:VK} {H:Hp} (Pv:Nat -> List V -> Hp -> Prop) (h0:Pv 0 [] H) (len:∀ i acc H,Pv i acc H -> acc.length <= sizeLine)
  (step:∀ i acc H,i < n -> Pv i acc H -> g (.int (lo + i)) (capt src σ) H λ σ2 H2=>Ext (capt src σ) σ2 /\ tc σ2 H2 λ b H3=>if b=true then te σ2 H3 (λ y H4=>Pv (i + 1) (acc ++ [y]) H4) else Pv (i + 1) acc H3)
  (done:∀ acc H,Pv n acc H -> ∀ p,H p=none -> Q (.ref p) (upd H p (.lst acc))):zcl (Itr lo n) src σ g tc te Q H:=by
 refine ⟨λ i m acc H=>m=n - i /\ i <= n /\ Pv i acc H,⟨n,by simp,yaR _,h0⟩,?_⟩;rintro i m acc H ⟨rfl,hi,p⟩;refine ⟨len i acc H p,?_⟩;by_cases hlt:i < n
 ·refine .inr ⟨hlt,λ y H4=>Pv (i + 1) (acc ++ [y]) H4,λ H3=>Pv (i + 1) acc H3,λ y H4 q=>⟨n - (i + 1),by omega,rfl,hlt,q⟩,λ H3 q=>⟨n - (i + 1),by omega,rfl,hlt,q⟩,λ x H' y=>?_⟩;obtain ⟨e,y⟩:=y;subst e y;exact step i acc _ hlt p
 ·have e : i = n := by omega
  subst e;exact .inl ⟨yah _,done acc H p⟩
def zkZ {K:PySem.W.Frag} {a:Addr} {xs:List V} {src:List (Option Nat)} {σ:St} {g:TG} {tc:TT} {te:TE} {Q:VK} {H:Hp} (Pv:Nat -> List V -> Hp -> Prop) (h0:Pv 0 [] H) (len:∀ i acc H,Pv i acc H -> acc.length <= sizeLine)
  (hl:∀ i acc H,Pv i acc H -> SqL K H a xs)
  (step:∀ i x acc H,xs[i]?=some x -> Pv i acc H -> g x (capt src σ) H λ σ2 H2=>Ext (capt src σ) σ2 /\ tc σ2 H2 λ b H3=>if b=true then te σ2 H3 (λ y H4=>Pv (i + 1) (acc ++ [y]) H4) else Pv (i + 1) acc H3)
  (done:∀ acc H,Pv xs.length acc H -> ∀ p,H p=none -> Q (.ref p) (upd H p (.lst acc))):zcl (Itl K a) src σ g tc te Q H:=by
 refine ⟨λ i m acc H=>m=xs.length - i /\ i <= xs.length /\ Pv i acc H,⟨xs.length,by simp,yaR _,h0⟩,?_⟩;rintro i m acc H ⟨rfl,hi,p⟩;refine ⟨len i acc H p,?_⟩;by_cases hlt:i < xs.length
 ·refine .inr ⟨⟨xs,xs[i],hl i acc H p,by simp [hlt]⟩,λ y H4=>Pv (i + 1) (acc ++ [y]) H4,λ H3=>Pv (i + 1) acc H3,λ y H4 q=>⟨xs.length - (i + 1),by omega,rfl,hlt,q⟩,λ H3 q=>⟨xs.length - (i + 1),by omega,rfl,hlt,q⟩,λ x H' y=>?_⟩;obtain ⟨e,y⟩:=y;subst e;exact step i x acc _ (y xs (hl i acc _ p)) p
 ·have e : i = xs.length := by omega
  subst e;exact .inl ⟨⟨xs,hl _ acc H p,yah _⟩,done acc H p⟩
def zil {K:PySem.W.Frag} {a:Addr} {xs:List V} {src:List (Option Nat)} {σ:St} {g:TG} {tc:TT} {te:TE} {Q:VK} {H:Hp} (Pv:Nat -> List V -> Hp -> Prop) (h0:Pv 0 [] H) (len:∀ i acc H,Pv i acc H -> acc.length <= sizeLine)
  (hl:∀ i acc H,Pv i acc H -> SqT K H a xs)
  (step:∀ i x acc H,xs[i]?=some x -> Pv i acc H -> g x (capt src σ) H λ σ2 H2=>Ext (capt src σ) σ2 /\ tc σ2 H2 λ b H3=>if b=true then te σ2 H3 (λ y H4=>Pv (i + 1) (acc ++ [y]) H4) else Pv (i + 1) acc H3)
  (done:∀ acc H,Pv xs.length acc H -> ∀ p,H p=none -> Q (.ref p) (upd H p (.lst acc))):zcl (Itt K a) src σ g tc te Q H:=by
 refine ⟨λ i m acc H=>m=xs.length - i /\ i <= xs.length /\ Pv i acc H,⟨xs.length,by simp,yaR _,h0⟩,?_⟩;rintro i m acc H ⟨rfl,hi,p⟩;refine ⟨len i acc H p,?_⟩;by_cases hlt:i < xs.length
 ·refine .inr ⟨⟨xs,xs[i],hl i acc H p,by simp [hlt]⟩,λ y H4=>Pv (i + 1) (acc ++ [y]) H4,λ H3=>Pv (i + 1) acc H3,λ y H4 q=>⟨xs.length - (i + 1),by omega,rfl,hlt,q⟩,λ H3 q=>⟨xs.length - (i + 1),by omega,rfl,hlt,q⟩,λ x H' y=>?_⟩;obtain ⟨e,y⟩:=y;subst e;exact step i x acc _ (y xs (hl i acc _ p)) p
 ·have e : i = xs.length := by omega
  subst e;exact .inl ⟨⟨xs,hl _ acc H p,yah _⟩,done acc H p⟩
def Ext.trans {a b c:St} (h:Ext a b) (k:Ext b c):Ext a c:=⟨h.1.trans k.1,λ i v e=>k.2 i v (h.2 i v e)⟩
noncomputable def FnAt (P:Program) (w:World) (K:PySem.W.Frag) (mg:Str -> Option Value) (base:Heap) (x:Str) (ps:List Str) (k:Nat) (sp:Sp):Prop:=
 ∃ f fd,mg x=some (.ref f) /\ PySem.W.keepIn K (.ref f)=true /\ zdj K fd ps [] /\ FnOk P w K mg base CX0 k f fd ps sp
section
variable {X:Cx} {x:Str} {p pos:Pos} {e:Expr} {es:List Expr} {t:TA} {ps:List Str} {k:Nat} {sp:Sp}
def zah (h:FnAt X.prog X.w X.K X.mg X.base x ps k sp) (hr:Room k X.A) (ha:PA X (e :: es) t) (hg:Gl X x:=by rfl) (hdb:(x == ("__debug__":Str))=false:=by decide)
  (he:starEach (e :: es) X.env=(false,eval e X.env) :: starEach es X.env:=by rfl) (hpl:(backTo pos (starEach es X.env)).any (·.1)=false:=by rfl):PE X (.Call (.Name x p) (e :: es) [] pos) (zhJ sp [] E0 t):=by
 obtain ⟨f,fd,hm,hk,hb,F⟩:=h;exact zjN F hr hg hm hk hb .nil zp6 ha hdb he hpl
end
noncomputable def iSeq (K:PySem.W.Frag) (tl:TE):TI:=λ σ H R=>tl σ H λ x H1=>∃ a,x=.ref a /\ (((∃ xs,SqL K H1 a xs) /\ R (Itl K a) H1) \/ ((∃ xs,SqT K H1 a xs) /\ R (Itt K a) H1))
section
variable {X:Cx} {tg:Expr}
def zpv {l:Expr} {tl:TE} (hl:PE X l tl):PI X tg l (iSeq X.K tl):=by
 intro pins s σ H R I h;refine thn (hl pins s σ H _ I h) λ v s1 ⟨x,H1,I1,r1,q1⟩=>?_;obtain ⟨a,e,q1⟩:=q1;subst e;cases r1;rcases q1 with ⟨⟨xs,hq⟩,q⟩ | ⟨⟨xs,hq⟩,q⟩
 ·obtain ⟨its, rv, p, hz⟩ := I1.list hq;refine wpAny_pyIter_list p.isList ?_;refine ⟨s1.heap.objs.size, [s1.heap.objs.size], _, _, H1, rfl, I1.kept (t' := s1.toks) fun b o e => yac _ e, zjz a _, ⟨_, yal _ rfl, rfl, rfl⟩, fun b hb => ?_, q⟩;have e : b = s1.heap.objs.size := by simpa using hb
  subst e;exact I1.fpOk (yah _) (I1.hok.fresh (yah _))
 ·obtain ⟨its, rv, p, hz⟩ := I1.tuple hq;refine wpAny_pyIter_tuple (show s1.heap.IsTuple a its.toArray from p) ?_;refine ⟨s1.heap.objs.size, [s1.heap.objs.size], _, _, H1, rfl, I1.kept (t' := s1.toks) fun b o e => yac _ e, zjl a _, ⟨_, yal _ rfl, rfl, rfl⟩, fun b hb => ?_, q⟩;have e : b = s1.heap.objs.size := by simpa using hb
  subst e;exact I1.fpOk (yah _) (I1.hok.fresh (yah _))
end
section
variable {X:Cx} {pins:List (Addr × Obj)} {σ:St} {H:Hp} {s:Shared} {h':Heap} {ch:List Addr}
def Inv.turnL {t':Nat} (I:Inv X pins σ H s) (hf:∀ b ∈ ch,FpOk X pins H b) (k:∀ b o,b ∉ ch -> s.heap.get? b=some o -> h'.get? b=some o):Inv X pins σ H { s with heap:=h',toks:=t' }:=by
 have nit:∀ b u,H b=some u -> b ∉ ch:=λ b u e z=>by rw [(hf b z).1] at e; cases e
 refine I.step (g':=s.gens) (d':=s.drawn) (ch:=ch) (λ b hb=>?_) (λ b o _ _ hc e _=>k b o hc e) (λ b o _ _ hc e _=>⟨o.slots,k b o hc e⟩) (λ _ _ _ _ n=>n)
  (λ b o hc e=>⟨o,k b o hc e⟩) (λ _ _ e=>e) (λ _ _ _ e=>e) (λ b ps e=>⟨#[],by rw [e]; simp⟩) (λ m hm=>?_) (λ b u e=>?_) I.bare
 ·obtain ⟨_,f1,_,f3,f4,f5⟩:=hf b hb;exact ⟨f3,f1,f4,f5⟩
 ·obtain ⟨o,es,ep,ho,r⟩:=hm;exact ⟨o,es,ep,k _ o (λ z=>(hf _ z).2.1 rfl) ho,r⟩
 ·refine (I.hok b u e).stay (fun c v hc q => k c v ?_ q) (fun _ q => q) fun _ _ q => q;rcases hc with rfl | hc
  ·exact nit _ _ e
  ·exact nit _ _ hc
def Inv.turnTup {T:Addr} {xs:List V} {its:List Value} {t':Nat} (I:Inv X pins σ H s) (hf:∀ b ∈ ch,FpOk X pins H b) (k:∀ b o,b ∉ ch -> s.heap.get? b=some o -> h'.get? b=some o)
  (hT:s.heap.objs.size <= T) (ht:za5 h' T its.toArray) (r:Vals xs its) (hz:xs.length <= sizeLine):Inv X pins σ (upd H T (.tup xs)) { s with heap:=h',toks:=t' }:=by
 have J:Inv X pins σ H { s with heap:=h',toks:=t' }:=I.turnL hf k;have hn:H T=none:=I.hok.fresh hT;have ne:∀ b o,s.heap.get? b=some o -> b ≠ T:=λ b o e=>yap (yaf (yae e) hT);refine ⟨J.ok,J.os,J.bare,?_,J.loc,J.cell,?_,λ x c e=>?_,λ p hp=>?_,λ b u q=>?_,J.len⟩
 ·have u := J.base;refine ⟨u.keep, u.slot, fun b o e n hx => ?_, u.there, fun b ys e => ?_, fun b o x e => ?_, fun b ps e => ?_⟩
  ·rw [zal (yap (yaf (yae e) (yaV I.sz hT)))];exact u.free b o e n hx
  ·have q:=u.tups b ys e;rw [zal (zaq q hn)]; exact q
  ·have q:=u.frzs b o x e;rw [zal (zaq q hn)]; exact q
  ·obtain ⟨more,q⟩:=u.tbls b ps e;exact ⟨more,by rw [zal (zaq q hn)]; exact q⟩
 ·rw [zal (yap (yaf I.lt hT))]; exact I.free
 ·obtain ⟨v,o,ho,_⟩:=I.cell x c e;rw [zal (ne c o ho)]; exact I.freeC x c e
 ·obtain ⟨e,n,r⟩:=J.pin p hp;refine ⟨e,?_,r⟩;rw [zal (ne _ _ (I.pin p hp).1)]; exact n
 ·by_cases hb : b = T
  ·subst hb;rw [zai] at q;cases q;exact ⟨hz,its,r,ht⟩
  ·rw [zal hb] at q;exact (J.hok b u q).stay (λ c v _ q=>q) (λ c q=>by rw [zal (zaq q hn)]; exact q) λ c xs q=>by rw [zal (zaq q hn)]; exact q
end
noncomputable def Itv (K:PySem.W.Frag) (a:Addr) (xs:List V):It:=
 ⟨λ i H=>i < xs.length /\ SqL K H a xs,λ i H x H'=>H'=H /\ xs[xs.length - 1 - i]?=some x,λ i _=>i=xs.length⟩
def zlK {P:Program} {w:World} {K:PySem.W.Frag} {tg:Expr} (a it:Addr) (xs:List V):Turn P w K tg (Itv K a xs) [it] it (λ i h=>h.IsRevIter it a ((xs.length:Int) - 1 - (i:Int))) where
 mem:=by simp
 obj:=λ i h st b hb=>by
  have e:b=it:=by simpa using hb
  subst e;obtain ⟨o,e,c,d⟩:=st;exact ⟨o,e,λ v z=>by rw [d] at z; cases z⟩
 keep:=λ i h h' st k=>st.at λ o e=>k it (5:) o e
 item:=by
  intro X hP hw hK hc i pins s σ H E I hf st hg;subst hP hw hK;obtain ⟨hi,hq⟩:=hg;obtain ⟨its,rv,p,hz⟩:=I.list hq;have hl:=rv.length;have hx:xs[xs.length - 1 - i]?=some (xs[xs.length - 1 - i]'(1:)):=yaa (1:);obtain ⟨u,hu,ru⟩:=rv.get hx;obtain ⟨f0,f1,f2,f3,f4,f5⟩:=hf it (5:);have e:(xs.length:Int) - 1 - (i:Int)=((xs.length - 1 - i:Nat):Int):=by omega
  rw [e] at st;refine wpAny_pyNext_rev_item st p.isList (x:=u) (by simpa using hu) λ h' st' sb=>?_;have I1:Inv X pins σ H { s with heap:=h' }:=I.turned (t':=s.toks) (λ b o hb e=>(sb.2 b hb).trans e) f0 f1 f3 f4 f5;obtain ⟨o,e',c,d⟩:=id st';refine ⟨u,rfl,zlx (s:={ s with heap:=h' }) e' c d (3:) ⟨_,H,I1,ru,⟨rfl,hx⟩,?_,λ b hb=>(hf b hb).1⟩⟩;have e2:((xs.length - 1 - i:Nat):Int) - 1=(xs.length:Int) - 1 - ((i + 1:Nat):Int):=by omega
  rw [<- e2];exact st'
 done:=by
  intro X hP hw hK hc i pins s σ H E I hf st hg;subst hP hw hK;have hg:i=xs.length:=hg;subst hg;obtain ⟨f0,f1,f2,f3,f4,f5⟩:=hf it (5:);have e:(xs.length:Int) - 1 - (xs.length:Int)=-1:=by omega
  rw [e] at st;exact wpAny_pyNext_rev_end (I.ok.hd hc) st λ h' eb=>⟨rfl,I.turned (t':=s.toks) (λ b o hb e=>eb b o hb e) f0 f1 f3 f4 f5⟩
 self:=λ _ _ _ _ _ st h=>wpAny_pyIter_revIter st h
noncomputable def iRev (K:PySem.W.Frag) (ta:TA):TI:=λ σ H R=>ta σ H λ vs H1=>∃ a xs,vs=[.ref a] /\ SqL K H1 a xs /\ R (Itv K a xs) H1
def zoY {X:Cx} {tg a:Expr} {ta:TA} {p pos:Pos} (hm:X.mg "reversed"=none) (ha:PA X [a] ta) (hg:Gl X "reversed":=by rfl) (hs:starEach [a] X.env=[(false,eval a X.env)]:=by rfl):PI X tg (.Call (.Name "reversed" p) [a] [] pos) (iRev X.K ta):=by
 intro pins s σ H R I h;refine Call_ (zce I hg hm boot_reversed (yaD (thn (ha pos pins s σ H _ I h) λ us s1 ⟨vs,H1,I1,r1,q1⟩=>?_) hs rfl));obtain ⟨a,xs,e,hq,q⟩:=q1;subst e;cases r1 with
 | cons r rr=>
  cases rr;cases r;obtain ⟨its,rv,p,hz⟩:=I1.list hq;refine call_reversed_list p.isList ?_
  have hl:((its.toArray.size:Nat):Int) - 1=(xs.length:Int) - 1 - ((0:Nat):Int):=by
   rw [yak,rv.length]; omega
  have st:Heap.IsRevIter (s1.heap.push (revObj a ((its.toArray.size:Int) - 1))) s1.heap.objs.size a ((xs.length:Int) - 1 - ((0:Nat):Int)):=by
   rw [<- hl];exact ⟨_,yal _ rfl,rfl,rfl⟩
  have I2:Inv X pins σ H1 { s1 with heap:=s1.heap.push (revObj a ((its.toArray.size:Int) - 1)) }:=I1.kept (t':=s1.toks) λ b o e=>yac _ e;refine wpAny_pyIter_revIter st ?_;refine ⟨s1.heap.objs.size,[s1.heap.objs.size],_,_,H1,rfl,I2,zlK a _ xs,st,λ b hb=>?_,q⟩;have e:b=s1.heap.objs.size:=by simpa using hb
  subst e;exact I1.fpOk (yah _) (I1.hok.fresh (yah _))
def znI {K:PySem.W.Frag} {a:Addr} {xs:List V} {g:TG} {tb:TS} {D:Ends} {σ:St} {H:Hp} (Pv:Nat -> St -> Hp -> Prop) (h0:Pv 0 σ H) (hl:∀ i σ H,Pv i σ H -> SqL K H a xs)
  (hs:∀ i x σ H,i < xs.length -> xs[xs.length - 1 - i]?=some x -> Pv i σ H -> g x σ H λ σ2 H2=>tb { D with nx:=Pv (i + 1),ct:=Pv (i + 1),bk:=D.nx } σ2 H2) (hd:∀ σ H,Pv xs.length σ H -> D.nx σ H) :
  ∃ W:Nat -> Nat -> St -> Hp -> Prop,(∃ m,W 0 m σ H) /\ ∀ i m σ H,W i m σ H ->
   ((Itv K a xs).stop i H /\ D.nx σ H) \/ ((Itv K a xs).go i H /\ ∃ N:St -> Hp -> Prop,(∀ σ' H',N σ' H' -> ∃ m',m' < m /\ W (i + 1) m' σ' H') /\ ∀ x H',(Itv K a xs).yld i H x H' -> g x σ H' λ σ2 H2=>tb { D with nx:=N,ct:=N,bk:=D.nx } σ2 H2):=by
 refine ⟨λ i m σ H=>m=xs.length - i /\ i <= xs.length /\ Pv i σ H,⟨xs.length,by simp,yaR _,h0⟩,?_⟩;rintro i m σ H ⟨rfl,hi,p⟩;by_cases hlt:i < xs.length
 ·refine .inr ⟨⟨hlt,hl i σ H p⟩,Pv (i + 1),λ σ' H' p'=>⟨xs.length - (i + 1),by omega,rfl,hlt,p'⟩,λ x H' y=>?_⟩;obtain ⟨e,y⟩:=y;subst e;exact hs i x σ _ hlt y p
 ·have e : i = xs.length := by omega
  subst e;exact .inl ⟨rfl,hd σ H p⟩
mutual
noncomputable def DatV (K:PySem.W.Frag) (H:Hp):PyData -> V -> Prop
 | .none,v=>v=.non
 | .bool b,v=>v=.bl b
 | .int i,v=>v=.int i
 | .str x,v=>v=.str x
 | .list ds,v=>∃ a xs,v=.ref a /\ SqL K H a xs /\ DatVs K H ds xs
 | .tuple ds,v=>∃ a xs,v=.ref a /\ SqT K H a xs /\ DatVs K H ds xs
 | .dict _,_=>False
noncomputable def DatVs (K:PySem.W.Frag) (H:Hp):List PyData -> List V -> Prop
 | [],xs=>xs=[]
 | d :: ds,xs=>∃ y ys,xs=y :: ys /\ DatV K H d y /\ DatVs K H ds ys
end
section
variable {X:Cx} {pins:List (Addr × Obj)} {σ:St} {H:Hp} {s:Shared}
mutual
def DatV.reads (I:Inv X pins σ H s):∀ (d:PyData) {x:V} {u:Value},DatV X.K H d x -> RelV x u -> ∃ as,Reads s.heap u d as
 | .none,x,u,h,r=>by
  rw [DatV] at h; subst h; cases r; exact ⟨_,.none⟩
 | .bool b,x,u,h,r=>by
  rw [DatV] at h; subst h; cases r; exact ⟨_,.bool b⟩
 | .int i,x,u,h,r=>by
  rw [DatV] at h; subst h; obtain ⟨t,rfl⟩:=r; exact ⟨_,.int i t⟩
 | .str z,x,u,h,r=>by
  rw [DatV] at h; subst h; obtain ⟨t,rfl⟩:=r; exact ⟨_,.str z t⟩
 | .list ds,x,u,h,r=>by
  rw [DatV] at h;obtain ⟨a,xs,rfl,hq,hd⟩:=h;cases r;obtain ⟨its,rv,⟨o,n,e,c,_,d⟩,hz⟩:=I.list hq;obtain ⟨as,ra⟩:=DatVs.reads I ds hd rv;exact ⟨_,.list e c d (by simpa using ra)⟩
 | .tuple ds,x,u,h,r=>by
  rw [DatV] at h;obtain ⟨a,xs,rfl,hq,hd⟩:=h;cases r;obtain ⟨its,rv,⟨o,e,c,n,d⟩,hz⟩:=I.tuple hq;obtain ⟨as,ra⟩:=DatVs.reads I ds hd rv;exact ⟨_,.tuple e c d (by simpa using ra)⟩
 | .dict _,x,u,h,r=>by
  rw [DatV] at h; exact h.elim
def DatVs.reads (I:Inv X pins σ H s):∀ (ds:List PyData) {xs:List V} {us:List Value},DatVs X.K H ds xs -> Vals xs us -> ∃ as,ReadsAll s.heap us ds as
 | [],xs,us,h,r=>by
  rw [DatVs] at h; subst h; cases r; exact ⟨_,.nil⟩
 | d :: ds,xs,us,h,r=>by
  rw [DatVs] at h;obtain ⟨y,ys,rfl,h1,h2⟩:=h;cases r with
  | cons r1 r2=>
   obtain ⟨as,a1⟩:=DatV.reads I d h1 r1;obtain ⟨bs,a2⟩:=DatVs.reads I ds h2 r2;exact ⟨_,.cons a1 a2⟩
end
end
def DatV.int (K:PySem.W.Frag) (H:Hp) (i:Int):DatV K H (.int i) (.int i):=by rw [DatV]
def DatV.bool (K:PySem.W.Frag) (H:Hp) (i:Bool):DatV K H (.bool i) (.bl i):=by rw [DatV]
def DatV.str (K:PySem.W.Frag) (H:Hp) (i:Str):DatV K H (.str i) (.str i):=by rw [DatV]
def DatV.list {K:PySem.W.Frag} {H:Hp} {a:Addr} {xs:List V} {ds:List PyData} (h:SqL K H a xs) (k:DatVs K H ds xs):DatV K H (.list ds) (.ref a):=by rw [DatV]; exact ⟨a,xs,rfl,h,k⟩
def DatV.tuple {K:PySem.W.Frag} {H:Hp} {a:Addr} {xs:List V} {ds:List PyData} (h:SqT K H a xs) (k:DatVs K H ds xs):DatV K H (.tuple ds) (.ref a):=by rw [DatV]; exact ⟨a,xs,rfl,h,k⟩
def DatVs.nil {K:PySem.W.Frag} {H:Hp}:DatVs K H [] []:=by rw [DatVs]
def DatVs.cons {K:PySem.W.Frag} {H:Hp} {d:PyData} {ds:List PyData} {x:V} {xs:List V} (h:DatV K H d x) (k:DatVs K H ds xs):DatVs K H (d :: ds) (x :: xs):=by rw [DatVs]; exact ⟨x,xs,rfl,h,k⟩
def DatVs.ints (K:PySem.W.Frag) (H:Hp):∀ ns:List Int,DatVs K H (ns.map .int) (ns.map V.int)
 | []=>.nil
 | n :: ns=>.cons (.int K H n) (DatVs.ints K H ns)
noncomputable abbrev shpd:=SeqAt.shaped
def zgW (ns:List Int):shpd (.list (ns.map PyData.int))=true:=PySem.W.ke_shaped_ints ns
def zcu (ns:List Int):shpd (.tuple (ns.map PyData.int))=true:=by
 have h:=PySem.W.ke_shaped_ints ns;simpa [SeqAt.shaped,PyData.canLay0,PyData.depth] using h
def zbZ:∀ ns ms:List Int,PyData.eqvAll (ns.map .int) (ms.map .int)=decide (ns=ms)
 | [],[]=>by simp [PyData.eqvAll]
 | [],_ :: _=>by simp [PyData.eqvAll]
 | _ :: _,[]=>by simp [PyData.eqvAll]
 | a :: r,b :: t=>by
  simp only [ycv,PyData.eqvAll,PyData.eqv,zbZ r t];by_cases h:a=b <;> by_cases h':r=t <;> simp [h,h']
noncomputable def rEqU (K:PySem.W.Frag):R2:=λ x y H Q=>∃ d e,DatV K H d x /\ DatV K H e y /\ shpd d=true /\ shpd e=true /\ Q (.bl (PyData.eqv d e)) H
noncomputable def rNeU (K:PySem.W.Frag):R2:=λ x y H Q=>∃ d e,DatV K H d x /\ DatV K H e y /\ shpd d=true /\ shpd e=true /\ Q (.bl (!PyData.eqv d e)) H
section
variable {X:Cx}
def zoG (hu:X.A.units + 64 < cLine):OpR X (compareOp .Eq) (rEqU X.K):=by
 intro pins s σ H x y v u Q I rx ry h;obtain ⟨d,e,hd,he,sd,se,q⟩:=h;obtain ⟨as,ra⟩:=DatV.reads I d hd rx;obtain ⟨bs,rb⟩:=DatV.reads I e he ry;exact eq_dataH ra rb sd se hu ⟨.bl _,H,I,rfl,q⟩
def znW (hu:X.A.units + 64 < cLine):OpR X (compareOp .NotEq) (rNeU X.K):=by
 intro pins s σ H x y v u Q I rx ry h;obtain ⟨d,e,hd,he,sd,se,q⟩:=h;obtain ⟨as,ra⟩:=DatV.reads I d hd rx;obtain ⟨bs,rb⟩:=DatV.reads I e he ry;exact ne_dataH ra rb sd se hu ⟨.bl _,H,I,rfl,q⟩
noncomputable def zlJ (K:PySem.W.Frag):R2:=λ x y H Q=>rI0 (λ i j=>.int (i + j)) x y H Q \/ (rCat x y H Q \/ zoJ K x y H Q)
def zns:OpR X (binaryOp .Add) (zlJ X.K):=zoa.or (zoZ.or znp)
noncomputable def zoH:R2:=λ x y H Q=>rI CMul (λ i j=>.int (i * j)) x y H Q \/ rRep x y H Q
def znm:OpR X (binaryOp .Mult) zoH:=zoq.or zpx
noncomputable def rIsU:R2:=λ x y H Q=>(y=.non /\ Q (.bl (decide (x=.non))) H) \/ (∃ a b,x=.bl a /\ y=.bl b /\ Q (.bl (a == b)) H)
def zon:OpR X (compareOp .Is) (λ x y H Q=>∃ a b,x=.bl a /\ y=.bl b /\ Q (.bl (a == b)) H):=by
 intro pins s σ H x y v u Q I rx ry h;obtain ⟨a,b,rfl,rfl,q⟩:=h;cases rx;cases ry;exact is_bool ⟨.bl _,H,I,rfl,q⟩
def zpl:OpR X (compareOp .Is) rIsU:=zo7.or zon
noncomputable def zod:R2:=λ x y H Q=>(y=.non /\ Q (.bl (!decide (x=.non))) H) \/ (∃ a b,x=.bl a /\ y=.bl b /\ Q (.bl (a != b)) H)
def znx:OpR X (compareOp .IsNot) (λ x y H Q=>∃ a b,x=.bl a /\ y=.bl b /\ Q (.bl (a != b)) H):=by
 intro pins s σ H x y v u Q I rx ry h;obtain ⟨a,b,rfl,rfl,q⟩:=h;cases rx;cases ry;exact isnot_bool ⟨.bl _,H,I,rfl,q⟩
def zk4:OpR X (compareOp .IsNot) zod:=zni.or znx
def slU:SlR X (λ x lo hi H Q=>rSlL X.K x lo hi H Q \/ rSlT X.K x lo hi H Q):=znU.or zpb
noncomputable def zoj:V -> List V -> Hp -> VK -> Prop:=λ x xs H Q=>∃ i,x=.int i /\ xs=[] /\ Q (.int (Builtin.Int.intBits i)) H
def znG:MtR X "int.bit_length" zoj:=by
 intro pins s σ H x xs v us Q I rx rv h;obtain ⟨i,rfl,rfl,q⟩:=h;obtain ⟨t,rfl⟩:=rx;have hus:=rv.zero;subst hus;exact call_int_bit_length ⟨.int _,H,I.tok _,⟨_,rfl⟩,q⟩
noncomputable def rIsi (K:PySem.W.Frag):List V -> Hp -> VK -> Prop:=λ xs H Q=>∃ x T t b,xs=[x,.ty T] /\ TyOf K H x t /\ PySem.W.kitOne K t (.type T)=some b /\ Q (.bl b) H
def zl2:zcd X (.builtin "isinstance") (rIsi X.K):=by
 intro pins s σ H xs us Q I r h;obtain ⟨x,T,t,b,rfl,ty,e,q⟩:=h;obtain ⟨u,v,rfl,ru,rv⟩:=r.two;cases rv;exact zkc I ru ty e λ tk=>⟨.bl b,H,I.tok tk,rfl,q⟩
noncomputable def rLen (K:PySem.W.Frag):List V -> Hp -> VK -> Prop:=λ xs H Q=>∃ x n,xs=[x] /\ LenV K x H n /\ Q (.int n) H
def zlq:zcd X (.builtin "len") (rLen X.K):=zlr
noncomputable def rAbs:List V -> Hp -> VK -> Prop:=λ xs H Q=>∃ i,xs=[.int i] /\ Q (.int (if i < 0 then -i else i)) H
def zkr:zcd X (.builtin "abs") rAbs:=zl0
noncomputable def zks (K:PySem.W.Frag):List V -> Hp -> VK -> Prop:=λ xs H Q=>∃ p ys,xs=[.ref p] /\ ((SqL K H p ys /\ ∀ l,H l=none -> Q (.ref l) (upd H l (.tup ys))) \/ (SqT K H p ys /\ Q (.ref p) H))
def zll:zcd X (.type "tuple") (zks X.K):=zgi
noncomputable def zpj:List V -> Hp -> VK -> Prop:=λ xs H Q=>∃ i j,xs=[.int i,.int j] /\ Q (.int (if j > i then j else i)) H
def zg1 (hc:X.calm=true):zcd X (.builtin "max") zpj:=zjF hc
noncomputable def zoB:List V -> Hp -> VK -> Prop:=λ xs H Q=>∃ i j,xs=[.int i,.int j] /\ Q (.int (if j < i then j else i)) H
def zei (hc:X.calm=true):zcd X (.builtin "min") zoB:=zjG hc
def zbf {x:Str} {i:Int} {pos:Pos} (h:∃ t,X.mg x=some (.int i t)) (hg:Gl X x:=by rfl) (hd:(x == ("__debug__":Str))=false:=by decide):PE X (.Name x pos) (tC (.int i)):=by
 obtain ⟨t,e⟩:=h;exact zm7 hg e ⟨t,rfl⟩ hd
end
noncomputable abbrev NewL (xs:List V) (H:Hp) (Q:VK):Prop:=xs.length <= sizeLine /\ ∀ p,H p=none -> Q (.ref p) (upd H p (.lst xs))
noncomputable abbrev NewT (xs:List V) (H:Hp) (Q:VK):Prop:=xs.length <= sizeLine /\ ∀ p,H p=none -> Q (.ref p) (upd H p (.tup xs))
section
variable {D:Ends} {σ:St} {H:Hp} {Q:VK}
def zpQ {t u:TS} (h:t { D with nx:=u D } σ H):tSeq t u D σ H:=h
def zpz (h:D.nx σ H):zpd D σ H:=h
def s_nx {f:St -> Hp -> Prop} {r:VK} {b c:St -> Hp -> Prop} (h:f σ H):Ends.nx { nx:=f,rt:=r,bk:=b,ct:=c } σ H:=h
def s_rt {f:St -> Hp -> Prop} {r:VK} {b c:St -> Hp -> Prop} {v:V} (h:r v H):Ends.rt { nx:=f,rt:=r,bk:=b,ct:=c } v H:=h
def zpW {te:TE} {g:TG} (h:te σ H λ x H1=>g x σ H1 D.nx):tAsg te g D σ H:=h
def zp4 {te:TE} (h:te σ H D.rt):tRet te D σ H:=h
def zoh {te:TE} (h:te σ H λ _ H1=>D.nx σ H1):zpf te D σ H:=h
def s_if {c:TT} {t u:TS} (h:c σ H λ b H1=>if b=true then t D σ H1 else u D σ H1):tIfS c t u D σ H:=h
def zmR {i:Nat} {v:V} {K:St -> Hp -> Prop} (h:K (σ.set i (some v)) H):zna i v σ H K:=h
def zo9 {K:St -> Hp -> Prop} (h:K σ H):gNil [] σ H K:=⟨rfl,h⟩
def zm1 {t:TG} {u:TGs} {v:V} {r:List V} {K:St -> Hp -> Prop} (h:t v σ H λ σ' H'=>u r σ' H' K):zom t u (v :: r) σ H K:=⟨v,r,rfl,h⟩
def zof {to ti:TE} {t:TSet} {v:V} {K:St -> Hp -> Prop} (h:to σ H λ o H1=>ti σ H1 λ i H2=>t o i v H2 λ H3=>K σ H3):gSub to ti t v σ H K:=h
def zpG {i:Nat} {v:V} (e:σ[i]?=some (some v)) (h:Q v H):tVar i σ H Q:=⟨v,e,h⟩
def s_c {v:V} (h:Q v H):tC v σ H Q:=h
def s_op {r:R2} {ta tb:TE} (h:ta σ H λ x H1=>tb σ H1 λ y H2=>r x y H2 Q):tOp r ta tb σ H Q:=h
def s_un {r:V -> Hp -> VK -> Prop} {ta:TE} (h:ta σ H λ x H1=>r x H1 Q):tUn r ta σ H Q:=h
def s_cb {r:List V -> Hp -> VK -> Prop} {t:TA} (h:t σ H λ vs H1=>r vs H1 Q):tCB r t σ H Q:=h
def zoD {sp:Sp} {E:XK} {t:TA} (h:t σ H λ vs H1=>sp (vs ++ []) H1 Q E):zhJ sp [] E t σ H Q:=h
def zlV {K:List V -> Hp -> Prop} (h:K [] H):tNil σ H K:=h
def zow {ta:TE} {tr:TA} {K:List V -> Hp -> Prop} (h:ta σ H λ x H1=>tr σ H1 λ xs H2=>K (x :: xs) H2):zhK ta tr σ H K:=h
def zpR {t:TA} (h:t σ H λ xs H1=>NewL xs H1 Q):tLst t σ H Q:=h
def zqb {t:TA} (h:t σ H λ xs H1=>NewT xs H1 Q):tTup t σ H Q:=h
def zpa {t:TE} {K:Bool -> Hp -> Prop} (h:t σ H λ x H'=>∃ k,x=.bl k /\ K k H'):zpt t σ H K:=h
def s_b {t:TE} {K:Bool -> Hp -> Prop} (h:t σ H λ x H'=>∃ k,x=.bl k /\ K k H'):tB t σ H K:=h
def zp0 {b:Bool} {K:Bool -> Prop} (h:K b):∃ k,V.bl b=.bl k /\ K k:=⟨b,rfl,h⟩
def zp8 {t u:TT} {K:Bool -> Hp -> Prop} (h:t σ H λ c H1=>if c=true then u σ H1 K else K false H1):tAnd t u σ H K:=h
def s_or {t u:TT} {K:Bool -> Hp -> Prop} (h:t σ H λ c H1=>if c=true then K true H1 else u σ H1 K):tOr t u σ H K:=h
def zp3 {t:TT} {K:Bool -> Hp -> Prop} (h:t σ H λ c H1=>K (!c) H1):tNot t σ H K:=h
def zpB {t:TT} {ta tb:TE} (h:t σ H λ c H1=>if c=true then ta σ H1 Q else tb σ H1 Q):tIf t ta tb σ H Q:=h
def znA {r r':R2} {ta tb tc:TE} (h:ta σ H λ x H1=>tb σ H1 λ y H2=>r x y H2 λ z H3=>∃ k,z=.bl k /\ if k=true then tc σ H3 λ u H4=>r' y u H4 Q else Q (.bl false) H3):zmD r r' ta tb tc σ H Q:=by
  exact h
def zo5 {K:Bool -> Hp -> Prop} (h:K true H):zoT σ H K:=h
def s_ri {C:Int -> Int -> Prop} {g:Int -> Int -> V} {i j:Int} (c:C i j) (h:Q (g i j) H):rI C g (.int i) (.int j) H Q:=⟨i,j,rfl,rfl,c,h⟩
def zpP {g:Int -> Int -> V} {i j:Int} (h:Q (g i j) H):rI0 g (.int i) (.int j) H Q:=⟨i,j,rfl,rfl,h⟩
def s_ru {g:Int -> V} {i:Int} (h:Q (g i) H):rU g (.int i) H Q:=⟨i,rfl,h⟩
def znl {K:PySem.W.Frag} {i j:Int} (h:Q (.int (i + j)) H):zlJ K (.int i) (.int j) H Q:=.inl ⟨i,j,rfl,rfl,h⟩
def zoV {K:PySem.W.Frag} {i j:Int} (h:Q (.bl (i == j)) H):rEqU K (.int i) (.int j) H Q:=⟨.int i,.int j,.int K H i,.int K H j,rfl,rfl,h⟩
def znX {K:PySem.W.Frag} {i j:Int} (h:Q (.bl (!(i == j))) H):rNeU K (.int i) (.int j) H Q:=⟨.int i,.int j,.int K H i,.int K H j,rfl,rfl,h⟩
def zh8 {K:PySem.W.Frag} {p:Addr} {i:Int} {xs:List V} {v:V} (hq:SqL K H p xs) (h0:0 <= i) (e:xs[i.toNat]?=some v) (h:Q v H):rIx K (.ref p) (.int i) H Q:=by
 have e':atI xs i=some v:=by
  have:=zlk e
  rwa [ybl h0] at this
 exact .inl ⟨p,xs,i,v,rfl,rfl,hq,e',h⟩
def zmB {K:PySem.W.Frag} {p:Addr} {i:Int} {xs:List V} {v:V} (hq:SqT K H p xs) (h0:0 <= i) (e:xs[i.toNat]?=some v) (h:Q v H):rIx K (.ref p) (.int i) H Q:=by
 have e':atI xs i=some v:=by
  have:=zlk e
  rwa [ybl h0] at this
 exact .inr (.inl ⟨p,xs,i,v,rfl,rfl,hq,e',h⟩)
def zn8 {t:TA} {R:It -> Hp -> Prop} (h:t σ H λ vs H1=>∃ j:Int,vs=[.int j] /\ -(2 ^ 62) <= j /\ j < 2 ^ 62 /\ R (Itr 0 j.toNat) H1):zpe t σ H R:=h
def zoc {K:PySem.W.Frag} {t:TE} {R:It -> Hp -> Prop} (h:t σ H λ x H1=>∃ a,x=.ref a /\ (((∃ xs,SqL K H1 a xs) /\ R (Itl K a) H1) \/ ((∃ xs,SqT K H1 a xs) /\ R (Itt K a) H1))):iSeq K t σ H R:=h
def zp1 {K:PySem.W.Frag} {T:String} {r:V -> List V -> Hp -> VK -> Prop} {t:TE} (h:t σ H λ x H1=>tyV K T x H1 /\ r x [] H1 Q):tBM0 K T r t σ H Q:=h
def s_bm {K:PySem.W.Frag} {T:String} {r:V -> List V -> Hp -> VK -> Prop} {t:TE} {ta:TA} (h:t σ H λ x H1=>tyV K T x H1 /\ ta σ H1 λ xs H2=>r x xs H2 Q):tBM K T r t ta σ H Q:=h
end
section
variable {σ:St} {H:Hp} {Q:VK}
def zo2 {K:PySem.W.Frag} {a:Addr} {xs:List V} (hq:SqL K H a xs) (h:Q (.int xs.length) H):rLen K [.ref a] H Q:=⟨_,_,rfl,.inl ⟨xs,hq,rfl⟩,h⟩
def zol {K:PySem.W.Frag} {a:Addr} {xs:List V} (hq:SqT K H a xs) (h:Q (.int xs.length) H):rLen K [.ref a] H Q:=⟨_,_,rfl,.inr ⟨xs,hq,rfl⟩,h⟩
def zp2 {i:Int} (h:Q (.int (if i < 0 then -i else i)) H):rAbs [.int i] H Q:=⟨i,rfl,h⟩
def zpN {i j:Int} (h:Q (.int (if j > i then j else i)) H):zpj [.int i,.int j] H Q:=⟨i,j,rfl,h⟩
def zpM {i j:Int} (h:Q (.int (if j < i then j else i)) H):zoB [.int i,.int j] H Q:=⟨i,j,rfl,h⟩
def zqd {x:V} (h:Q (.bl (decide (x=.non))) H):rIsU x .non H Q:=.inl ⟨rfl,h⟩
def zn5 {x:V} (h:Q (.bl (!decide (x=.non))) H):zod x .non H Q:=.inl ⟨rfl,h⟩
def zo0 {p:Addr} {xs:List V} {y:V} (hp:H p=some (.lst xs)) (hz:xs.length < sizeLine) (h:Q .non (upd H p (.lst (xs ++ [y])))):zlj (.ref p) [y] H Q:=⟨p,xs,y,rfl,rfl,hp,hz,h⟩
def zpC {i:Int} (h:Q (.int (Builtin.Int.intBits i)) H):zoj (.int i) [] H Q:=⟨i,rfl,rfl,h⟩
def zmm {K:PySem.W.Frag} {i:Int} (h:Q (.bl true) H):rIsi K [.int i,.ty "int"] H Q:=⟨_,"int",_,true,rfl,TyOf.int i,rfl,h⟩
def zmd {K:PySem.W.Frag} {i:Int} (h:Q (.bl false) H):rIsi K [.int i,.ty "bool"] H Q:=⟨_,"bool",_,false,rfl,TyOf.int i,rfl,h⟩
def s_sl {r:V -> Option Int -> Option Int -> Hp -> VK -> Prop} {te:TE} {tl th:TO} (h:te σ H λ x H1=>tl σ H1 λ l H2=>th σ H2 λ u H3=>r x l u H3 Q):tSl r te tl th σ H Q:=h
def zlU {K:Option Int -> Hp -> Prop} (h:K none H):zkV σ H K:=h
def zoE {t:TE} {K:Option Int -> Hp -> Prop} (h:t σ H λ x H1=>∃ i,x=.int i /\ K (some i) H1):zpk t σ H K:=h
def zoX {j:Int} {K:Int -> Prop} (h:K j):∃ i,V.int j=.int i /\ K i:=⟨j,rfl,h⟩
def zpH {K:PySem.W.Frag} {t:TA} {R:It -> Hp -> Prop} (h:t σ H λ vs H1=>∃ a xs,vs=[.ref a] /\ SqL K H1 a xs /\ R (Itv K a xs) H1):iRev K t σ H R:=h
def zou {K:PySem.W.Frag} {n:Nat} {t:TGs} {a:Addr} {xs:List V} {K':St -> Hp -> Prop} (hq:SqT K H a xs) (hl:xs.length=n) (h:t xs σ H K'):gTup K n t (.ref a) σ H K':=⟨a,xs,rfl,hq,hl,h⟩
def zn3 {p:Addr} {xs:List V} {k:Int} {j:Nat} {v:V} {K:Hp -> Prop} (hp:H p=some (.lst xs)) (e:ixN xs.length k=some j) (h:K (upd H p (.lst (xs.set j v)))):zm6 (.ref p) (.int k) v H K:=⟨p,xs,k,j,rfl,rfl,hp,e,h⟩
end
def zp5 {K:PySem.W.Frag} {i:Int} {H:Hp} {P:Prop} (h:P):tyV K "int" (.int i) H /\ P:=⟨rfl,h⟩
def zqc {K:PySem.W.Frag} {p:Addr} {xs:List V} {H:Hp} {P:Prop} (hq:SqL K H p xs) (h:P):tyV K "list" (.ref p) H /\ P:=⟨.inl ⟨rfl,xs,hq⟩,h⟩
def zaO {n:Nat} {src:List (Option Nat)} {σ:St} {g:TG} {tc:TT} {te:TE} {Q:VK} {H:Hp} (Pv:Nat -> List V -> Hp -> Prop) (h0:Pv 0 [] H) (len:∀ i acc H,Pv i acc H -> acc.length <= sizeLine)
  (step:∀ i acc H,i < n -> Pv i acc H -> g (.int (i:Nat)) (capt src σ) H λ σ2 H2=>Ext (capt src σ) σ2 /\ tc σ2 H2 λ b H3=>if b=true then te σ2 H3 (λ y H4=>Pv (i + 1) (acc ++ [y]) H4) else Pv (i + 1) acc H3)
  (done:∀ acc H,Pv n acc H -> ∀ p,H p=none -> Q (.ref p) (upd H p (.lst acc))):zcl (Itr 0 n) src σ g tc te Q H:=
 zi9 Pv h0 len (λ i acc H hi p=>by rw [Int.zero_add]; exact step i acc H hi p) done
def zaR {n:Nat} (h:n <= 100000):n < sizeLine:=ybf h (3:)
def zdu {c A B:Prop} [Decidable c] (h1:c -> A) (h2:¬ c -> B):if decide c=true then A else B:=by
 by_cases h:c
 ·rw [if_pos (decide_eq_true h)]; exact h1 h
 ·rw [if_neg (by rw [decide_eq_false h]; exact yay)]; exact h2 h
def zaF {i j:Int} {A B:Prop} (h1:i=j -> A) (h2:¬ i=j -> B):if (i == j)=true then A else B:=by
 by_cases h:i=j
 ·rw [if_pos (by simpa using h)]; exact h1 h
 ·rw [if_neg (by simpa using h)]; exact h2 h
def zoU {i j:Int} {A B:Prop} (h1:¬ i=j -> A) (h2:i=j -> B):if (!(i == j))=true then A else B:=by
 by_cases h:i=j
 ·rw [if_neg (by simp [h])]; exact h2 h
 ·rw [if_pos (by simp [h])]; exact h1 h
def zoC {A B:Prop} (h:B):if (!true)=true then A else B:=iteF h
def zn1 {A B:Prop} (h:A):if (!false)=true then A else B:=iteT h
def zo8 {σ:St} {i:Nat} {v:V} {P:Prop} (h:σ[i]?=some none) (p:P):Ext σ (σ.set i (some v)) /\ P:=⟨zhY h,p⟩
def zpc {σ:St} {i j:Nat} {v u:V} {P:Prop} (h:σ[i]?=some none) (k:(σ.set i (some v))[j]?=some none) (p:P):Ext σ ((σ.set i (some v)).set j (some u)) /\ P:=⟨(zhY h).trans (zhY k),p⟩
section
variable {X:Cx} {K:PySem.W.Frag} {tg l a b e o:Expr} {es:List Expr} {tl ta tb to:TE} {tA:TA}
def k_eq (hu:X.A.units + 64 < cLine) (hK:X.K=K:=by rfl):OpR X (compareOp .Eq) (rEqU K):=hK ▸ zoG hu
def k_ne (hu:X.A.units + 64 < cLine) (hK:X.K=K:=by rfl):OpR X (compareOp .NotEq) (rNeU K):=hK ▸ znW hu
def zbK (hK:X.K=K:=by rfl):OpR X (binaryOp .Add) (zlJ K):=hK ▸ zns
def k_ix (hK:X.K=K:=by rfl):IxR X (rIx K):=hK ▸ zoM
noncomputable def rSlU (K:PySem.W.Frag):V -> Option Int -> Option Int -> Hp -> VK -> Prop:=λ x lo hi H Q=>rSlL K x lo hi H Q \/ rSlT K x lo hi H Q
def k_sl (hK:X.K=K:=by rfl):SlR X (rSlU K):=hK ▸ slU
def k_in (hK:X.K=K:=by rfl):OpR X (compareOp .In) (rIn K false):=hK ▸ zkY
def zhQ (hK:X.K=K:=by rfl):OpR X (compareOp .NotIn) (rIn K true):=hK ▸ zhh
def zbS (hl:PE X l tl) (hK:X.K=K:=by rfl):PI X tg l (iSeq K tl):=hK ▸ zpv hl
def zlu {p pos:Pos} (hm:X.mg "reversed"=none) (ha:PA X [a] tA) (hg:Gl X "reversed":=by rfl) (hs:starEach [a] X.env=[(false,eval a X.env)]:=by rfl) (hK:X.K=K:=by rfl):PI X tg (.Call (.Name "reversed" p) [a] [] pos) (iRev K tA):=hK ▸ zoY hm ha hg hs
def zgu (hK:X.K=K:=by rfl):zcd X (.builtin "len") (rLen K):=hK ▸ zlq
def zh7 (hK:X.K=K:=by rfl):zcd X (.type "tuple") (zks K):=hK ▸ zll
def zn9 (hK:X.K=K:=by rfl):zcd X (.builtin "isinstance") (rIsi K):=hK ▸ zl2
def zc6 {pos:Pos} {k:Nat} {t:TGs} {n:Nat} (hc:X.calm=true) (h:PGs X es t) (hn:(assignEach es X.env).length=n:=by rfl) (hst:(assignEach es X.env).findIdx? (·.1)=none:=by rfl) (hK:X.K=K:=by rfl):PG X (.Tuple es k pos) (gTup K n t):=hK ▸ zpF hc h hn hst
def zpw {name:Str} {apos cpos:Pos} {T id:String} {r:V -> List V -> Hp -> VK -> Prop} (pa:PlainAttrs T) (slot:Slot T name id) (hty:typeOf (.builtin id)=pure (.type "method_descriptor")) (hm:MtR X id r) (ho:PE X o to)
  (hbase:attributeBase o name X.env (eval o X.env)=eval o X.env:=by rfl) (hline:(apos.endLine == cpos.line)=true:=by rfl) (hK:X.K=K:=by rfl):PE X (.Call (.Attribute o name apos) [] [] cpos) (tBM0 K T r to):=hK ▸ zoQ pa slot hty hm ho hbase hline
def k_bm {name:Str} {apos cpos:Pos} {T id:String} {r:V -> List V -> Hp -> VK -> Prop} (pa:PlainAttrs T) (slot:Slot T name id) (hty:typeOf (.builtin id)=pure (.type "method_descriptor")) (hm:MtR X id r) (ho:PE X o to) (ha:PA X (e :: es) tA)
  (hbase:attributeBase o name X.env (eval o X.env)=eval o X.env:=by rfl)
  (hfew : ((backTo cpos (starEach (e :: es) X.env)).all (fun x => !x.1) && (backToKw cpos (keywordEach [] X.env)).all (fun x => x.1.isSome)
   && decide ((e :: es).length + ([]:List Keyword).length + (if ([]:List Keyword).isEmpty then 0 else 1) < 30))=true:=by rfl)
  (hline:(apos.endLine == cpos.line)=true:=by rfl) (hs:starEach (e :: es) X.env=(false,eval e X.env) :: starEach es X.env:=by rfl) (hplain:(backTo cpos (starEach es X.env)).any (·.1)=false:=by rfl) (hK:X.K=K:=by rfl) :
  PE X (.Call (.Attribute o name apos) (e :: es) [] cpos) (tBM K T r to tA):=hK ▸ zpJ pa slot hty hm ho ha hbase hfew hline hs hplain
end
noncomputable abbrev ForW (J:It) (g:TG) (tb:TS) (D:Ends) (σ:St) (H1:Hp):Prop:=∃ W:Nat -> Nat -> St -> Hp -> Prop,(∃ m,W 0 m σ H1) /\ ∀ i m σ H,W i m σ H ->
 (J.stop i H /\ D.nx σ H) \/ (J.go i H /\ ∃ N:St -> Hp -> Prop,(∀ σ' H',N σ' H' -> ∃ m',m' < m /\ W (i + 1) m' σ' H') /\ ∀ x H',J.yld i H x H' -> g x σ H' λ σ2 H2=>tb { D with nx:=N,ct:=N,bk:=D.nx } σ2 H2)
def zcI {n:Nat} {g:TG} {tb:TS} {D:Ends} {σ:St} {H:Hp} (Pv:Nat -> St -> Hp -> Prop) (h0:Pv 0 σ H)
  (hs:∀ i σ H,i < n -> Pv i σ H -> g (.int (i:Nat)) σ H λ σ2 H2=>tb { D with nx:=Pv (i + 1),ct:=Pv (i + 1),bk:=D.nx } σ2 H2) (hd:∀ σ H,Pv n σ H -> D.nx σ H):ForW (Itr 0 n) g tb D σ H:=
 zjM Pv h0 (λ i σ H hi p=>by rw [Int.zero_add]; exact hs i σ H hi p) hd
def zqa {wi:TI} {g:TG} {tb:TS} {D:Ends} {σ:St} {H:Hp} (h:wi σ H λ J H1=>ForW J g tb D σ H1):tFor wi g tb D σ H:=h
def zik {j:Int} {n:Nat} {g:TG} {tb:TS} {D:Ends} {σ:St} {H:Hp} (e:j=(n:Int)) (hn:n <= 1000000) (h:ForW (Itr 0 n) g tb D σ H):∃ i:Int,[V.int j]=[V.int i] /\ -(2 ^ 62) <= i /\ i < 2 ^ 62 /\ ForW (Itr 0 i.toNat) g tb D σ H:=by
 subst e;exact ⟨n,rfl,by omega,by omega,by simpa using h⟩
def zdW {j:Int} {n:Nat} {src:List (Option Nat)} {g:TG} {tc:TT} {te:TE} {Q:VK} {σ:St} {H:Hp} (e:j=(n:Int)) (hn:n <= 1000000) (h:zcl (Itr 0 n) src σ g tc te Q H):∃ i:Int,[V.int j]=[V.int i] /\ -(2 ^ 62) <= i /\ i < 2 ^ 62 /\ zcl (Itr 0 i.toNat) src σ g tc te Q H:=by
 subst e;exact ⟨n,rfl,by omega,by omega,by simpa using h⟩
def zoK {src:List (Option Nat)} {wi:TI} {g:TG} {tc:TT} {te:TE} {σ:St} {H:Hp} {Q:VK} (h:wi σ H λ J H1=>zcl J src σ g tc te Q H1):znn src wi g tc te σ H Q:=h
def zf5 {K:PySem.W.Frag} {a:Addr} {xs:List V} {g:TG} {tb:TS} {D:Ends} {σ:St} {H:Hp} (hA:SqL K H a xs \/ SqT K H a xs) (Pv:Nat -> St -> Hp -> Prop) (h0:Pv 0 σ H)
  (hs:∀ i σ H',Pv i σ H' -> (SqL K H a xs -> SqL K H' a xs) /\ (SqT K H a xs -> SqT K H' a xs))
  (step:∀ i x σ H',xs[i]?=some x -> Pv i σ H' -> g x σ H' λ σ2 H2=>tb { D with nx:=Pv (i + 1),ct:=Pv (i + 1),bk:=D.nx } σ2 H2) (done:∀ σ H',Pv xs.length σ H' -> D.nx σ H') :
  ∃ b,V.ref a=.ref b /\ (((∃ xs,SqL K H b xs) /\ ForW (Itl K b) g tb D σ H) \/ ((∃ xs,SqT K H b xs) /\ ForW (Itt K b) g tb D σ H)):=by
 refine ⟨a,rfl,?_⟩;rcases hA with hA | hA
 ·exact .inl ⟨⟨xs,hA⟩,ziE Pv h0 (λ i σ H' _ p=>(hs i σ H' p).1 hA) step done⟩
 ·exact .inr ⟨⟨xs,hA⟩,znb Pv h0 (λ i σ H' _ p=>(hs i σ H' p).2 hA) step done⟩
def zj4 {K:PySem.W.Frag} {a:Addr} {xs:List V} {src:List (Option Nat)} {σ:St} {g:TG} {tc:TT} {te:TE} {Q:VK} {H:Hp} (hA:SqL K H a xs)
  (h:zcl (Itl K a) src σ g tc te Q H):∃ b,V.ref a=.ref b /\ (((∃ xs,SqL K H b xs) /\ zcl (Itl K b) src σ g tc te Q H) \/ ((∃ xs,SqT K H b xs) /\ zcl (Itt K b) src σ g tc te Q H)):=⟨a,rfl,.inl ⟨⟨xs,hA⟩,h⟩⟩
def zam {H:Hp} {p:Addr} {o:HO} (h:H p=none):Same H (upd H p o):=λ b u e=>by rw [zal (zaq e h)]; exact e
def Same.seqT {K:PySem.W.Frag} {H H':Hp} {a:Addr} {xs:List V} (e:Same H H') (h:SqT K H a xs):SqT K H' a xs:=by
 rcases h with (h | ⟨o,h⟩) | h
 ·exact .inl (.inl (e _ _ h))
 ·exact .inl (.inr ⟨o,e _ _ h⟩)
 ·exact .inr h
structure But (p:Addr) (H H':Hp):Prop where
 keep:∀ b o,b ≠ p -> H b=some o -> H' b=some o
 fst:∀ q r,H p=some (.lst (.ref q :: r)) -> ∃ r',H' p=some (.lst (.ref q :: r'))
def But.refl (p:Addr) (H:Hp):But p H H:=⟨λ _ _ _ h=>h,λ _ r h=>⟨r,h⟩⟩
def But.trans {p:Addr} {H H1 H2:Hp} (a:But p H H1) (b:But p H1 H2):But p H H2:=⟨λ c o n h=>b.keep c o n (a.keep c o n h),λ q r h=>by
 obtain ⟨r1,h1⟩:=a.fst q r h;exact b.fst q r1 h1⟩
def Same.but {p:Addr} {H H':Hp} (s:Same H H'):But p H H':=⟨λ b o _ h=>s b o h,λ q r h=>⟨r,s _ _ h⟩⟩
def But.updL {p q:Addr} {H:Hp} {r r':List V} (h:H p=some (.lst (.ref q :: r))):But p H (upd H p (.lst (.ref q :: r'))):=⟨λ b u n e=>by rw [zal n]; exact e,λ q' r2 e=>by
 rw [h] at e;cases e;exact ⟨r',zai⟩⟩
def Same.upd' {q:Addr} {H0 H:Hp} {o:HO} (b:Same H0 H) (hq:H0 q=none):Same H0 (L2.upd H q o):=λ c u h=>by rw [zal (zaq h hq)]; exact b c u h
end L2
namespace PySem
namespace F
end F
section
variable {prog:Program} {w:World} {A:Around} {E:Value -> Shared -> Prop} {s:Shared}
end
end PySem
namespace L2
open PySem PySem.Spec PyProof.Rows
section
variable {X:Cx} {pins:List (Addr × Obj)} {σ:St} {H:Hp} {s:Shared} {h':Heap} {ch:List Addr}
end
section
variable {X:Cx} {K:PySem.W.Frag} {a:Expr} {ta:TA} {p p2 pos pos2:Pos}
end
section
variable {σ:St} {H:Hp} {Q:VK}
end
def zi6 {prog:Program} {w:World} {A:Around} {e it l:Addr} (hei:e ≠ it) (hle:l ≠ e) (hli:l ≠ it) {items:Array Value} {i:Nat} {s:Shared} {Q:Option Value -> Shared -> Prop} {E:Value -> Shared -> Prop} (hi:i < items.size)
  (hst:(∃ old,IsEnum s.heap e it i old) /\ s.heap.IsListIter it l i /\ s.heap.IsList l items)
  (hQ : ∀ T vals h' tk, (∃ t x, items[i]? = some x /\ vals = #[.int i t, x]) -> s.heap.objs.size <= T -> za5 h' T vals ->
   ((∃ x,IsEnumOut h' e it ((i:Int) + 1) x T) /\ h'.IsListIter it l (i + 1) /\ h'.IsList l items /\ T ≠ e /\ T ≠ it) ->
   (∀ b o,b ∉ [e,it] -> s.heap.get? b=some o -> h'.get? b=some o) -> Q (some (.ref T)) { s with heap:=h',toks:=tk }) :
  wpAny (model prog w) A (pyNext (.ref e)) Q E s:=by
 obtain ⟨⟨old,he⟩,hit,hl⟩:=hst;have hx:items[i]?=some items[i]:=Array.getElem?_eq_getElem hi;have l1:e < s.heap.objs.size:=yae he;have l2:it < s.heap.objs.size:=by obtain ⟨_,x,_⟩:=hit; exact yae x
 refine wpAny_pyNext_enum_item he hit hl hx hei λ h' ho hit' hT hsz hk=>?_;refine hQ s.heap.objs.size #[.int i s.toks,items[i]] h' (s.toks + 1) ⟨_,_,hx,rfl⟩ (yah _) ⟨_,hT,rfl,rfl,_,rfl⟩ ⟨⟨_,ho⟩,hit',?_,ybo l1,ybo l2⟩ ?_
 ·exact hl.at λ o x=>hk l o hle hli x
 ·exact λ b o hb x=>hk b o (λ z=>hb (by simp [z])) (λ z=>hb (by simp [z])) x
def zhG {prog:Program} {w:World} {A:Around} {it:Addr} {fp:List Addr} {n:Nat} {P:Nat -> Value -> Prop} {St:Nat -> Heap -> Prop} (D:Draws prog w A.in1 it fp n P St) {e:Addr} (hei:e ≠ it) (hef:e ∉ fp) {i:Nat} {s:Shared} {Q:Option Value -> Shared -> Prop} {E:Value -> Shared -> Prop} (hi:i < n)
  (hst:(∃ old,IsEnum s.heap e it i old) /\ St i s.heap)
  (hQ : ∀ T vals h' tk, (∃ t x, P i x /\ vals = #[.int i t, x]) -> s.heap.objs.size <= T -> za5 h' T vals ->
   ((∃ x,IsEnumOut h' e it ((i:Int) + 1) x T) /\ St (i + 1) h' /\ T ≠ e /\ T ≠ it) ->
   (∀ b o,b ∉ [e,it] -> s.heap.get? b=some o -> h'.get? b=some o) -> Q (some (.ref T)) { s with heap:=h',toks:=tk }) :
  wpAny (model prog w) A (pyNext (.ref e)) Q E s:=by
 obtain ⟨⟨old,he⟩,hs⟩:=hst;have l1:e < s.heap.objs.size:=yae he;have l2:it < s.heap.objs.size:=by obtain ⟨_,y⟩:=D.live _ _ hs; exact yae y
 refine wpAny_pyNext_enum_itemD D he hs hi hei hef λ x h' tk hP ho hs' hT hsz hk=>?_;refine hQ s.heap.objs.size #[.int i tk,x] h' (tk + 1) ⟨_,_,hP,rfl⟩ (yah _) ⟨_,hT,rfl,rfl,_,rfl⟩ ⟨⟨_,ho⟩,hs',ybo l1,ybo l2⟩ ?_;exact λ b o hb y=>hk b o (λ z=>hb (by simp [z])) (λ z=>hb (by simp [z])) y
end L2
namespace PySem
open Sem (wp)
open AutoSeq1 (wpAny_loadPart')
section
variable {prog:Program} {w:World} {A:Around} {E:Value -> Shared -> Prop} {s:Shared}
def zc3 {Q:List Value -> Shared -> Prop} {r:Addr} {a b c:Int} {t u v:Tok} {n:Nat} (hh:A.handled=none) (hr:IsRange s.heap r a b c t u v) (hsmall:Builtin.Range.small a b c=true)
    (hn:Builtin.Range.rangeSize a b c=n) (hlen:n <= 2 ^ 24)
    (hQ:∀ (h':Heap) (tk:Nat) (acc:Array Value),(∀ b o,s.heap.get? b=some o -> h'.get? b=some o) -> ItemsOf (λ i v=>∃ t,v=.int (a + i * c) t) acc n -> Q acc.toList { s with heap:=h',toks:=tk }) :
    wpAny (model prog w) A (collect (.ref r)) Q E s:=by
  have hS:(s.heap.push { cls:=.type "list",dict:=none,data:=.seq ([]:List Value).toArray }).get? s.heap.objs.size=some { cls:=.type "list",data:=.seq #[] }:=yal _ rfl
  have step:∀ R:Result -> Shared -> Prop,(∀ h' tk acc' c',(∀ b o,b ≠ s.heap.objs.size -> (s.heap.push { cls:=.type "list",dict:=none,data:=.seq ([]:List Value).toArray }).get? b=some o -> h'.get? b=some o) ->
      h'.get? s.heap.objs.size=some { cls:=.type "list",dict:=none,data:=.seq acc' c',slots:=#[] } -> ItemsOf (λ i v=>∃ t,v=.int (a + i * c) t) acc' n -> R (.ok (.ret (.ref s.heap.objs.size))) { s with heap:=h',toks:=tk }) ->
      codeAny (model prog w) A (.builtin "list.__iadd__" ⟨[.ref s.heap.objs.size,.ref r],[]⟩) R { s with heap:=s.heap.push { cls:=.type "list",dict:=none,data:=.seq ([]:List Value).toArray } }:=λ R hR=>by
    refine codeAny_builtin F.entry_list_iadd ?_;rw [Around.under_plainId F.plain_list_iadd _];exact wpAny_extend_range (R:=R) (s:={ s with heap:=s.heap.push { cls:=.type "list",dict:=none,data:=.seq ([]:List Value).toArray } }) hh (yac _ hr) hsmall hn hlen s.heap.objs.size (.ref s.heap.objs.size) _ hS hR
  unfold collect;refine wpAny_bind (wpAny_runValue (codeAny_builtin F.entry_proto_collect ?_));rw [Around.under_plainId F.plain_proto_collect _];show wpAny _ A.in1 (newList [] >>= λ l=>again (.builtin "list.__iadd__" ⟨[l,.ref r],[]⟩)) _ _ s;refine wpAny_bind (wpAny_newObj_type ?_);refine wpAny_pure ⟨plainId_quiet F.plain_list_iadd _,step _ λ h' tk acc' c' hk hS' hacc=>?_⟩;show wpAny _ A (load s.heap.objs.size >>= _) _ _ _;refine wpAny_bind (wpAny_load hS' ?_);exact wpAny_pure (hQ h' tk acc' (λ b o e=>hk b o (yap (yae e)) (yac _ e)) hacc)
end
def zcn (r:Addr) (a b c:Int) (t u v:Tok) (n:Nat) (hsmall:Builtin.Range.small a b c=true) (hn:Builtin.Range.rangeSize a b c=n) (hlen:n <= 2 ^ 24) :
  Meets (Builtin.«tuple.__new__» ⟨[.type "tuple",.ref r],[]⟩)
   (fun A R s => A.handled = none /\ IsRange s.heap r a b c t u v /\ ∀ (h' : Heap) (tk : Nat) (acc : Array Value), (∀ b o, s.heap.get? b = some o -> h'.get? b = some o) -> ItemsOf (fun i v => ∃ t, v = .int (a + i * c) t) acc n ->
    R (.ok (.ret (.ref h'.objs.size))) { s with heap:=h'.push { cls:=.type "tuple",data:=.seq acc },toks:=tk }):=
 .of_wp λ prog w A R s h=>by
  obtain ⟨hh,hr,h⟩:=h;have hsub:=sub_tuple_self;have hinit:=init_tuple_lookup;have hmh:=madeHere_tuple;have hT:s.TypeIs (.ref r) "range":=⟨_,hr,rfl⟩
  have hh1:A.in1.handled=none:=hh
  wp_walk using wpAny_typeOf hT,zc3 hh1 hr hsmall hn hlen
  intro h' tk acc hk hacc;show wpAny _ _ (Builtin.Tuple.tupleExact acc.toList.toArray >>= λ v=>ret v) _ _ _;unfold Builtin.Tuple.tupleExact;refine wpAny_bind (wpAny_newObj_type ?_ (show acc.toList.toArray.size <= sizeLine by simp only [Array.toArray_toList]; rw [hacc.1,sizeLine_eq]; omega));refine wpAny_pure ⟨_,rfl,?_⟩;have e:acc.toList.toArray=acc:=by simp
  rw [e];exact h h' tk acc hk hacc
section
variable {prog:Program} {w:World} {A:Around} {E:Value -> Shared -> Prop} {s:Shared}
def zd0 {Q:Value -> Shared -> Prop} {r:Addr} {a b c:Int} {t u v:Tok} {n:Nat} (hh:A.handled=none) (hr:IsRange s.heap r a b c t u v) (hsmall:Builtin.Range.small a b c=true)
  (hn:Builtin.Range.rangeSize a b c=n) (hlen:n <= 2 ^ 24)
  (h:∀ (h':Heap) (tk:Nat) (acc:Array Value),(∀ b o,s.heap.get? b=some o -> h'.get? b=some o) -> ItemsOf (λ i v=>∃ t,v=.int (a + i * c) t) acc n -> Q (.ref h'.objs.size) { s with heap:=h'.push { cls:=.type "tuple",data:=.seq acc },toks:=tk }) :
  wpAny (model prog w) A (call (.type "tuple") [.ref r]) Q E s:=by
 refine callType_new F.called_tuple (3:) (F.typeCall_tuple_1 _) (F.newCall_tuple_1 _) (λ obj=>F.args_object_init_2 obj _) F.entry_tuple_new
  (zcn r a b c t u v n hsmall hn hlen) ⟨hh,hr,λ h' tk acc hk hacc=>⟨⟨_,yal _ rfl,rfl⟩,?_⟩⟩
 exact h h' tk acc hk hacc
def zbU {it l:Addr} {i:Nat} {items} {x:Value} {Q:Value -> Shared -> Prop} (hit:s.heap.IsTupleIter it l i)
  (hl:s.heap.IsTuple l items) (hx:items[i]?=some x)
  (hQ:∀ h',h'.IsTupleIter it l (i + 1) -> Heap.SameBut it s.heap h' -> Q x { s with heap:=h' }) :
  wpAny (model prog w) A (Builtin.SmallTypes.nextOf (.ref it)) Q E s:=by
 obtain ⟨o,ho,hc,hd⟩:=id hit;obtain ⟨ol,hol,_,nl,hdl⟩:=hl;unfold Builtin.SmallTypes.nextOf
 refine wpAny_bind (wpAny_callSpecial?_slot (name:=Str.ofString "__next__") hit.typeIs ybn
  (wpAny_call_entry ybn hit.typeIs F.entry_tuple_iterator_next ?_ (F.args_tuple_iterator_next_1 _)))
 show wpAny _ _ (field (.ref it) 0 >>= _) _ _ s;refine wpAny_bind (wpAny_field ho hd (x:=.ref l) rfl ?_);show wpAny _ _ (if (Value.ref l == Value.none)=true then _ else _) _ _ s;rw [if_neg (show ¬ ((Value.ref l == Value.none)=true) from yay)];show wpAny _ _ (field (.ref it) 1 >>= _) _ _ s;refine wpAny_bind (wpAny_field ho hd (x:=.int i 0) rfl ?_);show wpAny _ _ (seqItems? (.ref l) >>= _) _ _ s;refine wpAny_bind (wpAny_seqItems hol hdl ?_);simp only [yam,hx];refine wpAny_bind (wpAny_setField ho hd (5:) (wpAny_pure ⟨x,rfl,wpAny_pure (hQ _ ?_ (Heap.SameBut.update ..))⟩))
 exact ⟨_,ybd _ ho (Obj.isFreed_of_fields (yb0 hd _)),(Obj.cls_mapFields ..).trans hc,by
  rw [yb0 hd]; simp [rawInt]⟩
def zcc {it l:Addr} {i:Nat} {items} {Q:Value -> Shared -> Prop} (hh:A.handled=none)
  (hit:s.heap.IsTupleIter it l i) (hl:s.heap.IsTuple l items) (hx:items[i]?=none)
  (hE:∀ h' e,Heap.ExtBut it s.heap h' -> (∃ o,h'.get? e=some o /\ o.cls=.type "StopIteration") -> E (.ref e) { s with heap:=h' }) :
  wpAny (model prog w) A (Builtin.SmallTypes.nextOf (.ref it)) Q E s:=by
 obtain ⟨o,ho,hc,hd⟩:=id hit;obtain ⟨ol,hol,_,nl,hdl⟩:=hl;unfold Builtin.SmallTypes.nextOf
 refine wpAny_bind (wpAny_callSpecial?_slot (name:=Str.ofString "__next__") hit.typeIs ybn
  (wpAny_call_entry ybn hit.typeIs F.entry_tuple_iterator_next ?_ (F.args_tuple_iterator_next_1 _)))
 show wpAny _ _ (field (.ref it) 0 >>= _) _ _ s;refine wpAny_bind (wpAny_field ho hd (x:=.ref l) rfl ?_);show wpAny _ _ (if (Value.ref l == Value.none)=true then _ else _) _ _ s;rw [if_neg (show ¬ ((Value.ref l == Value.none)=true) from yay)];show wpAny _ _ (field (.ref it) 1 >>= _) _ _ s;refine wpAny_bind (wpAny_field ho hd (x:=.int i 0) rfl ?_);show wpAny _ _ (seqItems? (.ref l) >>= _) _ _ s;refine wpAny_bind (wpAny_seqItems hol hdl ?_);simp only [yam,hx];refine wpAny_bind (wpAny_rule (wpAny_bind (wpAny_setField ho hd (5:) ?_)));show wpAny _ _ (newExc (.type "StopIteration") [] >>= _) _ _ _;refine wpAny_bind ?_;simp only [newExc,newTuple];refine wpAny_bind (wpAny_newObj_type ?_ (by size_fits));refine wpAny_bind (m:=firstArgMember _ _) (wpAny_of_eq (a:=Value.none) (by first | rfl | (simp only [firstArgMember]; rfl)) ?_);refine wpAny_newObj_type ?_ (by size_fits);simp only [raiseNew];refine wpAny_bind (wpAny_handled ?_)
 first | rw [show A.in1.handled=none from hh] | rw [hh]
 refine wpAny_bind (wpAny_pure (wpAny_throw ?_));exact hE _ _ (((Heap.SameBut.update ..).extBut.push _).push _) ⟨_,yal _ rfl,rfl⟩
end
def Draws.tuple {prog:Program} {w:World} {A:Around} (hh:A.handled=none) (it l:Addr) (hne:l ≠ it) (items:Array Value) :
  Draws prog w A it [it,l] items.size (λ i v=>items[i]?=some v) (λ i h=>h.IsTupleIter it l i /\ h.IsTuple l items) where
 live:=λ _ _ st=>let ⟨o,ho,_⟩:=st.1; ⟨o,ho⟩
 frame:=λ _ _ _ st hk=>⟨st.1.at λ o e=>hk it (5:) o e,st.2.at λ o e=>hk l (5:) o e⟩
 item:=λ i s Q E hi st hQ=>by
  refine zbU st.1 st.2 (x:=items[i]) (by simp [hi]) λ h' hit' hs'=>?_;exact hQ _ h' s.toks (by simp [hi]) ⟨hit',st.2.at λ o e=>hs'.extBut _ o hne e⟩ hs'
 done:=λ s Q E st hE=>zcc hh st.1 st.2 (5:) hE
def zcK (l:Addr) (items:Array Value) (n:Nat) (dct:Option Addr) (sl:Array (Option Value)) :
  Meets (Builtin.«enumerate.__new__» ⟨[.type "enumerate",.ref l],[]⟩) (λ _ R s=>s.heap.get? l=some { cls:=.type "tuple",dict:=dct,data:=.seq items n,slots:=sl } /\
   R (.ok (.ret (.ref (s.heap.push { cls:=.type "tuple_iterator",data:=.fields #[.ref l,.int 0 0] }).objs.size)))
    { s with heap:=(s.heap.push { cls:=.type "tuple_iterator",data:=.fields #[.ref l,.int 0 0] }).push { cls:=.type "enumerate",data:=.fields #[.none,.bool false,.ref s.heap.objs.size,rawInt 0,.none,.none] } }):=
 .of_wp λ prog w A R s h=>by
  obtain ⟨hp,g,d,tk,os⟩:=s; obtain ⟨hl,h⟩:=h;have hsub:=sub_enumerate;have hL:Heap.IsTuple (Shared.heap ⟨hp,g,d,tk,os⟩) l items:=⟨_,hl,rfl,n,rfl⟩
  wp_walk using wpAny_loadPart' hl
  refine wpAny_stack_any λ st=>wpAny_pure ?_
  split
  ·rename_i c _ _ _ _ _;cases (c == Value.type "enumerate")
   ·wp_walk using wpAny_loadPart' hl, wpAny_pyIter_tuple hL
    exact ⟨_,rfl,h⟩
   ·wp_walk using wpAny_loadPart' hl, wpAny_pyIter_tuple hL
    exact ⟨_,rfl,h⟩
  ·wp_walk using wpAny_loadPart' hl, wpAny_pyIter_tuple hL
   exact ⟨_,rfl,h⟩
section
variable {prog:Program} {w:World} {A:Around} {E:Value -> Shared -> Prop} {s:Shared}
def zcL {l:Addr} {items:Array Value} {Q:Value -> Shared -> Prop} (hL:s.heap.IsTuple l items)
    (h:∀ h',IsEnum h' (s.heap.objs.size + 1) s.heap.objs.size 0 .none -> h'.IsTupleIter s.heap.objs.size l 0 -> h'.objs.size=s.heap.objs.size + 2 ->
      (∀ b o,s.heap.get? b=some o -> h'.get? b=some o) -> Q (.ref (s.heap.objs.size + 1)) { s with heap:=h' }) :
    wpAny (model prog w) A (call (.type "enumerate") [.ref l]) Q E s:=by
  obtain ⟨⟨c,dct,dt,sl⟩,hl,hc,n,hd⟩:=hL
  replace hc:c=.type "tuple":=hc
  replace hd:dt=.seq items n:=hd
  subst hc hd
  refine callType_new F.called_enumerate (3:) (F.typeCall_enumerate_1 _) (F.newCall_enumerate_1 _) (λ obj=>F.args_object_init_2 obj _) F.entry_enumerate_new
    (zcK l items n dct sl) ⟨hl,?_⟩
  have hz:(s.heap.push { cls:=.type "tuple_iterator",data:=.fields #[.ref l,.int 0 0] }).objs.size=s.heap.objs.size + 1:=ybh ..;show _ /\ _;rw [hz]
  have he:IsEnum ((s.heap.push { cls:=.type "tuple_iterator",data:=.fields #[.ref l,.int 0 0] }).push
      { cls:=.type "enumerate",data:=.fields #[.none,.bool false,.ref s.heap.objs.size,rawInt 0,.none,.none] }) (s.heap.objs.size + 1) s.heap.objs.size 0 .none:=by
    have:=yal (s.heap.push { cls:=.type "tuple_iterator",data:=.fields #[.ref l,.int 0 0] })
      (o:={ cls:=.type "enumerate",data:=.fields #[.none,.bool false,.ref s.heap.objs.size,rawInt 0,.none,.none] }) rfl
    rw [hz] at this; exact this
  refine ⟨⟨_,he,rfl⟩,h _ he ⟨_,yac _ (yal _ rfl),rfl,rfl⟩ (by rw [ybh,hz]) λ b o x=>yac _ (yac _ x)⟩
end
end PySem
namespace L2
open PySem PySem.Spec PyProof.Rows
section
variable {X:Cx} {K:PySem.W.Frag} {a:Expr} {ta:TA} {p p2 pos pos2:Pos}
def zeW {acc:Array Value} {n:Nat} (h:ItemsOf (λ i v=>∃ t,v=Value.int ((0:Int) + i * 1) t) acc n):Vals ((List.range n).map λ (x:Nat)=>V.int (x:Int)) acc.toList:=by
 obtain ⟨h1,h2⟩:=h
 have key:∀ (k:Nat) (l:List Value) (j:Nat),l.length=k -> (∀ i v,l[i]?=some v -> ∃ t,v=Value.int ((j + i:Nat):Int) t) -> Vals ((List.range' j k).map λ (x:Nat)=>V.int (x:Int)) l:=by
  intro k
  induction k with
  | zero=>
   intro l j hl _;cases l with
   | nil=>exact .nil
   | cons _ _=>simp at hl
  | succ k ih=>
   intro l j hl hv;cases l with
   | nil=>simp at hl
   | cons x r=>
    rw [List.range'_succ,ycv];refine .cons (hv 0 x rfl) (ih r (j + 1) (by simpa using hl) λ i v e=>?_);obtain ⟨t,q⟩:=hv (i + 1) v (by simpa using e);exact ⟨t,by rw [q]; congr 1; omega⟩
 rw [List.range_eq_range'];refine key n acc.toList 0 (by simpa using h1) λ i v e=>?_;obtain ⟨t,q⟩:=h2 i v (by simpa using e);exact ⟨t,by rw [q]; congr 1; omega⟩
noncomputable def zkf (ta:TA):TE:=λ σ H Q=>ta σ H λ vs H1=>∃ n:Nat,vs=[.int n] /\ n <= 1000000 /\ ∀ l,H1 l=none -> Q (.ref l) (upd H1 l (.lst ((List.range n).map λ (x:Nat)=>V.int (x:Int))))
noncomputable def zkQ (ta:TA):TE:=λ σ H Q=>ta σ H λ vs H1=>∃ n:Nat,vs=[.int n] /\ n <= 1000000 /\ ∀ l,H1 l=none -> Q (.ref l) (upd H1 l (.tup ((List.range n).map λ (x:Nat)=>V.int (x:Int))))
def zjO {n:Nat} (h:n <= 1000000):Builtin.Range.small 0 (n:Int) 1=true:=small_one (1:) (1:) (1:) (1:)
def zmt {n:Nat}:Builtin.Range.rangeSize 0 (n:Int) 1=(n:Nat):=by
 rw [rangeSize_one]; split <;> omega
def zd1 (hc:X.calm=true) (hml:X.mg "list"=none) (hmr:X.mg "range"=none) (ha:PA X [a] ta) (hgl:Gl X "list":=by rfl) (hgr:Gl X "range":=by rfl) (hK:X.K=K:=by rfl)
  (hs:starEach [a] X.env=[(false,eval a X.env)]:=by rfl)
  (hs1:starEach [(.Call (.Name "range" p) [a] [] pos:Expr)] X.env=[(false,eval (.Call (.Name "range" p) [a] [] pos) X.env)]:=by rfl) :
  PE X (.Call (.Name "list" p2) [.Call (.Name "range" p) [a] [] pos] [] pos2) (zkf ta):=by
 intro pins s σ H Q I h;refine wpAny_Call_Name_kw (zce I hgl hml boot_list ?_);refine yaD ?_ hs1 rfl;rw [hs1];show wpAny _ _ (spliced ((false,eval (.Call (.Name "range" p) [a] [] pos) X.env) :: backTo pos2 [])) _ _ s;refine ycs ?_;refine Call_ (zce I hgr hmr boot_range (yaD (thn (ha pos pins s σ H _ I h) λ us s1 ⟨vs,H1,I1,r1,q1⟩=>?_) hs rfl));obtain ⟨n,e,hn,q⟩:=q1;subst e;cases r1 with
 | cons r rr=>
  cases rr;obtain ⟨t,rfl⟩:=r;refine call_range_1 ?_;have I2:Inv X pins σ H1 { s1 with heap:=s1.heap.push { cls:=.type "range",data:=.fields #[.int 0 s1.toks,.int n t,.int 1 (s1.toks + 1)] },toks:=s1.toks + 1 + 1 }:=I1.kept λ b o e=>yac _ e;refine Calls.spliced_nil ?_;refine call_list_range (I.ok.hd hc) (IsRange.new ..) (zjO hn) zmt (1:) λ h' tk acc' c' hk hS' hacc=>?_;have rv:=zeW hacc;exact ⟨.ref _,_,I2.laid (t':=tk) (o:=.lst _) hk (yah _) ⟨by rw [yad,yar,sizeLine_eq]; omega,_,c',rv,by simpa using hS'⟩,rfl,q _ (I2.hok.fresh (yah _))⟩
def zdI (hc:X.calm=true) (hml:X.mg "tuple"=none) (hmr:X.mg "range"=none) (ha:PA X [a] ta) (hgl:Gl X "tuple":=by rfl) (hgr:Gl X "range":=by rfl) (hK:X.K=K:=by rfl)
  (hs:starEach [a] X.env=[(false,eval a X.env)]:=by rfl)
  (hs1:starEach [(.Call (.Name "range" p) [a] [] pos:Expr)] X.env=[(false,eval (.Call (.Name "range" p) [a] [] pos) X.env)]:=by rfl) :
  PE X (.Call (.Name "tuple" p2) [.Call (.Name "range" p) [a] [] pos] [] pos2) (zkQ ta):=by
 intro pins s σ H Q I h;refine wpAny_Call_Name_kw (zce I hgl hml boot_tuple ?_);refine yaD ?_ hs1 rfl;rw [hs1];show wpAny _ _ (spliced ((false,eval (.Call (.Name "range" p) [a] [] pos) X.env) :: backTo pos2 [])) _ _ s;refine ycs ?_;refine Call_ (zce I hgr hmr boot_range (yaD (thn (ha pos pins s σ H _ I h) λ us s1 ⟨vs,H1,I1,r1,q1⟩=>?_) hs rfl));obtain ⟨n,e,hn,q⟩:=q1;subst e;cases r1 with
 | cons r rr=>
  cases rr;obtain ⟨t,rfl⟩:=r;refine call_range_1 ?_;have I2:Inv X pins σ H1 { s1 with heap:=s1.heap.push { cls:=.type "range",data:=.fields #[.int 0 s1.toks,.int n t,.int 1 (s1.toks + 1)] },toks:=s1.toks + 1 + 1 }:=I1.kept λ b o e=>yac _ e;refine Calls.spliced_nil ?_;refine zd0 (I.ok.hd hc) (IsRange.new ..) (zjO hn) zmt (1:) λ h' tk acc' hk hacc=>?_;have rv:=zeW hacc;have I3:Inv X pins σ H1 { s1 with heap:=h',toks:=tk }:=I2.kept (h':=h') (t':=tk) hk;exact ⟨.ref _,_,I3.laid (t':=tk) (o:=.tup _) (λ b o e=>yac _ e) (yah _) ⟨by rw [yad,yar,sizeLine_eq]; omega,_,rv,by simpa using za5.new _ _⟩,rfl,q _ (I3.hok.fresh (yah _))⟩
end
section
variable {σ:St} {H:Hp} {Q:VK}
def zlw {t:TA} (h:t σ H λ vs H1=>∃ n:Nat,vs=[.int n] /\ n <= 1000000 /\ ∀ l,H1 l=none -> Q (.ref l) (upd H1 l (.lst ((List.range n).map λ (x:Nat)=>V.int (x:Int))))):zkf t σ H Q:=h
def zl7 {t:TA} (h:t σ H λ vs H1=>∃ n:Nat,vs=[.int n] /\ n <= 1000000 /\ ∀ l,H1 l=none -> Q (.ref l) (upd H1 l (.tup ((List.range n).map λ (x:Nat)=>V.int (x:Int))))):zkQ t σ H Q:=h
end
noncomputable def IteL (K:PySem.W.Frag) (a:Addr) (xs:List V):It:=
 ⟨λ i H=>i < xs.length /\ SqL K H a xs,λ i H x H'=>∃ T u,x=.ref T /\ H T=none /\ H'=upd H T (.tup [.int (i:Int),u]) /\ xs[i]?=some u,λ i H=>i=xs.length /\ SqL K H a xs⟩
def zi4 {P:Program} {w:World} {K:PySem.W.Frag} {elts:List Expr} {kk:Nat} {tpos:Pos} (a e it:Addr) (hei:e ≠ it) (hae:a ≠ e) (hai:a ≠ it) (xs:List V) :
  Turn P w K (.Tuple elts kk tpos) (IteL K a xs) [e,it] e (λ i h=>(∃ old,IsEnum h e it i old) /\ h.IsListIter it a i):=by
 refine ⟨by simp,?_,?_,?_,?_,?_⟩
 ·rintro i h ⟨⟨old, he⟩, h1⟩ c hc;simp only [yao, yaL, or_false] at hc;rcases hc with rfl | rfl
  ·exact ⟨_,he,λ v q=>nomatch q⟩
  ·obtain ⟨o,e,c,d⟩:=h1; exact ⟨o,e,λ v q=>by rw [d] at q; cases q⟩
 ·rintro i h h' ⟨⟨old,he⟩,h1⟩ k;exact ⟨⟨old,k e (5:) _ he⟩,h1.at λ o q=>k it (5:) o q⟩
 ·intro X hP hw hK hc i pins s σ H E I hf st hg;subst hP hw hK;obtain ⟨hi, hqa⟩ := hg;obtain ⟨he, h1⟩ := st;obtain ⟨ia, ra, pa, za⟩ := I.list hqa;have la := ra.length;have W := WalksT.enumerate (prog := X.prog) (w := X.w) (A := X.A) (I.ok.hd hc) e it a hei hae hai ia.toArray;refine zi6 (items := ia.toArray) hei hae hai (by simpa [<- la] using hi) ⟨he, h1, pa.isList⟩ fun T vals h' tk hP hfr hT hm hk => ?_;obtain ⟨t, u, eu, rfl⟩ := hP;refine ⟨_, rfl, W.go elts kk tpos i T _ _ _ hm fun h2 st2 hk2 => ?_⟩;have eu' : ia[i]? = some u := by simpa using eu
  obtain ⟨u',hu',ru⟩:=ra.get (yaa hi);rw [eu'] at hu'; cases hu';have hTw:T ∉ [e,it]:=W.apart i T _ hm
  have hT2:za5 h2 T [Value.int (i:Int) t,u].toArray:=by
   obtain ⟨o,e,c,n,d⟩:=hT;exact ⟨o,hk2 T o hTw e,c,n,d⟩
  refine ⟨.ref T,upd H T (.tup [.int (i:Int),xs[i]]),I.turnTup (ch:=[e,it]) (t':=tk) (λ c hc=>hf c hc) (λ c o hc q=>hk2 c o hc (hk c o hc q)) hfr hT2 (.cons ⟨t,rfl⟩ (.cons ru .nil)) (59:),rfl,
   ⟨T,_,rfl,I.hok.fresh hfr,rfl,yaa hi⟩,⟨st2.1,st2.2.1⟩,λ c hc=>?_⟩
  have hcl:c < s.heap.objs.size:=by
   simp only [yao,yaL,or_false] at hc;obtain ⟨old,he⟩:=he;rcases hc with rfl | rfl
   ·exact yae he
   ·obtain ⟨o,e,_⟩:=h1; exact yae e
  rw [zal (yap (yaf hcl hfr))];exact (hf c hc).1
 ·intro X hP hw hK hc i pins s σ H E I hf st hg;subst hP hw hK;obtain ⟨hi, hqa⟩ := hg;obtain ⟨he, h1⟩ := st;obtain ⟨ia, ra, pa, za⟩ := I.list hqa;have la := ra.length;have W := WalksT.enumerate (prog := X.prog) (w := X.w) (A := X.A) (I.ok.hd hc) e it a hei hae hai ia.toArray;have hi' : i = ia.toArray.size := by simpa [<- la] using hi
  refine W.done s _ _ (hi' ▸ ⟨he,h1,pa.isList⟩) λ h' tk hk=>⟨rfl,I.turnL (ch:=[e,it]) (λ c hc=>hf c hc) hk⟩
 ·rintro A i s Q E ⟨⟨old,he⟩,_⟩ h;exact wpAny_pyIter_enum he h
noncomputable def IteT (K:PySem.W.Frag) (a:Addr) (xs:List V):It:=
 ⟨λ i H=>i < xs.length /\ SqT K H a xs,λ i H x H'=>∃ T u,x=.ref T /\ H T=none /\ H'=upd H T (.tup [.int (i:Int),u]) /\ xs[i]?=some u,λ i H=>i=xs.length /\ SqT K H a xs⟩
def zjt {P:Program} {w:World} {K:PySem.W.Frag} {elts:List Expr} {kk:Nat} {tpos:Pos} (a e it:Addr) (hei:e ≠ it) (hae:a ≠ e) (hai:a ≠ it) (xs:List V) :
  Turn P w K (.Tuple elts kk tpos) (IteT K a xs) [e,it] e (λ i h=>(∃ old,IsEnum h e it i old) /\ h.IsTupleIter it a i):=by
 refine ⟨by simp,?_,?_,?_,?_,?_⟩
 ·rintro i h ⟨⟨old, he⟩, h1⟩ c hc;simp only [yao, yaL, or_false] at hc;rcases hc with rfl | rfl
  ·exact ⟨_,he,λ v q=>nomatch q⟩
  ·obtain ⟨o,e,c,d⟩:=h1; exact ⟨o,e,λ v q=>by rw [d] at q; cases q⟩
 ·rintro i h h' ⟨⟨old,he⟩,h1⟩ k;exact ⟨⟨old,k e (5:) _ he⟩,h1.at λ o q=>k it (5:) o q⟩
 ·intro X hP hw hK hc i pins s σ H E I hf st hg;subst hP hw hK;obtain ⟨hi, hqa⟩ := hg;obtain ⟨he, h1⟩ := st;obtain ⟨ia, ra, pa, za⟩ := I.tuple hqa;have la := ra.length;have W := WalksT.enumerateD (prog := X.prog) (w := X.w) (A := X.A) (Draws.tuple (A := X.A.in1) (I.ok.hd hc) it a hai ia.toArray) e hei (fun z => (yao.mp z).elim (fun q => hei q) (fun q => hae (yaz.mp q).symm)) (5:);refine zhG (Draws.tuple (A := X.A.in1) (I.ok.hd hc) it a hai ia.toArray) hei (fun z => (yao.mp z).elim (fun q => hei q) (fun q => hae (yaz.mp q).symm)) (by simpa [<- la] using hi) ⟨he, h1, (show s.heap.IsTuple a ia.toArray from pa)⟩ fun T vals h' tk hP hfr hT hm hk => ?_;obtain ⟨t, u, eu, rfl⟩ := hP;refine ⟨_, rfl, W.go elts kk tpos i T _ _ _ hm fun h2 st2 hk2 => ?_⟩;have eu' : ia[i]? = some u := by simpa using eu
  obtain ⟨u',hu',ru⟩:=ra.get (yaa hi);rw [eu'] at hu'; cases hu';have hTw:T ∉ [e,it]:=W.apart i T _ hm
  have hT2:za5 h2 T [Value.int (i:Int) t,u].toArray:=by
   obtain ⟨o,e,c,n,d⟩:=hT;exact ⟨o,hk2 T o hTw e,c,n,d⟩
  refine ⟨.ref T,upd H T (.tup [.int (i:Int),xs[i]]),I.turnTup (ch:=[e,it]) (t':=tk) (λ c hc=>hf c hc) (λ c o hc q=>hk2 c o hc (hk c o hc q)) hfr hT2 (.cons ⟨t,rfl⟩ (.cons ru .nil)) (59:),rfl,
   ⟨T,_,rfl,I.hok.fresh hfr,rfl,yaa hi⟩,⟨st2.1,st2.2.1⟩,λ c hc=>?_⟩
  have hcl:c < s.heap.objs.size:=by
   simp only [yao,yaL,or_false] at hc;obtain ⟨old,he⟩:=he;rcases hc with rfl | rfl
   ·exact yae he
   ·obtain ⟨o,e,_⟩:=h1; exact yae e
  rw [zal (yap (yaf hcl hfr))];exact (hf c hc).1
 ·intro X hP hw hK hc i pins s σ H E I hf st hg;subst hP hw hK;obtain ⟨hi, hqa⟩ := hg;obtain ⟨he, h1⟩ := st;obtain ⟨ia, ra, pa, za⟩ := I.tuple hqa;have la := ra.length;have W := WalksT.enumerateD (prog := X.prog) (w := X.w) (A := X.A) (Draws.tuple (A := X.A.in1) (I.ok.hd hc) it a hai ia.toArray) e hei (fun z => (yao.mp z).elim (fun q => hei q) (fun q => hae (yaz.mp q).symm)) (5:);have hi' : i = ia.toArray.size := by simpa [<- la] using hi
  refine W.done s _ _ (hi' ▸ ⟨he,h1,(show s.heap.IsTuple a ia.toArray from pa)⟩) λ h' tk hk=>⟨rfl,I.turnL (ch:=[e,it]) (λ c hc=>hf c hc) hk⟩
 ·rintro A i s Q E ⟨⟨old,he⟩,_⟩ h;exact wpAny_pyIter_enum he h
noncomputable def zoI (K:PySem.W.Frag) (ta:TA):TI:=λ σ H R=>ta σ H λ vs H1=>∃ a xs,vs=[.ref a] /\ ((SqL K H1 a xs /\ R (IteL K a xs) H1) \/ (SqT K H1 a xs /\ R (IteT K a xs) H1))
def zbN {X:Cx} {K:PySem.W.Frag} {elts:List Expr} {kk:Nat} {tpos:Pos} {a:Expr} {ta:TA} {p pos:Pos} (hm:X.mg "enumerate"=none) (ha:PA X [a] ta) (hg:Gl X "enumerate":=by rfl) (hs:starEach [a] X.env=[(false,eval a X.env)]:=by rfl) (hK:X.K=K:=by rfl) :
  PI X (.Tuple elts kk tpos) (.Call (.Name "enumerate" p) [a] [] pos) (zoI K ta):=by
 subst hK;intro pins s σ H R I h;refine Call_ (zce I hg hm boot_enumerate (yaD (thn (ha pos pins s σ H _ I h) λ us s1 ⟨vs,H1,I1,r1,q1⟩=>?_) hs rfl));obtain ⟨a,xs,e,q⟩:=q1;subst e;cases r1 with
 | cons r rr=>
  cases rr;cases r
  have fpo:∀ c ∈ [s1.heap.objs.size + 1,s1.heap.objs.size],FpOk X pins H1 c:=λ c hc=>by
   have hc':s1.heap.objs.size <= c:=by
    simp only [yao,yaL,or_false] at hc;show @LE.le Nat _ s1.heap.objs.size c;rcases hc with z | z <;> (have z':@Eq Nat c _:=z; omega)
   exact I1.fpOk hc' (I1.hok.fresh hc')
  rcases q with ⟨hqa,q⟩ | ⟨hqa,q⟩
  ·obtain ⟨ia, ra, pa, za⟩ := I1.list hqa;have al : @LT.lt Nat _ a s1.heap.objs.size := by obtain ⟨o, n, e, _⟩ := pa; exact yae e
   refine call_enumerate_list pa.isList λ h' he h1 hsz hk=>?_;have I2:Inv X pins σ H1 { s1 with heap:=h' }:=I1.kept (t':=s1.toks) hk;refine wpAny_pyIter_enum he ?_;exact ⟨s1.heap.objs.size + 1,[s1.heap.objs.size + 1,s1.heap.objs.size],_,_,H1,rfl,I2,zi4 a _ _ (52:) (52:) (52:) xs,⟨⟨_,he⟩,h1⟩,fpo,q⟩
  ·obtain ⟨ia, ra, pa, za⟩ := I1.tuple hqa;have al : @LT.lt Nat _ a s1.heap.objs.size := by obtain ⟨o, e, _⟩ := pa; exact yae e
   refine zcL (show s1.heap.IsTuple a ia.toArray from pa) λ h' he h1 hsz hk=>?_;have I2:Inv X pins σ H1 { s1 with heap:=h' }:=I1.kept (t':=s1.toks) hk;refine wpAny_pyIter_enum he ?_;exact ⟨s1.heap.objs.size + 1,[s1.heap.objs.size + 1,s1.heap.objs.size],_,_,H1,rfl,I2,zjt a _ _ (52:) (52:) (52:) xs,⟨⟨_,he⟩,h1⟩,fpo,q⟩
def zph {σ:St} {H:Hp} {K:PySem.W.Frag} {t:TA} {R:It -> Hp -> Prop} (h:t σ H λ vs H1=>∃ a xs,vs=[.ref a] /\ ((SqL K H1 a xs /\ R (IteL K a xs) H1) \/ (SqT K H1 a xs /\ R (IteT K a xs) H1))):zoI K t σ H R:=h
end L2
namespace PySem
section
variable {prog:Program} {w:World} {A:Around} {E:Value -> Shared -> Prop} {s:Shared}
end
end PySem
namespace L2
open PySem PySem.Spec PyProof.Rows
def zgR {K:PySem.W.Frag} {a:Addr} {xs:List V} {g:TG} {tb:TS} {D:Ends} {σ:St} {H:Hp} (Pv:Nat -> St -> Hp -> Prop) (h0:Pv 0 σ H) (hl:∀ i σ H,Pv i σ H -> SqT K H a xs)
  (hs:∀ i u T σ H,xs[i]?=some u -> H T=none -> Pv i σ H -> g (.ref T) σ (upd H T (.tup [.int (i:Int),u])) λ σ2 H2=>tb { D with nx:=Pv (i + 1),ct:=Pv (i + 1),bk:=D.nx } σ2 H2) (hd:∀ σ H,Pv xs.length σ H -> D.nx σ H) :
  ForW (IteT K a xs) g tb D σ H:=by
 refine ⟨λ i m σ H=>m=xs.length - i /\ i <= xs.length /\ Pv i σ H,⟨xs.length,by simp,yaR _,h0⟩,?_⟩;rintro i m σ H ⟨rfl,hi,p⟩;by_cases hlt:i < xs.length
 ·refine .inr ⟨⟨hlt,hl i σ H p⟩,Pv (i + 1),λ σ' H' p'=>⟨xs.length - (i + 1),by omega,rfl,hlt,p'⟩,λ x H' y=>?_⟩;obtain ⟨T,u,rfl,hT,rfl,hu⟩:=y;exact hs i u T σ H hu hT p
 ·have e : i = xs.length := by omega
  subst e;exact .inl ⟨⟨rfl,hl _ σ H p⟩,hd σ H p⟩
def zfQ {K:PySem.W.Frag} {a:Addr} {xs:List V} {src:List (Option Nat)} {σ:St} {g:TG} {tc:TT} {te:TE} {Q:VK} {H:Hp} (Pv:Nat -> List V -> Hp -> Prop) (h0:Pv 0 [] H) (len:∀ i acc H,Pv i acc H -> acc.length <= sizeLine)
  (hl:∀ i acc H,Pv i acc H -> SqL K H a xs)
  (step:∀ i u T acc H,xs[i]?=some u -> H T=none -> Pv i acc H -> g (.ref T) (capt src σ) (upd H T (.tup [.int (i:Int),u])) λ σ2 H2=>Ext (capt src σ) σ2 /\ tc σ2 H2 λ b H3=>if b=true then te σ2 H3 (λ y H4=>Pv (i + 1) (acc ++ [y]) H4) else Pv (i + 1) acc H3)
  (done:∀ acc H,Pv xs.length acc H -> ∀ p,H p=none -> Q (.ref p) (upd H p (.lst acc))):zcl (IteL K a xs) src σ g tc te Q H:=by
 refine ⟨λ i m acc H=>m=xs.length - i /\ i <= xs.length /\ Pv i acc H,⟨xs.length,by simp,yaR _,h0⟩,?_⟩;rintro i m acc H ⟨rfl,hi,p⟩;refine ⟨len i acc H p,?_⟩;by_cases hlt:i < xs.length
 ·refine .inr ⟨⟨hlt,hl i acc H p⟩,λ y H4=>Pv (i + 1) (acc ++ [y]) H4,λ H3=>Pv (i + 1) acc H3,λ y H4 q=>⟨xs.length - (i + 1),by omega,rfl,hlt,q⟩,λ H3 q=>⟨xs.length - (i + 1),by omega,rfl,hlt,q⟩,λ x H' y=>?_⟩;obtain ⟨T,u,rfl,hT,rfl,hu⟩:=y;exact step i u T acc H hu hT p
 ·have e : i = xs.length := by omega
  subst e;exact .inl ⟨⟨rfl,hl _ acc H p⟩,done acc H p⟩
def zgO {K:PySem.W.Frag} {a:Addr} {xs:List V} {src:List (Option Nat)} {σ:St} {g:TG} {tc:TT} {te:TE} {Q:VK} {H:Hp} (hA:SqT K H a xs)
  (h:zcl (Itt K a) src σ g tc te Q H):∃ b,V.ref a=.ref b /\ (((∃ xs,SqL K H b xs) /\ zcl (Itl K b) src σ g tc te Q H) \/ ((∃ xs,SqT K H b xs) /\ zcl (Itt K b) src σ g tc te Q H)):=⟨a,rfl,.inr ⟨⟨xs,hA⟩,h⟩⟩
end L2
namespace PySem
open Sem (wp)
open Builtin
def zdE:fillsNumberSlot (.type "tuple") "mul"=pure false:=
 fillsNumberSlot_seq (id:="tuple.__mul__") (r:=some (.builtin "tuple.__rmul__")) ycf.lookup (32:) F.slot_tuple_rmul.lookup (32:)
def zf4:seqRepeat? (.type "tuple")=pure (some (.builtin "tuple.__mul__")):=by
 unfold seqRepeat?;rw [seqSlot_of (T:="tuple") (name:="__mul__") (id:="tuple.__mul__") ycf.lookup (32:),seqSlot_of (T:="tuple") (name:="__rmul__") (id:="tuple.__rmul__") F.slot_tuple_rmul.lookup (32:)];rfl
def zeL (a:Int) (t:Tok) (l:Addr) (items:Array Value) (n:Nat) {dd} {sl} :
  Meets (Builtin.«int.__rmul__» ⟨[.int a t,.ref l],[]⟩) (λ _ R s=>s.heap.get? l=some { cls:=.type "tuple",dict:=dd,data:=.seq items n,slots:=sl } /\ R (.ok (.ret Value.notImplemented)) s):=
 .of_wp λ prog w A R s h=>by obtain ⟨hp,g,d,tk,os⟩:=s; obtain ⟨hl,h⟩:=h; wp_walk; exact ⟨_,rfl,h⟩
def zho (l:Addr) (items:Array Value) (n:Nat) (x:Int) (u:Tok) {dd} {sl} (h0:items.isEmpty=false) (h1:1 < x) (h2:x < 2 ^ 63) (hz:items.size * x.toNat <= sizeLine) :
  Meets (Builtin.«tuple.__mul__» ⟨[.ref l,.int x u],[]⟩) (λ _ R s=>s.heap.get? l=some { cls:=.type "tuple",dict:=dd,data:=.seq items n,slots:=sl } /\ R (.ok (.ret (Value.ref s.heap.objs.size))) { s with heap:=s.heap.push { cls:=Value.type "tuple",data:=Data.seq (List.foldl (λ x1 x2=>x1 ++ x2) #[] (List.replicate x.toNat items)) },toks:=s.toks }):=
 .of_wp λ prog w A R s h=>by
  obtain ⟨hp,g,d,tk,os⟩:=s; obtain ⟨hl,h⟩:=h
  have hm:(items.size:Int) * x=((items.size * x.toNat:Nat):Int):=by
   rw [Int.natCast_mul,ybl (1:)]
  have hcap:(sizeLine:Nat) <= (2 ^ 63 - 1) / 8:=by decide
  have hc0:¬(decide (x < -2 ^ 63) || decide (x >= 2 ^ 63))=true:=by
   rw [decide_eq_false (1:),decide_eq_false (1:)]; decide
  have hc1:¬(items.isEmpty || x == 1)=true:=by
   rw [h0,beq_eq_false_iff_ne.mpr (1:)]; decide
  have hc2:¬(decide (x <= 0) || items.isEmpty)=true:=by
   rw [h0,decide_eq_false (1:)]; decide
  have hc3:¬ (items.size:Int) * x > (2 ^ 63 - 1) / 8:=by
   rw [hm]; omega
  have hc4:¬ Builtin.Tuple.tupleTooMany ((items.size:Int) * x)=true:=by
   rw [hm];unfold Builtin.Tuple.tupleTooMany;rw [decide_eq_false (1:)];decide
  wp_walk
  rw [if_neg hc0]
  wp_walk using wpAny_loadPart' hl
  rw [if_neg hc1]
  wp_walk
  rw [if_neg hc2]
  wp_walk
  rw [if_neg hc3]
  wp_walk
  rw [if_neg hc4]
  wp_walk
  rw [if_neg (by
   have e:=Nat.mul_comm items.size x.toNat;rw [AutoListH.size_joined]; simp only [Array.size_empty]; omega)]
  wp_walk
  exact ⟨_,rfl,h⟩
def zh6 (l:Addr) (items:Array Value) (n:Nat) (u:Tok) {dd} {sl} :
  Meets (Builtin.«tuple.__mul__» ⟨[.ref l,.int 1 u],[]⟩) (λ _ R s=>s.heap.get? l=some { cls:=.type "tuple",dict:=dd,data:=.seq items n,slots:=sl } /\ R (.ok (.ret (Value.ref l))) s):=
 .of_wp λ prog w A R s h=>by
  obtain ⟨hp,g,d,tk,os⟩:=s; obtain ⟨hl,h⟩:=h
  wp_walk
  exact ⟨_,rfl,h⟩
end PySem
namespace L2
open PySem PySem.Spec PyProof.Rows
section
variable {X:Cx}
noncomputable def zoz (K:PySem.W.Frag):R2:=λ x y H Q=>∃ a k xs,x=.ref a /\ y=.int k /\ SqT K H a xs /\ 1 <= k /\ k < 2 ^ 63 /\ xs ≠ [] /\ xs.length * k.toNat <= sizeLine /\
 (k=1 -> Q (.ref a) H) /\ (k ≠ 1 -> ∀ p,H p=none -> Q (.ref p) (upd H p (.tup (List.replicate k.toNat xs).flatten)))
def znJ:OpR X (binaryOp .Mult) (zoz X.K):=by
 intro pins s σ H x y v u Q I rx ry h;obtain ⟨a,k,xs,rfl,rfl,ha,h1,h2,hx,hz,q1,q2⟩:=h;cases rx;obtain ⟨t,rfl⟩:=ry;obtain ⟨its,r,p1,_⟩:=I.tuple ha;obtain ⟨⟨cls,dd,data,sl⟩,ho,hc,n,hd⟩:=id p1;simp only at hc hd;subst hc hd
 refine wpAny_binaryOp_repeat_ref (T:="tuple") (U:="int") (3:) ⟨_,ho,rfl⟩ (λ s'=>typeIs_int s' k t) zdE F.fills_int_mul ycn zf4 F.slot_int_index.lookup
  (call_meets ycn (typeIs_int s k t) F.entry_int_rmul (F.args_int_rmul_2 _ _) (zeL k t a its.toArray n) ⟨ho,rfl,⟨_,ho,rfl⟩,?_⟩)
 by_cases e:k=1
 ·subst e;exact call_meets ycf ⟨_,ho,rfl⟩ F.entry_tuple_mul (F.args_tuple_mul_2 _ _) (zh6 a its.toArray n t) ⟨ho,.ref a,H,I,rfl,q1 rfl⟩
 ·refine call_meets ycf ⟨_, ho, rfl⟩ F.entry_tuple_mul (F.args_tuple_mul_2 _ _) (zho a its.toArray n k t ?_ (1:) h2 (by rw [yak, <- r.length]; exact hz)) ⟨ho, ?_⟩
  ·cases its with
   | nil=>exact absurd (r.nil_iff.mp rfl) hx
   | cons _ _=>rfl
  ·have f0:List.foldl (λ x1 x2=>x1 ++ x2) #[] (List.replicate k.toNat its.toArray)=(List.replicate k.toNat its).flatten.toArray:=by
    have:=zej its k.toNat [];rw [List.nil_append] at this;exact this
   rw [f0];refine ⟨.ref s.heap.objs.size,_,I.laid (t':=s.toks) (o:=.tup (List.replicate k.toNat xs).flatten) (λ b ob q=>yac _ q) (yah _) ?_,rfl,q2 e _ (I.hok.fresh (yah _))⟩;exact ⟨by rw [zkK,Nat.mul_comm]; exact hz,_,r.rep k.toNat,za5.new _ _⟩
noncomputable def zmT (K:PySem.W.Frag):R2:=λ x y H Q=>zoH x y H Q \/ zoz K x y H Q
def zgC {K:PySem.W.Frag} (hK:X.K=K:=by rfl):OpR X (binaryOp .Mult) (zmT K):=hK ▸ znm.or znJ
end
def zlA {K:PySem.W.Frag} {i j:Int} {H:Hp} {Q:VK} (c:CMul i j) (h:Q (.int (i * j)) H):zmT K (.int i) (.int j) H Q:=.inl (.inl ⟨i,j,rfl,rfl,c,h⟩)
open PySem.W
section
variable {prog:Program} {w:World} {A:Around} {E:Value -> Shared -> Prop} {s:Shared} {t:Addr}
end
section
variable {X:Cx}
def zfw:∀ {ns:List Int} {us:List Value},Vals (ns.map V.int) us -> IntsAre us ns
 | [],_,.nil=>.nil
 | n :: ns,_,.cons r t=>by
  obtain ⟨k,rfl⟩:=r;exact .cons n k (zfw t)
end
end L2
namespace L2
open PySem PySem.Spec PyProof.Rows
section
variable {X:Cx} {pos:Pos}
end
def zoL {i j:Nat} {ta:TA} {D:Ends} {σ:St} {H:Hp} (h:ta σ H λ vs H1=>∃ v w,vs=[v,w] /\ D.nx ((σ.set i (some v)).set j (some w)) H1):tPar i j ta D σ H:=h
def zpV {u v:V} {P:V -> V -> Prop} (h:P u v):∃ u' v',[u,v]=[u',v'] /\ P u' v':=⟨u,v,rfl,h⟩
def zic {K:PySem.W.Frag} {a b:Str} {H:Hp} {Q:VK} (ha:shpd (.str a)=true) (hb:shpd (.str b)=true) (h:Q (.bl (a == b)) H):rEqU K (.str a) (.str b) H Q:=⟨.str a,.str b,.str K H a,.str K H b,ha,hb,h⟩
end L2
namespace Bm
def zhW (n k:Nat):(n / 2 ^ k) &&& 1=(n.testBit k).toNat:=by
 rw [Nat.and_one_is_mod,Nat.testBit_eq_decide_div_mod_eq];have h:n / 2 ^ k % 2 < 2:=ybw _ (3:);by_cases e:n / 2 ^ k % 2=1
 ·simp [e]
 ·have : n / 2 ^ k % 2 = 0 := by omega
  simp [this]
def ziL:∀ (a b:Nat),(a ||| b)=(a ^^^ b) + (a &&& b):=by
 intro a
 induction a using Nat.strongRecOn with
 | ind a ih=>
  intro b;by_cases h:a=0
  ·subst h; simp
  ·have i := ih (a / 2) (1:) (b / 2);have e1 := Nat.or_div_two (a := a) (b := b);have e2 := Nat.xor_div_two (a := a) (b := b);have e3 := Nat.and_div_two (a := a) (b := b)
   have m1:(a ||| b) % 2=(a ^^^ b) % 2 + (a &&& b) % 2:=by
    have ha:a % 2=0 \/ a % 2=1:=by omega
    have hb:b % 2=0 \/ b % 2=1:=by omega
    have o:=Nat.or_mod_two_pow (a:=a) (b:=b) (n:=1);have x:=Nat.xor_mod_two_pow (a:=a) (b:=b) (n:=1);have n:=Nat.and_mod_two_pow (a:=a) (b:=b) (n:=1);simp only [Nat.pow_one] at o x n;rw [o,x,n];rcases ha with ha | ha <;> rcases hb with hb | hb <;> simp [ha,hb]
   omega
noncomputable def zeu (ps:List Nat):Nat:=ps.foldl (λ m p=>m ||| 2 ^ p) 0
def zdr (k:Nat):∀ (ps:List Nat) (m:Nat),(ps.foldl (λ m p=>m ||| 2 ^ p) m).testBit k=(m.testBit k || decide (k ∈ ps))
 | [],m=>by simp
 | p :: ps,m=>by
  rw [ycm,zdr k ps,ybr,ybB];by_cases h:p=k
  ·subst h; simp
  ·have h':¬ k=p:=λ e=>h e.symm;simp [h,h']
def za2 (ps:List Nat) (k:Nat):(zeu ps).testBit k=decide (k ∈ ps):=by
 unfold zeu;rw [zdr];simp
def zjm (ps:List Nat) (p:Nat):zeu (ps ++ [p])=zeu ps ||| 2 ^ p:=by
 simp [zeu,ybi]
noncomputable def zeK (l:List Bool):Nat:=l.foldr (λ b acc=>2 * acc + b.toNat) 0
def zfo (b:Bool) (l:List Bool):zeK (b :: l)=2 * zeK l + b.toNat:=rfl
def zaP:∀ (l:List Bool) (k:Nat),(zeK l).testBit k=l[k]?.getD false
 | [],k=>by simp [zeK]
 | b :: l,0=>by
  rw [zfo,Nat.testBit_zero];cases b <;> simp <;> omega
 | b :: l,k + 1=>by
  rw [zfo,Nat.testBit_succ];have:(2 * zeK l + b.toNat) / 2=zeK l:=by cases b <;> simp <;> omega
  rw [this,zaP l k];simp
noncomputable def bitsB (n w:Nat):List Bool:=(List.range w).map n.testBit
def zhZ {n w:Nat} (h:n < 2 ^ w):zeK (bitsB n w)=n:=by
 apply ybN;intro k;rw [zaP];unfold bitsB;by_cases hk:k < w
 ·simp [hk]
 ·have:n.testBit k=false:=ybD (yaf h (yaO (3:) (1:)));simp [hk,this]
noncomputable def zcm (n:Nat):Nat:=if n=0 then 0 else n.log2 + 1
def zjV (n:Nat):n < 2 ^ zcm n:=by
 unfold zcm
 split
 ·rename_i h; subst h; decide
 ·exact Nat.lt_log2_self
def zgU {n w:Nat} (h:n < 2 ^ w):zcm n <= w:=by
 unfold zcm
 split
 ·exact yaR _
 ·rename_i h0;exact (Nat.log2_lt h0).mpr h
def zdp {n k:Nat} (h:zcm n <= k):n.testBit k=false:=
 ybD (yaf (zjV n) (yaO (3:) h))
noncomputable def zag (n:Nat):List Nat:=(List.range (zcm n)).filter n.testBit
def zdY {p:Nat -> Bool} {a b:Nat} (h:a <= b) (hp:∀ i,a <= i -> p i=false):(List.range b).filter p=(List.range a).filter p:=by
  induction b with
  | zero => have : a = 0 := by omega
            subst this; rfl
  | succ b ih=>
    by_cases e:a=b + 1
    · subst e; rfl
    · rw [ya3,yaW,ih (1:)];simp [hp b (1:)]
def zb1 {n w:Nat} (h:n < 2 ^ w):zag n=(List.range w).filter n.testBit:=by
 unfold zag;exact (zdY (zgU h) λ i hi=>zdp hi).symm
def zc9 {n k:Nat}:k ∈ zag n ↔ n.testBit k=true:=by
 unfold zag;rw [yaZ,yaq];constructor
 ·exact λ h=>h.2
 ·intro h;refine ⟨?_, h⟩;by_cases hk : k < zcm n
  ·exact hk
  ·rw [zdp (1:)] at h; cases h
end Bm
namespace L2
open PySem PySem.Spec PyProof.Rows Bm
noncomputable abbrev nV (n:Nat):V:=V.int (n:Int)
noncomputable def SqA (K:PySem.W.Frag) (H:Hp) (a:Addr) (xs:List V):Prop:=SqL K H a xs \/ SqT K H a xs
def zaC (a b:Nat):Builtin.bitAnd (a:Int) (b:Int)=((a &&& b:Nat):Int):=by
 simp [Builtin.bitAnd]
def zfs (a:Nat):Builtin.bitNot (a:Int)=-((a:Int) + 1):=by
 simp [Builtin.bitNot]; omega
def zbM (a b:Nat):Builtin.bitOr (a:Int) (b:Int)=((a ||| b:Nat):Int):=by
 have h1:decide (0 <= Builtin.bitNot (a:Int))=false:=by rw [zfs]; apply decide_eq_false; omega
 have h2:decide (0 <= Builtin.bitNot (b:Int))=false:=by rw [zfs]; apply decide_eq_false; omega
 have n1:(Builtin.bitNot (Builtin.bitNot (a:Int))).toNat=a:=by simp [Builtin.bitNot]; omega
 have n2:(Builtin.bitNot (Builtin.bitNot (b:Int))).toNat=b:=by simp [Builtin.bitNot]; omega
 unfold Builtin.bitOr Builtin.bitAnd;rw [h1,h2];dsimp only;rw [n1,n2];simp [Builtin.bitNot];omega
def zcC (a b:Nat):Builtin.bitXor (a:Int) (b:Int)=((a ^^^ b:Nat):Int):=by
 unfold Builtin.bitXor;rw [zbM,zaC];have h:=ziL a b;omega
def zh4 (n:Nat):Builtin.Int.intBits (n:Int)=zcm n:=by
 unfold Builtin.Int.intBits zcm;by_cases h:n=0
 ·subst h; rfl
 ·have:((n:Int) == 0)=false:=by
   apply beq_eq_false_iff_ne.mpr;omega
  rw [this,if_neg h];simp
def modN {n:Nat} (x:Int) (h:0 < n):∃ r:Nat,r < n /\ x % (n:Int)=(r:Int):=by
 have h1:=Int.emod_nonneg x (show (n:Int) ≠ 0 by omega);have h2:=Int.emod_lt_of_pos x (show (0:Int) < n by omega);exact ⟨(x % (n:Int)).toNat,by omega,by omega⟩
def zaL {α β:Type} {f:α -> β} {xs:List α} {i:Nat} {y:β} (h:(xs.map f)[i]?=some y):∃ x,xs[i]?=some x /\ y=f x:=by
 rw [yag] at h;cases e:xs[i]? with
 | none=>rw [e] at h; cases h
 | some x=>rw [e] at h; cases h; exact ⟨x,rfl,rfl⟩
def zci (n k:Nat):Builtin.bitAnd ((n:Int) / 2 ^ ((k:Int)).toNat) 1=((n.testBit k).toNat:Int):=by
 rw [yam];have e:((n:Int) / 2 ^ k)=((n / 2 ^ k:Nat):Int):=by simp
 rw [e];have:=zaC (n / 2 ^ k) 1;rw [zhW] at this;exact this
def zhF (n:Nat):(1:Int) * 2 ^ ((n:Int)).toNat - 1=((2 ^ n - 1:Nat):Int):=by
 rw [yam];have h:1 <= 2 ^ n:=Nat.one_le_two_pow;rw [Int.natCast_sub h];simp
def zk7 (m y:Nat):Builtin.bitOr (m:Int) ((1:Int) * 2 ^ ((y:Int)).toNat)=((m ||| 2 ^ y:Nat):Int):=by
 rw [yam];have e:(1:Int) * 2 ^ y=((2 ^ y:Nat):Int):=by simp
 rw [e,zbM]
def zp9 (ns:List Int):∃ ms:List Int,cutV (ns.map V.int) none (some 63)=ms.map V.int /\ ms.length <= 63:=by
 refine ⟨(ns.drop (HT.sIx (ns.map V.int).length 0 none)).take (HT.sIx (ns.map V.int).length (ns.map V.int).length (some 63) - HT.sIx (ns.map V.int).length 0 none),?_,?_⟩
 ·unfold cutV;rw [List.map_take,List.map_drop]
 ·rw [yaT];have h:HT.sIx (ns.map V.int).length (ns.map V.int).length (some 63)=min 63 (ns.map V.int).length:=HT.sIx_nat _ _ 63;rw [h];omega
def znL (z:Int):(if z < 0 then -z else z)=(z.natAbs:Int):=by
 split <;> omega
def zip_get {α β:Type}:∀ {xs:List α} {ys:List β} {i:Nat} {x:α} {y:β},xs[i]?=some x -> ys[i]?=some y -> (xs.zip ys)[i]?=some (x,y)
 | [],_,_,_,_,h,_=>by simp at h
 | _ :: _,[],_,_,_,_,h=>by simp at h
 | _ :: _,_ :: _,0,_,_,h,k=>by simp at h k; subst h k; rfl
 | _ :: xs,_ :: ys,i + 1,_,_,h,k=>by
  have:=zip_get (xs:=xs) (ys:=ys) (i:=i) (by simpa using h) (by simpa using k);simpa using this
noncomputable def zj5:Sp:=λ vs H Q _=>∃ n k:Nat,vs=[nV n,nV k] /\ Q (nV (n.testBit k).toNat) H
noncomputable def zib:Sp:=λ vs H Q _=>∃ n:Nat,vs=[nV n] /\ n < 2 ^ 64 /\ ∀ p H',H p=none -> Same H H' -> H' p=some (.lst ((zag n).map nV)) -> Q (.ref p) H'
noncomputable def zio (K:PySem.W.Frag):Sp:=λ vs H Q _=>∃ (a:Addr) (ps:List Nat),vs=[.ref a] /\ SqA K H a (ps.map nV) /\ (∀ p ∈ ps,p < 64) /\ Q (nV (zeu ps)) H
noncomputable def zmh:Sp:=λ vs H Q _=>∃ n:Nat,vs=[nV n] /\ n <= 64 /\ Q (nV (2 ^ n - 1)) H
noncomputable def Hand (H:Hp) (p:Addr):Prop:=∃ (q:Addr) (cells:List Nat) (a b c:Nat),H p=some (.lst [.ref q,nV a,nV b,nV c]) /\ H q=some (.lst (cells.map nV)) /\ cells.length <= 63
def Hand.of {H:Hp} {p q:Addr} {cells:List Nat} {a b c:Nat} (h1:H p=some (.lst [.ref q,nV a,nV b,nV c])) (h2:H q=some (.lst (cells.map nV))) (h3:cells.length <= 63):Hand H p:=⟨q,cells,a,b,c,h1,h2,h3⟩
def Hand.same {H H':Hp} {p:Addr} (h:Hand H p) (s:Same H H'):Hand H' p:=by
 obtain ⟨q,cells,a,b,c,h1,h2,h3⟩:=h;exact ⟨q,cells,a,b,c,s _ _ h1,s _ _ h2,h3⟩
def But.free {H H':Hp} {p l:Addr} (b:But p H H') (hp:Hand H' p) (h:H' l=none):H l=none /\ l ≠ p:=by
 have ne:l ≠ p:=by
  rintro rfl;obtain ⟨q,cells,a,b,c,e1,_⟩:=hp;rw [h] at e1;cases e1
 refine ⟨?_,ne⟩;cases e:H l with
 | none=>rfl
 | some o=>
  rw [b.keep l o ne e] at h;cases h
noncomputable def zmv (K:PySem.W.Frag):Sp:=λ vs H Q _=>∃ (a:Addr) (ns:List Int),vs=[.ref a] /\ SqL K H a (ns.map V.int) /\ ∀ p H',H p=none -> Same H H' -> Hand H' p -> Q (.ref p) H'
noncomputable def zkL:Sp:=λ vs H Q _=>∃ (p:Addr) (n:Nat),vs=[.ref p,nV n] /\ Hand H p /\ 0 < n /\ n < 1073741824 /\ ∀ (r:Nat) (H':Hp),r < n -> But p H H' -> Hand H' p -> Q (nV r) H'
noncomputable def zjQ:Sp:=λ vs H Q _=>∃ (p:Addr),vs=[.ref p] /\ Hand H p /\ ∀ (r:Nat) (H':Hp),1 <= r -> r <= 64 -> But p H H' -> Hand H' p -> Q (nV r) H'
noncomputable def zms:Sp:=λ vs H Q _=>∃ (p:Addr) (w:Nat),vs=[.ref p,nV w] /\ Hand H p /\ 1 <= w /\ w <= 64 /\ ∀ (r:Nat) (H':Hp),r < 2 ^ w -> But p H H' -> Hand H' p -> Q (nV r) H'
noncomputable def zlO (K:PySem.W.Frag):Sp:=λ vs H Q _=>∃ (a:Addr) (ns:List Int),vs=[.ref a] /\ SqL K H a (ns.map V.int) /\ ns.length <= 63 /\ ∀ H',Q (.bl true) H'
noncomputable def Ld (w:Nat) (ls:List Int):Prop:=ls.length=w /\ ∀ e ∈ ls,-2 <= e /\ e < (w:Int)
noncomputable def zaw (w:Nat):List Int:=(List.range w).map λ (x:Nat)=>(x:Int)
noncomputable def zat (ls ms:List Int):List Int:=ms.map λ e=>if 0 <= e then ls.getD e.toNat 0 else e
noncomputable def bitL (n:Nat) (e:Int):Bool:=if e=-2 then true else if 0 <= e then n.testBit e.toNat else false
noncomputable def ledN (ls:List Int) (n:Nat):Nat:=zeK (ls.map (bitL n))
def ziG (w:Nat):((List.range w).map λ (x:Nat)=>V.int (x:Int))=(zaw w).map V.int:=by
 unfold zaw;rw [ybp];rfl
def zeh (w:Nat):Ld w (zaw w):=by
 refine ⟨by simp [zaw],λ e he=>?_⟩;simp only [zaw,yaP,yaq] at he;obtain ⟨x,hx,rfl⟩:=he;omega
def zbT {w:Nat} {ls ms:List Int} (h1:Ld w ls) (h2:Ld w ms):Ld w (zat ls ms):=by
 refine ⟨by rw [zat,yad]; exact h2.1,λ e he=>?_⟩;simp only [zat,yaP] at he;obtain ⟨x,hx,rfl⟩:=he;have q:=h2.2 x hx
 split
 ·rename_i h0;have hl : x.toNat < ls.length := by rw [h1.1]; omega
  rw [yab,yaa hl];exact h1.2 _ (ya7 hl)
 ·exact q
def zmS (ls:List Int) (n:Nat):zeu ((List.range ls.length).filter λ j=>bitL n (ls.getD j (-1)))=ledN ls n:=by
 apply ybN;intro k;rw [za2,ledN,zaP];by_cases hk:k < ls.length
 ·rw [yag, yaa hk];have e : ls.getD k (-1) = ls[k] := by rw [yab, yaa hk]; rfl
  cases h:bitL n ls[k] <;> simp [hk,e,h]
 ·rw [yaE (by rw [yad]; omega)];simp [hk]
noncomputable def zgr:Sp:=λ vs H Q _=>∃ w:Nat,vs=[nV w] /\ w <= 64 /\ ∀ t H',Same H H' -> H' t=some (.tup ((zaw w).map V.int)) -> Q (.ref t) H'
noncomputable def zmu:Sp:=λ vs H Q _=>∃ (a b:Addr) (ls ms:List Int) (w:Nat),vs=[.ref a,.ref b] /\ H a=some (.tup (ls.map V.int)) /\ H b=some (.tup (ms.map V.int)) /\ Ld w ls /\ Ld w ms /\ w <= 64 /\
 ∀ t H',Same H H' -> H' t=some (.tup ((zat ls ms).map V.int)) -> Q (.ref t) H'
noncomputable def zop:Sp:=λ vs H Q _=>∃ (a:Addr) (ls:List Int) (n w:Nat),vs=[.ref a,nV n] /\ H a=some (.tup (ls.map V.int)) /\ Ld w ls /\ w <= 64 /\ ∀ H',Same H H' -> Q (nV (ledN ls n)) H'
def Hand.ne {H:Hp} {p l:Addr} (h:Hand H p) (e:H l=none):l ≠ p:=by
 rintro rfl;obtain ⟨q,cells,a,b,c,e1,_⟩:=h;rw [e] at e1;cases e1
noncomputable def zit:Sp:=λ vs H Q _=>∃ i lo hi:Int,vs=[.int i,.int lo,.int hi] /\ Q (.bl (decide (lo <= i) && decide (i <= hi))) H
def zaJ {w:Nat} {ls:List Int} (h:Ld w ls):zat (zaw w) ls=ls:=by
 have:∀ e ∈ ls,(if 0 <= e then (zaw w).getD e.toNat 0 else e)=e:=λ e he=>by
  have q:=h.2 e he;by_cases z:0 <= e
  ·rw [if_pos z,yab,zaw,yag,yan (1:)];simp;omega
  ·rw [if_neg z]
 rw [zat,yaX this,List.map_id']
def zcA {w:Nat} {ls:List Int} (h:Ld w ls):zat ls (zaw w)=ls:=by
 apply ybx;intro i;rw [zat,zaw,ybp,yag];by_cases hi:i < w
 ·rw [yan hi];have hl : i < ls.length := by rw [h.1]; exact hi
  simp [yaa hl]
 ·rw [yaE (by rw [yar]; omega),yaE (by rw [h.1]; omega)];rfl
def zlN {w:Nat} {ls ms:List Int} (h:Ld w ms) {i:Nat} (hi:i < w):(zat ls ms).getD i 0=(if 0 <= ms.getD i 0 then ls.getD (ms.getD i 0).toNat 0 else ms.getD i 0):=by
 have hl:i < ms.length:=by rw [h.1]; exact hi
 rw [yab,zat,yag,yab,yaa hl];rfl
def zaQ {w:Nat} {a b c:List Int} (hb:Ld w b) (hc:Ld w c):zat (zat a b) c=zat a (zat b c):=by
 rw [show zat a (zat b c)=(c.map λ e=>if 0 <= e then b.getD e.toNat 0 else e).map λ e=>if 0 <= e then a.getD e.toNat 0 else e from rfl,ybp];rw [show zat (zat a b) c=c.map λ e=>if 0 <= e then (zat a b).getD e.toNat 0 else e from rfl];apply yaX;intro e he;have q:=hc.2 e he;by_cases z:0 <= e
 ·show _=(if 0 <= (if 0 <= e then b.getD e.toNat 0 else e) then a.getD (if 0 <= e then b.getD e.toNat 0 else e).toNat 0 else (if 0 <= e then b.getD e.toNat 0 else e));rw [if_pos z,if_pos z,zlN hb (1:)]
 ·show _=(if 0 <= (if 0 <= e then b.getD e.toNat 0 else e) then a.getD (if 0 <= e then b.getD e.toNat 0 else e).toNat 0 else (if 0 <= e then b.getD e.toNat 0 else e));rw [if_neg z,if_neg z,if_neg z]
def zga (ls:List Int) (n i:Nat) (hi:i < ls.length):(ledN ls n).testBit i=bitL n (ls.getD i 0):=by
 rw [ledN,zaP,yag,yab,yaa hi];rfl
def zij {w:Nat} {ls ms:List Int} (h1:Ld w ls) (h2:Ld w ms) (n:Nat):ledN (zat ls ms) n=ledN ms (ledN ls n):=by
 rw [show ledN (zat ls ms) n=zeK ((zat ls ms).map (bitL n)) from rfl,show ledN ms (ledN ls n)=zeK (ms.map (bitL (ledN ls n))) from rfl,zat,ybp];congr 1;apply yaX;intro e he;have q:=h2.2 e he;show bitL n (if 0 <= e then ls.getD e.toNat 0 else e)=bitL (ledN ls n) e;by_cases z:0 <= e
 ·rw [if_pos z,show bitL (ledN ls n) e=(ledN ls n).testBit e.toNat by unfold bitL; rw [if_neg (1:),if_pos z],zga _ _ _ (by rw [h1.1]; omega)]
 ·rw [if_neg z];unfold bitL;rw [if_neg z,if_neg z]
def zn2 {K:PySem.W.Frag} {a b:Addr} {xs ys:List Int} {H:Hp} {Q:VK} (ha:SqT K H a (xs.map V.int)) (hb:SqT K H b (ys.map V.int)) (h:Q (.bl (!decide (xs=ys))) H):rNeU K (.ref a) (.ref b) H Q:=by
 refine ⟨.tuple (xs.map .int),.tuple (ys.map .int),DatV.tuple ha (DatVs.ints K H xs),DatV.tuple hb (DatVs.ints K H ys),zcu _,zcu _,?_⟩;rw [show PyData.eqv (.tuple (xs.map .int)) (.tuple (ys.map .int))=decide (xs=ys) by rw [PyData.eqv,zbZ]];exact h
def zpy {K:PySem.W.Frag} {a b:Addr} {xs ys:List Int} {H:Hp} {Q:VK} (ha:SqT K H a (xs.map V.int)) (hb:SqT K H b (ys.map V.int)) (h:Q (.bl (decide (xs=ys))) H):rEqU K (.ref a) (.ref b) H Q:=by
 refine ⟨.tuple (xs.map .int),.tuple (ys.map .int),DatV.tuple ha (DatVs.ints K H xs),DatV.tuple hb (DatVs.ints K H ys),zcu _,zcu _,?_⟩;rw [show PyData.eqv (.tuple (xs.map .int)) (.tuple (ys.map .int))=decide (xs=ys) by rw [PyData.eqv,zbZ]];exact h
def Hand.neT {H:Hp} {p t:Addr} {xs:List V} (h:Hand H p) (e:H t=some (.tup xs)):t ≠ p:=by
 rintro rfl;obtain ⟨q,cells,a,b,c,e1,_⟩:=h;rw [e] at e1;cases e1
def zef {n w:Nat} (h:n < 2 ^ w):ledN (zaw w) n=n:=by
 rw [ledN,zaw,ybp,show (bitL n ∘ λ (x:Nat)=>(x:Int))=n.testBit from funext λ x=>by
  show bitL n (x:Int)=n.testBit x;unfold bitL;rw [if_neg (1:),if_pos (1:),yam]]
 exact zhZ h
noncomputable def zjJ (n m:Nat):Nat:=zeK ((zag m).map n.testBit)
noncomputable def zcN (n m i:Nat):List Nat:=((List.range i).filter n.testBit).map λ j=>(zag m).getD j 0
noncomputable def zex (n m:Nat):Nat:=zeu (zcN n m (zag m).length)
noncomputable def zmw:Sp:=λ vs H Q _=>∃ n m:Nat,vs=[nV n,nV m] /\ m < 2 ^ 64 /\ ∀ H',Same H H' -> Q (nV (zjJ n m)) H'
noncomputable def zkM:Sp:=λ vs H Q _=>∃ n m:Nat,vs=[nV n,nV m] /\ m < 2 ^ 64 /\ ∀ H',Same H H' -> Q (nV (zex n m)) H'
def za8 {m w:Nat} (h:m < 2 ^ w):(zag m).length <= w:=by
 rw [zb1 h];have:=ybe m.testBit (List.range w);rw [yar] at this;exact this
def ze2 {m w x:Nat} (h:m < 2 ^ w) (hx:x ∈ zag m):x < w:=by
 rw [zb1 h] at hx;exact yaq.mp (yaZ.mp hx).1
def zcZ {m w j:Nat} (h:m < 2 ^ w) (hj:j < (zag m).length):(zag m).getD j 0 < w:=by
 rw [yab,yaa hj];exact ze2 h (ya7 hj)
def zek {m i j:Nat} (hij:i < j) (hj:j < (zag m).length):(zag m).getD i 0 < (zag m).getD j 0:=by
 have hp:(zag m).Pairwise (· < ·):=List.Pairwise.filter _ ybE;rw [yab,yaa (Nat.lt_trans hij hj),yab,yaa hj];exact yaS.mp hp i j _ _ hij
def zig (n m:Nat):zeu ((List.range (zag m).length).filter λ j=>n.testBit ((zag m).getD j 0))=zjJ n m:=by
 apply ybN;intro k;rw [za2,zjJ,zaP];by_cases hk:k < (zag m).length
 ·rw [yag, yaa hk];have e : (zag m).getD k 0 = (zag m)[k] := by rw [yab, yaa hk]; rfl
  cases h:n.testBit (zag m)[k] <;> simp [hk,h]
 ·rw [yaE (by rw [yad]; omega)];simp [hk]
def zeF (n m i:Nat):zcN n m (i + 1)=zcN n m i ++ (if n.testBit i=true then [(zag m).getD i 0] else []):=by
 show ((List.range (i + 1)).filter n.testBit).map (λ j=>(zag m).getD j 0)=_;rw [ya3,yaW,yat];show zcN n m i ++ _=_;congr 1;cases hb:n.testBit i <;> simp [hb]
def zkR {n m x w:Nat} (h:m < 2 ^ w) (hx:x ∈ zcN n m (zag m).length):x < w:=by
 simp only [zcN,yaP,yaZ,yaq] at hx;obtain ⟨j,⟨hj,_⟩,rfl⟩:=hx;exact zcZ h hj
def zkv (n m i:Nat):(zcN n m i).length <= i:=by
 rw [zcN,yad];have:=ybe n.testBit (List.range i);rw [yar] at this;exact this
def lt64 {m w:Nat} (h:m < 2 ^ w) (hw:w <= 64):m < 2 ^ 64:=yaf h (yaO (3:) hw)
def zdA {m i j:Nat} (hi:i < (zag m).length) (hj:j < (zag m).length) (e:(zag m).getD i 0=(zag m).getD j 0):i=j:=by
 rcases Nat.lt_trichotomy i j with h | h | h
 ·have:=zek h hj; omega
 ·exact h
 ·have:=zek h hi; omega
def zem {m x:Nat}:m.testBit x=true ↔ ∃ j,j < (zag m).length /\ (zag m).getD j 0=x:=by
 rw [<- zc9,ycj];constructor
 ·rintro ⟨j,hj,e⟩;exact ⟨j,hj,by rw [yab,yaa hj]; exact e⟩
 ·rintro ⟨j,hj,e⟩;exact ⟨j,hj,by rw [yab,yaa hj] at e; exact e⟩
def ziu (n m k:Nat):(zjJ n m).testBit k=(decide (k < (zag m).length) && n.testBit ((zag m).getD k 0)):=by
 rw [<- zig,za2];by_cases hk:k < (zag m).length
 ·cases h:n.testBit ((zag m).getD k 0) <;> simp_all
 ·simp [hk]
def zeT (n m k:Nat):(zex n m).testBit k=true ↔ ∃ j,j < (zag m).length /\ n.testBit j=true /\ (zag m).getD j 0=k:=by
 rw [zex,za2,decide_eq_true_iff];simp only [zcN,yaP,yaZ,yaq];constructor
 ·rintro ⟨j,⟨h1,h2⟩,e⟩; exact ⟨j,h1,h2,e⟩
 ·rintro ⟨j,h1,h2,e⟩; exact ⟨j,⟨h1,h2⟩,e⟩
def zls (n m k:Nat) (hk:k < (zag m).length):(zex n m).testBit ((zag m).getD k 0)=n.testBit k:=by
 apply Bool.eq_iff_iff.mpr;rw [zeT];constructor
 ·rintro ⟨j,h1,h2,e⟩;rw [<- zdA h1 hk e]; exact h2
 ·exact λ h=>⟨k,hk,h,rfl⟩
end L2
namespace L2
open PySem PySem.Spec PyProof.Rows
section
variable {X:Cx}
def zjZ {xs:List V} {i:Nat} {u:V} (h:xs.all zbw=true) (e:xs[i]?=some u):zbw u=true:=List.all_eq_true.mp h u (yaw e)
end
def zaD {X:Cx} {x:Str} {j pos} {es:List Expr} {t:TA} (hr:PA X es t):PA X (.Constant (.str x) j pos :: es) (zhK (tC (.str x)) t):=zaa zaT hr rfl
noncomputable def zpK (i j:Int):Prop:=0 < j /\ j < 18446744073709551616
def zgc {X:Cx}:OpR X (binaryOp .FloorDiv) (rI zpK λ i j=>.int (i / j)):=opI λ i j _ _ _ _ _ hc q=>by
 have h1:(0:Int) < j:=hc.1;have h2:j < 18446744073709551616:=hc.2;refine floordiv_int (1:) (by rw [Int.fdiv_eq_ediv_of_nonneg i (1:)]; exact q) (.inl (PyProof.noPylong_of_log2 ?_));have h3:j.natAbs < 2 ^ 64:=by omega
 have h4:j.natAbs ≠ 0:=by omega
 have:=(Nat.log2_lt h4).mpr h3;omega
def znB {K:PySem.W.Frag} {a b:Str} {H:Hp} {Q:VK} (e:(shpd (.str a) && shpd (.str b) && (a == b))=true) (h:Q (.bl true) H):rEqU K (.str a) (.str b) H Q:=by
 rw [yai,yai] at e;refine zic e.1.1 e.1.2 ?_;rw [e.2];exact h
def znq {K:PySem.W.Frag} {a b:Str} {H:Hp} {Q:VK} (e:(shpd (.str a) && shpd (.str b) && !(a == b))=true) (h:Q (.bl false) H):rEqU K (.str a) (.str b) H Q:=by
 rw [yai,yai,yby] at e;refine zic e.1.1 e.1.2 ?_;rw [e.2];exact h
def zpL {K:PySem.W.Frag} {x:V} {p:Addr} {xs:List V} {H:Hp} {Q:VK} (hq:SqT K H p xs) (e:(zbw x && xs.all zbw && inV x xs)=true) (h:Q (.bl true) H):rIn K false x (.ref p) H Q:=by
 rw [yai,yai] at e;refine ⟨p,xs,rfl,.inr hq,e.1.1,e.1.2,?_⟩;rw [if_neg (3:),e.2];exact h
def zpY {K:PySem.W.Frag} {x:V} {p:Addr} {xs:List V} {H:Hp} {Q:VK} (hq:SqT K H p xs) (e:(zbw x && xs.all zbw && !inV x xs)=true) (h:Q (.bl false) H):rIn K false x (.ref p) H Q:=by
 rw [yai,yai,yby] at e;refine ⟨p,xs,rfl,.inr hq,e.1.1,e.1.2,?_⟩;rw [if_neg (3:),e.2];exact h
def zoo {K:PySem.W.Frag} {x:V} {p:Addr} {xs:List V} {H:Hp} {Q:VK} (hq:SqT K H p xs) (e:(zbw x && xs.all zbw && inV x xs)=true) (h:Q (.bl false) H):rIn K true x (.ref p) H Q:=by
 rw [yai,yai] at e;refine ⟨p,xs,rfl,.inr hq,e.1.1,e.1.2,?_⟩;rw [if_pos rfl,e.2];exact h
def zoi {K:PySem.W.Frag} {x:V} {p:Addr} {xs:List V} {H:Hp} {Q:VK} (hq:SqT K H p xs) (e:(zbw x && xs.all zbw && !inV x xs)=true) (h:Q (.bl true) H):rIn K true x (.ref p) H Q:=by
 rw [yai,yai,yby] at e;refine ⟨p,xs,rfl,.inr hq,e.1.1,e.1.2,?_⟩;rw [if_pos rfl,e.2];exact h
def zdQ {xs:List V} {H:Hp} {Q:VK} (hz:xs.length <= 100000) (h:∀ p H',H p=none -> Same H H' -> H' p=some (.lst xs) -> Q (.ref p) H'):NewL xs H Q:=⟨yaK (zaR hz),λ p hp=>h p _ hp (zam hp) zai⟩
def zau {xs:List V} {H:Hp} {Q:VK} (hz:xs.length <= 100000) (h:∀ p H',H p=none -> Same H H' -> H' p=some (.tup xs) -> Q (.ref p) H'):NewT xs H Q:=⟨yaK (zaR hz),λ p hp=>h p _ hp (zam hp) zai⟩
open Bm
inductive Dd where
 | and (m:Nat) | or (m:Nat) | left (n:Nat) | right (n:Nat) | turn (n:Nat) | gather (m:Nat) | strew (m:Nat) | swap (m n:Nat) | copy (m:Nat) (n:Int)
 deriving DecidableEq
noncomputable def Dd.vals:Dd -> List V
 | .and m=>[.str "and",nV m]
 | .or m=>[.str "or",nV m]
 | .left n=>[.str "left",nV n]
 | .right n=>[.str "right",nV n]
 | .turn n=>[.str "turn",nV n]
 | .gather m=>[.str "gather",nV m]
 | .strew m=>[.str "strew",nV m]
 | .swap m n=>[.str "swap",nV m,nV n]
 | .copy m n=>[.str "copy",nV m,.int n]
noncomputable def inM (m:Nat) (z:Int):Bool:=decide (0 <= z) && m.testBit z.toNat
noncomputable def Dd.ok (w:Nat):Dd -> Prop
 | .and m=>m < 2 ^ w
 | .or m=>m < 2 ^ w
 | .left n=>n <= w
 | .right n=>n <= w
 | .turn n=>n < w
 | .gather m=>m < 2 ^ w
 | .strew m=>m < 2 ^ w
 | .swap m n=>1 <= n /\ n < w /\ ∀ p,m.testBit p=true -> p + n < w /\ m.testBit (p + n)=false
 | .copy m n=>n ≠ 0 /\ -(w:Int) < n /\ n < w /\ m < 2 ^ w /\ ∀ p,m.testBit p=true -> 0 <= (p:Int) + n /\ (p:Int) + n < w
noncomputable def ze4 (x:Nat) (n:Int):Nat:=if 0 <= n then x * 2 ^ n.toNat else x / 2 ^ (-n).toNat
noncomputable def zj8 (x m n:Nat):Nat:=(x ^^^ ((x ^^^ (x / 2 ^ n)) &&& m)) ^^^ (((x ^^^ (x / 2 ^ n)) &&& m) * 2 ^ n)
noncomputable def zlP (x m:Nat) (n:Int):Nat:=(x ^^^ (x &&& ze4 m n)) ||| ze4 (x &&& m) n
noncomputable def zlY (w x n:Nat):Nat:=((x * 2 ^ n) &&& (2 ^ w - 1)) ||| (x / 2 ^ (w - n))
noncomputable def Dd.doneN (w:Nat) (x:Nat):Dd -> Nat
 | .and m=>x &&& m
 | .or m=>x ||| m
 | .left n=>(x * 2 ^ n) &&& (2 ^ w - 1)
 | .right n=>x / 2 ^ n
 | .turn n=>zlY w x n
 | .gather m=>zjJ x m
 | .strew m=>zex x m
 | .swap m n=>zj8 x m n
 | .copy m n=>zlP x m n
noncomputable def Dd.src (w:Nat) (p:Nat):Dd -> Int
 | .and m=>if m.testBit p then (p:Int) else -1
 | .or m=>if m.testBit p then -2 else (p:Int)
 | .left n=>if n <= p then (p:Int) - n else -1
 | .right n=>if p + n < w then (p:Int) + n else -1
 | .turn n=>if n <= p then (p:Int) - n else (p:Int) - n + w
 | .gather m=>if p < (zag m).length then ((zag m).getD p 0:Int) else -1
 | .strew m=>if m.testBit p then ((zag m).idxOf p:Int) else -1
 | .swap m n=>if inM m ((p:Int) - n) then (p:Int) - n else if m.testBit p then (p:Int) + n else p
 | .copy m n=>if inM m ((p:Int) - n) then (p:Int) - n else p
noncomputable def Dd.led (w:Nat) (d:Dd):List Int:=(List.range w).map λ p=>d.src w p
def znh (m k:Nat):inM m (k:Int)=m.testBit k:=by
 unfold inM; simp
def zdt (x:Nat) (n:Int) (i:Nat):(ze4 x n).testBit i=inM x ((i:Int) - n):=by
 unfold ze4 inM;by_cases h:0 <= n
 ·rw [if_pos h, ya4];by_cases k : n.toNat <= i
  ·rw [decide_eq_true k,decide_eq_true (show 0 <= (i:Int) - n by omega),show ((i:Int) - n).toNat=i - n.toNat by omega]
  ·rw [decide_eq_false k,decide_eq_false (show ¬ 0 <= (i:Int) - n by omega)]; rfl
 ·rw [if_neg h,yaY,decide_eq_true (show 0 <= (i:Int) - n by omega),show ((i:Int) - n).toNat=i + (-n).toNat by omega];simp
def zcU {x w i:Nat} (h:x < 2 ^ w) (hi:w <= i):x.testBit i=false:=ybD (yaf h (yaO (3:) hi))
def zbc {m p:Nat} (h:m.testBit p=true):(zag m).idxOf p < (zag m).length /\ (zag m).getD ((zag m).idxOf p) 0=p:=by
 have hm:p ∈ zag m:=zc9.mpr h;have hl:=List.idxOf_lt_length_iff.mpr hm;refine ⟨hl,?_⟩;rw [yab,yaa hl];exact yb1 hl
def zcD (x k:Nat):bitL x (k:Int)=x.testBit k:=by
 unfold bitL;rw [if_neg (1:),if_pos (1:),yam]
def zaV {x:Nat} {z:Int} (h:0 <= z):bitL x z=x.testBit z.toNat:=by
 unfold bitL;rw [if_neg (1:),if_pos h]
def Dd.src_ld {w:Nat} {d:Dd} (h:d.ok w) {p:Nat} (hp:p < w):-2 <= d.src w p /\ d.src w p < (w:Int):=by
 cases d with
 | and m=>simp only [Dd.src]; split <;> omega
 | or m=>simp only [Dd.src]; split <;> omega
 | left n=>simp only [Dd.src]; split <;> omega
 | right n=>simp only [Dd.src]; split <;> omega
 | turn n=>simp only [Dd.src,Dd.ok] at h ⊢; split <;> omega
 | gather m=>
  simp only [Dd.src,Dd.ok] at h ⊢
  split
  ·rename_i k; have:=zcZ h k; omega
  ·omega
 | strew m=>
  simp only [Dd.src,Dd.ok] at h ⊢
  split
  ·rename_i k; have:=(zbc k).1; have:=za8 h; omega
  ·omega
 | swap m n=>
  simp only [Dd.src,Dd.ok] at h ⊢
  split
  ·rename_i k; simp only [inM,yai,decide_eq_true_iff] at k; omega
  ·split
   ·rename_i k; have:=(h.2.2 p k).1; omega
   ·omega
 | copy m n=>
  simp only [Dd.src,Dd.ok] at h ⊢
  split
  ·rename_i k;simp only [inM, yai, decide_eq_true_iff] at k
   have:((p:Int) - n).toNat < w:=by
    by_cases z:((p:Int) - n).toNat < w
    ·exact z
    ·rw [zcU h.2.2.2.1 (1:)] at k; exact absurd k.2 yay
   omega
  ·omega
def Dd.led_ld {w:Nat} {d:Dd} (h:d.ok w):Ld w (d.led w):=by
 refine ⟨by simp [Dd.led],λ e he=>?_⟩;simp only [Dd.led,yaP,yaq] at he;obtain ⟨p,hp,rfl⟩:=he;exact d.src_ld h hp
def Dd.done_lt {w x:Nat} {d:Dd} (h:d.ok w) (hx:x < 2 ^ w):d.doneN w x < 2 ^ w:=by
 apply Nat.lt_pow_two_of_testBit;intro i hi;have bx:=zcU hx hi;have p1:(2 ^ w - 1).testBit i=false:=by rw [ya5]; simp; omega
 cases d with
 | and m=>simp only [Dd.doneN,yaM,bx,Bool.false_and]
 | or m=>simp only [Dd.doneN,Dd.ok,ybr,bx,ycw] at h ⊢; exact zcU h hi
 | left n=>simp only [Dd.doneN,yaM,p1,Bool.and_false]
 | right n=>simp only [Dd.doneN,yaY]; exact zcU hx (1:)
 | turn n=>simp only [Dd.doneN,zlY,ybr,yaM,p1,Bool.and_false,ycw,yaY]; exact zcU hx (1:)
 | gather m=>
  simp only [Dd.doneN,Dd.ok] at h ⊢;rw [ziu];have:=za8 h;simp; omega
 | strew m=>
  simp only [Dd.doneN,Dd.ok] at h ⊢;cases z:(zex x m).testBit i
  ·rfl
  ·obtain ⟨j,hj,_,e⟩:=(zeT x m i).mp z;have:=zcZ h hj;omega
 | swap m n=>
  simp only [Dd.doneN,Dd.ok] at h ⊢
  have m1:∀ p,w <= p + n -> m.testBit p=false:=λ p hp=>by
   cases z:m.testBit p
   ·rfl
   ·have:=(h.2.2 p z).1; omega
  unfold zj8;rw [ybm,ybm,bx,yaM,m1 i (1:),ya4,yaM,m1 (i - n) (1:)];simp
 | copy m n=>
  simp only [Dd.doneN,Dd.ok] at h ⊢;unfold zlP;rw [ybr,ybm,yaM,bx,zdt,zdt];cases z:inM (x &&& m) ((i:Int) - n)
  ·rfl
  ·simp only [inM,yai,decide_eq_true_iff,yaM] at z;have:=h.2.2.2.2 _ z.2.2;omega
def Dd.led_done {w x:Nat} {d:Dd} (h:d.ok w) (hx:x < 2 ^ w):ledN (d.led w) x=d.doneN w x:=by
 apply ybN;intro i;by_cases hi:i < w
 ·have e0:(d.led w).getD i 0=d.src w i:=by
   rw [Dd.led,yab,yag,yan hi]; rfl
  rw [zga _ _ _ (by simp [Dd.led]; exact hi),e0];cases d with
  | and m=>simp only [Dd.src,Dd.doneN,yaM]; split <;> rename_i k <;> simp [k,zcD]; rfl
  | or m=>simp only [Dd.src,Dd.doneN,ybr]; split <;> rename_i k <;> simp [k,zcD]; rfl
  | left n=>
   simp only [Dd.src,Dd.doneN,yaM,ya4,ya5]
   split
   ·rename_i k;rw [zaV (1:),show ((i:Int) - n).toNat=i - n by omega]; simp [k,hi]
   ·rename_i k; simp [k]; rfl
  | right n=>
   simp only [Dd.src,Dd.doneN,yaY]
   split
   ·rw [zaV (1:),show ((i:Int) + n).toNat=i + n by omega]
   ·rw [zcU hx (1:)]; rfl
  | turn n=>
   simp only [Dd.src,Dd.doneN,Dd.ok] at h ⊢;unfold zlY;rw [ybr,yaM,ya4,ya5,yaY]
   split
   ·rename_i k;rw [zaV (1:),show ((i:Int) - n).toNat=i - n by omega,zcU hx (show w <= i + (w - n) by omega)]; simp [k,hi]
   ·rename_i k;rw [zaV (1:),show ((i:Int) - n + w).toNat=i + (w - n) by omega]; simp [k]
  | gather m=>
   simp only [Dd.src,Dd.doneN,ziu]
   split
   ·rename_i k; rw [zcD]; simp [k]
   ·rename_i k; simp [k]; rfl
  | strew m=>
   simp only [Dd.src,Dd.doneN]
   split
   ·rename_i k;obtain ⟨k1,k2⟩:=zbc k;have:=zls x m _ k1;rw [k2] at this;rw [this,zcD]
   ·rename_i k;cases z : (zex x m).testBit i
    ·rfl
    ·obtain ⟨j,hj,_,e⟩:=(zeT x m i).mp z;exact absurd (zem.mpr ⟨j,hj,e⟩) k
  | swap m n=>
   simp only [Dd.src,Dd.doneN,Dd.ok] at h ⊢;unfold zj8;rw [ybm,ybm,yaM,ybm,yaY,ya4,yaM,ybm,yaY]
   split
   ·rename_i k;simp only [inM, yai, decide_eq_true_iff] at k;have e1 : ((i : Int) - n).toNat = i - n := by omega
    rw [e1] at k;have:=(h.2.2 _ k.2).2;rw [show i - n + n=i by omega] at this;rw [zaV k.1,e1,this,k.2,show i - n + n=i by omega];have:decide (i >= n)=true:=decide_eq_true (1:);rw [this];cases x.testBit i <;> cases x.testBit (i - n) <;> simp
   ·rename_i k
    have k0:(decide (i >= n) && m.testBit (i - n))=false:=by
     cases z:(decide (i >= n) && m.testBit (i - n))
     ·rfl
     ·rw [yai,decide_eq_true_iff] at z;refine absurd ?_ k;simp only [inM,yai,decide_eq_true_iff];rw [show ((i:Int) - n).toNat=i - n by omega];exact ⟨by omega,z.2⟩
    have k1:∀ b,(decide (i >= n) && (b && m.testBit (i - n)))=false:=λ b=>by
     cases b
     ·simp
     ·simpa using k0
    rw [k1]
    split
    ·rename_i k2;rw [zaV (1:),show ((i:Int) + n).toNat=i + n by omega,k2];cases x.testBit i <;> cases x.testBit (i + n) <;> rfl
    ·rename_i k2;rw [zcD];simp [k2]
  | copy m n=>
   simp only [Dd.src,Dd.doneN,Dd.ok] at h ⊢;unfold zlP;rw [ybr,ybm,yaM,zdt,zdt]
   split
   ·rename_i k;rw [k];simp only [inM, yai, decide_eq_true_iff] at k;rw [zaV k.1]
    have:inM (x &&& m) ((i:Int) - n)=x.testBit ((i:Int) - n).toNat:=by
     unfold inM; rw [yaM,k.2,decide_eq_true k.1]; simp
    rw [this];cases x.testBit i <;> cases x.testBit ((i:Int) - n).toNat <;> rfl
   ·rename_i k;have k' : inM m ((i : Int) - n) = false := by simpa using k
    have:inM (x &&& m) ((i:Int) - n)=false:=by
     unfold inM at k' ⊢; rw [yaM];cases z:decide (0 <= (i:Int) - n)
     ·rfl
     ·rw [z] at k'; simp at k' ⊢; simp [k']
    rw [this,k',zcD];simp
 ·rw [zcU (d.done_lt h hx) (1:),ledN,zaP,yaE (by simp [Dd.led]; omega)];rfl
def zhw (x n:Nat):(x:Int) * 2 ^ ((n:Int)).toNat=((x * 2 ^ n:Nat):Int):=by rw [yam]; simp
def zhy (x n:Nat):(x:Int) / 2 ^ ((n:Int)).toNat=((x / 2 ^ n:Nat):Int):=by rw [yam]; simp
def zl4 {lo hi q:Nat} (h:lo <= hi):(2 ^ hi - 2 ^ lo).testBit q=(decide (lo <= q) && decide (q < hi)):=by
 obtain ⟨d,rfl⟩:∃ d,hi=lo + d:=⟨hi - lo,by omega⟩
 have e:2 ^ (lo + d) - 2 ^ lo=(2 ^ d - 1) * 2 ^ lo:=by
  rw [Nat.pow_add,Nat.sub_mul,Nat.one_mul,Nat.mul_comm]
 rw [e,ya4,ya5];by_cases h1:lo <= q
 ·have:decide (q - lo < d)=decide (q < lo + d):=decide_eq_decide.mpr (1:);simp [h1,this]
 ·simp [h1]
def zid {a b:Nat} (h:a < 2 ^ 64):a &&& b < 2 ^ 64:=ybf Nat.and_le_left h
noncomputable def zgY:Sp:=λ vs H Q _=>∃ (x:Nat) (n:Int),vs=[nV x,.int n] /\ x < 2 ^ 64 /\ -64 < n /\ n < 64 /\ Q (nV (ze4 x n)) H
noncomputable def ziq:Sp:=λ vs H Q _=>∃ (x m:Nat) (n:Int),vs=[nV x,nV m,.int n] /\ x < 2 ^ 64 /\ m < 2 ^ 64 /\ -64 < n /\ n < 64 /\ Q (nV (zlP x m n)) H
noncomputable def zhf:Sp:=λ vs H Q _=>∃ (x m n:Nat),vs=[nV x,nV m,nV n] /\ x < 2 ^ 64 /\ n < 64 /\ Q (nV (zj8 x m n)) H
noncomputable def zii:Sp:=λ vs H Q _=>∃ (w x n:Nat),vs=[nV w,nV x,nV n] /\ x < 2 ^ 64 /\ n < w /\ w <= 64 /\ Q (nV (zlY w x n)) H
noncomputable def zmr:Sp:=λ vs H Q _=>∃ (w x:Nat) (a:Addr) (d:Dd),vs=[nV w,.ref a,nV x] /\ H a=some (.tup d.vals) /\ d.ok w /\ w <= 64 /\ x < 2 ^ w /\ ∀ H',Same H H' -> Q (nV (d.doneN w x)) H'
noncomputable def zfG:Sp:=λ vs H Q _=>∃ (p:Addr) (w n:Nat),vs=[.ref p,nV w,nV n] /\ Hand H p /\ 1 <= n /\ n < w /\ w <= 64 /\ ∀ (m:Nat) (H':Hp),(Dd.swap m n).ok w -> But p H H' -> Hand H' p -> Q (nV m) H'
noncomputable def zfx:Sp:=λ vs H Q _=>∃ (p:Addr) (w:Nat) (n:Int),vs=[.ref p,nV w,.int n] /\ Hand H p /\ n ≠ 0 /\ -(w:Int) < n /\ n < w /\ w <= 64 /\ ∀ (m:Nat) (H':Hp),(Dd.copy m n).ok w -> But p H H' -> Hand H' p -> Q (nV m) H'
noncomputable def zmM:Sp:=λ vs H Q _=>∃ (p:Addr) (w:Nat),vs=[.ref p,nV w] /\ Hand H p /\ 1 <= w /\ w <= 64 /\ ∀ (t:Addr) (d:Dd) (H':Hp),d.ok w -> But p H H' -> Hand H' p -> H' t=some (.tup d.vals) -> Q (.ref t) H'
noncomputable def Dd.mask:Dd -> Nat
 | .and m=>m | .or m=>m | .left _=>0 | .right _=>0 | .turn _=>0 | .gather m=>m | .strew m=>m | .swap m _=>m | .copy m _=>m
def ze9 {K:PySem.W.Frag} {a:Addr} {xs:List V} {g:TG} {tb:TS} {D:Ends} {σ:St} {H:Hp} (Pv:Nat -> St -> Hp -> Prop) (h0:Pv 0 σ H) (hl:∀ i σ H,Pv i σ H -> SqL K H a xs)
  (hs:∀ i u T σ H,xs[i]?=some u -> H T=none -> Pv i σ H -> g (.ref T) σ (upd H T (.tup [.int (i:Int),u])) λ σ2 H2=>tb { D with nx:=Pv (i + 1),ct:=Pv (i + 1),bk:=D.nx } σ2 H2) (hd:∀ σ H,Pv xs.length σ H -> D.nx σ H) :
  ForW (IteL K a xs) g tb D σ H:=by
 refine ⟨λ i m σ H=>m=xs.length - i /\ i <= xs.length /\ Pv i σ H,⟨xs.length,by simp,yaR _,h0⟩,?_⟩;rintro i m σ H ⟨rfl,hi,p⟩;by_cases hlt:i < xs.length
 ·refine .inr ⟨⟨hlt,hl i σ H p⟩,Pv (i + 1),λ σ' H' p'=>⟨xs.length - (i + 1),by omega,rfl,hlt,p'⟩,λ x H' y=>?_⟩;obtain ⟨T,u,rfl,hT,rfl,hu⟩:=y;exact hs i u T σ H hu hT p
 ·have e : i = xs.length := by omega
  subst e;exact .inl ⟨⟨rfl,hl _ σ H p⟩,hd σ H p⟩
def zmP {K:PySem.W.Frag} {a:Addr} {x:V} {k:Int} {n:Nat} {H:Hp} {Q:VK} (ha:H a=some (.lst [x])) (e:k=(n:Int)) (h2:n <= 100000) (h:∀ t H',H t=none -> Same H H' -> H' t=some (.lst (List.replicate n x)) -> Q (.ref t) H'):zmT K (.ref a) (.int k) H Q:=by
 subst e;refine .inl (.inr ⟨a,_,_,rfl,rfl,ha,by omega,by omega,?_,λ p hp=>?_⟩)
 ·rw [yam];show 1 * n <= sizeLine;rw [Nat.one_mul];exact yaK (zaR h2)
 ·have e:(List.replicate ((n:Int)).toNat [x]).flatten=List.replicate n x:=by
   rw [yam];clear h2 h
   induction n with
   | zero=>rfl
   | succ n ih=>rw [yba,ybJ,ih,yba]; rfl
  rw [e];exact h p _ hp (zam hp) zai
def zhj {K:PySem.W.Frag} {a b:Addr} {xs ys:List V} {H:Hp} {Q:VK} (ha:H a=some (.lst xs)) (hb:H b=some (.lst ys)) (hz:xs.length + ys.length <= 100000) (h:∀ t H',H t=none -> Same H H' -> H' t=some (.lst (xs ++ ys)) -> Q (.ref t) H'):zlJ K (.ref a) (.ref b) H Q:=
 .inr (.inl ⟨a,b,_,_,rfl,rfl,ha,hb,yaK (zaR hz),λ p hp=>h p _ hp (zam hp) zai⟩)
def zoy {p:Addr} {xs:List V} {j:Nat} {v:V} {H:Hp} {K:Hp -> Prop} (hp:H p=some (.lst xs)) (hj:j < xs.length) (h:K (upd H p (.lst (xs.set j v)))):zm6 (.ref p) (.int (j:Int)) v H K:=
 zn3 hp (by unfold ixN; rw [if_pos (1:),if_pos (1:)]; simp) h
def zhO {K:PySem.W.Frag} {a:Addr} {xs:List V} {H:Hp} {Q:VK} (ha:H a=some (.lst xs)) (h:∀ t H',H t=none -> Same H H' -> H' t=some (.tup xs) -> Q (.ref t) H'):zks K [.ref a] H Q:=
 ⟨a,xs,rfl,.inl ⟨SqL.of ha,λ t ht=>h t _ ht (zam ht) zai⟩⟩
noncomputable def pon (w:Nat) (z:Int):Int:=if 0 <= z /\ z <= (w:Int) - 1 then z else -1
noncomputable def zoS:Sp:=λ vs H Q _=>∃ (w:Nat) (z:Int),vs=[nV w,.int z] /\ Q (.int (pon w z)) H
noncomputable def zgA:Sp:=λ vs H Q _=>∃ (m:Nat) (n:Int) (p:Nat),vs=[nV m,.int n,nV p] /\ Q (.int (if inM m ((p:Int) - n) then (p:Int) - n else p)) H
noncomputable def Dd.flat:Dd -> Bool
 | .gather _=>false
 | .strew _=>false
 | _=>true
noncomputable def ziC:Sp:=λ vs H Q _=>∃ (w p:Nat) (a:Addr) (d:Dd),vs=[nV w,.ref a,nV p] /\ H a=some (.tup d.vals) /\ d.ok w /\ d.flat=true /\ p < w /\ w <= 64 /\ Q (.int (d.src w p)) H
noncomputable def zie:Sp:=λ vs H Q _=>∃ (w m:Nat),vs=[nV w,nV m] /\ m < 2 ^ w /\ w <= 64 /\ ∀ t H',Same H H' -> H' t=some (.tup (((Dd.gather m).led w).map V.int)) -> Q (.ref t) H'
noncomputable def zgv:Sp:=λ vs H Q _=>∃ (w m:Nat),vs=[nV w,nV m] /\ m < 2 ^ w /\ w <= 64 /\ ∀ t H',Same H H' -> H' t=some (.tup (((Dd.strew m).led w).map V.int)) -> Q (.ref t) H'
noncomputable def ziz:Sp:=λ vs H Q _=>∃ (w:Nat) (a:Addr) (d:Dd),vs=[nV w,.ref a] /\ H a=some (.tup d.vals) /\ d.ok w /\ w <= 64 /\ ∀ t H',Same H H' -> H' t=some (.tup ((d.led w).map V.int)) -> Q (.ref t) H'
def ziV {m w:Nat} (h:m < 2 ^ w):((Dd.gather m).led w).map V.int=(zag m).map nV ++ (List.replicate (w - (zag m).length) (V.int (-1))):=by
 have hl:=za8 h;apply ybx;intro i;rw [Dd.led,ybp,yag];by_cases hi:i < w
 ·rw [yan hi];show some (V.int ((Dd.gather m).src w i)) = _;simp only [Dd.src];by_cases hp : i < (zag m).length
  ·rw [if_pos hp,ybq (by rw [yad]; exact hp),yag,yaa hp,yab,yaa hp];rfl
  ·rw [if_neg hp,ya8 (by rw [yad]; omega),List.getElem?_replicate,yad,if_pos (1:)]
 ·rw [yaE (by rw [yar]; omega),yaE (by rw [yaG,yad,yca]; omega)];rfl
noncomputable def zbC (w m i:Nat):List Int:=(List.range w).map λ p=>if (zag m).idxOf p < i /\ m.testBit p=true then ((zag m).idxOf p:Int) else -1
def zhS (w m:Nat):zbC w m 0=List.replicate w (-1):=by
 rw [zbC,yaX (g:=λ _=>(-1:Int)) (λ p _=>by rw [if_neg (1:)])];rw [List.map_const',yar]
def zhD {w m i y:Nat} (h:m < 2 ^ w) (hi:(zag m)[i]?=some y):(zbC w m i).set y (i:Int)=zbC w m (i + 1):=by
 have hil:i < (zag m).length:=(yaj.mp hi).1;have eg:(zag m).getD i 0=y:=by rw [yab,hi]; rfl
 have hy:m.testBit y=true:=zem.mpr ⟨i,hil,eg⟩;have hyw:y < w:=ze2 h (zc9.mpr hy)
 have ei:(zag m).idxOf y=i:=by
  obtain ⟨h1,h2⟩:=zbc hy;exact zdA h1 hil (h2.trans eg.symm)
 apply ybx;intro p;rw [List.getElem?_set];by_cases e:y=p
 ·subst e;rw [if_pos rfl,if_pos (by simp [zbC]; exact hyw),zbC,yag,yan hyw];show some (i:Int)=some (if (zag m).idxOf y < i + 1 /\ m.testBit y=true then ((zag m).idxOf y:Int) else -1);rw [if_pos ⟨by omega,hy⟩,ei]
 ·rw [if_neg e, zbC, zbC, yag, yag];by_cases hp : p < w
  ·rw [yan hp];show some (if (zag m).idxOf p < i /\ m.testBit p = true then ((zag m).idxOf p : Int) else -1) = some (if (zag m).idxOf p < i + 1 /\ m.testBit p = true then ((zag m).idxOf p : Int) else -1)
   have:((zag m).idxOf p < i /\ m.testBit p=true) ↔ ((zag m).idxOf p < i + 1 /\ m.testBit p=true):=by
    constructor
    ·exact λ ⟨a,b⟩=>⟨by omega,b⟩
    ·rintro ⟨a, b⟩;refine ⟨?_, b⟩
     have:(zag m).idxOf p ≠ i:=λ z=>by
      have:=(zbc b).2;rw [z,eg] at this;exact e this
     omega
   by_cases c:(zag m).idxOf p < i /\ m.testBit p=true
   ·rw [if_pos c,if_pos (this.mp c)]
   ·rw [if_neg c,if_neg (λ z=>c (this.mpr z))]
  ·rw [yaE (by rw [yar]; omega)];rfl
def zjp {w m:Nat}:zbC w m (zag m).length=(Dd.strew m).led w:=by
 rw [zbC,Dd.led];apply yaX;intro p hp;simp only [Dd.src];by_cases c:m.testBit p=true
 ·rw [if_pos c,if_pos ⟨(zbc c).1,c⟩]
 ·rw [if_neg c,if_neg (λ z=>c z.2)]
def zjr (w m i:Nat):(zbC w m i).length=w:=by simp [zbC]
noncomputable def rowV (L:List (Addr × Dd)):List V:=L.map λ q=>V.ref q.1
noncomputable def Rw (H:Hp) (w:Nat) (L:List (Addr × Dd)):Prop:=∀ q ∈ L,H q.1=some (.tup q.2.vals) /\ q.2.ok w
def Rw.same {H H':Hp} {w:Nat} {L:List (Addr × Dd)} (h:Rw H w L) (s:Same H H'):Rw H' w L:=λ q hq=>⟨s _ _ (h q hq).1,(h q hq).2⟩
def Rw.but {H H':Hp} {p:Addr} {w:Nat} {L:List (Addr × Dd)} (h:Rw H w L) (hh:Hand H p) (b:But p H H'):Rw H' w L:=λ q hq=>⟨b.keep _ _ (hh.neT (h q hq).1) (h q hq).1,(h q hq).2⟩
noncomputable def dds (L:List (Addr × Dd)):List Dd:=L.map λ q=>q.2
noncomputable def rowN (w:Nat) (ds:List Dd) (x:Nat):Nat:=ds.foldl (λ x d=>d.doneN w x) x
noncomputable def rowL (w:Nat) (ds:List Dd):List Int:=ds.foldl (λ l d=>zat l (d.led w)) (zaw w)
def zhg {w:Nat}:∀ (ds:List Dd) (l:List Int),(∀ d ∈ ds,d.ok w) -> Ld w l -> Ld w (ds.foldl (λ l d=>zat l (d.led w)) l)
 | [],_,_,h=>h
 | d :: ds,l,hd,h=>zhg ds _ (λ e he=>hd e (.tail _ he)) (zbT h (d.led_ld (hd d (.head _))))
def za3 {w:Nat} {ds:List Dd} (h:∀ d ∈ ds,d.ok w):Ld w (rowL w ds):=zhg ds _ h (zeh w)
def zcg {w:Nat}:∀ (ds:List Dd) (l:List Int),(∀ d ∈ ds,d.ok w) -> Ld w l -> ds.foldl (λ l d=>zat l (d.led w)) l=zat l (rowL w ds)
 | [],l,_,h=>(zcA h).symm
 | d :: ds,l,hd,h=>by
  have h0:=d.led_ld (hd d (.head _));have ht:∀ e ∈ ds,e.ok w:=λ e he=>hd e (.tail _ he);show ds.foldl (λ l d=>zat l (d.led w)) (zat l (d.led w))=zat l (ds.foldl (λ l d=>zat l (d.led w)) (zat (zaw w) (d.led w)));rw [zcg ds _ ht (zbT h h0),zcg ds _ ht (zbT (zeh w) h0),zaJ h0,zaQ h0 (za3 ht)]
def zeX {w:Nat} {ds es:List Dd} (h1:∀ d ∈ ds,d.ok w) (h2:∀ d ∈ es,d.ok w):rowL w (ds ++ es)=zat (rowL w ds) (rowL w es):=by
 show List.foldl _ _ (ds ++ es)=_;rw [ybi];exact zcg es _ h2 (za3 h1)
def zdw (w:Nat) (ds es:List Dd) (x:Nat):rowN w (ds ++ es) x=rowN w es (rowN w ds x):=by
 show List.foldl _ _ (ds ++ es)=_;rw [ybi];rfl
def zdC {w:Nat}:∀ (ds:List Dd) (x:Nat),(∀ d ∈ ds,d.ok w) -> x < 2 ^ w -> rowN w ds x < 2 ^ w
 | [],_,_,h=>h
 | d :: ds,x,hd,h=>zdC ds _ (λ e he=>hd e (.tail _ he)) (d.done_lt (hd d (.head _)) h)
def ziH {w:Nat}:∀ (ds:List Dd) (l:List Int) (x:Nat),(∀ d ∈ ds,d.ok w) -> Ld w l -> ledN l x < 2 ^ w -> ledN (ds.foldl (λ l d=>zat l (d.led w)) l) x=rowN w ds (ledN l x)
 | [],_,_,_,_,_=>rfl
 | d :: ds,l,x,hd,h,hx=>by
  have h0:=hd d (.head _);have e:ledN (zat l (d.led w)) x=d.doneN w (ledN l x):=by rw [zij h (d.led_ld h0),d.led_done h0 hx]
  show ledN (ds.foldl (λ l d=>zat l (d.led w)) (zat l (d.led w))) x=rowN w ds (d.doneN w (ledN l x));rw [ziH ds _ x (λ e he=>hd e (.tail _ he)) (zbT h (d.led_ld h0)) (by rw [e]; exact d.done_lt h0 hx),e]
def zeE {w x:Nat} {ds:List Dd} (h:∀ d ∈ ds,d.ok w) (hx:x < 2 ^ w):ledN (rowL w ds) x=rowN w ds x:=by
 have:=ziH ds (zaw w) x h (zeh w) (by rw [zef hx]; exact hx);rw [zef hx] at this;exact this
def zee (L M:List (Addr × Dd)):rowV L ++ rowV M=rowV (L ++ M):=by rw [rowV,rowV,rowV,yat]
def za1 (L:List (Addr × Dd)):(rowV L).length=L.length:=by rw [rowV,yad]
def zhv (L M:List (Addr × Dd)):dds (L ++ M)=dds L ++ dds M:=by rw [dds,dds,dds,yat]
def Rw.app {H:Hp} {w:Nat} {L M:List (Addr × Dd)} (h:Rw H w L) (h':Rw H w M):Rw H w (L ++ M):=λ q hq=>(yau.mp hq).elim (h q) (h' q)
def zpD {A B:Prop} {c:Bool} (e:c=false) (h:B):if c=true then A else B:=by subst e; exact iteF h
def zpu {A B:Prop} {c:Bool} (e:c=true) (h:A):if c=true then A else B:=by subst e; exact iteT h
def Rw.ok {H:Hp} {w:Nat} {L:List (Addr × Dd)} (h:Rw H w L):∀ d ∈ dds L,d.ok w:=λ d hd=>by
 obtain ⟨q,hq,rfl⟩:=yaP.mp hd;exact (h q hq).2
noncomputable def zg2 (K:PySem.W.Frag):Sp:=λ vs H Q _=>∃ (w x:Nat) (a:Addr) (L:List (Addr × Dd)),vs=[nV w,.ref a,nV x] /\ SqA K H a (rowV L) /\ Rw H w L /\ w <= 64 /\ x < 2 ^ w /\ ∀ H',Same H H' -> Q (nV (rowN w (dds L) x)) H'
noncomputable def zka (K:PySem.W.Frag):Sp:=λ vs H Q _=>∃ (w:Nat) (a:Addr) (L:List (Addr × Dd)),vs=[nV w,.ref a] /\ SqA K H a (rowV L) /\ Rw H w L /\ w <= 64 /\ ∀ t H',Same H H' -> H' t=some (.tup ((rowL w (dds L)).map V.int)) -> Q (.ref t) H'
noncomputable def zim:Sp:=λ vs H Q _=>∃ (p:Addr) (w:Nat),vs=[.ref p,nV w] /\ Hand H p /\ 1 <= w /\ w <= 64 /\ ∀ (l:Addr) (L:List (Addr × Dd)) (H':Hp),L.length <= 20 -> Rw H' w L -> H l=none -> But p H H' -> Hand H' p -> H' l=some (.lst (rowV L)) -> Q (.ref l) H'
noncomputable def ziR (ls:List Int):List Nat:=(ls.filter λ e=>decide (0 <= e)).map Int.toNat
noncomputable def zfi (ls:List Int):Nat:=zeu (ziR ls)
def zkx (ls:List Int):(ls.filter λ e=>decide (0 <= e)).map V.int=(ziR ls).map nV:=by
 rw [ziR,ybp];apply yaX;intro e he;have:=(yaZ.mp he).2;rw [decide_eq_true_iff] at this;show V.int e=V.int ((e.toNat:Nat):Int);rw [ybl this]
def zd8 (ls:List Int) (p:Nat):(zfi ls).testBit p=decide ((p:Int) ∈ ls):=by
 rw [zfi,za2];apply decide_eq_decide.mpr;simp only [ziR,yaP,yaZ,decide_eq_true_iff];constructor
 ·rintro ⟨e,⟨h1,h2⟩,rfl⟩;rw [ybl h2]; exact h1
 ·exact λ h=>⟨p,⟨h,by omega⟩,by omega⟩
noncomputable def zmo:Sp:=λ vs H Q _=>∃ (a:Addr) (ls:List Int) (w:Nat),vs=[.ref a] /\ H a=some (.tup (ls.map V.int)) /\ Ld w ls /\ w <= 64 /\ ∀ H',Same H H' -> Q (nV (zfi ls)) H'
def zmG {K:PySem.W.Frag} {i j:Bool} {H:Hp} {Q:VK} (h:Q (.bl (!(i == j))) H):rNeU K (.bl i) (.bl j) H Q:=⟨.bool i,.bool j,.bool K H i,.bool K H j,rfl,rfl,h⟩
def zlR {K:PySem.W.Frag} {a:Addr} {xs:List V} {g:TG} {tb:TS} {D:Ends} {σ:St} {H:Hp} (Pv:Nat -> St -> Hp -> Prop) (h0:Pv 0 σ H) (hl:∀ i σ H',Pv i σ H' -> SqL K H' a xs)
  (step:∀ i x σ H',xs[i]?=some x -> Pv i σ H' -> g x σ H' λ σ2 H2=>tb { D with nx:=Pv (i + 1),ct:=Pv (i + 1),bk:=D.nx } σ2 H2) (done:∀ σ H',Pv xs.length σ H' -> D.nx σ H') :
  ∃ b,V.ref a=.ref b /\ (((∃ xs,SqL K H b xs) /\ ForW (Itl K b) g tb D σ H) \/ ((∃ xs,SqT K H b xs) /\ ForW (Itt K b) g tb D σ H)):=
 ⟨a,rfl,.inl ⟨⟨xs,hl 0 σ H h0⟩,ziE Pv h0 (λ i σ H' _ p=>hl i σ H' p) step done⟩⟩
def zmx {K:PySem.W.Frag} {a b:Addr} {xs ys:List Int} {H:Hp} {Q:VK} (ha:SqL K H a (xs.map V.int)) (hb:SqL K H b (ys.map V.int)) (h:Q (.bl (decide (xs=ys))) H):rEqU K (.ref a) (.ref b) H Q:=by
 refine ⟨.list (xs.map .int),.list (ys.map .int),DatV.list ha (DatVs.ints K H xs),DatV.list hb (DatVs.ints K H ys),zgW _,zgW _,?_⟩;rw [show PyData.eqv (.list (xs.map .int)) (.list (ys.map .int))=decide (xs=ys) by rw [PyData.eqv,zbZ]];exact h
noncomputable abbrev plc (m j:Nat):Nat:=(zag m).getD j 0
def zku {m i:Nat}:∀ d,i + d < (zag m).length -> plc m i + d <= plc m (i + d)
 | 0,_=>yah _
 | d + 1,h=>by
  have a:=zku (m:=m) (i:=i) d (1:);have b:=zek (m:=m) (i:=i + d) (j:=i + (d + 1)) (1:) h;show plc m i + (d + 1) <= plc m (i + (d + 1));have b':plc m (i + d) < plc m (i + (d + 1)):=b;omega
def zmO {m j:Nat} (h:j < (zag m).length):j <= plc m j:=by
 have:=zku (m:=m) (i:=0) j (1:);rw [ycb] at this;omega
def zeZ {K:PySem.W.Frag} {p:Addr} {xs:List V} {v:V} {H:Hp} {Q:VK} (hq:SqL K H p xs) (e:xs[xs.length - 1]?=some v) (h:Q v H):rIx K (.ref p) (.int (-1)) H Q:=by
 have hl:xs.length - 1 < xs.length:=(yaj.mp e).1
 have e':atI xs (-1)=some v:=by
  unfold atI ixN;rw [if_neg (3:),if_pos (1:),show ((-1:Int) + (xs.length:Int)).toNat=xs.length - 1 by omega];exact e
 exact .inl ⟨p,xs,-1,v,rfl,rfl,hq,e',h⟩
section
variable {X:Cx} {K:PySem.W.Frag}
end
noncomputable def SqIt:Bool -> Heap -> Addr -> Addr -> Nat -> Prop
 | true,h,it,l,i=>h.IsListIter it l i
 | false,h,it,l,i=>h.IsTupleIter it l i
noncomputable def SqOb:Bool -> Heap -> Addr -> Array Value -> Prop
 | true,h,l,xs=>h.IsList l xs
 | false,h,l,xs=>h.IsTuple l xs
def zeb {prog:Program} {w:World} {A:Around} (hh:A.handled=none) (b:Bool) (it l:Addr) (hne:l ≠ it) (xs:Array Value):Draws prog w A it [it,l] xs.size (λ i v=>xs[i]?=some v) (λ i h=>SqIt b h it l i /\ SqOb b h l xs):=by
 cases b
 ·exact Draws.tuple hh it l hne xs
 ·exact Draws.list hh it l hne xs
def SqIt.keep {b:Bool} {h h':Heap} {it l:Addr} {i:Nat} (x:SqIt b h it l i) (k:∀ o,h.get? it=some o -> h'.get? it=some o):SqIt b h' it l i:=by
 cases b
 ·exact Heap.IsTupleIter.at x k
 ·exact Heap.IsListIter.at x k
def SqOb.keep {b:Bool} {h h':Heap} {l:Addr} {xs:Array Value} (x:SqOb b h l xs) (k:∀ o,h.get? l=some o -> h'.get? l=some o):SqOb b h' l xs:=by
 cases b
 ·exact Heap.IsTuple.at x k
 ·exact Heap.IsList.at x k
def SqIt.look {b:Bool} {h:Heap} {it l:Addr} {i:Nat} (x:SqIt b h it l i):∃ o,h.get? it=some o /\ ∀ v,o.data ≠ .cell v:=by
 cases b
 ·obtain ⟨o,e,c,d⟩:=x; exact ⟨o,e,λ v q=>by rw [d] at q; cases q⟩
 ·obtain ⟨o,e,c,d⟩:=x; exact ⟨o,e,λ v q=>by rw [d] at q; cases q⟩
structure ZA (z TI TO i1 i2:Addr) (f1 f2:List Addr):Prop where
 Iz:TI ≠ z
 Oz:TO ≠ z
 z1:i1 ≠ z
 z2:i2 ≠ z
 IO:TI ≠ TO
 I1:TI ≠ i1
 I2:TI ≠ i2
 O1:TO ≠ i1
 O2:TO ≠ i2
 n12:i1 ≠ i2
 fz1:z ∉ f1
 fO1:TO ∉ f1
 f21:i2 ∉ f1
 fz2:z ∉ f2
 fO2:TO ∉ f2
 f12:i1 ∉ f2
section
variable {prog:Program} {w:World} {A:Around} {E:Value -> Shared -> Prop} {s:Shared}
def zgf {T:Addr} {a b x:Value} {k:Nat} {Q:Unit -> Shared -> Prop} (gT:IsPair s.heap T a b)
  (q:∀ g,g.get? T=some { cls:=.type "tuple",data:=.seq ((#[a,b]:Array Value).setIfInBounds k x) } -> Heap.SameBut T s.heap g -> Q () { s with heap:=g }):wpAny (model prog w) A (updateSeq T (·.setIfInBounds k x)) Q E s:=wpAny_updateSeq_pair gT q
variable {z TI TO i1 i2:Addr} {f1 f2:List Addr} {n1 n2 k:Nat} {P1 P2:Nat -> Value -> Prop} {S1 S2:Nat -> Heap -> Prop} {a b:Value}
def fr1 (D1:Draws prog w A i1 f1 n1 P1 S1) {c:Addr} {h h':Heap} (n:c ∉ f1) (g:Heap.SameBut c h h') (x:S1 k h):S1 k h':=D1.frame _ _ _ x λ _ m _ e=>g.extBut _ _ (λ y=>n (y ▸ m)) e
def zkF {Q:Value -> Shared -> Prop} (D1:Draws prog w A i1 f1 n1 P1 S1) (D2:Draws prog w A i2 f2 n2 P2 S2) (C:ZA z TI TO i1 i2 f1 f2)
  (gz:IsZip s.heap z TI TO .none) (gI:IsPair s.heap TI (.ref i1) (.ref i2)) (gO:IsPair s.heap TO a b) (t1:S1 k s.heap) (t2:S2 k s.heap) (l1:k < n1) (l2:k < n2)
  (q : ∀ x y g tk, P1 k x -> P2 k y -> IsZip g z TI TO (rawInt s.heap.objs.size) -> IsPair g TO x y -> S1 (k + 1) g -> S2 (k + 1) g -> IsPair g s.heap.objs.size x y -> g.objs.size = s.heap.objs.size + 1 ->
   (∀ c o,c ≠ z -> c ≠ TO -> c ≠ i1 -> c ≠ i2 -> s.heap.get? c=some o -> g.get? c=some o) -> Q (.ref s.heap.objs.size) { s with heap:=g,toks:=tk }) :
  wpAny (model prog w) A (Builtin.«zip.__next__» ⟨[.ref z],[]⟩) (λ fin s'=>∃ v,fin=.done (.ret v) /\ Q v s') E s:=by
 show wpAny _ _ (field (.ref z) 2 >>= _) _ _ _;refine wpAny_bind (wpAny_field gz rfl (x:=.bool false) rfl ?_);show wpAny _ _ (field (.ref z) 3 >>= _) _ _ _;refine wpAny_bind (wpAny_field gz rfl (x:=.ref TI) rfl (wpAny_bind (wpAny_seqItems gI rfl ?_)));show wpAny _ _ (Builtin.SmallTypes.ownedTupleIsFree (.ref z) >>= _) _ _ _;refine wpAny_bind ?_;unfold Builtin.SmallTypes.ownedTupleIsFree;refine wpAny_bind (wpAny_field gz rfl (x:=.none) rfl (wpAny_pure ?_));simp only [if_true];refine wpAny_bind (wpAny_rule (wpAny_bind (wpAny_field gz rfl (x:=.ref TO) rfl (wpAny_bind (wpAny_setField_rec gz (5:) λ g1 gz1 e1=>wpAny_bind ?_)))))
 replace gz1:IsZip g1 z TI TO .ellipsis:=gz1
 simp only [ycg,List.zipIdx_nil,List.forIn_cons,List.forIn_nil];refine wpAny_bind (wpAny_bind (wpAny_onRaise ?_));show wpAny _ _ (Builtin.SmallTypes.nextOf (.ref i1) >>= _) _ _ _;refine wpAny_bind (D1.item k { s with heap:=g1 } _ _ l1 (fr1 D1 C.fz1 e1 t1) λ x g2 tk2 px y1 e2=>wpAny_pure ?_);have gO2:IsPair g2 TO a b:=e2.extBut _ _ C.O1 (e1.extBut _ _ C.Oz gO);refine wpAny_bind (wpAny_seqItems gO2 rfl (wpAny_bind (zgf gO2 λ g3 gO3 e3=>?_)))
 replace gO3:IsPair g3 TO x b:=gO3
 refine wpAny_bind (wpAny_letGo (wpAny_pure (wpAny_bind (wpAny_bind (wpAny_onRaise ?_)))));show wpAny _ _ (Builtin.SmallTypes.nextOf (.ref i2) >>= _) _ _ _;have t23:S2 k g3:=fr1 D2 C.fO2 e3 (fr1 D2 C.f12 e2 (fr1 D2 C.fz2 e1 t2));refine wpAny_bind (D2.item k { s with heap:=g3,toks:=tk2 } _ _ l2 t23 λ y g4 tk4 py y2 e4=>wpAny_pure ?_);have gO4:IsPair g4 TO x b:=e4.extBut _ _ C.O2 gO3;refine wpAny_bind (wpAny_seqItems gO4 rfl (wpAny_bind (zgf gO4 λ g5 gO5 e5=>?_)))
 replace gO5:IsPair g5 TO x y:=gO5
 refine wpAny_bind (wpAny_letGo (wpAny_pure (wpAny_pure (wpAny_bind (wpAny_seqItems gO5 rfl (wpAny_bind (wpAny_newTuple ?_)))))));have z5:g5.objs.size=s.heap.objs.size:=((((e5.1).trans e4.1).trans e3.1).trans e2.1).trans e1.1;have gz5:IsZip g5 z TI TO .ellipsis:=e5.extBut _ _ C.Oz.symm (e4.extBut _ _ C.z2.symm (e3.extBut _ _ C.Oz.symm (e2.extBut _ _ C.z1.symm gz1)));have kp5:∀ c o,c ≠ z -> c ≠ TO -> c ≠ i1 -> c ≠ i2 -> s.heap.get? c=some o -> g5.get? c=some o:=λ c o c1 c2 c3 c4 e=>e5.extBut _ _ c2 (e4.extBut _ _ c4 (e3.extBut _ _ c2 (e2.extBut _ _ c3 (e1.extBut _ _ c1 e))));have s15:S1 (k + 1) g5:=fr1 D1 C.fO1 e5 (fr1 D1 C.f21 e4 (fr1 D1 C.fO1 e3 y1));have s25:S2 (k + 1) g5:=fr1 D2 C.fO2 e5 y2;have lz:z < g5.objs.size:=yae gz5;show wpAny _ _ (Builtin.SmallTypes.ownedTupleHandOut (.ref z) (.ref g5.objs.size) >>= _) _ _ _;refine wpAny_bind ?_;unfold Builtin.SmallTypes.ownedTupleHandOut;have gz6:IsZip (g5.push { cls:=.type "tuple",data:=.seq #[x,y] }) z TI TO .ellipsis:=yac _ gz5;refine wpAny_bind (wpAny_setField_rec gz6 (5:) λ g7 gz7 e7=>?_)
 replace gz7:IsZip g7 z TI TO (rawInt g5.objs.size):=gz7
 refine wpAny_setField_rec gz7 (5:) λ g8 gz8 e8=>?_
 replace gz8:IsZip g8 z TI TO (rawInt g5.objs.size):=gz8
 have up:∀ c o,c ≠ z -> g5.get? c=some o -> g8.get? c=some o:=λ c o c1 e=>e8.extBut _ _ c1 (e7.extBut _ _ c1 (yac _ e));have gT8:IsPair g8 g5.objs.size x y:=e8.extBut _ _ (ybo lz) (e7.extBut _ _ (ybo lz) (yal _ rfl));have z8:g8.objs.size=g5.objs.size + 1:=by rw [e8.1,e7.1,ybh]
 rw [z5] at gz8 gT8 z8;refine wpAny_pure ⟨_,rfl,?_⟩;show Q (.ref g5.objs.size) _;rw [z5];exact q x y g8 tk4 px py gz8 (up _ _ C.Oz gO5) (D1.frame _ _ _ s15 λ c m o e=>up c o (λ u=>C.fz1 (u ▸ m)) e) (D2.frame _ _ _ s25 λ c m o e=>up c o (λ u=>C.fz2 (u ▸ m)) e) gT8 z8 λ c o c1 c2 c3 c4 e=>up c o c1 (kp5 c o c1 c2 c3 c4 e)
def zlX {Q:Fin -> Shared -> Prop} (D1:Draws prog w A i1 f1 n1 P1 S1) (D2:Draws prog w A i2 f2 n2 P2 S2) (C:ZA z TI TO i1 i2 f1 f2)
  (gz:IsZip s.heap z TI TO .none) (gI:IsPair s.heap TI (.ref i1) (.ref i2)) (gO:IsPair s.heap TO a b) (t1:S1 k s.heap) (t2:S2 k s.heap) (l:k=min n1 n2)
  (q:∀ g e tk,(∀ c o,c ≠ z -> c ≠ TO -> c ≠ i1 -> c ≠ i2 -> s.heap.get? c=some o -> g.get? c=some o) -> (∃ o,g.get? e=some o /\ o.cls=.type "StopIteration") -> E (.ref e) { s with heap:=g,toks:=tk }) :
  wpAny (model prog w) A (Builtin.«zip.__next__» ⟨[.ref z],[]⟩) Q E s:=by
 show wpAny _ _ (field (.ref z) 2 >>= _) _ _ _;refine wpAny_bind (wpAny_field gz rfl (x:=.bool false) rfl ?_);show wpAny _ _ (field (.ref z) 3 >>= _) _ _ _;refine wpAny_bind (wpAny_field gz rfl (x:=.ref TI) rfl (wpAny_bind (wpAny_seqItems gI rfl ?_)));show wpAny _ _ (Builtin.SmallTypes.ownedTupleIsFree (.ref z) >>= _) _ _ _;refine wpAny_bind ?_;unfold Builtin.SmallTypes.ownedTupleIsFree;refine wpAny_bind (wpAny_field gz rfl (x:=.none) rfl (wpAny_pure ?_));simp only [if_true];refine wpAny_bind (wpAny_rule (wpAny_bind (wpAny_field gz rfl (x:=.ref TO) rfl (wpAny_bind (wpAny_setField_rec gz (5:) λ g1 gz1 e1=>wpAny_bind ?_)))))
 replace gz1:IsZip g1 z TI TO .ellipsis:=gz1
 simp only [ycg,List.zipIdx_nil,List.forIn_cons,List.forIn_nil];refine wpAny_bind (wpAny_bind (wpAny_onRaise ?_));show wpAny _ _ (Builtin.SmallTypes.nextOf (.ref i1) >>= _) _ _ _;have t11:S1 k g1:=fr1 D1 C.fz1 e1 t1;by_cases hk:k < n1
 ·have hk2 : k = n2 := by omega
  refine wpAny_bind (D1.item k { s with heap:=g1 } _ _ hk t11 λ x g2 tk2 px y1 e2=>wpAny_pure ?_);have gO2:IsPair g2 TO a b:=e2.extBut _ _ C.O1 (e1.extBut _ _ C.Oz gO);refine wpAny_bind (wpAny_seqItems gO2 rfl (wpAny_bind (zgf gO2 λ g3 gO3 e3=>?_)));refine wpAny_bind (wpAny_letGo (wpAny_pure (wpAny_bind (wpAny_bind (wpAny_onRaise ?_)))));show wpAny _ _ (Builtin.SmallTypes.nextOf (.ref i2) >>= _) _ _ _;have t23:S2 k g3:=fr1 D2 C.fO2 e3 (fr1 D2 C.f12 e2 (fr1 D2 C.fz2 e1 t2));refine wpAny_bind (D2.done { s with heap:=g3,toks:=tk2 } _ _ (hk2 ▸ t23) λ g4 e e4 he=>?_);obtain ⟨oe,hoe,hce⟩:=he;have gz4:IsZip g4 z TI TO .ellipsis:=e4 _ _ C.z2.symm (e3.extBut _ _ C.Oz.symm (e2.extBut _ _ C.z1.symm gz1));have ne:e ≠ z:=λ y=>by subst y; rw [gz4] at hoe; cases hoe; simp at hce
  exact wpAny_setField_rec gz4 (5:) λ g5 _ e5=>q g5 e tk2 (λ c o c1 c2 c3 c4 y=>e5.extBut _ _ c1 (e4 _ _ c4 (e3.extBut _ _ c2 (e2.extBut _ _ c3 (e1.extBut _ _ c1 y))))) ⟨oe,e5.extBut _ _ ne hoe,hce⟩
 ·have hk1 : k = n1 := by omega
  refine wpAny_bind (D1.done { s with heap:=g1 } _ _ (hk1 ▸ t11) λ g2 e e2 he=>?_);obtain ⟨oe,hoe,hce⟩:=he;have gz2:IsZip g2 z TI TO .ellipsis:=e2 _ _ C.z1.symm gz1;have ne:e ≠ z:=λ y=>by subst y; rw [gz2] at hoe; cases hoe; simp at hce
  exact wpAny_setField_rec gz2 (5:) λ g3 _ e3=>q g3 e s.toks (λ c o c1 _ c3 _ y=>e3.extBut _ _ c1 (e2 _ _ c3 (e1.extBut _ _ c1 y))) ⟨oe,e3.extBut _ _ ne hoe,hce⟩
def zfh {Q:Option Value -> Shared -> Prop} (D1:Draws prog w A.in1 i1 f1 n1 P1 S1) (D2:Draws prog w A.in1 i2 f2 n2 P2 S2) (C:ZA z TI TO i1 i2 f1 f2)
  (gz:IsZip s.heap z TI TO .none) (gI:IsPair s.heap TI (.ref i1) (.ref i2)) (gO:IsPair s.heap TO a b) (t1:S1 k s.heap) (t2:S2 k s.heap) (l1:k < n1) (l2:k < n2)
  (q : ∀ x y g tk, P1 k x -> P2 k y -> IsZip g z TI TO (rawInt s.heap.objs.size) -> IsPair g TO x y -> S1 (k + 1) g -> S2 (k + 1) g -> IsPair g s.heap.objs.size x y -> g.objs.size = s.heap.objs.size + 1 ->
   (∀ c o,c ≠ z -> c ≠ TO -> c ≠ i1 -> c ≠ i2 -> s.heap.get? c=some o -> g.get? c=some o) -> Q (some (.ref s.heap.objs.size)) { s with heap:=g,toks:=tk }):wpAny (model prog w) A (pyNext (.ref z)) Q E s:=by
 have hT:s.TypeIs (.ref z) "zip":=⟨_,gz,rfl⟩
 unfold pyNext;exact wpAny_bind (wpAny_attempt (wpAny_callSpecial?_slot (name:=Str.ofString "__next__") hT yco (wpAny_call_entry yco hT F.entry_zip_next (zkF D1 D2 C gz gI gO t1 t2 l1 l2 λ x y g tk p1 p2 a1 a2 a3 a4 a5 a6 a7=>wpAny_pure (q x y g tk p1 p2 a1 a2 a3 a4 a5 a6 a7)) (F.args_zip_next_1 _))))
def zgo {Q:Option Value -> Shared -> Prop} (D1:Draws prog w A.in1 i1 f1 n1 P1 S1) (D2:Draws prog w A.in1 i2 f2 n2 P2 S2) (C:ZA z TI TO i1 i2 f1 f2)
  (gz:IsZip s.heap z TI TO .none) (gI:IsPair s.heap TI (.ref i1) (.ref i2)) (gO:IsPair s.heap TO a b) (t1:S1 k s.heap) (t2:S2 k s.heap) (l:k=min n1 n2)
  (q:∀ g tk,(∀ c o,c ≠ z -> c ≠ TO -> c ≠ i1 -> c ≠ i2 -> s.heap.get? c=some o -> g.get? c=some o) -> Q none { s with heap:=g,toks:=tk }):wpAny (model prog w) A (pyNext (.ref z)) Q E s:=by
 have hT:s.TypeIs (.ref z) "zip":=⟨_,gz,rfl⟩
 unfold pyNext;refine wpAny_bind (wpAny_attempt (wpAny_callSpecial?_slot (name:=Str.ofString "__next__") hT yco (wpAny_call_entry yco hT F.entry_zip_next (zlX D1 D2 C gz gI gO t1 t2 l λ g e tk kp ⟨o,ho,hc⟩=>?_) (F.args_zip_next_1 _))));exact wpAny_bind (wpAny_isInstance (T:="StopIteration") (b:=true) ⟨o,ho,hc⟩ isSubtype_stop (wpAny_pure (q _ _ kp)))
end
noncomputable def itN (b:Bool):String:=if b then "list_iterator" else "tuple_iterator"
noncomputable abbrev zG1 (b1:Bool) (h:Heap) (l1:Addr):Heap:=h.push { cls:=.type (itN b1),data:=.fields #[.ref l1,.int 0 0] }
noncomputable abbrev zG2 (b1 b2:Bool) (h:Heap) (l1 l2:Addr):Heap:=(zG1 b1 h l1).push { cls:=.type (itN b2),data:=.fields #[.ref l2,.int 0 0] }
noncomputable abbrev zG3 (b1 b2:Bool) (h:Heap) (l1 l2:Addr):Heap:=(zG2 b1 b2 h l1 l2).push { cls:=.type "tuple",data:=.seq #[.ref h.objs.size,.ref (zG1 b1 h l1).objs.size] }
noncomputable abbrev zG4 (b1 b2:Bool) (h:Heap) (l1 l2:Addr):Heap:=(zG3 b1 b2 h l1 l2).push { cls:=.type "tuple",data:=.seq #[.none,.none] }
noncomputable abbrev zG5 (b1 b2:Bool) (h:Heap) (l1 l2:Addr):Heap:=(zG4 b1 b2 h l1 l2).push { cls:=.type "zip",data:=.fields #[.none,.bool false,.bool false,.ref (zG2 b1 b2 h l1 l2).objs.size,.ref (zG3 b1 b2 h l1 l2).objs.size] }
set_option maxHeartbeats 4000000 in
def zjk (b1 b2:Bool) (l1 l2:Addr) (xs ys:Array Value) :
  Meets (Builtin.«zip.__new__» ⟨[.type "zip",.ref l1,.ref l2],[]⟩) (λ _ R s=>SqOb b1 s.heap l1 xs /\ SqOb b2 s.heap l2 ys /\ R (.ok (.ret (.ref (zG4 b1 b2 s.heap l1 l2).objs.size))) { s with heap:=zG5 b1 b2 s.heap l1 l2 }):=
 .of_wp λ prog w A R s h=>by
  obtain ⟨hp,g,d,tk,os⟩:=s; obtain ⟨x1,x2,h⟩:=h;have hsub:=sub_zip;cases b1 <;> cases b2
  ·have y1 : Heap.IsTuple (Shared.heap ⟨hp, g, d, tk, os⟩) l1 xs := x1;have y2 : Heap.IsTuple (Shared.heap ⟨hp.push { cls := .type "tuple_iterator", data := .fields #[.ref l1, .int 0 0] }, g, d, tk, os⟩) l2 ys := SqOb.keep (b := false) x2 fun o e => yac _ e
   wp_walk using wpAny_pyIter_tuple y1,wpAny_pyIter_tuple y2
   exact ⟨_,rfl,h⟩
  ·have y1 : Heap.IsTuple (Shared.heap ⟨hp, g, d, tk, os⟩) l1 xs := x1;have y2 : Heap.IsList (Shared.heap ⟨hp.push { cls := .type "tuple_iterator", data := .fields #[.ref l1, .int 0 0] }, g, d, tk, os⟩) l2 ys := SqOb.keep (b := true) x2 fun o e => yac _ e
   wp_walk using wpAny_pyIter_tuple y1,wpAny_pyIter_list y2
   exact ⟨_,rfl,h⟩
  ·have y1 : Heap.IsList (Shared.heap ⟨hp, g, d, tk, os⟩) l1 xs := x1;have y2 : Heap.IsTuple (Shared.heap ⟨hp.push { cls := .type "list_iterator", data := .fields #[.ref l1, .int 0 0] }, g, d, tk, os⟩) l2 ys := SqOb.keep (b := false) x2 fun o e => yac _ e
   wp_walk using wpAny_pyIter_list y1,wpAny_pyIter_tuple y2
   exact ⟨_,rfl,h⟩
  ·have y1 : Heap.IsList (Shared.heap ⟨hp, g, d, tk, os⟩) l1 xs := x1;have y2 : Heap.IsList (Shared.heap ⟨hp.push { cls := .type "list_iterator", data := .fields #[.ref l1, .int 0 0] }, g, d, tk, os⟩) l2 ys := SqOb.keep (b := true) x2 fun o e => yac _ e
   wp_walk using wpAny_pyIter_list y1,wpAny_pyIter_list y2
   exact ⟨_,rfl,h⟩
section
variable {prog:Program} {w:World} {A:Around} {E:Value -> Shared -> Prop} {s:Shared}
def zlb (b1 b2:Bool) {l1 l2:Addr} {xs ys:Array Value} {Q:Value -> Shared -> Prop} (x1:SqOb b1 s.heap l1 xs) (x2:SqOb b2 s.heap l2 ys)
  (q : ∀ g, IsZip g (s.heap.objs.size + 4) (s.heap.objs.size + 2) (s.heap.objs.size + 3) .none -> IsPair g (s.heap.objs.size + 2) (.ref s.heap.objs.size) (.ref (s.heap.objs.size + 1)) -> IsPair g (s.heap.objs.size + 3) .none .none ->
   SqIt b1 g s.heap.objs.size l1 0 -> SqIt b2 g (s.heap.objs.size + 1) l2 0 -> (∀ c o,s.heap.get? c=some o -> g.get? c=some o) -> Q (.ref (s.heap.objs.size + 4)) { s with heap:=g }) :
  wpAny (model prog w) A (call (.type "zip") [.ref l1,.ref l2]) Q E s:=by
 refine callType_new F.called_zip (3:) (F.typeCall_zip_2 _ _) (F.newCall_zip_2 _ _) (λ obj=>F.args_object_init_3 obj _ _) F.entry_zip_new (zjk b1 b2 l1 l2 xs ys) ⟨x1,x2,?_⟩;have z1:(zG1 b1 s.heap l1).objs.size=s.heap.objs.size + 1:=ybh ..;have z2:(zG2 b1 b2 s.heap l1 l2).objs.size=s.heap.objs.size + 2:=by rw [ybh,z1]
 have z3:(zG3 b1 b2 s.heap l1 l2).objs.size=s.heap.objs.size + 3:=by rw [ybh,z2]
 have z4:(zG4 b1 b2 s.heap l1 l2).objs.size=s.heap.objs.size + 4:=by rw [ybh,z3]
 have p:∀ {h:Heap} {ob:Obj} {c:Addr} {o:Obj},h.get? c=some o -> (h.push ob).get? c=some o:=λ e=>yac _ e;have g5:(zG5 b1 b2 s.heap l1 l2).get? (zG4 b1 b2 s.heap l1 l2).objs.size=some _:=yal _ rfl;have g4:(zG5 b1 b2 s.heap l1 l2).get? (zG3 b1 b2 s.heap l1 l2).objs.size=some _:=p (yal _ rfl);have g3:(zG5 b1 b2 s.heap l1 l2).get? (zG2 b1 b2 s.heap l1 l2).objs.size=some _:=p (p (yal _ rfl));have g2:(zG5 b1 b2 s.heap l1 l2).get? (zG1 b1 s.heap l1).objs.size=some _:=p (p (p (yal _ rfl)));have g1:(zG5 b1 b2 s.heap l1 l2).get? s.heap.objs.size=some _:=p (p (p (p (yal _ rfl))));show _ /\ _;rw [z2,z3,z4] at g5;rw [z1,z2] at g3;rw [z3] at g4;rw [z1] at g2;rw [z4];have s1:SqIt b1 (zG5 b1 b2 s.heap l1 l2) s.heap.objs.size l1 0:=by cases b1 <;> exact ⟨_,g1,rfl,rfl⟩
 have s2:SqIt b2 (zG5 b1 b2 s.heap l1 l2) (s.heap.objs.size + 1) l2 0:=by cases b2 <;> exact ⟨_,g2,rfl,rfl⟩
 exact ⟨⟨_,g5,rfl⟩,q _ g5 g3 g4 s1 s2 λ c o x=>p (p (p (p (p x))))⟩
end
noncomputable def SqB:Bool -> PySem.W.Frag -> Hp -> Addr -> List V -> Prop
 | true,K,H,a,xs=>SqL K H a xs
 | false,K,H,a,xs=>SqT K H a xs
def SqB.look {X:Cx} {pins:List (Addr × Obj)} {σ:St} {H:Hp} {s:Shared} {b:Bool} {a:Addr} {xs:List V} (I:Inv X pins σ H s) (h:SqB b X.K H a xs):∃ its:List Value,Vals xs its /\ SqOb b s.heap a its.toArray:=by
 cases b
 ·obtain ⟨its,r,p,_⟩:=I.tuple h; exact ⟨its,r,p⟩
 ·obtain ⟨its,r,p,_⟩:=I.list h; exact ⟨its,r,p.isList⟩
def SqOb.lt {b:Bool} {h:Heap} {a:Addr} {xs:Array Value} (x:SqOb b h a xs):a < h.objs.size:=by
 cases b <;> (obtain ⟨o,e,_⟩:=x; exact yae e)
noncomputable def ItzB (b1 b2:Bool) (K:PySem.W.Frag) (a b:Addr) (xs ys:List V):It:=
 ⟨fun i H => i < min xs.length ys.length /\ SqB b1 K H a xs /\ SqB b2 K H b ys, fun i H x H' => ∃ T u v, x = .ref T /\ H T = none /\ H' = upd H T (.tup [u, v]) /\ xs[i]? = some u /\ ys[i]? = some v,
  λ i H=>i=min xs.length ys.length /\ SqB b1 K H a xs /\ SqB b2 K H b ys⟩
def zkC {P:Program} {w:World} {K:PySem.W.Frag} {elts:List Expr} {kk:Nat} {tpos:Pos} (b1 b2:Bool) (a b z TI TO i1 i2:Addr) (hne:[z,TI,TO,i1,i2].Nodup) (ha:a ∉ [z,TI,TO,i1,i2]) (hb:b ∉ [z,TI,TO,i1,i2]) (xs ys:List V) :
  Turn P w K (.Tuple elts kk tpos) (ItzB b1 b2 K a b xs ys) [z,TI,TO,i1,i2] z (λ i h=>IsZip h z TI TO .none /\ IsPair h TI (.ref i1) (.ref i2) /\ (∃ u v,IsPair h TO u v) /\ SqIt b1 h i1 a i /\ SqIt b2 h i2 b i):=by
 have C:ZA z TI TO i1 i2 [i1,a] [i2,b]:=by
  simp only [ybY,yao,not_or,yaL,not_false_eq_true,and_true,List.nodup_nil] at hne ha hb;obtain ⟨⟨h1,h2,h3,h4⟩,⟨h5,h6,h7⟩,⟨h8,h9⟩,h10⟩:=hne;obtain ⟨a1,a2,a3,a4,a5⟩:=ha;obtain ⟨c1,c2,c3,c4,c5⟩:=hb;exact ⟨ybj h1,ybj h2,ybj h3,ybj h4,h5,h6,h7,h8,h9,h10,by simp [h3,ybj a1],by simp [h8,ybj a3],by simp [ybj h10,ybj a5],by simp [h4,ybj c1],by simp [h9,ybj c3],by simp [h10,ybj c4]⟩
 have na1:a ≠ i1:=by simp only [yao,not_or] at ha; exact ha.2.2.2.1
 have nb2:b ≠ i2:=by simp only [yao,not_or] at hb; exact hb.2.2.2.2.1
 have wr:∀ c,c ∈ [z,TO,i1,i2] -> c ∈ [z,TI,TO,i1,i2]:=λ c hc=>by
  simp only [yao,yaL,or_false] at hc ⊢;rcases hc with h | h | h | h <;> simp [h]
 refine ⟨by simp,?_,?_,?_,?_,?_⟩
 ·rintro i h ⟨gz, gI, ⟨u, v, gO⟩, h1, h2⟩ c hc;simp only [yao, yaL, or_false] at hc;rcases hc with rfl | rfl | rfl | rfl | rfl
  ·exact ⟨_,gz,nofun⟩
  ·exact ⟨_,gI,nofun⟩
  ·exact ⟨_,gO,nofun⟩
  ·exact h1.look
  ·exact h2.look
 ·rintro i h h' ⟨gz,gI,⟨u,v,gO⟩,h1,h2⟩ kp;exact ⟨kp z (5:) _ gz,kp TI (5:) _ gI,⟨u,v,kp TO (5:) _ gO⟩,h1.keep λ o e=>kp i1 (5:) o e,h2.keep λ o e=>kp i2 (5:) o e⟩
 ·intro X hP hw hK hc i pins s σ H E I hf st hg;subst hP hw hK;obtain ⟨hi, qa, qb⟩ := hg;obtain ⟨gz, gI, ⟨u0, v0, gO⟩, h1, h2⟩ := st;obtain ⟨ia, ra, pa⟩ := qa.look I;obtain ⟨ib, rb, pb⟩ := qb.look I;have la := ra.length;have lb := rb.length;have hh : X.A.in1.handled = none := I.ok.hd hc;have hix : i < xs.length := by omega
  have hiy:i < ys.length:=by omega
  refine zfh (zeb hh b1 i1 a na1 ia.toArray) (zeb hh b2 i2 b nb2 ib.toArray) C gz gI gO ⟨h1,pa⟩ ⟨h2,pb⟩ (35:) (35:) λ u v g tk eu ev gz1 gO1 s1 s2 gT gs kp=>?_;refine ⟨_,rfl,wpAny_letOwnedTupleGo_zip gz1 λ g2 gz2 e2=>?_⟩;have eu':ia[i]?=some u:=by simpa using eu
  have ev':ib[i]?=some v:=by simpa using ev
  obtain ⟨u',hu',ru⟩:=ra.get (yaa hix);obtain ⟨v',hv',rv⟩:=rb.get (yaa hiy);rw [eu'] at hu'; cases hu';rw [ev'] at hv'; cases hv';have lz:z < s.heap.objs.size:=yae gz;have hT2:za5 g2 s.heap.objs.size [u,v].toArray:=⟨_,e2.extBut _ _ (ybo lz) gT,rfl,rfl,_,rfl⟩
  have keepAll:∀ c o,c ∉ [z,TO,i1,i2] -> s.heap.get? c=some o -> g2.get? c=some o:=λ c o hc e=>by
   simp only [yao,yaL,or_false,not_or] at hc;exact e2.extBut _ _ hc.1 (kp c o hc.1 hc.2.1 hc.2.2.1 hc.2.2.2 e)
  refine ⟨.ref s.heap.objs.size,upd H s.heap.objs.size (.tup [xs[i],ys[i]]),I.turnTup (ch:=[z,TO,i1,i2]) (t':=tk) (λ c hc=>hf c (wr c hc)) keepAll (yah _) hT2 (.cons ru (.cons rv .nil)) (59:),rfl,
   ⟨_,_,_,rfl,I.hok.fresh (yah _),rfl,yaa hix,yaa hiy⟩,⟨gz2,e2.extBut _ _ C.Iz (kp _ _ C.Iz C.IO C.I1 C.I2 gI),⟨_,_,e2.extBut _ _ C.Oz gO1⟩,s1.1.keep λ o e=>e2.extBut _ _ C.z1 e,s2.1.keep λ o e=>e2.extBut _ _ C.z2 e⟩,λ c hc=>?_⟩
  have hcl:c < s.heap.objs.size:=by
   simp only [yao,yaL,or_false] at hc;rcases hc with rfl | rfl | rfl | rfl | rfl
   ·exact yae gz
   ·exact yae gI
   ·exact yae gO
   ·obtain ⟨o,e,_⟩:=h1.look; exact yae e
   ·obtain ⟨o,e,_⟩:=h2.look; exact yae e
  rw [zal (yap hcl)];exact (hf c hc).1
 ·intro X hP hw hK hc i pins s σ H E I hf st hg;subst hP hw hK;obtain ⟨hi, qa, qb⟩ := hg;obtain ⟨gz, gI, ⟨u0, v0, gO⟩, h1, h2⟩ := st;obtain ⟨ia, ra, pa⟩ := qa.look I;obtain ⟨ib, rb, pb⟩ := qb.look I;have la := ra.length;have lb := rb.length;have hh : X.A.in1.handled = none := I.ok.hd hc;refine zgo (zeb hh b1 i1 a na1 ia.toArray) (zeb hh b2 i2 b nb2 ib.toArray) C gz gI gO ⟨h1, pa⟩ ⟨h2, pb⟩ (35:) fun g tk kp => ⟨rfl, I.turnL (ch := [z, TO, i1, i2]) (fun c hc => hf c (wr c hc)) fun c o hc e => ?_⟩
  simp only [yao,yaL,or_false,not_or] at hc;exact kp c o hc.1 hc.2.1 hc.2.2.1 hc.2.2.2 e
 ·rintro A i s Q E ⟨gz,_⟩ h;exact wpAny_pyIter_zip gz h
noncomputable def zoO (K:PySem.W.Frag) (ta:TA):TI:=λ σ H R=>ta σ H λ vs H1=>∃ (a b:Addr) (xs ys:List V) (b1 b2:Bool),vs=[.ref a,.ref b] /\ SqB b1 K H1 a xs /\ SqB b2 K H1 b ys /\ R (ItzB b1 b2 K a b xs ys) H1
def zkb {X:Cx} {K:PySem.W.Frag} {a b:Expr} {tA:TA} {elts:List Expr} {kk:Nat} {tpos p pos:Pos} (hm:X.mg "zip"=none) (ha:PA X [a,b] tA) (hg:Gl X "zip":=by rfl)
  (hs:starEach [a,b] X.env=[(false,eval a X.env),(false,eval b X.env)]:=by rfl) (hs2:starEach [b] X.env=[(false,eval b X.env)]:=by rfl) (hK:X.K=K:=by rfl):PI X (.Tuple elts kk tpos) (.Call (.Name "zip" p) [a,b] [] pos) (zoO K tA):=by
 subst hK;intro pins s σ H R I h;refine Call_ (zce I hg hm boot_zip (yaD (thn (ha pos pins s σ H _ I h) λ us s1 ⟨vs,H1,I1,r1,q1⟩=>?_) (by rw [hs,hs2]) (by rw [hs2]; rfl)));obtain ⟨a,b,xs,ys,b1,b2,rfl,qa,qb,q⟩:=q1;obtain ⟨u,v,rfl,ru,rv⟩:=r1.two;cases ru;cases rv;obtain ⟨ia,ra,pa⟩:=qa.look I1;obtain ⟨ib,rb,pb⟩:=qb.look I1;have al:@LT.lt Nat _ a s1.heap.objs.size:=pa.lt;have bl:@LT.lt Nat _ b s1.heap.objs.size:=pb.lt;refine zlb b1 b2 pa pb λ g gz gI gO h1 h2 kp=>?_;have I2:Inv X pins σ H1 { s1 with heap:=g }:=I1.kept (t':=s1.toks) kp;refine wpAny_pyIter_zip gz ?_;refine ⟨s1.heap.objs.size + 4,[s1.heap.objs.size + 4,s1.heap.objs.size + 2,s1.heap.objs.size + 3,s1.heap.objs.size,s1.heap.objs.size + 1],_,_,H1,rfl,I2,zkC b1 b2 a b _ _ _ _ _ (5:) ?_ ?_ xs ys,⟨gz,gI,⟨_,_,gO⟩,h1,h2⟩,λ c hc=>?_,q⟩
 ·intro z;simp only [yao,yaL,or_false] at z;rcases z with z | z | z | z | z <;> (have z':@Eq Nat a _:=z; omega)
 ·intro z;simp only [yao,yaL,or_false] at z;rcases z with z | z | z | z | z <;> (have z':@Eq Nat b _:=z; omega)
 ·have hc':s1.heap.objs.size <= c:=by
   simp only [yao,yaL,or_false] at hc;show @LE.le Nat _ s1.heap.objs.size c;rcases hc with z | z | z | z | z <;> (have z':@Eq Nat c _:=z; omega)
  exact I1.fpOk hc' (I1.hok.fresh hc')
def zo4 {K:PySem.W.Frag} {σ:St} {H:Hp} {t:TA} {R:It -> Hp -> Prop} (h:t σ H λ vs H1=>∃ (a b:Addr) (xs ys:List V) (b1 b2:Bool),vs=[.ref a,.ref b] /\ SqB b1 K H1 a xs /\ SqB b2 K H1 b ys /\ R (ItzB b1 b2 K a b xs ys) H1):zoO K t σ H R:=h
def zlT {K:PySem.W.Frag} {b1 b2:Bool} {a b:Addr} {xs ys:List V} {g:TG} {tb:TS} {D:Ends} {σ:St} {H:Hp} (Pv:Nat -> St -> Hp -> Prop) (h0:Pv 0 σ H) (hl:∀ i σ H,Pv i σ H -> SqB b1 K H a xs /\ SqB b2 K H b ys)
  (hs:∀ i u v T σ H,xs[i]?=some u -> ys[i]?=some v -> H T=none -> Pv i σ H -> g (.ref T) σ (upd H T (.tup [u,v])) λ σ2 H2=>tb { D with nx:=Pv (i + 1),ct:=Pv (i + 1),bk:=D.nx } σ2 H2) (hd:∀ σ H,Pv (min xs.length ys.length) σ H -> D.nx σ H) :
  ForW (ItzB b1 b2 K a b xs ys) g tb D σ H:=by
 refine ⟨λ i m σ H=>m=min xs.length ys.length - i /\ i <= min xs.length ys.length /\ Pv i σ H,⟨min xs.length ys.length,by simp,yaR _,h0⟩,?_⟩;rintro i m σ H ⟨rfl,hi,p⟩;by_cases hlt:i < min xs.length ys.length
 ·refine .inr ⟨⟨hlt,hl i σ H p⟩,Pv (i + 1),λ σ' H' p'=>⟨min xs.length ys.length - (i + 1),by omega,rfl,hlt,p'⟩,λ x H' y=>?_⟩;obtain ⟨T,u,v,rfl,hT,rfl,hu,hv⟩:=y;exact hs i u v T σ H hu hv hT p
 ·have e : i = min xs.length ys.length := by omega
  subst e;exact .inl ⟨⟨rfl,hl _ σ H p⟩,hd σ H p⟩
inductive Alike (H:Hp):Nat -> V -> V -> Prop where
 | non (n:Nat):Alike H n .non .non
 | bl (n:Nat) (b:Bool):Alike H n (.bl b) (.bl b)
 | int (n:Nat) (i:Int):Alike H n (.int i) (.int i)
 | str (n:Nat) (s:Str) (h:shpd (.str s)=true):Alike H n (.str s) (.str s)
 | lst {n:Nat} {a b:Addr} {xs ys:List V} (ha:H a=some (.lst xs)) (hb:H b=some (.lst ys)) (hl:xs.length=ys.length) (hz:xs.length <= 10000) (hi:∀ (i:Nat) (x y:V),xs[i]?=some x -> ys[i]?=some y -> Alike H n x y):Alike H (n + 1) (.ref a) (.ref b)
 | tup {n:Nat} {a b:Addr} {xs ys:List V} (ha:H a=some (.tup xs)) (hb:H b=some (.tup ys)) (hl:xs.length=ys.length) (hz:xs.length <= 10000) (hi:∀ (i:Nat) (x y:V),xs[i]?=some x -> ys[i]?=some y -> Alike H n x y):Alike H (n + 1) (.ref a) (.ref b)
section
variable {K:PySem.W.Frag} {H:Hp} {Q:VK}
end
noncomputable def zmf (w m:Nat) (n:Int):Bool:=(zag m).all λ (p:Nat)=>decide ((0:Int) <= (p:Int) + n) && decide ((p:Int) + n <= (w:Int) - 1)
section
variable {K:PySem.W.Frag} {H:Hp} {Q:VK} {x y:V} {d:PyData}
end
def zkH (w:Nat) (ds:List Dd) (d:Dd):rowL w (ds ++ [d])=zat (rowL w ds) (d.led w):=by
 unfold rowL; rw [ybi]; rfl
def SqA.of {K:PySem.W.Frag} {H:Hp} {a:Addr} {xs:List V} (h:H a=some (.lst xs)):SqA K H a xs:=.inl (SqL.of h)
noncomputable def SqH (H:Hp) (a:Addr) (xs:List V):Prop:=H a=some (.lst xs) \/ H a=some (.tup xs)
end L2
namespace Bm
end Bm
namespace L2
open PySem PySem.Spec PyProof.Rows Bm
section
variable {X:Cx} {K:PySem.W.Frag}
variable {a b:Expr} {ta:TA} {p p2 pos pos2:Pos}
end
section
variable {σ:St} {H:Hp} {Q:VK}
end
noncomputable def zm8 (k:Nat) (ls:List Int):List Int:=ls.map λ e=>if 0 <= e then e + (k:Int) else e
def zlC {α:Type} {P:List α -> Prop} (h0:P []) (h1:∀ l a,P l -> P (l ++ [a])) (l:List α):P l:=by
 have key:∀ m:List α,P m.reverse:=λ m=>by
  induction m with
  | nil=>exact h0
  | cons a m ih=>rw [List.reverse_cons]; exact h1 _ _ ih
 have:=key l.reverse
 rwa [yck] at this
noncomputable def LdE (ls:List Int):Prop:=Ld ls.length ls
noncomputable def Lds (H:Hp) (A:List (Addr × List Int)):Prop:=∀ q ∈ A,H q.1=some (.tup (q.2.map V.int)) /\ LdE q.2
noncomputable def zaB (a b:Int):Nat:=if a=-2 \/ b=-2 then 0 else if a=-1 \/ b=-1 then 2 ^ (max a b).toNat else 2 ^ (min a b).toNat
noncomputable def ze0 (acc:Option Nat) (p:Int × Int):Option Nat:=if p.1=p.2 then acc else some (match acc with | none=>zaB p.1 p.2 | some m=>min m (zaB p.1 p.2))
noncomputable def zaS (l:List (Int × Int)):Option Nat:=l.foldl ze0 none
def ze1 (l:List (Int × Int)) (p:Int × Int):zaS (l ++ [p])=ze0 (zaS l) p:=by
 unfold zaS; rw [ybi]; rfl
noncomputable def zor (acc:Option Nat) (p:Int × Int):Nat:=match acc with | none=>zaB p.1 p.2 | some m=>min m (zaB p.1 p.2)
def zfy {acc:Option Nat} {p:Int × Int} (e:p.1=p.2):ze0 acc p=acc:=if_pos e
def zfI {acc:Option Nat} {p:Int × Int} (e:¬ p.1=p.2):ze0 acc p=some (zor acc p):=if_neg e
def zhr (l:List (Int × Int)):(zaS l=none -> ∀ p ∈ l,p.1=p.2) /\ ∀ n,zaS l=some n -> (∃ p ∈ l,p.1 ≠ p.2 /\ n=zaB p.1 p.2) /\ ∀ p ∈ l,p.1 ≠ p.2 -> n <= zaB p.1 p.2:=by
 refine zlC (P:=λ l=>(zaS l=none -> ∀ p ∈ l,p.1=p.2) /\ ∀ n,zaS l=some n -> (∃ p ∈ l,p.1 ≠ p.2 /\ n=zaB p.1 p.2) /\ ∀ p ∈ l,p.1 ≠ p.2 -> n <= zaB p.1 p.2) ⟨λ _ _ z=>(nomatch z),λ n z=>(nomatch z)⟩ (λ l q ih=>?_) l;rw [ze1];by_cases e:q.1=q.2
 ·rw [zfy e];refine ⟨fun h p hp => ?_, fun n h => ?_⟩
  ·rcases yau.mp hp with z | z
   ·exact ih.1 h p z
   ·rw [yaz.mp z]; exact e
  ·obtain ⟨⟨p, h1, h2⟩, h3⟩ := ih.2 n h;refine ⟨⟨p, ya6 _ h1, h2⟩, fun r hr hne => ?_⟩;rcases yau.mp hr with z | z
   ·exact h3 r z hne
   ·rw [yaz.mp z] at hne; exact absurd e hne
 ·rw [zfI e];refine ⟨fun h => (nomatch h), fun n h => ?_⟩;cases hu : zaS l with
  | none=>
   rw [hu] at h;cases h;refine ⟨⟨q,by simp,e,rfl⟩,λ r hr hne=>?_⟩;rcases yau.mp hr with z | z
   ·exact absurd (ih.1 hu r z) hne
   ·rw [yaz.mp z]; exact yah _
  | some m=>
   rw [hu] at h;cases h;obtain ⟨⟨p,h1,h2,h3⟩,h4⟩:=ih.2 m hu;refine ⟨?_,λ r hr hne=>?_⟩
   ·by_cases c : m <= zaB q.1 q.2
    ·exact ⟨p,ya6 _ h1,h2,by show min m (zaB q.1 q.2)=_; omega⟩
    ·exact ⟨q,by simp,e,by show min m (zaB q.1 q.2)=_; omega⟩
   ·show min m (zaB q.1 q.2) <= _;rcases yau.mp hr with z | z
    ·have:=h4 r z hne; omega
    ·rw [yaz.mp z]; omega
def zmn {a b:Int} (ha:-2 <= a) (hb:-2 <= b) (h:a ≠ b):bitL (zaB a b) a ≠ bitL (zaB a b) b:=by
 unfold zaB;by_cases c:a=-2 \/ b=-2
 ·rw [if_pos c];unfold bitL;rcases c with c | c
  ·rw [if_pos c, if_neg (1:)]
   split <;> simp
  ·rw [if_pos c, if_neg (1:)]
   split <;> simp
 ·rw [if_neg c];by_cases d : a = -1 \/ b = -1
  ·rw [if_pos d];rcases d with d | d
   ·rw [show max a b=b by omega,zaV (x:=2 ^ b.toNat) (z:=b) (1:),ybS];unfold bitL;rw [if_neg (1:),if_neg (1:)]; simp
   ·rw [show max a b=a by omega,zaV (x:=2 ^ a.toNat) (z:=a) (1:),ybS];unfold bitL;rw [if_neg (1:),if_neg (1:)]; simp
  ·rw [if_neg d, zaV (1:), zaV (1:), ybB, ybB];rcases (show a < b \/ b < a by omega) with z | z
   ·rw [decide_eq_true (show (min a b).toNat=a.toNat by omega),decide_eq_false (show ¬ (min a b).toNat=b.toNat by omega)]; simp
   ·rw [decide_eq_false (show ¬ (min a b).toNat=a.toNat by omega),decide_eq_true (show (min a b).toNat=b.toNat by omega)]; simp
def zhE {a b:Int} (ha:-2 <= a) (hb:-2 <= b) {m:Nat} (hm:m < zaB a b):bitL m a=bitL m b:=by
 unfold zaB at hm;by_cases c:a=-2 \/ b=-2
 ·rw [if_pos c] at hm; omega
 ·rw [if_neg c] at hm;have low : ∀ z : Int, 0 <= z -> m < 2 ^ z.toNat -> bitL m z = false := fun z h0 hz => by rw [zaV h0]; exact ybD hz
  have neg:bitL m (-1)=false:=by unfold bitL; rw [if_neg (1:),if_neg (1:)]
  by_cases d:a=-1 \/ b=-1
  ·rw [if_pos d] at hm;by_cases e : a = b
   ·rw [e]
   ·rcases d with d | d
    ·rw [show max a b=b by omega] at hm;rw [d,neg,low b (1:) hm]
    ·rw [show max a b=a by omega] at hm;rw [d,neg,low a (1:) hm]
  ·rw [if_neg d] at hm;have mono:∀ z:Int,min a b <= z -> m < 2 ^ z.toNat:=λ z hz=>yaf hm (yaO (3:) (1:));rw [low a (1:) (mono a (1:)),low b (1:) (mono b (1:))]
def zlz {w:Nat} {a b:Int} (ha:-2 <= a) (hb:-2 <= b) (ha2:a < w) (hb2:b < w) (h:a ≠ b):zaB a b < 2 ^ w:=by
 unfold zaB
 split
 ·exact ybF w
 ·split
  ·exact ybt (3:) (1:)
  ·exact ybt (3:) (1:)
def zhM {w:Nat} {ls ms:List Int} (h1:Ld w ls) (h2:Ld w ms):(zaS (ls.zip ms)=none -> ls=ms) /\ ∀ n,zaS (ls.zip ms)=some n -> ledN ls n ≠ ledN ms n /\ (∀ m,m < n -> ledN ls m=ledN ms m) /\ n < 2 ^ w /\ ls ≠ ms:=by
 obtain ⟨f1,f2⟩:=zhr (ls.zip ms);have hl:ls.length=ms.length:=by rw [h1.1,h2.1]
 refine ⟨λ h=>?_,λ n h=>?_⟩
 ·apply List.ext_getElem hl;intro i hi hi2
  exact f1 h (ls[i],ms[i]) (by
   have:=ya7 (l:=ls.zip ms) (n:=i) (by rw [ycp]; omega)
   rwa [List.getElem_zip] at this)
 ·obtain ⟨⟨p, hp, hne, rfl⟩, h3⟩ := f2 n h;have hp1 : p.1 ∈ ls := (ybZ hp).1;have hp2 : p.2 ∈ ms := (ybZ hp).2;have q1 := h1.2 _ hp1;have q2 := h2.2 _ hp2
  have hd:ledN ls (zaB p.1 p.2) ≠ ledN ms (zaB p.1 p.2):=λ e=>by
   obtain ⟨i,hi,ei⟩:=ycj.mp hp;rw [ycp] at hi;rw [List.getElem_zip] at ei;have b1:=zga ls (zaB p.1 p.2) i (1:);have b2:=zga ms (zaB p.1 p.2) i (1:);rw [e,b2,yab,yaa (1:),yab,yaa (1:)] at b1;apply zmn q1.1 q2.1 hne;have e1:ls[i]=p.1:=by rw [<- ei]
   have e2:ms[i]=p.2:=by rw [<- ei]
   rw [<- e1,<- e2] at b1 ⊢;exact b1.symm
  refine ⟨hd,λ m hm=>?_,zlz q1.1 q2.1 q1.2 q2.2 hne,λ e=>hd (by rw [e])⟩;unfold ledN;congr 1;apply List.ext_getElem (by simp [hl]);intro i hi hi2;rw [List.getElem_map,List.getElem_map];rw [yad] at hi hi2;have r1:=h1.2 _ (ya7 hi);have r2:=h2.2 _ (ya7 hi2);by_cases c:ls[i]=ms[i]
  ·rw [c]
  ·have:=h3 (ls[i],ms[i]) (by
    have:=ya7 (l:=ls.zip ms) (n:=i) (by rw [ycp]; omega)
    rwa [List.getElem_zip] at this) c
   exact zhE r1.1 r2.1 (yaf hm this)
noncomputable def optV:Option Nat -> V
 | none=>.non
 | some n=>nV n
noncomputable def zky:Sp:=λ vs H Q _=>∃ a b:Int,vs=[.int a,.int b] /\ -2 <= a /\ a < 64 /\ -2 <= b /\ b < 64 /\ a ≠ b /\ ∀ H',Same H H' -> Q (nV (zaB a b)) H'
noncomputable def zis:Sp:=λ vs H Q _=>∃ (a b:Addr) (ls ms:List Int) (w:Nat),vs=[.ref a,.ref b] /\ H a=some (.tup (ls.map V.int)) /\ H b=some (.tup (ms.map V.int)) /\ Ld w ls /\ Ld w ms /\ w <= 64 /\ ∀ H',Same H H' -> Q (optV (zaS (ls.zip ms))) H'
def zn0 {K:PySem.W.Frag} {z a b:Int} {t:Addr} {H:Hp} {Q:VK} (ht:H t=some (.tup [.int a,.int b])) (h:Q (.bl (decide (a=z \/ b=z))) H):rIn K false (.int z) (.ref t) H Q:=by
 refine ⟨t,_,rfl,.inr (SqT.of ht),rfl,rfl,?_⟩;rw [if_neg (3:)]
 have e:inV (.int z) [.int a,.int b]=decide (a=z \/ b=z):=by
  have e':inV (.int z) [.int a,.int b]=((a == z) || ((b == z) || false)):=rfl;rw [e'];by_cases c1:a=z <;> by_cases c2:b=z <;> simp [c1,c2]
 rw [e];exact h
section
variable {X:Cx}
noncomputable def zkT:V -> List V -> Hp -> VK -> Prop:=λ x vs H Q=>∃ (l:Addr) (xs:List V) (k:Nat) (y:V),x=.ref l /\ vs=[.int (k:Int),y] /\ H l=some (.lst xs) /\ k <= xs.length /\ xs.length < sizeLine /\ k < 1000000 /\ Q .non (upd H l (.lst (xs.take k ++ y :: xs.drop k)))
def zhP {prog:Program} {w:World} {A:Around} {E:Value -> Shared -> Prop} {s:Shared} {Q:Value -> Shared -> Prop} {l:Addr} {its:Array Value} {n:Nat} {x:Int} {t:Tok} {u:Value}
    (e:s.heap.get? l=some { cls:=.type "list",data:=.seq its n }) (hf:Builtin.List.listFitsIndex x=true) (hz:its.size <= sizeLine)
    (q:Q .none { s with heap:=s.heap.update l (Obj.mapSeq λ xs=>(xs.extract 0 (if x < 0 then (x + (xs.size:Int)).toNat else min x.toNat xs.size)).push u ++ xs.extract (if x < 0 then (x + (xs.size:Int)).toNat else min x.toNat xs.size)) }) :
    wpAny (model prog w) A (call (.builtin "list.insert") [.ref l,.int x t,u]) Q E s:=
  call_meets F.slot_list_insert ⟨_,e,rfl⟩ F.entry_list_insert (F.args_list_insert_3 _ _ _) (PySem.AutoSeq1.list_insert_list_int_val_1 l its n x t u (by simp [hf]) hz) ⟨e,q⟩
def zgL:MtM X "list.insert" zkT:=by
 intro pins s σ H x vs v us Q I rx rv h;obtain ⟨l,xs,k,y,rfl,rfl,hH,hk,hz,hk2,q⟩:=h;cases rx;obtain ⟨u1,u,rfl,⟨t,rfl⟩,ru⟩:=rv.two;obtain ⟨z,its,n,r,hl,e⟩:=I.lstM hH;have hsz:its.toArray.size <= sizeLine:=by rw [yak]; omega
 refine zhP e (fitsIndex_both (1:) (1:)) hsz ?_;refine ⟨.non,_,I.lset (its':=its.take k ++ u :: its.drop k) hH e ?_ ?_ ?_,rfl,q⟩
 ·show ((its.toArray.extract 0 (if (k:Int) < 0 then _ else min ((k:Int)).toNat its.toArray.size)).push u ++ its.toArray.extract (if (k:Int) < 0 then _ else min ((k:Int)).toNat its.toArray.size))=_;rw [if_neg (1:),yam,yak,ybz (1:)];apply Array.ext';simp [yas]
 ·exact (r.take k).append (.cons ru (r.drop k))
 ·rw [yaG,ybC,yaT,List.length_drop];omega
def zo1 {l:Addr} {xs:List V} {k:Nat} {y:V} {H:Hp} {Q:VK} (hl:H l=some (.lst xs)) (hk:k <= xs.length) (hz:xs.length <= 100000) (h:Q .non (upd H l (.lst (xs.take k ++ y :: xs.drop k)))):zkT (.ref l) [.int (k:Int),y] H Q:=
 ⟨l,xs,k,y,rfl,rfl,hl,hk,zaR hz,by omega,h⟩
end
noncomputable def zfz (K:PySem.W.Frag):Sp:=λ vs H Q _=>∃ (w:Nat) (a b:Addr) (L M:List (Addr × Dd)),vs=[nV w,.ref a,.ref b] /\ SqA K H a (rowV L) /\ Rw H w L /\ SqA K H b (rowV M) /\ Rw H w M /\ w <= 64 /\ ∀ H',Same H H' -> Q (.bl (decide (rowL w (dds L)=rowL w (dds M)))) H'
noncomputable def Rws (H:Hp) (w:Nat) (T:List (Addr × List (Addr × Dd))):Prop:=∀ q ∈ T,SqH H q.1 (rowV q.2) /\ Rw H w q.2
def led_getD {w:Nat} (d:Dd) {q:Nat} (h:q < w):(d.led w).getD q 0=d.src w q:=by
 rw [Dd.led,yab,yag,yan h]; rfl
def zjv {m j:Nat} (h:j < (zag m).length):(zag m).idxOf ((zag m).getD j 0)=j:=by
 have hb:m.testBit ((zag m).getD j 0)=true:=zem.mpr ⟨j,h,rfl⟩;obtain ⟨h1,h2⟩:=zbc hb;exact zdA h1 h h2
noncomputable def Dd.nm:Dd -> Str
 | .and _=>"and" | .or _=>"or" | .left _=>"left" | .right _=>"right" | .turn _=>"turn" | .gather _=>"gather" | .strew _=>"strew" | .swap _ _=>"swap" | .copy _ _=>"copy"
noncomputable def Dd.num:Dd -> Nat
 | .and m=>m | .or m=>m | .left m=>m | .right m=>m | .turn m=>m | .gather m=>m | .strew m=>m | .swap m _=>m | .copy m _=>m
noncomputable def Dd.rest:Dd -> List V
 | .swap _ n=>[nV n] | .copy _ n=>[.int n] | _=>[]
noncomputable def TogV (H:Hp) (r:V):Option Dd -> Prop
 | none=>r=.non
 | some f=>∃ t,r=.ref t /\ H t=some (.tup f.vals)
section
variable {X:Cx} {K:PySem.W.Frag}
end
inductive AlikeI (H:Hp):Nat -> V -> V -> Prop where
 | non (n:Nat):AlikeI H n .non .non
 | int (n:Nat) (i:Int):AlikeI H n (.int i) (.int i)
 | str (n:Nat) (s:Str) (h:shpd (.str s)=true):AlikeI H n (.str s) (.str s)
 | lst {n:Nat} {a b:Addr} {xs ys:List V} (ha:H a=some (.lst xs)) (hb:H b=some (.lst ys)) (hl:xs.length=ys.length) (hz:xs.length <= 10000) (hi:∀ (i:Nat) (x y:V),xs[i]?=some x -> ys[i]?=some y -> AlikeI H n x y):AlikeI H (n + 1) (.ref a) (.ref b)
 | tup {n:Nat} {a b:Addr} {xs ys:List V} (ha:H a=some (.tup xs)) (hb:H b=some (.tup ys)) (hl:xs.length=ys.length) (hz:xs.length <= 10000) (hi:∀ (i:Nat) (x y:V),xs[i]?=some x -> ys[i]?=some y -> AlikeI H n x y):AlikeI H (n + 1) (.ref a) (.ref b)
section
variable {X:Cx}
end
end L2
namespace HT
open PySem PySem.Spec PyProof.Rows
section
variable {prog:Program} {w:World} {A:Around} {E:Value -> Shared -> Prop} {s:Shared}
end
end HT
namespace L2
open PySem PySem.Spec PyProof.Rows Bm
section
variable {X:Cx}
end
noncomputable def SqHB:Bool -> Hp -> Addr -> List V -> Prop
 | true,H,a,xs=>H a=some (.lst xs)
 | false,H,a,xs=>H a=some (.tup xs)
noncomputable def LR (H:Hp) (p l l2:Addr) (w:Nat) (L2 L:List (Addr × Dd)) (H':Hp):Prop:=But p H H' /\ Hand H' p /\ H' l2=some (.lst (rowV L2)) /\ Rw H' w L2 /\ Rw H' w L /\ H' l=some (.lst (rowV L))
end L2
namespace L2
open PySem PySem.Spec PyProof.Rows
section
variable {κ:Type} [DecidableEq κ]
noncomputable def valV (kvs:List (κ × V)) (k:κ):Option V:=(kvs.find? λ kv=>decide (kv.1=k)).map (·.2)
noncomputable def putK (kvs:List (κ × V)) (k:κ) (v:V):List (κ × V):=
 if (kvs.any λ kv=>decide (kv.1=k))=true then kvs.map (λ kv=>if kv.1=k then (kv.1,v) else kv) else kvs ++ [(k,v)]
noncomputable def dropK (kvs:List (κ × V)) (k:κ):List (κ × V):=kvs.filter λ kv=>decide (kv.1 ≠ k)
end
noncomputable abbrev KT (H:Hp):List (List Key × V) -> List (List Key × Addr × Value) -> Prop:=Paired λ p q=>p.1=q.1 /\ H q.2.1=some (.tup (p.1.map kV)) /\ RelV p.2 q.2.2
section
variable {P:Program} {w:World} {H:Hp} {h:Heap} {a:Addr}
end
noncomputable def DGet (H:Hp) (a:Addr) (y:V) (r:Option V):Prop:=
 (∃ kvs k,Rd H a (.dK kvs) /\ y=kV k /\ r=valV kvs k) \/ ∃ kvs k b,Rd H a (.dT kvs) /\ y=.ref b /\ H b=some (.tup (k.map kV)) /\ r=valV kvs k
noncomputable def DPut (H:Hp) (a:Addr) (y v:V) (H':Hp):Prop:=
 (∃ kvs k,H a=some (.dK kvs) /\ y=kV k /\ kvs.length < sizeLine /\ H'=upd H a (.dK (putK kvs k v))) \/
 ∃ kvs k b,H a=some (.dT kvs) /\ y=.ref b /\ H b=some (.tup (k.map kV)) /\ kvs.length < sizeLine /\ H'=upd H a (.dT (putK kvs k v))
section
variable {X:Cx} {pins:List (Addr × Obj)} {σ:St} {H:Hp} {s:Shared} {a:Addr} {y v:V} {u r:Value} {o:Option V} {A:Around} {E:Value -> Shared -> Prop}
end
section
variable {X:Cx} {pins:List (Addr × Obj)} {σ:St} {H:Hp} {s:Shared} {a:Addr} {kvs:List (Key × V)} {k:Key} {u:Value} {A:Around} {E:Value -> Shared -> Prop}
end
section
variable {X:Cx} {o i e value:Expr} {pos pos' tpos:Pos} {td ty tv:TE}
end
section
variable {X:Cx} {pos:Pos}
end
structure M1 (X:Cx) (o:Expr) (m:Str) (apos:Pos) (e:Expr) (cpos:Pos):Prop where
 base:attributeBase o m X.env (eval o X.env)=eval o X.env
 few:((backTo cpos (starEach [e] X.env)).all (λ x=>!x.1) && (backToKw cpos (keywordEach [] X.env)).all (λ x=>x.1.isSome)
  && decide (([e]:List Expr).length + ([]:List Keyword).length + (if ([]:List Keyword).isEmpty then 0 else 1) < 30))=true
 line:(apos.endLine == cpos.line)=true
 trees:backTo cpos (starEach [e] X.env)=[(false,eval e X.env)]
structure M2 (X:Cx) (o:Expr) (m:Str) (apos:Pos) (e f:Expr) (cpos:Pos):Prop where
 base:attributeBase o m X.env (eval o X.env)=eval o X.env
 few:((backTo cpos (starEach [e,f] X.env)).all (λ x=>!x.1) && (backToKw cpos (keywordEach [] X.env)).all (λ x=>x.1.isSome)
  && decide (([e,f]:List Expr).length + ([]:List Keyword).length + (if ([]:List Keyword).isEmpty then 0 else 1) < 30))=true
 line:(apos.endLine == cpos.line)=true
 trees:backTo cpos (starEach [e,f] X.env)=[(false,eval e X.env),(false,eval f X.env)]
section
variable {X:Cx} {pins:List (Addr × Obj)} {σ:St} {H:Hp} {s:Shared} {a:Addr} {y d:V} {u r:Value} {o:Option V} {A:Around} {E:Value -> Shared -> Prop}
end
section
variable {X:Cx} {o e f:Expr} {apos cpos:Pos} {td ty tx:TE}
end
section
variable {X:Cx} {pins:List (Addr × Obj)} {σ:St} {H:Hp} {s:Shared} {a:Addr} {kvs:List (Key × V)} {A:Around} {E:Value -> Shared -> Prop}
end
section
variable {X:Cx} {pins:List (Addr × Obj)} {σ:St} {H:Hp} {s:Shared} {a:Addr} {y:V} {u:Value} {A:Around} {E:Value -> Shared -> Prop}
end
open Bm
def pv1 {X:Cx} (i:Nat) {x:Str} {pos:Pos} (h:X.N[i]?=some x /\ Vis X.env.scope x /\ (x == ("__debug__":Str))=false /\ (x == ("__classdict__":Str))=false):PE X (.Name x pos) (tVar i):=pv i h.1 h.2.1 h.2.2.1 h.2.2.2
noncomputable def zpU (l:Addr) (H H':Hp):Prop:=∀ b o,b ≠ l -> H b=some o -> H' b=some o
inductive Nt (H:Hp):V -> Prop where
 | non:Nt H .non
 | bl (b:Bool):Nt H (.bl b)
 | int (i:Int):Nt H (.int i)
 | str (s:Str):Nt H (.str s)
 | lst {a:Addr} {xs:List V} (e:H a=some (.lst xs)):Nt H (.ref a)
noncomputable def Kd (H:Hp) (v:V):Prop:=Nt H v \/ ∃ a xs,v=.ref a /\ H a=some (.tup xs)
noncomputable def zbb (v:V) (lo hi:Int):Bool:=match v with
 | .int i=>decide (lo <= i) && decide (i <= hi)
 | _=>false
noncomputable def zpZ (xs:List V):Bool:=decide (1 <= xs.length) && decide (xs.length <= 64) && xs.all λ v=>zbb v (-2) ((xs.length:Int) - 1)
noncomputable def zqe (H:Hp) (v:V) (r:Bool):Prop:=(∃ a xs,v=.ref a /\ H a=some (.tup xs) /\ (∀ x ∈ xs,Kd H x) /\ xs.length <= 10000 /\ r=zpZ xs) \/ (Nt H v /\ r=false)
noncomputable def ToldP (p:Addr) (H:Hp) (v:V):Prop:=v ≠ .ref p /\ ((∃ a xs,v=.ref a /\ H a=some (.tup xs) /\ (∀ x ∈ xs,Kd H x /\ x ≠ .ref p) /\ xs.length <= 10000) \/ Nt H v)
inductive Kx (H:Hp):V -> Prop where
 | non:Kx H .non
 | bl (b:Bool):Kx H (.bl b)
 | int (i:Int):Kx H (.int i)
 | str (s:Str) (h:shpd (.str s)=true):Kx H (.str s)
 | lst {a:Addr} (is:List Int) (e:H a=some (.lst (is.map V.int))):Kx H (.ref a)
 | tup {a:Addr} (is:List Int) (hl:is.length <= 1) (e:H a=some (.tup (is.map V.int))):Kx H (.ref a)
noncomputable def eqS (s:Str):V -> Bool
 | .str t=>s == t
 | _=>false
noncomputable def inS (ss:List Str) (v:V):Bool:=ss.any λ s=>eqS s v
section
variable {X:Cx} {K:PySem.W.Frag}
end
noncomputable def zo3 (w:Nat) (a b:V):Bool:=if inS ["and","or","gather","strew"] a then zbb b 0 ((2 ^ w - 1:Nat):Int) else if inS ["left","right"] a then zbb b 0 (w:Int) else eqS "turn" a && zbb b 0 ((w:Int) - 1)
noncomputable def natV:V -> Nat
 | .int i=>i.toNat
 | _=>0
noncomputable def intV:V -> Int
 | .int i=>i
 | _=>0
noncomputable def zoN (w:Nat) (a m n:V):Bool:=zbb m 0 ((2 ^ w - 1:Nat):Int) && (if eqS "swap" a then zbb n 1 ((w:Int) - 1) && (zmf w (natV m) (intV n) && decide ((natV m &&& natV m * 2 ^ natV n)=0)) else if eqS "copy" a then zbb n (1 - (w:Int)) ((w:Int) - 1) && (intV n != 0) && zmf w (natV m) (intV n) else false)
noncomputable def zpT (w:Nat):List V -> Bool
 | [a,b]=>zo3 w a b
 | [a,m,n]=>zoN w a m n
 | _=>false
noncomputable def Tu (H:Hp) (a:Addr) (xs:List V):Prop:=H a=some (.tup xs) /\ (∀ x ∈ xs,Kd H x) /\ xs.length <= 1000 /\ ∀ x r,xs=x :: r -> r ≠ [] -> Kx H x
noncomputable def zo6 (w:Nat) (H:Hp) (v:V) (r:Bool):Prop:=(∃ a xs,v=.ref a /\ Tu H a xs /\ r=zpT w xs) \/ (Nt H v /\ r=false)
noncomputable def Th (H:Hp) (v:V):Prop:=(∃ a xs,v=.ref a /\ Tu H a xs) \/ Nt H v
noncomputable def KxP (p:Addr) (H:Hp) (v:V):Prop:=Kx H v /\ v ≠ .ref p
noncomputable def ThP (p:Addr) (H:Hp) (v:V):Prop:=v ≠ .ref p /\ ((∃ a xs,v=.ref a /\ H a=some (.tup xs) /\ (∀ x ∈ xs,KxP p H x) /\ xs.length <= 1000) \/ Nt H v)
noncomputable def RowIs (w:Nat) (H:Hp) (v:V) (r:Bool):Prop:=(∃ (a:Addr) (xs:List V) (f:Nat -> Bool),v=.ref a /\ SqH H a xs /\ (∀ i x,xs[i]?=some x -> zo6 w H x (f i)) /\ xs.length <= 1000 /\ r=(List.range xs.length).all f) \/ (zbw v=true /\ r=false)
noncomputable abbrev En:=Nat × List Int
noncomputable def nmE:List Str:=["and","or","left","right","turn","swap","gather","strew","copy"]
noncomputable def nmK (k:Nat):Str:=nmE.getD k "and"
noncomputable def dec (e:En):List V:=.str (nmK e.1) :: e.2.map V.int
noncomputable def fastD (w:Nat) (e:En):Bool:=match e.2 with
 | [b]=>if e.1=0 \/ e.1=1 \/ e.1=6 \/ e.1=7 then zbb (.int b) 0 ((2 ^ w - 1:Nat):Int) else if e.1=2 \/ e.1=3 then zbb (.int b) 0 (w:Int) else decide (e.1=4) && zbb (.int b) 0 ((w:Int) - 1)
 | [m,n]=>zbb (.int m) 0 ((2 ^ w - 1:Nat):Int) && (if e.1=5 then zbb (.int n) 1 ((w:Int) - 1) && (zmf w m.toNat n && decide ((m.toNat &&& m.toNat * 2 ^ n.toNat)=0)) else if e.1=8 then zbb (.int n) (1 - (w:Int)) ((w:Int) - 1) && (n != 0) && zmf w m.toNat n else false)
 | _=>false
noncomputable def TL (H:Hp) (L:List (Addr × En)):Prop:=∀ q ∈ L,H q.1=some (.tup (dec q.2))
noncomputable def tlV (L:List (Addr × En)):List V:=L.map λ q=>.ref q.1
noncomputable def Gr (H H':Hp) (l:Addr) (L:List (Addr × En)):Prop:=Same H H' /\ H' l=some (.lst (tlV L)) /\ TL H' L
noncomputable def tNo:TS:=λ _ _ _=>False
def zeU {X:Cx} {e c:Option Expr} {pos:Pos}:PS X (.Raise e c pos) tNo:=λ _ _ _ _ _ _ h=>h.elim
noncomputable def Dl (H:Hp) (L:List (Addr × Dd)):Prop:=∀ q ∈ L,H q.1=some (.tup q.2.vals)
noncomputable def On (H:Hp) (L:List (Addr × Nat)):Prop:=∀ q ∈ L,H q.1=some (.tup [nV q.2])
end L2
namespace Srt
open PySem PyProof.Rows
noncomputable def gallop':Bool -> Keyed -> Array Keyed -> Nat -> Nat -> Nat -> StateT SortSt Sem (Option Nat):=sortPriv% PySem.Builtin.gallop
noncomputable def beyond' (left:Bool) (key:Keyed) (arr:Array Keyed) (base i:Nat):StateT SortSt Sem (Option Bool):=do
  let x <- elem' arr (base + i)
  if left then lt' x key else return (<- lt' key x).map (!·)
noncomputable def zlE (left:Bool) (key:Keyed) (arr:Array Keyed) (base n lo0 hi0:Nat):StateT SortSt Sem (Option Nat):=do
 let mut lo:=lo0
 let mut hi:=hi0
 for _ in [0:n] do
  if lo >= hi then break
  let m:=lo + (hi - lo) / 2
  let some more <- beyond' left key arr base m | return none
  if more then lo:=m + 1 else hi:=m
 return some hi
noncomputable def goUp (left:Bool) (key:Keyed) (arr:Array Keyed) (base n hint:Nat):StateT SortSt Sem (Option Nat):=do
 let mut lastofs:=0
 let mut ofs:=1
 let maxofs:=n - hint
 for _ in [0:n] do
  if ofs >= maxofs then break
  let some more <- beyond' left key arr base (hint + ofs) | return none
  if !more then break
  lastofs:=ofs
  ofs:=2 * ofs + 1
 zlE left key arr base n (hint + lastofs + 1) (hint + min ofs maxofs)
noncomputable def zmq (left:Bool) (key:Keyed) (arr:Array Keyed) (base n hint:Nat):StateT SortSt Sem (Option Nat):=do
 let mut lastofs:=0
 let mut ofs:=1
 let maxofs:=hint + 1
 for _ in [0:n] do
  if ofs >= maxofs then break
  let some found <- beyond' left key arr base (hint - ofs) | return none
  if found then break
  lastofs:=ofs
  ofs:=2 * ofs + 1
 zlE left key arr base n (hint + 1 - min ofs maxofs) (hint - lastofs)
def gallop'_eq (left:Bool) (key:Keyed) (arr:Array Keyed) (base n hint:Nat):gallop' left key arr base n hint=(do
 let some right <- beyond' left key arr base hint | return none
 if right then goUp left key arr base n hint else zmq left key arr base n hint):=rfl
noncomputable def mergeLo':Array Keyed -> Array Keyed -> StateT SortSt Sem (Array Keyed):=sortPriv% PySem.Builtin.mergeLo
noncomputable def mergeHi':Array Keyed -> Array Keyed -> StateT SortSt Sem (Array Keyed):=sortPriv% PySem.Builtin.mergeHi
noncomputable def setMinGallop':Nat -> StateT SortSt Sem Unit:=sortPriv% PySem.Builtin.setMinGallop
noncomputable abbrev zaY (st:SortSt) (g:Nat):SortSt:=SortSt.mk' (kindOf st) (arrOf st) (pendingOf st) g (failedOf st)
def setMinGallop'_eq (g:Nat):setMinGallop' g=modify (λ s=>zaY s g):=rfl
section
variable {prog:Program} {w:World} {A:Around} {E:Value -> Shared -> Prop} {s:Shared}
noncomputable def zfS (x:Keyed):Prop:=∃ n t,x.1=.int n t
noncomputable def zdh (xs:Array Keyed):Prop:=∀ (i:Nat) (x:Keyed),xs[i]?=some x -> zfS x
def zhd {st:SortSt} {x y:Keyed} {Q:Option Bool -> SortSt -> Prop} (hk:kindOf st=oneType') (hx:zfS x) (hy:zfS y)
  (h:Q (some (decide (numOf x.1 < numOf y.1))) st):wpS (model prog w) A E s (lt' x y) Q st:=by
 obtain ⟨a,t,e1⟩:=hx;obtain ⟨b,u,e2⟩:=hy;rw [lt'_eq];refine wpS_bind (wpS_get ?_);rw [hk,keyLt'_oneType,e1,e2];rw [e1,e2] at h;refine wpS_bind (wpS_lift (wpAny_attempt (oneLt_int ⟨rfl,?_⟩)));exact wpS_pure h
def zay {st:SortSt} {xs:Array Keyed} {i:Nat} {Q:Keyed -> SortSt -> Prop} (hi:i < xs.size) (h:∀ x,xs[i]?=some x -> Q x st) :
  wpS (model prog w) A E s (elem' xs i) Q st:=by
 have e:xs[i]?=some xs[i]:=getElem?_pos _ i hi;rw [elem'_eq,e];exact wpS_pure (h _ e)
def K_at {xs:Array Keyed} {i:Nat} {x:Keyed} (h:xs[i]?=some x):K xs i=numOf x.1:=by unfold K; rw [h]
noncomputable def zaG (left:Bool) (k a:Int):Prop:=if left=true then a < k else a <= k
instance (left:Bool) (k a:Int):Decidable (zaG left k a):=by unfold zaG; infer_instance
def zaG.mono {left:Bool} {k a b:Int} (h:zaG left k b) (hab:a <= b):zaG left k a:=by
 unfold zaG at *
 split at h
 ·rename_i e; rw [if_pos e]; omega
 ·rename_i e; rw [if_neg e]; omega
def zcx {st:SortSt} {left:Bool} {key:Keyed} {arr:Array Keyed} {base i:Nat} {Q:Option Bool -> SortSt -> Prop} (hk:kindOf st=oneType') (hkey:zfS key) (ha:zdh arr)
  (hi:base + i < arr.size) (h:Q (some (decide (zaG left (numOf key.1) (K arr (base + i))))) st) :
  wpS (model prog w) A E s (beyond' left key arr base i) Q st:=by
 unfold beyond';refine wpS_bind (zay hi λ x ex=>?_);rw [K_at ex] at h;by_cases hl:left=true
 ·rw [if_pos hl];refine zhd hk (ha _ _ ex) hkey ?_;unfold zaG at h;simpa only [if_pos hl] using h
 ·rw [if_neg hl];refine wpS_bind (zhd hk hkey (ha _ _ ex) (wpS_pure ?_));unfold zaG at h
  have e:(!decide (numOf key.1 < numOf x.1))=decide (numOf x.1 <= numOf key.1):=by
   by_cases hh:numOf key.1 < numOf x.1
   ·rw [decide_eq_true hh,decide_eq_false (1:)]; rfl
   ·rw [decide_eq_false hh,decide_eq_true (1:)]; rfl
  simp only [if_neg hl] at h;simpa only [Option.map_some,e] using h
def zgN {st:SortSt} {left:Bool} {key:Keyed} {arr:Array Keyed} {base n lo hi:Nat} {Q:Option Nat -> SortSt -> Prop} (hk:kindOf st=oneType') (hkey:zfS key) (ha:zdh arr)
    (hn:base + n <= arr.size) (mono:∀ i j,i <= j -> j < n -> K arr (base + i) <= K arr (base + j)) (hlh:lo <= hi) (hhn:hi <= n)
    (hlo:∀ i,i < lo -> zaG left (numOf key.1) (K arr (base + i))) (hhi:∀ i,hi <= i -> i < n -> ¬ zaG left (numOf key.1) (K arr (base + i)))
    (h:∀ k,k <= n -> (∀ i,i < k -> zaG left (numOf key.1) (K arr (base + i))) -> (∀ i,k <= i -> i < n -> ¬ zaG left (numOf key.1) (K arr (base + i))) -> Q (some k) st) :
    wpS (model prog w) A E s (zlE left key arr base n lo hi) Q st:=by
  unfold zlE;dsimp only
  refine wpS_bind (wpS_mono (wpS_forRange (I:=λ x c st'=>st'=st /\ ∃ l r,c=(none,l,r) /\ l <= r /\ r <= n /\ r - l <= n - x /\
      (∀ i,i < l -> zaG left (numOf key.1) (K arr (base + i))) /\ (∀ i,r <= i -> i < n -> ¬ zaG left (numOf key.1) (K arr (base + i))))
    (Q:=λ c st'=>st'=st /\ ∃ l r,c=(none,l,r) /\ r <= n /\
      (∀ i,i < r -> zaG left (numOf key.1) (K arr (base + i))) /\ (∀ i,r <= i -> i < n -> ¬ zaG left (numOf key.1) (K arr (base + i)))) ?step ?fin ?init) ?post)
  case init=>exact ⟨rfl,lo,hi,rfl,hlh,hhn,by omega,hlo,hhi⟩
  case fin=>
    rintro c st' ⟨rfl,l,r,rfl,h1,h2,h3,h4,h5⟩;have:l=r:=by omega
    subst this;exact ⟨rfl,l,l,rfl,h2,h4,h5⟩
  case step=>
    rintro x c st' _ hx ⟨rfl,l,r,rfl,h1,h2,h3,h4,h5⟩;dsimp only;by_cases hge:l >= r
    · rw [if_pos hge];have : l = r := by omega
      subst this;exact wpS_pure ⟨rfl,l,l,rfl,h2,h4,h5⟩
    · rw [if_neg hge];refine wpS_bind (zcx hk hkey ha (1:) ?_);by_cases hl : zaG left (numOf key.1) (K arr (base + (l + (r - l) / 2)))
      · simp only [hl,decide_true,if_true];exact wpS_pure ⟨rfl,_,r,rfl,by omega,h2,by omega,λ i hi=>hl.mono (mono _ _ (1:) (1:)),h5⟩
      · simp only [hl,decide_false,yaH,if_false];exact wpS_pure ⟨rfl,l,_,rfl,by omega,by omega,by omega,h4,λ i hi hin z=>hl (z.mono (mono _ _ (1:) (1:)))⟩
  case post=>
    rintro c st' ⟨rfl,l,r,rfl,h2,h4,h5⟩;exact wpS_pure (h r h2 h4 h5)
def zbq {st:SortSt} {left:Bool} {key:Keyed} {arr:Array Keyed} {base n hint:Nat} {Q:Option Nat -> SortSt -> Prop} (hk:kindOf st=oneType') (hkey:zfS key) (ha:zdh arr)
  (hn:base + n <= arr.size) (hh:hint < n) (mono:∀ i j,i <= j -> j < n -> K arr (base + i) <= K arr (base + j))
  (h:∀ k,k <= n -> (∀ i,i < k -> zaG left (numOf key.1) (K arr (base + i))) -> (∀ i,k <= i -> i < n -> ¬ zaG left (numOf key.1) (K arr (base + i))) -> Q (some k) st) :
  wpS (model prog w) A E s (gallop' left key arr base n hint) Q st:=by
 rw [gallop'_eq];refine wpS_bind (zcx hk hkey ha (1:) ?_);dsimp only;by_cases hr:zaG left (numOf key.1) (K arr (base + hint))
 ·simp only [hr, decide_true, if_true];unfold goUp;dsimp only
  refine wpS_bind (wpS_mono (wpS_forRange (I:=λ x c st'=>st'=st /\ ∃ l r,c=(none,l,r) /\ l < r /\ x + 1 <= r /\ hint + l < n /\ zaG left (numOf key.1) (K arr (base + (hint + l))))
   (Q:=λ c st'=>st'=st /\ ∃ l r,c=(none,l,r) /\ l < r /\ hint + l < n /\ zaG left (numOf key.1) (K arr (base + (hint + l))) /\ (r >= n - hint \/ ¬ zaG left (numOf key.1) (K arr (base + (hint + r))))) ?step ?fin ?init) ?post)
  case init=>exact ⟨rfl,0,1,rfl,by omega,by omega,by omega,hr⟩
  case fin=>
   rintro c st' ⟨rfl,l,r,rfl,h1,h2,h3,h4⟩;exact ⟨rfl,l,r,rfl,h1,h3,h4,.inl (1:)⟩
  case step=>
   rintro x c st' _ hx ⟨rfl,l,r,rfl,h1,h2,h3,h4⟩;dsimp only;by_cases hge:r >= n - hint
   ·rw [if_pos hge];exact wpS_pure ⟨rfl,l,r,rfl,h1,h3,h4,.inl hge⟩
   ·rw [if_neg hge];refine wpS_bind (zcx hk hkey ha (1:) ?_);by_cases hl : zaG left (numOf key.1) (K arr (base + (hint + r)))
    ·simp only [hl,decide_true,ycx,yaH,if_false];exact wpS_pure ⟨rfl,r,_,rfl,by omega,by omega,by omega,hl⟩
    ·simp only [hl,decide_false,Bool.not_false,if_true];exact wpS_pure ⟨rfl,l,r,rfl,h1,h3,h4,.inr hl⟩
  case post=>
   rintro c st' ⟨rfl,l,r,rfl,h1,h3,h4,h5⟩;dsimp only;refine zgN (lo:=hint + l + 1) (hi:=hint + min r (n - hint)) hk hkey ha hn mono (1:) (1:) (λ i hi=>h4.mono (mono _ _ (1:) (1:))) (λ i hi hin z=>?_) h;rcases h5 with h5 | h5
   ·omega
   ·by_cases hq : r <= n - hint
    ·rw [ybz hq] at hi;exact h5 (z.mono (mono _ _ (1:) (1:)))
    ·omega
 ·simp only [hr, decide_false, yaH, if_false];unfold zmq;dsimp only
  refine wpS_bind (wpS_mono (wpS_forRange (I:=λ x c st'=>st'=st /\ ∃ l r,c=(none,l,r) /\ l < r /\ x + 1 <= r /\ l <= hint /\ ¬ zaG left (numOf key.1) (K arr (base + (hint - l))))
   (Q:=λ c st'=>st'=st /\ ∃ l r,c=(none,l,r) /\ l < r /\ l <= hint /\ ¬ zaG left (numOf key.1) (K arr (base + (hint - l))) /\ (r >= hint + 1 \/ zaG left (numOf key.1) (K arr (base + (hint - r))))) ?step ?fin ?init) ?post)
  case init=>exact ⟨rfl,0,1,rfl,by omega,by omega,by omega,hr⟩
  case fin=>
   rintro c st' ⟨rfl,l,r,rfl,h1,h2,h3,h4⟩;exact ⟨rfl,l,r,rfl,h1,h3,h4,.inl (1:)⟩
  case step=>
   rintro x c st' _ hx ⟨rfl,l,r,rfl,h1,h2,h3,h4⟩;dsimp only;by_cases hge:r >= hint + 1
   ·rw [if_pos hge];exact wpS_pure ⟨rfl,l,r,rfl,h1,h3,h4,.inl hge⟩
   ·rw [if_neg hge];refine wpS_bind (zcx hk hkey ha (1:) ?_);by_cases hl : zaG left (numOf key.1) (K arr (base + (hint - r)))
    ·simp only [hl,decide_true,if_true];exact wpS_pure ⟨rfl,l,r,rfl,h1,h3,h4,.inr hl⟩
    ·simp only [hl,decide_false,yaH,if_false];exact wpS_pure ⟨rfl,r,_,rfl,by omega,by omega,by omega,hl⟩
  case post=>
   rintro c st' ⟨rfl,l,r,rfl,h1,h3,h4,h5⟩;dsimp only;refine zgN (lo:=hint + 1 - min r (hint + 1)) (hi:=hint - l) hk hkey ha hn mono (1:) (1:) (λ i hi=>?_) (λ i hi hin z=>h4 (z.mono (mono _ _ (1:) (1:)))) h;rcases h5 with h5 | h5
   ·omega
   ·by_cases hq : r <= hint + 1
    ·rw [ybz hq] at hi;exact h5.mono (mono _ _ (1:) (1:))
    ·omega
end
end Srt
namespace Srt
open PySem PyProof.Rows
noncomputable abbrev kf (x:Keyed):Int:=numOf x.1
noncomputable def Sr (l:List Keyed):Prop:=l.Pairwise λ x y=>kf x <= kf y
structure MI (T L A B:List Keyed):Prop where
 perm:(L ++ (A ++ B)).Perm T
 sa:Sr (L ++ A)
 sb:Sr (L ++ B)
def MI.symm {T L A B:List Keyed} (h:MI T L A B):MI T L B A:=⟨((ycc L ycd).trans h.perm),h.sb,h.sa⟩
def MI.take {T L A B:List Keyed} (h:MI T L A B) (k:Nat) (hk:∀ x ∈ A.take k,∀ y ∈ B,kf x <= kf y):MI T (L ++ A.take k) (A.drop k) B:=by
 refine ⟨?_,?_,?_⟩
 ·have e : L ++ A.take k ++ (A.drop k ++ B) = L ++ (A ++ B) := by rw [yaA, <- yaA (A.take k), yaQ]
  rw [e]; exact h.perm
 ·rw [yaA,yaQ]; exact h.sa
 ·have h1 := yax.mp h.sa;have h2 := yax.mp h.sb;rw [Sr, yaA, yax];refine ⟨h1.1, yax.mpr ⟨h1.2.1.sublist (List.take_sublist _ _), h2.2.1, hk⟩, fun x hx y hy => ?_⟩;rcases yau.mp hy with hy | hy
  ·exact h1.2.2 x hx y (ybu hy)
  ·exact h2.2.2 x hx y hy
def MI.one {T L A B:List Keyed} {x:Keyed} (h:MI T L (x :: A) B) (hk:∀ y ∈ B,kf x <= kf y):MI T (L ++ [x]) A B:=
 h.take 1 λ z hz y hy=>by
  have:z=x:=by simpa using hz
  subst this; exact hk y hy
def MI.last {T L B:List Keyed} {z:Keyed} (h:MI T L [z] B) (hz:∀ y ∈ B,kf y <= kf z):(L ++ B ++ [z]).Perm T /\ Sr (L ++ B ++ [z]):=by
 have h':=h.symm;refine ⟨by rw [yaA]; exact h'.perm,?_⟩;rw [Sr,yax];refine ⟨h.sb,List.pairwise_singleton _ _,λ x hx y hy=>?_⟩;have:y=z:=by simpa using hy
 subst this;rcases yau.mp hx with hx | hx
 ·exact (yax.mp h.sa).2.2 x hx y (5:)
 ·exact hz x hx
structure MH (T R A B:List Keyed):Prop where
 perm:((A ++ B) ++ R).Perm T
 sa:Sr (A ++ R)
 sb:Sr (B ++ R)
def MH.symm {T R A B:List Keyed} (h:MH T R A B):MH T R B A:=⟨((yb6 R ycd).trans h.perm),h.sb,h.sa⟩
def MH.take {T R A B:List Keyed} (h:MH T R A B) (k:Nat) (hk:∀ x ∈ A.drop k,∀ y ∈ B,kf y <= kf x):MH T (A.drop k ++ R) (A.take k) B:=by
 refine ⟨?_,?_,?_⟩
 ·have e:(A.take k ++ B ++ (A.drop k ++ R)).Perm (A ++ B ++ R):=by
   have p1:(A.take k ++ B ++ A.drop k).Perm (A.take k ++ A.drop k ++ B):=by
    rw [yaA,yaA]; exact ycc _ ycd
   rw [yaQ] at p1;rw [<- yaA];exact yb6 R p1
  exact e.trans h.perm
 ·rw [<- yaA,yaQ]; exact h.sa
 ·have h1 := yax.mp h.sa;have h2 := yax.mp h.sb;rw [Sr, yax];refine ⟨h2.1, yax.mpr ⟨h1.1.sublist (List.drop_sublist _ _), h1.2.1, fun x hx y hy => h1.2.2 x (List.mem_of_mem_drop hx) y hy⟩, fun x hx y hy => ?_⟩;rcases yau.mp hy with hy | hy
  ·exact hk y hy x hx
  ·exact h2.2.2 x hx y hy
def MH.one {T R A B:List Keyed} {x:Keyed} (h:MH T R (A ++ [x]) B) (hk:∀ y ∈ B,kf y <= kf x):MH T (x :: R) A B:=by
  have e1:(A ++ [x]).drop A.length=[x]:=by simp
  have e2:(A ++ [x]).take A.length=A:=by simp
  have := h.take A.length (by rw [e1]; intro z hz y hy; have : z = x := by simpa using hz
                              subst this; exact hk y hy)
  rw [e1,e2] at this;exact this
def MH.first {T R A:List Keyed} {z:Keyed} (h:MH T R A [z]) (hz:∀ y ∈ A,kf z <= kf y):([z] ++ A ++ R).Perm T /\ Sr ([z] ++ A ++ R):=by
 have h':=h.symm;refine ⟨h'.perm,?_⟩;rw [Sr,yaA,yax];refine ⟨List.pairwise_singleton _ _,h.sa,λ x hx y hy=>?_⟩;have:x=z:=by simpa using hx
 subst this;rcases yau.mp hy with hy | hy
 ·exact hz y hy
 ·exact (yax.mp h.sb).2.2 x (5:) y hy
def zh2 {xs:Array Keyed} {i:Nat} {x:Keyed} (h:xs[i]?=some x):xs.toList.drop i=x :: xs.toList.drop (i + 1):=by
 have hi:i < xs.size:=by
  rcases ybT i xs.size with h1 | h1
  ·exact h1
  ·rw [getElem?_neg xs i (1:)] at h; cases h
 rw [getElem?_pos xs i hi] at h;have e:=Option.some.inj h;rw [List.drop_eq_getElem_cons (by simpa using hi)];simp [e]
def zh5 {xs:Array Keyed} {i:Nat} {x:Keyed} (h:xs[i]?=some x):xs.toList.take (i + 1)=xs.toList.take i ++ [x]:=by
 have hi:i < xs.size:=by
  rcases ybT i xs.size with h1 | h1
  ·exact h1
  ·rw [getElem?_neg xs i (1:)] at h; cases h
 rw [getElem?_pos xs i hi] at h;have e:=Option.some.inj h;rw [List.take_succ_eq_append_getElem (by simpa using hi)];simp [e]
def zba {xs:Array Keyed} {i:Nat} {x:Keyed} (h:x ∈ xs.toList.drop i):∃ j,i <= j /\ j < xs.size /\ kf x=K xs j:=by
 obtain ⟨k,hk,e⟩:=ybR h;have hk':i + k < xs.size:=by simp at hk; omega
 refine ⟨i + k,by omega,hk',?_⟩;rw [List.getElem_drop] at e;rw [K_at (getElem?_pos xs (i + k) hk'),<- e];simp
def zbp {xs:Array Keyed} {i:Nat} {x:Keyed} (h:x ∈ xs.toList.take i):∃ j,j < i /\ j < xs.size /\ kf x=K xs j:=by
 obtain ⟨k,hk,e⟩:=ybR h;have hk':k < i /\ k < xs.size:=by simp at hk; omega
 refine ⟨k,by omega,hk'.2,?_⟩;rw [List.getElem_take] at e;rw [K_at (getElem?_pos xs k hk'.2),<- e];simp
def zfp {xs:Array Keyed} {i k:Nat} {x:Keyed} (h:x ∈ (xs.toList.drop i).take k):∃ j,j < k /\ i + j < xs.size /\ kf x=K xs (i + j):=by
 obtain ⟨m,hm,e⟩:=ybR h;have hm':m < k /\ i + m < xs.size:=by simp at hm; omega
 refine ⟨m,hm'.1,hm'.2,?_⟩;rw [List.getElem_take,List.getElem_drop] at e;rw [K_at (getElem?_pos xs (i + m) hm'.2),<- e];simp
def zc7 {xs:Array Keyed} {i k:Nat} {x:Keyed} (h:x ∈ (xs.toList.take i).drop k):∃ j,k <= j /\ j < i /\ j < xs.size /\ kf x=K xs j:=by
 obtain ⟨m,hm,e⟩:=ybR h;have hm':k + m < i /\ k + m < xs.size:=by simp at hm; omega
 refine ⟨k + m,by omega,hm'.1,hm'.2,?_⟩;rw [List.getElem_drop,List.getElem_take] at e;rw [K_at (getElem?_pos xs (k + m) hm'.2),<- e];simp
def zeO {xs:Array Keyed} {i k:Nat}:(xs.extract i (i + k)).toList=(xs.toList.drop i).take k:=by
 rw [ybO,ybs];congr 1; omega
def zdi {xs:Array Keyed} {i:Nat}:(xs.extract i xs.size).toList=xs.toList.drop i:=by
 rw [ybO,ybs];exact yas (5:)
def zdx {xs:Array Keyed} {i:Nat}:(xs.extract 0 i).toList=xs.toList.take i:=by
 rw [ybO,ybs];simp
def zfZ {xs:Array Keyed} {i k:Nat}:(xs.extract k i).toList=(xs.toList.take i).drop k:=by
 rw [ybO,ybs,List.drop_take]
def zl8 {xs:Array Keyed} (h:SortedTo xs xs.size):Sr xs.toList:=by
 rw [Sr,yaS];intro i j hi hj hij;have h1:=h i j (1:) (by simpa using hj);rw [K_eq (by simpa using hi),K_eq (by simpa using hj)] at h1;simpa using h1
end Srt
namespace Srt
open PySem PyProof.Rows
noncomputable abbrev LoSt:=Option (Array Keyed) × Array Keyed × Nat × Nat × Nat × Nat × Nat
noncomputable abbrev zcQ (a b out:Array Keyed) (ia ib:Nat):Array Keyed:=out ++ a.extract ia a.size ++ b.extract ib b.size
noncomputable abbrev zfv (a b out:Array Keyed) (ia ib:Nat):Array Keyed:=out ++ b.extract ib b.size ++ a.extract ia a.size
noncomputable def lo3 (a b out:Array Keyed) (ia ib mg k k1:Nat):StateT SortSt Sem (ForInStep LoSt):=do
 let x <- elem' a ia
 if ia + 1 + 1 == a.size then pure (.done (some (zfv a b (out.push x) (ia + 1) ib),out.push x,ia + 1,ib,mg,k,k1))
 else if k < 7 && k1 < 7 then pure (.done (none,out.push x,ia + 1,ib,mg,k,k1))
 else pure (.yield (none,out.push x,ia + 1,ib,mg,k,k1))
noncomputable def lo2 (a b out:Array Keyed) (ia ib mg k bc:Nat):StateT SortSt Sem (ForInStep LoSt):=do
 let y <- elem' b ib
 if ib + 1 == b.size then pure (.done (some (zcQ a b (out.push y) ia (ib + 1)),out.push y,ia,ib + 1,mg,k,bc))
 else do
  let z <- elem' a ia
  let r <- gallop' true z b (ib + 1) (b.size - (ib + 1)) 0
  match r with
  | some k1=>
   if k1 > 0 then
    if ib + 1 + k1 == b.size then pure (.done (some (zcQ a b (out.push y ++ b.extract (ib + 1) (ib + 1 + k1)) ia (ib + 1 + k1)),out.push y ++ b.extract (ib + 1) (ib + 1 + k1),ia,ib + 1 + k1,mg,k,k1))
    else lo3 a b (out.push y ++ b.extract (ib + 1) (ib + 1 + k1)) ia (ib + 1 + k1) mg k k1
   else lo3 a b (out.push y) ia (ib + 1) mg k k1
  | _=>pure (.done (some (zcQ a b (out.push y) ia (ib + 1)),out.push y,ia,ib + 1,mg,k,bc))
noncomputable def lo1 (a b out:Array Keyed) (ia ib mg ac bc:Nat):StateT SortSt Sem (ForInStep LoSt):=do
 setMinGallop' mg
 let y <- elem' b ib
 let r <- gallop' false y a ia (a.size - ia) 0
 match r with
 | some k=>
  if k > 0 then
   if ia + k + 1 == a.size then pure (.done (some (zfv a b (out ++ a.extract ia (ia + k)) (ia + k) ib),out ++ a.extract ia (ia + k),ia + k,ib,mg,k,bc))
   else if ia + k == a.size then pure (.done (some (zcQ a b (out ++ a.extract ia (ia + k)) (ia + k) ib),out ++ a.extract ia (ia + k),ia + k,ib,mg,k,bc))
   else lo2 a b (out ++ a.extract ia (ia + k)) (ia + k) ib mg k bc
  else lo2 a b out ia ib mg k bc
 | _=>pure (.done (some (zcQ a b out ia ib),out,ia,ib,mg,ac,bc))
noncomputable abbrev LoS1:=Option (Array Keyed) × Array Keyed × Nat × Nat × Nat × Nat
noncomputable def loB (a b:Array Keyed) (mg:Nat) (out:Array Keyed) (ia ib ac bc:Nat):StateT SortSt Sem (ForInStep LoS1):=do
 let r <- lt' (<- elem' b ib) (<- elem' a ia)
 match r with
 | some bWins=>
  if bWins then do
   let y <- elem' b ib
   if ib + 1 == b.size then pure (.done (some (zcQ a b (out.push y) ia (ib + 1)),out.push y,ia,ib + 1,0,bc + 1))
   else if bc + 1 >= mg then pure (.done (none,out.push y,ia,ib + 1,0,bc + 1))
   else pure (.yield (none,out.push y,ia,ib + 1,0,bc + 1))
  else do
   let x <- elem' a ia
   if ia + 1 + 1 == a.size then pure (.done (some (zfv a b (out.push x) (ia + 1) ib),out.push x,ia + 1,ib,ac + 1,0))
   else if ac + 1 >= mg then pure (.done (none,out.push x,ia + 1,ib,ac + 1,0))
   else pure (.yield (none,out.push x,ia + 1,ib,ac + 1,0))
 | _=>pure (.done (some (zcQ a b out ia ib),out,ia,ib,ac,bc))
noncomputable def zla (a b:Array Keyed) (out:Array Keyed) (ia ib mg:Nat):StateT SortSt Sem (ForInStep (Option (Array Keyed) × Array Keyed × Nat × Nat × Nat)):=do
 let c <- forIn [0:a.size + b.size] ((none,out,ia,ib,0,0):LoS1) λ _ c=>loB a b mg c.2.1 c.2.2.1 c.2.2.2.1 c.2.2.2.2.1 c.2.2.2.2.2
 match c.1 with
 | some r=>pure (.done (some r,c.2.1,c.2.2.1,c.2.2.2.1,mg))
 | none=>do
  liftM (rule "list.sort.gallop")
  let d <- forIn [0:a.size + b.size] ((none,c.2.1,c.2.2.1,c.2.2.2.1,mg + 1,c.2.2.2.2.1,c.2.2.2.2.2):LoSt) λ _ d=>
   if d.2.2.2.2.1 > 1 then lo1 a b d.2.1 d.2.2.1 d.2.2.2.1 (d.2.2.2.2.1 - 1) d.2.2.2.2.2.1 d.2.2.2.2.2.2 else lo1 a b d.2.1 d.2.2.1 d.2.2.2.1 d.2.2.2.2.1 d.2.2.2.2.2.1 d.2.2.2.2.2.2
  match d.1 with
  | some r=>pure (.done (some r,d.2.1,d.2.2.1,d.2.2.2.1,d.2.2.2.2.1))
  | none=>do
   setMinGallop' (d.2.2.2.2.1 + 1)
   pure (.yield (none,d.2.1,d.2.2.1,d.2.2.2.1,d.2.2.2.2.1 + 1))
def zf0 (a b:Array Keyed):mergeLo' a b=(do
 liftM (rule "list.sort.merge-lo")
 let y <- elem' b 0
 if 1 == b.size then pure (zcQ a b #[y] 0 1)
 else if 0 + 1 == a.size then pure (zfv a b #[y] 0 1)
 else do
  let st <- get
  let c <- forIn [0:a.size + b.size] ((none,#[y],0,1,gallopOf st):Option (Array Keyed) × Array Keyed × Nat × Nat × Nat) λ _ c=>zla a b c.2.1 c.2.2.1 c.2.2.2.1 c.2.2.2.2
  match c.1 with
  | some r=>pure r
  | none=>unsupported "internal:list.sort.merge-bound"):=by
 kernel_rfl
end Srt
namespace Srt
open PySem PyProof.Rows
structure Cm (a b:Array Keyed):Prop where
 ia:zdh a
 ib:zdh b
 sa:SortedTo a a.size
 sb:SortedTo b b.size
 pa:0 < a.size
 pb:0 < b.size
 last:∀ j,j < b.size -> K b j <= K a (a.size - 1)
 first:∀ j,j < a.size -> K b 0 <= K a j
noncomputable def Good (T:List Keyed) (r:Array Keyed):Prop:=r.toList.Perm T /\ Sr r.toList
noncomputable abbrev tot (a b:Array Keyed):List Keyed:=a.toList ++ b.toList
noncomputable abbrev ML (a b out:Array Keyed) (ia ib:Nat):Prop:=MI (tot a b) out.toList (a.toList.drop ia) (b.toList.drop ib)
variable {a b out:Array Keyed} {ia ib:Nat}
def zco (h:ML a b out ia ib) (hz:ib=b.size \/ ia=a.size):Good (tot a b) (zcQ a b out ia ib):=by
 have e:(zcQ a b out ia ib).toList=out.toList ++ a.toList.drop ia ++ b.toList.drop ib:=by
  rw [yaN,yaN,zdi,zdi]
 unfold Good;rw [e];refine ⟨by rw [yaA]; exact h.perm,?_⟩;rcases hz with hz | hz
 ·have e2:b.toList.drop ib=[]:=yb7 (by simp [hz]);rw [e2,ybk]; exact h.sa
 ·have e2:a.toList.drop ia=[]:=yb7 (by simp [hz]);rw [e2,ybk]; exact h.sb
def zdk (C:Cm a b) (h:ML a b out ia ib) (hz:ia + 1=a.size):Good (tot a b) (zfv a b out ia ib):=by
 have e:(zfv a b out ia ib).toList=out.toList ++ b.toList.drop ib ++ a.toList.drop ia:=by
  rw [yaN,yaN,zdi,zdi]
 have ha:a[ia]?=some a[ia]:=getElem?_pos a ia (1:)
 have e2:a.toList.drop ia=[a[ia]]:=by
  rw [zh2 ha,yb7 (35:)]
 unfold Good;rw [e,e2];have h':=h;unfold ML at h';rw [e2] at h';refine h'.last λ y hy=>?_;obtain ⟨j,_,h2,h3⟩:=zba hy;rw [h3,show kf a[ia]=K a ia from (K_at ha).symm,show ia=a.size - 1 by omega];exact C.last j h2
def zkw (h:ML a b out ia ib) {y:Keyed} (hy:b[ib]?=some y) (hle:∀ j,ia <= j -> j < a.size -> kf y <= K a j):ML a b (out.push y) ia (ib + 1):=by
 have h':=h.symm;rw [zh2 hy] at h'
 have:=(h'.one λ z hz=>by
  obtain ⟨j,h1,h2,h3⟩:=zba hz;rw [h3]; exact hle j h1 h2).symm
 unfold ML;rw [yb8]; exact this
def zmp (h:ML a b out ia ib) {x:Keyed} (hx:a[ia]?=some x) (hle:∀ j,ib <= j -> j < b.size -> kf x <= K b j):ML a b (out.push x) (ia + 1) ib:=by
 have h':=h;unfold ML at h';rw [zh2 hx] at h'
 have:=h'.one λ z hz=>by
  obtain ⟨j,h1,h2,h3⟩:=zba hz;rw [h3]; exact hle j h1 h2
 unfold ML;rw [yb8]; exact this
def zob (h:ML a b out ia ib) {k:Nat} (hle:∀ i,i < k -> ∀ j,ib <= j -> j < b.size -> ia + i < a.size -> K a (ia + i) <= K b j):ML a b (out ++ a.extract ia (ia + k)) (ia + k) ib:=by
 have:=h.take k λ x hx y hy=>by
  obtain ⟨i,h1,h2,h3⟩:=zfp hx;obtain ⟨j,g1,g2,g3⟩:=zba hy;rw [h3,g3]; exact hle i h1 j g1 g2 h2
 unfold ML;rw [yaN,zeO];rw [yb9] at this;exact this
def zpA (h:ML a b out ia ib) {k:Nat} (hle:∀ i,i < k -> ∀ j,ia <= j -> j < a.size -> ib + i < b.size -> K b (ib + i) <= K a j):ML a b (out ++ b.extract ib (ib + k)) ia (ib + k):=by
 have:=(h.symm.take k λ x hx y hy=>by
  obtain ⟨i,h1,h2,h3⟩:=zfp hx;obtain ⟨j,g1,g2,g3⟩:=zba hy;rw [h3,g3]; exact hle i h1 j g1 g2 h2).symm
 unfold ML;rw [yaN,zeO];rw [yb9] at this;exact this
structure LI (a b out:Array Keyed) (ia ib:Nat):Prop where
 ml:ML a b out ia ib
 ha:ia + 1 < a.size
 hb:ib < b.size
noncomputable def GP (a b:Array Keyed) (n0:Nat) (c:Option (Array Keyed)) (out:Array Keyed) (ia ib:Nat):Prop:=
 match c with
 | some r=>Good (tot a b) r
 | none=>LI a b out ia ib /\ n0 <= ia + ib
section
variable {prog:Program} {w:World} {A:Around} {E:Value -> Shared -> Prop} {s:Shared} {st:SortSt} {mg k k1 ac bc n0:Nat}
def zjx (C:Cm a b) (h:LI a b out ia ib) (hn:n0 <= ia + ib) (hle:∀ j,ib <= j -> j < b.size -> K a ia <= K b j) {Q:ForInStep LoSt -> SortSt -> Prop}
    (h1:∀ d:LoSt,GP a b n0 d.1 d.2.1 d.2.2.1 d.2.2.2.1 -> Q (.done d) st) (h2:∀ d:LoSt,d.1=none -> GP a b n0 d.1 d.2.1 d.2.2.1 d.2.2.2.1 -> Q (.yield d) st) :
    wpS (model prog w) A E s (lo3 a b out ia ib mg k k1) Q st:=by
  unfold lo3;have ha:=h.ha;have hb:=h.hb;refine wpS_bind (zay (1:) λ x hx=>?_);have m:=zmp h.ml hx λ j h1 h2=>by rw [show kf x=K a ia from (K_at hx).symm]; exact hle j h1 h2
  by_cases hz:ia + 1 + 1=a.size
  · rw [if_pos (30:)];exact wpS_pure (h1 _ (zdk C m hz))
  · rw [if_neg (30:)];have g : GP a b n0 none (out.push x) (ia + 1) ib := ⟨⟨m, by omega, h.hb⟩, by omega⟩
    split
    · exact wpS_pure (h1 _ g)
    · exact wpS_pure (h2 _ rfl g)
def zln (C:Cm a b) (hk:kindOf st=oneType') (h:LI a b out ia ib) (hn:n0 <= ia + ib) (hle:∀ j,ia <= j -> j < a.size -> K b ib <= K a j) {Q:ForInStep LoSt -> SortSt -> Prop}
    (h1:∀ d:LoSt,GP a b n0 d.1 d.2.1 d.2.2.1 d.2.2.2.1 -> Q (.done d) st) (h2:∀ d:LoSt,d.1=none -> GP a b n0 d.1 d.2.1 d.2.2.1 d.2.2.2.1 -> Q (.yield d) st) :
    wpS (model prog w) A E s (lo2 a b out ia ib mg k bc) Q st:=by
  unfold lo2;have ha:=h.ha;have hb:=h.hb;refine wpS_bind (zay (1:) λ y hy=>?_);have m:=zkw h.ml hy λ j h1 h2=>by rw [show kf y=K b ib from (K_at hy).symm]; exact hle j h1 h2
  by_cases hz:ib + 1=b.size
  · rw [if_pos (30:)];exact wpS_pure (h1 _ (zco m (.inl hz)))
  · rw [if_neg (30:)];refine wpS_bind (zay (1:) fun z hz' => ?_);refine wpS_bind (zbq hk (C.ia _ _ hz') C.ib (1:) (1:) (fun i j hij hj => C.sb _ _ (1:) (1:)) fun k2 hk2 p1 p2 => ?_);dsimp only;have hzk : numOf z.1 = K a ia := (K_at hz').symm;have ah : ∀ i, zaG true (numOf z.1) (K b (ib + 1 + i)) ↔ K b (ib + 1 + i) < K a ia := fun i => by unfold zaG; rw [if_pos rfl, hzk]
    have m2:ML a b (out.push y ++ b.extract (ib + 1) (ib + 1 + k2)) ia (ib + 1 + k2):=zpA m λ i hi j h1 h2 h3=>by
      have:=(ah i).mp (p1 i hi);exact ybA (ybG this) (C.sa _ _ h1 h2)
    have nx:∀ j,ib + 1 + k2 <= j -> j < b.size -> K a ia <= K b j:=λ j h1 h2=>by
      have:=mt (ah (j - (ib + 1))).mpr (p2 (j - (ib + 1)) (1:) (1:));rw [show ib + 1 + (j - (ib + 1))=j by omega] at this;omega
    by_cases hk0:k2 > 0
    · rw [if_pos hk0];by_cases hq : ib + 1 + k2 = b.size
      · rw [if_pos (41:)];exact wpS_pure (h1 _ (zco m2 (.inl hq)))
      · rw [if_neg (41:)];exact zjx C ⟨m2,h.ha,by omega⟩ (1:) nx h1 h2
    · rw [if_neg hk0];have : k2 = 0 := by omega
      subst this;exact zjx C ⟨m,h.ha,by omega⟩ (1:) nx h1 h2
def znF (C:Cm a b) (hk:kindOf st=oneType') (h:LI a b out ia ib) (hn:n0 <= ia + ib) {Q:ForInStep LoSt -> SortSt -> Prop}
    (h1:∀ d:LoSt,GP a b n0 d.1 d.2.1 d.2.2.1 d.2.2.2.1 -> Q (.done d) (zaY st mg)) (h2:∀ d:LoSt,d.1=none -> GP a b n0 d.1 d.2.1 d.2.2.1 d.2.2.2.1 -> Q (.yield d) (zaY st mg)) :
    wpS (model prog w) A E s (lo1 a b out ia ib mg ac bc) Q st:=by
  unfold lo1;have ha:=h.ha;have hb:=h.hb;rw [setMinGallop'_eq];refine wpS_bind (wpS_modify ?_);refine wpS_bind (zay (1:) λ y hy=>?_);refine wpS_bind (zbq (st:=zaY st mg) hk (C.ib _ _ hy) C.ia (1:) (1:) (λ i j hij hj=>C.sa _ _ (1:) (1:)) λ k2 hk2 p1 p2=>?_);dsimp only;have hyk:numOf y.1=K b ib:=(K_at hy).symm;have ah:∀ i,zaG false (numOf y.1) (K a (ia + i)) ↔ K a (ia + i) <= K b ib:=λ i=>by unfold zaG; rw [if_neg (3:),hyk]
  have m2:ML a b (out ++ a.extract ia (ia + k2)) (ia + k2) ib:=zob h.ml λ i hi j h1 h2 h3=>ybA ((ah i).mp (p1 i hi)) (C.sb _ _ h1 h2)
  have nx:∀ j,ia + k2 <= j -> j < a.size -> K b ib <= K a j:=λ j h1 h2=>by
    have:=mt (ah (j - ia)).mpr (p2 (j - ia) (1:) (1:));rw [show ia + (j - ia)=j by omega] at this;omega
  by_cases hk0:k2 > 0
  · rw [if_pos hk0];by_cases hq : ia + k2 + 1 = a.size
    · rw [if_pos (41:)];exact wpS_pure (h1 _ (zdk C m2 hq))
    · rw [if_neg (41:)];by_cases hq2 : ia + k2 = a.size
      · rw [if_pos (by simpa using hq2)];exact wpS_pure (h1 _ (zco m2 (.inr hq2)))
      · rw [if_neg (by simpa using hq2)];exact zln (st:=zaY st mg) C hk ⟨m2,by omega,h.hb⟩ (1:) nx h1 h2
  · rw [if_neg hk0];have : k2 = 0 := by omega
    subst this;exact zln (st:=zaY st mg) C hk h (1:) nx h1 h2
def znQ (C:Cm a b) (hk:kindOf st=oneType') (h:LI a b out ia ib) (hn:n0 <= ia + ib + 1) {Q:ForInStep LoS1 -> SortSt -> Prop}
    (h1:∀ d:LoS1,GP a b n0 d.1 d.2.1 d.2.2.1 d.2.2.2.1 -> Q (.done d) st) (h2:∀ d:LoS1,d.1=none -> GP a b n0 d.1 d.2.1 d.2.2.1 d.2.2.2.1 -> Q (.yield d) st) :
    wpS (model prog w) A E s (loB a b mg out ia ib ac bc) Q st:=by
  unfold loB;have ha:=h.ha;have hb:=h.hb;refine wpS_bind (zay (1:) λ y hy=>?_);refine wpS_bind (zay (1:) λ x hx=>?_);refine wpS_bind (zhd hk (C.ib _ _ hy) (C.ia _ _ hx) ?_);dsimp only;have ey:numOf y.1=K b ib:=(K_at hy).symm;have ex:numOf x.1=K a ia:=(K_at hx).symm;by_cases hl:numOf y.1 < numOf x.1
  · rw [if_pos (by simpa using hl)];refine wpS_bind (zay (1:) fun y' hy' => ?_);obtain rfl : y = y' := by rw [hy] at hy'; exact Option.some.inj hy'
    have m:=zkw h.ml hy λ j g1 g2=>by
      have:=C.sa _ _ g1 g2;show numOf y.1 <= _;omega
    by_cases hz:ib + 1=b.size
    · rw [if_pos (30:)];exact wpS_pure (h1 _ (zco m (.inl hz)))
    · rw [if_neg (30:)];have g : GP a b n0 none (out.push y) ia (ib + 1) := ⟨⟨m, h.ha, by omega⟩, by omega⟩
      split
      · exact wpS_pure (h1 _ g)
      · exact wpS_pure (h2 _ rfl g)
  · rw [if_neg (by simpa using hl)];refine wpS_bind (zay (1:) fun x' hx' => ?_);obtain rfl : x = x' := by rw [hx] at hx'; exact Option.some.inj hx'
    have m:=zmp h.ml hx λ j g1 g2=>by
      have:=C.sb _ _ g1 g2;show numOf x.1 <= _;omega
    by_cases hz:ia + 1 + 1=a.size
    · rw [if_pos (30:)];exact wpS_pure (h1 _ (zdk C m hz))
    · rw [if_neg (30:)];have g : GP a b n0 none (out.push x) (ia + 1) ib := ⟨⟨m, by omega, h.hb⟩, by omega⟩
      split
      · exact wpS_pure (h1 _ g)
      · exact wpS_pure (h2 _ rfl g)
noncomputable abbrev Gs (st st':SortSt):Prop:=∃ g,st'=zaY st g
def zje (C:Cm a b) (hk:kindOf st=oneType') (h:LI a b out ia ib) {Q:ForInStep (Option (Array Keyed) × Array Keyed × Nat × Nat × Nat) -> SortSt -> Prop}
    (h1:∀ d st',Gs st st' -> (∃ r,d.1=some r /\ Good (tot a b) r) -> Q (.done d) st') (h2:∀ d st',Gs st st' -> d.1=none -> LI a b d.2.1 d.2.2.1 d.2.2.2.1 -> ia + ib + 1 <= d.2.2.1 + d.2.2.2.1 -> Q (.yield d) st') :
    wpS (model prog w) A E s (zla a b out ia ib mg) Q st:=by
  unfold zla;have pa:=C.pa;refine wpS_bind (wpS_mono (wpS_forRange (I:=λ x c st'=>st'=st /\ c.1=none /\ GP a b (ia + ib + x) c.1 c.2.1 c.2.2.1 c.2.2.2.1) (Q:=λ c st'=>st'=st /\ GP a b (ia + ib + 1) c.1 c.2.1 c.2.2.1 c.2.2.2.1) ?step ?fin ?init) ?post)
  case init=>exact ⟨rfl,rfl,h,by show ia + ib + 0 <= ia + ib; omega⟩
  case fin=>
    rintro ⟨c1,c2⟩ st' ⟨rfl,z,g⟩;obtain rfl:c1=none:=z;refine ⟨rfl,g.1,?_⟩;have:=g.2;omega
  case step=>
    rintro x ⟨c1,c2⟩ st' _ hx ⟨rfl,z,g⟩;obtain rfl:c1=none:=z;have g1:=g.1;have g2:=g.2;refine znQ (n0:=ia + ib + x + 1) C hk g1 (1:) (λ d hd=>⟨rfl,?_⟩) (λ d hz hd=>⟨rfl,hz,hd⟩);obtain ⟨d1,d2⟩:=d;cases d1 with
    | some r=>exact hd
    | none=>exact ⟨hd.1,by have:=hd.2; omega⟩
  case post=>
    rintro ⟨c1,c2⟩ st' ⟨rfl,g⟩;cases c1 with
    | some r=>exact wpS_pure (h1 _ _ ⟨gallopOf st',rfl⟩ ⟨r,rfl,g⟩)
    | none=>
      dsimp only;refine wpS_bind (wpS_lift (wpAny_rule ⟨rfl,?_⟩));refine wpS_bind (wpS_mono (wpS_forRange (I:=λ x c st''=>Gs st' st'' /\ c.1=none /\ GP a b (ia + ib + 1) c.1 c.2.1 c.2.2.1 c.2.2.2.1) (Q:=λ c st''=>Gs st' st'' /\ GP a b (ia + ib + 1) c.1 c.2.1 c.2.2.1 c.2.2.2.1) ?step2 ?fin2 ⟨⟨gallopOf st',rfl⟩,rfl,g⟩) ?post2)
      case fin2=>
        rintro c st'' ⟨gs,z,g⟩;exact ⟨gs,g⟩
      case step2=>
        rintro x ⟨d1,d2⟩ st'' _ hx ⟨⟨gg,rfl⟩,z,g⟩;obtain rfl:d1=none:=z;dsimp only
        have one:∀ m,wpS (model prog w) A E s (lo1 a b d2.1 d2.2.1 d2.2.2.1 m d2.2.2.2.2.1 d2.2.2.2.2.2) (λ r st''=>match r with | .done c=>Gs st' st'' /\ GP a b (ia + ib + 1) c.1 c.2.1 c.2.2.1 c.2.2.2.1 | .yield c=>Gs st' st'' /\ c.1=none /\ GP a b (ia + ib + 1) c.1 c.2.1 c.2.2.1 c.2.2.2.1) (zaY st' gg):=λ m=>
          znF (st:=zaY st' gg) (out:=d2.1) (ia:=d2.2.1) (ib:=d2.2.2.1) (n0:=ia + ib + 1) C hk g.1 g.2 (λ d hd=>⟨⟨m,rfl⟩,hd⟩) (λ d hz hd=>⟨⟨m,rfl⟩,hz,hd⟩)
        split
        · exact wpS_mono (one _) λ r _ hr=>by cases r <;> exact hr
        · exact wpS_mono (one _) λ r _ hr=>by cases r <;> exact hr
      case post2=>
        rintro ⟨d1,d2⟩ st'' ⟨⟨gg,rfl⟩,g⟩;cases d1 with
        | some r=>exact wpS_pure (h1 _ _ ⟨gg,rfl⟩ ⟨r,rfl,g⟩)
        | none=>
          dsimp only;rw [setMinGallop'_eq];exact wpS_bind (wpS_modify (wpS_pure (h2 _ _ ⟨_,rfl⟩ rfl g.1 g.2)))
def zhs (C:Cm a b) (hk:kindOf st=oneType') {Q:Array Keyed -> SortSt -> Prop} (h:∀ r st',Gs st st' -> Good (tot a b) r -> Q r st') :
  wpS (model prog w) A E s (mergeLo' a b) Q st:=by
 rw [zf0];have pa:=C.pa;have pb:=C.pb;refine wpS_bind (wpS_lift (wpAny_rule ⟨rfl,?_⟩));refine wpS_bind (zay (1:) λ y hy=>?_);have m0:ML a b #[] 0 0:=⟨List.Perm.refl _,zl8 C.sa,zl8 C.sb⟩
 have m:ML a b #[y] 0 1:=zkw m0 hy λ j _ h2=>by
  rw [show kf y=K b 0 from (K_at hy).symm]; exact C.first j h2
 by_cases hz:1=b.size
 ·rw [if_pos (30:)];exact wpS_pure (h _ _ ⟨gallopOf st,rfl⟩ (zco m (.inl hz)))
 ·rw [if_neg (30:)];by_cases hq : 0 + 1 = a.size
  ·rw [if_pos (41:)];exact wpS_pure (h _ _ ⟨gallopOf st,rfl⟩ (zdk C m hq))
  ·rw [if_neg (41:)];refine wpS_bind (wpS_get ?_);refine wpS_bind (wpS_mono (wpS_forRange (I := fun x c st' => Gs st st' /\ c.1 = none /\ LI a b c.2.1 c.2.2.1 c.2.2.2.1 /\ x <= c.2.2.1 + c.2.2.2.1) (Q := fun c st' => Gs st st' /\ ∃ r, c.1 = some r /\ Good (tot a b) r) ?step ?fin ⟨⟨gallopOf st, rfl⟩, rfl, ⟨m, by show 0 + 1 < a.size; omega, by show 1 < b.size; omega⟩, by omega⟩) ?post)
   case fin=>
    rintro c st' ⟨_,_,l,hx⟩;have:=l.ha;have:=l.hb;omega
   case step=>
    rintro x c st' _ hx ⟨⟨g,rfl⟩,z,l,hn⟩;refine zje (st:=zaY st g) C hk l (λ d st'' gs hd=>?_) (λ d st'' gs hz l2 hn2=>?_)
    ·obtain ⟨g2,rfl⟩:=gs;exact ⟨⟨g2,rfl⟩,hd⟩
    ·obtain ⟨g2,rfl⟩:=gs;exact ⟨⟨g2,rfl⟩,hz,l2,by omega⟩
   case post=>
    rintro ⟨c1,c2⟩ st' ⟨gs,r,hr,g⟩;obtain rfl:c1=some r:=hr;exact wpS_pure (h r st' gs g)
end
end Srt
namespace Srt
open PySem PyProof.Rows
noncomputable abbrev HiSt:=Option (Array Keyed) × Nat × Nat × Array Keyed × Nat × Nat × Nat
noncomputable abbrev HiS1:=Option (Array Keyed) × Nat × Nat × Array Keyed × Nat × Nat
noncomputable abbrev zcV (a b out:Array Keyed) (na nb:Nat):Array Keyed:=a.extract 0 na ++ b.extract 0 nb ++ out.reverse
noncomputable abbrev zdz (a b out:Array Keyed) (na nb:Nat):Array Keyed:=b.extract 0 nb ++ a.extract 0 na ++ out.reverse
noncomputable def hi3 (a b out:Array Keyed) (na nb mg k k1:Nat):StateT SortSt Sem (ForInStep HiSt):=do
 let x <- elem' a (na - 1)
 if na - 1 == 0 then pure (.done (some (zcV a b (out.push x) (na - 1) nb),na - 1,nb,out.push x,mg,k,k1))
 else if k < 7 && k1 < 7 then pure (.done (none,na - 1,nb,out.push x,mg,k,k1))
 else pure (.yield (none,na - 1,nb,out.push x,mg,k,k1))
noncomputable def hi2 (a b out:Array Keyed) (na nb mg k bc:Nat):StateT SortSt Sem (ForInStep HiSt):=do
 let y <- elem' b (nb - 1)
 if nb - 1 == 1 then pure (.done (some (zdz a b (out.push y) na (nb - 1)),na,nb - 1,out.push y,mg,k,bc))
 else do
  let z <- elem' a (na - 1)
  let r <- gallop' true z b 0 (nb - 1) (nb - 1 - 1)
  match r with
  | some at_=>
   if nb - 1 - at_ > 0 then
    if at_ == 1 then pure (.done (some (zdz a b (out.push y ++ (b.extract at_ (nb - 1)).reverse) na at_),na,at_,out.push y ++ (b.extract at_ (nb - 1)).reverse,mg,k,nb - 1 - at_))
    else if at_ == 0 then pure (.done (some (zcV a b (out.push y ++ (b.extract at_ (nb - 1)).reverse) na at_),na,at_,out.push y ++ (b.extract at_ (nb - 1)).reverse,mg,k,nb - 1 - at_))
    else hi3 a b (out.push y ++ (b.extract at_ (nb - 1)).reverse) na at_ mg k (nb - 1 - at_)
   else hi3 a b (out.push y) na (nb - 1) mg k (nb - 1 - at_)
  | _=>pure (.done (some (zcV a b (out.push y) na (nb - 1)),na,nb - 1,out.push y,mg,k,bc))
noncomputable def hi1 (a b out:Array Keyed) (na nb mg ac bc:Nat):StateT SortSt Sem (ForInStep HiSt):=do
 setMinGallop' mg
 let y <- elem' b (nb - 1)
 let r <- gallop' false y a 0 na (na - 1)
 match r with
 | some at_=>
  if na - at_ > 0 then
   if at_ == 0 then pure (.done (some (zcV a b (out ++ (a.extract at_ na).reverse) at_ nb),at_,nb,out ++ (a.extract at_ na).reverse,mg,na - at_,bc))
   else hi2 a b (out ++ (a.extract at_ na).reverse) at_ nb mg (na - at_) bc
  else hi2 a b out na nb mg (na - at_) bc
 | _=>pure (.done (some (zcV a b out na nb),na,nb,out,mg,ac,bc))
noncomputable def hiB (a b:Array Keyed) (mg na nb:Nat) (out:Array Keyed) (ac bc:Nat):StateT SortSt Sem (ForInStep HiS1):=do
 let r <- lt' (<- elem' b (nb - 1)) (<- elem' a (na - 1))
 match r with
 | some aWins=>
  if aWins then do
   let x <- elem' a (na - 1)
   if na - 1 == 0 then pure (.done (some (zcV a b (out.push x) (na - 1) nb),na - 1,nb,out.push x,ac + 1,0))
   else if ac + 1 >= mg then pure (.done (none,na - 1,nb,out.push x,ac + 1,0))
   else pure (.yield (none,na - 1,nb,out.push x,ac + 1,0))
  else do
   let y <- elem' b (nb - 1)
   if nb - 1 == 1 then pure (.done (some (zdz a b (out.push y) na (nb - 1)),na,nb - 1,out.push y,0,bc + 1))
   else if bc + 1 >= mg then pure (.done (none,na,nb - 1,out.push y,0,bc + 1))
   else pure (.yield (none,na,nb - 1,out.push y,0,bc + 1))
 | _=>pure (.done (some (zcV a b out na nb),na,nb,out,ac,bc))
noncomputable def zkA (a b:Array Keyed) (na nb:Nat) (out:Array Keyed) (mg:Nat):StateT SortSt Sem (ForInStep (Option (Array Keyed) × Nat × Nat × Array Keyed × Nat)):=do
 let c <- forIn [0:a.size + b.size] ((none,na,nb,out,0,0):HiS1) λ _ c=>hiB a b mg c.2.1 c.2.2.1 c.2.2.2.1 c.2.2.2.2.1 c.2.2.2.2.2
 match c.1 with
 | some r=>pure (.done (some r,c.2.1,c.2.2.1,c.2.2.2.1,mg))
 | none=>do
  liftM (rule "list.sort.gallop")
  let d <- forIn [0:a.size + b.size] ((none,c.2.1,c.2.2.1,c.2.2.2.1,mg + 1,c.2.2.2.2.1,c.2.2.2.2.2):HiSt) λ _ d=>
   if d.2.2.2.2.1 > 1 then hi1 a b d.2.2.2.1 d.2.1 d.2.2.1 (d.2.2.2.2.1 - 1) d.2.2.2.2.2.1 d.2.2.2.2.2.2 else hi1 a b d.2.2.2.1 d.2.1 d.2.2.1 d.2.2.2.2.1 d.2.2.2.2.2.1 d.2.2.2.2.2.2
  match d.1 with
  | some r=>pure (.done (some r,d.2.1,d.2.2.1,d.2.2.2.1,d.2.2.2.2.1))
  | none=>do
   setMinGallop' (d.2.2.2.2.1 + 1)
   pure (.yield (none,d.2.1,d.2.2.1,d.2.2.2.1,d.2.2.2.2.1 + 1))
def zgl (a b:Array Keyed):mergeHi' a b=(do
 liftM (rule "list.sort.merge-hi")
 let x <- elem' a (a.size - 1)
 if a.size - 1 == 0 then pure (zcV a b #[x] (a.size - 1) b.size)
 else if b.size == 1 then pure (zdz a b #[x] (a.size - 1) b.size)
 else do
  let st <- get
  let c <- forIn [0:a.size + b.size] ((none,a.size - 1,b.size,#[x],gallopOf st):Option (Array Keyed) × Nat × Nat × Array Keyed × Nat) λ _ c=>zkA a b c.2.1 c.2.2.1 c.2.2.2.1 c.2.2.2.2
  match c.1 with
  | some r=>pure r
  | none=>unsupported "internal:list.sort.merge-bound"):=by
 kernel_rfl
noncomputable abbrev MR (a b out:Array Keyed) (na nb:Nat):Prop:=MH (tot a b) out.toList.reverse (a.toList.take na) (b.toList.take nb)
variable {a b out:Array Keyed} {na nb:Nat}
def zbR (h:MR a b out na nb) (hz:na=0 \/ nb=0):Good (tot a b) (zcV a b out na nb):=by
 have e:(zcV a b out na nb).toList=a.toList.take na ++ b.toList.take nb ++ out.toList.reverse:=by
  rw [yaN,yaN,zdx,zdx,ybP]
 unfold Good;rw [e];refine ⟨h.perm,?_⟩;rcases hz with rfl | rfl
 ·rw [List.take_zero,List.nil_append]; exact h.sb
 ·rw [List.take_zero,ybk]; exact h.sa
def zcE (C:Cm a b) (h:MR a b out na 1):Good (tot a b) (zdz a b out na 1):=by
 have pb:=C.pb;have hb:b[0]?=some b[0]:=getElem?_pos b 0 (1:);have e2:b.toList.take 1=[b[0]]:=by rw [zh5 hb]; rfl
 have e:(zdz a b out na 1).toList=[b[0]] ++ a.toList.take na ++ out.toList.reverse:=by
  rw [yaN,yaN,zdx,zdx,ybP,e2]
 unfold Good;rw [e];have h':=h;unfold MR at h';rw [e2] at h';refine h'.first λ y hy=>?_;obtain ⟨j,h1,h2,h3⟩:=zbp hy;rw [h3,show kf b[0]=K b 0 from (K_at hb).symm];exact C.first j h2
def zhB (h:MR a b out na nb) (h1:1 <= na) {x:Keyed} (hx:a[na - 1]?=some x) (hle:∀ j,j < nb -> j < b.size -> K b j <= kf x):MR a b (out.push x) (na - 1) nb:=by
 have h':=h;unfold MR at h';rw [show na=na - 1 + 1 by omega,zh5 hx] at h'
 have:=h'.one λ z hz=>by
  obtain ⟨j,h1,h2,h3⟩:=zbp hz;rw [h3]; exact hle j h1 h2
 unfold MR;rw [yb8,ybb]; exact this
def zlf (h:MR a b out na nb) (h1:1 <= nb) {y:Keyed} (hy:b[nb - 1]?=some y) (hle:∀ j,j < na -> j < a.size -> K a j <= kf y):MR a b (out.push y) na (nb - 1):=by
 have h':=h.symm;rw [show nb=nb - 1 + 1 by omega,zh5 hy] at h'
 have:=(h'.one λ z hz=>by
  obtain ⟨j,h1,h2,h3⟩:=zbp hz;rw [h3]; exact hle j h1 h2).symm
 unfold MR;rw [yb8,ybb]; exact this
def znT (h:MR a b out na nb) {k:Nat} (hk:k <= na) (hle:∀ i,k <= i -> i < na -> i < a.size -> ∀ j,j < nb -> j < b.size -> K b j <= K a i):MR a b (out ++ (a.extract k na).reverse) k nb:=by
 have:=h.take k λ x hx y hy=>by
  obtain ⟨i,h1,h2,h2',h3⟩:=zc7 hx;obtain ⟨j,g1,g2,g3⟩:=zbp hy;rw [h3,g3]; exact hle i h1 h2 h2' j g1 g2
 unfold MR;rw [yaN,ybP,zfZ,ybb,yck];rw [ycu,ybz hk] at this;exact this
def zmQ (h:MR a b out na nb) {k:Nat} (hk:k <= nb) (hle:∀ i,k <= i -> i < nb -> i < b.size -> ∀ j,j < na -> j < a.size -> K a j <= K b i):MR a b (out ++ (b.extract k nb).reverse) na k:=by
 have:=(h.symm.take k λ x hx y hy=>by
  obtain ⟨i,h1,h2,h2',h3⟩:=zc7 hx;obtain ⟨j,g1,g2,g3⟩:=zbp hy;rw [h3,g3]; exact hle i h1 h2 h2' j g1 g2).symm
 unfold MR;rw [yaN,ybP,zfZ,ybb,yck];rw [ycu,ybz hk] at this;exact this
structure HI (a b out:Array Keyed) (na nb:Nat):Prop where
 mr:MR a b out na nb
 h1:1 <= na
 h2:2 <= nb
 ha:na <= a.size
 hb:nb <= b.size
noncomputable def HP (a b:Array Keyed) (n0:Nat) (c:Option (Array Keyed)) (na nb:Nat) (out:Array Keyed):Prop:=
 match c with
 | some r=>Good (tot a b) r
 | none=>HI a b out na nb /\ na + nb <= n0
section
variable {prog:Program} {w:World} {A:Around} {E:Value -> Shared -> Prop} {s:Shared} {st:SortSt} {mg k k1 ac bc n0:Nat}
def zk0 (C:Cm a b) (h:HI a b out na nb) (hn:na + nb <= n0) (hle:∀ j,j < nb -> j < b.size -> K b j <= K a (na - 1)) {Q:ForInStep HiSt -> SortSt -> Prop}
    (h1:∀ d:HiSt,HP a b n0 d.1 d.2.1 d.2.2.1 d.2.2.2.1 -> Q (.done d) st) (h2:∀ d:HiSt,d.1=none -> HP a b n0 d.1 d.2.1 d.2.2.1 d.2.2.2.1 -> Q (.yield d) st) :
    wpS (model prog w) A E s (hi3 a b out na nb mg k k1) Q st:=by
  unfold hi3;obtain ⟨mr,q1,q2,ha,hb⟩:=h;refine wpS_bind (zay (1:) λ x hx=>?_);have m:=zhB mr q1 hx λ j h1 h2=>by rw [show kf x=K a (na - 1) from (K_at hx).symm]; exact hle j h1 h2
  by_cases hz:na - 1=0
  · rw [if_pos (30:)];exact wpS_pure (h1 _ (zbR m (.inl hz)))
  · rw [if_neg (30:)];have g : HP a b n0 none (na - 1) nb (out.push x) := ⟨⟨m, by omega, q2, by omega, hb⟩, by omega⟩
    split
    · exact wpS_pure (h1 _ g)
    · exact wpS_pure (h2 _ rfl g)
def zkI (C:Cm a b) (hk:kindOf st=oneType') (h:HI a b out na nb) (hn:na + nb <= n0) (hle:∀ j,j < na -> j < a.size -> K a j <= K b (nb - 1)) {Q:ForInStep HiSt -> SortSt -> Prop}
    (h1:∀ d:HiSt,HP a b n0 d.1 d.2.1 d.2.2.1 d.2.2.2.1 -> Q (.done d) st) (h2:∀ d:HiSt,d.1=none -> HP a b n0 d.1 d.2.1 d.2.2.1 d.2.2.2.1 -> Q (.yield d) st) :
    wpS (model prog w) A E s (hi2 a b out na nb mg k bc) Q st:=by
  unfold hi2;obtain ⟨mr,q1,q2,ha,hb⟩:=h;refine wpS_bind (zay (1:) λ y hy=>?_);have m:=zlf mr (1:) hy λ j h1 h2=>by rw [show kf y=K b (nb - 1) from (K_at hy).symm]; exact hle j h1 h2
  by_cases hz:nb - 1=1
  · rw [if_pos (30:)];refine wpS_pure (h1 _ ?_);dsimp only;rw [hz] at m ⊢;exact zcE C m
  · rw [if_neg (30:)];refine wpS_bind (zay (1:) fun z hz' => ?_);refine wpS_bind (zbq hk (C.ia _ _ hz') C.ib (1:) (1:) (fun i j hij hj => C.sb _ _ (1:) (1:)) fun k2 hk2 p1 p2 => ?_);dsimp only;have hzk : numOf z.1 = K a (na - 1) := (K_at hz').symm;have ah : ∀ i, zaG true (numOf z.1) (K b (0 + i)) ↔ K b i < K a (na - 1) := fun i => by unfold zaG; rw [if_pos rfl, hzk, ycb]
    have m2:MR a b (out.push y ++ (b.extract k2 (nb - 1)).reverse) na k2:=zmQ m hk2 λ i h1 h2 h2' j g1 g2=>by
      have:=mt (ah i).mpr (p2 i h1 h2);have:=C.sa j (na - 1) (1:) (1:);omega
    have nx:∀ j,j < k2 -> j < b.size -> K b j <= K a (na - 1):=λ j h1 h2=>ybG ((ah j).mp (p1 j h1));by_cases hk0:nb - 1 - k2 > 0
    · rw [if_pos hk0];by_cases hq : k2 = 1
      · rw [if_pos (41:)];subst hq;exact wpS_pure (h1 _ (zcE C m2))
      · rw [if_neg (41:)];by_cases hq2 : k2 = 0
        · rw [if_pos (by simpa using hq2)];exact wpS_pure (h1 _ (zbR m2 (.inr hq2)))
        · rw [if_neg (by simpa using hq2)];exact zk0 C ⟨m2,q1,by omega,ha,by omega⟩ (1:) nx h1 h2
    · rw [if_neg hk0];have e : k2 = nb - 1 := by omega
      subst e;exact zk0 C ⟨m,q1,by omega,ha,by omega⟩ (1:) nx h1 h2
def znS (C:Cm a b) (hk:kindOf st=oneType') (h:HI a b out na nb) (hn:na + nb <= n0) {Q:ForInStep HiSt -> SortSt -> Prop}
    (h1:∀ d:HiSt,HP a b n0 d.1 d.2.1 d.2.2.1 d.2.2.2.1 -> Q (.done d) (zaY st mg)) (h2:∀ d:HiSt,d.1=none -> HP a b n0 d.1 d.2.1 d.2.2.1 d.2.2.2.1 -> Q (.yield d) (zaY st mg)) :
    wpS (model prog w) A E s (hi1 a b out na nb mg ac bc) Q st:=by
  unfold hi1;have h0:=h;obtain ⟨mr,q1,q2,ha,hb⟩:=h;rw [setMinGallop'_eq];refine wpS_bind (wpS_modify ?_);refine wpS_bind (zay (1:) λ y hy=>?_);refine wpS_bind (zbq (st:=zaY st mg) hk (C.ib _ _ hy) C.ia (1:) (1:) (λ i j hij hj=>C.sa _ _ (1:) (1:)) λ k2 hk2 p1 p2=>?_);dsimp only;have hyk:numOf y.1=K b (nb - 1):=(K_at hy).symm;have ah:∀ i,zaG false (numOf y.1) (K a (0 + i)) ↔ K a i <= K b (nb - 1):=λ i=>by unfold zaG; rw [if_neg (3:),hyk,ycb]
  have m2:MR a b (out ++ (a.extract k2 na).reverse) k2 nb:=znT mr hk2 λ i h1 h2 h2' j g1 g2=>by
    have:=mt (ah i).mpr (p2 i h1 h2);have:=C.sb j (nb - 1) (1:) (1:);omega
  have nx:∀ j,j < k2 -> j < a.size -> K a j <= K b (nb - 1):=λ j h1 h2=>(ah j).mp (p1 j h1);by_cases hk0:na - k2 > 0
  · rw [if_pos hk0];by_cases hq : k2 = 0
    · rw [if_pos (41:)];exact wpS_pure (h1 _ (zbR m2 (.inl hq)))
    · rw [if_neg (41:)];exact zkI (st:=zaY st mg) C hk ⟨m2,by omega,q2,by omega,hb⟩ (1:) nx h1 h2
  · rw [if_neg hk0];have : k2 = na := by omega
    subst this;exact zkI (st:=zaY st mg) C hk h0 (1:) nx h1 h2
def znD (C:Cm a b) (hk:kindOf st=oneType') (h:HI a b out na nb) (hn:na + nb <= n0 + 1) {Q:ForInStep HiS1 -> SortSt -> Prop}
    (h1:∀ d:HiS1,HP a b n0 d.1 d.2.1 d.2.2.1 d.2.2.2.1 -> Q (.done d) st) (h2:∀ d:HiS1,d.1=none -> HP a b n0 d.1 d.2.1 d.2.2.1 d.2.2.2.1 -> Q (.yield d) st) :
    wpS (model prog w) A E s (hiB a b mg na nb out ac bc) Q st:=by
  unfold hiB;obtain ⟨mr,q1,q2,ha,hb⟩:=h;refine wpS_bind (zay (1:) λ y hy=>?_);refine wpS_bind (zay (1:) λ x hx=>?_);refine wpS_bind (zhd hk (C.ib _ _ hy) (C.ia _ _ hx) ?_);dsimp only;have ey:numOf y.1=K b (nb - 1):=(K_at hy).symm;have ex:numOf x.1=K a (na - 1):=(K_at hx).symm;by_cases hl:numOf y.1 < numOf x.1
  · rw [if_pos (by simpa using hl)];refine wpS_bind (zay (1:) fun x' hx' => ?_);obtain rfl : x = x' := by rw [hx] at hx'; exact Option.some.inj hx'
    have m:=zhB mr q1 hx λ j g1 g2=>by
      have:=C.sb j (nb - 1) (1:) (1:);show _ <= numOf x.1;omega
    by_cases hz:na - 1=0
    · rw [if_pos (30:)];exact wpS_pure (h1 _ (zbR m (.inl hz)))
    · rw [if_neg (30:)];have g : HP a b n0 none (na - 1) nb (out.push x) := ⟨⟨m, by omega, q2, by omega, hb⟩, by omega⟩
      split
      · exact wpS_pure (h1 _ g)
      · exact wpS_pure (h2 _ rfl g)
  · rw [if_neg (by simpa using hl)];refine wpS_bind (zay (1:) fun y' hy' => ?_);obtain rfl : y = y' := by rw [hy] at hy'; exact Option.some.inj hy'
    have m:=zlf mr (1:) hy λ j g1 g2=>by
      have:=C.sa j (na - 1) (1:) (1:);show _ <= numOf y.1;omega
    by_cases hz:nb - 1=1
    · rw [if_pos (30:)];refine wpS_pure (h1 _ ?_);dsimp only;rw [hz] at m ⊢;exact zcE C m
    · rw [if_neg (30:)];have g : HP a b n0 none na (nb - 1) (out.push y) := ⟨⟨m, q1, by omega, ha, by omega⟩, by omega⟩
      split
      · exact wpS_pure (h1 _ g)
      · exact wpS_pure (h2 _ rfl g)
def zi5 (C:Cm a b) (hk:kindOf st=oneType') (h:HI a b out na nb) {Q:ForInStep (Option (Array Keyed) × Nat × Nat × Array Keyed × Nat) -> SortSt -> Prop}
    (h1:∀ d st',Gs st st' -> (∃ r,d.1=some r /\ Good (tot a b) r) -> Q (.done d) st') (h2:∀ d st',Gs st st' -> d.1=none -> HI a b d.2.2.2.1 d.2.1 d.2.2.1 -> d.2.1 + d.2.2.1 + 1 <= na + nb -> Q (.yield d) st') :
    wpS (model prog w) A E s (zkA a b na nb out mg) Q st:=by
  unfold zkA;have pa:=C.pa;have p1:=h.h1;have p2:=h.h2;have p3:=h.ha;have p4:=h.hb;refine wpS_bind (wpS_mono (wpS_forRange (I:=λ x c st'=>st'=st /\ c.1=none /\ HP a b (na + nb - x) c.1 c.2.1 c.2.2.1 c.2.2.2.1) (Q:=λ c st'=>st'=st /\ HP a b (na + nb - 1) c.1 c.2.1 c.2.2.1 c.2.2.2.1) ?step ?fin ?init) ?post)
  case init=>exact ⟨rfl,rfl,h,by show na + nb <= na + nb - 0; omega⟩
  case fin=>
    rintro ⟨c1,c2⟩ st' ⟨rfl,z,g⟩;obtain rfl:c1=none:=z;refine ⟨rfl,g.1,?_⟩;have:=g.2;omega
  case step=>
    rintro x ⟨c1,c2⟩ st' _ hx ⟨rfl,z,g⟩;obtain rfl:c1=none:=z;have g1:=g.1;have g2:=g.2;have g3:=g1.h1;refine znD (n0:=na + nb - x - 1) C hk g1 (1:) (λ d hd=>⟨rfl,?_⟩) (λ d hz hd=>⟨rfl,hz,?_⟩)
    · obtain ⟨d1, d2⟩ := d;cases d1 with
      | some r=>exact hd
      | none=>exact ⟨hd.1,by have:=hd.2; omega⟩
    · rw [show na + nb - (x + 1)=na + nb - x - 1 by omega]; exact hd
  case post=>
    rintro ⟨c1,c2⟩ st' ⟨rfl,g⟩;cases c1 with
    | some r=>exact wpS_pure (h1 _ _ ⟨gallopOf st',rfl⟩ ⟨r,rfl,g⟩)
    | none=>
      dsimp only;refine wpS_bind (wpS_lift (wpAny_rule ⟨rfl,?_⟩));refine wpS_bind (wpS_mono (wpS_forRange (I:=λ x c st''=>Gs st' st'' /\ c.1=none /\ HP a b (na + nb - 1) c.1 c.2.1 c.2.2.1 c.2.2.2.1) (Q:=λ c st''=>Gs st' st'' /\ HP a b (na + nb - 1) c.1 c.2.1 c.2.2.1 c.2.2.2.1) ?step2 ?fin2 ⟨⟨gallopOf st',rfl⟩,rfl,g⟩) ?post2)
      case fin2=>
        rintro c st'' ⟨gs,z,g⟩;exact ⟨gs,g⟩
      case step2=>
        rintro x ⟨d1,d2⟩ st'' _ hx ⟨⟨gg,rfl⟩,z,g⟩;obtain rfl:d1=none:=z;dsimp only
        have one:∀ m,wpS (model prog w) A E s (hi1 a b d2.2.2.1 d2.1 d2.2.1 m d2.2.2.2.2.1 d2.2.2.2.2.2) (λ r st''=>match r with | .done c=>Gs st' st'' /\ HP a b (na + nb - 1) c.1 c.2.1 c.2.2.1 c.2.2.2.1 | .yield c=>Gs st' st'' /\ c.1=none /\ HP a b (na + nb - 1) c.1 c.2.1 c.2.2.1 c.2.2.2.1) (zaY st' gg):=λ m=>
          znS (st:=zaY st' gg) (out:=d2.2.2.1) (na:=d2.1) (nb:=d2.2.1) (n0:=na + nb - 1) C hk g.1 g.2 (λ d hd=>⟨⟨m,rfl⟩,hd⟩) (λ d hz hd=>⟨⟨m,rfl⟩,hz,hd⟩)
        split
        · exact wpS_mono (one _) λ r _ hr=>by cases r <;> exact hr
        · exact wpS_mono (one _) λ r _ hr=>by cases r <;> exact hr
      case post2=>
        rintro ⟨d1,d2⟩ st'' ⟨⟨gg,rfl⟩,g⟩;cases d1 with
        | some r=>exact wpS_pure (h1 _ _ ⟨gg,rfl⟩ ⟨r,rfl,g⟩)
        | none=>
          dsimp only;rw [setMinGallop'_eq];have:=g.2;exact wpS_bind (wpS_modify (wpS_pure (h2 _ _ ⟨_,rfl⟩ rfl g.1 (by dsimp only at *; omega))))
def zh1 (C:Cm a b) (hk:kindOf st=oneType') {Q:Array Keyed -> SortSt -> Prop} (h:∀ r st',Gs st st' -> Good (tot a b) r -> Q r st') :
  wpS (model prog w) A E s (mergeHi' a b) Q st:=by
 rw [zgl];have pa:=C.pa;have pb:=C.pb;refine wpS_bind (wpS_lift (wpAny_rule ⟨rfl,?_⟩));refine wpS_bind (zay (1:) λ x hx=>?_)
 have m0:MR a b #[] a.size b.size:=by
  unfold MR;have e1:a.toList.take a.size=a.toList:=yas (5:);have e2:b.toList.take b.size=b.toList:=yas (5:);rw [e1,e2];exact ⟨by show (tot a b ++ []).Perm _; rw [ybk],by show Sr (a.toList ++ []); rw [ybk]; exact zl8 C.sa,by show Sr (b.toList ++ []); rw [ybk]; exact zl8 C.sb⟩
 have m:MR a b #[x] (a.size - 1) b.size:=zhB m0 (1:) hx λ j h2 _=>by
  rw [show kf x=K a (a.size - 1) from (K_at hx).symm]; exact C.last j h2
 by_cases hz:a.size - 1=0
 ·rw [if_pos (30:)];exact wpS_pure (h _ _ ⟨gallopOf st,rfl⟩ (zbR m (.inl hz)))
 ·rw [if_neg (30:)];by_cases hq : b.size = 1
  ·rw [if_pos (41:)];refine wpS_pure (h _ _ ⟨gallopOf st,rfl⟩ ?_);rw [hq] at m ⊢;exact zcE C m
  ·rw [if_neg (41:)];refine wpS_bind (wpS_get ?_);refine wpS_bind (wpS_mono (wpS_forRange (I := fun x c st' => Gs st st' /\ c.1 = none /\ HI a b c.2.2.2.1 c.2.1 c.2.2.1 /\ c.2.1 + c.2.2.1 + x <= a.size + b.size) (Q := fun c st' => Gs st st' /\ ∃ r, c.1 = some r /\ Good (tot a b) r) ?step ?fin ?init) ?post)
   case init=>exact ⟨⟨gallopOf st,rfl⟩,rfl,⟨m,by show 1 <= a.size - 1; omega,by show 2 <= b.size; omega,by show a.size - 1 <= _; omega,yah _⟩,by show a.size - 1 + b.size + 0 <= _; omega⟩
   case fin=>
    rintro c st' ⟨_,_,l,hx⟩;have:=l.h1;have:=l.h2;omega
   case step=>
    rintro x c st' _ hx ⟨⟨g,rfl⟩,z,l,hn⟩;refine zi5 (st:=zaY st g) C hk l (λ d st'' gs hd=>?_) (λ d st'' gs hz l2 hn2=>?_)
    ·obtain ⟨g2,rfl⟩:=gs;exact ⟨⟨g2,rfl⟩,hd⟩
    ·obtain ⟨g2,rfl⟩:=gs;exact ⟨⟨g2,rfl⟩,hz,l2,by omega⟩
   case post=>
    rintro ⟨c1,c2⟩ st' ⟨gs,r,hr,g⟩;obtain rfl:c1=some r:=hr;exact wpS_pure (h r st' gs g)
end
end Srt
namespace Srt
open PySem PyProof.Rows
noncomputable def laid (xs:Array Keyed) (at_:Nat) (ys:List Keyed):Array Keyed:=ys.zipIdx.foldl (λ a (p,j)=>a.setIfInBounds (at_ + j) p) xs
noncomputable def zlL (at_:Nat) (m:Array Keyed):StateT SortSt Sem Bool:=do
 modify λ s=>setArr s (laid (arrOf s) at_ m.toList)
 pure (failedOf (<- get)).isNone
noncomputable def zhx (a:Array Keyed) (sa na sb nb:Nat):StateT SortSt Sem Bool:=do
 let y <- elem' a sb
 let r <- gallop' false y a sa na 0
 match r with
 | some k=>
  if na - k == 0 then pure true
  else do
   let x <- elem' a (sa + k + (na - k) - 1)
   let q <- gallop' true x a sb nb (nb - 1)
   match q with
   | some nb2=>
    if nb2 == 0 then pure true
    else if na - k <= nb2 then mergeLo' (a.extract (sa + k) sb) (a.extract sb (sb + nb2)) >>= zlL (sa + k)
    else mergeHi' (a.extract (sa + k) sb) (a.extract sb (sb + nb2)) >>= zlL (sa + k)
   | _=>pure false
 | _=>pure false
def zji (i:Nat):mergeAt' i=(do
   let st <- get
   match (pendingOf st)[i]?,(pendingOf st)[i + 1]? with
    | some (sa,na,p),some (sb,nb,_)=>do
       set (setPending st (((pendingOf st).setIfInBounds i (sa,na + nb,p)).eraseIdxIfInBounds (i + 1)))
       zhx (arrOf st) sa na sb nb
    | _,_=>unsupported "internal:list.sort.pending"):=by
  kernel_rfl
def zjL (ys:List Keyed):∀ (xs:Array Keyed) (k n:Nat),((ys.zipIdx n).foldl (λ a (p,j)=>a.setIfInBounds (k + j) p) xs).size=xs.size:=by
 induction ys with
 | nil=>intros; rfl
 | cons y ys ih=>intro xs k n; rw [ycg,ycm,ih]; simp
def zlt (ys:List Keyed):∀ (xs:Array Keyed) (k n i:Nat),k + n + ys.length <= xs.size ->
    ((ys.zipIdx n).foldl (λ a (p,j)=>a.setIfInBounds (k + j) p) xs)[i]?=if k + n <= i /\ i < k + n + ys.length then ys[i - (k + n)]? else xs[i]?:=by
  induction ys with
  | nil=>intro xs k n i _; rw [if_neg (5:)]; rfl
  | cons y ys ih=>
    intro xs k n i h;rw [ybC] at h;rw [ycg,ycm,ih _ _ _ _ (35:)];by_cases h1:i=k + n
    · subst h1;rw [if_neg (1:),if_pos (5:)];simp only [Nat.sub_self,List.getElem?_cons_zero];rw [Array.getElem?_setIfInBounds_self_of_lt (1:)]
    · by_cases h2 : k + (n + 1) <= i /\ i < k + (n + 1) + ys.length
      · rw [if_pos h2,if_pos (35:),show i - (k + n)=i - (k + (n + 1)) + 1 by omega,List.getElem?_cons_succ]
      · rw [if_neg h2,if_neg (35:),Array.getElem?_setIfInBounds_ne (1:)]
def zkk {xs:Array Keyed} {k:Nat} {ys:List Keyed} (h:k + ys.length <= xs.size):(laid xs k ys).toList=xs.toList.take k ++ ys ++ xs.toList.drop (k + ys.length):=by
 apply ybx;intro i;have e:=zlt ys xs k 0 i (1:);have e':(laid xs k ys).toList[i]?=(laid xs k ys)[i]?:=by simp
 rw [e'];unfold laid;rw [show (ys.zipIdx)=ys.zipIdx 0 from rfl,e];by_cases h1:i < k
 ·rw [if_neg (1:),yaA,ybq (35:),List.getElem?_take_of_lt h1];simp
 ·by_cases h2 : i < k + ys.length
  ·rw [if_pos (1:),yaA,ya8 (35:),ybq (35:)];congr 1;simp; omega
  ·rw [if_neg (1:),yaA,ya8 (35:),ya8 (35:),List.getElem?_drop];rw [show xs[i]?=xs.toList[i]? by simp];congr 1;simp; omega
def zpS {xs:Array Keyed} (h:Sr xs.toList):SortedTo xs xs.size:=by
 intro i j hij hj;rw [K_eq (1:),K_eq hj];rcases ybT i j with h1 | h1
 ·have:=yaS.mp h i j (35:) (by simpa using hj) h1;simpa using this
 ·have : i = j := by omega
  subst this; exact ybH _
def zgX {xs:Array Keyed} {i j k:Nat} (hj:j <= xs.size) (h:i + k < j):K (xs.extract i j) k=K xs (i + k):=by
 refine K_congr ?_;rw [Array.getElem?_extract];rw [if_pos (1:)]
def zcS {xs:Array Keyed} (h:zdh xs) (i j:Nat):zdh (xs.extract i j):=by
 intro k x hx;rw [Array.getElem?_extract] at hx
 split at hx
 ·exact h _ _ hx
 ·cases hx
def zm4 {L1 X Y L2 M:List Keyed} (h1:Sr (L1 ++ X)) (h2:Sr (Y ++ L2)) (h3:∀ l ∈ L1,∀ y ∈ Y ++ L2,kf l <= kf y) (h4:∀ x ∈ X,∀ y ∈ L2,kf x <= kf y) (hp:M.Perm (X ++ Y)) (hs:Sr M) :
  (L1 ++ M ++ L2).Perm (L1 ++ X ++ (Y ++ L2)) /\ Sr (L1 ++ M ++ L2):=by
 refine ⟨?_,?_⟩
 ·rw [yaA,yaA,<- yaA X];exact ycc _ (yb6 _ hp)
 ·have q1 := yax.mp h1;have q2 := yax.mp h2;rw [Sr, yaA, yax];refine ⟨q1.1, yax.mpr ⟨hs, q2.2.1, fun m hm y hy => ?_⟩, fun l hl y hy => ?_⟩
  ·rcases yau.mp (hp.mem_iff.mp hm) with hm | hm
   ·exact h4 m hm y hy
   ·exact q2.2.2 m hm y hy
  ·rcases yau.mp hy with hy | hy
   ·rcases yau.mp (hp.mem_iff.mp hy) with hy | hy
    ·exact q1.2.2 l hl y hy
    ·exact h3 l hl y (ya6 _ hy)
   ·exact h3 l hl y (yaC _ hy)
section
variable {prog:Program} {w:World} {A:Around} {E:Value -> Shared -> Prop} {s:Shared} {st:SortSt}
def zhR {a:Array Keyed} {n:Nat} (hk:kindOf st=oneType') (hf:failedOf st=none) (ha:arrOf st=a) (hi:zdh a) (h1:1 <= n) (h2:n < a.size)
  (s1:SortedTo a n) (s2:∀ i j,n <= i -> i <= j -> j < a.size -> K a i <= K a j) {Q:Bool -> SortSt -> Prop}
  (h:∀ st',pendingOf st'=pendingOf st -> failedOf st'=none -> (arrOf st').Perm a -> SortedTo (arrOf st') a.size -> Q true st') :
  wpS (model prog w) A E s (zhx a 0 n n (a.size - n)) Q st:=by
 unfold zhx
 -- already in order
 have inOrder:K a (n - 1) <= K a n -> Q true st:=λ hle=>by
  refine h st rfl hf (by rw [ha]) ?_;rw [ha];intro i j hij hj;by_cases c1:j < n
  ·exact s1 i j hij c1
  ·by_cases c2 : n <= i
   ·exact s2 i j c2 hij hj
   ·exact ybA (s1 i (n - 1) (1:) (1:)) (ybA hle (s2 n j (1:) (1:) hj))
 refine wpS_bind (zay (1:) λ y hy=>?_);refine wpS_bind (zbq hk (hi _ _ hy) hi (1:) (1:) (λ i j hij hj=>s1 _ _ (1:) (1:)) λ k hk1 p1 p2=>?_);dsimp only;have hyk:numOf y.1=K a n:=(K_at hy).symm;have ah:∀ i,zaG false (numOf y.1) (K a (0 + i)) ↔ K a i <= K a n:=λ i=>by unfold zaG; rw [if_neg (3:),hyk,ycb]
 by_cases hz:n - k=0
 ·rw [if_pos (30:)];exact wpS_pure (inOrder ((ah (n - 1)).mp (p1 (n - 1) (1:))))
 ·rw [if_neg (30:)];have e0 : 0 + k + (n - k) - 1 = n - 1 := by omega
  refine wpS_bind (zay (1:) λ x hx=>?_);refine wpS_bind (zbq hk (hi _ _ hx) hi (1:) (1:) (λ i j hij hj=>s2 _ _ (1:) (1:) (1:)) λ k2 hk2 r1 r2=>?_);dsimp only;have hxk:numOf x.1=K a (n - 1):=by rw [<- e0]; exact (K_at hx).symm
  have ah2:∀ i,zaG true (numOf x.1) (K a (n + i)) ↔ K a (n + i) < K a (n - 1):=λ i=>by unfold zaG; rw [if_pos rfl,hxk]
  by_cases hz2:k2=0
  ·rw [if_pos (by simpa using hz2)];refine wpS_pure (inOrder ?_);have:=mt (ah2 0).mpr (r2 0 (1:) (1:));simp only [Nat.add_zero] at this;omega
  ·rw [if_neg (by simpa using hz2)];rw [ycb];have zX : (a.extract k n).size = n - k := by simp; omega
   have zY:(a.extract n (n + k2)).size=k2:=by simp; omega
   have kX:∀ i,i < n - k -> K (a.extract k n) i=K a (k + i):=λ i hi=>zgX (1:) (1:);have kY:∀ i,i < k2 -> K (a.extract n (n + k2)) i=K a (n + i):=λ i hi=>zgX (1:) (1:)
   have up:∀ i,k <= i -> i < n -> K a n < K a i:=λ i q1 q2=>by
    have:=mt (ah i).mpr (p2 i q1 q2);omega
   have C:Cm (a.extract k n) (a.extract n (n + k2)):=by
    refine ⟨zcS hi _ _,zcS hi _ _,?_,?_,by omega,by omega,?_,?_⟩
    ·rw [zX]; intro i j hij hj;rw [kX i (1:),kX j hj]; exact s1 _ _ (1:) (1:)
    ·rw [zY]; intro i j hij hj;rw [kY i (1:),kY j hj]; exact s2 _ _ (1:) (1:) (1:)
    ·rw [zX,zY]; intro j hj;rw [kY j hj,kX _ (1:),show k + (n - k - 1)=n - 1 by omega];exact ybG ((ah2 j).mp (r1 j hj))
    ·rw [zX]; intro j hj;rw [kY 0 (1:),kX j hj];exact ybG (up _ (1:) (1:))
   have fin:∀ r st',Gs st st' -> Good (tot (a.extract k n) (a.extract n (n + k2))) r -> wpS (model prog w) A E s (zlL k r) Q st':=by
    rintro r st' ⟨g,rfl⟩ ⟨gp,gs⟩;unfold zlL;refine wpS_bind (wpS_modify (wpS_bind (wpS_get ?_)));have ef:(failedOf st).isNone=true:=by rw [hf]; rfl
    show wpS _ _ _ _ (pure (failedOf st).isNone) Q _;rw [ef];refine wpS_pure (h _ rfl hf ?_ ?_)
    all_goals
     have hl:r.toList.length=n - k + k2:=by
      rw [gp.length_eq]; simp only [tot,yaG,ybQ,zX,zY]
     have el:(laid a k r.toList).toList=a.toList.take k ++ r.toList ++ a.toList.drop (n + k2):=by
      rw [zkk (1:),hl,show k + (n - k + k2)=n + k2 by omega]
     have eX:(a.extract k n).toList=(a.toList.take n).drop k:=zfZ;have eY:(a.extract n (n + k2)).toList=(a.toList.drop n).take k2:=zeO
     have sA:Sr (a.toList.take k ++ (a.toList.take n).drop k):=by
      have e:a.toList.take k ++ (a.toList.take n).drop k=a.toList.take n:=by
       have:=yaQ k (a.toList.take n)
       rwa [ycu,ybz (1:)] at this
      rw [e,Sr,yaS];intro i j hi' hj' hij;simp at hi' hj';have:=s1 i j (1:) (1:);rw [K_eq (1:),K_eq (1:)] at this;simpa using this
     have sB:Sr ((a.toList.drop n).take k2 ++ a.toList.drop (n + k2)):=by
      rw [<- yb9,yaQ,Sr,yaS];intro i j hi' hj' hij;simp at hi' hj';have:=s2 (n + i) (n + j) (1:) (1:) (1:);rw [K_eq (1:),K_eq (1:)] at this;simpa using this
     have whole:a.toList.take k ++ (a.toList.take n).drop k ++ ((a.toList.drop n).take k2 ++ a.toList.drop (n + k2))=a.toList:=by
      have e:a.toList.take k ++ (a.toList.take n).drop k=a.toList.take n:=by
       have:=yaQ k (a.toList.take n)
       rwa [ycu,ybz (1:)] at this
      rw [e,<- yb9,yaQ,yaQ]
     have bt:=zm4 (L1:=a.toList.take k) (X:=(a.toList.take n).drop k) (Y:=(a.toList.drop n).take k2) (L2:=a.toList.drop (n + k2)) (M:=r.toList) sA sB (λ l hl' y hy'=>by
      obtain ⟨i,i1,i2,i3⟩:=zbp hl';have hy2:y ∈ a.toList.drop n:=by rwa [<- yb9,yaQ] at hy'
      obtain ⟨j,j1,j2,j3⟩:=zba hy2;rw [i3,j3];exact ybA ((ah i).mp (p1 i i1)) (s2 n j (1:) j1 j2)) (λ x' hx' y hy'=>by
      obtain ⟨i,i1,i2,i2',i3⟩:=zc7 hx';obtain ⟨j,j1,j2,j3⟩:=zba hy';rw [i3,j3];have q:=mt (ah2 (j - n)).mpr (r2 (j - n) (1:) (1:));rw [show n + (j - n)=j by omega] at q;exact ybA (s1 i (n - 1) (1:) (1:)) (1:)) (by rw [<- eX,<- eY]; exact gp) gs
     rw [whole] at bt
     have arr:arrOf (setArr (zaY st g) (laid (arrOf (zaY st g)) k r.toList))=laid a k r.toList:=by
      show laid (arrOf st) k r.toList=_;rw [ha]
    ·rw [arr,Array.perm_iff_toList_perm,el]; exact bt.1
    ·rw [arr];have := zpS (xs := laid a k r.toList) (by rw [el]; exact bt.2);have e : (laid a k r.toList).size = a.size := zjL _ _ _ _
     rwa [e] at this
   split
   ·exact wpS_bind (zhs C hk λ r st' gs gd=>fin r st' gs gd)
   ·exact wpS_bind (zh1 C hk λ r st' gs gd=>fin r st' gs gd)
end
end Srt
namespace Srt
open PySem PyProof.Rows
noncomputable def rise (lo a nrem:Nat):StateT SortSt Sem (Option (Option Nat) × Nat):=
 forIn [a:nrem] ((none,a):Option (Option Nat) × Nat) λ _ c=>do
  match <- ltAt' (lo + c.2) (lo + c.2 - 1) with
  | some b=>if b then pure (.done (none,c.2)) else pure (.yield (none,c.2 + 1))
  | _=>pure (.done (some none,c.2))
noncomputable def fall (lo a nrem:Nat):StateT SortSt Sem (Option (Option Nat) × Nat × Nat):=
 forIn [a:nrem] ((none,a,0):Option (Option Nat) × Nat × Nat) λ _ c=>do
  match <- ltAt' (lo + c.2.1) (lo + c.2.1 - 1) with
  | some b=>
   if b then
    if c.2.2 > 0 then do
     reverseSlice' (lo + c.2.1 - (c.2.2 + 1)) (lo + c.2.1)
     pure (.yield (none,c.2.1 + 1,0))
    else pure (.yield (none,c.2.1 + 1,0))
   else do
    match <- ltAt' (lo + c.2.1 - 1) (lo + c.2.1) with
    | some g=>if g then pure (.done (none,c.2.1,c.2.2)) else pure (.yield (none,c.2.1 + 1,c.2.2 + 1))
    | _=>pure (.done (some none,c.2.1,c.2.2))
  | _=>pure (.done (some none,c.2.1,c.2.2))
noncomputable def zdv (lo n nrem:Nat):StateT SortSt Sem (Option Nat):=do
 reverseSlice' lo (lo + n)
 let c <- rise lo n nrem
 match c.1 with
 | some r=>pure r
 | none=>pure (some c.2)
noncomputable def zgm (lo n nrem:Nat):StateT SortSt Sem (Option Nat):=do
 liftM (rule "list.sort.descending-run")
 let c <- fall lo (n + 1) nrem
 match c.1 with
 | some r=>pure r
 | none=>if c.2.2 > 0 then (reverseSlice' (lo + c.2.1 - (c.2.2 + 1)) (lo + c.2.1) >>= λ _=>zdv lo c.2.1 nrem) else zdv lo c.2.1 nrem
def zfj (lo nrem:Nat):countRun' lo nrem=(do
  let c <- rise lo 1 nrem
  match c.1 with
  | some r=>pure r
  | none=>
   if c.2 == nrem then pure (some c.2)
   else if c.2 > 1 then do
    match <- ltAt' lo (lo + c.2 - 1) with
    | some b=>if b then pure (some c.2) else do
      reverseSlice' lo (lo + c.2)
      zgm lo c.2 nrem
    | _=>pure none
   else zgm lo c.2 nrem):=by
 kernel_rfl
structure SB (a₀:Array Keyed) (lo:Nat) (p:Array (Nat × Nat × Nat)) (f:Nat -> Int) (st:SortSt):Prop where
 perm:(arrOf st).Perm a₀
 kind:kindOf st=oneType'
 failed:failedOf st=none
 pend:pendingOf st=p
 low:∀ i,i < lo -> K (arrOf st) i=f i
variable {a₀:Array Keyed} {lo:Nat} {p:Array (Nat × Nat × Nat)} {f:Nat -> Int} {st:SortSt}
def SB.size (h:SB a₀ lo p f st):(arrOf st).size=a₀.size:=h.perm.size_eq
def SB.put (h:SB a₀ lo p f st) {xs:Array Keyed} (hp:xs.Perm (arrOf st)) (hl:∀ i,i < lo -> K xs i=K (arrOf st) i):SB a₀ lo p f (setArr st xs):=
 ⟨hp.trans h.perm,h.kind,h.failed,h.pend,λ i hi=>(hl i hi).trans (h.low i hi)⟩
def zez {xs:Array Keyed} (h0:IntKeys a₀) (hp:xs.Perm a₀):zdh xs:=by
 intro i x hx
 have hi:i < xs.size:=by
  rcases ybT i xs.size with h1 | h1
  ·exact h1
  ·rw [getElem?_neg xs i (1:)] at hx; cases hx
 rw [getElem?_pos xs i hi] at hx;have e:=Option.some.inj hx;exact h0 _ ((Array.perm_iff_toList_perm.mp hp).mem_iff.mp (by rw [<- e]; simp))
noncomputable def Up (lo:Nat) (xs:Array Keyed) (m:Nat):Prop:=∀ i j,i <= j -> j < m -> K xs (lo + i) <= K xs (lo + j)
noncomputable def Dn (lo:Nat) (xs:Array Keyed) (m:Nat):Prop:=∀ i j,i <= j -> j < m -> K xs (lo + j) <= K xs (lo + i)
def Up.one {xs:Array Keyed}:Up lo xs 1:=λ i j h1 h2=>by
 have:i=j:=by omega
 subst this; exact ybH _
def Up.more {xs:Array Keyed} {m:Nat} (h:Up lo xs m) (h1:1 <= m) (hl:K xs (lo + (m - 1)) <= K xs (lo + m)):Up lo xs (m + 1):=λ i j hij hj=>by
 by_cases c:j < m
 ·exact h i j hij c
 ·have : j = m := by omega
  subst this;by_cases c2:i=j
  ·subst c2; exact ybH _
  ·exact ybA (h i (j - 1) (1:) (1:)) hl
def Dn.more {xs:Array Keyed} {m:Nat} (h:Dn lo xs m) (h1:1 <= m) (hl:K xs (lo + m) <= K xs (lo + (m - 1))):Dn lo xs (m + 1):=λ i j hij hj=>by
 by_cases c:j < m
 ·exact h i j hij c
 ·have : j = m := by omega
  subst this;by_cases c2:i=j
  ·subst c2; exact ybH _
  ·exact ybA hl (h i (j - 1) (1:) (1:))
section
variable {prog:Program} {w:World} {A:Around} {E:Value -> Shared -> Prop} {s:Shared}
def zel {i j:Nat} {Q:Option Bool -> SortSt -> Prop} (hB:SB a₀ lo p f st) (h0:IntKeys a₀) (hi:i < a₀.size) (hj:j < a₀.size)
  (h:Q (some (decide (K (arrOf st) i < K (arrOf st) j))) st):wpS (model prog w) A E s (ltAt' i j) Q st:=by
 have hs:=hB.size;have ai:=zez h0 hB.perm;have e1:(arrOf st)[i]?=some (arrOf st)[i]:=getElem?_pos _ i (1:);have e2:(arrOf st)[j]?=some (arrOf st)[j]:=getElem?_pos _ j (1:);rw [ltAt'_eq];refine wpS_bind (wpS_get (wpS_bind (zay (1:) λ x hx=>wpS_bind (zay (1:) λ y hy=>zhd hB.kind (ai _ _ hx) (ai _ _ hy) ?_))));rw [K_at hx,K_at hy] at h;exact h
def zif {m nrem:Nat} {Q:Option (Option Nat) × Nat -> SortSt -> Prop} (h0:IntKeys a₀) (hn:lo + nrem <= a₀.size) (h1:1 <= m) (hmn:m <= nrem) (hB:SB a₀ lo p f st) (hu:Up lo (arrOf st) m)
  (h:∀ n,m <= n -> n <= nrem -> Up lo (arrOf st) n -> (n=nrem \/ K (arrOf st) (lo + n) < K (arrOf st) (lo + (n - 1))) -> Q (none,n) st) :
  wpS (model prog w) A E s (rise lo m nrem) Q st:=by
 unfold rise;refine wpS_forRange (I:=λ x c st'=>st'=st /\ c=(none,x) /\ Up lo (arrOf st) x) ?step ?fin ⟨rfl,rfl,hu⟩
 case fin=>
  rintro c st' ⟨rfl,rfl,hu'⟩;rw [show max m nrem=nrem by omega] at hu' ⊢;exact h nrem hmn (yah _) hu' (.inl rfl)
 case step=>
  rintro x c st' h2 h3 ⟨rfl,rfl,hu'⟩;dsimp only;refine wpS_bind (zel hB h0 (1:) (1:) ?_);rw [show lo + x - 1=lo + (x - 1) by omega];by_cases hl:K (arrOf st') (lo + x) < K (arrOf st') (lo + (x - 1))
  ·simp only [hl,decide_true,if_true];exact wpS_pure (h x h2 (1:) hu' (.inr hl))
  ·simp only [hl,decide_false,yaH,if_false];exact wpS_pure ⟨rfl,rfl,hu'.more (1:) (1:)⟩
def zj6 {xs:Array Keyed} {i j:Nat} (hj:j <= xs.size) (heq:∀ k,i <= k -> k < j -> K xs k=K xs (j - 1)) (k:Nat):K (mirror xs i j ((j - i) / 2)) k=K xs k:=by
 rw [K_mirror hj]
 split
 ·rw [heq (i + j - 1 - k) (1:) (1:),heq k (1:) (1:)]
 ·rfl
def zdy {n nrem:Nat} {Q:Option Nat -> SortSt -> Prop} (h0:IntKeys a₀) (hn:lo + nrem <= a₀.size) (h1:1 <= n) (hnn:n <= nrem) (hB:SB a₀ lo p f st) (hd:Dn lo (arrOf st) n)
  (h:∀ m st',SB a₀ lo p f st' -> 1 <= m -> m <= nrem -> Up lo (arrOf st') m -> Q (some m) st') :
  wpS (model prog w) A E s (zdv lo n nrem) Q st:=by
 unfold zdv;have hsz:lo + n <= (arrOf st).size:=by rw [hB.size]; omega
 refine wpS_bind (wpS_reverse ?_);have hB':SB a₀ lo p f (setArr st (mirror (arrOf st) lo (lo + n) ((lo + n - lo) / 2))):=hB.put (mirror_perm _ _ _ _) λ i hi=>by rw [K_mirror hsz,if_neg (1:)]
 refine wpS_bind (zif h0 hn h1 hnn hB' ?_ λ m hm1 hm2 hsm _=>wpS_pure (h m _ hB' (1:) hm2 hsm));intro i j hij hj;show K (mirror (arrOf st) lo (lo + n) ((lo + n - lo) / 2)) (lo + i) <= K (mirror (arrOf st) lo (lo + n) ((lo + n - lo) / 2)) (lo + j);rw [K_mirror hsz,K_mirror hsz,if_pos (1:),if_pos (1:),show lo + (lo + n) - 1 - (lo + i)=lo + (n - 1 - i) by omega,show lo + (lo + n) - 1 - (lo + j)=lo + (n - 1 - j) by omega];exact hd _ _ (1:) (1:)
def zlQ {n nrem:Nat} {Q:Option (Option Nat) × Nat × Nat -> SortSt -> Prop} (h0:IntKeys a₀) (hn:lo + nrem <= a₀.size) (h1:1 <= n) (hnn:n <= nrem) (hB:SB a₀ lo p f st) (hd:Dn lo (arrOf st) n)
  (h:∀ m q st',SB a₀ lo p f st' -> n <= m -> m <= nrem -> Dn lo (arrOf st') m -> q + 1 <= m -> (∀ i,lo + m - (q + 1) <= i -> i < lo + m -> K (arrOf st') i=K (arrOf st') (lo + m - 1)) -> Q (none,m,q) st') :
  wpS (model prog w) A E s (fall lo n nrem) Q st:=by
 unfold fall;refine wpS_forRange (I:=λ x c st'=>∃ q,c=(none,x,q) /\ SB a₀ lo p f st' /\ Dn lo (arrOf st') x /\ q + 1 <= x /\ (∀ i,lo + x - (q + 1) <= i -> i < lo + x -> K (arrOf st') i=K (arrOf st') (lo + x - 1))) ?step ?fin ⟨0,rfl,hB,hd,by omega,λ i _ _=>by congr 1; omega⟩
 case fin=>
  rintro c st' ⟨q,rfl,hB',hd',hq,he⟩;rw [show max n nrem=nrem by omega] at hd' hq he ⊢;exact h nrem q st' hB' hnn (yah _) hd' hq he
 case step=>
  rintro x c st' h2 h3 ⟨q,rfl,hB',hd',hq,he⟩;dsimp only;have hsz:lo + x <= (arrOf st').size:=by rw [hB'.size]; omega
  have ex:lo + x - 1=lo + (x - 1):=by omega
  refine wpS_bind (zel hB' h0 (1:) (1:) ?_);by_cases hl:K (arrOf st') (lo + x) < K (arrOf st') (lo + x - 1)
  ·simp only [hl, decide_true, if_true];rw [ex] at hl;have d1 := hd'.more (1:) (ybG hl);by_cases hq0 : q > 0
   ·rw [if_pos hq0];have sm:=zj6 hsz he;refine wpS_bind (wpS_reverse (wpS_pure ⟨0,rfl,hB'.put (mirror_perm _ _ _ _) λ i _=>sm i,λ i j hij hj=>?_,by omega,λ i _ _=>by congr 1; omega⟩));show K (mirror (arrOf st') _ _ _) _ <= K (mirror (arrOf st') _ _ _) _;rw [sm,sm]; exact d1 i j hij hj
   ·rw [if_neg hq0];exact wpS_pure ⟨0,rfl,hB',d1,by omega,λ i _ _=>by congr 1; omega⟩
  ·simp only [hl, decide_false, yaH, if_false];refine wpS_bind (zel hB' h0 (1:) (1:) ?_);by_cases hg : K (arrOf st') (lo + x - 1) < K (arrOf st') (lo + x)
   ·simp only [hg,decide_true,if_true];exact wpS_pure (h x q st' hB' h2 (1:) hd' hq he)
   ·simp only [hg, decide_false, yaH, if_false];have eqx : K (arrOf st') (lo + x) = K (arrOf st') (lo + x - 1) := by omega
    refine wpS_pure ⟨q + 1,rfl,hB',hd'.more (1:) (by rw [<- ex]; omega),by omega,λ i g1 g2=>?_⟩;rw [show lo + (x + 1) - 1=lo + x by omega];by_cases c:i=lo + x
    ·rw [c]
    ·rw [eqx]; exact he i (1:) (1:)
def zer {n nrem:Nat} {Q:Option Nat -> SortSt -> Prop} (h0:IntKeys a₀) (hn:lo + nrem <= a₀.size) (hnn:n + 1 <= nrem) (hB:SB a₀ lo p f st) (hd:Dn lo (arrOf st) (n + 1))
  (h:∀ m st',SB a₀ lo p f st' -> 1 <= m -> m <= nrem -> Up lo (arrOf st') m -> Q (some m) st') :
  wpS (model prog w) A E s (zgm lo n nrem) Q st:=by
 unfold zgm;refine wpS_bind (wpS_lift (wpAny_rule ⟨rfl,?_⟩));refine wpS_bind (zlQ h0 hn (1:) hnn hB hd λ m q st' hB' hm1 hm2 hd' hq he=>?_);dsimp only;have hsz:lo + m <= (arrOf st').size:=by rw [hB'.size]; omega
 by_cases hq0:q > 0
 ·rw [if_pos hq0];have sm:=zj6 hsz he;refine wpS_bind (wpS_reverse (zdy h0 hn (1:) hm2 (hB'.put (mirror_perm _ _ _ _) λ i _=>sm i) (λ i j hij hj=>?_) h));show K (mirror (arrOf st') _ _ _) _ <= K (mirror (arrOf st') _ _ _) _;rw [sm,sm]; exact hd' i j hij hj
 ·rw [if_neg hq0];exact zdy h0 hn (1:) hm2 hB' hd' h
def zfX {nrem:Nat} {Q:Option Nat -> SortSt -> Prop} (h0:IntKeys a₀) (hn:lo + nrem <= a₀.size) (h1:1 <= nrem) (hB:SB a₀ lo p f st)
  (h:∀ m st',SB a₀ lo p f st' -> 1 <= m -> m <= nrem -> Up lo (arrOf st') m -> Q (some m) st') :
  wpS (model prog w) A E s (countRun' lo nrem) Q st:=by
 rw [zfj];refine wpS_bind (zif h0 hn (yah 1) h1 hB Up.one λ n hn1 hn2 hu hor=>?_);dsimp only;by_cases hnn:n=nrem
 ·rw [if_pos (by simpa using hnn)];exact wpS_pure (h n st hB hn1 hn2 hu)
 ·rw [if_neg (by simpa using hnn)];have hlt := hor.resolve_left hnn;have hsz : lo + n <= (arrOf st).size := by rw [hB.size]; omega
  by_cases hgt:n > 1
  ·rw [if_pos hgt];refine wpS_bind (zel hB h0 (1:) (1:) ?_);rw [show lo + n - 1 = lo + (n - 1) by omega];by_cases hr : K (arrOf st) lo < K (arrOf st) (lo + (n - 1))
   ·simp only [hr,decide_true,if_true];exact wpS_pure (h n st hB hn1 hn2 hu)
   ·simp only [hr, decide_false, yaH, if_false]
    have hall:∀ k,lo <= k -> k < lo + n -> K (arrOf st) k=K (arrOf st) (lo + n - 1):=by
     intro k g1 g2;have a1:=hu 0 (k - lo) (1:) (1:);have a2:=hu (k - lo) (n - 1) (1:) (1:);rw [show lo + (k - lo)=k by omega] at a1 a2;rw [show lo + n - 1=lo + (n - 1) by omega];simp only [Nat.add_zero] at a1;omega
    have sm:=zj6 hsz hall;refine wpS_bind (wpS_reverse (zer h0 hn (1:) (hB.put (mirror_perm _ _ _ _) λ i _=>sm i) (λ i j hij hj=>?_) h));show K (mirror (arrOf st) _ _ _) _ <= K (mirror (arrOf st) _ _ _) _;rw [sm,sm];by_cases c:j < n
    ·rw [hall (lo + i) (1:) (1:),hall (lo + j) (1:) (1:)]; exact ybH _
    ·have : j = n := by omega
     subst this;by_cases c2:i=j
     ·subst c2; exact ybH _
     ·rw [hall (lo + i) (1:) (1:),show lo + j - 1=lo + (j - 1) by omega]; exact ybG hlt
  ·rw [if_neg hgt];have : n = 1 := by omega
   subst this;refine zer h0 hn (1:) hB (λ i j hij hj=>?_) h;by_cases c:i=j
   ·subst c; exact ybH _
   ·have e1 : i = 0 := by omega
    have e2:j=1:=by omega
    subst e1; subst e2;exact ybG hlt
def zeN {n ok:Nat} {Q:Bool -> SortSt -> Prop} (h0:IntKeys a₀) (hn:lo + n <= a₀.size) (hok:ok <= n) (hB:SB a₀ lo p f st) (hu:Up lo (arrOf st) ok)
    (h:∀ st',SB a₀ lo p f st' -> Up lo (arrOf st') n -> Q true st'):wpS (model prog w) A E s (binarySort' lo n ok) Q st:=by
  rw [binarySort'_eq];refine wpS_bind (wpS_mono (wpS_forRange (I:=λ k c st'=>c=(none,()) /\ SB a₀ lo p f st' /\ Up lo (arrOf st') (min k n)) (Q:=λ c st'=>c=(none,()) /\ SB a₀ lo p f st' /\ Up lo (arrOf st') n) ?step ?fin ?init) ?post)
  case post=>
    rintro c st' ⟨rfl,hB',hu'⟩;exact wpS_pure (h st' hB' hu')
  case init=>
    refine ⟨rfl,hB,λ i j hij hj=>?_⟩;by_cases c:ok=0
    · have : i = j := by omega
      subst this; exact ybH _
    · exact hu i j hij (1:)
  case fin=>
    rintro c st' ⟨hc,hB',hu'⟩;rw [show min (max (max ok 1) n) n=n by omega] at hu';exact ⟨hc,hB',hu'⟩
  case step=>
    rintro k c st' g1 g2 ⟨rfl,hB',hu'⟩;rw [show min k n=k by omega] at hu'
    refine wpS_bind (wpS_mono (wpS_forRange (I:=λ x c st''=>st''=st' /\ ∃ l r,c=(none,l,r) /\ l <= r /\ r <= k /\ r - l <= k - x /\
        (∀ i,i < l -> K (arrOf st') (lo + i) <= K (arrOf st') (lo + k)) /\ (∀ i,r <= i -> i < k -> K (arrOf st') (lo + k) < K (arrOf st') (lo + i)))
      (Q:=λ c st''=>st''=st' /\ ∃ l r,c=(none,l,r) /\ l <= k /\
        (∀ i,i < l -> K (arrOf st') (lo + i) <= K (arrOf st') (lo + k)) /\ (∀ i,l <= i -> i < k -> K (arrOf st') (lo + k) < K (arrOf st') (lo + i))) ?istep ?ifin ?iinit) ?ipost)
    case iinit=>exact ⟨rfl,0,k,rfl,by omega,by omega,by omega,λ i hi=>by omega,λ i h1 h2=>by omega⟩
    case ifin=>
      rintro c st'' ⟨rfl,l,r,rfl,q1,q2,q3,q4,q5⟩;have:l=r:=by omega
      subst this;exact ⟨rfl,l,l,rfl,q2,q4,q5⟩
    case istep=>
      rintro x c st'' _ hx ⟨rfl,l,r,rfl,q1,q2,q3,q4,q5⟩;dsimp only;by_cases hge:l >= r
      · rw [if_pos hge];have : l = r := by omega
        subst this;exact wpS_pure ⟨rfl,l,l,rfl,q2,q4,q5⟩
      · rw [if_neg hge];refine wpS_bind (zel hB' h0 (1:) (1:) ?_);by_cases hl : K (arrOf st'') (lo + k) < K (arrOf st'') (lo + (l + r) / 2)
        · simp only [hl,decide_true,if_true];exact wpS_pure ⟨rfl,l,_,rfl,by omega,by omega,by omega,q4,λ i g3 g4=>Int.lt_of_lt_of_le hl (hu' _ _ g3 g4)⟩
        · simp only [hl,decide_false,yaH,if_false];exact wpS_pure ⟨rfl,_,r,rfl,by omega,by omega,by omega,λ i g3=>ybA (hu' i ((l + r) / 2) (1:) (1:)) (Int.not_lt.mp hl),q5⟩
    case ipost=>
      rintro c st'' ⟨rfl,l,r,rfl,q1,q4,q5⟩;show wpS _ _ _ _ (do moveDown' (lo + k) (lo + l); pure (ForInStep.yield (none,()))) _ _;rw [moveDown'_eq];have hks:lo + k < (arrOf st'').size:=by rw [hB'.size]; omega
      have kb:∀ i,K (bubble (arrOf st'') (lo + k) (lo + k - (lo + l))) i=if i=lo + l then K (arrOf st'') (lo + k) else if lo + l < i /\ i <= lo + k then K (arrOf st'') (i - 1) else K (arrOf st'') i:=λ i=>by
        rw [K_bubble hks (1:),show lo + k - (lo + k - (lo + l))=lo + l by omega]
      refine wpS_bind (wpS_modify (wpS_pure ⟨rfl,hB'.put (bubble_perm _ _ _) λ i hi=>by rw [kb,if_neg (1:),if_neg (1:)],?_⟩));rw [show min (k + 1) n=k + 1 by omega];intro i j hij hj;show K (bubble (arrOf st'') (lo + k) (lo + k - (lo + l))) (lo + i) <= K (bubble (arrOf st'') (lo + k) (lo + k - (lo + l))) (lo + j);rw [kb,kb]
      repeat' split
      all_goals first
        | (exfalso; omega)
        | exact ybH _
        | (rw [show lo + i - 1=lo + (i - 1) by omega,show lo + j - 1=lo + (j - 1) by omega]; exact hu' _ _ (1:) (1:))
        | (rw [show lo + j - 1=lo + (j - 1) by omega]; exact ybG (q5 _ (1:) (1:)))
        | (rw [show lo + j - 1=lo + (j - 1) by omega]; exact hu' _ _ (1:) (1:))
        | exact q4 _ (1:)
        | exact hu' _ _ (1:) (1:)
end
end Srt
namespace Srt
open PySem PyProof.Rows
noncomputable def zg9 (pw:Nat):StateT SortSt Sem (ForInStep (Option Unit × Unit)):=do
 let st <- get
 match (if (pendingOf st).size > 1 then (pendingOf st)[(pendingOf st).size - 2]? else none) with
 | some (_,_,older)=>if older <= pw then pure (.done (none,())) else do
   let b <- mergeAt' ((pendingOf st).size - 2)
   if !b then pure (.done (some (),())) else pure (.yield (none,()))
 | _=>pure (.done (none,()))
noncomputable def ziQ (sz lo n:Nat):StateT SortSt Sem (ForInStep (Option Unit × Nat)):=do
 let st <- get
 match (pendingOf st).back? with
 | some (s1,n1,_)=>do
  let c <- forIn [0:sz] ((none,()):Option Unit × Unit) λ _ _=>zg9 (power' sz (2 * s1 + n1) (2 * s1 + n1 + n1 + n) sz)
  match c.1 with
  | some r=>pure (.done (some r,lo))
  | none=>do
   modify λ s=>setPending s ((pendingOf s).modify ((pendingOf s).size - 1) λ x=>(x.1,x.2.1,power' sz (2 * s1 + n1) (2 * s1 + n1 + n1 + n) sz))
   modify λ s=>setPending s ((pendingOf s).push (lo,n,0))
   pure (.yield (none,lo + n))
 | _=>do
  modify λ s=>setPending s ((pendingOf s).push (lo,n,0))
  pure (.yield (none,lo + n))
noncomputable def zf2 (sz mr lo:Nat):StateT SortSt Sem (ForInStep (Option Unit × Nat)):=
 if lo >= sz then pure (.done (none,lo)) else do
  match <- countRun' lo (sz - lo) with
  | some found=>
   if found < mr then do
    liftM (rule "list.sort.binary-insertion")
    let b <- binarySort' lo (min (sz - lo) mr) found
    if !b then pure (.done (some (),lo)) else ziQ sz lo (min (sz - lo) mr)
   else ziQ sz lo found
  | _=>pure (.done (some (),lo))
noncomputable def ziv (p:Array (Nat × Nat × Nat)):Nat:=
 if Option.any (λ x=>decide (x < p[p.size - 2 + 1]?.elim 0 λ x=>x.2.1)) (if p.size - 2 > 0 then p[p.size - 2 - 1]?.map (λ x=>x.2.1) else none)=true then p.size - 2 - 1 else p.size - 2
noncomputable def zf3:StateT SortSt Sem (ForInStep (Option Unit × Unit)):=do
 let st <- get
 if (pendingOf st).size <= 1 then pure (.done (none,())) else do
  let b <- mergeAt' (ziv (pendingOf st))
  if !b then pure (.done (some (),())) else pure (.yield (none,()))
def zff:sortRuns'=(do
  let st <- get
  let c <- forIn [0:(arrOf st).size] ((none,0):Option Unit × Nat) λ _ c=>zf2 (arrOf st).size (minRun' (arrOf st).size (arrOf st).size 0) c.2
  match c.1 with
  | some r=>pure r
  | none=>do
   let d <- forIn [0:(arrOf st).size] ((none,()):Option Unit × Unit) λ _ _=>zf3
   match d.1 with
   | some r=>pure r
   | none=>pure ()):=by
 kernel_rfl
def zmW {σ:Type} {M:Model} {A:Around} {E:Value -> Shared -> Prop} {s:Shared} {x:σ} {Q:PUnit -> σ -> Prop} {st:σ} (h:Q ⟨⟩ x):wpS M A E s (set x:StateT σ Sem PUnit) Q st:=by
 unfold wpS; rw [StateT.run_set]; exact wpAny_pure ⟨rfl,h⟩
section
variable {prog:Program} {w:World} {A:Around} {E:Value -> Shared -> Prop} {s:Shared} {a₀:Array Keyed}
structure Fst (a₀:Array Keyed) (n:Nat) (st:SortSt):Prop where
 perm:(arrOf st).Perm a₀
 kind:kindOf st=oneType'
 failed:failedOf st=none
 pend:pendingOf st=#[(0,n,0)]
 up:SortedTo (arrOf st) n
structure Snd (a₀:Array Keyed) (n pw:Nat) (st:SortSt):Prop where
 perm:(arrOf st).Perm a₀
 kind:kindOf st=oneType'
 failed:failedOf st=none
 pend:pendingOf st=#[(0,n,pw),(n,a₀.size - n,0)]
 up:SortedTo (arrOf st) n
 up2:∀ i j,n <= i -> i <= j -> j < a₀.size -> K (arrOf st) i <= K (arrOf st) j
def zfT {st:SortSt} {sz n:Nat} {Q:ForInStep (Option Unit × Nat) -> SortSt -> Prop} (hB:SBase a₀ st) (hs:SortedTo (arrOf st) n) (h:∀ st',Fst a₀ n st' -> Q (.yield (none,n)) st') :
  wpS (model prog w) A E s (ziQ sz 0 n) Q st:=by
 unfold ziQ;refine wpS_bind (wpS_get ?_);have hb:(pendingOf st).back?=none:=by rw [hB.pend]; rfl
 rw [hb];dsimp only;refine wpS_bind (wpS_modify (wpS_pure ?_));rw [ycb];exact h _ ⟨hB.perm,hB.kind,hB.failed,by show (pendingOf st).push _=_; rw [hB.pend]; rfl,hs⟩
def zfL {st:SortSt} {sz n m:Nat} {f:Nat -> Int} {Q:ForInStep (Option Unit × Nat) -> SortSt -> Prop} (hB:SB a₀ n #[(0,n,0)] f st) (hs:SortedTo (arrOf st) n) (hu:Up n (arrOf st) m) (hm:m=a₀.size - n) (hn:n <= a₀.size)
  (h:∀ pw st',Snd a₀ n pw st' -> Q (.yield (none,a₀.size)) st') :
  wpS (model prog w) A E s (ziQ sz n m) Q st:=by
 unfold ziQ;refine wpS_bind (wpS_get ?_);have hb:(pendingOf st).back?=some (0,n,0):=by rw [hB.pend]; rfl
 rw [hb];dsimp only;generalize power' sz (2 * 0 + n) (2 * 0 + n + n + m) sz=pw;refine wpS_bind (wpS_mono (wpS_forRange (I:=λ _ c st'=>st'=st /\ c=(none,())) (Q:=λ c st'=>st'=st /\ c=(none,())) ?_ (λ _ _ hh=>hh) ⟨rfl,rfl⟩) ?_)
 ·rintro x c st' _ _ ⟨rfl, rfl⟩;unfold zg9;refine wpS_bind (wpS_get ?_)
  have e:(if (pendingOf st').size > 1 then (pendingOf st')[(pendingOf st').size - 2]? else none)=none:=by
   rw [if_neg];rw [hB.pend]; simp
  rw [e];exact wpS_pure ⟨rfl,rfl⟩
 ·rintro c st' ⟨rfl, rfl⟩;dsimp only;refine wpS_bind (wpS_modify (wpS_bind (wpS_modify (wpS_pure ?_))));rw [show n + m = a₀.size by omega];refine h pw _ ⟨hB.perm, hB.kind, hB.failed, ?_, hs, fun i j h1 h2 h3 => ?_⟩
  ·show ((pendingOf st').modify ((pendingOf st').size - 1) _).push _=_;rw [hB.pend,hm];rfl
  ·have:=hu (i - n) (j - n) (1:) (1:);rw [show n + (i - n)=i by omega,show n + (j - n)=j by omega] at this;exact this
def zjo {st:SortSt} {n pw:Nat} {Q:Bool -> SortSt -> Prop} (h0:IntKeys a₀) (h1:1 <= n) (h2:n < a₀.size) (hS:Snd a₀ n pw st)
  (h:∀ st',pendingOf st'=#[(0,a₀.size,pw)] -> failedOf st'=none -> (arrOf st').Perm a₀ -> SortedTo (arrOf st') a₀.size -> Q true st') :
  wpS (model prog w) A E s (mergeAt' 0) Q st:=by
 rw [zji];refine wpS_bind (wpS_get ?_);have e1:(pendingOf st)[0]?=some (0,n,pw):=by rw [hS.pend]; rfl
 have e2:(pendingOf st)[0 + 1]?=some (n,a₀.size - n,0):=by rw [hS.pend]; rfl
 have hz:(arrOf st).size=a₀.size:=hS.perm.size_eq;rw [e1,e2];dsimp only;refine wpS_bind (zmW ?_)
 have ep:((pendingOf st).setIfInBounds 0 (0,n + (a₀.size - n),pw)).eraseIdxIfInBounds (0 + 1)=#[(0,a₀.size,pw)]:=by
  rw [hS.pend,show n + (a₀.size - n)=a₀.size by omega];apply Array.ext';simp [Array.eraseIdxIfInBounds]
 rw [ep,<- hz];refine zhR (st:=setPending st #[(0,(arrOf st).size,pw)]) (a:=arrOf st) hS.kind hS.failed rfl (zez h0 hS.perm) h1 (1:) hS.up (by rw [hz]; exact hS.up2) λ st' p1 p2 p3 p4=>h st' ?_ p2 (p3.trans hS.perm) (by rw [<- hz]; exact p4);rw [p1,<- hz]
def zfc {st:SortSt} {Q:Unit -> SortSt -> Prop} (h0:IntKeys a₀) (hB:SBase a₀ st) (h64:a₀.size=64)
  (h:∀ st',(arrOf st').Perm a₀ -> failedOf st'=none -> SortedTo (arrOf st') a₀.size -> Q () st'):wpS (model prog w) A E s sortRuns' Q st:=by
 rw [zff];refine wpS_bind (wpS_get ?_);have hs:=hB.size;rw [h64] at hs;have hmr:minRun' 64 64 0=32:=rfl;simp only [hs,hmr]
 refine wpS_bind (wpS_mono (wpS_forRange
  (I:=λ x c st'=>(x=0 /\ c=(none,0) /\ SBase a₀ st') \/ (x=1 /\ ∃ n,32 <= n /\ n <= 64 /\ c=(none,n) /\ Fst a₀ n st') \/ (2 <= x /\ c=(none,64) /\ ∃ n pw,32 <= n /\ n < 64 /\ Snd a₀ n pw st'))
  (Q:=λ c st'=>c=(none,64) /\ (Fst a₀ 64 st' \/ ∃ n pw,32 <= n /\ n < 64 /\ Snd a₀ n pw st')) ?step ?fin (.inl ⟨rfl,rfl,hB⟩)) ?post)
 case fin=>
  rintro c st' (⟨hx,_⟩ | ⟨hx,_⟩ | ⟨_,hc,hD⟩)
  ·omega
  ·omega
  ·exact ⟨hc,.inr hD⟩
 case step=>
  rintro x c st' _ hx (⟨rfl,rfl,hB'⟩ | ⟨rfl,n,hn1,hn2,rfl,hF⟩ | ⟨hx2,rfl,hD⟩)
  ·unfold zf2;rw [if_neg (1:)];refine wpS_bind (wpS_countRun h0 (1:) (1:) hB' fun m st2 hB2 hm1 hm2 hs2 => ?_);dsimp only;by_cases hlt : m < 32
   ·rw [if_pos hlt];refine wpS_bind (wpS_lift (wpAny_rule ⟨rfl,?_⟩));rw [show min (64 - 0) 32=32 by omega];refine wpS_bind (wpS_binarySort h0 (1:) (1:) hB2 hs2 λ st3 hB3 hs3=>?_);simp only [ycx,yaH,if_false];exact zfT hB3 hs3 λ st4 hF=>.inr (.inl ⟨by simp,32,by omega,by omega,rfl,hF⟩)
   ·rw [if_neg hlt];exact zfT hB2 hs2 λ st4 hF=>.inr (.inl ⟨rfl,m,by omega,by omega,rfl,hF⟩)
  ·unfold zf2;by_cases hge : n >= 64
   ·rw [if_pos hge];have : n = 64 := by omega
    subst this;exact wpS_pure ⟨rfl,.inl hF⟩
   ·rw [if_neg hge];have hB1 : SB a₀ n #[(0, n, 0)] (K (arrOf st')) st' := ⟨hF.perm, hF.kind, hF.failed, hF.pend, fun i _ => rfl⟩
    have low:∀ st2,SB a₀ n #[(0,n,0)] (K (arrOf st')) st2 -> SortedTo (arrOf st2) n:=λ st2 q i j hij hj=>by
     rw [q.low i (1:),q.low j hj]; exact hF.up i j hij hj
    refine wpS_bind (zfX h0 (1:) (1:) hB1 λ m st2 hB2 hm1 hm2 hs2=>?_);dsimp only;by_cases hlt:m < 32
    ·rw [if_pos hlt];refine wpS_bind (wpS_lift (wpAny_rule ⟨rfl,?_⟩));rw [show min (64 - n) 32=64 - n by omega];refine wpS_bind (zeN h0 (1:) hm2 hB2 hs2 λ st3 hB3 hs3=>?_);simp only [ycx,yaH,if_false];exact zfL hB3 (low _ hB3) hs3 (1:) (1:) λ pw st4 hS=>.inr (.inr ⟨by omega,by rw [h64],n,pw,hn1,by omega,hS⟩)
    ·rw [if_neg hlt];exact zfL hB2 (low _ hB2) hs2 (1:) (1:) λ pw st4 hS=>.inr (.inr ⟨by omega,by rw [h64],n,pw,hn1,by omega,hS⟩)
  ·unfold zf2;rw [if_pos (by dsimp only; omega)];exact wpS_pure ⟨rfl,.inr hD⟩
 case post=>
  rintro c st' ⟨rfl,hD⟩;dsimp only
  refine wpS_bind (wpS_mono (wpS_forRange (I:=λ x c st''=>c=(none,()) /\ ((x=0 /\ st''=st') \/ (1 <= x /\ (pendingOf st'').size <= 1 /\ (arrOf st'').Perm a₀ /\ failedOf st''=none /\ SortedTo (arrOf st'') a₀.size)))
   (Q:=λ c st''=>c=(none,()) /\ (arrOf st'').Perm a₀ /\ failedOf st''=none /\ SortedTo (arrOf st'') a₀.size) ?step2 ?fin2 ⟨rfl,.inl ⟨rfl,rfl⟩⟩) ?post2)
  case fin2=>
   rintro c st'' ⟨hc,⟨hx,_⟩ | ⟨_,_,hh⟩⟩
   ·omega
   ·exact ⟨hc,hh⟩
  case step2=>
   rintro x c st'' _ _ ⟨rfl,⟨rfl,rfl⟩ | ⟨_,hz,hh⟩⟩
   ·unfold zf3;refine wpS_bind (wpS_get ?_);rcases hD with hF | ⟨n, pw, hn1, hn2, hS⟩
    ·rw [if_pos (by rw [hF.pend]; exact yah 1)];exact wpS_pure ⟨rfl,hF.perm,hF.failed,by rw [h64]; exact hF.up⟩
    ·rw [if_neg (by rw [hS.pend]; simp)];have e : ziv (pendingOf st'') = 0 := by rw [hS.pend]; rfl
     rw [e];refine wpS_bind (zjo h0 (1:) (1:) hS λ st3 p1 p2 p3 p4=>?_);simp only [ycx,yaH,if_false];exact wpS_pure ⟨rfl,.inr ⟨by omega,by rw [p1]; exact yah 1,p3,p2,p4⟩⟩
   ·unfold zf3;refine wpS_bind (wpS_get ?_);rw [if_pos hz];exact wpS_pure ⟨rfl,hh⟩
  case post2=>
   rintro c st'' ⟨rfl,h1,h2,h3⟩;exact wpS_pure (h _ h1 h2 h3)
end
end Srt
namespace Srt
open PySem PyProof.Rows
section
variable {prog:Program} {w:World} {A:Around} {E:Value -> Shared -> Prop} {s:Shared}
def zd4 {a₀:Array Keyed} {st:SortSt} {Q:Unit -> SortSt -> Prop} (h0:IntKeys a₀) (hB:SBase a₀ st) (h2:2 <= a₀.size) (h64:a₀.size <= 64)
  (h:∀ st',(arrOf st').Perm a₀ -> failedOf st'=none -> SortedTo (arrOf st') a₀.size -> Q () st'):wpS (model prog w) A E s sortRuns' Q st:=by
 rcases ybT a₀.size 64 with hlt | hge
 ·exact wpS_sortRuns h0 hB h2 hlt h
 ·exact zfc h0 hB (1:) h
def zjX {a:Addr} {vs:List Value} {ns:List Int} {n:Nat} {P:Fin -> Shared -> Prop} (ho:s.heap.get? a=some (seqObj "list" vs.toArray n)) (hI:IntsAre vs ns) (h64:vs.length <= 64)
  (h:∀ (out:Array Value) (ns':List Int),IntsAre out.toList ns' -> ns'.Perm ns -> ns'.Pairwise (· <= ·) -> P (.done (.ret .none)) { s with heap:=sortedHeap s.heap a vs out }) :
  wpAny (model prog w) A (Builtin.«list.sort» ⟨[.ref a],[]⟩) P E s:=by
 by_cases hlt:vs.length < 64
 ·exact list_sort_tree ho hI hlt h
 have hl:vs.length=64:=by omega
 have la:a < s.heap.objs.size:=yae ho;have e1:=get?_update_seq ho (λ _=>#[])
 have e6:(((s.heap.update a (Obj.mapSeq λ _=>#[])).push (seqObj "tuple" vs.toArray 0)).push (seqObj "list" #[] 0)).get? a=some (seqObj "list" #[] (if (#[]:Array Value).size == vs.toArray.size then n else n + 1)):=by
  rw [Heap.get?_push_ne _ _ _ (by rw [size_push',Heap.size_update]; exact yap (Nat.lt_succ_of_lt la)),Heap.get?_push_ne _ _ _ (by rw [Heap.size_update]; exact yap la)];exact e1
 have kk:keyKind' vs.toArray=pure oneType':=by
  match vs,hl with
  | v₁ :: v₂ :: rest,_=>exact keyKind_ints hI
 have n2:¬ vs.toArray.size < 2:=by simp; omega
 rw [list_sort_plain];refine wpAny_bind (listItems_at ho rfl (wpAny_bind (listUpdate_at ho rfl (wpAny_bind (seqEpoch_at e1 rfl (wpAny_bind (wpAny_newTuple (wpAny_bind (wpAny_newList (wpAny_holding ?_)))))) ))));show wpAny (model prog w) A _ P E { s with heap:=((s.heap.update a (Obj.mapSeq λ _=>#[])).push (seqObj "tuple" vs.toArray 0)).push (seqObj "list" #[] 0) };dsimp only;rw [if_neg n2,if_neg n2,kk]
 refine wpAny_bind (wpAny_pure (wpAny_bind (wpAny_mono (zd4 (a₀:=pairsOf vs) (st:=SortSt.mk' oneType' (vs.toArray.zip vs.toArray) #[] 7 none)
  (Q:=λ _ st'=>(arrOf st').Perm (pairsOf vs) /\ failedOf st'=none /\ SortedTo (arrOf st') (pairsOf vs).size)
  hI.intKeys ⟨Array.Perm.refl _,rfl,rfl,rfl⟩ (by rw [pairsOf_size]; omega) (by rw [pairsOf_size]; omega) λ st' a1 a2 a3=>⟨a1,a2,a3⟩) ?_ λ _ _ e=>e)))
 rintro ⟨⟨⟩,st'⟩ s' ⟨rfl,hp,hf,hs⟩;dsimp only;obtain ⟨ns',g1,g2,g3⟩:=sorted_out hI hp hs;have hz:((arrOf st').map (·.2)).size=64:=by rw [Array.size_map,hp.size_eq,pairsOf_size,hl]
 refine wpAny_bind (seqEpoch_at e6 rfl (wpAny_bind (listUpdate_at e6 rfl ?_ (hsz2:=by show ((arrOf st').map (·.2)).size <= _; rw [hz,sizeLine_eq]; omega))));rw [hf];simp only [bne_self_eq_false,yaH,if_false];exact wpAny_pure (h _ ns' g1 g2 g3)
def zhL {l:Addr} {o:Obj} {T:String} {n:Nat} {vs:List Value} {Q:List Value -> Shared -> Prop} (ho:s.heap.get? l=some o) (hc:o.cls=.type T) (hT:T="list" \/ T="tuple") (hd:o.data=.seq vs.toArray n) (hz:vs.length <= 64)
  (h:Q vs { s with heap:=(s.heap.push (seqObj "list" #[] 0)).update s.heap.objs.size (Obj.mapSeq (· ++ vs.toArray)) }) :
  wpAny (model prog w) A (collect (.ref l)) Q E s:=by
 unfold collect;refine wpAny_bind (wpAny_runValue (codeAny_builtin entry_proto_collect' ?_));show wpAny _ _ (do again (.builtin "list.__iadd__" ⟨[<- newList [],.ref l],[]⟩)) _ _ s;refine wpAny_bind (wpAny_newList (wpAny_pure ⟨yct _ (32:),codeAny_builtin entry_list_iadd' ?_⟩));show wpAny _ _ (Builtin.List.listExtendWith (.ref s.heap.objs.size) (.ref l) (.ref s.heap.objs.size)) _ _ { s with heap:=s.heap.push (seqObj "list" #[] 0) };unfold Builtin.List.listExtendWith;have ho':(s.heap.push (seqObj "list" #[] 0)).get? l=some o:=yac _ ho;refine wpAny_bind (wpAny_typeOf (T:=T) ⟨o,ho',hc⟩ ?_);have b1:(Value.type "list" == Value.type "list")=true:=rfl;have b2:(Value.type "tuple" == Value.type "tuple")=true:=rfl;rw [if_pos (by rcases hT with rfl | rfl <;> simp [b1,b2])];have hne:¬ ((!(#[]:Array Value).isEmpty && Builtin.List.listTooLong ((#[]:Array Value).size + vs.toArray.size))=true):=by simp
 refine wpAny_bind (listItems_at ho' hd (wpAny_bind (listItems_at (xs:=#[]) (n:=0) (yal _ rfl) rfl ?_)));rw [if_neg hne];refine wpAny_bind (listUpdate_at (xs:=#[]) (n:=0) (yal _ rfl) rfl (wpAny_pure ?_) (yaR _) (by show (#[] ++ vs.toArray).size <= sizeLine + 1; simp only [Array.size_append,yak,List.length_nil,sizeLine_eq]; omega))
 show wpAny (model prog w) A (do
   let o <- load s.heap.objs.size
   match o.data with
   | .seq xs _=>pure xs.toList
   | _=>unsupported "internal:collect") Q E { s with heap:=(s.heap.push (seqObj "list" #[] 0)).update s.heap.objs.size (Obj.mapSeq (· ++ vs.toArray)) }
 refine wpAny_bind (wpAny_load (get?_update_seq (yal _ rfl) _) ?_);have ev:((#[]:Array Value) ++ vs.toArray).toList=vs:=by simp
 show wpAny _ _ (pure ((#[]:Array Value) ++ vs.toArray).toList) Q E _;rw [ev];exact wpAny_pure h
def sorted_seq {l:Addr} {o:Obj} {T:String} {n:Nat} {vs:List Value} {ns:List Int} {Q:Value -> Shared -> Prop} (ho:s.heap.get? l=some o) (hc:o.cls=.type T) (hT:T="list" \/ T="tuple") (hd:o.data=.seq vs.toArray n) (hI:IntsAre vs ns) (hz:vs.length <= 64)
  (h : ∀ (h' : Heap) (vs' : List Value) (ns' : List Int) (e : Nat), (∀ b u, s.heap.get? b = some u -> h'.get? b = some u) -> h'.get? (s.heap.objs.size + 1) = some (seqObj "list" vs'.toArray e) ->
   IntsAre vs' ns' -> ns'.Perm ns -> ns'.Pairwise (· <= ·) -> Q (.ref (s.heap.objs.size + 1)) { s with heap:=h' }) :
  wpAny (model prog w) A (call (.builtin "sorted") [.ref l]) Q E s:=by
 refine Calls.call_function_entry kind_sorted plain_sorted entry_sorted (args_sorted1 _) ?_;unfold Builtin.«sorted»;refine wpAny_bind (m:=checkCount "sorted" 1 1 _) (wpAny_pure (wpAny_bind (zhL ho hc hT hd hz (wpAny_bind (wpAny_newList ?_)))))
 have hsz:((s.heap.push (seqObj "list" #[] 0)).update s.heap.objs.size (Obj.mapSeq (· ++ vs.toArray))).objs.size=s.heap.objs.size + 1:=by
  rw [Heap.size_update,size_push']
 have hoL:(((s.heap.push (seqObj "list" #[] 0)).update s.heap.objs.size (Obj.mapSeq (· ++ vs.toArray))).push (seqObj "list" vs.toArray 0)).get? (s.heap.objs.size + 1)=some (seqObj "list" vs.toArray 0):=by
  rw [<- hsz]; exact yal _ rfl
 show wpAny _ _ _ _ _ { s with heap:=((s.heap.push (seqObj "list" #[] 0)).update s.heap.objs.size (Obj.mapSeq (· ++ vs.toArray))).push (seqObj "list" vs.toArray 0) };rw [hsz];refine wpAny_bind (wpAny_holding (wpAny_call_entry slot_list_sort ⟨_,hoL,rfl⟩ entry_list_sort (zjX hoL hI hz λ out ns' a1 a2 a3=>⟨_,rfl,wpAny_pure ⟨_,rfl,?_⟩⟩) (args_list_sort _)));obtain ⟨e,he⟩:=sortedAll_at s.heap vs out;exact h _ out.toList ns' e (λ _ _=>sortedAll_old) he a1 a2 a3
end
end Srt
namespace L2
open PySem PySem.Spec PyProof.Rows
section
variable {X:Cx}
def zeY:∀ {ns:List Int} {us:List Value},IntsAre us ns -> Vals (ns.map V.int) us
 | _,_,.nil=>.nil
 | _,_,.cons n t h=>.cons ⟨t,rfl⟩ (zeY h)
noncomputable def zkq (K:PySem.W.Frag):List V -> Hp -> VK -> Prop:=λ xs H Q=>∃ (a:Addr) (ns:List Int),xs=[.ref a] /\ (SqL K H a (ns.map V.int) \/ SqT K H a (ns.map V.int)) /\ ns.length <= 64 /\
 ∀ (p:Addr) (ns':List Int),H p=none -> ns'.Perm ns -> ns'.Pairwise (· <= ·) -> Q (.ref p) (upd H p (.lst (ns'.map V.int)))
def zhp:zcd X (.builtin "sorted") (zkq X.K):=by
  intro pins s σ H xs us Q I r h;obtain ⟨a,ns,rfl,hq,hz,q⟩:=h;obtain ⟨u,rfl,ru⟩:=r.one;cases ru
  have go:∀ (o:Obj) (T:String) (n:Nat) (its:List Value),s.heap.get? a=some o -> o.cls=.type T -> (T="list" \/ T="tuple") -> o.data=.seq its.toArray n -> Vals (ns.map V.int) its ->
      wpAny (model X.prog X.w) X.A (call (.builtin "sorted") [.ref a]) (EP X pins σ Q) X.xe s:=by
    intro o T n its ho hc hT hd rv;have hi:=zfw rv;have hl:its.length=ns.length:=by have:=rv.length; simp at this; omega
    refine Srt.sorted_seq ho hc hT hd hi (1:) λ h' vs' ns' e hk he hi' hp hs=>?_;have hl':=(zeY hi').length;have hle:s.heap.objs.size <= s.heap.objs.size + 1:=Nat.le_succ _;refine ⟨.ref (s.heap.objs.size + 1),_,I.laid hk hle ?_,rfl,q _ ns' (I.hok.fresh hle) hp hs⟩;refine ⟨?_,vs',e,zeY hi',he⟩;have:=hp.length_eq;simp only [yad];rw [sizeLine_eq];omega
  rcases hq with hq | hq
  · obtain ⟨its,rv,⟨o,n,ho,hc,hd,hs⟩,_⟩:=I.list hq;exact go o "list" n its ho hc (.inl rfl) hs rv
  · obtain ⟨its,rv,ht,_⟩:=I.tuple hq;obtain ⟨o,ho,hc,n,hd⟩:=ht;exact go o "tuple" n its ho hc (.inr rfl) hd rv
def zlW {K:PySem.W.Frag} (hK:X.K=K:=by rfl):zcd X (.builtin "sorted") (zkq K):=hK ▸ zhp
end
end L2
namespace PySem.SeqAt
open PySem PySem.Spec PyProof.Rows
def zlI {M:Model} {A:Around} {E:Value -> Shared -> Prop} {s:Shared} {β:Type} {a b:Nat} {f:Nat -> β -> Sem (ForInStep β)} (I:Nat -> β -> Shared -> Prop) {Q:β -> Shared -> Prop} {c:β}
    (turn:∀ i c s,a <= i -> i < b -> I i c s -> wpAny M A (f i c) (λ r s'=>match r with | .done c'=>Q c' s' | .yield c'=>I (i + 1) c' s') E s)
    (fin:∀ c s,I (max a b) c s -> Q c s) (h:I a c s):wpAny M A (forIn [a:b] c f) Q E s:=by
  rw [Std.Legacy.Range.forIn_eq_forIn_range'];have hsz:([a:b]:Std.Legacy.Range).size=b - a:=by simp [Std.Legacy.Range.size]
  show wpAny M A (forIn (List.range' a ([a:b]:Std.Legacy.Range).size 1) c f) Q E s;rw [hsz];refine wpAny_forIn_list f (λ l c s=>∃ i,a <= i /\ i <= max a b /\ l=List.range' i (max a b - i) 1 /\ I i c s) Q ?_ ?_ _ c ⟨a,yah _,by omega,by congr 1; omega,h⟩
  · rintro x rest c s ⟨i, h1, h2, h3, h4⟩
    have hlt:i < max a b:=by
      rcases ybT i (max a b) with z | z
      · exact z
      · rw [show max a b - i=0 by omega] at h3; simp at h3
    obtain ⟨n,hn⟩:∃ n,max a b - i=n + 1:=⟨max a b - i - 1,by omega⟩
    rw [hn,List.range'_succ] at h3;obtain ⟨rfl,rfl⟩:=List.cons.inj h3;refine wpAny_mono (turn x c s h1 (1:) h4) (λ r s' q=>?_) λ _ _ e=>e;cases r with
    | done c'=>exact q
    | yield c'=>exact ⟨x + 1,by omega,by omega,by congr 1; omega,q⟩
  · rintro c s ⟨i, h1, h2, h3, h4⟩
    have:i=max a b:=by
      rcases ybT i (max a b) with z | z
      · obtain ⟨n, hn⟩ : ∃ n, max a b - i = n + 1 := ⟨max a b - i - 1, by omega⟩
        rw [hn,List.range'_succ] at h3; simp at h3
      · omega
    subst this; exact fin _ _ h4
def tuple_indexAt (l:Addr) (items:Array Value) (n:Nat) (dd:Option Addr) (sl:Array (Option Value)) (x:Value) (e:Value -> Bool) (j:Nat) (hj:j < items.size) (hit:e items[j]=true)
  (hno:∀ m (hm:m < items.size),m < j -> e items[m]=false) :
  Meets (Builtin.«tuple.index» ⟨[.ref l,x],[]⟩)
   (λ A R s=>s.heap.get? l=some { cls:=.type "tuple",dict:=dd,data:=.seq items n,slots:=sl } /\ (∀ y,y ∈ items -> EqAt A.in1 s y x (e y)) /\ R (.ok (.ret (.int j s.toks))) { s with toks:=s.toks + 1 }):=
 .of_wp λ prog w A R s h=>by
  obtain ⟨hp,g,d,tk,os⟩:=s; obtain ⟨hl,he,h⟩:=h
  wp_walk using PySem.AutoSeq1.wpAny_loadPart' hl,zlI (λ i c s'=>c=(none,()) /\ s'=⟨hp,g,d,tk,os⟩ /\ i <= j)
  case turn=>
   rintro i c s' _ hi ⟨rfl,rfl,hij⟩;have hz:i < items.size:=by omega
   dsimp only;rw [getElem?_pos items i hz];dsimp only;refine wpAny_bind (he _ (Array.getElem_mem hz) prog w _ _ ?_);by_cases hq:i=j
   ·subst hq;rw [hit]
    wp_walk
    exact ⟨_,rfl,h⟩
   ·rw [hno i hz (1:)]
    wp_walk
    exact ⟨rfl,rfl,by omega⟩
  case fin=>
   rintro c s' ⟨rfl,rfl,hij⟩;omega
  case h=>exact ⟨rfl,rfl,by omega⟩
end PySem.SeqAt
namespace L2
open PySem PySem.Spec PyProof.Rows Bm
section
variable {X:Cx}
noncomputable def zke (K:PySem.W.Frag):V -> List V -> Hp -> VK -> Prop:=λ x vs H Q=>∃ (l:Addr) (xs:List V) (y u:V) (j:Nat),x=.ref l /\ vs=[y] /\ SqT K H l xs /\ zbw y=true /\ xs.all zbw=true /\ xs[j]?=some u /\ eqV u y=true /\
 (∀ (m:Nat) (u:V),m < j -> xs[m]?=some u -> eqV u y=false) /\ Q (.int (j:Int)) H
def ze8 {K:PySem.W.Frag} (hK:X.K=K:=by rfl):MtR X "tuple.index" (zke K):=by
 subst hK;intro pins s σ H x vs v us Q I rx rv h;obtain ⟨l,xs,y,u,j,rfl,rfl,hH,fy,fs,hj,hit,hno,q⟩:=h;cases rx;obtain ⟨uy,rfl,ry⟩:=Vals.one rv;obtain ⟨its,r,⟨⟨cls,dd,data,sl⟩,e,hc,n,hd⟩,z⟩:=I.tuple hH;obtain rfl:cls=.type "tuple":=hc;obtain rfl:data=.seq its.toArray n:=hd;have hl:=r.length;obtain ⟨ju,hju,rju⟩:=r.get hj;have hjl:j < its.length:=(yaj.mp hju).1;have eju:its[j]=ju:=(yaj.mp hju).2
 refine call_meets F.slot_tuple_index ⟨_,e,rfl⟩ F.entry_tuple_index (F.args_tuple_index_2 _ _)
  (SeqAt.tuple_indexAt l its.toArray n dd sl uy (eqU y) j (by simpa using hjl) ?_ ?_) ⟨e,λ w hw=>zcz ry fy r fs w (53:),?_⟩
 ·show eqU y its[j]=true;rw [eju,ziA rju (zjZ fs hj)];exact hit
 ·intro m hm hlt;have hm' : m < xs.length := by rw [hl]; simpa using hm
  obtain ⟨mu,hmu,rmu⟩:=r.get (yaa hm');have emu:its[m]'(by simpa using hm)=mu:=(yaj.mp hmu).2;show eqU y (its[m]'(by simpa using hm))=false;rw [emu,ziA rmu (zjZ fs (yaa hm'))];exact hno m _ hlt (yaa hm')
 ·exact ⟨.int _,H,I.tok _,⟨_,rfl⟩,q⟩
end
noncomputable abbrev zax (ls:List Int):Prop:=ls.Perm (zaw ls.length)
noncomputable def zey (ls:List Int):Bool:=decide (zax ls)
noncomputable def zbQ (ls:List Int):List Int:=(List.range ls.length).map λ (p:Nat)=>((ls.idxOf (p:Int):Nat):Int)
def zb8 (w:Nat):(zaw w).length=w:=by simp [zaw]
def zhX (w:Nat):(zaw w).Pairwise (· <= ·):=by
 rw [zaw,List.pairwise_map];exact ybE.imp λ h=>by omega
def zhV {ls ns:List Int} (hp:ns.Perm ls) (hs:ns.Pairwise (· <= ·)):decide (ns=zaw ls.length)=zey ls:=by
 unfold zey;apply decide_eq_decide.mpr;constructor
 ·intro e;rw [e] at hp;exact hp.symm
 ·intro e;exact PySem.W.ksm_same (hp.trans e) hs (zhX _)
def zec {ls:List Int} (h:zax ls) {p:Nat} (hp:p < ls.length):(p:Int) ∈ ls:=
 h.mem_iff.mpr (by rw [zaw,yaP]; exact ⟨p,yaq.mpr hp,rfl⟩)
def zbo {ls:List Int} (h:zax ls) {e:Int} (he:e ∈ ls):0 <= e /\ e < (ls.length:Int):=by
 have:=h.mem_iff.mp he;rw [zaw,yaP] at this;obtain ⟨x,hx,rfl⟩:=this;have:=yaq.mp hx;omega
def zdH (w:Nat):(zaw w).Nodup:=by
 rw [zaw,List.Nodup,List.pairwise_map];exact ybE.imp λ h=>by omega
def zcF {ls:List Int} (h:zax ls):ls.Nodup:=h.nodup_iff.mpr (zdH _)
def zes {ls:List Int} (h:zax ls):Ld ls.length ls:=⟨rfl,λ e he=>by have:=zbo h he; omega⟩
def zea (ls:List Int):(zbQ ls).length=ls.length:=by simp [zbQ]
def zl6 {ls:List Int} {p:Nat} (hp:p < ls.length):(zbQ ls).getD p 0=((ls.idxOf (p:Int):Nat):Int):=by
 rw [zbQ,yab,yag,yan hp];rfl
def zep {ls:List Int} {x:Int} (h:x ∈ ls):ls.idxOf x < ls.length /\ ls.getD (ls.idxOf x) 0=x:=by
 have h1:=ybI h;refine ⟨h1,?_⟩;rw [yab,yaa h1];exact yb1 h1
def zbG {ls:List Int} (h:ls.Nodup) {i:Nat} (hi:i < ls.length):ls.idxOf (ls.getD i 0)=i:=by
 have e:ls.getD i 0=ls[i]:=by rw [yab,yaa hi]; rfl
 rw [e];have hm:ls[i] ∈ ls:=ya7 hi;have q:=zep hm;have e2:ls[ls.idxOf ls[i]]'q.1=ls[i]:=yb1 q.1;rcases Nat.lt_trichotomy (ls.idxOf ls[i]) i with z | z | z
 ·exact absurd e2 (yaS.mp h _ _ q.1 hi z)
 ·exact z
 ·exact absurd e2.symm (yaS.mp h _ _ hi q.1 z)
def zmZ {ls:List Int} (h:zax ls):Ld ls.length (zbQ ls):=by
 refine ⟨zea ls,λ e he=>?_⟩;rw [zbQ,yaP] at he;obtain ⟨p,hp,rfl⟩:=he;have:=(zep (zec h (yaq.mp hp))).1;omega
def zeC {ls:List Int} (h:zax ls):zat ls (zbQ ls)=zaw ls.length:=by
 rw [zat,zbQ,ybp,zaw];apply yaX;intro p hp;show (if (0:Int) <= ((ls.idxOf (p:Int):Nat):Int) then ls.getD ((ls.idxOf (p:Int):Nat):Int).toNat 0 else ((ls.idxOf (p:Int):Nat):Int))=(p:Int);rw [if_pos (1:),yam];exact (zep (zec h (yaq.mp hp))).2
def zgP {ls:List Int} (h:zax ls):zat (zbQ ls) ls=zaw ls.length:=by
 apply ybx;intro i;by_cases hi:i < ls.length
 ·rw [zat,yag,yaa hi,zaw,yag,yan hi];have hb:=zbo h (ya7 hi);show some (if 0 <= ls[i] then (zbQ ls).getD ls[i].toNat 0 else ls[i])=some (i:Int);rw [if_pos hb.1,zl6 (1:),ybl hb.1];have:=zbG (zcF h) hi;rw [yab,yaa hi] at this;have this:ls.idxOf ls[i]=i:=this;rw [this]
 ·rw [yaE (by rw [zat,yad]; omega),yaE (by rw [zb8]; omega)]
def zcP (ls:List Int):ls=(List.range ls.length).map λ i=>ls.getD i 0:=by
 apply ybx;intro i;by_cases hi:i < ls.length
 ·rw [yag,yan hi,yaa hi];simp [yab,yaa hi]
 ·rw [yaE (1:),yaE (by rw [yad,yar]; omega)]
def getD_mem' {ls:List Int} {k:Nat} (hk:k < ls.length):ls.getD k 0 ∈ ls:=by
 rw [yab,yaa hk]; exact ya7 hk
def zl9 (w k:Nat):(2 ^ w - 1).testBit k=decide (k < w):=ya5 w k
noncomputable def ziD:Sp:=λ vs H Q _=>∃ (a:Addr) (ls:List Int) (w:Nat),vs=[.ref a] /\ H a=some (.tup (ls.map V.int)) /\ Ld w ls /\ w <= 64 /\ ∀ H',Same H H' -> Q (.bl (zey ls)) H'
noncomputable def zfD:Sp:=λ vs H Q _=>∃ (a:Addr) (ls:List Int),vs=[.ref a] /\ H a=some (.tup (ls.map V.int)) /\ zax ls /\ ls.length <= 64 /\ ∀ t H',Same H H' -> H' t=some (.tup ((zbQ ls).map V.int)) -> Q (.ref t) H'
def tyT {K:PySem.W.Frag} {H:Hp} {p:Addr} {xs:List V} (h:H p=some (.tup xs)):tyV K "tuple" (.ref p) H:=.inr (.inl ⟨rfl,.inr ⟨xs,h⟩⟩)
def zgZ (ls:List Int):(ls.map V.int).all zbw=true:=by
 rw [List.all_eq_true];intro x hx;obtain ⟨z,_,rfl⟩:=yaP.mp hx;rfl
def zfW (a b:Int):eqV (.int a) (.int b)=decide (a=b):=by
 by_cases h:a=b
 ·subst h; rw [decide_eq_true rfl]; exact beq_self_eq_true a
 ·rw [decide_eq_false h]; exact beq_eq_false_iff_ne.mpr h
def zf6 {K:PySem.W.Frag} {ls:List Int} {z:Int} {l:Addr} {H:Hp} {Q:VK} (hl:SqT K H l (ls.map V.int)) (hq:ls.idxOf z < ls.length /\ ls.getD (ls.idxOf z) 0=z) (h:Q (.int ((ls.idxOf z:Nat):Int)) H):zke K (.ref l) [.int z] H Q:=by
 refine ⟨l,_,.int z,.int z,ls.idxOf z,rfl,rfl,hl,rfl,zgZ ls,?_,by rw [zfW,decide_eq_true rfl],λ m u hm hu=>?_,h⟩
 ·have e:=hq.2;rw [yab,yaa hq.1] at e;rw [yag,yaa hq.1];have e:ls[ls.idxOf z]=z:=e;rw [e]; rfl
 ·obtain ⟨x,hx,rfl⟩:=zaL hu;rw [zfW];apply decide_eq_false;rintro rfl;have hml:m < ls.length:=(yaj.mp hx).1;have:=List.not_of_lt_findIdx (p:=(· == x)) (xs:=ls) (i:=m) (by exact hm);rw [(yaj.mp hx).2] at this;simp at this
def zdo {a b:List Int} (hl:a.length=b.length) (h:∀ p,p < a.length -> a.getD p 0=b.getD p 0):a=b:=by
 rw [zcP a,zcP b,hl];apply yaX;intro p hp;exact h p (by rw [hl]; exact yaq.mp hp)
def zbJ {w p:Nat} (hp:p < w):(zaw w).getD p 0=(p:Int):=by
 rw [zaw,yab,yag,yan hp]; rfl
def zmc {ls:List Int} (h:zax ls) (hl:∀ p,p < ls.length -> ls.getD p 0 <= (p:Int)):ls=zaw ls.length:=by
 refine zdo (by rw [zb8]) λ p hp=>?_;rw [zbJ hp];have nd:=zcF h
 have key:∀ n,∀ p,p < n -> p < ls.length -> ls.getD p 0=(p:Int):=by
  intro n
  induction n with
  | zero=>intro p h1; omega
  | succ n ih=>
   intro p h1 h2;by_cases c:p < n
   ·exact ih p c h2
   ·have : p = n := by omega
    subst this;have hm:=zbo h (getD_mem' h2);have hle:=hl p h2;by_cases e:ls.getD p 0=(p:Int)
    ·exact e
    ·exfalso;obtain ⟨q, hq⟩ : ∃ q : Nat, ls.getD p 0 = (q : Int) := ⟨(ls.getD p 0).toNat, by omega⟩
     have hqp:q < p:=by omega
     have e1:=ih q hqp (1:);have i1:=zbG nd h2;have i2:=zbG nd (show q < ls.length by omega);rw [hq] at i1;rw [e1] at i2;omega
 exact key (p + 1) p (1:) hp
def zj9 {ls:List Int} (h:zax ls) (hl:∀ p,p < ls.length -> (p:Int) <= ls.getD p 0):ls=zaw ls.length:=by
 refine zdo (by rw [zb8]) λ p hp=>?_;rw [zbJ hp];have nd:=zcF h
 have key:∀ n,∀ p,p < ls.length -> ls.length - p <= n -> ls.getD p 0=(p:Int):=by
  intro n
  induction n with
  | zero=>intro p h1 h2; omega
  | succ n ih=>
   intro p h2 h1;have hm:=zbo h (getD_mem' h2);have hle:=hl p h2;by_cases e:ls.getD p 0=(p:Int)
   ·exact e
   ·exfalso;obtain ⟨q, hq⟩ : ∃ q : Nat, ls.getD p 0 = (q : Int) := ⟨(ls.getD p 0).toNat, by omega⟩
    have hqp:p < q:=by omega
    have e1:=ih q (1:) (1:);have i1:=zbG nd h2;have i2:=zbG nd (show q < ls.length by omega);rw [hq] at i1;rw [e1] at i2;omega
 exact key (ls.length - p) p hp (yah _)
def Dd.led_len (w:Nat) (d:Dd):(d.led w).length=w:=by simp [Dd.led]
def Dd.led_getD {w p:Nat} (d:Dd) (hp:p < w):(d.led w).getD p 0=d.src w p:=by
 rw [Dd.led,yab,yag,yan hp]; rfl
noncomputable def Dd.flatE:Dd -> Bool
 | .turn _=>false
 | .swap _ _=>false
 | _=>true
def zkX {w:Nat} {d:Dd} (h:zax (d.led w)) (ok:d.ok w) (hf:d.flatE=true):d.led w=zaw w:=by
 have el:(d.led w).length=w:=d.led_len w
 have low:(∀ p,p < w -> d.src w p <= (p:Int)) -> d.led w=zaw w:=λ hh=>by
  have:=zmc h (λ p hp=>by rw [d.led_getD (1:)]; exact hh p (1:));rw [el] at this; exact this
 have high:(∀ p,p < w -> (p:Int) <= d.src w p) -> d.led w=zaw w:=λ hh=>by
  have:=zj9 h (λ p hp=>by rw [d.led_getD (1:)]; exact hh p (1:));rw [el] at this; exact this
 have pos:∀ p,p < w -> 0 <= d.src w p:=λ p hp=>by
  rw [<- d.led_getD hp]; exact (zbo h (getD_mem' (1:))).1
 cases d with
 | and m=>
  refine low λ p hp=>?_;rw [show (Dd.and m).src w p=if m.testBit p then (p:Int) else -1 from rfl]; split <;> omega
 | or m=>
  refine low λ p hp=>?_;rw [show (Dd.or m).src w p=if m.testBit p then -2 else (p:Int) from rfl]; split <;> omega
 | left n=>
  refine low λ p hp=>?_;rw [show (Dd.left n).src w p=if n <= p then (p:Int) - n else -1 from rfl]; split <;> omega
 | right n=>
  refine high λ p hp=>?_;have:=pos p hp;rw [show (Dd.right n).src w p=if p + n < w then (p:Int) + n else -1 from rfl] at this ⊢;by_cases c:p + n < w
  ·rw [if_pos c]; omega
  ·rw [if_neg c] at this; omega
 | turn n=>cases hf
 | swap m n=>cases hf
 | gather m=>
  refine high λ p hp=>?_;have:=pos p hp;rw [show (Dd.gather m).src w p=if p < (zag m).length then ((zag m).getD p 0:Int) else -1 from rfl] at this ⊢;by_cases c:p < (zag m).length
  ·rw [if_pos c];have e:p <= (zag m).getD p 0:=zmO c;omega
  ·rw [if_neg c] at this;omega
 | strew m=>
  refine low λ p hp=>?_;rw [show (Dd.strew m).src w p=if m.testBit p then ((zag m).idxOf p:Int) else -1 from rfl];by_cases c:m.testBit p=true
  ·rw [if_pos c];have q:=zbc c;have e:(zag m).idxOf p <= (zag m).getD ((zag m).idxOf p) 0:=zmO q.1;rw [q.2] at e;omega
  ·rw [if_neg c]; omega
 | copy m n=>
  have s:∀ p,(Dd.copy m n).src w p=if inM m ((p:Int) - n) then (p:Int) - n else p:=λ p=>rfl
  by_cases hn:0 <= n
  ·exact low λ p hp=>by rw [s]; split <;> omega
  ·exact high λ p hp=>by rw [s]; split <;> omega
noncomputable def zcp (w:Nat):Dd -> Dd
 | .turn n=>.turn ((w - n) % w)
 | d=>d
def zfa {w:Nat} {d:Dd} (ok:d.ok w):(zcp w d).ok w:=by
 cases d with
 | turn n=>
  have:n < w:=ok;exact ybw _ (1:)
 | _=>exact ok
def zld {w:Nat} {d:Dd} (hf:d.flatE=true):zcp w d=d:=by cases d <;> first | rfl | cases hf
def zgs {ls ms:List Int} {p:Nat} (hp:p < ms.length) (h0:0 <= ms.getD p 0):(zat ls ms).getD p 0=ls.getD (ms.getD p 0).toNat 0:=by
 have e:ms.getD p 0=ms[p]:=by rw [yab,yaa hp]; rfl
 rw [e] at h0 ⊢
 have e2:(zat ls ms).getD p 0=if 0 <= ms[p] then ls.getD ms[p].toNat 0 else ms[p]:=by
  rw [zat,yab,yag,yaa hp]; rfl
 rw [e2,if_pos h0]
def zeg (ls ms:List Int):(zat ls ms).length=ms.length:=by simp [zat]
def zbV {w n m:Nat} (hn:n < w) (hm:m < w) (e:n + m=0 \/ n + m=w):zat ((Dd.turn n).led w) ((Dd.turn m).led w)=zaw w:=by
 refine zdo (by rw [zeg,Dd.led_len,zb8]) λ p hp=>?_;rw [zeg,Dd.led_len] at hp;rw [zbJ hp];have s1:(Dd.turn m).src w p=if m <= p then (p:Int) - m else (p:Int) - m + w:=rfl
 have h0:0 <= ((Dd.turn m).led w).getD p 0:=by
  rw [Dd.led_getD _ hp,s1]; split <;> omega
 rw [zgs (by rw [Dd.led_len]; exact hp) h0,Dd.led_getD _ hp,s1];have hq:(if m <= p then (p:Int) - m else (p:Int) - m + w).toNat < w:=by split <;> omega
 rw [Dd.led_getD _ hq];generalize hqq:(if m <= p then (p:Int) - m else (p:Int) - m + w).toNat=q at hq;have s2:(Dd.turn n).src w q=if n <= q then (q:Int) - n else (q:Int) - n + w:=rfl
 rw [s2]
 split at hqq <;> split <;> omega
def zb0 {w m n:Nat} (ok:(Dd.swap m n).ok w):zat ((Dd.swap m n).led w) ((Dd.swap m n).led w)=zaw w:=by
 obtain ⟨h1,h2,h3⟩:=ok;have sr:∀ p,(Dd.swap m n).src w p=if inM m ((p:Int) - n) then (p:Int) - n else if m.testBit p then (p:Int) + n else p:=λ p=>rfl
 refine zdo (by rw [zeg,Dd.led_len,zb8]) λ p hp=>?_;rw [zeg,Dd.led_len] at hp;rw [zbJ hp]
 have inm:∀ q:Nat,inM m ((q:Int) - n)=true ↔ n <= q /\ m.testBit (q - n)=true:=λ q=>by
  unfold inM;rw [yai,decide_eq_true_iff];constructor
  ·rintro ⟨a,b⟩;refine ⟨by omega,?_⟩;rw [show q - n=((q:Int) - n).toNat by omega]; exact b
  ·rintro ⟨a,b⟩;refine ⟨by omega,?_⟩;rw [show ((q:Int) - n).toNat=q - n by omega]; exact b
 have cases3:((Dd.swap m n).src w p=(p:Int) - n /\ n <= p /\ m.testBit (p - n)=true) \/ ((Dd.swap m n).src w p=(p:Int) + n /\ m.testBit p=true /\ ¬ inM m ((p:Int) - n)=true) \/ ((Dd.swap m n).src w p=(p:Int) /\ m.testBit p=false /\ ¬ inM m ((p:Int) - n)=true):=by
  rw [sr];by_cases c1:inM m ((p:Int) - n)=true
  ·rw [if_pos c1]; exact .inl ⟨rfl,(inm p).mp c1⟩
  ·rw [if_neg c1];by_cases c2 : m.testBit p = true
   ·rw [if_pos c2]; exact .inr (.inl ⟨rfl,c2,c1⟩)
   ·rw [if_neg c2]; exact .inr (.inr ⟨rfl,by simpa using c2,c1⟩)
 have go:∀ q:Nat,(Dd.swap m n).src w p=(q:Int) -> q < w -> (Dd.swap m n).src w q=(p:Int) -> (zat ((Dd.swap m n).led w) ((Dd.swap m n).led w)).getD p 0=(p:Int):=λ q e1 hq e2=>by
  rw [zgs (by rw [Dd.led_len]; exact hp) (by rw [Dd.led_getD _ hp,e1]; omega),Dd.led_getD _ hp,e1,yam,Dd.led_getD _ hq,e2]
 rcases cases3 with ⟨e,c1,c2⟩ | ⟨e,c1,c2⟩ | ⟨e,c1,c2⟩
 ·refine go (p - n) (by rw [e]; omega) (1:) ?_;rw [sr, if_neg, if_pos c2]
  ·omega
  ·intro z;have:=(inm (p - n)).mp z;have q:=(h3 _ this.2).2;rw [show p - n - n + n=p - n by omega] at q;rw [c2] at q; cases q
 ·have q:=h3 p c1;refine go (p + n) (by rw [e]; omega) q.1 ?_;rw [sr,if_pos ((inm (p + n)).mpr ⟨by omega,by rw [show p + n - n=p by omega]; exact c1⟩)];omega
 ·refine go p e hp e
def zhn {w:Nat} {d:Dd} (ok:d.ok w) (he:zax (d.led w)):zat (d.led w) ((zcp w d).led w)=zaw w /\ zat ((zcp w d).led w) (d.led w)=zaw w:=by
 by_cases hf:d.flatE=true
 ·rw [zld hf,zkX he ok hf,zaJ (zeh w)];exact ⟨rfl,rfl⟩
 ·cases d with
  | turn n=>
   have hn:n < w:=ok;have hm:(w - n) % w < w:=ybw _ (1:)
   have e:n + (w - n) % w=0 \/ n + (w - n) % w=w:=by
    by_cases z:n=0
    ·subst z; rw [Nat.sub_zero,Nat.mod_self]; exact .inl rfl
    ·rw [Nat.mod_eq_of_lt (1:)]; exact .inr (1:)
   exact ⟨zbV hn hm e,zbV hm hn (1:)⟩
  | swap m n=>exact ⟨zb0 ok,zb0 ok⟩
  | _=>exact absurd rfl hf
noncomputable def zaM (w:Nat) (ds:List Dd):List Dd:=(ds.map (zcp w)).reverse
def zbm {w:Nat} {ds:List Dd} (h:∀ d ∈ ds,d.ok w):∀ d ∈ zaM w ds,d.ok w:=λ d hd=>by
 rw [zaM,List.mem_reverse,yaP] at hd;obtain ⟨e,he,rfl⟩:=hd;exact zfa (h e he)
def zlv {w:Nat} {a b:List Dd} (hb:∀ d ∈ b,d.ok w) (ha:∀ d ∈ a,d.ok w):rowL w (a ++ b)=zat (rowL w a) (rowL w b):=by
 rw [rowL,ybi];exact zcg b _ hb (za3 ha)
def zg3 {w:Nat} {d:Dd} {ds:List Dd} (hd:d.ok w) (h:∀ e ∈ ds,e.ok w):rowL w (d :: ds)=zat (d.led w) (rowL w ds):=by
 show ds.foldl (λ l d=>zat l (d.led w)) (zat (zaw w) (d.led w))=_;rw [zaJ (Dd.led_ld hd)];exact zcg ds _ h (Dd.led_ld hd)
def zed {w:Nat}:∀ {ds:List Dd},(∀ d ∈ ds,d.ok w) -> (∀ d ∈ ds,zax (d.led w)) -> zat (rowL w ds) (rowL w (zaM w ds))=zaw w
 | [],_,_=>by show zat (zaw w) (zaw w)=zaw w; exact zaJ (zeh w)
 | d :: ds,h,he=>by
  have hd:=h d (5:);have hds:∀ e ∈ ds,e.ok w:=λ e hx=>h e (by simp [hx]);have eu:zaM w (d :: ds)=zaM w ds ++ [zcp w d]:=by simp [zaM]
  have ih:=zed hds λ e hx=>he e (by simp [hx]);have l1:=za3 hds;have l2:=za3 (zbm hds);have l3:=Dd.led_ld (zfa hd);rw [eu,zkH,zg3 hd hds,zaQ l1 (zbT l2 l3),<- zaQ l2 l3,ih,zaJ l3];exact (zhn hd (he d (5:))).1
def zfB {w:Nat} {ds:List Dd} (h:∀ d ∈ ds,d.ok w) (he:∀ d ∈ ds,zax (d.led w)):rowL w (ds ++ zaM w ds)=zaw w:=by
 rw [zlv (zbm h) h,zed h he]
def zf1 {w:Nat} {a b:List Int} (ha:Ld w a) (hb:Ld w b) (h1:zat a b=zaw w) (h2:zat b a=zaw w):zax a:=by
 have pos:∀ {x y:List Int},Ld w x -> Ld w y -> zat x y=zaw w -> ∀ p,p < w -> 0 <= y.getD p 0 /\ (y.getD p 0).toNat < w /\ x.getD (y.getD p 0).toNat 0=(p:Int):=λ {x y} hx hy e p hp=>by
  have hpl:p < y.length:=by rw [hy.1]; exact hp
  have q:=hy.2 _ (getD_mem' hpl);have ey:y.getD p 0=y[p]:=by rw [yab,yaa hpl]; rfl
  have e2:(zat x y).getD p 0=if 0 <= y[p] then x.getD y[p].toNat 0 else y[p]:=by
   rw [zat,yab,yag,yaa hpl]; rfl
  rw [e,zbJ hp] at e2;rw [ey] at q ⊢;by_cases c:0 <= y[p]
  ·rw [if_pos c] at e2;exact ⟨c,by omega,e2.symm⟩
  ·rw [if_neg c] at e2;omega
 unfold zax;rw [ha.1];refine (List.perm_ext_iff_of_nodup ?_ (zdH w)).mpr λ z=>?_
 ·rw [List.Nodup, yaS];intro i j hi hj hij e;have gi : a.getD i 0 = a[i] := by rw [yab, yaa hi]; rfl
  have gj:a.getD j 0=a[j]:=by rw [yab,yaa hj]; rfl
  have q1:=(pos hb ha h2 i (by rw [<- ha.1]; exact hi)).2.2;have q2:=(pos hb ha h2 j (by rw [<- ha.1]; exact hj)).2.2;rw [gi,e] at q1;rw [gj] at q2;omega
 ·constructor
  ·intro hz;obtain ⟨i, hi, rfl⟩ := ycj.mp hz;have gi : a.getD i 0 = a[i] := by rw [yab, yaa hi]; rfl
   have q1:=pos hb ha h2 i (by rw [<- ha.1]; exact hi);rw [gi] at q1;rw [zaw,yaP];exact ⟨a[i].toNat,yaq.mpr q1.2.1,by omega⟩
  ·intro hz;rw [zaw,yaP] at hz;obtain ⟨p,hp,rfl⟩:=hz;have q:=pos ha hb h1 p (yaq.mp hp);rw [<- q.2.2];exact getD_mem' (by rw [ha.1]; exact q.2.1)
def zg0 (w:Nat):zax (zaw w):=by unfold zax; rw [zb8]
def zg5 {w n:Nat} (hn:n < w):zax ((Dd.turn n).led w):=by
 have hm:(w - n) % w < w:=ybw _ (1:)
 have e:n + (w - n) % w=0 \/ n + (w - n) % w=w:=by
  by_cases z:n=0
  ·subst z; rw [Nat.sub_zero,Nat.mod_self]; exact .inl rfl
  ·rw [Nat.mod_eq_of_lt (1:)]; exact .inr (1:)
 exact zf1 (Dd.led_ld (d:=.turn n) hn) (Dd.led_ld (d:=.turn _) hm) (zbV hn hm e) (zbV hm hn (1:))
def zk6 {w m n:Nat} (ok:(Dd.swap m n).ok w):zax ((Dd.swap m n).led w):=zf1 (Dd.led_ld ok) (Dd.led_ld ok) (zb0 ok) (zb0 ok)
def zhT {w:Nat} {d:Dd} (h:∀ p,p < w -> d.src w p=(p:Int)):d.led w=zaw w:=by
 refine zdo (by rw [Dd.led_len,zb8]) λ p hp=>?_;rw [Dd.led_len] at hp;rw [Dd.led_getD _ hp,zbJ hp,h p hp]
def zfV {w p:Nat} (hp:p < w):(2 ^ w - 1).testBit p=true:=by rw [zl9,decide_eq_true hp]
def zbW (w:Nat):zag (2 ^ w - 1)=List.range w:=by
 rw [zb1 (w:=w) (Nat.sub_lt (ybF w) (3:))];apply List.filter_eq_self.mpr;intro p hp;exact zfV (yaq.mp hp)
def zbv {w:Nat} {d:Dd} (h:d=.and (2 ^ w - 1) \/ d=.or 0 \/ d=.left 0 \/ d=.right 0 \/ d=.gather (2 ^ w - 1) \/ d=.strew (2 ^ w - 1) \/ ∃ n,d=.copy 0 n):zax (d.led w):=by
 suffices d.led w=zaw w by rw [this]; exact zg0 w
 refine zhT λ p hp=>?_;rcases h with rfl | rfl | rfl | rfl | rfl | rfl | ⟨n,rfl⟩
 ·rw [show (Dd.and (2 ^ w - 1)).src w p=if (2 ^ w - 1).testBit p then (p:Int) else -1 from rfl,zfV hp]; rfl
 ·rw [show (Dd.or 0).src w p=if (0:Nat).testBit p then -2 else (p:Int) from rfl,Nat.zero_testBit]; rfl
 ·rw [show (Dd.left 0).src w p=if 0 <= p then (p:Int) - (0:Nat) else -1 from rfl,if_pos (1:)]; omega
 ·rw [show (Dd.right 0).src w p=if p + 0 < w then (p:Int) + (0:Nat) else -1 from rfl,if_pos (1:)]; omega
 ·rw [show (Dd.gather (2 ^ w - 1)).src w p=if p < (zag (2 ^ w - 1)).length then ((zag (2 ^ w - 1)).getD p 0:Int) else -1 from rfl,zbW,yar,if_pos hp,yab,yan hp]; rfl
 ·rw [show (Dd.strew (2 ^ w - 1)).src w p=if (2 ^ w - 1).testBit p then ((zag (2 ^ w - 1)).idxOf p:Int) else -1 from rfl,zfV hp,zbW];have q:=zjv (m:=2 ^ w - 1) (j:=p) (by rw [zbW,yar]; exact hp);rw [zbW,yab,yan hp] at q;have q:(List.range w).idxOf p=p:=q;rw [q]; rfl
 ·rw [show (Dd.copy 0 n).src w p=if inM 0 ((p:Int) - n) then (p:Int) - n else p from rfl,show inM 0 ((p:Int) - n)=false by unfold inM; rw [Nat.zero_testBit,Bool.and_false]]; rfl
noncomputable def wayB (ls:List Int) (m p:Nat):Int:=if m.testBit p then ((ls.idxOf (p:Int):Nat):Int) else -1
noncomputable def zcJ (ls:List Int) (m:Nat):List Int:=(List.range ls.length).map λ p=>wayB ls m p
noncomputable def zjE:Sp:=λ vs H Q _=>∃ (w:Nat) (a:Addr) (d:Dd),vs=[nV w,.ref a] /\ H a=some (.tup d.vals) /\ d.ok w /\ w <= 64 /\ ∀ t H',Same H H' -> H' t=some (.tup (zcp w d).vals) -> Q (.ref t) H'
noncomputable def zih:Sp:=λ vs H Q _=>∃ (w:Nat) (a:Addr) (L:List (Addr × Dd)),vs=[nV w,.ref a] /\ H a=some (.lst (rowV L)) /\ Rw H w L /\ 1 <= w /\ w <= 64 /\ L.length <= 10000 /\ (∀ d ∈ dds L,zax (d.led w)) /\
 ∀ (l:Addr) (M:List (Addr × Dd)) (H':Hp),H l=none -> Same H H' -> H' l=some (.lst (rowV M)) -> Rw H' w M -> dds M=zaM w (dds L) -> Q (.ref l) H'
noncomputable def zoR:Sp:=λ vs H Q _=>∃ (a:Addr) (ls:List Int) (w m p:Nat),vs=[.ref a,nV m,nV p] /\ H a=some (.tup (ls.map V.int)) /\ Ld w ls /\ w <= 64 /\ p < w /\ (m.testBit p=true -> (p:Int) ∈ ls) /\ Q (.int (wayB ls m p)) H
noncomputable def zmI:Sp:=λ vs H Q _=>∃ (a:Addr) (ls:List Int) (w m:Nat),vs=[.ref a,nV m] /\ H a=some (.tup (ls.map V.int)) /\ Ld w ls /\ w <= 64 /\ (∀ p,p < w -> m.testBit p=true -> (p:Int) ∈ ls) /\
 ∀ t H',Same H H' -> H' t=some (.tup ((zcJ ls m).map V.int)) -> Q (.ref t) H'
noncomputable def zle:Sp:=λ vs H Q _=>∃ (p:Addr) (w:Nat),vs=[.ref p,nV w] /\ Hand H p /\ 1 <= w /\ w <= 64 /\ ∀ (t:Addr) (d:Dd) (H':Hp),d.ok w -> zax (d.led w) -> But p H H' -> Hand H' p -> H' t=some (.tup d.vals) -> Q (.ref t) H'
noncomputable def zkB:Sp:=λ vs H Q _=>∃ (p:Addr) (w m:Nat),vs=[.ref p,nV w,nV m] /\ Hand H p /\ 1 <= w /\ w <= 64 /\ m <= 60 /\ ∀ (l:Addr) (L:List (Addr × Dd)) (H':Hp),L.length <= 60 -> Rw H' w L -> (∀ d ∈ dds L,zax (d.led w)) -> H l=none -> But p H H' -> Hand H' p -> H' l=some (.lst (rowV L)) -> Q (.ref l) H'
def ziF (z:Int):∀ ls:List Int,inV (.int z) (ls.map V.int)=decide (z ∈ ls)
 | []=>rfl
 | x :: ls=>by
  show (eqV (.int x) (.int z) || inV (.int z) (ls.map V.int))=_;rw [zfW,ziF z ls];by_cases c:x=z
  ·subst c; simp
  ·have c':¬ z=x:=λ e=>c e.symm;simp [c,c']
def zkD {K:PySem.W.Frag} {ls:List Int} {z:Int} {a:Addr} {H:Hp} {Q:VK} (hT:SqT K H a (ls.map V.int)) (h:Q (.bl (!decide (z ∈ ls))) H):rIn K true (.int z) (.ref a) H Q:=by
 refine ⟨a,_,rfl,.inr hT,rfl,zgZ ls,?_⟩;rw [if_pos rfl,ziF];exact h
end L2
namespace L2
open PySem PySem.Spec PyProof.Rows
section
variable {X:Cx} {tg iter elt:Expr} {ifs:List Expr} {scope sc:Scope} {pos:Pos} {N N':List Str} {src:List (Option Nat)} {wi:TI} {g:TG} {tc:TT} {te:TE}
end
open Bm
noncomputable abbrev Mat:=Nat -> Nat -> Bool
noncomputable def rowB (n:Nat) (f:Mat) (i:Nat):List Bool:=(List.range n).map λ j=>f i j
noncomputable def bV (l:List Bool):List V:=l.map λ b=>nV b.toNat
noncomputable def Mx (H:Hp) (l:Addr) (n:Nat) (f:Mat):Prop:=∃ as:List Addr,as.length=n /\ H l=some (.lst (as.map V.ref)) /\ ∀ i (h:i < as.length),H as[i]=some (.lst (bV (rowB n f i)))
noncomputable abbrev Cr:=Nat -> Option Bool
variable {h:Nat} {τ:Nat -> Nat} {c:Cr} {p0 q:Nat}
noncomputable def srcP (ls:List Int) (p:Nat):Nat:=(ls.getD p 0).toNat
noncomputable def plcE (ls:List Int) (e:Nat):Nat:=ls.idxOf (e:Int)
variable {ls:List Int}
def znY (E:zax ls) {p:Nat} (hp:p < ls.length):srcP ls p < ls.length /\ ls.getD p 0=(srcP ls p:Int) /\ plcE ls (srcP ls p)=p:=by
 have b:=zbo E (getD_mem' hp);have e:ls.getD p 0=(srcP ls p:Int):=by unfold srcP; omega
 refine ⟨by unfold srcP; omega,e,?_⟩;unfold plcE;rw [<- e];exact zbG (zcF E) hp
def zj0 (E:zax ls) {e:Nat} (he:e < ls.length):plcE ls e < ls.length /\ srcP ls (plcE ls e)=e:=by
 have q:=zep (zec E he);refine ⟨q.1,?_⟩;unfold srcP plcE;rw [q.2,yam]
section
variable {X:Nat -> Bool}
end
variable {h:Nat} {ls:List Int} {X:Nat -> Bool}
noncomputable def zpE (h m1 m2:Nat) (lo up:List Int):List Int:=zat (zat ((Dd.swap m1 h).led (2 * h)) (lo ++ zm8 h up)) ((Dd.swap m2 h).led (2 * h))
inductive Pap where
 | nil
 | node (m1 m2:Nat) (lo:List Int) (pl:Pap) (up:List Int) (pu:Pap)
noncomputable def znM:List Int -> Pap -> Prop
 | ls,.nil=>ls.length=1 /\ zax ls
 | ls,.node m1 m2 lo pl up pu=>∃ h,1 <= h /\ ls.length=2 * h /\ m1 < 2 ^ h /\ m2 < 2 ^ h /\ lo.length=h /\ up.length=h /\ zax lo /\ zax up /\ zpE h m1 m2 lo up=ls /\ znM lo pl /\ znM up pu
variable {h:Nat}
noncomputable def PapH (H:Hp):Addr -> Pap -> Prop
  | a,.nil=>H a=some (.tup [])
  | a,.node m1 m2 lo pl up pu=>∃ x y lx px ly py:Addr,H a=some (.tup [nV m1,nV m2,.ref x,.ref y]) /\ H x=some (.tup [.ref lx,.ref px]) /\ H lx=some (.tup (lo.map V.int)) /\ PapH H px pl /\
      H y=some (.tup [.ref ly,.ref py]) /\ H ly=some (.tup (up.map V.int)) /\ PapH H py pu
variable {ls:List Int}
end L2
set_option maxHeartbeats 1000000
namespace L2
open PySem PyProof.Rows Bm
section
variable {X:Cx} {e st:Expr} {te:TE} {ts:TE} {pos p2:Pos}
end
section
variable {h n:Nat} {ls:List Int} {X:Nat -> Bool}
end
open PySem.Spec
noncomputable def znK:Nat -> Pap -> Prop
 | 0,.nil=>True
 | k + 1,.node m1 m2 lo pl up pu=>m1 < 2 ^ 2 ^ k /\ m2 < 2 ^ 2 ^ k /\ zax lo /\ lo.length=2 ^ k /\ zax up /\ up.length=2 ^ k /\ znK k pl /\ znK k pu
 | _,_=>False
noncomputable def zjU:List Int -> Pap -> Bool
 | _,.nil=>true
 | ls,.node m1 m2 lo pl up pu=>decide (zpE lo.length m1 m2 lo up=ls) && (zjU lo pl && zjU up pu)
noncomputable def Four (H:Hp) (h:Nat) (t:Addr) (m1 m2:Nat) (lo up:List Int):Prop:=∃ x y a p b q:Addr,H t=some (.tup [nV m1,nV m2,.ref x,.ref y]) /\ H x=some (.tup [.ref a,.ref p]) /\ H a=some (.tup (lo.map V.int)) /\ H y=some (.tup [.ref b,.ref q]) /\ H b=some (.tup (up.map V.int)) /\
 m1 < 2 ^ h /\ m2 < 2 ^ h /\ zax lo /\ lo.length=h /\ zax up /\ up.length=h /\ 1 <= h /\ h <= 32
section
variable {h:Nat} {A B:List Int}
end
section
variable {X:Cx} {a b c:Expr} {ta:TA} {p p2 pos pos2:Pos}
end
def zfN {ls:List Int} (h:zax ls):zax (zbQ ls):=by
 unfold zax;rw [zea];have e:zbQ ls=(List.range ls.length).map λ p=>((plcE ls p:Nat):Int):=rfl;refine (List.perm_ext_iff_of_nodup ?_ (zdH _)).mpr λ z=>?_
 ·rw [e, List.Nodup, List.pairwise_map];refine List.Pairwise.imp_of_mem (fun {r r'} hr hr' hlt z => ?_) ybE;have a := zj0 h (yaq.mp hr);have b := zj0 h (yaq.mp hr');have z : plcE ls r = plcE ls r' := by omega
  rw [z,b.2] at a;omega
 ·rw [e, yaP, zaw, yaP];constructor
  ·rintro ⟨r,hr,rfl⟩;exact ⟨_,yaq.mpr (zj0 h (yaq.mp hr)).1,rfl⟩
  ·rintro ⟨v,hv,rfl⟩;have q:=znY h (yaq.mp hv);exact ⟨srcP ls v,yaq.mpr q.1,by rw [q.2.2]⟩
noncomputable def Evs (H:Hp) (A:List (Addr × List Int)) (w:Nat):Prop:=∀ q ∈ A,H q.1=some (.tup (q.2.map V.int)) /\ zax q.2 /\ q.2.length=w
section
variable {X:Cx} {i o:Expr} {ty td:TE} {pos:Pos}
end
section
variable {ty td:TE} {σ:St} {H:Hp} {Q:VK}
end
end L2
namespace PySem
open Sem (wp)
open AutoSeq1 (wpAny_loadPart')
section
variable {prog:Program} {w:World} {A:Around} {E:Value -> Shared -> Prop} {s:Shared}
end
section
variable {prog:Program} {w:World} {A:Around} {E:Value -> Shared -> Prop} {s:Shared}
end
end PySem
namespace L2
open PySem PySem.Spec PyProof.Rows Bm
section
variable {X:Cx} {a:Expr} {ta:TA} {p p1 p2 pos pos1 pos2:Pos}
end
noncomputable def ev2 {α:Type} (lo:Nat) (xs:List α):List α:=(List.range ((xs.length - lo + 1) / 2)).filterMap λ k=>xs[lo + 2 * k]?
section
variable {X:Cx} {e lw st:Expr} {te tl:TE} {ts:TE} {pos p2:Pos}
end
noncomputable def MxN (H:Hp) (l:Addr) (n:Nat) (g:Nat -> Nat -> Nat):Prop:=∃ as:List Addr,as.length=n /\ H l=some (.lst (as.map V.ref)) /\ ∀ i (h:i < as.length),H as[i]=some (.lst (((List.range n).map (g i)).map nV))
noncomputable def gT (n:Nat):Nat -> Nat -> Nat -> Nat
 | 0,r,c=>n * c + r
 | 1,r,c=>n * (n - 1 - c) + r
 | _,r,c=>n * r + (n - 1 - c)
def zlg {w:Nat} {d:Dd} (hd:d.ok w):rowL w [d]=d.led w:=zaJ (Dd.led_ld hd)
def zft {w:Nat}:∀ {ds:List Dd},(∀ d ∈ ds,d.ok w) -> (∀ d ∈ ds,zax (d.led w)) -> rowL w (zaM w ds ++ ds)=zaw w
 | [],_,_=>rfl
 | d :: ds,h,he=>by
  have hd:=h d (.head _);have hds:∀ x ∈ ds,x.ok w:=λ x hx=>h x (.tail _ hx);have hu:(zcp w d).ok w:=zfa hd
  have hp:∀ x ∈ [zcp w d,d],x.ok w:=λ x hx=>by
   simp only [yao,yaL,or_false] at hx;rcases hx with rfl | rfl
   ·exact hu
   ·exact hd
  have e1:rowL w [zcp w d,d]=zaw w:=by
   show rowL w ([zcp w d] ++ [d])=zaw w;rw [zeX (λ x hx=>hp x (by rw [yaz.mp hx]; simp)) (λ x hx=>hp x (by rw [yaz.mp hx]; simp)),zlg hu,zlg hd];exact (zhn hd (he d (.head _))).2
  have ih:=zft hds λ x hx=>he x (.tail _ hx);have e2:zaM w (d :: ds) ++ d :: ds=zaM w ds ++ [zcp w d,d] ++ ds:=by simp [zaM]
  rw [e2,zeX (λ x hx=>(yau.mp hx).elim (zbm hds x) (hp x)) hds,zeX (zbm hds) hp,e1,zcA (za3 (zbm hds)),<- zeX (zbm hds) hds];exact ih
section
variable {X:Cx} {o i value:Expr} {td ty tv:TE} {pos pos':Pos}
end
section
variable {td ty tv:TE} {D:Ends} {σ:St} {H:Hp} {Q:VK}
end
noncomputable def Good (k:Nat) (ls:List Int) (P:Pap):Prop:=znK k P /\ zjU ls P=true /\ znM ls P
noncomputable def Part (H:Hp) (k:Nat) (x:Addr) (ls:List Int) (P:Pap):Prop:=∃ lx px:Addr,H x=some (.tup [.ref lx,.ref px]) /\ H lx=some (.tup (ls.map V.int)) /\ PapH H px P /\ Good k ls P
end L2
namespace L2
open PySem PySem.Spec PyProof.Rows PySem.W
def zbh.there {P:Program} {w:World} {H:Hp} {h:Heap} {a:Addr} {o:HO} (x:zbh P w H h a o):∃ ob,h.get? a=some ob:=by
 cases o with
 | lst xs=>obtain ⟨_,_,_,_,e⟩:=x; exact ⟨_,e⟩
 | tup xs=>obtain ⟨_,_,_,ob,e,_⟩:=x; exact ⟨_,e⟩
 | dK kvs=>obtain ⟨_,_,_,_,o,_,_,e,_⟩:=x; exact ⟨_,e⟩
 | dT kvs=>obtain ⟨_,_,_,_,o,_,_,e,_⟩:=x; exact ⟨_,e⟩
 | set S n=>obtain ⟨o,_,_,_,e,_⟩:=x; exact ⟨_,e⟩
 | ins C dx fs=>obtain ⟨_,_,_,e,_⟩:=x; exact ⟨_,e⟩
 | own y=>exact x
 | xd fs=>obtain ⟨_,⟨_,_,_,e,_⟩,_⟩:=x; exact ⟨_,e⟩
 | rng lo hi=>obtain ⟨_,_,_,e⟩:=x; exact ⟨_,e⟩
 | frz ob u=>obtain ⟨e,_⟩:=x; exact ⟨_,e⟩
 | tbl ps=>exact ⟨_,(show h.get? a=some _ from x)⟩
 | met f y=>exact ⟨_,(show h.get? a=some _ from x)⟩
 | ext φ=>obtain ⟨_,e,_⟩:=x; exact e
section
variable {P:Program} {w:World} {K:PySem.W.Frag} {mg:Str -> Option Value} {base:Heap} {N:List Str} {qual:Str} {scope:Scope} {f:Addr} {cd:Value} {A:Around} {outer:List Env} {s0 s s':Shared} {H0 H H':Hp} {E E':XK}
  {CX:CXT} {pins:List (Addr × Obj)} {σ:St} {B h':Heap} {hp:Heap}
def zcH:frs (envOfC qual scope s0.heap.objs.size f cd :: outer)=s0.heap.objs.size :: frs outer:=rfl
def zdb {b:Addr} {o:Obj} (e:s0.heap.get? b=some o) (hb:b ∉ frs outer):b ∉ frs (envOfC qual scope s0.heap.objs.size f cd :: outer):=λ z=>by
 rw [zcH] at z;rcases yao.mp z with z | z
 ·exact absurd (yae e) (by rw [z]; exact yaJ _)
 ·exact hb z
def zov (I:Inv (cxOf CX P w K mg base N qual scope f cd A outer s0 H0 E) pins σ H s) (un:Un (frs (envOfC qual scope s0.heap.objs.size f cd :: outer)) [] H H' s.heap hp)
  (kp:∀ b o,s.heap.get? b=some o -> H b=none -> b ∉ frs (envOfC qual scope s0.heap.objs.size f cd :: outer) -> B.get? b=some o)
  (kp2:∀ b o,s.heap.get? b=some o -> b ∉ frs (envOfC qual scope s0.heap.objs.size f cd :: outer) -> ∃ ob,B.get? b=some ob)
  (fr:∀ b ∈ frs outer,∃ o,hp.get? b=some o /\ ∀ vs,o.data ≠ .fields vs) (st:B.StaysIn h') (sm:hp.UpToSlots h') :
  Un (frs outer) [] H0 H' s0.heap h' /\ (∀ b o,s0.heap.get? b=some o -> H0 b=none -> b ∉ frs outer -> B.get? b=some o) /\ (∀ b o,s0.heap.get? b=some o -> b ∉ frs outer -> ∃ ob,B.get? b=some ob):=by
 have IB:Un (frs outer) [] H0 H s0.heap s.heap:=I.base
 have k1:∀ b o,s0.heap.get? b=some o -> H0 b=none -> b ∉ frs outer -> B.get? b=some o:=λ b o e n hb=>
  kp b o (IB.keep b o e n hb (5:)) (IB.free b o e n (5:)) (zdb e hb)
 have k2:∀ b o,s0.heap.get? b=some o -> b ∉ frs outer -> ∃ ob,B.get? b=some ob:=λ b o e hb=>by
  obtain ⟨o1,e1⟩:=IB.there b o e (5:);exact kp2 b o1 e1 (zdb e hb)
 refine ⟨⟨λ b o e n hb _=>st b o (k1 b o e n hb),λ b o e n hb _=>?_,λ b o e n _=>?_,λ b o e _=>?_,λ b xs e=>un.tups b xs (IB.tups b xs e),λ b o xs e=>un.frzs b o xs (IB.frzs b o xs e),λ b ps e=>?_⟩,k1,k2⟩
 ·obtain ⟨sl,e1⟩:=IB.slot b o e n hb (5:);have n1:=IB.free b o e n (5:);obtain ⟨sl2,e2⟩:=un.slot b _ e1 n1 (by rw [zcH]; exact yav _ hb) (5:);obtain ⟨o3,e3,d3⟩:=fr b hb;obtain ⟨sl3,e4⟩:=sm b _ e3 d3;rw [e2] at e3;cases e3;exact ⟨sl3,e4⟩
 ·obtain ⟨o1,e1⟩:=IB.there b o e (5:);exact un.free b o1 e1 (IB.free b o e n (5:)) (5:)
 ·by_cases hb : b ∈ frs outer
  ·obtain ⟨o3,e3,d3⟩:=fr b hb;obtain ⟨sl3,e4⟩:=sm b _ e3 d3;exact ⟨_,e4⟩
  ·obtain ⟨ob,q⟩:=k2 b o e hb;exact ⟨ob,st b ob q⟩
 ·obtain ⟨m1,e1⟩:=IB.tbls b ps e;obtain ⟨m2,e2⟩:=un.tbls b _ e1;exact ⟨m1 ++ m2,by rw [e2,ycq]⟩
def zf8 (ok:HOk P w H hp) (tr:∀ b o,H b=some o -> ∃ ob,B.get? b=some ob) (st:B.StaysIn hp) (st':B.StaysIn h'):HOk P w H h':=λ b o e=>
 (ok b o e).stay (fun c u hc q => by
  have:∃ ob,B.get? c=some ob:=by
   rcases hc with rfl | hc
   ·exact tr _ _ e
   ·exact tr _ _ hc
  obtain ⟨ob,z⟩:=this;have z1:=st c ob z;rw [q] at z1;cases z1;exact st' c _ z) (λ _ q=>q) λ _ _ q=>q
end
noncomputable abbrev bmV:List Value:=[.type "ValueError",.type "Exception",.type "BaseException",.type "object"]
section
variable {P:Program} {w:World} {K:PySem.W.Frag} {mg:Str -> Option Value} {base:Heap} {N:List Str} {qual:Str} {scope:Scope} {f:Addr} {cd:Value} {A:Around} {outer:List Env} {s0:Shared} {H0:Hp} {E:XK}
end
section
variable {X:Cx} {k:Nat} {f:Addr} {fd:FuncData} {ps:List Str} {sp:Sp} {dvs:List V} {ds:List Value} {E:XK} {x:Str} {p pos:Pos} {e:Expr} {es:List Expr} {t:TA}
end
noncomputable def xcIn (K:PySem.W.Frag) (C D:Addr):Bool:=match K.lookup C with
 | some ⟨.type "type",_,.cls cd,sl⟩=>(match cd.mro,sl.toList with
  | .ref C' :: bm,[_,_,_,_,some (.builtin _),_]=>C' == C && !cd.hasDel && bm.contains (.type "BaseException") && (Value.ref C :: bm).contains (.ref D)
  | _,_=>false)
 | _=>false
def zmH {K:PySem.W.Frag} {h:Heap} {C D:Addr} (X:K.In h) (q:xcIn K C D=true):∃ nm qn N bs bm hdct sn sub ab col dd k0 k1 k2 k3 k5 newId,
  h.get? C=some (excClassObj nm qn C N bs bm hdct sn sub ab col dd k0 k1 k2 k3 k5 newId) /\ bm.contains (.type "BaseException")=true /\ (Value.ref C :: bm).contains (.ref D)=true:=by
 unfold xcIn at q
 split at q
 ·rename_i dd cd sl ho
  split at q
  ·rename_i C' bm k0 k1 k2 k3 n k5 hm hs;simp only [yai, yby] at q;obtain ⟨⟨⟨hc', hdel⟩, hb⟩, ht⟩ := q;obtain rfl : C' = C := beq_iff_eq.mp hc';obtain ⟨nm, bs, mro, ns, qn, hd, sn, sub, ab, col, del⟩ := cd;dsimp only at hm hdel;subst hm hdel
   have hsl:sl=#[k0,k1,k2,k3,some (.builtin n),k5]:=by
    obtain ⟨l⟩:=sl;simp only at hs;rw [hs]
   subst hsl;exact ⟨nm,qn,ns,bs,bm,hd,sn,sub,ab,col,dd,k0,k1,k2,k3,k5,n,X _ _ ho,hb,ht⟩
  ·cases q
 ·cases q
def zd3 {M:Model} {A:Around} {E:Value -> Shared -> Prop} {K:PySem.W.Frag} {s:Shared} {e C D:Addr} {oe:Obj} {Q:Bool -> Shared -> Prop} (X:K.In s.heap) (hc:xcIn K C D=true) (hd:xcIn K D D=true)
  (he:s.heap.get? e=some oe) (hcls:oe.cls=.ref C) (hq:Q true s):wpAny M A (excMatches (.ref e) (.ref D)) Q E s:=by
 obtain ⟨nm,qn,N,bs,bm,hdct,sn,sub,ab,col,dd,k0,k1,k2,k3,k5,newId,hC,_,hcD⟩:=zmH X hc;obtain ⟨nm',qn',N',bs',bm',hdct',sn',sub',ab',col',dd',k0',k1',k2',k3',k5',newId',hD,hbase,_⟩:=zmH X hd;have hcB:(Value.ref D :: bm').contains (.type "BaseException")=true:=by rw [List.contains_cons,hbase,Bool.or_true]
 have f:=tc_notTuple;obtain ⟨h,g,d,t,os⟩:=s;unfold excMatches
 repeat (first | (with_reducible refine wpAny_loadPart_at he ?_; rw [hcls]) | with_reducible refine wpAny_loadPart_at hD ?_ | (with_reducible refine wpAny_isSubtype_exc hD ?_; rw [hcB]) | (with_reducible refine wpAny_isSubtype_exc hC ?_; rw [hcD]) | wp_step)
 exact hq
noncomputable def isX (C a:Addr):Heap -> Prop:=λ h=>∃ o,h.get? a=some o /\ o.cls=.ref C /\ notCls o=true
section
variable {X:Cx} {pins:List (Addr × Obj)} {σ:St} {H H':Hp} {s:Shared}
def zjW {l:List Env} {B h hp h':Heap} (un:Un (frs l) [] H H' h hp) (kp:∀ b o,h.get? b=some o -> H b=none -> b ∉ frs l -> B.get? b=some o) (kp2:∀ b o,h.get? b=some o -> b ∉ frs l -> ∃ ob,B.get? b=some ob)
  (fr:∀ b ∈ frs l,∃ o,hp.get? b=some o /\ ∀ vs,o.data ≠ .fields vs) (st:B.StaysIn h') (sm:hp.UpToSlots h'):Un (frs l) [] H H' h h':=by
 refine ⟨λ b o e n hb _=>st b o (kp b o e n hb),λ b o e n hb _=>?_,un.free,λ b o e _=>?_,un.tups,un.frzs,un.tbls⟩
 ·obtain ⟨sl2,e2⟩:=un.slot b o e n hb (5:);obtain ⟨o3,e3,d3⟩:=fr b hb;obtain ⟨sl3,e4⟩:=sm b _ e3 d3;rw [e2] at e3;cases e3;exact ⟨sl3,e4⟩
 ·by_cases hb : b ∈ frs l
  ·obtain ⟨o3,e3,d3⟩:=fr b hb;obtain ⟨sl3,e4⟩:=sm b _ e3 d3;exact ⟨_,e4⟩
  ·obtain ⟨ob,q⟩:=kp2 b o e hb;exact ⟨ob,st b ob q⟩
def zmi {l:List Env} {h h':Heap} {a:Addr} {φ:HO} (un:Un (frs l) [] H H' h h') (hn:H' a=none) (hnew:∀ o,h.get? a=some o -> H a=none -> False):Un (frs l) [] H (upd H' a φ) h h':=by
 refine ⟨un.keep,un.slot,λ b o e n hb=>?_,un.there,λ b xs e=>?_,λ b o u e=>?_,λ b ps e=>?_⟩
 ·rw [zal (λ z=>by subst z; exact hnew o e n)];exact un.free b o e n hb
 ·have z:=un.tups b xs e;rw [zal (zaq z hn)];exact z
 ·have z:=un.frzs b o u e;rw [zal (zaq z hn)];exact z
 ·obtain ⟨m,z⟩:=un.tbls b ps e;exact ⟨m,by rw [zal (zaq z hn)]; exact z⟩
noncomputable abbrev Cx.marked (X:Cx) (a:Addr):Cx:={ X with A:=X.A.mark (some (.ref a)),calm:=false }
def Inv.marked (I:Inv X pins σ H s) (a:Addr):Inv (X.marked a) pins σ H s:=
 ⟨⟨I.ok.mod,I.ok.kind,I.ok.glob,I.ok.blt,I.ok.above,I.ok.inj,I.ok.has,I.ok.cab,(λ z=>by cases z),I.ok.frames,I.ok.stk,I.ok.exf,I.ok.bs,I.ok.bsz,I.ok.noex,I.ok.exfs,I.ok.funs,I.ok.frf⟩,I.os,I.bare,I.base,I.loc,I.cell,I.free,I.freeC,I.pin,I.hok,I.len⟩
def Inv.unmarked {a:Addr} (hd:X.calm=true -> X.A.handled=none) (hf:X.A.frames=some X.stack) (I:Inv (X.marked a) pins σ H s):Inv X pins σ H s:=
 ⟨⟨I.ok.mod,I.ok.kind,I.ok.glob,I.ok.blt,I.ok.above,I.ok.inj,I.ok.has,I.ok.cab,hd,hf,I.ok.stk,I.ok.exf,I.ok.bs,I.ok.bsz,I.ok.noex,I.ok.exfs,I.ok.funs,I.ok.frf⟩,I.os,I.bare,I.base,I.loc,I.cell,I.free,I.freeC,I.pin,I.hok,I.len⟩
def Inv.gone {i:Nat} {x:Str} {h':Heap} {m:Str -> Option Value} {v:Option Value} {tk:Nat} (I:Inv X pins σ H s) (hi:X.N[i]?=some x) (hN:X.N.Nodup) (hn:s.heap.Ns X.env.locals m) (hm:∀ (j:Nat) (y:Str) (v:V),X.N[j]?=some y -> σ[j]?=some (some v) -> Vis X.env.scope y -> ∃ u,RelV v u /\ Look X.env s.heap m y u)
  (hn':h'.Ns X.env.locals (λ y=>if y=x then v else m y)) (hs:Heap.SameBut X.env.locals s.heap h'):Inv X pins (σ.set i none) H { s with heap:=h',toks:=tk }:=by
 have hiσ:i < σ.length:=by rw [I.len]; exact (yaj.mp hi).1
 have cne:=I.cne;refine ⟨I.ok,I.os,I.bare,⟨λ b o e n hb hx=>?_,λ b o e n hb hx=>?_,I.base.free,λ b o e hx=>?_,I.base.tups,I.base.frzs,I.base.tbls⟩,⟨_,hn',λ j y v' e1 e2 e3=>?_⟩,λ y c e=>?_,I.free,I.freeC,λ p hp=>?_,λ b ob e=>?_,by simpa using I.len⟩
 ·exact (hs.2 b (yap (yaf (yae e) I.ok.above))).trans (I.base.keep b o e n hb hx)
 ·obtain ⟨sl,e1⟩:=I.base.slot b o e n hb hx;exact ⟨sl,(hs.2 b (yap (yaf (yae e) I.ok.above))).trans e1⟩
 ·obtain ⟨o',e1⟩:=I.base.there b o e hx;exact ⟨o',(hs.2 b (yap (yaf (yae e) I.ok.above))).trans e1⟩
 ·by_cases hj : j = i
  ·subst hj;rw [yb4 hiσ] at e2;cases e2
  ·rw [ybM (ybj hj)] at e2;obtain ⟨u', r', q⟩ := hm j y v' e1 e2 e3;refine ⟨u', r', ?_⟩;rcases q with ⟨k, e⟩ | ⟨k, c, e, z⟩
   ·refine .inl ⟨k,?_⟩;have:y ≠ x:=λ e=>hj (zgn hN e1 (e ▸ hi));simp [this,e]
   ·exact .inr ⟨k,c,e,z.sameBut hs (cne y c e)⟩
 ·obtain ⟨w',z⟩:=I.cell y c e;exact ⟨w',z.sameBut hs (cne y c e)⟩
 ·obtain ⟨e,n,ne,nf,d⟩:=I.pin p hp;exact ⟨(hs.2 p.1 ne).trans e,n,ne,nf,d⟩
 ·refine (I.hok b ob e).stay (fun c w' hc q => (hs.2 c ?_).trans q) (fun _ q => q) fun _ _ q => q;rintro rfl;rcases hc with rfl | hc
  ·rw [I.free] at e; cases e
  ·rw [I.free] at hc; cases hc
end
section
variable {X:Cx} {pins:List (Addr × Obj)} {σ:St} {H1:Hp} {s1 s2:Shared} {E:XK} {e:Value} {D:Ends} {ie ic:Nat} {n c cl:Str} {Dc:Addr} {np cp vp ap hpos:Pos} {XE:Value -> Shared -> Prop}
end
section
variable {X:Cx} {iv ie ic:Nat} {v n c cl:Str} {Dc:Addr} {ep np cp vp ap hpos pos xp:Pos} {e:Expr} {t:XK -> TE}
end
open Builtin Builtin.ObjectAttr Builtin.Getset_descriptor
structure XCls (K:PySem.W.Frag) (C:Addr):Prop where
 ga:findIn K (.ref C) "__getattribute__"=some (some (.builtin "BaseException.__getattribute__"))
 gh:findIn K (.ref C) "__getattr__"=some none
 ca:findIn K (.ref C) "__class__"=some (some (.builtin "object.__class__"))
 mB:mroIn K C (.type "BaseException")=some true
 mO:mroIn K C (.type "object")=some true
section
variable {prog:Program} {w:World} {A:Around} {E:Value -> Shared -> Prop} {h:Heap} {g:Array GenState} {d:Drawn} {t:Nat} {os:OsState} {a C:Addr} {o:Obj} {K:PySem.W.Frag}
def ze6 {M:Model} {n:Str} {r:Option Value} {Q:Option Value -> Shared -> Prop} (X:K.In h) (e:findIn K (.ref C) n=some r) (hq:Q r ⟨h,g,d,t,os⟩):wpAny M A (typeLookup (.ref C) n) Q E ⟨h,g,d,t,os⟩:=
 looks_findIn X e A Q E _ (λ _ _ q=>q) hq
def zmy {M:Model} {b:Value} {r:Bool} {Q:Bool -> Shared -> Prop} (X:K.In h) (e:mroIn K C b=some r) (hq:Q r ⟨h,g,d,t,os⟩):wpAny M A (isSubtype (.ref C) b) Q E ⟨h,g,d,t,os⟩:=
 looks_mroIn X e A Q E _ (λ _ _ q=>q) hq
def zgt {M:Model} {nameV:Value} {Q:Unit -> Shared -> Prop} (X:K.In h) (hC:XCls K C) (hx:h.get? a=some o) (hc:o.cls=.ref C) (hq:Q () ⟨h,g,d,t,os⟩) :
  wpAny M A (checkBuiltinCall "BaseException.__getattribute__" ⟨[.ref a,nameV],[]⟩) Q E ⟨h,g,d,t,os⟩:=by
 have hk:builtinKind "BaseException.__getattribute__"=some .slot:=by decide +kernel
 have hsplit:splitId "BaseException.__getattribute__"=some ("BaseException","__getattribute__"):=by decide +kernel
 have ha:=F.args_bexc_ga (.ref a) nameV;simp only [checkBuiltinCall,hk,hsplit];refine wpAny_bind ?_
 ·unfold isInstance
  repeat (first | (with_reducible refine wpAny_loadPart_at hx ?_; rw [hc]) | with_reducible refine zmy X hC.mB ?_ | wp_step)
  exact hq
end
noncomputable def XTy (K:PySem.W.Frag) (H:Hp) (x:V) (t:Value):Prop:=TyOf K H x t \/ ∃ a C,x=.ref a /\ t=.ref C /\ H a=some (.ext (isX C a)) /\ XCls K C
section
variable {X:Cx} {K:PySem.W.Frag}
end
noncomputable def zl3 (K:PySem.W.Frag) (C:Addr):Bool:=findIn K (.ref C) "__getattribute__" == some (some (.builtin "BaseException.__getattribute__")) && findIn K (.ref C) "__getattr__" == some none &&
 findIn K (.ref C) "__class__" == some (some (.builtin "object.__class__")) && mroIn K C (.type "BaseException") == some true && mroIn K C (.type "object") == some true
def zm5 {K:PySem.W.Frag} {C:Addr} (h:zl3 K C=true):XCls K C:=by
 simp only [zl3,yai,beq_iff_eq] at h;exact ⟨h.1.1.1.1,h.1.1.1.2,h.1.1.2,h.1.2,h.2⟩
noncomputable def exOk (K:PySem.W.Frag) (cL cU cH cT cB:Addr):Bool:=xcIn K cL cL && ([cU,cH,cT].all λ c=>xcIn K c cL && zl3 K c && ([cU,cH,cT,cB].all λ d=>PySem.W.kitOne K (.ref c) (.ref d) == some (c == d)) && PySem.W.kitOne K (.ref c) (.type "ValueError") == some true) &&
 ([cU,cH,cT,cB].all λ d=>PySem.W.kitOne K (.type "NoneType") (.ref d) == some false) && PySem.W.kitOne K (.type "NoneType") (.type "ValueError") == some false && excIn K cU bmV "ValueError.__new__" && excIn K cH bmV "ValueError.__new__" &&
 !(cU == cH) && !(cU == cT) && !(cU == cB) && !(cH == cT) && !(cH == cB) && !(cT == cB)
structure Exs (K:PySem.W.Frag) (mg:Str -> Option Value) (cL cU cH cT cB:Addr):Prop where
 mL:mg "LeadError"=some (.ref cL)
 mU:mg "Uneven"=some (.ref cU)
 mH:mg "Unhalved"=some (.ref cH)
 mT:mg "Lost"=some (.ref cT)
 mB:mg "BadRow"=some (.ref cB)
 ok:exOk K cL cU cH cT cB=true
namespace Exs
variable {K:PySem.W.Frag} {mg:Str -> Option Value} {cL cU cH cT cB:Addr} (x:Exs K mg cL cU cH cT cB)
include x
end Exs
def PS.nox {X:Cx} {st:Stmt} {t:TS} (h:PS X.nox st t):PS X st t:=λ pins s σ H D I hw=>
 wpAny_mono (h pins s σ H D (I.wish _) hw) (λ _ _ q=>q.unwish) λ _ _ z=>False.elim z
section
variable {P:Program} {w:World} {K:PySem.W.Frag} {mg:Str -> Option Value} {base:Heap} {N:List Str} {qual:Str} {scope:Scope} {f:Addr} {cd:Value} {A:Around} {outer:List Env} {s0:Shared} {H0:Hp} {E:XK}
  {x:Str} {p pos:Pos} {e:Expr} {es:List Expr} {t:TA} {ps:List Str} {k:Nat} {sp:Sp}
end
end L2
namespace L2
open PySem PySem.Spec PyProof.Rows Bm
end L2
namespace L2
open PySem PySem.Spec PyProof.Rows PySem.W
section
variable {prog:Program} {w:World} {A:Around} {R:Result -> Shared -> Prop} {I:Addr} {fp wr:List Addr} {G:Array GenState -> Array GenState -> Prop} {n:Nat} {P:Nat -> Value -> Prop} {St:Nat -> Shared -> Prop}
end
section
variable {prog:Program} {w:World} {A:Around} {E:Value -> Shared -> Prop} {s:Shared}
end
section
variable {prog:Program} {w:World} {A:Around} {E:Value -> Shared -> Prop} {s:Shared} {t:Addr}
end
section
variable {X:Cx}
end
end L2
namespace L2
open PySem PySem.Spec PyProof.Rows Bm
end L2
namespace L2
open PySem PySem.Spec PyProof.Rows PySem.W
noncomputable def Tame {α:Type}:Sem α -> Prop
 | .pure _=>True
 | .raise _=>True
 | .unsupported _=>True
 | .finish _=>True
 | .rule _ k=>Tame (k ())
 | .at _ k=>Tame (k ())
 | .load _ _ k=>∀ o,Tame (k o)
 | .update _ _ f k=>(∀ o:Obj,(f o).dict=o.dict /\ (o.isFreed=false -> (f o).isFreed=false)) /\ Tame (k ())
 | .alloc _ k=>∀ a,Tame (k a)
 | .loadIfAlive _ k=>∀ o,Tame (k o)
 | .point _ k=>Tame (k ())
 | .fresh k=>∀ n,Tame (k n)
 | .ask k=>∀ s,Tame (k s)
 | .choose _ _ k=>∀ n,Tame (k n)
 | .os _ _ k=>∀ r,Tame (k r)
 | .handled _ k=>∀ o,Tame (k o)
 | .stack k=>∀ l,Tame (k l)
 | .thread k=>∀ n,Tame (k n)
 | .newGen _ k=>∀ n,Tame (k n)
 | .genState _ k=>∀ s,Tame (k s)
 | .register _ _=>False
 | .call _ _ _ _ _=>False
 | .resume _ _ _ _=>False
 | .yield _ _ _ _=>False
 | .fork _ _=>False
 | .await _ _ _ _ _=>False
def Tame.bind' {α β:Type} {f:α -> Sem β} (hf:∀ a,Tame (f a)):∀ {t:Sem α},Tame t -> Tame (Sem.bind t f):=by
 intro t
 induction t with
 | pure a=>intro _; exact hf a
 | raise _=>intro _; trivial
 | unsupported _=>intro _; trivial
 | finish _=>intro _; trivial
 | rule _ k ih=>intro h; exact ih () h
 | «at» _ k ih=>intro h; exact ih () h
 | load _ _ k ih=>intro h o; exact ih o (h o)
 | update _ _ _ k ih=>intro h; exact ⟨h.1,ih () h.2⟩
 | alloc _ k ih=>intro h o; exact ih o (h o)
 | loadIfAlive _ k ih=>intro h o; exact ih o (h o)
 | point _ k ih=>intro h; exact ih () h
 | fresh k ih=>intro h o; exact ih o (h o)
 | ask k ih=>intro h o; exact ih o (h o)
 | choose _ _ k ih=>intro h o; exact ih o (h o)
 | os _ _ k ih=>intro h o; exact ih o (h o)
 | handled _ k ih=>intro h o; exact ih o (h o)
 | stack k ih=>intro h o; exact ih o (h o)
 | thread k ih=>intro h o; exact ih o (h o)
 | newGen _ k ih=>intro h o; exact ih o (h o)
 | genState _ k ih=>intro h o; exact ih o (h o)
 | register _ _=>intro h; exact h.elim
 | call _ _ _ _ _=>intro h; exact h.elim
 | resume _ _ _ _=>intro h; exact h.elim
 | yield _ _ _ _=>intro h; exact h.elim
 | fork _ _=>intro h; exact h.elim
 | await _ _ _ _ _=>intro h; exact h.elim
def Tame.bind {α β:Type} {t:Sem α} {f:α -> Sem β} (ht:Tame t) (hf:∀ a,Tame (f a)):Tame (t >>= f):=Tame.bind' hf ht
noncomputable def DK (e:Addr) (d:Option Addr) (h:Heap):Prop:=∃ o,h.get? e=some o /\ o.dict=d
def DK.push {e:Addr} {d:Option Addr} {h:Heap} (x:DK e d h) (o:Obj):DK e d (h.push o):=let ⟨q,e1,e2⟩:=x; ⟨q,yac o e1,e2⟩
def DK.update {e a:Addr} {d:Option Addr} {h:Heap} {f:Obj -> Obj} (x:DK e d h) (hf:∀ o:Obj,(f o).dict=o.dict /\ (o.isFreed=false -> (f o).isFreed=false)):DK e d (h.update a f):=by
 obtain ⟨q,e1,e2⟩:=x;by_cases z:a=e
 ·subst z;exact ⟨f q,ybd f e1 ((hf q).2 (Heap.get?_some_iff.mp e1).2),(hf q).1.trans e2⟩
 ·exact ⟨q,(ya9 h f z).trans e1,e2⟩
def Tame.wp {M:Model} {Γ:PySem.Ctx} {e:Addr} {d:Option Addr} {α:Type}:∀ (t:Sem α) (Q:α -> Pos -> Shared -> Prop) (E:Value -> Pos -> Shared -> Prop) (p:Pos) (s:Shared),Tame t -> Sem.wp M Γ t Q E p s -> DK e d s.heap ->
    Sem.wp M Γ t (λ a p s'=>Q a p s' /\ DK e d s'.heap) (λ x p s'=>E x p s' /\ DK e d s'.heap) p s:=by
  intro t
  induction t with
  | pure a=>intro Q E p s _ h k; exact ⟨h,k⟩
  | raise _=>intro Q E p s _ h k; exact ⟨h,k⟩
  | unsupported _=>intro Q E p s _ h k; exact h
  | finish _=>intro Q E p s _ h k; exact h
  | rule _ k ih=>intro Q E p s ht h kk; exact ih () Q E p s ht h kk
  | «at» q k ih=>intro Q E p s ht h kk; exact ih () Q E q s ht h kk
  | load a _ k ih=>intro Q E p s ht h kk; obtain ⟨o,ho,hh⟩:=h; exact ⟨o,ho,ih o Q E p s (ht o) hh kk⟩
  | update a _ f k ih=>intro Q E p s ht h kk; exact ⟨h.1,ih () Q E p _ ht.2 h.2 (kk.update ht.1)⟩
  | alloc o k ih=>intro Q E p s ht h kk; exact ih _ Q E p _ (ht _) h (kk.push o)
  | loadIfAlive _ k ih=>intro Q E p s ht h kk; exact ih _ Q E p s (ht _) h kk
  | point _ k ih=>intro Q E p s ht h kk; exact ih () Q E p s ht h kk
  | fresh k ih=>intro Q E p s ht h kk; exact ih _ Q E p _ (ht _) h kk
  | ask k ih=>intro Q E p s ht h kk; exact ih _ Q E p s (ht _) h kk
  | choose _ _ k ih=>intro Q E p s ht h kk; exact ⟨h.1,ih _ Q E p _ (ht _) h.2 kk⟩
  | os _ _ k ih=>intro Q E p s ht h kk; exact ih _ Q E p _ (ht _) h kk
  | handled _ k ih=>intro Q E p s ht h kk; exact ih _ Q E p s (ht _) h kk
  | stack k ih=>intro Q E p s ht h kk; exact ih _ Q E p s (ht _) h kk
  | thread k ih=>intro Q E p s ht h kk; exact ih _ Q E p s (ht _) h kk
  | newGen _ k ih=>intro Q E p s ht h kk; exact ih _ Q E p _ (ht _) h kk
  | genState _ k ih=>intro Q E p s ht h kk; obtain ⟨o,ho,hh⟩:=h; exact ⟨o,ho,ih _ Q E p s (ht _) hh kk⟩
  | register _ _=>intro Q E p s ht; exact ht.elim
  | call _ _ _ _ _=>intro Q E p s ht; exact ht.elim
  | resume _ _ _ _=>intro Q E p s ht; exact ht.elim
  | yield _ _ _ _=>intro Q E p s ht; exact ht.elim
  | fork _ _=>intro Q E p s ht; exact ht.elim
  | await _ _ _ _ _=>intro Q E p s ht; exact ht.elim
def Tame.any {M:Model} {A:Around} {e:Addr} {d:Option Addr} {α:Type} {t:Sem α} {Q:α -> Shared -> Prop} {E:Value -> Shared -> Prop} {s:Shared} (ht:Tame t) (h:wpAny M A t Q E s) (k:DK e d s.heap) :
  wpAny M A t (λ a s'=>Q a s' /\ DK e d s'.heap) (λ x s'=>E x s' /\ DK e d s'.heap) s:=λ Γ p hΓ=>Tame.wp t _ _ p s ht (h Γ p hΓ) k
def zge (v:Value):Tame (fieldsOf v):=by
 unfold fieldsOf
 split
 ·refine Tame.bind (fun o => trivial) fun o => ?_
  split <;> trivial
 ·trivial
def zcy (v:Value) (i:Nat):Tame (field v i):=by
 unfold field;refine Tame.bind (zge v) λ o=>?_
 split <;> trivial
def zlc (f:Array Value -> Array Value) (o:Obj):(Obj.mapFields f o).dict=o.dict /\ (o.isFreed=false -> (Obj.mapFields f o).isFreed=false):=by
 obtain ⟨c,dd,dt,sl⟩:=o;cases dt <;> exact ⟨rfl,λ h=>h⟩
def zb9 (v:Value) (i:Nat) (x:Value):Tame (setField v i x):=by
 unfold setField
 split
 ·unfold updateField;refine Tame.bind (fun o => trivial) fun o => ?_
  split
  ·split
   ·exact ⟨zlc _,trivial⟩
   ·trivial
  ·trivial
 ·trivial
def zbe (e:Value) (f:Option Addr):Tame (setFlight e f):=by
 unfold setFlight;refine Tame.bind (zcy e 1) λ o=>?_
 split
 ·exact zb9 _ _ _
 ·trivial
def zb3 {α:Type} {c:Prop} [Decidable c] {a b:Sem α} (ha:Tame a) (hb:Tame b):Tame (if c then a else b):=by split <;> assumption
def za0 {α:Type} (a:α):Tame (pure a:Sem α):=trivial
def zkW (env:Env) (b:Bool) (l:List Env):Tame (keptBack env b l):=by
 cases l with
 | nil=>exact zb3 trivial (Tame.bind (Tame.bind (t:=stack) (λ _=>trivial) λ _=>za0 _) λ x=>za0 _)
 | cons c l=>exact za0 _
def zhI (env:Env) (l:List Env):Tame (behindIsImport env l):=
 zb3 trivial (zb3 trivial (Tame.bind (zcy _ _) λ _=>za0 _))
def zfP:∀ l:List Env,Tame (readyFrames l)
 | []=>trivial
 | env :: l=>by
  unfold readyFrames;cases env.frame with
  | none=>trivial
  | some f=>
   refine Tame.bind (t:=load f) (λ o=>trivial) λ o=>?_;refine zb3 trivial ?_
   exact Tame.bind (zhI env l) λ _=>Tame.bind (zkW _ _ _) λ _=>Tame.bind (t:=update f _) ⟨λ o=>⟨rfl,λ h=>by
    obtain ⟨c,dd,dt,sl⟩:=o;cases dt <;> exact h⟩,trivial⟩ λ _=>zfP l
def zhm (env:Env):Tame (PySem.frameOf env):=by
 unfold PySem.frameOf;refine Tame.bind (Tame.bind (t:=stack) (λ _=>trivial) λ _=>za0 _) λ l=>?_;refine Tame.bind ?_ λ o=>?_
 ·cases l.dropWhile (fun x => x.frame != env.frame) with
  | nil=>trivial
  | cons c l=>exact Tame.bind (zfP _) λ _=>za0 _
 ·cases o <;> trivial
def zi7 (f:Addr) (b:Bool):Tame (entryPlaceOf f b):=by
 unfold entryPlaceOf;refine Tame.bind (t:=stack) (λ _=>trivial) λ _=>?_
 split <;> trivial
def ziU (a b c d e:Value) (p:List Value):Tame (EntryCells.newEntry a b c d e p):=by
 unfold EntryCells.newEntry newFields newObj;exact zb3 (Tame.bind (t:=unsupported _) trivial λ _=>Tame.bind (t:=alloc _) (λ _=>trivial) λ _=>za0 _) (Tame.bind (t:=alloc _) (λ _=>trivial) λ _=>za0 _)
def zeJ (e:Value) (env:Env):Tame (noteFrame e env):=by
 unfold noteFrame;cases env.frame with
 | none=>trivial
 | some f=>
  have rest:∀ hd:Value,Tame (do setField e 1 (<- EntryCells.newEntry hd (<- PySem.frameOf env) .none (rawInt f) .none (<- entryPlaceOf f (hd != .none)))):=λ hd=>
   Tame.bind (zhm env) λ _=>Tame.bind (zi7 _ _) λ _=>Tame.bind (ziU _ _ _ _ _ _) λ _=>zb9 _ _ _
  refine Tame.bind (zcy _ _) λ hd=>?_;refine zb3 ?_ (rest hd);refine Tame.bind (zcy _ _) λ x=>?_;exact zb3 (za0 _) (Tame.bind (zb9 _ _ _) λ _=>rest hd)
def zdP (env:Env) (e:Value):Tame (leaving env e):=Tame.bind (zeJ e env) λ _=>zbe e none
section
variable {prog:Program} {w:World} {A:Around} {E:Value -> Shared -> Prop} {h:Heap} {gs:Array GenState} {dr:Drawn} {tk:Nat} {os:OsState}
variable {nm q:Str} {C N:Addr} {bs bm bmB:List Value} {hdct:Bool} {sn:List Str} {sub:List Value} {ab:Bool} {col:Option Bool} {dd:Option Addr} {k0 k1 k2 k3 k5:Option Value} {B newId initId:String}
def zgh (F:ExcBaseFacts B newId initId bmB) (T:OwnTail h bmB bm) {mN:Str -> Option Value} {rest:List Value} {fI:Addr} {oI:Obj} {Q:Fin -> Shared -> Prop}
    (gC:h.get? C=some (excClassObj nm q C N bs bm hdct sn sub ab col dd k0 k1 k2 k3 k5 newId)) (gn:h.Ns N mN) (gi:mN "__init__"=some (.ref fI)) (gf:h.get? fI=some oI) (gc:oI.cls=.type "function")
    (hq:∀ h' e,Heap.MadeExcOf h h' e (.ref C) rest -> wpAny (model prog w) A (call (.ref fI) (.ref e :: rest)) (λ r s'=>r=.none /\ Q (.done (.ret (.ref e))) s') E ⟨h',gs,dr,tk,os⟩) (hr:rest.length <= sizeLine) :
    wpAny (model prog w) A (Builtin.«type.__call__» ⟨.ref C :: rest,[]⟩) Q E ⟨h,gs,dr,tk,os⟩:=by
  repeat (first | with_reducible refine wpAny_loadPart_at gC ?_ | with_reducible refine wpAny_madeBy_exc gC ?_ | wp_step)
  refine codeAny_call_builtin_code (yct _ F.quiet) (wpAny_check_new_subT F T gC ?_);refine codeAny_exc_new_subT F T gC ?_ hr;show wpAny _ _ _ _ _ _;have kp:∀ b o,h.get? b=some o -> ((h.push { cls:=.type "tuple",data:=.seq rest.toArray }).push { cls:=.ref C,data:=.fields #[.ref h.objs.size,.none,.none,.none,.bool false,.none] }).get? b=some o:=λ b o z=>yac _ (yac _ z);have gC1:=kp _ _ gC;have gn1:=gn.keeps kp;have T1:=T.keeps kp;have gf1:=kp _ _ gf;have ge:((h.push { cls:=.type "tuple",data:=.seq rest.toArray }).push { cls:=.ref C,data:=.fields #[.ref h.objs.size,.none,.none,.none,.bool false,.none] }).get? (h.objs.size + 1)=some { cls:=.ref C,data:=.fields #[.ref h.objs.size,.none,.none,.none,.bool false,.none] }:=by heap_get
  have gt:((h.push { cls:=.type "tuple",data:=.seq rest.toArray }).push { cls:=.ref C,data:=.fields #[.ref h.objs.size,.none,.none,.none,.bool false,.none] }).get? h.objs.size=some { cls:=.type "tuple",data:=.seq rest.toArray }:=yac _ (Heap.get?_push_at rfl rfl);have gg:(Value.ref C :: bm).contains (.ref C)=true:=by simp
  have made:Heap.MadeExcOf h ((h.push { cls:=.type "tuple",data:=.seq rest.toArray }).push { cls:=.ref C,data:=.fields #[.ref h.objs.size,.none,.none,.none,.bool false,.none] }) (h.objs.size + 1) (.ref C) rest:=⟨kp,ych (Nat.le_succ _),h.objs.size,ge,ych (yah _),gt⟩
  generalize ((h.push { cls:=.type "tuple",data:=.seq rest.toArray }).push { cls:=.ref C,data:=.fields #[.ref h.objs.size,.none,.none,.none,.bool false,.none] })=h1 at gC1 gn1 T1 gf1 ge gt made ⊢;unfold isInstance
  repeat (first | with_reducible refine wpAny_loadPart_at ge ?_ | (with_reducible refine wpAny_isSubtype_exc gC1 ?_; rw [gg]) | wp_step)
  show wpAny _ _ (typeLookup (.ref C) _) _ _ _;refine wpAny_typeLookup_tail gC1 gn1 T1 F.mroIs F.init.lookup ?_;rw [gi];refine wpAny_holding (wpAny_bind ?_);unfold bindSpecial;refine wpAny_bind (wpAny_typeOf (T:="function") ⟨_,gf1,gc⟩ ?_);rw [if_pos (3:)];refine wpAny_pure (wpAny_bind (wpAny_mono (hq _ _ made) (λ r s' z=>?_) λ _ _ z=>z));obtain ⟨rfl,z⟩:=z
  wp_walk
  exact z
def zkd (F:ExcBaseFacts B newId initId bmB) (T:OwnTail h bmB bm) {mN:Str -> Option Value} {rest:List Value} {fI:Addr} {oI:Obj} {Q:Value -> Shared -> Prop}
    (gC:h.get? C=some (excClassObj nm q C N bs bm hdct sn sub ab col dd k0 k1 k2 k3 k5 newId)) (gn:h.Ns N mN) (gi:mN "__init__"=some (.ref fI)) (gf:h.get? fI=some oI) (gc:oI.cls=.type "function")
    (hq:∀ h' e,Heap.MadeExcOf h h' e (.ref C) rest -> wpAny (model prog w) (A.under (.builtin "type.__call__" ⟨.ref C :: rest,[]⟩)) (call (.ref fI) (.ref e :: rest)) (λ r s'=>r=.none /\ Q (.ref e) s') E ⟨h',gs,dr,tk,os⟩) (hr:rest.length <= sizeLine) :
    wpAny (model prog w) A (call (.ref C) rest) Q E ⟨h,gs,dr,tk,os⟩:=by
  have i1:=tc_lookup;have i2:=tc_bind (.ref C);have i3:(⟨h,gs,dr,tk,os⟩:Shared).TypeIs (.ref C) "type":=⟨_,gC,rfl⟩
  refine wpAny_call (codeAny_of_tree ?_);show wpAny _ _ (callAny (.ref C) _) _ _ _
  repeat (any_goals (first | assumption | with_reducible refine wpAny_loadPart_at gC ?_ | wp_step))
  refine ⟨rfl,?_⟩;refine codeAny_call_builtin_at (yct _ (32:)) entry_typeCall (wpAny_check_type_call_sub gC (zgh F T gC gn gi gf gc (λ h' e z=>?_) hr));exact hq h' e z
def zk8 {M:Model} {env:Env} {s:Shared} {x:Sem Value} {Q:Flow -> Shared -> Prop} (hb:bm.contains (.type "BaseException")=true) (hh:A.handled=none)
  (hx : wpAny M A x (fun v s1 => ∃ (e : Addr) (a0 : Value) (dx : Option Addr) (sl : Array (Option Value)), v = .ref e /\ s1.heap.get? C = some (excClassObj nm q C N bs bm hdct sn sub ab col dd k0 k1 k2 k3 k5 newId) /\
   s1.heap.get? e=some { cls:=.ref C,dict:=dx,data:=.fields #[a0,.none,.none,.none,.bool false,.none],slots:=sl } /\ E (.ref e) s1) E s) :
  wpAny M A (raiseStmt env (some x) none) Q E s:=by
 have gB:(Value.ref C :: bm).contains (.type "BaseException")=true:=by rw [List.contains_cons,hb,Bool.or_true]
 unfold raiseStmt;refine wpAny_bind (wpAny_mono hx (λ v s1 z=>?_) λ _ _ z=>z);obtain ⟨e,a0,dx,sl,rfl,gC,ge,hE⟩:=z;obtain ⟨hp,gs,dr,tk,os⟩:=s1
 repeat (first | with_reducible refine wpAny_loadPart_at ge ?_ | with_reducible refine wpAny_loadPart_at gC ?_ | (with_reducible refine wpAny_isSubtype_exc gC ?_; rw [gB]) | wp_step)
 exact wpAny_raiseNew_none hh hE
end
section
variable {prog:Program} {w:World} {A:Around} {E:Value -> Shared -> Prop} {s:Shared} {env:Env}
variable {nm q:Str} {C N:Addr} {bs bm bmB:List Value} {hdct:Bool} {sn:List Str} {sub:List Value} {ab:Bool} {col:Option Bool} {dd:Option Addr} {k0 k1 k2 k3 k5:Option Value} {B newId initId:String}
def zjn (F:ExcBaseFacts B newId initId bmB) {mN:Str -> Option Value} {x:Str} {np cpos pos:Pos} {args:List Expr} {Q:Flow -> Shared -> Prop} {fI:Addr} {oI:Obj}
    (hb:bm.contains (.type "BaseException")=true) (hh:A.handled=none) (hp:(backTo cpos (starEach args env)).any (·.1)=false) (gi:mN "__init__"=some (.ref fI)) (gc:oI.cls=.type "function")
    (hx:wpAny (model prog w) A (eval (.Name x np) env) (λ f s1=>f=.ref C /\ wpAny (model prog w) A (evalArgs (.ref C) true (backTo cpos (starEach args env)) [])
      (λ a s2=>a.kw=[] /\ a.pos.length <= sizeLine /\ s2.heap.get? C=some (excClassObj nm q C N bs bm hdct sn sub ab col dd k0 k1 k2 k3 k5 newId) /\ s2.heap.Ns N mN /\ OwnTail s2.heap bmB bm /\ s2.heap.get? fI=some oI /\
        ∀ h' e,Heap.MadeExcOf s2.heap h' e (.ref C) a.pos -> wpAny (model prog w) (A.under (.builtin "type.__call__" ⟨.ref C :: a.pos,[]⟩)) (call (.ref fI) (.ref e :: a.pos)) (λ r s'=>r=.none /\
          ∃ (a0:Value) (dx:Option Addr) (sl:Array (Option Value)),s'.heap.get? C=some (excClassObj nm q C N bs bm hdct sn sub ab col dd k0 k1 k2 k3 k5 newId) /\ s'.heap.get? e=some { cls:=.ref C,dict:=dx,data:=.fields #[a0,.none,.none,.none,.bool false,.none],slots:=sl } /\ E (.ref e) s') E { s2 with heap:=h' }) E s1) E s) :
    wpAny (model prog w) A (exec (.Raise (some (.Call (.Name x np) args [] cpos)) none pos) env) Q E s:=by
  rw [arm_exec_Raise];refine wpAny_bind (wpAny_standAt (zk8 (C:=C) (nm:=nm) (q:=q) (N:=N) (bs:=bs) (bm:=bm) (hdct:=hdct) (sn:=sn) (sub:=sub) (ab:=ab) (col:=col) (dd:=dd) (k0:=k0) (k1:=k1) (k2:=k2) (k3:=k3) (k5:=k5) (newId:=newId) hb hh ?_));refine wpAny_bind (wpAny_mono (wpAny_Call_ofName (wpAny_mono hx (λ f s1 z=>?_) λ _ _ z=>z)) (λ v s3 z=>wpAny_bind (wpAny_standAt (wpAny_pure z))) λ _ _ z=>z);obtain ⟨rfl,z⟩:=z;unfold callWith;refine wpAny_bind (wpAny_holding (wpAny_mono z (λ a s2 y=>wpAny_bind (wpAny_standAt ?_)) λ _ _ z=>z));obtain ⟨apos,akw⟩:=a;obtain ⟨kw0,hlen,gC,gn,T,gf,y⟩:=y;obtain rfl:akw=[]:=kw0;obtain ⟨hpp,gs,dr,tk,os⟩:=s2;simp only [hp];refine wpAny_bind (wpAny_keeperOf_exc gC ?_);refine wpAny_bind (zkd F T gC gn gi gf gc (λ h' e me=>?_) hlen);refine wpAny_mono (y h' e me) (λ r s' z=>⟨z.1,wpAny_bind (wpAny_holding (wpAny_point (wpAny_pure ?_)))⟩) λ _ _ z=>z;obtain ⟨_,a0,dx,sl,c1,c2,c3⟩:=z;exact ⟨e,a0,dx,sl,rfl,c1,c2,c3⟩
end
section
variable {prog:Program} {w:World} {A:Around} {E:Value -> Shared -> Prop} {h:Heap} {g:Array GenState} {d:Drawn} {t:Nat} {os:OsState} {a C dx:Addr} {K:PySem.W.Frag} {name:Str} {m:Str -> Option Value} {v:Value} {vs:Array Value} {sl:Array (Option Value)} {cd:ClassData}
def zlo {M:Model} {Q:ClassData -> Shared -> Prop} (X:K.In h) (e:clsIn K C=some cd) (hq:Q cd ⟨h,g,d,t,os⟩):wpAny M A (classData C) Q E ⟨h,g,d,t,os⟩:=
 looks_clsIn X e A Q E _ (λ _ _ q=>q) hq
def zmg {M:Model} {Q:Option Addr -> Shared -> Prop} (X:K.In h) (e:clsIn K C=some cd) (hh:cd.hasDict=true) (hx:h.get? a=some { cls:=.ref C,dict:=some dx,data:=.fields vs,slots:=sl }) (hq:Q (some dx) ⟨h,g,d,t,os⟩):wpAny M A (instanceDict a false) Q E ⟨h,g,d,t,os⟩:=by
 unfold instanceDict;refine wpAny_bind (wpAny_loadPart_at hx ?_);refine wpAny_bind (zlo X e ?_);rw [hh];exact wpAny_pure hq
def zoF {M:Model} {Q:Option Value -> Shared -> Prop} (hn:h.Ns dx m) (hm:m name=some v) (hq:Q (some v) ⟨h,g,d,t,os⟩):wpAny M A (Builtin.ObjectAttr.inDict name (some dx)) Q E ⟨h,g,d,t,os⟩:=by
 unfold Builtin.ObjectAttr.inDict;exact wpAny_nsGet hn (by rw [hm]; exact hq)
def zkN {tk:Tok} {Q:Fin -> Shared -> Prop} (X:K.In h) (hf:findIn K (.ref C) name=some none) (e:clsIn K C=some cd) (hh:cd.hasDict=true) (hx:h.get? a=some { cls:=.ref C,dict:=some dx,data:=.fields vs,slots:=sl }) (hn:h.Ns dx m) (hm:m name=some v) (hq:Q (.done (.ret v)) ⟨h,g,d,t,os⟩) :
  wpAny (model prog w) A (Builtin.«object.__getattribute__» ⟨[.ref a,.str name tk],[]⟩) Q E ⟨h,g,d,t,os⟩:=by
 repeat (any_goals (first | assumption | with_reducible refine wpAny_loadPart_at hx ?_ | with_reducible refine ze6 X hf ?_ | with_reducible refine zmg X e hh hx ?_ | with_reducible refine zoF hn hm ?_ | wp_step))
def zoP {tk:Tok} {fill expr:Bool} {Q:Value -> Shared -> Prop} (X:K.In h) (hC:XCls K C) (hf:findIn K (.ref C) name=some none) (e:clsIn K C=some cd) (hh:cd.hasDict=true) (hx:h.get? a=some { cls:=.ref C,dict:=some dx,data:=.fields vs,slots:=sl }) (hn:h.Ns dx m) (hm:m name=some v) (hv:∃ i tv,v=.int i tv) (hq:Q v ⟨h,g,d,t,os⟩) :
  wpAny (model prog w) A (getAttrBy (.ref a) (.str name tk) fill expr) Q E ⟨h,g,d,t,os⟩:=by
 have i3:=PySem.F.attr_ValueError.ga.bind (.ref a);have i0:(expr && onTheHeap (Value.builtin "BaseException.__getattribute__"))=false:=by cases expr <;> rfl
 have i2:(Value.builtin "BaseException.__getattribute__" == Value.builtin "object.__getattribute__")=false:=by decide +kernel
 have i1:(onTheHeap (Value.ref C) && Value.builtin "BaseException.__getattribute__" == Value.builtin "object.__getattribute__")=false:=by rw [i2]; rfl
 repeat (any_goals (first | assumption | with_reducible refine wpAny_loadPart_at hx ?_ | with_reducible refine ze6 X hC.ga ?_ | with_reducible refine ze6 X hC.gh ?_ | wp_step))
 refine codeAny_call_builtin PySem.F.attr_ValueError.ga.plain F.entry_bexc_ga (zgt X hC hx rfl (zkN X hf e hh hx hn hm ?_))
 repeat (any_goals (first | assumption | wp_step))
 obtain ⟨i,tv,rfl⟩:=hv;exact wpAny_pure hq
def znk {expr:Bool} {Q:Value -> Shared -> Prop} (X:K.In h) (hC:XCls K C) (hf:findIn K (.ref C) name=some none) (e:clsIn K C=some cd) (hh:cd.hasDict=true) (hx:h.get? a=some { cls:=.ref C,dict:=some dx,data:=.fields vs,slots:=sl }) (hn:h.Ns dx m) (hm:m name=some v) (hv:∃ i tv,v=.int i tv) (hq:Q v ⟨h,g,d,t + 1,os⟩) :
  wpAny (model prog w) A (getAttr (.ref a) name expr) Q E ⟨h,g,d,t,os⟩:=by
 unfold getAttr
 repeat (any_goals (first | assumption | with_reducible apply zoP X hC hf e hh hx hn hm hv | wp_step))
noncomputable def zhH (h h':Heap) (a C:Addr) (vs:Array Value) (sl:Array (Option Value)) (name:Str) (v:Value):Prop:=
 h'.get? a=some { cls:=.ref C,dict:=some h.objs.size,data:=.fields vs,slots:=sl } /\ h'.Ns1 h.objs.size (λ y=>if y=name then some v else none) /\ ∀ b o,b ≠ a -> h.get? b=some o -> h'.get? b=some o
noncomputable def zd9 (h:Heap) (a:Addr):Heap:=(h.push { cls:=.type "dict",data:=.dict #[] }).update a λ o=>{ o with dict:=some h.objs.size }
def zm0 {M:Model} {Q:Option Addr -> Shared -> Prop} (X:K.In h) (e:clsIn K C=some cd) (hh:cd.hasDict=true) (hx:h.get? a=some { cls:=.ref C,dict:=none,data:=.fields vs,slots:=sl }) (hq:Q (some h.objs.size) ⟨zd9 h a,g,d,t,os⟩):wpAny M A (instanceDict a true) Q E ⟨h,g,d,t,os⟩:=by
 unfold instanceDict;refine wpAny_bind (wpAny_loadPart_at hx ?_);refine wpAny_bind (zlo X e ?_);rw [hh];refine wpAny_bind (wpAny_alloc' ?_);refine wpAny_bind (wpAny_update' (yac _ hx) ?_);exact wpAny_pure hq
def zhN (hx:h.get? a=some { cls:=.ref C,dict:=none,data:=.fields vs,slots:=sl }):(zd9 h a).get? a=some { cls:=.ref C,dict:=some h.objs.size,data:=.fields vs,slots:=sl }:=ybd _ (yac _ hx) rfl
def zhU {b:Addr} {o:Obj} (hb:b ≠ a) (z:h.get? b=some o):(zd9 h a).get? b=some o:=(Heap.get?_update_ne _ _ _ _ hb).trans (yac _ z)
def zhC {o:Obj} (hx:h.get? a=some o):(zd9 h a).Ns h.objs.size (λ _=>none):=⟨_,#[],_,(Heap.get?_update_ne _ _ _ _ (yap (yae hx)).symm).trans (Heap.get?_push_at rfl rfl),rfl,λ z hz=>absurd hz (5:),λ _=>rfl⟩
def znw {M:Model} {tk:Tok} {Q:Fin -> Shared -> Prop} (hn:h.Ns1 dx (λ _=>none)) (hq:∀ h' tk',h'.Ns1 dx (λ y=>if y=name then some v else none) -> (∀ b,b ≠ dx -> h'.get? b=h.get? b) -> Q (.done (.ret .none)) ⟨h',g,d,tk',os⟩) :
  wpAny M A (Builtin.ObjectAttr.storeInDict dx (.str name tk) name v) Q E ⟨h,g,d,t,os⟩:=by
 unfold Builtin.ObjectAttr.storeInDict Builtin.ObjectAttr.newKeyGuard;refine wpAny_bind (wpAny_pure (wpAny_bind (wpAny_nsSet1 hn λ h' hn' hs=>?_)));obtain ⟨oD,esD,epD,hoD,hdD,hcD⟩:=hn'.count (Within.cons name v Within.nil);refine wpAny_bind (wpAny_lookBehind hoD (by rw [hdD]; exact pastItsLine_dict (yaV hcD (by rw [ybC,List.length_nil,sizeLine_eq]; omega))) ?_)
 wp_walk
 exact hq h' _ hn' hs.2
def znN {tk:Tok} {b:Bool} {Q:Fin -> Shared -> Prop} (X:K.In h) (e:clsIn K C=some cd) (hh:cd.hasDict=true) (hx:h.get? a=some { cls:=.ref C,dict:=none,data:=.fields vs,slots:=sl })
  (hq:∀ h' tk',zhH h h' a C vs sl name v -> Q (.done (.ret .none)) ⟨h',g,d,tk',os⟩):wpAny (model prog w) A (Builtin.ObjectAttr.storeInOwnDict (.ref a) (.ref C) (.str name tk) name v b) Q E ⟨h,g,d,t,os⟩:=by
 unfold Builtin.ObjectAttr.storeInOwnDict;refine wpAny_bind (wpAny_pure ?_);refine wpAny_bind (zm0 X e hh hx ?_);refine znw (Heap.Ns1.of_empty (zhC hx)) λ h' tk' hn' hs=>hq h' tk' ⟨(hs a (yap (yae hx))).trans (zhN hx),hn',λ b o hb z=>(hs b (yap (yae z))).trans (zhU hb z)⟩
def zlh {D:Addr} {tk:Tok} {Q:Fin -> Shared -> Prop} (X:K.In h) (hf:findIn K (.ref C) name=some none) (e:clsIn K C=some cd) (hh:cd.hasDict=true) (hm:cd.mro=.ref C :: .ref D :: bmV) (hx:h.get? a=some { cls:=.ref C,dict:=none,data:=.fields vs,slots:=sl })
  (hq:∀ h' tk',zhH h h' a C vs sl name v -> Q (.done (.ret .none)) ⟨h',g,d,tk',os⟩):wpAny (model prog w) A (Builtin.«object.__setattr__» ⟨[.ref a,.str name tk,v],[]⟩) Q E ⟨h,g,d,t,os⟩:=by
 have ps:=ybU.passes (.ref a);unfold Builtin.«object.__setattr__»
 repeat (first | rw [refuse_eq] | (rw [hm,refuseLoop_ref,refuseLoop_ref,ps]) | with_reducible refine wpAny_loadPart_at hx ?_ | with_reducible refine zlo X e ?_ | with_reducible refine ze6 X hf ?_ | with_reducible refine znN X e hh hx ?_ | wp_step)
 exact hq
def zgy {M:Model} {o:Obj} {nameV:Value} {Q:Unit -> Shared -> Prop} (X:K.In h) (hC:XCls K C) (hx:h.get? a=some o) (hc:o.cls=.ref C) (hq:Q () ⟨h,g,d,t,os⟩) :
  wpAny M A (checkBuiltinCall "object.__setattr__" ⟨[.ref a,nameV,v],[]⟩) Q E ⟨h,g,d,t,os⟩:=by
 have SF:=ybU;have ha:=SF.args (.ref a) nameV v;simp only [checkBuiltinCall,SF.kind,SF.split];refine wpAny_bind ?_;unfold isInstance
 repeat (first | (with_reducible refine wpAny_loadPart_at hx ?_; rw [hc]) | with_reducible refine zmy X hC.mO ?_ | wp_step)
 exact hq
def zng {D:Addr} {Q:Unit -> Shared -> Prop} (X:K.In h) (hC:XCls K C) (hs:findIn K (.ref C) "__setattr__"=some (some (.builtin "object.__setattr__"))) (hf:findIn K (.ref C) name=some none) (e:clsIn K C=some cd) (hh:cd.hasDict=true) (hm:cd.mro=.ref C :: .ref D :: bmV)
  (hx:h.get? a=some { cls:=.ref C,dict:=none,data:=.fields vs,slots:=sl }) (hq:∀ h' tk',zhH h h' a C vs sl name v -> Q () ⟨h',g,d,tk',os⟩):wpAny (model prog w) A (setAttr (.ref a) name v) Q E ⟨h,g,d,t,os⟩:=by
 have SF:=ybU;have i3:=SF.slot.bind (.ref a);unfold setAttr callSpecial? specialOf
 repeat (any_goals (first | assumption | with_reducible refine wpAny_loadPart_at hx ?_ | with_reducible refine ze6 X hs ?_ | wp_step))
 refine codeAny_call_builtin SF.slot.plain SF.entry (zgy X hC hx rfl (zlh X hf e hh hm hx λ h' tk' z=>?_))
 repeat (any_goals (first | assumption | wp_step))
 exact hq h' tk' z
end
section
variable {prog:Program} {w:World} {A:Around} {E:Value -> Shared -> Prop} {h:Heap} {g:Array GenState} {d:Drawn} {t:Nat} {os:OsState} {a t0:Addr} {x:Value}
variable {nm q:Str} {C N:Addr} {bs bm bmB:List Value} {hdct:Bool} {sn:List Str} {sub:List Value} {ab:Bool} {col:Option Bool} {dd:Option Addr} {k0 k1 k2 k3 k5:Option Value} {B newId initId:String}
def zjH {Q:Value -> Shared -> Prop} (F:ExcBaseFacts B newId initId bmB) (T:OwnTail h bmB bm) (gC:h.get? C=some (excClassObj nm q C N bs bm hdct sn sub ab col dd k0 k1 k2 k3 k5 newId))
  (ge:h.get? a=some { cls:=.ref C,data:=.fields #[.ref t0,.none,.none,.none,.bool false,.none] })
  (hq:∀ h' t1,(∀ b o,b ≠ a -> h.get? b=some o -> h'.get? b=some o) -> h'.get? a=some { cls:=.ref C,data:=.fields #[.ref t1,.none,.none,.none,.bool false,.none] } -> Q .none ⟨h',g,d,t,os⟩) :
  wpAny (model prog w) A (call (.builtin initId) [.ref a,x]) Q E ⟨h,g,d,t,os⟩:=by
 refine wpAny_call (codeAny_call_builtin F.init.plain F.initEntry (wpAny_check_init_subT F T gC ge rfl ?_))
 wp_walk
 have na:a ≠ h.objs.size:=yap (yae ge);refine hq _ h.objs.size (λ b o hb z=>?_) ?_
 ·rw [ya9 _ _ (ybj hb)];exact yac _ z
 ·rw [ybd _ (yac _ ge) rfl];rfl
end
noncomputable def isE (C a:Addr):Heap -> Prop:=λ h=>∃ t0:Addr,h.get? a=some { cls:=.ref C,data:=.fields #[.ref t0,.none,.none,.none,.bool false,.none] }
noncomputable def isP (C a dx:Addr):Heap -> Prop:=λ h=>∃ (vs:Array Value) (sl:Array (Option Value)),h.get? a=some { cls:=.ref C,dict:=some dx,data:=.fields vs,slots:=sl }
noncomputable def isD (dx:Addr) (n:Str) (i:Int):Heap -> Prop:=λ h=>∃ (m:Str -> Option Value) (t:Tok),h.Ns dx m /\ m n=some (.int i t)
def isE.stable {C a:Addr}:∀ h1 h2:Heap,isE C a h1 -> (∀ o,h1.get? a=some o -> h2.get? a=some o) -> isE C a h2:=λ _ _ ⟨t0,e⟩ k=>⟨t0,k _ e⟩
def isD.stable {dx:Addr} {n:Str} {i:Int}:∀ h1 h2:Heap,isD dx n i h1 -> (∀ o,h1.get? dx=some o -> h2.get? dx=some o) -> isD dx n i h2:=λ _ _ ⟨m,t,⟨o,es,ep,e,r⟩,q⟩ k=>⟨m,t,⟨o,es,ep,k _ e,r⟩,q⟩
section
variable {X:Cx} {pins:List (Addr × Obj)} {σ:St} {H:Hp} {s:Shared} {h':Heap} {a:Addr} {φ φ':Heap -> Prop}
def zmV {P:Program} {w:World} {h:Heap} (ok:HOk P w H h) (hH:H a=some (.ext φ)) (k:∀ b u,b ≠ a -> h.get? b=some u -> h'.get? b=some u) (hp:φ' h') (ho:∃ ob,h'.get? a=some ob) (st:∀ h1 h2:Heap,φ' h1 -> (∀ o,h1.get? a=some o -> h2.get? a=some o) -> φ' h2):HOk P w (upd H a (.ext φ')) h':=λ b u e=>by
 by_cases hb:b=a
 ·subst hb;rw [zai] at e;cases e;exact ⟨hp,ho,st⟩
 ·rw [zal hb] at e;refine (ok b u e).stay (fun c v hc q => k c v ?_ q) (fun c q => ?_) fun c xs q => ?_
  ·rcases hc with rfl | hc
   ·exact hb
   ·intro z; rw [z,hH] at hc; cases hc
  ·rw [zal (λ z=>by rw [z,hH] at q; cases q)]; exact q
  ·rw [zal (λ z=>by rw [z,hH] at q; cases q)]; exact q
def Inv.extU {t':Nat} (I:Inv X pins σ H s) (hH:H a=some (.ext φ)) (k:∀ b u,b ≠ a -> s.heap.get? b=some u -> h'.get? b=some u) (hp:φ' h') (ho:∃ ob,h'.get? a=some ob) (st:∀ h1 h2:Heap,φ' h1 -> (∀ o,h1.get? a=some o -> h2.get? a=some o) -> φ' h2) :
  Inv X pins σ (upd H a (.ext φ')) { s with heap:=h',toks:=t' }:=by
 have ne:∀ b,H b=none -> b ≠ a:=λ b e z=>by rw [z,hH] at e; cases e
 refine I.un ⟨λ b o e n _ _=>k b o (ne b n) e,λ b o e n _ _=>⟨o.slots,k b o (ne b n) e⟩,λ b o _ n _=>by rw [zal (ne b n)]; exact n,λ b o e _=>?_,λ b xs e=>?_,λ b o u e=>?_,λ b ps e=>⟨#[],?_⟩⟩ (zmV I.hok hH k hp ho st)
 ·by_cases hb : b = a
  ·rw [hb]; exact ho
  ·exact ⟨o,k b o hb e⟩
 ·rw [zal (λ z=>by rw [z,hH] at e; cases e)]; exact e
 ·rw [zal (λ z=>by rw [z,hH] at e; cases e)]; exact e
 ·rw [zal (λ z=>by rw [z,hH] at e; cases e),Array.append_empty]; exact e
end
def zjb {K:Frag} {h:Heap} {N:Addr} {mg:Str -> Option Value} {n:Str} {v:Value} (X:K.In h) (G:h.Ns N mg) (e:nsIn K N n=some (some v)):mg n=some v:=by
 obtain ⟨o,es,ep,ho,hd,_,hf⟩:=G;unfold nsIn at e
 split at e
 ·rename_i c d es' n' sl q;have := X _ _ q;rw [ho] at this;cases this;cases hd
  split at e
  ·rename_i en he;cases e;rw [<- hf];unfold nsFind findBy;rw [<- Array.find?_toList,he];rfl
  ·split at e <;> cases e
 ·cases e
noncomputable def excInI (K:Frag) (C fI:Addr) (bmB:List Value) (newId:String):Bool:=match K.lookup C with
 | some ⟨.type "type",_,.cls cd,sl⟩=>(match cd.mro,sl.toList with
  | .ref C' :: bm,[_,_,_,_,some (.builtin n),_]=>C' == C && n == newId && !cd.hasDel && tailIn K bmB bm && nsOkIn K cd.ns && nsIn K cd.ns "__init__" == some (some (.ref fI))
  | _,_=>false)
 | _=>false
def zfH {K:Frag} {h:Heap} {C fI:Addr} {bmB:List Value} {newId:String} (X:K.In h) (q:excInI K C fI bmB newId=true) :
  ∃ bm N nm q bs hdct sn sub ab col dd k0 k1 k2 k3 k5 mN,h.get? C=some (excClassObj nm q C N bs bm hdct sn sub ab col dd k0 k1 k2 k3 k5 newId) /\ h.Ns N mN /\ mN "__init__"=some (.ref fI) /\ OwnTail h bmB bm:=by
 unfold excInI at q
 split at q
 ·rename_i dd cd sl ho
  split at q
  ·rename_i C' bm k0 k1 k2 k3 n k5 hm hs;simp only [yai, beq_iff_eq, yby] at q;obtain ⟨⟨⟨⟨⟨rfl, rfl⟩, hdel⟩, ht⟩, hok⟩, hni⟩ := q;obtain ⟨nm, bs, mro, ns, qn, hd, sn, sub, ab, col, del⟩ := cd;dsimp only at hm hdel hok hni;subst hm hdel
   have hsl:sl=#[k0,k1,k2,k3,some (.builtin n),k5]:=by
    obtain ⟨l⟩:=sl;simp only at hs;rw [hs]
   subst hsl;exact ⟨bm,ns,nm,qn,bs,hd,sn,sub,ab,col,dd,k0,k1,k2,k3,k5,_,X _ _ ho,.of_isNs (isNs_of_in X hok),zjb X (.of_isNs (isNs_of_in X hok)) hni,tail_of_in X ht⟩
  ·cases q
 ·cases q
noncomputable def isN (C a dx:Addr):Heap -> Prop:=λ h=>∃ t0:Addr,h.get? a=some { cls:=.ref C,dict:=some dx,data:=.fields #[.ref t0,.none,.none,.none,.bool false,.none] }
def isN.stable {C a dx:Addr}:∀ h1 h2:Heap,isN C a dx h1 -> (∀ o,h1.get? a=some o -> h2.get? a=some o) -> isN C a dx h2:=λ _ _ ⟨t0,e⟩ k=>⟨t0,k _ e⟩
structure FCls (K:Frag) (C D:Addr) (f:Str):Prop where
 xc:XCls K C
 sa:findIn K (.ref C) "__setattr__"=some (some (.builtin "object.__setattr__"))
 nf:findIn K (.ref C) f=some none
 cd:∃ cd,clsIn K C=some cd /\ cd.hasDict=true /\ cd.mro=.ref C :: .ref D :: bmV
noncomputable def fclsB (K:Frag) (C D:Addr) (f:Str):Bool:=zl3 K C && findIn K (.ref C) "__setattr__" == some (some (.builtin "object.__setattr__")) && findIn K (.ref C) f == some none &&
 match clsIn K C with | some cd=>cd.hasDict && cd.mro == .ref C :: .ref D :: bmV | none=>false
def fcls_of {K:Frag} {C D:Addr} {f:Str} (h:fclsB K C D f=true):FCls K C D f:=by
 simp only [fclsB,yai,beq_iff_eq] at h;refine ⟨zm5 h.1.1.1,h.1.1.2,h.1.2,?_⟩;have h2:=h.2
 split at h2
 ·rename_i cd e;simp only [yai,beq_iff_eq] at h2;exact ⟨cd,e,h2.1,h2.2⟩
 ·cases h2
noncomputable def baseB (K:Frag) (D:Addr):Bool:=readsIn K D (.type "type") && findCls K (.ref D) (.type "type") "__init__" matches some (.val (.builtin "ValueError.__init__")) && specialIn K (.ref D) "__getattribute__" == some (some (.builtin "type.__getattribute__"))
noncomputable def zok (K:Frag) (D:Addr) (ta:TE) (f:Str):TE:=λ σ H Q=>ta σ H λ x H1=>∃ a C dx i,x=.ref a /\ H1 a=some (.ext (isP C a dx)) /\ H1 dx=some (.ext (isD dx f i)) /\ FCls K C D f /\ Q (.int i) H1
noncomputable def zpO (K:Frag) (Dc:Addr) (ta tv:TE) (f:Str):TS:=λ D σ H=>tv σ H λ y H1=>ta σ H1 λ x H2=>∃ a C i,y=.int i /\ x=.ref a /\ H2 a=some (.ext (isE C a)) /\ FCls K C Dc f /\
 ∀ dx,H2 dx=none -> dx ≠ a -> D.nx σ (upd (upd H2 dx (.ext (isD dx f i))) a (.ext (isN C a dx)))
noncomputable def zpX (ta:TE):TE:=λ σ H Q=>ta σ H λ v H1=>∃ i,v=.int i /\ i.natAbs.log2 < 1920 /\ ∀ x,Q (.str x) H1
noncomputable def zp7 (K:Frag) (t:TA):TE:=λ σ H Q=>t σ H λ vs H1=>∃ a C fI x,vs=[.ref a,x] /\ H1 a=some (.ext (isE C a)) /\ excInI K C fI bmV "ValueError.__new__"=true /\ Q .non H1
def zn6 {H:Hp} {a:Addr} {o:HO} (h:H a=some o):upd H a o=H:=by
 funext b
 by_cases z:b=a
 ·rw [z,zai,h]
 ·rw [zal z]
section
variable {X:Cx} {o e value:Expr} {f:Str} {pos pos' apos p1 p3:Pos} {ta tv:TE} {D:Addr}
def znC (he:PE X e ta) (hb:attributeBase e f X.env (eval e X.env)=eval e X.env):PE X (.Attribute e f pos) (zok X.K D ta f):=by
 intro pins s σ H Q I h;refine zno hb (thn (he pins s σ H _ I h) λ u s1 ⟨x,H1,I1,rx,a,C,dx,i,ex,ea,ed,c,q⟩=>?_);subst ex;obtain rfl:u=Value.ref a:=rx;obtain ⟨⟨vs,sl,ha⟩,_⟩:=(show zbh X.prog X.w H1 s1.heap a (.ext (isP C a dx)) from I1.hok a _ ea)
 obtain ⟨⟨m,t,hn,hm⟩,_⟩:=(show zbh X.prog X.w H1 s1.heap dx (.ext (isD dx f i)) from I1.hok dx _ ed)
 obtain ⟨cd,e1,e2,e3⟩:=c.cd;obtain ⟨hp,g,d,tk,os⟩:=s1;exact znk I1.kIn c.xc c.nf e1 e2 ha hn hm ⟨i,t,rfl⟩ ⟨.int i,H1,I1.tok _,⟨t,rfl⟩,q⟩
def znc (ha:PE X o ta) (hv:PE X value tv) (hs:swapsWith value (some (.Attribute o f pos')) pos.line X.env=pure false:=by rfl):PS X (.Assign [.Attribute o f pos'] value pos) (zpO X.K D ta tv f):=by
 intro pins s σ H E I h;refine plainObj_wpAny_Assign_Attribute (thn (hv pins s σ H _ I h) λ u s1 ⟨y,H1,I1,ry,q⟩=>thn (ha pins s1 σ H1 _ I1 q) λ ov s2 ⟨x,H2,I2,rx,a,C,i,ey,ex,ea,c,q2⟩=>?_) hs;subst ex ey;obtain rfl:ov=Value.ref a:=rx;obtain ⟨tv,rfl⟩:=ry;obtain ⟨⟨t0,ho⟩,_⟩:=(show zbh X.prog X.w H2 s2.heap a (.ext (isE C a)) from I2.hok a _ ea)
 obtain ⟨cd,e1,e2,e3⟩:=c.cd;obtain ⟨hp,g,d,tk,os⟩:=s2;refine zng I2.kIn c.xc c.sa c.nf e1 e2 e3 ho λ h' tk' ⟨z1,z2,z3⟩=>?_;have na:hp.objs.size ≠ a:=(yap (yae ho)).symm;have hnone:H2 hp.objs.size=none:=I2.hok.fresh (yah _);obtain ⟨od,es,ep,q1,q3,q4,q5,q6⟩:=id z2
 have g1:(hp.push od).get? hp.objs.size=some od:=by
  have z:=Heap.get?_some_iff.mp q1;exact Heap.get?_push_at rfl z.2
 have J1:Inv X pins σ (upd H2 hp.objs.size (.ext (isD hp.objs.size f i))) ⟨hp.push od,g,d,tk',os⟩:=I2.laid (t':=tk') (λ b u q=>yac _ q) (yah _)
  ⟨⟨_,tv,⟨od,es,ep,g1,q3,q4,q6⟩,by simp⟩,⟨od,g1⟩,isD.stable⟩
 refine ⟨σ,_,J1.extU (a:=a) (h':=h') (t':=tk') (φ':=isN C a hp.objs.size) (by rw [zal na.symm]; exact ea) (λ b u hb z=>?_) ⟨_,z1⟩ ⟨_,z1⟩ isN.stable,q2 _ hnone na⟩;by_cases hz:b=hp.objs.size
 ·subst hz;rw [show (hp.push od).get? hp.objs.size=some od from g1] at z;cases z;exact q1
 ·refine z3 b u hb ?_;exact (Heap.get?_push_ne hp b od hz).symm.trans z
def zmX {x y:Str} {j k:Nat} {p2:Pos} (he:PE X e ta) (hx:x.length <= 1000:=by decide) (hy:y.length <= 1000:=by decide):PE X (.JoinedStr [.Constant (.str x) j p1,.FormattedValue e (-1) none p2,.Constant (.str y) k p3] pos) (zpX ta):=by
 intro pins s σ H Q I h;refine wpAny_JoinedStr ?_;refine Calls.Constant_str ⟨_,_,rfl,?_,?_⟩
 ·rw [strLen_append,sizeLine_eq];show 0 + x.length <= _;omega
 ·refine wpAny_FormattedValue_plain (thn (he pins _ σ H _ (I.tok _) h) fun u s1 ⟨v, H1, I1, rv, i, ev, hi, q⟩ => ?_);subst ev;obtain ⟨t, rfl⟩ := rv;have e := int_text_length_le (k := 1920) (3:) hi;refine wpAny_formatField_int hi ⟨_, _, rfl, ?_, Calls.Constant_str ⟨_, _, rfl, ?_, ?_, ?_⟩⟩
  ·rw [strLen_append,strLen_append,sizeLine_eq,yce];show 0 + x.length + _ <= _;omega
  ·rw [strLen_append,strLen_append,strLen_append,sizeLine_eq,yce];show 0 + x.length + _ + _ <= _;omega
  ·rw [strLen_append,strLen_append,strLen_append,sizeLine_eq,yce];show 0 + x.length + _ + _ <= _;omega
  ·exact ⟨.str _,H1,((I1.tok _).tok _).tok _,⟨_,rfl⟩,q _⟩
def znu {cl:Str} {np:Pos} {e1 e2:Expr} {t:TA} {pl:Sem Bool} (hg:Gl X cl) (hm:X.mg cl=some (.ref D)) (hD:baseB X.K D=true) (ha:PA X [e1,e2] t) (hdb:(cl == ("__debug__":Str))=false:=by decide)
  (hst:starEach [e1,e2] X.env=(false,eval e1 X.env) :: starEach [e2] X.env:=by rfl) (hpl:(backTo pos (starEach [e2] X.env)).any (·.1)=false:=by rfl)
  (ht : eval (.Call (.Attribute (.Name cl np) "__init__" apos) [e1, e2] [] pos) X.env = (do
   let ov <- eval (.Name cl np) X.env
   standAt apos.atName
   let (f,first) <- holding [ov] (getMethod ov "__init__" pl)
   callWith pos f first (backTo pos (starEach [e1,e2] X.env)) (backToKw pos (keywordEach [] X.env))):=by rfl) :
  PE X (.Call (.Attribute (.Name cl np) "__init__" apos) [e1,e2] [] pos) (zp7 X.K t):=by
 intro pins s σ H Q I h;simp only [baseB,yai,beq_iff_eq] at hD;obtain ⟨⟨b1,b2⟩,b3⟩:=hD
 have b2':findCls X.K (.ref D) (.type "type") "__init__"=some (.val (.builtin "ValueError.__init__")):=by
  split at b2
  ·assumption
  ·cases b2
 refine methodCall_KW (pl:=pl) (zeo I hg hm ?_ hdb) ht;refine method_cls I.kIn b3 (cls_value I.kIn b1 b2' (3:) ?_);rw [hst];refine yb5 (by show (false || (backTo pos (starEach [e2] X.env)).any (·.1))=false; rw [hpl]; rfl) (yci ?_);have hh:=ha pos pins _ σ H _ (I.tok (s.toks + 1)) h;rw [hst] at hh;refine thn hh λ us s2 ⟨vs,H2,I2,r,a,C,fI,x,ev,ea,hx,q⟩=>?_;subst ev;obtain ⟨u,v,rfl,ru,rv⟩:=r.two;cases (show u=Value.ref a from ru);obtain ⟨⟨t0,ho⟩,_⟩:=(show zbh X.prog X.w H2 s2.heap a (.ext (isE C a)) from I2.hok a _ ea)
 obtain ⟨tl,N',nm,qn,bs,hdct,sn,sub,ab,col,dd,k0,k1,k2,k3,k5,mN,hC,hN,hni,T⟩:=zfH I2.kIn hx;obtain ⟨hp,g,d,tk,os⟩:=s2;refine zjH ybK T hC ho λ h' t1 z1 z2=>⟨.non,H2,?_,rfl,q⟩
 have z:=I2.extU (a:=a) (h':=h') (t':=tk) (φ':=isE C a) ea z1 ⟨t1,z2⟩ ⟨_,z2⟩ isE.stable;rw [zn6 ea] at z;exact z
end
noncomputable def CX2 (P:Program) (w:World):CXT:=λ outer H s E e s'=>
 ∃ (a C:Addr) (a0:Value) (H':Hp) (B:Heap) (d:Option Addr),e=.ref a /\ s'.os=s.os /\ AllBare s'.gens /\ Un (frs outer) [] H H' s.heap s'.heap /\ HOk P w H' s'.heap /\
  Heap.FlyingW B outer a (.ref C) a0 s'.heap /\ (∀ b o,H' b=some o -> ∃ ob,B.get? b=some ob) /\
  (∀ b o,s.heap.get? b=some o -> H b=none -> b ∉ frs outer -> B.get? b=some o) /\ (∀ b o,s.heap.get? b=some o -> b ∉ frs outer -> ∃ ob,B.get? b=some ob) /\ DK a d s'.heap /\ E (.ref C) d H'
section
variable {P:Program} {w:World} {K:PySem.W.Frag} {mg:Str -> Option Value} {base:Heap} {N:List Str} {qual:Str} {scope:Scope} {f:Addr} {cd:Value} {A:Around} {outer:List Env} {s0 s s':Shared} {H0 H H':Hp} {E E':XK}
  {pins:List (Addr × Obj)} {σ:St} {B h':Heap} {hp:Heap}
end
def Inv.laidN {X:Cx} {pins:List (Addr × Obj)} {σ:St} {H:Hp} {s:Shared} {h':Heap} {a:Addr} {φ:Heap -> Prop} {t':Nat} (I:Inv X pins σ H s) (k:∀ b u,s.heap.get? b=some u -> h'.get? b=some u) (hn:s.heap.get? a=none) (hp:φ h') (ho:∃ ob,h'.get? a=some ob)
  (st:∀ h1 h2:Heap,φ h1 -> (∀ o,h1.get? a=some o -> h2.get? a=some o) -> φ h2):H a=none /\ Inv X pins σ (upd H a (.ext φ)) { s with heap:=h',toks:=t' }:=by
 have ha:H a=none:=by
  cases q:H a with
  | none=>rfl
  | some o=>
   obtain ⟨ob,z⟩:=(I.hok a o q).there;rw [hn] at z;cases z
 have ne:∀ b o,s.heap.get? b=some o -> b ≠ a:=λ b o e z=>by rw [z,hn] at e; cases e
 have nh:∀ b o,H b=some o -> b ≠ a:=λ b o e z=>by rw [z,ha] at e; cases e
 refine ⟨ha,I.un ⟨λ b o e n _ _=>k b o e,λ b o e n _ _=>⟨o.slots,k b o e⟩,λ b o e n _=>by rw [zal (ne b o e)]; exact n,λ b o e _=>⟨o,k b o e⟩,λ b xs e=>by rw [zal (nh b _ e)]; exact e,λ b o u e=>by rw [zal (nh b _ e)]; exact e,λ b ps e=>⟨#[],by rw [zal (nh b _ e),Array.append_empty]; exact e⟩⟩ λ b u e=>?_⟩;by_cases hb:b=a
 ·subst hb;rw [zai] at e;cases e;exact ⟨hp,ho,st⟩
 ·rw [zal hb] at e;exact (I.hok b u e).stay (λ c v _ q=>k c v q) (λ c q=>by rw [zal (nh c _ q)]; exact q) λ c xs q=>by rw [zal (nh c _ q)]; exact q
noncomputable def zeA (C:Addr) (f:Str):Sp:=λ vs H Q _=>∃ a i,vs=[.ref a,.int i] /\ i.natAbs.log2 < 1920 /\ H a=some (.ext (isE C a)) /\ ∀ dx,H dx=none -> dx ≠ a -> Q .non (upd (upd H dx (.ext (isD dx f i))) a (.ext (isN C a dx)))
noncomputable def zkg (E:XK) (C:Addr) (f:Str) (t:TA):TS:=λ _ σ H=>t σ H λ vs H1=>∃ i,vs=[.int i] /\ i.natAbs.log2 < 1920 /\ ∀ dx,H1 dx=none -> E (.ref C) (some dx) (upd H1 dx (.ext (isD dx f i)))
section
variable {P:Program} {w:World} {K:PySem.W.Frag} {mg:Str -> Option Value} {base:Heap} {N:List Str} {qual:Str} {scope:Scope} {f:Addr} {cd:Value} {A:Around} {outer:List Env} {s0:Shared} {H0:Hp} {E:XK}
def zkE {C fI:Addr} {fd fd':FuncData} {od:Option Addr} {osl:Array (Option Value)} {k:Nat} {fl x:Str} {np cpos pos:Pos} {e:Expr} {t:TA} {ps:List Str} (hg:Gl (cxOf (CX2 P w) P w K mg base N qual scope f cd A outer s0 H0 E) x) (hm:mg x=some (.ref C)) (hc:excInI K C fI bmV "ValueError.__new__"=true)
  (F:FnOk P w K mg base CX0 k fI fd ps (zeA C fl)) (hbi:zdj K fd ps []) (gf:K.lookup fI=some ⟨.type "function",od,.func fd',osl⟩) (hr:Room (k + 1) (cxOf (CX2 P w) P w K mg base N qual scope f cd A outer s0 H0 E).A)
  (ha:PA (cxOf (CX2 P w) P w K mg base N qual scope f cd A outer s0 H0 E) [e] t) (hdb:(x == ("__debug__":Str))=false:=by decide)
  (he:starEach [e] (envOfC qual scope s0.heap.objs.size f cd)=(false,eval e (envOfC qual scope s0.heap.objs.size f cd)) :: starEach [] (envOfC qual scope s0.heap.objs.size f cd):=by rfl) :
  PS (cxOf (CX2 P w) P w K mg base N qual scope f cd A outer s0 H0 E) (.Raise (some (.Call (.Name x np) [e] [] cpos)) none pos) (zkg E C fl t):=by
 intro pins s σ H D I h;obtain ⟨tl,N',nm,q,bs,hdct,sn,sub,ab,col,dd,k0,k1,k2,k3,k5,mN,hC,hN,hni,T⟩:=zfH I.ok.mod.kin hc
 refine zjn (C:=C) (nm:=nm) (q:=q) (N:=N') (bs:=bs) (bm:=tl) (hdct:=hdct) (sn:=sn) (sub:=sub) (ab:=ab) (col:=col) (dd:=dd) (k0:=k0) (k1:=k1) (k2:=k2) (k3:=k3) (k5:=k5) (fI:=fI) (oI:=⟨.type "function",od,.func fd',osl⟩)
  ybK (mN:=mN) (T.hasType ybK.hasBase) (I.ok.hd rfl) (by rw [show starEach [e] (cxOf (CX2 P w) P w K mg base N qual scope f cd A outer s0 H0 E).env=_ from he]; rfl) hni rfl (zeo I hg hm ⟨rfl,?_⟩ hdb)
 have hh:=ha cpos pins s σ H _ I h;rw [show starEach [e] (cxOf (CX2 P w) P w K mg base N qual scope f cd A outer s0 H0 E).env=_ from he] at hh ⊢;refine yci (wpAny_mono hh (λ vs s2 ⟨xs,H1,I1,r,i,ev,hi,q⟩=>?_) λ _ _ y=>y);subst ev;obtain ⟨u,rfl,ru⟩:=r.one;refine ⟨rfl,by rw [sizeLine_eq]; show 1 <= _; omega,I1.bk _ _ hC,hN.keeps I1.bk,T.keeps I1.bk,I1.kIn _ _ gf,λ h' ex hme=>?_⟩;obtain ⟨t0,g1,_,_⟩:=hme.there;obtain ⟨hne,I2⟩:=I1.laidN (a:=ex) (h':=h') (t':=s2.toks) (φ:=isE C ex) hme.keeps hme.new ⟨t0,g1⟩ ⟨_,g1⟩ isE.stable;have r2:Vals [.ref ex,.int i] [.ref ex,u]:=.cons rfl (.cons ru .nil)
 have hsp:zeA C fl [.ref ex,.int i] (upd H1 ex (.ext (isE C ex))) (λ v H'=>v=.non /\ ∃ dx,H'=upd (upd (upd H1 ex (.ext (isE C ex))) dx (.ext (isD dx fl i))) ex (.ext (isN C ex dx)) /\ (upd H1 ex (.ext (isE C ex))) dx=none /\ dx ≠ ex) E0:=
  ⟨ex,i,rfl,hi,zai,λ dx h1 h2=>⟨rfl,dx,rfl,h1,h2⟩⟩
 have hl:([.ref ex,u] ++ []:List Value).length=ps.length:=F.len _ _ _ _ hsp;refine wpAny_call (codeAny_mono (F.run _ _ _ _ ⟨[.ref ex,u],[]⟩ ([.ref ex,u] ++ []) [.ref ex,.int i] _ _ (hr.make C [u] []) (I2.env0.make C [u] []) (hbi _ [.ref ex,u] I2.kIn hl) r2 hsp) λ r s' hq=>?_);cases r with
 | error e=>exact False.elim hq
 | ok fl'=>
  cases fl' with
  | next=>exact False.elim hq
  | brk=>exact False.elim hq
  | cont=>exact False.elim hq
  | ret u'=>
   obtain ⟨v,H3,hos,hba,un,hok,rv,rfl,dx,rfl,hdx,hdn⟩:=hq;have hd1:H1 dx=none:=by rw [zal hdn] at hdx; exact hdx
   have I3:Inv (cxOf (CX2 P w) P w K mg base N qual scope f cd A outer s0 H0 E) pins σ (upd (upd (upd H1 ex (.ext (isE C ex))) dx (.ext (isD dx fl i))) ex (.ext (isN C ex dx))) s':=I2.call' hos un hok hba (λ b z=>absurd z (5:))
   have e3:∀ b,b ≠ ex -> (upd (upd (upd H1 ex (.ext (isE C ex))) dx (.ext (isD dx fl i))) ex (.ext (isN C ex dx))) b=(upd H1 dx (.ext (isD dx fl i))) b:=λ b hb=>by
    rw [zal hb];by_cases z:b=dx
    ·rw [z,zai,zai]
    ·rw [zal z,zal hb,zal z]
   have e4:(upd H1 dx (.ext (isD dx fl i))) ex=none:=by rw [zal hdn.symm]; exact hne
   obtain ⟨⟨t3,g3⟩,_⟩:=(show zbh P w _ s'.heap ex (.ext (isN C ex dx)) from I3.hok ex _ zai)
   have n1:∀ b o,s2.heap.get? b=some o -> b ≠ ex:=λ b o e z=>by rw [z,hme.new] at e; cases e
   have n2:∀ b o,H1 b=some o -> b ≠ ex:=λ b o e z=>by rw [z,hne] at e; cases e
   have unH:Un (frs (envOfC qual scope s0.heap.objs.size f cd :: outer)) [] H1 (upd H1 dx (.ext (isD dx fl i))) s2.heap s'.heap:=by
    have un':Un (frs (envOfC qual scope s0.heap.objs.size f cd :: outer)) [] (upd H1 ex (.ext (isE C ex))) (upd (upd (upd H1 ex (.ext (isE C ex))) dx (.ext (isD dx fl i))) ex (.ext (isN C ex dx))) h' s'.heap:=un;refine ⟨λ b o e n hb hx=>un'.keep b o (hme.keeps _ _ e) (by rw [zal (n1 b o e)]; exact n) hb hx,λ b o e n hb hx=>un'.slot b o (hme.keeps _ _ e) (by rw [zal (n1 b o e)]; exact n) hb hx,λ b o e n hx=>?_,λ b o e hx=>un'.there b o (hme.keeps _ _ e) hx,λ b xs e=>?_,λ b o u e=>?_,λ b ps e=>?_⟩
    ·rw [<- e3 b (n1 b o e)];exact un'.free b o (hme.keeps _ _ e) (by rw [zal (n1 b o e)]; exact n) hx
    ·rw [<- e3 b (n2 b _ e)];exact un'.tups b xs (by rw [zal (n2 b _ e)]; exact e)
    ·rw [<- e3 b (n2 b _ e)];exact un'.frzs b o u (by rw [zal (n2 b _ e)]; exact e)
    ·rw [<- e3 b (n2 b _ e)];exact un'.tbls b ps (by rw [zal (n2 b _ e)]; exact e)
   have hokH:HOk P w (upd H1 dx (.ext (isD dx fl i))) s'.heap:=λ b u e=>by
    have hb:b ≠ ex:=λ z=>by rw [z,e4] at e; cases e
    have z:=I3.hok b u (by rw [e3 b hb]; exact e);refine z.stay (λ c v _ q=>q) (λ c q=>?_) λ c xs q=>?_
    ·rw [<- e3 c (λ z=>by rw [z,zai] at q; cases q)]; exact q
    ·rw [<- e3 c (λ z=>by rw [z,zai] at q; cases q)]; exact q
   have hst:s'.heap.FunFrames base (envOfC qual scope s0.heap.objs.size f cd :: outer):=I3.stack;have hin:∀ env ∈ (envOfC qual scope s0.heap.objs.size f cd :: outer),∀ b,env.frame=some b -> b ∈ ex :: frs (envOfC qual scope s0.heap.objs.size f cd :: outer):=λ env hv b hb=>yav _ (ycr.mpr ⟨env,hv,hb⟩)
   have tr:∀ b o,(upd H1 dx (.ext (isD dx fl i))) b=some o -> ∃ ob,(hideAll s'.heap (ex :: frs (envOfC qual scope s0.heap.objs.size f cd :: outer))).get? b=some ob:=λ b o e=>by
    have hb:b ≠ ex:=λ z=>by rw [z,e4] at e; cases e
    obtain ⟨ob,z⟩:=(hokH b o e).there;refine ⟨ob,hideAll_get _ z λ hm=>?_⟩;rcases yao.mp hm with hm | hm
    ·exact hb hm
    ·have z:=I3.stkFree b hm;rw [e3 b hb,e] at z;cases z
   have nin:∀ b o,s2.heap.get? b=some o -> b ∉ frs (envOfC qual scope s0.heap.objs.size f cd :: outer) -> b ∉ ex :: frs (envOfC qual scope s0.heap.objs.size f cd :: outer):=λ b o e hb hm=>by
    rcases yao.mp hm with hm | hm
    ·exact n1 b o e hm
    ·exact hb hm
   refine ⟨rv,.ref t3,some dx,_,I3.bk _ _ hC,g3,?_⟩;show wpAny (model P w) (A.deeper (envOfC qual scope s0.heap.objs.size f cd)) (leaving (envOfC qual scope s0.heap.objs.size f cd) (.ref ex)) _ _ s'
   refine wpAny_mono (Tame.any (e:=ex) (d:=some dx) (E:=λ _ _=>False) (zdP _ _) (wpAny_leaving_firstW (base:=hideAll s'.heap (ex :: frs (envOfC qual scope s0.heap.objs.size f cd :: outer))) (a0:=.ref t3)
    (Q:=λ _ s4=>∃ h4,s4={ s' with heap:=h4 } /\ Heap.LeftW (hideAll s'.heap (ex :: frs (envOfC qual scope s0.heap.objs.size f cd :: outer))) (envOfC qual scope s0.heap.objs.size f cd :: outer) ex (.ref C) (.ref t3) s'.heap h4)
    I3.ok.frames (funFrames_hide hst hin) rfl g3 (λ b o q=>of_hideAll _ q) (hideAll_none _ (yaF ..)) rfl rfl rfl λ h4 L4=>⟨h4,rfl,L4⟩) ⟨_,g3,rfl⟩) (λ _ s4 z=>?_) λ _ _ z=>z.1.elim
   obtain ⟨⟨h4,rfl,L1,⟨_,_,L2⟩,L3,L4⟩,dk⟩:=z
   obtain ⟨u,k1',k2'⟩:=zov (B:=hideAll s'.heap (ex :: frs (envOfC qual scope s0.heap.objs.size f cd :: outer))) (hp:=s'.heap) (h':=h4) I1 unH (λ b o e n hb=>hideAll_get _ (unH.keep b o e n hb (5:)) (nin b o e hb)) (λ b o e hb=>by
     obtain ⟨o',e'⟩:=unH.there b o e (5:);exact ⟨o',hideAll_get _ e' (nin b o e hb)⟩)
    (fun b hb => by
     obtain ⟨_,o,ho,hd⟩:=hst.mem (show b ∈ frs (envOfC qual scope s0.heap.objs.size f cd :: outer) by rw [zcH]; exact yav _ hb);exact ⟨o,ho,hd⟩) L1 L4
   exact ⟨ex,C,.ref t3,upd H1 dx (.ext (isD dx fl i)),_,some dx,rfl,hos.trans I1.os,hba,u,zf8 hokH tr (λ b o q=>of_hideAll _ q) L1,⟨L1,hideAll_none _ (yaF ..),L2,L3⟩,tr,k1',k2',dk,q dx hd1⟩
end
noncomputable def isXD (C a:Addr) (d:Option Addr):Heap -> Prop:=λ h=>∃ (vs:Array Value) (sl:Array (Option Value)),h.get? a=some { cls:=.ref C,dict:=d,data:=.fields vs,slots:=sl }
def isXD.stable {C a:Addr} {d:Option Addr}:∀ h1 h2:Heap,isXD C a d h1 -> (∀ o,h1.get? a=some o -> h2.get? a=some o) -> isXD C a d h2:=λ _ _ ⟨vs,sl,e⟩ k=>⟨vs,sl,k _ e⟩
noncomputable def PEX2 (X:Cx) (e:Expr) (t:XK -> TE):Prop:=∀ (E:XK) (pins:List (Addr × Obj)) (s:Shared) (σ:St) (H:Hp) (Q:VK) (XE:Value -> Shared -> Prop),Inv X pins σ H s -> t E σ H Q ->
 (∀ H1 s1 e s2,Inv X pins σ H1 s1 -> CX2 X.prog X.w X.stack H1 s1 E e s2 -> XE e s2) -> wpAny (model X.prog X.w) X.A (eval e X.env) (EP X pins σ Q) XE s
section
variable {X:Cx} {k:Nat} {f:Addr} {fd:FuncData} {ps:List Str} {sp:Sp} {dvs:List V} {ds:List Value} {E:XK} {x:Str} {p pos:Pos} {e:Expr} {es:List Expr} {t:TA}
def zlH {pins:List (Addr × Obj)} {σ:St} {H:Hp} {s:Shared} {Q:VK} {us:List Value} {vs:List V} {XE:Value -> Shared -> Prop} (F:FnOk X.prog X.w X.K X.mg X.base (CX2 X.prog X.w) k f fd ps sp) (hr:Room k X.A) (hb:zdj X.K fd ps ds) (hd:Vals dvs ds)
  (hx:∀ H1 s1 e s2,Inv X pins σ H1 s1 -> CX2 X.prog X.w X.stack H1 s1 E e s2 -> XE e s2)
  (I:Inv X pins σ H s) (r:Vals vs us) (h:sp (vs ++ dvs) H Q E):wpAny (model X.prog X.w) X.A (call (.ref f) us) (EP X pins σ Q) XE s:=by
 have r2:Vals (vs ++ dvs) (us ++ ds):=r.append hd;have hl:(us ++ ds).length=ps.length:=by rw [<- r2.length]; exact F.len _ _ _ _ h
 refine wpAny_call (codeAny_mono (F.run X.A X.stack s H ⟨us,[]⟩ (us ++ ds) (vs ++ dvs) Q E hr I.env0 (hb s us I.kIn hl) r2 h) λ r s' hq=>?_);cases r with
 | error e=>exact hx H s e s' I hq
 | ok fl=>
  cases fl with
  | ret u=>exact I.after hq
  | next=>exact False.elim hq
  | brk=>exact False.elim hq
  | cont=>exact False.elim hq
def zj3 (hnx:∀ e s,¬ X.xe e s) (F:FnOk X.prog X.w X.K X.mg X.base (CX2 X.prog X.w) k f fd ps sp) (hr:Room k X.A) (hg:Gl X x) (hm:X.mg x=some (.ref f)) (hk:PySem.W.keepIn X.K (.ref f)=true) (hb:zdj X.K fd ps ds) (hd:Vals dvs ds)
  (ha:PA X (e :: es) t) (hdb:(x == ("__debug__":Str))=false:=by decide) (he:starEach (e :: es) X.env=(false,eval e X.env) :: starEach es X.env:=by rfl) (hpl:(backTo pos (starEach es X.env)).any (·.1)=false:=by rfl) :
  PEX2 X (.Call (.Name x p) (e :: es) [] pos) (λ E=>zhJ sp dvs E t):=by
 intro E pins s σ H Q XE I h hx;refine wpAny_Call_Name_kw (zeo I hg hm ?_ hdb);refine PySem.W.callWith_K (h₀:=X.base) I.ok.mod.kin hk (wpAny_mono (ha pos pins s σ H _ I h) (λ us s1 ⟨vs,H1,I1,r,q⟩=>⟨I1.kIn,?_⟩) λ e s z=>(hnx e s z).elim) he hpl;exact zlH F hr hb hd hx I1 r q
end
def ziT {P:Program} {w:World} {H:Hp} {h:Heap} {a:Addr} {φ:Heap -> Prop} (ok:HOk P w H h) (hn:H a=none) (hp:φ h) (ho:∃ ob,h.get? a=some ob) (st:∀ h1 h2:Heap,φ h1 -> (∀ o,h1.get? a=some o -> h2.get? a=some o) -> φ h2):HOk P w (upd H a (.ext φ)) h:=λ b u e=>by
 by_cases hb:b=a
 ·subst hb;rw [zai] at e;cases e;exact ⟨hp,ho,st⟩
 ·rw [zal hb] at e;exact (ok b u e).stay (λ c v _ q=>q) (λ c q=>by rw [zal (zaq q hn)]; exact q) λ c xs q=>by rw [zal (zaq q hn)]; exact q
section
variable {X:Cx} {pins:List (Addr × Obj)} {σ:St} {H1:Hp} {s1 s2:Shared} {E:XK} {e:Value} {D:Ends} {ie ic:Nat} {n c cl:Str} {Dc:Addr} {np cp vp ap hpos:Pos} {XE:Value -> Shared -> Prop}
end
section
variable {X:Cx} {iv ie ic:Nat} {v n c cl:Str} {Dc:Addr} {ep np cp vp ap hpos pos xp:Pos} {e:Expr} {t:XK -> TE}
end
noncomputable def XTy2 (K:PySem.W.Frag) (H:Hp) (x:V) (t:Value):Prop:=TyOf K H x t \/ ∃ a C d,x=.ref a /\ t=.ref C /\ H a=some (.ext (isXD C a d)) /\ XCls K C
section
variable {X:Cx} {K:PySem.W.Frag}
end
noncomputable def zfM (P:Program) (w:World) (K:PySem.W.Frag) (mg:Str -> Option Value) (base:Heap) (x:Str) (ps:List Str) (k:Nat) (sp:Sp):Prop:=
 ∃ (f:Addr) (fd:FuncData),mg x=some (.ref f) /\ PySem.W.keepIn K (.ref f)=true /\ zdj K fd ps [] /\ FnOk P w K mg base (CX2 P w) k f fd ps sp
def _root_.L2.Fun.okx2 {P:Program} {w:World} {K:PySem.W.Frag} {mg:Str -> Option Value} {base:Heap} {x qual:Str} {st:Stmt} {f:Addr} {fd:FuncData} {N ps:List Str} {k:Nat} {sp:Sp} (F:Fun K x qual st f fd) (S:FnScope N ps (zaf st)) (len:∀ vs H Q E,sp vs H Q E -> vs.length=ps.length)
  (hbody : ∀ (cdv : Value) (A : Around) (outer : List Env) (s : Shared) (H : Hp) (vs : List V) (Q : VK) (E : XK), Room k (A.deeper (envOfC qual (zaf st) s.heap.objs.size f cdv)) -> sp vs H Q E ->
   ∃ t,PSs (cxOf (CX2 P w) P w K mg base N qual (zaf st) f cdv A outer s H E) (za7 st) t /\ t { nx:=λ _ H'=>Q .non H',rt:=Q } (zdG N vs) H):FnOk P w K mg base (CX2 P w) (k + 1) f fd ps sp:=by
 obtain ⟨oc,od,kV,doc,pm,an,cdv,ct,osl,rfl,lk,hcd⟩:=F.ex;exact zpm lk hcd S len λ A outer s H vs Q E hr hsp=>hbody cdv A outer s H vs Q E hr hsp
section
variable {P:Program} {w:World} {K:PySem.W.Frag} {mg:Str -> Option Value} {base:Heap} {N:List Str} {qual:Str} {scope:Scope} {f:Addr} {cd:Value} {A:Around} {outer:List Env} {s0:Shared} {H0:Hp} {E:XK}
  {x:Str} {p pos:Pos} {e:Expr} {es:List Expr} {t:TA} {ps:List Str} {k:Nat} {sp:Sp}
end
def zlB {X:Cx} {x:Str} {p pos:Pos} {e:Expr} {es:List Expr} {t:TA} {ps:List Str} {k:Nat} {sp:Sp} (hnx:∀ e s,¬ X.xe e s) (h:zfM X.prog X.w X.K X.mg X.base x ps k sp) (hr:Room k X.A) (ha:PA X (e :: es) t) (hg:Gl X x:=by rfl) (hdb:(x == ("__debug__":Str))=false:=by decide)
  (he:starEach (e :: es) X.env=(false,eval e X.env) :: starEach es X.env:=by rfl) (hpl:(backTo pos (starEach es X.env)).any (·.1)=false:=by rfl):PEX2 X (.Call (.Name x p) (e :: es) [] pos) (λ E=>zhJ sp [] E t):=by
 obtain ⟨f,fd,hm,hk,hb,F⟩:=h;exact zj3 hnx F hr hg hm hk hb .nil ha hdb he hpl
noncomputable def zeq (P:Program) (w:World) (K:PySem.W.Frag) (mg:Str -> Option Value) (base:Heap) (x f:Str) (k:Nat):Prop:=∀ C,mg x=some (.ref C) -> ∃ (fI:Addr) (fd fd':FuncData) (od:Option Addr) (osl:Array (Option Value)) (ps:List Str),
 excInI K C fI bmV "ValueError.__new__"=true /\ FnOk P w K mg base CX0 k fI fd ps (zeA C f) /\ zdj K fd ps [] /\ K.lookup fI=some ⟨.type "function",od,.func fd',osl⟩
section
variable {P:Program} {w:World} {K:PySem.W.Frag} {mg:Str -> Option Value} {base:Heap} {N:List Str} {qual:Str} {scope:Scope} {f:Addr} {cd:Value} {A:Around} {outer:List Env} {s0:Shared} {H0:Hp} {E:XK}
def zgG {C:Addr} {k:Nat} {fl x:Str} {np cpos pos:Pos} {e:Expr} {t:TA} (hi:zeq P w K mg base x fl k) (hm:mg x=some (.ref C)) (hr:Room (k + 1) (cxOf (CX2 P w) P w K mg base N qual scope f cd A outer s0 H0 E).A)
  (ha:PA (cxOf (CX2 P w) P w K mg base N qual scope f cd A outer s0 H0 E) [e] t) (hg:Gl (cxOf (CX2 P w) P w K mg base N qual scope f cd A outer s0 H0 E) x:=by rfl) (hdb:(x == ("__debug__":Str))=false:=by decide)
  (he:starEach [e] (envOfC qual scope s0.heap.objs.size f cd)=(false,eval e (envOfC qual scope s0.heap.objs.size f cd)) :: starEach [] (envOfC qual scope s0.heap.objs.size f cd):=by rfl) :
  PS (cxOf (CX2 P w) P w K mg base N qual scope f cd A outer s0 H0 E) (.Raise (some (.Call (.Name x np) [e] [] cpos)) none pos) (zkg E C fl t):=by
 obtain ⟨fI,fd,fd',od,osl,ps,ei,gi,bi,li⟩:=hi C hm;exact zkE hg hm ei gi bi li hr ha hdb he
end
def zeq.mk {P:Program} {w:World} {K:PySem.W.Frag} {mg:Str -> Option Value} {base:Heap} {x f:Str} {k:Nat} {C fI:Addr} {st:Stmt} {nm qual:Str} {kV doc pm cdv ct:Value} {od an:Option Addr} {osl:Array (Option Value)} {ps:List Str} (hm:mg x=some (.ref C))
  (l:K.lookup fI=some ⟨.type "function",od,.func (PySem.W.fnOf nm qual (zbr st) (za7 st) (zaf st) .none kV doc pm an cdv ct),osl⟩) (e:excInI K C fI bmV "ValueError.__new__"=true)
  (hb:zdj K (PySem.W.fnOf nm qual (zbr st) (za7 st) (zaf st) .none kV doc pm an cdv ct) ps []) (F:FnOk P w K mg base CX0 k fI (PySem.W.fnOf nm qual (zbr st) (za7 st) (zaf st) .none kV doc pm an cdv ct) ps (zeA C f)):zeq P w K mg base x f k:=λ C' h'=>by
 cases hm.symm.trans h';exact ⟨fI,_,_,od,osl,ps,e,F,hb,l⟩
noncomputable def zpI:Stmt -> Nat -> Stmt
 | .ClassDef _ _ _ b _ _ _ _ _ _ _,i=>b.getD i (.Pass ⟨0,0,0,0⟩)
 | _,_=>.Pass ⟨0,0,0,0⟩
noncomputable def LostB (K:PySem.W.Frag) (mg:Str -> Option Value):Prop:=∀ C D,mg "Lost"=some (.ref C) -> mg "LeadError"=some (.ref D) -> FCls K C D "place"
end L2
namespace L2
open PySem PySem.Spec PyProof.Rows Bm
def zko {K:PySem.W.Frag} {a:Addr} {xs:List V} {g:TG} {tb:TS} {D:Ends} {σ:St} {H H0:Hp} (hb:SqH H0 a xs) (h00:Same H0 H) (Pv:Nat -> St -> Hp -> Prop) (h0:Pv 0 σ H) (hl:∀ i σ H,Pv i σ H -> Same H0 H)
  (hs:∀ i u T σ H,xs[i]?=some u -> H T=none -> Pv i σ H -> g (.ref T) σ (upd H T (.tup [.int (i:Int),u])) λ σ2 H2=>tb { D with nx:=Pv (i + 1),ct:=Pv (i + 1),bk:=D.nx } σ2 H2) (hd:∀ σ H,Pv xs.length σ H -> D.nx σ H) :
  (SqL K H a xs /\ ForW (IteL K a xs) g tb D σ H) \/ (SqT K H a xs /\ ForW (IteT K a xs) g tb D σ H):=by
 rcases hb with hb | hb
 ·exact .inl ⟨SqL.of (h00 _ _ hb),ze9 Pv h0 (λ i σ H p=>SqL.of (hl i σ H p _ _ hb)) hs hd⟩
 ·exact .inr ⟨SqT.of (h00 _ _ hb),zgR Pv h0 (λ i σ H p=>SqT.of (hl i σ H p _ _ hb)) hs hd⟩
def zgp {i:Nat} (h:i <= 10000):i.log2 < 1920:=by
 by_cases z:i=0
 ·rw [z]; decide
 ·exact (Nat.log2_lt z).mpr (ybf h (Nat.lt_trans (by decide:10000 < 2 ^ 14) (ybt (3:) (3:))))
noncomputable def zjh (w:Nat) (ds:List Dd):Option Nat:=ds.findIdx? λ d=>!zey (d.led w)
def zjB {w k:Nat} {ds:List Dd} {d:Dd} (h:ds[k]?=some d) (hb:∀ e ∈ ds.take k,zax (e.led w)) (hd:¬ zax (d.led w)):zjh w ds=some k:=by
 have hk:=(yaj.mp h).1;unfold zjh;rw [List.findIdx?_eq_some_iff_getElem];refine ⟨hk,?_,λ j hj=>?_⟩
 ·rw [(yaj.mp h).2];simp [zey,hd]
 ·have:ds[j] ∈ ds.take k:=List.mem_take_iff_getElem.mpr ⟨j,by omega,rfl⟩;simp [zey,hb _ this]
def zlF {w:Nat} {ds:List Dd} (h:∀ d ∈ ds,zax (d.led w)):zjh w ds=none:=by
 unfold zjh;rw [List.findIdx?_eq_none_iff];intro d hd;simp [zey,h d hd]
noncomputable def zhl (mg:Str -> Option Value):Sp:=λ vs H Q E=>∃ (w:Nat) (a:Addr) (L:List (Addr × Dd)),vs=[nV w,.ref a] /\ SqH H a (rowV L) /\ Rw H w L /\ 1 <= w /\ w <= 64 /\ L.length <= 10000 /\
 (zjh w (dds L)=none -> ∀ (l:Addr) (M:List (Addr × Dd)) (H':Hp),H l=none -> Same H H' -> H' l=some (.lst (rowV M)) -> Rw H' w M -> dds M=zaM w (dds L) -> Q (.ref l) H') /\
 ∀ k,zjh w (dds L)=some k -> ∀ C dx H',mg "Lost"=some (.ref C) -> Same H H' -> H' dx=some (.ext (isD dx "place" (k:Int))) -> E (.ref C) (some dx) H'
noncomputable def zht (ls:List Int) (w m:Nat):Option Nat:=(List.range w).find? λ p=>m.testBit p && !decide ((p:Int) ∈ ls)
def ziZ {ls:List Int} {w m:Nat} (h:∀ p,p < w -> m.testBit p=true -> (p:Int) ∈ ls):zht ls w m=none:=by
 unfold zht;rw [List.find?_eq_none];intro p hp;have hp:=yaq.mp hp;cases c:m.testBit p with
 | false=>simp
 | true=>simp [h p hp c]
def zjR {ls:List Int} {w m:Nat} (h:zht ls w m=none):∀ p,p < w -> m.testBit p=true -> (p:Int) ∈ ls:=λ p hp hb=>by
 have z:=(List.find?_eq_none.mp h) p (yaq.mpr hp);rw [hb] at z;simpa using z
def zjf {ls:List Int} {w m p:Nat} (hp:p < w) (hb:m.testBit p=true) (hn:¬ (p:Int) ∈ ls) (hq:∀ q,q < p -> m.testBit q=true -> (q:Int) ∈ ls):zht ls w m=some p:=by
 unfold zht;rw [List.find?_range_eq_some];refine ⟨by rw [hb]; simp [hn],yaq.mpr hp,λ q hqp=>?_⟩;cases c:m.testBit q with
 | false=>rfl
 | true=>simp [hq q hqp c]
def zix {ls:List Int} {w m:Nat} (hL:Ld w ls) (h:∀ p,p < w -> m.testBit p=true -> (p:Int) ∈ ls):Ld w (zcJ ls m):=by
 refine ⟨by rw [zcJ,yad,yar,hL.1],λ e he=>?_⟩;rw [zcJ] at he;obtain ⟨p,hp,rfl⟩:=yaP.mp he;have hp:p < w:=by rw [<- hL.1]; exact yaq.mp hp
 unfold wayB;by_cases c:m.testBit p=true
 ·rw [if_pos c];have:=ybI (h p hp c);rw [hL.1] at this;omega
 ·rw [if_neg c];omega
def ziP {ls:List Int} {w m:Nat} (hL:Ld w ls) (h:∀ p,p < w -> m.testBit p=true -> (p:Int) ∈ ls):zat ls (zcJ ls m)=(Dd.and m).led w:=by
 rw [zat,zcJ,ybp,hL.1];apply yaX;intro p hp;have hp:=yaq.mp hp;show (if 0 <= wayB ls m p then ls.getD (wayB ls m p).toNat 0 else wayB ls m p)=if m.testBit p then (p:Int) else -1
 unfold wayB;by_cases c:m.testBit p=true
 ·rw [if_pos c,if_pos c,if_pos (1:),yam];have hk:=ybI (h p hp c);rw [yab,yaa hk,Option.getD_some,yb1 hk]
 ·rw [if_neg c,if_neg c,if_neg (1:)]
def zjI {ls:List Int} {w m x:Nat} (hL:Ld w ls) (hm:m < 2 ^ w) (hx:x < 2 ^ w) (h:∀ p,p < w -> m.testBit p=true -> (p:Int) ∈ ls):ledN (zcJ ls m) (ledN ls x)=x &&& m:=by
 rw [<- zij hL (zix hL h),ziP hL h];exact Dd.led_done (d:=.and m) hm hx
noncomputable def zmN (mg:Str -> Option Value):Sp:=λ vs H Q E=>∃ (a:Addr) (ls:List Int) (w m p:Nat),vs=[.ref a,nV m,nV p] /\ H a=some (.tup (ls.map V.int)) /\ Ld w ls /\ w <= 64 /\ p < w /\ ((m.testBit p=true -> (p:Int) ∈ ls) -> Q (.int (wayB ls m p)) H) /\
 (m.testBit p=true -> ¬ (p:Int) ∈ ls -> ∀ C dx H',mg "Lost"=some (.ref C) -> Same H H' -> H' dx=some (.ext (isD dx "place" (p:Int))) -> E (.ref C) (some dx) H')
noncomputable def zlm (mg:Str -> Option Value):Sp:=λ vs H Q E=>∃ (a:Addr) (ls:List Int) (w m:Nat),vs=[.ref a,nV m] /\ H a=some (.tup (ls.map V.int)) /\ Ld w ls /\ w <= 64 /\
 (zht ls w m=none -> ∀ t H',Same H H' -> H' t=some (.tup ((zcJ ls m).map V.int)) -> Q (.ref t) H') /\
 ∀ p,zht ls w m=some p -> ∀ C dx H',mg "Lost"=some (.ref C) -> Same H H' -> H' dx=some (.ext (isD dx "place" (p:Int))) -> E (.ref C) (some dx) H'
end L2
namespace L2
open PySem PySem.Spec PyProof.Rows PySem.W
def ziN {env env':Env} (h:env.frame=env'.frame):PySem.frameOf env=PySem.frameOf env':=by
 unfold PySem.frameOf;rw [h]
def znE {e:Value} {env env':Env} (h:env.frame=env'.frame):noteFrame e env=noteFrame e env':=by
 unfold noteFrame;rw [h,ziN h]
noncomputable def FlyA (B:Heap) (l:List Env) (e:Addr) (cls a0:Value) (h:Heap):Prop:=B.StaysIn h /\ B.get? e=none /\ h.FunFrames B l /\ ∃ fl,h.TracedAtW B e cls a0 fl
section
variable {M:Model} {A:Around} {E:Value -> Shared -> Prop} {s:Shared} {B:Heap} {l:List Env} {e:Addr} {cls a0:Value}
noncomputable def zmA (l:List Addr) (h h':Heap):Prop:=∀ b ∈ l,∀ o,h.get? b=some o -> (∀ vs,o.data ≠ .fields vs) -> ∃ sl,h'.get? b=some { o with slots:=sl }
def zja {f:Option Addr} {Q:Unit -> Shared -> Prop} (x:FlyA B l e cls a0 s.heap) (hQ:∀ h',FlyA B l e cls a0 h' -> s.heap.UpToSlots h' -> Q () { s with heap:=h' }):wpAny M A (setFlight (.ref e) f) Q E s:=by
 obtain ⟨hkb,hen,hl,fl,oe,vs,T,oT,ts,he,hcls,hd,h1,hnT,hTe,hT,hdT,h3⟩:=x;have hsz3:3 < ts.size:=(ybL.mp h3).1;have other:∀ b,b ≠ T -> (s.heap.update T (Obj.mapFields (·.setIfInBounds 3 (f.elim Value.none λ f=>rawInt f)))).get? b=s.heap.get? b:=λ b hb=>ya9 _ _ (ybj hb)
 have noRecord:∀ b o,s.heap.get? b=some o -> (∀ vs,o.data ≠ .fields vs) -> b ≠ T:=λ b o hb hnf q=>by
  rw [q,hT] at hb; injection hb with hb; subst hb; exact hnf ts hdT
 unfold setFlight;refine wpAny_bind (wpAny_field he hd h1 ?_);rw [if_pos (show (Value.ref T != Value.none)=true from by simp)]
 refine wpAny_setField hT hdT hsz3 (hQ _ ⟨λ b o hbo=>(other b λ q=>by rw [q,hnT] at hbo; cases hbo).trans (hkb b o hbo),hen,
  hl.of_keeps λ b o hb hnf=>⟨o,(other b (noRecord b o hb hnf)).trans hb,rfl⟩,f.elim Value.none λ f=>rawInt f,
  oe,vs,T,_,_,(other e (ybj hTe)).trans he,hcls,hd,h1,hnT,hTe,ybd _ hT (Obj.isFreed_of_fields (yb0 hdT _)),yb0 hdT _,by simp [hsz3]⟩
  λ b o hb hnf=>⟨o.slots,(other b (noRecord b o hb hnf)).trans hb⟩)
def zia {env:Env} {outer:List Env} {L:Addr} {Q:Unit -> Shared -> Prop} (hfr:A.frames=some (env :: outer)) (hf:env.frame=some L) (x:FlyA B (env :: outer) e cls a0 s.heap)
  (hQ:∀ h',FlyA B (env :: outer) e cls a0 h' -> s.heap.UpToSlots h' -> Q () { s with heap:=h' }):wpAny M A (noteFrame (.ref e) env) Q E s:=by
 obtain ⟨hkb,hen,hl,fl,oe,vs,T,oT,ts,he,⟨hcls,h0⟩,hd,h1,hnT,hTe,hT,hdT,h3⟩:=x;subst hcls;by_cases hfl:(fl == rawInt L)=true
 ·have:=beq_iff_eq.mp hfl;subst this;exact wpAny_noteFrame_againW hf ⟨oe,vs,T,oT,ts,he,⟨rfl,h0⟩,hd,h1,hnT,hTe,hT,hdT,h3⟩ (hQ s.heap ⟨hkb,hen,hl,_,oe,vs,T,oT,ts,he,⟨rfl,h0⟩,hd,h1,hnT,hTe,hT,hdT,h3⟩ λ b o hb _=>⟨o.slots,hb⟩)
 unfold noteFrame;simp only [hf];refine wpAny_bind (wpAny_field he hd h1 ?_);rw [if_pos (show (Value.ref T != Value.none)=true from by simp)];refine wpAny_bind (wpAny_field hT hdT h3 ?_);rw [if_neg hfl];refine wpAny_bind (wpAny_setField hT hdT (ybL.mp h3).1 ?_);have other:∀ b,b ≠ T -> (s.heap.update T (Obj.mapFields (·.setIfInBounds 3 Value.none))).get? b=s.heap.get? b:=λ b hb=>ya9 _ _ (ybj hb)
 have noRecord:∀ b o,s.heap.get? b=some o -> (∀ vs,o.data ≠ .fields vs) -> b ≠ T:=λ b o hb hnf q=>by
  rw [q,hT] at hb; injection hb with hb; subst hb; exact hnf ts hdT
 exact wpAny_entryW hfr (hl.of_keeps λ b o hb hnf=>⟨o,(other b (noRecord b o hb hnf)).trans hb,rfl⟩) hf ((other e (ybj hTe)).trans he)
  (λ b o hbo=>(other b λ q=>by rw [q,hnT] at hbo; cases hbo).trans (hkb b o hbo)) hen hd (ybL.mp h1).1 h0
  λ h' ⟨x1,x2,x3,x4⟩=>hQ h' ⟨x1,hen,x2,_,x3⟩ λ b o hb hnf=>x4 b o ((other b (noRecord b o hb hnf)).trans hb) hnf
def zjS {env:Env} {outer:List Env} {L:Addr} {Q:Unit -> Shared -> Prop} (hfr:A.frames=some (env :: outer)) (hf:env.frame=some L) (x:FlyA B (env :: outer) e cls a0 s.heap)
  (hQ:∀ h',Heap.FlyingW B outer e cls a0 h' -> s.heap.UpToSlots h' -> Q () { s with heap:=h' }):wpAny M A (leaving env (.ref e)) Q E s:=by
 unfold leaving;refine wpAny_bind (zia hfr hf x λ h1 x1 sm1=>?_);obtain ⟨k1,k2,k3,fl,k4⟩:=x1;refine wpAny_setFlight_noneW k1 k3 k4 λ h2 y1 y2 y3 y4=>hQ h2 ⟨y1,k2,y2.2.2,y3⟩ ?_;exact sm1.trans λ b o hb hn=>⟨o.slots,y4 b o hb hn⟩
def FlyA.hide {C:Addr} {h:Heap} (x:FlyA B l e cls a0 h):FlyA (B.hide C) l e cls a0 h:=by
 obtain ⟨k1,k2,k3,fl,oe,vs,T,oT,ts,he,hc,hd,h1,hnT,r⟩:=x
 have none_of:∀ b,B.get? b=none -> (B.hide C).get? b=none:=λ b hb=>by
  cases q:(B.hide C).get? b with
  | none=>rfl
  | some o=>rw [Heap.of_hide q] at hb; cases hb
 refine ⟨λ b o hb=>k1 b o (Heap.of_hide hb),none_of e k2,?_,fl,oe,vs,T,oT,ts,he,hc,hd,h1,none_of T hnT,r⟩;clear k1 k2 he hd h1 hnT r hc
 induction l with
 | nil=>trivial
 | cons env l ih=>
  obtain ⟨hk,⟨L,o,hf,hb,ho,hd⟩,hr⟩:=k3;exact ⟨hk,⟨L,o,hf,none_of L hb,ho,hd⟩,ih hr⟩
def znR {C b:Addr} {o:Obj} (hb:(B.hide C).get? b=some o):b ≠ C:=λ z=>by
 have:=hideAll_none (h:=B) [C] (b:=C) (yaF ..);rw [z] at hb;have hb:(hideAll B [C]).get? C=some o:=hb;rw [hb] at this;cases this
def FlyA.but {C:Addr} {oC:Obj} {h h':Heap} (hC:B.get? C=some oC) (x:FlyA B l e cls a0 h) (sb:Heap.SameBut C h h'):FlyA (B.hide C) l e cls a0 h':=by
 have ne:∀ b,B.get? b=none -> b ≠ C:=λ b hb z=>by rw [z,hC] at hb; cases hb
 have ne':=ne;obtain ⟨z1,z2,z3,fl,oe,vs,T,oT,ts,he,hc,hd,h1,hnT,hTe,hT,r⟩:=x.hide (C:=C);obtain ⟨k1,k2,k3,fl',oe',vs',T',oT',ts',he',hc',hd',h1',hnT',hTe',hT',r'⟩:=x;refine ⟨λ b o hb=>(sb.2 b (znR hb)).trans (z1 b o hb),z2,?_,fl',oe',vs',T',oT',ts',(sb.2 e (ne e k2)).trans he',hc',hd',h1',?_,hTe',(sb.2 T' (ne T' hnT')).trans hT',r'⟩
 ·clear z1 z2 he hd h1 hnT r hc he' hd' h1' hnT' r' hc' k1 k2 hT hT'
  induction l with
  | nil=>trivial
  | cons env l ih=>
   obtain ⟨hk,⟨L,o,hf,hb,ho,hd⟩,hr⟩:=k3;obtain ⟨_,⟨L',o',hf',hb',ho',hd'⟩,hr'⟩:=z3;have:L'=L:=by rw [hf] at hf'; cases hf'; rfl
   subst this;exact ⟨hk,⟨L',o,hf,hb',(sb.2 L' (ne L' hb)).trans ho,hd⟩,ih hr' hr⟩
 ·cases q : (B.hide C).get? T' with
  | none=>rfl
  | some o=>rw [Heap.of_hide q] at hnT'; cases hnT'
end
section
variable {P:Program} {w:World} {K:PySem.W.Frag} {mg:Str -> Option Value} {base:Heap} {N:List Str} {qual:Str} {scope:Scope} {f:Addr} {cd:Value} {A:Around} {outer:List Env} {s0 s s':Shared} {H0 H H':Hp} {E E':XK}
  {CX:CXT} {pins:List (Addr × Obj)} {σ:St} {B h':Heap} {hp:Heap}
def znr (I:Inv (cxOf CX P w K mg base N qual scope f cd A outer s0 H0 E) pins σ H s) (un:Un (frs (envOfC qual scope s0.heap.objs.size f cd :: outer)) [] H H' s.heap hp)
  (k1:∀ b o,s0.heap.get? b=some o -> H0 b=none -> b ∉ frs outer -> B.get? b=some o) (k2:∀ b o,s0.heap.get? b=some o -> b ∉ frs outer -> ∃ ob,B.get? b=some ob)
  (fr:∀ b ∈ frs outer,∃ o,hp.get? b=some o /\ ∀ vs,o.data ≠ .fields vs) (st:B.StaysIn h') (sm:zmA (frs outer) hp h'):Un (frs outer) [] H0 H' s0.heap h':=by
 have IB:Un (frs outer) [] H0 H s0.heap s.heap:=I.base;refine ⟨λ b o e n hb _=>st b o (k1 b o e n hb),λ b o e n hb _=>?_,λ b o e n _=>?_,λ b o e _=>?_,λ b xs e=>un.tups b xs (IB.tups b xs e),λ b o xs e=>un.frzs b o xs (IB.frzs b o xs e),λ b ps e=>?_⟩
 ·obtain ⟨sl,e1⟩:=IB.slot b o e n hb (5:);have n1:=IB.free b o e n (5:);obtain ⟨sl2,e2⟩:=un.slot b _ e1 n1 (by rw [zcH]; exact yav _ hb) (5:);obtain ⟨o3,e3,d3⟩:=fr b hb;obtain ⟨sl3,e4⟩:=sm b hb _ e3 d3;rw [e2] at e3;cases e3;exact ⟨sl3,e4⟩
 ·obtain ⟨o1,e1⟩:=IB.there b o e (5:);exact un.free b o1 e1 (IB.free b o e n (5:)) (5:)
 ·by_cases hb : b ∈ frs outer
  ·obtain ⟨o3,e3,d3⟩:=fr b hb;obtain ⟨sl3,e4⟩:=sm b hb _ e3 d3;exact ⟨_,e4⟩
  ·obtain ⟨ob,q⟩:=k2 b o e hb;exact ⟨ob,st b ob q⟩
 ·obtain ⟨m1,e1⟩:=IB.tbls b ps e;obtain ⟨m2,e2⟩:=un.tbls b _ e1;exact ⟨m1 ++ m2,by rw [e2,ycq]⟩
def zjc {e:Value} {Cc:Addr} {oC:Obj} {m:Str -> Option Value} {cenv:Env} {Q:Value -> Shared -> Prop} {acc:Value} (I:Inv (cxOf (CX2 P w) P w K mg base N qual scope f cd A outer s0 H0 E) pins σ H s)
  (h:CX2 P w (envOfC qual scope s0.heap.objs.size f cd :: outer) H s E e s') (hcf:cenv.frame=some s0.heap.objs.size) (gC:s.heap.get? Cc=some oC) (hHC:H Cc=none) (nC:Cc ∉ frs (envOfC qual scope s0.heap.objs.size f cd :: outer)) (nsC:s.heap.Ns Cc m) (hs0:s0.heap.objs.size <= Cc) :
  notedBy (model P w) (A.deeper (envOfC qual scope s0.heap.objs.size f cd)) cenv (λ x z=>compPost (model P w) (A.deeper (envOfC qual scope s0.heap.objs.size f cd)) (cxOf (CX2 P w) P w K mg base N qual scope f cd A outer s0 H0 E).xe none Q acc Cc (.error x) z) e s':=by
 obtain ⟨a,C,a0,H',B,d,rfl,hos,hb,un,hok,fl,tr,kp,kp2,dk,he⟩:=h;have hCB:B.get? Cc=some oC:=kp Cc oC gC hHC nC;have fr:∀ b ∈ frs outer,∃ o,s'.heap.get? b=some o /\ ∀ vs,o.data ≠ .fields vs:=λ b hb=>(fl.2.2.1.mem (show b ∈ frs (envOfC qual scope s0.heap.objs.size f cd :: outer) by rw [zcH]; exact yav _ hb)).2;have nCo:∀ b ∈ frs outer,b ≠ Cc:=λ b hb z=>nC (by rw [zcH,<- z]; exact yav _ hb);have IB:Un (frs outer) [] H0 H s0.heap s.heap:=I.base;have lt0:∀ b o,s0.heap.get? b=some o -> b ≠ Cc:=λ b o e z=>yaJ _ (yaf (yae e) (z ▸ hs0));have hid:∀ b o,B.get? b=some o -> b ≠ Cc -> (B.hide Cc).get? b=some o:=λ b o e ne=>(Heap.hide_ne B ne).trans e;have aC:a ≠ Cc:=λ z=>by have:=fl.2.1; rw [z,hCB] at this; cases this
 show wpAny (model P w) (A.deeper (envOfC qual scope s0.heap.objs.size f cd)) (noteFrame (.ref a) cenv) _ _ s';rw [znE (env':=envOfC qual scope s0.heap.objs.size f cd) hcf];have fa:FlyA B (envOfC qual scope s0.heap.objs.size f cd :: outer) a (.ref C) a0 s'.heap:=⟨fl.1,fl.2.1,fl.2.2.1,_,fl.2.2.2⟩
 refine wpAny_mono (Tame.any (e:=a) (d:=d) (E:=λ _ _=>False) (zeJ _ _) (zia (Q:=λ _ z=>∃ h4,z={ s' with heap:=h4 } /\ FlyA B (envOfC qual scope s0.heap.objs.size f cd :: outer) a (.ref C) a0 h4 /\ s'.heap.UpToSlots h4) I.ok.frames rfl fa λ h4 x4 sm4=>⟨h4,rfl,x4,sm4⟩) dk) (λ _ z hz=>?_) λ _ _ z=>z.1.elim;obtain ⟨⟨h4,rfl,x4,sm4⟩,dk4⟩:=hz
 have ns4:h4.Ns Cc m:=by
  obtain ⟨o,es,ep,ho,r⟩:=nsC;rw [gC] at ho;cases ho;exact ⟨oC,es,ep,x4.1 _ _ hCB,r⟩
 refine ⟨m,ns4,λ h5 sb cenv' _=>?_⟩;have x5:=x4.but hCB sb
 have dk5:DK a d h5:=by
  obtain ⟨o,ho,hd⟩:=dk4;exact ⟨o,(sb.2 a aC).trans ho,hd⟩
 unfold PySem.passOn;obtain ⟨_,_,_,_,oe,vs,T,oT,ts,g1,g2,g3,g4,_⟩:=id x5;refine wpAny_bind (wpAny_field g1 g3 g4 ?_);rw [if_neg (show ¬ ((Value.ref T == Value.none)=true) by simp)];refine wpAny_bind (wpAny_mono (Tame.any (e:=a) (d:=d) (E:=λ _ _=>False) (zbe _ _) (zja (Q:=λ _ z=>∃ h6,z={ s' with heap:=h6 } /\ FlyA (B.hide Cc) (envOfC qual scope s0.heap.objs.size f cd :: outer) a (.ref C) a0 h6 /\ h5.UpToSlots h6) x5 λ h6 x6 sm6=>⟨h6,rfl,x6,sm6⟩) dk5) (λ _ z hz=>?_) λ _ _ z=>z.1.elim);obtain ⟨⟨h6,rfl,x6,sm6⟩,dk6⟩:=hz;refine wpAny_throw ?_;show wpAny (model P w) (A.deeper (envOfC qual scope s0.heap.objs.size f cd)) (leaving (envOfC qual scope s0.heap.objs.size f cd) (.ref a)) _ _ { s' with heap:=h6 };refine wpAny_mono (Tame.any (e:=a) (d:=d) (E:=λ _ _=>False) (zdP _ _) (zjS (Q:=λ _ z=>∃ h7,z={ s' with heap:=h7 } /\ Heap.FlyingW (B.hide Cc) outer a (.ref C) a0 h7 /\ h6.UpToSlots h7) I.ok.frames rfl x6 λ h7 x7 sm7=>⟨h7,rfl,x7,sm7⟩) dk6) (λ _ z hz=>?_) λ _ _ z=>z.1.elim;obtain ⟨⟨h7,rfl,x7,sm7⟩,dk7⟩:=hz
 have k1:∀ b o,s0.heap.get? b=some o -> H0 b=none -> b ∉ frs outer -> (B.hide Cc).get? b=some o:=λ b o e n hb=>
  hid b o (kp b o (IB.keep b o e n hb (5:)) (IB.free b o e n (5:)) (zdb e hb)) (lt0 b o e)
 have k2:∀ b o,s0.heap.get? b=some o -> b ∉ frs outer -> ∃ ob,(B.hide Cc).get? b=some ob:=λ b o e hb=>by
  obtain ⟨o1,e1⟩:=IB.there b o e (5:);obtain ⟨ob,q⟩:=kp2 b o1 e1 (zdb e hb);exact ⟨ob,hid b ob q (lt0 b o e)⟩
 have hC':H' Cc=none:=un.free Cc oC gC hHC (5:)
 have tr':∀ b o,H' b=some o -> ∃ ob,(B.hide Cc).get? b=some ob:=λ b o e=>by
  obtain ⟨ob,q⟩:=tr b o e;exact ⟨ob,hid b ob q λ z=>by rw [z,hC'] at e; cases e⟩
 have sm:zmA (frs outer) s'.heap h7:=λ b hb o ho hd=>by
  obtain ⟨sl1,e1⟩:=sm4 b o ho hd;have e2:h5.get? b=some { o with slots:=sl1 }:=(sb.2 b (nCo b hb)).trans e1;obtain ⟨sl3,e3⟩:=sm6 b _ e2 hd;obtain ⟨sl4,e4⟩:=sm7 b _ e3 hd;exact ⟨sl4,e4⟩
 exact ⟨a,C,a0,H',B.hide Cc,d,rfl,hos.trans I.os,hb,znr I un k1 k2 fr x7.1 sm,zf8 hok tr' (λ b o q=>fl.1 b o (Heap.of_hide q)) x7.1,x7,tr',k1,k2,dk7,he⟩
end
noncomputable def XEc (X:Cx) (scope:Scope) (N':List Str) (EK:XK) (C:Addr) (s:Shared) (H:Hp) (fp:List Addr):Value -> Shared -> Prop:=λ e s'=>∃ pins σ Hc sc,Inv (zar X scope N' C s H fp) pins σ Hc sc /\ CX2 X.prog X.w X.stack Hc sc EK e s'
section
variable {prog:Program} {w:World} {A:Around} {R:Result -> Shared -> Prop} {s:Shared}
def ziM {elt target iter:Expr} {ifs:List Expr} {scope:Scope} {pos:Pos} {it acc:Value} {env:Env} {EX:Value -> Shared -> Prop} (hEX:∀ e s',EX e s' -> notedBy (model prog w) A env (λ x z=>R (.error x) z) e s') (I:Nat -> Shared -> Prop)
  (turn : ∀ n s, I n s -> wpAny (model prog w) A (pyNext it) (fun r s₁ => match r with
   | none=>R (.ok .next) s₁
   | some v=>wpAny (model prog w) A (letOwnedTupleGo target it v) (λ _ s₁'=>wpAny (model prog w) A (assign target env v) (λ _ s₂=>
     wpAny (model prog w) A (forIn ifs true λ c r=>if r=true then do let ok <- isTrue c env (eval c env); pure (ForInStep.yield ok) else pure (ForInStep.yield r)) (λ ok s₃=>
      if ok=true then wpAny (model prog w) A (eval elt env) (λ x s₄=>
       wpAny (model prog w) A (call (.builtin "list.append") [acc,x]) (λ _ s₅=>∃ m,m < n /\ I m s₅) (λ _ _=>False) s₄) EX s₃
      else ∃ m,m < n /\ I m s₃) (λ _ _=>False) s₂) (λ _ _=>False) s₁') (λ _ _=>False) s₁) (λ _ _=>False) s)
  (n:Nat) (h:I n s) :
  codeAny (model prog w) A (.compLoop (.ListComp elt [⟨target,iter,ifs,0⟩] scope pos) 0 it acc env) R s:=by
 refine codeAny_loop rfl I (λ n s hI=>?_) n h;show wpAny _ A ((compTurn (.ListComp elt [⟨target,iter,ifs,0⟩] scope pos) 0 it acc env).onRaise (λ x=>do noteFrame x env; theTreesLotGoes x)) _ _ s;refine wpAny_noted ?_;rw [compTurn_list];refine wpAny_bind (wpAny_standAt (wpAny_bind (wpAny_mono (turn n s hI) (λ r s₁ h₁=>?_) λ _ _ h'=>False.elim h')));cases r with
 | none=>exact wpAny_pure h₁
 | some v=>
  refine wpAny_bind (wpAny_mono h₁ (λ _ s₁' h₁'=>?_) λ _ _ h'=>False.elim h');refine wpAny_bind (wpAny_mono h₁' (λ _ s₂ h₂=>wpAny_bind (wpAny_mono h₂ (λ ok s₃ h₃=>?_) λ _ _ h'=>False.elim h')) λ _ _ h'=>False.elim h');cases ok with
  | false=>exact wpAny_pure ⟨rfl,h₃⟩
  | true=>
   exact wpAny_bind (wpAny_bind (wpAny_mono h₃ (λ x s₄ h₄=>wpAny_bind (wpAny_mono h₄ (λ _ s₅ h₅=>wpAny_pure (wpAny_pure ⟨rfl,h₅⟩)) λ _ _ h'=>False.elim h')) λ e s' h'=>hEX e s' h'))
end
section
variable {X:Cx} {tg iter elt:Expr} {ifs:List Expr} {scope sc:Scope} {pos:Pos} {N N':List Str} {src:List (Option Nat)} {wi:TI} {g:TG} {tc:TT} {te:TE}
def zjg {EK:XK} (hc:X.calm=true) (hN:X.N=N) (hsc:X.env.scope=sc) (ok:CompOk N sc scope N' src)
    (hg:∀ C s H fp,PG (zar X scope N' C s H fp) tg g) (ht:∀ C s H fp,PTs (zar X scope N' C s H fp) ifs tc) (he:∀ C s H fp,PE ((zar X scope N' C s H fp).wish (XEc X scope N' EK C s H fp)) elt te)
    {pins:List (Addr × Obj)} {σ:St} {H2:Hp} {s₂:Shared} {J:It} {it:Addr} {fp:List Addr} {tn:Nat -> Heap -> Prop} (I2:Inv X pins σ H2 s₂) (T:Turn X.prog X.w X.K tg J fp it tn) (st2:tn 0 s₂.heap) (f2:∀ b ∈ fp,FpOk X pins H2 b)
    {Q:VK} (hw:zcl J src σ g tc te Q H2) {E:Value -> Shared -> Prop} {RR:Value -> Addr -> Result -> Shared -> Prop}
    (fin:∀ D C s' acc H' oC m,Inv X pins σ (upd H' D (.lst acc)) s' -> Q (.ref D) (upd H' D (.lst acc)) -> s'.heap.get? C=some oC -> s'.heap.Ns C m -> (∀ v,oC.data ≠ .cell v) -> FpOk X pins (upd H' D (.lst acc)) C -> RR (.ref D) C (.ok .next) s')
    (xit:∀ D C s4 s5 Hc e oC m,Inv X pins σ Hc s4 -> CX2 X.prog X.w X.stack Hc s4 EK e s5 -> s4.heap.get? C=some oC -> s4.heap.Ns C m -> Hc C=none -> C ∉ frs X.stack -> X.s₀.heap.objs.size <= C -> notedBy (model X.prog X.w) X.A (compEnvC scope (clOf X.env scope) C X.env) (λ x z=>RR (.ref D) C (.error x) z) e s5) :
    wpAny (model X.prog X.w) X.A (newList []) (λ acc s₃=>wpAny (model X.prog X.w) X.A (newFunctionEnv scope X.env.globals (clOf X.env scope) [] X.env.qual none .none (some X.env)) (λ cenv s₄=>
      codeAny (model X.prog X.w) X.A (.compStart (.ListComp elt [⟨tg,iter,ifs,0⟩] scope pos) 0 (.ref it) acc { cenv with scope:=relabel scope X.env }) (RR acc cenv.locals) s₄) E s₃) E s₂:=by
  subst hN hsc;refine wpAny_newObj_type (wpAny_newFunctionEnv ok.cell (by intro y hy; simp at hy) (λ h₁ hns₁ hsb₁=>?_) ok.kind);dsimp only at hns₁ hsb₁ ⊢;generalize hHp:s₂.heap.push { cls:=.type "list",dict:=none,data:=.seq ([]:List Value).toArray }=Hp2 at hns₁ hsb₁ ⊢;have hC:Hp2.objs.size=s₂.heap.objs.size + 1:=by rw [<- hHp,ybh]
  have hDC:s₂.heap.objs.size ≠ Hp2.objs.size:=by rw [hC]; exact yap (Nat.lt_succ_self _)
  have hCle:s₂.heap.objs.size <= Hp2.objs.size:=by rw [hC]; exact Nat.le_succ _
  have below:∀ b,b < s₂.heap.objs.size -> b ≠ Hp2.objs.size /\ b ≠ s₂.heap.objs.size:=λ b hb=>⟨by rw [hC]; exact yap (Nat.lt_succ_of_lt hb),yap hb⟩
  have old:∀ b o,s₂.heap.get? b=some o -> h₁.get? b=some o:=λ b o e=>hsb₁.extBut b o (below b (yae e)).1 (yac _ (hHp ▸ yac _ e));have hacc:h₁.PlainList s₂.heap.objs.size #[]:=⟨_,hsb₁.extBut _ _ hDC (yac _ (hHp ▸ yal _ rfl))⟩
  have hst₁:tn 0 h₁:=T.keep _ _ _ st2 λ b _ o e=>old b o e
  have fpl:∀ b ∈ fp,b < s₂.heap.objs.size:=λ b hb=>by
    obtain ⟨o,e,_⟩:=T.obj 0 _ st2 b hb;exact yae e
  generalize hCd:Hp2.objs.size=C at hns₁ hsb₁ hC hDC hCle below ⊢;generalize hDd:s₂.heap.objs.size=D at hC hDC hCle below hacc fpl ⊢;have freshH:∀ a,D <= a -> H2 a=none:=λ a ha=>I2.hok.fresh (by rw [hDd]; exact ha)
  have cellLt:∀ x c,X.env.cells.lookup x=some c -> c < D:=λ x c e=>by
    obtain ⟨v,o,ho,_⟩:=I2.cell x c e;rw [<- hDd];exact yae ho
  -- the block's context is right
  have oky:(zar X scope N' C s₂ H2 fp).Ok:=by
    refine ⟨I2.ok.mod,?_,I2.ok.glob,I2.ok.blt,?_,λ x y c h1 h2=>I2.ok.inj x y c (zaI h1) (zaI h2),λ x hx=>?_,λ x c z=>absurd z (44:),I2.ok.hd,I2.ok.frames,.inl rfl,λ b hb=>?_,I2.bs,yaV I2.ok.bsz I2.sz,λ b o e hb=>?_,λ b hb z=>?_,I2.stack,I2.stkFree⟩
    · exact ok.kind
    · show s₂.heap.objs.size <= C;rw [hDd]; exact hCle
    · have hm:=zaW (env:=X.env) (x:=x) ok.cell hx;obtain ⟨c,e⟩:=I2.ok.has x (ok.free _ hm rfl);exact ⟨c,zd7 e hm⟩
    · exact ⟨(below b (fpl b hb)).1,λ x c e=>(f2 b hb).2.2.2.2.1 x c (zaI e)⟩
    · have q := I2.ok.bs b o e;rcases (f2 b hb).2.2.2.1 with z | z
      · exact I2.ok.noex b o e z
      · exact absurd (yaf (yae q.1) z) (yaJ _)
    · rcases yao.mp (I2.stkSub b z) with e | e
      · exact (f2 b hb).2.1 e
      · exact (f2 b hb).2.2.1 e
  have stkLt:∀ b ∈ frs X.stack,b < D:=λ b hb=>by
    obtain ⟨_,o,ho,_⟩:=I2.stack.mem hb;rw [<- hDd];exact yae ho
  have fpo:∀ {H':Hp} {pl:List (Addr × Obj)},(∀ b ∈ fp,H' b=none) -> (∀ p ∈ pl,p.1 ∉ fp) -> ∀ b ∈ fp,FpOk (zar X scope N' C s₂ H2 fp) pl H' b:=λ {H' pl} hn hp b hb=>
    ⟨hn b hb,(below b (fpl b hb)).1,λ z=>(oky.exfs b hb) z,.inl hb,λ x c e=>(f2 b hb).2.2.2.2.1 x c (zaI e),λ p hp' z=>by
      have hp':p ∈ pl:=by simpa [zar] using hp'
      exact hp p hp' (by rw [z]; exact hb)⟩
  have Dfp:D ∉ fp:=λ z=>yaJ _ (fpl D z)
  -- the zdG
  have Iy:∀ tk,Inv (zar X scope N' C s₂ H2 fp) [] (capt src σ) H2 { s₂ with heap:=h₁,toks:=tk }:=λ tk=>by
    refine ⟨oky,rfl,I2.bare,Un.kept old,⟨_,hns₁,λ i x v h1 h2 _=>?_⟩,λ x c e=>?_,freshH _ hCle,λ x c e=>I2.freeC x c (zaI e),λ p hp=>absurd hp (44:),I2.hok.kept old,?_⟩
    · have h2:(src[i]?).map (λ o=>o.bind λ j=>(σ[j]?).getD none)=some (some v):=by
        rw [<- h2]; simp [capt]
      cases e:src[i]? with
      | none=>rw [e] at h2; cases h2
      | some o=>
        rw [e] at h2;cases o with
        | none=>cases h2
        | some j=>
          have h2:(σ[j]?).getD none=some v:=Option.some.inj h2
          have h3:σ[j]?=some (some v):=by
            cases q:σ[j]? with
            | none=>rw [q] at h2; cases h2
            | some y=>rw [q] at h2; cases h2; rfl
          obtain ⟨a1,a2,a3⟩:=ok.cap i j x e h1;obtain ⟨m,hn,hl⟩:=I2.loc;obtain ⟨u,ru,lu⟩:=hl j x v a1 h3 (.inr a2);refine ⟨u,ru,?_⟩;rcases lu with ⟨k,_⟩ | ⟨k,c,ec,hcell⟩
          · have k:X.env.scope.names.lookup x=some .local:=k;rcases a2 with z | z <;> rw [k] at z <;> cases z
          · refine .inr ⟨zaX a3,c,zd7 ec (ya2 a3),?_⟩;obtain ⟨o,ho,hd⟩:=hcell;exact ⟨o,old c o ho,hd⟩
    · obtain ⟨v,o,ho,hd⟩:=I2.cell x c (zaI e);exact ⟨v,o,old c o ho,hd⟩
    · show (capt src σ).length=N'.length;rw [capt,yad]; exact ok.len
  have hXE:∀ e s5,XEc X scope N' EK C s₂ H2 fp e s5 -> notedBy (model X.prog X.w) X.A (compEnvC scope (clOf X.env scope) C X.env) (λ x z=>RR (.ref D) C (.error x) z) e s5:=by
    rintro e s5 ⟨pins',σ',Hc,sc,Ic,hx⟩
    have chk:∀ b ∈ fp,(b ∈ X.ex \/ X.s₀.heap.objs.size <= b) /\ b ≠ X.env.locals /\ (∀ x c,X.env.cells.lookup x=some c -> c ≠ b) /\ ∀ p ∈ X.pn ++ pins,p.1 ≠ b:=λ b hb=>by
      obtain ⟨_,f1,_,f3,f4,f5⟩:=f2 b hb;exact ⟨f3,f1,f4,f5⟩
    have un:Un (frs X.stack) fp H2 Hc s₂.heap sc.heap:=Ic.base
    have IX:Inv X pins σ Hc sc:=by
      have hos:sc.os=s₂.os:=Ic.os;have hb4:=Ic.bare;have hok4:=Ic.hok;clear hx;obtain ⟨hh,gg,dd,tt,os'⟩:=sc;obtain rfl:os'=s₂.os:=hos;exact I2.call (h':=hh) (g':=gg) (d':=dd) (t':=tt) (ch:=fp) un hok4 hb4 chk
    obtain ⟨mC,hnC,_⟩:=Ic.loc;have hnC:sc.heap.Ns C mC:=hnC;obtain ⟨oC,es,ep,eC,dC,rC⟩:=id hnC;exact xit D C sc s5 Hc e oC mC IX hx eC hnC Ic.free (λ z=>yaJ _ (yaf (stkLt C z) hCle)) (yaV I2.sz (50:))
  obtain ⟨W,⟨m0,w0⟩,turn⟩:=hw
  have loop:∀ tk,codeAny (model X.prog X.w) X.A (.compLoop (.ListComp elt [⟨tg,iter,ifs,0⟩] scope pos) 0 (.ref it) (.ref D) (compEnvC scope (clOf X.env scope) C X.env)) (RR (.ref D) C) { s₂ with heap:=h₁,toks:=tk }:=by
    intro tk
    refine ziM (EX:=XEc X scope N' EK C s₂ H2 fp) hXE (λ n s'=>∃ i H' acc its,Inv (zar X scope N' C s₂ H2 fp) [] (capt src σ) H' s' /\ tn i s'.heap /\ (∀ b ∈ fp,H' b=none) /\ H' D=none /\ s'.heap.PlainList D (List.toArray its) /\ Vals acc its /\ W i n acc H') ?_ m0
      ⟨0,H2,[],[],Iy tk,hst₁,λ b hb=>(f2 b hb).1,freshH _ (yah _),hacc,.nil,w0⟩
    rintro n s3 ⟨i,H3,acc,its,I3,st3,fr3,hD3,pl3,v3,w3⟩;obtain ⟨hz,turn⟩:=turn i n acc H3 w3;obtain ⟨nD,eD⟩:=pl3;have Dfs:D ∉ frs X.stack:=λ z=>yaJ _ (stkLt D z)
    have I3D:Inv (zar X scope N' C s₂ H2 fp) [(D,{ cls:=.type "list",data:=.seq its.toArray nD })] (capt src σ) H3 s3:=I3.pins_of λ p hp=>by
      have hp:p=(D,{ cls:=.type "list",data:=.seq its.toArray nD }):=by simpa [zar] using hp
      subst hp;exact ⟨eD,hD3,hDC,Dfs,λ v z=>nomatch z⟩
    have pD:∀ p ∈ [(D,({ cls:=.type "list",data:=.seq its.toArray nD }:Obj))],p.1 ∉ fp:=λ p hp=>by
      have hp:p=(D,{ cls:=.type "list",data:=.seq its.toArray nD }):=by simpa using hp
      subst hp;exact Dfp
    rcases turn with ⟨stop,qn⟩ | ⟨go,N1,N2,hN1,hN2,step⟩
    · refine thn (T.done (zar X scope N' C s₂ H2 fp) rfl rfl rfl hc i _ s3 _ H3 _ I3D (fpo fr3 pD) st3 stop) fun r s4 ⟨hr, I4⟩ => ?_;subst hr;obtain ⟨eD4, hD4, _⟩ := I4.pin (D, { cls := .type "list", data := .seq its.toArray nD }) (44:);have hok4 : HOk X.prog X.w (upd H3 D (.lst acc)) s4.heap := Inv.lst_made (pins := []) (σ := []) _ _ I4.hok hD3 hz v3 ⟨nD, eD4⟩
      have un:Un (frs X.stack) fp H2 (upd H3 D (.lst acc)) s₂.heap s4.heap:=by
        have u:Un (frs X.stack) fp H2 H3 s₂.heap s4.heap:=I4.base;have ne:∀ b o,s₂.heap.get? b=some o -> b ≠ D:=λ b o e=>yap (hDd ▸ yae e);refine ⟨u.keep,u.slot,λ b o e n hx=>?_,u.there,λ b xs e=>?_,λ b o x e=>?_,λ b ps e=>?_⟩
        · rw [zal (ne b o e)]; exact u.free b o e n hx
        · have q:=u.tups b xs e;rw [zal (zaq q hD3)]; exact q
        · have q:=u.frzs b o x e;rw [zal (zaq q hD3)]; exact q
        · obtain ⟨more,q⟩:=u.tbls b ps e;exact ⟨more,by rw [zal (zaq q hD3)]; exact q⟩
      have chk:∀ b ∈ fp,(b ∈ X.ex \/ X.s₀.heap.objs.size <= b) /\ b ≠ X.env.locals /\ (∀ x c,X.env.cells.lookup x=some c -> c ≠ b) /\ ∀ p ∈ X.pn ++ pins,p.1 ≠ b:=λ b hb=>by
        obtain ⟨_,f1,_,f3,f4,f5⟩:=f2 b hb;exact ⟨f3,f1,f4,f5⟩
      have IX:Inv X pins σ (upd H3 D (.lst acc)) s4:=by
        have hos:s4.os=s₂.os:=I4.os;have hb4:=I4.bare;obtain ⟨hh,gg,dd,tt,os'⟩:=s4;obtain rfl:os'=s₂.os:=hos;exact I2.call (h':=hh) (g':=gg) (d':=dd) (t':=tt) (ch:=fp) un hok4 hb4 chk
      obtain ⟨mC,hnC,_⟩:=I4.loc;have hnC:s4.heap.Ns C mC:=hnC;obtain ⟨oC,es,ep,eC,dC,rC⟩:=id hnC
      have fC:FpOk X pins (upd H3 D (.lst acc)) C:=by
        refine ⟨by rw [zal hDC.symm]; exact I4.free,ybo (yaf I2.lt (50:)),I2.nofs (50:),.inr (yaV I2.sz (50:)),λ x c e z=>?_,λ p hp z=>?_⟩
        · have:=cellLt x c e;rw [z] at this;exact yaJ _ (yaf this hCle)
        · have:=yae (I2.pin p hp).1;rw [z,hDd] at this;exact yaJ _ (yaf this hCle)
      exact fin D C s4 acc H3 oC mC IX (qn D hD3) eC hnC (λ v z=>by rw [dC] at z; cases z) fC
    · refine thn (T.item (zar X scope N' C s₂ H2 fp) rfl rfl rfl hc i _ s3 _ H3 _ I3D (fpo fr3 pD) st3 go) fun r s4 ⟨u, hr, h4⟩ => ?_;subst hr;refine thn h4 fun _ s5 ⟨x, H5, I5, r5, y5, st5, fr5⟩ => ?_;have I5' := I5.pinned (fpo fr5 pD) (T.obj _ _ st5);refine thn (hg C s₂ H2 fp _ s5 _ H5 x u _ I5' r5 (step x H5 y5)) fun _ s6 ⟨σ6, H6, I6, ex6, q6⟩ => ?_;refine thn (ht C s₂ H2 fp _ s6 σ6 H6 _ I6 q6) fun b s7 ⟨H7, I7, q7⟩ => ?_
      -- back to the zdG of a turn
      have back:∀ {s8:Shared} {H8:Hp},Inv (zar X scope N' C s₂ H2 fp) ([(D,({ cls:=.type "list",data:=.seq its.toArray nD }:Obj))] ++ zfK fp s5.heap) σ6 H8 s8 ->
          Inv (zar X scope N' C s₂ H2 fp) [] (capt src σ) H8 s8 /\ tn (i + 1) s8.heap /\ (∀ b ∈ fp,H8 b=none) /\ H8 D=none /\ s8.heap.get? D=some { cls:=.type "list",data:=.seq its.toArray nD }:=λ {s8 H8} I8=>by
        have pf:∀ b ∈ fp,∀ o,s5.heap.get? b=some o -> s8.heap.get? b=some o /\ H8 b=none:=λ b hb o e=>by
          have q:=I8.pin (b,o) (yaC _ (yaC _ (zcr hb e)));exact ⟨q.1,q.2.1⟩
        have qD:=I8.pin (D,{ cls:=.type "list",data:=.seq its.toArray nD }) (yaC _ (ya6 _ yaF));refine ⟨(I8.pins_of (pins':=[]) λ p hp=>absurd hp (44:)).weak ex6.1 ex6.2,T.keep _ _ _ st5 λ b hb o e=>(pf b hb o e).1,λ b hb=>?_,qD.2.1,qD.1⟩;obtain ⟨o,e,_⟩:=T.obj _ _ st5 b hb;exact (pf b hb o e).2
      cases b with
      | false=>
        obtain ⟨m',hm,w7⟩:=hN2 H7 (by simpa using q7);obtain ⟨J8,st8,fr8,hD8,eD8⟩:=back I7;exact (by simpa using (⟨m',hm,i + 1,H7,acc,its,J8,st8,fr8,hD8,⟨nD,eD8⟩,v3,w7⟩:∃ m,m < n /\ ∃ i H' acc its,Inv (zar X scope N' C s₂ H2 fp) [] (capt src σ) H' s7 /\ tn i s7.heap /\ (∀ b ∈ fp,H' b=none) /\ H' D=none /\ s7.heap.PlainList D (List.toArray its) /\ Vals acc its /\ W i m acc H'))
      | true=>
        have q7:te σ6 H7 N1:=by simpa using q7
        show wpAny _ _ _ _ _ _;refine wpAny_mono (he C s₂ H2 fp _ s7 σ6 H7 _ (I7.wish _) q7) (λ u8 s8 ⟨y,H8,I8',r8,n8⟩=>?_) λ _ _ z=>z;have I8:=I8'.unwish;obtain ⟨m',hm,w8⟩:=hN1 y H8 n8;obtain ⟨J8,st8,fr8,hD8,eD8⟩:=back I8
        have hl8:its.toArray.size <= sizeLine:=by
          have:=v3.length;simp only [yak];omega
        refine wpAny_list_append_plain (l:=D) (items:=its.toArray) ⟨nD,eD8⟩ (λ h' pl9 sb9=>?_) hl8;have kp:∀ b o,b ≠ D -> s8.heap.get? b=some o -> h'.get? b=some o:=λ b o hb e=>(sb9.2 b hb).trans e
        have J9:Inv (zar X scope N' C s₂ H2 fp) [] (capt src σ) H8 { s8 with heap:=h' }:=J8.turned (t':=s8.toks) kp hD8 hDC (.inr (show s₂.heap.objs.size <= D from Nat.le_of_eq hDd))
          (λ x c e z=>yaJ D (by have:=cellLt x c (zaI e); rw [z] at this; exact this)) (λ p hp=>absurd hp (44:))
        refine ⟨m',hm,i + 1,H8,acc ++ [y],its ++ [u8],J9,T.keep _ _ _ st8 λ b hb o e=>kp b o (λ z=>Dfp (z ▸ hb)) e,fr8,hD8,?_,v3.append (.cons r8 .nil),w8⟩;have e9:its.toArray.push u8=(its ++ [u8]).toArray:=by simp
        rw [<- e9]; exact pl9
  exact codeAny_compStart_list (loop _) (T.self _ 0 _ _ _ hst₁ (loop _))
end
section
variable {P:Program} {w:World} {K:PySem.W.Frag} {mg:Str -> Option Value} {base:Heap} {N0:List Str} {qual:Str} {scope0:Scope} {f:Addr} {cd:Value} {A:Around} {outer:List Env} {s0:Shared} {H0:Hp} {E:XK}
  {tg iter elt:Expr} {ifs:List Expr} {scope sc:Scope} {pos:Pos} {N N':List Str} {src:List (Option Nat)} {wi:TI} {g:TG} {tc:TT} {te:TE}
def zl5 (hc:(cxOf (CX2 P w) P w K mg base N0 qual scope0 f cd A outer s0 H0 E).calm=true) (hi:PI (cxOf (CX2 P w) P w K mg base N0 qual scope0 f cd A outer s0 H0 E) tg iter wi) (hg:∀ C s H fp,PG (zar (cxOf (CX2 P w) P w K mg base N0 qual scope0 f cd A outer s0 H0 E) scope N' C s H fp) tg g) (ht:∀ C s H fp,PTs (zar (cxOf (CX2 P w) P w K mg base N0 qual scope0 f cd A outer s0 H0 E) scope N' C s H fp) ifs tc)
  (he:∀ C s H fp,PE ((zar (cxOf (CX2 P w) P w K mg base N0 qual scope0 f cd A outer s0 H0 E) scope N' C s H fp).wish (XEc (cxOf (CX2 P w) P w K mg base N0 qual scope0 f cd A outer s0 H0 E) scope N' E C s H fp)) elt te)
  (ok:zh9 N sc scope N' src=true) (hN:(cxOf (CX2 P w) P w K mg base N0 qual scope0 f cd A outer s0 H0 E).N=N:=by rfl) (hsc:(cxOf (CX2 P w) P w K mg base N0 qual scope0 f cd A outer s0 H0 E).env.scope=sc:=by rfl) (hs:∀ x,foldedSetIterable iter (cxOf (CX2 P w) P w K mg base N0 qual scope0 f cd A outer s0 H0 E).env x=pure x:=by intro _; rfl) :
  PE (cxOf (CX2 P w) P w K mg base N0 qual scope0 f cd A outer s0 H0 E) (.ListComp elt [⟨tg,iter,ifs,0⟩] scope pos) (znn src wi g tc te):=by
 intro pins s σ H Q I h;have ok:=zg8 ok;rw [eval_ListComp];have hclos:closureFor scope (cxOf (CX2 P w) P w K mg base N0 qual scope0 f cd A outer s0 H0 E).env=pure (clOf (cxOf (CX2 P w) P w K mg base N0 qual scope0 f cd A outer s0 H0 E).env scope):=zdd λ p hp hf=>I.ok.has p.1 (by subst hsc; exact ok.free p hp hf);refine wpAny_comprehension_free (use:=none) rfl hs hclos ok.kind ok.names (thn (hi pins s σ H _ I h) λ xv s₁ h₁=>thn h₁ λ itv s₂ h₂=>?_);obtain ⟨it,fp,tn,J,H2,e,I2,T,st2,f2,hw⟩:=h₂;subst e;refine zjg (EK:=E) hc hN hsc ok hg ht he I2 T st2 f2 hw (RR:=λ acc C=>compPost (model P w) (A.deeper (envOfC qual scope0 s0.heap.objs.size f cd)) (cxOf (CX2 P w) P w K mg base N0 qual scope0 f cd A outer s0 H0 E).xe none (EP (cxOf (CX2 P w) P w K mg base N0 qual scope0 f cd A outer s0 H0 E) pins σ Q) acc C) ?_ ?_
 ·intro D C s' acc H' oC m IX q eC hn nc f;obtain ⟨f0,f1,f2',f3,f4,f5⟩:=f;refine ⟨m,hn,λ h' sb=>⟨.ref D,upd H' D (.lst acc),?_,rfl,q⟩⟩;exact IX.turned (t':=s'.toks) (λ b o hb e=>(sb.2 b hb).trans e) f0 f1 f3 f4 f5
 ·intro D C s4 s5 Hc e oC m IX hx gC hn hHC nC hs0;exact zjc IX hx rfl gC hHC nC hn hs0
end
def zma {X:Cx} {scope:Scope} {N':List Str} {C:Addr} {s:Shared} {H:Hp} {fp:List Addr} {EK:XK} {x:Str} {p pos:Pos} {e:Expr} {es:List Expr} {t:TA} {ps:List Str} {k:Nat} {sp:Sp} (h:zfM X.prog X.w X.K X.mg X.base x ps k sp) (hr:Room k X.A)
  (ha:PA ((zar X scope N' C s H fp).wish (XEc X scope N' EK C s H fp)) (e :: es) t) (hg:Gl ((zar X scope N' C s H fp).wish (XEc X scope N' EK C s H fp)) x:=by rfl) (hdb:(x == ("__debug__":Str))=false:=by decide)
  (he:starEach (e :: es) ((zar X scope N' C s H fp).wish (XEc X scope N' EK C s H fp)).env=(false,eval e ((zar X scope N' C s H fp).wish (XEc X scope N' EK C s H fp)).env) :: starEach es ((zar X scope N' C s H fp).wish (XEc X scope N' EK C s H fp)).env:=by rfl)
  (hpl:(backTo pos (starEach es ((zar X scope N' C s H fp).wish (XEc X scope N' EK C s H fp)).env)).any (·.1)=false:=by rfl):PE ((zar X scope N' C s H fp).wish (XEc X scope N' EK C s H fp)) (.Call (.Name x p) (e :: es) [] pos) (zhJ sp [] EK t):=by
 obtain ⟨f,fd,hm,hk,hb,F⟩:=h;exact zjN (X:=(zar X scope N' C s H fp).wish (XEc X scope N' EK C s H fp)) F hr hg hm hk hb .nil (λ pins σ H s e s' I h=>⟨pins,σ,H,s,I.unwish,h⟩) ha hdb he hpl
open Bm
section
variable {X:Cx} {pins:List (Addr × Obj)} {σ:St} {H1:Hp} {s1 s2:Shared} {E:XK} {e:Value} {D:Ends} {ie:Nat} {n cl:Str} {Dc:Addr} {np hpos:Pos} {XE:Value -> Shared -> Prop}
def zjP {b0:Stmt} {bs:List Stmt} {tb:TS} (I:Inv X pins σ H1 s1) (hst:X.stack=X.env :: X.outer) (hfr:X.env.frame=some X.env.locals) (hN:X.N.Nodup) (hie:X.N[ie]?=some n) (hln:X.env.scope.names.lookup n=some .local)
  (hgD:Gl X cl) (hmD:X.mg cl=some (.ref Dc)) (hdd:xcIn X.K Dc Dc=true) (hdb:(cl == ("__debug__":Str))=false) (hset:∀ a,PSs (X.marked a).nox (b0 :: bs) tb)
  (h:CX2 X.prog X.w X.stack H1 s1 E e s2) (hE:∀ C d H',E (.ref C) d H' -> xcIn X.K C Dc=true /\ ∀ a,H' a=none -> tb { nx:=λ σ' H''=>D.nx (σ'.set ie none) H'',rt:=λ _ _=>False } (σ.set ie (some (.ref a))) (upd H' a (.ext (isXD C a d)))) :
  wpAny (model X.prog X.w) X.A (noteFrame e X.env) (λ _ s₂=>wpAny (model X.prog X.w) X.A (setFlight e none) (λ _ s₃=>
   wpAny (model X.prog X.w) X.A (handleBy e X.env [.ExceptHandler (some (.Name cl np)) (some n) (b0 :: bs) hpos]) (SP X pins D) XE s₃) XE s₂) XE s2:=by
 obtain ⟨a,C,a0,H',B,dd,rfl,hos,hb,un,hok,fl,tr,kp,kp2,dk,he⟩:=h;obtain ⟨hcd,hnx⟩:=hE C dd H' he;have fr:∀ b ∈ frs X.stack,∃ o,s2.heap.get? b=some o /\ ∀ vs,o.data ≠ .fields vs:=λ b hb=>(fl.2.2.1.mem hb).2
 have ha:H' a=none:=by
  cases q:H' a with
  | none=>rfl
  | some o=>
   obtain ⟨ob,z⟩:=tr a o q;rw [fl.2.1] at z;cases z
 have hfl:Heap.FlyingW B (X.env :: X.outer) a (.ref C) a0 s2.heap:=hst ▸ fl;have hA:X.A.frames=some (X.env :: X.outer):=hst ▸ I.ok.frames;refine wpAny_mono (Tame.any (e:=a) (d:=dd) (E:=λ _ _=>False) (zeJ _ _) (wpAny_looks_onW (Q:=λ _ z=>∃ h4,z={ s2 with heap:=h4 } /\ Heap.HeldW B (X.env :: X.outer) a (.ref C) a0 X.env.locals h4 /\ s2.heap.UpToSlots h4) hA hfr hfl λ h4 held4 sm4=>⟨h4,rfl,held4,sm4⟩) dk) (λ _ z hz=>?_) λ _ _ z=>z.1.elim;obtain ⟨⟨h4,rfl,held4,sm4⟩,dk4⟩:=hz;refine wpAny_mono (Tame.any (e:=a) (d:=dd) (E:=λ _ _=>False) (zbe _ _) (wpAny_landsW (Q:=λ _ z=>∃ h5,z={ s2 with heap:=h5 } /\ Heap.FlyingW B (X.env :: X.outer) a (.ref C) a0 h5 /\ h4.UpToSlots h5) held4 λ h5 fl5 sm5'=>⟨h5,rfl,fl5,sm5'⟩) dk4) (λ _ z hz=>?_) λ _ _ z=>z.1.elim;obtain ⟨⟨h5,rfl,fl5,sm5'⟩,dk5⟩:=hz;have sm5:=sm4.trans sm5';have I5:Inv X pins σ H' { s2 with heap:=h5 }:=I.call' hos (zjW un kp kp2 fr fl5.1 sm5) (zf8 hok tr fl.1 fl5.1) hb (λ b z=>absurd z (5:));obtain ⟨oe,hoe,hoec⟩:=fl5.there;refine wpAny_handleBy_cons (codeAny_handlers_test ?_) (by intro q; cases q);refine Calls.Name_function_global I5.ok.kind hgD (Calls.loadGlobal_global (by rw [I5.ok.glob]; exact I5.mod.glob.keeps I5.bk) hmD ?_) hdb;refine zd3 I5.kIn hcd hdd hoe hoec ?_;refine codeAny_handlers_suite_as ?_;refine wpAny_mono (Tame.any (e:=a) (d:=dd) (E:=λ _ _=>False) (zbe _ _) (lands_againW (Q:=λ _ z=>∃ h6,z={ s2 with heap:=h6 } /\ Heap.FlyingW B (X.env :: X.outer) a (.ref C) a0 h6 /\ h5.UpToSlots h6) fl5 λ h6 fl6 sm6'=>⟨h6,rfl,fl6,sm6'⟩) dk5) (λ _ z hz=>?_) λ _ _ z=>z.1.elim;obtain ⟨⟨h6,rfl,fl6,sm6'⟩,dk6⟩:=hz;have sm6:=sm5.trans sm6';obtain ⟨o6,vs6,ho6,hc6,hd6,_⟩:=fl6.first
 have hX6:isXD C a dd h6:=by
  obtain ⟨o7,ho7,hd7⟩:=dk6;have z:some o6=some o7:=ho6.symm.trans ho7;cases z;obtain ⟨oc,od,oda,osl⟩:=o6;cases hd6;cases hc6;cases hd7;exact ⟨vs6,osl,ho6⟩
 have hnew:∀ o,s1.heap.get? a=some o -> H1 a=none -> False:=λ o ho hn=>by
  by_cases hb:a ∈ frs X.stack
  ·obtain ⟨o3,e3,d3⟩:=fr a hb;obtain ⟨sl3,e4⟩:=sm6 a _ e3 d3;have z:some o6=some { o3 with slots:=sl3 }:=ho6.symm.trans e4;cases z;exact d3 vs6 hd6
  ·have z:=kp a o ho hn hb;rw [fl.2.1] at z;cases z
 have I6:Inv X pins σ (upd H' a (.ext (isXD C a dd))) { s2 with heap:=h6 }:=I.call' hos (zmi (zjW un kp kp2 fr fl6.1 sm6) ha hnew) (ziT (zf8 hok tr fl.1 fl6.1) ha hX6 ⟨_,ho6⟩ isXD.stable) hb (λ b z=>absurd z (5:));refine zdg I6 hN hie (.inl hln) (v:=.ref a) rfl (λ s7 I7=>?_) (.inr hln);have hrun:=hset a pins s7 (σ.set ie (some (.ref a))) (upd H' a (.ext (isXD C a dd))) _ ((I7.marked a).wish _) (hnx a ha);refine wpAny_mono hrun (λ f s8 hf=>?_) (λ _ _ z=>False.elim z);cases f with
 | next=>
  obtain ⟨σ',H'',I8',q⟩:=hf;have I8:Inv X pins σ' H'' s8:=I8'.unwish.unmarked I.ok.hd I.ok.frames;obtain ⟨m,hn,hl⟩:=id I8.loc;exact wpAny_nameGoes_keeps hln hn (by rw [I8.ok.kind]; rfl) λ h9 v hn9 hs9=>⟨_,_,I8.gone hie hN hn hl hn9 hs9,q⟩
 | brk=>obtain ⟨_,_,_,q⟩:=hf; exact q.elim
 | cont=>obtain ⟨_,_,_,q⟩:=hf; exact q.elim
 | ret u=>obtain ⟨_,_,_,_,_,q⟩:=hf; exact q.elim
end
noncomputable def zmL (t:XK -> TE) (tb:TS) (ie:Nat) (X:Cx) (Dc:Addr):TS:=λ D σ H=>t (λ cls d H'=>∃ C,cls=.ref C /\ xcIn X.K C Dc=true /\ ∀ a,H' a=none -> tb { nx:=λ σ' H''=>D.nx (σ'.set ie none) H'',rt:=λ _ _=>False } (σ.set ie (some (.ref a))) (upd H' a (.ext (isXD C a d)))) σ H λ _ H1=>D.nx σ H1
section
variable {X:Cx} {ie:Nat} {n cl:Str} {Dc:Addr} {ep np hpos pos:Pos} {e:Expr} {t:XK -> TE} {tb:TS} {b0:Stmt} {bs:List Stmt}
def zmk (hst:X.stack=X.env :: X.outer) (hfr:X.env.frame=some X.env.locals) (hN:X.N.Nodup) (hie:X.N[ie]?=some n) (hln:X.env.scope.names.lookup n=some .local)
  (hgD:Gl X cl) (hmD:X.mg cl=some (.ref Dc)) (hdd:xcIn X.K Dc Dc=true) (he:PEX2 X e t) (hset:∀ a,PSs (X.marked a).nox (b0 :: bs) tb) (hdb:(cl == ("__debug__":Str))=false:=by decide) (hse:swapsWith e none ep.line X.env=pure false:=by rfl) :
  PS X (.Try [.Expr e ep] [.ExceptHandler (some (.Name cl np)) (some n) (b0 :: bs) hpos] [] [] pos) (zmL t tb ie X Dc):=by
 intro pins s σ H D I h;refine wpAny_Try_except (wpAny_execs_cons (wpAny_Expr_any (wpAny_mono (he _ pins s σ H _ _ I h (λ H1 s1 e s2 I1 hx=>?_)) (λ v s1 ⟨x,H1,I1,r1,q1⟩=>?_) λ _ _ z=>z) I.quiet hse))
 ·exact zjP I1 hst hfr hN hie hln hgD hmD hdd hdb hset hx λ C d H' ⟨C',e,q⟩=>by cases e; exact q
 ·exact wpAny_execs_nil (wpAny_execs_nil ⟨σ,H1,I1,q1⟩)
end
def znd {t:XK -> TE} {tb:TS} {ie:Nat} {X:Cx} {Dc:Addr} {D:Ends} {σ:St} {H:Hp} (h:t (λ cls d H'=>∃ C,cls=.ref C /\ xcIn X.K C Dc=true /\ ∀ a,H' a=none -> tb { nx:=λ σ' H''=>D.nx (σ'.set ie none) H'',rt:=λ _ _=>False } (σ.set ie (some (.ref a))) (upd H' a (.ext (isXD C a d)))) σ H λ _ H1=>D.nx σ H1):zmL t tb ie X Dc D σ H:=h
structure Exs3 (K:PySem.W.Frag) (mg:Str -> Option Value) (cL cU cH cT cB:Addr):Prop where
 mL:mg "LeadError"=some (.ref cL)
 mT:mg "Lost"=some (.ref cT)
 tt:xcIn K cT cT=true
noncomputable def zkS:Sp:=λ vs H Q _=>∃ (a:Addr) (ls:List Int) (w:Nat),vs=[.ref a,nV w] /\ H a=some (.tup (ls.map V.int)) /\ Ld w ls /\ w <= 64 /\ ∀ H',Same H H' -> Q (.bl true) H'
def zmb {X:Cx} {K:PySem.W.Frag} {e:Expr} {f:Str} {pos:Pos} {ta:TE} {D:Addr} (he:PE X e ta) (hb:attributeBase e f X.env (eval e X.env)=eval e X.env) (hK:X.K=K:=by rfl):PE X (.Attribute e f pos) (zok K D ta f):=hK ▸ znC he hb
noncomputable def zin:Sp:=λ vs H Q _=>∃ (p l:Addr) (w:Nat) (L:List (Addr × Dd)),vs=[.ref p,nV w,.ref l] /\ Hand H p /\ l ≠ p /\ H l=some (.lst (rowV L)) /\ Rw H w L /\ (∀ d ∈ dds L,zax (d.led w)) /\ 1 <= w /\ w <= 64 /\ L.length <= 120 /\ ∀ H',But p H H' -> Hand H' p -> Q (.bl true) H'
noncomputable def wayW (w:Nat) (ds:List Dd) (x i:Nat):List V:=(List.range (i + 1)).map λ j=>nV (rowN w (ds.take j) x)
def zjT (w:Nat) (ds:List Dd) (x j:Nat):wayW w ds x (j + 1)=wayW w ds x j ++ [nV (rowN w (ds.take (j + 1)) x)]:=by
 rw [wayW,wayW,ya3 (n:=j + 1),yat,List.map_singleton]
def zg6 (w:Nat) (ds:List Dd) (x j:Nat):(wayW w ds x j)[(wayW w ds x j).length - 1]?=some (nV (rowN w (ds.take j) x)):=by
 rw [wayW,yad,yar,yag,yan (1:)];rfl
end L2
namespace L2
open PySem PySem.Spec PyProof.Rows Bm
def zl1 {w:Nat} {a b:List Int} (ha:zax a) (la:a.length=w) (hb:zax b) (lb:b.length=w):zax (zat a b):=by
 have A:=zes ha;have B:=zes hb;have A':=zes (zfN ha);have B':=zes (zfN hb);rw [zea] at A' B';rw [la] at A A';rw [lb] at B B';have e1:=zeC ha;have e2:=zgP ha;have e3:=zeC hb;have e4:=zgP hb;rw [la] at e1 e2;rw [lb] at e3 e4;refine zf1 (w:=w) (b:=zat (zbQ b) (zbQ a)) (zbT A B) (zbT B' A') ?_ ?_
 ·rw [zaQ B (zbT B' A'),<- zaQ (a:=b) B' A',e3,zaJ A',e1]
 ·rw [zaQ A' (zbT A B),<- zaQ (a:=zbQ a) A B,e2,zaJ B,e4]
def zkz (w:Nat) (a b:List Dd):zaM w (a ++ b)=zaM w b ++ zaM w a:=by
 rw [zaM,zaM,zaM,yat,ybb]
def zj7 {w:Nat} {d:Dd} (ok:d.ok w) (he:zax (d.led w)):zax ((zcp w d).led w):=by
 cases d with
 | turn n=>
  have hn:n < w:=ok;exact zg5 (ybw _ (1:))
 | _=>exact he
def zfJ {w:Nat} {ds:List Dd} (ok:∀ d ∈ ds,d.ok w) (he:∀ d ∈ ds,zax (d.led w)):∀ d ∈ zaM w ds,zax (d.led w):=λ d hd=>by
 rw [zaM,List.mem_reverse] at hd;obtain ⟨e,h,rfl⟩:=yaP.mp hd;exact zj7 (ok e h) (he e h)
def zkO {w:Nat} {ds:List Dd} (ok:∀ d ∈ ds,d.ok w) (he:∀ d ∈ ds,zax (d.led w)):rowL w (zaM w (zaM w ds))=rowL w ds:=by
 have ok1:=zbm ok;have ok2:=zbm ok1;have e1:=zed ok he;have e2:=zed ok1 (zfJ ok he);rw [<- zaJ (za3 ok2),<- e1,zaQ (za3 ok1) (za3 ok2),e2,zcA (za3 ok)]
def zen {w:Nat}:∀ {ds:List Dd},(∀ d ∈ ds,d.ok w) -> (∀ d ∈ ds,zax (d.led w)) -> zax (rowL w ds)
 | [],_,_=>zg0 w
 | d :: ds,ok,he=>by
  have o1:=ok d (yaF ..);have o2:∀ e ∈ ds,e.ok w:=λ e h=>ok e (yav _ h);rw [zg3 o1 o2];exact zl1 (he d (yaF ..)) (Dd.led_ld o1).1 (zen o2 λ e h=>he e (yav _ h)) (za3 o2).1
def zlG {w:Nat} {ds:List Dd} (ok:∀ d ∈ ds,d.ok w) (he:∀ d ∈ ds,zax (d.led w)):rowL w (zaM w ds)=zbQ (rowL w ds):=by
 have ok1:=zbm ok;have la:=za3 ok;have ev:=zen ok he;have e1:=zft ok he;rw [zeX ok1 ok] at e1;have e2:=zeC ev;have lb:=zmZ ev;rw [la.1] at e2 lb;rw [<- zcA (za3 ok1),<- e2,<- zaQ la lb,e1,zaJ lb]
end L2
set_option maxHeartbeats 4000000
open L2 in
local macro_rules | `(tactic| walk_at "pv")=>`(tactic| exact ⟨rfl,by first | exact Or.inl rfl | exact Or.inr (.inl rfl) | exact Or.inr (.inr rfl),by decide,by decide⟩)
open L2 in
local macro_rules | `(tactic| walk_at "vis")=>`(tactic| first | exact .inl rfl | exact .inr rfl | assumption)
open L2 in
local macro_rules | `(tactic| walk_at "lk2")=>`(tactic| first | assumption | exact zai | (refine (?h:∀ o,upd _ _ o _=some (HO.lst _)) _; (case h=>assumption)))
open L2 in
local macro_rules | `(tactic| walk_at "lk")=>`(tactic| first | assumption | exact zai | exact SqL.of (by walk_at "lk2") | exact SqT.of (by walk_at "lk2") | (refine (?h:∀ o,upd _ _ o _=some (HO.lst _)) _; (case h=>assumption)))
open L2 in
local macro_rules | `(tactic| walk_at "side")=>`(tactic| first | omega | decide | exact ⟨by omega,by omega⟩ | exact ⟨by omega,by omega,by omega⟩ | exact .inl ⟨by omega,by omega⟩ | exact .inr ⟨by omega,by omega⟩)
open L2 in
local macro_rules | `(tactic| walk_at "sz")=>`(tactic| (refine zaR ?_; first | omega | (simp only [yad,yaG,ybC,List.length_nil,yar,yaT,Bm.bitsB]; omega)))
open L2 in
local macro_rules | `(tactic| walk_at "st")=>`(tactic| first
  | (with_reducible first | refine zpQ ?_ | refine s_nx ?_ | refine s_rt ?_ | refine zpW ?_ | refine zmR ?_)
  | ((with_reducible refine zpG (v:=?v) ?e ?_); (case e=>exact rfl))
  | (with_reducible first | refine s_c ?_ | refine s_op ?_ | refine zow ?_ | refine zlV ?_ | refine zpP ?_)
  | ((with_reducible refine s_ri ?c ?_); (case c=>walk_at "side"))
  | (with_reducible first | refine znl ?_)
  | ((with_reducible refine zlA ?c ?_); (case c=>walk_at "side"))
  | (with_reducible first | refine zoV ?_ | refine znX ?_)
  | ((with_reducible refine znB ?e ?_); (case e=>decide +kernel))
  | ((with_reducible refine znq ?e ?_); (case e=>decide +kernel))
  | ((with_reducible refine zpL (xs:=?xs) ?hq ?e ?_); (case hq=>walk_at "lk"); (case e=>decide +kernel))
  | ((with_reducible refine zpY (xs:=?xs) ?hq ?e ?_); (case hq=>walk_at "lk"); (case e=>decide +kernel))
  | ((with_reducible refine zoo (xs:=?xs) ?hq ?e ?_); (case hq=>walk_at "lk"); (case e=>decide +kernel))
  | ((with_reducible refine zoi (xs:=?xs) ?hq ?e ?_); (case hq=>walk_at "lk"); (case e=>decide +kernel))
  | (with_reducible first | refine zp4 ?_ | refine s_if ?_ | refine zpa ?_ | refine s_b ?_ | refine zp0 ?_ | refine zp3 ?_ | refine s_or ?_ | refine zp8 ?_ | refine zpB ?_ | refine s_un ?_ | refine s_ru ?_ | refine s_cb ?_ | refine zoD ?_ | refine zpR ?_ | refine zqb ?_ | refine zoh ?_ | refine zpz ?_ | refine zm1 ?_ | refine zo9 ?_ | refine zof ?_ | refine zo5 ?_ | refine zoc ?_ | refine zn8 ?_ | refine zqa ?_ | refine zoK ?_ | refine s_sl ?_ | refine zlU ?_ | refine zoE ?_ | refine zoX ?_ | refine zpH ?_ | refine zo4 ?_)
  | ((with_reducible refine zo2 (xs:=?xs) ?hq ?_); (case hq=>walk_at "lk"))
  | ((with_reducible refine zol (xs:=?xs) ?hq ?_); (case hq=>walk_at "lk"))
  | ((with_reducible refine zh8 (xs:=?xs) (v:=?v) ?hq ?h0 ?e ?_); (case hq=>walk_at "lk"); (case h0=>decide); (case e=>exact rfl))
  | ((with_reducible refine zmB (xs:=?xs) (v:=?v) ?hq ?h0 ?e ?_); (case hq=>walk_at "lk"); (case h0=>decide); (case e=>exact rfl))
  | ((with_reducible refine zn3 (xs:=?xs) (j:=?j) ?hp ?e ?_); (case hp=>walk_at "lk"); (case e=>exact rfl); (try rw [zk1]))
  | (with_reducible first | refine zp2 ?_ | refine zpN ?_ | refine zpM ?_ | refine zqd ?_ | refine zn5 ?_ | refine zpC ?_ | refine zmm ?_ | refine zmd ?_)
  | (with_reducible first | refine zoC ?_ | refine zn1 ?_)
  | ((with_reducible refine zou (xs:=?xs) ?hq ?hl ?_); (case hq=>walk_at "lk"); (case hl=>exact rfl))
  | ((with_reducible refine zo8 ?e ?_); (case e=>exact rfl))
  | ((with_reducible refine zpc ?e ?f ?_); (case e=>exact rfl); (case f=>exact rfl))
  | (with_reducible first | refine zp5 ?_)
  | ((with_reducible refine zqc (xs:=?xs) ?hq ?_); (case hq=>walk_at "lk"))
  | ((with_reducible refine zo0 (xs:=?xs) ?hp ?hz ?_); (case hp=>walk_at "lk"); (case hz=>walk_at "sz"); (try rw [zk1]))
  | (with_reducible first | refine znA ?_ | refine zlw ?_ | refine zl7 ?_ | refine zph ?_)
  | (with_reducible first | refine zoL ?_ | refine zpV ?_ | refine zp1 ?_ | refine s_bm ?_ | refine iteT ?_ | refine iteF ?_))
open L2 in
local macro_rules | `(tactic| walk_at "go")=>`(tactic| repeat (walk_at "st"))
open L2 in
local macro_rules | `(tactic| walk_at "goI")=>`(tactic| repeat ((fail_if_success (with_reducible refine zpB ?_)); (fail_if_success (with_reducible refine s_if ?_)); walk_at "st"))
namespace PySem.W.Fast
def tw11976111691145196868:=0
def tw4266092783492536125:=0
def tw4457924272716532163:=0
def tw15876997686183484056:=0
def tw6937382290428663125:=0
def tw6920747108191447007:=0
def tw2333976357649536561:=0
def tw16141172636933937449:=0
def tw7040007796452033340:=0
def tw9819614737543129475:=0
def tw15918493267606273356:=0
def tw11844072944657279357:=0
def tw183419489943605462:=0
def tw8134073686562919634:=0
def tw9130416399639092930:=0
def tw3980112726216559927:=0
def tw8842611121353556732:=0
def tw246691911812743561:=0
def tw17133011922854525154:=0
def tw9183713160430886647:=0
def tw15165733059859668603:=0
def tw13142390102709203529:=0
def tw9687046967229727761:=0
def tw10369029145740185689:=0
def tw29470674128451293:=0
def tw2104237837852994233:=0
def tw17747864353837630548:=0
def tw14003547348538289320:=0
def tw6618695560175594002:=0
def tw16060096401084099743:=0
def tw13289969492256275614:=0
def tw6109460715655326599:=0
def tw8783042554872046249:=0
def tw17732447600037202120:=0
def tw13918323062757732008:=0
def tw4913529861466244101:=0
def tw13408770988297537250:=0
def tw3632996630119859027:=0
def tw1595717142224374630:=0
def tw16759281338718558042:=0
def tw15089355421258429014:=0
def tw4892671785028375578:=0
def tw6031189403995268470:=0
def tw11834311689093533506:=0
def tw15293409617333642480:=0
def tw3972275666367016516:=0
def tw2255800730530719841:=0
def tw1117955391267870696:=0
def tw8545247335760897590:=0
def tw3468955942855357500:=0
def tw6551995806793983548:=0
def tw9417666624597306760:=0
def tw10911257903759709183:=0
def tw1251023167003596657:=0
def tw2687124150894521260:=0
def tw4095486253977172847:=0
def tw6878637896704542818:=0
def tw7545147172915322585:=0
def tw652491300867464017:=0
def tw8837532289416200025:=0
def tw18427262840666818529:=0
def tw8880792232515643963:=0
def tw18255609653354470994:=0
def tw4978539357870936248:=0
def tw797946432089468559:=0
def tw1360568605978108682:=0
def tw6607551211702046661:=0
def tw8599633005601530802:=0
def tw8794674854903546051:=0
def tw12392990243655356894:=0
def tw8546285146695738675:=0
def tw16665663007265635571:=0
def tw9206956773801325983:=0
def tw17653485887966750811:=0
def tw17636563012198406637:=0
def tw11159021972721592156:=0
def tw9059984772117114465:=0
def tw6550954786539897182:=0
def tw15818597012285303368:=0
def tw3950719629439716710:=0
def tw13483965093847250084:=0
def tw11466758767933693985:=0
def tw2994144319146352375:=0
def tw8163591723682639818:=0
def tw4189233117401608592:=0
def tw10211688768850309711:=0
def tw5456098795249710834:=0
def tw5611974315342302301:=0
def tw5685699525563932565:=0
def tw12123880497324883523:=0
def tw12852683007362584920:=0
def tw16885760922634084557:=0
def tw9703347208443066318:=0
def tw106158003062550096:=0
def tw15698765747822049135:=0
def tw3439896371610658041:=0
def tw13603118791544926960:=0
def tw17782605686965818579:=0
def tw11416055120245699023:=0
def tw1496779514899457025:=0
def tw8583885593461611381:=0
def tw1521477984410125174:=0
def tw9198987689860183462:=0
def tw9291484858383404622:=0
def tw5744888316971979766:=0
def tw8633940895610906235:=0
def tw18189779004735132011:=0
def tw18037071000507893451:=0
def tw9589979621119404451:=0
def tw9937496354023278193:=0
def tw1168875001532599301:=0
def tw16483702800223412267:=0
def tw13566160932709753073:=0
end PySem.W.Fast
namespace Lw
local macro_rules | `(tactic| symm)=>`(tactic| walk_at "go")
open PySem PyProof.Rows L2 Bm
noncomputable def top (i:Nat):Stmt:=PySem.Challenge.pw_bitlead_k43_whole_there_and_back.main.body.getD i (.Pass ⟨0,0,0,0⟩)
noncomputable abbrev zgb:Stmt:=top 1
noncomputable abbrev zeP:Stmt:=top 3
noncomputable abbrev zm9:Stmt:=top 18
noncomputable abbrev zdq:Stmt:=top 21
noncomputable abbrev zeB:Stmt:=top 22
noncomputable abbrev zbn:Stmt:=top 23
noncomputable abbrev zmU:Stmt:=top 4
noncomputable abbrev zkn:Stmt:=top 5
noncomputable abbrev zbY:Stmt:=top 2
noncomputable abbrev zcv:Stmt:=top 7
noncomputable abbrev zd5:Stmt:=top 8
noncomputable abbrev zgk:Stmt:=top 26
noncomputable abbrev zeR:Stmt:=top 27
noncomputable abbrev zeM:Stmt:=top 29
noncomputable abbrev zf7:Stmt:=top 28
noncomputable abbrev zj2:Stmt:=top 25
noncomputable abbrev zdF:Stmt:=top 37
noncomputable abbrev ze7:Stmt:=top 19
noncomputable abbrev ziy:Stmt:=top 20
noncomputable abbrev zbk:Stmt:=top 31
noncomputable abbrev zbs:Stmt:=top 32
noncomputable abbrev zc0:Stmt:=top 10
noncomputable abbrev za6:Stmt:=top 34
noncomputable abbrev zbX:Stmt:=top 35
noncomputable abbrev zc5:Stmt:=top 33
noncomputable abbrev zbd:Stmt:=top 30
noncomputable abbrev zb7:Stmt:=top 38
noncomputable abbrev zb5:Stmt:=top 41
noncomputable abbrev zd6:Stmt:=top 40
noncomputable abbrev zcs:Stmt:=top 43
noncomputable abbrev zfE:Stmt:=top 42
noncomputable abbrev zbF:Stmt:=top 45
noncomputable abbrev zbE:Stmt:=top 44
noncomputable abbrev zcY:Stmt:=top 46
noncomputable abbrev zb6:Stmt:=top 48
noncomputable abbrev zc4:Stmt:=top 49
noncomputable abbrev zcf:Stmt:=top 50
noncomputable abbrev zc2:Stmt:=top 51
noncomputable abbrev zbj:Stmt:=top 52
noncomputable abbrev zbi:Stmt:=top 55
noncomputable abbrev zaZ:Stmt:=top 56
noncomputable abbrev zbl:Stmt:=top 53
noncomputable abbrev zc8:Stmt:=top 54
noncomputable abbrev zcG:Stmt:=top 57
noncomputable abbrev zb4:Stmt:=top 58
noncomputable abbrev za9:Stmt:=top 59
noncomputable abbrev zhu:Stmt:=top 60
structure Blt (K:PySem.W.Frag) (mg:Str -> Option Value):Prop where
 b_abs:mg "abs"=none
 b_bool:mg "bool"=none
 b_enumerate:mg "enumerate"=none
 b_int:mg "int"=none
 b_isinstance:mg "isinstance"=none
 b_len:mg "len"=none
 b_list:mg "list"=none
 b_max:mg "max"=none
 b_min:mg "min"=none
 b_range:mg "range"=none
 b_reversed:mg "reversed"=none
 b_sorted:mg "sorted"=none
 b_tuple:mg "tuple"=none
 b_zip:mg "zip"=none
 g_NOUGHT:∃ t,mg "NOUGHT"=some (.int (-1) t)
 g_ONE:∃ t,mg "ONE"=some (.int (-2) t)
 ex:∃ cL cU cH cT cB:Addr,L2.Exs3 K mg cL cU cH cT cB
 lost:L2.LostB K mg
section
variable (P:Program) (w:World) (K:PySem.W.Frag) (mg:Str -> Option Value) (base:Heap)
noncomputable abbrev A0:Prop:=FnAt P w K mg base "bit_at" ["word","place"] 1 zj5
noncomputable abbrev A1:Prop:=FnAt P w K mg base "mask_of" ["places"] 1 (zio K)
noncomputable abbrev A2:Prop:=FnAt P w K mg base "led" ["leading","word"] 2 zop
noncomputable abbrev A3:Prop:=FnAt P w K mg base "kept_by" ["leading"] 2 zmo
noncomputable abbrev A4:Prop:=FnAt P w K mg base "is_even" ["leading"] 1 ziD
noncomputable abbrev A5:Prop:=FnAt P w K mg base "turned_back" ["leading"] 3 zfD
noncomputable abbrev A6:Prop:=FnAt P w K mg base "low" ["many"] 1 zmh
noncomputable abbrev A7:Prop:=FnAt P w K mg base "full" ["width"] 2 zmh
noncomputable abbrev A8:Prop:=FnAt P w K mg base "places_in" ["mask"] 2 zib
noncomputable abbrev A9:Prop:=FnAt P w K mg base "gathered" ["word","mask"] 3 zmw
noncomputable abbrev A10:Prop:=FnAt P w K mg base "strewn" ["word","mask"] 3 zkM
noncomputable abbrev A11:Prop:=FnAt P w K mg base "turned" ["width","word","by"] 3 zii
noncomputable abbrev A12:Prop:=FnAt P w K mg base "swapped" ["word","mask","by"] 1 zhf
noncomputable abbrev A13:Prop:=FnAt P w K mg base "shifted" ["word","by"] 1 zgY
noncomputable abbrev A14:Prop:=FnAt P w K mg base "copied" ["word","mask","by"] 2 ziq
noncomputable abbrev A15:Prop:=FnAt P w K mg base "done" ["width","deed","word"] 4 zmr
noncomputable abbrev A16:Prop:=FnAt P w K mg base "row_done" ["width","row","word"] 5 (zg2 K)
noncomputable abbrev A17:Prop:=FnAt P w K mg base "staying" ["width"] 1 zgr
noncomputable abbrev A18:Prop:=FnAt P w K mg base "then" ["one","other"] 1 zmu
noncomputable abbrev A19:Prop:=FnAt P w K mg base "gather_leading" ["width","mask"] 3 zie
noncomputable abbrev A20:Prop:=FnAt P w K mg base "strew_leading" ["width","mask"] 3 zgv
noncomputable abbrev A21:Prop:=FnAt P w K mg base "is_within" ["thing","least","most"] 1 zit
noncomputable abbrev A22:Prop:=FnAt P w K mg base "place_or_nought" ["width","place"] 2 zoS
noncomputable abbrev A23:Prop:=FnAt P w K mg base "copy_source" ["mask","by","place"] 2 zgA
noncomputable abbrev A24:Prop:=FnAt P w K mg base "source_of" ["width","deed","place"] 3 ziC
noncomputable abbrev A25:Prop:=FnAt P w K mg base "deed_leading" ["width","deed"] 4 ziz
noncomputable abbrev A26:Prop:=FnAt P w K mg base "row_leading" ["width","row"] 5 (zka K)
noncomputable abbrev A27:Prop:=FnAt P w K mg base "undone_deed" ["width","deed"] 1 zjE
noncomputable abbrev A28:Prop:=FnAt P w K mg base "undone" ["width","row"] 5 zih
noncomputable abbrev X28:Prop:=zfM P w K mg base "undone" ["width","row"] 5 (zhl mg)
noncomputable abbrev A29:Prop:=FnAt P w K mg base "way_back" ["leading","mask","place"] 3 zoR
noncomputable abbrev X29:Prop:=zfM P w K mg base "way_back" ["leading","mask","place"] 3 (zmN mg)
noncomputable abbrev A30:Prop:=FnAt P w K mg base "back" ["leading","mask"] 4 zmI
noncomputable abbrev X30:Prop:=zfM P w K mg base "back" ["leading","mask"] 4 (zlm mg)
noncomputable abbrev A31:Prop:=FnAt P w K mg base "least_unlike" ["here","there"] 1 zky
noncomputable abbrev A32:Prop:=FnAt P w K mg base "unlike_words" ["one","other"] 2 zis
noncomputable abbrev A33:Prop:=FnAt P w K mg base "same_rows" ["width","one","other"] 6 (zfz K)
noncomputable abbrev A34:Prop:=FnAt P w K mg base "_law_hand" ["_law_script"] 1 (zmv K)
noncomputable abbrev A35:Prop:=FnAt P w K mg base "_law_draw" ["_law_hand_here","_law_many"] 1 zkL
noncomputable abbrev A36:Prop:=FnAt P w K mg base "_law_width" ["_law_hand_here"] 2 zjQ
noncomputable abbrev A37:Prop:=FnAt P w K mg base "_law_word" ["_law_hand_here","_law_width_here"] 2 zms
noncomputable abbrev A38:Prop:=FnAt P w K mg base "_law_swap_mask" ["_law_hand_here","_law_width_here","_law_n"] 2 zfG
noncomputable abbrev A39:Prop:=FnAt P w K mg base "_law_even_deed" ["_law_hand_here","_law_width_here"] 3 zle
noncomputable abbrev A40:Prop:=FnAt P w K mg base "_law_even_row" ["_law_hand_here","_law_width_here","_law_most"] 4 zkB
noncomputable abbrev A41:Prop:=FnAt P w K mg base "_law_copy_mask" ["_law_hand_here","_law_width_here","_law_n"] 3 zfx
noncomputable abbrev A42:Prop:=FnAt P w K mg base "_law_deed" ["_law_hand_here","_law_width_here"] 4 zmM
noncomputable abbrev A43:Prop:=FnAt P w K mg base "_law_row" ["_law_hand_here","_law_width_here"] 5 zim
noncomputable abbrev A44:Prop:=FnAt P w K mg base "_law_walked" ["_law_hand_here","_law_width_here","_law_row_here"] 6 zin
noncomputable abbrev A45:Prop:=FnAt P w K mg base "_law_lost_alone" ["_law_leading","_law_width_here"] 5 zkS
end
noncomputable def At (K:PySem.W.Frag) (n:Str) (st:Stmt):Prop:=∃ (f:Addr) (od an:Option Addr) (sl:Array (Option Value)) (oc kV dc pm cd ct:Value),PySem.W.nsIn K mainGlobals n=some (some (.ref f)) /\ K.lookup f=some ⟨oc,od,.func (PySem.W.fnOf n n (zbr st) (za7 st) (zaf st) .none kV dc pm an cd ct),sl⟩ /\ PySem.W.codeIn K cd n=true /\ PySem.W.keepIn K (.ref f)=true
def At.mk {K:PySem.W.Frag} {n:Str} {st:Stmt} {f:Addr} {od an:Option Addr} {sl:Array (Option Value)} {oc kV dc pm cd ct:Value} (e1:PySem.W.nsIn K mainGlobals n=some (some (.ref f))) (e2:K.lookup f=some ⟨oc,od,.func (PySem.W.fnOf n n (zbr st) (za7 st) (zaf st) .none kV dc pm an cd ct),sl⟩) (e3:PySem.W.codeIn K cd n=true) (e4:PySem.W.keepIn K (.ref f)=true):At K n st:=⟨f,od,an,sl,oc,kV,dc,pm,cd,ct,e1,e2,e3,e4⟩
def At.at {P:Program} {w:World} {K:PySem.W.Frag} {h base:Heap} {mg:Str -> Option Value} {n:Str} {st:Stmt} {ps:List Str} {k:Nat} {sp:Sp} (X:K.In h) (G:h.Ns mainGlobals mg) (a:At K n st) (hb:∀ f fd,Fun K n n st f fd -> zdj K fd ps []) (ok:∀ f fd,Fun K n n st f fd -> FnOk P w K mg base CX0 k f fd ps sp):FnAt P w K mg base n ps k sp:=by
 obtain ⟨f,od,an,sl,oc,kV,dc,pm,cd,ct,e1,e2,e3,e4⟩:=a;have F:=zir (st:=st) e2 e3 e4;exact ⟨f,_,ybc X G e1,e4,hb _ _ F,ok _ _ F⟩
def At.atx {P:Program} {w:World} {K:PySem.W.Frag} {h base:Heap} {mg:Str -> Option Value} {n:Str} {st:Stmt} {ps:List Str} {k:Nat} {sp:Sp} (X:K.In h) (G:h.Ns mainGlobals mg) (a:At K n st) (hb:∀ f fd,Fun K n n st f fd -> zdj K fd ps []) (ok:∀ f fd,Fun K n n st f fd -> FnOk P w K mg base (CX2 P w) k f fd ps sp):zfM P w K mg base n ps k sp:=by
 obtain ⟨f,od,an,sl,oc,kV,dc,pm,cd,ct,e1,e2,e3,e4⟩:=a;have F:=zir (st:=st) e2 e3 e4;exact ⟨f,_,ybc X G e1,e4,hb _ _ F,ok _ _ F⟩
section
variable {P:Program} {w:World} {K:PySem.W.Frag} {mg:Str -> Option Value} {base:Heap}
noncomputable abbrev zfR:Stmt:=zpI (top 14) 0
def zkG:FnScope ["self","place"] ["self","place"] (zaf zfR):=⟨rfl,rfl,rfl,by decide +kernel,rfl,by decide +kernel,by decide +kernel⟩
def znt {cL cT fI:Addr} {fd:FuncData} (mL:mg "LeadError"=some (.ref cL)) (hD:baseB K cL=true) (hx:excInI K cT fI bmV "ValueError.__new__"=true) (fc:FCls K cT cL "place") (F:Fun K "__init__" "Lost.__init__" zfR fI fd):FnOk P w K mg base CX0 1 fI fd ["self","place"] (zeA cT "place"):=by
 refine F.ok zkG (λ vs H Q E h=>?_) (λ cdv A outer s H vs Q E hr h=>?_)
 ·obtain ⟨a,i,rfl,_⟩:=h;rfl
 ·have nd:=zkG.nd;have hu:=hr.units;obtain ⟨a,i,rfl,hi,ha,k⟩:=h;refine ⟨_,(zac (zeH (znu rfl mL hD (zaa (pv 0) (zaa (zmX (pv 1)) zab)))) (zae (znc (D:=cL) (pv 0) (pv 1)))),?_⟩;refine ⟨.ref a,rfl,.int i,rfl,i,rfl,hi,λ x=>⟨a,cT,fI,.str x,rfl,ha,hx,?_⟩⟩;exact ⟨.int i,rfl,.ref a,rfl,a,cT,i,rfl,rfl,ha,fc,λ dx h1 h2=>k dx h1 h2⟩
def zhk:FnScope ["word","place"] ["word","place"] (zaf zgb):=⟨rfl,rfl,rfl,by decide +kernel,rfl,by decide +kernel,by decide +kernel⟩
def zkJ {a:Addr} {fd:FuncData} (B:Blt K mg)  (F:Fun K "bit_at" "bit_at" zgb a fd):FnOk P w K mg base CX0 1 a fd ["word","place"] zj5:=by
 refine F.ok zhk (λ vs H Q E h=>?_) (λ cdv A outer s H vs Q E hr h=>?_)
 ·obtain ⟨n,k,rfl,_⟩:=h;rfl
 ·have nd:=zhk.nd;have hu:=hr.units;obtain ⟨n,k,rfl,q⟩:=h;refine ⟨_,((6:) ((13:) ((11:) (@zby _) ((11:) (@zdm _) (12:) (15:)) (7:)))),?_⟩;symm;rw [zci];exact q
def zfA:FnScope ["places","mask","place"] ["places"] (zaf zeP):=⟨rfl,rfl,rfl,by decide +kernel,rfl,by decide +kernel,by decide +kernel⟩
def ziJ {a:Addr} {fd:FuncData} (B:Blt K mg)  (F:Fun K "mask_of" "mask_of" zeP a fd):FnOk P w K mg base CX0 1 a fd ["places"] (zio K):=by
 refine F.ok zfA (λ vs H Q E h=>?_) (λ cdv A outer s H vs Q E hr h=>?_)
 ·obtain ⟨b,ps,rfl,_⟩:=h;rfl
 ·have nd := zfA.nd;have hu := hr.units;obtain ⟨b, ps, rfl, hA, hp, q⟩ := h;refine ⟨_, ((8:) (@zas _ _ 1 _ _ _ _ nd rfl (17:) (7:) (0:) (16:)) ((8:) ((39:) yaU rfl (@zbS _ K _ _ _ (12:) (0:)) (@zav _ _ 2 _ nd rfl (17:) (16:)) ((6:) (@zas _ _ 1 _ _ _ _ nd rfl (17:) ((11:) (@zjj _) (15:) ((11:) (@za4 _) (7:) (14:))) (0:) (16:))) (23:)) ((6:) ((13:) (15:))))), ?_⟩;symm;refine zf5 hA (fun i σ H' => H' = H /\ ∃ v, σ = [some (.ref b), some (nV (zeu (ps.take i))), v]) ⟨rfl, none, rfl⟩ (fun i σ H' h => by rw [h.1]; exact ⟨id, id⟩) ?_ ?_
  ·rintro i x σ H' hx ⟨rfl,v,rfl⟩;obtain ⟨y,hy,rfl⟩:=zaL hx;have hy64:=hp y (yaw hy);symm;refine ⟨rfl,some (nV y),?_⟩;rw [yaB,hy,show ((some y).toList:List Nat)=[y] from rfl,zjm,zk7];rfl
  ·rintro σ H' ⟨rfl,v,rfl⟩;symm;rw [yad,List.take_length];exact q
def zmE:FnScope ["leading","word","ones","place","entry"] ["leading","word"] (zaf zm9):=⟨rfl,rfl,rfl,by decide +kernel,rfl,by decide +kernel,by decide +kernel⟩
def znZ {a:Addr} {fd:FuncData} (B:Blt K mg) (g_bit_at:A0 P w K mg base) (g_mask_of:A1 P w K mg base) (F:Fun K "led" "led" zm9 a fd):FnOk P w K mg base CX0 2 a fd ["leading","word"] zop:=by
 refine F.ok zmE (λ vs H Q E h=>?_) (λ cdv A outer s H vs Q E hr h=>?_)
 ·obtain ⟨b,ls,n,w,rfl,_⟩:=h;rfl
 ·have nd := zmE.nd;have hu := hr.units;obtain ⟨b, ls, n, w, rfl, hb, hL, hw, k⟩ := h;refine ⟨_, ((8:) (63:) ((8:) ((39:) yaU rfl (@zbN _ K _ _ _ _ _ _ _ B.b_enumerate ((2:) (12:) (4:) (0:)) (0:) (0:) (0:)) (57:) ((6:) ((19:) (@PW.pt _ _ _ ((55:) ((20:) (25:) (24:) (@zbf _ _ _ _ B.g_ONE (0:) (3:)) (22:)) (@zfF _ _ _ _ (@PW.pt _ _ _ ((56:) ((20:) (@zj1 _) (24:) (7:) (22:)) (@ze3 _ _ _ _ ((20:) (25:) ((10:) g_bit_at (9:) ((2:) (15:) ((2:) (24:) (4:) (0:)) (0:)) (0:) (3:) (0:) (0:)) (7:) (22:)))))))) ((6:) (@zeH _ _ _ _ (@k_bm _ K _ _ _ _ _ _ _ _ _ _ _ ybg PySem.F.slot_list_append PySem.F.type_list_append (@zha _) (14:) ((2:) (18:) (4:) (0:)) (0:) (0:) (0:) (0:) (0:) (0:)) (0:))) (21:))) (23:)) ((6:) ((13:) ((10:) g_mask_of (9:) ((2:) (14:) (4:) (0:)) (0:) (3:) (0:) (0:)))))), ?_⟩;symm;refine ⟨yaR _, fun p hp => ?_⟩;have sp1 := zam (o := .lst []) hp;symm;refine ⟨b, _, rfl, .inr ⟨SqT.of (sp1 _ _ hb), ?_⟩⟩;refine zgR (fun i σ H' => Same H H' /\ H' p = some (.lst (((List.range i).filter fun j => bitL n (ls.getD j (-1))).map nV)) /\ i <= 64 /\ ∃ v3 v4, σ = [some (.ref b), some (nV n), some (.ref p), v3, v4]) ⟨sp1, zai, by omega, none, none, rfl⟩ (fun i σ H' h => SqT.of (h.1 _ _ hb)) ?_ ?_
  ·rintro i u T σ H' hu hT ⟨s1, n1, hi, v3, v4, rfl⟩;obtain ⟨e, he, rfl⟩ := zaL hu;have hil : i < ls.length := (yaj.mp he).1;have hi2 : i < w := by rw [<- hL.1]; exact hil
   have q:=hL.2 e (yaw he);have eg:ls.getD i (-1)=e:=by rw [yab,he]; rfl
   have s2:=s1.trans (zam (o:=.tup [V.int (i:Int),V.int e]) hT);have n2:=(zam (o:=.tup [V.int (i:Int),V.int e]) hT) _ _ n1;have nT:upd H' T (.tup [V.int (i:Int),V.int e]) T=some (.tup [V.int (i:Int),V.int e]):=zai;generalize upd H' T (.tup [V.int (i:Int),V.int e])=H2 at s2 n2 nT ⊢;have hfl:=ybe (λ j=>bitL n (ls.getD j (-1))) (List.range i);rw [yar] at hfl
   have add:bitL n e=true -> (((List.range i).filter λ j=>bitL n (ls.getD j (-1))).map nV) ++ [V.int (i:Int)]=(((List.range (i + 1)).filter λ j=>bitL n (ls.getD j (-1))).map nV):=λ hb=>by
    rw [ya3,yaW,yat,yb2 (p:=λ j=>bitL n (ls.getD j (-1))) (a:=i) (l:=[]) (show bitL n (ls.getD i (-1))=true by rw [eg]; exact hb)];rfl
   have noadd:bitL n e=false -> (((List.range i).filter λ j=>bitL n (ls.getD j (-1))).map nV)=(((List.range (i + 1)).filter λ j=>bitL n (ls.getD j (-1))).map nV):=λ hb=>by
    rw [ya3,yaW,yat,yb3 (p:=λ j=>bitL n (ls.getD j (-1))) (a:=i) (l:=[]) (show ¬ bitL n (ls.getD i (-1))=true by rw [eg,hb]; exact yay)];simp
   symm;refine zaF (λ h2=>?_) (λ h2=>?_)
   ·symm;refine ⟨s2.upd' hp,?_,by omega,_,_,rfl⟩;rw [zai,add (by unfold bitL; rw [if_pos h2])]
   ·symm;refine zdu (fun h0 => ?_) (fun h0 => ?_)
    ·obtain ⟨m, rfl⟩ : ∃ m : Nat, e = (m : Int) := ⟨e.toNat, by omega⟩
     symm;refine ⟨n,m,rfl,?_⟩;symm
     have eb:bitL n (m:Int)=n.testBit m:=by
      unfold bitL;rw [if_neg h2,if_pos h0,yam]
     refine zaF (λ h3=>?_) (λ h3=>?_)
     ·have ht:n.testBit m=true:=by
       cases z:n.testBit m
       ·rw [z] at h3; cases h3
       ·rfl
      symm;refine ⟨s2.upd' hp,?_,by omega,_,_,rfl⟩;rw [zai,add (by rw [eb,ht])]
     ·have ht:n.testBit m=false:=by
       cases z:n.testBit m
       ·rfl
       ·rw [z] at h3; exact absurd rfl h3
      symm;exact ⟨s2,by rw [n2,noadd (by rw [eb,ht])],by omega,_,_,rfl⟩
    ·symm;exact ⟨s2,by rw [n2,noadd (by unfold bitL; rw [if_neg h2,if_neg h0])],by omega,_,_,rfl⟩
  ·rintro σ H' ⟨s1, n1, _, v3, v4, rfl⟩;rw [yad] at n1;symm;refine ⟨p, _, rfl, .inl (SqL.of n1), fun x hx => ?_, ?_⟩
   ·have:=yaq.mp (yaZ.mp hx).1;rw [hL.1] at this;omega
   ·rw [zmS];exact k H' s1
def zfu:FnScope ["leading"] ["leading"] (zaf zdq):=⟨rfl,rfl,rfl,by decide +kernel,rfl,by decide +kernel,by decide +kernel⟩
def ziW {a:Addr} {fd:FuncData} (B:Blt K mg) (g_mask_of:A1 P w K mg base) (F:Fun K "kept_by" "kept_by" zdq a fd):FnOk P w K mg base CX0 2 a fd ["leading"] zmo:=by
 refine F.ok zfu (λ vs H Q E h=>?_) (λ cdv A outer s H vs Q E hr h=>?_)
 ·obtain ⟨b,ls,w,rfl,_⟩:=h;rfl
 ·have nd := zfu.nd;have hu := hr.units;obtain ⟨b, ls, w, rfl, hb, hL, hw, k⟩ := h;have hlen : ls.length <= 64 := by rw [hL.1]; exact hw
  refine ⟨_,((6:) ((13:) ((10:) g_mask_of (9:) ((2:) (@zbt _ _ _ _ _ _ (zaf zdq) _ ["leading"] ["entry"] [none] _ _ _ _ rfl (@zbS _ K _ _ _ (12:) (0:)) (λ _ _ _ _=>(@zav _ _ 0 _ (show List.Nodup (["entry"]:List Str) by decide +kernel) rfl (17:) (16:))) (λ _ _ _ _=>(@zfU _ _ _ ((20:) (@zj1 _) (12:) (7:) (22:)))) (λ _ _ _ _=>(12:)) (32:) (0:) (0:) (23:)) (4:) (0:)) (0:) (3:) (0:) (0:)))),?_⟩;symm;refine zgO (SqT.of hb) ?_;refine zil (xs:=ls.map V.int) (λ i acc H'=>H'=H /\ acc=((ls.take i).filter λ e=>decide (0 <= e)).map V.int) ⟨rfl,rfl⟩ (λ i acc H' h=>?_) (λ i acc H' h=>by rw [h.1]; exact SqT.of hb) ?_ ?_
  ·obtain ⟨_,rfl⟩:=h;have:=ybe (λ e=>decide ((0:Int) <= e)) (ls.take i);rw [yaT] at this;rw [yad];exact yaK (zaR (1:))
  ·rintro i x acc H' hx ⟨rfl, rfl⟩;obtain ⟨e, he, rfl⟩ := zaL hx;symm;refine zdu (fun h0 => ?_) (fun h0 => ?_)
   ·symm;refine ⟨rfl,?_⟩;rw [yaB,he,yaW,yat];congr 1;show [V.int e]=List.map V.int (List.filter _ [e]);rw [yb2 (by exact decide_eq_true (1:))];rfl
   ·refine ⟨rfl,?_⟩;rw [yaB,he,yaW,yat];show _=_ ++ List.map V.int (List.filter _ [e]);rw [yb3 (by rw [decide_eq_true_iff]; omega)];simp
  ·rintro acc H' ⟨rfl, rfl⟩ p hp;rw [yad, yas (yah _), zkx];symm;refine ⟨p, ziR ls, rfl, .inl (SqL.of zai), fun x hx => ?_, ?_⟩
   ·simp only [ziR,yaP,yaZ,decide_eq_true_iff] at hx;obtain ⟨e,⟨h1,h2⟩,rfl⟩:=hx;have:=(hL.2 e h1).2;omega
   ·exact k _ (zam hp)
def zfC:FnScope ["leading"] ["leading"] (zaf zeB):=⟨rfl,rfl,rfl,by decide +kernel,rfl,by decide +kernel,by decide +kernel⟩
def zjs {a:Addr} {fd:FuncData} (B:Blt K mg)  (F:Fun K "is_even" "is_even" zeB a fd):FnOk P w K mg base CX0 1 a fd ["leading"] ziD:=by
 refine F.ok zfC (λ vs H Q E h=>?_) (λ cdv A outer s H vs Q E hr h=>?_)
 ·obtain ⟨b,ls,w,rfl,_⟩:=h;rfl
 ·have nd := zfC.nd;have hu := hr.units;obtain ⟨b, ls, w, rfl, hb, hL, hw, k⟩ := h;have hlen : ls.length <= 64 := by rw [hL.1]; exact hw
  refine ⟨_,((6:) ((13:) (@zeD _ _ _ _ _ _ _ _ (25:) ((38:) (@zlW _ K (0:)) rfl B.b_sorted boot_sorted ((2:) (12:) (4:) (0:)) (3:) (3:) (0:) (0:)) (@zd1 _ K _ _ _ _ _ _ rfl B.b_list B.b_range ((2:) ((38:) (@zgu _ K (0:)) rfl B.b_len boot_len ((2:) (12:) (4:) (0:)) (3:) (3:) (0:) (0:)) (4:) (0:)) (0:) (0:) (0:) (0:) (0:)) (22:)))),?_⟩;symm;refine ⟨b,ls,rfl,.inr (SqT.of hb),hlen,λ p ns hp pm sd=>?_⟩;have s1:=zam (o:=.lst (ns.map V.int)) hp;have n1:upd H p (.lst (ns.map V.int)) p=some (.lst (ns.map V.int)):=zai;generalize upd H p (.lst (ns.map V.int))=H1 at s1 n1 ⊢;have hb:=s1 _ _ hb;symm;rw [yad];refine ⟨ls.length,rfl,by omega,λ l hl=>?_⟩;rw [ziG];have s2:=zam (o:=.lst ((zaw ls.length).map V.int)) hl;refine zmx (SqL.of (s2 _ _ n1)) (SqL.of zai) ?_;rw [zhV pm sd];exact k _ (s1.trans s2)
def zcT:FnScope ["leading"] ["leading"] (zaf zbn):=⟨rfl,rfl,rfl,by decide +kernel,rfl,by decide +kernel,by decide +kernel⟩
def zfk {a:Addr} {fd:FuncData} (B:Blt K mg) (g_is_even:A4 P w K mg base) (F:Fun K "turned_back" "turned_back" zbn a fd):FnOk P w K mg base CX0 3 a fd ["leading"] zfD:=by
 refine F.ok zcT (λ vs H Q E h=>?_) (λ cdv A outer s H vs Q E hr h=>?_)
 ·obtain ⟨b,ls,rfl,_⟩:=h;rfl
 ·have nd := zcT.nd;have hu := hr.units;obtain ⟨b, ls, rfl, hb, hev, hlen, k⟩ := h;have hL := zes hev;refine ⟨_, ((8:) ((19:) (@zdU _ _ _ _ (@zcX _ _ _ ((10:) g_is_even (9:) ((2:) (12:) (4:) (0:)) (0:) (3:) (0:) (0:)) (23:))) ((6:) (@zeU _ _ _ _)) (21:)) ((6:) ((13:) ((51:) (@zh7 _ K (0:)) rfl B.b_tuple boot_tuple ((2:) (@zbt _ _ _ _ _ _ (zaf zbn) _ ["leading"] ["place", "leading"] [none, some 0] _ _ _ _ rfl (60:) (fun _ _ _ _ => (@zav _ _ 0 _ (show List.Nodup (["place", "leading"] : List Str) by decide +kernel) rfl (17:) (16:))) (fun _ _ _ _ => (@zch _)) (fun _ _ _ _ => (@k_bm _ K _ _ _ _ _ _ _ _ _ _ _ ybV ybW ybX (@ze8 _ K (0:)) (15:) ((2:) (12:) (4:) (0:)) (0:) (0:) (0:) (0:) (0:) (0:))) (32:) (0:) (0:) (23:)) (4:) (0:)) (3:) (3:) (0:) (0:))))), ?_⟩;symm;refine ⟨b, ls, ls.length, rfl, hb, hL, hlen, fun H1 s1 => ?_⟩;have hb := s1 _ _ hb;rw [show zey ls = true from decide_eq_true hev];symm;refine zdW (n := ls.length) (by rw [yad]) (1:) ?_;refine zaO (fun i acc H' => H' = H1 /\ i <= ls.length /\ acc = ((zbQ ls).take i).map V.int) ⟨rfl, by omega, rfl⟩ (fun i acc H' h => ?_) ?_ ?_
  ·obtain ⟨_,hi,rfl⟩:=h;rw [yad,yaT];exact yaK (zaR (1:))
  ·rintro i acc H' hi ⟨rfl,_,rfl⟩;have q:=zep (zec hev hi);symm;refine ⟨tyT hb,?_⟩;symm;refine zf6 (SqT.of hb) q ?_;refine ⟨rfl,by omega,?_⟩;rw [yaB,yat];congr 1;rw [zbQ,yag,yan hi];rfl
  ·rintro acc H' ⟨rfl,_,rfl⟩ p hp;rw [yas (Nat.le_of_eq (zea ls))];symm;refine ⟨p,_,rfl,.inl ⟨SqL.of zai,λ t ht=>?_⟩⟩;exact k t _ ((s1.trans (zam hp)).trans (zam ht)) zai
def zmC:FnScope ["many"] ["many"] (zaf zmU):=⟨rfl,rfl,rfl,by decide +kernel,rfl,by decide +kernel,by decide +kernel⟩
def zoA {a:Addr} {fd:FuncData} (B:Blt K mg)  (F:Fun K "low" "low" zmU a fd):FnOk P w K mg base CX0 1 a fd ["many"] zmh:=by
 refine F.ok zmC (λ vs H Q E h=>?_) (λ cdv A outer s H vs Q E hr h=>?_)
 ·obtain ⟨n,rfl,_⟩:=h;rfl
 ·have nd:=zmC.nd;have hu:=hr.units;obtain ⟨n,rfl,hn,q⟩:=h;refine ⟨_,((6:) ((13:) ((11:) (@zbg _) ((11:) (@za4 _) (7:) (12:)) (7:)))),?_⟩;symm;rw [zhF];exact q
def zk3:FnScope ["width"] ["width"] (zaf zkn):=⟨rfl,rfl,rfl,by decide +kernel,rfl,by decide +kernel,by decide +kernel⟩
def zny {a:Addr} {fd:FuncData} (B:Blt K mg) (g_low:A6 P w K mg base) (F:Fun K "full" "full" zkn a fd):FnOk P w K mg base CX0 2 a fd ["width"] zmh:=by
 refine F.ok zk3 (λ vs H Q E h=>?_) (λ cdv A outer s H vs Q E hr h=>?_)
 ·obtain ⟨n,rfl,_⟩:=h;rfl
 ·have nd:=zk3.nd;have hu:=hr.units;obtain ⟨n,rfl,hn,q⟩:=h;refine ⟨_,((6:) ((13:) ((10:) g_low (9:) ((2:) (12:) (4:) (0:)) (0:) (3:) (0:) (0:)))),?_⟩;symm;exact ⟨n,rfl,hn,q⟩
def zdL:FnScope ["mask"] ["mask"] (zaf zbY):=⟨rfl,rfl,rfl,by decide +kernel,rfl,by decide +kernel,by decide +kernel⟩
def zgq {a:Addr} {fd:FuncData} (B:Blt K mg) (g_bit_at:A0 P w K mg base) (F:Fun K "places_in" "places_in" zbY a fd):FnOk P w K mg base CX0 2 a fd ["mask"] zib:=by
 refine F.ok zdL (λ vs H Q E h=>?_) (λ cdv A outer s H vs Q E hr h=>?_)
 ·obtain ⟨n,rfl,_⟩:=h;rfl
 ·have nd := zdL.nd;have hu := hr.units;obtain ⟨n, rfl, hn, q⟩ := h;have hb64 : zcm n <= 64 := zgU hn;refine ⟨_, ((6:) ((13:) (@zbt _ _ _ _ _ _ (zaf zbY) _ ["mask"] ["place", "mask"] [none, some 0] _ _ _ _ rfl ((47:) rfl B.b_range ((2:) (@zpw _ K _ _ _ _ _ _ _ _ PySem.F.plainAttrs_int PySem.F.slot_int_bit_length PySem.F.type_int_bit_length (@znG _) (12:) (0:) (0:) (0:)) (4:) (0:)) (0:)) (fun _ _ _ _ => (@zav _ _ 0 _ (show List.Nodup (["place", "mask"] : List Str) by decide +kernel) rfl (17:) (16:))) (fun _ _ _ _ => (@zfU _ _ _ ((20:) (25:) ((10:) g_bit_at (9:) ((2:) (15:) ((2:) (12:) (4:) (0:)) (0:)) (0:) (3:) (0:) (0:)) (7:) (22:)))) (fun _ _ _ _ => (12:)) (32:) (0:) (0:) (23:)))), ?_⟩;symm;refine zdW (n := zcm n) (by rw [zh4]) (1:) ?_;refine zaO (fun i acc H' => H' = H /\ i <= 64 /\ acc = ((List.range i).filter n.testBit).map nV) ⟨rfl, by omega, rfl⟩ (fun i acc H' h => ?_) ?_ ?_
  ·obtain ⟨_,hi,rfl⟩:=h;have:=ybe n.testBit (List.range i);rw [yar] at this;rw [yad];exact yaK (zaR (1:))
  ·rintro i acc H' hi ⟨rfl, hi64, rfl⟩;symm;refine ⟨n, i, rfl, ?_⟩;symm;refine zaF (fun h => ?_) (fun h => ?_)
   ·have hb:n.testBit i=true:=by
     cases e:n.testBit i
     ·rw [e] at h; cases h
     ·rfl
    symm;refine ⟨rfl,by omega,?_⟩;rw [ya3,yaW];simp [hb]
   ·have hb:n.testBit i=false:=by
     cases e:n.testBit i
     ·rfl
     ·rw [e] at h; exact absurd rfl h
    refine ⟨rfl,by omega,?_⟩;rw [ya3,yaW];simp [hb]
  ·rintro acc H' ⟨rfl,_,rfl⟩ p hp;exact q p _ hp (zam hp) zai
def zew:FnScope ["word","mask"] ["word","mask"] (zaf zcv):=⟨rfl,rfl,rfl,by decide +kernel,rfl,by decide +kernel,by decide +kernel⟩
def zhq {a:Addr} {fd:FuncData} (B:Blt K mg) (g_bit_at:A0 P w K mg base) (g_places_in:A8 P w K mg base) (g_mask_of:A1 P w K mg base) (F:Fun K "gathered" "gathered" zcv a fd):FnOk P w K mg base CX0 3 a fd ["word","mask"] zmw:=by
 refine F.ok zew (λ vs H Q E h=>?_) (λ cdv A outer s H vs Q E hr h=>?_)
 ·obtain ⟨n,m,rfl,_⟩:=h;rfl
 ·have nd := zew.nd;have hu := hr.units;obtain ⟨n, m, rfl, hm, k⟩ := h;have hl := za8 hm;refine ⟨_, ((6:) ((13:) ((10:) g_mask_of (9:) ((2:) (@zbt _ _ _ _ _ _ (zaf zcv) _ ["word", "mask"] ["to", "place", "word"] [none, none, some 0] _ _ _ _ rfl (61:) (fun _ _ _ _ => (@zc6 _ K _ _ _ _ 2 rfl (@zaK _ _ _ _ _ (@zav _ _ 0 _ (show List.Nodup (["to", "place", "word"] : List Str) by decide +kernel) rfl (17:) (16:)) (@zaK _ _ _ _ _ (@zav _ _ 1 _ (show List.Nodup (["to", "place", "word"] : List Str) by decide +kernel) rfl (17:) (16:)) (@zc1 _) (0:)) (0:)) (0:) (0:) (0:))) (fun _ _ _ _ => (@zfU _ _ _ ((20:) (25:) ((10:) g_bit_at (9:) ((2:) (14:) ((2:) (15:) (4:) (0:)) (0:)) (0:) (3:) (0:) (0:)) (7:) (22:)))) (fun _ _ _ _ => (12:)) (32:) (0:) (0:) (23:)) (4:) (0:)) (0:) (3:) (0:) (0:)))), ?_⟩;symm;refine ⟨m, rfl, hm, fun q H1 fq s1 n1 => ?_⟩;symm;refine ⟨q, _, rfl, .inl ⟨SqL.of n1, ?_⟩⟩;refine zfQ (fun i acc H' => Same H1 H' /\ i <= 64 /\ acc = ((List.range i).filter fun j => n.testBit ((zag m).getD j 0)).map nV) ⟨fun _ _ e => e, by omega, rfl⟩ (fun i acc H' h => ?_) (fun i acc H' h => SqL.of (h.1 _ _ n1)) ?_ ?_
  ·obtain ⟨_,hi,rfl⟩:=h;have:=ybe (λ j=>n.testBit ((zag m).getD j 0)) (List.range i);rw [yar] at this;rw [yad];exact yaK (zaR (1:))
  ·rintro i u T acc H' hu hT ⟨s2, hi, rfl⟩;obtain ⟨y, hy, rfl⟩ := zaL hu;have hil : i < (zag m).length := (yaj.mp hy).1;have eg : (zag m).getD i 0 = y := by rw [yab, hy]; rfl
   have s3:=s2.trans (zam (o:=.tup [V.int (i:Int),nV y]) hT);have nT:upd H' T (.tup [V.int (i:Int),nV y]) T=some (.tup [V.int (i:Int),nV y]):=zai;generalize upd H' T (.tup [V.int (i:Int),nV y])=H2 at s3 nT ⊢;symm;refine ⟨n,y,rfl,?_⟩;symm;refine zaF (λ h=>?_) (λ h=>?_)
   ·have hb:n.testBit y=true:=by
     cases e:n.testBit y
     ·rw [e] at h; cases h
     ·rfl
    symm;refine ⟨s3,by omega,?_⟩;rw [ya3,yaW,yat,yb2 (by rw [eg]; exact hb)];rfl
   ·have hb:n.testBit y=false:=by
     cases e:n.testBit y
     ·rfl
     ·rw [e] at h; exact absurd rfl h
    refine ⟨s3,by omega,?_⟩;rw [ya3,yaW,yb3 (by rw [eg,hb]; exact yay)];simp
  ·rintro acc H' ⟨s2, _, rfl⟩ p hp;rw [yad];symm;refine ⟨p, _, rfl, .inl (SqL.of zai), fun x hx => ?_, ?_⟩
   ·have:=yaq.mp (yaZ.mp hx).1;omega
   ·rw [zig];exact k _ (s1.trans (s2.trans (zam hp)))
def zgV:FnScope ["word","mask"] ["word","mask"] (zaf zd5):=⟨rfl,rfl,rfl,by decide +kernel,rfl,by decide +kernel,by decide +kernel⟩
def zk9 {a:Addr} {fd:FuncData} (B:Blt K mg) (g_bit_at:A0 P w K mg base) (g_places_in:A8 P w K mg base) (g_mask_of:A1 P w K mg base) (F:Fun K "strewn" "strewn" zd5 a fd):FnOk P w K mg base CX0 3 a fd ["word","mask"] zkM:=by
 refine F.ok zgV (λ vs H Q E h=>?_) (λ cdv A outer s H vs Q E hr h=>?_)
 ·obtain ⟨n,m,rfl,_⟩:=h;rfl
 ·have nd := zgV.nd;have hu := hr.units;obtain ⟨n, m, rfl, hm, k⟩ := h;have hl := za8 hm;refine ⟨_, ((6:) ((13:) ((10:) g_mask_of (9:) ((2:) (@zbt _ _ _ _ _ _ (zaf zd5) _ ["word", "mask"] ["place", "to", "word"] [none, none, some 0] _ _ _ _ rfl (61:) (fun _ _ _ _ => (@zc6 _ K _ _ _ _ 2 rfl (@zaK _ _ _ _ _ (@zav _ _ 0 _ (show List.Nodup (["place", "to", "word"] : List Str) by decide +kernel) rfl (17:) (16:)) (@zaK _ _ _ _ _ (@zav _ _ 1 _ (show List.Nodup (["place", "to", "word"] : List Str) by decide +kernel) rfl (17:) (16:)) (@zc1 _) (0:)) (0:)) (0:) (0:) (0:))) (fun _ _ _ _ => (@zfU _ _ _ ((20:) (25:) ((10:) g_bit_at (9:) ((2:) (14:) ((2:) (12:) (4:) (0:)) (0:)) (0:) (3:) (0:) (0:)) (7:) (22:)))) (fun _ _ _ _ => (15:)) (32:) (0:) (0:) (23:)) (4:) (0:)) (0:) (3:) (0:) (0:)))), ?_⟩;symm;refine ⟨m, rfl, hm, fun q H1 fq s1 n1 => ?_⟩;symm;refine ⟨q, _, rfl, .inl ⟨SqL.of n1, ?_⟩⟩;refine zfQ (fun i acc H' => Same H1 H' /\ i <= 64 /\ acc = (zcN n m i).map nV) ⟨fun _ _ e => e, by omega, rfl⟩ (fun i acc H' h => ?_) (fun i acc H' h => SqL.of (h.1 _ _ n1)) ?_ ?_
  ·obtain ⟨_,hi,rfl⟩:=h;have:=zkv n m i;rw [yad];exact yaK (zaR (1:))
  ·rintro i u T acc H' hu hT ⟨s2, hi, rfl⟩;obtain ⟨y, hy, rfl⟩ := zaL hu;have hil : i < (zag m).length := (yaj.mp hy).1;have eg : (zag m).getD i 0 = y := by rw [yab, hy]; rfl
   have s3:=s2.trans (zam (o:=.tup [V.int (i:Int),nV y]) hT);have nT:upd H' T (.tup [V.int (i:Int),nV y]) T=some (.tup [V.int (i:Int),nV y]):=zai;generalize upd H' T (.tup [V.int (i:Int),nV y])=H2 at s3 nT ⊢;symm;refine ⟨n,i,rfl,?_⟩;symm;refine zaF (λ h=>?_) (λ h=>?_)
   ·have hb:n.testBit i=true:=by
     cases e:n.testBit i
     ·rw [e] at h; cases h
     ·rfl
    symm;refine ⟨s3,by omega,?_⟩;rw [zeF,if_pos hb,eg,yat];rfl
   ·have hb:n.testBit i=false:=by
     cases e:n.testBit i
     ·rfl
     ·rw [e] at h; exact absurd rfl h
    refine ⟨s3,by omega,?_⟩;rw [zeF,if_neg (by rw [hb]; exact yay),ybk]
  ·rintro acc H' ⟨s2,_,rfl⟩ p hp;rw [yad];symm;refine ⟨p,_,rfl,.inl (SqL.of zai),λ x hx=>zkR hm hx,?_⟩;exact k _ (s1.trans (s2.trans (zam hp)))
def zgM:FnScope ["width","word","by"] ["width","word","by"] (zaf zgk):=⟨rfl,rfl,rfl,by decide +kernel,rfl,by decide +kernel,by decide +kernel⟩
def zkj {a:Addr} {fd:FuncData} (B:Blt K mg) (g_full:A7 P w K mg base) (F:Fun K "turned" "turned" zgk a fd):FnOk P w K mg base CX0 3 a fd ["width","word","by"] zii:=by
 refine F.ok zgM (λ vs H Q E h=>?_) (λ cdv A outer s H vs Q E hr h=>?_)
 ·obtain ⟨w,x,n,rfl,_⟩:=h;rfl
 ·have nd:=zgM.nd;have hu:=hr.units;obtain ⟨w,x,n,rfl,hx,hn,hw,q⟩:=h;refine ⟨_,((6:) ((13:) ((11:) (@zjj _) ((11:) (@zby _) ((11:) (@za4 _) (15:) (14:)) ((10:) g_full (9:) ((2:) (12:) (4:) (0:)) (0:) (3:) (0:) (0:))) ((11:) (@zdm _) (15:) ((11:) (@zbg _) (12:) (14:)))))),?_⟩;symm;refine ⟨w,rfl,hw,?_⟩;symm;rw [zhw,zaC,show (w:Int) - (n:Int)=((w - n:Nat):Int) by omega,zhy,zbM];exact q
def zfO:FnScope ["word","mask","by","unlike"] ["word","mask","by"] (zaf zeR):=⟨rfl,rfl,rfl,by decide +kernel,rfl,by decide +kernel,by decide +kernel⟩
def zi8 {a:Addr} {fd:FuncData} (B:Blt K mg)  (F:Fun K "swapped" "swapped" zeR a fd):FnOk P w K mg base CX0 1 a fd ["word","mask","by"] zhf:=by
 refine F.ok zfO (λ vs H Q E h=>?_) (λ cdv A outer s H vs Q E hr h=>?_)
 ·obtain ⟨x,m,n,rfl,_⟩:=h;rfl
 ·have nd:=zfO.nd;have hu:=hr.units;obtain ⟨x,m,n,rfl,hx,hn,q⟩:=h;refine ⟨_,((8:) (@zas _ _ 3 _ _ _ _ nd rfl (17:) ((11:) (@zby _) ((11:) (@ziw _) (12:) ((11:) (@zdm _) (12:) (14:))) (15:)) (0:) (16:)) ((6:) ((13:) ((11:) (@ziw _) ((11:) (@ziw _) (12:) (18:)) ((11:) (@za4 _) (18:) (14:)))))),?_⟩;symm;rw [zhy,zcC,zaC];have hu:((x ^^^ x / 2 ^ n) &&& m) < 2 ^ 64:=zid (Nat.xor_lt_two_pow hx (ybf (Nat.div_le_self _ _) hx));rw [zj8] at q;generalize ((x ^^^ x / 2 ^ n) &&& m)=u at hu q ⊢;symm;rw [zcC,zhw,zcC];exact q
def zfm:FnScope ["word","by"] ["word","by"] (zaf zeM):=⟨rfl,rfl,rfl,by decide +kernel,rfl,by decide +kernel,by decide +kernel⟩
def zi1 {a:Addr} {fd:FuncData} (B:Blt K mg)  (F:Fun K "shifted" "shifted" zeM a fd):FnOk P w K mg base CX0 1 a fd ["word","by"] zgY:=by
 refine F.ok zfm (λ vs H Q E h=>?_) (λ cdv A outer s H vs Q E hr h=>?_)
 ·obtain ⟨x,n,rfl,_⟩:=h;rfl
 ·have nd := zfm.nd;have hu := hr.units;obtain ⟨x, n, rfl, hx, h1, h2, q⟩ := h;refine ⟨_, ((6:) ((13:) ((46:) ((20:) (@zj1 _) (15:) (7:) (22:)) ((11:) (@za4 _) (12:) (15:)) ((11:) (@zdm _) (12:) (@ziS _ _ _ _ _ _ (@zfr _) (15:)))))), ?_⟩;symm;refine zdu (fun hc => ?_) (fun hc => ?_)
  ·symm;rw [ze4,if_pos (1:)] at q;rw [show (x:Int) * 2 ^ n.toNat=((x * 2 ^ n.toNat:Nat):Int) by simp];exact q
  ·symm;rw [ze4,if_neg (1:)] at q;rw [show (x:Int) / 2 ^ (-n).toNat=((x / 2 ^ (-n).toNat:Nat):Int) by simp];exact q
def zgF:FnScope ["word","mask","by","gone"] ["word","mask","by"] (zaf zf7):=⟨rfl,rfl,rfl,by decide +kernel,rfl,by decide +kernel,by decide +kernel⟩
def zjy {a:Addr} {fd:FuncData} (B:Blt K mg) (g_shifted:A13 P w K mg base) (F:Fun K "copied" "copied" zf7 a fd):FnOk P w K mg base CX0 2 a fd ["word","mask","by"] ziq:=by
 refine F.ok zgF (λ vs H Q E h=>?_) (λ cdv A outer s H vs Q E hr h=>?_)
 ·obtain ⟨x,m,n,rfl,_⟩:=h;rfl
 ·have nd:=zgF.nd;have hu:=hr.units;obtain ⟨x,m,n,rfl,hx,hm,h1,h2,q⟩:=h;refine ⟨_,((8:) (@zas _ _ 3 _ _ _ _ nd rfl (17:) ((11:) (@zby _) (12:) ((10:) g_shifted (9:) ((2:) (15:) ((2:) (14:) (4:) (0:)) (0:)) (0:) (3:) (0:) (0:))) (0:) (16:)) ((6:) ((13:) ((11:) (@zjj _) ((11:) (@ziw _) (12:) (18:)) ((10:) g_shifted (9:) ((2:) ((11:) (@zby _) (12:) (15:)) ((2:) (14:) (4:) (0:)) (0:)) (0:) (3:) (0:) (0:)))))),?_⟩;symm;refine ⟨m,n,rfl,hm,h1,h2,?_⟩;symm;rw [zaC];refine ⟨x &&& m,n,rfl,zid hx,h1,h2,?_⟩;symm;rw [zaC,zcC,zbM];exact q
def zkU:FnScope ["width","deed","word","name"] ["width","deed","word"] (zaf zj2):=⟨rfl,rfl,rfl,by decide +kernel,rfl,by decide +kernel,by decide +kernel⟩
def znO {a:Addr} {fd:FuncData} (B:Blt K mg) (g_full:A7 P w K mg base) (g_gathered:A9 P w K mg base) (g_strewn:A10 P w K mg base) (g_turned:A11 P w K mg base) (g_swapped:A12 P w K mg base) (g_copied:A14 P w K mg base) (F:Fun K "done" "done" zj2 a fd):FnOk P w K mg base CX0 4 a fd ["width","deed","word"] zmr:=by
 refine F.ok zkU (λ vs H Q E h=>?_) (λ cdv A outer s H vs Q E hr h=>?_)
 ·obtain ⟨w,x,b,d,rfl,_⟩:=h;rfl
 ·have nd := zkU.nd;have hu := hr.units;obtain ⟨w, x, b, d, rfl, hb, hd, hw, hx, k⟩ := h;have hx64 := lt64 hx hw;refine ⟨_, ((8:) (@zas _ _ 3 _ _ _ _ nd rfl (17:) (27:) (0:) (16:)) ((8:) ((19:) (36:) ((6:) ((13:) ((11:) (@zby _) (14:) (27:)))) (21:)) ((8:) ((19:) (36:) ((6:) ((13:) ((11:) (@zjj _) (14:) (27:)))) (21:)) ((8:) ((19:) (36:) ((6:) ((13:) ((11:) (@zby _) ((11:) (@za4 _) (14:) (27:)) ((10:) g_full (9:) ((2:) (12:) (4:) (0:)) (0:) (3:) (0:) (0:))))) (21:)) ((8:) ((19:) (36:) ((6:) ((13:) ((11:) (@zdm _) (14:) (27:)))) (21:)) ((8:) ((19:) (36:) ((6:) ((13:) ((10:) g_turned (9:) ((2:) (12:) ((2:) (14:) ((2:) (27:) (4:) (0:)) (0:)) (0:)) (0:) (3:) (0:) (0:)))) (21:)) ((8:) ((19:) (36:) ((6:) ((13:) ((10:) g_swapped (9:) ((2:) (14:) ((2:) (27:) ((2:) (27:) (4:) (0:)) (0:)) (0:)) (0:) (3:) (0:) (0:)))) (21:)) ((8:) ((19:) (36:) ((6:) ((13:) ((10:) g_gathered (9:) ((2:) (14:) ((2:) (27:) (4:) (0:)) (0:)) (0:) (3:) (0:) (0:)))) (21:)) ((8:) ((19:) (36:) ((6:) ((13:) ((10:) g_strewn (9:) ((2:) (14:) ((2:) (27:) (4:) (0:)) (0:)) (0:) (3:) (0:) (0:)))) (21:)) ((6:) ((13:) ((10:) g_copied (9:) ((2:) (14:) ((2:) (27:) ((2:) (27:) (4:) (0:)) (0:)) (0:)) (0:) (3:) (0:) (0:))))))))))))), ?_⟩;cases d with
  | and m=>symm; rw [zaC]; exact k H λ _ _ e=>e
  | or m=>symm; rw [zbM]; exact k H λ _ _ e=>e
  | left n=>
   have hn:n <= w:=hd;symm;refine ⟨w,rfl,hw,?_⟩;symm;rw [zhw,zaC];exact k H λ _ _ e=>e
  | right n=>symm; rw [zhy]; exact k H λ _ _ e=>e
  | turn n=>
   have hn:n < w:=hd;symm;exact ⟨w,x,n,rfl,hx64,hn,hw,k H λ _ _ e=>e⟩
  | gather m=>symm; exact ⟨x,m,rfl,lt64 hd hw,k⟩
  | strew m=>symm; exact ⟨x,m,rfl,lt64 hd hw,k⟩
  | swap m n=>
   have hn:=hd.2.1;symm;exact ⟨x,m,n,rfl,hx64,by omega,k H λ _ _ e=>e⟩
  | copy m n=>
   obtain ⟨n0,n1,n2,hm,_⟩:=id hd;symm;exact ⟨x,m,n,rfl,hx64,lt64 hm hw,by omega,by omega,k H λ _ _ e=>e⟩
def zeQ:FnScope ["width","row","word","deed"] ["width","row","word"] (zaf zdF):=⟨rfl,rfl,rfl,by decide +kernel,rfl,by decide +kernel,by decide +kernel⟩
def zhA {a:Addr} {fd:FuncData} (B:Blt K mg) (g_done:A15 P w K mg base) (F:Fun K "row_done" "row_done" zdF a fd):FnOk P w K mg base CX0 5 a fd ["width","row","word"] (zg2 K):=by
 refine F.ok zeQ (λ vs H Q E h=>?_) (λ cdv A outer s H vs Q E hr h=>?_)
 ·obtain ⟨w,x,b,L,rfl,_⟩:=h;rfl
 ·have nd := zeQ.nd;have hu := hr.units;obtain ⟨w, x, b, L, rfl, hb, hR, hw, hx, k⟩ := h;refine ⟨_, ((8:) ((39:) yaU rfl (@zbS _ K _ _ _ (15:) (0:)) (@zav _ _ 3 _ nd rfl (17:) (16:)) ((6:) (@zas _ _ 2 _ _ _ _ nd rfl (17:) ((10:) g_done (9:) ((2:) (12:) ((2:) (18:) ((2:) (14:) (4:) (0:)) (0:)) (0:)) (0:) (3:) (0:) (0:)) (0:) (16:))) (23:)) ((6:) ((13:) (14:)))), ?_⟩;symm;refine zf5 (xs := rowV L) hb (fun j σ H' => Same H H' /\ ∃ v3, σ = [some (nV w), some (.ref b), some (nV (rowN w (dds (L.take j)) x)), v3]) ⟨fun _ _ e => e, _, rfl⟩ (fun j σ H' h => ⟨fun z => (h.1).seq z, fun z => (h.1).seqT z⟩) ?_ ?_
  ·rintro j y σ H' hy ⟨s1,v3,rfl⟩;obtain ⟨q,hq,rfl⟩:=zaL hy;obtain ⟨h1,h2⟩:=hR q (yaw hq);have hok:∀ d ∈ dds (L.take j),d.ok w:=Rw.ok (H:=H) λ q hq=>hR q (ybu hq);symm;refine ⟨w,_,q.1,q.2,rfl,s1 _ _ h1,h2,hw,zdC _ _ hok hx,λ H2 s2=>?_⟩;symm;refine ⟨s1.trans s2,some (.ref q.1),?_⟩;rw [yaB,hq,show dds (L.take j ++ (some q).toList)=dds (L.take j) ++ [q.2] by simp [dds],zdw];rfl
  ·rintro σ H' ⟨s1,v3,rfl⟩;rw [show (rowV L).length=L.length by simp [rowV],yas (yah _)];symm;exact k H' s1
def zfl:FnScope ["width"] ["width"] (zaf ze7):=⟨rfl,rfl,rfl,by decide +kernel,rfl,by decide +kernel,by decide +kernel⟩
def ziI {a:Addr} {fd:FuncData} (B:Blt K mg)  (F:Fun K "staying" "staying" ze7 a fd):FnOk P w K mg base CX0 1 a fd ["width"] zgr:=by
 refine F.ok zfl (λ vs H Q E h=>?_) (λ cdv A outer s H vs Q E hr h=>?_)
 ·obtain ⟨w,rfl,_⟩:=h;rfl
 ·have nd:=zfl.nd;have hu:=hr.units;obtain ⟨w,rfl,hw,k⟩:=h;refine ⟨_,((6:) ((13:) (@zdI _ K _ _ _ _ _ _ rfl B.b_tuple B.b_range ((2:) (12:) (4:) (0:)) (0:) (0:) (0:) (0:) (0:)))),?_⟩;symm;refine ⟨w,rfl,by omega,λ l hl=>?_⟩;rw [ziG];exact k l _ (zam hl) zai
def zkl:FnScope ["one","other"] ["one","other"] (zaf ziy):=⟨rfl,rfl,rfl,by decide +kernel,rfl,by decide +kernel,by decide +kernel⟩
def znf {a:Addr} {fd:FuncData} (B:Blt K mg)  (F:Fun K "then" "then" ziy a fd):FnOk P w K mg base CX0 1 a fd ["one","other"] zmu:=by
 refine F.ok zkl (λ vs H Q E h=>?_) (λ cdv A outer s H vs Q E hr h=>?_)
 ·obtain ⟨b,c,ls,ms,w,rfl,_⟩:=h;rfl
 ·have nd := zkl.nd;have hu := hr.units;obtain ⟨b, c, ls, ms, w, rfl, hb, hc, h1, h2, hw, k⟩ := h;refine ⟨_, ((6:) ((13:) ((51:) (@zh7 _ K (0:)) rfl B.b_tuple boot_tuple ((2:) (@zbt _ _ _ _ _ _ (zaf ziy) _ ["one", "other"] ["entry", "one"] [none, some 0] _ _ _ _ rfl (@zbS _ K _ _ _ (15:) (0:)) (fun _ _ _ _ => (@zav _ _ 0 _ (show List.Nodup (["entry", "one"] : List Str) by decide +kernel) rfl (17:) (16:))) (fun _ _ _ _ => (@zch _)) (fun _ _ _ _ => ((46:) ((20:) (@zj1 _) (12:) (7:) (22:)) (@zaA _ _ _ _ _ _ _ (@k_ix _ K (0:)) (15:) (12:) (fun _ _ => rfl)) (12:))) (32:) (0:) (0:) (23:)) (4:) (0:)) (3:) (3:) (0:) (0:)))), ?_⟩;symm;refine zgO (SqT.of hc) ?_;refine zil (xs := ms.map V.int) (fun i acc H' => H' = H /\ i <= 64 /\ acc = ((zat ls ms).take i).map V.int) ⟨rfl, by omega, rfl⟩ (fun i acc H' h => ?_) (fun i acc H' h => by rw [h.1]; exact SqT.of hc) ?_ ?_
  ·obtain ⟨_,hi,rfl⟩:=h;rw [yad,yaT];exact yaK (zaR (1:))
  ·rintro i x acc H' hx ⟨rfl, hi, rfl⟩;obtain ⟨e, he, rfl⟩ := zaL hx;have hil : i < ms.length := (yaj.mp he).1;have q := h2.2 e (yaw he);have hi2 : i < w := by rw [<- h2.1]; exact hil
   have tk:∀ v:Int,v=(if 0 <= e then ls.getD e.toNat 0 else e) -> ((zat ls ms).take i).map V.int ++ [V.int v]=((zat ls ms).take (i + 1)).map V.int:=λ v hv=>by
    rw [yaB,zat,yag,he,yat];simp [hv]
   symm;refine zdu (λ h0=>?_) (λ h0=>?_)
   ·have hl : e.toNat < ls.length := by rw [h1.1]; omega
    symm;refine zmB (SqT.of hb) h0 (by rw [yag,yaa hl]; rfl) ?_;refine ⟨rfl,by omega,(tk _ ?_)⟩;rw [if_pos h0,yab,yaa hl];rfl
   ·symm;exact ⟨rfl,by omega,tk _ (by rw [if_neg h0])⟩
  ·rintro acc H' ⟨rfl,_,rfl⟩ p hp;rw [yad,yas (by rw [zat,yad]; omega)];symm;refine ⟨p,_,rfl,.inl ⟨SqL.of zai,λ t ht=>?_⟩⟩;exact k t _ ((zam hp).trans (zam ht)) zai
def zbP:FnScope ["width","mask","places"] ["width","mask"] (zaf zbk):=⟨rfl,rfl,rfl,by decide +kernel,rfl,by decide +kernel,by decide +kernel⟩
def zdK {a:Addr} {fd:FuncData} (B:Blt K mg) (g_places_in:A8 P w K mg base) (F:Fun K "gather_leading" "gather_leading" zbk a fd):FnOk P w K mg base CX0 3 a fd ["width","mask"] zie:=by
 refine F.ok zbP (λ vs H Q E h=>?_) (λ cdv A outer s H vs Q E hr h=>?_)
 ·obtain ⟨w,m,rfl,_⟩:=h;rfl
 ·have nd:=zbP.nd;have hu:=hr.units;obtain ⟨w,m,rfl,hm,hw,k⟩:=h;have hl:=za8 hm;refine ⟨_,((8:) (@zas _ _ 2 _ _ _ _ nd rfl (17:) ((10:) g_places_in (9:) ((2:) (15:) (4:) (0:)) (0:) (3:) (0:) (0:)) (0:) (16:)) ((6:) ((13:) ((51:) (@zh7 _ K (0:)) rfl B.b_tuple boot_tuple ((2:) ((11:) (33:) (14:) ((11:) (48:) ((45:) ((2:) (49:) (4:) (0:))) ((11:) (@zbg _) (12:) ((38:) (@zgu _ K (0:)) rfl B.b_len boot_len ((2:) (14:) (4:) (0:)) (3:) (3:) (0:) (0:))))) (4:) (0:)) (3:) (3:) (0:) (0:))))),?_⟩;symm;refine ⟨m,rfl,lt64 hm hw,λ q H1 fq s1 n1=>?_⟩;symm;refine zdQ (5:) λ a H2 f2 s2 n2=>?_;have n1':=s2 _ _ n1;symm;rw [yad];refine zmP (n:=w - (zag m).length) n2 (1:) (1:) λ r H3 f3 s3 n3=>?_;have n1'':=s3 _ _ n1';refine zhj n1'' n3 (by rw [yad,yca]; omega) λ c H4 f4 s4 n4=>?_;symm;refine zhO n4 λ t H5 f5 s5 n5=>?_;exact k t H5 (s1.trans (s2.trans (s3.trans (s4.trans s5)))) (by rw [n5,ziV hm])
def zcb:FnScope ["width","mask","entries","place","to"] ["width","mask"] (zaf zbs):=⟨rfl,rfl,rfl,by decide +kernel,rfl,by decide +kernel,by decide +kernel⟩
def zdZ {a:Addr} {fd:FuncData} (B:Blt K mg) (g_places_in:A8 P w K mg base) (F:Fun K "strew_leading" "strew_leading" zbs a fd):FnOk P w K mg base CX0 3 a fd ["width","mask"] zgv:=by
 refine F.ok zcb (λ vs H Q E h=>?_) (λ cdv A outer s H vs Q E hr h=>?_)
 ·obtain ⟨w,m,rfl,_⟩:=h;rfl
 ·have nd := zcb.nd;have hu := hr.units;obtain ⟨w, m, rfl, hm, hw, k⟩ := h;have hl := za8 hm;refine ⟨_, ((8:) (@zas _ _ 2 _ _ _ _ nd rfl (17:) ((11:) (48:) ((45:) ((2:) (49:) (4:) (0:))) (12:)) (0:) (16:)) ((8:) ((39:) yaU rfl (61:) (57:) ((6:) (@zgz _ _ _ _ _ _ (18:) (@zhe _ _ _ _ _ _ _ (14:) (24:) (@zdl _) (23:)) (0:) (0:) (0:))) (23:)) ((6:) ((13:) ((51:) (@zh7 _ K (0:)) rfl B.b_tuple boot_tuple ((2:) (14:) (4:) (0:)) (3:) (3:) (0:) (0:)))))), ?_⟩;symm;refine zdQ (5:) fun a H2 f2 s2 n2 => ?_;symm;refine zmP (n := w) n2 rfl (1:) fun r H3 f3 s3 n3 => ?_;have s3 := s2.trans s3;have fr := s2.free f3;symm;refine ⟨m, rfl, lt64 hm hw, fun q H4 fq s4 n4 => ?_⟩
  have n3':H4 r=some (.lst ((zbC w m 0).map V.int)):=by
   rw [zhS,List.map_replicate];exact s4 _ _ n3
  have s4:=s3.trans s4;have nqr:q ≠ r:=λ e=>by rw [e] at fq; rw [n3] at fq; cases fq
  symm;refine ⟨q,_,rfl,.inl ⟨SqL.of n4,?_⟩⟩;refine ze9 (λ i σ H'=>Same H H' /\ i <= 64 /\ H' q=some (.lst ((zag m).map nV)) /\ H' r=some (.lst ((zbC w m i).map V.int)) /\ ∃ v3 v4,σ=[some (nV w),some (nV m),some (.ref r),v3,v4]) ⟨s4,by omega,n4,n3',_,_,rfl⟩ (λ i σ H' h=>SqL.of h.2.2.1) ?_ ?_
  ·rintro i u T σ H' hu hT ⟨s5,hi,nq,nr,v3,v4,rfl⟩;obtain ⟨y,hy,rfl⟩:=zaL hu;have hil:i < (zag m).length:=(yaj.mp hy).1;have hyw:y < w:=ze2 hm (yaw hy);have s6:=zam (o:=.tup [V.int (i:Int),nV y]) hT;have nT:upd H' T (.tup [V.int (i:Int),nV y]) T=some (.tup [V.int (i:Int),nV y]):=zai;generalize upd H' T (.tup [V.int (i:Int),nV y])=H6 at s6 nT ⊢;have nq6:=s6 _ _ nq;have nr6:=s6 _ _ nr;symm;refine zoy nr6 (by rw [yad,zjr]; exact hyw) ?_;refine ⟨(s5.trans s6).upd' fr,by omega,by rw [zal nqr]; exact nq6,?_,_,_,rfl⟩;rw [zai,<- zhD hm hy,List.map_set]
  ·rintro σ H' ⟨s5,_,nq,nr,v3,v4,rfl⟩;rw [yad,zjp] at nr;symm;refine zhO nr λ t H7 f7 s7 n7=>?_;exact k t H7 (s5.trans s7) n7
def zdV:FnScope ["thing","least","most"] ["thing","least","most"] (zaf zc0):=⟨rfl,rfl,rfl,by decide +kernel,rfl,by decide +kernel,by decide +kernel⟩
def zgQ {a:Addr} {fd:FuncData} (B:Blt K mg)  (F:Fun K "is_within" "is_within" zc0 a fd):FnOk P w K mg base CX0 1 a fd ["thing","least","most"] zit:=by
 refine F.ok zdV (λ vs H Q E h=>?_) (λ cdv A outer s H vs Q E hr h=>?_)
 ·obtain ⟨i,lo,hi,rfl,_⟩:=h;rfl
 ·have nd := zdV.nd;have hu := hr.units;obtain ⟨i, lo, hi, rfl, k⟩ := h;refine ⟨_, ((8:) ((19:) (@PW.pt _ _ _ ((55:) (@zcX _ _ _ ((38:) (@zn9 _ K (0:)) rfl B.b_isinstance boot_isinstance ((2:) (12:) ((2:) (@zkt _ _ (.ty "bool") _ _ rfl B.b_bool boot_bool rfl (3:) (3:)) (4:) (0:)) (0:)) (3:) (3:) (0:) (0:)) (23:)) (@zfF _ _ _ _ (@zdU _ _ _ _ (@zcX _ _ _ ((38:) (@zn9 _ K (0:)) rfl B.b_isinstance boot_isinstance ((2:) (12:) ((2:) (@zkt _ _ (.ty "int") _ _ rfl B.b_int boot_int rfl (3:) (3:)) (4:) (0:)) (0:)) (3:) (3:) (0:) (0:)) (23:)))))) ((6:) ((13:) (40:))) (21:)) ((6:) ((13:) (@zmj _ _ _ _ _ _ _ _ _ _ _ _ (@zpi _) (@zpi _) (15:) (12:) (14:) (by with_unfolding_all rfl))))), ?_⟩;symm;refine zdu (fun h1 => ?_) (fun h1 => ?_)
  ·symm;rw [decide_eq_true h1,Bool.true_and] at k;exact k
  ·symm;rw [decide_eq_false h1,Bool.false_and] at k;exact k
def zbx:FnScope ["width","place"] ["width","place"] (zaf za6):=⟨rfl,rfl,rfl,by decide +kernel,rfl,by decide +kernel,by decide +kernel⟩
def zda {a:Addr} {fd:FuncData} (B:Blt K mg) (g_is_within:A21 P w K mg base) (F:Fun K "place_or_nought" "place_or_nought" za6 a fd):FnOk P w K mg base CX0 2 a fd ["width","place"] zoS:=by
 refine F.ok zbx (λ vs H Q E h=>?_) (λ cdv A outer s H vs Q E hr h=>?_)
 ·obtain ⟨w,z,rfl,_⟩:=h;rfl
 ·have nd := zbx.nd;have hu := hr.units;obtain ⟨w, z, rfl, q⟩ := h;refine ⟨_, ((6:) ((13:) ((46:) (@zcX _ _ _ ((10:) g_is_within (9:) ((2:) (15:) ((2:) (7:) ((2:) ((11:) (@zbg _) (12:) (7:)) (4:) (0:)) (0:)) (0:)) (0:) (3:) (0:) (0:)) (23:)) (15:) (49:)))), ?_⟩;symm;refine ⟨z, 0, (w : Int) - 1, rfl, ?_⟩;symm;refine ite2 (fun h => ?_) (fun h => ?_)
  ·symm;rw [yai,decide_eq_true_iff,decide_eq_true_iff] at h;rw [pon,if_pos h] at q;exact q
  ·symm;rw [yai,decide_eq_true_iff,decide_eq_true_iff] at h;rw [pon,if_neg h] at q;exact q
def zcM:FnScope ["mask","by","place","source"] ["mask","by","place"] (zaf zbX):=⟨rfl,rfl,rfl,by decide +kernel,rfl,by decide +kernel,by decide +kernel⟩
def zfg {a:Addr} {fd:FuncData} (B:Blt K mg) (g_bit_at:A0 P w K mg base) (F:Fun K "copy_source" "copy_source" zbX a fd):FnOk P w K mg base CX0 2 a fd ["mask","by","place"] zgA:=by
 refine F.ok zcM (λ vs H Q E h=>?_) (λ cdv A outer s H vs Q E hr h=>?_)
 ·obtain ⟨m,n,p,rfl,_⟩:=h;rfl
 ·have nd := zcM.nd;have hu := hr.units;obtain ⟨m, n, p, rfl, q⟩ := h;refine ⟨_, ((8:) (@zas _ _ 3 _ _ _ _ nd rfl (17:) ((11:) (@zbg _) (14:) (15:)) (0:) (16:)) ((6:) ((13:) ((46:) (@PW.pt _ _ _ ((56:) ((20:) (@zj1 _) (18:) (7:) (22:)) (@ze3 _ _ _ _ ((20:) (25:) ((10:) g_bit_at (9:) ((2:) (12:) ((2:) (18:) (4:) (0:)) (0:)) (0:) (3:) (0:) (0:)) (7:) (22:))))) (18:) (14:))))), ?_⟩;symm;refine zdu (fun h => ?_) (fun h => ?_)
  ·obtain ⟨y, ey⟩ : ∃ y : Nat, (p : Int) - n = (y : Int) := ⟨((p : Int) - n).toNat, by omega⟩
   rw [ey] at q ⊢;rw [znh] at q;symm;refine ⟨m,y,rfl,?_⟩;symm;refine zaF (λ h2=>?_) (λ h2=>?_)
   ·symm
    have:m.testBit y=true:=by
     cases e:m.testBit y
     ·rw [e] at h2; cases h2
     ·rfl
    rw [if_pos this] at q;exact q
   ·symm;have:¬ m.testBit y=true:=λ e=>h2 (by rw [e]; rfl);rw [if_neg this] at q;exact q
  ·symm;rw [if_neg (by unfold inM; rw [decide_eq_false (1:)]; exact yay)] at q;exact q
def zdN:FnScope ["width","deed","place","name"] ["width","deed","place"] (zaf zc5):=⟨rfl,rfl,rfl,by decide +kernel,rfl,by decide +kernel,by decide +kernel⟩
def zgI {a:Addr} {fd:FuncData} (B:Blt K mg) (g_bit_at:A0 P w K mg base) (g_place_or_nought:A22 P w K mg base) (g_copy_source:A23 P w K mg base) (F:Fun K "source_of" "source_of" zc5 a fd):FnOk P w K mg base CX0 3 a fd ["width","deed","place"] ziC:=by
 refine F.ok zdN (λ vs H Q E h=>?_) (λ cdv A outer s H vs Q E hr h=>?_)
 ·obtain ⟨w,p,b,d,rfl,_⟩:=h;rfl
 ·have nd := zdN.nd;have hu := hr.units;obtain ⟨w, p, b, d, rfl, hb, hd, hf, hp, hw, q⟩ := h;refine ⟨_, ((8:) (@zas _ _ 3 _ _ _ _ nd rfl (17:) (27:) (0:) (16:)) ((8:) ((19:) (36:) ((6:) ((13:) ((46:) ((20:) (25:) ((10:) g_bit_at (9:) ((2:) (27:) ((2:) (14:) (4:) (0:)) (0:)) (0:) (3:) (0:) (0:)) (7:) (22:)) (14:) (49:)))) (21:)) ((8:) ((19:) (36:) ((6:) ((13:) ((46:) ((20:) (25:) ((10:) g_bit_at (9:) ((2:) (27:) ((2:) (14:) (4:) (0:)) (0:)) (0:) (3:) (0:) (0:)) (7:) (22:)) (@zbf _ _ _ _ B.g_ONE (0:) (3:)) (14:)))) (21:)) ((8:) ((19:) (36:) ((6:) ((13:) ((10:) g_place_or_nought (9:) ((2:) (12:) ((2:) ((11:) (@zbg _) (14:) (27:)) (4:) (0:)) (0:)) (0:) (3:) (0:) (0:)))) (21:)) ((8:) ((19:) (36:) ((6:) ((13:) ((10:) g_place_or_nought (9:) ((2:) (12:) ((2:) ((11:) (33:) (14:) (27:)) (4:) (0:)) (0:)) (0:) (3:) (0:) (0:)))) (21:)) ((8:) ((19:) (36:) ((6:) ((13:) ((11:) (@zde _) ((11:) (@zbg _) (14:) (27:)) (12:)))) (21:)) ((8:) ((19:) (@PW.pt _ _ _ ((56:) (36:) (@ze3 _ _ _ _ ((20:) (25:) ((10:) g_bit_at (9:) ((2:) (27:) ((2:) (14:) (4:) (0:)) (0:)) (0:) (3:) (0:) (0:)) (7:) (22:))))) ((6:) ((13:) ((11:) (33:) (14:) (27:)))) (21:)) ((6:) ((13:) ((10:) g_copy_source (9:) ((2:) (27:) ((2:) (27:) ((2:) (14:) (4:) (0:)) (0:)) (0:)) (0:) (3:) (0:) (0:))))))))))), ?_⟩;cases d with
  | and m=>
   symm;refine ⟨m,p,rfl,?_⟩;symm;refine zaF (λ h2=>?_) (λ h2=>?_)
   ·symm
    have:m.testBit p=true:=by
     cases e:m.testBit p
     ·rw [e] at h2; cases h2
     ·rfl
    simp only [Dd.src] at q;rw [if_pos this] at q;exact q
   ·symm;have:¬ m.testBit p=true:=λ e=>h2 (by rw [e]; rfl);simp only [Dd.src] at q;rw [if_neg this] at q;exact q
  | or m=>
   symm;refine ⟨m,p,rfl,?_⟩;symm;refine zaF (λ h2=>?_) (λ h2=>?_)
   ·symm
    have:m.testBit p=true:=by
     cases e:m.testBit p
     ·rw [e] at h2; cases h2
     ·rfl
    simp only [Dd.src] at q;rw [if_pos this] at q;exact q
   ·symm;have:¬ m.testBit p=true:=λ e=>h2 (by rw [e]; rfl);simp only [Dd.src] at q;rw [if_neg this] at q;exact q
  | left n=>
   symm;refine ⟨w,(p:Int) - n,rfl,?_⟩
   have e:pon w ((p:Int) - n)=(Dd.left n).src w p:=by
    simp only [Dd.src,pon];by_cases h:n <= p
    ·rw [if_pos h,if_pos ⟨by omega,by omega⟩]
    ·rw [if_neg h,if_neg (1:)]
   rw [e];exact q
  | right n=>
   symm;refine ⟨w,(p:Int) + n,rfl,?_⟩
   have e:pon w ((p:Int) + n)=(Dd.right n).src w p:=by
    simp only [Dd.src,pon];by_cases h:p + n < w
    ·rw [if_pos h,if_pos ⟨by omega,by omega⟩]
    ·rw [if_neg h,if_neg (1:)]
   rw [e];exact q
  | turn n=>
   have hn:n < w:=hd;symm
   have e:((p:Int) - n) % (w:Int)=(Dd.turn n).src w p:=by
    simp only [Dd.src];by_cases h:n <= p
    ·rw [if_pos h];exact Int.emod_eq_of_lt (1:) (1:)
    ·rw [if_neg h,<- Int.add_emod_right];exact Int.emod_eq_of_lt (1:) (1:)
   rw [e];exact q
  | gather m=>cases hf
  | strew m=>cases hf
  | swap m n=>
   have e0:(Dd.swap m n).src w p=(if inM m ((p:Int) - n) then (p:Int) - n else if m.testBit p then (p:Int) + n else p):=rfl;rw [e0] at q;symm;refine ⟨m,p,rfl,?_⟩;symm;refine zaF (λ h2=>?_) (λ h2=>?_)
   ·symm
    have h3:m.testBit p=true:=by
     cases e:m.testBit p
     ·rw [e] at h2; cases h2
     ·rfl
    have h4:¬ inM m ((p:Int) - n)=true:=λ z=>by
     simp only [inM,yai,decide_eq_true_iff] at z;have:=(hd.2.2 _ z.2).2;rw [show ((p:Int) - n).toNat + n=p by omega,h3] at this;cases this
    rw [if_neg h4,if_pos h3] at q;exact q
   ·symm;have h3:¬ m.testBit p=true:=λ e=>h2 (by rw [e]; rfl);rw [if_neg h3] at q;exact ⟨m,n,p,rfl,q⟩
  | copy m n=>
   symm;exact ⟨m,n,p,rfl,q⟩
def zcq:FnScope ["width","deed"] ["width","deed"] (zaf zbd):=⟨rfl,rfl,rfl,by decide +kernel,rfl,by decide +kernel,by decide +kernel⟩
def zeI {a:Addr} {fd:FuncData} (B:Blt K mg) (g_gather_leading:A19 P w K mg base) (g_strew_leading:A20 P w K mg base) (g_source_of:A24 P w K mg base) (F:Fun K "deed_leading" "deed_leading" zbd a fd):FnOk P w K mg base CX0 4 a fd ["width","deed"] ziz:=by
 refine F.ok zcq (λ vs H Q E h=>?_) (λ cdv A outer s H vs Q E hr h=>?_)
 ·obtain ⟨w,b,d,rfl,_⟩:=h;rfl
 ·have nd := zcq.nd;have hu := hr.units;obtain ⟨w, b, d, rfl, hb, hd, hw, k⟩ := h
  have tk:∀ i,i < w -> ((d.led w).take i).map V.int ++ [V.int (d.src w i)]=((d.led w).take (i + 1)).map V.int:=λ i hi=>by
   rw [yaB,Dd.led,yag,yan hi,yat];rfl
  refine ⟨_,((8:) ((19:) ((20:) (25:) (27:) (@zaT _ _ _ _) (22:)) ((6:) ((13:) ((10:) g_gather_leading (9:) ((2:) (12:) ((2:) (27:) (4:) (0:)) (0:)) (0:) (3:) (0:) (0:)))) (21:)) ((8:) ((19:) ((20:) (25:) (27:) (@zaT _ _ _ _) (22:)) ((6:) ((13:) ((10:) g_strew_leading (9:) ((2:) (12:) ((2:) (27:) (4:) (0:)) (0:)) (0:) (3:) (0:) (0:)))) (21:)) ((6:) ((13:) ((51:) (@zh7 _ K (0:)) rfl B.b_tuple boot_tuple ((2:) (@zbt _ _ _ _ _ _ (zaf zbd) _ ["width","deed"] ["place","width","deed"] [none,some 0,some 1] _ _ _ _ rfl ((47:) rfl B.b_range ((2:) (12:) (4:) (0:)) (0:)) (λ _ _ _ _=>(@zav _ _ 0 _ (show List.Nodup (["place","width","deed"]:List Str) by decide +kernel) rfl (17:) (16:))) (λ _ _ _ _=>(@zch _)) (λ _ _ _ _=>((10:) g_source_of (9:) ((2:) (15:) ((2:) (14:) ((2:) (12:) (4:) (0:)) (0:)) (0:)) (0:) (3:) (0:) (0:))) (32:) (0:) (0:) (23:)) (4:) (0:)) (3:) (3:) (0:) (0:)))))),?_⟩;cases hf:d.flat with
  | false=>
   cases d with
   | gather m=>symm; exact ⟨w,m,rfl,hd,hw,k⟩
   | strew m=>symm; exact ⟨w,m,rfl,hd,hw,k⟩
   | _=>cases hf
  | true=>
   have nm:∃ s xs,d.vals=.str s :: xs /\ (shpd (.str s)=true) /\ (s == "gather")=false /\ (s == "strew")=false:=by
    cases d with
    | gather m=>cases hf
    | strew m=>cases hf
    | _=>exact ⟨_,_,rfl,by decide +kernel,by decide +kernel,by decide +kernel⟩
   obtain ⟨sn,xs,ev,hs0,hs1,hs2⟩:=nm;have hb':=hb;rw [ev] at hb';symm;refine zic hs0 (32:) ?_;rw [hs1];symm;refine zic hs0 (32:) ?_;rw [hs2];symm;refine zdW (n:=w) rfl (1:) ?_;refine zaO (λ i acc H'=>H'=H /\ i <= 64 /\ acc=(((d.led w).take i).map V.int)) ⟨rfl,by omega,rfl⟩ (λ i acc H' h=>?_) ?_ ?_
   ·obtain ⟨_,hi,rfl⟩:=h;rw [yad,yaT];exact yaK (zaR (1:))
   ·rintro i acc H' hi ⟨rfl,hi2,rfl⟩;symm;refine ⟨w,i,b,d,rfl,hb,hd,hf,hi,hw,?_⟩;exact ⟨rfl,by omega,tk i hi⟩
   ·rintro acc H' ⟨rfl,_,rfl⟩ q hq;rw [yas (by simp [Dd.led])];symm;refine zhO zai λ t H5 f5 s5 n5=>?_;exact k t H5 ((zam hq).trans s5) n5
def zcR:FnScope ["width","row","leading","deed"] ["width","row"] (zaf zb7):=⟨rfl,rfl,rfl,by decide +kernel,rfl,by decide +kernel,by decide +kernel⟩
def zfb {a:Addr} {fd:FuncData} (B:Blt K mg) (g_staying:A17 P w K mg base) (g_then:A18 P w K mg base) (g_deed_leading:A25 P w K mg base) (F:Fun K "row_leading" "row_leading" zb7 a fd):FnOk P w K mg base CX0 5 a fd ["width","row"] (zka K):=by
 refine F.ok zcR (λ vs H Q E h=>?_) (λ cdv A outer s H vs Q E hr h=>?_)
 ·obtain ⟨w,b,L,rfl,_⟩:=h;rfl
 ·have nd := zcR.nd;have hu := hr.units;obtain ⟨w, b, L, rfl, hb, hR, hw, k⟩ := h;refine ⟨_, ((8:) (@zas _ _ 2 _ _ _ _ nd rfl (17:) ((10:) g_staying (9:) ((2:) (12:) (4:) (0:)) (0:) (3:) (0:) (0:)) (0:) (16:)) ((8:) ((39:) yaU rfl (@zbS _ K _ _ _ (15:) (0:)) (@zav _ _ 3 _ nd rfl (17:) (16:)) ((6:) (@zas _ _ 2 _ _ _ _ nd rfl (17:) ((10:) g_then (9:) ((2:) (14:) ((2:) ((10:) g_deed_leading (9:) ((2:) (12:) ((2:) (18:) (4:) (0:)) (0:)) (0:) (3:) (0:) (0:)) (4:) (0:)) (0:)) (0:) (3:) (0:) (0:)) (0:) (16:))) (23:)) ((6:) ((13:) (14:))))), ?_⟩;symm;refine ⟨w, rfl, hw, fun t0 H0 s0 n0 => ?_⟩;symm;have hb0 : SqL K H0 b (rowV L) \/ SqT K H0 b (rowV L) := hb.elim (fun z => .inl (s0.seq z)) (fun z => .inr (s0.seqT z));refine zf5 (xs := rowV L) hb0 (fun j σ H' => Same H0 H' /\ ∃ t v3, H' t = some (.tup ((rowL w (dds (L.take j))).map V.int)) /\ σ = [some (nV w), some (.ref b), some (.ref t), v3]) ⟨fun _ _ e => e, t0, _, n0, rfl⟩ (fun j σ H' h => ⟨fun z => (h.1).seq z, fun z => (h.1).seqT z⟩) ?_ ?_
  ·rintro j y σ H' hy ⟨s1,t,v3,nt,rfl⟩;obtain ⟨q,hq,rfl⟩:=zaL hy;obtain ⟨h1,h2⟩:=hR q (yaw hq);have hok:∀ d ∈ dds (L.take j),d.ok w:=Rw.ok (H:=H) λ q hq=>hR q (ybu hq);symm;refine ⟨w,q.1,q.2,rfl,s1 _ _ (s0 _ _ h1),h2,hw,λ t2 H2 s2 n2=>?_⟩;symm;refine ⟨t,t2,_,_,w,rfl,s2 _ _ nt,n2,za3 hok,q.2.led_ld h2,hw,λ t3 H3 s3 n3=>?_⟩;symm;refine ⟨s1.trans (s2.trans s3),t3,some (.ref q.1),?_,rfl⟩;rw [n3,yaB,hq,show dds (L.take j ++ (some q).toList)=dds (L.take j) ++ [q.2] by simp [dds]];rw [show rowL w (dds (L.take j) ++ [q.2])=zat (rowL w (dds (L.take j))) (q.2.led w) by unfold rowL; rw [ybi]; rfl]
  ·rintro σ H' ⟨s1,t,v3,nt,rfl⟩;rw [show (rowV L).length=L.length by simp [rowV],yas (yah _)] at nt;symm;exact k t H' (s0.trans s1) nt
def zcW:FnScope ["width","deed"] ["width","deed"] (zaf zb5):=⟨rfl,rfl,rfl,by decide +kernel,rfl,by decide +kernel,by decide +kernel⟩
def zfd {a:Addr} {fd:FuncData} (B:Blt K mg)  (F:Fun K "undone_deed" "undone_deed" zb5 a fd):FnOk P w K mg base CX0 1 a fd ["width","deed"] zjE:=by
 refine F.ok zcW (λ vs H Q E h=>?_) (λ cdv A outer s H vs Q E hr h=>?_)
 ·obtain ⟨w,b,d,rfl,_⟩:=h;rfl
 ·have nd := zcW.nd;have hu := hr.units;obtain ⟨w, b, d, rfl, hb, ok, hw, k⟩ := h;refine ⟨_, ((8:) ((19:) ((20:) (25:) (27:) (@zaT _ _ _ _) (22:)) ((6:) ((13:) ((31:) ((26:) ((2:) ((11:) (@zde _) (@ziS _ _ _ _ _ _ (@zfr _) (27:)) (12:)) (4:) (0:)))))) (21:)) ((6:) ((13:) (15:)))), ?_⟩;cases d with
  | turn n=>
   have hn:n < w:=ok;symm
   rw [show (-(n:Int)) % (w:Int)=(((w - n) % w:Nat):Int) by
    by_cases z:n=0
    ·subst z; simp
    ·rw [Nat.mod_eq_of_lt (show w - n < w by omega),<- Int.add_emod_right,show -(n:Int) + (w:Int)=((w - n:Nat):Int) by omega];exact Int.emod_eq_of_lt (1:) (1:)]
   refine zau (5:) λ t H1 f1 s1 n1=>?_;exact k t H1 s1 n1
  | _=>
   symm;exact k b H (Same.refl _) hb
def zdn:FnScope ["width","row","told","number","deed"] ["width","row"] (zaf zd6):=⟨rfl,rfl,rfl,by decide +kernel,rfl,by decide +kernel,by decide +kernel⟩
def zkp {a:Addr} {fd:FuncData} (B:Blt K mg) (g_is_even:A4 P w K mg base) (g_deed_leading:A25 P w K mg base) (g_undone_deed:A27 P w K mg base) (F:Fun K "undone" "undone" zd6 a fd):FnOk P w K mg base CX0 5 a fd ["width","row"] zih:=by
 refine F.ok zdn (λ vs H Q E h=>?_) (λ cdv A outer s H vs Q E hr h=>?_)
 ·obtain ⟨w,b,L,rfl,_⟩:=h;rfl
 ·have nd := zdn.nd;have hu := hr.units;obtain ⟨w, b, L, rfl, hb, hR, hw1, hw, hlen, hev, k⟩ := h;refine ⟨_, ((8:) (63:) ((8:) ((39:) yaU rfl (71:) (57:) ((8:) ((19:) (65:) ((6:) (@zeU _ _ _ _)) (21:)) ((6:) (64:))) (23:)) ((6:) ((13:) (14:))))), ?_⟩;symm;refine ⟨yaR _, fun p hp => ?_⟩;have sp1 := zam (o := .lst []) hp;symm;refine ⟨b, _, rfl, .inl ⟨SqL.of (sp1 _ _ hb), ?_⟩⟩;refine ze9 (fun i σ H' => Same H H' /\ i <= L.length /\ (∃ M : List (Addr × Dd), M.length = i /\ H' p = some (.lst (rowV M)) /\ Rw H' w M /\ dds M = zaM w ((dds L).take i)) /\ ∃ v3 v4, σ = [some (nV w), some (.ref b), some (.ref p), v3, v4]) ⟨sp1, by omega, ⟨[], rfl, zai, fun _ z => (nomatch z), rfl⟩, none, none, rfl⟩ (fun i σ H' h => SqL.of (h.1 _ _ hb)) ?_ ?_
  ·rintro i u T σ H' hu hT ⟨s1, hi, ⟨M, hl, nM, hM, eM⟩, v3, v4, rfl⟩;obtain ⟨⟨c, d⟩, hc, rfl⟩ := zaL hu;have hil : i < L.length := (yaj.mp hc).1;have hq := hR _ (yaw hc);have hd : d.ok w := hq.2;have hmem : d ∈ dds L := yaP.mpr ⟨(c, d), yaw hc, rfl⟩;have sT := zam (o := .tup [V.int (i : Int), V.ref c]) hT;have s2 := s1.trans sT;have n2 := sT _ _ nM;have M2 := hM.same sT;have nT : upd H' T (.tup [V.int (i : Int), V.ref c]) T = some (.tup [V.int (i : Int), V.ref c]) := zai;generalize upd H' T (.tup [V.int (i : Int), V.ref c]) = H2 at s2 n2 M2 nT ⊢;symm;refine ⟨w, c, d, rfl, s2 _ _ hq.1, hd, hw, fun t H3 s3 n3 => ?_⟩;symm;refine ⟨t, _, w, rfl, n3, Dd.led_ld hd, hw, fun H4 s4 => ?_⟩;rw [show zey (d.led w) = true from decide_eq_true (hev d hmem)];have n4 := (s3.trans s4) _ _ n2;symm;have s5 := (s2.trans s3).trans s4;refine ⟨w, c, d, rfl, s5 _ _ hq.1, hd, hw, fun t2 H6 s6 n6 => ?_⟩;have n5 := (s3.trans (s4.trans s6)) _ _ n2;have M5 := M2.same (s3.trans (s4.trans s6));refine zlV ?_;refine zo1 (k := 0) n5 (yaR _) (by rw [rowV, yad]; omega) ?_;symm
   have fp:∀ q ∈ M,q.1 ≠ p:=λ q hq' z=>by
    have:=(M5 q hq').1;rw [z,n5] at this;cases this
   have f2:t2 ≠ p:=λ z=>by rw [z,n5] at n6; cases n6
   refine ⟨(s5.trans s6).upd' hp,by omega,⟨(t2,zcp w d) :: M,by rw [ybC,hl],?_,λ q hq'=>?_,?_⟩,_,_,rfl⟩
   ·rw [zai]; rfl
   ·rcases yao.mp hq' with rfl | hq'
    ·exact ⟨by rw [zal f2]; exact n6,zfa hd⟩
    ·exact ⟨by rw [zal (fp q hq')]; exact (M5 q hq').1,(M5 q hq').2⟩
   ·have e : (dds L)[i]? = some d := by rw [dds, yag, hc]; rfl
    rw [yaB,e];show zcp w d :: dds M=zaM w ((dds L).take i ++ [d]);rw [eM,zaM,zaM,yat,ybb];rfl
  ·rintro σ H' ⟨s1,_,⟨M,hl,nM,hM,eM⟩,v3,v4,rfl⟩;symm;refine k p M H' hp s1 nM hM ?_;rw [eM,yas (by rw [dds,rowV,yad,yad]; exact yah _)]
def ziK {a:Addr} {fd:FuncData} (B:Blt K mg) (g_is_even:A4 P w K mg base) (g_deed_leading:A25 P w K mg base) (g_undone_deed:A27 P w K mg base) (gi_Lost:zeq P w K mg base "Lost" "place" 1) (F:Fun K "undone" "undone" zd6 a fd):FnOk P w K mg base (CX2 P w) 5 a fd ["width","row"] (zhl mg):=by
 refine F.okx2 zdn (λ vs H Q E h=>?_) (λ cdv A outer s H vs Q E hr h=>?_)
 ·obtain ⟨w,b,L,rfl,_⟩:=h;rfl
 ·have nd := zdn.nd;have hu := hr.units;obtain ⟨w, b, L, rfl, hb, hR, hw1, hw, hlen, k, kx⟩ := h;obtain ⟨cL, cU, cH, cT, cB, Xs⟩ := B.ex;refine ⟨_, ((8:) (@PS.nox _ _ _ (63:)) ((8:) ((39:) PassesOwn.leaving rfl (71:) (57:) ((8:) ((19:) (@PT.nox _ _ _ (65:)) ((6:) (@zgG _ _ _ _ _ _ _ _ _ _ _ _ _ _ _ _ _ "place" _ _ _ _ _ _ gi_Lost Xs.mT (9:) ((2:) (18:) (4:) (0:)) (0:) (3:) (0:))) (21:)) ((6:) (@PS.nox _ _ _ (64:)))) (23:)) ((6:) (@PS.nox _ _ _ ((13:) (14:)))))), ?_⟩;symm;refine ⟨yaR _, fun p hp => ?_⟩;have sp1 := zam (o := .lst []) hp;symm;refine ⟨b, rowV L, rfl, ?_⟩;refine zko hb sp1 (fun i σ H' => Same H H' /\ i <= L.length /\ (∀ d ∈ (dds L).take i, zax (d.led w)) /\ (∃ M : List (Addr × Dd), M.length = i /\ H' p = some (.lst (rowV M)) /\ Rw H' w M /\ dds M = zaM w ((dds L).take i)) /\ ∃ v3 v4, σ = [some (nV w), some (.ref b), some (.ref p), v3, v4]) ⟨sp1, by omega, fun _ z => (nomatch z), ⟨[], rfl, zai, fun _ z => (nomatch z), rfl⟩, none, none, rfl⟩ (fun i σ H' h => h.1) ?_ ?_
  ·rintro i u T σ H' hu hT ⟨s1, hi, hev, ⟨M, hl, nM, hM, eM⟩, v3, v4, rfl⟩;obtain ⟨⟨c, d⟩, hc, rfl⟩ := zaL hu;have hil : i < L.length := (yaj.mp hc).1;have hq := hR _ (yaw hc);have hd : d.ok w := hq.2;have e : (dds L)[i]? = some d := by rw [dds, yag, hc]; rfl
   have sT:=zam (o:=.tup [V.int (i:Int),V.ref c]) hT;have s2:=s1.trans sT;have n2:=sT _ _ nM;have M2:=hM.same sT;have nT:upd H' T (.tup [V.int (i:Int),V.ref c]) T=some (.tup [V.int (i:Int),V.ref c]):=zai;generalize upd H' T (.tup [V.int (i:Int),V.ref c])=H2 at s2 n2 M2 nT ⊢;symm;refine ⟨w,c,d,rfl,s2 _ _ hq.1,hd,hw,λ t H3 s3 n3=>?_⟩;symm;refine ⟨t,_,w,rfl,n3,Dd.led_ld hd,hw,λ H4 s4=>?_⟩;have n4:=(s3.trans s4) _ _ n2;have s5:=(s2.trans s3).trans s4;by_cases hde:zax (d.led w)
   ·rw [show zey (d.led w) = true from decide_eq_true hde];symm;refine ⟨w, c, d, rfl, s5 _ _ hq.1, hd, hw, fun t2 H6 s6 n6 => ?_⟩;have n5 := (s3.trans (s4.trans s6)) _ _ n2;have M5 := M2.same (s3.trans (s4.trans s6));refine zlV ?_;refine zo1 (k := 0) n5 (yaR _) (by rw [rowV, yad]; omega) ?_;symm
    have fp:∀ q ∈ M,q.1 ≠ p:=λ q hq' z=>by
     have:=(M5 q hq').1;rw [z,n5] at this;cases this
    have f2:t2 ≠ p:=λ z=>by rw [z,n5] at n6; cases n6
    refine ⟨(s5.trans s6).upd' hp,by omega,λ x hx=>?_,⟨(t2,zcp w d) :: M,by rw [ybC,hl],?_,λ q hq'=>?_,?_⟩,_,_,rfl⟩
    ·rw [yaB, e] at hx;rcases yau.mp hx with hx | hx
     ·exact hev x hx
     ·rw [yaz.mp hx]; exact hde
    ·rw [zai]; rfl
    ·rcases yao.mp hq' with rfl | hq'
     ·exact ⟨by rw [zal f2]; exact n6,zfa hd⟩
     ·exact ⟨by rw [zal (fp q hq')]; exact (M5 q hq').1,(M5 q hq').2⟩
    ·rw [yaB,e];show zcp w d :: dds M=zaM w ((dds L).take i ++ [d]);rw [eM,zaM,zaM,yat,ybb];rfl
   ·rw [show zey (d.led w)=false from decide_eq_false hde];symm;refine ⟨V.int (i:Int),rfl,(i:Int),rfl,?_,λ dx hdx=>kx i (zjB e hev hde) cT dx _ Xs.mT (s5.trans (zam hdx)) zai⟩;rw [Int.natAbs_natCast];exact zgp (1:)
  ·rintro σ H' ⟨s1,_,hev,⟨M,hl,nM,hM,eM⟩,v3,v4,rfl⟩;have el:(dds L).take (rowV L).length=dds L:=yas (by rw [dds,rowV,yad,yad]; exact yah _);rw [el] at hev eM;symm;exact k (zlF hev) p M H' hp s1 nM hM eM
def zb2:FnScope ["leading","mask","place"] ["leading","mask","place"] (zaf zcs):=⟨rfl,rfl,rfl,by decide +kernel,rfl,by decide +kernel,by decide +kernel⟩
def zh3 {a:Addr} {fd:FuncData} (B:Blt K mg) (g_bit_at:A0 P w K mg base) (F:Fun K "way_back" "way_back" zcs a fd):FnOk P w K mg base CX0 3 a fd ["leading","mask","place"] zoR:=by
 refine F.ok zb2 (λ vs H Q E h=>?_) (λ cdv A outer s H vs Q E hr h=>?_)
 ·obtain ⟨b,ls,w,m,p,rfl,_⟩:=h;rfl
 ·have nd := zb2.nd;have hu := hr.units;obtain ⟨b, ls, w, m, p, rfl, hb, hL, hw, hp, hin, k⟩ := h;refine ⟨_, ((8:) ((19:) ((20:) (25:) ((10:) g_bit_at (9:) ((2:) (15:) ((2:) (14:) (4:) (0:)) (0:)) (0:) (3:) (0:) (0:)) (7:) (22:)) ((6:) ((13:) (49:))) (21:)) ((8:) ((19:) ((20:) (@zhQ _ K (0:)) (14:) (12:) rfl) ((6:) (@zeU _ _ _ _)) (21:)) ((6:) ((13:) (68:))))), ?_⟩;symm;refine ⟨m, p, rfl, ?_⟩;symm;have e : wayB ls m p = if m.testBit p then ((ls.idxOf (p : Int) : Nat) : Int) else -1 := rfl
  cases c:m.testBit p with
  | false=>
   rw [e,c] at k;symm;refine zaF (λ _=>?_) (λ z=>absurd rfl z);symm;exact k
  | true=>
   rw [e,c] at k;symm;refine zaF (λ z=>by cases z) (λ _=>?_);symm;have hm:=hin c;refine zkD (SqT.of hb) ?_;rw [decide_eq_true hm];symm;refine ⟨tyT hb,?_⟩;symm;exact zf6 (SqT.of hb) (zep hm) k
def zgB {a:Addr} {fd:FuncData} (B:Blt K mg) (g_bit_at:A0 P w K mg base) (gi_Lost:zeq P w K mg base "Lost" "place" 1) (F:Fun K "way_back" "way_back" zcs a fd):FnOk P w K mg base (CX2 P w) 3 a fd ["leading","mask","place"] (zmN mg):=by
 refine F.okx2 zb2 (λ vs H Q E h=>?_) (λ cdv A outer s H vs Q E hr h=>?_)
 ·obtain ⟨b,ls,w,m,p,rfl,_⟩:=h;rfl
 ·have nd := zb2.nd;have hu := hr.units;obtain ⟨b, ls, w, m, p, rfl, hb, hL, hw, hp, k, kx⟩ := h;obtain ⟨cL, cU, cH, cT, cB, Xs⟩ := B.ex;refine ⟨_, ((8:) ((19:) (@PT.nox _ _ _ ((20:) (25:) ((10:) g_bit_at (9:) ((2:) (15:) ((2:) (14:) (4:) (0:)) (0:)) (0:) (3:) (0:) (0:)) (7:) (22:))) ((6:) (@PS.nox _ _ _ ((13:) (49:)))) (21:)) ((8:) ((19:) (@PT.nox _ _ _ ((20:) (@zhQ _ K (0:)) (14:) (12:) rfl)) ((6:) (@zgG _ _ _ _ _ _ _ _ _ _ _ _ _ _ _ _ _ "place" _ _ _ _ _ _ gi_Lost Xs.mT (9:) ((2:) (14:) (4:) (0:)) (0:) (3:) (0:))) (21:)) ((6:) (@PS.nox _ _ _ ((13:) (68:)))))), ?_⟩;symm;refine ⟨m, p, rfl, ?_⟩;symm;have e : wayB ls m p = if m.testBit p then ((ls.idxOf (p : Int) : Nat) : Int) else -1 := rfl
  cases c:m.testBit p with
  | false=>
   have k:=k λ z=>by rw [c] at z; cases z
   rw [e,c] at k;symm;refine zaF (λ _=>?_) (λ z=>absurd rfl z);symm;exact k
  | true=>
   symm;refine zaF (λ z=>by cases z) (λ _=>?_);symm;by_cases hm:(p:Int) ∈ ls
   ·have k:=k λ _=>hm;rw [e,c] at k;refine zkD (SqT.of hb) ?_;rw [decide_eq_true hm];symm;refine ⟨tyT hb,?_⟩;symm;exact zf6 (SqT.of hb) (zep hm) k
   ·refine zkD (SqT.of hb) ?_;rw [decide_eq_false hm];symm;refine ⟨nV p,rfl,(p:Int),rfl,?_,λ dx hdx=>kx c hm cT dx _ Xs.mT (zam hdx) zai⟩;rw [Int.natAbs_natCast];exact zgp (1:)
def zfY:FnScope ["leading","mask"] ["leading","mask"] (zaf zfE):=⟨rfl,rfl,rfl,by decide +kernel,rfl,by decide +kernel,by decide +kernel⟩
def zmY {a:Addr} {fd:FuncData} (B:Blt K mg) (g_way_back:A29 P w K mg base) (F:Fun K "back" "back" zfE a fd):FnOk P w K mg base CX0 4 a fd ["leading","mask"] zmI:=by
 refine F.ok zfY (λ vs H Q E h=>?_) (λ cdv A outer s H vs Q E hr h=>?_)
 ·obtain ⟨b,ls,w,m,rfl,_⟩:=h;rfl
 ·have nd := zfY.nd;have hu := hr.units;obtain ⟨b, ls, w, m, rfl, hb, hL, hw, hin, k⟩ := h;refine ⟨_, ((6:) ((13:) ((51:) (@zh7 _ K (0:)) rfl B.b_tuple boot_tuple ((2:) (@zbt _ _ _ _ _ _ (zaf zfE) _ ["leading", "mask"] ["place", "leading", "mask"] [none, some 0, some 1] _ _ _ _ rfl (60:) (fun _ _ _ _ => (69:)) (fun _ _ _ _ => (@zch _)) (fun _ _ _ _ => ((10:) g_way_back (9:) ((2:) (15:) ((2:) (14:) ((2:) (12:) (4:) (0:)) (0:)) (0:)) (0:) (3:) (0:) (0:))) (32:) (0:) (0:) (23:)) (4:) (0:)) (3:) (3:) (0:) (0:)))), ?_⟩;symm;refine zdW (n := ls.length) (by rw [yad]) (by rw [hL.1]; omega) ?_;refine zaO (fun i acc H' => H' = H /\ i <= ls.length /\ acc = ((zcJ ls m).take i).map V.int) ⟨rfl, by omega, rfl⟩ (fun i acc H' h => ?_) ?_ ?_
  ·obtain ⟨_,hi,rfl⟩:=h;rw [yad,yaT];exact yaK (zaR (by rw [hL.1] at hi; omega))
  ·rintro i acc H' hi ⟨rfl,_,rfl⟩;symm;refine ⟨b,ls,w,m,i,rfl,hb,hL,hw,by rw [<- hL.1]; exact hi,hin i (by rw [<- hL.1]; exact hi),?_⟩;refine ⟨rfl,by omega,?_⟩;rw [yaB,yat];congr 1;rw [zcJ,yag,yan hi];rfl
  ·rintro acc H' ⟨rfl,_,rfl⟩ p hp;rw [yas (by rw [zcJ,yad,yar]; exact yah _)];symm;refine ⟨p,_,rfl,.inl ⟨SqL.of zai,λ t ht=>?_⟩⟩;exact k t _ ((zam hp).trans (zam ht)) zai
def zlM {a:Addr} {fd:FuncData} (B:Blt K mg) (g_way_back:A29 P w K mg base) (gx_way_back:X29 P w K mg base) (F:Fun K "back" "back" zfE a fd):FnOk P w K mg base (CX2 P w) 4 a fd ["leading","mask"] (zlm mg):=by
 refine F.okx2 zfY (λ vs H Q E h=>?_) (λ cdv A outer s H vs Q E hr h=>?_)
 ·obtain ⟨b,ls,w,m,rfl,_⟩:=h;rfl
 ·have nd := zfY.nd;have hu := hr.units;obtain ⟨b, ls, w, m, rfl, hb, hL, hw, k, kx⟩ := h;refine ⟨_, ((6:) ((13:) ((51:) (@zh7 _ K (0:)) rfl B.b_tuple boot_tuple ((2:) (@zl5 _ _ _ _ _ _ _ _ _ _ _ _ _ _ _ _ _ _ _ _ (zaf zfE) _ ["leading", "mask"] ["place", "leading", "mask"] [none, some 0, some 1] _ _ _ _ rfl (60:) (fun _ _ _ _ => (69:)) (fun _ _ _ _ => (@zch _)) (fun _ _ _ _ => (@zma _ _ _ _ _ _ _ _ _ _ _ _ _ _ _ _ _ gx_way_back (9:) ((2:) (15:) ((2:) (14:) ((2:) (12:) (4:) (0:)) (0:)) (0:)) (0:) (3:) (0:) (0:))) (32:) (0:) (0:) (23:)) (4:) (0:)) (3:) (3:) (0:) (0:)))), ?_⟩;symm;refine zdW (n := ls.length) (by rw [yad]) (by rw [hL.1]; omega) ?_;refine zaO (fun i acc H' => H' = H /\ i <= ls.length /\ (∀ q, q < i -> m.testBit q = true -> (q : Int) ∈ ls) /\ acc = ((zcJ ls m).take i).map V.int) ⟨rfl, by omega, (fun _ z => absurd z (1:)), rfl⟩ (fun i acc H' h => ?_) ?_ ?_
  ·obtain ⟨_,hi,_,rfl⟩:=h;rw [yad,yaT];exact yaK (zaR (by rw [hL.1] at hi; omega))
  ·rintro i acc H' hi ⟨rfl, _, hq, rfl⟩;symm;have hiw : i < w := by rw [<- hL.1]; exact hi
   refine ⟨b,ls,w,m,i,rfl,hb,hL,hw,hiw,λ hin=>?_,λ c hm C dx H2 hC s2 n2=>kx i (zjf hiw c hm hq) C dx H2 hC s2 n2⟩;refine ⟨rfl,by omega,λ q hq' hb'=>?_,?_⟩
   ·rcases Nat.lt_or_eq_of_le (Nat.le_of_lt_succ hq') with z | z
    ·exact hq q z hb'
    ·rw [z] at hb' ⊢; exact hin hb'
   ·rw [yaB,yat];congr 1;rw [zcJ,yag,yan hi];rfl
  ·rintro acc H' ⟨rfl,_,hq,rfl⟩ p hp;rw [yas (by rw [zcJ,yad,yar]; exact yah _)];symm;refine ⟨p,_,rfl,.inl ⟨SqL.of zai,λ t ht=>?_⟩⟩;exact k (ziZ (by rw [<- hL.1]; exact hq)) t _ ((zam hp).trans (zam ht)) zai
def zcj:FnScope ["here","there"] ["here","there"] (zaf zbF):=⟨rfl,rfl,rfl,by decide +kernel,rfl,by decide +kernel,by decide +kernel⟩
def zeG {a:Addr} {fd:FuncData} (B:Blt K mg)  (F:Fun K "least_unlike" "least_unlike" zbF a fd):FnOk P w K mg base CX0 1 a fd ["here","there"] zky:=by
 refine F.ok zcj (λ vs H Q E h=>?_) (λ cdv A outer s H vs Q E hr h=>?_)
 ·obtain ⟨x,y,rfl,_⟩:=h;rfl
 ·have nd := zcj.nd;have hu := hr.units;obtain ⟨x, y, rfl, hx1, hx2, hy1, hy2, hne, k⟩ := h;refine ⟨_, ((8:) ((19:) ((20:) (@k_in _ K (0:)) (@zbf _ _ _ _ B.g_ONE (0:) (3:)) ((31:) ((2:) (12:) ((2:) (15:) (4:) (0:)) (0:))) rfl) ((6:) ((13:) (7:))) (21:)) ((8:) ((19:) ((20:) (@k_in _ K (0:)) (49:) ((31:) ((2:) (12:) ((2:) (15:) (4:) (0:)) (0:))) rfl) ((6:) ((13:) ((11:) (@za4 _) (7:) ((38:) (@zg1 _ rfl) rfl B.b_max boot_max ((2:) (12:) ((2:) (15:) (4:) (0:)) (0:)) (3:) (3:) (0:) (0:))))) (21:)) ((6:) ((13:) ((11:) (@za4 _) (7:) ((38:) (@zei _ rfl) rfl B.b_min boot_min ((2:) (12:) ((2:) (15:) (4:) (0:)) (0:)) (3:) (3:) (0:) (0:))))))), ?_⟩;symm;refine zau (5:) fun t1 H1 f1 s1 n1 => ?_;refine zn0 n1 ?_;symm;refine zdu (fun c1 => ?_) (fun c1 => ?_)
  ·symm;have e : zaB x y = 0 := by unfold zaB; rw [if_pos c1]
   rw [e] at k;exact k _ s1
  ·symm;refine zau (5:) fun t2 H2 f2 s2 n2 => ?_;refine zn0 n2 ?_;symm;refine zdu (fun c2 => ?_) (fun c2 => ?_)
   ·have e : zaB x y = 2 ^ (max x y).toNat := by unfold zaB; rw [if_neg c1, if_pos c2]
    have em:(if y > x then y else x)=max x y:=by split <;> omega
    symm;rw [em];rw [show (1:Int) * 2 ^ (max x y).toNat=((2 ^ (max x y).toNat:Nat):Int) by simp,<- e];exact k _ (s1.trans s2)
   ·have e : zaB x y = 2 ^ (min x y).toNat := by unfold zaB; rw [if_neg c1, if_neg c2]
    have em:(if y < x then y else x)=min x y:=by split <;> omega
    symm;rw [em];rw [show (1:Int) * 2 ^ (min x y).toNat=((2 ^ (min x y).toNat:Nat):Int) by simp,<- e];exact k _ (s1.trans s2)
def zck:FnScope ["one","other","least","here","there","word"] ["one","other"] (zaf zbE):=⟨rfl,rfl,rfl,by decide +kernel,rfl,by decide +kernel,by decide +kernel⟩
def zeS {a:Addr} {fd:FuncData} (B:Blt K mg) (g_least_unlike:A31 P w K mg base) (F:Fun K "unlike_words" "unlike_words" zbE a fd):FnOk P w K mg base CX0 2 a fd ["one","other"] zis:=by
 refine F.ok zck (λ vs H Q E h=>?_) (λ cdv A outer s H vs Q E hr h=>?_)
 ·obtain ⟨b,c,ls,ms,w,rfl,_⟩:=h;rfl
 ·have nd := zck.nd;have hu := hr.units;obtain ⟨b, c, ls, ms, w, rfl, hb, hc, h1, h2, hw, k⟩ := h;have hl : ls.length = ms.length := by rw [h1.1, h2.1]
  refine ⟨_,((8:) (@zas _ _ 2 _ _ _ _ nd rfl (17:) (@zki _ _ _) (0:) (16:)) ((8:) ((39:) yaU rfl (@zkb _ K _ _ _ _ _ _ _ _ B.b_zip ((2:) (12:) ((2:) (15:) (4:) (0:)) (0:)) (0:) (0:) (0:) (0:)) (57:) ((6:) ((19:) ((20:) (54:) (18:) (24:) (22:)) ((8:) (@zas _ _ 5 _ _ _ _ nd rfl (17:) ((10:) g_least_unlike (9:) ((2:) (18:) ((2:) (24:) (4:) (0:)) (0:)) (0:) (3:) (0:) (0:)) (0:) (16:)) ((6:) (@zas _ _ 2 _ _ _ _ nd rfl (17:) ((46:) ((20:) (@zpl _) (14:) (@zki _ _ _) (22:)) (42:) ((38:) (@zei _ rfl) rfl B.b_min boot_min ((2:) (14:) ((2:) (42:) (4:) (0:)) (0:)) (3:) (3:) (0:) (0:))) (0:) (16:)))) (21:))) (23:)) ((6:) ((13:) (14:))))),?_⟩;symm;refine ⟨b,c,ls.map V.int,ms.map V.int,false,false,rfl,SqT.of hb,SqT.of hc,?_⟩;refine zlT (λ i σ H'=>Same H H' /\ ∃ v3 v4 v5,σ=[some (.ref b),some (.ref c),some (optV (zaS ((ls.zip ms).take i))),v3,v4,v5]) ⟨Same.refl H,none,none,none,rfl⟩ (λ i σ H' h=>⟨SqT.of (h.1 _ _ hb),SqT.of (h.1 _ _ hc)⟩) ?_ ?_
  ·rintro i u v T σ H' hu hv hT ⟨s1, v3, v4, v5, rfl⟩;obtain ⟨x, hx, rfl⟩ := zaL hu;obtain ⟨y, hy, rfl⟩ := zaL hv;have q1 := h1.2 x (yaw hx);have q2 := h2.2 y (yaw hy)
   have es:zaS ((ls.zip ms).take (i + 1))=ze0 (zaS ((ls.zip ms).take i)) (x,y):=by
    rw [yaB,L2.zip_get hx hy];exact ze1 _ _
   have st:=zam (o:=.tup [V.int x,V.int y]) hT;have nT:upd H' T (.tup [V.int x,V.int y]) T=some (.tup [V.int x,V.int y]):=zai;generalize upd H' T (.tup [V.int x,V.int y])=H2 at st nT ⊢;generalize zaS ((ls.zip ms).take i)=acc at es;rw [es];symm;refine zoU (λ hne=>?_) (λ heq=>?_)
   ·symm;refine ⟨x, y, rfl, q1.1, by omega, q2.1, by omega, hne, fun H3 s3 => ?_⟩;rw [zfI (p := (x, y)) hne];symm;cases acc with
    | none=>
     refine zpu (decide_eq_true rfl) ?_;symm;exact ⟨s1.trans (st.trans s3),_,_,_,rfl⟩
    | some m=>
     refine zpD (decide_eq_false nofun) ?_;symm;refine ⟨_,_,rfl,?_⟩;rw [show (if ((zaB x y:Nat):Int) < (m:Int) then ((zaB x y:Nat):Int) else (m:Int))=((min m (zaB x y):Nat):Int) by split <;> omega];exact ⟨s1.trans (st.trans s3),_,_,_,rfl⟩
   ·rw [zfy (p:=(x,y)) heq];symm;exact ⟨s1.trans st,_,_,_,rfl⟩
  ·rintro σ H' ⟨s1,v3,v4,v5,rfl⟩;rw [yas (by rw [ycp,yad,yad]; exact yah _)];symm;exact k _ s1
def zdT:FnScope ["width","one","other"] ["width","one","other"] (zaf zcY):=⟨rfl,rfl,rfl,by decide +kernel,rfl,by decide +kernel,by decide +kernel⟩
def zgS {a:Addr} {fd:FuncData} (B:Blt K mg) (g_row_leading:A26 P w K mg base) (F:Fun K "same_rows" "same_rows" zcY a fd):FnOk P w K mg base CX0 6 a fd ["width","one","other"] (zfz K):=by
 refine F.ok zdT (λ vs H Q E h=>?_) (λ cdv A outer s H vs Q E hr h=>?_)
 ·obtain ⟨w,b,c,L,M,rfl,_⟩:=h;rfl
 ·have nd:=zdT.nd;have hu:=hr.units;obtain ⟨w,b,c,L,M,rfl,hb,hL,hc,hM,hw,k⟩:=h;refine ⟨_,((6:) ((13:) (@zeD _ _ _ _ _ _ _ _ (25:) ((10:) g_row_leading (9:) ((2:) (12:) ((2:) (15:) (4:) (0:)) (0:)) (0:) (3:) (0:) (0:)) ((10:) g_row_leading (9:) ((2:) (12:) ((2:) (14:) (4:) (0:)) (0:)) (0:) (3:) (0:) (0:)) (22:)))),?_⟩;symm;refine ⟨w,b,L,rfl,hb,hL,hw,λ t1 H1 s1 n1=>?_⟩;symm;refine ⟨w,c,M,rfl,hc.elim (λ z=>.inl (s1.seq z)) (λ z=>.inr (s1.seqT z)),hM.same s1,hw,λ t2 H2 s2 n2=>?_⟩;exact zpy (SqT.of (s2 _ _ n1)) (SqT.of n2) (k _ (s1.trans s2))
def zdS:FnScope ["_law_script"] ["_law_script"] (zaf zb6):=⟨rfl,rfl,rfl,by decide +kernel,rfl,by decide +kernel,by decide +kernel⟩
def zgT {a:Addr} {fd:FuncData} (B:Blt K mg)  (F:Fun K "_law_hand" "_law_hand" zb6 a fd):FnOk P w K mg base CX0 1 a fd ["_law_script"] (zmv K):=by
 refine F.ok zdS (λ vs H Q E h=>?_) (λ cdv A outer s H vs Q E hr h=>?_)
 ·obtain ⟨b,ns,rfl,_⟩:=h;rfl
 ·have nd := zdS.nd;have hu := hr.units;obtain ⟨b, ns, rfl, hS, k⟩ := h;obtain ⟨ms, ems, lms⟩ := zp9 ns;refine ⟨_, ((6:) ((13:) ((45:) ((2:) (@zbt _ _ _ _ _ _ (zaf zb6) _ ["_law_script"] ["_law_cell"] [none] _ _ _ _ rfl (@zbS _ K _ _ _ (@zlD _ _ _ _ _ _ _ _ _ _ (@k_sl _ K (0:)) (12:) (@zne _) (@znH _ _ _ (7:))) (0:)) (fun _ _ _ _ => (@zav _ _ 0 _ (show List.Nodup (["_law_cell"] : List Str) by decide +kernel) rfl (17:) (16:))) (fun _ _ _ _ => (@zch _)) (fun _ _ _ _ => ((38:) (@zkr _) rfl B.b_abs boot_abs ((2:) (12:) (4:) (0:)) (3:) (3:) (0:) (0:))) (32:) (0:) (0:) (23:)) ((2:) (7:) ((2:) (7:) ((2:) (7:) (4:) (0:)) (0:)) (0:)) (0:))))), ?_⟩;symm;refine .inl ⟨b, _, rfl, hS, fun p1 hp1 => ?_⟩;have s1 := zam (o := .lst (cutV (ns.map V.int) none (some 63))) hp1;generalize hH1 : upd H p1 (.lst (cutV (ns.map V.int) none (some 63))) = H1 at s1 ⊢;have n1 : H1 p1 = some (.lst (ms.map V.int)) := by rw [<- hH1, zai, ems]
  refine zj4 (SqL.of n1) ?_;refine zkZ (xs:=ms.map V.int) (λ i acc H'=>H'=H1 /\ i <= 63 /\ acc=(ms.take i).map λ z=>nV z.natAbs) ⟨rfl,by omega,rfl⟩ (λ i acc H' h=>?_) (λ i acc H' h=>by rw [h.1]; exact SqL.of n1) ?_ ?_
  ·obtain ⟨_,hi,rfl⟩:=h;rw [yad,yaT];exact yaK (zaR (1:))
  ·rintro i x acc H' hx ⟨rfl,hi,rfl⟩;obtain ⟨z,hz,rfl⟩:=zaL hx;have hil:i < ms.length:=(yaj.mp hz).1;symm;refine ⟨rfl,by omega,?_⟩;rw [yaB,hz,show ((some z).toList:List Int)=[z] from rfl,yat,ycv,List.map_nil,znL]
  ·rintro acc H' ⟨rfl, _, rfl⟩ p2 hp2;rw [yad, List.take_length];symm;refine ⟨yaK (zaR (5:)), fun p3 hp3 => ?_⟩;have e2 : H' p2 = none := hp2;have ne23 : p2 ≠ p3 := zaq zai hp3;refine k p3 _ (s1.free ((zam hp2).free hp3)) ?_ (Hand.of (q := p2) (cells := ms.map Int.natAbs) (a := 0) (b := 0) (c := 0) zai ?_ (by rw [yad]; exact lms))
   ·exact s1.trans ((zam hp2).trans (zam hp3))
   ·rw [zal ne23,zai,ybp];rfl
def zdO:FnScope ["_law_hand_here","_law_many","_law_cell","_law_once","_law_twice","_law_found"] ["_law_hand_here","_law_many"] (zaf zc4):=⟨rfl,rfl,rfl,by decide +kernel,rfl,by decide +kernel,by decide +kernel⟩
def zgD {a:Addr} {fd:FuncData} (B:Blt K mg)  (F:Fun K "_law_draw" "_law_draw" zc4 a fd):FnOk P w K mg base CX0 1 a fd ["_law_hand_here","_law_many"] zkL:=by
 refine F.ok zdO (λ vs H Q E h=>?_) (λ cdv A outer s H vs Q E hr h=>?_)
 ·obtain ⟨p,n,rfl,_⟩:=h;rfl
 ·have nd := zdO.nd;have hu := hr.units;obtain ⟨p, n, rfl, hH, hn0, hn1, k⟩ := h;obtain ⟨q, cells, ca, cb, cc, h1, h2, h3⟩ := hH
  have npq:q ≠ p:=by
   intro e;rw [e,h1] at h2;cases cells with
   | nil=>cases h2
   | cons c r=>cases h2
  have hq:∀ o,upd H p o q=some (.lst (cells.map nV)):=λ o=>by rw [zal npq]; exact h2
  have fin:∀ (r a b c:Nat),r < n -> Q (nV r) (upd H p (.lst [.ref q,nV a,nV b,nV c])):=λ r a b c hr=>k r _ hr (But.updL h1) ⟨q,cells,a,b,c,zai,hq _,h3⟩;refine ⟨_,((8:) (@zgz _ _ _ _ _ _ ((11:) (33:) (37:) (7:)) (58:) (0:) (0:) (0:)) ((8:) ((19:) ((20:) (25:) (37:) (7:) (22:)) ((8:) (@zas _ _ 2 _ _ _ _ nd rfl (17:) (7:) (0:) (16:)) ((8:) ((19:) ((20:) (@zos _) ((38:) (@zgu _ K (0:)) rfl B.b_len boot_len ((2:) (37:) (4:) (0:)) (3:) (3:) (0:) (0:)) (7:) (22:)) ((6:) (@zas _ _ 2 _ _ _ _ nd rfl (17:) (@zaA _ _ _ _ _ _ _ (@k_ix _ K (0:)) (37:) ((11:) (@zde _) (37:) ((38:) (@zgu _ K (0:)) rfl B.b_len boot_len ((2:) (37:) (4:) (0:)) (3:) (3:) (0:) (0:))) (λ _ _=>rfl)) (0:) (16:))) (21:)) ((8:) (@zgz _ _ _ _ _ _ ((11:) (33:) (37:) (7:)) (58:) (0:) (0:) (0:)) ((8:) ((19:) (@PW.pt _ _ _ ((55:) ((20:) (@zi3 _) (14:) ((11:) (@zpq _) (7:) (7:)) (22:)) (@zfF _ _ _ _ ((20:) (@zos _) (37:) ((38:) (@zgu _ K (0:)) rfl B.b_len boot_len ((2:) (37:) (4:) (0:)) (3:) (3:) (0:) (0:)) (22:))))) ((8:) (@zas _ _ 3 _ _ _ _ nd rfl (17:) ((11:) (@zde _) ((11:) (48:) ((11:) (33:) ((11:) (33:) ((11:) (@zde _) (14:) (7:)) ((11:) (48:) (7:) (37:))) (7:)) (7:)) (7:)) (0:) (16:)) ((8:) (@zas _ _ 4 _ _ _ _ nd rfl (17:) ((11:) (@zde _) ((11:) (33:) ((11:) (48:) (18:) ((11:) (33:) ((11:) (@zde _) (18:) (7:)) (37:))) ((11:) (48:) (7:) (37:))) (7:)) (0:) (16:)) ((6:) ((13:) ((11:) (@zde _) ((11:) (@zgc _) (24:) (7:)) (15:)))))) (21:)) ((6:) (@zgz _ _ _ _ _ _ (14:) (58:) (0:) (0:) (0:))))))) (21:)) ((8:) (@zas _ _ 5 _ _ _ _ nd rfl (17:) ((11:) (@zde _) (37:) (15:)) (0:) (16:)) ((8:) (@zgz _ _ _ _ _ _ ((11:) (@zgc _) (37:) (15:)) (58:) (0:) (0:) (0:)) ((6:) ((13:) (42:))))))),?_⟩;symm;refine zaF (λ hc=>?_) (λ hc=>?_)
  ·symm;refine zdu (fun hl => ?_) (fun hl => ?_)
   ·have hl' : 0 < cells.length := by simpa using hl
    symm
    have hidx:((ca:Int) % ((cells.map nV).length:Int)).toNat=ca % cells.length:=by
     rw [yad,<- Int.natCast_emod,yam]
    have e0:(cells.map nV)[((ca:Int) % ((cells.map nV).length:Int)).toNat]?=some (nV (cells[ca % cells.length]'(ybw _ hl'))):=by
     rw [hidx,yag,yaa (ybw _ hl')];rfl
    refine zh8 (SqL.of (hq _)) (Int.emod_nonneg _ (by rw [yad]; omega)) e0 ?_;symm;generalize (10:Int) ^ Int.toNat 18=big;refine ite2 (λ h18=>?_) (λ h18=>?_)
    ·symm;obtain ⟨r,hr1,er⟩:=modN _ hn0;rw [er];exact fin r (ca + 1) cb (cc + 1) hr1
    ·symm;refine ite2 (fun h19 => ?_) (fun h19 => ?_)
     ·symm;obtain ⟨r,hr1,er⟩:=modN _ hn0;rw [er];exact fin r (ca + 1) cb (cc + 1) hr1
     ·symm;exact fin ((cells[ca % cells.length]'(ybw _ hl')) % n) (ca + 1) ((cells[ca % cells.length]'(ybw _ hl')) / n) (cc + 1) (ybw _ hn0)
   ·skip
    symm;generalize (10:Int) ^ Int.toNat 18=big;refine ite2 (λ h18=>?_) (λ h18=>?_)
    ·symm;obtain ⟨r,hr1,er⟩:=modN _ hn0;rw [er];exact fin r (ca + 1) cb (cc + 1) hr1
    ·symm;refine ite2 (fun h19 => ?_) (fun h19 => ?_)
     ·symm;obtain ⟨r,hr1,er⟩:=modN _ hn0;rw [er];exact fin r (ca + 1) cb (cc + 1) hr1
     ·symm;exact fin (0 % n) (ca + 1) (0 / n) (cc + 1) (ybw _ hn0)
  ·symm;exact fin (cb % n) ca (cb / n) (cc + 1) (ybw _ hn0)
def zdf:FnScope ["_law_hand_here","_law_way"] ["_law_hand_here"] (zaf zcf):=⟨rfl,rfl,rfl,by decide +kernel,rfl,by decide +kernel,by decide +kernel⟩
def zgj {a:Addr} {fd:FuncData} (B:Blt K mg) (g__law_draw:A35 P w K mg base) (F:Fun K "_law_width" "_law_width" zcf a fd):FnOk P w K mg base CX0 2 a fd ["_law_hand_here"] zjQ:=by
 refine F.ok zdf (λ vs H Q E h=>?_) (λ cdv A outer s H vs Q E hr h=>?_)
 ·obtain ⟨p,rfl,_⟩:=h;rfl
 ·have nd := zdf.nd;have hu := hr.units;obtain ⟨p, rfl, hH, k⟩ := h;refine ⟨_, ((8:) (@zas _ _ 1 _ _ _ _ nd rfl (17:) ((10:) g__law_draw (9:) ((2:) (12:) ((2:) (7:) (4:) (0:)) (0:)) (0:) (3:) (0:) (0:)) (0:) (16:)) ((8:) ((19:) ((20:) (25:) (15:) (7:) (22:)) ((6:) ((13:) ((11:) (@zbg _) (7:) ((10:) g__law_draw (9:) ((2:) (12:) ((2:) (7:) (4:) (0:)) (0:)) (0:) (3:) (0:) (0:))))) (21:)) ((8:) ((19:) ((20:) (@zi3 _) (15:) (7:) (22:)) ((6:) ((13:) ((11:) (33:) (7:) ((10:) g__law_draw (9:) ((2:) (12:) ((2:) (7:) (4:) (0:)) (0:)) (0:) (3:) (0:) (0:))))) (21:)) ((6:) ((13:) ((11:) (33:) (7:) ((10:) g__law_draw (9:) ((2:) (12:) ((2:) (7:) (4:) (0:)) (0:)) (0:) (3:) (0:) (0:)))))))), ?_⟩;symm;refine ⟨p, 8, rfl, hH, by decide, by decide, fun r H1 hr1 b1 h1 => ?_⟩;symm;refine zaF (fun hc => ?_) (fun hc => ?_)
  ·symm;refine ⟨p,17,rfl,h1,by decide,by decide,λ r2 H2 hr2 b2 h2=>?_⟩;symm;rw [show (64:Int) - (r2:Int)=((64 - r2:Nat):Int) by omega];exact k _ H2 (1:) (1:) (b1.trans b2) h2
  ·symm;refine zdu (fun hc2 => ?_) (fun hc2 => ?_)
   ·symm;refine ⟨p,25,rfl,h1,by decide,by decide,λ r2 H2 hr2 b2 h2=>?_⟩;symm;rw [show (9:Int) + (r2:Int)=((9 + r2:Nat):Int) by omega];exact k _ H2 (1:) (1:) (b1.trans b2) h2
   ·symm;refine ⟨p,8,rfl,h1,by decide,by decide,λ r2 H2 hr2 b2 h2=>?_⟩;symm;rw [show (1:Int) + (r2:Int)=((1 + r2:Nat):Int) by omega];exact k _ H2 (1:) (1:) (b1.trans b2) h2
def zdM:FnScope ["_law_hand_here","_law_width_here","_law_whole","_law_way","_law_drawn","_law_k"] ["_law_hand_here","_law_width_here"] (zaf zc2):=⟨rfl,rfl,rfl,by decide +kernel,rfl,by decide +kernel,by decide +kernel⟩
def zgw {a:Addr} {fd:FuncData} (B:Blt K mg) (g__law_draw:A35 P w K mg base) (F:Fun K "_law_word" "_law_word" zc2 a fd):FnOk P w K mg base CX0 2 a fd ["_law_hand_here","_law_width_here"] zms:=by
 refine F.ok zdM (λ vs H Q E h=>?_) (λ cdv A outer s H vs Q E hr h=>?_)
 ·obtain ⟨p,w,rfl,_⟩:=h;rfl
 ·have nd := zdM.nd;have hu := hr.units;obtain ⟨p, w, rfl, hH, hw1, hw2, k⟩ := h;have wholeLt : 2 ^ w - 1 < 2 ^ w := Nat.sub_lt (ybF w) (3:);have wl64 : 2 ^ w <= 2 ^ 64 := yaO (3:) hw2;refine ⟨_, ((8:) (70:) ((8:) (66:) ((8:) ((19:) ((20:) (@zi3 _) (18:) (7:) (22:)) ((6:) ((13:) (@zaA _ _ _ _ _ _ _ (@k_ix _ K (0:)) ((45:) ((2:) (7:) ((2:) (14:) (4:) (0:)) (0:))) (18:) (fun _ _ => rfl)))) (21:)) ((8:) ((19:) ((20:) (25:) (18:) (7:) (22:)) ((6:) ((13:) ((11:) (@za4 _) (7:) ((10:) g__law_draw (9:) ((2:) (12:) ((2:) (15:) (4:) (0:)) (0:)) (0:) (3:) (0:) (0:))))) (21:)) ((8:) ((19:) ((20:) (25:) (18:) (7:) (22:)) ((6:) ((13:) ((11:) (@zby _) ((11:) (@za4 _) ((11:) (@zgc _) (14:) (7:)) ((10:) g__law_draw (9:) ((2:) (12:) ((2:) (7:) (4:) (0:)) (0:)) (0:) (3:) (0:) (0:))) (14:)))) (21:)) ((8:) (@zas _ _ 4 _ _ _ _ nd rfl (17:) (7:) (0:) (16:)) ((8:) ((39:) yaU rfl ((47:) rfl B.b_range ((2:) (7:) (4:) (0:)) (0:)) (@zav _ _ 5 _ nd rfl (17:) (16:)) ((6:) (@zas _ _ 4 _ _ _ _ nd rfl (17:) ((11:) (@zjj _) ((11:) (@za4 _) (24:) (7:)) ((10:) g__law_draw (9:) ((2:) (12:) ((2:) ((11:) (@za4 _) (7:) (7:)) (4:) (0:)) (0:)) (0:) (3:) (0:) (0:))) (0:) (16:))) (23:)) ((6:) ((13:) ((11:) (@zby _) ((11:) (@zdm _) (24:) ((10:) g__law_draw (9:) ((2:) (12:) ((2:) (7:) (4:) (0:)) (0:)) (0:) (3:) (0:) (0:))) (14:))))))))))), ?_⟩;symm;rw [zhF]
  have W64:2 ^ w - 1 < 18446744073709551616:=by
   have:(2:Nat) ^ 64=18446744073709551616:=by decide
   omega
  generalize 2 ^ w - 1=W at wholeLt W64 ⊢;refine ⟨p,8,rfl,hH,by decide,by decide,λ r H1 hr1 b1 h1=>?_⟩;symm;refine zdu (λ hc=>?_) (λ hc=>?_)
  ·symm;refine ⟨yaK (zaR (5:)), fun p2 hp2 => ?_⟩;have h1' := h1.same (zam (o := .lst [V.int 0, nV W]) hp2);have b1' : But p H (upd H1 p2 (.lst [V.int 0, nV W])) := b1.trans (zam hp2).but;symm;rcases (show r = 0 \/ r = 1 by omega) with rfl | rfl
   ·exact zh8 (SqL.of zai) (3:) rfl (k 0 _ (ybF w) b1' h1')
   ·exact zh8 (SqL.of zai) (3:) rfl (k W _ wholeLt b1' h1')
  ·symm;refine zaF (fun hc2 => ?_) (fun hc2 => ?_)
   ·symm;refine ⟨p,w,rfl,h1,by omega,by omega,λ r2 H2 hr2 b2 h2=>?_⟩;symm;rw [show (1:Int) * 2 ^ ((r2:Int)).toNat=((2 ^ r2:Nat):Int) by rw [yam]; simp];exact k _ H2 (ybt (3:) hr2) (b1.trans b2) h2
   ·symm;refine zaF (fun hc3 => ?_) (fun hc3 => ?_)
    ·symm;refine ⟨p,2,rfl,h1,by decide,by decide,λ r2 H2 hr2 b2 h2=>?_⟩;symm;rw [show (W:Int) / 3 * 2 ^ ((r2:Int)).toNat=((W / 3 * 2 ^ r2:Nat):Int) by rw [yam]; simp,zaC];exact k _ H2 (ybf Nat.and_le_right wholeLt) (b1.trans b2) h2
    ·symm;refine zik (n := 4) rfl (3:) ?_;refine zcI (fun i σ H' => But p H H' /\ Hand H' p /\ ∃ d v, d < 2 ^ (16 * i) /\ σ = [some (.ref p), some (nV w), some (nV W), some (nV r), some (nV d), v]) ⟨b1, h1, 0, none, by decide, rfl⟩ ?_ ?_
     ·rintro i σ H' hi ⟨b2, h2, d, v, hd, rfl⟩;have hd48 : d < 281474976710656 := yaf hd (yaV (yaO (3:) (show 16 * i <= 48 by omega)) (3:));symm;refine ⟨p, 65536, rfl, h2, by decide, by decide, fun r2 H3 hr2 b3 h3 => ?_⟩;symm;refine ⟨b2.trans b3, h3, (d * 2 ^ 16 ||| r2), some (nV i), ?_, ?_⟩
      ·refine Nat.or_lt_two_pow ?_ (yaf hr2 ?_)
       ·rw [show 16 * (i + 1)=16 * i + 16 by omega,Nat.pow_add];exact Nat.mul_lt_mul_of_pos_right hd (3:)
       ·exact yaV (show 65536 <= 2 ^ 16 by decide) (yaO (3:) (1:))
      ·have e:Builtin.bitOr ((d:Int) * 2 ^ (Int.toNat 16)) (r2:Int)=((d * 2 ^ 16 ||| r2:Nat):Int):=by
        rw [show (d:Int) * 2 ^ (Int.toNat 16)=((d * 2 ^ 16:Nat):Int) by simp,zbM]
       show [some (V.ref p),some (nV w),some (nV W),some (nV r),some (V.int (Builtin.bitOr ((d:Int) * 2 ^ (Int.toNat 16)) (r2:Int))),some (V.int (i:Int))]=_;rw [e]
     ·rintro σ H' ⟨b2,h2,d,v,hd,rfl⟩;symm;refine ⟨p,33,rfl,h2,by decide,by decide,λ r2 H3 hr2 b3 h3=>?_⟩;symm;rw [show (d:Int) / 2 ^ ((r2:Int)).toNat=((d / 2 ^ r2:Nat):Int) by rw [yam]; simp,zaC];exact k _ H3 (ybf Nat.and_le_right wholeLt) (b2.trans b3) h3
def zbH:FnScope ["_law_hand_here","_law_width_here","_law_n","_law_mask","_law_p"] ["_law_hand_here","_law_width_here","_law_n"] (zaf zbj):=⟨rfl,rfl,rfl,by decide +kernel,rfl,by decide +kernel,by decide +kernel⟩
def zdB {a:Addr} {fd:FuncData} (B:Blt K mg) (g__law_draw:A35 P w K mg base) (F:Fun K "_law_swap_mask" "_law_swap_mask" zbj a fd):FnOk P w K mg base CX0 2 a fd ["_law_hand_here","_law_width_here","_law_n"] zfG:=by
 refine F.ok zbH (λ vs H Q E h=>?_) (λ cdv A outer s H vs Q E hr h=>?_)
 ·obtain ⟨p,w,n,rfl,_⟩:=h;rfl
 ·have nd := zbH.nd;have hu := hr.units;obtain ⟨p, w, n, rfl, hH, hn, hnw, hw, k⟩ := h;refine ⟨_, ((8:) (@zas _ _ 3 _ _ _ _ nd rfl (17:) (7:) (0:) (16:)) ((8:) ((39:) yaU rfl ((47:) rfl B.b_range ((2:) ((11:) (@zbg _) (15:) (14:)) (4:) (0:)) (0:)) (@zav _ _ 4 _ nd rfl (17:) (16:)) ((6:) ((19:) (@PW.pt _ _ _ ((56:) ((20:) (25:) ((11:) (@zby _) ((11:) (@zdm _) (18:) (24:)) (7:)) (7:) (22:)) ((56:) (@PW.pt _ _ _ ((55:) ((20:) (@zi3 _) (24:) (14:) (22:)) (@zfF _ _ _ _ ((20:) (25:) ((11:) (@zby _) ((11:) (@zdm _) (18:) ((11:) (@zbg _) (24:) (14:))) (7:)) (7:) (22:))))) (@ze3 _ _ _ _ ((20:) (25:) ((10:) g__law_draw (9:) ((2:) (12:) ((2:) (7:) (4:) (0:)) (0:)) (0:) (3:) (0:) (0:)) (7:) (22:)))))) ((6:) (@zas _ _ 3 _ _ _ _ nd rfl (17:) ((11:) (@zjj _) (18:) ((11:) (@za4 _) (7:) (24:))) (0:) (16:))) (21:))) (23:)) ((6:) ((13:) (18:))))), ?_⟩;symm;rw [show (w : Int) - (n : Int) = ((w - n : Nat) : Int) by omega];refine zik (n := w - n) rfl (1:) ?_;refine zcI (fun i σ H' => But p H H' /\ Hand H' p /\ ∃ (m : Nat) (v : Option V), m < 2 ^ i /\ i + n <= w /\ (∀ q, m.testBit q = true -> m.testBit (q + n) = false) /\ σ = [some (.ref p), some (nV w), some (nV n), some (nV m), v]) ⟨But.refl p H, hH, 0, none, by decide, by omega, fun q z => by simp at z, rfl⟩ ?_ ?_
  ·rintro i σ H' hi ⟨b2, h2, m, v, hm, hiw, hpair, rfl⟩
   have stay:∀ H',But p H H' -> Hand H' p -> (∃ (m':Nat) (v:Option V),m' < 2 ^ (i + 1) /\ (i + 1) + n <= w /\ (∀ q,m'.testBit q=true -> m'.testBit (q + n)=false) /\ [some (V.ref p),some (nV w),some (nV n),some (nV m),some (nV i)]=[some (.ref p),some (nV w),some (nV n),some (nV m'),v]):=λ _ _ _=>
    ⟨m,_,yaf hm (yaO (3:) (1:)),by omega,hpair,rfl⟩
   have put:(n <= i -> m.testBit (i - n)=false) -> ∀ H',But p H H' -> Hand H' p -> (∃ (m':Nat) (v:Option V),m' < 2 ^ (i + 1) /\ (i + 1) + n <= w /\ (∀ q,m'.testBit q=true -> m'.testBit (q + n)=false) /\ [some (V.ref p),some (nV w),some (nV n),some (nV (m ||| 2 ^ i)),some (nV i)]=[some (.ref p),some (nV w),some (nV n),some (nV m'),v]):=λ hlow _ _ _=>by
    refine ⟨m ||| 2 ^ i,_,Nat.or_lt_two_pow (yaf hm (yaO (3:) (1:))) (ybt (3:) (1:)),by omega,λ q hq=>?_,rfl⟩;rw [ybr,ybB] at hq ⊢;rw [Bool.or_eq_true,decide_eq_true_iff] at hq;rcases hq with hq | rfl
    ·rw [hpair q hq,ycw];apply decide_eq_false;intro e;have:=hlow (1:);rw [e,Nat.add_sub_cancel] at this;rw [this] at hq;cases hq
    ·rw [zcU hm (1:),ycw];exact decide_eq_false (1:)
   symm;rw [zci];refine zaF (λ hc=>?_) (λ hc=>?_)
   ·symm;refine zdu (fun hc2 => ?_) (fun hc2 => ?_)
    ·symm;refine ⟨p, 2, rfl, h2, by decide, by decide, fun r H3 hr b3 h3 => ?_⟩;symm;refine zaF (fun hc3 => ?_) (fun hc3 => ?_)
     ·symm;rw [zk7];exact ⟨b2.trans b3,h3,put (λ z=>by omega) H3 (b2.trans b3) h3⟩
     ·symm;exact ⟨b2.trans b3,h3,stay H3 (b2.trans b3) h3⟩
    ·symm;rw [show (i : Int) - (n : Int) = ((i - n : Nat) : Int) by omega, zci];refine zaF (fun hc4 => ?_) (fun hc4 => ?_)
     ·have hb:m.testBit (i - n)=false:=by
       cases z:m.testBit (i - n)
       ·rfl
       ·rw [z] at hc4; cases hc4
      symm;refine ⟨p,2,rfl,h2,by decide,by decide,λ r H3 hr b3 h3=>?_⟩;symm;refine zaF (λ hc3=>?_) (λ hc3=>?_)
      ·symm;rw [zk7];exact ⟨b2.trans b3,h3,put (λ z=>hb) H3 (b2.trans b3) h3⟩
      ·symm;exact ⟨b2.trans b3,h3,stay H3 (b2.trans b3) h3⟩
     ·symm;exact ⟨b2,h2,stay H' b2 h2⟩
   ·symm;exact ⟨b2,h2,stay H' b2 h2⟩
  ·rintro σ H' ⟨b2, h2, m, v, hm, hiw, hpair, rfl⟩;symm;refine k m H' ⟨hn, hnw, fun q hq => ⟨?_, hpair q hq⟩⟩ b2 h2;by_cases z : q + n < w
   ·exact z
   ·rw [zcU hm (1:)] at hq; cases hq
def zbI:FnScope ["_law_hand_here","_law_width_here","_law_whole","_law_way","_law_n","_law_some"] ["_law_hand_here","_law_width_here"] (zaf zbi):=⟨rfl,rfl,rfl,by decide +kernel,rfl,by decide +kernel,by decide +kernel⟩
def zdD {a:Addr} {fd:FuncData} (B:Blt K mg) (g__law_draw:A35 P w K mg base) (g__law_swap_mask:A38 P w K mg base) (F:Fun K "_law_even_deed" "_law_even_deed" zbi a fd):FnOk P w K mg base CX0 3 a fd ["_law_hand_here","_law_width_here"] zle:=by
 refine F.ok zbI (λ vs H Q E h=>?_) (λ cdv A outer s H vs Q E hr h=>?_)
 ·obtain ⟨p,w,rfl,_⟩:=h;rfl
 ·have nd := zbI.nd;have hu := hr.units;obtain ⟨p, w, rfl, hH, hw1, hw2, k⟩ := h;have ew : (1 : Int) * 2 ^ ((w : Int)).toNat - 1 = ((2 ^ w - 1 : Nat) : Int) := zhF w;have fok : 2 ^ w - 1 < 2 ^ w := Nat.sub_lt (ybF w) (3:);have pok : 0 < 2 ^ w := ybF w;refine ⟨_, ((8:) (70:) ((8:) (66:) ((8:) ((19:) (@PW.pt _ _ _ ((55:) ((20:) (@zi3 _) (18:) (7:) (22:)) (@zfF _ _ _ _ ((20:) (25:) (15:) (7:) (22:))))) ((6:) ((13:) ((31:) ((26:) ((2:) ((10:) g__law_draw (9:) ((2:) (12:) ((2:) (15:) (4:) (0:)) (0:)) (0:) (3:) (0:) (0:)) (4:) (0:)))))) (21:)) ((8:) (@zas _ _ 4 _ _ _ _ nd rfl (17:) ((11:) (33:) (7:) ((10:) g__law_draw (9:) ((2:) (12:) ((2:) ((11:) (@zbg _) (15:) (7:)) (4:) (0:)) (0:)) (0:) (3:) (0:) (0:))) (0:) (16:)) ((8:) ((19:) ((20:) (@zi3 _) (18:) (7:) (22:)) ((6:) ((13:) ((31:) ((26:) ((2:) ((10:) g__law_swap_mask (9:) ((2:) (12:) ((2:) (15:) ((2:) (24:) (4:) (0:)) (0:)) (0:)) (0:) (3:) (0:) (0:)) ((2:) (24:) (4:) (0:)) (0:)))))) (21:)) ((8:) (@zas _ _ 5 _ _ _ _ nd rfl (17:) ((45:) ((2:) ((31:) ((26:) ((2:) (14:) (4:) (0:)))) ((2:) ((31:) ((26:) ((2:) (7:) (4:) (0:)))) ((2:) ((31:) ((26:) ((2:) (7:) (4:) (0:)))) ((2:) ((31:) ((26:) ((2:) (7:) (4:) (0:)))) ((2:) ((31:) ((26:) ((2:) (14:) (4:) (0:)))) ((2:) ((31:) ((26:) ((2:) (14:) (4:) (0:)))) ((2:) ((31:) ((26:) ((2:) (7:) ((2:) (24:) (4:) (0:)) (0:)))) (4:) (0:)) (0:)) (0:)) (0:)) (0:)) (0:)) (0:))) (0:) (16:)) ((6:) ((13:) (@zaA _ _ _ _ _ _ _ (@k_ix _ K (0:)) (42:) ((10:) g__law_draw (9:) ((2:) (12:) ((2:) (7:) (4:) (0:)) (0:)) (0:) (3:) (0:) (0:)) (fun _ _ => rfl)))))))))), ?_⟩;symm;refine ⟨p, 8, rfl, hH, by decide, by decide, fun r H1 hr b1 h1 => ?_⟩;rw [ew]
  have turn:∀ {D:Ends} {σ:L2.St},D.rt=Q -> σ[0]?=some (some (V.ref p)) -> σ[1]?=some (some (nV w)) -> tRet (tTup (zhK (tC (V.str "turn")) (zhK (zhJ zkL [] E0 (zhK (tVar 0) (zhK (tVar 1) tNil))) tNil))) D σ H1:=λ {D σ} e1 e2 e3=>by
   refine ⟨_,e2,_,e3,?_⟩;refine ⟨p,w,rfl,h1,hw1,by omega,λ n H2 hn b2 h2=>?_⟩;refine zau (5:) λ t H3 f3 s3 n3=>?_;rw [e1];exact k t (.turn n) H3 hn (zg5 hn) (b1.trans (b2.trans s3.but)) (h2.same s3) n3
  symm;refine zdu (λ c1=>?_) (λ c1=>?_)
  ·refine iteT ?_;exact turn rfl rfl rfl
  symm;refine zaF (λ c2=>?_) (λ c2=>?_)
  ·exact turn rfl rfl rfl
  symm;rw [show (w:Int) - 1=((w - 1:Nat):Int) by omega];refine ⟨p,w - 1,rfl,h1,by omega,by omega,λ n H2 hn b2 h2=>?_⟩;symm;rw [show (1:Int) + (n:Int)=((n + 1:Nat):Int) by omega];symm;refine zdu (λ c3=>?_) (λ c3=>?_)
  ·symm;refine ⟨p,w,n + 1,rfl,h2,by omega,by omega,hw2,λ m H3 ok b3 h3=>?_⟩;symm;refine zau (5:) λ t H4 f4 s4 n4=>?_;exact k t (.swap m (n + 1)) H4 ok (zk6 ok) (b1.trans (b2.trans (b3.trans s4.but))) (h3.same s4) n4
  symm;refine zau (5:) λ t1 H3 f3 s3 n3=>?_;symm;refine zau (5:) λ t2 H4 f4 s4 n4=>?_;symm;refine zau (5:) λ t3 H5 f5 s5 n5=>?_;symm;refine zau (5:) λ t4 H6 f6 s6 n6=>?_;symm;refine zau (5:) λ t5 H7 f7 s7 n7=>?_;symm;refine zau (5:) λ t6 H8 f8 s8 n8=>?_;symm;refine zau (5:) λ t7 H9 f9 s9 n9=>?_;symm;refine zdQ (5:) λ l H10 f10 s10 n10=>?_;have n9:=s10 _ _ n9;have n8:=(s9.trans s10) _ _ n8;have n7:=(s8.trans (s9.trans s10)) _ _ n7;have n6:=(s7.trans (s8.trans (s9.trans s10))) _ _ n6;have n5:=(s6.trans (s7.trans (s8.trans (s9.trans s10)))) _ _ n5;have n4:=(s5.trans (s6.trans (s7.trans (s8.trans (s9.trans s10))))) _ _ n4;have n3:=(s4.trans (s5.trans (s6.trans (s7.trans (s8.trans (s9.trans s10)))))) _ _ n3;have s11:Same H2 H10:=s3.trans (s4.trans (s5.trans (s6.trans (s7.trans (s8.trans (s9.trans s10))))));have h10:=h2.same s11;symm;refine ⟨p,7,rfl,h10,by decide,by decide,λ j H11 hj b11 h11=>?_⟩;have b12:But p H H11:=b1.trans (b2.trans (s11.but.trans b11))
  have lp:l ≠ p:=λ z=>by
   obtain ⟨q,cells,x,y,z',e1,_⟩:=h10;rw [<- z,n10] at e1;cases e1
  have n10:=b11.keep _ _ lp n10;have n9:=b11.keep _ _ (h10.neT n9) n9;have n8:=b11.keep _ _ (h10.neT n8) n8;have n7:=b11.keep _ _ (h10.neT n7) n7;have n6:=b11.keep _ _ (h10.neT n6) n6;have n5:=b11.keep _ _ (h10.neT n5) n5;have n4:=b11.keep _ _ (h10.neT n4) n4;have n3:=b11.keep _ _ (h10.neT n3) n3;rcases (show j=0 \/ j=1 \/ j=2 \/ j=3 \/ j=4 \/ j=5 \/ j=6 by omega) with rfl | rfl | rfl | rfl | rfl | rfl | rfl
  all_goals symm
  ·exact k t1 (.and (2 ^ w - 1)) H11 fok (zbv (5:)) b12 h11 n3
  ·exact k t2 (.or 0) H11 pok (zbv (5:)) b12 h11 n4
  ·exact k t3 (.left 0) H11 (yaR _) (zbv (5:)) b12 h11 n5
  ·exact k t4 (.right 0) H11 (yaR _) (zbv (5:)) b12 h11 n6
  ·exact k t5 (.gather (2 ^ w - 1)) H11 fok (zbv (5:)) b12 h11 n7
  ·exact k t6 (.strew (2 ^ w - 1)) H11 fok (zbv (5:)) b12 h11 n8
  ·exact k t7 (.copy 0 ((n + 1:Nat):Int)) H11 ⟨by omega,by omega,by omega,pok,λ q hq=>by rw [Nat.zero_testBit] at hq; cases hq⟩ (zbv (5:)) b12 h11 n9
def zca:FnScope ["_law_hand_here","_law_width_here","_law_most"] ["_law_hand_here","_law_width_here","_law_most"] (zaf zaZ):=⟨rfl,rfl,rfl,by decide +kernel,rfl,by decide +kernel,by decide +kernel⟩
def zdX {a:Addr} {fd:FuncData} (B:Blt K mg) (g__law_draw:A35 P w K mg base) (g__law_even_deed:A39 P w K mg base) (F:Fun K "_law_even_row" "_law_even_row" zaZ a fd):FnOk P w K mg base CX0 4 a fd ["_law_hand_here","_law_width_here","_law_most"] zkB:=by
 refine F.ok zca (λ vs H Q E h=>?_) (λ cdv A outer s H vs Q E hr h=>?_)
 ·obtain ⟨p,w,m,rfl,_⟩:=h;rfl
 ·have nd := zca.nd;have hu := hr.units;obtain ⟨p, w, m, rfl, hH, hw1, hw2, hm, k⟩ := h;refine ⟨_, ((6:) ((13:) (@zbt _ _ _ _ _ _ (zaf zaZ) _ ["_law_hand_here", "_law_width_here", "_law_most"] ["_law_k", "_law_hand_here", "_law_width_here"] [none, some 0, some 1] _ _ _ _ rfl ((47:) rfl B.b_range ((2:) ((10:) g__law_draw (9:) ((2:) (12:) ((2:) ((11:) (33:) (14:) (7:)) (4:) (0:)) (0:)) (0:) (3:) (0:) (0:)) (4:) (0:)) (0:)) (fun _ _ _ _ => (67:)) (fun _ _ _ _ => (@zch _)) (fun _ _ _ _ => ((10:) g__law_even_deed (9:) ((2:) (15:) ((2:) (14:) (4:) (0:)) (0:)) (0:) (3:) (0:) (0:))) (32:) (0:) (0:) (23:)))), ?_⟩;symm;rw [show (m : Int) + 1 = ((m + 1 : Nat) : Int) by omega];refine ⟨p, m + 1, rfl, hH, by omega, by omega, fun r H1 hr b1 h1 => ?_⟩;symm;refine zdW (n := r) rfl (1:) ?_;refine zaO (fun i acc H' => But p H H' /\ Hand H' p /\ ∃ L : List (Addr × Dd), L.length = i /\ i <= 60 /\ Rw H' w L /\ (∀ d ∈ dds L, zax (d.led w)) /\ acc = rowV L) ⟨b1, h1, [], rfl, by omega, fun _ z => (nomatch z), fun _ z => (nomatch z), rfl⟩ (fun i acc H' h => ?_) ?_ ?_
  ·obtain ⟨_,_,L,hl,hi,_,_,rfl⟩:=h;rw [rowV,yad];exact yaK (zaR (1:))
  ·rintro i acc H' hi ⟨b4, h4, L, hl, hi2, hR, hE, rfl⟩;symm;refine ⟨p, w, rfl, h4, hw1, hw2, fun t d H5 hd he b5 h5 n5 => ?_⟩;refine ⟨b4.trans b5, h5, L ++ [(t, d)], by rw [yaG, hl]; rfl, by omega, fun q hq => ?_, fun e hq => ?_, by rw [rowV, rowV, yat]; rfl⟩
   ·rcases yau.mp hq with z | z
    ·exact hR.but h4 b5 q z
    ·rw [yaz.mp z]; exact ⟨n5,hd⟩
   ·rw [dds, yat] at hq;rcases yau.mp hq with z | z
    ·exact hE e z
    ·rw [yaz.mp z]; exact he
  ·rintro acc H' ⟨b4,h4,L,hl,hi2,hR,hE,rfl⟩ l hfl;exact k l L _ (1:) (hR.same (zam hfl)) hE (b4.free h4 hfl).1 (b4.trans (zam hfl).but) (h4.same (zam hfl)) zai
def zbL:FnScope ["_law_hand_here","_law_width_here","_law_n","_law_first","_law_behind"] ["_law_hand_here","_law_width_here","_law_n"] (zaf zbl):=⟨rfl,rfl,rfl,by decide +kernel,rfl,by decide +kernel,by decide +kernel⟩
def zdJ {a:Addr} {fd:FuncData} (B:Blt K mg) (g__law_word:A37 P w K mg base) (F:Fun K "_law_copy_mask" "_law_copy_mask" zbl a fd):FnOk P w K mg base CX0 3 a fd ["_law_hand_here","_law_width_here","_law_n"] zfx:=by
 refine F.ok zbL (λ vs H Q E h=>?_) (λ cdv A outer s H vs Q E hr h=>?_)
 ·obtain ⟨p,w,n,rfl,_⟩:=h;rfl
 ·have nd := zbL.nd;have hu := hr.units;obtain ⟨p, w, n, rfl, hH, hn0, hn1, hn2, hw, k⟩ := h;refine ⟨_, ((8:) (@zmF _ _ 3 4 _ _ _ _ _ _ _ _ _ _ _ rfl nd rfl rfl (3:) rfl rfl ((2:) ((38:) (@zg1 _ rfl) rfl B.b_max boot_max ((2:) (7:) ((2:) (@ziS _ _ _ _ _ _ (@zfr _) (14:)) (4:) (0:)) (0:)) (3:) (3:) (0:) (0:)) ((2:) ((38:) (@zei _ rfl) rfl B.b_min boot_min ((2:) (15:) ((2:) ((11:) (@zbg _) (15:) (14:)) (4:) (0:)) (0:)) (3:) (3:) (0:) (0:)) (4:) (0:)) (0:)) rfl (0:)) ((6:) ((13:) ((11:) (@zby _) ((10:) g__law_word (9:) ((2:) (12:) ((2:) (15:) (4:) (0:)) (0:)) (0:) (3:) (0:) (0:)) ((11:) (@zbg _) ((11:) (@za4 _) (7:) (24:)) ((11:) (@za4 _) (7:) (18:))))))), ?_⟩;symm;obtain ⟨lo, elo⟩ : ∃ lo : Nat, (if -n > 0 then -n else 0) = (lo : Int) := ⟨(-n).toNat, by split <;> omega⟩
  obtain ⟨hi,ehi⟩:∃ hi:Nat,(if (w:Int) - n < w then (w:Int) - n else w)=(hi:Int):=⟨((w:Int) - n).toNat - (if (w:Int) - n < w then 0 else (-n).toNat),by split <;> omega⟩
  rw [elo,ehi]
  have hlo:lo <= hi /\ hi <= w /\ (∀ q:Nat,lo <= q -> q < hi -> 0 <= (q:Int) + n /\ (q:Int) + n < w):=by
   refine ⟨?_,?_,λ q h1 h2=>?_⟩ <;> (split at elo <;> split at ehi <;> omega)
  refine ⟨p,w,rfl,hH,by omega,hw,λ x H2 hx b2 h2=>?_⟩;symm;have hpp:2 ^ lo <= 2 ^ hi:=yaO (3:) hlo.1;rw [show (1:Int) * 2 ^ ((hi:Int)).toNat - 1 * 2 ^ ((lo:Int)).toNat=((2 ^ hi - 2 ^ lo:Nat):Int) by rw [yam,yam,Int.natCast_sub hpp]; simp,zaC];refine k _ H2 ⟨hn0,hn1,hn2,ybf Nat.and_le_left hx,λ q hq=>?_⟩ b2 h2;rw [yaM,yai,zl4 hlo.1,yai,decide_eq_true_iff,decide_eq_true_iff] at hq;exact hlo.2.2 q hq.2.1 hq.2.2
def zdR:FnScope ["_law_hand_here","_law_width_here","_law_word_here","_law_n"] ["_law_hand_here","_law_width_here"] (zaf zc8):=⟨rfl,rfl,rfl,by decide +kernel,rfl,by decide +kernel,by decide +kernel⟩
def zgx {a:Addr} {fd:FuncData} (B:Blt K mg) (g__law_draw:A35 P w K mg base) (g__law_word:A37 P w K mg base) (g__law_swap_mask:A38 P w K mg base) (g__law_copy_mask:A41 P w K mg base) (F:Fun K "_law_deed" "_law_deed" zc8 a fd):FnOk P w K mg base CX0 4 a fd ["_law_hand_here","_law_width_here"] zmM:=by
 refine F.ok zdR (λ vs H Q E h=>?_) (λ cdv A outer s H vs Q E hr h=>?_)
 ·obtain ⟨p,w,rfl,_⟩:=h;rfl
 ·have nd := zdR.nd;have hu := hr.units;obtain ⟨p, w, rfl, hH, hw1, hw2, k⟩ := h;refine ⟨_, ((8:) (@zas _ _ 2 _ _ _ _ nd rfl (17:) (@zaA _ _ _ _ _ _ _ (@k_ix _ K (0:)) ((45:) ((26:) ((26:) ((26:) ((26:) ((26:) ((26:) ((26:) ((26:) ((26:) (4:))))))))))) ((10:) g__law_draw (9:) ((2:) (12:) ((2:) (7:) (4:) (0:)) (0:)) (0:) (3:) (0:) (0:)) (fun _ _ => rfl)) (0:) (16:)) ((8:) ((19:) (@PW.pt _ _ _ ((55:) ((20:) (@k_in _ K (0:)) (14:) ((31:) ((26:) ((26:) ((26:) ((26:) (4:)))))) rfl) (@zfF _ _ _ _ (@PW.pt _ _ _ ((56:) ((20:) (25:) (15:) (7:) (22:)) (@ze3 _ _ _ _ ((20:) (@k_in _ K (0:)) (14:) ((31:) ((26:) ((26:) (4:)))) rfl))))))) ((6:) ((13:) ((31:) ((2:) ((46:) ((20:) (@zhQ _ K (0:)) (14:) ((31:) ((26:) ((26:) (4:)))) rfl) (14:) (@zaT _ _ _ _)) ((2:) ((10:) g__law_word (9:) ((2:) (12:) ((2:) (15:) (4:) (0:)) (0:)) (0:) (3:) (0:) (0:)) (4:) (0:)) (0:))))) (21:)) ((8:) ((19:) ((20:) (@k_in _ K (0:)) (14:) ((31:) ((26:) ((26:) (4:)))) rfl) ((6:) ((13:) ((31:) ((2:) (14:) ((2:) ((10:) g__law_draw (9:) ((2:) (12:) ((2:) ((11:) (33:) (15:) (7:)) (4:) (0:)) (0:)) (0:) (3:) (0:) (0:)) (4:) (0:)) (0:))))) (21:)) ((8:) ((19:) ((20:) (25:) (14:) (@zaT _ _ _ _) (22:)) ((6:) ((13:) ((31:) ((2:) (14:) ((2:) ((10:) g__law_draw (9:) ((2:) (12:) ((2:) (15:) (4:) (0:)) (0:)) (0:) (3:) (0:) (0:)) (4:) (0:)) (0:))))) (21:)) ((8:) (@zas _ _ 3 _ _ _ _ nd rfl (17:) ((11:) (33:) (7:) ((10:) g__law_draw (9:) ((2:) (12:) ((2:) ((11:) (@zbg _) (15:) (7:)) (4:) (0:)) (0:)) (0:) (3:) (0:) (0:))) (0:) (16:)) ((8:) ((19:) ((20:) (25:) (14:) (@zaT _ _ _ _) (22:)) ((6:) ((13:) ((31:) ((2:) (14:) ((2:) ((10:) g__law_swap_mask (9:) ((2:) (12:) ((2:) (15:) ((2:) (18:) (4:) (0:)) (0:)) (0:)) (0:) (3:) (0:) (0:)) ((2:) (18:) (4:) (0:)) (0:)) (0:))))) (21:)) ((8:) (@zas _ _ 3 _ _ _ _ nd rfl (17:) ((11:) (48:) (18:) ((11:) (@zbg _) (7:) ((11:) (48:) (7:) ((10:) g__law_draw (9:) ((2:) (12:) ((2:) (7:) (4:) (0:)) (0:)) (0:) (3:) (0:) (0:))))) (0:) (16:)) ((6:) ((13:) ((31:) ((2:) (14:) ((2:) ((10:) g__law_copy_mask (9:) ((2:) (12:) ((2:) (15:) ((2:) (18:) (4:) (0:)) (0:)) (0:)) (0:) (3:) (0:) (0:)) ((2:) (18:) (4:) (0:)) (0:)) (0:)))))))))))), ?_⟩;symm;refine zdQ (5:) fun l H1 fl s1 n1 => ?_;have h1 := hH.same s1;have nlp := hH.ne fl;symm;refine ⟨p, 9, rfl, h1, by decide, by decide, fun r H2 hr b2 h2 => ?_⟩;have n2 := b2.keep _ _ nlp n1;have b2 : But p H H2 := s1.but.trans b2;clear n1 h1 s1;rcases (show r = 0 \/ r = 1 \/ r = 2 \/ r = 3 \/ r = 4 \/ r = 5 \/ r = 6 \/ r = 7 \/ r = 8 by omega) with rfl | rfl | rfl | rfl | rfl | rfl | rfl | rfl | rfl
  all_goals symm
  all_goals refine zau (5:) λ t1 H3 f3 s3 n3=>?_
  all_goals have h3:=h2.same s3
  all_goals have b3:But p H H3:=b2.trans s3.but
  all_goals symm
  ·refine zau (5:) λ t2 H4 f4 s4 n4=>?_;symm;refine ⟨p,w,rfl,h3.same s4,hw1,hw2,λ m H5 hm b5 h5=>?_⟩;symm;refine zau (5:) λ t H6 f6 s6 n6=>?_;exact k t (.and m) H6 hm (b3.trans (s4.but.trans (b5.trans s6.but))) (h5.same s6) n6
  ·refine zau (5:) λ t2 H4 f4 s4 n4=>?_;symm;refine ⟨p,w,rfl,h3.same s4,hw1,hw2,λ m H5 hm b5 h5=>?_⟩;symm;refine zau (5:) λ t H6 f6 s6 n6=>?_;exact k t (.or m) H6 hm (b3.trans (s4.but.trans (b5.trans s6.but))) (h5.same s6) n6
  ·refine zaF (fun hc => ?_) (fun hc => ?_)
   ·symm;refine zau (5:) fun t1' H3' f3' s3' n3' => ?_
    replace h3:=h3.same s3'
    replace b3:But p H H3':=b3.trans s3'.but
    clear n3 s3;symm;refine zau (5:) λ t2 H4 f4 s4 n4=>?_;symm;refine ⟨p,w + 1,rfl,h3.same s4,by omega,by omega,λ m H5 hm b5 h5=>?_⟩;symm;refine zau (5:) λ t H6 f6 s6 n6=>?_;exact k t (.left m) H6 (show m <= w by omega) (b3.trans (s4.but.trans (b5.trans s6.but))) (h5.same s6) n6
   ·symm;refine zau (5:) λ t2 H4 f4 s4 n4=>?_;symm;refine ⟨p,w + 1,rfl,h3.same s4,by omega,by omega,λ m H5 hm b5 h5=>?_⟩;symm;refine zau (5:) λ t H6 f6 s6 n6=>?_;exact k t (.left m) H6 (show m <= w by omega) (b3.trans (s4.but.trans (b5.trans s6.but))) (h5.same s6) n6
  ·refine zaF (fun hc => ?_) (fun hc => ?_)
   ·symm;refine zau (5:) fun t1' H3' f3' s3' n3' => ?_
    replace h3:=h3.same s3'
    replace b3:But p H H3':=b3.trans s3'.but
    clear n3 s3;symm;refine zau (5:) λ t2 H4 f4 s4 n4=>?_;symm;refine ⟨p,w + 1,rfl,h3.same s4,by omega,by omega,λ m H5 hm b5 h5=>?_⟩;symm;refine zau (5:) λ t H6 f6 s6 n6=>?_;exact k t (.right m) H6 (show m <= w by omega) (b3.trans (s4.but.trans (b5.trans s6.but))) (h5.same s6) n6
   ·symm;refine zau (5:) λ t2 H4 f4 s4 n4=>?_;symm;refine ⟨p,w + 1,rfl,h3.same s4,by omega,by omega,λ m H5 hm b5 h5=>?_⟩;symm;refine zau (5:) λ t H6 f6 s6 n6=>?_;exact k t (.right m) H6 (show m <= w by omega) (b3.trans (s4.but.trans (b5.trans s6.but))) (h5.same s6) n6
  ·refine zaF (fun hc => ?_) (fun hc => ?_)
   ·symm;refine zau (5:) fun t1' H3' f3' s3' n3' => ?_
    replace h3:=h3.same s3'
    replace b3:But p H H3':=b3.trans s3'.but
    clear n3 s3;symm;refine zau (5:) λ t2 H4 f4 s4 n4=>?_;symm;refine ⟨p,w,rfl,h3.same s4,by omega,by omega,λ m H5 hm b5 h5=>?_⟩;symm;refine zau (5:) λ t H6 f6 s6 n6=>?_;exact k t (.turn m) H6 hm (b3.trans (s4.but.trans (b5.trans s6.but))) (h5.same s6) n6
   ·symm;refine zau (5:) λ t2 H4 f4 s4 n4=>?_;symm;refine ⟨p,w,rfl,h3.same s4,by omega,by omega,λ m H5 hm b5 h5=>?_⟩;symm;refine zau (5:) λ t H6 f6 s6 n6=>?_;exact k t (.turn m) H6 hm (b3.trans (s4.but.trans (b5.trans s6.but))) (h5.same s6) n6
  ·refine zaF (fun hc => ?_) (fun hc => ?_)
   ·symm;refine zau (5:) fun t1' H3' f3' s3' n3' => ?_
    replace h3:=h3.same s3'
    replace b3:But p H H3':=b3.trans s3'.but
    clear n3 s3;symm;refine zau (5:) λ t2 H4 f4 s4 n4=>?_;symm;refine ⟨p,w,rfl,h3.same s4,hw1,hw2,λ m H5 hm b5 h5=>?_⟩;symm;refine zau (5:) λ t H6 f6 s6 n6=>?_;exact k t (.and m) H6 hm (b3.trans (s4.but.trans (b5.trans s6.but))) (h5.same s6) n6
   ·symm;refine zau (5:) λ t2 H4 f4 s4 n4=>?_;symm;refine ⟨p,w - 1,by rw [show ((w:Int) - 1)=((w - 1:Nat):Int) by omega]; rfl,h3.same s4,by omega,by omega,λ m H5 hm b5 h5=>?_⟩;symm;refine ⟨p,w,1 + m,by rw [show (1:Int) + (m:Int)=((1 + m:Nat):Int) by omega]; rfl,h5,by omega,by omega,hw2,λ x H6 hx b6 h6=>?_⟩;symm;refine zau (5:) λ t H7 f7 s7 n7=>?_;exact k t (.swap x (1 + m)) H7 hx (b3.trans (s4.but.trans (b5.trans (b6.trans s7.but)))) (h6.same s7) (by rw [n7]; show some (HO.tup [_,_,V.int ((1:Int) + (m:Int))])=some (HO.tup [_,_,V.int ((1 + m:Nat):Int)]); rw [show (1:Int) + (m:Int)=((1 + m:Nat):Int) by omega])
  ·refine zau (5:) λ t2 H4 f4 s4 n4=>?_;symm;refine ⟨p,w,rfl,h3.same s4,hw1,hw2,λ m H5 hm b5 h5=>?_⟩;symm;refine zau (5:) λ t H6 f6 s6 n6=>?_;exact k t (.gather m) H6 hm (b3.trans (s4.but.trans (b5.trans s6.but))) (h5.same s6) n6
  ·refine zau (5:) λ t2 H4 f4 s4 n4=>?_;symm;refine ⟨p,w,rfl,h3.same s4,hw1,hw2,λ m H5 hm b5 h5=>?_⟩;symm;refine zau (5:) λ t H6 f6 s6 n6=>?_;exact k t (.strew m) H6 hm (b3.trans (s4.but.trans (b5.trans s6.but))) (h5.same s6) n6
  ·refine zaF (fun hc => ?_) (fun hc => ?_)
   ·symm;refine zau (5:) fun t1' H3' f3' s3' n3' => ?_
    replace h3:=h3.same s3'
    replace b3:But p H H3':=b3.trans s3'.but
    clear n3 s3;symm;refine zau (5:) λ t2 H4 f4 s4 n4=>?_;symm;refine ⟨p,w,rfl,h3.same s4,hw1,hw2,λ m H5 hm b5 h5=>?_⟩;symm;refine zau (5:) λ t H6 f6 s6 n6=>?_;exact k t (.and m) H6 hm (b3.trans (s4.but.trans (b5.trans s6.but))) (h5.same s6) n6
   ·symm;refine zau (5:) fun t2 H4 f4 s4 n4 => ?_;symm;refine ⟨p, w - 1, by rw [show ((w : Int) - 1) = ((w - 1 : Nat) : Int) by omega]; rfl, h3.same s4, by omega, by omega, fun m H5 hm b5 h5 => ?_⟩;symm;refine ⟨p, 2, rfl, h5, by decide, by decide, fun y H6 hy b6 h6 => ?_⟩;symm
    obtain ⟨z,ez,hz⟩:∃ z:Int,(1 + (m:Int)) * (1 - 2 * (y:Int))=z /\ z ≠ 0 /\ -(w:Int) < z /\ z < w:=by
     rcases (show y=0 \/ y=1 by omega) with rfl | rfl
     ·exact ⟨1 + (m:Int),by simp,by omega,by omega,by omega⟩
     ·exact ⟨-(1 + (m:Int)),by simp,by omega,by omega,by omega⟩
    rw [ez];refine ⟨p,w,z,rfl,h6,hz.1,hz.2.1,hz.2.2,hw2,λ x H7 hx b7 h7=>?_⟩;symm;refine zau (5:) λ t H8 f8 s8 n8=>?_;exact k t (.copy x z) H8 hx (b3.trans (s4.but.trans (b5.trans (b6.trans (b7.trans s8.but))))) (h7.same s8) n8
def zev:FnScope ["_law_hand_here","_law_width_here","_law_many"] ["_law_hand_here","_law_width_here"] (zaf zcG):=⟨rfl,rfl,rfl,by decide +kernel,rfl,by decide +kernel,by decide +kernel⟩
def zh0 {a:Addr} {fd:FuncData} (B:Blt K mg) (g__law_draw:A35 P w K mg base) (g__law_deed:A42 P w K mg base) (F:Fun K "_law_row" "_law_row" zcG a fd):FnOk P w K mg base CX0 5 a fd ["_law_hand_here","_law_width_here"] zim:=by
 refine F.ok zev (λ vs H Q E h=>?_) (λ cdv A outer s H vs Q E hr h=>?_)
 ·obtain ⟨p,w,rfl,_⟩:=h;rfl
 ·have nd := zev.nd;have hu := hr.units;obtain ⟨p, w, rfl, hH, hw1, hw2, k⟩ := h;refine ⟨_, ((8:) (@zas _ _ 2 _ _ _ _ nd rfl (17:) ((10:) g__law_draw (9:) ((2:) (12:) ((2:) (7:) (4:) (0:)) (0:)) (0:) (3:) (0:) (0:)) (0:) (16:)) ((8:) ((19:) ((20:) (25:) ((10:) g__law_draw (9:) ((2:) (12:) ((2:) (7:) (4:) (0:)) (0:)) (0:) (3:) (0:) (0:)) (7:) (22:)) ((6:) (@zas _ _ 2 _ _ _ _ nd rfl (17:) ((11:) (33:) (7:) ((10:) g__law_draw (9:) ((2:) (12:) ((2:) (7:) (4:) (0:)) (0:)) (0:) (3:) (0:) (0:))) (0:) (16:))) (21:)) ((6:) ((13:) (@zbt _ _ _ _ _ _ (zaf zcG) _ ["_law_hand_here", "_law_width_here", "_law_many"] ["_law_k", "_law_hand_here", "_law_width_here"] [none, some 0, some 1] _ _ _ _ rfl ((47:) rfl B.b_range ((2:) (14:) (4:) (0:)) (0:)) (fun _ _ _ _ => (67:)) (fun _ _ _ _ => (@zch _)) (fun _ _ _ _ => ((10:) g__law_deed (9:) ((2:) (15:) ((2:) (14:) (4:) (0:)) (0:)) (0:) (3:) (0:) (0:))) (32:) (0:) (0:) (23:)))))), ?_⟩;symm;refine ⟨p, 7, rfl, hH, by decide, by decide, fun r H1 hr b1 h1 => ?_⟩;symm;refine ⟨p, 8, rfl, h1, by decide, by decide, fun r2 H2 hr2 b2 h2 => ?_⟩;symm;refine zaF (fun hc => ?_) (fun hc => ?_)
  ·symm;refine ⟨p, 14, rfl, h2, by decide, by decide, fun r3 H3 hr3 b3 h3 => ?_⟩;symm;rw [show (7 : Int) + (r3 : Int) = ((7 + r3 : Nat) : Int) by omega];refine zdW (n := 7 + r3) rfl (1:) ?_;refine zaO (fun i acc H' => But p H H' /\ Hand H' p /\ ∃ L : List (Addr × Dd), L.length = i /\ i <= 20 /\ Rw H' w L /\ acc = rowV L) ⟨b1.trans (b2.trans b3), h3, [], rfl, by omega, fun _ z => (nomatch z), rfl⟩ (fun i acc H' h => ?_) ?_ ?_
   ·obtain ⟨_,_,L,hl,hi,_,rfl⟩:=h;rw [rowV,yad];exact yaK (zaR (1:))
   ·rintro i acc H' hi ⟨b4, h4, L, hl, hi2, hR, rfl⟩;symm;refine ⟨p, w, rfl, h4, hw1, hw2, fun t d H5 hd b5 h5 n5 => ?_⟩;refine ⟨b4.trans b5, h5, L ++ [(t, d)], by rw [yaG, hl]; rfl, by omega, fun q hq => ?_, by rw [rowV, rowV, yat]; rfl⟩;rcases yau.mp hq with z | z
    ·exact hR.but h4 b5 q z
    ·rw [yaz.mp z]; exact ⟨n5,hd⟩
   ·rintro acc H' ⟨b4,h4,L,hl,hi2,hR,rfl⟩ l hfl;exact k l L _ (1:) (hR.same (zam hfl)) (b4.free h4 hfl).1 (b4.trans (zam hfl).but) (h4.same (zam hfl)) zai
  ·symm;refine zdW (n := r) rfl (1:) ?_;refine zaO (fun i acc H' => But p H H' /\ Hand H' p /\ ∃ L : List (Addr × Dd), L.length = i /\ i <= 20 /\ Rw H' w L /\ acc = rowV L) ⟨b1.trans b2, h2, [], rfl, by omega, fun _ z => (nomatch z), rfl⟩ (fun i acc H' h => ?_) ?_ ?_
   ·obtain ⟨_,_,L,hl,hi,_,rfl⟩:=h;rw [rowV,yad];exact yaK (zaR (1:))
   ·rintro i acc H' hi ⟨b4, h4, L, hl, hi2, hR, rfl⟩;symm;refine ⟨p, w, rfl, h4, hw1, hw2, fun t d H5 hd b5 h5 n5 => ?_⟩;refine ⟨b4.trans b5, h5, L ++ [(t, d)], by rw [yaG, hl]; rfl, by omega, fun q hq => ?_, by rw [rowV, rowV, yat]; rfl⟩;rcases yau.mp hq with z | z
    ·exact hR.but h4 b5 q z
    ·rw [yaz.mp z]; exact ⟨n5,hd⟩
   ·rintro acc H' ⟨b4,h4,L,hl,hi2,hR,rfl⟩ l hfl;exact k l L _ (1:) (hR.same (zam hfl)) (b4.free h4 hfl).1 (b4.trans (zam hfl).but) (h4.same (zam hfl)) zai
def zcO:FnScope ["_law_hand_here","_law_width_here","_law_row_here","_law_word_here","_law_words","_law_deed_here","_law_gone"] ["_law_hand_here","_law_width_here","_law_row_here"] (zaf zb4):=⟨rfl,rfl,rfl,by decide +kernel,rfl,by decide +kernel,by decide +kernel⟩
def zfe {a:Addr} {fd:FuncData} (B:Blt K mg) (g_row_done:A16 P w K mg base) (g_undone:A28 P w K mg base) (g__law_word:A37 P w K mg base) (F:Fun K "_law_walked" "_law_walked" zb4 a fd):FnOk P w K mg base CX0 6 a fd ["_law_hand_here","_law_width_here","_law_row_here"] zin:=by
 refine F.ok zcO (λ vs H Q E h=>?_) (λ cdv A outer s H vs Q E hr h=>?_)
 ·obtain ⟨p,l,w,L,rfl,_⟩:=h;rfl
 ·have nd := zcO.nd;have hu := hr.units;obtain ⟨p, l, w, L, rfl, hp, nlp, hl, hR, hev, hw1, hw, hlen, k⟩ := h;refine ⟨_, ((8:) (@zas _ _ 3 _ _ _ _ nd rfl (17:) ((10:) g__law_word (9:) ((2:) (12:) ((2:) (15:) (4:) (0:)) (0:)) (0:) (3:) (0:) (0:)) (0:) (16:)) ((8:) (@zas _ _ 4 _ _ _ _ nd rfl (17:) ((45:) ((2:) (18:) (4:) (0:))) (0:) (16:)) ((8:) ((39:) yaU rfl (@zbS _ K _ _ _ (14:) (0:)) (@zav _ _ 5 _ nd rfl (17:) (16:)) ((6:) (@zeH _ _ _ _ (@k_bm _ K _ _ _ _ _ _ _ _ _ _ _ ybg PySem.F.slot_list_append PySem.F.type_list_append (@zha _) (24:) ((2:) ((10:) g_row_done (9:) ((2:) (15:) ((2:) ((45:) ((2:) (42:) (4:) (0:))) ((2:) (62:) (4:) (0:)) (0:)) (0:)) (0:) (3:) (0:) (0:)) (4:) (0:)) (0:) (0:) (0:) (0:) (0:) (0:)) (0:))) (23:)) ((8:) ((19:) ((20:) (54:) ((10:) g_row_done (9:) ((2:) (15:) ((2:) ((10:) g_undone (9:) ((2:) (15:) ((2:) (14:) (4:) (0:)) (0:)) (0:) (3:) (0:) (0:)) ((2:) (62:) (4:) (0:)) (0:)) (0:)) (0:) (3:) (0:) (0:)) (18:) (22:)) ((6:) ((13:) (40:))) (21:)) ((8:) ((39:) yaU rfl (@zlu _ K _ _ _ _ _ B.b_reversed ((2:) (14:) (4:) (0:)) (0:) (0:) (0:)) (@zav _ _ 5 _ nd rfl (17:) (16:)) ((8:) (@zas _ _ 6 _ _ _ _ nd rfl (17:) (@zpw _ K _ _ _ _ _ _ _ _ ybg PySem.F.slot_list_pop PySem.F.type_list_pop (@zps _) (24:) (0:) (0:) (0:)) (0:) (16:)) ((6:) ((19:) ((20:) (54:) ((10:) g_row_done (9:) ((2:) (15:) ((2:) ((10:) g_undone (9:) ((2:) (15:) ((2:) ((45:) ((2:) (42:) (4:) (0:))) (4:) (0:)) (0:)) (0:) (3:) (0:) (0:)) ((2:) (@pv1 _ 6 _ _ (28:)) (4:) (0:)) (0:)) (0:)) (0:) (3:) (0:) (0:)) (62:) (22:)) ((6:) ((13:) (40:))) (21:)))) (23:)) ((6:) ((13:) (@zeD _ _ _ _ _ _ _ _ (25:) (24:) ((45:) ((2:) (18:) (4:) (0:))) (22:))))))))), ?_⟩;symm;refine ⟨p, w, rfl, hp, hw1, hw, fun x H1 hx b1 h1 => ?_⟩;have l1 := b1.keep _ _ nlp hl;have R1 := hR.but hp b1;symm;refine zdQ (5:) fun q H2 f2 s2 n2 => ?_;have l2 := s2 _ _ l1;have R2 := R1.same s2;symm;have fq : H1 q = none := f2;refine zlR (xs := rowV L) (fun i σ H' => Same H1 H' /\ i <= L.length /\ H' q = some (.lst (wayW w (dds L) x i)) /\ ∃ v5, σ = [some (.ref p), some (nV w), some (.ref l), some (nV x), some (.ref q), v5, none]) ⟨s2, yaR _, n2, none, rfl⟩ (fun i σ H' h => SqL.of (h.1 _ _ l1)) ?_ ?_
  ·rintro i u σ H' hu ⟨s3, _, n3, v5, rfl⟩;obtain ⟨⟨c, d⟩, hc, rfl⟩ := zaL hu;have hil : i < L.length := (yaj.mp hc).1;have hq := hR _ (yaw hc);have e : (dds L)[i]? = some d := by rw [dds, yag, hc]; rfl
   have hok:∀ d ∈ (dds L).take i,d.ok w:=λ d hd=>hR.ok d (ybu hd);symm;refine zdQ (5:) λ r H4 f4 s4 n4=>?_;have n5:=s4 _ _ n3;symm;refine zeZ (v:=nV (rowN w ((dds L).take i) x)) (SqL.of n5) ?_ ?_
   ·rw [wayW,yad,yar,yag,yan (1:)];rfl
   symm;refine ⟨w,_,r,[(c,d)],rfl,SqA.of n4,λ z hz=>?_,hw,zdC _ _ hok hx,λ H6 s6=>?_⟩
   ·rw [yaz.mp hz];exact ⟨(s3.trans s4) _ _ (b1.keep _ _ (hp.neT hq.1) hq.1),hq.2⟩
   have n6:=s6 _ _ n5;refine zlV ?_;refine zo0 n6 (zaR (by rw [wayW,yad,yar]; omega)) ?_;refine ⟨((s3.trans s4).trans s6).upd' fq,hil,?_,_,rfl⟩;rw [zai,wayW,wayW,ya3 (n:=i + 1),yat,List.map_singleton,show rowN w ((dds L).take (i + 1)) x=rowN w [d] (rowN w ((dds L).take i) x) by rw [yaB,e]; exact zdw _ _ _ _];rfl
  ·rintro σ H' ⟨s3, _, n3, v5, rfl⟩;have l3 := s3 _ _ l1;have R3 := R1.same s3;rw [za1] at n3
   have hlast:(wayW w (dds L) x L.length)[(wayW w (dds L) x L.length).length - 1]?=some (nV (rowN w (dds L) x)):=by
    rw [wayW,yad,yar,yag,yan (1:)];show some (nV (rowN w ((dds L).take L.length) x))=_;rw [yas (by rw [dds,yad]; exact yah _)]
   symm;refine ⟨w,l,L,rfl,l3,R3,hw1,hw,by omega,hev,λ f M H4 f4 s4 n4 hM eM=>?_⟩;symm;refine zeZ (SqL.of (s4 _ _ n3)) hlast ?_;symm;refine ⟨w,_,f,M,rfl,SqA.of n4,hM,hw,zdC _ _ hR.ok hx,λ H5 s5=>?_⟩
   have e3:rowN w (dds M) (rowN w (dds L) x)=x:=by
    rw [<- zdw,<- zeE (λ d hd=>(yau.mp hd).elim (hR.ok d) (hM.ok d)) hx,eM,zfB hR.ok hev,zef hx]
   symm;rw [e3,if_neg (5:)];have n5:=s5 _ _ (s4 _ _ n3);have l5:=s5 _ _ (s4 _ _ l3);have s35:=s3.trans (s4.trans s5);symm;refine ⟨l,rowV L,rfl,SqL.of l5,?_⟩;refine znI (λ i σ H'=>Same H1 H' /\ i <= L.length /\ H' q=some (.lst (wayW w (dds L) x (L.length - i))) /\ ∃ v5 v6,σ=[some (.ref p),some (nV w),some (.ref l),some (nV x),some (.ref q),v5,v6]) ⟨s35,yaR _,n5,_,_,rfl⟩ (λ i σ H' h=>SqL.of (h.1 _ _ l1)) ?_ ?_
   ·rintro i u σ H' hi hu ⟨s6, _, n6, v5, v6, rfl⟩;rw [za1] at hi hu;obtain ⟨⟨c, d⟩, hc, rfl⟩ := zaL hu;have hq := hR _ (yaw hc);rw [show L.length - i = (L.length - 1 - i) + 1 by omega] at n6;rw [show L.length - (i + 1) = L.length - 1 - i by omega];have hjl : L.length - 1 - i < L.length := by omega
    generalize L.length - 1 - i=j at n6 hc hjl ⊢;have e:(dds L)[j]?=some d:=by rw [dds,yag,hc]; rfl
    have hok:∀ d ∈ (dds L).take j,d.ok w:=λ d hd=>hR.ok d (ybu hd);have ed:rowN w ((dds L).take (j + 1)) x=rowN w [d] (rowN w ((dds L).take j) x):=by rw [yaB,e]; exact zdw _ _ _ _
    symm;refine ⟨q,_,_,rfl,rfl,n6,zg6 _ _ _ _,?_⟩;rw [zjT,List.dropLast_concat,ed];have s7:Same H1 (upd H' q (.lst (wayW w (dds L) x j))):=s6.upd' fq;have n7:upd H' q (.lst (wayW w (dds L) x j)) q=some (.lst (wayW w (dds L) x j)):=zai;generalize upd H' q (.lst (wayW w (dds L) x j))=H7 at s7 n7 ⊢;symm;refine zdQ (5:) λ r H8 f8 s8 n8=>?_;have hd8:=(s7.trans s8) _ _ (b1.keep _ _ (hp.neT hq.1) hq.1);have hy:=zdC _ _ hok hx;symm;have okd:∀ z ∈ [d],z.ok w:=λ z hz=>by rw [yaz.mp hz]; exact hq.2
    have evd:∀ z ∈ [d],zax (z.led w):=λ z hz=>by rw [yaz.mp hz]; exact hev d (yaw e)
    refine ⟨w,r,[(c,d)],rfl,n8,λ z hz=>by (rw [yaz.mp hz]; exact ⟨hd8,hq.2⟩),hw1,hw,by simp,evd,λ f2 M2 H9 f9 s9 n9 hM2 eM2=>?_⟩;symm;refine ⟨w,_,f2,M2,rfl,SqA.of n9,hM2,hw,zdC _ _ okd hy,λ H10 s10=>?_⟩;have n10:=((s8.trans s9).trans s10) _ _ n7
    have e4:rowN w (dds M2) (rowN w [d] (rowN w ((dds L).take j) x))=rowN w ((dds L).take j) x:=by
     rw [<- zdw,<- zeE (λ z hz=>(yau.mp hz).elim (okd z) (hM2.ok z)) hy,eM2,show dds [(c,d)]=[d] from rfl,zfB okd evd,zef hy]
    rw [e4];symm;refine zeZ (SqL.of n10) (zg6 _ _ _ _) ?_;symm;rw [if_neg (5:)];symm;exact ⟨s7.trans ((s8.trans s9).trans s10),by omega,n10,_,_,rfl⟩
   ·rintro σ H' ⟨s6,_,n6,v5,v6,rfl⟩;rw [za1,Nat.sub_self] at n6;symm;refine zdQ (5:) λ r H7 f7 s7 n7=>?_;refine zmx (xs:=[(x:Int)]) (ys:=[(x:Int)]) (SqL.of (s7 _ _ n6)) (SqL.of n7) ?_;rw [decide_eq_true rfl];exact k H7 (b1.trans (s6.trans s7).but) (h1.same (s6.trans s7))
def zbB:FnScope ["_law_leading","_law_width_here","_law_kept","_law_place","_law_lost","error"] ["_law_leading","_law_width_here"] (zaf za9):=⟨rfl,rfl,rfl,by decide +kernel,rfl,by decide +kernel,by decide +kernel⟩
def zdc {a:Addr} {fd:FuncData} (B:Blt K mg) (g_kept_by:A3 P w K mg base) (g_back:A30 P w K mg base) (gx_back:X30 P w K mg base) (F:Fun K "_law_lost_alone" "_law_lost_alone" za9 a fd):FnOk P w K mg base CX0 5 a fd ["_law_leading","_law_width_here"] zkS:=by
 refine F.ok zbB (λ vs H Q E h=>?_) (λ cdv A outer s H vs Q E hr h=>?_)
 ·obtain ⟨b,ls,w,rfl,_⟩:=h;rfl
 ·have nd := zbB.nd;have hu := hr.units;obtain ⟨b, ls, w, rfl, hb, hL, hw, k⟩ := h;obtain ⟨cL, cU, cH, cT, cB, Xs⟩ := B.ex;refine ⟨_, ((8:) (@zas _ _ 2 _ _ _ _ nd rfl (17:) ((10:) g_kept_by (9:) ((2:) (12:) (4:) (0:)) (0:) (3:) (0:) (0:)) (0:) (16:)) ((8:) ((39:) yaU rfl ((47:) rfl B.b_range ((2:) (15:) (4:) (0:)) (0:)) (@zav _ _ 3 _ nd rfl (17:) (16:)) ((8:) (@zas _ _ 4 _ _ _ _ nd rfl (17:) (40:) (0:) (16:)) ((8:) (@zmk _ 5 _ _ _ _ _ _ _ _ _ _ _ _ rfl rfl nd rfl rfl rfl Xs.mT Xs.tt (@zlB _ _ _ _ _ _ _ _ _ _ (fun _ _ z => z) gx_back (9:) ((2:) (12:) ((2:) ((11:) (@za4 _) (7:) (18:)) (4:) (0:)) (0:)) (0:) (3:) (0:) (0:)) (fun _ => ((6:) (@zas _ _ 4 _ _ _ _ nd rfl (17:) (@zeD _ _ _ _ _ _ _ _ (25:) (@zmb _ K _ _ _ _ cL (42:) rfl (0:)) (18:) (22:)) (0:) (16:)))) (3:) (0:)) ((6:) ((19:) ((20:) (54:) (24:) (@zeD _ _ _ _ _ _ _ _ (25:) ((11:) (@zby _) ((11:) (@zdm _) (14:) (18:)) (7:)) (7:) (22:)) (22:)) ((6:) ((13:) (40:))) (21:))))) (23:)) ((6:) ((13:) (40:))))), ?_⟩;symm;refine ⟨b, ls, w, rfl, hb, hL, hw, fun H1 s1 => ?_⟩;have b1 := s1 _ _ hb;symm;refine zik (n := w) rfl (1:) ?_;refine zcI (fun i σ H' => Same H H' /\ ∃ v3 v4 v5, σ = [some (.ref b), some (nV w), some (nV (zfi ls)), v3, v4, v5]) ⟨s1, none, none, none, rfl⟩ ?_ ?_
  ·rintro i σ H' hi ⟨s2, v3, v4, v5, rfl⟩;have hcnt : i <= 64 := by omega
   have b2:=s2 _ _ hb;symm;refine znd ?_;symm;rw [show (1:Int) * 2 ^ ((i:Int)).toNat=((2 ^ i:Nat):Int) by rw [yam,Int.one_mul]; simp];refine ⟨b,ls,w,2 ^ i,rfl,b2,hL,hw,λ hn t H3 s3 n3=>?_,λ j hj C dx H3 hC s3 n3=>?_⟩
   ·have hm:(i:Int) ∈ ls:=zjR hn i hi (by rw [ybS]);symm;rw [zci,zd8,decide_eq_true hm];refine zmG ?_;refine ⟨_,rfl,?_⟩;rw [if_neg (3:)];symm;exact ⟨s2.trans s3,_,_,_,rfl⟩
   ·cases hC.symm.trans Xs.mT
    have hij:j=i /\ ¬ (i:Int) ∈ ls:=by
     have z:=List.find?_some hj;simp only [yai,ybB,decide_eq_true_eq,yby,decide_eq_false_iff_not] at z;exact ⟨z.1.symm,z.1 ▸ z.2⟩
    obtain ⟨rfl,hm⟩:=hij;refine ⟨cT,rfl,Xs.tt,λ a ha=>?_⟩;have s4:=zam (o:=.ext (isXD cT a (some dx))) ha;have n4:upd H3 a (.ext (isXD cT a (some dx))) a=some (.ext (isXD cT a (some dx))):=zai;have n5:=s4 _ _ n3;generalize upd H3 a (.ext (isXD cT a (some dx)))=H4 at s4 n4 n5 ⊢;symm;refine ⟨.ref a,rfl,a,cT,dx,_,rfl,n4,n5,B.lost cT cL Xs.mT Xs.mL,?_⟩;symm;rw [zci,zd8,decide_eq_false hm,beq_self_eq_true];refine zmG ?_;refine ⟨_,rfl,?_⟩;rw [if_neg (3:)];symm;exact ⟨(s2.trans s3).trans s4,_,_,_,rfl⟩
  ·rintro σ H' ⟨s2,v3,v4,v5,rfl⟩;symm;exact k H' s2
def zmJ:FnScope ["_law_script","_law_hand_here","_law_turn","_law_width_here","_law_one","_law_other","_law_home","_law_row_here","_law_leading","_law_word_here","_law_kept","_law_found"] ["_law_script"] (zaf zhu):=⟨rfl,rfl,rfl,by decide +kernel,rfl,by decide +kernel,by decide +kernel⟩
def zog {a:Addr} {fd:FuncData} (B:Blt K mg) (g_led:A2 P w K mg base) (g_kept_by:A3 P w K mg base) (g_turned_back:A5 P w K mg base) (g_row_done:A16 P w K mg base) (g_row_leading:A26 P w K mg base) (g_undone:A28 P w K mg base) (g_back:A30 P w K mg base) (g_unlike_words:A32 P w K mg base) (g_same_rows:A33 P w K mg base) (g__law_hand:A34 P w K mg base) (g__law_width:A36 P w K mg base) (g__law_word:A37 P w K mg base) (g__law_even_row:A40 P w K mg base) (g__law_row:A43 P w K mg base) (g__law_walked:A44 P w K mg base) (g__law_lost_alone:A45 P w K mg base) (F:Fun K "law" "law" zhu a fd):FnOk P w K mg base CX0 7 a fd ["_law_script"] (zlO K):=by
 refine F.ok zmJ (λ vs H Q E h=>?_) (λ cdv A outer s H vs Q E hr h=>?_)
 ·obtain ⟨b,ns,rfl,_⟩:=h;rfl
 ·have nd := zmJ.nd;have hu := hr.units;obtain ⟨b, ns, rfl, hS, hlen, k⟩ := h
  refine ⟨_,((8:) (@zas _ _ 1 _ _ _ _ nd rfl (17:) ((10:) g__law_hand (9:) ((2:) (12:) (4:) (0:)) (0:) (3:) (0:) (0:)) (0:) (16:)) ((8:) ((39:) yaU rfl ((47:) rfl B.b_range ((2:) (7:) (4:) (0:)) (0:)) (@zav _ _ 2 _ nd rfl (17:) (16:)) ((8:) (@zas _ _ 3 _ _ _ _ nd rfl (17:) ((10:) g__law_width (9:) ((2:) (15:) (4:) (0:)) (0:) (3:) (0:) (0:)) (0:) (16:)) ((8:) (@zmF _ _ 4 5 _ _ _ _ _ _ _ _ _ _ _ rfl nd rfl rfl (3:) rfl rfl ((2:) ((10:) g__law_even_row (9:) ((2:) (15:) ((2:) (18:) ((2:) (7:) (4:) (0:)) (0:)) (0:)) (0:) (3:) (0:) (0:)) ((2:) ((10:) g__law_even_row (9:) ((2:) (15:) ((2:) (18:) ((2:) (7:) (4:) (0:)) (0:)) (0:)) (0:) (3:) (0:) (0:)) (4:) (0:)) (0:)) rfl (0:)) ((8:) ((19:) (@zdU _ _ _ _ (@zcX _ _ _ ((10:) g__law_walked (9:) ((2:) (15:) ((2:) (18:) ((2:) ((11:) (33:) (24:) (42:)) (4:) (0:)) (0:)) (0:)) (0:) (3:) (0:) (0:)) (23:))) ((6:) ((13:) (40:))) (21:)) ((8:) (@zas _ _ 6 _ _ _ _ nd rfl (17:) ((11:) (33:) ((10:) g_undone (9:) ((2:) (18:) ((2:) (42:) (4:) (0:)) (0:)) (0:) (3:) (0:) (0:)) ((10:) g_undone (9:) ((2:) (18:) ((2:) (24:) (4:) (0:)) (0:)) (0:) (3:) (0:) (0:))) (0:) (16:)) ((8:) ((19:) (@zdU _ _ _ _ (@zcX _ _ _ ((10:) g_same_rows (9:) ((2:) (18:) ((2:) (@pv1 _ 6 _ _ (28:)) ((2:) ((10:) g_undone (9:) ((2:) (18:) ((2:) ((11:) (33:) (24:) (42:)) (4:) (0:)) (0:)) (0:) (3:) (0:) (0:)) (4:) (0:)) (0:)) (0:)) (0:) (3:) (0:) (0:)) (23:))) ((6:) ((13:) (40:))) (21:)) ((8:) ((19:) (@zdU _ _ _ _ (@zcX _ _ _ ((10:) g_same_rows (9:) ((2:) (18:) ((2:) ((10:) g_undone (9:) ((2:) (18:) ((2:) (@pv1 _ 6 _ _ (28:)) (4:) (0:)) (0:)) (0:) (3:) (0:) (0:)) ((2:) ((11:) (33:) (24:) (42:)) (4:) (0:)) (0:)) (0:)) (0:) (3:) (0:) (0:)) (23:))) ((6:) ((13:) (40:))) (21:)) ((8:) (@zas _ _ 6 _ _ _ _ nd rfl (17:) ((10:) g_row_leading (9:) ((2:) (18:) ((2:) ((10:) g_undone (9:) ((2:) (18:) ((2:) (24:) (4:) (0:)) (0:)) (0:) (3:) (0:) (0:)) (4:) (0:)) (0:)) (0:) (3:) (0:) (0:)) (0:) (16:)) ((8:) ((19:) ((20:) (54:) (@pv1 _ 6 _ _ (28:)) ((10:) g_turned_back (9:) ((2:) ((10:) g_row_leading (9:) ((2:) (18:) ((2:) (24:) (4:) (0:)) (0:)) (0:) (3:) (0:) (0:)) (4:) (0:)) (0:) (3:) (0:) (0:)) (22:)) ((6:) ((13:) (40:))) (21:)) ((8:) (@zas _ _ 7 _ _ _ _ nd rfl (17:) ((10:) g__law_row (9:) ((2:) (15:) ((2:) (18:) (4:) (0:)) (0:)) (0:) (3:) (0:) (0:)) (0:) (16:)) ((8:) (@zas _ _ 8 _ _ _ _ nd rfl (17:) ((10:) g_row_leading (9:) ((2:) (18:) ((2:) (@pv1 _ 7 _ _ (28:)) (4:) (0:)) (0:)) (0:) (3:) (0:) (0:)) (0:) (16:)) ((8:) (@zas _ _ 9 _ _ _ _ nd rfl (17:) ((10:) g__law_word (9:) ((2:) (15:) ((2:) (18:) (4:) (0:)) (0:)) (0:) (3:) (0:) (0:)) (0:) (16:)) ((8:) (@zas _ _ 10 _ _ _ _ nd rfl (17:) ((10:) g_kept_by (9:) ((2:) (@pv1 _ 8 _ _ (28:)) (4:) (0:)) (0:) (3:) (0:) (0:)) (0:) (16:)) ((8:) ((19:) ((20:) (54:) ((10:) g_led (9:) ((2:) ((10:) g_back (9:) ((2:) (@pv1 _ 8 _ _ (28:)) ((2:) (@pv1 _ 10 _ _ (28:)) (4:) (0:)) (0:)) (0:) (3:) (0:) (0:)) ((2:) ((10:) g_row_done (9:) ((2:) (18:) ((2:) (@pv1 _ 7 _ _ (28:)) ((2:) (@pv1 _ 9 _ _ (28:)) (4:) (0:)) (0:)) (0:)) (0:) (3:) (0:) (0:)) (4:) (0:)) (0:)) (0:) (3:) (0:) (0:)) ((11:) (@zby _) (@pv1 _ 9 _ _ (28:)) (@pv1 _ 10 _ _ (28:))) (22:)) ((6:) ((13:) (40:))) (21:)) ((8:) ((19:) (@zdU _ _ _ _ (@zcX _ _ _ ((10:) g__law_lost_alone (9:) ((2:) (@pv1 _ 8 _ _ (28:)) ((2:) (18:) (4:) (0:)) (0:)) (0:) (3:) (0:) (0:)) (23:))) ((6:) ((13:) (40:))) (21:)) ((8:) (@zas _ _ 11 _ _ _ _ nd rfl (17:) ((10:) g_unlike_words (9:) ((2:) (@pv1 _ 8 _ _ (28:)) ((2:) ((10:) g_row_leading (9:) ((2:) (18:) ((2:) (24:) (4:) (0:)) (0:)) (0:) (3:) (0:) (0:)) (4:) (0:)) (0:)) (0:) (3:) (0:) (0:)) (0:) (16:)) ((6:) ((19:) ((20:) (@zk4 _) (@pv1 _ 11 _ _ (28:)) (@zki _ _ _) (22:)) ((6:) ((19:) ((20:) (25:) ((10:) g_row_done (9:) ((2:) (18:) ((2:) (@pv1 _ 7 _ _ (28:)) ((2:) (@pv1 _ 11 _ _ (28:)) (4:) (0:)) (0:)) (0:)) (0:) (3:) (0:) (0:)) ((10:) g_row_done (9:) ((2:) (18:) ((2:) (24:) ((2:) (@pv1 _ 11 _ _ (28:)) (4:) (0:)) (0:)) (0:)) (0:) (3:) (0:) (0:)) (22:)) ((6:) ((13:) (40:))) (21:))) (21:)))))))))))))))))) (23:)) ((6:) ((13:) (40:))))),?_⟩
  symm;refine ⟨b,ns,rfl,hS,λ p H1 fp s1 h1=>?_⟩;symm;refine zik (n:=8) rfl (3:) ?_;refine zcI (λ i σ H'=>Hand H' p /\ ∃ v2 v3 v4 v5 v6 v7 v8 v9 v10 v11,σ=[some (.ref b),some (.ref p),v2,v3,v4,v5,v6,v7,v8,v9,v10,v11]) ⟨h1,none,none,none,none,none,none,none,none,none,none,rfl⟩ ?_ ?_
  ·rintro i σ H' hi ⟨h2, v2, v3, v4, v5, v6, v7, v8, v9, v10, v11, rfl⟩;symm;refine ⟨p, rfl, h2, fun w H3 hw1 hw2 b3 h3 => ?_⟩;symm;refine ⟨p, w, 8, rfl, h3, hw1, hw2, by omega, fun l1 L1 H4 z1 R1 ev1 f4 b4 h4 n4 => ?_⟩;have nl1 : l1 ≠ p := h3.ne f4;symm;refine ⟨p, w, 8, rfl, h4, hw1, hw2, by omega, fun l2 L2 H5 z2 R2 ev2 f5 b5 h5 n5 => ?_⟩;have nl2 : l2 ≠ p := h4.ne f5;have n5' := b5.keep _ _ nl1 n4;have R1' := R1.but h4 b5;symm
   have zM:∀ {L M:List (Addr × Dd)},dds M=zaM w (dds L) -> M.length=L.length:=λ {L M} e=>by
    have z:=congrArg List.length e;rw [dds,yad,zaM,List.length_reverse,yad,dds,yad] at z;exact z
   refine zhj n5' n5 (by rw [za1,za1]; omega) λ c6 H6 f6 s6 n6=>?_;rw [zee] at n6;have nc6:c6 ≠ p:=h5.ne f6;have h6:=h5.same s6;have RA:Rw H6 w (L1 ++ L2):=(R1'.same s6).app (R2.same s6);have okA:=RA.ok;have evA:∀ d ∈ dds (L1 ++ L2),zax (d.led w):=λ d hd=>by rw [zhv] at hd; exact (yau.mp hd).elim (ev1 d) (ev2 d)
   have zA:(L1 ++ L2).length <= 120:=by rw [yaG]; omega
   symm;refine ⟨p,c6,w,L1 ++ L2,rfl,h6,nc6,n6,RA,evA,hw1,hw2,zA,λ H7 b7 h7=>?_⟩;have m1:=b7.keep _ _ nl1 (s6 _ _ n5');have m2:=b7.keep _ _ nl2 (s6 _ _ n5);have Q1:=(R1'.same s6).but h6 b7;have Q2:=(R2.same s6).but h6 b7;symm;refine ⟨w,l2,L2,rfl,m2,Q2,hw1,hw2,by omega,ev2,λ u2 M2 H8 f8 s8 n8 hM2 eM2=>?_⟩;symm;refine ⟨w,l1,L1,rfl,s8 _ _ m1,Q1.same s8,hw1,hw2,by omega,ev1,λ u1 M1 H9 f9 s9 n9 hM1 eM1=>?_⟩;have y1:=zM eM1;have y2:=zM eM2;symm;refine zhj (s9 _ _ n8) n9 (by rw [za1,za1]; omega) λ c10 H10 f10 s10 n10=>?_;rw [zee] at n10;have RH:Rw H10 w (M2 ++ M1):=((hM2.same s9).app hM1).same s10;have eH:dds (M2 ++ M1)=zaM w (dds (L1 ++ L2)):=by rw [zhv,eM2,eM1,zhv,zkz]
   have evH:∀ d ∈ dds (M2 ++ M1),zax (d.led w):=λ d hd=>by rw [eH] at hd; exact zfJ okA evA d hd
   have zH:(M2 ++ M1).length <= 120:=by rw [yaG]; omega
   have t10:=s8.trans (s9.trans s10);symm;refine zhj (t10 _ _ m1) (t10 _ _ m2) (by rw [za1,za1]; omega) λ c11 H11 f11 s11 n11=>?_;rw [zee] at n11;have t11:=t10.trans s11;symm;refine ⟨w,c11,L1 ++ L2,rfl,n11,(Q1.same t11).app (Q2.same t11),hw1,hw2,by omega,evA,λ u3 M3 H12 f12 s12 n12 hM3 eM3=>?_⟩;symm;refine ⟨w,c10,u3,M2 ++ M1,M3,rfl,SqA.of ((s11.trans s12) _ _ n10),RH.same (s11.trans s12),SqA.of n12,hM3,hw2,λ H13 s13=>?_⟩;rw [decide_eq_true (show rowL w (dds (M2 ++ M1))=rowL w (dds M3) by rw [eH,eM3])];have t13:=(s11.trans s12).trans s13;have T13:=t10.trans t13;symm;refine ⟨w,c10,M2 ++ M1,rfl,t13 _ _ n10,RH.same t13,hw1,hw2,by omega,evH,λ u4 M4 H14 f14 s14 n14 hM4 eM4=>?_⟩;have T14:=T13.trans s14;symm;refine zhj (T14 _ _ m1) (T14 _ _ m2) (by rw [za1,za1]; omega) λ c15 H15 f15 s15 n15=>?_;rw [zee] at n15;have T15:=T14.trans s15;symm;refine ⟨w,u4,c15,M4,L1 ++ L2,rfl,SqA.of (s15 _ _ n14),hM4.same s15,SqA.of n15,(Q1.same T15).app (Q2.same T15),hw2,λ H16 s16=>?_⟩;rw [decide_eq_true (show rowL w (dds M4)=rowL w (dds (L1 ++ L2)) by rw [eM4,eH]; exact zkO okA evA)];have T16:=T15.trans s16;symm;refine ⟨w,l1,L1,rfl,T16 _ _ m1,Q1.same T16,hw1,hw2,by omega,ev1,λ u5 M5 H17 f17 s17 n17 hM5 eM5=>?_⟩;symm;refine ⟨w,u5,M5,rfl,SqA.of n17,hM5,hw2,λ t18 H18 s18 n18=>?_⟩;have T18:=T16.trans (s17.trans s18);symm;refine ⟨w,l1,L1,rfl,SqA.of (T18 _ _ m1),Q1.same T18,hw2,λ t19 H19 s19 n19=>?_⟩;symm;refine ⟨t19,rowL w (dds L1),rfl,n19,zen R1.ok ev1,by rw [(za3 R1.ok).1]; exact hw2,λ t20 H20 s20 n20=>?_⟩;symm;refine zn2 (SqT.of ((s19.trans s20) _ _ n18)) (SqT.of n20) ?_;rw [decide_eq_true (show rowL w (dds M5)=zbQ (rowL w (dds L1)) by rw [eM5]; exact zlG R1.ok ev1)];have T20:=T18.trans (s19.trans s20);have h20:=h7.same T20;have m20:=T20 _ _ m1;have Q20:=Q1.same T20;symm;refine ⟨p,w,rfl,h20,hw1,hw2,λ l3 L3 H21 z3 R3 f21 b21 h21 n21=>?_⟩;have nl3:l3 ≠ p:=h20.ne f21;have ok3:=R3.ok;have ld3:=za3 ok3;symm;refine ⟨w,l3,L3,rfl,SqA.of n21,R3,hw2,λ t22 H22 s22 n22=>?_⟩;have h22:=h21.same s22;symm;refine ⟨p,w,rfl,h22,hw1,hw2,λ x H23 hx b23 h23=>?_⟩;have n23:=b23.keep _ _ (h22.neT n22) n22;have l23:=b23.keep _ _ nl3 (s22 _ _ n21);have R23:=(R3.same s22).but h22 b23;have b20:=(b21.trans s22.but).trans b23;have m23:=b20.keep _ _ nl1 m20;have Q23:=Q20.but h20 b20;symm;refine ⟨t22,rowL w (dds L3),w,rfl,n23,ld3,hw2,λ H24 s24=>?_⟩;have hall:∀ q,q < w -> (zfi (rowL w (dds L3))).testBit q=true -> (q:Int) ∈ rowL w (dds L3):=λ q _ hb=>by rw [zd8] at hb; exact of_decide_eq_true hb
   have hkl:zfi (rowL w (dds L3)) < 2 ^ w:=Nat.lt_pow_two_of_testBit _ λ q hq=>by
    rw [zd8]
    exact decide_eq_false λ z=>by
     have:=(ld3.2 _ z).2;omega
   symm;refine ⟨t22,rowL w (dds L3),w,zfi (rowL w (dds L3)),rfl,s24 _ _ n23,ld3,hw2,hall,λ t25 H25 s25 n25=>?_⟩;have s2425:=s24.trans s25;symm;refine ⟨w,x,l3,L3,rfl,SqA.of (s2425 _ _ l23),R23.same s2425,hw2,hx,λ H26 s26=>?_⟩;symm;refine ⟨t25,zcJ (rowL w (dds L3)) (zfi (rowL w (dds L3))),_,w,rfl,s26 _ _ n25,zix ld3 hall,hw2,λ H27 s27=>?_⟩;have eB:ledN (zcJ (rowL w (dds L3)) (zfi (rowL w (dds L3)))) (rowN w (dds L3) x)=x &&& zfi (rowL w (dds L3)):=by rw [<- zeE ok3 hx,zjI ld3 hkl hx hall]
   rw [eB];symm;rw [zaC,if_neg (5:)];have T27:=(s2425.trans s26).trans s27;symm;refine ⟨t22,rowL w (dds L3),w,rfl,T27 _ _ n23,ld3,hw2,λ H28 s28=>?_⟩;have T28:=T27.trans s28;symm;refine ⟨w,l1,L1,rfl,SqA.of (T28 _ _ m23),Q23.same T28,hw2,λ t29 H29 s29 n29=>?_⟩;have T29:=T28.trans s29;symm;refine ⟨t22,t29,rowL w (dds L3),rowL w (dds L1),w,rfl,T29 _ _ n23,n29,ld3,za3 R1.ok,hw2,λ H30 s30=>?_⟩;have T30:=T29.trans s30;have h30:=h23.same T30;have sp:=zhM ld3 (za3 R1.ok);cases hu:zaS ((rowL w (dds L3)).zip (rowL w (dds L1))) with
   | none=>
    symm;rw [if_neg (by simp [optV])];symm;exact ⟨h30,_,_,_,_,_,_,_,_,_,_,rfl⟩
   | some n=>
    obtain ⟨hne,_,hn,_⟩:=sp.2 n hu;rw [zeE ok3 hn,zeE R1.ok hn] at hne;symm;rw [if_pos (by simp [optV])];symm;refine ⟨w,n,l3,L3,rfl,SqA.of (T30 _ _ l23),R23.same T30,hw2,hn,λ H31 s31=>?_⟩;symm;refine ⟨w,n,l1,L1,rfl,SqA.of ((T30.trans s31) _ _ m23),Q23.same (T30.trans s31),hw2,hn,λ H32 s32=>?_⟩;symm
    rw [if_neg (by
     simp only [beq_iff_eq];omega)]
    symm;exact ⟨h30.same (s31.trans s32),_,_,_,_,_,_,_,_,_,_,rfl⟩
  ·rintro σ H2 ⟨h2,v2,v3,v4,v5,v6,v7,v8,v9,v10,v11,rfl⟩;symm;exact k _
end
def all_mk {l:PySem.W.OpenLaw} {w:World} {K:PySem.W.Frag} {h:Heap} {mg:Str -> Option Value} {fa:Addr} (X:K.In h) (G:h.Ns mainGlobals mg) (hfa:mg "law"=some (.ref fa))
  {t_NOUGHT t_ONE:Tok}
  (a0:At K "bit_at" zgb)
  (a1:At K "mask_of" zeP)
  (a2:At K "led" zm9)
  (a3:At K "kept_by" zdq)
  (a4:At K "is_even" zeB)
  (a5:At K "turned_back" zbn)
  (a6:At K "low" zmU)
  (a7:At K "full" zkn)
  (a8:At K "places_in" zbY)
  (a9:At K "gathered" zcv)
  (a10:At K "strewn" zd5)
  (a11:At K "turned" zgk)
  (a12:At K "swapped" zeR)
  (a13:At K "shifted" zeM)
  (a14:At K "copied" zf7)
  (a15:At K "done" zj2)
  (a16:At K "row_done" zdF)
  (a17:At K "staying" ze7)
  (a18:At K "then" ziy)
  (a19:At K "gather_leading" zbk)
  (a20:At K "strew_leading" zbs)
  (a21:At K "is_within" zc0)
  (a22:At K "place_or_nought" za6)
  (a23:At K "copy_source" zbX)
  (a24:At K "source_of" zc5)
  (a25:At K "deed_leading" zbd)
  (a26:At K "row_leading" zb7)
  (a27:At K "undone_deed" zb5)
  (a28:At K "undone" zd6)
  (a29:At K "way_back" zcs)
  (a30:At K "back" zfE)
  (a31:At K "least_unlike" zbF)
  (a32:At K "unlike_words" zbE)
  (a33:At K "same_rows" zcY)
  (a34:At K "_law_hand" zb6)
  (a35:At K "_law_draw" zc4)
  (a36:At K "_law_width" zcf)
  (a37:At K "_law_word" zc2)
  (a38:At K "_law_swap_mask" zbj)
  (a39:At K "_law_even_deed" zbi)
  (a40:At K "_law_even_row" zaZ)
  (a41:At K "_law_copy_mask" zbl)
  (a42:At K "_law_deed" zc8)
  (a43:At K "_law_row" zcG)
  (a44:At K "_law_walked" zb4)
  (a45:At K "_law_lost_alone" za9)
  (a46:At K "law" zhu)
  (z_abs:PySem.W.nsIn K mainGlobals "abs"=some none)
  (z_bool:PySem.W.nsIn K mainGlobals "bool"=some none)
  (z_enumerate:PySem.W.nsIn K mainGlobals "enumerate"=some none)
  (z_int:PySem.W.nsIn K mainGlobals "int"=some none)
  (z_isinstance:PySem.W.nsIn K mainGlobals "isinstance"=some none)
  (z_len:PySem.W.nsIn K mainGlobals "len"=some none)
  (z_list:PySem.W.nsIn K mainGlobals "list"=some none)
  (z_max:PySem.W.nsIn K mainGlobals "max"=some none)
  (z_min:PySem.W.nsIn K mainGlobals "min"=some none)
  (z_range:PySem.W.nsIn K mainGlobals "range"=some none)
  (z_reversed:PySem.W.nsIn K mainGlobals "reversed"=some none)
  (z_sorted:PySem.W.nsIn K mainGlobals "sorted"=some none)
  (z_tuple:PySem.W.nsIn K mainGlobals "tuple"=some none)
  (z_zip:PySem.W.nsIn K mainGlobals "zip"=some none)
  (y_NOUGHT:PySem.W.nsIn K mainGlobals "NOUGHT"=some (some (.int (-1) t_NOUGHT)))
  (y_ONE:PySem.W.nsIn K mainGlobals "ONE"=some (some (.int (-2) t_ONE)))
  {cL cT:Addr} (q_LeadError:PySem.W.nsIn K mainGlobals "LeadError"=some (some (.ref cL))) (q_Lost:PySem.W.nsIn K mainGlobals "Lost"=some (some (.ref cT))) (qok:L2.xcIn K cT cT=true)
  {fI:Addr} {odI anI:Option Addr} {slI:Array (Option Value)} {kVI dcI pmI cdI ctI:Value} (iI:PySem.W.findIn K (.ref cT) "__init__"=some (some (.ref fI))) (lI:K.lookup fI=some ⟨.type "function",odI,.func (PySem.W.fnOf "__init__" "Lost.__init__" (zbr zfR) (za7 zfR) (zaf zfR) .none kVI dcI pmI anI cdI ctI),slI⟩) (kcI:PySem.W.codeIn K cdI "Lost.__init__"=true) (kkI:PySem.W.keepIn K (.ref fI)=true)
  (eI:L2.excInI K cT fI L2.bmV "ValueError.__new__"=true) (fI':L2.fclsB K cT cL "place"=true) (bI:L2.baseB K cL=true)
  : ∃ fd:FuncData,(∀ (s:Shared) (v:Value),BindsTo s fd ⟨[v],[]⟩ [("_law_script",v)]) /\ ∀ base:Heap,K.In base -> base.Ns mainGlobals mg -> FnOk l.prog w K mg base CX0 7 fa fd ["_law_script"] (zlO K):=by
 obtain ⟨ff,od,an46,sl,oc,kV46,dc46,pm46,cd46,ct46,aa,ll,cc,kk⟩:=a46;have e:=hfa.symm.trans (ybc X G aa);cases e;have B:Blt K mg:=⟨yaI X G z_abs,yaI X G z_bool,yaI X G z_enumerate,yaI X G z_int,yaI X G z_isinstance,yaI X G z_len,yaI X G z_list,yaI X G z_max,yaI X G z_min,yaI X G z_range,yaI X G z_reversed,yaI X G z_sorted,yaI X G z_tuple,yaI X G z_zip,⟨_,ybc X G y_NOUGHT⟩,⟨_,ybc X G y_ONE⟩,⟨cL,cL,cL,cT,cL,ybc X G q_LeadError,ybc X G q_Lost,qok⟩,λ C D h1 h2=>by cases h1.symm.trans (ybc X G q_Lost); cases h2.symm.trans (ybc X G q_LeadError); exact L2.fcls_of fI'⟩
 have F46:=zir (st:=zhu) ll cc kk;refine ⟨PySem.W.fnOf "law" "law" (zbr zhu) (za7 zhu) (zaf zhu) .none kV46 dc46 pm46 an46 cd46 ct46,λ s v=>.of_eq rfl,λ base _ _=>?_⟩;have FI:=zir (st:=zfR) lI kcI kkI;have gi_Lost:zeq l.prog w K mg base "Lost" "place" 1:=zeq.mk (ybc X G q_Lost) lI eI (FI.binds (ps:=["self","place"]) λ _ _ _ _ _ _ us hl=>match us,hl with | [_,_],_=>rfl) (znt (ybc X G q_LeadError) bI eI (L2.fcls_of fI') FI)
 have g_bit_at:A0 l.prog w K mg base:=a0.at X G (29:) λ _ _=>zkJ B ;have g_mask_of:A1 l.prog w K mg base:=a1.at X G (43:) λ _ _=>ziJ B ;have g_led:A2 l.prog w K mg base:=a2.at X G (29:) λ _ _=>znZ B g_bit_at g_mask_of;have g_kept_by:A3 l.prog w K mg base:=a3.at X G (43:) λ _ _=>ziW B g_mask_of;have g_is_even:A4 l.prog w K mg base:=a4.at X G (43:) λ _ _=>zjs B ;have g_turned_back:A5 l.prog w K mg base:=a5.at X G (43:) λ _ _=>zfk B g_is_even;have g_low:A6 l.prog w K mg base:=a6.at X G (43:) λ _ _=>zoA B ;have g_full:A7 l.prog w K mg base:=a7.at X G (43:) λ _ _=>zny B g_low;have g_places_in:A8 l.prog w K mg base:=a8.at X G (43:) λ _ _=>zgq B g_bit_at;have g_gathered:A9 l.prog w K mg base:=a9.at X G (29:) λ _ _=>zhq B g_bit_at g_places_in g_mask_of;have g_strewn:A10 l.prog w K mg base:=a10.at X G (29:) λ _ _=>zk9 B g_bit_at g_places_in g_mask_of;have g_turned:A11 l.prog w K mg base:=a11.at X G (34:) λ _ _=>zkj B g_full;have g_swapped:A12 l.prog w K mg base:=a12.at X G (34:) λ _ _=>zi8 B ;have g_shifted:A13 l.prog w K mg base:=a13.at X G (29:) λ _ _=>zi1 B ;have g_copied:A14 l.prog w K mg base:=a14.at X G (34:) λ _ _=>zjy B g_shifted;have g_done:A15 l.prog w K mg base:=a15.at X G (34:) λ _ _=>znO B g_full g_gathered g_strewn g_turned g_swapped g_copied;have g_row_done:A16 l.prog w K mg base:=a16.at X G (34:) λ _ _=>zhA B g_done;have g_staying:A17 l.prog w K mg base:=a17.at X G (43:) λ _ _=>ziI B ;have g_then:A18 l.prog w K mg base:=a18.at X G (29:) λ _ _=>znf B ;have g_gather_leading:A19 l.prog w K mg base:=a19.at X G (29:) λ _ _=>zdK B g_places_in;have g_strew_leading:A20 l.prog w K mg base:=a20.at X G (29:) λ _ _=>zdZ B g_places_in;have g_is_within:A21 l.prog w K mg base:=a21.at X G (34:) λ _ _=>zgQ B ;have g_place_or_nought:A22 l.prog w K mg base:=a22.at X G (29:) λ _ _=>zda B g_is_within;have g_copy_source:A23 l.prog w K mg base:=a23.at X G (34:) λ _ _=>zfg B g_bit_at;have g_source_of:A24 l.prog w K mg base:=a24.at X G (34:) λ _ _=>zgI B g_bit_at g_place_or_nought g_copy_source;have g_deed_leading:A25 l.prog w K mg base:=a25.at X G (29:) λ _ _=>zeI B g_gather_leading g_strew_leading g_source_of;have g_row_leading:A26 l.prog w K mg base:=a26.at X G (29:) λ _ _=>zfb B g_staying g_then g_deed_leading;have g_undone_deed:A27 l.prog w K mg base:=a27.at X G (29:) λ _ _=>zfd B ;have g_undone:A28 l.prog w K mg base:=a28.at X G (29:) λ _ _=>zkp B g_is_even g_deed_leading g_undone_deed;have gx_undone:X28 l.prog w K mg base:=a28.atx X G (29:) λ _ _=>ziK B g_is_even g_deed_leading g_undone_deed gi_Lost;have g_way_back:A29 l.prog w K mg base:=a29.at X G (34:) λ _ _=>zh3 B g_bit_at;have gx_way_back:X29 l.prog w K mg base:=a29.atx X G (34:) λ _ _=>zgB B g_bit_at gi_Lost;have g_back:A30 l.prog w K mg base:=a30.at X G (29:) λ _ _=>zmY B g_way_back;have gx_back:X30 l.prog w K mg base:=a30.atx X G (29:) λ _ _=>zlM B g_way_back gx_way_back;have g_least_unlike:A31 l.prog w K mg base:=a31.at X G (29:) λ _ _=>zeG B ;have g_unlike_words:A32 l.prog w K mg base:=a32.at X G (29:) λ _ _=>zeS B g_least_unlike;have g_same_rows:A33 l.prog w K mg base:=a33.at X G (34:) λ _ _=>zgS B g_row_leading;have g__law_hand:A34 l.prog w K mg base:=a34.at X G (43:) λ _ _=>zgT B ;have g__law_draw:A35 l.prog w K mg base:=a35.at X G (29:) λ _ _=>zgD B ;have g__law_width:A36 l.prog w K mg base:=a36.at X G (43:) λ _ _=>zgj B g__law_draw;have g__law_word:A37 l.prog w K mg base:=a37.at X G (29:) λ _ _=>zgw B g__law_draw;have g__law_swap_mask:A38 l.prog w K mg base:=a38.at X G (34:) λ _ _=>zdB B g__law_draw;have g__law_even_deed:A39 l.prog w K mg base:=a39.at X G (29:) λ _ _=>zdD B g__law_draw g__law_swap_mask
 have g__law_even_row:A40 l.prog w K mg base:=a40.at X G (34:) λ _ _=>zdX B g__law_draw g__law_even_deed;have g__law_copy_mask:A41 l.prog w K mg base:=a41.at X G (34:) λ _ _=>zdJ B g__law_word;have g__law_deed:A42 l.prog w K mg base:=a42.at X G (29:) λ _ _=>zgx B g__law_draw g__law_word g__law_swap_mask g__law_copy_mask;have g__law_row:A43 l.prog w K mg base:=a43.at X G (29:) λ _ _=>zh0 B g__law_draw g__law_deed;have g__law_walked:A44 l.prog w K mg base:=a44.at X G (34:) λ _ _=>zfe B g_row_done g_undone g__law_word;have g__law_lost_alone:A45 l.prog w K mg base:=a45.at X G (29:) λ _ _=>zdc B g_kept_by g_back gx_back;exact zog B g_led g_kept_by g_turned_back g_row_done g_row_leading g_undone g_back g_unlike_words g_same_rows g__law_hand g__law_width g__law_word g__law_even_row g__law_row g__law_walked g__law_lost_alone F46
def walk {l:PySem.W.OpenLaw} {q:Program} {loose:List Str} {XP:(Str -> Option Value) -> Heap -> Prop} {YP:World -> Heap -> Prop} {d:DefRec} {K:Params -> PySem.W.Frag} (hn:l.most=some 63) (hdf:d.params.defaults=[])
  (hY:∀ (w:World) (h:Heap),YP w h -> (K w.params).In h)
  (F : ∀ (w : World) (mg : Str -> Option Value) (fa : Addr) (h : Heap), (K w.params).In h -> h.Ns mainGlobals mg -> mg d.name = some (.ref fa) ->
   ∃ fd:FuncData,(∀ (s:Shared) (u:Value),BindsTo s fd ⟨[u],[]⟩ [("_law_script",u)]) /\ ∀ base:Heap,(K w.params).In base -> base.Ns mainGlobals mg -> FnOk l.prog w (K w.params) mg base CX0 7 fa fd ["_law_script"] (zlO (K w.params))) :
  PySem.W.WalkO q loose XP YP l.row.toRowW d [] (λ f vs=>PySem.call f vs):=
 L2.walk_of (n:=63) (k:=7) (x:="_law_script") (CX:=λ _=>CX0) (sp:=λ w=>zlO (K w.params)) hn (3:) hdf ⟨rfl,by decide,by decide⟩ hY F (λ _ _ a ns hl _ hS=>⟨a,ns,rfl,hS,hl,λ _=>rfl⟩) λ _ _ _ _ _ z=>z
end Lw
local macro_rules | `(tactic| walk_at "at")=>`(tactic| (refine' Lw.At.mk ?xn ?xl ?xc ?xk; (case xn=>k_is); (case xl=>k_is); (case xc=>k_is); (case xk=>k_is)))
open PySem PySem.W PyProof.Rows
set_option maxRecDepth 100000 in
set_option maxHeartbeats 0 in
theorem PySem.Challenge.cw_bitlead_k43_whole_there_and_back_holds : PySem.Challenge.rw_bitlead_k43_whole_there_and_back.Holds := by
 w_on; o_law; k_head; (case hw=>w_witness2)
 k_fill
 refine Lw.walk (l:=PySem.Challenge.rw_bitlead_k43_whole_there_and_back) rfl rfl (λ w h Y=>PySem.W.kIn_of Y) ?F
 case F=>
  intro w mg fa h KX G hmg;refine' Lw.all_mk KX G hmg ?a0 ?a1 ?a2 ?a3 ?a4 ?a5 ?a6 ?a7 ?a8 ?a9 ?a10 ?a11 ?a12 ?a13 ?a14 ?a15 ?a16 ?a17 ?a18 ?a19 ?a20 ?a21 ?a22 ?a23 ?a24 ?a25 ?a26 ?a27 ?a28 ?a29 ?a30 ?a31 ?a32 ?a33 ?a34 ?a35 ?a36 ?a37 ?a38 ?a39 ?a40 ?a41 ?a42 ?a43 ?a44 ?a45 ?a46 ?z_abs ?z_bool ?z_enumerate ?z_int ?z_isinstance ?z_len ?z_list ?z_max ?z_min ?z_range ?z_reversed ?z_sorted ?z_tuple ?z_zip ?y_NOUGHT ?y_ONE ?q_LeadError ?q_Lost ?qok ?iI ?lI ?kcI ?kkI ?eI ?fI' ?bI
  (case a0=>walk_at "at")
  (case a1=>walk_at "at")
  (case a2=>walk_at "at")
  (case a3=>walk_at "at")
  (case a4=>walk_at "at")
  (case a5=>walk_at "at")
  (case a6=>walk_at "at")
  (case a7=>walk_at "at")
  (case a8=>walk_at "at")
  (case a9=>walk_at "at")
  (case a10=>walk_at "at")
  (case a11=>walk_at "at")
  (case a12=>walk_at "at")
  (case a13=>walk_at "at")
  (case a14=>walk_at "at")
  (case a15=>walk_at "at")
  (case a16=>walk_at "at")
  (case a17=>walk_at "at")
  (case a18=>walk_at "at")
  (case a19=>walk_at "at")
  (case a20=>walk_at "at")
  (case a21=>walk_at "at")
  (case a22=>walk_at "at")
  (case a23=>walk_at "at")
  (case a24=>walk_at "at")
  (case a25=>walk_at "at")
  (case a26=>walk_at "at")
  (case a27=>walk_at "at")
  (case a28=>walk_at "at")
  (case a29=>walk_at "at")
  (case a30=>walk_at "at")
  (case a31=>walk_at "at")
  (case a32=>walk_at "at")
  (case a33=>walk_at "at")
  (case a34=>walk_at "at")
  (case a35=>walk_at "at")
  (case a36=>walk_at "at")
  (case a37=>walk_at "at")
  (case a38=>walk_at "at")
  (case a39=>walk_at "at")
  (case a40=>walk_at "at")
  (case a41=>walk_at "at")
  (case a42=>walk_at "at")
  (case a43=>walk_at "at")
  (case a44=>walk_at "at")
  (case a45=>walk_at "at")
  (case a46=>walk_at "at")
  (case z_abs=>k_is)
  (case z_bool=>k_is)
  (case z_enumerate=>k_is)
  (case z_int=>k_is)
  (case z_isinstance=>k_is)
  (case z_len=>k_is)
  (case z_list=>k_is)
  (case z_max=>k_is)
  (case z_min=>k_is)
  (case z_range=>k_is)
  (case z_reversed=>k_is)
  (case z_sorted=>k_is)
  (case z_tuple=>k_is)
  (case z_zip=>k_is)
  (case y_NOUGHT=>k_is)
  (case y_ONE=>k_is)
  (case q_LeadError=>k_is)
  (case q_Lost=>k_is)
  (case qok=>kernel_rfl)
  (case iI=>k_is)
  (case lI=>k_is)
  (case kcI=>k_is)
  (case kkI=>k_is)
  (case eI=>kernel_rfl)
  (case fI'=>kernel_rfl)
  (case bI=>kernel_rfl)
