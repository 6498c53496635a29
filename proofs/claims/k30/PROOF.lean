import PyProof.Rows.All
import Wide.All
import OpenK.AllK
import Wide.FinOn
import Lean
import PyProof.EqAt
import PyProof.EqKinds
import PyProof.TupleCall
import PySem.Challenge.RW_bitlead_k30_all_that_are_led
local macro_rules|`(tactic|omega)=>`(tactic|first|lia|omega (config:={}))
set_option Elab.async false
set_option linter.all false
set_option maxRecDepth 100000
set_option hygiene false in
local macro_rules
 | `((42:))=>`(by walk_at "pv")
 | `((0:))=>`(by rfl)
 | `((3:))=>`(by decide)
 | `((2:))=>`(@zaa _ _ _ _ _)
 | `((1:))=>`(by omega)
 | `((8:))=>`(@pv1 _ 0 _ _ (42:))
 | `((32:))=>`(λ _ _ F=>F.binds λ _ _ _ _ _ _ us hl=>match us,hl with | [_,_],_=>rfl)
 | `((6:))=>`(@zaf _ _ _ _)
 | `((10:))=>`(@zan _ _ _ _ _ _ _ _)
 | `((14:))=>`(@zal _ _ _ _ _ _ _ _ _ _)
 | `((16:))=>`(@pv1 _ 1 _ _ (42:))
 | `((11:))=>`(by walk_at "vis")
 | `((13:))=>`(@pv1 _ 2 _ _ (42:))
 | `((17:))=>`(@zai _ _ _ _ _ _ _ _)
 | `((36:))=>`(@zaE _ _ _ _ _ _ _ (@k_ix _ K (0:)) (8:) (6:) (λ _ _=>rfl))
 | `((18:))=>`(@zao _ _ (3:) (3:))
 | `((7:))=>`(@zac _ _ _ _ _)
 | `((38:))=>`(@zaE _ _ _ _ _ _ _ (@k_ix _ K (0:)) (16:) (6:) (λ _ _=>rfl))
 | `((20:))=>`(@pv1 _ 3 _ _ (42:))
 | `((48:))=>`(λ _ _ F=>F.binds λ _ _ _ _ _ _ us hl=>match us,hl with | [_,_,_],_=>rfl)
 | `((5:))=>`(by simp)
 | `((15:))=>`(hr.mono (3:))
 | `((21:))=>`(by intro _; rfl)
 | `((23:))=>`(@zaM _ _ _ _ _ _ _ _)
 | `((12:))=>`(Or.inl rfl)
 | `((4:))=>`(@zab _)
 | `((22:))=>`(@k_eq _ K hu (0:))
 | `((25:))=>`(@zaq _ _ _ _ _ _ _ _ _)
 | `((9:))=>`(@zag _ _ _)
 | `((19:))=>`(@zap _ _ _ _)
 | `((28:))=>`(by decide +kernel)
 | `((26:))=>`(@pv1 _ 4 _ _ (42:))
 | `((29:))=>`(by simpa using hz)
 | `((69:))=>`(@zax _ _ _ _ _ _ rfl B.b_range ((2:) (16:) (4:) (0:)) (0:))
 | `((31:))=>`(@pv1 _ 6 _ _ (42:))
 | `((30:))=>`(@zaD _ _ _ _ _ _)
 | `((33:))=>`(@pv1 _ 5 _ _ (42:))
 | `((27:))=>`(@za4 _ K (0:))
 | `((91:))=>`(@zat _ _ 0 _ (show List.Nodup (["_law_m"]:List Str) by decide +kernel) rfl (12:) (11:))
 | `((70:))=>`(@zaS _ _ _ _ _ _ (zah zaG) _ ["_law_width","_law_whole","_law_found","_law_some","_law_m"] ["_law_m"] [none] _ _ _ _ rfl (69:) (λ _ _ _ _=>(91:)) (λ _ _ _ _=>(@zaY _)) (λ _ _ _ _=>(@zaW _ _ _ _ _ ((30:) ((2:) (8:) (4:) (0:))))) (28:) (0:) (0:) (21:))
 | `((37:))=>`(@zaH _ _ _ _ _ _ _ _)
 | `((65:))=>`(@za6 _ _ (.ty "bool") _ _ rfl B.b_bool boot_bool rfl (3:) (3:))
 | `((71:))=>`(λ _ _ F=>F.binds λ _ _ _ _ _ _ us hl=>match us,hl with | [_],_=>rfl)
 | `((85:))=>`(@zaE _ _ _ _ _ _ _ (@k_ix _ K (0:)) (33:) ((14:) g__law_draw (15:) ((2:) (8:) ((2:) ((25:) (@zdr _ K (0:)) rfl B.b_len boot_len ((2:) (33:) (4:) (0:)) (3:) (3:) (0:) (0:)) (4:) (0:)) (0:)) (0:) (3:) (0:) (0:)) (λ _ _=>rfl))
 | `((66:))=>`(@zax _ _ _ _ _ _ rfl B.b_range ((2:) (8:) (4:) (0:)) (0:))
 | `((40:))=>`(@zbv _ _ _ _ _ _ _ _)
 | `((59:))=>`(by intro z; have z':@Eq Nat _ _:=z; omega)
 | `((34:))=>`(@zaW _ _ _ _ _)
 | `((86:))=>`(@zat _ _ 0 _ (show List.Nodup (["_law_n"]:List Str) by decide +kernel) rfl (12:) (11:))
 | `((35:))=>`(@za3 _ _ _ _)
 | `((43:))=>`(by simpa using hq)
 | `((41:))=>`(by simp; omega)
 | `((60:))=>`(@zgG _ _ _ _ _ _ (@zdZ _) (6:))
 | `((45:))=>`(@zcj _ _ _ _ _ _ _)
 | `((77:))=>`(@za6 _ _ (.ty "tuple") _ _ rfl B.b_tuple boot_tuple rfl (3:) (3:))
 | `((72:))=>`(@zfz _ _ _ _ _ _ _ (8:) (6:) (@zda _) (21:))
 | `((78:))=>`(@zas _ _ 3 _ _ _ _ nd rfl (12:) (@zbJ _ _ _ _ (4:)) (0:) (11:))
 | `((79:))=>`(@za6 _ _ (.ty "list") _ _ rfl B.b_list boot_list rfl (3:) (3:))
 | `((49:))=>`(@zaE _ _ _ _ _ _ _)
 | `((50:))=>`(by simp [Dd.led])
 | `((87:))=>`(@zca _ _ _ ((14:) g__law_goes (15:) ((2:) (13:) ((2:) (16:) ((2:) (8:) (4:) (0:)) (0:)) (0:)) (0:) (3:) (0:) (0:)) (21:))
 | `((44:))=>`(@zdQ _ K (0:))
 | `((80:))=>`(@zax _ _ _ _ _ _ rfl B.b_range ((2:) (6:) (4:) (0:)) (0:))
 | `((88:))=>`(@zat _ _ 0 _ (show List.Nodup (["_law_n","_law_m","_law_width"]:List Str) by decide +kernel) rfl (12:) (11:))
 | `((73:))=>`(by simp only [Dd.src]; rw [if_neg (1:)])
 | `((39:))=>`(@zaZ _ _ _ _)
 | `((24:))=>`(@zau _)
 | `((56:))=>`(@zbu _ _ _ _ _ _ _ _ _)
 | `((46:))=>`(@zdr _ K (0:))
 | `((51:))=>`(λ _ _=>rfl)
 | `((52:))=>`(@k_ix _ K (0:))
 | `((81:))=>`(by first | rfl | (simp only [firstArgMember]; rfl))
 | `((74:))=>`(@zdd _ _ _ _ B.g_NOUGHT (0:) (3:))
 | `((89:))=>`(@zaX _ K _ _ _ _ _ _ rfl B.b_tuple B.b_range ((2:) (8:) (4:) (0:)) (0:) (0:) (0:) (0:) (0:))
 | `((67:))=>`(@zbI _ K _ _ _ (16:) (0:))
 | `((57:))=>`(by simpa using hi)
 | `((75:))=>`(@zat _ _ 4 _ nd rfl (12:) (11:))
 | `((68:))=>`(by exact λ _ _=>rfl)
 | `((58:))=>`(by simpa using e)
 | `((76:))=>`(by show 2 <= sizeLine; decide)
 | `((54:))=>`(@k_in _ K (0:))
 | `((92:))=>`(@zax _ _ _ _ _ _ rfl B.b_range ((2:) ((10:) (27:) (8:) (6:)) (4:) (0:)) (0:))
 | `((90:))=>`(@zaS _ _ _ _ _ _ (zah zaG) _ ["_law_width","_law_whole","_law_found","_law_some","_law_m"] ["_law_n"] [none] _ _ _ _ rfl (92:) (λ _ _ _ _=>(86:)) (λ _ _ _ _=>(@zaY _)) (λ _ _ _ _=>((34:) ((30:) ((2:) (8:) (4:) (0:))))) (28:) (0:) (0:) (21:))
 | `((82:))=>`(by simp only [Dd.src]; rw [if_pos (1:)])
 | `((47:))=>`(@zbJ _ _ _ _)
 | `((61:))=>`(by simpa using hw)
 | `((62:))=>`(by simpa using hl)
 | `((55:))=>`(@zfp _ K (0:))
 | `((63:))=>`(@pv1 _ 7 _ _ (42:))
 | `((83:))=>`(by simp only [Dd.src]; rw [if_pos h1])
 | `((84:))=>`(by simp only [Dd.src]; rw [if_neg h1])
 | `((64:))=>`(@zik _ _ _ _ _ _ _)
 | `((53:))=>`(@zbM _ _ _ _)
def yaa:=@List.getElem?_eq_getElem
def yab:=@PySem.Heap.get?_push_of_some
def yac:=@List.length_map
def yad:=@PySem.Heap.lt_size
def yae:=@PySem.Heap.get?_push_size
def yaf:=@List.length_append
def yag:=@Nat.le_refl
def yah:=@List.getElem?_eq_some_iff
def yai:=@List.getElem?_map
def yaj:=@Nat.lt_of_lt_of_le
def yak:=@List.size_toArray
def yal:=@List.mem_cons
def yam:=@Bool.and_eq_true
def yan:=@List.mem_cons_of_mem
def yao:=@Int.toNat_natCast
def yap:=@List.mem_map
def yaq:=@Bool.false_ne_true
def yar:=@Bool.false_eq_true
def yas:=@List.getD_eq_getElem?_getD
def yat:=@List.take_of_length_le
def yau:=@Nat.ne_of_lt
def yav:=@List.mem_of_getElem?
def yaw:=@PySem.F.plainAttrs_list
def yax:=@List.map_append
def yay:=@List.mem_cons_self
def yaz:=@List.mem_singleton
def yaA:=@PySem.F.slot_list_append
def yaB:=@PySem.F.type_list_append
def yaC:=@Nat.le_of_lt
def yaD:=@List.mem_append_right
def yaE:=@Array.length_toList
def yaF:=@List.append_assoc
def yaG:=@PySem.W.mg_none_of
def yaH:=@List.not_mem_nil
def yaI:=@List.map_cons
def yaJ:=@PyProof.Rows.callWith_type1
def yaK:=@List.mem_append
def yaL:=@List.pairwise_append
def yaM:=@PySem.PassesOwn.never
def yaN:=@List.filter_append
def yaO:=@List.range_succ
def yaP:=@Array.toList_append
def yaQ:=@Nat.zero_le
def yaR:=@List.mem_append_left
def yaS:=@Nat.pow_le_pow_right
def yaT:=@List.pairwise_iff_getElem
def yaU:=@Nat.lt_of_le_of_lt
def yaV:=@Array.getElem?_toList
def yaW:=@List.take_append_drop
def yaX:=@List.length_take
def yaY:=@Nat.le_trans
def yaZ:=@Int.mul_le_mul_of_nonneg_right
def ya0:=@PySem.F.slot_dict_valueiterator_next
def ya1:=@PySem.W.kia_one
def ya2:=@PySem.Paired.length
def ya3:=@Nat.lt_irrefl
def ya4:=@List.lookup_cons
def ya5:=@Nat.ne_of_gt
def ya6:=@List.length_range
def ya7:=@List.map_map
def ya8:=@Int.le_of_lt
def ya9:=@List.take_add_one
def yba:=@PySem.Heap.size_push
def ybb:=@List.mem_iff_getElem
def ybc:=@List.getElem_mem
def ybd:=@List.getElem?_append_right
def ybe:=@Array.perm_iff_toList_perm
def ybf:=@PySem.mem_of_lookup
def ybg:=@List.replicate_succ
def ybh:=@List.getElem?_eq_none
def ybi:=@List.length_cons
def ybj:=@Int.le_refl
def ybk:=@PySem.Heap.size_update
def ybl:=@PySem.Around.under_plainId
def ybm:=@List.mem_range
def ybn:=@Nat.lt_succ_of_lt
def ybo:=@List.ext_getElem?
def ybp:=@List.pairwise_map
def ybq:=@List.append_nil
def ybr:=@PySem.Heap.SameBut.update
def ybs:=@List.map_congr_left
def ybt:=@Nat.add_le_add_left
def ybu:=@PySem.F.slot_tuple_iterator_next
def ybv:=@List.all_eq_true
def ybw:=@List.length_replicate
def ybx:=@PySem.Obj.data_mapFields
def yby:=@Int.le_trans
def ybz:=@List.getElem?_append_left
def ybA:=@List.extract_eq_take_drop
def ybB:=@PyProof.Rows.slot_tuple_getitem
def ybC:=@PySem.Heap.get?_push_ne
def ybD:=@List.length_reverse
def ybE:=@List.getElem?_range
def ybF:=@Ne.symm
def ybG:=@PySem.Calls.callWith_builtin
def ybH:=@PySem.F.slot_dict_keyiterator_next
def ybI:=@List.nodup_cons
def ybJ:=@PySem.Heap.get?_update_self
def ybK:=@List.length_filter_le
def ybL:=@Nat.two_pow_pos
def ybM:=@List.find?_cons
def ybN:=@Nat.not_lt_zero
def ybO:=@Nat.lt_or_ge
def ybP:=@List.flatten_cons
def ybQ:=@Bool.not_eq_true'
def ybR:=@Array.toList_extract
def ybS:=@Array.toList_reverse
def ybT:=@Array.getElem?_eq_getElem
def ybU:=@List.drop_eq_getElem_cons
def ybV:=@PySem.Calls.call_function_entry
def ybW:=@Int.toNat_of_nonneg
def ybX:=@Int.one_mul
def ybY:=@List.getElem_of_mem
def ybZ:=@List.reverse_append
def yb0:=@PySem.Heap.get?_update_ne
def yb1:=@List.length_pos_iff
def yb2:=@Option.isSome_iff_exists
def yb3:=@PySem.F.slot_dict_keyiterator_iter
def yb4:=@PySem.Calls.spliced_cons
def yb5:=@Bool.or_eq_true
def yb6:=@Option.map_some
def yb7:=@Bool.not_true
def yb8:=@Nat.min_eq_left
def yb9:=@List.Perm.append_right
def yca:=@List.drop_eq_nil_of_le
def ycb:=@PySem.W.kitx_list
def ycc:=@PySem.W.kitx_dict
def ycd:=@PySem.Calls.spliced_nil
def yce:=@PySem.F.plain_list_iadd
def ycf:=@Nat.mod_lt
def ycg:=@Array.toList_push
def ych:=@PyProof.Rows.IntsAre.length
def yci:=@PySem.F.plain_proto_collect
def ycj:=@PySem.Obj.isFreed_of_fields
def yck:=@PySem.F.slot_dict_get
def ycl:=@List.Perm.append_left
def ycm:=@List.perm_append_comm
def ycn:=@PySem.F.slot_tuple_mul
def yco:=@List.getElem?_set_ne
def ycp:=@Array.toArray_toList
def ycq:=@PySem.F.args_object_init_2
def ycr:=@Nat.pow_lt_pow_right
def ycs:=@List.any_cons
def yct:=@List.mem_filter
def ycu:=@List.filterMap_cons
def ycv:=@PySem.F.slot_int_rmul
def ycw:=@List.forIn_cons
def ycx:=@Bool.eq_iff_iff
def ycy:=@PySem.F.slot_zip_next
def ycz:=@Nat.mul_comm
def ycA:=@PySem.Code.quiet_builtin
def ycB:=@List.forIn_nil
def ycC:=@PySem.W.mg_of
namespace L2
open PySem PySem.Spec PyProof.Rows
noncomputable abbrev Key:=Sum Int Str
noncomputable def zhW:Key -> Value -> Bool
 | .inl k,v=>Value.isInt k v
 | .inr x,v=>Value.isStrOf x v
noncomputable def keyH (w:World):Key -> Int
 | .inl k=>hashInt k
 | .inr x=>hashStr w x
def zaU:∀ {k:Key} {v:Value},zhW k v=true -> (∃ i t,k=Sum.inl i /\ v=Value.int i t) \/ (∃ x t,k=Sum.inr x /\ v=Value.str x t)
 | .inl i,v,h=>by
  obtain ⟨t,e⟩:=Value.isInt_shape (k:=i) (v:=v) h;exact .inl ⟨i,t,rfl,e⟩
 | .inr x,v,h=>by
  obtain ⟨t,e⟩:=Value.isStrOf_shape (x:=x) (v:=v) h;exact .inr ⟨x,t,rfl,e⟩
def zi1 (i:Int) (t:Tok):zhW (.inl i) (.int i t)=true:=by simp [zhW,Value.isInt]
def zjK (x:Str) (t:Tok):zhW (.inr x) (.str x t)=true:=by simp [zhW,Value.isStrOf]
def zn5 (a b:Int):decide ((Sum.inl a:Key)=Sum.inl b)=(a == b):=by
 by_cases e:a=b
 ·subst e; simp
 ·have h:¬ (Sum.inl a:Key)=Sum.inl b:=λ q=>e (Sum.inl.inj q);rw [decide_eq_false h];exact (beq_eq_false_iff_ne.mpr e).symm
def zmA (a b:Str):decide ((Sum.inr a:Key)=Sum.inr b)=decide (a=b):=by
 by_cases e:a=b
 ·subst e; simp
 ·have h:¬ (Sum.inr a:Key)=Sum.inr b:=λ q=>e (Sum.inr.inj q);rw [decide_eq_false h,decide_eq_false e]
def zmF (a:Int) (b:Str):decide ((Sum.inl a:Key)=Sum.inr b)=false:=decide_eq_false (λ q=>nomatch q)
def zm7 (a:Str) (b:Int):decide ((Sum.inr a:Key)=Sum.inl b)=false:=decide_eq_false (λ q=>nomatch q)
noncomputable def zaV (prog:Program) (w:World):PySem.KeyKind prog w Key where
 is:=zhW
 hash:=keyH w
 inj:=λ v a b ha hb=>by
  rcases zaU ha with ⟨i,t,rfl,rfl⟩ | ⟨x,t,rfl,rfl⟩
  ·rcases zaU hb with ⟨j, u, rfl, e⟩ | ⟨y, u, rfl, e⟩
   ·injection e with e1 _; rw [e1]
   ·exact nomatch e
  ·rcases zaU hb with ⟨j, u, rfl, e⟩ | ⟨y, u, rfl, e⟩
   ·exact nomatch e
   ·injection e with e1 _; rw [e1]
 byValue:=λ k v h=>by
  rcases zaU h with ⟨i,t,rfl,rfl⟩ | ⟨x,t,rfl,rfl⟩ <;> rfl
 pyHash:=λ hv h=>by
  rcases zaU hv with ⟨i,t,rfl,rfl⟩ | ⟨x,t,rfl,rfl⟩
  ·exact wpAny_pyHash_int h
  ·exact wpAny_pyHash_str h
 eqBool:=λ hu hv h=>by
  rcases zaU hu with ⟨i,t,rfl,rfl⟩ | ⟨x,t,rfl,rfl⟩
  ·rcases zaU hv with ⟨j, u, rfl, rfl⟩ | ⟨y, u, rfl, rfl⟩
   ·rw [zn5] at h; exact wpAny_eqBool_int h
   ·rw [zmF] at h; exact SeqAt.EqAt.int_str i t y u _ _ _ _ h
  ·rcases zaU hv with ⟨j, u, rfl, rfl⟩ | ⟨y, u, rfl, rfl⟩
   ·rw [zm7] at h; exact SeqAt.EqAt.str_int x t j u _ _ _ _ h
   ·rw [zmA] at h; exact wpAny_eqBool_str h
 «strs»:=λ k x t v h=>by
  rcases zaU h with ⟨i,u,rfl,e⟩ | ⟨y,u,rfl,e⟩
  ·exact nomatch e
  ·injection e with e1 _;subst e1;cases v <;> rfl
def zgL (prog:Program) (w:World) (i:Int) (t:Tok):(zaV prog w).is (.inl i) (.int i t)=true:=zi1 i t
def zgD (prog:Program) (w:World) (x:Str) (t:Tok):(zaV prog w).is (.inr x) (.str x t)=true:=zjK x t
inductive V where
 | non | bl (b:Bool) | int (i:Int) | str (x:Str) | byt (b:Array UInt8) | flt (b:UInt64) | ref (a:Addr) | ty (n:String)
 deriving DecidableEq
noncomputable def RelV:V -> Value -> Prop
 | .non,u=>u=Value.none
 | .bl b,u=>u=Value.bool b
 | .int i,u=>∃ t,u=Value.int i t
 | .str x,u=>∃ t,u=Value.str x t
 | .byt b,u=>∃ t,u=Value.bytes b t
 | .flt b,u=>∃ t,u=Value.float b t
 | .ref a,u=>u=Value.ref a
 | .ty n,u=>u=Value.type n
noncomputable abbrev Vals:List V -> List Value -> Prop:=Paired RelV
def Vals.length {xs:List V} {us:List Value} (r:Vals xs us):xs.length=us.length:=ya2 r
def Vals.get:∀ {xs:List V} {us:List Value} {i:Nat} {x:V},Vals xs us -> xs[i]?=some x -> ∃ u,us[i]?=some u /\ RelV x u
 | _,_,_,_,.nil,e=>by simp at e
 | _,_,0,_,.cons r _,e=>by simp at e; subst e; exact ⟨_,rfl,r⟩
 | _,_,i + 1,x,.cons _ t,e=>by
  obtain ⟨u,h1,h2⟩:=Vals.get (i:=i) (x:=x) t (58:);exact ⟨u,by simpa using h1,h2⟩
def Vals.set {x:V} {u:Value} (r:RelV x u):∀ {xs:List V} {us:List Value} (i:Nat),Vals xs us -> Vals (xs.set i x) (us.set i u)
 | _,_,_,.nil=>.nil
 | _,_,0,.cons _ t=>.cons r t
 | _,_,i + 1,.cons q t=>.cons q (Vals.set r i t)
def Vals.append:∀ {xs ys:List V} {us ws:List Value},Vals xs us -> Vals ys ws -> Vals (xs ++ ys) (us ++ ws)
 | _,_,_,_,.nil,s=>s
 | _,_,_,_,.cons r t,s=>.cons r (Vals.append t s)
def Vals.take:∀ {xs:List V} {us:List Value} (n:Nat),Vals xs us -> Vals (xs.take n) (us.take n)
 | _,_,0,_=>.nil
 | _,_,_ + 1,.nil=>.nil
 | _,_,n + 1,.cons r t=>.cons r (Vals.take n t)
def Vals.drop:∀ {xs:List V} {us:List Value} (n:Nat),Vals xs us -> Vals (xs.drop n) (us.drop n)
 | _,_,0,r=>r
 | _,_,_ + 1,.nil=>.nil
 | _,_,n + 1,.cons _ t=>Vals.drop n t
noncomputable def RelO:Option V -> Option Value -> Prop
 | some v,some u=>RelV v u
 | none,none=>True
 | _,_=>False
noncomputable def KV {κ:Type}:List (κ × V) -> List (κ × Value) -> Prop:=Paired λ (p:κ × V) (q:κ × Value)=>p.1=q.1 /\ RelV p.2 q.2
noncomputable def kV:Key -> V
 | .inl i=>.int i
 | .inr x=>.str x
inductive HO where
 /-- a list -/
 | lst (xs:List V)
 /-- a tuple (never changes) -/
 | tup (xs:List V)
 /-- a dict whose keys are ints and texts; one whose keys are tuples of ints and texts (the empty one is both) -/
 | dK (kvs:List (Key × V)) | dT (kvs:List (List Key × V))
 /-- a set of ints: its members,its size -/
 | set (S:Int -> Bool) (n:Nat)
 /-- an instance of the class at C,its dict at dx,its attributes -/
 | ins (C dx:Addr) (fs:List (Str × V))
 /-- the dict of the instance at x -/
 | own (x:Addr)
 /-- the dict of an exception -/
 | xd (fs:List (Str × V))
 /-- a bound method,f of x -/
 | met (f x:Addr)
 /-- a range object lo,lo + 1,.. below hi -/
 | rng (lo hi:Int)
 /-- a thing that is known to the object (the script; a dict while a loop walks it): read,never written while it is so -/
 | frz (o:Obj) (u:HO)
 /-- a code object's table -/
 | tbl (ps:Array Value)
 /-- any other thing,by what is true of its one object (a def of one's own: SetO a S n:=HO.ext λ h=>..) -/
 | ext (φ:Heap -> Prop)
noncomputable abbrev Hp:=Addr -> Option HO
noncomputable def upd (H:Hp) (a:Addr) (o:HO):Hp:=λ b=>if b=a then some o else H b
def zad {H:Hp} {a:Addr} {o:HO}:upd H a o a=some o:=by unfold upd; rw [if_pos rfl]
def zak {H:Hp} {a b:Addr} {o:HO} (h:b ≠ a):upd H a o b=H b:=by unfold upd; rw [if_neg h]
def zio {H:Hp} {a:Addr} {o u:HO}:upd (upd H a o) a u=upd H a u:=by
 funext b; unfold upd; split <;> rfl
def zbK {H:Hp} {a b:Addr} {o u:HO} (h:H a=some o) (h':H b=some u) (d:o ≠ u):a ≠ b:=by
 intro e; subst e; rw [h] at h'; exact d (Option.some.inj h')
def zam {H:Hp} {a b:Addr} {o:HO} (h:H a=some o) (h':H b=none):a ≠ b:=by
 intro e; subst e; rw [h] at h'; cases h'
noncomputable def za5 (h:Heap) (a:Addr) (items:Array Value):Prop:=∃ o,h.get? a=some o /\ o.cls=.type "tuple" /\ o.dict=none /\ ∃ n,o.data=.seq items n
def za5.tup {h:Heap} {a:Addr} {items:Array Value} (x:za5 h a items):IsTup h a items:=by
 obtain ⟨o,e,c,_,n⟩:=x;exact ⟨o,e,c,n⟩
def za5.lt {h:Heap} {a:Addr} {items:Array Value} (x:za5 h a items):a < h.objs.size:=x.tup.lt
def za5.new (h:Heap) (items:Array Value):za5 (h.push { cls:=.type "tuple",data:=.seq items }) h.objs.size items:=⟨_,yae _ rfl,rfl,rfl,_,rfl⟩
section
variable (P:Program) (w:World)
noncomputable def zaN (H:Hp) (h:Heap) (a:Addr):HO -> Prop
  | .lst xs=>xs.length <= sizeLine /\ ∃ (its:List Value) (n:Nat),Vals xs its /\ h.get? a=some { cls:=.type "list",data:=.seq its.toArray n }
  | .tup xs=>xs.length <= sizeLine /\ ∃ its:List Value,Vals xs its /\ za5 h a its.toArray
  | .dK kvs=>kvs.length <= sizeLine /\ (a == sysModules)=false /\ ∃ vs,KV kvs vs /\ h.DictOf (zaV P w) a vs
  | .dT kvs=>kvs.length <= sizeLine /\ (a == sysModules)=false /\ ∃ xs:List (List Key × Addr × Value),
      Paired (λ (p:List Key × V) (q:List Key × Addr × Value)=>p.1=q.1 /\ H q.2.1=some (.tup (p.1.map kV)) /\ RelV p.2 q.2.2) kvs xs /\
      ∃ o es ep,h.get? a=some o /\ o.ExactDict /\ o.data=.dict es ep /\ es.toList=xs.map (entryOfKey (tupleKind (zaV P w))) /\ (xs.map (·.1)).Nodup
  | .set S n=>h.SetOf (intKind P w) a S n
  | .ins C dx fs=>H dx=some (.own a) /\ fs.length <= 1000 /\ dx ≠ a /\ h.get? a=some (PySem.W.instObj C dx) /\
      ∃ mA,h.Ns1 dx mA /\ (∀ f,RelO (fs.lookup f) (mA f)) /\ PySem.Within mA (fs.map (·.1))
  | .own _=>∃ o,h.get? a=some o
  | .xd fs=>∃ mA,h.Ns1 a mA /\ ∀ f,RelO (fs.lookup f) (mA f)
  | .rng lo hi=>∃ t u v,h.get? a=some { cls:=.type "range",data:=.fields #[.int lo t,.int hi u,.int 1 v] }
  | .frz o u=>h.get? a=some o /\ zaN H h a u
  | .tbl ps=>h.get? a=some { cls:=.none,data:=.fields ps }
  | .met f x=>h.get? a=some (PySem.W.methodObj (.ref f) (.ref x))
  | .ext φ=>φ h /\ (∃ o,h.get? a=some o) /\ ∀ h1 h2:Heap,φ h1 -> (∀ o,h1.get? a=some o -> h2.get? a=some o) -> φ h2
noncomputable def HOk (H:Hp) (h:Heap):Prop:=∀ a o,H a=some o -> zaN P w H h a o
end
section
variable {P:Program} {w:World} {H H':Hp} {h h':Heap} {a:Addr} {o:HO}
def zaN.lt (x:zaN P w H h a o):a < h.objs.size:=by
 cases o with
 | lst xs=>obtain ⟨_,_,_,_,e⟩:=x; exact yad e
 | tup xs=>obtain ⟨_,_,_,p⟩:=x; exact p.lt
 | dK kvs=>obtain ⟨_,_,_,_,o,_,_,e,_⟩:=x; exact yad e
 | dT kvs=>obtain ⟨_,_,_,_,o,_,_,e,_⟩:=x; exact yad e
 | set S n=>obtain ⟨o,_,_,_,e,_⟩:=x; exact yad e
 | ins C dx fs=>obtain ⟨_,_,_,e,_⟩:=x; exact yad e
 | own y=>obtain ⟨_,e⟩:=x; exact yad e
 | xd fs=>obtain ⟨_,⟨_,_,_,e,_⟩,_⟩:=x; exact yad e
 | rng lo hi=>obtain ⟨_,_,_,e⟩:=x; exact yad e
 | frz ob u=>obtain ⟨e,_⟩:=x; exact yad e
 | tbl ps=>exact yad (show h.get? a=some _ from x)
 | met f y=>exact yad (show h.get? a=some _ from x)
 | ext φ=>obtain ⟨_,⟨_,e⟩,_⟩:=x; exact yad e
def Paired.mapP {α β:Type} {F G:α -> β -> Prop}:∀ {l₁:List α} {l₂:List β},Paired F l₁ l₂ -> (∀ a b,F a b -> G a b) -> Paired G l₁ l₂
 | _,_,.nil,_=>.nil
 | _,_,.cons r t,f=>.cons (f _ _ r) (Paired.mapP t f)
def zaN.stay (x:zaN P w H h a o) (k:∀ b u,(b=a \/ H b=some (.own a)) -> h.get? b=some u -> h'.get? b=some u)
  (ho:∀ b,H b=some (.own a) -> H' b=some (.own a)) (ht:∀ b xs,H b=some (.tup xs) -> H' b=some (.tup xs)):zaN P w H' h' a o:=by
 induction o with
 | lst xs=>obtain ⟨z,its,n,r,e⟩:=x; exact ⟨z,its,n,r,k _ _ (.inl rfl) e⟩
 | tup xs=>obtain ⟨z,its,r,ob,e,c⟩:=x; exact ⟨z,its,r,ob,k _ _ (.inl rfl) e,c⟩
 | dK kvs=>obtain ⟨z,y,vs,r,ob,es,ep,e,c⟩:=x; exact ⟨z,y,vs,r,ob,es,ep,k _ _ (.inl rfl) e,c⟩
 | dT kvs=>
  obtain ⟨z,y,xs,r,ob,es,ep,e,c⟩:=x;exact ⟨z,y,xs,Paired.mapP r λ p q z=>⟨z.1,ht _ _ z.2.1,z.2.2⟩,ob,es,ep,k _ _ (.inl rfl) e,c⟩
 | set S n=>obtain ⟨ob,es,ep,t,e,c⟩:=x; exact ⟨ob,es,ep,t,k _ _ (.inl rfl) e,c⟩
 | ins C dx fs=>
  obtain ⟨d,z,ne,e,mA,⟨od,es,ep,e2,c⟩,r⟩:=x;exact ⟨ho _ d,z,ne,k _ _ (.inl rfl) e,mA,⟨od,es,ep,k _ _ (.inr d) e2,c⟩,r⟩
 | own y=>obtain ⟨ob,e⟩:=x; exact ⟨ob,k _ _ (.inl rfl) e⟩
 | xd fs=>obtain ⟨mA,⟨od,es,ep,e,c⟩,r⟩:=x; exact ⟨mA,⟨od,es,ep,k _ _ (.inl rfl) e,c⟩,r⟩
 | rng lo hi=>obtain ⟨t,u,v,e⟩:=x; exact ⟨t,u,v,k _ _ (.inl rfl) e⟩
 | frz ob u ih=>obtain ⟨e,q⟩:=x; exact ⟨k _ _ (.inl rfl) e,ih q⟩
 | tbl ps=>
  have e:h.get? a=some { cls:=.none,data:=.fields ps }:=x;show h'.get? a=some { cls:=.none,data:=.fields ps };exact k a _ (.inl rfl) e
 | met f y=>
  have e:h.get? a=some (PySem.W.methodObj (.ref f) (.ref y)):=x;show h'.get? a=some (PySem.W.methodObj (.ref f) (.ref y));exact k a _ (.inl rfl) e
 | ext φ=>obtain ⟨p,⟨o,e⟩,st⟩:=x; exact ⟨st _ _ p λ o q=>k _ _ (.inl rfl) q,⟨o,k _ _ (.inl rfl) e⟩,st⟩
def HOk.lt (x:HOk P w H h) (e:H a=some o):a < h.objs.size:=(x a o e).lt
def HOk.fresh (x:HOk P w H h) (e:h.objs.size <= a):H a=none:=by
 cases q:H a with
 | none=>rfl
 | some u=>exact absurd (yaj (x.lt q) e) (ya3 _)
def HOk.kept (x:HOk P w H h) (k:∀ b u,h.get? b=some u -> h'.get? b=some u):HOk P w H h':=λ a o e=>
 (x a o e).stay (λ b u _ q=>k b u q) (λ _ q=>q) λ _ _ q=>q
def HOk.laid (x:HOk P w H h) (k:∀ b u,h.get? b=some u -> h'.get? b=some u) (hp:h.objs.size <= a) (new:zaN P w (upd H a o) h' a o):HOk P w (upd H a o) h':=λ b u e=>by
 have hn:=x.fresh hp;by_cases hb:b=a
 ·subst hb; rw [zad] at e; cases e; exact new
 ·rw [zak hb] at e;exact (x b u e).stay (λ c v _ q=>k c v q) (λ c q=>by rw [zak (zam q hn)]; exact q) λ c xs q=>by rw [zak (zam q hn)]; exact q
end
noncomputable def Rd (H:Hp) (a:Addr) (u:HO):Prop:=H a=some u \/ ∃ o,H a=some (.frz o u)
def Rd.ok {P:Program} {w:World} {H:Hp} {h:Heap} {a:Addr} {u:HO} (r:Rd H a u) (x:HOk P w H h):zaN P w H h a u:=by
 rcases r with r | ⟨o,r⟩
 ·exact x a u r
 ·obtain ⟨_,q⟩:=x a _ r;exact q
noncomputable def Mut:Option HO -> Prop
 | some (.lst _)=>True
 | some (.dK _)=>True
 | some (.dT _)=>True
 | some (.set _ _)=>True
 | some (.ins _ _ _)=>True
 | some (.ext _)=>True
 | _=>False
section
variable {P:Program} {w:World} {H:Hp} {h h':Heap} {x e:Addr} {o':HO}
def HOk.write (ok:HOk P w H h) (mu:Mut (H x)) (he:e=x \/ H e=some (.own x)) (k:∀ b u,b ≠ e -> h.get? b=some u -> h'.get? b=some u) (heo:∃ u,h'.get? e=some u)
  (new:zaN P w (upd H x o') h' x o'):HOk P w (upd H x o') h':=λ b u q=>by
 have nown:∀ c y,H c=some (.own y) -> c ≠ x:=λ c y r z=>by subst z; rw [r] at mu; exact mu
 have ntup:∀ c xs,H c=some (.tup xs) -> c ≠ x:=λ c xs r z=>by subst z; rw [r] at mu; exact mu
 by_cases hb:b=x
 ·subst hb; rw [zad] at q; cases q; exact new
 ·rw [zak hb] at q;by_cases hbe : b = e
  ·have q':H b=some (.own x):=by
    rcases he with z | z
    ·exact absurd (hbe.trans z) hb
    ·rw [hbe]; exact z
   rw [q] at q'; cases q';obtain ⟨v,hv⟩:=heo;exact ⟨v,by rw [hbe]; exact hv⟩
  ·refine (ok b u q).stay (fun c v hc r => k c v ?_ r) (fun c r => by rw [zak (nown c b r)]; exact r) fun c xs r => by rw [zak (ntup c xs r)]; exact r
   rcases hc with rfl | hc
   ·exact hbe
   ·rintro rfl;rcases he with z | z
    ·exact nown c b hc z
    ·rw [hc] at z; cases z; exact hb rfl
end
structure Un (fs ex:List Addr) (H H':Hp) (h h':Heap):Prop where
 keep:∀ b o,h.get? b=some o -> H b=none -> b ∉ fs -> b ∉ ex -> h'.get? b=some o
 slot:∀ b o,h.get? b=some o -> H b=none -> b ∈ fs -> b ∉ ex -> ∃ sl,h'.get? b=some { o with slots:=sl }
 free:∀ b o,h.get? b=some o -> H b=none -> b ∉ ex -> H' b=none
 there:∀ b o,h.get? b=some o -> b ∉ ex -> ∃ o',h'.get? b=some o'
 tups:∀ b xs,H b=some (.tup xs) -> H' b=some (.tup xs)
 frzs:∀ b o u,H b=some (.frz o u) -> H' b=some (.frz o u)
 tbls:∀ b ps,H b=some (.tbl ps) -> ∃ more,H' b=some (.tbl (ps ++ more))
section
variable {fs fs' ex ex':List Addr} {H H1 H2:Hp} {h h1 h2 h':Heap} {a x e:Addr} {o:HO}
def Un.any (u:Un fs ex H H1 h h1) {b:Addr} {ob:Obj} (q:h.get? b=some ob) (n:H b=none) (hx:b ∉ ex):∃ sl,h1.get? b=some { ob with slots:=sl }:=by
 by_cases hb:b ∈ fs
 ·exact u.slot b ob q n hb hx
 ·exact ⟨ob.slots,u.keep b ob q n hb hx⟩
def Un.kept (k:∀ b u,h.get? b=some u -> h'.get? b=some u):Un fs ex H H h h':=
 ⟨λ b ob q _ _ _=>k b ob q,λ b ob q _ _ _=>⟨ob.slots,k b ob q⟩,λ _ _ _ n _=>n,λ b ob q _=>⟨ob,k b ob q⟩,λ _ _ q=>q,λ _ _ _ q=>q,λ _ ps q=>⟨#[],by rw [q]; simp⟩⟩
def Un.refl:Un fs ex H H h h:=Un.kept λ _ _ q=>q
def Un.laid (k:∀ b u,h.get? b=some u -> h'.get? b=some u) (hp:h.objs.size <= a) (hn:H a=none):Un fs ex H (upd H a o) h h' where
 keep:=λ b u q _ _ _=>k b u q
 slot:=λ b u q _ _ _=>⟨u.slots,k b u q⟩
 free:=λ b u q n _=>by rw [zak (yau (yaj (yad q) hp))]; exact n
 there:=λ b u q _=>⟨u,k b u q⟩
 tups:=λ b xs q=>by rw [zak (zam q hn)]; exact q
 frzs:=λ b u xs q=>by rw [zak (zam q hn)]; exact q
 tbls:=λ b ps q=>⟨#[],by rw [zak (zam q hn),q]; simp⟩
def Un.write (mu:Mut (H x)) (he:e=x \/ H e=some (.own x)) (k:∀ b u,b ≠ e -> h.get? b=some u -> h'.get? b=some u) (heo:∃ u,h'.get? e=some u):Un fs ex H (upd H x o) h h':=by
 have hx:∀ b,H b=none -> b ≠ x:=λ b n z=>by subst z; rw [n] at mu; exact mu
 have hb:∀ b,H b=none -> b ≠ e:=λ b n z=>by
  subst z;rcases he with r | r
  ·exact hx b n r
  ·rw [n] at r; cases r
 have hm:∀ b u,H b=some u -> ¬ Mut (some u) -> b ≠ x:=λ b u q nm z=>by subst z; rw [q] at mu; exact nm mu
 refine ⟨λ b u q n _ _=>k b u (hb b n) q,λ b u q n _ _=>⟨u.slots,k b u (hb b n) q⟩,λ b u q n _=>by rw [zak (hx b n)]; exact n,λ b u q _=>?_,
  λ b xs q=>by rw [zak (hm b _ q λ z=>z)]; exact q,λ b u xs q=>by rw [zak (hm b _ q λ z=>z)]; exact q,λ b ps q=>⟨#[],by rw [zak (hm b _ q λ z=>z),q]; simp⟩⟩
 by_cases hbe:b=e
 ·subst hbe; exact heo
 ·exact ⟨u,k b u hbe q⟩
end
noncomputable def trk (h:Heap) (H:Hp):List Addr:=(List.range h.objs.size).filter λ a=>(H a).isSome
noncomputable def hidT (h:Heap) (H:Hp):Heap:=PySem.W.hideAll h (trk h H)
def zjd (h:Heap) (H:Hp):(hidT h H).objs.size=h.objs.size:=PySem.W.hideAll_size _ _
def zkc {h:Heap} {H:Hp} {b:Addr} {o:Obj} (e:h.get? b=some o) (n:H b=none):(hidT h H).get? b=some o:=
 PySem.W.hideAll_get _ e λ hm=>by
  have q:(H b).isSome=true:=(yct.mp hm).2;rw [n] at q; simp at q
def zlX {h:Heap} {H:Hp} {b:Addr} {o:Obj} (e:(hidT h H).get? b=some o):h.get? b=some o /\ H b=none:=by
 have e':h.get? b=some o:=PySem.W.of_hideAll (trk h H) e;refine ⟨e',?_⟩;cases q:H b with
 | none=>rfl
 | some x=>
  have hm:b ∈ trk h H:=yct.mpr ⟨ybm.mpr (yad e'),by simp [q]⟩;have z:(hidT h H).get? b=none:=PySem.W.hideAll_none (trk h H) hm;rw [z] at e; cases e
noncomputable def zlx (g h:Heap) (L:Addr):List (Addr × Obj):=(List.range h.objs.size).filterMap λ a=>if a=L \/ (g.get? a).isSome=true then none else (h.get? a).map λ o=>(a,o)
noncomputable def rest (g h:Heap) (L d:Addr):List (Addr × Obj):=(zlx g h L).filter λ p=>decide (p.1 ≠ d)
structure Mod (K:PySem.W.Frag) (mg:Str -> Option Value) (base:Heap):Prop where
 kin:K.In base
 glob:base.Ns mainGlobals mg
 blt:∃ mb,base.Ns builtinsNs mb /\ ∀ x:Str,x ≠ "__name__" -> mb x=bootBuiltins x
 nolimit:base.NoLimit
structure Cx where
 prog:Program
 w:World
 K:PySem.W.Frag
 mg:Str -> Option Value
 base:Heap
 A:Around
 N:List Str
 s₀:Shared
 H₀:Hp
 env:Env
 outer:List Env
 stack:List Env
 ex:List Addr
 fn:Str -> Bool
 calm:Bool
 pn:List (Addr × Obj)
 xe:Value -> Shared -> Prop
noncomputable def frs (l:List Env):List Addr:=l.filterMap (·.frame)
noncomputable abbrev Cx.fs (X:Cx):List Addr:=frs X.outer
noncomputable def Vis (sc:Scope) (x:Str):Prop:=sc.names.lookup x=some .local \/ sc.names.lookup x=some .cell \/ sc.names.lookup x=some .free
noncomputable def Loc (sc:Scope) (x:Str):Prop:=sc.names.lookup x=some .local \/ sc.names.lookup x=some .cell
noncomputable def Look (env:Env) (h:Heap) (m:Str -> Option Value) (x:Str) (u:Value):Prop:=
 (env.kindOf x=some .local /\ m x=some u) \/ ((env.kindOf x=some .cell \/ env.kindOf x=some .free) /\ ∃ c,env.cells.lookup x=some c /\ h.IsCell c (some u))
structure Cx.Ok (X:Cx):Prop where
 mod:Mod X.K X.mg X.base
 kind:X.env.scope.kind=.function
 glob:X.env.globals=mainGlobals
 blt:X.env.builtins=builtinsNs
 above:X.s₀.heap.objs.size <= X.env.locals
 inj:∀ x y c,X.env.cells.lookup x=some c -> X.env.cells.lookup y=some c -> x=y
 has:∀ x,(X.env.kindOf x=some .cell \/ X.env.kindOf x=some .free) -> ∃ c,X.env.cells.lookup x=some c
 cab:∀ x c,X.fn x=true -> X.env.cells.lookup x=some c -> X.s₀.heap.objs.size <= c
 hd:X.calm=true -> X.A.handled=none
 frames:X.A.frames=some X.stack
 stk:X.stack=X.outer \/ (X.stack=X.env :: X.outer /\ X.env.frame=some X.env.locals)
 exf:∀ b ∈ X.ex,b ≠ X.env.locals /\ ∀ x c,X.env.cells.lookup x=some c -> c ≠ b
 bs:∀ b o,X.base.get? b=some o -> X.s₀.heap.get? b=some o /\ X.H₀ b=none
 bsz:X.base.objs.size <= X.s₀.heap.objs.size
 noex:∀ b o,X.base.get? b=some o -> b ∉ X.ex
 exfs:∀ b ∈ X.ex,b ∉ X.fs
 funs:X.s₀.heap.FunFrames X.base X.outer
 frf:∀ b ∈ X.fs,X.H₀ b=none
structure Inv (X:Cx) (pins:List (Addr × Obj)) (σ:List (Option V)) (H:Hp) (s:Shared):Prop where
 ok:X.Ok
 os:s.os=X.s₀.os
 bare:AllBare s.gens
 base:Un X.fs X.ex X.H₀ H X.s₀.heap s.heap
 loc:∃ m,s.heap.Ns X.env.locals m /\ ∀ (i:Nat) (x:Str) (v:V),X.N[i]?=some x -> σ[i]?=some (some v) -> Vis X.env.scope x -> ∃ u,RelV v u /\ Look X.env s.heap m x u
 cell:∀ x c,X.env.cells.lookup x=some c -> ∃ v,s.heap.IsCell c v
 free:H X.env.locals=none
 freeC:∀ x c,X.env.cells.lookup x=some c -> H c=none
 pin:∀ p ∈ X.pn ++ pins,s.heap.get? p.1=some p.2 /\ H p.1=none /\ p.1 ≠ X.env.locals /\ p.1 ∉ X.fs /\ ∀ v,p.2.data ≠ .cell v
 hok:HOk X.prog X.w H s.heap
 len:σ.length=X.N.length
section
variable {X:Cx} {pins:List (Addr × Obj)} {σ:List (Option V)} {H H':Hp} {s:Shared} {h':Heap}
def Cx.Ok.nofr (ok:X.Ok) {b:Addr} {o:Obj} (e:X.base.get? b=some o):b ∉ X.fs:=λ hb=>by
 have:=(ok.funs.mem hb).1;rw [e] at this; cases this
def Inv.bs (I:Inv X pins σ H s):∀ b o,X.base.get? b=some o -> s.heap.get? b=some o /\ H b=none:=λ b o e=>
 ⟨I.base.keep b o (I.ok.bs b o e).1 (I.ok.bs b o e).2 (I.ok.nofr e) (I.ok.noex b o e),I.base.free b o (I.ok.bs b o e).1 (I.ok.bs b o e).2 (I.ok.noex b o e)⟩
def Inv.bk (I:Inv X pins σ H s):∀ b o,X.base.get? b=some o -> s.heap.get? b=some o:=λ b o e=>(I.bs b o e).1
def Inv.mod (I:Inv X pins σ H s):Mod X.K X.mg X.base:=I.ok.mod
def Inv.kIn (I:Inv X pins σ H s):X.K.In s.heap:=I.ok.mod.kin.keeps I.bk
def Inv.lt (I:Inv X pins σ H s):X.env.locals < s.heap.objs.size:=let ⟨_,hn,_⟩:=I.loc; hn.lt
def Inv.sz (I:Inv X pins σ H s):X.s₀.heap.objs.size <= s.heap.objs.size:=yaY I.ok.above (yaC I.lt)
def Inv.nofs (I:Inv X pins σ H s) {a:Addr} (h:s.heap.objs.size <= a):a ∉ X.fs:=λ hb=>by
 obtain ⟨_,o,ho,_⟩:=I.ok.funs.mem hb;exact absurd (yaj (yad ho) (yaY I.sz h)) (ya3 _)
def Inv.cne (I:Inv X pins σ H s):∀ x c,X.env.cells.lookup x=some c -> c ≠ X.env.locals:=λ x c e z=>by
 obtain ⟨v,o,ho,hd⟩:=I.cell x c e;obtain ⟨m,⟨o',es,ep,ho',hd',_⟩,_⟩:=I.loc;rw [z,ho'] at ho; cases ho; rw [hd'] at hd; cases hd
def Inv.funs (I:Inv X pins σ H s):s.heap.FunFrames X.base X.outer:=by
 have all:∀ (l:List Env),(∀ b ∈ frs l,b ∈ X.fs) -> X.s₀.heap.FunFrames X.base l -> s.heap.FunFrames X.base l:=by
  intro l
  induction l with
  | nil=>intro _ _; trivial
  | cons env r ih=>
   intro hs hl;obtain ⟨hk,⟨L,o,hf,hn,ho,hd⟩,hr⟩:=hl;have hL:L ∈ X.fs:=hs L (by unfold frs; rw [ycu,hf]; exact yay);obtain ⟨sl,e⟩:=I.base.slot L o ho (I.ok.frf L hL) hL λ z=>I.ok.exfs L z hL;exact ⟨hk,⟨L,_,hf,hn,e,hd⟩,ih (λ b hb=>hs b (by unfold frs; rw [ycu,hf]; exact yan _ hb)) hr⟩
 exact all X.outer (λ _ hb=>hb) I.ok.funs
def Inv.stack (I:Inv X pins σ H s):s.heap.FunFrames X.base X.stack:=by
 rcases I.ok.stk with e | ⟨e,hf⟩
 ·rw [e]; exact I.funs
 ·rw [e];obtain ⟨m,hn,_⟩:=I.loc;refine .cons (by rw [I.ok.kind]; decide) hf hn ?_ I.funs;exact Heap.get?_none_of_le (yaY I.ok.bsz I.ok.above)
def Inv.stkSub (I:Inv X pins σ H s):∀ b ∈ frs X.stack,b ∈ X.env.locals :: X.fs:=λ b hb=>by
 rcases I.ok.stk with e | ⟨e,hf⟩
 ·rw [e] at hb; exact yan _ hb
 ·rw [e] at hb;unfold frs at hb;rw [ycu,hf] at hb;exact hb
def Inv.stkFree (I:Inv X pins σ H s):∀ b ∈ frs X.stack,H b=none:=λ b hb=>by
 rcases yal.mp (I.stkSub b hb) with e | hb
 ·rw [e]; exact I.free
 ·obtain ⟨_,o,ho,_⟩:=I.ok.funs.mem hb;exact I.base.free b o ho (I.ok.frf b hb) λ z=>I.ok.exfs b z hb
def Inv.step {g':Array GenState} {t':Nat} {d':Drawn} {ch:List Addr} (I:Inv X pins σ H s)
  (hch:∀ b ∈ ch,(b ∈ X.ex \/ X.s₀.heap.objs.size <= b) /\ b ≠ X.env.locals /\ (∀ x c,X.env.cells.lookup x=some c -> c ≠ b) /\ ∀ p ∈ X.pn ++ pins,p.1 ≠ b)
  (keep:∀ b o,b ≠ X.env.locals -> b ∉ X.fs -> b ∉ ch -> s.heap.get? b=some o -> H b=none -> h'.get? b=some o)
  (slot:∀ b o,b ≠ X.env.locals -> b ∈ X.fs -> b ∉ ch -> s.heap.get? b=some o -> H b=none -> ∃ sl,h'.get? b=some { o with slots:=sl }) (free:∀ b o,b ∉ ch -> s.heap.get? b=some o -> H b=none -> H' b=none)
  (there:∀ b o,b ∉ ch -> s.heap.get? b=some o -> ∃ o',h'.get? b=some o')
  (tups:∀ b xs,H b=some (.tup xs) -> H' b=some (.tup xs)) (frzs:∀ b o u,H b=some (.frz o u) -> H' b=some (.frz o u)) (tbls:∀ b ps,H b=some (.tbl ps) -> ∃ more,H' b=some (.tbl (ps ++ more)))
  (ns:∀ m,s.heap.Ns X.env.locals m -> h'.Ns X.env.locals m) (hok:HOk X.prog X.w H' h') (hg:AllBare g') :
  Inv X pins σ H' { s with heap:=h',gens:=g',drawn:=d',toks:=t' }:=by
 have neL:∀ b o,X.s₀.heap.get? b=some o -> b ≠ X.env.locals:=λ b o e=>yau (yaj (yad e) I.ok.above)
 have neC:∀ b o,X.s₀.heap.get? b=some o -> b ∉ X.ex -> b ∉ ch:=λ b o e hx hb=>by
  rcases (hch b hb).1 with z | z
  ·exact hx z
  ·exact absurd (yaj (yad e) z) (ya3 _)
 have cellK:∀ x c,X.env.cells.lookup x=some c -> ∀ v,s.heap.IsCell c v -> h'.IsCell c v:=λ x c e v ⟨o,ho,hd⟩=>by
  have nch:c ∉ ch:=λ z=>(hch c z).2.2.1 x c e rfl;by_cases hc:c ∈ X.fs
  ·obtain ⟨sl,q⟩:=slot c o (I.cne x c e) hc nch ho (I.freeC x c e);exact ⟨_,q,hd⟩
  ·exact ⟨o,keep c o (I.cne x c e) hc nch ho (I.freeC x c e),hd⟩
 refine ⟨I.ok,I.os,hg,⟨λ b o e n hb hx=>?_,λ b o e n hb hx=>?_,λ b o e n hx=>?_,λ b o e hx=>?_,λ b xs e=>tups b xs (I.base.tups b xs e),λ b o xs e=>frzs b o xs (I.base.frzs b o xs e),λ b ps e=>?_⟩,?_,λ x c e=>?_,?_,λ x c e=>?_,λ p hp=>?_,hok,I.len⟩
 ·exact keep b o (neL b o e) hb (neC b o e hx) (I.base.keep b o e n hb hx) (I.base.free b o e n hx)
 ·obtain ⟨sl,e1⟩:=I.base.slot b o e n hb hx;obtain ⟨sl',e2⟩:=slot b _ (neL b o e) hb (neC b o e hx) e1 (I.base.free b o e n hx);exact ⟨sl',e2⟩
 ·obtain ⟨o',e1⟩:=I.base.there b o e hx;exact free b o' (neC b o e hx) e1 (I.base.free b o e n hx)
 ·obtain ⟨o',e1⟩:=I.base.there b o e hx;exact there b o' (neC b o e hx) e1
 ·obtain ⟨m1,e1⟩:=I.base.tbls b ps e;obtain ⟨m2,e2⟩:=tbls b _ e1;exact ⟨m1 ++ m2,by rw [e2,Array.append_assoc]⟩
 ·obtain ⟨m, hn, hl⟩ := I.loc;refine ⟨m, ns m hn, fun i x v e1 e2 e3 => ?_⟩;obtain ⟨u, r, l⟩ := hl i x v e1 e2 e3;refine ⟨u, r, ?_⟩;rcases l with l | ⟨k, c, e, z⟩
  ·exact .inl l
  ·exact .inr ⟨k,c,e,cellK x c e _ z⟩
 ·obtain ⟨v,z⟩:=I.cell x c e;exact ⟨v,cellK x c e v z⟩
 ·obtain ⟨m,⟨o,_,_,ho,_⟩,_⟩:=I.loc;exact free _ o (λ z=>(hch _ z).2.1 rfl) ho I.free
 ·obtain ⟨v,o,ho,hd⟩:=I.cell x c e;exact free c o (λ z=>(hch c z).2.2.1 x c e rfl) ho (I.freeC x c e)
 ·obtain ⟨e,n,ne,nf,d⟩:=I.pin p hp;have nch:p.1 ∉ ch:=λ z=>(hch p.1 z).2.2.2 p hp rfl;exact ⟨keep p.1 p.2 ne nf nch e n,free p.1 p.2 nch e n,ne,nf,d⟩
def Inv.un {t':Nat} (I:Inv X pins σ H s) (u:Un X.fs [] H H' s.heap h') (hok:HOk X.prog X.w H' h'):Inv X pins σ H' { s with heap:=h',toks:=t' }:=by
 obtain ⟨m,⟨o,es,ep,ho,r⟩,_⟩:=id I.loc;obtain ⟨sl,hL⟩:=u.any ho I.free (5:)
 exact I.step (g':=s.gens) (d':=s.drawn) (ch:=[]) (λ _ z=>nomatch z) (λ b o _ hb _ e n=>u.keep b o e n hb (5:)) (λ b o _ hb _ e n=>u.slot b o e n hb (5:)) (λ b o _ e n=>u.free b o e n (5:)) (λ b o _ e=>u.there b o e (5:)) u.tups u.frzs u.tbls (λ m' hm=>by
  obtain ⟨o',es',ep',ho',r'⟩:=hm;rw [ho] at ho'; cases ho';exact ⟨_,es',ep',hL,r'⟩) hok I.bare
def Inv.call {g':Array GenState} {t':Nat} {d':Drawn} {ch:List Addr} (I:Inv X pins σ H s) (u:Un (frs X.stack) ch H H' s.heap h') (hok:HOk X.prog X.w H' h') (hg:AllBare g')
  (hch:∀ b ∈ ch,(b ∈ X.ex \/ X.s₀.heap.objs.size <= b) /\ b ≠ X.env.locals /\ (∀ x c,X.env.cells.lookup x=some c -> c ≠ b) /\ ∀ p ∈ X.pn ++ pins,p.1 ≠ b) :
  Inv X pins σ H' { s with heap:=h',gens:=g',drawn:=d',toks:=t' }:=by
 obtain ⟨m,⟨o,es,ep,ho,r⟩,_⟩:=id I.loc;obtain ⟨sl,hL⟩:=u.any ho I.free λ z=>(hch _ z).2.1 rfl
 exact I.step (ch:=ch) hch (λ b o hL hb hc e n=>u.keep b o e n (λ z=>(yal.mp (I.stkSub b z)).elim hL hb) hc) (λ b o _ _ hc e n=>u.any e n hc) (λ b o hc e n=>u.free b o e n hc) (λ b o hc e=>u.there b o e hc) u.tups u.frzs u.tbls (λ m' hm=>by
  obtain ⟨o',es',ep',ho',r'⟩:=hm;rw [ho] at ho'; cases ho';exact ⟨_,es',ep',hL,r'⟩) hok hg
def Inv.turned {t':Nat} {it:Addr} (I:Inv X pins σ H s) (k:∀ b o,b ≠ it -> s.heap.get? b=some o -> h'.get? b=some o) (hn:H it=none) (hL:it ≠ X.env.locals)
  (h1:it ∈ X.ex \/ X.s₀.heap.objs.size <= it) (h2:∀ x c,X.env.cells.lookup x=some c -> c ≠ it) (h3:∀ p ∈ X.pn ++ pins,p.1 ≠ it):Inv X pins σ H { s with heap:=h',toks:=t' }:=by
 have nit:∀ b u,H b=some u -> b ≠ it:=λ b u e z=>by rw [z,hn] at e; cases e
 refine I.step (g':=s.gens) (d':=s.drawn) (ch:=[it]) (λ b hb=>?_) (λ b o _ _ hc e _=>k b o (λ z=>hc (by simp [z])) e) (λ b o _ _ hc e _=>⟨o.slots,k b o (λ z=>hc (by simp [z])) e⟩) (λ _ _ _ _ n=>n)
  (λ b o hc e=>⟨o,k b o (λ z=>hc (by simp [z])) e⟩) (λ _ _ e=>e) (λ _ _ _ e=>e) (λ b ps e=>⟨#[],by rw [e]; simp⟩) (λ m hm=>?_) (λ b u e=>?_) I.bare
 ·have e : b = it := by simpa using hb
  subst e;exact ⟨h1,hL,h2,h3⟩
 ·obtain ⟨o,es,ep,ho,r⟩:=hm;exact ⟨o,es,ep,k _ o (ybF hL) ho,r⟩
 ·refine (I.hok b u e).stay (fun c v hc q => k c v ?_ q) (fun _ q => q) fun _ _ q => q;rcases hc with z | z
  ·rw [z]; exact nit b u e
  ·exact nit c _ z
def Inv.tok (I:Inv X pins σ H s) (t:Nat):Inv X pins σ H { s with toks:=t }:=I.un (h':=s.heap) (t':=t) Un.refl I.hok
def Inv.kept {t':Nat} (I:Inv X pins σ H s) (k:∀ b u,s.heap.get? b=some u -> h'.get? b=some u):Inv X pins σ H { s with heap:=h',toks:=t' }:=I.un (Un.kept k) (I.hok.kept k)
def Inv.laid {a:Addr} {o:HO} {t':Nat} (I:Inv X pins σ H s) (k:∀ b u,s.heap.get? b=some u -> h'.get? b=some u) (hp:s.heap.objs.size <= a) (new:zaN X.prog X.w (upd H a o) h' a o) :
  Inv X pins σ (upd H a o) { s with heap:=h',toks:=t' }:=I.un (Un.laid k hp (I.hok.fresh hp)) (I.hok.laid k hp new)
def Inv.write {x e:Addr} {o:HO} {t':Nat} (I:Inv X pins σ H s) (mu:Mut (H x)) (he:e=x \/ H e=some (.own x)) (k:∀ b u,b ≠ e -> s.heap.get? b=some u -> h'.get? b=some u) (heo:∃ u,h'.get? e=some u)
  (new:zaN X.prog X.w (upd H x o) h' x o):Inv X pins σ (upd H x o) { s with heap:=h',toks:=t' }:=I.un (Un.write mu he k heo) (I.hok.write mu he k heo new)
def Inv.weak {σ':List (Option V)} (I:Inv X pins σ H s) (hl:σ'.length=σ.length) (w:∀ (i:Nat) v,σ'[i]?=some (some v) -> σ[i]?=some (some v)):Inv X pins σ' H s:=
 ⟨I.ok,I.os,I.bare,I.base,let ⟨m,hn,hl'⟩:=I.loc; ⟨m,hn,λ i x v e1 e2 e3=>hl' i x v e1 (w i v e2) e3⟩,I.cell,I.free,I.freeC,I.pin,I.hok,hl.trans I.len⟩
def Inv.pins_of {pins':List (Addr × Obj)} (I:Inv X pins σ H s) (h:∀ p ∈ pins',s.heap.get? p.1=some p.2 /\ H p.1=none /\ p.1 ≠ X.env.locals /\ p.1 ∉ X.fs /\ ∀ v,p.2.data ≠ .cell v):Inv X pins' σ H s:=
 ⟨I.ok,I.os,I.bare,I.base,I.loc,I.cell,I.free,I.freeC,λ p hp=>(yaK.mp hp).elim (λ z=>I.pin p (yaR _ z)) (h p),I.hok,I.len⟩
def zhD {N:List Str} (hN:N.Nodup) {i j:Nat} {x:Str} (a:N[i]?=some x) (b:N[j]?=some x):i=j:=by
 obtain ⟨h1,e1⟩:=yah.mp a;obtain ⟨h2,e2⟩:=yah.mp b;exact (List.getElem_inj hN).mp (e1.trans e2.symm)
def ziC {M:Model} {A:Around} {E:Value -> Shared -> Prop} {i:Nat} {x:Str} {v:V} {u:Value} {Q:Unit -> Shared -> Prop} (I:Inv X pins σ H s) (hN:X.N.Nodup) (hi:X.N[i]?=some x) (hx:Loc X.env.scope x) (r:RelV v u)
  (h:∀ s',Inv X pins (σ.set i (some v)) H s' -> (∃ a,Heap.SameBut a s.heap s'.heap /\ (a=X.env.locals \/ X.env.cells.lookup x=some a)) -> Q () s') (hf:X.fn x=true \/ X.env.scope.names.lookup x=some .local:=by first | exact .inl rfl | exact .inr rfl | assumption):wpAny M A (storeName X.env x u) Q E s:=by
 obtain ⟨m,hn,hl⟩:=id I.loc;have hcls:(X.env.scope.kind == .class || (X.env.scope.kind == .module && X.env.locals != X.env.globals))=false:=by rw [I.ok.kind]; rfl
 have hiσ:i < σ.length:=by rw [I.len]; exact (yah.mp hi).1
 have cne:=I.cne
 have tracked:∀ {a:Addr} {h':Heap},(∃ o,s.heap.get? a=some o /\ H a=none) -> Heap.SameBut a s.heap h' -> HOk X.prog X.w H h':=λ {a h'} ha hs b ob e=>by
  obtain ⟨_,_,hfree⟩:=ha;refine (I.hok b ob e).stay (λ c w' hc q=>(hs.2 c ?_).trans q) (λ _ q=>q) λ _ _ q=>q;rintro rfl;rcases hc with rfl | hc
  ·rw [hfree] at e; cases e
  ·rw [hfree] at hc; cases hc
 rcases hx with hk | hk
 ·refine wpAny_storeName_local hk hn (fun h' hn' hs => ?_) hcls;obtain ⟨oL, _, _, hoL, _⟩ := id hn;refine h _ ⟨I.ok, I.os, I.bare, ⟨fun b o e n hb hx => ?_, fun b o e n hb hx => ?_, I.base.free, fun b o e hx => ?_, I.base.tups, I.base.frzs, I.base.tbls⟩, ⟨_, hn', fun j y v' e1 e2 e3 => ?_⟩, fun y c e => ?_, I.free, I.freeC, fun p hp => ?_, tracked ⟨oL, hoL, I.free⟩ hs, by simpa using I.len⟩ ⟨_, hs, .inl rfl⟩
  ·exact (hs.2 b (yau (yaj (yad e) I.ok.above))).trans (I.base.keep b o e n hb hx)
  ·obtain ⟨sl,e1⟩:=I.base.slot b o e n hb hx;exact ⟨sl,(hs.2 b (yau (yaj (yad e) I.ok.above))).trans e1⟩
  ·obtain ⟨o',e1⟩:=I.base.there b o e hx;exact ⟨o',(hs.2 b (yau (yaj (yad e) I.ok.above))).trans e1⟩
  ·by_cases hj : j = i
   ·subst hj;rw [hi] at e1; cases e1;rw [List.getElem?_set_self hiσ] at e2;cases e2;exact ⟨u,r,.inl ⟨hk,by simp⟩⟩
   ·rw [yco (ybF hj)] at e2;obtain ⟨u', r', q⟩ := hl j y v' e1 e2 e3;refine ⟨u', r', ?_⟩;rcases q with ⟨k, e⟩ | ⟨k, c, e, z⟩
    ·refine .inl ⟨k,?_⟩;have:y ≠ x:=λ e=>hj (zhD hN e1 (e ▸ hi));simp [this,e]
    ·exact .inr ⟨k,c,e,z.sameBut hs (cne y c e)⟩
  ·obtain ⟨w',z⟩:=I.cell y c e;exact ⟨w',z.sameBut hs (cne y c e)⟩
  ·obtain ⟨e,n,ne,nf,d⟩:=I.pin p hp;exact ⟨(hs.2 p.1 ne).trans e,n,ne,nf,d⟩
 ·have hfn:X.fn x=true:=by
   rcases hf with z | z
   ·exact z
   ·rw [z] at hk; cases hk
  obtain ⟨c,hc⟩:=I.ok.has x (.inl hk);obtain ⟨w',z⟩:=I.cell x c hc;refine wpAny_storeName_cell I.ok.kind hk hc z (λ h' hc' hs=>?_);obtain ⟨oc,hoc,hocd⟩:=id z;refine h { s with heap:=h' } ⟨I.ok,I.os,I.bare,⟨λ b o e n hb hx=>?_,λ b o e n hb hx=>?_,I.base.free,λ b o e hx=>?_,I.base.tups,I.base.frzs,I.base.tbls⟩,⟨m,hn.sameBut hs (ybF (cne x c hc)),λ j y v' e1 e2 e3=>?_⟩,λ y c' e=>?_,I.free,I.freeC,λ p hp=>?_,tracked ⟨oc,hoc,I.freeC x c hc⟩ hs,by simpa using I.len⟩ ⟨c,hs,.inr hc⟩
  ·exact (hs.2 b (yau (yaj (yad e) (I.ok.cab x c hfn hc)))).trans (I.base.keep b o e n hb hx)
  ·obtain ⟨sl,e1⟩:=I.base.slot b o e n hb hx;exact ⟨sl,(hs.2 b (yau (yaj (yad e) (I.ok.cab x c hfn hc)))).trans e1⟩
  ·obtain ⟨o',e1⟩:=I.base.there b o e hx;exact ⟨o',(hs.2 b (yau (yaj (yad e) (I.ok.cab x c hfn hc)))).trans e1⟩
  ·by_cases hj : j = i
   ·subst hj;rw [hi] at e1; cases e1;rw [List.getElem?_set_self hiσ] at e2;cases e2;exact ⟨u,r,.inr ⟨.inl hk,c,hc,hc'⟩⟩
   ·rw [yco (ybF hj)] at e2;obtain ⟨u', r', q⟩ := hl j y v' e1 e2 e3;refine ⟨u', r', ?_⟩;rcases q with q | ⟨k, c', e, z'⟩
    ·exact .inl q
    ·refine .inr ⟨k,c',e,z'.sameBut hs ?_⟩;rintro rfl;exact hj (zhD hN e1 (I.ok.inj _ _ _ e hc ▸ hi))
  ·by_cases hcc : c' = c
   ·subst hcc; exact ⟨_,hc'⟩
   ·obtain ⟨w2,z2⟩:=I.cell y c' e;exact ⟨w2,z2.sameBut hs hcc⟩
  ·obtain ⟨e,n,ne,nf,d⟩:=I.pin p hp;refine ⟨(hs.2 p.1 ?_).trans e,n,ne,nf,d⟩;intro q;rw [q,hoc] at e;have q':oc=p.2:=Option.some.inj e;exact d w' (by rw [<- q']; exact hocd)
def zde {M:Model} {A:Around} {E:Value -> Shared -> Prop} {i:Nat} {x:Str} {v:V} {u:Value} {Q:Unit -> Shared -> Prop} (I:Inv X pins σ H s) (hN:X.N.Nodup) (hi:X.N[i]?=some x) (hx:Loc X.env.scope x) (r:RelV v u)
  (h:∀ s',Inv X pins (σ.set i (some v)) H s' -> Q () s') (hf:X.fn x=true \/ X.env.scope.names.lookup x=some .local:=by first | exact .inl rfl | exact .inr rfl | assumption):wpAny M A (storeName X.env x u) Q E s:=
 ziC I hN hi hx r (λ s' I' _=>h s' I') hf
end
noncomputable abbrev XK:=Value -> Option Addr -> Hp -> Prop
noncomputable abbrev St:=List (Option V)
noncomputable abbrev VK:=V -> Hp -> Prop
noncomputable abbrev TE:=St -> Hp -> VK -> Prop
noncomputable abbrev TT:=St -> Hp -> (Bool -> Hp -> Prop) -> Prop
noncomputable abbrev TA:=St -> Hp -> (List V -> Hp -> Prop) -> Prop
structure Ends where
 nx:St -> Hp -> Prop
 rt:VK
 bk:St -> Hp -> Prop:=λ _ _=>False
 ct:St -> Hp -> Prop:=λ _ _=>False
noncomputable abbrev TS:=Ends -> St -> Hp -> Prop
noncomputable def EP (X:Cx) (pins:List (Addr × Obj)) (σ:St) (Q:VK) (u:Value) (s':Shared):Prop:=∃ v H',Inv X pins σ H' s' /\ RelV v u /\ Q v H'
noncomputable def TP (X:Cx) (pins:List (Addr × Obj)) (σ:St) (Q:Bool -> Hp -> Prop) (b:Bool) (s':Shared):Prop:=∃ H',Inv X pins σ H' s' /\ Q b H'
noncomputable def AP (X:Cx) (pins:List (Addr × Obj)) (σ:St) (Q:List V -> Hp -> Prop) (us:List Value) (s':Shared):Prop:=∃ vs H',Inv X pins σ H' s' /\ Vals vs us /\ Q vs H'
noncomputable def SP (X:Cx) (pins:List (Addr × Obj)) (D:Ends) (f:Flow) (s':Shared):Prop:=
 match f with
 | .next=>∃ σ' H',Inv X pins σ' H' s' /\ D.nx σ' H'
 | .brk=>∃ σ' H',Inv X pins σ' H' s' /\ D.bk σ' H'
 | .cont=>∃ σ' H',Inv X pins σ' H' s' /\ D.ct σ' H'
 | .ret u=>∃ v σ' H',Inv X pins σ' H' s' /\ RelV v u /\ D.rt v H'
noncomputable def PE (X:Cx) (e:Expr) (t:TE):Prop:=
 ∀ (pins:List (Addr × Obj)) (s:Shared) (σ:St) (H:Hp) (Q:VK),Inv X pins σ H s -> t σ H Q -> wpAny (model X.prog X.w) X.A (eval e X.env) (EP X pins σ Q) X.xe s
noncomputable def PT (X:Cx) (e:Expr) (t:TT):Prop:=
 ∀ (pins:List (Addr × Obj)) (s:Shared) (σ:St) (H:Hp) (Q:Bool -> Hp -> Prop),Inv X pins σ H s -> t σ H Q -> wpAny (model X.prog X.w) X.A (isTrue e X.env (eval e X.env)) (TP X pins σ Q) X.xe s
noncomputable def PW (X:Cx) (e:Expr) (t:TT):Prop:=
 ∀ (whole:Sem Value) (pins:List (Addr × Obj)) (s:Shared) (σ:St) (H:Hp) (Q:Bool -> Hp -> Prop),Inv X pins σ H s -> t σ H Q -> wpAny (model X.prog X.w) X.A (isTrue e X.env whole) (TP X pins σ Q) X.xe s
def PW.pt {X:Cx} {e:Expr} {t:TT} (h:PW X e t):PT X e t:=h _
noncomputable def PA (X:Cx) (es:List Expr) (t:TA):Prop:=
 ∀ (pos:Pos) (pins:List (Addr × Obj)) (s:Shared) (σ:St) (H:Hp) (Q:List V -> Hp -> Prop),Inv X pins σ H s -> t σ H Q -> wpAny (model X.prog X.w) X.A (spliced (backTo pos (starEach es X.env))) (AP X pins σ Q) X.xe s
noncomputable def PS (X:Cx) (st:Stmt) (t:TS):Prop:=
 ∀ (pins:List (Addr × Obj)) (s:Shared) (σ:St) (H:Hp) (D:Ends),Inv X pins σ H s -> t D σ H -> wpAny (model X.prog X.w) X.A (exec st X.env) (SP X pins D) X.xe s
noncomputable def PSs (X:Cx) (st:List Stmt) (t:TS):Prop:=
 ∀ (pins:List (Addr × Obj)) (s:Shared) (σ:St) (H:Hp) (D:Ends),Inv X pins σ H s -> t D σ H -> wpAny (model X.prog X.w) X.A (execs st X.env) (SP X pins D) X.xe s
def thn {α:Type} {t:Sem α} {Q Q':α -> Shared -> Prop} {M:Model} {A:Around} {E:Value -> Shared -> Prop} {s:Shared} (h:wpAny M A t Q E s) (hQ:∀ a s,Q a s -> Q' a s):wpAny M A t Q' E s:=wpAny_mono h hQ λ _ _ x=>x
section
variable {X:Cx}
noncomputable def tVar (i:Nat):TE:=λ σ H Q=>∃ v,σ[i]?=some (some v) /\ Q v H
noncomputable def tC (v:V):TE:=λ _ H Q=>Q v H
def zmH {i:Nat} {x:Str} {pos:Pos} (hN:X.N[i]?=some x) (hv:Vis X.env.scope x) (hd:(x == ("__debug__":Str))=false:=by decide) (hcd:(x == ("__classdict__":Str))=false:=by decide):PE X (.Name x pos) (tVar i):=by
 intro pins s σ H Q I h;obtain ⟨v,e,h⟩:=h;obtain ⟨m,hn,hl⟩:=I.loc;obtain ⟨u,r,l⟩:=hl i x v hN e hv;have fin:EP X pins σ Q u s:=⟨v,H,I,r,h⟩
 rcases l with ⟨hk,hm⟩ | ⟨hk,c,hc,hcell⟩
 ·exact wpAny_Name (wpAny_loadName_local I.ok.kind hk hn hm fin) hd
 ·rcases hk with hk | hk
  ·exact wpAny_Name (wpAny_loadName_cell I.ok.kind hk hc hcell fin) hd
  ·exact wpAny_Name (wpAny_loadName_free I.ok.kind hk hc hcell fin hcd) hd
def zaf {i j pos}:PE X (.Constant (.int i) j pos) (tC (.int i)):=λ _ _ _ H _ I h=>wpAny_Constant_int ⟨.int i,H,I.tok _,⟨_,rfl⟩,h⟩
def zgz {b j pos}:PE X (.Constant (.bool b) j pos) (tC (.bl b)):=λ _ _ _ H _ I h=>Constant_bool ⟨.bl b,H,I,rfl,h⟩
def zd1 {j pos}:PE X (.Constant .none j pos) (tC .non):=λ _ _ _ H _ I h=>Constant_none ⟨.non,H,I,rfl,h⟩
def za3 {x j pos}:PE X (.Constant (.str x) j pos) (tC (.str x)):=λ _ _ _ H _ I h=>Calls.Constant_str ⟨.str x,H,I.tok _,⟨_,rfl⟩,h⟩
noncomputable def Gl (X:Cx) (x:Str):Prop:=X.env.kindOf x=some .globalImplicit
def zjg {E:Value -> Shared -> Prop} {pins:List (Addr × Obj)} {s:Shared} {σ:St} {H:Hp} {x:Str} {u:Value} {pos:Pos} {Q:Value -> Shared -> Prop} (I:Inv X pins σ H s) (hg:Gl X x) (hm:X.mg x=some u) (h:Q u s)
  (hd:(x == ("__debug__":Str))=false:=by decide):wpAny (model X.prog X.w) X.A (eval (.Name x pos) X.env) Q E s:=
 Calls.Name_function_global I.ok.kind hg (Calls.loadGlobal_global (by rw [I.ok.glob]; exact I.mod.glob.keeps I.bk) hm h) hd
def zcg {E:Value -> Shared -> Prop} {pins:List (Addr × Obj)} {s:Shared} {σ:St} {H:Hp} {x:Str} {u:Value} {pos:Pos} {Q:Value -> Shared -> Prop} (I:Inv X pins σ H s) (hg:Gl X x) (hm:X.mg x=none) (hv:bootBuiltins x=some u) (h:Q u s)
  (hn:x ≠ "__name__":=by decide) (hd:(x == ("__debug__":Str))=false:=by decide):wpAny (model X.prog X.w) X.A (eval (.Name x pos) X.env) Q E s:=by
 obtain ⟨mb,h1,h2⟩:=I.mod.blt;exact Calls.Name_function_global I.ok.kind hg (Calls.loadGlobal_builtin (by rw [I.ok.glob]; exact I.mod.glob.keeps I.bk) hm (by rw [I.ok.blt]; exact h1.keeps I.bk) ((h2 x hn).trans hv) h) hd
def zlm {x:Str} {v:V} {u:Value} {pos:Pos} (hg:Gl X x) (hm:X.mg x=some u) (r:RelV v u) (hd:(x == ("__debug__":Str))=false:=by decide):PE X (.Name x pos) (tC v):=
 λ _ _ _ H _ I h=>zjg I hg hm ⟨v,H,I,r,h⟩ hd
def za6 {x:Str} {v:V} {u:Value} {pos:Pos} (hg:Gl X x) (hm:X.mg x=none) (hv:bootBuiltins x=some u) (r:RelV v u) (hn:x ≠ "__name__":=by decide) (hd:(x == ("__debug__":Str))=false:=by decide):PE X (.Name x pos) (tC v):=
 λ _ _ _ H _ I h=>zcg I hg hm hv ⟨v,H,I,r,h⟩ hn hd
variable {a b:Expr} {ta tb:TE} {pos:Pos}
noncomputable def PC (X:Cx) (op:CmpOp) (a b:Expr) (t:TE):Prop:=
 ∀ (pins:List (Addr × Obj)) (s:Shared) (σ:St) (H:Hp) (Q:VK),Inv X pins σ H s -> t σ H Q ->
  wpAny (model X.prog X.w) X.A (eval a X.env) (λ v s₁=>wpAny (model X.prog X.w) X.A (eval b X.env) (λ u s₂=>wpAny (model X.prog X.w) X.A (compareOp op v u) (EP X pins σ Q) X.xe s₂) X.xe s₁) X.xe s
noncomputable def tB (t:TE):TT:=λ σ H Q=>t σ H λ x H1=>∃ c,x=.bl c /\ Q c H1
def zjx {op:CmpOp} {t:TE} (h:PC X op a b t) (h1:behindInMarks op b=false:=by first | exact nobehind _ (3:) (3:) | rfl):PT X (.Compare a [op] [b] pos) (tB t):=by
 intro pins s σ H Q I hw;refine wpAny_isTrue_Compare1 (thn (h pins s σ H _ I hw) λ v s1 h1=>thn h1 λ u s2 h2=>thn h2 λ c s3 ⟨x,H1,I1,r1,q1⟩=>?_) h1;obtain ⟨d,rfl,q⟩:=q1;cases r1;exact wpAny_truthy_bool ⟨H1,I1,q⟩
def zca {e:Expr} {t:TE} (h:PE X e t) (he:∀ whole,isTrue e X.env whole=(do let v <- whole; standAt e.pos; holding [v] (truthy v)):=by intro _; rfl):PT X e (tB t):=by
 intro pins s σ H Q I hw;refine isTrue_plain (thn (h pins s σ H _ I hw) λ v s1 ⟨x,H1,I1,r1,q1⟩=>?_) (he _);obtain ⟨d,rfl,q⟩:=q1;cases r1;exact wpAny_truthy_bool ⟨H1,I1,q⟩
variable {tA tB':TT} {rest:List Expr}
noncomputable def tAnd (t u:TT):TT:=λ σ H Q=>t σ H λ c H1=>if c=true then u σ H1 Q else Q false H1
noncomputable def tOr (t u:TT):TT:=λ σ H Q=>t σ H λ c H1=>if c=true then Q true H1 else u σ H1 Q
noncomputable def tNot (t:TT):TT:=λ σ H Q=>t σ H λ c H1=>Q (!c) H1
def zbM (ha:PT X a tA):PW X (.BoolOp .And [a] pos) tA:=by
 intro wh pins s σ H Q I h;refine isTrue_and (thn (ha pins s σ H Q I h) λ c s1 e=>?_);cases c with
 | true=>exact isTrue_and_nil e
 | false=>exact e
def zeN (ha:PT X a tA):PW X (.BoolOp .Or [a] pos) tA:=by
 intro wh pins s σ H Q I h;refine isTrue_or (thn (ha pins s σ H Q I h) λ c s1 e=>?_);cases c with
 | false=>exact isTrue_or_nil e
 | true=>exact e
def zcj (ha:PT X a tA) (hb:PW X (.BoolOp .And (b :: rest) pos) tB'):PW X (.BoolOp .And (a :: b :: rest) pos) (tAnd tA tB'):=by
 intro wh pins s σ H Q I h;refine isTrue_and (thn (ha pins s σ H _ I h) λ c s1 ⟨H1,I1,q1⟩=>?_);cases c with
 | true=>exact hb wh pins s1 σ H1 Q I1 q1
 | false=>exact ⟨H1,I1,q1⟩
def zik (ha:PT X a tA) (hb:PW X (.BoolOp .Or (b :: rest) pos) tB'):PW X (.BoolOp .Or (a :: b :: rest) pos) (tOr tA tB'):=by
 intro wh pins s σ H Q I h;refine isTrue_or (thn (ha pins s σ H _ I h) λ c s1 ⟨H1,I1,q1⟩=>?_);cases c with
 | true=>exact ⟨H1,I1,q1⟩
 | false=>exact hb wh pins s1 σ H1 Q I1 q1
def zf5 (ha:PT X a tA):PT X (.UnaryOp .Not a pos) (tNot tA):=by
 intro pins s σ H Q I h;exact isTrue_not (ha pins s σ H (λ c H1=>Q (!c) H1) I h)
noncomputable def znI (ta tb:TE):TE:=λ σ H Q=>ta σ H λ x H1=>∃ c,x=.bl c /\ if c=true then tb σ H1 Q else Q (.bl false) H1
noncomputable def znF (ta:TE):TE:=λ σ H Q=>ta σ H λ x H1=>∃ c,x=.bl c /\ Q (.bl (!c)) H1
def zi2 {op} {t:TE} (h:PE X a t):PE X (.BoolOp op [a] pos) t:=λ pins s σ H Q I hw=>BoolOp_one (h pins s σ H Q I hw)
def zhN (ha:PE X a ta) (hb:PE X (.BoolOp .And (b :: rest) pos) tb):PE X (.BoolOp .And (a :: b :: rest) pos) (znI ta tb):=by
 intro pins s σ H Q I h;refine BoolOp_and (thn (ha pins s σ H _ I h) λ v s1 ⟨x,H1,I1,r1,q1⟩=>?_);obtain ⟨c,rfl,q1⟩:=q1;cases r1;refine wpAny_truthy_bool ?_;cases c with
 | true=>exact hb pins s1 σ H1 Q I1 q1
 | false=>exact ⟨.bl false,H1,I1,rfl,q1⟩
def zno (ha:PE X a ta):PE X (.UnaryOp .Not a pos) (znF ta):=by
 intro pins s σ H Q I h;refine UnaryOp_ (thn (ha pins s σ H _ I h) λ v s1 ⟨x,H1,I1,r1,q1⟩=>?_);obtain ⟨c,rfl,q1⟩:=q1;cases r1;exact not_of (wpAny_truthy_bool ⟨.bl (!c),H1,I1,rfl,q1⟩)
noncomputable def tIf (t:TT) (ta tb:TE):TE:=λ σ H Q=>t σ H λ c H1=>if c=true then ta σ H1 Q else tb σ H1 Q
def zaH {c:Expr} (hc:PT X c tA) (ha:PE X a ta) (hb:PE X b tb):PE X (.IfExp c a b pos) (tIf tA ta tb):=by
 intro pins s σ H Q I h;refine wpAny_IfExp (thn (hc pins s σ H _ I h) λ d s1 ⟨H1,I1,q1⟩=>?_);cases d with
 | true=>exact ha pins s1 σ H1 Q I1 q1
 | false=>exact hb pins s1 σ H1 Q I1 q1
end
noncomputable def SqL (K:PySem.W.Frag) (H:Hp) (a:Addr) (xs:List V):Prop:=
 Rd H a (.lst xs) \/
  ∃ (o:Obj) (its:Array Value) (n:Nat),K.lookup a=some o /\ o.cls=.type "list" /\ o.dict=none /\ o.data=.seq its n /\ its.size <= sizeLine /\ Vals xs its.toList
noncomputable def SqT (K:PySem.W.Frag) (H:Hp) (a:Addr) (xs:List V):Prop:=
 Rd H a (.tup xs) \/
  ∃ (o:Obj) (its:Array Value) (n:Nat),K.lookup a=some o /\ o.cls=.type "tuple" /\ o.data=.seq its n /\ its.size <= sizeLine /\ Vals xs its.toList
noncomputable def absV:Value -> Option V
 | .none=>some .non
 | .bool b=>some (.bl b)
 | .int i _=>some (.int i)
 | .str x _=>some (.str x)
 | .bytes b _=>some (.byt b)
 | .float b _=>some (.flt b)
 | .ref a=>some (.ref a)
 | .type n=>some (.ty n)
 | _=>none
def RelV.abs {x:V} {u:Value} (r:RelV x u):absV u=some x:=by
 cases x with
 | non=>cases r; rfl
 | bl _=>cases r; rfl
 | int _=>obtain ⟨t,rfl⟩:=r; rfl
 | str _=>obtain ⟨t,rfl⟩:=r; rfl
 | byt _=>obtain ⟨t,rfl⟩:=r; rfl
 | flt _=>obtain ⟨t,rfl⟩:=r; rfl
 | ref _=>cases r; rfl
 | ty _=>cases r; rfl
def RelV.inj {x y:V} {u:Value} (r:RelV x u) (q:RelV y u):x=y:=Option.some.inj (r.abs.symm.trans q.abs)
def Vals.inj:∀ {xs ys:List V} {us:List Value},Vals xs us -> Vals ys us -> xs=ys
 | _,_,_,.nil,.nil=>rfl
 | _,_,_,.cons r t,.cons r' t'=>by rw [r.inj r',Vals.inj t t']
section
variable {X:Cx} {pins:List (Addr × Obj)} {σ:St} {H:Hp} {s:Shared} {a:Addr} {xs ys:List V}
def SqL.of {K:PySem.W.Frag} (h:H a=some (.lst xs)):SqL K H a xs:=.inl (.inl h)
def SqT.of {K:PySem.W.Frag} (h:H a=some (.tup xs)):SqT K H a xs:=.inl (.inl h)
def Inv.list (I:Inv X pins σ H s) (h:SqL X.K H a xs):∃ its:List Value,Vals xs its /\ PlainL s.heap a its.toArray /\ xs.length <= sizeLine:=by
 rcases h with h | ⟨o,its,n,hk,hc,hd,hs,hz,r⟩
 ·obtain ⟨z,its,n,r,e⟩:=h.ok I.hok;exact ⟨its,r,⟨_,n,e,rfl,rfl,rfl⟩,z⟩
 ·refine ⟨its.toList,r,⟨o,n,I.kIn a o hk,hc,hd,by simpa using hs⟩,?_⟩;have e:=r.length;simp only [yaE] at e;omega
def Inv.tuple (I:Inv X pins σ H s) (h:SqT X.K H a xs):∃ its:List Value,Vals xs its /\ IsTup s.heap a its.toArray /\ xs.length <= sizeLine:=by
 rcases h with h | ⟨o,its,n,hk,hc,hs,hz,r⟩
 ·obtain ⟨z,its,r,p⟩:=h.ok I.hok;exact ⟨its,r,p.tup,z⟩
 ·refine ⟨its.toList,r,⟨o,I.kIn a o hk,hc,n,by simpa using hs⟩,?_⟩;have e:=r.length;simp only [yaE] at e;omega
def Inv.list_inj (I:Inv X pins σ H s) (h:SqL X.K H a xs) (h':SqL X.K H a ys):xs=ys:=by
 obtain ⟨its,r,⟨o,n,e,_,_,d⟩,_⟩:=I.list h;obtain ⟨its',r',⟨o',n',e',_,_,d'⟩,_⟩:=I.list h';rw [e] at e'; cases e';rw [d] at d';injection d' with d1 _;have:its=its':=by simpa using congrArg Array.toList d1
 subst this;exact r.inj r'
def Inv.tuple_inj (I:Inv X pins σ H s) (h:SqT X.K H a xs) (h':SqT X.K H a ys):xs=ys:=by
 obtain ⟨its,r,⟨o,e,_,n,d⟩,_⟩:=I.tuple h;obtain ⟨its',r',⟨o',e',_,n',d'⟩,_⟩:=I.tuple h';rw [e] at e'; cases e';rw [d] at d';injection d' with d1 _;have:its=its':=by simpa using congrArg Array.toList d1
 subst this;exact r.inj r'
end
noncomputable abbrev Cx.wish (X:Cx) (E:Value -> Shared -> Prop):Cx:={ X with xe:=E }
noncomputable abbrev Cx.nox (X:Cx):Cx:=X.wish λ _ _=>False
def Cx.Ok.wish {X:Cx} (ok:X.Ok) (E:Value -> Shared -> Prop):(X.wish E).Ok:=
 ⟨ok.mod,ok.kind,ok.glob,ok.blt,ok.above,ok.inj,ok.has,ok.cab,ok.hd,ok.frames,ok.stk,ok.exf,ok.bs,ok.bsz,ok.noex,ok.exfs,ok.funs,ok.frf⟩
def Cx.Ok.unwish {X:Cx} {E:Value -> Shared -> Prop} (ok:(X.wish E).Ok):X.Ok:=
 ⟨ok.mod,ok.kind,ok.glob,ok.blt,ok.above,ok.inj,ok.has,ok.cab,ok.hd,ok.frames,ok.stk,ok.exf,ok.bs,ok.bsz,ok.noex,ok.exfs,ok.funs,ok.frf⟩
section
variable {X:Cx} {pins:List (Addr × Obj)} {σ:St} {H:Hp} {s:Shared} {E:Value -> Shared -> Prop}
def Inv.wish (I:Inv X pins σ H s) (E:Value -> Shared -> Prop):Inv (X.wish E) pins σ H s:=⟨I.ok.wish E,I.os,I.bare,I.base,I.loc,I.cell,I.free,I.freeC,I.pin,I.hok,I.len⟩
def Inv.unwish (I:Inv (X.wish E) pins σ H s):Inv X pins σ H s:=⟨I.ok.unwish,I.os,I.bare,I.base,I.loc,I.cell,I.free,I.freeC,I.pin,I.hok,I.len⟩
def SP.unwish {D:Ends} {f:Flow} {s':Shared} (h:SP (X.wish E) pins D f s'):SP X pins D f s':=by
 cases f with
 | next=>obtain ⟨σ',H',I,q⟩:=h; exact ⟨σ',H',I.unwish,q⟩
 | brk=>obtain ⟨σ',H',I,q⟩:=h; exact ⟨σ',H',I.unwish,q⟩
 | cont=>obtain ⟨σ',H',I,q⟩:=h; exact ⟨σ',H',I.unwish,q⟩
 | ret u=>obtain ⟨v,σ',H',I,r,q⟩:=h; exact ⟨v,σ',H',I.unwish,r,q⟩
def PSs.nox {st:List Stmt} {t:TS} (h:PSs X.nox st t):PSs X st t:=λ pins s σ H D I hw=>
 wpAny_mono (h pins s σ H D (I.wish _) hw) (λ _ _ q=>q.unwish) λ _ _ z=>False.elim z
end
section
variable {X:Cx} {st:Stmt} {rest:List Stmt} {t u:TS} {e:Expr} {te:TE} {pos:Pos}
noncomputable def zmq:TS:=λ D σ H=>D.nx σ H
noncomputable def tSeq (t u:TS):TS:=λ D σ H=>t { D with nx:=u D } σ H
def zau:PSs X [] zmq:=λ _ _ σ H _ I h=>wpAny_execs_nil ⟨σ,H,I,h⟩
def zac (h1:PS X st t) (h2:PSs X rest u):PSs X (st :: rest) (tSeq t u):=by
 intro pins s σ H D I h;refine wpAny_execs_cons (thn (h1 pins s σ H { D with nx:=u D } I h) λ f s1 q=>?_);cases f with
 | next=>
  obtain ⟨σ',H',I',q⟩:=q;exact h2 pins s1 σ' H' D I' q
 | ret v=>exact q
 | brk=>exact q
 | cont=>exact q
def zag (h1:PS X st t):PSs X [st] t:=by
 intro pins s σ H D I h;refine wpAny_execs_cons (thn (h1 pins s σ H D I h) λ f s1 q=>?_);cases f with
 | next=>exact wpAny_execs_nil q
 | ret v=>exact q
 | brk=>exact q
 | cont=>exact q
def Inv.quiet {pins:List (Addr × Obj)} {σ:St} {H:Hp} {s:Shared} (I:Inv X pins σ H s):interactive X.env=false:=by simp [interactive,I.ok.kind]
noncomputable def zmt (te:TE):TS:=λ D σ H=>te σ H λ _ H1=>D.nx σ H1
def zaZ (he:PE X e te) (hs:swapsWith e none pos.line X.env=pure false:=by rfl):PS X (.Expr e pos) (zmt te):=by
 intro pins s σ H D I h;exact wpAny_Expr_any (thn (he pins s σ H _ I h) λ v s1 ⟨x,H1,I1,r1,q1⟩=>⟨σ,H1,I1,q1⟩) I.quiet hs
noncomputable def tRet (te:TE):TS:=λ D σ H=>te σ H D.rt
def zap (he:PE X e te):PS X (.Return (some e) pos) (tRet te):=by
 intro pins s σ H D I h;exact wpAny_Return_some (thn (he pins s σ H _ I h) λ v s1 ⟨x,H1,I1,r1,q1⟩=>⟨x,σ,H1,I1,r1,q1⟩)
noncomputable def tIfS (c:TT) (t u:TS):TS:=λ D σ H=>c σ H λ b H1=>if b=true then t D σ H1 else u D σ H1
def zaM {c:Expr} {a b:List Stmt} {tc:TT} (hc:PT X c tc) (ha:PSs X a t) (hb:PSs X b u):PS X (.If c a b pos) (tIfS tc t u):=by
 intro pins s σ H D I h;refine wpAny_If (thn (hc pins s σ H _ I h) λ d s1 ⟨H1,I1,q1⟩=>?_);cases d with
 | true=>exact ha pins s1 σ H1 D I1 q1
 | false=>exact hb pins s1 σ H1 D I1 q1
end
noncomputable abbrev TG:=V -> St -> Hp -> (St -> Hp -> Prop) -> Prop
noncomputable abbrev TGs:=List V -> St -> Hp -> (St -> Hp -> Prop) -> Prop
noncomputable def PG (X:Cx) (target:Expr) (t:TG):Prop:=
 ∀ (pins:List (Addr × Obj)) (s:Shared) (σ:St) (H:Hp) (v:V) (u:Value) (Q:St -> Hp -> Prop),Inv X pins σ H s -> RelV v u -> t v σ H Q ->
  wpAny (model X.prog X.w) X.A (assign target X.env u) (λ _ s'=>∃ σ' H',Inv X pins σ' H' s' /\ Q σ' H') X.xe s
noncomputable def PGs (X:Cx) (ts:List Expr) (t:TGs):Prop:=
 ∀ (pins:List (Addr × Obj)) (s:Shared) (σ:St) (H:Hp) (vs:List V) (us:List Value) (Q:St -> Hp -> Prop),Inv X pins σ H s -> Vals vs us -> t vs σ H Q ->
  wpAny (model X.prog X.w) X.A (assignInOrder ((assignEach ts X.env).map (·.2)) us) (λ _ s'=>∃ σ' H',Inv X pins σ' H' s' /\ Q σ' H') X.xe s
noncomputable abbrev TSet:=V -> V -> V -> Hp -> (Hp -> Prop) -> Prop
noncomputable def PSet (X:Cx) (t:TSet):Prop:=
 ∀ (pins:List (Addr × Obj)) (s:Shared) (σ:St) (H:Hp) (o i v:V) (ov iv u:Value) (Q:Hp -> Prop),Inv X pins σ H s -> RelV o ov -> RelV i iv -> RelV v u -> t o i v H Q ->
  wpAny (model X.prog X.w) X.A (setItem ov iv u) (λ _ s'=>∃ H',Inv X pins σ H' s' /\ Q H') X.xe s
section
variable {X:Cx} {pos:Pos}
noncomputable def zj4 (i:Nat):TG:=λ v σ H Q=>Q (σ.set i (some v)) H
def zat {i:Nat} {x:Str} (hN:X.N.Nodup) (hi:X.N[i]?=some x) (hx:Loc X.env.scope x) (hf:X.fn x=true \/ X.env.scope.names.lookup x=some .local:=by first | exact .inl rfl | exact .inr rfl | assumption):PG X (.Name x pos) (zj4 i):=by
 intro pins s σ H v u Q I r h;exact wpAny_assign_Name (zde I hN hi hx r (λ s' I'=>⟨_,H,I',h⟩) hf)
noncomputable def gNil:TGs:=λ vs σ H Q=>vs=[] /\ Q σ H
noncomputable def zmj (t:TG) (u:TGs):TGs:=λ vs σ H Q=>∃ v r,vs=v :: r /\ t v σ H λ σ' H'=>u r σ' H' Q
def zgX:PGs X [] gNil:=by
 intro pins s σ H vs us Q I r h;obtain ⟨e,h⟩:=h;subst e;cases r;exact assignInOrder_nil ⟨σ,H,I,h⟩
def zcu {e:Expr} {es:List Expr} {t:TG} {u:TGs} (h1:PG X e t) (h2:PGs X es u)
  (hs:(assignEach (e :: es) X.env).map (·.2)=assign e X.env :: (assignEach es X.env).map (·.2):=by rfl):PGs X (e :: es) (zmj t u):=by
 intro pins s σ H vs us Q I r h;obtain ⟨v,vr,e1,h⟩:=h;subst e1;cases r with
 | cons r rr=>
  rw [hs];refine assignInOrder_cons (thn (h1 pins s σ H _ _ _ I r h) λ _ s1 ⟨σ1,H1,I1,q1⟩=>?_);exact h2 pins s1 σ1 H1 _ _ Q I1 rr q1
noncomputable def gTup (K:PySem.W.Frag) (n:Nat) (t:TGs):TG:=λ v σ H Q=>∃ a xs,v=.ref a /\ SqT K H a xs /\ xs.length=n /\ t xs σ H Q
def znL {es:List Expr} {k:Nat} {t:TGs} {n:Nat} (hc:X.calm=true) (h:PGs X es t)
  (hn:(assignEach es X.env).length=n:=by rfl) (hst:(assignEach es X.env).findIdx? (·.1)=none:=by rfl):PG X (.Tuple es k pos) (gTup X.K n t):=by
 intro pins s σ H v u Q I r hw;obtain ⟨a,xs,e1,hq,hl,hw⟩:=hw;subst e1;cases r;obtain ⟨its,rv,ht,hz⟩:=I.tuple hq;refine assign_Tuple_tuple (I.ok.hd hc) ht (by simp [hn,<- hl,rv.length]) hst λ h' hx=>?_;have I1:Inv X pins σ H { s with heap:=h' }:=I.kept (t':=s.toks) λ b o e=>hx b o (yau (yad e)) e;exact h pins _ σ H xs _ Q I1 (by simpa using rv) hw
noncomputable def gSub (to ti:TE) (t:TSet):TG:=λ v σ H Q=>to σ H λ o H1=>ti σ H1 λ i H2=>t o i v H2 λ H3=>Q σ H3
def zfz {o i:Expr} {to ti:TE} {t:TSet} (ho:PE X o to) (hi:PE X i ti) (hs:PSet X t)
  (ha : ∀ v, assign (.Subscript o i pos) X.env v = (do
   let ov <- holding [v] (eval o X.env)
   let iv <- holding [v,ov] (eval i X.env)
   standAt pos
   holding [v,ov,iv] (setItem ov iv v)
   release [v,ov,iv] []):=by intro _; rfl):PG X (.Subscript o i pos) (gSub to ti t):=by
 intro pins s σ H v u Q I r h;rw [ha];refine wpAny_bind (wpAny_holding (thn (ho pins s σ H _ I h) λ ov s1 ⟨x,H1,I1,r1,q1⟩=>?_));refine wpAny_bind (wpAny_holding (thn (hi pins s1 σ H1 _ I1 q1) λ iv s2 ⟨y,H2,I2,r2,q2⟩=>?_));refine wpAny_bind (wpAny_standAt (wpAny_bind (wpAny_holding (thn (hs pins s2 σ H2 x y v ov iv u _ I2 r1 r2 r q2) λ _ s3 ⟨H3,I3,q3⟩=>?_))));exact wpAny_release ⟨σ,H3,I3,q3⟩
noncomputable def tAsg (te:TE) (g:TG):TS:=λ D σ H=>te σ H λ x H1=>g x σ H1 D.nx
def zeO {tg e:Expr} {te:TE} {g:TG} (he:PE X e te) (hg:PG X tg g) (hs:swapsWithSole [tg] e pos.line X.env=pure false:=by rfl) (hw:swappedStores [tg] e X.env=pure none:=by rfl)
  (h1:(assignEach [tg] X.env).map (·.2)=[assign tg X.env]:=by rfl):PS X (.Assign [tg] e pos) (tAsg te g):=by
 intro pins s σ H D I h;refine wpAny_Assign_stores (thn (he pins s σ H _ I h) λ v s1 ⟨x,H1,I1,r1,q1⟩=>?_) hs hw;rw [h1];exact thn (hg pins s1 σ H1 x v _ I1 r1 q1) λ _ s2 q=>q
def zas {i:Nat} {x:Str} {e:Expr} {te:TE} {pos':Pos} (hN:X.N.Nodup) (hi:X.N[i]?=some x) (hx:Loc X.env.scope x) (he:PE X e te) (hs:swapsWith e (some (.Name x pos')) pos.line X.env=pure false:=by rfl) (hf:X.fn x=true \/ X.env.scope.names.lookup x=some .local:=by first | exact .inl rfl | exact .inr rfl | assumption) :
  PS X (.Assign [.Name x pos'] e pos) (tAsg te (zj4 i)):=by
 intro pins s σ H D I h;refine wpAny_Assign_Name (thn (he pins s σ H _ I h) λ v s1 ⟨y,H1,I1,r1,q1⟩=>?_) hs;exact zde I1 hN hi hx r1 (λ s2 I2=>⟨_,H1,I2,q1⟩) hf
noncomputable def tPar (i j:Nat) (ta:TA):TS:=λ D σ H=>ta σ H λ vs H1=>∃ v w,vs=[v,w] /\ D.nx ((σ.set i (some v)).set j (some w)) H1
def zm3 {i j:Nat} {x y:Str} {a b:Expr} {ta:TA} {px py pt:Pos} {kt k2 pt2} (hc:X.calm=true) (hN:X.N.Nodup) (hi:X.N[i]?=some x) (hj:X.N[j]?=some y) (hij:i ≠ j)
  (hx:X.env.scope.names.lookup x=some .local) (hy:X.env.scope.names.lookup y=some .local) (ha:PA X [a,b] ta)
  (hw:swappedStores [.Tuple [.Name x px,.Name y py] kt pt] (.Tuple [a,b] k2 pt2) X.env=pure (some [x,y]))
  (hs:swapsWithSole [.Tuple [.Name x px,.Name y py] kt pt] (.Tuple [a,b] k2 pt2) pos.line X.env=pure false:=by rfl) :
  PS X (.Assign [.Tuple [.Name x px,.Name y py] kt pt] (.Tuple [a,b] k2 pt2) pos) (tPar i j ta):=by
 intro pins s σ H D I h;rw [exec_Assign_arm];refine wpAny_bind (wpAny_standAt ?_);rw [hs];refine wpAny_bind (wpAny_pure ?_);rw [if_neg (3:)];refine wpAny_bind (Tuple_ (thn (ha _ pins s σ H _ I h) λ us s1 ⟨vs,H1,I1,r1,q1⟩=>?_));obtain ⟨v,w,e1,q1⟩:=q1;subst e1
 obtain ⟨u1,u2,rfl,rv,rw'⟩:∃ u1 u2,us=[u1,u2] /\ RelV v u1 /\ RelV w u2:=by
  cases r1 with
  | cons p q=>
   cases q with
   | cons p' q'=>
    cases q';exact ⟨_,_,rfl,p,p'⟩
 refine wpAny_newObj_type ?_ (76:);have I2:Inv X pins σ H1 { s1 with heap:=s1.heap.push { cls:=.type "tuple",data:=.seq [u1,u2].toArray } }:=I1.kept (t':=s1.toks) λ b o e=>yab _ e;rw [hw];refine wpAny_bind (wpAny_pure ?_);show wpAny (model X.prog X.w) X.A (do rule "assign.swapped-stores"; let items <- unpackItems (.ref s1.heap.objs.size) 2 none; assignInOrder [λ v=>bindName X.env y v,λ v=>bindName X.env x v] items.reverse; pure Flow.next) _ _ _;refine wpAny_bind (wpAny_rule (wpAny_bind (unpackItems_tuple (items:=#[u1,u2]) (I.ok.hd hc) (IsTup.new s1.heap _) λ h' hx'=>?_)));have I3:=I2.kept (h':=h') (t':=s1.toks) λ b o e=>hx' b o (yau (yad e)) e;show wpAny _ _ (assignInOrder [λ v=>bindName X.env y v,λ v=>bindName X.env x v] [u2,u1] >>= λ _=>pure Flow.next) _ _ _;refine wpAny_bind (assignInOrder_cons (wpAny_bindName (zde I3 hN hj (.inl hy) rw' (λ s2 I4=>?_) (.inr hy))));refine assignInOrder_cons (wpAny_bindName (zde I4 hN hi (.inl hx) rv (λ s3 I5=>assignInOrder_nil (wpAny_pure ?_)) (.inr hx)));rw [List.set_comm _ _ (ybF hij)] at I5;exact ⟨_,H1,I5,q1⟩
end
section
variable {X:Cx} {pos:Pos}
noncomputable def zmT (c:TT) (tb:TS):TS:=λ D σ H=>∃ W:Nat -> St -> Hp -> Prop,(∃ m,W m σ H) /\ ∀ m σ H,W m σ H ->
 c σ H λ b H1=>if b=true then ∃ N:St -> Hp -> Prop,(∀ σ' H',N σ' H' -> ∃ m',m' < m /\ W m' σ' H') /\ tb { D with nx:=N,ct:=N,bk:=D.nx } σ H1 else D.nx σ H1
def zhs {c:Expr} {body:List Stmt} {tc:TT} {tb:TS} (hp:PassesOwn (model X.prog X.w) X.A X.env X.xe) (hc:PT X c tc) (hb:PSs X body tb):PS X (.While c body [] pos) (zmT tc tb):=by
 intro pins s σ H D I h;obtain ⟨W,⟨m0,w0⟩,turn⟩:=h;refine wpAny_While (codeAny_whileLoop (λ n s'=>∃ σ' H',Inv X pins σ' H' s' /\ W n σ' H') ?_ m0 ⟨σ,H,I,w0⟩);rintro n s1 ⟨σ1,H1,I1,w1⟩;refine wpAny_passesOwn hp (thn (hc pins s1 σ1 H1 _ I1 (turn n σ1 H1 w1)) λ b s2 ⟨H2,I2,q2⟩=>?_);cases b with
 | true=>
  obtain ⟨N,hN,q2⟩:=q2;rw [if_pos rfl];refine wpAny_passesOwn hp (thn (hb pins s2 σ1 H2 _ I2 q2) λ f s3 q3=>?_);cases f with
  | next=>
   obtain ⟨σ3,H3,I3,n3⟩:=q3;obtain ⟨m',hm,w3⟩:=hN σ3 H3 n3;exact ⟨m',hm,σ3,H3,I3,w3⟩
  | cont=>
   obtain ⟨σ3,H3,I3,n3⟩:=q3;obtain ⟨m',hm,w3⟩:=hN σ3 H3 n3;exact ⟨m',hm,σ3,H3,I3,w3⟩
  | brk=>exact q3
  | ret v=>exact q3
 | false=>
  rw [if_neg yaq];exact wpAny_execs_nil ⟨σ1,H2,I2,q2⟩
end
structure It where
 go:Nat -> Hp -> Prop
 yld:Nat -> Hp -> V -> Hp -> Prop
 stop:Nat -> Hp -> Prop
noncomputable def FpOk (X:Cx) (pins:List (Addr × Obj)) (H:Hp) (b:Addr):Prop:=
 H b=none /\ b ≠ X.env.locals /\ b ∉ X.fs /\ (b ∈ X.ex \/ X.s₀.heap.objs.size <= b) /\ (∀ x c,X.env.cells.lookup x=some c -> c ≠ b) /\ ∀ p ∈ X.pn ++ pins,p.1 ≠ b
def Inv.fpOk {X:Cx} {pins:List (Addr × Obj)} {σ:St} {H H':Hp} {s:Shared} {b:Addr} (I:Inv X pins σ H s) (hb:s.heap.objs.size <= b) (hn:H' b=none):FpOk X pins H' b:=by
 refine ⟨hn,ya5 (yaj I.lt hb),I.nofs hb,.inr (yaY I.sz hb),λ x c e z=>?_,λ p hp z=>?_⟩
 ·obtain ⟨v,q⟩:=I.cell x c e;exact absurd (yaj q.lt (by rw [z]; exact hb)) (ya3 _)
 ·exact absurd (yaj (yad (I.pin p hp).1) (by rw [z]; exact hb)) (ya3 _)
structure Turn (P:Program) (w:World) (K:PySem.W.Frag) (tg:Expr) (J:It) (fp:List Addr) (it:Addr) (tn:Nat -> Heap -> Prop):Prop where
 mem:it ∈ fp
 obj:∀ i h,tn i h -> ∀ b ∈ fp,∃ o,h.get? b=some o /\ ∀ v,o.data ≠ .cell v
 keep:∀ i h h',tn i h -> (∀ b ∈ fp,∀ o,h.get? b=some o -> h'.get? b=some o) -> tn i h'
 item:∀ (X:Cx),X.prog=P -> X.w=w -> X.K=K -> X.calm=true -> ∀ (i:Nat) (pins:List (Addr × Obj)) (s:Shared) (σ:St) (H:Hp) (E:Value -> Shared -> Prop),Inv X pins σ H s -> (∀ b ∈ fp,FpOk X pins H b) -> tn i s.heap -> J.go i H ->
  wpAny (model P w) X.A (pyNext (.ref it)) (λ r s1=>∃ u,r=some u /\
   wpAny (model P w) X.A (letOwnedTupleGo tg (.ref it) u) (λ _ s2=>∃ x H',Inv X pins σ H' s2 /\ RelV x u /\ J.yld i H x H' /\ tn (i + 1) s2.heap /\ ∀ b ∈ fp,H' b=none) E s1) E s
 done:∀ (X:Cx),X.prog=P -> X.w=w -> X.K=K -> X.calm=true -> ∀ (i:Nat) (pins:List (Addr × Obj)) (s:Shared) (σ:St) (H:Hp) (E:Value -> Shared -> Prop),Inv X pins σ H s -> (∀ b ∈ fp,FpOk X pins H b) -> tn i s.heap -> J.stop i H ->
  wpAny (model P w) X.A (pyNext (.ref it)) (λ r s1=>r=none /\ Inv X pins σ H s1) E s
 self:∀ (A:Around) (i:Nat) (s:Shared) (Q:Value -> Shared -> Prop) (E:Value -> Shared -> Prop),tn i s.heap -> Q (.ref it) s -> wpAny (model P w) A (pyIter (.ref it)) Q E s
noncomputable abbrev TI:=St -> Hp -> (It -> Hp -> Prop) -> Prop
noncomputable def PIE (X:Cx) (pins:List (Addr × Obj)) (σ:St) (tg:Expr) (R:It -> Hp -> Prop) (itv:Value) (s2:Shared):Prop:=
 ∃ (it:Addr) (fp:List Addr) (tn:Nat -> Heap -> Prop) (J:It) (H':Hp),itv=.ref it /\ Inv X pins σ H' s2 /\ Turn X.prog X.w X.K tg J fp it tn /\ tn 0 s2.heap /\ (∀ b ∈ fp,FpOk X pins H' b) /\ R J H'
noncomputable def PI (X:Cx) (tg iter:Expr) (wi:TI):Prop:=
 ∀ (pins:List (Addr × Obj)) (s:Shared) (σ:St) (H:Hp) (R:It -> Hp -> Prop),Inv X pins σ H s -> wi σ H R ->
  wpAny (model X.prog X.w) X.A (eval iter X.env) (λ v s1=>wpAny (model X.prog X.w) X.A (pyIter v) (PIE X pins σ tg R) X.xe s1) X.xe s
def zj8 {M:Model} {A:Around} {E:Value -> Shared -> Prop} {s:Shared} {tg:Expr} {it:Addr} {u:Value} {o:Obj} {n:String} {vs:Array Value} {Q:Unit -> Shared -> Prop} (ho:s.heap.get? it=some o) (hc:o.cls=.type n) (hd:o.data=.fields vs)
    (hn:["enumerate","zip","dict_itemiterator","dict_reverseitemiterator","odict_iterator","itertools.zip_longest","itertools.pairwise"].contains n=false) (hQ:Q () s):wpAny M A (letOwnedTupleGo tg (.ref it) u) Q E s:=by
  unfold letOwnedTupleGo
  cases tg <;> first
    | exact wpAny_pure hQ
    | (cases u <;> first
        | exact wpAny_pure hQ
        | (refine wpAny_bind (wpAny_load ho ?_)
           rw [hc,hd];show wpAny M A (if (["enumerate","zip","dict_itemiterator","dict_reverseitemiterator","odict_iterator","itertools.zip_longest","itertools.pairwise"].contains n && vs[0]? == some (rawInt _))=true then _ else _) Q E s;rw [if_neg (by intro h; rw [hn,Bool.false_and] at h; cases h)];exact wpAny_pure hQ))
noncomputable def Itl (K:PySem.W.Frag) (a:Addr):It:=
 ⟨λ i H=>∃ xs x,SqL K H a xs /\ xs[i]?=some x,λ i H x H'=>H'=H /\ ∀ xs,SqL K H a xs -> xs[i]?=some x,λ i H=>∃ xs,SqL K H a xs /\ xs.length <= i⟩
noncomputable def Itt (K:PySem.W.Frag) (a:Addr):It:=
 ⟨λ i H=>∃ xs x,SqT K H a xs /\ xs[i]?=some x,λ i H x H'=>H'=H /\ ∀ xs,SqT K H a xs -> xs[i]?=some x,λ i H=>∃ xs,SqT K H a xs /\ xs.length <= i⟩
noncomputable def Itr (lo:Int) (n:Nat):It:=⟨λ i _=>i < n,λ i H x H'=>H'=H /\ x=.int (lo + i),λ i _=>n <= i⟩
def zjM {P:Program} {w:World} {K:PySem.W.Frag} {tg:Expr} (a it:Addr):Turn P w K tg (Itl K a) [it] it (λ i h=>h.IsListIter it a i) where
 mem:=by simp
 obj:=λ i h st b hb=>by
  have e:b=it:=by simpa using hb
  subst e;obtain ⟨o,e,c,d⟩:=st;exact ⟨o,e,λ v z=>by rw [d] at z; cases z⟩
 keep:=λ i h h' st k=>st.at λ o e=>k it (5:) o e
 item:=by
  intro X hP hw hK hc i pins s σ H E I hf st hg;subst hP hw hK;obtain ⟨xs,x,hq,hx⟩:=hg;obtain ⟨its,rv,p,hz⟩:=I.list hq;obtain ⟨u,hu,ru⟩:=rv.get hx;obtain ⟨f0,f1,f2,f3,f4,f5⟩:=hf it (5:);refine wpAny_pyNext_list_item st p.isList (x:=u) (by simpa using hu) λ h' st' sb=>?_;have I1:Inv X pins σ H { s with heap:=h' }:=I.turned (t':=s.toks) (λ b o hb e=>(sb.2 b hb).trans e) f0 f1 f3 f4 f5;obtain ⟨o,e,c,d⟩:=id st';exact ⟨u,rfl,zj8 (s:={ s with heap:=h' }) e c d (3:) ⟨x,H,I1,ru,⟨rfl,λ ys hy=>by rw [I.list_inj hy hq]; exact hx⟩,st',λ b hb=>(hf b hb).1⟩⟩
 done:=by
  intro X hP hw hK hc i pins s σ H E I hf st hg;subst hP hw hK;obtain ⟨xs,hq,hx⟩:=hg;obtain ⟨its,rv,p,hz⟩:=I.list hq;obtain ⟨f0,f1,f2,f3,f4,f5⟩:=hf it (5:);have hl:=rv.length;exact wpAny_pyNext_list_end (I.ok.hd hc) st p.isList (41:) λ h' eb=>⟨rfl,I.turned (t':=s.toks) (λ b o hb e=>eb b o hb e) f0 f1 f3 f4 f5⟩
 self:=λ _ _ _ _ _ st h=>wpAny_pyIter_listiter st h
def zhU {P:Program} {w:World} {K:PySem.W.Frag} {tg:Expr} (a it:Addr):Turn P w K tg (Itt K a) [it] it (λ i h=>h.IsTupleIter it a i) where
 mem:=by simp
 obj:=λ i h st b hb=>by
  have e:b=it:=by simpa using hb
  subst e;obtain ⟨o,e,c,d⟩:=st;exact ⟨o,e,λ v z=>by rw [d] at z; cases z⟩
 keep:=λ i h h' st k=>st.at λ o e=>k it (5:) o e
 item:=by
  intro X hP hw hK hc i pins s σ H E I hf st hg;subst hP hw hK;obtain ⟨xs,x,hq,hx⟩:=hg;obtain ⟨its,rv,p,hz⟩:=I.tuple hq;obtain ⟨u,hu,ru⟩:=rv.get hx;obtain ⟨f0,f1,f2,f3,f4,f5⟩:=hf it (5:);refine wpAny_pyNext_tuple_item st (show s.heap.IsTuple a its.toArray from p) (x:=u) (by simpa using hu) λ h' st' sb=>?_;have I1:Inv X pins σ H { s with heap:=h' }:=I.turned (t':=s.toks) (λ b o hb e=>(sb.2 b hb).trans e) f0 f1 f3 f4 f5;obtain ⟨o,e,c,d⟩:=id st';exact ⟨u,rfl,zj8 (s:={ s with heap:=h' }) e c d (3:) ⟨x,H,I1,ru,⟨rfl,λ ys hy=>by rw [I.tuple_inj hy hq]; exact hx⟩,st',λ b hb=>(hf b hb).1⟩⟩
 done:=by
  intro X hP hw hK hc i pins s σ H E I hf st hg;subst hP hw hK;obtain ⟨xs,hq,hx⟩:=hg;obtain ⟨its,rv,p,hz⟩:=I.tuple hq;obtain ⟨f0,f1,f2,f3,f4,f5⟩:=hf it (5:);have hl:=rv.length;exact wpAny_pyNext_tuple_end (I.ok.hd hc) st (show s.heap.IsTuple a its.toArray from p) (41:) λ h' eb=>⟨rfl,I.turned (t':=s.toks) (λ b o hb e=>eb b o hb e) f0 f1 f3 f4 f5⟩
 self:=λ _ _ _ _ _ st h=>wpAny_pyIter_tupleiter st h
def zh3 {P:Program} {w:World} {K:PySem.W.Frag} {tg:Expr} (it:Addr) (lo:Int) (n:Nat):Turn P w K tg (Itr lo n) [it] it (λ i h=>IsRangeIter h it (lo + (i:Nat) * 1) ((n:Int) - (i:Nat)) 1) where
 mem:=by simp
 obj:=λ i h st b hb=>by
  have e:b=it:=by simpa using hb
  subst e
  exact ⟨_,st,λ v z=>by
   have z':Data.fields _=Data.cell v:=z;cases z'⟩
 keep:=λ i h h' st k=>k it (5:) _ st
 item:=by
  intro X hP hw hK hc i pins s σ H E I hf st hg;subst hP hw hK;obtain ⟨f0,f1,f2,f3,f4,f5⟩:=hf it (5:);have W:=Walks.range (prog:=X.prog) (w:=X.w) (I.ok.hd hc) it lo 1 n;refine W.item i s _ _ hg st λ v h' tk hv st' kk=>?_;obtain ⟨t,rfl⟩:=hv;have I1:Inv X pins σ H { s with heap:=h',toks:=tk }:=I.turned (λ b o hb e=>kk b o (by simpa using hb) e) f0 f1 f3 f4 f5;refine ⟨_,rfl,zj8 (s:={ s with heap:=h',toks:=tk }) (n:="range_iterator") st' rfl rfl (3:) ⟨.int (lo + i),H,I1,⟨t,?_⟩,⟨rfl,rfl⟩,st',λ b hb=>(hf b hb).1⟩⟩;rw [Int.mul_one]
 done:=by
  intro X hP hw hK hc i pins s σ H E I hf st hg;subst hP hw hK;obtain ⟨f0,f1,f2,f3,f4,f5⟩:=hf it (5:);exact wpAny_pyNext_range_end (I.ok.hd hc) st (by have:n <= i:=hg; omega) λ h' eb=>⟨rfl,I.turned (t':=s.toks) (λ b o hb e=>eb b o hb e) f0 f1 f3 f4 f5⟩
 self:=λ _ _ _ _ _ st h=>wpAny_pyIter_rangeiter st h
section
variable {X:Cx} {tg:Expr}
def zhB {pins:List (Addr × Obj)} {σ:St} {H:Hp} {s:Shared} {R:It -> Hp -> Prop} {E:Value -> Shared -> Prop} {lo hi:Int} {t u v:Tok} {tk:Nat} (I:Inv X pins σ H s) (h1:-(2 ^ 62) <= lo) (h2:lo < 2 ^ 62) (h3:-(2 ^ 62) <= hi) (h4:hi < 2 ^ 62)
  (q:R (Itr lo (hi - lo).toNat) H):wpAny (model X.prog X.w) X.A (pyIter (.ref s.heap.objs.size)) (PIE X pins σ tg R) E { s with heap:=s.heap.push { cls:=.type "range",data:=.fields #[.int lo t,.int hi u,.int 1 v] },toks:=tk }:=by
 refine wpAny_pyIter_range (IsRange.new ..) (small_one h1 h2 h3 h4) ?_;have I1:Inv X pins σ H { s with heap:=s.heap.push { cls:=.type "range",data:=.fields #[.int lo t,.int hi u,.int 1 v] },toks:=tk }:=I.kept λ b o e=>yab _ e
 refine ⟨(s.heap.push { cls:=.type "range",data:=.fields #[.int lo t,.int hi u,.int 1 v] }).objs.size,[(s.heap.push { cls:=.type "range",data:=.fields #[.int lo t,.int hi u,.int 1 v] }).objs.size],_,_,H,rfl,
  I1.kept (t':=tk) λ b o e=>yab _ e,zh3 _ lo (hi - lo).toNat,?_,λ b hb=>?_,q⟩
 ·have e1 : lo + ((0 : Nat) : Int) * 1 = lo := by simp
  have e2:(((hi - lo).toNat:Nat):Int) - ((0:Nat):Int)=Builtin.Range.rangeSize lo hi 1:=by rw [rangeSize_one]; split <;> omega
  show IsRangeIter _ _ (lo + ((0:Nat):Int) * 1) ((((hi - lo).toNat:Nat):Int) - ((0:Nat):Int)) 1;rw [e1,e2];exact yae _ rfl
 ·have e : b = (s.heap.push { cls := .type "range", data := .fields #[.int lo t, .int hi u, .int 1 v] }).objs.size := by simpa using hb
  subst e;exact I1.fpOk (yag _) (I1.hok.fresh (yag _))
noncomputable def zmY (ta:TA):TI:=λ σ H R=>ta σ H λ vs H1=>∃ j:Int,vs=[.int j] /\ -(2 ^ 62) <= j /\ j < 2 ^ 62 /\ R (Itr 0 j.toNat) H1
noncomputable def zmU (ta:TA):TI:=λ σ H R=>ta σ H λ vs H1=>∃ i j:Int,vs=[.int i,.int j] /\ (-(2 ^ 62) <= i /\ i < 2 ^ 62 /\ -(2 ^ 62) <= j /\ j < 2 ^ 62) /\ R (Itr i (j - i).toNat) H1
def zax {a:Expr} {ta:TA} {p pos:Pos} (hg:Gl X "range") (hm:X.mg "range"=none) (ha:PA X [a] ta) (hs:starEach [a] X.env=[(false,eval a X.env)]:=by rfl):PI X tg (.Call (.Name "range" p) [a] [] pos) (zmY ta):=by
 intro pins s σ H R I h;refine Call_ (zcg I hg hm boot_range (yaJ (thn (ha pos pins s σ H _ I h) λ us s1 ⟨vs,H1,I1,r1,q1⟩=>?_) hs rfl));obtain ⟨j,e,q1,q2,q⟩:=q1;subst e;cases r1 with
 | cons r rr=>
  cases rr;obtain ⟨t,rfl⟩:=r;exact call_range_1 (zhB I1 (1:) (1:) q1 q2 (by simpa using q))
def zfX {a b:Expr} {ta:TA} {p pos:Pos} (hg:Gl X "range") (hm:X.mg "range"=none) (ha:PA X [a,b] ta) (hs:starEach [a,b] X.env=[(false,eval a X.env),(false,eval b X.env)]:=by rfl) (hs2:starEach [b] X.env=[(false,eval b X.env)]:=by rfl) :
  PI X tg (.Call (.Name "range" p) [a,b] [] pos) (zmU ta):=by
 intro pins s σ H R I h;refine Call_ (zcg I hg hm boot_range (yaJ (thn (ha pos pins s σ H _ I h) λ us s1 ⟨vs,H1,I1,r1,q1⟩=>?_) (by rw [hs,hs2]) (by rw [hs2]; rfl)));obtain ⟨i,j,e,⟨q1,q2,q3,q4⟩,q⟩:=q1;subst e;cases r1 with
 | cons r rr=>
  cases rr with
  | cons r' rr=>
   cases rr;obtain ⟨t,rfl⟩:=r;obtain ⟨t',rfl⟩:=r';exact call_range_2 (zhB I1 q1 q2 q3 q4 q)
noncomputable def tFor (wi:TI) (g:TG) (tb:TS):TS:=λ D σ H=>wi σ H λ J H1=>∃ W:Nat -> Nat -> St -> Hp -> Prop,(∃ m,W 0 m σ H1) /\ ∀ i m σ H,W i m σ H ->
 (J.stop i H /\ D.nx σ H) \/ (J.go i H /\ ∃ N:St -> Hp -> Prop,(∀ σ' H',N σ' H' -> ∃ m',m' < m /\ W (i + 1) m' σ' H') /\ ∀ x H',J.yld i H x H' -> g x σ H' λ σ2 H2=>tb { D with nx:=N,ct:=N,bk:=D.nx } σ2 H2)
noncomputable def zft (fp:List Addr) (h:Heap):List (Addr × Obj):=fp.filterMap λ b=>(h.get? b).map λ o=>(b,o)
def zdh {fp:List Addr} {h:Heap} {b:Addr} {o:Obj} (hb:b ∈ fp) (e:h.get? b=some o):(b,o) ∈ zft fp h:=List.mem_filterMap.mpr ⟨b,hb,by rw [e]; rfl⟩
def ziD {fp:List Addr} {h:Heap} {p:Addr × Obj} (hp:p ∈ zft fp h):p.1 ∈ fp /\ h.get? p.1=some p.2:=by
 obtain ⟨b,hb,e⟩:=List.mem_filterMap.mp hp;cases q:h.get? b with
 | none=>rw [q] at e; cases e
 | some o=>
  rw [q] at e;have e':(b,o)=p:=Option.some.inj e;subst e';exact ⟨hb,q⟩
def Inv.pinned {pins:List (Addr × Obj)} {σ:St} {H:Hp} {s:Shared} {fp:List Addr} (I:Inv X pins σ H s) (hf:∀ b ∈ fp,FpOk X pins H b) (ho:∀ b ∈ fp,∃ o,s.heap.get? b=some o /\ ∀ v,o.data ≠ .cell v):Inv X (pins ++ zft fp s.heap) σ H s:=
 I.pins_of λ p hp=>(yaK.mp hp).elim (λ z=>I.pin p (yaD _ z)) λ z=>by
  obtain ⟨hb,e⟩:=ziD z;obtain ⟨f0,f1,f2,_⟩:=hf p.1 hb;obtain ⟨o,e',d⟩:=ho p.1 hb;rw [e] at e'; cases e';exact ⟨e,f0,f1,f2,d⟩
def Inv.unpinned {pins pl:List (Addr × Obj)} {σ:St} {H:Hp} {s:Shared} (I:Inv X (pins ++ pl) σ H s):Inv X pins σ H s:=I.pins_of λ p hp=>I.pin p (yaD _ (yaR _ hp))
def zbv {iter:Expr} {body:List Stmt} {wi:TI} {g:TG} {tb:TS} {pos:Pos} (hp:PassesOwn (model X.prog X.w) X.A X.env X.xe) (hc:X.calm=true) (hi:PI X tg iter wi) (hg:PG X tg g) (hb:PSs X body tb)
  (hs:∀ x,foldedSetIterable iter X.env x=pure x:=by intro _; rfl):PS X (.For tg iter body [] pos) (tFor wi g tb):=by
 intro pins s σ H D I h;refine wpAny_For (thn (hi pins s σ H _ I h) λ v s1 h1=>thn h1 λ itv s2 h2=>?_) hs;obtain ⟨it,fp,tn,J,H2,e,I2,T,st2,f2,W,⟨m0,w0⟩,turn⟩:=h2;subst e
 -- what stays true of the iterator's objects through the loop
 have stat:∀ {H':Hp},(∀ b ∈ fp,H' b=none) -> ∀ b ∈ fp,FpOk X pins H' b:=λ hn b hb=>⟨hn b hb,(f2 b hb).2⟩
 refine codeAny_forLoop_any (λ n s'=>∃ i σ' H',Inv X pins σ' H' s' /\ tn i s'.heap /\ (∀ b ∈ fp,H' b=none) /\ W i n σ' H') ?_ m0 ⟨0,σ,H2,I2,st2,λ b hb=>(f2 b hb).1,w0⟩;rintro n s3 ⟨i,σ3,H3,I3,st3,fr3,w3⟩;rcases turn i n σ3 H3 w3 with ⟨stop,qn⟩ | ⟨go,N,hN,step⟩
 ·refine wpAny_passesOwn hp (thn (T.done X rfl rfl rfl hc i pins s3 σ3 H3 X.xe I3 (stat fr3) st3 stop) λ r s4 ⟨hr,I4⟩=>?_);subst hr;exact wpAny_execs_nil ⟨σ3,H3,I4,qn⟩
 ·refine wpAny_passesOwn hp (thn (T.item X rfl rfl rfl hc i pins s3 σ3 H3 X.xe I3 (stat fr3) st3 go) fun r s4 ⟨u, hr, h4⟩ => ?_);subst hr;refine wpAny_passesOwn hp (thn h4 fun _ s5 ⟨x, H5, I5, r5, y5, st5, fr5⟩ => ?_);have I5' := I5.pinned (stat fr5) (T.obj _ _ st5);refine wpAny_passesOwn hp (thn (hg _ s5 σ3 H5 x u _ I5' r5 (step x H5 y5)) fun _ s6 ⟨σ6, H6, I6, q6⟩ => ?_);refine wpAny_passesOwn hp (thn (hb _ s6 σ6 H6 _ I6 q6) fun f s7 q7 => ?_)
  have again:∀ {σ7:St} {H7:Hp},Inv X (pins ++ zft fp s5.heap) σ7 H7 s7 -> N σ7 H7 -> ∃ m,m < n /\ ∃ i σ' H',Inv X pins σ' H' s7 /\ tn i s7.heap /\ (∀ b ∈ fp,H' b=none) /\ W i m σ' H':=λ {σ7 H7} I7 n7=>by
   obtain ⟨m',hm,w7⟩:=hN σ7 H7 n7;refine ⟨m',hm,i + 1,σ7,H7,I7.unpinned,T.keep _ _ _ st5 λ b hb o e=>(I7.pin (b,o) (yaD _ (yaD _ (zdh hb e)))).1,λ b hb=>?_,w7⟩;obtain ⟨o,e,d⟩:=T.obj _ _ st5 b hb;exact (I7.pin (b,o) (yaD _ (yaD _ (zdh hb e)))).2.1
  cases f with
  | next=>obtain ⟨σ7,H7,I7,n7⟩:=q7; exact again I7 n7
  | cont=>obtain ⟨σ7,H7,I7,n7⟩:=q7; exact again I7 n7
  | brk=>obtain ⟨σ7,H7,I7,q7⟩:=q7; exact ⟨σ7,H7,I7.unpinned,q7⟩
  | ret v=>obtain ⟨x7,σ7,H7,I7,r7,q7⟩:=q7; exact ⟨x7,σ7,H7,I7.unpinned,r7,q7⟩
end
def zhk {K:PySem.W.Frag} {a:Addr} {xs:List V} {g:TG} {tb:TS} {D:Ends} {σ:St} {H:Hp} (Pv:Nat -> St -> Hp -> Prop) (h0:Pv 0 σ H) (hl:∀ i σ H,i <= xs.length -> Pv i σ H -> SqL K H a xs)
  (hs:∀ i x σ H,xs[i]?=some x -> Pv i σ H -> g x σ H λ σ2 H2=>tb { D with nx:=Pv (i + 1),ct:=Pv (i + 1),bk:=D.nx } σ2 H2) (hd:∀ σ H,Pv xs.length σ H -> D.nx σ H) :
  ∃ W:Nat -> Nat -> St -> Hp -> Prop,(∃ m,W 0 m σ H) /\ ∀ i m σ H,W i m σ H ->
   ((Itl K a).stop i H /\ D.nx σ H) \/ ((Itl K a).go i H /\ ∃ N:St -> Hp -> Prop,(∀ σ' H',N σ' H' -> ∃ m',m' < m /\ W (i + 1) m' σ' H') /\ ∀ x H',(Itl K a).yld i H x H' -> g x σ H' λ σ2 H2=>tb { D with nx:=N,ct:=N,bk:=D.nx } σ2 H2):=by
 refine ⟨λ i m σ H=>m=xs.length - i /\ i <= xs.length /\ Pv i σ H,⟨xs.length,by simp,yaQ _,h0⟩,?_⟩;rintro i m σ H ⟨rfl,hi,p⟩;have q:=hl i σ H hi p;by_cases hlt:i < xs.length
 ·refine .inr ⟨⟨xs,xs[i],q,by simp [hlt]⟩,Pv (i + 1),λ σ' H' p'=>⟨xs.length - (i + 1),by omega,rfl,hlt,p'⟩,λ x H' y=>?_⟩;obtain ⟨e,y⟩:=y;subst e;exact hs i x σ _ (y xs q) p
 ·have e : i = xs.length := by omega
  subst e;exact .inl ⟨⟨xs,q,yag _⟩,hd σ H p⟩
def zlh {K:PySem.W.Frag} {a:Addr} {xs:List V} {g:TG} {tb:TS} {D:Ends} {σ:St} {H:Hp} (Pv:Nat -> St -> Hp -> Prop) (h0:Pv 0 σ H) (hl:∀ i σ H,i <= xs.length -> Pv i σ H -> SqT K H a xs)
  (hs:∀ i x σ H,xs[i]?=some x -> Pv i σ H -> g x σ H λ σ2 H2=>tb { D with nx:=Pv (i + 1),ct:=Pv (i + 1),bk:=D.nx } σ2 H2) (hd:∀ σ H,Pv xs.length σ H -> D.nx σ H) :
  ∃ W:Nat -> Nat -> St -> Hp -> Prop,(∃ m,W 0 m σ H) /\ ∀ i m σ H,W i m σ H ->
   ((Itt K a).stop i H /\ D.nx σ H) \/ ((Itt K a).go i H /\ ∃ N:St -> Hp -> Prop,(∀ σ' H',N σ' H' -> ∃ m',m' < m /\ W (i + 1) m' σ' H') /\ ∀ x H',(Itt K a).yld i H x H' -> g x σ H' λ σ2 H2=>tb { D with nx:=N,ct:=N,bk:=D.nx } σ2 H2):=by
 refine ⟨λ i m σ H=>m=xs.length - i /\ i <= xs.length /\ Pv i σ H,⟨xs.length,by simp,yaQ _,h0⟩,?_⟩;rintro i m σ H ⟨rfl,hi,p⟩;have q:=hl i σ H hi p;by_cases hlt:i < xs.length
 ·refine .inr ⟨⟨xs,xs[i],q,by simp [hlt]⟩,Pv (i + 1),λ σ' H' p'=>⟨xs.length - (i + 1),by omega,rfl,hlt,p'⟩,λ x H' y=>?_⟩;obtain ⟨e,y⟩:=y;subst e;exact hs i x σ _ (y xs q) p
 ·have e : i = xs.length := by omega
  subst e;exact .inl ⟨⟨xs,q,yag _⟩,hd σ H p⟩
def ziU {lo:Int} {n:Nat} {g:TG} {tb:TS} {D:Ends} {σ:St} {H:Hp} (Pv:Nat -> St -> Hp -> Prop) (h0:Pv 0 σ H)
  (hs:∀ i σ H,i < n -> Pv i σ H -> g (.int (lo + i)) σ H λ σ2 H2=>tb { D with nx:=Pv (i + 1),ct:=Pv (i + 1),bk:=D.nx } σ2 H2) (hd:∀ σ H,Pv n σ H -> D.nx σ H) :
  ∃ W:Nat -> Nat -> St -> Hp -> Prop,(∃ m,W 0 m σ H) /\ ∀ i m σ H,W i m σ H ->
   ((Itr lo n).stop i H /\ D.nx σ H) \/ ((Itr lo n).go i H /\ ∃ N:St -> Hp -> Prop,(∀ σ' H',N σ' H' -> ∃ m',m' < m /\ W (i + 1) m' σ' H') /\ ∀ x H',(Itr lo n).yld i H x H' -> g x σ H' λ σ2 H2=>tb { D with nx:=N,ct:=N,bk:=D.nx } σ2 H2):=by
 refine ⟨λ i m σ H=>m=n - i /\ i <= n /\ Pv i σ H,⟨n,by simp,yaQ _,h0⟩,?_⟩;rintro i m σ H ⟨rfl,hi,p⟩;by_cases hlt:i < n
 ·refine .inr ⟨hlt,Pv (i + 1),λ σ' H' p'=>⟨n - (i + 1),by omega,rfl,hlt,p'⟩,λ x H' y=>?_⟩;obtain ⟨e,y⟩:=y;subst e y;exact hs i σ _ hlt p
 ·have e : i = n := by omega
  subst e;exact .inl ⟨yag _,hd σ H p⟩
noncomputable abbrev R2:=V -> V -> Hp -> VK -> Prop
noncomputable def OpR (X:Cx) (f:Value -> Value -> Sem Value) (r:R2):Prop:=
 ∀ (pins:List (Addr × Obj)) (s:Shared) (σ:St) (H:Hp) (x y:V) (v u:Value) (Q:VK),Inv X pins σ H s -> RelV x v -> RelV y u -> r x y H Q ->
  wpAny (model X.prog X.w) X.A (f v u) (EP X pins σ Q) X.xe s
noncomputable def UnR (X:Cx) (f:Value -> Sem Value) (r:V -> Hp -> VK -> Prop):Prop:=
 ∀ (pins:List (Addr × Obj)) (s:Shared) (σ:St) (H:Hp) (x:V) (v:Value) (Q:VK),Inv X pins σ H s -> RelV x v -> r x H Q ->
  wpAny (model X.prog X.w) X.A (f v) (EP X pins σ Q) X.xe s
noncomputable def zbk (X:Cx) (f:Value) (r:List V -> Hp -> VK -> Prop):Prop:=
 ∀ (pins:List (Addr × Obj)) (s:Shared) (σ:St) (H:Hp) (xs:List V) (us:List Value) (Q:VK),Inv X pins σ H s -> Vals xs us -> r xs H Q ->
  wpAny (model X.prog X.w) X.A (call f us) (EP X pins σ Q) X.xe s
noncomputable def tOp (r:R2) (ta tb:TE):TE:=λ σ H Q=>ta σ H λ x H1=>tb σ H1 λ y H2=>r x y H2 Q
noncomputable def tUn (r:V -> Hp -> VK -> Prop) (ta:TE):TE:=λ σ H Q=>ta σ H λ x H1=>r x H1 Q
noncomputable def rI (C:Int -> Int -> Prop) (g:Int -> Int -> V):R2:=λ x y H Q=>∃ i j,x=.int i /\ y=.int j /\ C i j /\ Q (g i j) H
noncomputable def rI0 (g:Int -> Int -> V):R2:=λ x y H Q=>∃ i j,x=.int i /\ y=.int j /\ Q (g i j) H
noncomputable def rU (g:Int -> V):V -> Hp -> VK -> Prop:=λ x H Q=>∃ i,x=.int i /\ Q (g i) H
section
variable {X:Cx} {a b c:Expr} {ta tb tc:TE} {pos:Pos}
def binT (ha:PE X a ta) (hb:PE X b tb) {pins:List (Addr × Obj)} {s:Shared} {σ:St} {H:Hp} {R:V -> V -> Hp -> Prop} (I:Inv X pins σ H s)
  (h:ta σ H λ x H1=>tb σ H1 λ y H2=>R x y H2) {Q:Value -> Shared -> Prop} {f:Value -> Value -> Sem Value}
  (hf:∀ v u s2 x y H2,Inv X pins σ H2 s2 -> RelV x v -> RelV y u -> R x y H2 -> wpAny (model X.prog X.w) X.A (f v u) Q X.xe s2) :
  wpAny (model X.prog X.w) X.A (eval a X.env) (λ v s₁=>wpAny (model X.prog X.w) X.A (eval b X.env) (λ u s₂=>wpAny (model X.prog X.w) X.A (f v u) Q X.xe s₂) X.xe s₁) X.xe s:=by
 refine thn (ha pins s σ H _ I h) λ v s1 ⟨x,H1,I1,r1,q1⟩=>?_;refine thn (hb pins s1 σ H1 _ I1 q1) λ u s2 ⟨y,H2,I2,r2,q2⟩=>?_;exact hf v u s2 x y H2 I2 r1 r2 q2
def zan {op:Operator} {r:R2} (ho:OpR X (binaryOp op) r) (ha:PE X a ta) (hb:PE X b tb):PE X (.BinOp a op b pos) (tOp r ta tb):=by
 intro pins s σ H Q I h;exact wpAny_BinOp (binT ha hb I h λ v u s2 x y H2 I2 rx ry q=>ho pins s2 σ H2 x y v u Q I2 rx ry q)
def zgG {op:UnaryOp} {r:V -> Hp -> VK -> Prop} (ho:UnR X (unaryOp op) r) (ha:PE X a ta):PE X (.UnaryOp op a pos) (tUn r ta):=by
 intro pins s σ H Q I h;exact UnaryOp_ (thn (ha pins s σ H _ I h) λ v s1 ⟨x,H1,I1,r1,q1⟩=>ho pins s1 σ H1 x v Q I1 r1 q1)
def opI {f:Value -> Value -> Sem Value} {C:Int -> Int -> Prop} {g:Int -> Int -> Int}
    (rule:∀ (i j:Int) (t u:Tok) (s:Shared) (Q:Value -> Shared -> Prop) (E:Value -> Shared -> Prop),C i j -> Q (.int (g i j) s.toks) { s with toks:=s.toks + 1 } -> wpAny (model X.prog X.w) X.A (f (.int i t) (.int j u)) Q E s) :
    OpR X f (rI C λ i j=>.int (g i j)):=by
  intro pins s σ H x y v u Q I rx ry h;obtain ⟨i,j,rfl,rfl,hc,q⟩:=h;obtain ⟨t,rfl⟩:=rx;obtain ⟨t',rfl⟩:=ry;exact rule i j t t' s _ _ hc ⟨.int (g i j),H,I.tok _,⟨_,rfl⟩,q⟩
def opI0 {f:Value -> Value -> Sem Value} {g:Int -> Int -> Int}
    (rule:∀ (i j:Int) (t u:Tok) (s:Shared) (Q:Value -> Shared -> Prop) (E:Value -> Shared -> Prop),Q (.int (g i j) s.toks) { s with toks:=s.toks + 1 } -> wpAny (model X.prog X.w) X.A (f (.int i t) (.int j u)) Q E s) :
    OpR X f (rI0 λ i j=>.int (g i j)):=by
  intro pins s σ H x y v u Q I rx ry h;obtain ⟨i,j,rfl,rfl,q⟩:=h;obtain ⟨t,rfl⟩:=rx;obtain ⟨t',rfl⟩:=ry;exact rule i j t t' s _ _ ⟨.int (g i j),H,I.tok _,⟨_,rfl⟩,q⟩
def opB0 {f:Value -> Value -> Sem Value} {g:Int -> Int -> Bool}
    (rule:∀ (i j:Int) (t u:Tok) (s:Shared) (Q:Value -> Shared -> Prop) (E:Value -> Shared -> Prop),Q (.bool (g i j)) s -> wpAny (model X.prog X.w) X.A (f (.int i t) (.int j u)) Q E s) :
    OpR X f (rI0 λ i j=>.bl (g i j)):=by
  intro pins s σ H x y v u Q I rx ry h;obtain ⟨i,j,rfl,rfl,q⟩:=h;obtain ⟨t,rfl⟩:=rx;obtain ⟨t',rfl⟩:=ry;exact rule i j t t' s _ _ ⟨.bl (g i j),H,I,rfl,q⟩
noncomputable def CPow (i j:Int):Prop:=0 <= j /\ j <= 1000000 /\ i.natAbs < 2 ^ 64
noncomputable def CMul (i j:Int):Prop:=(-(2 ^ 64) < i /\ i < 2 ^ 64) \/ (-(2 ^ 64) < j /\ j < 2 ^ 64)
def CMul.ok {i j:Int} (h:CMul i j):IntMulOk i j:=by
 rcases h with ⟨h1,h2⟩ | ⟨h1,h2⟩
 ·exact .of_left (intBits_le_64 h1 h2)
 ·exact .of_right (intBits_le_64 h1 h2)
def zhP (k:Nat):(0:Int) <= 2 ^ k:=by
 rw [two_pow_cast];exact Int.natCast_nonneg _
def zmo:OpR X (binaryOp .Add) (rI0 λ i j=>.int (i + j)):=opI0 λ _ _ _ _ _ _ _ q=>add_int q
def za7:OpR X (binaryOp .Sub) (rI0 λ i j=>.int (i - j)):=opI0 λ _ _ _ _ _ _ _ q=>sub_int q
def znX:OpR X (binaryOp .Mult) (rI CMul λ i j=>.int (i * j)):=opI λ _ _ _ _ _ _ _ hc q=>mul_int q hc.ok
def zcW:OpR X (binaryOp .Mod) (rI (λ _ j=>0 < j) λ i j=>.int (i % j)):=opI λ i j _ _ _ _ _ hc q=>by
 have h1:(0:Int) < j:=hc;exact mod_int' (1:) (by rw [Int.fmod_eq_emod_of_nonneg i (1:)]; exact q)
def znq:OpR X (binaryOp .Pow) (rI CPow λ i j=>.int (i ^ j.toNat)):=opI λ _ _ _ _ _ _ _ hc q=>pow_int_small hc.1 hc.2.1 hc.2.2 q
def zck:OpR X (binaryOp .LShift) (rI CPow λ i j=>.int (i * 2 ^ j.toNat)):=opI λ _ _ _ _ _ _ _ hc q=>lshift_int_small hc.1 hc.2.1 hc.2.2 q
def zfs:OpR X (binaryOp .RShift) (rI (λ _ j=>0 <= j) λ i j=>.int (i / 2 ^ j.toNat)):=opI λ i j _ _ _ _ _ hc q=>
 rshift_int hc (by rw [Int.fdiv_eq_ediv_of_nonneg i (zhP _)]; exact q)
def zdG:OpR X (binaryOp .BitAnd) (rI0 λ i j=>.int (Builtin.bitAnd i j)):=opI0 λ _ _ _ _ _ _ _ q=>and_int q
def zmW:OpR X (binaryOp .BitOr) (rI0 λ i j=>.int (Builtin.bitOr i j)):=opI0 λ _ _ _ _ _ _ _ q=>or_int q
def unI {f:Value -> Sem Value} {g:Int -> Int}
    (rule:∀ (i:Int) (t:Tok) (s:Shared) (Q:Value -> Shared -> Prop) (E:Value -> Shared -> Prop),Q (.int (g i) s.toks) { s with toks:=s.toks + 1 } -> wpAny (model X.prog X.w) X.A (f (.int i t)) Q E s) :
    UnR X f (rU λ i=>.int (g i)):=by
  intro pins s σ H x v Q I rx h;obtain ⟨i,rfl,q⟩:=h;obtain ⟨t,rfl⟩:=rx;exact rule i t s _ _ ⟨.int (g i),H,I.tok _,⟨_,rfl⟩,q⟩
def zdZ:UnR X (unaryOp .USub) (rU λ i=>.int (-i)):=unI λ _ _ _ _ _ q=>neg_int q
end
section
variable {X:Cx} {a b c:Expr} {ta tb tc:TE} {pos:Pos}
def zn2 {pins:List (Addr × Obj)} {σ:St} {H:Hp} {s:Shared} {Q:VK} {k k':Bool} (I:Inv X pins σ H s) (q:Q (.bl k) H) (e:k=k'):EP X pins σ Q (.bool k') s:=by
 subst e;exact ⟨.bl k,H,I,rfl,q⟩
def zhZ:OpR X (compareOp .Lt) (rI0 λ i j=>.bl (decide (i < j))):=opB0 λ _ _ _ _ _ _ _ q=>lt_int q
def zme:OpR X (compareOp .LtE) (rI0 λ i j=>.bl (decide (i <= j))):=opB0 λ _ _ _ _ _ _ _ q=>le_int q
def zlw:OpR X (compareOp .Gt) (rI0 λ i j=>.bl (decide (j < i))):=opB0 λ _ _ _ _ _ _ _ q=>gt_int q
def zjU:OpR X (compareOp .GtE) (rI0 λ i j=>.bl (decide (j <= i))):=opB0 λ _ _ _ _ _ _ _ q=>ge_int q
def zmP:OpR X (compareOp .Is) (λ x y H Q=>y=.non /\ Q (.bl (decide (x=.non))) H):=by
 intro pins s σ H x y v u Q I rx ry h;obtain ⟨rfl,q⟩:=h;cases ry;refine is_none_gen (zn2 I q ?_)
 cases x <;> first
  | (cases rx; rfl)
  | (obtain ⟨t,rfl⟩:=rx; rfl)
def OpR.or {f:Value -> Value -> Sem Value} {r r':R2} (h:OpR X f r) (h':OpR X f r'):OpR X f (λ x y H Q=>r x y H Q \/ r' x y H Q):=by
 intro pins s σ H x y v u Q I rx ry q;rcases q with q | q
 ·exact h pins s σ H x y v u Q I rx ry q
 ·exact h' pins s σ H x y v u Q I rx ry q
def zao (b:Expr) {op:CmpOp} (h:op ≠ .In:=by decide) (h2:op ≠ .NotIn:=by decide):behindInMarks op b=false:=by
 have e1:(op == CmpOp.In)=false:=by cases op <;> first | rfl | exact absurd rfl h
 have e2:(op == CmpOp.NotIn)=false:=by cases op <;> first | rfl | exact absurd rfl h2
 cases b <;> simp [behindInMarks,e1,e2]
def zek {op:CmpOp} {r:R2} (ho:OpR X (compareOp op) r) (ha:PE X a ta) (hb:PE X b tb) (hm:behindInMarks op b=false):PE X (.Compare a [op] [b] pos) (tOp r ta tb):=by
 intro pins s σ H Q I h;exact wpAny_Compare1 (binT ha hb I h λ v u s2 x y H2 I2 rx ry q=>ho pins s2 σ H2 x y v u Q I2 rx ry q) hm
noncomputable def zml (t:TE):TT:=λ σ H Q=>t σ H λ x H'=>∃ k,x=.bl k /\ Q k H'
def zai {op:CmpOp} {r:R2} (ho:OpR X (compareOp op) r) (ha:PE X a ta) (hb:PE X b tb) (hm:behindInMarks op b=false):PT X (.Compare a [op] [b] pos) (zml (tOp r ta tb)):=by
 intro pins s σ H Q I h
 refine wpAny_isTrue_Compare1 (thn (ha pins s σ H _ I h) λ v s1 ⟨x,H1,I1,r1,q1⟩=>thn (hb pins s1 σ H1 _ I1 q1) λ u s2 ⟨y,H2,I2,r2,q2⟩=>
  thn (ho pins s2 σ H2 x y v u _ I2 r1 r2 q2) λ c s3 ⟨z,H3,I3,r3,k,e,q3⟩=>?_) hm
 subst e;cases r3;exact wpAny_truthy_bool ⟨H3,I3,q3⟩
noncomputable def zk7 (r r':R2) (ta tb tc:TE):TE:=λ σ H Q=>ta σ H λ x H1=>tb σ H1 λ y H2=>r x y H2 λ z H3=>∃ k,z=.bl k /\
 (if k=true then tc σ H3 λ w' H4=>r' y w' H4 Q else Q (.bl false) H3)
def zhA {op op':CmpOp} {r r':R2} (ho:OpR X (compareOp op) r) (ho':OpR X (compareOp op') r') (ha:PE X a ta) (hb:PE X b tb) (hc:PE X c tc)
  (hm:lastMarks [op,op'] [b,c]=false:=by with_unfolding_all rfl):PE X (.Compare a [op,op'] [b,c] pos) (zk7 r r' ta tb tc):=by
 intro pins s σ H Q I h
 refine Compare_chain (thn (ha pins s σ H _ I h) λ v s1 ⟨x,H1,I1,r1,q1⟩=>chain_link (thn (hb pins s1 σ H1 _ I1 q1) λ u s2 ⟨y,H2,I2,r2,q2⟩=>
  thn (ho pins s2 σ H2 x y v u _ I2 r1 r2 q2) λ d s3 ⟨z,H3,I3,r3,k,e,q3⟩=>?_)) hm
 subst e;cases r3;refine wpAny_truthy_bool ?_;cases k with
 | false=>exact ite_ff ⟨.bl false,H3,I3,rfl,q3⟩
 | true=>exact ite_tt (chain_last (thn (hc pins s3 σ H3 _ I3 q3) λ w' s4 ⟨z',H4,I4,r4,q4⟩=>ho' pins s4 σ H4 y z' u w' Q I4 r2 r4 q4))
def zgc:(sizeLine:Nat) < 2 ^ 63:=by rw [sizeLine_eq]; decide
def zlK {x:V} {us:List Value} (r:Vals [x] us):∃ u,us=[u] /\ RelV x u:=by
 cases r with
 | cons r1 r2=>cases r2; exact ⟨_,rfl,r1⟩
def znR {x y:V} {us:List Value} (r:Vals [x,y] us):∃ u w',us=[u,w'] /\ RelV x u /\ RelV y w':=by
 cases r with
 | cons r1 r2=>
  cases r2 with
  | cons r3 r4=>cases r4; exact ⟨_,_,rfl,r1,r3⟩
def zki:zbk X (.builtin "abs") (λ xs H Q=>∃ i,xs=[.int i] /\ Q (.int (if i < 0 then -i else i)) H):=by
 intro pins s σ H xs us Q I r h;obtain ⟨i,rfl,q⟩:=h;obtain ⟨u,rfl,t,rfl⟩:=zlK r;exact call_abs_int λ u tk=>⟨.int (if i < 0 then -i else i),H,I.tok _,⟨_,rfl⟩,q⟩
def zjv (hc:X.calm=true):zbk X (.builtin "max") (λ xs H Q=>∃ i j,xs=[.int i,.int j] /\ Q (.int (if j > i then j else i)) H):=by
 intro pins s σ H xs us Q I r h;obtain ⟨i,j,rfl,q⟩:=h;obtain ⟨u,w',rfl,⟨t,rfl⟩,⟨t',rfl⟩⟩:=znR r;refine max_two_ints (I.ok.hd hc) λ h' tk k=>⟨_,H,I.kept k,?_,q⟩
 by_cases hj:j > i
 ·rw [if_pos hj,if_pos hj]; exact ⟨_,rfl⟩
 ·rw [if_neg hj,if_neg hj]; exact ⟨_,rfl⟩
def zin (hc:X.calm=true):zbk X (.builtin "min") (λ xs H Q=>∃ i j,xs=[.int i,.int j] /\ Q (.int (if j < i then j else i)) H):=by
 intro pins s σ H xs us Q I r h;obtain ⟨i,j,rfl,q⟩:=h;obtain ⟨u,w',rfl,⟨t,rfl⟩,⟨t',rfl⟩⟩:=znR r;refine min_two_ints (I.ok.hd hc) λ h' tk k=>⟨_,H,I.kept k,?_,q⟩
 by_cases hj:j < i
 ·rw [if_pos hj,if_pos hj]; exact ⟨_,rfl⟩
 ·rw [if_neg hj,if_neg hj]; exact ⟨_,rfl⟩
noncomputable def LenV (K:PySem.W.Frag) (x:V) (H:Hp) (n:Nat):Prop:=
 match x with
 | .str y=>y.length <= sizeLine /\ n=y.length
 | .byt y=>y.size <= sizeLine /\ n=y.size
 | .ref p=>(∃ xs,SqL K H p xs /\ n=xs.length) \/ ∃ xs,SqT K H p xs /\ n=xs.length
 | _=>False
def zj7:zbk X (.builtin "len") (λ xs H Q=>∃ x n,xs=[x] /\ LenV X.K x H n /\ Q (.int n) H):=by
 intro pins s σ H xs us Q I r h;obtain ⟨x,n,rfl,e,q⟩:=h;obtain ⟨u,rfl,rx⟩:=zlK r;have hl:=zgc;have hs:sizeLine=16777216:=sizeLine_eq;cases x with
 | str y=>
  obtain ⟨t,rfl⟩:=rx;obtain ⟨hy,e'⟩:y.length <= sizeLine /\ n=y.length:=e;subst e';exact len_str (1:) ⟨.int _,H,I.tok _,⟨_,rfl⟩,q⟩
 | byt y=>
  obtain ⟨t,rfl⟩:=rx;obtain ⟨hy,e'⟩:y.size <= sizeLine /\ n=y.size:=e;subst e';exact PySem.W.len_bytes (1:) ⟨.int _,H,I.tok _,⟨_,rfl⟩,q⟩
 | ref p=>
  cases rx;have e':(∃ xs,SqL X.K H p xs /\ n=xs.length) \/ ∃ xs,SqT X.K H p xs /\ n=xs.length:=e;rcases e' with ⟨xs,hx,e'⟩ | ⟨xs,hx,e'⟩
  ·subst e';obtain ⟨its,r',pl,hz⟩:=I.list hx;have hlen:=r'.length;exact Calls.call_len_list pl.isList (by simp only [yak]; omega) ⟨.int xs.length,H,I.tok _,⟨_,by simp only [yak]; rw [hlen]⟩,q⟩
  ·subst e';obtain ⟨its,r',pl,hz⟩:=I.tuple hx;have hlen:=r'.length;exact len_tuple pl (by simp only [yak]; omega) ⟨.int xs.length,H,I.tok _,⟨_,by simp only [yak]; rw [hlen]⟩,q⟩
 | _=>exact (show False from e).elim
end
structure ObjM (h:Heap) (x dx C:Addr) (mA:Str -> Option Value):Prop where
 obj:h.get? x=some (PySem.W.instObj C dx)
 ns:h.Ns1 dx mA
 ne:dx ≠ x
def ziG {h:Heap} {dx:Addr} {mA:Str -> Option Value} (n:h.Ns1 dx mA):∃ od,h.get? dx=some od /\ ∀ name,PySem.W.lookIn name od=some (mA name):=by
 obtain ⟨o,es,ep,ho,hd,hk,_,hm⟩:=n;refine ⟨o,ho,λ name=>?_⟩;have e:=hm name;unfold nsFind findBy at e;rw [<- Array.find?_toList] at e;unfold PySem.W.lookIn;rw [hd];dsimp only
 split
 ·rename_i y q;rw [q] at e;exact congrArg some e
 ·rename_i q;rw [q] at e
  have a:es.toList.any (·.refKey)=false:=by
   rw [List.any_eq_false];intro y hy;obtain ⟨z,t,hkey⟩:=hk y (Array.mem_toList_iff.mp hy);simp [DictEntry.refKey,hkey]
  have a':¬ es.toList.any (·.refKey)=true:=by rw [a]; exact yaq
  rw [if_neg a'];exact congrArg some e
def ObjM.look {h:Heap} {x dx C:Addr} {mA:Str -> Option Value} (I:ObjM h x dx C mA):∃ od,PySem.W.InstAt h x (PySem.W.instObj C dx) C (some od) /\ ∀ name,PySem.W.lookIn name od=some (mA name):=
 let ⟨od,ho,hl⟩:=ziG I.ns
 ⟨od,⟨I.obj,rfl,rfl,ho⟩,hl⟩
section
variable {prog:Program} {w:World} {A:Around} {E:Value -> Shared -> Prop} {s:Shared} {K:PySem.W.Frag} {x dx C f:Addr} {mA:Str -> Option Value} {name:Str} {v:Value}
end
def RelO.some_of {v:V} {o:Option Value} (r:RelO (some v) o):∃ u,o=some u /\ RelV v u:=by
 cases o with
 | none=>exact (show False from r).elim
 | some u=>exact ⟨u,rfl,r⟩
section
variable {P:Program} {w:World} {H H':Hp} {h h':Heap} {a C dx:Addr} {fs fs':List (Str × V)}
def zja (hok:HOk P w H h) (e:H a=some (.ins C dx fs)):∃ mA,ObjM h a dx C mA /\ (∀ f,RelO (fs.lookup f) (mA f)) /\ PySem.Within mA (fs.map (·.1)) /\ fs.length <= 1000 /\ H dx=some (.own a):=by
 obtain ⟨d,z,ne,ob,mA,n,r,q⟩:=(show zaN P w H h a (.ins C dx fs) from hok a _ e)
 exact ⟨mA,⟨ob,n,ne⟩,r,q,z,d⟩
end
structure Cls (K:PySem.W.Frag) (C:Addr):Prop where
 pg:PySem.W.plainGet K C Str.empty=true
 hd:PySem.W.hasDictIn K C=true
 po:PySem.W.plainOver K C=true
 sa:PySem.W.findIn K (.ref C) "__setattr__"=some (some (.builtin "object.__setattr__"))
def Cls.get {K:PySem.W.Frag} {C:Addr} (c:Cls K C) (f:Str):PySem.W.plainGet K C f=true:=c.pg
section
variable {X:Cx} {pins:List (Addr × Obj)} {σ:St} {H:Hp} {s:Shared} {a C dx:Addr} {fs:List (Str × V)} {f:Str} {v:V} {A:Around} {E:Value -> Shared -> Prop}
end
section
variable {X:Cx} {o e value:Expr} {f:Str} {pos pos' tpos:Pos} {ta tv:TE}
end
section
variable {X:Cx} {pins:List (Addr × Obj)} {σ:St} {H:Hp} {s:Shared} {A:Around} {E:Value -> Shared -> Prop} {Q:Value -> Shared -> Prop} {c:Value} {b:Bool}
inductive TyOf (K:PySem.W.Frag) (H:Hp):V -> Value -> Prop where
 | non:TyOf K H .non (.type "NoneType")
 | bl (x:Bool):TyOf K H (.bl x) (.type "bool")
 | int (i:Int):TyOf K H (.int i) (.type "int")
 | str (x:Str):TyOf K H (.str x) (.type "str")
 | flt (x:UInt64):TyOf K H (.flt x) (.type "float")
 | lst {a:Addr} {xs:List V} (e:H a=some (.lst xs)):TyOf K H (.ref a) (.type "list")
 | frz {a:Addr} {o:Obj} {xs:List V} (e:H a=some (.frz o (.lst xs))):TyOf K H (.ref a) (.type "list")
 | tup {a:Addr} {xs:List V} (e:H a=some (.tup xs)):TyOf K H (.ref a) (.type "tuple")
 | dK {a:Addr} {kvs:List (Key × V)} (e:H a=some (.dK kvs)):TyOf K H (.ref a) (.type "dict")
 | dT {a:Addr} {kvs:List (List Key × V)} (e:H a=some (.dT kvs)):TyOf K H (.ref a) (.type "dict")
 | ins {a C dx:Addr} {fs:List (Str × V)} (e:H a=some (.ins C dx fs)) (cl:Cls K C) (ha:PySem.W.findIn K (.ref C) "__class__"=some (some (.builtin "object.__class__")))
   (hn:PySem.W.specialIn K (.builtin "object.__class__") "__get__"=some (some (.builtin "getset_descriptor.__get__"))) (htk:PySem.W.takesIn K (.builtin "object.__class__")=some true)
   (hm:PySem.W.mroIn K C (.type "object")=some true):TyOf K H (.ref a) (.ref C)
def ziM {x:V} {u t:Value} (I:Inv X pins σ H s) (rx:RelV x u) (ty:TyOf X.K H x t) (e:PySem.W.kitOne X.K t c=some b) (h:∀ tk,Q (.bool b) { s with toks:=tk }) :
  wpAny (model X.prog X.w) A (call (.builtin "isinstance") [u,c]) Q E s:=by
 cases ty with
 | non=>cases (show u=Value.none from rx); exact ya1 PySem.W.kitx_none I.kIn True.intro e (λ z=>nomatch z) h
 | bl y=>cases (show u=Value.bool y from rx); exact ya1 PySem.W.kitx_bool I.kIn True.intro e (λ z=>nomatch z) h
 | int i=>obtain ⟨t,q⟩:=(show ∃ t,u=Value.int i t from rx); cases q; exact ya1 PySem.W.kitx_int I.kIn True.intro e (λ z=>nomatch z) h
 | str y=>obtain ⟨t,q⟩:=(show ∃ t,u=Value.str y t from rx); cases q; exact ya1 PySem.W.kitx_str I.kIn True.intro e (λ z=>nomatch z) h
 | flt y=>obtain ⟨t,q⟩:=(show ∃ t,u=Value.float y t from rx); cases q; exact ya1 PySem.W.kitx_float I.kIn True.intro e (λ z=>nomatch z) h
 | @lst a xs ea=>
  cases (show u=Value.ref a from rx);obtain ⟨_,_,n,_,h1⟩:=(show zaN X.prog X.w H s.heap a (.lst xs) from I.hok a _ ea)
  exact ya1 ycb I.kIn ⟨_,h1,rfl⟩ e (λ z=>nomatch z) h
 | @frz a ob xs ea=>
  cases (show u=Value.ref a from rx);obtain ⟨_,_,_,n,_,h1⟩:=(show zaN X.prog X.w H s.heap a (.frz ob (.lst xs)) from I.hok a _ ea)
  exact ya1 ycb I.kIn ⟨_,h1,rfl⟩ e (λ z=>nomatch z) h
 | @tup a xs ea=>
  cases (show u=Value.ref a from rx);obtain ⟨_,_,_,p⟩:=(show zaN X.prog X.w H s.heap a (.tup xs) from I.hok a _ ea)
  obtain ⟨o,h1,h2,_⟩:=p;exact ya1 PySem.W.kitx_tuple I.kIn ⟨o,h1,h2⟩ e (λ z=>nomatch z) h
 | @dK a kvs ea=>
  cases (show u=Value.ref a from rx);obtain ⟨_,_,vs,_,p⟩:=(show zaN X.prog X.w H s.heap a (.dK kvs) from I.hok a _ ea)
  obtain ⟨o,es,ep,h1,h2,_⟩:=p;exact ya1 ycc I.kIn ⟨o,h1,h2.1⟩ e (λ z=>nomatch z) h
 | @dT a kvs ea=>
  cases (show u=Value.ref a from rx);obtain ⟨_,_,xs,_,o,es,ep,h1,h2,_⟩:=(show zaN X.prog X.w H s.heap a (.dT kvs) from I.hok a _ ea)
  exact ya1 ycc I.kIn ⟨o,h1,h2.1⟩ e (λ z=>nomatch z) h
 | @ins a C dx fs ea cl ha hn htk hm=>
  cases (show u=Value.ref a from rx);obtain ⟨mA,O,_⟩:=zja I.hok ea;obtain ⟨od,J,_⟩:=O.look;exact ya1 (PySem.W.kitx_own (cl.get _) cl.hd ha hn htk hm) I.kIn J e (λ z=>nomatch z) h
end
structure Room (k:Nat) (A:Around):Prop where
 hd:A.handled=none
 dp:A.depth + 3 * k + 5 < recursionLimit
 un:A.units + 16 * k + 200 < cLine
def Room.mono {j k:Nat} {A:Around} (r:Room k A) (h:j <= k):Room j A:=⟨r.hd,by have:=r.dp; omega,by have:=r.un; omega⟩
def Room.deeper {k:Nat} {A:Around} (r:Room (k + 1) A) (env:Env):Room k (A.deeper env):=
 ⟨r.hd,by have:=r.dp; show A.depth + 1 + 3 * k + 5 < _; omega,by have:=r.un; show A.units + 3 + 16 * k + 200 < _; omega⟩
def Room.depth {k:Nat} {A:Around} (r:Room k A):A.depth < recursionLimit:=by have:=r.dp; omega
def Room.units {k:Nat} {A:Around} (r:Room k A):A.units + 64 < cLine:=by have:=r.un; omega
noncomputable def tNil:TA:=λ _ H Q=>Q [] H
noncomputable def ziX (ta:TE) (tr:TA):TA:=λ σ H Q=>ta σ H λ x H1=>tr σ H1 λ xs H2=>Q (x :: xs) H2
section
variable {X:Cx} {e:Expr} {es:List Expr} {te:TE} {t:TA} {pos:Pos}
def zab:PA X [] tNil:=λ _ _ _ _ H Q I h=>ycd ⟨[],H,I,.nil,h⟩
def zaa (ha:PE X e te) (hr:PA X es t) (hs:starEach (e :: es) X.env=(false,eval e X.env) :: starEach es X.env:=by rfl):PA X (e :: es) (ziX te t):=by
 intro pos pins s σ H Q I h;rw [hs];show wpAny _ _ (spliced ((false,eval e X.env) :: backTo pos (starEach es X.env))) _ _ s;refine yb4 (thn (ha pins s σ H _ I h) λ u s1 ⟨x,H1,I1,r1,q1⟩=>?_);exact thn (hr pos pins s1 σ H1 _ I1 q1) λ us s2 ⟨xs,H2,I2,r2,q2⟩=>⟨x :: xs,H2,I2,.cons r1 r2,q2⟩
noncomputable def tTup (t:TA):TE:=λ σ H Q=>t σ H λ xs H1=>xs.length <= sizeLine /\ ∀ p,H1 p=none -> Q (.ref p) (upd H1 p (.tup xs))
noncomputable def tLst (t:TA):TE:=λ σ H Q=>t σ H λ xs H1=>xs.length <= sizeLine /\ ∀ p,H1 p=none -> Q (.ref p) (upd H1 p (.lst xs))
def zaW {x1} (h:PA X es t):PE X (.Tuple es x1 pos) (tTup t):=by
 intro pins s σ H Q I hq;refine wpAny_Tuple_spliced (thn (h pos pins s σ H _ I hq) λ us s1 ⟨xs,H1,I1,r,z,q⟩=>⟨by rw [<- r.length]; exact z,?_⟩);have hf:H1 s1.heap.objs.size=none:=I1.hok.fresh (yag _);refine ⟨.ref s1.heap.objs.size,upd H1 s1.heap.objs.size (.tup xs),I1.laid (t':=s1.toks) (λ b u e=>yab _ e) (yag _) ?_,rfl,q _ hf⟩;exact ⟨z,us,r,⟨_,yae _ rfl,rfl,rfl,_,rfl⟩⟩
def zbJ (h:PA X es t):PE X (.List es pos) (tLst t):=by
 intro pins s σ H Q I hq;refine wpAny_List_spliced (thn (h pos pins s σ H _ I hq) λ us s1 ⟨xs,H1,I1,r,z,q⟩=>⟨by rw [<- r.length]; exact z,?_⟩);have hf:H1 s1.heap.objs.size=none:=I1.hok.fresh (yag _);refine ⟨.ref s1.heap.objs.size,upd H1 s1.heap.objs.size (.lst xs),I1.laid (t':=s1.toks) (λ b u e=>yab _ e) (yag _) ?_,rfl,q _ hf⟩;exact ⟨z,us,0,r,yae _ rfl⟩
end
noncomputable abbrev Sp:=List V -> Hp -> VK -> XK -> Prop
noncomputable abbrev CXT:=List Env -> Hp -> Shared -> XK -> Value -> Shared -> Prop
structure Env0 (P:Program) (w:World) (K:PySem.W.Frag) (mg:Str -> Option Value) (base:Heap) (A:Around) (outer:List Env) (s:Shared) (H:Hp):Prop where
 frames:A.frames=some outer
 mod:Mod K mg base
 bs:∀ b o,base.get? b=some o -> s.heap.get? b=some o /\ H b=none
 bsz:base.objs.size <= s.heap.objs.size
 funs:s.heap.FunFrames base outer
 frf:∀ b ∈ frs outer,H b=none
 hok:HOk P w H s.heap
 bare:AllBare s.gens
noncomputable def CE (outer:List Env) (P:Program) (w:World) (H:Hp) (s:Shared) (Q:VK) (u:Value) (s':Shared):Prop:=
 ∃ v H',s'.os=s.os /\ AllBare s'.gens /\ Un (frs outer) [] H H' s.heap s'.heap /\ HOk P w H' s'.heap /\ RelV v u /\ Q v H'
noncomputable def CR (CX:CXT) (outer:List Env) (P:Program) (w:World) (H:Hp) (s:Shared) (Q:VK) (E:XK) (r:Result) (s':Shared):Prop:=
 match r with
 | .ok (.ret u)=>CE outer P w H s Q u s'
 | .ok _=>False
 | .error e=>CX outer H s E e s'
structure FnOk (P:Program) (w:World) (K:PySem.W.Frag) (mg:Str -> Option Value) (base:Heap) (CX:CXT) (k:Nat) (f:Addr) (fd:FuncData) (ps:List Str) (sp:Sp):Prop where
 len:∀ vs H Q E,sp vs H Q E -> vs.length=ps.length
 run:∀ (A:Around) (outer:List Env) (s:Shared) (H:Hp) (args:Args) (us:List Value) (vs:List V) (Q:VK) (E:XK),Room k A -> Env0 P w K mg base A outer s H -> BindsTo s fd args (ps.zip us) -> Vals vs us -> sp vs H Q E ->
  codeAny (model P w) A (.call (.ref f) args) (CR CX outer P w H s Q E) s
section
variable {X:Cx} {pins:List (Addr × Obj)} {σ:St} {H:Hp} {s s':Shared}
def Inv.env0 (I:Inv X pins σ H s):Env0 X.prog X.w X.K X.mg X.base X.A X.stack s H:=
 ⟨I.ok.frames,I.ok.mod,I.bs,yaY I.ok.bsz I.sz,I.stack,I.stkFree,I.hok,I.bare⟩
def Inv.after {Q:VK} {u:Value} (I:Inv X pins σ H s) (h:CE X.stack X.prog X.w H s Q u s'):EP X pins σ Q u s':=by
 obtain ⟨v,H',os,bare,un,hok,r,q⟩:=h;obtain ⟨hh,g,d,t,os'⟩:=s';obtain rfl:os'=s.os:=os;exact ⟨v,H',I.call (h':=hh) (g':=g) (d':=d) (t':=t) (ch:=[]) un hok bare (λ b z=>absurd z (5:)),r,q⟩
end
noncomputable def zlH (sp:Sp) (dvs:List V) (E:XK) (t:TA):TE:=λ σ H Q=>t σ H λ vs H1=>sp (vs ++ dvs) H1 Q E
noncomputable def zgM (K:PySem.W.Frag) (fd:FuncData) (ps:List Str) (ds:List Value):Prop:=
 ∀ (s:Shared) (us:List Value),K.In s.heap -> (us ++ ds).length=ps.length -> BindsTo s fd ⟨us,[]⟩ (ps.zip (us ++ ds))
def zgM.all {K:PySem.W.Frag} {fd:FuncData} {ps:List Str} (h:∀ us:List Value,us.length=ps.length -> bindArgs fd ⟨us,[]⟩=pure (ps.zip us)):zgM K fd ps []:=λ s us _ hl=>by
 rw [ybq] at hl ⊢;exact .of_eq (h us hl)
noncomputable def ziE (CX:CXT) (X:Cx) (E:XK):Prop:=∀ (pins:List (Addr × Obj)) (σ:St) (H:Hp) (s:Shared) (e:Value) (s':Shared),Inv X pins σ H s -> CX X.stack H s E e s' -> X.xe e s'
section
variable {X:Cx} {CX:CXT} {k:Nat} {f C:Addr} {fd:FuncData} {ps:List Str} {sp:Sp} {dvs:List V} {ds:List Value} {E:XK} {x m:Str} {p pos apos:Pos} {e o:Expr} {es:List Expr} {ta:TE} {t:TA}
def znJ {pins:List (Addr × Obj)} {σ:St} {H:Hp} {s:Shared} {Q:VK} {us:List Value} {vs:List V} (F:FnOk X.prog X.w X.K X.mg X.base CX k f fd ps sp) (hr:Room k X.A) (hb:zgM X.K fd ps ds) (hd:Vals dvs ds) (hx:ziE CX X E)
  (I:Inv X pins σ H s) (r:Vals vs us) (h:sp (vs ++ dvs) H Q E):wpAny (model X.prog X.w) X.A (call (.ref f) us) (EP X pins σ Q) X.xe s:=by
 have r2:Vals (vs ++ dvs) (us ++ ds):=r.append hd;have hl:(us ++ ds).length=ps.length:=by rw [<- r2.length]; exact F.len _ _ _ _ h
 refine wpAny_call (codeAny_mono (F.run X.A X.stack s H ⟨us,[]⟩ (us ++ ds) (vs ++ dvs) Q E hr I.env0 (hb s us I.kIn hl) r2 h) λ r s' hq=>?_);cases r with
 | error e=>exact hx pins σ H s e s' I hq
 | ok fl=>
  cases fl with
  | ret u=>exact I.after hq
  | next=>exact False.elim hq
  | brk=>exact False.elim hq
  | cont=>exact False.elim hq
def zlI (F:FnOk X.prog X.w X.K X.mg X.base CX k f fd ps sp) (hr:Room k X.A) (hg:Gl X x) (hm:X.mg x=some (.ref f)) (hk:PySem.W.keepIn X.K (.ref f)=true) (hb:zgM X.K fd ps ds) (hd:Vals dvs ds) (hx:ziE CX X E)
  (ha:PA X (e :: es) t) (hdb:(x == ("__debug__":Str))=false:=by decide) (he:starEach (e :: es) X.env=(false,eval e X.env) :: starEach es X.env:=by rfl) (hpl:(backTo pos (starEach es X.env)).any (·.1)=false:=by rfl) :
  PE X (.Call (.Name x p) (e :: es) [] pos) (zlH sp dvs E t):=by
 intro pins s σ H Q I h;refine wpAny_Call_Name_kw (zjg I hg hm ?_ hdb);refine PySem.W.callWith_K (h₀:=X.base) I.ok.mod.kin hk (thn (ha pos pins s σ H _ I h) λ us s1 ⟨vs,H1,I1,r,q⟩=>⟨I1.kIn,?_⟩) he hpl;exact znJ F hr hb hd hx I1 r q
end
section
variable {X:Cx} {CX:CXT} {k:Nat} {f C:Addr} {fd:FuncData} {ps ks:List Str} {sp:Sp} {E:XK} {x m:Str} {p pos apos kpos:Pos} {e o:Expr} {es:List Expr} {kws:List Keyword} {te ta:TE} {t tk:TA} {nm:Option Str}
variable {g:List Value -> List Value -> List Value} {gV:List V -> List V -> List V}
end
structure FnScope (N P:List Str) (sc:Scope):Prop where
 kind:sc.kind=.function
 co:sc.isCoroutine=false
 gen:sc.isGenerator=false
 nd:N.Nodup
 pre:N.take P.length=P
 par:∀ x ∈ P,sc.names.lookup x=some .local \/ sc.names.lookup x=some .cell
 nofree:∀ y ∈ sc.names,y.2 ≠ .free
def zfD {kindOf:Str -> Option NameKind} {x:Str}:∀ {binds:List (Str × Value)} {m:Str -> Option Value},(∀ v,(x,v) ∉ binds) -> bindL kindOf binds m x=m x
 | [],_,_=>rfl
 | (n,v) :: r,m,h=>by
  unfold bindL;rw [zfD λ w hw=>h w (yan _ hw)]
  split
  ·have : x ≠ n := by rintro rfl; exact h v yay
   simp [this]
  ·rfl
def zf6 {kindOf:Str -> Option NameKind} {x:Str}:∀ {binds:List (Str × Value)} {m:Str -> Option Value},(∀ v,(x,v) ∉ binds) -> bindC kindOf binds m x=m x
 | [],_,_=>rfl
 | (n,v) :: r,m,h=>by
  unfold bindC;rw [zf6 λ w hw=>h w (yan _ hw)]
  split
  ·rfl
  ·have : x ≠ n := by rintro rfl; exact h v yay
   simp [this]
def zf1 {kindOf:Str -> Option NameKind} {x:Str} {v:Value}:∀ {P:List Str} {vs:List Value} {i:Nat} {m:Str -> Option Value},P.Nodup -> P[i]?=some x -> vs[i]?=some v -> kindOf x=some .local ->
    bindL kindOf (P.zip vs) m x=some v
  | [],_,_,_,_,h,_,_=>by simp at h
  | _ :: _,[],_,_,_,_,h,_=>by simp at h
  | p :: P,w :: vs,0,m,nd,h1,h2,hk=>by
    simp at h1 h2; subst h1; subst h2;show bindL kindOf ((p,w) :: P.zip vs) m p=_;unfold bindL;rw [zfD λ v hv=>(ybI.mp nd).1 (List.of_mem_zip hv).1,if_pos hk];simp
  | p :: P,w :: vs,i + 1,m,nd,h1,h2,hk=>by
    show bindL kindOf ((p,w) :: P.zip vs) m x=_;unfold bindL;exact zf1 (i:=i) (ybI.mp nd).2 (by simpa using h1) (by simpa using h2) hk
def zfG {kindOf:Str -> Option NameKind} {x:Str} {v:Value}:∀ {P:List Str} {vs:List Value} {i:Nat} {m:Str -> Option Value},P.Nodup -> P[i]?=some x -> vs[i]?=some v -> kindOf x ≠ some .local ->
    bindC kindOf (P.zip vs) m x=some v
  | [],_,_,_,_,h,_,_=>by simp at h
  | _ :: _,[],_,_,_,_,h,_=>by simp at h
  | p :: P,w :: vs,0,m,nd,h1,h2,hk=>by
    simp at h1 h2; subst h1; subst h2;show bindC kindOf ((p,w) :: P.zip vs) m p=_;unfold bindC;rw [zf6 λ v hv=>(ybI.mp nd).1 (List.of_mem_zip hv).1,if_neg hk];simp
  | p :: P,w :: vs,i + 1,m,nd,h1,h2,hk=>by
    show bindC kindOf ((p,w) :: P.zip vs) m x=_;unfold bindC;exact zfG (i:=i) (ybI.mp nd).2 (by simpa using h1) (by simpa using h2) hk
noncomputable def start (N:List Str) (vs:List V):St:=vs.map some ++ List.replicate (N.length - vs.length) none
noncomputable def cxOf (CX:CXT) (P:Program) (w:World) (K:PySem.W.Frag) (mg:Str -> Option Value) (base:Heap) (N:List Str) (qual:Str) (scope:Scope) (f:Addr) (cd:Value) (A:Around) (outer:List Env) (s:Shared) (H:Hp) (E:XK):Cx where
 prog:=P
 w:=w
 K:=K
 mg:=mg
 base:=base
 A:=A.deeper (envOfC qual scope s.heap.objs.size f cd)
 N:=N
 s₀:=s
 H₀:=H
 env:=envOfC qual scope s.heap.objs.size f cd
 outer:=outer
 stack:=envOfC qual scope s.heap.objs.size f cd :: outer
 ex:=[]
 calm:=true
 fn:=λ _=>true
 pn:=[]
 xe:=λ e s'=>wpAny (model P w) (A.deeper (envOfC qual scope s.heap.objs.size f cd)) (leaving (envOfC qual scope s.heap.objs.size f cd) e) (λ _ s''=>CX outer H s E e s'') (λ e' s''=>CX outer H s E e' s'') s'
def zhF {sc:Scope} {n:Nat} {x:Str} (h:sc.names.lookup x=some .cell):∃ c,(cellsFrom n sc.names []).lookup x=some c:=by
 have q:=PySem.W.cellsFrom_some sc.names n [] (.inl h);exact yb2.mp q
def zir {CX:CXT} {P:Program} {w:World} {K:PySem.W.Frag} {mg:Str -> Option Value} {base:Heap} {N ps:List Str} {qual:Str} {scope:Scope} {f:Addr} {cd:Value} {A:Around} {outer:List Env} {s s1:Shared} {H:Hp} {E:XK} {us:List Value} {vs:List V}
    (S:FnScope N ps scope) (hd:A.handled=none) (e0:Env0 P w K mg base A outer s H) (hl:vs.length=ps.length) (r:Vals vs us)
    (x:InCallC s s.heap.objs.size (bindL (envOfC qual scope s.heap.objs.size f cd).kindOf (ps.zip us) λ _=>none) (cellsFrom (s.heap.objs.size + 1) scope.names []) (bindC (envOfC qual scope s.heap.objs.size f cd).kindOf (ps.zip us) λ _=>none) s1) :
    Inv (cxOf CX P w K mg base N qual scope f cd A outer s H E) [] (start N vs) H s1:=by
  have hpl:ps.length <= N.length:=by have:=congrArg List.length S.pre; rw [yaX] at this; omega
  obtain ⟨h1,tk,rfl,hk⟩:=x.done;have noA:∀ b:Addr,b ∉ (cxOf CX P w K mg base N qual scope f cd A outer s H E).ex:=λ b z=>absurd (show b ∈ ([]:List Addr) from z) (5:)
  refine ⟨⟨e0.mod,S.kind,rfl,rfl,yag _,λ y z c h1 h2=>?_,λ y hy=>?_,λ y c _ h=>?_,λ _=>hd,Around.frames_deeper e0.frames,.inr ⟨rfl,rfl⟩,λ b z=>absurd z (noA b),e0.bs,e0.bsz,λ b _ _=>noA b,λ b z=>absurd z (noA b),e0.funs,e0.frf⟩,
    rfl,e0.bare,Un.kept hk,⟨_,x.toInCall.ns,λ i y v h1 h2 h3=>?_⟩,λ y c h=>⟨_,x.cell y c h⟩,e0.hok.fresh (yag _),λ y c h=>?_,λ p hp=>absurd (show p ∈ ([]:List (Addr × Obj)) from hp) (5:),e0.hok.kept hk,?_⟩
  · exact name_of_addr x.apart (ybf h1) (ybf h2)
  · have hy : scope.names.lookup y = some .cell \/ scope.names.lookup y = some .free := hy;rcases hy with hy | hy
    · exact zhF hy
    · exact absurd rfl (S.nofree _ (ybf hy))
  · exact yaC (x.above y c (ybf h))
  · have hi:i < vs.length:=by
      unfold start at h2;by_cases hi:i < vs.length
      · exact hi
      · rw [ybd (57:)] at h2;rw [List.getElem?_replicate] at h2
        split at h2 <;> cases h2
    have ha:vs[i]?=some v:=by
      unfold start at h2;rw [ybz (57:),yai] at h2;cases e:vs[i]? with
      | none=>rw [e] at h2; cases h2
      | some a=>rw [e] at h2; cases h2; rfl
    obtain ⟨u,hu,rv⟩:=r.get ha
    have hp:ps[i]?=some y:=by
      rw [<- S.pre,List.getElem?_take_of_lt (1:)]; exact h1
    have ndP:ps.Nodup:=by rw [<- S.pre]; exact S.nd.sublist (List.take_sublist _ _)
    refine ⟨u,rv,?_⟩;rcases S.par y (yav hp) with k | k
    · exact .inl ⟨k,zf1 ndP hp hu k⟩
    · obtain ⟨c,e⟩:=zhF (n:=s.heap.objs.size + 1) k;refine .inr ⟨.inl k,c,e,?_⟩;have q:=x.cell y c e;rw [zfG ndP hp hu (by show scope.names.lookup y ≠ _; rw [k]; decide)] at q;exact q
  · exact e0.hok.fresh (yaC (x.above y c (ybf h)))
  · unfold start;show _=N.length;rw [yaf,yac,ybw];omega
def zor {CX:CXT} {P:Program} {w:World} {K:PySem.W.Frag} {mg:Str -> Option Value} {base:Heap} {k:Nat} {f:Addr} {name qual:Str} {params:Arguments} {body:List Stmt} {scope:Scope} {dV kV doc pm cdv ct oc:Value} {an od:Option Addr}
    {osl:Array (Option Value)} {N ps:List Str} {sp:Sp} (lk:K.lookup f=some ⟨oc,od,.func (PySem.W.fnOf name qual params body scope dV kV doc pm an cdv ct),osl⟩) (hcd:PySem.W.codeIn K cdv qual=true) (S:FnScope N ps scope)
    (len:∀ vs H Q E,sp vs H Q E -> vs.length=ps.length)
    (hbody:∀ (A:Around) (outer:List Env) (s:Shared) (H:Hp) (vs:List V) (Q:VK) (E:XK),Room k (A.deeper (envOfC qual scope s.heap.objs.size f cdv)) -> sp vs H Q E ->
      ∃ t,PSs (cxOf CX P w K mg base N qual scope f cdv A outer s H E) body t /\ t { nx:=λ _ H'=>Q .non H',rt:=Q } (start N vs) H) :
    FnOk P w K mg base CX (k + 1) f (PySem.W.fnOf name qual params body scope dV kV doc pm an cdv ct) ps sp:=by
  refine ⟨len,λ A outer s H args us vs Q E hr e0 hb r hsp=>?_⟩;have hl:=len _ _ _ _ hsp;have KX:K.In s.heap:=e0.mod.kin.keeps λ b o e=>(e0.bs b o e).1;have lim:s.heap.NoLimit:=e0.mod.nolimit.keeps λ b o e=>(e0.bs b o e).1
  have hkind:∀ y ∈ ps.zip us,scope.names.lookup y.1=some .local \/ (scope.names.lookup y.1=some .cell /\ ((cellsFrom (s.heap.objs.size + 1) scope.names []).lookup y.1).isSome=true):=λ ⟨n,v⟩ hy=>by
    rcases S.par n (List.of_mem_zip hy).1 with q | q
    · exact .inl q
    · exact .inr ⟨q,PySem.W.cellsFrom_some _ _ _ (.inl q)⟩
  refine codeAny_call_function hr.depth (KX _ _ lk) rfl S.co S.gen rfl (PySem.W.codeRec_of KX hcd) (hb _ _ _ _ ?_);refine wpAny_newFunctionEnv_cells S.kind hkind λ env he s1 x=>?_;subst he;refine ⟨lim.keeps x.toInCall.keep,codeAny_func ?_⟩;obtain ⟨t,ht,hq⟩:=hbody A outer s H vs Q E (hr.deeper _) hsp;have I:Inv (cxOf CX P w K mg base N qual scope f cdv A outer s H E) [] (start N vs) H s1:=zir S hr.hd e0 hl r x;refine wpAny_mono (ht [] s1 (start N vs) H _ I hq) (λ fl s' hs=>?_) λ e s' hs=>hs
  have fin:∀ {σ':St} {H':Hp} {v:V} {u:Value},Inv (cxOf CX P w K mg base N qual scope f cdv A outer s H E) [] σ' H' s' -> RelV v u -> Q v H' -> CE outer P w H s Q u s':=
    λ {σ' H' v u} J rv q=>⟨v,H',J.os,J.bare,J.base,J.hok,rv,q⟩
  cases fl with
  | ret u=>
    obtain ⟨v,σ',H',J,rv,q⟩:=hs;exact fin J rv q
  | next=>
    obtain ⟨σ',H',J,q⟩:=hs;exact fin (v:=V.non) (u:=Value.none) J rfl q
  | brk=>
    obtain ⟨_,_,_,q⟩:=hs;exact False.elim q
  | cont=>
    obtain ⟨_,_,_,q⟩:=hs;exact False.elim q
section
variable {X:Cx} {x:Str} {p pos:Pos} {e:Expr} {es:List Expr} {t:TA} {id T:String} {r:List V -> Hp -> VK -> Prop}
noncomputable def tCB (r:List V -> Hp -> VK -> Prop) (t:TA):TE:=λ σ H Q=>t σ H λ vs H1=>r vs H1 Q
def zaq (hc:zbk X (.builtin id) r) (hg:Gl X x) (hm:X.mg x=none) (hv:bootBuiltins x=some (.builtin id)) (ha:PA X (e :: es) t) (hn:x ≠ "__name__":=by decide) (hdb:(x == ("__debug__":Str))=false:=by decide)
  (he:starEach (e :: es) X.env=(false,eval e X.env) :: starEach es X.env:=by rfl) (hpl:(backTo pos (starEach es X.env)).any (·.1)=false:=by rfl):PE X (.Call (.Name x p) (e :: es) [] pos) (tCB r t):=by
 intro pins s σ H Q I h;refine wpAny_Call_Name_kw (zcg I hg hm hv ?_ hn hdb);exact PyProof.Rows.callWith_builtin1 (thn (ha pos pins s σ H _ I h) λ us s1 ⟨vs,H1,I1,r1,q1⟩=>hc pins s1 σ H1 vs us Q I1 r1 q1) he hpl
def zbu (hc:zbk X (.type T) r) (hg:Gl X x) (hm:X.mg x=none) (hv:bootBuiltins x=some (.type T)) (ha:PA X (e :: es) t) (hn:x ≠ "__name__":=by decide) (hdb:(x == ("__debug__":Str))=false:=by decide)
  (he:starEach (e :: es) X.env=(false,eval e X.env) :: starEach es X.env:=by rfl) (hpl:(backTo pos (starEach es X.env)).any (·.1)=false:=by rfl):PE X (.Call (.Name x p) (e :: es) [] pos) (tCB r t):=by
 intro pins s σ H Q I h;refine wpAny_Call_Name_kw (zcg I hg hm hv ?_ hn hdb);exact yaJ (thn (ha pos pins s σ H _ I h) λ us s1 ⟨vs,H1,I1,r1,q1⟩=>hc pins s1 σ H1 vs us Q I1 r1 q1) he hpl
end
end L2
namespace HT
open PySem PyProof.Rows
section
open PySem.SeqAt
open PySem.AutoSeq1 (wpAny_loadPart')
open PySem.MeetsSeq PySem.MeetsSeq2 PySem.MeetsSeq3
end
section
variable {prog:Program} {w:World} {A:Around} {E:Value -> Shared -> Prop} {s:Shared}
def cat_tup {t b:Addr} {vs ws:List Value} {Q:Value -> Shared -> Prop} (ht:IsTup s.heap t vs.toArray) (hb:IsTup s.heap b ws.toArray) (hv:vs ≠ [])
  (h1:ws=[] -> Q (.ref t) s) (h2:ws ≠ [] -> Q (.ref s.heap.objs.size) { s with heap:=s.heap.push { cls:=.type "tuple",data:=.seq (vs ++ ws).toArray } })
  (hsz:vs.length + ws.length <= sizeLine):wpAny (model prog w) A (binaryOp .Add (.ref t) (.ref b)) Q E s:=by
 obtain ⟨⟨cls,dd,data,sl⟩,ho,hc,n,hd⟩:=id ht;obtain ⟨⟨cls2,dd2,data2,sl2⟩,ho2,hc2,n2,hd2⟩:=id hb;simp only at hc hd hc2 hd2;subst hc hd hc2 hd2;have e:vs.toArray ++ ws.toArray=(vs ++ ws).toArray:=by simp
 by_cases hw:ws=[]
 ·exact concat_meets ⟨_,ho,rfl⟩ ⟨_,ho2,rfl⟩ noFill_tuple_add seq_tuple_add PySem.F.slot_tuple_add PySem.F.entry_tuple_add (PySem.F.args_tuple_add_2 _ _)
   (tuple_addW1 t b vs.toArray ws.toArray n n2 dd dd2 sl sl2 (by simpa using hv) (by simp [hw])) ⟨ho,ho2,h1 hw⟩
 ·refine concat_meets ⟨_,ho,rfl⟩ ⟨_,ho2,rfl⟩ noFill_tuple_add seq_tuple_add PySem.F.slot_tuple_add PySem.F.entry_tuple_add (PySem.F.args_tuple_add_2 _ _)
   (tuple_addW2 t b vs.toArray ws.toArray n n2 dd dd2 sl sl2 (by simpa using hv) (61:) (by rw [yak,yak]; exact hsz)) ⟨ho,ho2,?_⟩
  rw [e];exact h2 hw
noncomputable def sIx (n d:Nat):Option Int -> Nat
 | none=>d
 | some v=>if v < 0 then (v + (n:Int)).toNat else min v.toNat n
def sIx_nat (n d k:Nat):sIx n d (some (k:Int))=min k n:=by
 show (if (k:Int) < 0 then ((k:Int) + (n:Int)).toNat else min (k:Int).toNat n)=min k n;rw [if_neg (1:),yao]
def zmw (n d:Nat) (hd:d <= n) (o:Option Int):sIx n d o <= n:=by
 cases o with
 | none=>exact hd
 | some v=>
  show (if v < 0 then (v + (n:Int)).toNat else min v.toNat n) <= n;by_cases hv:v < 0
  ·rw [if_pos hv]; omega
  ·rw [if_neg hv]; exact Nat.min_le_right _ _
def zjC (v:Int) (n d:Nat):(if v < 0 then max (v + (n:Int)) 0 else min v (n:Int))=((sIx n d (some v):Nat):Int):=by
 show (if v < 0 then max (v + (n:Int)) 0 else min v (n:Int))=(((if v < 0 then (v + (n:Int)).toNat else min v.toNat n):Nat):Int);by_cases hv:v < 0
 ·simp only [if_pos hv]; omega
 ·simp only [if_neg hv]; omega
def zii (lo hi:Option Int) (n:Nat):Builtin.Slice.sliceAdjust lo hi 1 (n:Int)=(((sIx n 0 lo:Nat):Int),((sIx n n hi:Nat):Int)):=by
 have h1:¬ ((1:Int) < 0):=by omega
 unfold Builtin.Slice.sliceAdjust;simp only [h1,if_false];refine Prod.ext ?_ ?_
 ·cases lo with
  | none=>rfl
  | some v=>exact zjC v n 0
 ·cases hi with
  | none=>rfl
  | some v=>exact zjC v n n
def zh7 (i j:Nat):Builtin.Slice.slicePlaces (i:Int) (j:Int) 1=j - i:=by
 unfold Builtin.Slice.slicePlaces;have h1:(1:Int) > 0:=by omega
 simp only [h1,if_true,Int.ediv_one]
 split <;> omega
def zeE {v:Value} {o:Option Int} {Q:Option Int -> Shared -> Prop} (p:IsPart v o) (h:Q o s):wpAny (model prog w) A (Builtin.Slice.slicePartIndex v) Q E s:=by
 cases p with
 | none=>exact slicePart_none h
 | int i t=>exact slicePart_int h
def zdR {sl:Addr} {vl vu:Value} {lo hi:Option Int} {n:Nat} {Q:Int × Int × Nat -> Shared -> Prop} (hs:s.heap.IsSliceOf sl vl vu .none) (pl:IsPart vl lo) (pu:IsPart vu hi)
  (h:Q (((sIx n 0 lo:Nat):Int),1,sIx n n hi - sIx n 0 lo) s):wpAny (model prog w) A (Builtin.Slice.sliceApplied (.ref sl) (pure (n:Int))) Q E s:=by
 obtain ⟨os,hos,hcs,hds⟩:=id hs;unfold Builtin.Slice.sliceApplied Builtin.Slice.sliceFields;refine wpAny_bind (wpAny_bind (wpAny_field hos hds (x:=vl) rfl (wpAny_bind (wpAny_field hos hds (x:=vu) rfl (wpAny_bind (wpAny_field hos hds (x:=.none) rfl (wpAny_pure ?_)))))));refine wpAny_bind (slicePart_none ?_);show wpAny _ _ (if ((1:Int) == 0)=true then _ else _) _ _ s;rw [if_neg (3:)];refine wpAny_bind (zeE pl (wpAny_bind (zeE pu (wpAny_bind (wpAny_pure ?_)))));show wpAny _ _ (match Builtin.Slice.sliceAdjust lo hi 1 (n:Int) with | (lo,hi)=>pure (lo,(1:Int),Builtin.Slice.slicePlaces lo hi 1)) _ _ s
 rw [zii lo hi n];show wpAny _ _ (pure (((sIx n 0 lo:Nat):Int),(1:Int),Builtin.Slice.slicePlaces ((sIx n 0 lo:Nat):Int) ((sIx n n hi:Nat):Int) 1)) _ _ s;rw [zh7];exact wpAny_pure h
def zkO (xs:Array Value) (i k:Nat):((List.range k).filterMap λ (m:Nat)=>xs[((i:Int) + (m:Int) * 1).toNat]?).toArray=((xs.toList.drop i).take k).toArray:=by
 have e:(λ (m:Nat)=>xs[((i:Int) + (m:Int) * 1).toNat]?)=λ m=>xs[i + m]?:=by
  funext m
  have:((i:Int) + (m:Int) * 1).toNat=i + m:=by omega
  rw [this]
 rw [e];have:=pick_run xs i k;rw [List.filterMap_map] at this;have e2:((λ x=>xs[x]?) ∘ λ x=>i + x)=λ m=>xs[i + m]?:=rfl;rw [e2] at this;rw [this]
def getItem_tuple_cut {t sl:Addr} {items:Array Value} {vl vu:Value} {lo hi:Option Int} {Q:Value -> Shared -> Prop} (ht:IsTup s.heap t items) (hs:s.heap.IsSliceOf sl vl vu .none) (pl:IsPart vl lo) (pu:IsPart vu hi)
  (hw:¬ (sIx items.size 0 lo=0 /\ sIx items.size items.size hi=items.size))
  (h:Q (.ref s.heap.objs.size) { s with heap:=s.heap.push { cls:=.type "tuple",data:=.seq ((items.toList.drop (sIx items.size 0 lo)).take (sIx items.size items.size hi - sIx items.size 0 lo)).toArray } })
  (hsz:items.size <= sizeLine):wpAny (model prog w) A (getItem (.ref t) (.ref sl)) Q E s:=by
 have htake:sizeOk (.seq ((items.toList.drop (sIx items.size 0 lo)).take (sIx items.size items.size hi - sIx items.size 0 lo)).toArray):=by
  show ((items.toList.drop (sIx items.size 0 lo)).take (sIx items.size items.size hi - sIx items.size 0 lo)).toArray.size <= sizeLine;rw [yak,yaX,List.length_drop,yaE];omega
 have hj:sIx items.size items.size hi <= items.size:=zmw _ _ (yag _) hi;obtain ⟨os,hos,hcs,hds⟩:=id hs;have hTs:s.TypeIs (.ref sl) "slice":=⟨os,hos,hcs⟩
 unfold getItem
 try with_reducible refine wpAny_holding ?_
 first | refine wpAny_bind (wpAny_pure ?_) | skip
 refine wpAny_bind (wpAny_sequenceKey ht.typeIs (3:) ?_)
 refine wpAny_bind (wpAny_callSpecial?_slot (name:=Str.ofString "__getitem__") ht.typeIs ybB
  (wpAny_call_entry ybB ht.typeIs entry_tuple_getitem ?_ (args_tuple_getitem _ _)))
 show wpAny _ _ (Builtin.Tuple.tupleItemsOf (.ref t) >>= _) _ _ s;refine wpAny_bind (tupleItemsOf_ ht ?_);refine wpAny_bind (wpAny_typeOf hTs ?_);rw [if_pos (3:)];refine wpAny_bind (zdR hs pl pu ?_)
 have hno:¬ ((((sIx items.size 0 lo:Nat):Int) == 0 && (1:Int) == 1 && (sIx items.size items.size hi - sIx items.size 0 lo) == items.size)=true):=by
  intro q;rw [yam,yam] at q;have q1:((sIx items.size 0 lo:Nat):Int)=0:=eq_of_beq q.1.1;have q2:sIx items.size items.size hi - sIx items.size 0 lo=items.size:=eq_of_beq q.2;exact hw ⟨by omega,by omega⟩
 show wpAny _ _ (if (((sIx items.size 0 lo:Nat):Int) == 0 && (1:Int) == 1 && (sIx items.size items.size hi - sIx items.size 0 lo) == items.size)=true then _ else _) _ _ s;rw [if_neg hno,zkO]
 first
  | exact wpAny_bind (m:=Builtin.Tuple.tupleExact _) (wpAny_newObj_type (wpAny_pure ⟨_,rfl,wpAny_pure h⟩) htake)
  | exact wpAny_bind (m:=Builtin.Tuple.tupleExact _) (wpAny_newObj_type (wpAny_bind (wpAny_pure (wpAny_pure ⟨_,rfl,wpAny_pure h⟩))) htake)
  | exact wpAny_bind (wpAny_bind (m:=Builtin.Tuple.tupleExact _) (wpAny_newObj_type (wpAny_pure (wpAny_pure ⟨_,rfl,wpAny_pure h⟩)) htake))
  | exact wpAny_bind (wpAny_bind (m:=Builtin.Tuple.tupleExact _) (wpAny_newObj_type (wpAny_pure ⟨_,rfl,wpAny_pure h⟩) htake))
end
end HT
namespace L2
open PySem PySem.Spec PyProof.Rows
noncomputable abbrev TO:=St -> Hp -> (Option Int -> Hp -> Prop) -> Prop
noncomputable def PO (X:Cx) (e:Option Expr) (t:TO):Prop:=
 ∀ (pins:List (Addr × Obj)) (s:Shared) (σ:St) (H:Hp) (Q:Option Int -> Hp -> Prop),Inv X pins σ H s -> t σ H Q ->
  wpAny (model X.prog X.w) X.A (evalPart e X.env) (λ u s'=>∃ o H',Inv X pins σ H' s' /\ IsPart u o /\ Q o H') X.xe s
noncomputable def zjT:TO:=λ _ H Q=>Q none H
noncomputable def zms (t:TE):TO:=λ σ H Q=>t σ H λ x H1=>∃ i,x=.int i /\ Q (some i) H1
section
variable {X:Cx} {e:Expr} {te:TE} {lo hi:Option Expr} {tl th:TO} {pos p2:Pos}
def zlC:PO X none zjT:=by
 intro pins s σ H Q I h;rw [evalPart_none];exact wpAny_pure ⟨none,H,I,.none,h⟩
def zl7 (h:PE X e te):PO X (some e) (zms te):=by
 intro pins s σ H Q I hw;rw [evalPart_some];refine thn (h pins s σ H _ I hw) λ u s1 ⟨x,H1,I1,r1,q1⟩=>?_;obtain ⟨i,rfl,q⟩:=q1;obtain ⟨t,rfl⟩:=r1;exact ⟨some i,H1,I1,.int i t,q⟩
noncomputable def SlR (X:Cx) (r:V -> Option Int -> Option Int -> Hp -> VK -> Prop):Prop:=
 ∀ (pins:List (Addr × Obj)) (s:Shared) (σ:St) (H:Hp) (x:V) (v vl vu:Value) (lo hi:Option Int) (sl:Addr) (Q:VK),Inv X pins σ H s -> RelV x v -> s.heap.IsSliceOf sl vl vu .none -> IsPart vl lo -> IsPart vu hi -> r x lo hi H Q ->
  ∃ T id,typeLookup (.type T) "__getitem__"=pure (some (.builtin id)) /\ s.TypeIs v T /\ wpAny (model X.prog X.w) X.A (getItem v (.ref sl)) (EP X pins σ Q) X.xe s
def SlR.or {r r':V -> Option Int -> Option Int -> Hp -> VK -> Prop} (h:SlR X r) (h':SlR X r'):SlR X (λ x lo hi H Q=>r x lo hi H Q \/ r' x lo hi H Q):=by
 intro pins s σ H x v vl vu lo hi sl Q I rx hs pl pu q;rcases q with q | q
 ·exact h pins s σ H x v vl vu lo hi sl Q I rx hs pl pu q
 ·exact h' pins s σ H x v vl vu lo hi sl Q I rx hs pl pu q
noncomputable def tSl (r:V -> Option Int -> Option Int -> Hp -> VK -> Prop) (te:TE) (tl th:TO):TE:=λ σ H Q=>te σ H λ x H1=>tl σ H1 λ l H2=>th σ H2 λ u H3=>r x l u H3 Q
def zky {r:V -> Option Int -> Option Int -> Hp -> VK -> Prop} (hr:SlR X r) (he:PE X e te) (hl:PO X lo tl) (hu:PO X hi th):PE X (.Subscript e (.Slice lo hi none p2) pos) (tSl r te tl th):=by
 intro pins s σ H Q I h;refine Subscript_ (thn (he pins s σ H _ I h) λ v s1 ⟨x,H1,I1,r1,q1⟩=>?_);refine wpAny_Slice (thn (hl pins s1 σ H1 _ I1 q1) λ vl s2 ⟨l,H2,I2,pl,q2⟩=>thn (hu pins s2 σ H2 _ I2 q2) λ vu s3 ⟨u,H3,I3,pu,q3⟩=>?_);rw [evalPart_none];refine wpAny_pure ?_;have I4:Inv X pins σ H3 { s3 with heap:=s3.heap.push { cls:=.type "slice",data:=.fields #[vl,vu,.none] } }:=I3.kept (t':=s3.toks) λ b ob q=>yab _ q;obtain ⟨T,id,hT,ht,hg⟩:=hr pins { s3 with heap:=s3.heap.push { cls:=.type "slice",data:=.fields #[vl,vu,.none] } } σ H3 x v vl vu l u s3.heap.objs.size Q I4 r1 (Heap.IsSliceOf.new ..) pl pu q3;show wpAny (model X.prog X.w) X.A (subscriptTail e (.Slice lo hi none p2) v (.ref s3.heap.objs.size)) (EP X pins σ Q) X.xe { s3 with heap:=s3.heap.push { cls:=.type "slice",data:=.fields #[vl,vu,.none] } };exact tail_any (ops:=[.ref s3.heap.objs.size,v]) ht hT hg (by with_unfolding_all rfl)
noncomputable def cutV (xs:List V) (lo hi:Option Int):List V:=(xs.drop (HT.sIx xs.length 0 lo)).take (HT.sIx xs.length xs.length hi - HT.sIx xs.length 0 lo)
def zd6 (xs:List V) (lo hi:Option Int):(cutV xs lo hi).length <= xs.length:=by
 unfold cutV;rw [yaX,List.length_drop];omega
noncomputable def rSlT (K:PySem.W.Frag):V -> Option Int -> Option Int -> Hp -> VK -> Prop:=λ x lo hi H Q=>∃ a xs,x=.ref a /\ SqT K H a xs /\
 ¬ (HT.sIx xs.length 0 lo=0 /\ HT.sIx xs.length xs.length hi=xs.length) /\ ∀ p,H p=none -> Q (.ref p) (upd H p (.tup (cutV xs lo hi)))
def zmQ:SlR X (rSlT X.K):=by
 intro pins s σ H x v vl vu lo hi sl Q I rx hs pl pu h;obtain ⟨a,xs,rfl,hx,hw,q⟩:=h;cases rx;obtain ⟨its,r,ht,hz⟩:=I.tuple hx;have hlen:its.toArray.size=xs.length:=by rw [yak]; exact r.length.symm
 refine ⟨"tuple",_,ybB.lookup,ht.typeIs,?_⟩;refine HT.getItem_tuple_cut ht hs pl pu (by rw [hlen]; exact hw) ?_ (by rw [hlen]; exact hz);rw [hlen];refine ⟨.ref s.heap.objs.size,_,I.laid (t':=s.toks) (o:=.tup (cutV xs lo hi)) (λ b ob q=>yab _ q) (yag _) ?_,rfl,q _ (I.hok.fresh (yag _))⟩;exact ⟨yaY (zd6 xs lo hi) hz,_,(r.drop (HT.sIx xs.length 0 lo)).take (HT.sIx xs.length xs.length hi - HT.sIx xs.length 0 lo),za5.new _ _⟩
noncomputable def zmr (K:PySem.W.Frag):R2:=λ x y H Q=>∃ a b xs ys,x=.ref a /\ y=.ref b /\ SqT K H a xs /\ SqT K H b ys /\ xs ≠ [] /\ xs.length + ys.length <= sizeLine /\
 (ys=[] -> Q (.ref a) H) /\ (ys ≠ [] -> ∀ p,H p=none -> Q (.ref p) (upd H p (.tup (xs ++ ys))))
def Vals.nil_iff {xs:List V} {us:List Value} (r:Vals xs us):us=[] ↔ xs=[]:=by
 cases r with
 | nil=>simp
 | cons _ _=>simp
def zlq:OpR X (binaryOp .Add) (zmr X.K):=by
 intro pins s σ H x y v u Q I rx ry h;obtain ⟨a,b,xs,ys,rfl,rfl,ha,hb,hx,hz,q1,q2⟩:=h;cases rx;cases ry;obtain ⟨its,r1,p1,_⟩:=I.tuple ha;obtain ⟨its2,r2,p2,_⟩:=I.tuple hb;refine HT.cat_tup p1 p2 (λ z=>hx (r1.nil_iff.mp z)) (λ z=>⟨.ref a,H,I,rfl,q1 (r2.nil_iff.mp z)⟩) (λ z=>?_) (by rw [<- r1.length,<- r2.length]; exact hz);refine ⟨.ref s.heap.objs.size,_,I.laid (t':=s.toks) (o:=.tup (xs ++ ys)) (λ b ob q=>yab _ q) (yag _) ?_,rfl,q2 (λ w=>z (r2.nil_iff.mpr w)) _ (I.hok.fresh (yag _))⟩;exact ⟨by rw [yaf]; exact hz,_,r1.append r2,za5.new _ _⟩
end
noncomputable def ixN (n:Nat) (i:Int):Option Nat:=if 0 <= i then (if i < n then some i.toNat else none) else if -(n:Int) <= i then some (i + n).toNat else none
noncomputable def atI {α:Type} (xs:List α) (i:Int):Option α:=(ixN xs.length i).bind λ j=>xs[j]?
def zjk {n:Nat} {i:Int} {j:Nat} (h:ixN n i=some j):seqIndex? i n=some j /\ j < n /\ -(n:Int) <= i /\ i < n:=by
 unfold ixN at h;by_cases h0:0 <= i
 ·rw [if_pos h0] at h;by_cases h1 : i < n
  ·rw [if_pos h1] at h;have e:i.toNat=j:=Option.some.inj h;exact ⟨by rw [seqIndex_of h0 h1,e],by omega,by omega,h1⟩
  ·rw [if_neg h1] at h; cases h
 ·rw [if_neg h0] at h;by_cases h1 : -(n : Int) <= i
  ·rw [if_pos h1] at h;have e:(i + n).toNat=j:=Option.some.inj h;exact ⟨by rw [seqIndex_neg (1:) h1,e],by omega,h1,by omega⟩
  ·rw [if_neg h1] at h; cases h
def zgZ {α:Type} {xs:List α} {i:Int} {v:α} (h:atI xs i=some v):∃ j,seqIndex? i xs.length=some j /\ xs[j]?=some v /\ j < xs.length /\ -(xs.length:Int) <= i /\ i < xs.length:=by
 unfold atI at h;cases e:ixN xs.length i with
 | none=>rw [e] at h; cases h
 | some j=>
  rw [e] at h;obtain ⟨h1,h2,h3,h4⟩:=zjk e;exact ⟨j,h1,h,h2,h3,h4⟩
def ziT {α:Type} {xs:List α} {j:Nat} {v:α} (h:xs[j]?=some v):atI xs (j:Int)=some v:=by
 have hj:j < xs.length:=(yah.mp h).1
 have e:ixN xs.length (j:Int)=some j:=by
  unfold ixN;rw [if_pos (1:),if_pos (1:)]; simp
 unfold atI; rw [e]; exact h
noncomputable def zlU (b:Expr):Prop:=∀ o i,subscripted b false o i=operate [o,i] (getItem o i)
noncomputable def IxR (X:Cx) (r:R2):Prop:=
 ∀ (value slice:Expr) (pins:List (Addr × Obj)) (s:Shared) (σ:St) (H:Hp) (x y:V) (v u:Value) (Q:VK),Inv X pins σ H s -> RelV x v -> RelV y u -> r x y H Q ->
  subscripted slice false v u=operate [v,u] (getItem v u) -> wpAny (model X.prog X.w) X.A (subscriptTail value slice v u) (EP X pins σ Q) X.xe s
noncomputable def MtR (X:Cx) (id:String) (r:V -> List V -> Hp -> VK -> Prop):Prop:=
 ∀ (pins:List (Addr × Obj)) (s:Shared) (σ:St) (H:Hp) (x:V) (xs:List V) (v:Value) (us:List Value) (Q:VK),Inv X pins σ H s -> RelV x v -> Vals xs us -> r x xs H Q ->
  wpAny (model X.prog X.w) X.A (call (.builtin id) (v :: us)) (EP X pins σ Q) X.xe s
section
variable {X:Cx} {a b:Expr} {ta tb:TE} {pos:Pos}
def IxR.or {r r':R2} (h:IxR X r) (h':IxR X r'):IxR X (λ x y H Q=>r x y H Q \/ r' x y H Q):=by
 intro value slice pins s σ H x y v u Q I rx ry q hs;rcases q with q | q
 ·exact h value slice pins s σ H x y v u Q I rx ry q hs
 ·exact h' value slice pins s σ H x y v u Q I rx ry q hs
def zaE {r:R2} (hr:IxR X r) (ha:PE X a ta) (hb:PE X b tb) (hs:zlU b):PE X (.Subscript a b pos) (tOp r ta tb):=by
 intro pins s σ H Q I h;exact Subscript_ (binT ha hb I h λ v u s2 x y H2 I2 rx ry q=>hr a b pins s2 σ H2 x y v u Q I2 rx ry q (hs _ _))
noncomputable def rIxL (K:PySem.W.Frag):R2:=λ x y H Q=>∃ p xs i v,x=.ref p /\ y=.int i /\ SqL K H p xs /\ atI xs i=some v /\ Q v H
noncomputable def rIxT (K:PySem.W.Frag):R2:=λ x y H Q=>∃ p xs i v,x=.ref p /\ y=.int i /\ SqT K H p xs /\ atI xs i=some v /\ Q v H
noncomputable def rIxS:R2:=λ x y H Q=>∃ z i c,x=.str z /\ y=.int i /\ z.length <= sizeLine /\ atI z.cps.toList i=some c /\ Q (.str ⟨#[c]⟩) H
def zlv:IxR X (rIxL X.K):=by
 intro value slice pins s σ H x y v u Q I rx ry h hs;obtain ⟨p,xs,i,z,rfl,rfl,hq,he,q⟩:=h;cases rx;obtain ⟨t,rfl⟩:=ry;obtain ⟨its,r,pl,hz⟩:=I.list hq;obtain ⟨j,h1,h2,h3,h4,h5⟩:=zgZ he;obtain ⟨w,ew,rw'⟩:=r.get h2;have hl:=r.length;have hn:=zgc;have fin:EP X pins σ Q w s:=⟨z,H,I,rw',q⟩
 by_cases h0:0 <= i
 ·have hj:i.toNat=j:=by
   rw [seqIndex_of h0 h5] at h1;exact Option.some.inj h1
  exact item_listR pl.isList h0 (1:) (by rw [hj]; simpa using ew) fin hs
 ·have hj:(i + (its.toArray.size:Int)).toNat=j:=by
   rw [seqIndex_neg (1:) h4] at h1;rw [yak,<- hl];exact Option.some.inj h1
  exact subscriptTail_builtinR (x:=w) pl.isList.typeIs slot_list_getitem.lookup
   (wpAny_getItem_list_neg (Q:=λ r s'=>r=w /\ EP X pins σ Q r s') pl.isList (1:) (by rw [yak] <;> omega) (1:) (by rw [hj]; simpa using ew) ⟨rfl,fin⟩) hs
def zmy:IxR X (rIxT X.K):=by
 intro value slice pins s σ H x y v u Q I rx ry h hs;obtain ⟨p,xs,i,z,rfl,rfl,hq,he,q⟩:=h;cases rx;obtain ⟨t,rfl⟩:=ry;obtain ⟨its,r,pl,hz⟩:=I.tuple hq;obtain ⟨j,h1,h2,h3,h4,h5⟩:=zgZ he;obtain ⟨w,ew,rw'⟩:=r.get h2;have hl:=r.length;have hn:=zgc;have fin:EP X pins σ Q w s:=⟨z,H,I,rw',q⟩
 exact subscriptTail_builtinR (x:=w) pl.typeIs slot_tuple_getitem.lookup
  (getItem_tuple (j:=j) (Q:=λ r s'=>r=w /\ EP X pins σ Q r s') pl (1:) (1:) (by rw [yak,<- hl]; exact h1) (by simpa using ew) ⟨rfl,fin⟩) hs
def znl:IxR X rIxS:=by
 intro value slice pins s σ H x y v u Q I rx ry h hs;obtain ⟨z,i,c,rfl,rfl,hz,he,q⟩:=h;obtain ⟨t,rfl⟩:=rx;obtain ⟨t',rfl⟩:=ry;obtain ⟨j,h1,h2,h3,h4,h5⟩:=zgZ he;have hl:z.cps.toList.length=z.length:=by simp [Str.length]
 rw [hl] at h1 h4 h5;have hn:=zgc
 exact tail_any (typeIs_str s z t) slot_str_getitem.lookup (getItem_str (c:=c) (by
  have e1:decide (i < -(2 ^ 63:Int))=false:=decide_eq_false (1:);have e2:decide (i >= 2 ^ 63)=false:=decide_eq_false (1:);rw [e1,e2,Bool.or_false]) (by rw [h1]; simpa using h2) ⟨.str ⟨#[c]⟩,H,I.tok _,⟨_,rfl⟩,q⟩) hs
noncomputable def rIx (K:PySem.W.Frag):R2:=λ x y H Q=>rIxL K x y H Q \/ rIxT K x y H Q \/ rIxS x y H Q
def zm0:IxR X (rIx X.K):=zlv.or (zmy.or znl)
def zh4 (its:List Value) (n j:Nat) (u:Value):Obj.mapSeq (·.setIfInBounds j u) { cls:=.type "list",data:=.seq its.toArray n }={ cls:=.type "list",data:=.seq (its.set j u).toArray n }:=by
 simp [Obj.mapSeq]
def Inv.lst {pins:List (Addr × Obj)} {σ:St} {H:Hp} {s:Shared} {p:Addr} {xs:List V} (I:Inv X pins σ H s) (h:H p=some (.lst xs)) :
  ∃ (its:List Value) (n:Nat),Vals xs its /\ s.heap.get? p=some { cls:=.type "list",data:=.seq its.toArray n } /\ xs.length <= sizeLine:=by
 obtain ⟨z,its,n,r,e⟩:=I.hok p _ h;exact ⟨its,n,r,e,z⟩
def Inv.lstUpd {pins:List (Addr × Obj)} {σ:St} {H:Hp} {s:Shared} {p:Addr} {xs ys:List V} {its its':List Value} {n n':Nat} {f:Obj -> Obj} (I:Inv X pins σ H s) (h:H p=some (.lst xs))
  (ho:s.heap.get? p=some { cls:=.type "list",data:=.seq its.toArray n }) (hf:f { cls:=.type "list",data:=.seq its.toArray n }={ cls:=.type "list",data:=.seq its'.toArray n' }) (r:Vals ys its') (hz:ys.length <= sizeLine) (t:Nat) :
  Inv X pins σ (upd H p (.lst ys)) { s with heap:=s.heap.update p f,toks:=t }:=by
 have e:(s.heap.update p f).get? p=some { cls:=.type "list",data:=.seq its'.toArray n' }:=by
  rw [ybJ f ho (by rw [hf] <;> rfl),hf]
 refine I.write (x:=p) (e:=p) (by rw [h]; trivial) (.inl rfl) (λ b u hb q=>(Heap.get?_update_other _ _ (ybF hb)).trans q) ⟨_,e⟩ ?_;exact ⟨hz,its',n',r,e⟩
noncomputable def zlu:V -> V -> V -> Hp -> (Hp -> Prop) -> Prop:=λ o i v H Q=>∃ p xs k j,o=.ref p /\ i=.int k /\ H p=some (.lst xs) /\ ixN xs.length k=some j /\ Q (upd H p (.lst (xs.set j v)))
def zda:PSet X zlu:=by
 intro pins s σ H o i v ov iv u Q I ro ri rv h;obtain ⟨p,xs,k,j,rfl,rfl,hp,hj,q⟩:=h;cases ro;obtain ⟨t,rfl⟩:=ri;obtain ⟨its,n,r,ho,hz⟩:=I.lst hp;obtain ⟨h1,h2,h3,h4⟩:=zjk hj;have hl:=r.length;have hn:=zgc
 have I':Inv X pins σ (upd H p (.lst (xs.set j v))) { s with heap:=s.heap.update p (Obj.mapSeq (·.setIfInBounds j u)) }:=
  I.lstUpd hp ho (zh4 its n j u) (r.set rv j) (by rw [List.length_set]; exact hz) s.toks
 by_cases h0:0 <= k
 ·have hk:k.toNat=j:=by
   rw [seqIndex_of h0 h4] at h1;exact Option.some.inj h1
  exact PySem.W.ki_setAt ho h0 (1:) (by rw [yak,<- hl]; exact h4) (by rw [hk]; exact ⟨_,I',q⟩)
 ·have hk:(k + (its.toArray.size:Int)).toNat=j:=by
   rw [seqIndex_neg (1:) h3] at h1;rw [yak,<- hl];exact Option.some.inj h1
  exact PySem.W.ki_setBack ho (1:) (by rw [yak,<- hl]; exact h3) (1:) (by rw [hk]; exact ⟨_,I',q⟩)
def zfL (lo hi:Option Int) (n:Nat):(sliceBounds lo hi none n).1=((HT.sIx n 0 lo:Nat):Int) /\ (sliceBounds lo hi none n).2.1=((HT.sIx n n hi:Nat):Int) /\ (sliceBounds lo hi none n).2.2=1:=by
 refine ⟨?_,?_,rfl⟩
 ·cases lo with
  | none=>simp [sliceBounds,HT.sIx]
  | some i=>
   simp only [sliceBounds,HT.sIx,Option.getD_none,show (1:Int) > 0 by decide,if_true];by_cases h:i < 0
   ·simp only [h,if_true] <;> omega
   ·simp only [h,if_false] <;> omega
 ·cases hi with
  | none=>simp [sliceBounds,HT.sIx]
  | some i=>
   simp only [sliceBounds,HT.sIx,Option.getD_none,show (1:Int) > 0 by decide,if_true];by_cases h:i < 0
   ·simp only [h,if_true] <;> omega
   ·simp only [h,if_false] <;> omega
def zfo (its:List Value) (lo hi:Option Int):slicePick its.toArray lo hi none=((its.drop (HT.sIx its.length 0 lo)).take (HT.sIx its.length its.length hi - HT.sIx its.length 0 lo)).toArray:=by
 obtain ⟨h1,h2,h3⟩:=zfL lo hi its.toArray.size;unfold slicePick;rw [h1,h2,h3];simp only [sliceRange_one,pick_run,yak] <;> rfl
noncomputable def rSlL (K:PySem.W.Frag):V -> Option Int -> Option Int -> Hp -> VK -> Prop:=λ x lo hi H Q=>∃ a xs,x=.ref a /\ SqL K H a xs /\ ∀ p,H p=none -> Q (.ref p) (upd H p (.lst (cutV xs lo hi)))
def zlp:SlR X (rSlL X.K):=by
 intro pins s σ H x v vl vu lo hi sl Q I rx hs pl pu h;obtain ⟨a,xs,rfl,hx,q⟩:=h;cases rx;obtain ⟨its,r,ht,hz⟩:=I.list hx;have hlen:=r.length;refine ⟨"list",_,slot_list_getitem.lookup,ht.isList.typeIs,?_⟩;refine wpAny_getItem_list_slice ht.isList hs pl pu .none (5:) ?_ (by rw [yak] <;> omega);rw [zfo,<- hlen];refine ⟨.ref s.heap.objs.size,_,I.laid (t':=s.toks) (o:=.lst (cutV xs lo hi)) (λ b ob q=>yab _ q) (yag _) ?_,rfl,q _ (I.hok.fresh (yag _))⟩;exact ⟨yaY (zd6 xs lo hi) hz,_,0,(r.drop (HT.sIx xs.length 0 lo)).take (HT.sIx xs.length xs.length hi - HT.sIx xs.length 0 lo),yae _ rfl⟩
noncomputable def zbA:V -> Bool
 | .non=>true
 | .bl _=>true
 | .int _=>true
 | .str _=>true
 | _=>false
noncomputable def eqV:V -> V -> Bool
 | .non,.non=>true
 | .bl a,.bl b=>a == b
 | .bl a,.int b=>(if a then 1 else 0) == b
 | .int a,.bl b=>a == (if b then 1 else 0)
 | .int a,.int b=>a == b
 | .str a,.str b=>a == b
 | _,_=>false
def znu {A:Around} {s:Shared} {y x:V} {u v:Value} (ry:RelV y u) (rx:RelV x v) (fy:zbA y=true) (fx:zbA x=true):SeqAt.EqAt A s u v (eqV y x):=by
 cases y with
 | non=>
  cases ry;cases x with
  | non=>cases rx; exact SeqAt.EqAt.same _
  | bl b=>cases rx; exact SeqAt.EqAt.none_bool b
  | int b=>obtain ⟨t,rfl⟩:=rx; exact SeqAt.EqAt.none_int b t
  | str b=>obtain ⟨t,rfl⟩:=rx; exact SeqAt.EqAt.none_str b t
  | _=>exact absurd (show false=true from fx) yaq
 | bl a=>
  cases ry;cases x with
  | non=>cases rx; exact SeqAt.EqAt.bool_none a
  | bl b=>cases rx; exact SeqAt.EqAt.bool_bool a b
  | int b=>obtain ⟨t,rfl⟩:=rx; exact SeqAt.EqAt.bool_int a b t
  | str b=>obtain ⟨t,rfl⟩:=rx; exact SeqAt.EqAt.bool_str a b t
  | _=>exact absurd (show false=true from fx) yaq
 | int a=>
  obtain ⟨t',rfl⟩:=ry;cases x with
  | non=>cases rx; exact SeqAt.EqAt.int_none a t'
  | bl b=>cases rx; exact SeqAt.EqAt.int_bool a t' b
  | int b=>obtain ⟨t,rfl⟩:=rx; exact SeqAt.EqAt.int_int a t' b t
  | str b=>obtain ⟨t,rfl⟩:=rx; exact SeqAt.EqAt.int_str a t' b t
  | _=>exact absurd (show false=true from fx) yaq
 | str a=>
  obtain ⟨t',rfl⟩:=ry;cases x with
  | non=>cases rx; exact SeqAt.EqAt.str_none a t'
  | bl b=>cases rx; exact SeqAt.EqAt.str_bool a t' b
  | int b=>obtain ⟨t,rfl⟩:=rx; exact SeqAt.EqAt.str_int a t' b t
  | str b=>obtain ⟨t,rfl⟩:=rx; exact SeqAt.EqAt.str_str a t' b t
  | _=>exact absurd (show false=true from fx) yaq
 | _=>exact absurd (show false=true from fy) yaq
noncomputable def eqU (x:V) (u:Value):Bool:=match u with
 | .none=>eqV .non x
 | .bool b=>eqV (.bl b) x
 | .int i _=>eqV (.int i) x
 | .str z _=>eqV (.str z) x
 | _=>false
def zht {x y:V} {u:Value} (r:RelV y u) (f:zbA y=true):eqU x u=eqV y x:=by
 cases y with
 | non=>cases r; rfl
 | bl b=>cases r; rfl
 | int i=>obtain ⟨t,rfl⟩:=r; rfl
 | str z=>obtain ⟨t,rfl⟩:=r; rfl
 | _=>exact absurd (show false=true from f) yaq
def zet {x:V}:∀ {xs:List V} {us:List Value},Vals xs us -> xs.all zbA=true -> us.any (eqU x)=xs.any λ y=>eqV y x
 | _,_,.nil,_=>rfl
 | y :: xs,u :: us,.cons r t,f=>by
  rw [List.all_cons,yam] at f;rw [ycs,ycs,zht r f.1,zet t f.2]
def zcr {A:Around} {s:Shared} {x:V} {v:Value} (rx:RelV x v) (fx:zbA x=true):∀ {xs:List V} {us:List Value},Vals xs us -> xs.all zbA=true -> ∀ u ∈ us,SeqAt.EqAt A s u v (eqU x u)
 | _,_,.nil,_=>λ u hu=>by cases hu
 | y :: xs,u :: us,.cons r t,f=>λ u' hu=>by
  rw [List.all_cons,yam] at f;rcases yal.mp hu with rfl | hu
  ·rw [zht r f.1]; exact znu r rx f.1 fx
  ·exact zcr rx fx t f.2 u' hu
noncomputable def inV (x:V) (xs:List V):Bool:=xs.any λ y=>eqV y x
noncomputable def rIn (K:PySem.W.Frag) (neg:Bool):R2:=λ x y H Q=>∃ p xs,y=.ref p /\ (SqL K H p xs \/ SqT K H p xs) /\ zbA x=true /\ xs.all zbA=true /\ Q (.bl (if neg then !inV x xs else inV x xs)) H
def zi3:OpR X (compareOp .In) (rIn X.K false):=by
 intro pins s σ H x y v u Q I rx ry h;obtain ⟨p,xs,rfl,hq,fx,fs,q⟩:=h;cases ry;rcases hq with hq | hq
 ·obtain ⟨its,r,pl,hz⟩:=I.list hq;refine SeqAt.in_listAt (eqU x) pl.isList (λ w hw=>zcr rx fx r fs w (61:)) ⟨.bl _,H,I,rfl,?_⟩;rw [show its.toArray.any (eqU x)=its.any (eqU x) by simp,zet r fs];exact q
 ·obtain ⟨its,r,pl,hz⟩:=I.tuple hq;refine SeqAt.in_tupleAt (eqU x) pl (λ w hw=>zcr rx fx r fs w (61:)) ⟨.bl _,H,I,rfl,?_⟩;rw [show its.toArray.any (eqU x)=its.any (eqU x) by simp,zet r fs];exact q
def zgt:OpR X (compareOp .NotIn) (rIn X.K true):=by
 intro pins s σ H x y v u Q I rx ry h;obtain ⟨p,xs,rfl,hq,fx,fs,q⟩:=h;cases ry;rcases hq with hq | hq
 ·obtain ⟨its,r,pl,hz⟩:=I.list hq;refine SeqAt.notIn_listAt (eqU x) pl.isList (λ w hw=>zcr rx fx r fs w (61:)) ⟨.bl _,H,I,rfl,?_⟩;rw [show its.toArray.any (eqU x)=its.any (eqU x) by simp,zet r fs];exact q
 ·obtain ⟨its,r,pl,hz⟩:=I.tuple hq;refine SeqAt.notIn_tupleAt (eqU x) pl (λ w hw=>zcr rx fx r fs w (61:)) ⟨.bl _,H,I,rfl,?_⟩;rw [show its.toArray.any (eqU x)=its.any (eqU x) by simp,zet r fs];exact q
def zfc:zbk X (.type "tuple") (λ xs H Q=>∃ p ys,xs=[.ref p] /\ ((SqL X.K H p ys /\ ∀ l,H l=none -> Q (.ref l) (upd H l (.tup ys))) \/ (SqT X.K H p ys /\ Q (.ref p) H))):=by
 intro pins s σ H xs us Q I r h;obtain ⟨p,ys,rfl,h⟩:=h;obtain ⟨u,rfl,rx⟩:=zlK r;cases rx;rcases h with ⟨hq,q⟩ | ⟨hq,q⟩
 ·obtain ⟨its, r', pl, hz⟩ := I.list hq;have hlen := r'.length;refine call_tuple_list pl.isList (fun h' kp => ?_) (by simp only [yak] <;> omega);have I1 : Inv X pins σ H { s with heap := h' } := I.kept (t' := s.toks) kp
  have I2:Inv X pins σ (upd H h'.objs.size (.tup ys)) { s with heap:=h'.push { cls:=.type "tuple",data:=.seq its.toArray } }:=
   I1.laid (t':=s.toks) (λ b o e=>yab _ e) (yag _) (show zaN X.prog X.w _ _ _ (.tup ys) from ⟨hz,its,r',za5.new _ _⟩)
  exact ⟨.ref h'.objs.size,_,I2,rfl,q _ (I1.hok.fresh (yag _))⟩
 ·obtain ⟨its,r',pl,hz⟩:=I.tuple hq;exact call_tuple_same pl ⟨.ref p,H,I,rfl,q⟩
noncomputable def tyV (K:PySem.W.Frag) (T:String) (x:V) (H:Hp):Prop:=match x with
  | .str _=>T="str"
  | .int _=>T="int"
  | .ref p=>(T="list" /\ ∃ xs,SqL K H p xs) \/ (T="tuple" /\ ((∃ o,K.lookup p=some o /\ o.cls=.type "tuple" /\ o.dict=none) \/ ∃ xs,H p=some (.tup xs))) \/
      (T="dict" /\ ((∃ kvs,H p=some (.dK kvs)) \/ ∃ kvs,H p=some (.dT kvs))) \/ (T="set" /\ ∃ S n,H p=some (.set S n))
  | _=>False
def zk9 {pins:List (Addr × Obj)} {σ:St} {H:Hp} {s:Shared} {T:String} {x:V} {v:Value} (I:Inv X pins σ H s) (r:RelV x v) (ty:tyV X.K T x H) :
  s.TypeIs v T /\ ∀ a,v=.ref a -> ∃ ob,s.heap.get? a=some ob /\ ob.dict=none:=by
 cases x with
 | str z=>
  obtain ⟨t,rfl⟩:=r;cases (show T="str" from ty);exact ⟨typeIs_str s z t,λ _ e=>nomatch e⟩
 | int i=>
  obtain ⟨t,rfl⟩:=r;cases (show T="int" from ty);exact ⟨typeIs_int s i t,λ _ e=>nomatch e⟩
 | ref p=>
  cases r;rcases ty with ⟨rfl,xs,hq⟩ | ⟨rfl,⟨o,hk,hc,hd⟩ | ⟨xs,hx⟩⟩ | ⟨rfl,hk⟩ | ⟨rfl,S,n,hk⟩
  ·obtain ⟨its,_,pl,_⟩:=I.list hq;refine ⟨pl.isList.typeIs,λ a e=>?_⟩;cases e;obtain ⟨o,n,e,c,hd,_⟩:=pl;exact ⟨o,e,hd⟩
  ·refine ⟨⟨o,I.kIn p o hk,hc⟩,λ a e=>?_⟩;cases e;exact ⟨o,I.kIn _ o hk,hd⟩
  ·obtain ⟨_,_,_,o,e,c,hd,_⟩:=I.hok p _ hx;refine ⟨⟨o,e,c⟩,λ a e2=>?_⟩;cases e2;exact ⟨o,e,hd⟩
  ·have z:∃ o,s.heap.get? p=some o /\ o.ExactDict:=by
    rcases hk with ⟨kvs,hk⟩ | ⟨kvs,hk⟩
    ·obtain ⟨_,_,_,_,o,_,_,e,ex,_⟩:=I.hok p _ hk;exact ⟨o,e,ex⟩
    ·obtain ⟨_,_,_,_,o,_,_,e,ex,_⟩:=I.hok p _ hk;exact ⟨o,e,ex⟩
   obtain ⟨o,e,ex⟩:=z;refine ⟨⟨o,e,ex.1⟩,λ a e2=>?_⟩;cases e2;exact ⟨o,e,ex.2.1⟩
  ·obtain ⟨o,_,_,_,e,ex,_⟩:=I.hok p _ hk;refine ⟨⟨o,e,ex.1⟩,λ a e2=>?_⟩;cases e2;exact ⟨o,e,ex.2.1⟩
 | _=>exact False.elim ty
noncomputable def tBM0 (K:PySem.W.Frag) (T:String) (r:V -> List V -> Hp -> VK -> Prop) (to:TE):TE:=λ σ H Q=>to σ H λ x H1=>tyV K T x H1 /\ r x [] H1 Q
noncomputable def tBM (K:PySem.W.Frag) (T:String) (r:V -> List V -> Hp -> VK -> Prop) (to:TE) (t:TA):TE:=λ σ H Q=>to σ H λ x H1=>tyV K T x H1 /\ t σ H1 λ xs H2=>r x xs H2 Q
variable {o e:Expr} {es:List Expr} {to:TE} {t:TA} {name:Str} {apos cpos:Pos} {T id:String} {r:V -> List V -> Hp -> VK -> Prop}
def zm8 (pa:PlainAttrs T) (slot:Slot T name id) (hty:typeOf (.builtin id)=pure (.type "method_descriptor")) (hm:MtR X id r) (ho:PE X o to)
  (hbase:attributeBase o name X.env (eval o X.env)=eval o X.env:=by rfl) (hline:(apos.endLine == cpos.line)=true:=by rfl):PE X (.Call (.Attribute o name apos) [] [] cpos) (tBM0 X.K T r to):=by
 intro pins s σ H Q I h;refine wpAny_Call_method0_late hbase hline (thn (ho pins s σ H _ I h) λ v s1 ⟨x,H1,I1,r1,ty,q1⟩=>?_);obtain ⟨h1,h2⟩:=zk9 I1 r1 ty;exact ⟨T,id,pa,slot,hty,h1,h2,ybG rfl (PySem.evalArgs_none (hm pins s1 σ H1 x [] v [] Q I1 r1 .nil q1))⟩
def zon (pa:PlainAttrs T) (slot:Slot T name id) (hty:typeOf (.builtin id)=pure (.type "method_descriptor")) (hm:MtR X id r) (ho:PE X o to) (ha:PA X (e :: es) t)
  (hbase:attributeBase o name X.env (eval o X.env)=eval o X.env:=by rfl)
  (hfew : ((backTo cpos (starEach (e :: es) X.env)).all (fun x => !x.1) && (backToKw cpos (keywordEach [] X.env)).all (fun x => x.1.isSome)
   && decide ((e :: es).length + ([]:List Keyword).length + (if ([]:List Keyword).isEmpty then 0 else 1) < 30))=true:=by rfl)
  (hline:(apos.endLine == cpos.line)=true:=by rfl) (hs:starEach (e :: es) X.env=(false,eval e X.env) :: starEach es X.env:=by rfl) (hplain:(backTo cpos (starEach es X.env)).any (·.1)=false:=by rfl) :
  PE X (.Call (.Attribute o name apos) (e :: es) [] cpos) (tBM X.K T r to t):=by
 intro pins s σ H Q I h;refine wpAny_Call_method_late hbase hfew hline rfl (thn (ho pins s σ H _ I h) λ v s1 ⟨x,H1,I1,r1,ty,q1⟩=>?_);obtain ⟨h1,h2⟩:=zk9 I1 r1 ty;refine ⟨T,id,pa,slot,hty,h1,h2,?_⟩;have hA:=ha cpos pins s1 σ H1 _ I1 q1;rw [hs] at hA ⊢;refine ybG (by show (false || (backTo cpos (starEach es X.env)).any (·.1))=false; rw [hplain] <;> rfl) (Calls.evalArgs_plain ?_);exact thn hA λ us s2 ⟨vs,H2,I2,r2,q2⟩=>hm pins s2 σ H2 x vs v us Q I2 r1 r2 q2
end
noncomputable def MtM (X:Cx) (id:String) (r:V -> List V -> Hp -> VK -> Prop):Prop:=
 ∀ (pins:List (Addr × Obj)) (s:Shared) (σ:St) (H:Hp) (x:V) (xs:List V) (v:Value) (us:List Value) (Q:VK),Inv X pins σ H s -> RelV x v -> Vals xs us -> r x xs H Q ->
  wpAny (model X.prog X.w) X.A (call (.builtin id) (v :: us)) (EP X pins σ Q) X.xe s
def Vals.one:∀ {x:V} {us:List Value},Vals [x] us -> ∃ u,us=[u] /\ RelV x u
 | _,_,.cons r .nil=>⟨_,rfl,r⟩
def Vals.two:∀ {x y:V} {us:List Value},Vals [x,y] us -> ∃ u v,us=[u,v] /\ RelV x u /\ RelV y v
 | _,_,_,.cons r (.cons q .nil)=>⟨_,_,rfl,r,q⟩
def Vals.zero:∀ {us:List Value},Vals [] us -> us=[]
 | _,.nil=>rfl
def Vals.reverse {xs:List V} {us:List Value} (h:Vals xs us):Vals xs.reverse us.reverse:=by
 induction h with
 | nil=>exact .nil
 | cons r t ih=>rw [List.reverse_cons,List.reverse_cons]; exact Vals.append ih (.cons r .nil)
def Vals.rep {xs:List V} {us:List Value} (h:Vals xs us):∀ k:Nat,Vals (List.replicate k xs).flatten (List.replicate k us).flatten
 | 0=>.nil
 | k + 1=>by
  rw [ybg,ybg,ybP,ybP];exact Vals.append h (Vals.rep h k)
def zem (its:List Value):∀ (k:Nat) (acc:List Value),
  List.foldl (λ x1 x2=>x1 ++ x2) acc.toArray (List.replicate k its.toArray)=(acc ++ (List.replicate k its).flatten).toArray
 | 0,acc=>by simp
 | k + 1,acc=>by
  have e:acc.toArray ++ its.toArray=(acc ++ its).toArray:=by simp
  have e2:(acc ++ its) ++ (List.replicate k its).flatten=acc ++ (List.replicate (k + 1) its).flatten:=by
   rw [ybg,ybP,yaF]
  rw [<- e2,<- zem its k (acc ++ its),<- e,ybg,List.foldl_cons]
section
variable {X:Cx} {pins:List (Addr × Obj)} {σ:St} {H:Hp} {s:Shared} {l b:Addr} {xs ys zs:List V}
def Inv.lset {its its':List Value} {n:Nat} {f:Array Value -> Array Value} {t':Nat} (I:Inv X pins σ H s) (hH:H l=some (.lst xs))
  (e:s.heap.get? l=some { cls:=.type "list",data:=.seq its.toArray n }) (hf:f its.toArray=its'.toArray) (hv:Vals ys its') (hz:ys.length <= sizeLine) :
  Inv X pins σ (upd H l (.lst ys)) { s with heap:=s.heap.update l (Obj.mapSeq f),toks:=t' }:=by
 have q:=PySem.IsL.update e f;rw [hf] at q;refine I.write (x:=l) (e:=l) (by rw [hH]; exact trivial) (.inl rfl) (λ b' u hb hu=>(Heap.get?_update_other s.heap (Obj.mapSeq f) (ybF hb)).trans hu) ⟨_,q⟩ ?_;exact ⟨hz,its',_,hv,q⟩
def Inv.lnew {its:List Value} {t':Nat} (I:Inv X pins σ H s) (hv:Vals ys its) (hz:ys.length <= sizeLine) :
  Inv X pins σ (upd H s.heap.objs.size (.lst ys)) { s with heap:=s.heap.push { cls:=.type "list",data:=.seq its.toArray },toks:=t' }:=
 I.laid (λ _ _ q=>yab _ q) (yag _) ⟨hz,its,0,hv,yae _ rfl⟩
def Inv.fresh (I:Inv X pins σ H s):H s.heap.objs.size=none:=I.hok.fresh (yag _)
def Inv.lstM (I:Inv X pins σ H s) (hH:H l=some (.lst xs)):xs.length <= sizeLine /\ ∃ (its:List Value) (n:Nat),Vals xs its /\ xs.length=its.length /\ s.heap.get? l=some { cls:=.type "list",data:=.seq its.toArray n }:=by
 obtain ⟨z,its,n,r,e⟩:=I.hok l _ hH;exact ⟨z,its,n,r,r.length,e⟩
def zhw {n:Nat} (h:n <= sizeLine):Builtin.List.listTooLong n=false:=by
 unfold Builtin.List.listTooLong;exact decide_eq_false (1:)
end
section
variable {X:Cx}
noncomputable def ziu:V -> List V -> Hp -> VK -> Prop:=λ x vs H Q=>∃ l xs y,x=.ref l /\ vs=[y] /\ H l=some (.lst xs) /\ xs.length < sizeLine /\ Q .non (upd H l (.lst (xs ++ [y])))
def zaP:MtM X "list.append" ziu:=by
 intro pins s σ H x vs v us Q I rx rv h;obtain ⟨l,xs,y,rfl,rfl,hH,hz,q⟩:=h;cases rx;obtain ⟨u,rfl,ru⟩:=rv.one;obtain ⟨z,its,n,r,hl,e⟩:=I.lstM hH;refine call_meets F.slot_list_append ⟨_,e,rfl⟩ F.entry_list_append (F.args_list_append_2 _ _) (PySem.list_append l its.toArray n u (by rw [yak]; omega)) ⟨e,?_⟩;refine ⟨.non,_,I.lset (its':=its ++ [u]) hH e (5:) (r.append (.cons ru .nil)) ?_,rfl,q⟩;rw [yaf,List.length_singleton];omega
noncomputable def zjI:V -> List V -> Hp -> VK -> Prop:=λ x vs H Q=>∃ l b xs zs,x=.ref l /\ vs=[.ref b] /\ H l=some (.lst xs) /\ H b=some (.lst zs) /\ xs.length + zs.length <= sizeLine /\ Q .non (upd H l (.lst (xs ++ zs)))
def zgq:MtM X "list.extend" zjI:=by
 intro pins s σ H x vs v us Q I rx rv h;obtain ⟨l,b,xs,zs,rfl,rfl,hH,hB,hz,q⟩:=h;cases rx;obtain ⟨u,rfl,ru⟩:=rv.one;cases ru;obtain ⟨z,its,n,r,hl,e⟩:=I.lstM hH;obtain ⟨z2,its2,n2,r2,hl2,e2⟩:=I.lstM hB;have hsz:its.toArray.size + its2.toArray.size <= sizeLine:=by rw [yak,yak]; omega
 have hlong:¬ (!its.toArray.isEmpty && Builtin.List.listTooLong (its.toArray.size + its2.toArray.size))=true:=by
  rw [zhw hsz,Bool.and_false];exact yaq
 refine call_meets F.slot_list_extend ⟨_,e,rfl⟩ F.entry_list_extend (F.args_list_extend_2 _ _)
  (AutoSeq1.list_extend_list_list_0 l its.toArray n b its2.toArray n2 hlong (by rw [yak]; omega) (1:)) ⟨e,e2,?_⟩
 refine ⟨.non,_,I.lset (its':=its ++ its2) hH e (5:) (r.append r2) ?_,rfl,q⟩;rw [yaf];omega
noncomputable def zkv:V -> List V -> Hp -> VK -> Prop:=λ x vs H Q=>∃ l xs,x=.ref l /\ vs=[] /\ H l=some (.lst xs) /\ Q .non (upd H l (.lst xs.reverse))
def zh6:MtM X "list.reverse" zkv:=by
 intro pins s σ H x vs v us Q I rx rv h;obtain ⟨l,xs,rfl,rfl,hH,q⟩:=h;cases rx;have hus:=rv.zero;subst hus;obtain ⟨z,its,n,r,hl,e⟩:=I.lstM hH;refine call_meets F.slot_list_reverse ⟨_,e,rfl⟩ F.entry_list_reverse (F.args_list_reverse_1 _) (AutoSeq1.list_reverse_list_0 l its.toArray n (by rw [yak]; omega)) ⟨e,?_⟩;refine ⟨.non,_,I.lset (its':=its.reverse) hH e (5:) r.reverse ?_,rfl,q⟩;rw [ybD];omega
noncomputable def rCat:R2:=λ x y H Q=>∃ l b xs zs,x=.ref l /\ y=.ref b /\ H l=some (.lst xs) /\ H b=some (.lst zs) /\ xs.length + zs.length <= sizeLine /\ ∀ p,H p=none -> Q (.ref p) (upd H p (.lst (xs ++ zs)))
def zmK:OpR X (binaryOp .Add) rCat:=by
 intro pins s σ H x y v u Q I rx ry h;obtain ⟨l,b,xs,zs,rfl,rfl,hH,hB,hz,q⟩:=h;cases rx;cases ry;obtain ⟨z,its,n,r,hl,e⟩:=I.lstM hH;obtain ⟨z2,its2,n2,r2,hl2,e2⟩:=I.lstM hB;refine PySem.P.add_list e e2 ?_ (by rw [yak,yak]; omega);have ea:its.toArray ++ its2.toArray=(its ++ its2).toArray:=by simp
 rw [ea];exact ⟨.ref _,_,I.lnew (t':=s.toks) (r.append r2) (by rw [yaf]; omega),rfl,q _ I.fresh⟩
noncomputable def rRep:R2:=λ x y H Q=>∃ l k xs,x=.ref l /\ y=.int k /\ H l=some (.lst xs) /\ -(2 ^ 63) <= k /\ k < 2 ^ 63 /\ xs.length * k.toNat <= sizeLine /\
 ∀ p,H p=none -> Q (.ref p) (upd H p (.lst (List.replicate k.toNat xs).flatten))
def zji {α:Type} (xs:List α) (k:Nat):(List.replicate k xs).flatten.length=k * xs.length:=by
 induction k with
 | zero=>simp
 | succ k ih=>rw [ybg,ybP,yaf,ih,Nat.succ_mul,Nat.add_comm]
def znc:OpR X (binaryOp .Mult) rRep:=by
 intro pins s σ H x y v u Q I rx ry h;obtain ⟨l,k,xs,rfl,rfl,hH,h1,h2,hz,q⟩:=h;cases rx;obtain ⟨t,rfl⟩:=ry;obtain ⟨z,its,n,r,hl,e⟩:=I.lstM hH;have hlen:its.toArray.size * k.toNat <= sizeLine:=by rw [yak,<- hl]; exact hz
 have hcap:¬ its.toArray.size * k.toNat > (2 ^ 63 - 1) / 8:=by
  have:(sizeLine:Nat) <= (2 ^ 63 - 1) / 8:=by decide
  omega
 have hfit:¬ (!Builtin.List.listFitsIndex k)=true:=by
  rw [fitsIndex_both h1 h2];exact yaq
 have hlong:¬ Builtin.List.listTooLong (its.toArray.size * k.toNat)=true:=by
  rw [zhw hlen];exact yaq
 have hnew:List.foldl (λ x1 x2=>x1 ++ x2) #[] (List.replicate (if its.toArray.isEmpty=true then 0 else k.toNat) its.toArray)=(List.replicate k.toNat its).flatten.toArray:=by
  have f0:∀ m:Nat,List.foldl (λ x1 x2=>x1 ++ x2) #[] (List.replicate m its.toArray)=(List.replicate m its).flatten.toArray:=λ m=>by
   have:=zem its m [];rw [List.nil_append] at this;exact this
  rw [f0];cases its with
  | nil=>simp
  | cons a r'=>rw [if_neg (5:)]
 refine wpAny_binaryOp_repeat_ref (T:="list") (U:="int") (3:) ⟨_,e,rfl⟩ (λ s'=>typeIs_int s' k t) noFill_list_mul F.fills_int_mul ycv repeat_list F.slot_int_index.lookup
  (call_meets ycv (typeIs_int s k t) F.entry_int_rmul (F.args_int_rmul_2 _ _) (int___rmul___int_list k t l its.toArray n)
   ⟨e,rfl,⟨_,e,rfl⟩,call_meets F.slot_list_mul ⟨_,e,rfl⟩ F.entry_list_mul (F.args_list_mul_2 _ _) (AutoListH.list___mul___list_int_3 l its.toArray n k t hfit hcap hlong) ⟨e,?_⟩⟩)
 rw [hnew];exact ⟨.ref _,_,I.lnew (t':=s.toks) (r.rep k.toNat) (by rw [zji,ycz]; exact hz),rfl,q _ I.fresh⟩
end
section
variable {prog:Program} {w:World} {A:Around} {E:Value -> Shared -> Prop} {s:Shared}
end
section
variable {X:Cx}
end
end L2
namespace Att
open PySem PySem.W PySem.Calls PyProof.Rows
def zej {P:Params} {h:Heap}:∀ (ns:List Int) (vs:List Value),WellAll P h vs (ns.map WData.int) -> IntsAre vs ns:=by
 intro ns
 induction ns with
 | nil=>
  intro vs w;rw [List.map_nil] at w;cases w;exact .nil
 | cons n ns ih=>
  intro vs w;rw [yaI] at w;cases w with
  | cons a b=>
   cases a;exact .cons _ _ (ih _ b)
def ziv {l:OpenLaw} {n:Nat} (hn:l.most=some n) {P:Params} {h:Heap} {args:List WData} {vals:List Value}
    (hpre:l.row.toRowW.claim.pre args=true) (hwl:WellAll P h vals args) :
    ∃ a vs ns,vals=[Value.ref a] /\ args=[WData.list (ns.map WData.int)] /\ h.get? a=some { cls:=.type "list",data:=.seq vs.toArray } /\ IntsAre vs ns /\ ns.length <= n:=by
  have hsh:WShape.hasAll [] args [.list .int]=true:=(pre_splitW hpre).1;have hc:l.pre.holds [] { args:=args }=true:=(pre_splitW hpre).2;obtain ⟨d,r,rfl,h1,h2⟩:=hasAllW_cons hsh;obtain rfl:=hasAllW_nil h2;obtain ⟨xs,rfl,h3⟩:=hasW_list h1;obtain ⟨ns,rfl⟩:=items_int h3
  have hlen:ns.length <= n:=by
    unfold OpenLaw.pre at hc
    have h4:(WTm.not (.lt (.lit (.int (n:Int))) (.len (.arg 0)))).holds [] { args:=[.list (ns.map .int)] }=true:=by
      have h4:=(holds_andW hc).1;rw [hn] at h4;exact h4
    have h5:=condW_of h4 (w_not (w_lt w_lit (w_len_list (w_arg rfl))));rw [yac] at h5;refine Nat.le_of_not_lt λ q=>?_;have q':(n:Int) < ((ns.length:Nat):Int):=by omega
    first
      | (rw [decide_eq_true q'] at h5; exact absurd h5 (3:))
      | (simp at h5; omega)
  cases hwl with
  | cons w1 w2=>
    cases w2;cases w1 with
    | list ho hall=>exact ⟨_,_,ns,rfl,rfl,ho,zej ns _ hall,hlen⟩
def ziY (l:OpenLaw) (args:List WData):l.row.toRowW.claim.post args (.bool true) args=true:=
 postW_of (r:=l.row.toRowW) (X:=(true == true))
  (show WShape.has [] (.bool true) .bool=true by first | rfl | decide | simp [WShape.has,WShape.arms,WShape.armsAll])
  (show (WTm.eq .res (.lit (.bool true))).value [] { args:=args,res:=some (.bool true),after:=args }=some (.bool (true == true)) from w_eq_bool (w_res rfl) w_lit) rfl
def attach_call {l:OpenLaw} {n:Nat} {q:Program} {loose:List Str} {XP:(Str -> Option Value) -> Heap -> Prop} {YP:World -> Heap -> Prop} {d:DefRec}
    (hn:l.most=some n) (hdf:d.params.defaults=[])
    (call:∀ (w:World) (s₀ s₁:Shared) (mg mb:Str -> Option Value) (fa:Addr) (o:Obj) (pm cd doc:Value) (a:Addr) (vs:List Value) (ns:List Int),
      Ground q loose [] XP w s₀ mg mb s₁.heap -> YP w s₁.heap ->
      s₁.heap.get? fa=some o -> o.data=.func (docDef d.name d.params d.body d.scope pm cd doc) -> s₁.heap.CodeRec cd d.name -> mg d.name=some (.ref fa) ->
      s₁.heap.get? a=some { cls:=.type "list",data:=.seq vs.toArray } -> IntsAre vs ns -> ns.length <= n -> s₁.gens=#[] ->
      codeAny (model l.prog w) callerA (.call (.ref fa) ⟨[.ref a],[]⟩) (λ r s'=>r=.ok (.ret (.bool true)) /\ OldK s₁.heap s'.heap /\ s'.os=s₁.os /\ AllBare s'.gens) s₁) :
    WalkO q loose XP YP l.row.toRowW d [] (λ f vs=>PySem.call f vs):=by
  intro w s₀ s₁ mg mb G Y fa o pm cd doc dV kV ho hd hcd hD hmg hg args vals as hpre hlay hrd hwl hlo;obtain rfl:dV=.none:=Dflts.none hD hdf;obtain rfl:kV=.none:=Dflts.noKw hD;obtain ⟨a,vs,ns,rfl,rfl,hobj,hints,hlen⟩:=ziv hn hpre hwl;refine enter_call (codeAny_mono (call w s₀ s₁ mg mb fa o pm cd doc a vs ns G Y ho (fd_plain hd) hcd hmg hobj hints hlen hg) λ r s' hq=>?_);obtain ⟨rfl,h2,h3,h4⟩:=hq;exact ⟨.inl ⟨.bool true,.bool true,[],rfl,λ _=>rfl,.bool true,ziY l _,λ _=>⟨List.Pairwise.nil,λ _ hm=>(nomatch hm)⟩⟩,h2,h3,h4⟩
section
variable {prog:Program} {w:World} {A:Around} {E:Value -> Shared -> Prop} {s:Shared} {K:Frag}
end
end Att
namespace L2
open PySem PySem.Spec PyProof.Rows
def zfO:∀ {vs:List Value} {ns:List Int},IntsAre vs ns -> Vals (ns.map V.int) vs
 | _,_,.nil=>.nil
 | _,_,.cons n t h=>.cons ⟨t,rfl⟩ (zfO h)
noncomputable def Only (H:Hp):Prop:=∀ b,H b=none \/ ∃ o xs,H b=some (.frz o (.lst xs))
def zkP {P:Program} {w:World} {K:PySem.W.Frag} {mg mb:Str -> Option Value} {CX:CXT} {k:Nat} {fa a:Addr} {fd:FuncData} {x:Str} {sp:Sp} {s₁:Shared} {vs:List Value} {ns:List Int}
    (KX:K.In s₁.heap) (hns:s₁.heap.Ns mainGlobals mg) (hb:s₁.heap.Ns builtinsNs mb) (hbb:∀ x:Str,x ≠ "__name__" -> mb x=bootBuiltins x) (hlim:s₁.heap.NoLimit) (hg:s₁.gens=#[])
    (ha:s₁.heap.get? a=some { cls:=.type "list",data:=.seq vs.toArray }) (hi:IntsAre vs ns) (hl:ns.length <= sizeLine) (hr:Room k callerA)
    (F:∀ base:Heap,K.In base -> base.Ns mainGlobals mg -> FnOk P w K mg base CX k fa fd [x] sp) (hbind:∀ (s:Shared) (u:Value),BindsTo s fd ⟨[u],[]⟩ [(x,u)])
    (hsp:∀ H:Hp,Only H -> SqL K H a (ns.map V.int) -> sp [.ref a] H (λ v _=>v=.bl true) λ _ _ _=>False)
    (hCX:∀ H e s',CX [] H s₁ (λ _ _ _=>False) e s' -> False) :
    codeAny (model P w) callerA (.call (.ref fa) ⟨[.ref a],[]⟩) (λ r s'=>r=.ok (.ret (.bool true)) /\ OldK s₁.heap s'.heap /\ s'.os=s₁.os /\ AllBare s'.gens) s₁:=by
  have rv:=zfO hi;have lenV:=hi.length
  -- from an abstract heap in which nothing but the script may be tracked
  have core:∀ H:Hp,Only H -> SqL K H a (ns.map V.int) -> HOk P w H s₁.heap -> (∀ b,H b ≠ none -> b=a) -> (H a ≠ none -> K.lookup a=none) ->
      codeAny (model P w) callerA (.call (.ref fa) ⟨[.ref a],[]⟩) (λ r s'=>r=.ok (.ret (.bool true)) /\ OldK s₁.heap s'.heap /\ s'.os=s₁.os /\ AllBare s'.gens) s₁:=by
    intro H hO hS hok hA hK;have base_of:∀ {b:Addr} {o:Obj},s₁.heap.get? b=some o -> H b=none -> (hidT s₁.heap H).get? b=some o:=λ e n=>zkc e n
    have noA:∀ {b:Addr} {o:Obj} {es:Array DictEntry} {ep:Nat},s₁.heap.get? b=some o -> o.data=.dict es ep -> H b=none:=λ {b o es ep} e d=>by
      cases q:H b with
      | none=>rfl
      | some u=>
        have e':b=a:=hA b (by rw [q]; simp);subst e';rw [ha] at e; cases e;have d':Data.seq vs.toArray _=Data.dict es ep:=d;cases d'
    have nsK:∀ {b:Addr} {m:Str -> Option Value},s₁.heap.Ns b m -> (hidT s₁.heap H).Ns b m:=λ {b m} ⟨o,es,ep,e,d,r⟩=>⟨o,es,ep,base_of e (noA e d),d,r⟩
    have hKb:K.In (hidT s₁.heap H):=λ b o e=>base_of (KX b o e) (by
      cases q:H b with
      | none=>rfl
      | some u=>
        have e':b=a:=hA b (by rw [q]; simp);subst e';rw [hK (by rw [q]; simp)] at e; cases e)
    have hM:Mod K mg (hidT s₁.heap H):=⟨hKb,nsK hns,⟨mb,nsK hb,hbb⟩,let ⟨mc,h1,h2⟩:=hlim; ⟨mc,nsK h1,h2⟩⟩
    have e0:Env0 P w K mg (hidT s₁.heap H) callerA [] s₁ H:=⟨rfl,hM,λ b o e=>zlX e,Nat.le_of_eq (zjd _ _),trivial,λ b hb=>absurd (show b ∈ ([]:List Addr) from hb) (5:),hok,.of_eq hg⟩
    refine codeAny_mono ((F _ hKb (nsK hns)).run callerA [] s₁ H ⟨[.ref a],[]⟩ [.ref a] [.ref a] _ _ hr e0 (hbind s₁ (.ref a)) (.cons rfl .nil) (hsp H hO hS)) λ r s' h=>?_;cases r with
    | error e=>exact (hCX H e s' h).elim
    | ok fl=>
      cases fl with
      | next=>exact False.elim h
      | brk=>exact False.elim h
      | cont=>exact False.elim h
      | ret u=>
        obtain ⟨v,H',os,bare,un,hok',r',q⟩:=h;have q':v=.bl true:=q;subst q';obtain rfl:u=Value.bool true:=r';refine ⟨rfl,OldK.of_keep λ b o e=>?_,os,bare⟩;cases q:H b with
        | none=>exact un.keep b o e q (by intro z; exact absurd (show b ∈ ([]:List Addr) from z) (5:)) (5:)
        | some u=>
          rcases hO b with z | ⟨ob,xs,z⟩
          · rw [q] at z; cases z
          · have z2:=un.frzs b ob _ z;obtain ⟨e1,_⟩:=hok b _ z;obtain ⟨e2,_⟩:=hok' b _ z2;rw [e] at e1; cases e1;exact e2
  cases hk:K.lookup a with
  | some o=>
    -- the script is one of the module's own objects
    have e:=KX a o hk;rw [ha] at e;cases e;refine core (λ _=>none) (λ _=>.inl rfl) (.inr ⟨_,vs.toArray,_,hk,rfl,rfl,rfl,by rw [yak,lenV]; exact hl,by simpa using rv⟩) (λ b u z=>by have z':(none:Option HO)=some u:=z; cases z') (λ b z=>absurd rfl z) λ z=>absurd rfl z
  | none=>
    refine core (λ b=>if b=a then some (.frz { cls:=.type "list",data:=.seq vs.toArray } (.lst (ns.map V.int))) else none) (λ b=>?_) (.inl (.inr ⟨{ cls:=.type "list",data:=.seq vs.toArray },if_pos rfl⟩)) (λ b u z=>?_) (λ b z=>?_) λ _=>hk
    · by_cases hb : b = a
      · exact .inr ⟨_,_,if_pos hb⟩
      · exact .inl (if_neg hb)
    · by_cases hb : b = a
      · have z':=(if_pos hb).symm.trans z;cases z';subst hb;exact ⟨ha,by rw [yac]; exact hl,vs,_,rv,ha⟩
      · have z':=(if_neg hb).symm.trans z;cases z'
    · by_cases hb : b = a
      · exact hb
      · exact absurd (if_neg hb) z
def walk_of {l:PySem.W.OpenLaw} {n k:Nat} {q:Program} {loose:List Str} {XP:(Str -> Option Value) -> Heap -> Prop} {YP:World -> Heap -> Prop} {d:DefRec} {K:Params -> PySem.W.Frag} {CX:World -> CXT} {sp:World -> Sp} {x:Str}
    (hn:l.most=some n) (hn2:n <= sizeLine) (hdf:d.params.defaults=[]) (hr:Room k callerA)
    (hY:∀ (w:World) (h:Heap),YP w h -> (K w.params).In h)
    (F:∀ (w:World) (mg:Str -> Option Value) (fa:Addr) (h:Heap),(K w.params).In h -> h.Ns mainGlobals mg -> mg d.name=some (.ref fa) ->
      ∃ fd:FuncData,(∀ (s:Shared) (u:Value),BindsTo s fd ⟨[u],[]⟩ [(x,u)]) /\
        ∀ base:Heap,(K w.params).In base -> base.Ns mainGlobals mg -> FnOk l.prog w (K w.params) mg base (CX w) k fa fd [x] (sp w))
    (hsp:∀ (w:World) (H:Hp) (a:Addr) (ns:List Int),ns.length <= n -> Only H -> SqL (K w.params) H a (ns.map V.int) -> sp w [.ref a] H (λ v _=>v=.bl true) λ _ _ _=>False)
    (hCX:∀ (w:World) (H:Hp) (s:Shared) (e:Value) (s':Shared),CX w [] H s (λ _ _ _=>False) e s' -> False) :
    PySem.W.WalkO q loose XP YP l.row.toRowW d [] (λ f vs=>PySem.call f vs):=by
  refine Att.attach_call hn hdf λ w s₀ s₁ mg mb fa o pm cd doc a vs ns G Y ho hd hcd hmg hobj hints hlen hg=>?_;have KX:=hY w _ Y;obtain ⟨fd,hb,hF⟩:=F w mg fa _ KX G.T.g hmg;exact zkP KX G.T.g G.T.b G.T.builtins G.T.nolimit hg hobj hints (yaY hlen hn2) hr hF hb (λ H hO hS=>hsp w H a ns hlen hO hS) λ H e s'=>hCX w H s₁ e s'
noncomputable def zcN (s:Stmt):Arguments:=match s with
 | .FunctionDef _ a _ _ _ _ _ _ _ _=>a
 | _=>{ posonlyargs:=[],args:=[],vararg:=none,kwonlyargs:=[],kw_defaults:=[],kwarg:=none,defaults:=[] }
noncomputable def zcm (s:Stmt):List Stmt:=match s with
 | .FunctionDef _ _ b _ _ _ _ _ _ _=>b
 | _=>[]
noncomputable def zah (s:Stmt):Scope:=match s with
 | .FunctionDef _ _ _ _ _ _ sc _ _ _=>sc
 | _=>{ kind:=.function,names:=[],isGenerator:=false,isCoroutine:=false }
noncomputable abbrev CX0:CXT:=λ _ _ _ _ _ _=>False
noncomputable abbrev E0:XK:=λ _ _ _=>False
def zoA {X:Cx}:ziE CX0 X E0:=λ _ _ _ _ _ _ _ h=>h.elim
structure Fun (K:PySem.W.Frag) (x qual:Str) (st:Stmt) (f:Addr) (fd:FuncData):Prop where
 ex:∃ (oc:Value) (od:Option Addr) (kV doc pm:Value) (an:Option Addr) (cdv ct:Value) (osl:Array (Option Value)),
  fd=PySem.W.fnOf x qual (zcN st) (zcm st) (zah st) .none kV doc pm an cdv ct /\ K.lookup f=some ⟨oc,od,.func fd,osl⟩ /\ PySem.W.codeIn K cdv qual=true
 kp:PySem.W.keepIn K (.ref f)=true
section
variable {P:Program} {w:World} {K:PySem.W.Frag} {mg:Str -> Option Value} {base:Heap}
def Fun.ok {x qual:Str} {st:Stmt} {f:Addr} {fd:FuncData} {N ps:List Str} {k:Nat} {sp:Sp} (F:Fun K x qual st f fd) (S:FnScope N ps (zah st)) (len:∀ vs H Q E,sp vs H Q E -> vs.length=ps.length)
  (hbody : ∀ (cdv : Value) (A : Around) (outer : List Env) (s : Shared) (H : Hp) (vs : List V) (Q : VK) (E : XK), Room k (A.deeper (envOfC qual (zah st) s.heap.objs.size f cdv)) -> sp vs H Q E ->
   ∃ t,PSs (cxOf CX0 P w K mg base N qual (zah st) f cdv A outer s H E).nox (zcm st) t /\ t { nx:=λ _ H'=>Q .non H',rt:=Q } (start N vs) H):FnOk P w K mg base CX0 (k + 1) f fd ps sp:=by
 obtain ⟨oc,od,kV,doc,pm,an,cdv,ct,osl,rfl,lk,hcd⟩:=F.ex;refine zor lk hcd S len λ A outer s H vs Q E hr hsp=>?_;obtain ⟨t,h,q⟩:=hbody cdv A outer s H vs Q E hr hsp;exact ⟨t,h.nox,q⟩
def Fun.binds {x qual:Str} {st:Stmt} {f:Addr} {fd:FuncData} {ps:List Str} (F:Fun K x qual st f fd)
  (h:∀ (kV doc pm:Value) (an:Option Addr) (cdv ct:Value) (us:List Value),us.length=ps.length -> bindArgs (PySem.W.fnOf x qual (zcN st) (zcm st) (zah st) .none kV doc pm an cdv ct) ⟨us,[]⟩=pure (ps.zip us)):zgM K fd ps []:=by
 obtain ⟨oc,od,kV,doc,pm,an,cdv,ct,osl,rfl,lk,hcd⟩:=F.ex;exact .all (h kV doc pm an cdv ct)
def zkX {x qual:Str} {st:Stmt} {f:Addr} {oc:Value} {od an:Option Addr} {osl:Array (Option Value)} {kV doc pm cdv ct:Value} (l:K.lookup f=some ⟨oc,od,.func (PySem.W.fnOf x qual (zcN st) (zcm st) (zah st) .none kV doc pm an cdv ct),osl⟩)
  (c:PySem.W.codeIn K cdv qual=true) (k:PySem.W.keepIn K (.ref f)=true):Fun K x qual st f (PySem.W.fnOf x qual (zcN st) (zcm st) (zah st) .none kV doc pm an cdv ct):=⟨⟨oc,od,kV,doc,pm,an,cdv,ct,osl,rfl,l,c⟩,k⟩
end
section
variable {X:Cx}
def pv (i:Nat) {x:Str} {pos:Pos} (hN:X.N[i]?=some x:=by rfl) (hv:Vis X.env.scope x:=by first | exact Or.inl rfl | exact Or.inr (Or.inl rfl) | exact Or.inr (Or.inr rfl)) (hd:(x == ("__debug__":Str))=false:=by decide)
  (hcd:(x == ("__classdict__":Str))=false:=by decide):PE X (.Name x pos) (tVar i):=zmH hN hv hd hcd
end
def iteF {A B:Prop} (h:B):if false=true then A else B:=by
 rw [if_neg yaq];exact h
def iteT {A B:Prop} (h:A):if true=true then A else B:=by
 rw [if_pos rfl];exact h
def ite2 {c A B:Prop} [Decidable c] (h1:c -> A) (h2:¬ c -> B):if c then A else B:=by
 by_cases h:c
 ·rw [if_pos h];exact h1 h
 ·rw [if_neg h];exact h2 h
noncomputable def Same (H H':Hp):Prop:=∀ b o,H b=some o -> H' b=some o
def Same.refl (H:Hp):Same H H:=λ _ _ h=>h
def Same.trans {H H1 H2:Hp} (a:Same H H1) (b:Same H1 H2):Same H H2:=λ c o h=>b c o (a c o h)
def Same.free {H H':Hp} (e:Same H H') {l:Addr} (h:H' l=Option.none):H l=Option.none:=by
 cases q:H l with
 | none=>rfl
 | some o=>
  rw [e l o q] at h;cases h
def Same.seq {K:PySem.W.Frag} {H H':Hp} {a:Addr} {xs:List V} (e:Same H H') (h:SqL K H a xs):SqL K H' a xs:=by
 rcases h with (h | ⟨o,h⟩) | h
 ·exact .inl (.inl (e _ _ h))
 ·exact .inl (.inr ⟨o,e _ _ h⟩)
 ·exact .inr h
noncomputable def zbD (cells:List (Str × Addr)):List (Str × NameKind) -> List (Str × Addr) -> List (Str × Addr)
 | [],cs=>cs
 | (n,k) :: r,cs=>if k == .free then (match cells.lookup n with | some a=>zbD cells r ((n,a) :: cs) | none=>zbD cells r cs) else zbD cells r cs
noncomputable abbrev clOf (env:Env) (scope:Scope):List (Str × Addr):=zbD env.cells scope.names []
def zeX {env:Env}:∀ (names:List (Str × NameKind)) (cs:List (Str × Addr)),(∀ p ∈ names,p.2=.free -> ∃ c,env.cells.lookup p.1=some c) ->
    (forIn names cs λ x r=>(if (x.2 == NameKind.free)=true then (do let a <- cellOf env x.1; pure (ForInStep.yield ((x.1,a) :: r))) else pure (ForInStep.yield r)):Sem (List (Str × Addr)))=pure (zbD env.cells names cs)
  | [],cs,_=>by simp [zbD]
  | (n,k) :: r,cs,h=>by
    have hr:∀ p ∈ r,p.2=.free -> ∃ c,env.cells.lookup p.1=some c:=λ p hp=>h p (yan _ hp);rw [ycw];by_cases hk:k=.free
    · subst hk;obtain ⟨c,e⟩:=h (n,.free) yay rfl;have ih:=zeX r ((n,c) :: cs) hr;simp only [beq_self_eq_true,if_true,cellOf,e,pure_bind,zbD];exact ih
    · have hb : (k == NameKind.free) = false := by simpa using hk
      have ih:=zeX r cs hr;simp only [hb,yar,if_false,pure_bind,zbD];exact ih
def zdb {scope:Scope} {env:Env} (h:∀ p ∈ scope.names,p.2=.free -> ∃ c,env.cells.lookup p.1=some c):closureFor scope env=pure (clOf env scope):=by
 have e:=zeX (env:=env) scope.names [] h;unfold closureFor;simp only [bind_pure];exact e
def zcx {cells:List (Str × Addr)}:∀ (names:List (Str × NameKind)) (cs:List (Str × Addr)),(∀ p ∈ cs,cells.lookup p.1=some p.2) -> ∀ p ∈ zbD cells names cs,cells.lookup p.1=some p.2
 | [],_,h=>h
 | (n,k) :: r,cs,h=>by
  unfold zbD
  split
  ·cases e : cells.lookup n with
   | none=>exact zcx r cs h
   | some a=>
    refine zcx r _ λ p hp=>?_;rcases yal.mp hp with rfl | hp
    ·exact e
    ·exact h p hp
  ·exact zcx r cs h
def zct {cells:List (Str × Addr)} {x:Str}:∀ (names:List (Str × NameKind)) (cs:List (Str × Addr)),(cs.lookup x).isSome=true -> ((zbD cells names cs).lookup x).isSome=true
 | [],_,h=>h
 | (n,k) :: r,cs,h=>by
  unfold zbD
  split
  ·cases e : cells.lookup n with
   | none=>exact zct r cs h
   | some a=>
    refine zct r _ ?_;rw [ya4]
    split
    ·rfl
    ·exact h
  ·exact zct r cs h
def zcy {cells:List (Str × Addr)} {x:Str} {c:Addr} (e:cells.lookup x=some c):∀ (names:List (Str × NameKind)) (cs:List (Str × Addr)),(x,NameKind.free) ∈ names -> ((zbD cells names cs).lookup x).isSome=true
 | [],_,h=>nomatch h
 | (n,k) :: r,cs,h=>by
  unfold zbD;rcases yal.mp h with h | h
  ·cases h;rw [if_pos (0:),e];exact zct r _ (5:)
  ·split
   ·cases e' : cells.lookup n with
    | none=>exact zcy e r cs h
    | some a=>exact zcy e r _ h
   ·exact zcy e r cs h
def zbB {env:Env} {scope:Scope} {x:Str} {c:Addr} (h:(clOf env scope).lookup x=some c):env.cells.lookup x=some c:=
 zcx scope.names [] (λ _ z=>nomatch z) (x,c) (ybf h)
def zhn {env:Env} {scope:Scope} {x:Str} {c:Addr} (e:env.cells.lookup x=some c) (h:(x,NameKind.free) ∈ scope.names):(clOf env scope).lookup x=some c:=by
 obtain ⟨d,q⟩:=yb2.mp (zcy e scope.names [] h);have:=zbB (scope:=scope) q;rw [e] at this;cases this;exact q
def zbt {env:Env}:∀ {names:List (Str × NameKind)} {x:Str},names.lookup x=some .free ->
    (names.map λ (n,k)=>if (k == NameKind.free && env.scope.kind == .function && env.kindOf n == some .cell) then (n,NameKind.cell) else (n,k)).lookup x=some .cell \/
    (names.map λ (n,k)=>if (k == NameKind.free && env.scope.kind == .function && env.kindOf n == some .cell) then (n,NameKind.cell) else (n,k)).lookup x=some .free
  | [],_,h=>by simp at h
  | (n,k) :: r,x,h=>by
    have ih:=@zbt env r x;show List.lookup x ((if (k == NameKind.free && env.scope.kind == .function && env.kindOf n == some .cell)=true then (n,NameKind.cell) else (n,k)) :: _)=_ \/ List.lookup x ((if (k == NameKind.free && env.scope.kind == .function && env.kindOf n == some .cell)=true then (n,NameKind.cell) else (n,k)) :: _)=_;cases hx:x == n with
    | true=>
      simp only [ya4,hx] at h;cases h;by_cases hc:(NameKind.free == NameKind.free && env.scope.kind == .function && env.kindOf n == some .cell)=true
      · rw [if_pos hc]; simp [ya4,hx]
      · rw [if_neg hc]; simp [ya4,hx]
    | false=>
      simp only [ya4,hx] at h;by_cases hc:(k == NameKind.free && env.scope.kind == .function && env.kindOf n == some .cell)=true
      · rw [if_pos hc]; simp only [ya4,hx]; exact ih h
      · rw [if_neg hc]; simp only [ya4,hx]; exact ih h
def zby {env:Env}:∀ {names:List (Str × NameKind)} {x:Str},(∀ y ∈ names,y.2 ≠ .cell) ->
    ((names.map λ (n,k)=>if (k == NameKind.free && env.scope.kind == .function && env.kindOf n == some .cell) then (n,NameKind.cell) else (n,k)).lookup x=some .cell \/
    (names.map λ (n,k)=>if (k == NameKind.free && env.scope.kind == .function && env.kindOf n == some .cell) then (n,NameKind.cell) else (n,k)).lookup x=some .free) -> (x,NameKind.free) ∈ names
  | [],_,_,h=>by simp at h
  | (n,k) :: r,x,hc,h=>by
    have ih:=@zby env r x λ y hy=>hc y (yan _ hy);have hk:k ≠ .cell:=hc (n,k) yay
    have h':List.lookup x ((if (k == NameKind.free && env.scope.kind == .function && env.kindOf n == some .cell)=true then (n,NameKind.cell) else (n,k)) :: (r.map λ (n,k)=>if (k == NameKind.free && env.scope.kind == .function && env.kindOf n == some .cell) then (n,NameKind.cell) else (n,k)))=some .cell \/
      List.lookup x ((if (k == NameKind.free && env.scope.kind == .function && env.kindOf n == some .cell)=true then (n,NameKind.cell) else (n,k)) :: (r.map λ (n,k)=>if (k == NameKind.free && env.scope.kind == .function && env.kindOf n == some .cell) then (n,NameKind.cell) else (n,k)))=some .free:=h
    by_cases hq:(k == NameKind.free && env.scope.kind == .function && env.kindOf n == some .cell)=true
    · rw [if_pos hq] at h'
      have hf:k=.free:=by
        have:=hq;simp only [yam] at this;simpa using this.1.1
      cases hx:x == n with
      | true=>
        have:x=n:=by simpa using hx
        subst this;rw [hf];exact yay
      | false=>
        simp only [ya4,hx] at h';exact yan _ (ih h')
    · rw [if_neg hq] at h';cases hx : x == n with
      | true=>
        simp only [ya4,hx,Option.some.injEq] at h';have:x=n:=by simpa using hx
        subst this;rcases h' with z | z
        · exact absurd z hk
        · rw [z]; exact yay
      | false=>
        simp only [ya4,hx] at h';exact yan _ (ih h')
noncomputable def zfU (N:List Str) (sc scope:Scope):List Str -> List (Option Nat) -> Bool
 | [],[]=>true
 | _ :: N',none :: src=>zfU N sc scope N' src
 | x :: N',some j :: src=>decide (N[j]?=some x) && (decide (sc.names.lookup x=some .cell) || decide (sc.names.lookup x=some .free)) && decide (scope.names.lookup x=some .free) && zfU N sc scope N' src
 | _,_=>false
noncomputable def zhx (N:List Str) (sc scope:Scope) (N':List Str) (src:List (Option Nat)):Bool:=
 scope.names.all (λ y=>decide (y.2 ≠ .cell)) && decide (scope.kind=.function) && scope.names.all (λ y=>decide (y.2=.local -> scope.names.lookup y.1=some .local)) &&
 scope.names.all (λ y=>decide (y.2=.free -> sc.names.lookup y.1=some .cell \/ sc.names.lookup y.1=some .free)) && decide (src.length=N'.length) && zfU N sc scope N' src
structure CompOk (N:List Str) (sc scope:Scope) (N':List Str) (src:List (Option Nat)):Prop where
 cell:∀ y ∈ scope.names,y.2 ≠ .cell
 kind:scope.kind=.function
 names:∀ y ∈ scope.names,y.2=.local -> scope.names.lookup y.1=some .local
 free:∀ y ∈ scope.names,y.2=.free -> sc.names.lookup y.1=some .cell \/ sc.names.lookup y.1=some .free
 len:src.length=N'.length
 cap:∀ (i j:Nat) (x:Str),src[i]?=some (some j) -> N'[i]?=some x -> N[j]?=some x /\ (sc.names.lookup x=some .cell \/ sc.names.lookup x=some .free) /\ scope.names.lookup x=some .free
def zfa {N:List Str} {sc scope:Scope}:∀ {N':List Str} {src:List (Option Nat)},zfU N sc scope N' src=true -> ∀ (i j:Nat) (x:Str),src[i]?=some (some j) -> N'[i]?=some x ->
    N[j]?=some x /\ (sc.names.lookup x=some .cell \/ sc.names.lookup x=some .free) /\ scope.names.lookup x=some .free
  | [],[],_,i,j,x,h,_=>by simp at h
  | [],_ :: _,h,_,_,_,_,_=>by simp [zfU] at h
  | _ :: _,[],h,_,_,_,_,_=>by simp [zfU] at h
  | y :: N',none :: src,h,i,j,x,h1,h2=>by
    cases i with
    | zero=>simp at h1
    | succ i=>exact zfa (N':=N') (src:=src) (by simpa [zfU] using h) i j x (by simpa using h1) (by simpa using h2)
  | y :: N',some k :: src,h,i,j,x,h1,h2=>by
    simp only [zfU,yam,yb5,decide_eq_true_eq] at h;cases i with
    | zero=>
      simp at h1 h2;subst h1 h2;exact ⟨h.1.1.1,h.1.1.2,h.1.2⟩
    | succ i=>exact zfa (N':=N') (src:=src) h.2 i j x (by simpa using h1) (by simpa using h2)
def zfS {N:List Str} {sc scope:Scope} {N':List Str} {src:List (Option Nat)} (h:zhx N sc scope N' src=true):CompOk N sc scope N' src:=by
 simp only [zhx,yam,ybv,decide_eq_true_eq] at h;exact ⟨h.1.1.1.1.1,h.1.1.1.1.2,h.1.1.1.2,h.1.1.2,h.1.2,zfa h.2⟩
noncomputable def zaR (X:Cx) (scope:Scope) (N':List Str) (C:Addr) (s:Shared) (H:Hp) (fp:List Addr):Cx where
 prog:=X.prog
 w:=X.w
 K:=X.K
 mg:=X.mg
 base:=X.base
 A:=X.A
 N:=N'
 s₀:=s
 H₀:=H
 env:=compEnvC scope (clOf X.env scope) C X.env
 outer:=X.stack
 stack:=X.stack
 ex:=fp
 fn:=λ _=>false
 calm:=X.calm
 pn:=[]
 xe:=λ _ _=>False
noncomputable def capt (src:List (Option Nat)) (σ:St):St:=src.map λ o=>o.bind λ j=>(σ[j]?).getD none
noncomputable def Ext (σ σ':St):Prop:=σ.length=σ'.length /\ ∀ (i:Nat) v,σ[i]?=some (some v) -> σ'[i]?=some (some v)
noncomputable def PTs (X:Cx) (ifs:List Expr) (t:TT):Prop:=
 ∀ (pins:List (Addr × Obj)) (s:Shared) (σ:St) (H:Hp) (Q:Bool -> Hp -> Prop),Inv X pins σ H s -> t σ H Q ->
  wpAny (model X.prog X.w) X.A (forIn ifs true λ c r=>if r=true then do let ok <- isTrue c X.env (eval c X.env); pure (ForInStep.yield ok) else pure (ForInStep.yield r)) (TP X pins σ Q) X.xe s
noncomputable def zlf:TT:=λ _ H Q=>Q true H
def zaY {X:Cx}:PTs X [] zlf:=λ _ _ _ H _ I h=>wpAny_tests_nil ⟨H,I,h⟩
def zdm {X:Cx} {c:Expr} {t:TT} (h:PT X c t):PTs X [c] t:=λ pins s σ H Q I hw=>wpAny_tests_one (h pins s σ H Q I hw)
noncomputable def zcb (J:It) (src:List (Option Nat)) (σ:St) (g:TG) (tc:TT) (te:TE) (Q:VK) (H1:Hp):Prop:=
 ∃ W:Nat -> Nat -> List V -> Hp -> Prop,(∃ m,W 0 m [] H1) /\ ∀ i m acc H,W i m acc H -> acc.length <= sizeLine /\
  ((J.stop i H /\ ∀ p,H p=none -> Q (.ref p) (upd H p (.lst acc))) \/
  (J.go i H /\ ∃ (N1 : V -> Hp -> Prop) (N2 : Hp -> Prop), (∀ y H4, N1 y H4 -> ∃ m', m' < m /\ W (i + 1) m' (acc ++ [y]) H4) /\ (∀ H3, N2 H3 -> ∃ m', m' < m /\ W (i + 1) m' acc H3) /\
   ∀ x H',J.yld i H x H' -> g x (capt src σ) H' λ σ2 H2=>Ext (capt src σ) σ2 /\ tc σ2 H2 λ b H3=>if b=true then te σ2 H3 N1 else N2 H3))
noncomputable def zkx (src:List (Option Nat)) (wi:TI) (g:TG) (tc:TT) (te:TE):TE:=λ σ H Q=>wi σ H λ J H1=>zcb J src σ g tc te Q H1
section
variable {prog:Program} {w:World} {A:Around} {R:Result -> Shared -> Prop} {s:Shared}
def zgv {elt target iter:Expr} {ifs:List Expr} {scope:Scope} {pos:Pos} {it acc:Value} {env:Env} (I:Nat -> Shared -> Prop)
  (turn : ∀ n s, I n s -> wpAny (model prog w) A (pyNext it) (fun r s₁ => match r with
   | none=>R (.ok .next) s₁
   | some v=>wpAny (model prog w) A (letOwnedTupleGo target it v) (λ _ s₁'=>wpAny (model prog w) A (assign target env v) (λ _ s₂=>
     wpAny (model prog w) A (forIn ifs true λ c r=>if r=true then do let ok <- isTrue c env (eval c env); pure (ForInStep.yield ok) else pure (ForInStep.yield r)) (λ ok s₃=>
      if ok=true then wpAny (model prog w) A (eval elt env) (λ x s₄=>
       wpAny (model prog w) A (call (.builtin "list.append") [acc,x]) (λ _ s₅=>∃ m,m < n /\ I m s₅) (λ _ _=>False) s₄) (λ _ _=>False) s₃
      else ∃ m,m < n /\ I m s₃) (λ _ _=>False) s₂) (λ _ _=>False) s₁') (λ _ _=>False) s₁) (λ _ _=>False) s)
  (n:Nat) (h:I n s) :
  codeAny (model prog w) A (.compLoop (.ListComp elt [⟨target,iter,ifs,0⟩] scope pos) 0 it acc env) R s:=by
 refine codeAny_loop rfl I (λ n s hI=>?_) n h;show wpAny _ A ((compTurn (.ListComp elt [⟨target,iter,ifs,0⟩] scope pos) 0 it acc env).onRaise (λ x=>do noteFrame x env; theTreesLotGoes x)) _ _ s;refine wpAny_noted ?_;rw [compTurn_list];refine wpAny_bind (wpAny_standAt (wpAny_bind (wpAny_mono (turn n s hI) (λ r s₁ h₁=>?_) λ _ _ h'=>False.elim h')));cases r with
 | none=>exact wpAny_pure h₁
 | some v=>
  refine wpAny_bind (wpAny_mono h₁ (λ _ s₁' h₁'=>?_) λ _ _ h'=>False.elim h');refine wpAny_bind (wpAny_mono h₁' (λ _ s₂ h₂=>wpAny_bind (wpAny_mono h₂ (λ ok s₃ h₃=>?_) λ _ _ h'=>False.elim h')) λ _ _ h'=>False.elim h');cases ok with
  | false=>exact wpAny_pure ⟨rfl,h₃⟩
  | true=>
   exact wpAny_bind (wpAny_bind (wpAny_mono h₃ (λ x s₄ h₄=>wpAny_bind (wpAny_mono h₄ (λ _ s₅ h₅=>wpAny_pure (wpAny_pure ⟨rfl,h₅⟩)) λ _ _ h'=>False.elim h')) λ _ _ h'=>False.elim h'))
end
section
variable {X:Cx} {tg iter elt:Expr} {ifs:List Expr} {scope sc:Scope} {pos:Pos} {N N':List Str} {src:List (Option Nat)} {wi:TI} {g:TG} {tc:TT} {te:TE}
def Inv.lst_made {pins:List (Addr × Obj)} {σ:St} {H:Hp} {h:Heap} {D:Addr} {acc:List V} {its:List Value} (P:Program) (w:World) (hok:HOk P w H h) (hn:H D=none) (hz:acc.length <= sizeLine) (r:Vals acc its) (e:h.PlainList D its.toArray) :
  HOk P w (upd H D (.lst acc)) h:=λ b u q=>by
 by_cases hb:b=D
 ·subst hb;rw [zad] at q;cases q;obtain ⟨n,e⟩:=e;exact ⟨hz,its,n,r,e⟩
 ·rw [zak hb] at q;exact (hok b u q).stay (λ c v _ q=>q) (λ c q=>by rw [zak (zam q hn)]; exact q) λ c xs q=>by rw [zak (zam q hn)]; exact q
def zfB (hc:X.calm=true) (hN:X.N=N) (hsc:X.env.scope=sc) (ok:CompOk N sc scope N' src)
    (hg:∀ C s H fp,PG (zaR X scope N' C s H fp) tg g) (ht:∀ C s H fp,PTs (zaR X scope N' C s H fp) ifs tc) (he:∀ C s H fp,PE (zaR X scope N' C s H fp) elt te)
    {pins:List (Addr × Obj)} {σ:St} {H2:Hp} {s₂:Shared} {J:It} {it:Addr} {fp:List Addr} {tn:Nat -> Heap -> Prop} (I2:Inv X pins σ H2 s₂) (T:Turn X.prog X.w X.K tg J fp it tn) (st2:tn 0 s₂.heap) (f2:∀ b ∈ fp,FpOk X pins H2 b)
    {Q:VK} (hw:zcb J src σ g tc te Q H2) {E:Value -> Shared -> Prop} {RR:Value -> Addr -> Result -> Shared -> Prop}
    (fin:∀ D C s' acc H' oC m,Inv X pins σ (upd H' D (.lst acc)) s' -> Q (.ref D) (upd H' D (.lst acc)) -> s'.heap.get? C=some oC -> s'.heap.Ns C m -> (∀ v,oC.data ≠ .cell v) -> FpOk X pins (upd H' D (.lst acc)) C -> RR (.ref D) C (.ok .next) s') :
    wpAny (model X.prog X.w) X.A (newList []) (λ acc s₃=>wpAny (model X.prog X.w) X.A (newFunctionEnv scope X.env.globals (clOf X.env scope) [] X.env.qual none .none (some X.env)) (λ cenv s₄=>
      codeAny (model X.prog X.w) X.A (.compStart (.ListComp elt [⟨tg,iter,ifs,0⟩] scope pos) 0 (.ref it) acc { cenv with scope:=relabel scope X.env }) (RR acc cenv.locals) s₄) E s₃) E s₂:=by
  subst hN hsc;refine wpAny_newObj_type (wpAny_newFunctionEnv ok.cell (by intro y hy; simp at hy) (λ h₁ hns₁ hsb₁=>?_) ok.kind);dsimp only at hns₁ hsb₁ ⊢;generalize hHp:s₂.heap.push { cls:=.type "list",dict:=none,data:=.seq ([]:List Value).toArray }=Hp2 at hns₁ hsb₁ ⊢;have hC:Hp2.objs.size=s₂.heap.objs.size + 1:=by rw [<- hHp,yba]
  have hDC:s₂.heap.objs.size ≠ Hp2.objs.size:=by rw [hC]; exact yau (Nat.lt_succ_self _)
  have hCle:s₂.heap.objs.size <= Hp2.objs.size:=by rw [hC]; exact Nat.le_succ _
  have below:∀ b,b < s₂.heap.objs.size -> b ≠ Hp2.objs.size /\ b ≠ s₂.heap.objs.size:=λ b hb=>⟨by rw [hC]; exact yau (ybn hb),yau hb⟩
  have old:∀ b o,s₂.heap.get? b=some o -> h₁.get? b=some o:=λ b o e=>hsb₁.extBut b o (below b (yad e)).1 (yab _ (hHp ▸ yab _ e));have hacc:h₁.PlainList s₂.heap.objs.size #[]:=⟨_,hsb₁.extBut _ _ hDC (yab _ (hHp ▸ yae _ rfl))⟩
  have hst₁:tn 0 h₁:=T.keep _ _ _ st2 λ b _ o e=>old b o e
  have fpl:∀ b ∈ fp,b < s₂.heap.objs.size:=λ b hb=>by
    obtain ⟨o,e,_⟩:=T.obj 0 _ st2 b hb;exact yad e
  generalize hCd:Hp2.objs.size=C at hns₁ hsb₁ hC hDC hCle below ⊢;generalize hDd:s₂.heap.objs.size=D at hC hDC hCle below hacc fpl ⊢;have freshH:∀ a,D <= a -> H2 a=none:=λ a ha=>I2.hok.fresh (by rw [hDd]; exact ha)
  have cellLt:∀ x c,X.env.cells.lookup x=some c -> c < D:=λ x c e=>by
    obtain ⟨v,o,ho,_⟩:=I2.cell x c e;rw [<- hDd];exact yad ho
  -- the block's context is right
  have oky:(zaR X scope N' C s₂ H2 fp).Ok:=by
    refine ⟨I2.ok.mod,?_,I2.ok.glob,I2.ok.blt,?_,λ x y c h1 h2=>I2.ok.inj x y c (zbB h1) (zbB h2),λ x hx=>?_,λ x c z=>absurd z (by simp [zaR]),I2.ok.hd,I2.ok.frames,.inl rfl,λ b hb=>?_,I2.bs,yaY I2.ok.bsz I2.sz,λ b o e hb=>?_,λ b hb z=>?_,I2.stack,I2.stkFree⟩
    · exact ok.kind
    · show s₂.heap.objs.size <= C;rw [hDd]; exact hCle
    · have hm:=zby (env:=X.env) (x:=x) ok.cell hx;obtain ⟨c,e⟩:=I2.ok.has x (ok.free _ hm rfl);exact ⟨c,zhn e hm⟩
    · exact ⟨(below b (fpl b hb)).1,λ x c e=>(f2 b hb).2.2.2.2.1 x c (zbB e)⟩
    · have q := I2.ok.bs b o e;rcases (f2 b hb).2.2.2.1 with z | z
      · exact I2.ok.noex b o e z
      · exact absurd (yaj (yad q.1) z) (ya3 _)
    · rcases yal.mp (I2.stkSub b z) with e | e
      · exact (f2 b hb).2.1 e
      · exact (f2 b hb).2.2.1 e
  have stkLt:∀ b ∈ frs X.stack,b < D:=λ b hb=>by
    obtain ⟨_,o,ho,_⟩:=I2.stack.mem hb;rw [<- hDd];exact yad ho
  have fpo:∀ {H':Hp} {pl:List (Addr × Obj)},(∀ b ∈ fp,H' b=none) -> (∀ p ∈ pl,p.1 ∉ fp) -> ∀ b ∈ fp,FpOk (zaR X scope N' C s₂ H2 fp) pl H' b:=λ {H' pl} hn hp b hb=>
    ⟨hn b hb,(below b (fpl b hb)).1,λ z=>(oky.exfs b hb) z,.inl hb,λ x c e=>(f2 b hb).2.2.2.2.1 x c (zbB e),λ p hp' z=>by
      have hp':p ∈ pl:=by simpa [zaR] using hp'
      exact hp p hp' (by rw [z]; exact hb)⟩
  have Dfp:D ∉ fp:=λ z=>ya3 _ (fpl D z)
  -- the start
  have Iy:∀ tk,Inv (zaR X scope N' C s₂ H2 fp) [] (capt src σ) H2 { s₂ with heap:=h₁,toks:=tk }:=λ tk=>by
    refine ⟨oky,rfl,I2.bare,Un.kept old,⟨_,hns₁,λ i x v h1 h2 _=>?_⟩,λ x c e=>?_,freshH _ hCle,λ x c e=>I2.freeC x c (zbB e),λ p hp=>absurd hp (by simp [zaR]),I2.hok.kept old,?_⟩
    · have h2:(src[i]?).map (λ o=>o.bind λ j=>(σ[j]?).getD none)=some (some v):=by
        rw [<- h2]; simp [capt]
      cases e:src[i]? with
      | none=>rw [e] at h2; cases h2
      | some o=>
        rw [e] at h2;cases o with
        | none=>cases h2
        | some j=>
          have h2:(σ[j]?).getD none=some v:=Option.some.inj h2
          have h3:σ[j]?=some (some v):=by
            cases q:σ[j]? with
            | none=>rw [q] at h2; cases h2
            | some y=>rw [q] at h2; cases h2; rfl
          obtain ⟨a1,a2,a3⟩:=ok.cap i j x e h1;obtain ⟨m,hn,hl⟩:=I2.loc;obtain ⟨u,ru,lu⟩:=hl j x v a1 h3 (.inr a2);refine ⟨u,ru,?_⟩;rcases lu with ⟨k,_⟩ | ⟨k,c,ec,hcell⟩
          · have k:X.env.scope.names.lookup x=some .local:=k;rcases a2 with z | z <;> rw [k] at z <;> cases z
          · refine .inr ⟨zbt a3,c,zhn ec (ybf a3),?_⟩;obtain ⟨o,ho,hd⟩:=hcell;exact ⟨o,old c o ho,hd⟩
    · obtain ⟨v,o,ho,hd⟩:=I2.cell x c (zbB e);exact ⟨v,o,old c o ho,hd⟩
    · show (capt src σ).length=N'.length;rw [capt,yac]; exact ok.len
  obtain ⟨W,⟨m0,w0⟩,turn⟩:=hw
  have loop:∀ tk,codeAny (model X.prog X.w) X.A (.compLoop (.ListComp elt [⟨tg,iter,ifs,0⟩] scope pos) 0 (.ref it) (.ref D) (compEnvC scope (clOf X.env scope) C X.env)) (RR (.ref D) C) { s₂ with heap:=h₁,toks:=tk }:=by
    intro tk
    refine zgv (λ n s'=>∃ i H' acc its,Inv (zaR X scope N' C s₂ H2 fp) [] (capt src σ) H' s' /\ tn i s'.heap /\ (∀ b ∈ fp,H' b=none) /\ H' D=none /\ s'.heap.PlainList D (List.toArray its) /\ Vals acc its /\ W i n acc H') ?_ m0
      ⟨0,H2,[],[],Iy tk,hst₁,λ b hb=>(f2 b hb).1,freshH _ (yag _),hacc,.nil,w0⟩
    rintro n s3 ⟨i,H3,acc,its,I3,st3,fr3,hD3,pl3,v3,w3⟩;obtain ⟨hz,turn⟩:=turn i n acc H3 w3;obtain ⟨nD,eD⟩:=pl3;have Dfs:D ∉ frs X.stack:=λ z=>ya3 _ (stkLt D z)
    have I3D:Inv (zaR X scope N' C s₂ H2 fp) [(D,{ cls:=.type "list",data:=.seq its.toArray nD })] (capt src σ) H3 s3:=I3.pins_of λ p hp=>by
      have hp:p=(D,{ cls:=.type "list",data:=.seq its.toArray nD }):=by simpa [zaR] using hp
      subst hp;exact ⟨eD,hD3,hDC,Dfs,λ v z=>nomatch z⟩
    have pD:∀ p ∈ [(D,({ cls:=.type "list",data:=.seq its.toArray nD }:Obj))],p.1 ∉ fp:=λ p hp=>by
      have hp:p=(D,{ cls:=.type "list",data:=.seq its.toArray nD }):=by simpa using hp
      subst hp;exact Dfp
    rcases turn with ⟨stop,qn⟩ | ⟨go,N1,N2,hN1,hN2,step⟩
    · refine thn (T.done (zaR X scope N' C s₂ H2 fp) rfl rfl rfl hc i _ s3 _ H3 _ I3D (fpo fr3 pD) st3 stop) fun r s4 ⟨hr, I4⟩ => ?_;subst hr;obtain ⟨eD4, hD4, _⟩ := I4.pin (D, { cls := .type "list", data := .seq its.toArray nD }) (by simp [zaR]);have hok4 : HOk X.prog X.w (upd H3 D (.lst acc)) s4.heap := Inv.lst_made (pins := []) (σ := []) _ _ I4.hok hD3 hz v3 ⟨nD, eD4⟩
      have un:Un (frs X.stack) fp H2 (upd H3 D (.lst acc)) s₂.heap s4.heap:=by
        have u:Un (frs X.stack) fp H2 H3 s₂.heap s4.heap:=I4.base;have ne:∀ b o,s₂.heap.get? b=some o -> b ≠ D:=λ b o e=>yau (hDd ▸ yad e);refine ⟨u.keep,u.slot,λ b o e n hx=>?_,u.there,λ b xs e=>?_,λ b o x e=>?_,λ b ps e=>?_⟩
        · rw [zak (ne b o e)]; exact u.free b o e n hx
        · have q:=u.tups b xs e;rw [zak (zam q hD3)]; exact q
        · have q:=u.frzs b o x e;rw [zak (zam q hD3)]; exact q
        · obtain ⟨more,q⟩:=u.tbls b ps e;exact ⟨more,by rw [zak (zam q hD3)]; exact q⟩
      have chk:∀ b ∈ fp,(b ∈ X.ex \/ X.s₀.heap.objs.size <= b) /\ b ≠ X.env.locals /\ (∀ x c,X.env.cells.lookup x=some c -> c ≠ b) /\ ∀ p ∈ X.pn ++ pins,p.1 ≠ b:=λ b hb=>by
        obtain ⟨_,f1,_,f3,f4,f5⟩:=f2 b hb;exact ⟨f3,f1,f4,f5⟩
      have IX:Inv X pins σ (upd H3 D (.lst acc)) s4:=by
        have hos:s4.os=s₂.os:=I4.os;have hb4:=I4.bare;obtain ⟨hh,gg,dd,tt,os'⟩:=s4;obtain rfl:os'=s₂.os:=hos;exact I2.call (h':=hh) (g':=gg) (d':=dd) (t':=tt) (ch:=fp) un hok4 hb4 chk
      obtain ⟨mC,hnC,_⟩:=I4.loc;have hnC:s4.heap.Ns C mC:=hnC;obtain ⟨oC,es,ep,eC,dC,rC⟩:=id hnC
      have fC:FpOk X pins (upd H3 D (.lst acc)) C:=by
        refine ⟨by rw [zak hDC.symm]; exact I4.free,ya5 (yaj I2.lt (by rw [hDd]; exact hCle)),I2.nofs (by rw [hDd]; exact hCle),.inr (yaY I2.sz (by rw [hDd]; exact hCle)),λ x c e z=>?_,λ p hp z=>?_⟩
        · have:=cellLt x c e;rw [z] at this;exact ya3 _ (yaj this hCle)
        · have:=yad (I2.pin p hp).1;rw [z,hDd] at this;exact ya3 _ (yaj this hCle)
      exact fin D C s4 acc H3 oC mC IX (qn D hD3) eC hnC (λ v z=>by rw [dC] at z; cases z) fC
    · refine thn (T.item (zaR X scope N' C s₂ H2 fp) rfl rfl rfl hc i _ s3 _ H3 _ I3D (fpo fr3 pD) st3 go) fun r s4 ⟨u, hr, h4⟩ => ?_;subst hr;refine thn h4 fun _ s5 ⟨x, H5, I5, r5, y5, st5, fr5⟩ => ?_;have I5' := I5.pinned (fpo fr5 pD) (T.obj _ _ st5);refine thn (hg C s₂ H2 fp _ s5 _ H5 x u _ I5' r5 (step x H5 y5)) fun _ s6 ⟨σ6, H6, I6, ex6, q6⟩ => ?_;refine thn (ht C s₂ H2 fp _ s6 σ6 H6 _ I6 q6) fun b s7 ⟨H7, I7, q7⟩ => ?_
      -- back to the start of a turn
      have back:∀ {s8:Shared} {H8:Hp},Inv (zaR X scope N' C s₂ H2 fp) ([(D,({ cls:=.type "list",data:=.seq its.toArray nD }:Obj))] ++ zft fp s5.heap) σ6 H8 s8 ->
          Inv (zaR X scope N' C s₂ H2 fp) [] (capt src σ) H8 s8 /\ tn (i + 1) s8.heap /\ (∀ b ∈ fp,H8 b=none) /\ H8 D=none /\ s8.heap.get? D=some { cls:=.type "list",data:=.seq its.toArray nD }:=λ {s8 H8} I8=>by
        have pf:∀ b ∈ fp,∀ o,s5.heap.get? b=some o -> s8.heap.get? b=some o /\ H8 b=none:=λ b hb o e=>by
          have q:=I8.pin (b,o) (yaD _ (yaD _ (zdh hb e)));exact ⟨q.1,q.2.1⟩
        have qD:=I8.pin (D,{ cls:=.type "list",data:=.seq its.toArray nD }) (yaD _ (yaR _ yay));refine ⟨(I8.pins_of (pins':=[]) λ p hp=>absurd hp (by simp [zaR])).weak ex6.1 ex6.2,T.keep _ _ _ st5 λ b hb o e=>(pf b hb o e).1,λ b hb=>?_,qD.2.1,qD.1⟩;obtain ⟨o,e,_⟩:=T.obj _ _ st5 b hb;exact (pf b hb o e).2
      cases b with
      | false=>
        obtain ⟨m',hm,w7⟩:=hN2 H7 (by simpa using q7);obtain ⟨J8,st8,fr8,hD8,eD8⟩:=back I7;exact (by simpa using (⟨m',hm,i + 1,H7,acc,its,J8,st8,fr8,hD8,⟨nD,eD8⟩,v3,w7⟩:∃ m,m < n /\ ∃ i H' acc its,Inv (zaR X scope N' C s₂ H2 fp) [] (capt src σ) H' s7 /\ tn i s7.heap /\ (∀ b ∈ fp,H' b=none) /\ H' D=none /\ s7.heap.PlainList D (List.toArray its) /\ Vals acc its /\ W i m acc H'))
      | true=>
        have q7:te σ6 H7 N1:=by simpa using q7
        show wpAny _ _ _ _ _ _;refine thn (he C s₂ H2 fp _ s7 σ6 H7 _ I7 q7) λ u8 s8 ⟨y,H8,I8,r8,n8⟩=>?_;obtain ⟨m',hm,w8⟩:=hN1 y H8 n8;obtain ⟨J8,st8,fr8,hD8,eD8⟩:=back I8
        have hl8:its.toArray.size <= sizeLine:=by
          have:=v3.length;simp only [yak];omega
        refine wpAny_list_append_plain (l:=D) (items:=its.toArray) ⟨nD,eD8⟩ (λ h' pl9 sb9=>?_) hl8;have kp:∀ b o,b ≠ D -> s8.heap.get? b=some o -> h'.get? b=some o:=λ b o hb e=>(sb9.2 b hb).trans e
        have J9:Inv (zaR X scope N' C s₂ H2 fp) [] (capt src σ) H8 { s8 with heap:=h' }:=J8.turned (t':=s8.toks) kp hD8 hDC (.inr (show s₂.heap.objs.size <= D from Nat.le_of_eq hDd))
          (λ x c e z=>ya3 D (by have:=cellLt x c (zbB e); rw [z] at this; exact this)) (λ p hp=>absurd hp (by simp [zaR]))
        refine ⟨m',hm,i + 1,H8,acc ++ [y],its ++ [u8],J9,T.keep _ _ _ st8 λ b hb o e=>kp b o (λ z=>Dfp (z ▸ hb)) e,fr8,hD8,?_,v3.append (.cons r8 .nil),w8⟩;have e9:its.toArray.push u8=(its ++ [u8]).toArray:=by simp
        rw [<- e9]; exact pl9
  exact codeAny_compStart_list (loop _) (T.self _ 0 _ _ _ hst₁ (loop _))
def zaS (hc:X.calm=true) (hi:PI X tg iter wi) (hg:∀ C s H fp,PG (zaR X scope N' C s H fp) tg g) (ht:∀ C s H fp,PTs (zaR X scope N' C s H fp) ifs tc) (he:∀ C s H fp,PE (zaR X scope N' C s H fp) elt te)
  (ok:zhx N sc scope N' src=true) (hN:X.N=N:=by rfl) (hsc:X.env.scope=sc:=by rfl) (hs:∀ x,foldedSetIterable iter X.env x=pure x:=by intro _; rfl) :
  PE X (.ListComp elt [⟨tg,iter,ifs,0⟩] scope pos) (zkx src wi g tc te):=by
 intro pins s σ H Q I h;have ok:=zfS ok;rw [eval_ListComp];have hclos:closureFor scope X.env=pure (clOf X.env scope):=zdb λ p hp hf=>I.ok.has p.1 (by subst hsc; exact ok.free p hp hf);refine wpAny_comprehension_free (use:=none) rfl hs hclos ok.kind ok.names (thn (hi pins s σ H _ I h) λ xv s₁ h₁=>thn h₁ λ itv s₂ h₂=>?_);obtain ⟨it,fp,tn,J,H2,e,I2,T,st2,f2,hw⟩:=h₂;subst e;refine zfB hc hN hsc ok hg ht he I2 T st2 f2 hw (RR:=λ acc C=>compPost (model X.prog X.w) X.A X.xe none (EP X pins σ Q) acc C) ?_;intro D C s' acc H' oC m IX q eC hn nc f;obtain ⟨f0,f1,f2',f3,f4,f5⟩:=f;refine ⟨m,hn,λ h' sb=>⟨.ref D,upd H' D (.lst acc),?_,rfl,q⟩⟩;exact IX.turned (t':=s'.toks) (λ b o hb e=>(sb.2 b hb).trans e) f0 f1 f3 f4 f5
noncomputable def zhi (src:List (Option Nat)) (wi:TI) (g:TG) (tc:TT) (te:TE) (j:Nat):TS:=λ D σ H=>zkx src wi g tc te σ H λ x H1=>D.nx (σ.set j (some x)) H1
def zeI {j:Nat} {y:Str} {py spos:Pos} (hnd:X.N.Nodup) (hj:X.N[j]?=some y) (hy:Loc X.env.scope y)
  (hc:X.calm=true) (hi:PI X tg iter wi) (hg:∀ C s H fp,PG (zaR X scope N' C s H fp) tg g) (ht:∀ C s H fp,PTs (zaR X scope N' C s H fp) ifs tc) (he:∀ C s H fp,PE (zaR X scope N' C s H fp) elt te)
  (ok:zhx N sc scope N' src=true) (hN:X.N=N:=by rfl) (hsc:X.env.scope=sc:=by rfl) (hs:∀ x,foldedSetIterable iter X.env x=pure x:=by intro _; rfl)
  (hsw:swapsWith (.ListComp elt [⟨tg,iter,ifs,0⟩] scope pos) (some (.Name y py)) spos.line X.env=pure true:=by rfl)
  (hf:X.fn y=true \/ X.env.scope.names.lookup y=some .local:=by first | exact .inl rfl | exact .inr rfl | assumption) :
  PS X (.Assign [.Name y py] (.ListComp elt [⟨tg,iter,ifs,0⟩] scope pos) spos) (zhi src wi g tc te j):=by
 intro pins s σ H D I h;have ok:=zfS ok;rw [exec_Assign_Name_used _ _ _ _ hsw];refine wpAny_bind (wpAny_standAt (wpAny_bind ?_));show wpAny _ _ (do let _ <- comprehension (.ListComp elt [⟨tg,iter,ifs,0⟩] scope pos) scope X.env _ (newList []) false (eval iter X.env) (some (assign (.Name y py) X.env))) _ _ s;have hclos:closureFor scope X.env=pure (clOf X.env scope):=zdb λ p hp hf=>I.ok.has p.1 (by subst hsc; exact ok.free p hp hf)
 refine wpAny_bind (wpAny_mono (wpAny_comprehension_free (use:=some (assign (.Name y py) X.env)) (Q:=λ _ s'=>SP X pins D .next s') rfl hs hclos ok.kind ok.names
  (thn (hi pins s σ H _ I h) λ xv s₁ h₁=>thn h₁ λ itv s₂ h₂=>?_)) (λ _ s' hq=>wpAny_pure (wpAny_pure hq)) λ _ _ e=>e)
 obtain ⟨it,fp,tn,J,H2,e,I2,T,st2,f2,hw⟩:=h₂;subst e;refine zfB hc hN hsc ok hg ht he I2 T st2 f2 hw (RR:=λ acc C=>compPost (model X.prog X.w) X.A X.xe (some (assign (.Name y py) X.env)) (λ _ s'=>SP X pins D .next s') acc C) ?_;intro D' C s' acc H' oC m IX q eC hn nc f;obtain ⟨f0,f1,f2',f3,f4,f5⟩:=f;show wpAny _ _ (assign (.Name y py) X.env (.ref D')) _ _ s'
 have IC:Inv X (pins ++ [(C,oC)]) σ (upd H' D' (.lst acc)) s':=IX.pins_of λ p hp=>(yaK.mp hp).elim (λ z=>IX.pin p (yaD _ z)) λ z=>by
  have z:p=(C,oC):=by simpa using z
  subst z;exact ⟨eC,f0,f1,f2',nc⟩
 refine wpAny_assign_Name (zde IC hnd hj hy (show RelV (.ref D') (.ref D') from rfl) (λ s2 I2'=>?_) hf);have qC:=I2'.pin (C,oC) (yaD _ (yaD _ yay));obtain ⟨oC',es,ep,eC',r⟩:=hn;rw [eC] at eC';cases eC';refine ⟨m,⟨oC,es,ep,qC.1,r⟩,λ h' sb=>⟨σ.set j (some (.ref D')),upd H' D' (.lst acc),?_,q⟩⟩;exact I2'.unpinned.turned (t':=s2.toks) (λ b o hb e=>(sb.2 b hb).trans e) f0 f1 f3 f4 f5
end
def zgH {σ:St} {i:Nat} {v:V} (h:σ[i]?=some none):Ext σ (σ.set i (some v)):=by
 refine ⟨by simp,λ k u e=>?_⟩;by_cases hk:i=k
 ·subst hk; rw [h] at e; cases e
 ·rw [yco hk]; exact e
def zdi {lo:Int} {n:Nat} {src:List (Option Nat)} {σ:St} {g:TG} {tc:TT} {te:TE} {Q:VK} {H:Hp} (Pv:Nat -> List V -> Hp -> Prop) (h0:Pv 0 [] H) (len:∀ i acc H,Pv i acc H -> acc.length <= sizeLine)
  (step:∀ i acc H,i < n -> Pv i acc H -> g (.int (lo + i)) (capt src σ) H λ σ2 H2=>Ext (capt src σ) σ2 /\ tc σ2 H2 λ b H3=>if b=true then te σ2 H3 (λ y H4=>Pv (i + 1) (acc ++ [y]) H4) else Pv (i + 1) acc H3)
  (done:∀ acc H,Pv n acc H -> ∀ p,H p=none -> Q (.ref p) (upd H p (.lst acc))):zcb (Itr lo n) src σ g tc te Q H:=by
 refine ⟨λ i m acc H=>m=n - i /\ i <= n /\ Pv i acc H,⟨n,by simp,yaQ _,h0⟩,?_⟩;rintro i m acc H ⟨rfl,hi,p⟩;refine ⟨len i acc H p,?_⟩;by_cases hlt:i < n
 ·refine .inr ⟨hlt,λ y H4=>Pv (i + 1) (acc ++ [y]) H4,λ H3=>Pv (i + 1) acc H3,λ y H4 q=>⟨n - (i + 1),by omega,rfl,hlt,q⟩,λ H3 q=>⟨n - (i + 1),by omega,rfl,hlt,q⟩,λ x H' y=>?_⟩;obtain ⟨e,y⟩:=y;subst e y;exact step i acc _ hlt p
 ·have e : i = n := by omega
  subst e;exact .inl ⟨yag _,done acc H p⟩
def zeg {K:PySem.W.Frag} {a:Addr} {xs:List V} {src:List (Option Nat)} {σ:St} {g:TG} {tc:TT} {te:TE} {Q:VK} {H:Hp} (Pv:Nat -> List V -> Hp -> Prop) (h0:Pv 0 [] H) (len:∀ i acc H,Pv i acc H -> acc.length <= sizeLine)
  (hl:∀ i acc H,Pv i acc H -> SqL K H a xs)
  (step:∀ i x acc H,xs[i]?=some x -> Pv i acc H -> g x (capt src σ) H λ σ2 H2=>Ext (capt src σ) σ2 /\ tc σ2 H2 λ b H3=>if b=true then te σ2 H3 (λ y H4=>Pv (i + 1) (acc ++ [y]) H4) else Pv (i + 1) acc H3)
  (done:∀ acc H,Pv xs.length acc H -> ∀ p,H p=none -> Q (.ref p) (upd H p (.lst acc))):zcb (Itl K a) src σ g tc te Q H:=by
 refine ⟨λ i m acc H=>m=xs.length - i /\ i <= xs.length /\ Pv i acc H,⟨xs.length,by simp,yaQ _,h0⟩,?_⟩;rintro i m acc H ⟨rfl,hi,p⟩;refine ⟨len i acc H p,?_⟩;by_cases hlt:i < xs.length
 ·refine .inr ⟨⟨xs,xs[i],hl i acc H p,by simp [hlt]⟩,λ y H4=>Pv (i + 1) (acc ++ [y]) H4,λ H3=>Pv (i + 1) acc H3,λ y H4 q=>⟨xs.length - (i + 1),by omega,rfl,hlt,q⟩,λ H3 q=>⟨xs.length - (i + 1),by omega,rfl,hlt,q⟩,λ x H' y=>?_⟩;obtain ⟨e,y⟩:=y;subst e;exact step i x acc _ (y xs (hl i acc _ p)) p
 ·have e : i = xs.length := by omega
  subst e;exact .inl ⟨⟨xs,hl _ acc H p,yag _⟩,done acc H p⟩
def zj0 {K:PySem.W.Frag} {a:Addr} {xs:List V} {src:List (Option Nat)} {σ:St} {g:TG} {tc:TT} {te:TE} {Q:VK} {H:Hp} (Pv:Nat -> List V -> Hp -> Prop) (h0:Pv 0 [] H) (len:∀ i acc H,Pv i acc H -> acc.length <= sizeLine)
  (hl:∀ i acc H,Pv i acc H -> SqT K H a xs)
  (step:∀ i x acc H,xs[i]?=some x -> Pv i acc H -> g x (capt src σ) H λ σ2 H2=>Ext (capt src σ) σ2 /\ tc σ2 H2 λ b H3=>if b=true then te σ2 H3 (λ y H4=>Pv (i + 1) (acc ++ [y]) H4) else Pv (i + 1) acc H3)
  (done:∀ acc H,Pv xs.length acc H -> ∀ p,H p=none -> Q (.ref p) (upd H p (.lst acc))):zcb (Itt K a) src σ g tc te Q H:=by
 refine ⟨λ i m acc H=>m=xs.length - i /\ i <= xs.length /\ Pv i acc H,⟨xs.length,by simp,yaQ _,h0⟩,?_⟩;rintro i m acc H ⟨rfl,hi,p⟩;refine ⟨len i acc H p,?_⟩;by_cases hlt:i < xs.length
 ·refine .inr ⟨⟨xs,xs[i],hl i acc H p,by simp [hlt]⟩,λ y H4=>Pv (i + 1) (acc ++ [y]) H4,λ H3=>Pv (i + 1) acc H3,λ y H4 q=>⟨xs.length - (i + 1),by omega,rfl,hlt,q⟩,λ H3 q=>⟨xs.length - (i + 1),by omega,rfl,hlt,q⟩,λ x H' y=>?_⟩;obtain ⟨e,y⟩:=y;subst e;exact step i x acc _ (y xs (hl i acc _ p)) p
 ·have e : i = xs.length := by omega
  subst e;exact .inl ⟨⟨xs,hl _ acc H p,yag _⟩,done acc H p⟩
def Ext.trans {a b c:St} (h:Ext a b) (k:Ext b c):Ext a c:=⟨h.1.trans k.1,λ i v e=>k.2 i v (h.2 i v e)⟩
noncomputable def FnAt (P:Program) (w:World) (K:PySem.W.Frag) (mg:Str -> Option Value) (base:Heap) (x:Str) (ps:List Str) (k:Nat) (sp:Sp):Prop:=
 ∃ f fd,mg x=some (.ref f) /\ PySem.W.keepIn K (.ref f)=true /\ zgM K fd ps [] /\ FnOk P w K mg base CX0 k f fd ps sp
section
variable {X:Cx} {x:Str} {p pos:Pos} {e:Expr} {es:List Expr} {t:TA} {ps:List Str} {k:Nat} {sp:Sp}
def zal (h:FnAt X.prog X.w X.K X.mg X.base x ps k sp) (hr:Room k X.A) (ha:PA X (e :: es) t) (hg:Gl X x:=by rfl) (hdb:(x == ("__debug__":Str))=false:=by decide)
  (he:starEach (e :: es) X.env=(false,eval e X.env) :: starEach es X.env:=by rfl) (hpl:(backTo pos (starEach es X.env)).any (·.1)=false:=by rfl):PE X (.Call (.Name x p) (e :: es) [] pos) (zlH sp [] E0 t):=by
 obtain ⟨f,fd,hm,hk,hb,F⟩:=h;exact zlI F hr hg hm hk hb .nil zoA ha hdb he hpl
end
noncomputable def iSeq (K:PySem.W.Frag) (tl:TE):TI:=λ σ H R=>tl σ H λ x H1=>∃ a,x=.ref a /\ (((∃ xs,SqL K H1 a xs) /\ R (Itl K a) H1) \/ ((∃ xs,SqT K H1 a xs) /\ R (Itt K a) H1))
section
variable {X:Cx} {tg:Expr}
def znd {l:Expr} {tl:TE} (hl:PE X l tl):PI X tg l (iSeq X.K tl):=by
 intro pins s σ H R I h;refine thn (hl pins s σ H _ I h) λ v s1 ⟨x,H1,I1,r1,q1⟩=>?_;obtain ⟨a,e,q1⟩:=q1;subst e;cases r1;rcases q1 with ⟨⟨xs,hq⟩,q⟩ | ⟨⟨xs,hq⟩,q⟩
 ·obtain ⟨its, rv, p, hz⟩ := I1.list hq;refine wpAny_pyIter_list p.isList ?_;refine ⟨s1.heap.objs.size, [s1.heap.objs.size], _, _, H1, rfl, I1.kept (t' := s1.toks) fun b o e => yab _ e, zjM a _, ⟨_, yae _ rfl, rfl, rfl⟩, fun b hb => ?_, q⟩;have e : b = s1.heap.objs.size := by simpa using hb
  subst e;exact I1.fpOk (yag _) (I1.hok.fresh (yag _))
 ·obtain ⟨its, rv, p, hz⟩ := I1.tuple hq;refine wpAny_pyIter_tuple (show s1.heap.IsTuple a its.toArray from p) ?_;refine ⟨s1.heap.objs.size, [s1.heap.objs.size], _, _, H1, rfl, I1.kept (t' := s1.toks) fun b o e => yab _ e, zhU a _, ⟨_, yae _ rfl, rfl, rfl⟩, fun b hb => ?_, q⟩;have e : b = s1.heap.objs.size := by simpa using hb
  subst e;exact I1.fpOk (yag _) (I1.hok.fresh (yag _))
end
section
variable {X:Cx} {pins:List (Addr × Obj)} {σ:St} {H:Hp} {s:Shared} {h':Heap} {ch:List Addr}
def Inv.turnL {t':Nat} (I:Inv X pins σ H s) (hf:∀ b ∈ ch,FpOk X pins H b) (k:∀ b o,b ∉ ch -> s.heap.get? b=some o -> h'.get? b=some o):Inv X pins σ H { s with heap:=h',toks:=t' }:=by
 have nit:∀ b u,H b=some u -> b ∉ ch:=λ b u e z=>by rw [(hf b z).1] at e; cases e
 refine I.step (g':=s.gens) (d':=s.drawn) (ch:=ch) (λ b hb=>?_) (λ b o _ _ hc e _=>k b o hc e) (λ b o _ _ hc e _=>⟨o.slots,k b o hc e⟩) (λ _ _ _ _ n=>n)
  (λ b o hc e=>⟨o,k b o hc e⟩) (λ _ _ e=>e) (λ _ _ _ e=>e) (λ b ps e=>⟨#[],by rw [e]; simp⟩) (λ m hm=>?_) (λ b u e=>?_) I.bare
 ·obtain ⟨_,f1,_,f3,f4,f5⟩:=hf b hb;exact ⟨f3,f1,f4,f5⟩
 ·obtain ⟨o,es,ep,ho,r⟩:=hm;exact ⟨o,es,ep,k _ o (λ z=>(hf _ z).2.1 rfl) ho,r⟩
 ·refine (I.hok b u e).stay (fun c v hc q => k c v ?_ q) (fun _ q => q) fun _ _ q => q;rcases hc with rfl | hc
  ·exact nit _ _ e
  ·exact nit _ _ hc
def Inv.turnTup {T:Addr} {xs:List V} {its:List Value} {t':Nat} (I:Inv X pins σ H s) (hf:∀ b ∈ ch,FpOk X pins H b) (k:∀ b o,b ∉ ch -> s.heap.get? b=some o -> h'.get? b=some o)
  (hT:s.heap.objs.size <= T) (ht:za5 h' T its.toArray) (r:Vals xs its) (hz:xs.length <= sizeLine):Inv X pins σ (upd H T (.tup xs)) { s with heap:=h',toks:=t' }:=by
 have J:Inv X pins σ H { s with heap:=h',toks:=t' }:=I.turnL hf k;have hn:H T=none:=I.hok.fresh hT;have ne:∀ b o,s.heap.get? b=some o -> b ≠ T:=λ b o e=>yau (yaj (yad e) hT);refine ⟨J.ok,J.os,J.bare,?_,J.loc,J.cell,?_,λ x c e=>?_,λ p hp=>?_,λ b u q=>?_,J.len⟩
 ·have u := J.base;refine ⟨u.keep, u.slot, fun b o e n hx => ?_, u.there, fun b ys e => ?_, fun b o x e => ?_, fun b ps e => ?_⟩
  ·rw [zak (yau (yaj (yad e) (yaY I.sz hT)))];exact u.free b o e n hx
  ·have q:=u.tups b ys e;rw [zak (zam q hn)]; exact q
  ·have q:=u.frzs b o x e;rw [zak (zam q hn)]; exact q
  ·obtain ⟨more,q⟩:=u.tbls b ps e;exact ⟨more,by rw [zak (zam q hn)]; exact q⟩
 ·rw [zak (yau (yaj I.lt hT))]; exact I.free
 ·obtain ⟨v,o,ho,_⟩:=I.cell x c e;rw [zak (ne c o ho)]; exact I.freeC x c e
 ·obtain ⟨e,n,r⟩:=J.pin p hp;refine ⟨e,?_,r⟩;rw [zak (ne _ _ (I.pin p hp).1)]; exact n
 ·by_cases hb : b = T
  ·subst hb;rw [zad] at q;cases q;exact ⟨hz,its,r,ht⟩
  ·rw [zak hb] at q;exact (J.hok b u q).stay (λ c v _ q=>q) (λ c q=>by rw [zak (zam q hn)]; exact q) λ c xs q=>by rw [zak (zam q hn)]; exact q
end
mutual
noncomputable def DatV (K:PySem.W.Frag) (H:Hp):PyData -> V -> Prop
 | .none,v=>v=.non
 | .bool b,v=>v=.bl b
 | .int i,v=>v=.int i
 | .str x,v=>v=.str x
 | .list ds,v=>∃ a xs,v=.ref a /\ SqL K H a xs /\ DatVs K H ds xs
 | .tuple ds,v=>∃ a xs,v=.ref a /\ SqT K H a xs /\ DatVs K H ds xs
 | .dict _,_=>False
noncomputable def DatVs (K:PySem.W.Frag) (H:Hp):List PyData -> List V -> Prop
 | [],xs=>xs=[]
 | d :: ds,xs=>∃ y ys,xs=y :: ys /\ DatV K H d y /\ DatVs K H ds ys
end
section
variable {X:Cx} {pins:List (Addr × Obj)} {σ:St} {H:Hp} {s:Shared}
mutual
def DatV.reads (I:Inv X pins σ H s):∀ (d:PyData) {x:V} {u:Value},DatV X.K H d x -> RelV x u -> ∃ as,Reads s.heap u d as
 | .none,x,u,h,r=>by
  rw [DatV] at h; subst h; cases r; exact ⟨_,.none⟩
 | .bool b,x,u,h,r=>by
  rw [DatV] at h; subst h; cases r; exact ⟨_,.bool b⟩
 | .int i,x,u,h,r=>by
  rw [DatV] at h; subst h; obtain ⟨t,rfl⟩:=r; exact ⟨_,.int i t⟩
 | .str z,x,u,h,r=>by
  rw [DatV] at h; subst h; obtain ⟨t,rfl⟩:=r; exact ⟨_,.str z t⟩
 | .list ds,x,u,h,r=>by
  rw [DatV] at h;obtain ⟨a,xs,rfl,hq,hd⟩:=h;cases r;obtain ⟨its,rv,⟨o,n,e,c,_,d⟩,hz⟩:=I.list hq;obtain ⟨as,ra⟩:=DatVs.reads I ds hd rv;exact ⟨_,.list e c d (by simpa using ra)⟩
 | .tuple ds,x,u,h,r=>by
  rw [DatV] at h;obtain ⟨a,xs,rfl,hq,hd⟩:=h;cases r;obtain ⟨its,rv,⟨o,e,c,n,d⟩,hz⟩:=I.tuple hq;obtain ⟨as,ra⟩:=DatVs.reads I ds hd rv;exact ⟨_,.tuple e c d (by simpa using ra)⟩
 | .dict _,x,u,h,r=>by
  rw [DatV] at h; exact h.elim
def DatVs.reads (I:Inv X pins σ H s):∀ (ds:List PyData) {xs:List V} {us:List Value},DatVs X.K H ds xs -> Vals xs us -> ∃ as,ReadsAll s.heap us ds as
 | [],xs,us,h,r=>by
  rw [DatVs] at h; subst h; cases r; exact ⟨_,.nil⟩
 | d :: ds,xs,us,h,r=>by
  rw [DatVs] at h;obtain ⟨y,ys,rfl,h1,h2⟩:=h;cases r with
  | cons r1 r2=>
   obtain ⟨as,a1⟩:=DatV.reads I d h1 r1;obtain ⟨bs,a2⟩:=DatVs.reads I ds h2 r2;exact ⟨_,.cons a1 a2⟩
end
end
def DatV.int (K:PySem.W.Frag) (H:Hp) (i:Int):DatV K H (.int i) (.int i):=by rw [DatV]
def DatV.bool (K:PySem.W.Frag) (H:Hp) (i:Bool):DatV K H (.bool i) (.bl i):=by rw [DatV]
def DatV.str (K:PySem.W.Frag) (H:Hp) (i:Str):DatV K H (.str i) (.str i):=by rw [DatV]
def DatV.list {K:PySem.W.Frag} {H:Hp} {a:Addr} {xs:List V} {ds:List PyData} (h:SqL K H a xs) (k:DatVs K H ds xs):DatV K H (.list ds) (.ref a):=by rw [DatV]; exact ⟨a,xs,rfl,h,k⟩
def DatV.tuple {K:PySem.W.Frag} {H:Hp} {a:Addr} {xs:List V} {ds:List PyData} (h:SqT K H a xs) (k:DatVs K H ds xs):DatV K H (.tuple ds) (.ref a):=by rw [DatV]; exact ⟨a,xs,rfl,h,k⟩
def DatVs.nil {K:PySem.W.Frag} {H:Hp}:DatVs K H [] []:=by rw [DatVs]
def DatVs.cons {K:PySem.W.Frag} {H:Hp} {d:PyData} {ds:List PyData} {x:V} {xs:List V} (h:DatV K H d x) (k:DatVs K H ds xs):DatVs K H (d :: ds) (x :: xs):=by rw [DatVs]; exact ⟨x,xs,rfl,h,k⟩
def DatVs.ints (K:PySem.W.Frag) (H:Hp):∀ ns:List Int,DatVs K H (ns.map .int) (ns.map V.int)
 | []=>.nil
 | n :: ns=>.cons (.int K H n) (DatVs.ints K H ns)
noncomputable abbrev shpd:=SeqAt.shaped
def zh5 (ns:List Int):shpd (.tuple (ns.map PyData.int))=true:=by
 have h:=PySem.W.ke_shaped_ints ns;simpa [SeqAt.shaped,PyData.canLay0,PyData.depth] using h
noncomputable def rEqU (K:PySem.W.Frag):R2:=λ x y H Q=>∃ d e,DatV K H d x /\ DatV K H e y /\ shpd d=true /\ shpd e=true /\ Q (.bl (PyData.eqv d e)) H
noncomputable def rNeU (K:PySem.W.Frag):R2:=λ x y H Q=>∃ d e,DatV K H d x /\ DatV K H e y /\ shpd d=true /\ shpd e=true /\ Q (.bl (!PyData.eqv d e)) H
section
variable {X:Cx}
def znS (hu:X.A.units + 64 < cLine):OpR X (compareOp .Eq) (rEqU X.K):=by
 intro pins s σ H x y v u Q I rx ry h;obtain ⟨d,e,hd,he,sd,se,q⟩:=h;obtain ⟨as,ra⟩:=DatV.reads I d hd rx;obtain ⟨bs,rb⟩:=DatV.reads I e he ry;exact eq_dataH ra rb sd se hu ⟨.bl _,H,I,rfl,q⟩
def zmh (hu:X.A.units + 64 < cLine):OpR X (compareOp .NotEq) (rNeU X.K):=by
 intro pins s σ H x y v u Q I rx ry h;obtain ⟨d,e,hd,he,sd,se,q⟩:=h;obtain ⟨as,ra⟩:=DatV.reads I d hd rx;obtain ⟨bs,rb⟩:=DatV.reads I e he ry;exact ne_dataH ra rb sd se hu ⟨.bl _,H,I,rfl,q⟩
noncomputable def zkH (K:PySem.W.Frag):R2:=λ x y H Q=>rI0 (λ i j=>.int (i + j)) x y H Q \/ (rCat x y H Q \/ zmr K x y H Q)
def zlj:OpR X (binaryOp .Add) (zkH X.K):=zmo.or (zmK.or zlq)
noncomputable def zmB:R2:=λ x y H Q=>rI CMul (λ i j=>.int (i * j)) x y H Q \/ rRep x y H Q
def zlR:OpR X (binaryOp .Mult) zmB:=znX.or znc
noncomputable def rIsU:R2:=λ x y H Q=>(y=.non /\ Q (.bl (decide (x=.non))) H) \/ (∃ a b,x=.bl a /\ y=.bl b /\ Q (.bl (a == b)) H)
def zmp:OpR X (compareOp .Is) (λ x y H Q=>∃ a b,x=.bl a /\ y=.bl b /\ Q (.bl (a == b)) H):=by
 intro pins s σ H x y v u Q I rx ry h;obtain ⟨a,b,rfl,rfl,q⟩:=h;cases rx;cases ry;exact is_bool ⟨.bl _,H,I,rfl,q⟩
def zla:OpR X (compareOp .Is) rIsU:=zmP.or zmp
def slU:SlR X (λ x lo hi H Q=>rSlL X.K x lo hi H Q \/ rSlT X.K x lo hi H Q):=zlp.or zmQ
noncomputable def zmX:V -> List V -> Hp -> VK -> Prop:=λ x xs H Q=>∃ i,x=.int i /\ xs=[] /\ Q (.int (Builtin.Int.intBits i)) H
def zl6:MtR X "int.bit_length" zmX:=by
 intro pins s σ H x xs v us Q I rx rv h;obtain ⟨i,rfl,rfl,q⟩:=h;obtain ⟨t,rfl⟩:=rx;have hus:=rv.zero;subst hus;exact call_int_bit_length ⟨.int _,H,I.tok _,⟨_,rfl⟩,q⟩
def zjz (bs:List Bool):(List.range bs.length).all (λ i=>bs[i]?.getD false)=bs.all id:=by
 rw [ycx];simp only [ybv,ybm,id];constructor
 ·intro h b hb;obtain ⟨i,hi,e⟩:=ybb.mp hb;have:=h i hi;simp only [yaa hi,Option.getD_some,e] at this;exact this
 ·intro h i hi;simp only [yaa hi,Option.getD_some];exact h _ (ybc hi)
noncomputable def znj (K:PySem.W.Frag) (g:List Bool -> Bool):List V -> Hp -> VK -> Prop:=λ xs H Q=>∃ a bs,xs=[.ref a] /\ SqL K H a (bs.map V.bl) /\ Q (.bl (g bs)) H
def zeU:∀ {bs:List Bool} {us:List Value},Vals (bs.map V.bl) us -> us=bs.map Value.bool
 | [],_,.nil=>rfl
 | b :: bs,_,.cons r t=>by
  have e:_=Value.bool b:=r;rw [e,zeU t];rfl
def zjG (hc:X.calm=true):zbk X (.builtin "all") (znj X.K λ bs=>bs.all id):=by
 intro pins s σ H xs us Q I r h;obtain ⟨a,bs,rfl,hq,q⟩:=h;obtain ⟨u,rfl,ru⟩:=r.one;cases ru;obtain ⟨its,rv,pl,hz⟩:=I.list hq;have ei:=zeU rv;subst ei;have hh:X.A.in1.handled=none:=I.ok.hd hc;have al:a < s.heap.objs.size:=by obtain ⟨o,n,e,_⟩:=pl; exact yad e
 refine call_all_walk (wpAny_pyIter_list pl.isList ?_);refine ⟨s.heap.objs.size,_,_,_,_,_,λ i=>bs[i]?.getD false,rfl,Walks.list hh s.heap.objs.size a (yau al) (bs.map Value.bool).toArray,⟨⟨_,yae _ rfl,rfl,rfl⟩,pl.isList.push _⟩,?_,λ h' tk hk=>?_⟩
 ·intro i v s' Q' E' hv hQ;have hv : (bs.map Value.bool)[i]? = some v := by simpa using hv
  rw [yai] at hv;cases e:bs[i]? with
  | none=>rw [e] at hv; cases hv
  | some b=>
   rw [e] at hv;cases hv;simp only [e,Option.getD_some] at hQ;exact wpAny_truthy_bool hQ
 ·have I2:Inv X pins σ H { s with heap:=h',toks:=tk }:=I.kept λ b o e=>hk b o (by
   intro z;have z:b=s.heap.objs.size:=by simpa using z
   exact absurd (yad e) (by rw [z]; exact ya3 _)) (yab _ e)
  refine ⟨.bl _,H,I2,rfl,?_⟩;have e:(bs.map Value.bool).toArray.size=bs.length:=by simp
  rw [e,zjz];exact q
noncomputable def rIsi (K:PySem.W.Frag):List V -> Hp -> VK -> Prop:=λ xs H Q=>∃ x T t b,xs=[x,.ty T] /\ TyOf K H x t /\ PySem.W.kitOne K t (.type T)=some b /\ Q (.bl b) H
def zka:zbk X (.builtin "isinstance") (rIsi X.K):=by
 intro pins s σ H xs us Q I r h;obtain ⟨x,T,t,b,rfl,ty,e,q⟩:=h;obtain ⟨u,v,rfl,ru,rv⟩:=r.two;cases rv;exact ziM I ru ty e λ tk=>⟨.bl b,H,I.tok tk,rfl,q⟩
noncomputable def rLen (K:PySem.W.Frag):List V -> Hp -> VK -> Prop:=λ xs H Q=>∃ x n,xs=[x] /\ LenV K x H n /\ Q (.int n) H
def zjP:zbk X (.builtin "len") (rLen X.K):=zj7
noncomputable def rAbs:List V -> Hp -> VK -> Prop:=λ xs H Q=>∃ i,xs=[.int i] /\ Q (.int (if i < 0 then -i else i)) H
def ziI:zbk X (.builtin "abs") rAbs:=zki
noncomputable def zjf (K:PySem.W.Frag):List V -> Hp -> VK -> Prop:=λ xs H Q=>∃ p ys,xs=[.ref p] /\ ((SqL K H p ys /\ ∀ l,H l=none -> Q (.ref l) (upd H l (.tup ys))) \/ (SqT K H p ys /\ Q (.ref p) H))
def zje:zbk X (.type "tuple") (zjf X.K):=zfc
noncomputable def znp:List V -> Hp -> VK -> Prop:=λ xs H Q=>∃ i j,xs=[.int i,.int j] /\ Q (.int (if j > i then j else i)) H
def zjh (hc:X.calm=true):zbk X (.builtin "max") znp:=zjv hc
noncomputable def zm4:List V -> Hp -> VK -> Prop:=λ xs H Q=>∃ i j,xs=[.int i,.int j] /\ Q (.int (if j < i then j else i)) H
def zix (hc:X.calm=true):zbk X (.builtin "min") zm4:=zin hc
def zdd {x:Str} {i:Int} {pos:Pos} (h:∃ t,X.mg x=some (.int i t)) (hg:Gl X x:=by rfl) (hd:(x == ("__debug__":Str))=false:=by decide):PE X (.Name x pos) (tC (.int i)):=by
 obtain ⟨t,e⟩:=h;exact zlm hg e ⟨t,rfl⟩ hd
end
noncomputable abbrev NewL (xs:List V) (H:Hp) (Q:VK):Prop:=xs.length <= sizeLine /\ ∀ p,H p=none -> Q (.ref p) (upd H p (.lst xs))
noncomputable abbrev NewT (xs:List V) (H:Hp) (Q:VK):Prop:=xs.length <= sizeLine /\ ∀ p,H p=none -> Q (.ref p) (upd H p (.tup xs))
section
variable {D:Ends} {σ:St} {H:Hp} {Q:VK}
def zoi {t u:TS} (h:t { D with nx:=u D } σ H):tSeq t u D σ H:=h
def znK (h:D.nx σ H):zmq D σ H:=h
def s_nx {f:St -> Hp -> Prop} {r:VK} {b c:St -> Hp -> Prop} (h:f σ H):Ends.nx { nx:=f,rt:=r,bk:=b,ct:=c } σ H:=h
def s_rt {f:St -> Hp -> Prop} {r:VK} {b c:St -> Hp -> Prop} {v:V} (h:r v H):Ends.rt { nx:=f,rt:=r,bk:=b,ct:=c } v H:=h
def zot {te:TE} {g:TG} (h:te σ H λ x H1=>g x σ H1 D.nx):tAsg te g D σ H:=h
def zoj {te:TE} (h:te σ H D.rt):tRet te D σ H:=h
def zmI {te:TE} (h:te σ H λ _ H1=>D.nx σ H1):zmt te D σ H:=h
def s_if {c:TT} {t u:TS} (h:c σ H λ b H1=>if b=true then t D σ H1 else u D σ H1):tIfS c t u D σ H:=h
def zlD {i:Nat} {v:V} {K:St -> Hp -> Prop} (h:K (σ.set i (some v)) H):zj4 i v σ H K:=h
def znh {K:St -> Hp -> Prop} (h:K σ H):gNil [] σ H K:=⟨rfl,h⟩
def zlG {t:TG} {u:TGs} {v:V} {r:List V} {K:St -> Hp -> Prop} (h:t v σ H λ σ' H'=>u r σ' H' K):zmj t u (v :: r) σ H K:=⟨v,r,rfl,h⟩
def zm6 {to ti:TE} {t:TSet} {v:V} {K:St -> Hp -> Prop} (h:to σ H λ o H1=>ti σ H1 λ i H2=>t o i v H2 λ H3=>K σ H3):gSub to ti t v σ H K:=h
def zol {i:Nat} {v:V} (e:σ[i]?=some (some v)) (h:Q v H):tVar i σ H Q:=⟨v,e,h⟩
def s_c {v:V} (h:Q v H):tC v σ H Q:=h
def s_op {r:R2} {ta tb:TE} (h:ta σ H λ x H1=>tb σ H1 λ y H2=>r x y H2 Q):tOp r ta tb σ H Q:=h
def s_un {r:V -> Hp -> VK -> Prop} {ta:TE} (h:ta σ H λ x H1=>r x H1 Q):tUn r ta σ H Q:=h
def s_cb {r:List V -> Hp -> VK -> Prop} {t:TA} (h:t σ H λ vs H1=>r vs H1 Q):tCB r t σ H Q:=h
def znZ {sp:Sp} {E:XK} {t:TA} (h:t σ H λ vs H1=>sp (vs ++ []) H1 Q E):zlH sp [] E t σ H Q:=h
def znO {K:List V -> Hp -> Prop} (h:K [] H):tNil σ H K:=h
def zng {ta:TE} {tr:TA} {K:List V -> Hp -> Prop} (h:ta σ H λ x H1=>tr σ H1 λ xs H2=>K (x :: xs) H2):ziX ta tr σ H K:=h
def zoo {t:TA} (h:t σ H λ xs H1=>NewL xs H1 Q):tLst t σ H Q:=h
def zob {t:TA} (h:t σ H λ xs H1=>NewT xs H1 Q):tTup t σ H Q:=h
def zmN {t:TE} {K:Bool -> Hp -> Prop} (h:t σ H λ x H'=>∃ k,x=.bl k /\ K k H'):zml t σ H K:=h
def s_b {t:TE} {K:Bool -> Hp -> Prop} (h:t σ H λ x H'=>∃ k,x=.bl k /\ K k H'):tB t σ H K:=h
def zoh {b:Bool} {K:Bool -> Prop} (h:K b):∃ k,V.bl b=.bl k /\ K k:=⟨b,rfl,h⟩
def zoa {t u:TT} {K:Bool -> Hp -> Prop} (h:t σ H λ c H1=>if c=true then u σ H1 K else K false H1):tAnd t u σ H K:=h
def s_or {t u:TT} {K:Bool -> Hp -> Prop} (h:t σ H λ c H1=>if c=true then K true H1 else u σ H1 K):tOr t u σ H K:=h
def zoq {t:TT} {K:Bool -> Hp -> Prop} (h:t σ H λ c H1=>K (!c) H1):tNot t σ H K:=h
def zmE {ta tb:TE} (h:ta σ H λ x H1=>∃ c,x=.bl c /\ if c=true then tb σ H1 Q else Q (.bl false) H1):znI ta tb σ H Q:=h
def zm1 {ta:TE} (h:ta σ H λ x H1=>∃ c,x=.bl c /\ Q (.bl (!c)) H1):znF ta σ H Q:=h
def znf {t:TT} {ta tb:TE} (h:t σ H λ c H1=>if c=true then ta σ H1 Q else tb σ H1 Q):tIf t ta tb σ H Q:=h
def zlJ {r r':R2} {ta tb tc:TE} (h:ta σ H λ x H1=>tb σ H1 λ y H2=>r x y H2 λ z H3=>∃ k,z=.bl k /\ if k=true then tc σ H3 λ u H4=>r' y u H4 Q else Q (.bl false) H3):zk7 r r' ta tb tc σ H Q:=by
  exact h
def zmM {K:Bool -> Hp -> Prop} (h:K true H):zlf σ H K:=h
def s_ri {C:Int -> Int -> Prop} {g:Int -> Int -> V} {i j:Int} (c:C i j) (h:Q (g i j) H):rI C g (.int i) (.int j) H Q:=⟨i,j,rfl,rfl,c,h⟩
def zov {g:Int -> Int -> V} {i j:Int} (h:Q (g i j) H):rI0 g (.int i) (.int j) H Q:=⟨i,j,rfl,rfl,h⟩
def s_ru {g:Int -> V} {i:Int} (h:Q (g i) H):rU g (.int i) H Q:=⟨i,rfl,h⟩
def zmf {K:PySem.W.Frag} {i j:Int} (h:Q (.int (i + j)) H):zkH K (.int i) (.int j) H Q:=.inl ⟨i,j,rfl,rfl,h⟩
def zmg {K:PySem.W.Frag} {i j:Int} (h:Q (.bl (i == j)) H):rEqU K (.int i) (.int j) H Q:=⟨.int i,.int j,.int K H i,.int K H j,rfl,rfl,h⟩
def znx {K:PySem.W.Frag} {i j:Int} (h:Q (.bl (!(i == j))) H):rNeU K (.int i) (.int j) H Q:=⟨.int i,.int j,.int K H i,.int K H j,rfl,rfl,h⟩
def zmk {K:PySem.W.Frag} {i j:Bool} (h:Q (.bl (i == j)) H):rEqU K (.bl i) (.bl j) H Q:=⟨.bool i,.bool j,.bool K H i,.bool K H j,rfl,rfl,h⟩
def zcF {K:PySem.W.Frag} {p:Addr} {i:Int} {xs:List V} {v:V} (hq:SqL K H p xs) (h0:0 <= i) (e:xs[i.toNat]?=some v) (h:Q v H):rIx K (.ref p) (.int i) H Q:=by
 have e':atI xs i=some v:=by
  have:=ziT e
  rwa [ybW h0] at this
 exact .inl ⟨p,xs,i,v,rfl,rfl,hq,e',h⟩
def zjj {K:PySem.W.Frag} {p:Addr} {i:Int} {xs:List V} {v:V} (hq:SqT K H p xs) (h0:0 <= i) (e:xs[i.toNat]?=some v) (h:Q v H):rIx K (.ref p) (.int i) H Q:=by
 have e':atI xs i=some v:=by
  have:=ziT e
  rwa [ybW h0] at this
 exact .inr (.inl ⟨p,xs,i,v,rfl,rfl,hq,e',h⟩)
def znm {t:TA} {R:It -> Hp -> Prop} (h:t σ H λ vs H1=>∃ j:Int,vs=[.int j] /\ -(2 ^ 62) <= j /\ j < 2 ^ 62 /\ R (Itr 0 j.toNat) H1):zmY t σ H R:=h
def zns {K:PySem.W.Frag} {t:TE} {R:It -> Hp -> Prop} (h:t σ H λ x H1=>∃ a,x=.ref a /\ (((∃ xs,SqL K H1 a xs) /\ R (Itl K a) H1) \/ ((∃ xs,SqT K H1 a xs) /\ R (Itt K a) H1))):iSeq K t σ H R:=h
def zop {K:PySem.W.Frag} {T:String} {r:V -> List V -> Hp -> VK -> Prop} {t:TE} (h:t σ H λ x H1=>tyV K T x H1 /\ r x [] H1 Q):tBM0 K T r t σ H Q:=h
def s_bm {K:PySem.W.Frag} {T:String} {r:V -> List V -> Hp -> VK -> Prop} {t:TE} {ta:TA} (h:t σ H λ x H1=>tyV K T x H1 /\ ta σ H1 λ xs H2=>r x xs H2 Q):tBM K T r t ta σ H Q:=h
end
section
variable {σ:St} {H:Hp} {Q:VK}
def zn4 {K:PySem.W.Frag} {a:Addr} {xs:List V} (hq:SqL K H a xs) (h:Q (.int xs.length) H):rLen K [.ref a] H Q:=⟨_,_,rfl,.inl ⟨xs,hq,rfl⟩,h⟩
def znr {K:PySem.W.Frag} {a:Addr} {xs:List V} (hq:SqT K H a xs) (h:Q (.int xs.length) H):rLen K [.ref a] H Q:=⟨_,_,rfl,.inr ⟨xs,hq,rfl⟩,h⟩
def zoB {i:Int} (h:Q (.int (if i < 0 then -i else i)) H):rAbs [.int i] H Q:=⟨i,rfl,h⟩
def zof {i j:Int} (h:Q (.int (if j > i then j else i)) H):znp [.int i,.int j] H Q:=⟨i,j,rfl,h⟩
def zow {i j:Int} (h:Q (.int (if j < i then j else i)) H):zm4 [.int i,.int j] H Q:=⟨i,j,rfl,h⟩
def zox {x:V} (h:Q (.bl (decide (x=.non))) H):rIsU x .non H Q:=.inl ⟨rfl,h⟩
def zos {p:Addr} {xs:List V} {y:V} (hp:H p=some (.lst xs)) (hz:xs.length < sizeLine) (h:Q .non (upd H p (.lst (xs ++ [y])))):ziu (.ref p) [y] H Q:=⟨p,xs,y,rfl,rfl,hp,hz,h⟩
def znM {i:Int} (h:Q (.int (Builtin.Int.intBits i)) H):zmX (.int i) [] H Q:=⟨i,rfl,rfl,h⟩
def zke {K:PySem.W.Frag} {i:Int} (h:Q (.bl true) H):rIsi K [.int i,.ty "int"] H Q:=⟨_,"int",_,true,rfl,TyOf.int i,rfl,h⟩
def zkQ {K:PySem.W.Frag} {i:Int} (h:Q (.bl false) H):rIsi K [.int i,.ty "bool"] H Q:=⟨_,"bool",_,false,rfl,TyOf.int i,rfl,h⟩
def zjZ {K:PySem.W.Frag} {i:Bool} (h:Q (.bl true) H):rIsi K [.bl i,.ty "bool"] H Q:=⟨_,"bool",_,true,rfl,TyOf.bl i,rfl,h⟩
def zj2 {K:PySem.W.Frag} {a:Addr} {xs:List V} (hq:H a=some (.lst xs)) (h:Q (.bl true) H):rIsi K [.ref a,.ty "list"] H Q:=⟨_,"list",_,true,rfl,TyOf.lst hq,rfl,h⟩
def zkh {K:PySem.W.Frag} {a:Addr} {xs:List V} (hq:H a=some (.tup xs)) (h:Q (.bl true) H):rIsi K [.ref a,.ty "tuple"] H Q:=⟨_,"tuple",_,true,rfl,TyOf.tup hq,rfl,h⟩
def s_sl {r:V -> Option Int -> Option Int -> Hp -> VK -> Prop} {te:TE} {tl th:TO} (h:te σ H λ x H1=>tl σ H1 λ l H2=>th σ H2 λ u H3=>r x l u H3 Q):tSl r te tl th σ H Q:=h
def zkN {K:Option Int -> Hp -> Prop} (h:K none H):zjT σ H K:=h
def zmS {t:TE} {K:Option Int -> Hp -> Prop} (h:t σ H λ x H1=>∃ i,x=.int i /\ K (some i) H1):zms t σ H K:=h
def zn3 {j:Int} {K:Int -> Prop} (h:K j):∃ i,V.int j=.int i /\ K i:=⟨j,rfl,h⟩
def zny {K:PySem.W.Frag} {n:Nat} {t:TGs} {a:Addr} {xs:List V} {K':St -> Hp -> Prop} (hq:SqT K H a xs) (hl:xs.length=n) (h:t xs σ H K'):gTup K n t (.ref a) σ H K':=⟨a,xs,rfl,hq,hl,h⟩
def zmC {p:Addr} {xs:List V} {k:Int} {j:Nat} {v:V} {K:Hp -> Prop} (hp:H p=some (.lst xs)) (e:ixN xs.length k=some j) (h:K (upd H p (.lst (xs.set j v)))):zlu (.ref p) (.int k) v H K:=⟨p,xs,k,j,rfl,rfl,hp,e,h⟩
end
def zoC {K:PySem.W.Frag} {i:Int} {H:Hp} {P:Prop} (h:P):tyV K "int" (.int i) H /\ P:=⟨rfl,h⟩
def zoz {K:PySem.W.Frag} {p:Addr} {xs:List V} {H:Hp} {P:Prop} (hq:SqL K H p xs) (h:P):tyV K "list" (.ref p) H /\ P:=⟨.inl ⟨rfl,xs,hq⟩,h⟩
def zaA {n:Nat} {src:List (Option Nat)} {σ:St} {g:TG} {tc:TT} {te:TE} {Q:VK} {H:Hp} (Pv:Nat -> List V -> Hp -> Prop) (h0:Pv 0 [] H) (len:∀ i acc H,Pv i acc H -> acc.length <= sizeLine)
  (step:∀ i acc H,i < n -> Pv i acc H -> g (.int (i:Nat)) (capt src σ) H λ σ2 H2=>Ext (capt src σ) σ2 /\ tc σ2 H2 λ b H3=>if b=true then te σ2 H3 (λ y H4=>Pv (i + 1) (acc ++ [y]) H4) else Pv (i + 1) acc H3)
  (done:∀ acc H,Pv n acc H -> ∀ p,H p=none -> Q (.ref p) (upd H p (.lst acc))):zcb (Itr 0 n) src σ g tc te Q H:=
 zdi Pv h0 len (λ i acc H hi p=>by rw [Int.zero_add]; exact step i acc H hi p) done
def zaO {n:Nat} (h:n <= 100000):n < sizeLine:=yaU h (3:)
def zdw {c A B:Prop} [Decidable c] (h1:c -> A) (h2:¬ c -> B):if decide c=true then A else B:=by
 by_cases h:c
 ·rw [if_pos (decide_eq_true h)]; exact h1 h
 ·rw [if_neg (by rw [decide_eq_false h]; exact yaq)]; exact h2 h
def zaC {i j:Int} {A B:Prop} (h1:i=j -> A) (h2:¬ i=j -> B):if (i == j)=true then A else B:=by
 by_cases h:i=j
 ·rw [if_pos (by simpa using h)]; exact h1 h
 ·rw [if_neg (by simpa using h)]; exact h2 h
def zn1 {i j:Int} {A B:Prop} (h1:¬ i=j -> A) (h2:i=j -> B):if (!(i == j))=true then A else B:=by
 by_cases h:i=j
 ·rw [if_neg (by simp [h])]; exact h2 h
 ·rw [if_pos (by simp [h])]; exact h1 h
def zna {A B:Prop} (h:B):if (!true)=true then A else B:=iteF h
def zmV {A B:Prop} (h:A):if (!false)=true then A else B:=iteT h
def zn6 {σ:St} {i:Nat} {v:V} {P:Prop} (h:σ[i]?=some none) (p:P):Ext σ (σ.set i (some v)) /\ P:=⟨zgH h,p⟩
def zmO {σ:St} {i j:Nat} {v u:V} {P:Prop} (h:σ[i]?=some none) (k:(σ.set i (some v))[j]?=some none) (p:P):Ext σ ((σ.set i (some v)).set j (some u)) /\ P:=⟨(zgH h).trans (zgH k),p⟩
section
variable {X:Cx} {K:PySem.W.Frag} {tg l a b e o:Expr} {es:List Expr} {tl ta tb to:TE} {tA:TA}
def k_eq (hu:X.A.units + 64 < cLine) (hK:X.K=K:=by rfl):OpR X (compareOp .Eq) (rEqU K):=hK ▸ znS hu
def k_ne (hu:X.A.units + 64 < cLine) (hK:X.K=K:=by rfl):OpR X (compareOp .NotEq) (rNeU K):=hK ▸ zmh hu
def za4 (hK:X.K=K:=by rfl):OpR X (binaryOp .Add) (zkH K):=hK ▸ zlj
def k_ix (hK:X.K=K:=by rfl):IxR X (rIx K):=hK ▸ zm0
noncomputable def rSlU (K:PySem.W.Frag):V -> Option Int -> Option Int -> Hp -> VK -> Prop:=λ x lo hi H Q=>rSlL K x lo hi H Q \/ rSlT K x lo hi H Q
def k_sl (hK:X.K=K:=by rfl):SlR X (rSlU K):=hK ▸ slU
def k_in (hK:X.K=K:=by rfl):OpR X (compareOp .In) (rIn K false):=hK ▸ zi3
def zi5 (hK:X.K=K:=by rfl):OpR X (compareOp .NotIn) (rIn K true):=hK ▸ zgt
def zbI (hl:PE X l tl) (hK:X.K=K:=by rfl):PI X tg l (iSeq K tl):=hK ▸ znd hl
def zdr (hK:X.K=K:=by rfl):zbk X (.builtin "len") (rLen K):=hK ▸ zjP
def zif (hK:X.K=K:=by rfl):zbk X (.type "tuple") (zjf K):=hK ▸ zje
def znY (hc:X.calm=true) (hK:X.K=K:=by rfl):zbk X (.builtin "all") (znj K λ bs=>bs.all id):=hK ▸ zjG hc
def zdQ (hK:X.K=K:=by rfl):zbk X (.builtin "isinstance") (rIsi K):=hK ▸ zka
def zgI {pos:Pos} {k:Nat} {t:TGs} {n:Nat} (hc:X.calm=true) (h:PGs X es t) (hn:(assignEach es X.env).length=n:=by rfl) (hst:(assignEach es X.env).findIdx? (·.1)=none:=by rfl) (hK:X.K=K:=by rfl):PG X (.Tuple es k pos) (gTup K n t):=hK ▸ znL hc h hn hst
def zmJ {name:Str} {apos cpos:Pos} {T id:String} {r:V -> List V -> Hp -> VK -> Prop} (pa:PlainAttrs T) (slot:Slot T name id) (hty:typeOf (.builtin id)=pure (.type "method_descriptor")) (hm:MtR X id r) (ho:PE X o to)
  (hbase:attributeBase o name X.env (eval o X.env)=eval o X.env:=by rfl) (hline:(apos.endLine == cpos.line)=true:=by rfl) (hK:X.K=K:=by rfl):PE X (.Call (.Attribute o name apos) [] [] cpos) (tBM0 K T r to):=hK ▸ zm8 pa slot hty hm ho hbase hline
def k_bm {name:Str} {apos cpos:Pos} {T id:String} {r:V -> List V -> Hp -> VK -> Prop} (pa:PlainAttrs T) (slot:Slot T name id) (hty:typeOf (.builtin id)=pure (.type "method_descriptor")) (hm:MtR X id r) (ho:PE X o to) (ha:PA X (e :: es) tA)
  (hbase:attributeBase o name X.env (eval o X.env)=eval o X.env:=by rfl)
  (hfew : ((backTo cpos (starEach (e :: es) X.env)).all (fun x => !x.1) && (backToKw cpos (keywordEach [] X.env)).all (fun x => x.1.isSome)
   && decide ((e :: es).length + ([]:List Keyword).length + (if ([]:List Keyword).isEmpty then 0 else 1) < 30))=true:=by rfl)
  (hline:(apos.endLine == cpos.line)=true:=by rfl) (hs:starEach (e :: es) X.env=(false,eval e X.env) :: starEach es X.env:=by rfl) (hplain:(backTo cpos (starEach es X.env)).any (·.1)=false:=by rfl) (hK:X.K=K:=by rfl) :
  PE X (.Call (.Attribute o name apos) (e :: es) [] cpos) (tBM K T r to tA):=hK ▸ zon pa slot hty hm ho ha hbase hfew hline hs hplain
end
noncomputable abbrev ForW (J:It) (g:TG) (tb:TS) (D:Ends) (σ:St) (H1:Hp):Prop:=∃ W:Nat -> Nat -> St -> Hp -> Prop,(∃ m,W 0 m σ H1) /\ ∀ i m σ H,W i m σ H ->
 (J.stop i H /\ D.nx σ H) \/ (J.go i H /\ ∃ N:St -> Hp -> Prop,(∀ σ' H',N σ' H' -> ∃ m',m' < m /\ W (i + 1) m' σ' H') /\ ∀ x H',J.yld i H x H' -> g x σ H' λ σ2 H2=>tb { D with nx:=N,ct:=N,bk:=D.nx } σ2 H2)
def zaw {n:Nat} {g:TG} {tb:TS} {D:Ends} {σ:St} {H:Hp} (Pv:Nat -> St -> Hp -> Prop) (h0:Pv 0 σ H)
  (hs:∀ i σ H,i < n -> Pv i σ H -> g (.int (i:Nat)) σ H λ σ2 H2=>tb { D with nx:=Pv (i + 1),ct:=Pv (i + 1),bk:=D.nx } σ2 H2) (hd:∀ σ H,Pv n σ H -> D.nx σ H):ForW (Itr 0 n) g tb D σ H:=
 ziU Pv h0 (λ i σ H hi p=>by rw [Int.zero_add]; exact hs i σ H hi p) hd
def zoc {wi:TI} {g:TG} {tb:TS} {D:Ends} {σ:St} {H:Hp} (h:wi σ H λ J H1=>ForW J g tb D σ H1):tFor wi g tb D σ H:=h
def za9 {j:Int} {n:Nat} {g:TG} {tb:TS} {D:Ends} {σ:St} {H:Hp} (e:j=(n:Int)) (hn:n <= 1000000) (h:ForW (Itr 0 n) g tb D σ H):∃ i:Int,[V.int j]=[V.int i] /\ -(2 ^ 62) <= i /\ i < 2 ^ 62 /\ ForW (Itr 0 i.toNat) g tb D σ H:=by
 subst e;exact ⟨n,rfl,by omega,by omega,by simpa using h⟩
def za1 {j:Int} {n:Nat} {src:List (Option Nat)} {g:TG} {tc:TT} {te:TE} {Q:VK} {σ:St} {H:Hp} (e:j=(n:Int)) (hn:n <= 1000000) (h:zcb (Itr 0 n) src σ g tc te Q H):∃ i:Int,[V.int j]=[V.int i] /\ -(2 ^ 62) <= i /\ i < 2 ^ 62 /\ zcb (Itr 0 i.toNat) src σ g tc te Q H:=by
 subst e;exact ⟨n,rfl,by omega,by omega,by simpa using h⟩
def zmD {src:List (Option Nat)} {wi:TI} {g:TG} {tc:TT} {te:TE} {σ:St} {H:Hp} {Q:VK} (h:wi σ H λ J H1=>zcb J src σ g tc te Q H1):zkx src wi g tc te σ H Q:=h
def ziJ {src:List (Option Nat)} {wi:TI} {g:TG} {tc:TT} {te:TE} {j:Nat} {D:Ends} {σ:St} {H:Hp} (h:zkx src wi g tc te σ H λ x H1=>D.nx (σ.set j (some x)) H1):zhi src wi g tc te j D σ H:=h
def zkE {K:PySem.W.Frag} {a:Addr} {xs:List V} {g:TG} {tb:TS} {D:Ends} {σ:St} {H:Hp} (hA:SqL K H a xs \/ SqT K H a xs) (Pv:Nat -> St -> Hp -> Prop) (h0:Pv 0 σ H)
  (hs:∀ i σ H',Pv i σ H' -> (SqL K H a xs -> SqL K H' a xs) /\ (SqT K H a xs -> SqT K H' a xs))
  (step:∀ i x σ H',xs[i]?=some x -> Pv i σ H' -> g x σ H' λ σ2 H2=>tb { D with nx:=Pv (i + 1),ct:=Pv (i + 1),bk:=D.nx } σ2 H2) (done:∀ σ H',Pv xs.length σ H' -> D.nx σ H') :
  ∃ b,V.ref a=.ref b /\ (((∃ xs,SqL K H b xs) /\ ForW (Itl K b) g tb D σ H) \/ ((∃ xs,SqT K H b xs) /\ ForW (Itt K b) g tb D σ H)):=by
 refine ⟨a,rfl,?_⟩;rcases hA with hA | hA
 ·exact .inl ⟨⟨xs,hA⟩,zhk Pv h0 (λ i σ H' _ p=>(hs i σ H' p).1 hA) step done⟩
 ·exact .inr ⟨⟨xs,hA⟩,zlh Pv h0 (λ i σ H' _ p=>(hs i σ H' p).2 hA) step done⟩
def zd0 {K:PySem.W.Frag} {a:Addr} {xs:List V} {src:List (Option Nat)} {σ:St} {g:TG} {tc:TT} {te:TE} {Q:VK} {H:Hp} (hA:SqL K H a xs)
  (h:zcb (Itl K a) src σ g tc te Q H):∃ b,V.ref a=.ref b /\ (((∃ xs,SqL K H b xs) /\ zcb (Itl K b) src σ g tc te Q H) \/ ((∃ xs,SqT K H b xs) /\ zcb (Itt K b) src σ g tc te Q H)):=⟨a,rfl,.inl ⟨⟨xs,hA⟩,h⟩⟩
def zaj {H:Hp} {p:Addr} {o:HO} (h:H p=none):Same H (upd H p o):=λ b u e=>by rw [zak (zam e h)]; exact e
def Same.seqT {K:PySem.W.Frag} {H H':Hp} {a:Addr} {xs:List V} (e:Same H H') (h:SqT K H a xs):SqT K H' a xs:=by
 rcases h with (h | ⟨o,h⟩) | h
 ·exact .inl (.inl (e _ _ h))
 ·exact .inl (.inr ⟨o,e _ _ h⟩)
 ·exact .inr h
structure But (p:Addr) (H H':Hp):Prop where
 keep:∀ b o,b ≠ p -> H b=some o -> H' b=some o
 fst:∀ q r,H p=some (.lst (.ref q :: r)) -> ∃ r',H' p=some (.lst (.ref q :: r'))
def But.refl (p:Addr) (H:Hp):But p H H:=⟨λ _ _ _ h=>h,λ _ r h=>⟨r,h⟩⟩
def But.trans {p:Addr} {H H1 H2:Hp} (a:But p H H1) (b:But p H1 H2):But p H H2:=⟨λ c o n h=>b.keep c o n (a.keep c o n h),λ q r h=>by
 obtain ⟨r1,h1⟩:=a.fst q r h;exact b.fst q r1 h1⟩
def Same.but {p:Addr} {H H':Hp} (s:Same H H'):But p H H':=⟨λ b o _ h=>s b o h,λ q r h=>⟨r,s _ _ h⟩⟩
def But.updL {p q:Addr} {H:Hp} {r r':List V} (h:H p=some (.lst (.ref q :: r))):But p H (upd H p (.lst (.ref q :: r'))):=⟨λ b u n e=>by rw [zak n]; exact e,λ q' r2 e=>by
 rw [h] at e;cases e;exact ⟨r',zad⟩⟩
def But.upd' {p q:Addr} {H0 H:Hp} {o:HO} (b:But p H0 H) (hq:H0 q=none):But p H0 (L2.upd H q o):=⟨λ c u n h=>by rw [zak (zam h hq)]; exact b.keep c u n h,λ q' r h=>by
 obtain ⟨r',h'⟩:=b.fst q' r h;exact ⟨r',by rw [zak (zam h hq)]; exact h'⟩⟩
def Same.upd' {q:Addr} {H0 H:Hp} {o:HO} (b:Same H0 H) (hq:H0 q=none):Same H0 (L2.upd H q o):=λ c u h=>by rw [zak (zam h hq)]; exact b c u h
end L2
namespace PySem
namespace F
def lri_no_len:typeLookup (.type "list_reverseiterator") "__len__"=pure none:=by rw [typeLookup_type,builtinLookup_eq_fast]; kernel_rfl
def lri_hint:typeLookup (.type "list_reverseiterator") "__length_hint__"=pure (some (.builtin "list_reverseiterator.__length_hint__")):=by rw [typeLookup_type,builtinLookup_eq_fast]; kernel_rfl
end F
section
variable {prog:Program} {w:World} {A:Around} {E:Value -> Shared -> Prop} {s:Shared}
def zey {I l:Addr} {k:Int} {Q:Bool -> Shared -> Prop} (hit:s.heap.IsRevIter I l k) (h:Q false s):wpAny (model prog w) A (Builtin.List.listLengthHint (.ref I)) Q E s:=by
 unfold Builtin.List.listLengthHint;refine wpAny_bind (wpAny_specialOf hit.typeIs F.lri_no_len ?_);show wpAny _ A (specialOf (Value.ref I) (Str.ofString "__length_hint__") >>= _) _ _ _;refine wpAny_bind (wpAny_specialOf hit.typeIs F.lri_hint ?_)
 wp_delta
 refine wpAny_bind (wpAny_isInstance (T:="list_reverseiterator") (b:=true) hit.typeIs (by rw [isSubtype_type]; kernel_rfl) ?_);exact wpAny_pure h
def zdP {R:Result -> Shared -> Prop} {I l:Addr} {items:Array Value} (hh:A.handled=none) (hit:s.heap.IsRevIter I l ((items.size:Int) - 1)) (hl:s.heap.IsList l items) (hne:l ≠ I) (hlen:items.size <= sizeLine)
  (S:Addr) (res:Value) (c₀:Nat) (hS:s.heap.get? S=some { cls:=.type "list",data:=.seq #[] c₀ }) (hSI:S ≠ I) (hSl:S ≠ l)
  (hR : ∀ h' tk acc' c', (∀ b o, b ≠ S -> b ≠ I -> s.heap.get? b = some o -> h'.get? b = some o) -> h'.get? S = some { cls := .type "list", dict := none, data := .seq acc' c', slots := #[] } ->
   ItemsOf (λ i v=>items[items.size - 1 - i]?=some v) acc' items.size -> R (.ok (.ret res)) { s with heap:=h',toks:=tk }) :
  wpAny (model prog w) A.in1 (Builtin.List.listExtendWith (.ref S) (.ref I) res)
   (λ fin s'=>match fin with | .done f=>R (.ok f) s' | .again c'=>c'.quiet=true /\ codeAny (model prog w) A c' R s') (λ e s'=>R (.error e) s') s:=by
 have W:=(Walks.listRev (prog:=prog) (w:=w) (A:=A.in1) hh I l hne items).toS
 have hSf:S ∉ [I,l]:=λ hm=>by
  rcases yal.mp hm with e | hm
  ·exact hSI e
  ·exact hSl (yaz.mp hm)
 unfold Builtin.List.listExtendWith;refine wpAny_bind (wpAny_typeOf (T:="list_reverseiterator") hit.typeIs ?_);have h1:Builtin.List.listSameRef (.ref S) (.ref I)=false:=by simp [Builtin.List.listSameRef,hSI]
 have h2:(Value.type "list_reverseiterator" == Value.type "list")=false:=by decide
 have h3:(Value.type "list_reverseiterator" == Value.type "tuple")=false:=by decide
 simp only [h1,h2,h3,Bool.or_false,yar,if_false];refine wpAny_bind (wpAny_pyIter_revIter hit ?_);refine wpAny_bind (wpAny_holding (zey hit ?_));refine wpAny_ite_split (λ hab=>absurd hab (28:)) (λ _=>?_)
 have hit0:s.heap.IsRevIter I l ((items.size:Int) - 1 - ((0:Nat):Int)):=by
  rw [show (items.size:Int) - 1 - ((0:Nat):Int)=(items.size:Int) - 1 by omega]; exact hit
 refine wpAny_pure ⟨plainId_quiet F.plain_extend_loop _,codeAny_extend_loopS W hlen S hSf res items.size 0 _ _ _ rfl (yaQ _) ⟨yaQ _,hit0,hl⟩ hS (ItemsOf.nil _) λ s' acc' c' hm hS' hacc=>?_⟩;rw [Moved.eq_with hm];refine hR s'.heap s'.toks acc' c' (λ b o hb hI e=>hm.heap b o (λ hmem=>?_) e) hS' hacc;rcases yal.mp hmem with e' | hmem
 ·exact hb e'
 ·exact hI (yaz.mp hmem)
end
end PySem
namespace L2
open PySem PySem.Spec PyProof.Rows
section
variable {X:Cx} {pins:List (Addr × Obj)} {σ:St} {H:Hp} {s:Shared} {h':Heap} {ch:List Addr}
end
section
variable {X:Cx} {K:PySem.W.Frag} {a:Expr} {ta:TA} {p p2 pos pos2:Pos}
def ziZ {xs:List V} {its:List Value} {acc:Array Value} (r:Vals xs its) (h:ItemsOf (λ i v=>its.toArray[its.toArray.size - 1 - i]?=some v) acc its.toArray.size):acc.toList=its.reverse:=by
 obtain ⟨h1,h2⟩:=h;have h1':acc.toList.length=its.length:=by simpa using h1
 apply ybo;intro i;by_cases hi:i < its.length
 ·have hi' : i < acc.size := by rw [<- yaE, h1']; exact hi
  have q:=h2 i acc[i] (by simp [hi']);simp only [yak,List.getElem?_toArray] at q;rw [List.getElem?_reverse hi];rw [q];simp [hi']
 ·rw [ybh (1:),ybh (by rw [ybD]; omega)]
end
section
variable {σ:St} {H:Hp} {Q:VK}
end
def zid {prog:Program} {w:World} {A:Around} {e it l:Addr} (hei:e ≠ it) (hle:l ≠ e) (hli:l ≠ it) {items:Array Value} {i:Nat} {s:Shared} {Q:Option Value -> Shared -> Prop} {E:Value -> Shared -> Prop} (hi:i < items.size)
  (hst:(∃ old,IsEnum s.heap e it i old) /\ s.heap.IsListIter it l i /\ s.heap.IsList l items)
  (hQ : ∀ T vals h' tk, (∃ t x, items[i]? = some x /\ vals = #[.int i t, x]) -> s.heap.objs.size <= T -> za5 h' T vals ->
   ((∃ x,IsEnumOut h' e it ((i:Int) + 1) x T) /\ h'.IsListIter it l (i + 1) /\ h'.IsList l items /\ T ≠ e /\ T ≠ it) ->
   (∀ b o,b ∉ [e,it] -> s.heap.get? b=some o -> h'.get? b=some o) -> Q (some (.ref T)) { s with heap:=h',toks:=tk }) :
  wpAny (model prog w) A (pyNext (.ref e)) Q E s:=by
 obtain ⟨⟨old,he⟩,hit,hl⟩:=hst;have hx:items[i]?=some items[i]:=ybT hi;have l1:e < s.heap.objs.size:=yad he;have l2:it < s.heap.objs.size:=by obtain ⟨_,x,_⟩:=hit; exact yad x
 refine wpAny_pyNext_enum_item he hit hl hx hei λ h' ho hit' hT hsz hk=>?_;refine hQ s.heap.objs.size #[.int i s.toks,items[i]] h' (s.toks + 1) ⟨_,_,hx,rfl⟩ (yag _) ⟨_,hT,rfl,rfl,_,rfl⟩ ⟨⟨_,ho⟩,hit',?_,ya5 l1,ya5 l2⟩ ?_
 ·exact hl.at λ o x=>hk l o hle hli x
 ·exact λ b o hb x=>hk b o (λ z=>hb (by simp [z])) (λ z=>hb (by simp [z])) x
def zgK {prog:Program} {w:World} {A:Around} {it:Addr} {fp:List Addr} {n:Nat} {P:Nat -> Value -> Prop} {St:Nat -> Heap -> Prop} (D:Draws prog w A.in1 it fp n P St) {e:Addr} (hei:e ≠ it) (hef:e ∉ fp) {i:Nat} {s:Shared} {Q:Option Value -> Shared -> Prop} {E:Value -> Shared -> Prop} (hi:i < n)
  (hst:(∃ old,IsEnum s.heap e it i old) /\ St i s.heap)
  (hQ : ∀ T vals h' tk, (∃ t x, P i x /\ vals = #[.int i t, x]) -> s.heap.objs.size <= T -> za5 h' T vals ->
   ((∃ x,IsEnumOut h' e it ((i:Int) + 1) x T) /\ St (i + 1) h' /\ T ≠ e /\ T ≠ it) ->
   (∀ b o,b ∉ [e,it] -> s.heap.get? b=some o -> h'.get? b=some o) -> Q (some (.ref T)) { s with heap:=h',toks:=tk }) :
  wpAny (model prog w) A (pyNext (.ref e)) Q E s:=by
 obtain ⟨⟨old,he⟩,hs⟩:=hst;have l1:e < s.heap.objs.size:=yad he;have l2:it < s.heap.objs.size:=by obtain ⟨_,y⟩:=D.live _ _ hs; exact yad y
 refine wpAny_pyNext_enum_itemD D he hs hi hei hef λ x h' tk hP ho hs' hT hsz hk=>?_;refine hQ s.heap.objs.size #[.int i tk,x] h' (tk + 1) ⟨_,_,hP,rfl⟩ (yag _) ⟨_,hT,rfl,rfl,_,rfl⟩ ⟨⟨_,ho⟩,hs',ya5 l1,ya5 l2⟩ ?_;exact λ b o hb y=>hk b o (λ z=>hb (by simp [z])) (λ z=>hb (by simp [z])) y
end L2
namespace PySem
open Sem (wp)
open AutoSeq1 (wpAny_loadPart')
section
variable {prog:Program} {w:World} {A:Around} {E:Value -> Shared -> Prop} {s:Shared}
def zcL {Q:List Value -> Shared -> Prop} {r:Addr} {a b c:Int} {t u v:Tok} {n:Nat} (hh:A.handled=none) (hr:IsRange s.heap r a b c t u v) (hsmall:Builtin.Range.small a b c=true)
    (hn:Builtin.Range.rangeSize a b c=n) (hlen:n <= 2 ^ 24)
    (hQ:∀ (h':Heap) (tk:Nat) (acc:Array Value),(∀ b o,s.heap.get? b=some o -> h'.get? b=some o) -> ItemsOf (λ i v=>∃ t,v=.int (a + i * c) t) acc n -> Q acc.toList { s with heap:=h',toks:=tk }) :
    wpAny (model prog w) A (collect (.ref r)) Q E s:=by
  have hS:(s.heap.push { cls:=.type "list",dict:=none,data:=.seq ([]:List Value).toArray }).get? s.heap.objs.size=some { cls:=.type "list",data:=.seq #[] }:=yae _ rfl
  have step:∀ R:Result -> Shared -> Prop,(∀ h' tk acc' c',(∀ b o,b ≠ s.heap.objs.size -> (s.heap.push { cls:=.type "list",dict:=none,data:=.seq ([]:List Value).toArray }).get? b=some o -> h'.get? b=some o) ->
      h'.get? s.heap.objs.size=some { cls:=.type "list",dict:=none,data:=.seq acc' c',slots:=#[] } -> ItemsOf (λ i v=>∃ t,v=.int (a + i * c) t) acc' n -> R (.ok (.ret (.ref s.heap.objs.size))) { s with heap:=h',toks:=tk }) ->
      codeAny (model prog w) A (.builtin "list.__iadd__" ⟨[.ref s.heap.objs.size,.ref r],[]⟩) R { s with heap:=s.heap.push { cls:=.type "list",dict:=none,data:=.seq ([]:List Value).toArray } }:=λ R hR=>by
    refine codeAny_builtin F.entry_list_iadd ?_;rw [ybl yce _];exact wpAny_extend_range (R:=R) (s:={ s with heap:=s.heap.push { cls:=.type "list",dict:=none,data:=.seq ([]:List Value).toArray } }) hh (yab _ hr) hsmall hn hlen s.heap.objs.size (.ref s.heap.objs.size) _ hS hR
  unfold collect;refine wpAny_bind (wpAny_runValue (codeAny_builtin F.entry_proto_collect ?_));rw [ybl yci _];show wpAny _ A.in1 (newList [] >>= λ l=>again (.builtin "list.__iadd__" ⟨[l,.ref r],[]⟩)) _ _ s;refine wpAny_bind (wpAny_newObj_type ?_);refine wpAny_pure ⟨plainId_quiet yce _,step _ λ h' tk acc' c' hk hS' hacc=>?_⟩;show wpAny _ A (load s.heap.objs.size >>= _) _ _ _;refine wpAny_bind (wpAny_load hS' ?_);exact wpAny_pure (hQ h' tk acc' (λ b o e=>hk b o (yau (yad e)) (yab _ e)) hacc)
end
def zch (r:Addr) (a b c:Int) (t u v:Tok) (n:Nat) (hsmall:Builtin.Range.small a b c=true) (hn:Builtin.Range.rangeSize a b c=n) (hlen:n <= 2 ^ 24) :
  Meets (Builtin.«tuple.__new__» ⟨[.type "tuple",.ref r],[]⟩)
   (fun A R s => A.handled = none /\ IsRange s.heap r a b c t u v /\ ∀ (h' : Heap) (tk : Nat) (acc : Array Value), (∀ b o, s.heap.get? b = some o -> h'.get? b = some o) -> ItemsOf (fun i v => ∃ t, v = .int (a + i * c) t) acc n ->
    R (.ok (.ret (.ref h'.objs.size))) { s with heap:=h'.push { cls:=.type "tuple",data:=.seq acc },toks:=tk }):=
 .of_wp λ prog w A R s h=>by
  obtain ⟨hh,hr,h⟩:=h;have hsub:=sub_tuple_self;have hinit:=init_tuple_lookup;have hmh:=madeHere_tuple;have hT:s.TypeIs (.ref r) "range":=⟨_,hr,rfl⟩
  have hh1:A.in1.handled=none:=hh
  wp_walk using wpAny_typeOf hT,zcL hh1 hr hsmall hn hlen
  intro h' tk acc hk hacc;show wpAny _ _ (Builtin.Tuple.tupleExact acc.toList.toArray >>= λ v=>ret v) _ _ _;unfold Builtin.Tuple.tupleExact;refine wpAny_bind (wpAny_newObj_type ?_ (show acc.toList.toArray.size <= sizeLine by simp only [ycp]; rw [hacc.1,sizeLine_eq]; omega));refine wpAny_pure ⟨_,rfl,?_⟩;have e:acc.toList.toArray=acc:=by simp
  rw [e];exact h h' tk acc hk hacc
section
variable {prog:Program} {w:World} {A:Around} {E:Value -> Shared -> Prop} {s:Shared}
def zdO {Q:Value -> Shared -> Prop} {r:Addr} {a b c:Int} {t u v:Tok} {n:Nat} (hh:A.handled=none) (hr:IsRange s.heap r a b c t u v) (hsmall:Builtin.Range.small a b c=true)
  (hn:Builtin.Range.rangeSize a b c=n) (hlen:n <= 2 ^ 24)
  (h:∀ (h':Heap) (tk:Nat) (acc:Array Value),(∀ b o,s.heap.get? b=some o -> h'.get? b=some o) -> ItemsOf (λ i v=>∃ t,v=.int (a + i * c) t) acc n -> Q (.ref h'.objs.size) { s with heap:=h'.push { cls:=.type "tuple",data:=.seq acc },toks:=tk }) :
  wpAny (model prog w) A (call (.type "tuple") [.ref r]) Q E s:=by
 refine callType_new F.called_tuple (3:) (F.typeCall_tuple_1 _) (F.newCall_tuple_1 _) (λ obj=>ycq obj _) F.entry_tuple_new
  (zch r a b c t u v n hsmall hn hlen) ⟨hh,hr,λ h' tk acc hk hacc=>⟨⟨_,yae _ rfl,rfl⟩,?_⟩⟩
 exact h h' tk acc hk hacc
def zbY {it l:Addr} {i:Nat} {items} {x:Value} {Q:Value -> Shared -> Prop} (hit:s.heap.IsTupleIter it l i)
  (hl:s.heap.IsTuple l items) (hx:items[i]?=some x)
  (hQ:∀ h',h'.IsTupleIter it l (i + 1) -> Heap.SameBut it s.heap h' -> Q x { s with heap:=h' }) :
  wpAny (model prog w) A (Builtin.SmallTypes.nextOf (.ref it)) Q E s:=by
 obtain ⟨o,ho,hc,hd⟩:=id hit;obtain ⟨ol,hol,_,nl,hdl⟩:=hl;unfold Builtin.SmallTypes.nextOf
 refine wpAny_bind (wpAny_callSpecial?_slot (name:=Str.ofString "__next__") hit.typeIs ybu
  (wpAny_call_entry ybu hit.typeIs F.entry_tuple_iterator_next ?_ (F.args_tuple_iterator_next_1 _)))
 show wpAny _ _ (field (.ref it) 0 >>= _) _ _ s;refine wpAny_bind (wpAny_field ho hd (x:=.ref l) rfl ?_);show wpAny _ _ (if (Value.ref l == Value.none)=true then _ else _) _ _ s;rw [if_neg (show ¬ ((Value.ref l == Value.none)=true) from yaq)];show wpAny _ _ (field (.ref it) 1 >>= _) _ _ s;refine wpAny_bind (wpAny_field ho hd (x:=.int i 0) rfl ?_);show wpAny _ _ (seqItems? (.ref l) >>= _) _ _ s;refine wpAny_bind (wpAny_seqItems hol hdl ?_);simp only [yao,hx];refine wpAny_bind (wpAny_setField ho hd (5:) (wpAny_pure ⟨x,rfl,wpAny_pure (hQ _ ?_ (ybr ..))⟩))
 exact ⟨_,ybJ _ ho (ycj (ybx hd _)),(Obj.cls_mapFields ..).trans hc,by
  rw [ybx hd]; simp [rawInt]⟩
def zcc {it l:Addr} {i:Nat} {items} {Q:Value -> Shared -> Prop} (hh:A.handled=none)
  (hit:s.heap.IsTupleIter it l i) (hl:s.heap.IsTuple l items) (hx:items[i]?=none)
  (hE:∀ h' e,Heap.ExtBut it s.heap h' -> (∃ o,h'.get? e=some o /\ o.cls=.type "StopIteration") -> E (.ref e) { s with heap:=h' }) :
  wpAny (model prog w) A (Builtin.SmallTypes.nextOf (.ref it)) Q E s:=by
 obtain ⟨o,ho,hc,hd⟩:=id hit;obtain ⟨ol,hol,_,nl,hdl⟩:=hl;unfold Builtin.SmallTypes.nextOf
 refine wpAny_bind (wpAny_callSpecial?_slot (name:=Str.ofString "__next__") hit.typeIs ybu
  (wpAny_call_entry ybu hit.typeIs F.entry_tuple_iterator_next ?_ (F.args_tuple_iterator_next_1 _)))
 show wpAny _ _ (field (.ref it) 0 >>= _) _ _ s;refine wpAny_bind (wpAny_field ho hd (x:=.ref l) rfl ?_);show wpAny _ _ (if (Value.ref l == Value.none)=true then _ else _) _ _ s;rw [if_neg (show ¬ ((Value.ref l == Value.none)=true) from yaq)];show wpAny _ _ (field (.ref it) 1 >>= _) _ _ s;refine wpAny_bind (wpAny_field ho hd (x:=.int i 0) rfl ?_);show wpAny _ _ (seqItems? (.ref l) >>= _) _ _ s;refine wpAny_bind (wpAny_seqItems hol hdl ?_);simp only [yao,hx];refine wpAny_bind (wpAny_rule (wpAny_bind (wpAny_setField ho hd (5:) ?_)));show wpAny _ _ (newExc (.type "StopIteration") [] >>= _) _ _ _;refine wpAny_bind ?_;simp only [newExc,newTuple];refine wpAny_bind (wpAny_newObj_type ?_ (by size_fits));refine wpAny_bind (m:=firstArgMember _ _) (wpAny_of_eq (a:=Value.none) (81:) ?_);refine wpAny_newObj_type ?_ (by size_fits);simp only [raiseNew];refine wpAny_bind (wpAny_handled ?_)
 first | rw [show A.in1.handled=none from hh] | rw [hh]
 refine wpAny_bind (wpAny_pure (wpAny_throw ?_));exact hE _ _ (((ybr ..).extBut.push _).push _) ⟨_,yae _ rfl,rfl⟩
end
def Draws.tuple {prog:Program} {w:World} {A:Around} (hh:A.handled=none) (it l:Addr) (hne:l ≠ it) (items:Array Value) :
  Draws prog w A it [it,l] items.size (λ i v=>items[i]?=some v) (λ i h=>h.IsTupleIter it l i /\ h.IsTuple l items) where
 live:=λ _ _ st=>let ⟨o,ho,_⟩:=st.1; ⟨o,ho⟩
 frame:=λ _ _ _ st hk=>⟨st.1.at λ o e=>hk it (5:) o e,st.2.at λ o e=>hk l (5:) o e⟩
 item:=λ i s Q E hi st hQ=>by
  refine zbY st.1 st.2 (x:=items[i]) (by simp [hi]) λ h' hit' hs'=>?_;exact hQ _ h' s.toks (by simp [hi]) ⟨hit',st.2.at λ o e=>hs'.extBut _ o hne e⟩ hs'
 done:=λ s Q E st hE=>zcc hh st.1 st.2 (5:) hE
def zcB (l:Addr) (items:Array Value) (n:Nat) (dct:Option Addr) (sl:Array (Option Value)) :
  Meets (Builtin.«enumerate.__new__» ⟨[.type "enumerate",.ref l],[]⟩) (λ _ R s=>s.heap.get? l=some { cls:=.type "tuple",dict:=dct,data:=.seq items n,slots:=sl } /\
   R (.ok (.ret (.ref (s.heap.push { cls:=.type "tuple_iterator",data:=.fields #[.ref l,.int 0 0] }).objs.size)))
    { s with heap:=(s.heap.push { cls:=.type "tuple_iterator",data:=.fields #[.ref l,.int 0 0] }).push { cls:=.type "enumerate",data:=.fields #[.none,.bool false,.ref s.heap.objs.size,rawInt 0,.none,.none] } }):=
 .of_wp λ prog w A R s h=>by
  obtain ⟨hp,g,d,tk,os⟩:=s; obtain ⟨hl,h⟩:=h;have hsub:=sub_enumerate;have hL:Heap.IsTuple (Shared.heap ⟨hp,g,d,tk,os⟩) l items:=⟨_,hl,rfl,n,rfl⟩
  wp_walk using wpAny_loadPart' hl
  refine wpAny_stack_any λ st=>wpAny_pure ?_
  split
  ·rename_i c _ _ _ _ _;cases (c == Value.type "enumerate")
   ·wp_walk using wpAny_loadPart' hl, wpAny_pyIter_tuple hL
    exact ⟨_,rfl,h⟩
   ·wp_walk using wpAny_loadPart' hl, wpAny_pyIter_tuple hL
    exact ⟨_,rfl,h⟩
  ·wp_walk using wpAny_loadPart' hl, wpAny_pyIter_tuple hL
   exact ⟨_,rfl,h⟩
section
variable {prog:Program} {w:World} {A:Around} {E:Value -> Shared -> Prop} {s:Shared}
def zcE {l:Addr} {items:Array Value} {Q:Value -> Shared -> Prop} (hL:s.heap.IsTuple l items)
    (h:∀ h',IsEnum h' (s.heap.objs.size + 1) s.heap.objs.size 0 .none -> h'.IsTupleIter s.heap.objs.size l 0 -> h'.objs.size=s.heap.objs.size + 2 ->
      (∀ b o,s.heap.get? b=some o -> h'.get? b=some o) -> Q (.ref (s.heap.objs.size + 1)) { s with heap:=h' }) :
    wpAny (model prog w) A (call (.type "enumerate") [.ref l]) Q E s:=by
  obtain ⟨⟨c,dct,dt,sl⟩,hl,hc,n,hd⟩:=hL
  replace hc:c=.type "tuple":=hc
  replace hd:dt=.seq items n:=hd
  subst hc hd
  refine callType_new F.called_enumerate (3:) (F.typeCall_enumerate_1 _) (F.newCall_enumerate_1 _) (λ obj=>ycq obj _) F.entry_enumerate_new
    (zcB l items n dct sl) ⟨hl,?_⟩
  have hz:(s.heap.push { cls:=.type "tuple_iterator",data:=.fields #[.ref l,.int 0 0] }).objs.size=s.heap.objs.size + 1:=yba ..;show _ /\ _;rw [hz]
  have he:IsEnum ((s.heap.push { cls:=.type "tuple_iterator",data:=.fields #[.ref l,.int 0 0] }).push
      { cls:=.type "enumerate",data:=.fields #[.none,.bool false,.ref s.heap.objs.size,rawInt 0,.none,.none] }) (s.heap.objs.size + 1) s.heap.objs.size 0 .none:=by
    have:=yae (s.heap.push { cls:=.type "tuple_iterator",data:=.fields #[.ref l,.int 0 0] })
      (o:={ cls:=.type "enumerate",data:=.fields #[.none,.bool false,.ref s.heap.objs.size,rawInt 0,.none,.none] }) rfl
    rw [hz] at this; exact this
  refine ⟨⟨_,he,rfl⟩,h _ he ⟨_,yab _ (yae _ rfl),rfl,rfl⟩ (by rw [yba,hz]) λ b o x=>yab _ (yab _ x)⟩
end
end PySem
namespace L2
open PySem PySem.Spec PyProof.Rows
section
variable {X:Cx} {K:PySem.W.Frag} {a:Expr} {ta:TA} {p p2 pos pos2:Pos}
def zgE {acc:Array Value} {n:Nat} (h:ItemsOf (λ i v=>∃ t,v=Value.int ((0:Int) + i * 1) t) acc n):Vals ((List.range n).map λ (x:Nat)=>V.int (x:Int)) acc.toList:=by
 obtain ⟨h1,h2⟩:=h
 have key:∀ (k:Nat) (l:List Value) (j:Nat),l.length=k -> (∀ i v,l[i]?=some v -> ∃ t,v=Value.int ((j + i:Nat):Int) t) -> Vals ((List.range' j k).map λ (x:Nat)=>V.int (x:Int)) l:=by
  intro k
  induction k with
  | zero=>
   intro l j hl _;cases l with
   | nil=>exact .nil
   | cons _ _=>simp at hl
  | succ k ih=>
   intro l j hl hv;cases l with
   | nil=>simp at hl
   | cons x r=>
    rw [List.range'_succ,yaI];refine .cons (hv 0 x rfl) (ih r (j + 1) (62:) λ i v e=>?_);obtain ⟨t,q⟩:=hv (i + 1) v (58:);exact ⟨t,by rw [q]; congr 1; omega⟩
 rw [List.range_eq_range'];refine key n acc.toList 0 (by simpa using h1) λ i v e=>?_;obtain ⟨t,q⟩:=h2 i v (58:);exact ⟨t,by rw [q]; congr 1; omega⟩
noncomputable def zjQ (ta:TA):TE:=λ σ H Q=>ta σ H λ vs H1=>∃ n:Nat,vs=[.int n] /\ n <= 1000000 /\ ∀ l,H1 l=none -> Q (.ref l) (upd H1 l (.tup ((List.range n).map λ (x:Nat)=>V.int (x:Int))))
def zlB {n:Nat} (h:n <= 1000000):Builtin.Range.small 0 (n:Int) 1=true:=small_one (1:) (1:) (1:) (1:)
def zmm {n:Nat}:Builtin.Range.rangeSize 0 (n:Int) 1=(n:Nat):=by
 rw [rangeSize_one]; split <;> omega
def zaX (hc:X.calm=true) (hml:X.mg "tuple"=none) (hmr:X.mg "range"=none) (ha:PA X [a] ta) (hgl:Gl X "tuple":=by rfl) (hgr:Gl X "range":=by rfl) (hK:X.K=K:=by rfl)
  (hs:starEach [a] X.env=[(false,eval a X.env)]:=by rfl)
  (hs1:starEach [(.Call (.Name "range" p) [a] [] pos:Expr)] X.env=[(false,eval (.Call (.Name "range" p) [a] [] pos) X.env)]:=by rfl) :
  PE X (.Call (.Name "tuple" p2) [.Call (.Name "range" p) [a] [] pos] [] pos2) (zjQ ta):=by
 intro pins s σ H Q I h;refine wpAny_Call_Name_kw (zcg I hgl hml boot_tuple ?_);refine yaJ ?_ hs1 rfl;rw [hs1];show wpAny _ _ (spliced ((false,eval (.Call (.Name "range" p) [a] [] pos) X.env) :: backTo pos2 [])) _ _ s;refine yb4 ?_;refine Call_ (zcg I hgr hmr boot_range (yaJ (thn (ha pos pins s σ H _ I h) λ us s1 ⟨vs,H1,I1,r1,q1⟩=>?_) hs rfl));obtain ⟨n,e,hn,q⟩:=q1;subst e;cases r1 with
 | cons r rr=>
  cases rr;obtain ⟨t,rfl⟩:=r;refine call_range_1 ?_;have I2:Inv X pins σ H1 { s1 with heap:=s1.heap.push { cls:=.type "range",data:=.fields #[.int 0 s1.toks,.int n t,.int 1 (s1.toks + 1)] },toks:=s1.toks + 1 + 1 }:=I1.kept λ b o e=>yab _ e;refine ycd ?_;refine zdO (I.ok.hd hc) (IsRange.new ..) (zlB hn) zmm (1:) λ h' tk acc' hk hacc=>?_;have rv:=zgE hacc;have I3:Inv X pins σ H1 { s1 with heap:=h',toks:=tk }:=I2.kept (h':=h') (t':=tk) hk;exact ⟨.ref _,_,I3.laid (t':=tk) (o:=.tup _) (λ b o e=>yab _ e) (yag _) ⟨by rw [yac,ya6,sizeLine_eq]; omega,_,rv,by simpa using za5.new _ _⟩,rfl,q _ (I3.hok.fresh (yag _))⟩
end
section
variable {σ:St} {H:Hp} {Q:VK}
def zj5 {t:TA} (h:t σ H λ vs H1=>∃ n:Nat,vs=[.int n] /\ n <= 1000000 /\ ∀ l,H1 l=none -> Q (.ref l) (upd H1 l (.tup ((List.range n).map λ (x:Nat)=>V.int (x:Int))))):zjQ t σ H Q:=h
end
noncomputable def IteL (K:PySem.W.Frag) (a:Addr) (xs:List V):It:=
 ⟨λ i H=>i < xs.length /\ SqL K H a xs,λ i H x H'=>∃ T u,x=.ref T /\ H T=none /\ H'=upd H T (.tup [.int (i:Int),u]) /\ xs[i]?=some u,λ i H=>i=xs.length /\ SqL K H a xs⟩
def zij {P:Program} {w:World} {K:PySem.W.Frag} {elts:List Expr} {kk:Nat} {tpos:Pos} (a e it:Addr) (hei:e ≠ it) (hae:a ≠ e) (hai:a ≠ it) (xs:List V) :
  Turn P w K (.Tuple elts kk tpos) (IteL K a xs) [e,it] e (λ i h=>(∃ old,IsEnum h e it i old) /\ h.IsListIter it a i):=by
 refine ⟨by simp,?_,?_,?_,?_,?_⟩
 ·rintro i h ⟨⟨old, he⟩, h1⟩ c hc;simp only [yal, yaH, or_false] at hc;rcases hc with rfl | rfl
  ·exact ⟨_,he,λ v q=>nomatch q⟩
  ·obtain ⟨o,e,c,d⟩:=h1; exact ⟨o,e,λ v q=>by rw [d] at q; cases q⟩
 ·rintro i h h' ⟨⟨old,he⟩,h1⟩ k;exact ⟨⟨old,k e (5:) _ he⟩,h1.at λ o q=>k it (5:) o q⟩
 ·intro X hP hw hK hc i pins s σ H E I hf st hg;subst hP hw hK;obtain ⟨hi, hqa⟩ := hg;obtain ⟨he, h1⟩ := st;obtain ⟨ia, ra, pa, za⟩ := I.list hqa;have la := ra.length;have W := WalksT.enumerate (prog := X.prog) (w := X.w) (A := X.A) (I.ok.hd hc) e it a hei hae hai ia.toArray;refine zid (items := ia.toArray) hei hae hai (by simpa [<- la] using hi) ⟨he, h1, pa.isList⟩ fun T vals h' tk hP hfr hT hm hk => ?_;obtain ⟨t, u, eu, rfl⟩ := hP;refine ⟨_, rfl, W.go elts kk tpos i T _ _ _ hm fun h2 st2 hk2 => ?_⟩;have eu' : ia[i]? = some u := by simpa using eu
  obtain ⟨u',hu',ru⟩:=ra.get (yaa hi);rw [eu'] at hu'; cases hu';have hTw:T ∉ [e,it]:=W.apart i T _ hm
  have hT2:za5 h2 T [Value.int (i:Int) t,u].toArray:=by
   obtain ⟨o,e,c,n,d⟩:=hT;exact ⟨o,hk2 T o hTw e,c,n,d⟩
  refine ⟨.ref T,upd H T (.tup [.int (i:Int),xs[i]]),I.turnTup (ch:=[e,it]) (t':=tk) (λ c hc=>hf c hc) (λ c o hc q=>hk2 c o hc (hk c o hc q)) hfr hT2 (.cons ⟨t,rfl⟩ (.cons ru .nil)) (76:),rfl,
   ⟨T,_,rfl,I.hok.fresh hfr,rfl,yaa hi⟩,⟨st2.1,st2.2.1⟩,λ c hc=>?_⟩
  have hcl:c < s.heap.objs.size:=by
   simp only [yal,yaH,or_false] at hc;obtain ⟨old,he⟩:=he;rcases hc with rfl | rfl
   ·exact yad he
   ·obtain ⟨o,e,_⟩:=h1; exact yad e
  rw [zak (yau (yaj hcl hfr))];exact (hf c hc).1
 ·intro X hP hw hK hc i pins s σ H E I hf st hg;subst hP hw hK;obtain ⟨hi, hqa⟩ := hg;obtain ⟨he, h1⟩ := st;obtain ⟨ia, ra, pa, za⟩ := I.list hqa;have la := ra.length;have W := WalksT.enumerate (prog := X.prog) (w := X.w) (A := X.A) (I.ok.hd hc) e it a hei hae hai ia.toArray;have hi' : i = ia.toArray.size := by simpa [<- la] using hi
  refine W.done s _ _ (hi' ▸ ⟨he,h1,pa.isList⟩) λ h' tk hk=>⟨rfl,I.turnL (ch:=[e,it]) (λ c hc=>hf c hc) hk⟩
 ·rintro A i s Q E ⟨⟨old,he⟩,_⟩ h;exact wpAny_pyIter_enum he h
noncomputable def IteT (K:PySem.W.Frag) (a:Addr) (xs:List V):It:=
 ⟨λ i H=>i < xs.length /\ SqT K H a xs,λ i H x H'=>∃ T u,x=.ref T /\ H T=none /\ H'=upd H T (.tup [.int (i:Int),u]) /\ xs[i]?=some u,λ i H=>i=xs.length /\ SqT K H a xs⟩
def zih {P:Program} {w:World} {K:PySem.W.Frag} {elts:List Expr} {kk:Nat} {tpos:Pos} (a e it:Addr) (hei:e ≠ it) (hae:a ≠ e) (hai:a ≠ it) (xs:List V) :
  Turn P w K (.Tuple elts kk tpos) (IteT K a xs) [e,it] e (λ i h=>(∃ old,IsEnum h e it i old) /\ h.IsTupleIter it a i):=by
 refine ⟨by simp,?_,?_,?_,?_,?_⟩
 ·rintro i h ⟨⟨old, he⟩, h1⟩ c hc;simp only [yal, yaH, or_false] at hc;rcases hc with rfl | rfl
  ·exact ⟨_,he,λ v q=>nomatch q⟩
  ·obtain ⟨o,e,c,d⟩:=h1; exact ⟨o,e,λ v q=>by rw [d] at q; cases q⟩
 ·rintro i h h' ⟨⟨old,he⟩,h1⟩ k;exact ⟨⟨old,k e (5:) _ he⟩,h1.at λ o q=>k it (5:) o q⟩
 ·intro X hP hw hK hc i pins s σ H E I hf st hg;subst hP hw hK;obtain ⟨hi, hqa⟩ := hg;obtain ⟨he, h1⟩ := st;obtain ⟨ia, ra, pa, za⟩ := I.tuple hqa;have la := ra.length;have W := WalksT.enumerateD (prog := X.prog) (w := X.w) (A := X.A) (Draws.tuple (A := X.A.in1) (I.ok.hd hc) it a hai ia.toArray) e hei (fun z => (yal.mp z).elim (fun q => hei q) (fun q => hae (yaz.mp q).symm)) (5:);refine zgK (Draws.tuple (A := X.A.in1) (I.ok.hd hc) it a hai ia.toArray) hei (fun z => (yal.mp z).elim (fun q => hei q) (fun q => hae (yaz.mp q).symm)) (by simpa [<- la] using hi) ⟨he, h1, (show s.heap.IsTuple a ia.toArray from pa)⟩ fun T vals h' tk hP hfr hT hm hk => ?_;obtain ⟨t, u, eu, rfl⟩ := hP;refine ⟨_, rfl, W.go elts kk tpos i T _ _ _ hm fun h2 st2 hk2 => ?_⟩;have eu' : ia[i]? = some u := by simpa using eu
  obtain ⟨u',hu',ru⟩:=ra.get (yaa hi);rw [eu'] at hu'; cases hu';have hTw:T ∉ [e,it]:=W.apart i T _ hm
  have hT2:za5 h2 T [Value.int (i:Int) t,u].toArray:=by
   obtain ⟨o,e,c,n,d⟩:=hT;exact ⟨o,hk2 T o hTw e,c,n,d⟩
  refine ⟨.ref T,upd H T (.tup [.int (i:Int),xs[i]]),I.turnTup (ch:=[e,it]) (t':=tk) (λ c hc=>hf c hc) (λ c o hc q=>hk2 c o hc (hk c o hc q)) hfr hT2 (.cons ⟨t,rfl⟩ (.cons ru .nil)) (76:),rfl,
   ⟨T,_,rfl,I.hok.fresh hfr,rfl,yaa hi⟩,⟨st2.1,st2.2.1⟩,λ c hc=>?_⟩
  have hcl:c < s.heap.objs.size:=by
   simp only [yal,yaH,or_false] at hc;obtain ⟨old,he⟩:=he;rcases hc with rfl | rfl
   ·exact yad he
   ·obtain ⟨o,e,_⟩:=h1; exact yad e
  rw [zak (yau (yaj hcl hfr))];exact (hf c hc).1
 ·intro X hP hw hK hc i pins s σ H E I hf st hg;subst hP hw hK;obtain ⟨hi, hqa⟩ := hg;obtain ⟨he, h1⟩ := st;obtain ⟨ia, ra, pa, za⟩ := I.tuple hqa;have la := ra.length;have W := WalksT.enumerateD (prog := X.prog) (w := X.w) (A := X.A) (Draws.tuple (A := X.A.in1) (I.ok.hd hc) it a hai ia.toArray) e hei (fun z => (yal.mp z).elim (fun q => hei q) (fun q => hae (yaz.mp q).symm)) (5:);have hi' : i = ia.toArray.size := by simpa [<- la] using hi
  refine W.done s _ _ (hi' ▸ ⟨he,h1,(show s.heap.IsTuple a ia.toArray from pa)⟩) λ h' tk hk=>⟨rfl,I.turnL (ch:=[e,it]) (λ c hc=>hf c hc) hk⟩
 ·rintro A i s Q E ⟨⟨old,he⟩,_⟩ h;exact wpAny_pyIter_enum he h
noncomputable def zmL (K:PySem.W.Frag) (ta:TA):TI:=λ σ H R=>ta σ H λ vs H1=>∃ a xs,vs=[.ref a] /\ ((SqL K H1 a xs /\ R (IteL K a xs) H1) \/ (SqT K H1 a xs /\ R (IteT K a xs) H1))
def zim {X:Cx} {K:PySem.W.Frag} {elts:List Expr} {kk:Nat} {tpos:Pos} {a:Expr} {ta:TA} {p pos:Pos} (hm:X.mg "enumerate"=none) (ha:PA X [a] ta) (hg:Gl X "enumerate":=by rfl) (hs:starEach [a] X.env=[(false,eval a X.env)]:=by rfl) (hK:X.K=K:=by rfl) :
  PI X (.Tuple elts kk tpos) (.Call (.Name "enumerate" p) [a] [] pos) (zmL K ta):=by
 subst hK;intro pins s σ H R I h;refine Call_ (zcg I hg hm boot_enumerate (yaJ (thn (ha pos pins s σ H _ I h) λ us s1 ⟨vs,H1,I1,r1,q1⟩=>?_) hs rfl));obtain ⟨a,xs,e,q⟩:=q1;subst e;cases r1 with
 | cons r rr=>
  cases rr;cases r
  have fpo:∀ c ∈ [s1.heap.objs.size + 1,s1.heap.objs.size],FpOk X pins H1 c:=λ c hc=>by
   have hc':s1.heap.objs.size <= c:=by
    simp only [yal,yaH,or_false] at hc;show @LE.le Nat _ s1.heap.objs.size c;rcases hc with z | z <;> (have z':@Eq Nat c _:=z; omega)
   exact I1.fpOk hc' (I1.hok.fresh hc')
  rcases q with ⟨hqa,q⟩ | ⟨hqa,q⟩
  ·obtain ⟨ia, ra, pa, za⟩ := I1.list hqa;have al : @LT.lt Nat _ a s1.heap.objs.size := by obtain ⟨o, n, e, _⟩ := pa; exact yad e
   refine call_enumerate_list pa.isList λ h' he h1 hsz hk=>?_;have I2:Inv X pins σ H1 { s1 with heap:=h' }:=I1.kept (t':=s1.toks) hk;refine wpAny_pyIter_enum he ?_;exact ⟨s1.heap.objs.size + 1,[s1.heap.objs.size + 1,s1.heap.objs.size],_,_,H1,rfl,I2,zij a _ _ (59:) (59:) (59:) xs,⟨⟨_,he⟩,h1⟩,fpo,q⟩
  ·obtain ⟨ia, ra, pa, za⟩ := I1.tuple hqa;have al : @LT.lt Nat _ a s1.heap.objs.size := by obtain ⟨o, e, _⟩ := pa; exact yad e
   refine zcE (show s1.heap.IsTuple a ia.toArray from pa) λ h' he h1 hsz hk=>?_;have I2:Inv X pins σ H1 { s1 with heap:=h' }:=I1.kept (t':=s1.toks) hk;refine wpAny_pyIter_enum he ?_;exact ⟨s1.heap.objs.size + 1,[s1.heap.objs.size + 1,s1.heap.objs.size],_,_,H1,rfl,I2,zih a _ _ (59:) (59:) (59:) xs,⟨⟨_,he⟩,h1⟩,fpo,q⟩
def znw {σ:St} {H:Hp} {K:PySem.W.Frag} {t:TA} {R:It -> Hp -> Prop} (h:t σ H λ vs H1=>∃ a xs,vs=[.ref a] /\ ((SqL K H1 a xs /\ R (IteL K a xs) H1) \/ (SqT K H1 a xs /\ R (IteT K a xs) H1))):zmL K t σ H R:=h
end L2
namespace PySem
section
variable {prog:Program} {w:World} {A:Around} {E:Value -> Shared -> Prop} {s:Shared}
end
end PySem
namespace L2
open PySem PySem.Spec PyProof.Rows
def zjF {K:PySem.W.Frag} {a:Addr} {xs:List V} {src:List (Option Nat)} {σ:St} {g:TG} {tc:TT} {te:TE} {Q:VK} {H:Hp} (hA:SqT K H a xs)
  (h:zcb (Itt K a) src σ g tc te Q H):∃ b,V.ref a=.ref b /\ (((∃ xs,SqL K H b xs) /\ zcb (Itl K b) src σ g tc te Q H) \/ ((∃ xs,SqT K H b xs) /\ zcb (Itt K b) src σ g tc te Q H)):=⟨a,rfl,.inr ⟨⟨xs,hA⟩,h⟩⟩
end L2
namespace PySem
open Sem (wp)
open Builtin
def zdo:fillsNumberSlot (.type "tuple") "mul"=pure false:=
 fillsNumberSlot_seq (id:="tuple.__mul__") (r:=some (.builtin "tuple.__rmul__")) ycn.lookup (28:) F.slot_tuple_rmul.lookup (28:)
def zfe:seqRepeat? (.type "tuple")=pure (some (.builtin "tuple.__mul__")):=by
 unfold seqRepeat?;rw [seqSlot_of (T:="tuple") (name:="__mul__") (id:="tuple.__mul__") ycn.lookup (28:),seqSlot_of (T:="tuple") (name:="__rmul__") (id:="tuple.__rmul__") F.slot_tuple_rmul.lookup (28:)];rfl
def zeu (a:Int) (t:Tok) (l:Addr) (items:Array Value) (n:Nat) {dd} {sl} :
  Meets (Builtin.«int.__rmul__» ⟨[.int a t,.ref l],[]⟩) (λ _ R s=>s.heap.get? l=some { cls:=.type "tuple",dict:=dd,data:=.seq items n,slots:=sl } /\ R (.ok (.ret Value.notImplemented)) s):=
 .of_wp λ prog w A R s h=>by obtain ⟨hp,g,d,tk,os⟩:=s; obtain ⟨hl,h⟩:=h; wp_walk; exact ⟨_,rfl,h⟩
def zgy (l:Addr) (items:Array Value) (n:Nat) (x:Int) (u:Tok) {dd} {sl} (h0:items.isEmpty=false) (h1:1 < x) (h2:x < 2 ^ 63) (hz:items.size * x.toNat <= sizeLine) :
  Meets (Builtin.«tuple.__mul__» ⟨[.ref l,.int x u],[]⟩) (λ _ R s=>s.heap.get? l=some { cls:=.type "tuple",dict:=dd,data:=.seq items n,slots:=sl } /\ R (.ok (.ret (Value.ref s.heap.objs.size))) { s with heap:=s.heap.push { cls:=Value.type "tuple",data:=Data.seq (List.foldl (λ x1 x2=>x1 ++ x2) #[] (List.replicate x.toNat items)) },toks:=s.toks }):=
 .of_wp λ prog w A R s h=>by
  obtain ⟨hp,g,d,tk,os⟩:=s; obtain ⟨hl,h⟩:=h
  have hm:(items.size:Int) * x=((items.size * x.toNat:Nat):Int):=by
   rw [Int.natCast_mul,ybW (1:)]
  have hcap:(sizeLine:Nat) <= (2 ^ 63 - 1) / 8:=by decide
  have hc0:¬(decide (x < -2 ^ 63) || decide (x >= 2 ^ 63))=true:=by
   rw [decide_eq_false (1:),decide_eq_false (1:)]; decide
  have hc1:¬(items.isEmpty || x == 1)=true:=by
   rw [h0,beq_eq_false_iff_ne.mpr (1:)]; decide
  have hc2:¬(decide (x <= 0) || items.isEmpty)=true:=by
   rw [h0,decide_eq_false (1:)]; decide
  have hc3:¬ (items.size:Int) * x > (2 ^ 63 - 1) / 8:=by
   rw [hm]; omega
  have hc4:¬ Builtin.Tuple.tupleTooMany ((items.size:Int) * x)=true:=by
   rw [hm];unfold Builtin.Tuple.tupleTooMany;rw [decide_eq_false (1:)];decide
  wp_walk
  rw [if_neg hc0]
  wp_walk using wpAny_loadPart' hl
  rw [if_neg hc1]
  wp_walk
  rw [if_neg hc2]
  wp_walk
  rw [if_neg hc3]
  wp_walk
  rw [if_neg hc4]
  wp_walk
  rw [if_neg (by
   have e:=ycz items.size x.toNat;rw [AutoListH.size_joined]; simp only [Array.size_empty]; omega)]
  wp_walk
  exact ⟨_,rfl,h⟩
def zgP (l:Addr) (items:Array Value) (n:Nat) (u:Tok) {dd} {sl} :
  Meets (Builtin.«tuple.__mul__» ⟨[.ref l,.int 1 u],[]⟩) (λ _ R s=>s.heap.get? l=some { cls:=.type "tuple",dict:=dd,data:=.seq items n,slots:=sl } /\ R (.ok (.ret (Value.ref l))) s):=
 .of_wp λ prog w A R s h=>by
  obtain ⟨hp,g,d,tk,os⟩:=s; obtain ⟨hl,h⟩:=h
  wp_walk
  exact ⟨_,rfl,h⟩
end PySem
namespace L2
open PySem PySem.Spec PyProof.Rows
section
variable {X:Cx}
noncomputable def zmi (K:PySem.W.Frag):R2:=λ x y H Q=>∃ a k xs,x=.ref a /\ y=.int k /\ SqT K H a xs /\ 1 <= k /\ k < 2 ^ 63 /\ xs ≠ [] /\ xs.length * k.toNat <= sizeLine /\
 (k=1 -> Q (.ref a) H) /\ (k ≠ 1 -> ∀ p,H p=none -> Q (.ref p) (upd H p (.tup (List.replicate k.toNat xs).flatten)))
def zl9:OpR X (binaryOp .Mult) (zmi X.K):=by
 intro pins s σ H x y v u Q I rx ry h;obtain ⟨a,k,xs,rfl,rfl,ha,h1,h2,hx,hz,q1,q2⟩:=h;cases rx;obtain ⟨t,rfl⟩:=ry;obtain ⟨its,r,p1,_⟩:=I.tuple ha;obtain ⟨⟨cls,dd,data,sl⟩,ho,hc,n,hd⟩:=id p1;simp only at hc hd;subst hc hd
 refine wpAny_binaryOp_repeat_ref (T:="tuple") (U:="int") (3:) ⟨_,ho,rfl⟩ (λ s'=>typeIs_int s' k t) zdo F.fills_int_mul ycv zfe F.slot_int_index.lookup
  (call_meets ycv (typeIs_int s k t) F.entry_int_rmul (F.args_int_rmul_2 _ _) (zeu k t a its.toArray n) ⟨ho,rfl,⟨_,ho,rfl⟩,?_⟩)
 by_cases e:k=1
 ·subst e;exact call_meets ycn ⟨_,ho,rfl⟩ F.entry_tuple_mul (F.args_tuple_mul_2 _ _) (zgP a its.toArray n t) ⟨ho,.ref a,H,I,rfl,q1 rfl⟩
 ·refine call_meets ycn ⟨_, ho, rfl⟩ F.entry_tuple_mul (F.args_tuple_mul_2 _ _) (zgy a its.toArray n k t ?_ (1:) h2 (by rw [yak, <- r.length]; exact hz)) ⟨ho, ?_⟩
  ·cases its with
   | nil=>exact absurd (r.nil_iff.mp rfl) hx
   | cons _ _=>rfl
  ·have f0:List.foldl (λ x1 x2=>x1 ++ x2) #[] (List.replicate k.toNat its.toArray)=(List.replicate k.toNat its).flatten.toArray:=by
    have:=zem its k.toNat [];rw [List.nil_append] at this;exact this
   rw [f0];refine ⟨.ref s.heap.objs.size,_,I.laid (t':=s.toks) (o:=.tup (List.replicate k.toNat xs).flatten) (λ b ob q=>yab _ q) (yag _) ?_,rfl,q2 e _ (I.hok.fresh (yag _))⟩;exact ⟨by rw [zji,ycz]; exact hz,_,r.rep k.toNat,za5.new _ _⟩
noncomputable def zlQ (K:PySem.W.Frag):R2:=λ x y H Q=>zmB x y H Q \/ zmi K x y H Q
def zfp {K:PySem.W.Frag} (hK:X.K=K:=by rfl):OpR X (binaryOp .Mult) (zlQ K):=hK ▸ zlR.or zl9
end
def zkj {K:PySem.W.Frag} {i j:Int} {H:Hp} {Q:VK} (c:CMul i j) (h:Q (.int (i * j)) H):zlQ K (.int i) (.int j) H Q:=.inl (.inl ⟨i,j,rfl,rfl,c,h⟩)
open PySem.W
section
variable {prog:Program} {w:World} {A:Around} {E:Value -> Shared -> Prop} {s:Shared} {t:Addr}
end
section
variable {X:Cx}
def zdk:∀ {ns:List Int} {us:List Value},Vals (ns.map V.int) us -> IntsAre us ns
 | [],_,.nil=>.nil
 | n :: ns,_,.cons r t=>by
  obtain ⟨k,rfl⟩:=r;exact .cons n k (zdk t)
end
end L2
namespace L2
open PySem PySem.Spec PyProof.Rows
section
variable {X:Cx} {pos:Pos}
end
def znt {i j:Nat} {ta:TA} {D:Ends} {σ:St} {H:Hp} (h:ta σ H λ vs H1=>∃ v w,vs=[v,w] /\ D.nx ((σ.set i (some v)).set j (some w)) H1):tPar i j ta D σ H:=h
def zoD {u v:V} {P:V -> V -> Prop} (h:P u v):∃ u' v',[u,v]=[u',v'] /\ P u' v':=⟨u,v,rfl,h⟩
def zfw {K:PySem.W.Frag} {a b:Str} {H:Hp} {Q:VK} (ha:shpd (.str a)=true) (hb:shpd (.str b)=true) (h:Q (.bl (a == b)) H):rEqU K (.str a) (.str b) H Q:=⟨.str a,.str b,.str K H a,.str K H b,ha,hb,h⟩
end L2
namespace Bm
def zeh (n k:Nat):(n / 2 ^ k) &&& 1=(n.testBit k).toNat:=by
 rw [Nat.and_one_is_mod,Nat.testBit_eq_decide_div_mod_eq];have h:n / 2 ^ k % 2 < 2:=ycf _ (3:);by_cases e:n / 2 ^ k % 2=1
 ·simp [e]
 ·have : n / 2 ^ k % 2 = 0 := by omega
  simp [this]
noncomputable def zog (ps:List Nat):Nat:=ps.foldl (λ m p=>m ||| 2 ^ p) 0
noncomputable def bitsB (n w:Nat):List Bool:=(List.range w).map n.testBit
noncomputable def zcd (n:Nat):Nat:=if n=0 then 0 else n.log2 + 1
def zjA (n:Nat):n < 2 ^ zcd n:=by
 unfold zcd
 split
 ·rename_i h; subst h; decide
 ·exact Nat.lt_log2_self
def zgn {n w:Nat} (h:n < 2 ^ w):zcd n <= w:=by
 unfold zcd
 split
 ·exact yaQ _
 ·rename_i h0;exact (Nat.log2_lt h0).mpr h
def zc0 {n k:Nat} (h:zcd n <= k):n.testBit k=false:=
 Nat.testBit_lt_two_pow (yaj (zjA n) (yaS (3:) h))
noncomputable def zae (n:Nat):List Nat:=(List.range (zcd n)).filter n.testBit
def zdS {p:Nat -> Bool} {a b:Nat} (h:a <= b) (hp:∀ i,a <= i -> p i=false):(List.range b).filter p=(List.range a).filter p:=by
  induction b with
  | zero => have : a = 0 := by omega
            subst this; rfl
  | succ b ih=>
    by_cases e:a=b + 1
    · subst e; rfl
    · rw [yaO,yaN,ih (1:)];simp [hp b (1:)]
def zay {n w:Nat} (h:n < 2 ^ w):zae n=(List.range w).filter n.testBit:=by
 unfold zae;exact (zdS (zgn h) λ i hi=>zc0 hi).symm
def zbp {n k:Nat}:k ∈ zae n ↔ n.testBit k=true:=by
 unfold zae;rw [yct,ybm];constructor
 ·exact λ h=>h.2
 ·intro h;refine ⟨?_, h⟩;by_cases hk : k < zcd n
  ·exact hk
  ·rw [zc0 (1:)] at h; cases h
end Bm
namespace L2
open PySem PySem.Spec PyProof.Rows Bm
noncomputable abbrev nV (n:Nat):V:=V.int (n:Int)
noncomputable def SqA (K:PySem.W.Frag) (H:Hp) (a:Addr) (xs:List V):Prop:=SqL K H a xs \/ SqT K H a xs
def zbT (a b:Nat):Builtin.bitAnd (a:Int) (b:Int)=((a &&& b:Nat):Int):=by
 simp [Builtin.bitAnd]
def zeJ (a:Nat):Builtin.bitNot (a:Int)=-((a:Int) + 1):=by
 simp [Builtin.bitNot]; omega
def zgb (a b:Nat):Builtin.bitOr (a:Int) (b:Int)=((a ||| b:Nat):Int):=by
 have h1:decide (0 <= Builtin.bitNot (a:Int))=false:=by rw [zeJ]; apply decide_eq_false; omega
 have h2:decide (0 <= Builtin.bitNot (b:Int))=false:=by rw [zeJ]; apply decide_eq_false; omega
 have n1:(Builtin.bitNot (Builtin.bitNot (a:Int))).toNat=a:=by simp [Builtin.bitNot]; omega
 have n2:(Builtin.bitNot (Builtin.bitNot (b:Int))).toNat=b:=by simp [Builtin.bitNot]; omega
 unfold Builtin.bitOr Builtin.bitAnd;rw [h1,h2];dsimp only;rw [n1,n2];simp [Builtin.bitNot];omega
def zg2 (n:Nat):Builtin.Int.intBits (n:Int)=zcd n:=by
 unfold Builtin.Int.intBits zcd;by_cases h:n=0
 ·subst h; rfl
 ·have:((n:Int) == 0)=false:=by
   apply beq_eq_false_iff_ne.mpr;omega
  rw [this,if_neg h];simp
def modN {n:Nat} (x:Int) (h:0 < n):∃ r:Nat,r < n /\ x % (n:Int)=(r:Int):=by
 have h1:=Int.emod_nonneg x (show (n:Int) ≠ 0 by omega);have h2:=Int.emod_lt_of_pos x (show (0:Int) < n by omega);exact ⟨(x % (n:Int)).toNat,by omega,by omega⟩
def zbc {α β:Type} {f:α -> β} {xs:List α} {i:Nat} {y:β} (h:(xs.map f)[i]?=some y):∃ x,xs[i]?=some x /\ y=f x:=by
 rw [yai] at h;cases e:xs[i]? with
 | none=>rw [e] at h; cases h
 | some x=>rw [e] at h; cases h; exact ⟨x,rfl,rfl⟩
def zcX (n k:Nat):Builtin.bitAnd ((n:Int) / 2 ^ ((k:Int)).toNat) 1=((n.testBit k).toNat:Int):=by
 rw [yao];have e:((n:Int) / 2 ^ k)=((n / 2 ^ k:Nat):Int):=by simp
 rw [e];have:=zbT (n / 2 ^ k) 1;rw [zeh] at this;exact this
def zlL (n:Nat):(1:Int) * 2 ^ ((n:Int)).toNat - 1=((2 ^ n - 1:Nat):Int):=by
 rw [yao];have h:1 <= 2 ^ n:=Nat.one_le_two_pow;rw [Int.natCast_sub h];simp
def zkV (m y:Nat):Builtin.bitOr (m:Int) ((1:Int) * 2 ^ ((y:Int)).toNat)=((m ||| 2 ^ y:Nat):Int):=by
 rw [yao];have e:(1:Int) * 2 ^ y=((2 ^ y:Nat):Int):=by simp
 rw [e,zgb]
def zn7 (ns:List Int):∃ ms:List Int,cutV (ns.map V.int) none (some 63)=ms.map V.int /\ ms.length <= 63:=by
 refine ⟨(ns.drop (HT.sIx (ns.map V.int).length 0 none)).take (HT.sIx (ns.map V.int).length (ns.map V.int).length (some 63) - HT.sIx (ns.map V.int).length 0 none),?_,?_⟩
 ·unfold cutV;rw [List.map_take,List.map_drop]
 ·rw [yaX];have h:HT.sIx (ns.map V.int).length (ns.map V.int).length (some 63)=min 63 (ns.map V.int).length:=HT.sIx_nat _ _ 63;rw [h];omega
def zlA (z:Int):(if z < 0 then -z else z)=(z.natAbs:Int):=by
 split <;> omega
def zbQ:∀ ps:List Nat,(ps.map nV).all zbA=true
 | []=>rfl
 | _ :: r=>by rw [yaI,List.all_cons,zbQ r]; rfl
noncomputable def ziV:Sp:=λ vs H Q _=>∃ n k:Nat,vs=[nV n,nV k] /\ Q (nV (n.testBit k).toNat) H
noncomputable def zhc:Sp:=λ vs H Q _=>∃ n:Nat,vs=[nV n] /\ n < 2 ^ 64 /\ ∀ p H',H p=none -> Same H H' -> H' p=some (.lst ((zae n).map nV)) -> Q (.ref p) H'
noncomputable def Hand (H:Hp) (p:Addr):Prop:=∃ (q:Addr) (cells:List Nat) (a b c:Nat),H p=some (.lst [.ref q,nV a,nV b,nV c]) /\ H q=some (.lst (cells.map nV)) /\ cells.length <= 63
def Hand.of {H:Hp} {p q:Addr} {cells:List Nat} {a b c:Nat} (h1:H p=some (.lst [.ref q,nV a,nV b,nV c])) (h2:H q=some (.lst (cells.map nV))) (h3:cells.length <= 63):Hand H p:=⟨q,cells,a,b,c,h1,h2,h3⟩
def Hand.same {H H':Hp} {p:Addr} (h:Hand H p) (s:Same H H'):Hand H' p:=by
 obtain ⟨q,cells,a,b,c,h1,h2,h3⟩:=h;exact ⟨q,cells,a,b,c,s _ _ h1,s _ _ h2,h3⟩
noncomputable def zk6 (K:PySem.W.Frag):Sp:=λ vs H Q _=>∃ (a:Addr) (ns:List Int),vs=[.ref a] /\ SqL K H a (ns.map V.int) /\ ∀ p H',H p=none -> Same H H' -> Hand H' p -> Q (.ref p) H'
noncomputable def zkR:Sp:=λ vs H Q _=>∃ (p:Addr) (n:Nat),vs=[.ref p,nV n] /\ Hand H p /\ 0 < n /\ n < 1073741824 /\ ∀ (r:Nat) (H':Hp),r < n -> But p H H' -> Hand H' p -> Q (nV r) H'
noncomputable def zk4:Sp:=λ vs H Q _=>∃ (p:Addr) (w:Nat),vs=[.ref p,nV w] /\ Hand H p /\ 1 <= w /\ w <= 64 /\ ∀ (r:Nat) (H':Hp),r < 2 ^ w -> But p H H' -> Hand H' p -> Q (nV r) H'
noncomputable def zko (K:PySem.W.Frag):Sp:=λ vs H Q _=>∃ (a:Addr) (ns:List Int),vs=[.ref a] /\ SqL K H a (ns.map V.int) /\ ns.length <= 63 /\ ∀ H',Q (.bl true) H'
noncomputable def Ld (w:Nat) (ls:List Int):Prop:=ls.length=w /\ ∀ e ∈ ls,-2 <= e /\ e < (w:Int)
noncomputable def zaK (w:Nat):List Int:=(List.range w).map λ (x:Nat)=>(x:Int)
noncomputable def zaB (ls ms:List Int):List Int:=ms.map λ e=>if 0 <= e then ls.getD e.toNat 0 else e
def zdW (w:Nat):((List.range w).map λ (x:Nat)=>V.int (x:Int))=(zaK w).map V.int:=by
 unfold zaK;rw [ya7];rfl
def zfb (w:Nat):Ld w (zaK w):=by
 refine ⟨by simp [zaK],λ e he=>?_⟩;simp only [zaK,yap,ybm] at he;obtain ⟨x,hx,rfl⟩:=he;omega
def ziS {w:Nat} {ls ms:List Int} (h1:Ld w ls) (h2:Ld w ms):Ld w (zaB ls ms):=by
 refine ⟨by rw [zaB,yac]; exact h2.1,λ e he=>?_⟩;simp only [zaB,yap] at he;obtain ⟨x,hx,rfl⟩:=he;have q:=h2.2 x hx
 split
 ·rename_i h0;have hl : x.toNat < ls.length := by rw [h1.1]; omega
  rw [yas,yaa hl];exact h1.2 _ (ybc hl)
 ·exact q
noncomputable def zf7:Sp:=λ vs H Q _=>∃ w:Nat,vs=[nV w] /\ w <= 64 /\ ∀ t H',Same H H' -> H' t=some (.tup ((zaK w).map V.int)) -> Q (.ref t) H'
noncomputable def zle:Sp:=λ vs H Q _=>∃ (a b:Addr) (ls ms:List Int) (w:Nat),vs=[.ref a,.ref b] /\ H a=some (.tup (ls.map V.int)) /\ H b=some (.tup (ms.map V.int)) /\ Ld w ls /\ Ld w ms /\ w <= 64 /\
 ∀ t H',Same H H' -> H' t=some (.tup ((zaB ls ms).map V.int)) -> Q (.ref t) H'
def Hand.upd {H H':Hp} {p l:Addr} {o:HO} (h0:Hand H p) (b:But p H H') (h:Hand H' p) (hl:H l=none):Hand (L2.upd H' l o) p:=by
 obtain ⟨q,cells,a1,a2,a3,e1,e2,e3⟩:=h0;obtain ⟨q',cells',b1,b2,b3,f1,f2,f3⟩:=h;obtain ⟨r',g⟩:=b.fst q _ e1;rw [f1] at g;cases g;exact ⟨q,cells',b1,b2,b3,by rw [zak (zam e1 hl)]; exact f1,by rw [zak (zam e2 hl)]; exact f2,f3⟩
def Hand.ne {H:Hp} {p l:Addr} (h:Hand H p) (e:H l=none):l ≠ p:=by
 rintro rfl;obtain ⟨q,cells,a,b,c,e1,_⟩:=h;rw [e] at e1;cases e1
noncomputable def zhE:Sp:=λ vs H Q _=>∃ i lo hi:Int,vs=[.int i,.int lo,.int hi] /\ Q (.bl (decide (lo <= i) && decide (i <= hi))) H
def Hand.neT {H:Hp} {p t:Addr} {xs:List V} (h:Hand H p) (e:H t=some (.tup xs)):t ≠ p:=by
 rintro rfl;obtain ⟨q,cells,a,b,c,e1,_⟩:=h;rw [e] at e1;cases e1
def zco {m w:Nat} (h:m < 2 ^ w):(zae m).length <= w:=by
 rw [zay h];have:=ybK m.testBit (List.range w);rw [ya6] at this;exact this
def zd2 {m w x:Nat} (h:m < 2 ^ w) (hx:x ∈ zae m):x < w:=by
 rw [zay h] at hx;exact ybm.mp (yct.mp hx).1
def zg3 {m w j:Nat} (h:m < 2 ^ w) (hj:j < (zae m).length):(zae m).getD j 0 < w:=by
 rw [yas,yaa hj];exact zd2 h (ybc hj)
def zfH {m i j:Nat} (hij:i < j) (hj:j < (zae m).length):(zae m).getD i 0 < (zae m).getD j 0:=by
 have hp:(zae m).Pairwise (· < ·):=List.Pairwise.filter _ List.pairwise_lt_range;rw [yas,yaa (Nat.lt_trans hij hj),yas,yaa hj];exact yaT.mp hp i j _ _ hij
def lt64 {m w:Nat} (h:m < 2 ^ w) (hw:w <= 64):m < 2 ^ 64:=yaj h (yaS (3:) hw)
def zeG {m i j:Nat} (hi:i < (zae m).length) (hj:j < (zae m).length) (e:(zae m).getD i 0=(zae m).getD j 0):i=j:=by
 rcases Nat.lt_trichotomy i j with h | h | h
 ·have:=zfH h hj; omega
 ·exact h
 ·have:=zfH h hi; omega
def zjo {m x:Nat}:m.testBit x=true ↔ ∃ j,j < (zae m).length /\ (zae m).getD j 0=x:=by
 rw [<- zbp,ybb];constructor
 ·rintro ⟨j,hj,e⟩;exact ⟨j,hj,by rw [yas,yaa hj]; exact e⟩
 ·rintro ⟨j,hj,e⟩;exact ⟨j,hj,by rw [yas,yaa hj] at e; exact e⟩
end L2
namespace L2
open PySem PySem.Spec PyProof.Rows
section
variable {X:Cx}
noncomputable def zkS:V -> List V -> Hp -> VK -> Prop:=λ x vs H Q=>∃ (l:Addr) (xs:List V) (y u:V) (j:Nat),x=.ref l /\ vs=[y] /\ H l=some (.lst xs) /\ zbA y=true /\ xs.all zbA=true /\ xs[j]?=some u /\ eqV u y=true /\
 (∀ (m:Nat) (u:V),m < j -> xs[m]?=some u -> eqV u y=false) /\ Q (.int (j:Int)) H
def zjE {xs:List V} {i:Nat} {u:V} (h:xs.all zbA=true) (e:xs[i]?=some u):zbA u=true:=ybv.mp h u (yav e)
def zj9:MtR X "list.index" zkS:=by
  intro pins s σ H x vs v us Q I rx rv h;obtain ⟨l,xs,y,u,j,rfl,rfl,hH,fy,fs,hj,hit,hno,q⟩:=h;cases rx;obtain ⟨uy,rfl,ry⟩:=Vals.one rv;obtain ⟨z,its,n,r,hl,e⟩:=I.lstM hH;obtain ⟨ju,hju,rju⟩:=r.get hj;have hjl:j < its.length:=(yah.mp hju).1;have eju:its[j]=ju:=(yah.mp hju).2
  refine call_meets F.slot_list_index ⟨_,e,rfl⟩ F.entry_list_index (F.args_list_index_2 _ _)
    (SeqAt.list_indexAt l its.toArray n none #[] uy (eqU y) j (by simpa using hjl) (by have : sizeLine < 2 ^ 63 - 1 := by decide
                                                                                       omega) ?_ ?_) ⟨e,λ w hw=>zcr ry fy r fs w (61:),?_⟩
  · show eqU y its[j]=true;rw [eju,zht rju (zjE fs hj)];exact hit
  · intro m hm hlt;have hm' : m < xs.length := by rw [hl]; simpa using hm
    obtain ⟨mu,hmu,rmu⟩:=r.get (yaa hm');have emu:its[m]'(by simpa using hm)=mu:=(yah.mp hmu).2;show eqU y (its[m]'(by simpa using hm))=false;rw [emu,zht rmu (zjE fs (yaa hm'))];exact hno m _ hlt (yaa hm')
  · exact ⟨.int _,H,I.tok _,⟨_,rfl⟩,q⟩
end
def zaD {X:Cx} {x:Str} {j pos} {es:List Expr} {t:TA} (hr:PA X es t):PA X (.Constant (.str x) j pos :: es) (ziX (tC (.str x)) t):=zaa za3 hr rfl
noncomputable def zod (i j:Int):Prop:=0 < j /\ j < 18446744073709551616
def zdY {X:Cx}:OpR X (binaryOp .FloorDiv) (rI zod λ i j=>.int (i / j)):=opI λ i j _ _ _ _ _ hc q=>by
 have h1:(0:Int) < j:=hc.1;have h2:j < 18446744073709551616:=hc.2;refine floordiv_int (1:) (by rw [Int.fdiv_eq_ediv_of_nonneg i (1:)]; exact q) (.inl (PyProof.noPylong_of_log2 ?_));have h3:j.natAbs < 2 ^ 64:=by omega
 have h4:j.natAbs ≠ 0:=by omega
 have:=(Nat.log2_lt h4).mpr h3;omega
def zl1 {K:PySem.W.Frag} {a b:Str} {H:Hp} {Q:VK} (e:(shpd (.str a) && shpd (.str b) && (a == b))=true) (h:Q (.bl true) H):rEqU K (.str a) (.str b) H Q:=by
 rw [yam,yam] at e;refine zfw e.1.1 e.1.2 ?_;rw [e.2];exact h
def zlW {K:PySem.W.Frag} {a b:Str} {H:Hp} {Q:VK} (e:(shpd (.str a) && shpd (.str b) && !(a == b))=true) (h:Q (.bl false) H):rEqU K (.str a) (.str b) H Q:=by
 rw [yam,yam,ybQ] at e;refine zfw e.1.1 e.1.2 ?_;rw [e.2];exact h
def zoe {K:PySem.W.Frag} {x:V} {p:Addr} {xs:List V} {H:Hp} {Q:VK} (hq:SqT K H p xs) (e:(zbA x && xs.all zbA && inV x xs)=true) (h:Q (.bl true) H):rIn K false x (.ref p) H Q:=by
 rw [yam,yam] at e;refine ⟨p,xs,rfl,.inr hq,e.1.1,e.1.2,?_⟩;rw [if_neg (3:),e.2];exact h
def zn8 {K:PySem.W.Frag} {x:V} {p:Addr} {xs:List V} {H:Hp} {Q:VK} (hq:SqT K H p xs) (e:(zbA x && xs.all zbA && !inV x xs)=true) (h:Q (.bl false) H):rIn K false x (.ref p) H Q:=by
 rw [yam,yam,ybQ] at e;refine ⟨p,xs,rfl,.inr hq,e.1.1,e.1.2,?_⟩;rw [if_neg (3:),e.2];exact h
def znN {K:PySem.W.Frag} {x:V} {p:Addr} {xs:List V} {H:Hp} {Q:VK} (hq:SqT K H p xs) (e:(zbA x && xs.all zbA && inV x xs)=true) (h:Q (.bl false) H):rIn K true x (.ref p) H Q:=by
 rw [yam,yam] at e;refine ⟨p,xs,rfl,.inr hq,e.1.1,e.1.2,?_⟩;rw [if_pos rfl,e.2];exact h
def znC {K:PySem.W.Frag} {x:V} {p:Addr} {xs:List V} {H:Hp} {Q:VK} (hq:SqT K H p xs) (e:(zbA x && xs.all zbA && !inV x xs)=true) (h:Q (.bl true) H):rIn K true x (.ref p) H Q:=by
 rw [yam,yam,ybQ] at e;refine ⟨p,xs,rfl,.inr hq,e.1.1,e.1.2,?_⟩;rw [if_pos rfl,e.2];exact h
def za2 {xs:List V} {H:Hp} {Q:VK} (hz:xs.length <= 100000) (h:∀ p H',H p=none -> Same H H' -> H' p=some (.lst xs) -> Q (.ref p) H'):NewL xs H Q:=⟨yaC (zaO hz),λ p hp=>h p _ hp (zaj hp) zad⟩
def zar {xs:List V} {H:Hp} {Q:VK} (hz:xs.length <= 100000) (h:∀ p H',H p=none -> Same H H' -> H' p=some (.tup xs) -> Q (.ref p) H'):NewT xs H Q:=⟨yaC (zaO hz),λ p hp=>h p _ hp (zaj hp) zad⟩
def zju (z:Int) (ps:List Nat):inV (.int z) (ps.map λ (n:Nat)=>V.int (n:Int))=decide (0 <= z /\ z.toNat ∈ ps):=by
 induction ps with
 | nil=>simp [inV]
 | cons p r ih=>
  have e:inV (.int z) ((p :: r).map λ (n:Nat)=>V.int (n:Int))=(((p:Int) == z) || inV (.int z) (r.map λ (n:Nat)=>V.int (n:Int))):=rfl;rw [e,ih];apply ycx.mpr;simp only [yb5,decide_eq_true_iff,beq_iff_eq,yal];constructor
  ·rintro (h | ⟨h, k⟩)
   ·exact ⟨by omega,.inl (1:)⟩
   ·exact ⟨h,.inr k⟩
  ·rintro ⟨h, k | k⟩
   ·exact .inl (1:)
   ·exact .inr ⟨h,k⟩
open Bm
inductive Dd where
 | and (m:Nat) | or (m:Nat) | left (n:Nat) | right (n:Nat) | turn (n:Nat) | gather (m:Nat) | strew (m:Nat) | swap (m n:Nat) | copy (m:Nat) (n:Int)
 deriving DecidableEq
noncomputable def Dd.vals:Dd -> List V
 | .and m=>[.str "and",nV m]
 | .or m=>[.str "or",nV m]
 | .left n=>[.str "left",nV n]
 | .right n=>[.str "right",nV n]
 | .turn n=>[.str "turn",nV n]
 | .gather m=>[.str "gather",nV m]
 | .strew m=>[.str "strew",nV m]
 | .swap m n=>[.str "swap",nV m,nV n]
 | .copy m n=>[.str "copy",nV m,.int n]
noncomputable def inM (m:Nat) (z:Int):Bool:=decide (0 <= z) && m.testBit z.toNat
noncomputable def Dd.ok (w:Nat):Dd -> Prop
 | .and m=>m < 2 ^ w
 | .or m=>m < 2 ^ w
 | .left n=>n <= w
 | .right n=>n <= w
 | .turn n=>n < w
 | .gather m=>m < 2 ^ w
 | .strew m=>m < 2 ^ w
 | .swap m n=>1 <= n /\ n < w /\ ∀ p,m.testBit p=true -> p + n < w /\ m.testBit (p + n)=false
 | .copy m n=>n ≠ 0 /\ -(w:Int) < n /\ n < w /\ m < 2 ^ w /\ ∀ p,m.testBit p=true -> 0 <= (p:Int) + n /\ (p:Int) + n < w
noncomputable def Dd.src (w:Nat) (p:Nat):Dd -> Int
 | .and m=>if m.testBit p then (p:Int) else -1
 | .or m=>if m.testBit p then -2 else (p:Int)
 | .left n=>if n <= p then (p:Int) - n else -1
 | .right n=>if p + n < w then (p:Int) + n else -1
 | .turn n=>if n <= p then (p:Int) - n else (p:Int) - n + w
 | .gather m=>if p < (zae m).length then ((zae m).getD p 0:Int) else -1
 | .strew m=>if m.testBit p then ((zae m).idxOf p:Int) else -1
 | .swap m n=>if inM m ((p:Int) - n) then (p:Int) - n else if m.testBit p then (p:Int) + n else p
 | .copy m n=>if inM m ((p:Int) - n) then (p:Int) - n else p
noncomputable def Dd.led (w:Nat) (d:Dd):List Int:=(List.range w).map λ p=>d.src w p
def zeb (m k:Nat):inM m (k:Int)=m.testBit k:=by
 unfold inM; simp
def zgk {x w i:Nat} (h:x < 2 ^ w) (hi:w <= i):x.testBit i=false:=Nat.testBit_lt_two_pow (yaj h (yaS (3:) hi))
def zbS {m p:Nat} (h:m.testBit p=true):(zae m).idxOf p < (zae m).length /\ (zae m).getD ((zae m).idxOf p) 0=p:=by
 have hm:p ∈ zae m:=zbp.mpr h;have hl:=List.idxOf_lt_length_iff.mpr hm;refine ⟨hl,?_⟩;rw [yas,yaa hl];exact List.getElem_idxOf hl
def Dd.src_ld {w:Nat} {d:Dd} (h:d.ok w) {p:Nat} (hp:p < w):-2 <= d.src w p /\ d.src w p < (w:Int):=by
 cases d with
 | and m=>simp only [Dd.src]; split <;> omega
 | or m=>simp only [Dd.src]; split <;> omega
 | left n=>simp only [Dd.src]; split <;> omega
 | right n=>simp only [Dd.src]; split <;> omega
 | turn n=>simp only [Dd.src,Dd.ok] at h ⊢; split <;> omega
 | gather m=>
  simp only [Dd.src,Dd.ok] at h ⊢
  split
  ·rename_i k; have:=zg3 h k; omega
  ·omega
 | strew m=>
  simp only [Dd.src,Dd.ok] at h ⊢
  split
  ·rename_i k; have:=(zbS k).1; have:=zco h; omega
  ·omega
 | swap m n=>
  simp only [Dd.src,Dd.ok] at h ⊢
  split
  ·rename_i k; simp only [inM,yam,decide_eq_true_iff] at k; omega
  ·split
   ·rename_i k; have:=(h.2.2 p k).1; omega
   ·omega
 | copy m n=>
  simp only [Dd.src,Dd.ok] at h ⊢
  split
  ·rename_i k;simp only [inM, yam, decide_eq_true_iff] at k
   have:((p:Int) - n).toNat < w:=by
    by_cases z:((p:Int) - n).toNat < w
    ·exact z
    ·rw [zgk h.2.2.2.1 (1:)] at k; exact absurd k.2 yaq
   omega
  ·omega
def Dd.led_ld {w:Nat} {d:Dd} (h:d.ok w):Ld w (d.led w):=by
 refine ⟨by simp [Dd.led],λ e he=>?_⟩;simp only [Dd.led,yap,ybm] at he;obtain ⟨p,hp,rfl⟩:=he;exact d.src_ld h hp
def zmc (x n:Nat):(x:Int) * 2 ^ ((n:Int)).toNat=((x * 2 ^ n:Nat):Int):=by rw [yao]; simp
def zie (x k:Nat):(x:Int) / ((1:Int) * 2 ^ ((k:Int)).toNat) % 2=((x.testBit k).toNat:Int):=by
 rw [yao,ybX];have e:((x:Int) / 2 ^ k % 2)=((x / 2 ^ k % 2:Nat):Int):=by simp
 rw [e,<- Nat.and_one_is_mod,zeh]
def zkG {lo hi q:Nat} (h:lo <= hi):(2 ^ hi - 2 ^ lo).testBit q=(decide (lo <= q) && decide (q < hi)):=by
 obtain ⟨d,rfl⟩:∃ d,hi=lo + d:=⟨hi - lo,by omega⟩
 have e:2 ^ (lo + d) - 2 ^ lo=(2 ^ d - 1) * 2 ^ lo:=by
  rw [Nat.pow_add,Nat.sub_mul,Nat.one_mul,ycz]
 rw [e,Nat.testBit_mul_two_pow,Nat.testBit_two_pow_sub_one];by_cases h1:lo <= q
 ·have:decide (q - lo < d)=decide (q < lo + d):=decide_eq_decide.mpr (1:);simp [h1,this]
 ·simp [h1]
noncomputable def zeQ:Sp:=λ vs H Q _=>∃ (p:Addr) (w n:Nat),vs=[.ref p,nV w,nV n] /\ Hand H p /\ 1 <= n /\ n < w /\ w <= 64 /\ ∀ (m:Nat) (H':Hp),(Dd.swap m n).ok w -> But p H H' -> Hand H' p -> Q (nV m) H'
noncomputable def zeV:Sp:=λ vs H Q _=>∃ (p:Addr) (w:Nat) (n:Int),vs=[.ref p,nV w,.int n] /\ Hand H p /\ n ≠ 0 /\ -(w:Int) < n /\ n < w /\ w <= 64 /\ ∀ (m:Nat) (H':Hp),(Dd.copy m n).ok w -> But p H H' -> Hand H' p -> Q (nV m) H'
noncomputable def zlc:Sp:=λ vs H Q _=>∃ (p:Addr) (w:Nat),vs=[.ref p,nV w] /\ Hand H p /\ 1 <= w /\ w <= 64 /\ ∀ (t:Addr) (d:Dd) (H':Hp),d.ok w -> But p H H' -> Hand H' p -> H' t=some (.tup d.vals) -> Q (.ref t) H'
noncomputable def zhp:Sp:=λ vs H Q _=>∃ x k:Nat,vs=[nV x,nV k] /\ k < 64 /\ Q (nV (x.testBit k).toNat) H
noncomputable def Dd.mask:Dd -> Nat
 | .and m=>m | .or m=>m | .left _=>0 | .right _=>0 | .turn _=>0 | .gather m=>m | .strew m=>m | .swap m _=>m | .copy m _=>m
def Dd.mask_lt {w:Nat} {d:Dd} (h:d.ok w):d.mask < 2 ^ w:=by
 cases d with
 | and m=>exact h
 | or m=>exact h
 | left n=>exact ybL w
 | right n=>exact ybL w
 | turn n=>exact ybL w
 | gather m=>exact h
 | strew m=>exact h
 | swap m n=>
  apply Nat.lt_pow_two_of_testBit;intro i hi;show m.testBit i=false;cases z:m.testBit i
  ·rfl
  ·have:=(h.2.2 i z).1; omega
 | copy m n=>exact h.2.2.2.1
def zi7 (m:Nat) (z:Int):inV (.int z) ((zae m).map nV)=inM m z:=by
 rw [show (zae m).map nV=(zae m).map λ (n:Nat)=>V.int (n:Int) from rfl,zju];unfold inM;apply ycx.mpr;rw [decide_eq_true_iff,yam,decide_eq_true_iff,zbp]
def zli {K:PySem.W.Frag} {m:Nat} {z:Int} {q:Addr} {H:Hp} {Q:VK} (hq:H q=some (.lst ((zae m).map nV))) (h:Q (.bl (inM m z)) H):rIn K false (.int z) (.ref q) H Q:=by
 refine ⟨q,_,rfl,.inl (SqL.of hq),rfl,zbQ _,?_⟩;rw [if_neg (3:),zi7];exact h
def zlT {m q:Nat} {l:Addr} {H:Hp} {Q:VK} (hl:H l=some (.lst ((zae m).map nV))) (hq:m.testBit q=true) (h:Q (.int ((zae m).idxOf q:Nat)) H):zkS (.ref l) [nV q] H Q:=by
 obtain ⟨h1,h2⟩:=zbS hq
 have eg:∀ j u,((zae m).map nV)[j]?=some u -> u=nV ((zae m).getD j 0) /\ j < (zae m).length:=λ j u e=>by
  obtain ⟨x,hx,rfl⟩:=zbc e;rw [yas,hx];exact ⟨rfl,(yah.mp hx).1⟩
 refine ⟨l,_,nV q,nV q,(zae m).idxOf q,rfl,rfl,hl,rfl,zbQ _,?_,?_,λ j u hj e=>?_,h⟩
 ·rw [yai,yaa h1];show some (nV _)=some (nV q);rw [List.getElem_idxOf h1]
 ·show ((q:Int) == (q:Int))=true;simp
 ·obtain ⟨rfl, hjl⟩ := eg j u e;show ((((zae m).getD j 0 : Nat) : Int) == (q : Int)) = false;apply beq_eq_false_iff_ne.mpr;intro z;have : (zae m).getD j 0 = (zae m).getD ((zae m).idxOf q) 0 := by rw [h2]; omega
  have:=zeG hjl h1 this;omega
noncomputable def zkT:Sp:=λ vs H Q _=>∃ (w:Nat) (a:Addr) (d:Dd),vs=[nV w,.ref a] /\ H a=some (.tup d.vals) /\ d.ok w /\ w <= 64 /\ ∀ p H',H p=none -> Same H H' -> H' p=some (.lst ((d.led w).map V.int)) -> Q (.ref p) H'
noncomputable def zeF:Sp:=λ vs H Q _=>∃ (a b:Addr) (d:Dd) (m:Nat) (n:Int) (w p:Nat),vs=[.ref a,.ref b,nV p] /\ H a=some (.tup d.vals) /\ H b=some (.lst ((zae m).map nV)) /\ ((∃ k:Nat,n=k /\ d=.swap m k) \/ d=.copy m n) /\ m < 2 ^ w /\
 ∀ H',Same H H' -> Q (.int (d.src w p)) H'
def zjr {K:PySem.W.Frag} {a:Addr} {xs:List V} {g:TG} {tb:TS} {D:Ends} {σ:St} {H:Hp} (Pv:Nat -> St -> Hp -> Prop) (h0:Pv 0 σ H) (hl:∀ i σ H,Pv i σ H -> SqL K H a xs)
  (hs:∀ i u T σ H,xs[i]?=some u -> H T=none -> Pv i σ H -> g (.ref T) σ (upd H T (.tup [.int (i:Int),u])) λ σ2 H2=>tb { D with nx:=Pv (i + 1),ct:=Pv (i + 1),bk:=D.nx } σ2 H2) (hd:∀ σ H,Pv xs.length σ H -> D.nx σ H) :
  ForW (IteL K a xs) g tb D σ H:=by
 refine ⟨λ i m σ H=>m=xs.length - i /\ i <= xs.length /\ Pv i σ H,⟨xs.length,by simp,yaQ _,h0⟩,?_⟩;rintro i m σ H ⟨rfl,hi,p⟩;by_cases hlt:i < xs.length
 ·refine .inr ⟨⟨hlt,hl i σ H p⟩,Pv (i + 1),λ σ' H' p'=>⟨xs.length - (i + 1),by omega,rfl,hlt,p'⟩,λ x H' y=>?_⟩;obtain ⟨T,u,rfl,hT,rfl,hu⟩:=y;exact hs i u T σ H hu hT p
 ·have e : i = xs.length := by omega
  subst e;exact .inl ⟨⟨rfl,hl _ σ H p⟩,hd σ H p⟩
def zkY {K:PySem.W.Frag} {a:Addr} {x:V} {k:Int} {n:Nat} {H:Hp} {Q:VK} (ha:H a=some (.lst [x])) (e:k=(n:Int)) (h2:n <= 100000) (h:∀ t H',H t=none -> Same H H' -> H' t=some (.lst (List.replicate n x)) -> Q (.ref t) H'):zlQ K (.ref a) (.int k) H Q:=by
 subst e;refine .inl (.inr ⟨a,_,_,rfl,rfl,ha,by omega,by omega,?_,λ p hp=>?_⟩)
 ·rw [yao];show 1 * n <= sizeLine;rw [Nat.one_mul];exact yaC (zaO h2)
 ·have e:(List.replicate ((n:Int)).toNat [x]).flatten=List.replicate n x:=by
   rw [yao];clear h2 h
   induction n with
   | zero=>rfl
   | succ n ih=>rw [ybg,ybP,ih,ybg]; rfl
  rw [e];exact h p _ hp (zaj hp) zad
def zdz {K:PySem.W.Frag} {a b:Addr} {xs ys:List V} {H:Hp} {Q:VK} (ha:H a=some (.lst xs)) (hb:H b=some (.lst ys)) (hz:xs.length + ys.length <= 100000) (h:∀ t H',H t=none -> Same H H' -> H' t=some (.lst (xs ++ ys)) -> Q (.ref t) H'):zkH K (.ref a) (.ref b) H Q:=
 .inr (.inl ⟨a,b,_,_,rfl,rfl,ha,hb,yaC (zaO hz),λ p hp=>h p _ hp (zaj hp) zad⟩)
def znA {p:Addr} {xs:List V} {j:Nat} {v:V} {H:Hp} {K:Hp -> Prop} (hp:H p=some (.lst xs)) (hj:j < xs.length) (h:K (upd H p (.lst (xs.set j v)))):zlu (.ref p) (.int (j:Int)) v H K:=
 zmC hp (by unfold ixN; rw [if_pos (1:),if_pos (1:)]; simp) h
def zes {K:PySem.W.Frag} {a:Addr} {xs:List V} {H:Hp} {Q:VK} (ha:H a=some (.lst xs)) (h:∀ t H',H t=none -> Same H H' -> H' t=some (.tup xs) -> Q (.ref t) H'):zjf K [.ref a] H Q:=
 ⟨a,xs,rfl,.inl ⟨SqL.of ha,λ t ht=>h t _ ht (zaj ht) zad⟩⟩
noncomputable def pon (w:Nat) (z:Int):Int:=if 0 <= z /\ z <= (w:Int) - 1 then z else -1
noncomputable def zne:Sp:=λ vs H Q _=>∃ (w:Nat) (z:Int),vs=[nV w,.int z] /\ Q (.int (pon w z)) H
noncomputable def zfM:Sp:=λ vs H Q _=>∃ (m:Nat) (n:Int) (p:Nat),vs=[nV m,.int n,nV p] /\ Q (.int (if inM m ((p:Int) - n) then (p:Int) - n else p)) H
noncomputable def Dd.flat:Dd -> Bool
 | .gather _=>false
 | .strew _=>false
 | _=>true
noncomputable def zg7:Sp:=λ vs H Q _=>∃ (w p:Nat) (a:Addr) (d:Dd),vs=[nV w,.ref a,nV p] /\ H a=some (.tup d.vals) /\ d.ok w /\ d.flat=true /\ p < w /\ w <= 64 /\ Q (.int (d.src w p)) H
noncomputable def zg9:Sp:=λ vs H Q _=>∃ (w m:Nat),vs=[nV w,nV m] /\ m < 2 ^ w /\ w <= 64 /\ ∀ t H',Same H H' -> H' t=some (.tup (((Dd.gather m).led w).map V.int)) -> Q (.ref t) H'
noncomputable def zgi:Sp:=λ vs H Q _=>∃ (w m:Nat),vs=[nV w,nV m] /\ m < 2 ^ w /\ w <= 64 /\ ∀ t H',Same H H' -> H' t=some (.tup (((Dd.strew m).led w).map V.int)) -> Q (.ref t) H'
noncomputable def zhK:Sp:=λ vs H Q _=>∃ (w:Nat) (a:Addr) (d:Dd),vs=[nV w,.ref a] /\ H a=some (.tup d.vals) /\ d.ok w /\ w <= 64 /\ ∀ t H',Same H H' -> H' t=some (.tup ((d.led w).map V.int)) -> Q (.ref t) H'
def zh1 {m w:Nat} (h:m < 2 ^ w):((Dd.gather m).led w).map V.int=(zae m).map nV ++ (List.replicate (w - (zae m).length) (V.int (-1))):=by
 have hl:=zco h;apply ybo;intro i;rw [Dd.led,ya7,yai];by_cases hi:i < w
 ·rw [ybE hi];show some (V.int ((Dd.gather m).src w i)) = _;simp only [Dd.src];by_cases hp : i < (zae m).length
  ·rw [if_pos hp,ybz (by rw [yac]; exact hp),yai,yaa hp,yas,yaa hp];rfl
  ·rw [if_neg hp,ybd (by rw [yac]; omega),List.getElem?_replicate,yac,if_pos (1:)]
 ·rw [ybh (by rw [ya6]; omega),ybh (by rw [yaf,yac,ybw]; omega)];rfl
noncomputable def zbG (w m i:Nat):List Int:=(List.range w).map λ p=>if (zae m).idxOf p < i /\ m.testBit p=true then ((zae m).idxOf p:Int) else -1
def zgQ (w m:Nat):zbG w m 0=List.replicate w (-1):=by
 rw [zbG,ybs (g:=λ _=>(-1:Int)) (λ p _=>by rw [if_neg (1:)])];rw [List.map_const',ya6]
def zgx {w m i y:Nat} (h:m < 2 ^ w) (hi:(zae m)[i]?=some y):(zbG w m i).set y (i:Int)=zbG w m (i + 1):=by
 have hil:i < (zae m).length:=(yah.mp hi).1;have eg:(zae m).getD i 0=y:=by rw [yas,hi]; rfl
 have hy:m.testBit y=true:=zjo.mpr ⟨i,hil,eg⟩;have hyw:y < w:=zd2 h (zbp.mpr hy)
 have ei:(zae m).idxOf y=i:=by
  obtain ⟨h1,h2⟩:=zbS hy;exact zeG h1 hil (h2.trans eg.symm)
 apply ybo;intro p;rw [List.getElem?_set];by_cases e:y=p
 ·subst e;rw [if_pos rfl,if_pos (by simp [zbG]; exact hyw),zbG,yai,ybE hyw];show some (i:Int)=some (if (zae m).idxOf y < i + 1 /\ m.testBit y=true then ((zae m).idxOf y:Int) else -1);rw [if_pos ⟨by omega,hy⟩,ei]
 ·rw [if_neg e, zbG, zbG, yai, yai];by_cases hp : p < w
  ·rw [ybE hp];show some (if (zae m).idxOf p < i /\ m.testBit p = true then ((zae m).idxOf p : Int) else -1) = some (if (zae m).idxOf p < i + 1 /\ m.testBit p = true then ((zae m).idxOf p : Int) else -1)
   have:((zae m).idxOf p < i /\ m.testBit p=true) ↔ ((zae m).idxOf p < i + 1 /\ m.testBit p=true):=by
    constructor
    ·exact λ ⟨a,b⟩=>⟨by omega,b⟩
    ·rintro ⟨a, b⟩;refine ⟨?_, b⟩
     have:(zae m).idxOf p ≠ i:=λ z=>by
      have:=(zbS b).2;rw [z,eg] at this;exact e this
     omega
   by_cases c:(zae m).idxOf p < i /\ m.testBit p=true
   ·rw [if_pos c,if_pos (this.mp c)]
   ·rw [if_neg c,if_neg (λ z=>c (this.mpr z))]
  ·rw [ybh (by rw [ya6]; omega)];rfl
def zh8 {w m:Nat}:zbG w m (zae m).length=(Dd.strew m).led w:=by
 rw [zbG,Dd.led];apply ybs;intro p hp;simp only [Dd.src];by_cases c:m.testBit p=true
 ·rw [if_pos c,if_pos ⟨(zbS c).1,c⟩]
 ·rw [if_neg c,if_neg (λ z=>c z.2)]
def zhY (w m i:Nat):(zbG w m i).length=w:=by simp [zbG]
noncomputable def rowV (L:List (Addr × Dd)):List V:=L.map λ q=>V.ref q.1
noncomputable def Rw (H:Hp) (w:Nat) (L:List (Addr × Dd)):Prop:=∀ q ∈ L,H q.1=some (.tup q.2.vals) /\ q.2.ok w
def Rw.same {H H':Hp} {w:Nat} {L:List (Addr × Dd)} (h:Rw H w L) (s:Same H H'):Rw H' w L:=λ q hq=>⟨s _ _ (h q hq).1,(h q hq).2⟩
def Rw.but {H H':Hp} {p:Addr} {w:Nat} {L:List (Addr × Dd)} (h:Rw H w L) (hh:Hand H p) (b:But p H H'):Rw H' w L:=λ q hq=>⟨b.keep _ _ (hh.neT (h q hq).1) (h q hq).1,(h q hq).2⟩
noncomputable def dds (L:List (Addr × Dd)):List Dd:=L.map λ q=>q.2
def zbH {A B:Prop} {c:Bool} (e:c=false) (h:B):if c=true then A else B:=by subst e; exact iteF h
def zeL {A B:Prop} {c:Bool} (e:c=true) (h:A):if c=true then A else B:=by subst e; exact iteT h
def zhL {K:PySem.W.Frag} {i j:Bool} {H:Hp} {Q:VK} (h:Q (.bl (!(i == j))) H):rNeU K (.bl i) (.bl j) H Q:=⟨.bool i,.bool j,.bool K H i,.bool K H j,rfl,rfl,h⟩
def zm2 {K:PySem.W.Frag} {a b:Addr} {xs ys:List V} {H:Hp} {Q:VK} (ha:H a=some (.lst xs)) (hb:H b=some (.lst ys)) (hz:xs.length + ys.length <= 100000) (h:Q .non (upd H a (.lst (xs ++ ys)))):zjI (.ref a) [.ref b] H Q:=⟨a,b,xs,ys,rfl,rfl,ha,hb,yaC (zaO hz),h⟩
def ze4 {K:PySem.W.Frag} {a:Addr} {xs:List V} {g:TG} {tb:TS} {D:Ends} {σ:St} {H:Hp} (Pv:Nat -> St -> Hp -> Prop) (h0:Pv 0 σ H) (hl:∀ i σ H',Pv i σ H' -> SqL K H' a xs)
  (step:∀ i x σ H',xs[i]?=some x -> Pv i σ H' -> g x σ H' λ σ2 H2=>tb { D with nx:=Pv (i + 1),ct:=Pv (i + 1),bk:=D.nx } σ2 H2) (done:∀ σ H',Pv xs.length σ H' -> D.nx σ H') :
  ∃ b,V.ref a=.ref b /\ (((∃ xs,SqL K H b xs) /\ ForW (Itl K b) g tb D σ H) \/ ((∃ xs,SqT K H b xs) /\ ForW (Itt K b) g tb D σ H)):=
 ⟨a,rfl,.inl ⟨⟨xs,hl 0 σ H h0⟩,zhk Pv h0 (λ i σ H' _ p=>hl i σ H' p) step done⟩⟩
def zmx {c:TT} {t u:TS} {D:Ends} {σ:St} {H:Hp} (P:St -> Hp -> Prop)
  (h:∀ f:St -> Hp -> Prop,(∀ σ2 H2,P σ2 H2 -> f σ2 H2) -> c σ H λ b H1=>if b=true then t { D with nx:=f } σ H1 else u { D with nx:=f } σ H1) (hq:∀ σ2 H2,P σ2 H2 -> D.nx σ2 H2):tIfS c t u D σ H:=h D.nx hq
section
variable {X:Cx} {K:PySem.W.Frag}
def zl8 {pins:List (Addr × Obj)} {σ:St} {H:Hp} {s:Shared} {x:V} {u t:Value} (I:Inv X pins σ H s) (rx:RelV x u) (ty:TyOf X.K H x t) :
  ∃ Hq:Heap -> Prop,PySem.W.KitX X.K u t Hq /\ Hq s.heap /\ u ≠ .builtin "__main__.__loader__#opaque":=by
 cases ty with
 | non=>have z:u=.none:=rx; subst z; exact ⟨_,PySem.W.kitx_none,trivial,nofun⟩
 | bl y=>have z:u=.bool y:=rx; subst z; exact ⟨_,PySem.W.kitx_bool,trivial,nofun⟩
 | int i=>obtain ⟨t,rfl⟩:∃ t,u=.int i t:=rx; exact ⟨_,PySem.W.kitx_int,trivial,nofun⟩
 | str y=>obtain ⟨t,rfl⟩:∃ t,u=.str y t:=rx; exact ⟨_,PySem.W.kitx_str,trivial,nofun⟩
 | flt y=>obtain ⟨t,rfl⟩:∃ t,u=.float y t:=rx; exact ⟨_,PySem.W.kitx_float,trivial,nofun⟩
 | lst ea=>have z:=I.hok _ _ ea; obtain ⟨_,_,n,_,h1⟩:=z; cases rx; exact ⟨_,ycb,⟨_,h1,rfl⟩,nofun⟩
 | frz ea=>have z:=I.hok _ _ ea; obtain ⟨_,_,_,n,_,h1⟩:=z; cases rx; exact ⟨_,ycb,⟨_,h1,rfl⟩,nofun⟩
 | tup ea=>have z:=I.hok _ _ ea; obtain ⟨_,_,_,o,h1,h2,_⟩:=z; cases rx; exact ⟨_,PySem.W.kitx_tuple,⟨o,h1,h2⟩,nofun⟩
 | dK ea=>have z:=I.hok _ _ ea; obtain ⟨_,_,vs,_,o,es,ep,h1,h2,_⟩:=z; cases rx; exact ⟨_,ycc,⟨o,h1,h2.1⟩,nofun⟩
 | dT ea=>have z:=I.hok _ _ ea; obtain ⟨_,_,vs,_,o,es,ep,h1,h2,_⟩:=z; cases rx; exact ⟨_,ycc,⟨o,h1,h2.1⟩,nofun⟩
 | ins ea cl ha hn htk hm=>
  cases rx;obtain ⟨mA,O,_⟩:=zja I.hok ea;obtain ⟨od,J,_⟩:=O.look;exact ⟨_,PySem.W.kitx_own (cl.get _) cl.hd ha hn htk hm,J,nofun⟩
def zjb:∀ {Ts:List String} {us:List Value},Vals (Ts.map V.ty) us -> us=Ts.map Value.type
 | [],[],_=>rfl
 | [],_ :: _,r=>by cases r
 | _ :: _,[],r=>by cases r
 | T :: Ts,u :: us,r=>by
  cases r with
  | cons a b=>rw [yaI,zjb b,show u=Value.type T from a]
noncomputable def zfZ (K:PySem.W.Frag):List V -> Hp -> VK -> Prop:=λ xs H Q=>∃ (x:V) (tp:Addr) (Ts:List String) (t:Value) (b:Bool),xs=[x,.ref tp] /\ H tp=some (.tup (Ts.map V.ty)) /\ TyOf K H x t /\ PySem.W.kitAny K t (Ts.map Value.type)=some b /\ Q (.bl b) H
def zis:zbk X (.builtin "isinstance") (zfZ X.K):=by
 intro pins s σ H xs us Q I r h;obtain ⟨x,tp,Ts,t,b,rfl,ht,ty,e,q⟩:=h;obtain ⟨u,v,rfl,ru,rv⟩:=r.two;cases (show v=Value.ref tp from rv);obtain ⟨Hq,Z,hq,hne⟩:=zl8 I ru ty;obtain ⟨_,its,rv',p⟩:=(show zaN X.prog X.w H s.heap tp (.tup (Ts.map V.ty)) from I.hok tp _ ht)
 have ei:=zjb rv';subst ei;obtain ⟨o,h1,h2,_,n,h3⟩:=p;obtain ⟨oc,od,da,sl⟩:=o;cases h2;cases h3;exact PySem.W.kia_tup Z I.kIn hq h1 e hne λ tk=>⟨.bl b,H,I.tok tk,rfl,q⟩
def TyOf.same {H H':Hp} {x:V} {t:Value} (h:TyOf K H x t) (s:Same H H'):TyOf K H' x t:=by
 cases h with
 | non=>exact .non
 | bl y=>exact .bl y
 | int i=>exact .int i
 | str y=>exact .str y
 | flt y=>exact .flt y
 | lst e=>exact .lst (s _ _ e)
 | frz e=>exact .frz (s _ _ e)
 | tup e=>exact .tup (s _ _ e)
 | dK e=>exact .dK (s _ _ e)
 | dT e=>exact .dT (s _ _ e)
 | ins e cl ha hn htk hm=>exact .ins (s _ _ e) cl ha hn htk hm
def znE (hK:X.K=K:=by rfl):zbk X (.builtin "isinstance") (zfZ K):=hK ▸ zis
def zfI {σ:St} {x:V} {t:Value} {b:Bool} {H:Hp} {Q:VK} (ty:TyOf K H x t) (e:PySem.W.kitAny K t [.type "list",.type "tuple"]=some b) (h:∀ H',Same H H' -> Q (.bl b) H'):NewT [.ty "list",.ty "tuple"] H λ v H1=>tNil σ H1 λ xs H2=>zfZ K (x :: v :: xs) H2 Q:=
 zar (3:) λ p H' f s n=>znO ⟨x,p,["list","tuple"],t,b,rfl,n,ty.same s,e,h H' s⟩
def zks {σ:St} {a:Addr} {xs:List V} {H:Hp} {Q:VK} (e:H a=some (.lst xs)) (h:∀ H',Same H H' -> Q (.bl true) H'):NewT [.ty "list",.ty "tuple"] H λ v H1=>tNil σ H1 λ xs H2=>zfZ K (.ref a :: v :: xs) H2 Q:=zfI (.lst e) rfl h
def zkl {σ:St} {a:Addr} {xs:List V} {H:Hp} {Q:VK} (e:H a=some (.tup xs)) (h:∀ H',Same H H' -> Q (.bl true) H'):NewT [.ty "list",.ty "tuple"] H λ v H1=>tNil σ H1 λ xs H2=>zfZ K (.ref a :: v :: xs) H2 Q:=zfI (.tup e) rfl h
def zkq {σ:St} {i:Int} {H:Hp} {Q:VK} (h:∀ H',Same H H' -> Q (.bl false) H'):NewT [.ty "list",.ty "tuple"] H λ v H1=>tNil σ H1 λ xs H2=>zfZ K (.int i :: v :: xs) H2 Q:=zfI (.int i) rfl h
def zkf {σ:St} {i:Str} {H:Hp} {Q:VK} (h:∀ H',Same H H' -> Q (.bl false) H'):NewT [.ty "list",.ty "tuple"] H λ v H1=>tNil σ H1 λ xs H2=>zfZ K (.str i :: v :: xs) H2 Q:=zfI (.str i) rfl h
def zkg {σ:St} {i:Bool} {H:Hp} {Q:VK} (h:∀ H',Same H H' -> Q (.bl false) H'):NewT [.ty "list",.ty "tuple"] H λ v H1=>tNil σ H1 λ xs H2=>zfZ K (.bl i :: v :: xs) H2 Q:=zfI (.bl i) rfl h
end
noncomputable def SqIt:Bool -> Heap -> Addr -> Addr -> Nat -> Prop
 | true,h,it,l,i=>h.IsListIter it l i
 | false,h,it,l,i=>h.IsTupleIter it l i
noncomputable def SqOb:Bool -> Heap -> Addr -> Array Value -> Prop
 | true,h,l,xs=>h.IsList l xs
 | false,h,l,xs=>h.IsTuple l xs
def zdV {prog:Program} {w:World} {A:Around} (hh:A.handled=none) (b:Bool) (it l:Addr) (hne:l ≠ it) (xs:Array Value):Draws prog w A it [it,l] xs.size (λ i v=>xs[i]?=some v) (λ i h=>SqIt b h it l i /\ SqOb b h l xs):=by
 cases b
 ·exact Draws.tuple hh it l hne xs
 ·exact Draws.list hh it l hne xs
def SqIt.keep {b:Bool} {h h':Heap} {it l:Addr} {i:Nat} (x:SqIt b h it l i) (k:∀ o,h.get? it=some o -> h'.get? it=some o):SqIt b h' it l i:=by
 cases b
 ·exact Heap.IsTupleIter.at x k
 ·exact Heap.IsListIter.at x k
def SqOb.keep {b:Bool} {h h':Heap} {l:Addr} {xs:Array Value} (x:SqOb b h l xs) (k:∀ o,h.get? l=some o -> h'.get? l=some o):SqOb b h' l xs:=by
 cases b
 ·exact Heap.IsTuple.at x k
 ·exact Heap.IsList.at x k
def SqIt.look {b:Bool} {h:Heap} {it l:Addr} {i:Nat} (x:SqIt b h it l i):∃ o,h.get? it=some o /\ ∀ v,o.data ≠ .cell v:=by
 cases b
 ·obtain ⟨o,e,c,d⟩:=x; exact ⟨o,e,λ v q=>by rw [d] at q; cases q⟩
 ·obtain ⟨o,e,c,d⟩:=x; exact ⟨o,e,λ v q=>by rw [d] at q; cases q⟩
structure ZA (z TI TO i1 i2:Addr) (f1 f2:List Addr):Prop where
 Iz:TI ≠ z
 Oz:TO ≠ z
 z1:i1 ≠ z
 z2:i2 ≠ z
 IO:TI ≠ TO
 I1:TI ≠ i1
 I2:TI ≠ i2
 O1:TO ≠ i1
 O2:TO ≠ i2
 n12:i1 ≠ i2
 fz1:z ∉ f1
 fO1:TO ∉ f1
 f21:i2 ∉ f1
 fz2:z ∉ f2
 fO2:TO ∉ f2
 f12:i1 ∉ f2
section
variable {prog:Program} {w:World} {A:Around} {E:Value -> Shared -> Prop} {s:Shared}
def zfg {T:Addr} {a b x:Value} {k:Nat} {Q:Unit -> Shared -> Prop} (gT:IsPair s.heap T a b)
  (q:∀ g,g.get? T=some { cls:=.type "tuple",data:=.seq ((#[a,b]:Array Value).setIfInBounds k x) } -> Heap.SameBut T s.heap g -> Q () { s with heap:=g }):wpAny (model prog w) A (updateSeq T (·.setIfInBounds k x)) Q E s:=wpAny_updateSeq_pair gT q
variable {z TI TO i1 i2:Addr} {f1 f2:List Addr} {n1 n2 k:Nat} {P1 P2:Nat -> Value -> Prop} {S1 S2:Nat -> Heap -> Prop} {a b:Value}
def fr1 (D1:Draws prog w A i1 f1 n1 P1 S1) {c:Addr} {h h':Heap} (n:c ∉ f1) (g:Heap.SameBut c h h') (x:S1 k h):S1 k h':=D1.frame _ _ _ x λ _ m _ e=>g.extBut _ _ (λ y=>n (y ▸ m)) e
def ziF {Q:Value -> Shared -> Prop} (D1:Draws prog w A i1 f1 n1 P1 S1) (D2:Draws prog w A i2 f2 n2 P2 S2) (C:ZA z TI TO i1 i2 f1 f2)
  (gz:IsZip s.heap z TI TO .none) (gI:IsPair s.heap TI (.ref i1) (.ref i2)) (gO:IsPair s.heap TO a b) (t1:S1 k s.heap) (t2:S2 k s.heap) (l1:k < n1) (l2:k < n2)
  (q : ∀ x y g tk, P1 k x -> P2 k y -> IsZip g z TI TO (rawInt s.heap.objs.size) -> IsPair g TO x y -> S1 (k + 1) g -> S2 (k + 1) g -> IsPair g s.heap.objs.size x y -> g.objs.size = s.heap.objs.size + 1 ->
   (∀ c o,c ≠ z -> c ≠ TO -> c ≠ i1 -> c ≠ i2 -> s.heap.get? c=some o -> g.get? c=some o) -> Q (.ref s.heap.objs.size) { s with heap:=g,toks:=tk }) :
  wpAny (model prog w) A (Builtin.«zip.__next__» ⟨[.ref z],[]⟩) (λ fin s'=>∃ v,fin=.done (.ret v) /\ Q v s') E s:=by
 show wpAny _ _ (field (.ref z) 2 >>= _) _ _ _;refine wpAny_bind (wpAny_field gz rfl (x:=.bool false) rfl ?_);show wpAny _ _ (field (.ref z) 3 >>= _) _ _ _;refine wpAny_bind (wpAny_field gz rfl (x:=.ref TI) rfl (wpAny_bind (wpAny_seqItems gI rfl ?_)));show wpAny _ _ (Builtin.SmallTypes.ownedTupleIsFree (.ref z) >>= _) _ _ _;refine wpAny_bind ?_;unfold Builtin.SmallTypes.ownedTupleIsFree;refine wpAny_bind (wpAny_field gz rfl (x:=.none) rfl (wpAny_pure ?_));simp only [if_true];refine wpAny_bind (wpAny_rule (wpAny_bind (wpAny_field gz rfl (x:=.ref TO) rfl (wpAny_bind (wpAny_setField_rec gz (5:) λ g1 gz1 e1=>wpAny_bind ?_)))))
 replace gz1:IsZip g1 z TI TO .ellipsis:=gz1
 simp only [List.zipIdx_cons,List.zipIdx_nil,ycw,ycB];refine wpAny_bind (wpAny_bind (wpAny_onRaise ?_));show wpAny _ _ (Builtin.SmallTypes.nextOf (.ref i1) >>= _) _ _ _;refine wpAny_bind (D1.item k { s with heap:=g1 } _ _ l1 (fr1 D1 C.fz1 e1 t1) λ x g2 tk2 px y1 e2=>wpAny_pure ?_);have gO2:IsPair g2 TO a b:=e2.extBut _ _ C.O1 (e1.extBut _ _ C.Oz gO);refine wpAny_bind (wpAny_seqItems gO2 rfl (wpAny_bind (zfg gO2 λ g3 gO3 e3=>?_)))
 replace gO3:IsPair g3 TO x b:=gO3
 refine wpAny_bind (wpAny_letGo (wpAny_pure (wpAny_bind (wpAny_bind (wpAny_onRaise ?_)))));show wpAny _ _ (Builtin.SmallTypes.nextOf (.ref i2) >>= _) _ _ _;have t23:S2 k g3:=fr1 D2 C.fO2 e3 (fr1 D2 C.f12 e2 (fr1 D2 C.fz2 e1 t2));refine wpAny_bind (D2.item k { s with heap:=g3,toks:=tk2 } _ _ l2 t23 λ y g4 tk4 py y2 e4=>wpAny_pure ?_);have gO4:IsPair g4 TO x b:=e4.extBut _ _ C.O2 gO3;refine wpAny_bind (wpAny_seqItems gO4 rfl (wpAny_bind (zfg gO4 λ g5 gO5 e5=>?_)))
 replace gO5:IsPair g5 TO x y:=gO5
 refine wpAny_bind (wpAny_letGo (wpAny_pure (wpAny_pure (wpAny_bind (wpAny_seqItems gO5 rfl (wpAny_bind (wpAny_newTuple ?_)))))));have z5:g5.objs.size=s.heap.objs.size:=((((e5.1).trans e4.1).trans e3.1).trans e2.1).trans e1.1;have gz5:IsZip g5 z TI TO .ellipsis:=e5.extBut _ _ C.Oz.symm (e4.extBut _ _ C.z2.symm (e3.extBut _ _ C.Oz.symm (e2.extBut _ _ C.z1.symm gz1)));have kp5:∀ c o,c ≠ z -> c ≠ TO -> c ≠ i1 -> c ≠ i2 -> s.heap.get? c=some o -> g5.get? c=some o:=λ c o c1 c2 c3 c4 e=>e5.extBut _ _ c2 (e4.extBut _ _ c4 (e3.extBut _ _ c2 (e2.extBut _ _ c3 (e1.extBut _ _ c1 e))));have s15:S1 (k + 1) g5:=fr1 D1 C.fO1 e5 (fr1 D1 C.f21 e4 (fr1 D1 C.fO1 e3 y1));have s25:S2 (k + 1) g5:=fr1 D2 C.fO2 e5 y2;have lz:z < g5.objs.size:=yad gz5;show wpAny _ _ (Builtin.SmallTypes.ownedTupleHandOut (.ref z) (.ref g5.objs.size) >>= _) _ _ _;refine wpAny_bind ?_;unfold Builtin.SmallTypes.ownedTupleHandOut;have gz6:IsZip (g5.push { cls:=.type "tuple",data:=.seq #[x,y] }) z TI TO .ellipsis:=yab _ gz5;refine wpAny_bind (wpAny_setField_rec gz6 (5:) λ g7 gz7 e7=>?_)
 replace gz7:IsZip g7 z TI TO (rawInt g5.objs.size):=gz7
 refine wpAny_setField_rec gz7 (5:) λ g8 gz8 e8=>?_
 replace gz8:IsZip g8 z TI TO (rawInt g5.objs.size):=gz8
 have up:∀ c o,c ≠ z -> g5.get? c=some o -> g8.get? c=some o:=λ c o c1 e=>e8.extBut _ _ c1 (e7.extBut _ _ c1 (yab _ e));have gT8:IsPair g8 g5.objs.size x y:=e8.extBut _ _ (ya5 lz) (e7.extBut _ _ (ya5 lz) (yae _ rfl));have z8:g8.objs.size=g5.objs.size + 1:=by rw [e8.1,e7.1,yba]
 rw [z5] at gz8 gT8 z8;refine wpAny_pure ⟨_,rfl,?_⟩;show Q (.ref g5.objs.size) _;rw [z5];exact q x y g8 tk4 px py gz8 (up _ _ C.Oz gO5) (D1.frame _ _ _ s15 λ c m o e=>up c o (λ u=>C.fz1 (u ▸ m)) e) (D2.frame _ _ _ s25 λ c m o e=>up c o (λ u=>C.fz2 (u ▸ m)) e) gT8 z8 λ c o c1 c2 c3 c4 e=>up c o c1 (kp5 c o c1 c2 c3 c4 e)
def zkF {Q:Fin -> Shared -> Prop} (D1:Draws prog w A i1 f1 n1 P1 S1) (D2:Draws prog w A i2 f2 n2 P2 S2) (C:ZA z TI TO i1 i2 f1 f2)
  (gz:IsZip s.heap z TI TO .none) (gI:IsPair s.heap TI (.ref i1) (.ref i2)) (gO:IsPair s.heap TO a b) (t1:S1 k s.heap) (t2:S2 k s.heap) (l:k=min n1 n2)
  (q:∀ g e tk,(∀ c o,c ≠ z -> c ≠ TO -> c ≠ i1 -> c ≠ i2 -> s.heap.get? c=some o -> g.get? c=some o) -> (∃ o,g.get? e=some o /\ o.cls=.type "StopIteration") -> E (.ref e) { s with heap:=g,toks:=tk }) :
  wpAny (model prog w) A (Builtin.«zip.__next__» ⟨[.ref z],[]⟩) Q E s:=by
 show wpAny _ _ (field (.ref z) 2 >>= _) _ _ _;refine wpAny_bind (wpAny_field gz rfl (x:=.bool false) rfl ?_);show wpAny _ _ (field (.ref z) 3 >>= _) _ _ _;refine wpAny_bind (wpAny_field gz rfl (x:=.ref TI) rfl (wpAny_bind (wpAny_seqItems gI rfl ?_)));show wpAny _ _ (Builtin.SmallTypes.ownedTupleIsFree (.ref z) >>= _) _ _ _;refine wpAny_bind ?_;unfold Builtin.SmallTypes.ownedTupleIsFree;refine wpAny_bind (wpAny_field gz rfl (x:=.none) rfl (wpAny_pure ?_));simp only [if_true];refine wpAny_bind (wpAny_rule (wpAny_bind (wpAny_field gz rfl (x:=.ref TO) rfl (wpAny_bind (wpAny_setField_rec gz (5:) λ g1 gz1 e1=>wpAny_bind ?_)))))
 replace gz1:IsZip g1 z TI TO .ellipsis:=gz1
 simp only [List.zipIdx_cons,List.zipIdx_nil,ycw,ycB];refine wpAny_bind (wpAny_bind (wpAny_onRaise ?_));show wpAny _ _ (Builtin.SmallTypes.nextOf (.ref i1) >>= _) _ _ _;have t11:S1 k g1:=fr1 D1 C.fz1 e1 t1;by_cases hk:k < n1
 ·have hk2 : k = n2 := by omega
  refine wpAny_bind (D1.item k { s with heap:=g1 } _ _ hk t11 λ x g2 tk2 px y1 e2=>wpAny_pure ?_);have gO2:IsPair g2 TO a b:=e2.extBut _ _ C.O1 (e1.extBut _ _ C.Oz gO);refine wpAny_bind (wpAny_seqItems gO2 rfl (wpAny_bind (zfg gO2 λ g3 gO3 e3=>?_)));refine wpAny_bind (wpAny_letGo (wpAny_pure (wpAny_bind (wpAny_bind (wpAny_onRaise ?_)))));show wpAny _ _ (Builtin.SmallTypes.nextOf (.ref i2) >>= _) _ _ _;have t23:S2 k g3:=fr1 D2 C.fO2 e3 (fr1 D2 C.f12 e2 (fr1 D2 C.fz2 e1 t2));refine wpAny_bind (D2.done { s with heap:=g3,toks:=tk2 } _ _ (hk2 ▸ t23) λ g4 e e4 he=>?_);obtain ⟨oe,hoe,hce⟩:=he;have gz4:IsZip g4 z TI TO .ellipsis:=e4 _ _ C.z2.symm (e3.extBut _ _ C.Oz.symm (e2.extBut _ _ C.z1.symm gz1));have ne:e ≠ z:=λ y=>by subst y; rw [gz4] at hoe; cases hoe; simp at hce
  exact wpAny_setField_rec gz4 (5:) λ g5 _ e5=>q g5 e tk2 (λ c o c1 c2 c3 c4 y=>e5.extBut _ _ c1 (e4 _ _ c4 (e3.extBut _ _ c2 (e2.extBut _ _ c3 (e1.extBut _ _ c1 y))))) ⟨oe,e5.extBut _ _ ne hoe,hce⟩
 ·have hk1 : k = n1 := by omega
  refine wpAny_bind (D1.done { s with heap:=g1 } _ _ (hk1 ▸ t11) λ g2 e e2 he=>?_);obtain ⟨oe,hoe,hce⟩:=he;have gz2:IsZip g2 z TI TO .ellipsis:=e2 _ _ C.z1.symm gz1;have ne:e ≠ z:=λ y=>by subst y; rw [gz2] at hoe; cases hoe; simp at hce
  exact wpAny_setField_rec gz2 (5:) λ g3 _ e3=>q g3 e s.toks (λ c o c1 _ c3 _ y=>e3.extBut _ _ c1 (e2 _ _ c3 (e1.extBut _ _ c1 y))) ⟨oe,e3.extBut _ _ ne hoe,hce⟩
def zeA {Q:Option Value -> Shared -> Prop} (D1:Draws prog w A.in1 i1 f1 n1 P1 S1) (D2:Draws prog w A.in1 i2 f2 n2 P2 S2) (C:ZA z TI TO i1 i2 f1 f2)
  (gz:IsZip s.heap z TI TO .none) (gI:IsPair s.heap TI (.ref i1) (.ref i2)) (gO:IsPair s.heap TO a b) (t1:S1 k s.heap) (t2:S2 k s.heap) (l1:k < n1) (l2:k < n2)
  (q : ∀ x y g tk, P1 k x -> P2 k y -> IsZip g z TI TO (rawInt s.heap.objs.size) -> IsPair g TO x y -> S1 (k + 1) g -> S2 (k + 1) g -> IsPair g s.heap.objs.size x y -> g.objs.size = s.heap.objs.size + 1 ->
   (∀ c o,c ≠ z -> c ≠ TO -> c ≠ i1 -> c ≠ i2 -> s.heap.get? c=some o -> g.get? c=some o) -> Q (some (.ref s.heap.objs.size)) { s with heap:=g,toks:=tk }):wpAny (model prog w) A (pyNext (.ref z)) Q E s:=by
 have hT:s.TypeIs (.ref z) "zip":=⟨_,gz,rfl⟩
 unfold pyNext;exact wpAny_bind (wpAny_attempt (wpAny_callSpecial?_slot (name:=Str.ofString "__next__") hT ycy (wpAny_call_entry ycy hT F.entry_zip_next (ziF D1 D2 C gz gI gO t1 t2 l1 l2 λ x y g tk p1 p2 a1 a2 a3 a4 a5 a6 a7=>wpAny_pure (q x y g tk p1 p2 a1 a2 a3 a4 a5 a6 a7)) (F.args_zip_next_1 _))))
def ze0 {Q:Option Value -> Shared -> Prop} (D1:Draws prog w A.in1 i1 f1 n1 P1 S1) (D2:Draws prog w A.in1 i2 f2 n2 P2 S2) (C:ZA z TI TO i1 i2 f1 f2)
  (gz:IsZip s.heap z TI TO .none) (gI:IsPair s.heap TI (.ref i1) (.ref i2)) (gO:IsPair s.heap TO a b) (t1:S1 k s.heap) (t2:S2 k s.heap) (l:k=min n1 n2)
  (q:∀ g tk,(∀ c o,c ≠ z -> c ≠ TO -> c ≠ i1 -> c ≠ i2 -> s.heap.get? c=some o -> g.get? c=some o) -> Q none { s with heap:=g,toks:=tk }):wpAny (model prog w) A (pyNext (.ref z)) Q E s:=by
 have hT:s.TypeIs (.ref z) "zip":=⟨_,gz,rfl⟩
 unfold pyNext;refine wpAny_bind (wpAny_attempt (wpAny_callSpecial?_slot (name:=Str.ofString "__next__") hT ycy (wpAny_call_entry ycy hT F.entry_zip_next (zkF D1 D2 C gz gI gO t1 t2 l λ g e tk kp ⟨o,ho,hc⟩=>?_) (F.args_zip_next_1 _))));exact wpAny_bind (wpAny_isInstance (T:="StopIteration") (b:=true) ⟨o,ho,hc⟩ isSubtype_stop (wpAny_pure (q _ _ kp)))
end
noncomputable def itN (b:Bool):String:=if b then "list_iterator" else "tuple_iterator"
noncomputable abbrev zG1 (b1:Bool) (h:Heap) (l1:Addr):Heap:=h.push { cls:=.type (itN b1),data:=.fields #[.ref l1,.int 0 0] }
noncomputable abbrev zG2 (b1 b2:Bool) (h:Heap) (l1 l2:Addr):Heap:=(zG1 b1 h l1).push { cls:=.type (itN b2),data:=.fields #[.ref l2,.int 0 0] }
noncomputable abbrev zG3 (b1 b2:Bool) (h:Heap) (l1 l2:Addr):Heap:=(zG2 b1 b2 h l1 l2).push { cls:=.type "tuple",data:=.seq #[.ref h.objs.size,.ref (zG1 b1 h l1).objs.size] }
noncomputable abbrev zG4 (b1 b2:Bool) (h:Heap) (l1 l2:Addr):Heap:=(zG3 b1 b2 h l1 l2).push { cls:=.type "tuple",data:=.seq #[.none,.none] }
noncomputable abbrev zG5 (b1 b2:Bool) (h:Heap) (l1 l2:Addr):Heap:=(zG4 b1 b2 h l1 l2).push { cls:=.type "zip",data:=.fields #[.none,.bool false,.bool false,.ref (zG2 b1 b2 h l1 l2).objs.size,.ref (zG3 b1 b2 h l1 l2).objs.size] }
set_option maxHeartbeats 4000000 in
def zhT (b1 b2:Bool) (l1 l2:Addr) (xs ys:Array Value) :
  Meets (Builtin.«zip.__new__» ⟨[.type "zip",.ref l1,.ref l2],[]⟩) (λ _ R s=>SqOb b1 s.heap l1 xs /\ SqOb b2 s.heap l2 ys /\ R (.ok (.ret (.ref (zG4 b1 b2 s.heap l1 l2).objs.size))) { s with heap:=zG5 b1 b2 s.heap l1 l2 }):=
 .of_wp λ prog w A R s h=>by
  obtain ⟨hp,g,d,tk,os⟩:=s; obtain ⟨x1,x2,h⟩:=h;have hsub:=sub_zip;cases b1 <;> cases b2
  ·have y1 : Heap.IsTuple (Shared.heap ⟨hp, g, d, tk, os⟩) l1 xs := x1;have y2 : Heap.IsTuple (Shared.heap ⟨hp.push { cls := .type "tuple_iterator", data := .fields #[.ref l1, .int 0 0] }, g, d, tk, os⟩) l2 ys := SqOb.keep (b := false) x2 fun o e => yab _ e
   wp_walk using wpAny_pyIter_tuple y1,wpAny_pyIter_tuple y2
   exact ⟨_,rfl,h⟩
  ·have y1 : Heap.IsTuple (Shared.heap ⟨hp, g, d, tk, os⟩) l1 xs := x1;have y2 : Heap.IsList (Shared.heap ⟨hp.push { cls := .type "tuple_iterator", data := .fields #[.ref l1, .int 0 0] }, g, d, tk, os⟩) l2 ys := SqOb.keep (b := true) x2 fun o e => yab _ e
   wp_walk using wpAny_pyIter_tuple y1,wpAny_pyIter_list y2
   exact ⟨_,rfl,h⟩
  ·have y1 : Heap.IsList (Shared.heap ⟨hp, g, d, tk, os⟩) l1 xs := x1;have y2 : Heap.IsTuple (Shared.heap ⟨hp.push { cls := .type "list_iterator", data := .fields #[.ref l1, .int 0 0] }, g, d, tk, os⟩) l2 ys := SqOb.keep (b := false) x2 fun o e => yab _ e
   wp_walk using wpAny_pyIter_list y1,wpAny_pyIter_tuple y2
   exact ⟨_,rfl,h⟩
  ·have y1 : Heap.IsList (Shared.heap ⟨hp, g, d, tk, os⟩) l1 xs := x1;have y2 : Heap.IsList (Shared.heap ⟨hp.push { cls := .type "list_iterator", data := .fields #[.ref l1, .int 0 0] }, g, d, tk, os⟩) l2 ys := SqOb.keep (b := true) x2 fun o e => yab _ e
   wp_walk using wpAny_pyIter_list y1,wpAny_pyIter_list y2
   exact ⟨_,rfl,h⟩
section
variable {prog:Program} {w:World} {A:Around} {E:Value -> Shared -> Prop} {s:Shared}
def zjS (b1 b2:Bool) {l1 l2:Addr} {xs ys:Array Value} {Q:Value -> Shared -> Prop} (x1:SqOb b1 s.heap l1 xs) (x2:SqOb b2 s.heap l2 ys)
  (q : ∀ g, IsZip g (s.heap.objs.size + 4) (s.heap.objs.size + 2) (s.heap.objs.size + 3) .none -> IsPair g (s.heap.objs.size + 2) (.ref s.heap.objs.size) (.ref (s.heap.objs.size + 1)) -> IsPair g (s.heap.objs.size + 3) .none .none ->
   SqIt b1 g s.heap.objs.size l1 0 -> SqIt b2 g (s.heap.objs.size + 1) l2 0 -> (∀ c o,s.heap.get? c=some o -> g.get? c=some o) -> Q (.ref (s.heap.objs.size + 4)) { s with heap:=g }) :
  wpAny (model prog w) A (call (.type "zip") [.ref l1,.ref l2]) Q E s:=by
 refine callType_new F.called_zip (3:) (F.typeCall_zip_2 _ _) (F.newCall_zip_2 _ _) (λ obj=>F.args_object_init_3 obj _ _) F.entry_zip_new (zhT b1 b2 l1 l2 xs ys) ⟨x1,x2,?_⟩;have z1:(zG1 b1 s.heap l1).objs.size=s.heap.objs.size + 1:=yba ..;have z2:(zG2 b1 b2 s.heap l1 l2).objs.size=s.heap.objs.size + 2:=by rw [yba,z1]
 have z3:(zG3 b1 b2 s.heap l1 l2).objs.size=s.heap.objs.size + 3:=by rw [yba,z2]
 have z4:(zG4 b1 b2 s.heap l1 l2).objs.size=s.heap.objs.size + 4:=by rw [yba,z3]
 have p:∀ {h:Heap} {ob:Obj} {c:Addr} {o:Obj},h.get? c=some o -> (h.push ob).get? c=some o:=λ e=>yab _ e;have g5:(zG5 b1 b2 s.heap l1 l2).get? (zG4 b1 b2 s.heap l1 l2).objs.size=some _:=yae _ rfl;have g4:(zG5 b1 b2 s.heap l1 l2).get? (zG3 b1 b2 s.heap l1 l2).objs.size=some _:=p (yae _ rfl);have g3:(zG5 b1 b2 s.heap l1 l2).get? (zG2 b1 b2 s.heap l1 l2).objs.size=some _:=p (p (yae _ rfl));have g2:(zG5 b1 b2 s.heap l1 l2).get? (zG1 b1 s.heap l1).objs.size=some _:=p (p (p (yae _ rfl)));have g1:(zG5 b1 b2 s.heap l1 l2).get? s.heap.objs.size=some _:=p (p (p (p (yae _ rfl))));show _ /\ _;rw [z2,z3,z4] at g5;rw [z1,z2] at g3;rw [z3] at g4;rw [z1] at g2;rw [z4];have s1:SqIt b1 (zG5 b1 b2 s.heap l1 l2) s.heap.objs.size l1 0:=by cases b1 <;> exact ⟨_,g1,rfl,rfl⟩
 have s2:SqIt b2 (zG5 b1 b2 s.heap l1 l2) (s.heap.objs.size + 1) l2 0:=by cases b2 <;> exact ⟨_,g2,rfl,rfl⟩
 exact ⟨⟨_,g5,rfl⟩,q _ g5 g3 g4 s1 s2 λ c o x=>p (p (p (p (p x))))⟩
end
noncomputable def SqB:Bool -> PySem.W.Frag -> Hp -> Addr -> List V -> Prop
 | true,K,H,a,xs=>SqL K H a xs
 | false,K,H,a,xs=>SqT K H a xs
def SqB.look {X:Cx} {pins:List (Addr × Obj)} {σ:St} {H:Hp} {s:Shared} {b:Bool} {a:Addr} {xs:List V} (I:Inv X pins σ H s) (h:SqB b X.K H a xs):∃ its:List Value,Vals xs its /\ SqOb b s.heap a its.toArray:=by
 cases b
 ·obtain ⟨its,r,p,_⟩:=I.tuple h; exact ⟨its,r,p⟩
 ·obtain ⟨its,r,p,_⟩:=I.list h; exact ⟨its,r,p.isList⟩
def SqOb.lt {b:Bool} {h:Heap} {a:Addr} {xs:Array Value} (x:SqOb b h a xs):a < h.objs.size:=by
 cases b <;> (obtain ⟨o,e,_⟩:=x; exact yad e)
noncomputable def ItzB (b1 b2:Bool) (K:PySem.W.Frag) (a b:Addr) (xs ys:List V):It:=
 ⟨fun i H => i < min xs.length ys.length /\ SqB b1 K H a xs /\ SqB b2 K H b ys, fun i H x H' => ∃ T u v, x = .ref T /\ H T = none /\ H' = upd H T (.tup [u, v]) /\ xs[i]? = some u /\ ys[i]? = some v,
  λ i H=>i=min xs.length ys.length /\ SqB b1 K H a xs /\ SqB b2 K H b ys⟩
def zjq {P:Program} {w:World} {K:PySem.W.Frag} {elts:List Expr} {kk:Nat} {tpos:Pos} (b1 b2:Bool) (a b z TI TO i1 i2:Addr) (hne:[z,TI,TO,i1,i2].Nodup) (ha:a ∉ [z,TI,TO,i1,i2]) (hb:b ∉ [z,TI,TO,i1,i2]) (xs ys:List V) :
  Turn P w K (.Tuple elts kk tpos) (ItzB b1 b2 K a b xs ys) [z,TI,TO,i1,i2] z (λ i h=>IsZip h z TI TO .none /\ IsPair h TI (.ref i1) (.ref i2) /\ (∃ u v,IsPair h TO u v) /\ SqIt b1 h i1 a i /\ SqIt b2 h i2 b i):=by
 have C:ZA z TI TO i1 i2 [i1,a] [i2,b]:=by
  simp only [ybI,yal,not_or,yaH,not_false_eq_true,and_true,List.nodup_nil] at hne ha hb;obtain ⟨⟨h1,h2,h3,h4⟩,⟨h5,h6,h7⟩,⟨h8,h9⟩,h10⟩:=hne;obtain ⟨a1,a2,a3,a4,a5⟩:=ha;obtain ⟨c1,c2,c3,c4,c5⟩:=hb;exact ⟨ybF h1,ybF h2,ybF h3,ybF h4,h5,h6,h7,h8,h9,h10,by simp [h3,ybF a1],by simp [h8,ybF a3],by simp [ybF h10,ybF a5],by simp [h4,ybF c1],by simp [h9,ybF c3],by simp [h10,ybF c4]⟩
 have na1:a ≠ i1:=by simp only [yal,not_or] at ha; exact ha.2.2.2.1
 have nb2:b ≠ i2:=by simp only [yal,not_or] at hb; exact hb.2.2.2.2.1
 have wr:∀ c,c ∈ [z,TO,i1,i2] -> c ∈ [z,TI,TO,i1,i2]:=λ c hc=>by
  simp only [yal,yaH,or_false] at hc ⊢;rcases hc with h | h | h | h <;> simp [h]
 refine ⟨by simp,?_,?_,?_,?_,?_⟩
 ·rintro i h ⟨gz, gI, ⟨u, v, gO⟩, h1, h2⟩ c hc;simp only [yal, yaH, or_false] at hc;rcases hc with rfl | rfl | rfl | rfl | rfl
  ·exact ⟨_,gz,nofun⟩
  ·exact ⟨_,gI,nofun⟩
  ·exact ⟨_,gO,nofun⟩
  ·exact h1.look
  ·exact h2.look
 ·rintro i h h' ⟨gz,gI,⟨u,v,gO⟩,h1,h2⟩ kp;exact ⟨kp z (5:) _ gz,kp TI (5:) _ gI,⟨u,v,kp TO (5:) _ gO⟩,h1.keep λ o e=>kp i1 (5:) o e,h2.keep λ o e=>kp i2 (5:) o e⟩
 ·intro X hP hw hK hc i pins s σ H E I hf st hg;subst hP hw hK;obtain ⟨hi, qa, qb⟩ := hg;obtain ⟨gz, gI, ⟨u0, v0, gO⟩, h1, h2⟩ := st;obtain ⟨ia, ra, pa⟩ := qa.look I;obtain ⟨ib, rb, pb⟩ := qb.look I;have la := ra.length;have lb := rb.length;have hh : X.A.in1.handled = none := I.ok.hd hc;have hix : i < xs.length := by omega
  have hiy:i < ys.length:=by omega
  refine zeA (zdV hh b1 i1 a na1 ia.toArray) (zdV hh b2 i2 b nb2 ib.toArray) C gz gI gO ⟨h1,pa⟩ ⟨h2,pb⟩ (41:) (41:) λ u v g tk eu ev gz1 gO1 s1 s2 gT gs kp=>?_;refine ⟨_,rfl,wpAny_letOwnedTupleGo_zip gz1 λ g2 gz2 e2=>?_⟩;have eu':ia[i]?=some u:=by simpa using eu
  have ev':ib[i]?=some v:=by simpa using ev
  obtain ⟨u',hu',ru⟩:=ra.get (yaa hix);obtain ⟨v',hv',rv⟩:=rb.get (yaa hiy);rw [eu'] at hu'; cases hu';rw [ev'] at hv'; cases hv';have lz:z < s.heap.objs.size:=yad gz;have hT2:za5 g2 s.heap.objs.size [u,v].toArray:=⟨_,e2.extBut _ _ (ya5 lz) gT,rfl,rfl,_,rfl⟩
  have keepAll:∀ c o,c ∉ [z,TO,i1,i2] -> s.heap.get? c=some o -> g2.get? c=some o:=λ c o hc e=>by
   simp only [yal,yaH,or_false,not_or] at hc;exact e2.extBut _ _ hc.1 (kp c o hc.1 hc.2.1 hc.2.2.1 hc.2.2.2 e)
  refine ⟨.ref s.heap.objs.size,upd H s.heap.objs.size (.tup [xs[i],ys[i]]),I.turnTup (ch:=[z,TO,i1,i2]) (t':=tk) (λ c hc=>hf c (wr c hc)) keepAll (yag _) hT2 (.cons ru (.cons rv .nil)) (76:),rfl,
   ⟨_,_,_,rfl,I.hok.fresh (yag _),rfl,yaa hix,yaa hiy⟩,⟨gz2,e2.extBut _ _ C.Iz (kp _ _ C.Iz C.IO C.I1 C.I2 gI),⟨_,_,e2.extBut _ _ C.Oz gO1⟩,s1.1.keep λ o e=>e2.extBut _ _ C.z1 e,s2.1.keep λ o e=>e2.extBut _ _ C.z2 e⟩,λ c hc=>?_⟩
  have hcl:c < s.heap.objs.size:=by
   simp only [yal,yaH,or_false] at hc;rcases hc with rfl | rfl | rfl | rfl | rfl
   ·exact yad gz
   ·exact yad gI
   ·exact yad gO
   ·obtain ⟨o,e,_⟩:=h1.look; exact yad e
   ·obtain ⟨o,e,_⟩:=h2.look; exact yad e
  rw [zak (yau hcl)];exact (hf c hc).1
 ·intro X hP hw hK hc i pins s σ H E I hf st hg;subst hP hw hK;obtain ⟨hi, qa, qb⟩ := hg;obtain ⟨gz, gI, ⟨u0, v0, gO⟩, h1, h2⟩ := st;obtain ⟨ia, ra, pa⟩ := qa.look I;obtain ⟨ib, rb, pb⟩ := qb.look I;have la := ra.length;have lb := rb.length;have hh : X.A.in1.handled = none := I.ok.hd hc;refine ze0 (zdV hh b1 i1 a na1 ia.toArray) (zdV hh b2 i2 b nb2 ib.toArray) C gz gI gO ⟨h1, pa⟩ ⟨h2, pb⟩ (41:) fun g tk kp => ⟨rfl, I.turnL (ch := [z, TO, i1, i2]) (fun c hc => hf c (wr c hc)) fun c o hc e => ?_⟩
  simp only [yal,yaH,or_false,not_or] at hc;exact kp c o hc.1 hc.2.1 hc.2.2.1 hc.2.2.2 e
 ·rintro A i s Q E ⟨gz,_⟩ h;exact wpAny_pyIter_zip gz h
noncomputable def znv (K:PySem.W.Frag) (ta:TA):TI:=λ σ H R=>ta σ H λ vs H1=>∃ (a b:Addr) (xs ys:List V) (b1 b2:Bool),vs=[.ref a,.ref b] /\ SqB b1 K H1 a xs /\ SqB b2 K H1 b ys /\ R (ItzB b1 b2 K a b xs ys) H1
def zi6 {X:Cx} {K:PySem.W.Frag} {a b:Expr} {tA:TA} {elts:List Expr} {kk:Nat} {tpos p pos:Pos} (hm:X.mg "zip"=none) (ha:PA X [a,b] tA) (hg:Gl X "zip":=by rfl)
  (hs:starEach [a,b] X.env=[(false,eval a X.env),(false,eval b X.env)]:=by rfl) (hs2:starEach [b] X.env=[(false,eval b X.env)]:=by rfl) (hK:X.K=K:=by rfl):PI X (.Tuple elts kk tpos) (.Call (.Name "zip" p) [a,b] [] pos) (znv K tA):=by
 subst hK;intro pins s σ H R I h;refine Call_ (zcg I hg hm boot_zip (yaJ (thn (ha pos pins s σ H _ I h) λ us s1 ⟨vs,H1,I1,r1,q1⟩=>?_) (by rw [hs,hs2]) (by rw [hs2]; rfl)));obtain ⟨a,b,xs,ys,b1,b2,rfl,qa,qb,q⟩:=q1;obtain ⟨u,v,rfl,ru,rv⟩:=r1.two;cases ru;cases rv;obtain ⟨ia,ra,pa⟩:=qa.look I1;obtain ⟨ib,rb,pb⟩:=qb.look I1;have al:@LT.lt Nat _ a s1.heap.objs.size:=pa.lt;have bl:@LT.lt Nat _ b s1.heap.objs.size:=pb.lt;refine zjS b1 b2 pa pb λ g gz gI gO h1 h2 kp=>?_;have I2:Inv X pins σ H1 { s1 with heap:=g }:=I1.kept (t':=s1.toks) kp;refine wpAny_pyIter_zip gz ?_;refine ⟨s1.heap.objs.size + 4,[s1.heap.objs.size + 4,s1.heap.objs.size + 2,s1.heap.objs.size + 3,s1.heap.objs.size,s1.heap.objs.size + 1],_,_,H1,rfl,I2,zjq b1 b2 a b _ _ _ _ _ (5:) ?_ ?_ xs ys,⟨gz,gI,⟨_,_,gO⟩,h1,h2⟩,λ c hc=>?_,q⟩
 ·intro z;simp only [yal,yaH,or_false] at z;rcases z with z | z | z | z | z <;> (have z':@Eq Nat a _:=z; omega)
 ·intro z;simp only [yal,yaH,or_false] at z;rcases z with z | z | z | z | z <;> (have z':@Eq Nat b _:=z; omega)
 ·have hc':s1.heap.objs.size <= c:=by
   simp only [yal,yaH,or_false] at hc;show @LE.le Nat _ s1.heap.objs.size c;rcases hc with z | z | z | z | z <;> (have z':@Eq Nat c _:=z; omega)
  exact I1.fpOk hc' (I1.hok.fresh hc')
def znz {K:PySem.W.Frag} {σ:St} {H:Hp} {t:TA} {R:It -> Hp -> Prop} (h:t σ H λ vs H1=>∃ (a b:Addr) (xs ys:List V) (b1 b2:Bool),vs=[.ref a,.ref b] /\ SqB b1 K H1 a xs /\ SqB b2 K H1 b ys /\ R (ItzB b1 b2 K a b xs ys) H1):znv K t σ H R:=h
def zfA {K:PySem.W.Frag} {b1 b2:Bool} {a b:Addr} {xs ys:List V} {src:List (Option Nat)} {σ:St} {g:TG} {tc:TT} {te:TE} {Q:VK} {H:Hp} (Pv:Nat -> List V -> Hp -> Prop) (h0:Pv 0 [] H) (len:∀ i acc H,Pv i acc H -> acc.length <= sizeLine)
  (hl:∀ i acc H,Pv i acc H -> SqB b1 K H a xs /\ SqB b2 K H b ys)
  (step:∀ i u v T acc H,xs[i]?=some u -> ys[i]?=some v -> H T=none -> Pv i acc H -> g (.ref T) (capt src σ) (upd H T (.tup [u,v])) λ σ2 H2=>Ext (capt src σ) σ2 /\ tc σ2 H2 λ b H3=>if b=true then te σ2 H3 (λ y H4=>Pv (i + 1) (acc ++ [y]) H4) else Pv (i + 1) acc H3)
  (done:∀ acc H,Pv (min xs.length ys.length) acc H -> ∀ p,H p=none -> Q (.ref p) (upd H p (.lst acc))):zcb (ItzB b1 b2 K a b xs ys) src σ g tc te Q H:=by
 refine ⟨λ i m acc H=>m=min xs.length ys.length - i /\ i <= min xs.length ys.length /\ Pv i acc H,⟨min xs.length ys.length,by simp,yaQ _,h0⟩,?_⟩;rintro i m acc H ⟨rfl,hi,p⟩;refine ⟨len i acc H p,?_⟩;by_cases hlt:i < min xs.length ys.length
 ·refine .inr ⟨⟨hlt,hl i acc H p⟩,λ y H4=>Pv (i + 1) (acc ++ [y]) H4,λ H3=>Pv (i + 1) acc H3,λ y H4 q=>⟨min xs.length ys.length - (i + 1),by omega,rfl,hlt,q⟩,λ H3 q=>⟨min xs.length ys.length - (i + 1),by omega,rfl,hlt,q⟩,λ x H' y=>?_⟩;obtain ⟨T,u,v,rfl,hT,rfl,hu,hv⟩:=y;exact step i u v T acc H hu hv hT p
 ·have e : i = min xs.length ys.length := by omega
  subst e;exact .inl ⟨⟨rfl,hl _ acc H p⟩,done acc H p⟩
inductive Alike (H:Hp):Nat -> V -> V -> Prop where
 | non (n:Nat):Alike H n .non .non
 | bl (n:Nat) (b:Bool):Alike H n (.bl b) (.bl b)
 | int (n:Nat) (i:Int):Alike H n (.int i) (.int i)
 | str (n:Nat) (s:Str) (h:shpd (.str s)=true):Alike H n (.str s) (.str s)
 | lst {n:Nat} {a b:Addr} {xs ys:List V} (ha:H a=some (.lst xs)) (hb:H b=some (.lst ys)) (hl:xs.length=ys.length) (hz:xs.length <= 10000) (hi:∀ (i:Nat) (x y:V),xs[i]?=some x -> ys[i]?=some y -> Alike H n x y):Alike H (n + 1) (.ref a) (.ref b)
 | tup {n:Nat} {a b:Addr} {xs ys:List V} (ha:H a=some (.tup xs)) (hb:H b=some (.tup ys)) (hl:xs.length=ys.length) (hz:xs.length <= 10000) (hi:∀ (i:Nat) (x y:V),xs[i]?=some x -> ys[i]?=some y -> Alike H n x y):Alike H (n + 1) (.ref a) (.ref b)
def Alike.same {H H':Hp} (s:Same H H') {n:Nat} {x y:V} (h:Alike H n x y):Alike H' n x y:=by
 induction h with
 | non n=>exact .non n
 | bl n b=>exact .bl n b
 | int n i=>exact .int n i
 | str n t h=>exact .str n t h
 | lst ha hb hl hz _ ih=>exact .lst (s _ _ ha) (s _ _ hb) hl hz ih
 | tup ha hb hl hz _ ih=>exact .tup (s _ _ ha) (s _ _ hb) hl hz ih
noncomputable def zc3:Nat -> Sp
 | 0=>λ _ _ _ _=>False
 | n + 1=>λ vs H Q _=>∃ x y,vs=[x,y] /\ Alike H n x y /\ ∀ H',Same H H' -> Q (.bl true) H'
def Alike.ints {H:Hp} {n:Nat} {ls:List Int}:∀ (i:Nat) (x y:V),(ls.map V.int)[i]?=some x -> (ls.map V.int)[i]?=some y -> Alike H n x y:=λ i x y hx hy=>by
 rw [hx] at hy;cases hy;obtain ⟨z,_,rfl⟩:=zbc hx;exact .int n z
def Alike.tints {H:Hp} {n:Nat} {a b:Addr} {ls:List Int} (ha:H a=some (.tup (ls.map V.int))) (hb:H b=some (.tup (ls.map V.int))) (hz:ls.length <= 10000):Alike H (n + 1) (.ref a) (.ref b):=.tup ha hb rfl (by rw [yac]; exact hz) Alike.ints
section
variable {K:PySem.W.Frag} {H:Hp} {Q:VK}
def zfj {x:V} {T:String} {t:Value} {b:Bool} (ty:TyOf K H x t) (e:PySem.W.kitOne K t (.type T)=some b) (h:Q (.bl b) H):rIsi K [x,.ty T] H Q:=⟨x,T,t,b,rfl,ty,e,h⟩
def zhz (n:Nat):(λ bs:List Bool=>bs.all id) (List.replicate n true)=true:=by simp
end
noncomputable def zdg (w m:Nat) (n:Int):Bool:=(zae m).all λ (p:Nat)=>decide ((0:Int) <= (p:Int) + n) && decide ((p:Int) + n <= (w:Int) - 1)
section
variable {K:PySem.W.Frag} {H:Hp} {Q:VK} {x y:V} {d:PyData}
end
noncomputable def Dd.dat:Dd -> PyData
 | .and m=>.tuple [.str "and",.int m]
 | .or m=>.tuple [.str "or",.int m]
 | .left n=>.tuple [.str "left",.int n]
 | .right n=>.tuple [.str "right",.int n]
 | .turn n=>.tuple [.str "turn",.int n]
 | .gather m=>.tuple [.str "gather",.int m]
 | .strew m=>.tuple [.str "strew",.int m]
 | .swap m n=>.tuple [.str "swap",.int m,.int n]
 | .copy m n=>.tuple [.str "copy",.int m,.int n]
def zou {K:PySem.W.Frag} {H:Hp} {a:Addr} {s:Str} {i:Int} (h:H a=some (.tup [.str s,.int i])):DatV K H (.tuple [.str s,.int i]) (.ref a):=DatV.tuple (SqT.of h) (.cons (.str K H s) (.cons (.int K H i) .nil))
def znP {K:PySem.W.Frag} {H:Hp} {a:Addr} {s:Str} {i j:Int} (h:H a=some (.tup [.str s,.int i,.int j])):DatV K H (.tuple [.str s,.int i,.int j]) (.ref a):=DatV.tuple (SqT.of h) (.cons (.str K H s) (.cons (.int K H i) (.cons (.int K H j) .nil)))
def Dd.datv {K:PySem.W.Frag} {H:Hp} {a:Addr} {d:Dd} (h:H a=some (.tup d.vals)):DatV K H d.dat (.ref a):=by
 cases d
 case swap m n=>exact znP h
 case copy m n=>exact znP h
 all_goals exact zou h
def Dd.dat_ok (d:Dd):d.dat.canLay0=true /\ d.dat.depth <= 1:=by
 cases d <;> (simp only [Dd.dat,PyData.canLay0,PyData.canLayAll0,PyData.depth,PyData.depthAll]; exact ⟨by decide +kernel,by decide⟩)
def zjl:∀ ds:List Dd,PyData.canLayAll0 (ds.map Dd.dat)=true /\ PyData.depthAll (ds.map Dd.dat) <= 1
 | []=>by simp [PyData.canLayAll0,PyData.depthAll]
 | d :: ds=>by
  have h:=zjl ds;have k:=d.dat_ok;rw [yaI,PyData.canLayAll0,PyData.depthAll,h.1,k.1];exact ⟨rfl,by omega⟩
def zgh (ds:List Dd):shpd (.list (ds.map Dd.dat))=true:=by
 have h:=zjl ds;show (PyData.canLay0 (.list (ds.map Dd.dat)) && decide (PyData.depth (.list (ds.map Dd.dat)) <= 64))=true;rw [PyData.canLay0,PyData.depth,h.1,decide_eq_true (1:)];rfl
def zgd {K:PySem.W.Frag} {H:Hp}:∀ {L:List (Addr × Dd)},(∀ q ∈ L,H q.1=some (.tup q.2.vals)) -> DatVs K H ((dds L).map Dd.dat) (rowV L)
 | [],_=>.nil
 | q :: L,h=>.cons (Dd.datv (h q (.head _))) (zgd λ r hr=>h r (.tail _ hr))
def ziB {K:PySem.W.Frag} {H:Hp} {w:Nat} {a:Addr} {L:List (Addr × Dd)} (h:H a=some (.lst (rowV L))) (hR:Rw H w L):DatV K H (.list ((dds L).map Dd.dat)) (.ref a):=DatV.list (SqL.of h) (zgd λ q hq=>(hR q hq).1)
noncomputable def SqH (H:Hp) (a:Addr) (xs:List V):Prop:=H a=some (.lst xs) \/ H a=some (.tup xs)
end L2
namespace Bm
end Bm
namespace L2
open PySem PySem.Spec PyProof.Rows Bm
section
variable {X:Cx} {K:PySem.W.Frag}
variable {a b:Expr} {ta:TA} {p p2 pos pos2:Pos}
end
section
variable {σ:St} {H:Hp} {Q:VK}
end
noncomputable def zlP (k:Nat) (ls:List Int):List Int:=ls.map λ e=>if 0 <= e then e + (k:Int) else e
noncomputable def LdE (ls:List Int):Prop:=Ld ls.length ls
noncomputable def Lds (H:Hp) (A:List (Addr × List Int)):Prop:=∀ q ∈ A,H q.1=some (.tup (q.2.map V.int)) /\ LdE q.2
noncomputable def ldD (ls:List Int):PyData:=.tuple (ls.map .int)
def zlb:∀ A:List (List Int),PyData.canLayAll0 (A.map ldD)=true /\ PyData.depthAll (A.map ldD) <= 1
 | []=>by simp [PyData.canLayAll0,PyData.depthAll]
 | l :: A=>by
  have h:=zlb A;have k:=zh5 l;have k1:(ldD l).canLay0=true:=SeqAt.canLay_of_shaped k
  have k2:(ldD l).depth <= 1:=by
   have dp:∀ ns:List Int,PyData.depthAll (ns.map PyData.int)=0:=λ ns=>by
    induction ns with
    | nil=>simp [PyData.depthAll]
    | cons n ns ih=>rw [yaI,PyData.depthAll,ih,PyData.depth]; rfl
   rw [ldD,PyData.depth,dp];omega
  rw [yaI,PyData.canLayAll0,PyData.depthAll,h.1,k1];exact ⟨rfl,by omega⟩
def zhy (A:List (List Int)):shpd (.list (A.map ldD))=true:=by
 have h:=zlb A;show (PyData.canLay0 (.list (A.map ldD)) && decide (PyData.depth (.list (A.map ldD)) <= 64))=true;rw [PyData.canLay0,PyData.depth,h.1,decide_eq_true (1:)];rfl
section
variable {X:Cx}
end
noncomputable def Rws (H:Hp) (w:Nat) (T:List (Addr × List (Addr × Dd))):Prop:=∀ q ∈ T,SqH H q.1 (rowV q.2) /\ Rw H w q.2
noncomputable def Dd.nm:Dd -> Str
 | .and _=>"and" | .or _=>"or" | .left _=>"left" | .right _=>"right" | .turn _=>"turn" | .gather _=>"gather" | .strew _=>"strew" | .swap _ _=>"swap" | .copy _ _=>"copy"
noncomputable def Dd.num:Dd -> Nat
 | .and m=>m | .or m=>m | .left m=>m | .right m=>m | .turn m=>m | .gather m=>m | .strew m=>m | .swap m _=>m | .copy m _=>m
noncomputable def Dd.rest:Dd -> List V
 | .swap _ n=>[nV n] | .copy _ n=>[.int n] | _=>[]
noncomputable def TogV (H:Hp) (r:V):Option Dd -> Prop
 | none=>r=.non
 | some f=>∃ t,r=.ref t /\ H t=some (.tup f.vals)
section
variable {X:Cx} {K:PySem.W.Frag}
end
inductive AlikeI (H:Hp):Nat -> V -> V -> Prop where
 | non (n:Nat):AlikeI H n .non .non
 | int (n:Nat) (i:Int):AlikeI H n (.int i) (.int i)
 | str (n:Nat) (s:Str) (h:shpd (.str s)=true):AlikeI H n (.str s) (.str s)
 | lst {n:Nat} {a b:Addr} {xs ys:List V} (ha:H a=some (.lst xs)) (hb:H b=some (.lst ys)) (hl:xs.length=ys.length) (hz:xs.length <= 10000) (hi:∀ (i:Nat) (x y:V),xs[i]?=some x -> ys[i]?=some y -> AlikeI H n x y):AlikeI H (n + 1) (.ref a) (.ref b)
 | tup {n:Nat} {a b:Addr} {xs ys:List V} (ha:H a=some (.tup xs)) (hb:H b=some (.tup ys)) (hl:xs.length=ys.length) (hz:xs.length <= 10000) (hi:∀ (i:Nat) (x y:V),xs[i]?=some x -> ys[i]?=some y -> AlikeI H n x y):AlikeI H (n + 1) (.ref a) (.ref b)
section
variable {X:Cx}
end
end L2
namespace HT
open PySem PySem.Spec PyProof.Rows
section
variable {prog:Program} {w:World} {A:Around} {E:Value -> Shared -> Prop} {s:Shared}
end
end HT
namespace L2
open PySem PySem.Spec PyProof.Rows Bm
section
variable {X:Cx}
end
noncomputable def SqHB:Bool -> Hp -> Addr -> List V -> Prop
 | true,H,a,xs=>H a=some (.lst xs)
 | false,H,a,xs=>H a=some (.tup xs)
noncomputable def LR (H:Hp) (p l l2:Addr) (w:Nat) (L2 L:List (Addr × Dd)) (H':Hp):Prop:=But p H H' /\ Hand H' p /\ H' l2=some (.lst (rowV L2)) /\ Rw H' w L2 /\ Rw H' w L /\ H' l=some (.lst (rowV L))
def Rw.updL {H:Hp} {w:Nat} {l:Addr} {xs ys:List V} {L:List (Addr × Dd)} (h:Rw H w L) (hl:H l=some (.lst xs)):Rw (upd H l (.lst ys)) w L:=λ q hq=>by
 refine ⟨?_,(h q hq).2⟩;rw [zak (λ e=>?_)]
 ·exact (h q hq).1
 ·have:=(h q hq).1;rw [e,hl] at this;cases this
def Same.updF {H H':Hp} {t:Addr} {o:HO} (s:Same H H') (h:H t=none):Same H (upd H' t o):=λ b u e=>by rw [zak (zam e h)]; exact s b u e
def Same.freeS {H H':Hp} {t:Addr} (s:Same H H') (h:H' t=none):H t=none:=by
 cases e:H t with
 | none=>rfl
 | some o=>rw [s _ _ e] at h; cases h
end L2
namespace L2
open PySem PySem.Spec PyProof.Rows
section
variable {κ:Type} [DecidableEq κ]
noncomputable def valV (kvs:List (κ × V)) (k:κ):Option V:=(kvs.find? λ kv=>decide (kv.1=k)).map (·.2)
noncomputable def putK (kvs:List (κ × V)) (k:κ) (v:V):List (κ × V):=
 if (kvs.any λ kv=>decide (kv.1=k))=true then kvs.map (λ kv=>if kv.1=k then (kv.1,v) else kv) else kvs ++ [(k,v)]
noncomputable def dropK (kvs:List (κ × V)) (k:κ):List (κ × V):=kvs.filter λ kv=>decide (kv.1 ≠ k)
def zaT {p:κ × V} {r:List (κ × V)} {k:κ} (e:p.1=k):valV (p :: r) k=some p.2:=by simp [valV,ybM,e]
def zaI {p:κ × V} {r:List (κ × V)} {k:κ} (e:¬ p.1=k):valV (p :: r) k=valV r k:=by simp [valV,ybM,e]
def zc6 (k:κ):∀ kvs:List (κ × V),(kvs.any λ kv=>decide (kv.1=k))=(valV kvs k).isSome
 | []=>rfl
 | p :: r=>by
  rw [ycs];by_cases e:p.1=k
  ·simp only [zaT e,decide_eq_true e,Bool.true_or,Option.isSome_some]
  ·rw [zaI e,decide_eq_false e,Bool.false_or]; exact zc6 k r
def zhd (k j:κ) (y:V):∀ kvs:List (κ × V),valV (kvs.map λ kv=>if kv.1=k then (kv.1,y) else kv) j=(valV kvs j).map λ x=>if j=k then y else x
 | []=>rfl
 | p :: r=>by
  have ih:=zhd k j y r;rw [yaI];by_cases h:p.1=k
  ·rw [if_pos h];by_cases e : p.1 = j
   ·rw [zaT (p:=(p.1,y)) e,zaT e,yb6,if_pos (e.symm.trans h)]
   ·rw [zaI (p:=(p.1,y)) e,zaI e,ih]
  ·rw [if_neg h];by_cases e : p.1 = j
   ·rw [zaT (p:=p) e,zaT e,yb6,if_neg (λ z=>h (e.trans z))]
   ·rw [zaI (p:=p) e,zaI e,ih]
def zgr (k j:κ) (y:V):∀ kvs:List (κ × V),valV kvs k=none -> valV (kvs ++ [(k,y)]) j=if j=k then some y else valV kvs j
 | [],_=>by
  by_cases e:k=j
  ·rw [if_pos e.symm]; exact zaT (p:=(k,y)) e
  ·rw [if_neg (λ z=>e z.symm)]; exact zaI (p:=(k,y)) e
 | p :: r,hn=>by
  rw [List.cons_append];have hk:¬ p.1=k:=λ z=>by rw [zaT z] at hn; cases hn
  rw [zaI hk] at hn;have ih:=zgr k j y r hn;by_cases e:p.1=j
  ·rw [zaT e,zaT e,if_neg (λ z=>hk (e.trans z))]
  ·rw [zaI e,zaI e,ih]
def zfi (kvs:List (κ × V)) (k j:κ) (y:V):valV (putK kvs k y) j=if j=k then some y else valV kvs j:=by
 unfold putK;by_cases a:(kvs.any λ kv=>decide (kv.1=k))=true
 ·rw [if_pos a, zhd];rw [zc6] at a;by_cases e : j = k
  ·obtain ⟨x,hx⟩:=yb2.mp a;rw [if_pos e,e,hx,yb6,if_pos rfl]
  ·rw [if_neg e];cases valV kvs j with
   | none=>rfl
   | some x=>rw [yb6,if_neg e]
 ·rw [if_neg a];refine zgr k j y kvs ?_;rw [zc6] at a;cases q : valV kvs k with
  | none=>rfl
  | some x=>rw [q] at a; exact (a rfl).elim
def zcV (kvs:List (κ × V)) (k:κ) (v:V):(putK kvs k v).length <= kvs.length + 1:=by
 unfold putK
 split
 ·rw [yac]; omega
 ·rw [yaf,ybi,List.length_nil]; omega
def zhe {kvs:List (κ × V)} {k:κ} (v:V) (h:valV kvs k=none):putK kvs k v=kvs ++ [(k,v)]:=by
 unfold putK;rw [zc6,h];exact if_neg (3:)
def RelO.isSome_eq {o:Option V} {u:Option Value} (r:RelO o u):o.isSome=u.isSome:=by
 cases o with
 | none=>cases u with
  | none=>rfl
  | some _=>exact (show False from r).elim
 | some _=>cases u with
  | none=>exact (show False from r).elim
  | some _=>rfl
def RelO.getD {o:Option V} {u:Option Value} {d:V} {d':Value} (r:RelO o u) (rd:RelV d d'):RelV (o.getD d) (u.getD d'):=by
 cases o with
 | none=>cases u with
  | none=>exact rd
  | some _=>exact (show False from r).elim
 | some _=>cases u with
  | none=>exact (show False from r).elim
  | some _=>exact r
def KV.val {kvs:List (κ × V)} {vs:List (κ × Value)} (r:KV kvs vs) (k:κ):RelO (valV kvs k) (valueAt vs k):=by
 unfold KV at r
 induction r with
 | nil=>exact True.intro
 | @cons p q ps qs h t ih=>
  obtain ⟨h1,h2⟩:=h;by_cases e:p.1=k
  ·have e' : q.1 = k := h1.symm.trans e;have b : valueAt (q :: qs) k = some q.2 := by simp [valueAt, ybM, e']
   rw [zaT e,b]; exact h2
  ·have e' : ¬ q.1 = k := fun z => e (h1.trans z);have b : valueAt (q :: qs) k = valueAt qs k := by simp [valueAt, ybM, e']
   rw [zaI e,b]; exact ih
def KV.any {kvs:List (κ × V)} {vs:List (κ × Value)} (r:KV kvs vs) (k:κ):(kvs.any λ kv=>decide (kv.1=k))=vs.any λ kv=>decide (kv.1=k):=by
 unfold KV at r
 induction r with
 | nil=>rfl
 | cons h t ih=>rw [ycs,ycs,ih,h.1]
def KV.repl {kvs:List (κ × V)} {vs:List (κ × Value)} (r:KV kvs vs) (k:κ) {y:V} {u:Value} (ry:RelV y u) :
  KV (kvs.map λ kv=>if kv.1=k then (kv.1,y) else kv) (vs.map λ kv=>if kv.1=k then (kv.1,u) else kv):=by
 unfold KV at r ⊢
 induction r with
 | nil=>exact .nil
 | @cons p q ps qs h t ih=>
  rw [yaI,yaI];refine .cons ?_ ih;obtain ⟨h1,h2⟩:=h;by_cases e:p.1=k
  ·rw [if_pos e,if_pos (h1.symm.trans e)]; exact ⟨h1,ry⟩
  ·rw [if_neg e,if_neg (λ z=>e (h1.trans z))]; exact ⟨h1,h2⟩
def KV.put {kvs:List (κ × V)} {vs:List (κ × Value)} (r:KV kvs vs) (k:κ) {y:V} {u:Value} (ry:RelV y u):KV (putK kvs k y) (stored vs k u):=by
 unfold putK stored;rw [r.any k];by_cases e:(vs.any λ kv=>decide (kv.1=k))=true
 ·rw [if_pos e,if_pos e]; exact r.repl k ry
 ·rw [if_neg e,if_neg e]; exact Paired.snoc r ⟨rfl,ry⟩
def KV.length {kvs:List (κ × V)} {vs:List (κ × Value)} (r:KV kvs vs):kvs.length=vs.length:=ya2 r
end
def zhX {P:Program} {w:World} {k:Key} {u:Value} (r:RelV (kV k) u):(zaV P w).is k u=true:=by
 cases k with
 | inl i=>obtain ⟨t,e⟩:=(show ∃ t,u=Value.int i t from r); subst e; exact zgL P w i t
 | inr x=>obtain ⟨t,e⟩:=(show ∃ t,u=Value.str x t from r); subst e; exact zgD P w x t
def zfC {P:Program} {w:World}:∀ {ks:List Key} {us:List Value},Vals (ks.map kV) us -> ItemsAre (zaV P w) ks us
 | [],_,r=>by rw [List.map_nil] at r; cases r; exact .nil
 | k :: ks,_,r=>by
  rw [yaI] at r;cases r with
  | cons h t=>exact .cons (zhX h) (zfC t)
noncomputable abbrev KT (H:Hp):List (List Key × V) -> List (List Key × Addr × Value) -> Prop:=Paired λ p q=>p.1=q.1 /\ H q.2.1=some (.tup (p.1.map kV)) /\ RelV p.2 q.2.2
def KT.val {H:Hp} {kvs:List (List Key × V)} {xs:List (List Key × Addr × Value)} (r:KT H kvs xs) (k:List Key):RelO (valV kvs k) ((atKey xs k).map (·.2)):=by
 induction r with
 | nil=>exact True.intro
 | @cons p q ps qs h t ih=>
  obtain ⟨h1,_,h2⟩:=h;by_cases e:p.1=k
  ·have e' : q.1 = k := h1.symm.trans e;have b : atKey (q :: qs) k = some q.2 := by simp [atKey, ybM, e']
   rw [zaT e,b]; exact h2
  ·have e' : ¬ q.1 = k := fun z => e (h1.trans z);have b : atKey (q :: qs) k = atKey qs k := by simp [atKey, ybM, e']
   rw [zaI e,b]; exact ih
def KT.repl {H:Hp} {kvs:List (List Key × V)} {xs:List (List Key × Addr × Value)} (r:KT H kvs xs) (k:List Key) {y:V} {u:Value} (ry:RelV y u) :
  KT H (kvs.map λ kv=>if kv.1=k then (kv.1,y) else kv) (xs.map (putAt k u)):=by
 induction r with
 | nil=>exact .nil
 | @cons p q ps qs h t ih=>
  rw [yaI,yaI];refine .cons ?_ ih;obtain ⟨h1,h2,h3⟩:=h;unfold putAt;by_cases e:p.1=k
  ·rw [if_pos e,if_pos (h1.symm.trans e)]; exact ⟨h1,h2,ry⟩
  ·rw [if_neg e,if_neg (λ z=>e (h1.trans z))]; exact ⟨h1,h2,h3⟩
def KT.put {H:Hp} {kvs:List (List Key × V)} {xs:List (List Key × Addr × Value)} (r:KT H kvs xs) (k:List Key) {b:Addr} {y:V} {u:Value} (hb:H b=some (.tup (k.map kV))) (ry:RelV y u) :
  KT H (putK kvs k y) (storedH xs k b u):=by
 have e:(kvs.any λ kv=>decide (kv.1=k))=(atKey xs k).isSome:=by
  rw [zc6,(r.val k).isSome_eq,Option.isSome_map]
 unfold putK storedH;rw [e];by_cases q:(atKey xs k).isSome=true
 ·rw [if_pos q,if_pos q]; exact r.repl k ry
 ·rw [if_neg q,if_neg q]; exact Paired.snoc r ⟨rfl,hb,ry⟩
def KT.keeps {H H':Hp} {kvs:List (List Key × V)} {xs:List (List Key × Addr × Value)} (r:KT H kvs xs) (ht:∀ b ys,H b=some (.tup ys) -> H' b=some (.tup ys)):KT H' kvs xs:=
 Paired.mapP r λ _ _ z=>⟨z.1,ht _ _ z.2.1,z.2.2⟩
section
variable {P:Program} {w:World} {H:Hp} {h:Heap} {a:Addr}
def zmG {u:HO} (ok:HOk P w H h) (e:Rd H a u):zaN P w H h a u:=e.ok ok
def zgO {kvs:List (Key × V)} (ok:HOk P w H h) (e:Rd H a (.dK kvs)):kvs.length <= sizeLine /\ (a == sysModules)=false /\ ∃ vs,KV kvs vs /\ h.DictOf (zaV P w) a vs:=
 show zaN P w H h a (.dK kvs) from zmG ok e
def zok {kvs:List (Key × V)} (ok:HOk P w H h) (e:H a=some (.dK kvs)):kvs.length <= sizeLine /\ (a == sysModules)=false /\ ∃ vs,KV kvs vs /\ h.DictOf (zaV P w) a vs:=zgO ok (.inl e)
def zep {ks:List Key} (ok:HOk P w H h) (e:H a=some (.tup (ks.map kV))):(tupleKind (zaV P w)).is h ks a:=by
 obtain ⟨_,its,r,o,h1,h2,_,n,h3⟩:=(show zaN P w H h a (.tup (ks.map kV)) from ok a _ e)
 exact ⟨o,its.toArray,n,h1,h2,h3,by simpa using zfC r⟩
def zg6 {kvs:List (List Key × V)} (ok:HOk P w H h) (e:Rd H a (.dT kvs)):kvs.length <= sizeLine /\ (a == sysModules)=false /\
    ∃ xs,KT H kvs xs /\ h.DictOfH (tupleKind (zaV P w)) a xs:=by
  obtain ⟨z,y,xs,r,o,es,ep,h1,h2,h3,h4,h5⟩:=(show zaN P w H h a (.dT kvs) from zmG ok e)
  refine ⟨z,y,xs,r,o,es,ep,h1,h2,h3,h4,λ x hx=>?_,h5⟩
  have all:∀ {l:List (List Key × V)} {m:List (List Key × Addr × Value)},KT H l m -> ∀ x ∈ m,(tupleKind (zaV P w)).is h x.1 x.2.1:=by
    intro l m q
    induction q with
    | nil=>intro x hx; exact nomatch hx
    | @cons p q ps qs hq t ih=>
      intro x hx;rcases yal.mp hx with e | hx
      · subst e;exact zep ok (by rw [<- hq.1]; exact hq.2.1)
      · exact ih x hx
  exact all r x hx
def zn0 {kvs:List (List Key × V)} (ok:HOk P w H h) (e:H a=some (.dT kvs)):kvs.length <= sizeLine /\ (a == sysModules)=false /\
    ∃ xs,KT H kvs xs /\ h.DictOfH (tupleKind (zaV P w)) a xs:=zg6 ok (.inl e)
end
noncomputable def DGet (H:Hp) (a:Addr) (y:V) (r:Option V):Prop:=
 (∃ kvs k,Rd H a (.dK kvs) /\ y=kV k /\ r=valV kvs k) \/ ∃ kvs k b,Rd H a (.dT kvs) /\ y=.ref b /\ H b=some (.tup (k.map kV)) /\ r=valV kvs k
noncomputable def DPut (H:Hp) (a:Addr) (y v:V) (H':Hp):Prop:=
 (∃ kvs k,H a=some (.dK kvs) /\ y=kV k /\ kvs.length < sizeLine /\ H'=upd H a (.dK (putK kvs k v))) \/
 ∃ kvs k b,H a=some (.dT kvs) /\ y=.ref b /\ H b=some (.tup (k.map kV)) /\ kvs.length < sizeLine /\ H'=upd H a (.dT (putK kvs k v))
def DPut.t {H:Hp} {a b:Addr} {kvs:List (List Key × V)} {k:List Key} {v:V} (e:H a=some (.dT kvs)) (eb:H b=some (.tup (k.map kV))) (hl:kvs.length < sizeLine) :
  DPut H a (.ref b) v (upd H a (.dT (putK kvs k v))):=.inr ⟨kvs,k,b,e,rfl,eb,hl,rfl⟩
section
variable {X:Cx} {pins:List (Addr × Obj)} {σ:St} {H:Hp} {s:Shared} {a:Addr} {y v:V} {u r:Value} {o:Option V} {A:Around} {E:Value -> Shared -> Prop}
def Inv.big (I:Inv X pins σ H s):sysModules < s.heap.objs.size:=by
 have h:mainGlobals < s.heap.objs.size:=(I.mod.glob.keeps I.bk).lt;exact Nat.lt_trans (3:) h
def zjy {Q:Value -> Shared -> Prop} (hu:A.units + 1 < cLine) (I:Inv X pins σ H s) (g:DGet H a y (some v)) (ry:RelV y u) (h:∀ w' s',Inv X pins σ H s' -> RelV v w' -> Q w' s') :
  wpAny (model X.prog X.w) A (getItem (.ref a) u) Q E s:=by
 rcases g with ⟨kvs,k,e,ey,l⟩ | ⟨kvs,k,b,e,ey,eb,l⟩
 ·subst ey;obtain ⟨z,hd,vs,rel,dd⟩:=zgO I.hok e;obtain ⟨w',hw,rw'⟩:=RelO.some_of (v:=v) (o:=valueAt vs k) (by rw [l]; exact rel.val k);exact wpAny_getItem_of (zhX ry) dd.mapOf hw (h w' _ (I.tok _) rw')
 ·subst ey;cases (show u=Value.ref b from ry);obtain ⟨z,hd,xs,rel,dd⟩:=zg6 I.hok e;obtain ⟨w',hw,rw'⟩:=RelO.some_of (v:=v) (o:=(atKey xs k).map (·.2)) (by rw [l]; exact rel.val k);obtain ⟨p,hp,hp2⟩:=Option.map_eq_some_iff.mp hw;refine wpAny_getItem_heap (tupleKind_room_in1 hu) (zep I.hok eb) dd hp ?_;rw [hp2];exact h w' _ (I.tok _) rw'
def d_in {Q:Value -> Shared -> Prop} (hu:A.units + 1 < cLine) (I:Inv X pins σ H s) (g:DGet H a y o) (ry:RelV y u) (h:∀ s',Inv X pins σ H s' -> Q (.bool o.isSome) s') :
  wpAny (model X.prog X.w) A (compareOp .In u (.ref a)) Q E s:=by
 rcases g with ⟨kvs,k,e,ey,l⟩ | ⟨kvs,k,b,e,ey,eb,l⟩
 ·subst ey;obtain ⟨z,hd,vs,rel,dd⟩:=zgO I.hok e;refine wpAny_in_of (zhX ry) hd dd.mapOf ?_;rw [<- (rel.val k).isSome_eq,<- l];exact h _ (I.tok _)
 ·subst ey;cases (show u=Value.ref b from ry);obtain ⟨z,hd,xs,rel,dd⟩:=zg6 I.hok e;refine wpAny_in_heap (tupleKind_room_in1 hu) (zep I.hok eb) hd dd ?_;have q:=(rel.val k).isSome_eq;rw [Option.isSome_map] at q;rw [<- q,<- l];exact h _ (I.tok _)
def ziN {Q:Value -> Shared -> Prop} (hu:A.units + 1 < cLine) (I:Inv X pins σ H s) (g:DGet H a y o) (ry:RelV y u) (h:∀ s',Inv X pins σ H s' -> Q (.bool (!o.isSome)) s') :
  wpAny (model X.prog X.w) A (compareOp .NotIn u (.ref a)) Q E s:=by
 rcases g with ⟨kvs,k,e,ey,l⟩ | ⟨kvs,k,b,e,ey,eb,l⟩
 ·subst ey;obtain ⟨z,hd,vs,rel,dd⟩:=zgO I.hok e;refine wpAny_notIn_of (zhX ry) hd dd.mapOf ?_;rw [<- (rel.val k).isSome_eq,<- l];exact h _ (I.tok _)
 ·subst ey;cases (show u=Value.ref b from ry);obtain ⟨z,hd,xs,rel,dd⟩:=zg6 I.hok e;refine wpAny_notIn_heap (tupleKind_room_in1 hu) (zep I.hok eb) hd dd ?_;have q:=(rel.val k).isSome_eq;rw [Option.isSome_map] at q;rw [<- q,<- l];exact h _ (I.tok _)
def zgU {h':Heap} {t':Nat} {ob:HO} (I:Inv X pins σ H s) (mu:Mut (H a)) (hs:Heap.SameBut a s.heap h') (he:∃ q,h'.get? a=some q) (new:zaN X.prog X.w (upd H a ob) h' a ob) :
  Inv X pins σ (upd H a ob) { s with heap:=h',toks:=t' }:=
 I.write (x:=a) (e:=a) mu (.inl rfl) (λ b q hb z=>(hs.2 b hb).trans z) he new
def zmz {P:Program} {w:World} {H':Hp} {h':Heap} {kvs:List (Key × V)} {vs:List (Key × Value)} (z:kvs.length <= sizeLine) (hd:(a == sysModules)=false) (rel:KV kvs vs) (dd:h'.DictOf (zaV P w) a vs) :
  zaN P w H' h' a (.dK kvs):=⟨z,hd,vs,rel,dd⟩
def ziA {H':Hp} {Q:Unit -> Shared -> Prop} (hu:A.units + 1 < cLine) (I:Inv X pins σ H s) (g:DPut H a y v H') (ry:RelV y u) (rv:RelV v r) (h:∀ s',Inv X pins σ H' s' -> Q () s') :
  wpAny (model X.prog X.w) A (setItem (.ref a) u r) Q E s:=by
 rcases g with ⟨kvs,k,e,ey,l,eH⟩ | ⟨kvs,k,b,e,ey,eb,l,eH⟩
 ·subst ey eH;obtain ⟨z, hd, vs, rel, dd⟩ := zok I.hok e;have hz : vs.length <= sizeLine := by rw [<- rel.length]; exact z
  have hl:(putK kvs k v).length <= sizeLine:=by have:=zcV kvs k v; omega
  refine wpAny_setItem_pairs (hsz:=hz) (zhX ry) dd λ h' dd' hs=>h _ ?_;have he:∃ q,h'.get? a=some q:=let ⟨q,_,_,hq,_⟩:=dd'; ⟨q,hq⟩;exact zgU I (by rw [e]; exact True.intro) hs he (zmz hl hd (rel.put k rv) dd')
 ·subst ey eH;cases (show u = Value.ref b from ry);obtain ⟨z, hd, xs, rel, dd⟩ := zn0 I.hok e;have hz : xs.length <= sizeLine := by rw [<- ya2 rel]; exact z
  have hl:(putK kvs k v).length <= sizeLine:=by have:=zcV kvs k v; omega
  refine wpAny_setItem_heap (hsz:=hz) (tupleKind_room_in1 hu) (zep I.hok eb) dd λ h' dd' hs=>h _ ?_;obtain ⟨q,es,ep,hq,h2,h3,h4,_,h5⟩:=dd';refine zgU I (by rw [e]; exact True.intro) hs ⟨q,hq⟩ ⟨hl,hd,_,(rel.put k eb rv).keeps λ c ys ec=>?_,q,es,ep,hq,h2,h3,h4,h5⟩;rw [zak (zbK ec e (λ z=>nomatch z))];exact ec
end
section
variable {X:Cx} {pins:List (Addr × Obj)} {σ:St} {H:Hp} {s:Shared} {a:Addr} {kvs:List (Key × V)} {k:Key} {u:Value} {A:Around} {E:Value -> Shared -> Prop}
end
noncomputable def NoSl (i:Expr):Prop:=∀ ov iv,subscripted i false ov iv=operate [ov,iv] (getItem ov iv)
def zlO {prog:Program} {w:World} {A:Around} {E:Value -> Shared -> Prop} {s:Shared} {env:Env} {value slice:Expr} {pos:Pos} {T id:String} {Q:Value -> Shared -> Prop}
    (hl:typeLookup (.type T) "__getitem__"=pure (some (.builtin id))) (hs:NoSl slice)
    (h:wpAny (model prog w) A (eval value env) (λ o s₁=>wpAny (model prog w) A (eval slice env) (λ i s₂=>s₂.TypeIs o T /\ wpAny (model prog w) A (getItem o i) Q E s₂) E s₁) E s) :
    wpAny (model prog w) A (eval (.Subscript value slice pos) env) Q E s:=by
  refine Subscript_ (wpAny_mono h (λ o s₁ h₁=>wpAny_mono h₁ (λ i s₂ h₂=>?_) λ _ _ x=>x) λ _ _ x=>x);obtain ⟨hT,h₂⟩:=h₂;unfold subscriptTail;refine wpAny_bind ?_;rw [getitemInPython_of_ne hT.not_modules];refine wpAny_bind (wpAny_specialOf hT hl ?_)
  have fin:wpAny (model prog w) A (subscripted slice false o i) (λ r s₃=>wpAny (model prog w) A (letTemporaryGo value o r >>= λ _=>pure r) Q E s₃) E s₂:=by
    rw [hs o i];exact wpAny_operating (wpAny_mono h₂ (λ r s₃ h₃=>wpAny_bind (wpAny_letTemporaryGo (wpAny_pure h₃))) λ _ _ x=>x)
  first
    | exact wpAny_pure (wpAny_bind fin)
    | exact wpAny_bind (wpAny_pure (wpAny_bind fin))
    | exact wpAny_bind fin
def zgA {X:Cx} {pins:List (Addr × Obj)} {σ:St} {H:Hp} {s:Shared} {a:Addr} {y:V} {o:Option V} (I:Inv X pins σ H s) (g:DGet H a y o):s.TypeIs (.ref a) "dict":=by
 rcases g with ⟨kvs,k,e,_,_⟩ | ⟨kvs,k,b,e,_,_,_⟩
 ·obtain ⟨_,_,vs,_,dd⟩:=zgO I.hok e;exact dd.typeIs
 ·obtain ⟨_,_,xs,_,dd⟩:=zg6 I.hok e;exact dd.typeIs
noncomputable def zlF (td ty:TE):TE:=λ σ H Q=>td σ H λ x H1=>ty σ H1 λ y H2=>∃ a v,x=.ref a /\ DGet H2 a y (some v) /\ Q v H2
noncomputable def tDIn (ty td:TE):TE:=λ σ H Q=>ty σ H λ y H1=>td σ H1 λ x H2=>∃ a o,x=.ref a /\ DGet H2 a y o /\ Q (.bl o.isSome) H2
noncomputable def zg1 (ty td:TE):TE:=λ σ H Q=>ty σ H λ y H1=>td σ H1 λ x H2=>∃ a o,x=.ref a /\ DGet H2 a y o /\ Q (.bl (!o.isSome)) H2
noncomputable def zll (td ty tv:TE):TS:=λ D σ H=>tv σ H λ v H1=>td σ H1 λ x H2=>ty σ H2 λ y H3=>∃ a H4,x=.ref a /\ DPut H3 a y v H4 /\ D.nx σ H4
section
variable {X:Cx} {o i e value:Expr} {pos pos' tpos:Pos} {td ty tv:TE}
def zlE (hu:X.A.units + 1 < cLine) (ho:PE X o td) (hi:PE X i ty) (hs:NoSl i):PE X (.Subscript o i pos) (zlF td ty):=by
 intro pins s σ H Q I h;refine zlO PySem.F.slot_dict_getitem.lookup hs (thn (ho pins s σ H _ I h) λ u s1 ⟨x,H1,I1,rx,q1⟩=>thn (hi pins s1 σ H1 _ I1 q1) λ iv s2 ⟨y,H2,I2,ry,a,v,ex,g,q2⟩=>?_);subst ex;obtain rfl:u=Value.ref a:=rx;exact ⟨zgA I2 g,zjy hu I2 g ry λ w' s3 I3 rw'=>⟨v,H2,I3,rw',q2⟩⟩
def zm5 (hu:X.A.units + 1 < cLine) (hi:PE X i ty) (ho:PE X o td):PC X .In i o (tDIn ty td):=by
 intro pins s σ H Q I h;refine thn (hi pins s σ H _ I h) λ iv s1 ⟨y,H1,I1,ry,q1⟩=>thn (ho pins s1 σ H1 _ I1 q1) λ u s2 ⟨x,H2,I2,rx,a,ov,ex,g,q2⟩=>?_;subst ex;obtain rfl:u=Value.ref a:=rx;exact d_in hu I2 g ry λ s3 I3=>⟨.bl ov.isSome,H2,I3,rfl,q2⟩
def zjR (hu:X.A.units + 1 < cLine) (hi:PE X i ty) (ho:PE X o td):PC X .NotIn i o (zg1 ty td):=by
 intro pins s σ H Q I h;refine thn (hi pins s σ H _ I h) λ iv s1 ⟨y,H1,I1,ry,q1⟩=>thn (ho pins s1 σ H1 _ I1 q1) λ u s2 ⟨x,H2,I2,rx,a,ov,ex,g,q2⟩=>?_;subst ex;obtain rfl:u=Value.ref a:=rx;exact ziN hu I2 g ry λ s3 I3=>⟨.bl (!ov.isSome),H2,I3,rfl,q2⟩
def zlo (hu:X.A.units + 1 < cLine) (ho:PE X o td) (hi:PE X i ty) (hv:PE X value tv) (hs:swapsWith value (some (.Subscript o i pos')) pos.line X.env=pure false) :
  PS X (.Assign [.Subscript o i pos'] value pos) (zll td ty tv):=by
 intro pins s σ H D I h;refine wpAny_Assign_Subscript (thn (hv pins s σ H _ I h) λ r s1 ⟨v,H1,I1,rv,q1⟩=>thn (ho pins s1 σ H1 _ I1 q1) λ u s2 ⟨x,H2,I2,rx,q2⟩=>thn (hi pins s2 σ H2 _ I2 q2) λ iv s3 ⟨y,H3,I3,ry,a,H4,ex,g,q3⟩=>?_) hs;subst ex;obtain rfl:u=Value.ref a:=rx;exact ziA hu I3 g ry rv λ s4 I4=>⟨σ,H4,I4,q3⟩
end
def zhM {P:Program} {w:World} {H:Hp} (h:Heap) (hb:sysModules < h.objs.size):zaN P w H (h.push { cls:=.type "dict",data:=.dict #[] }) h.objs.size (.dT []):=
 ⟨yaQ _,beq_eq_false_iff_ne.mpr (ybF (yau hb)),[],.nil,_,#[],0,yae _ rfl,⟨rfl,rfl,rfl⟩,rfl,rfl,List.nodup_nil⟩
noncomputable def zk3:TE:=λ _ H Q=>∀ p,H p=none -> Q (.ref p) (upd H p (.dT []))
section
variable {X:Cx} {pos:Pos}
def zj6:PE X (.Dict [] [] pos) zk3:=λ pins s σ H Q I h=>
 wpAny_Dict_empty ⟨.ref s.heap.objs.size,_,I.laid (a:=s.heap.objs.size) (o:=.dT []) (t':=s.toks) (λ _ _ q=>yab _ q) (yag _) (zhM s.heap I.big),rfl,h _ (I.hok.fresh (yag _))⟩
end
noncomputable def zk8:List (TE × TE) -> St -> Hp -> (List (V × V) -> Hp -> Prop) -> Prop
 | [],_,H,Q=>Q [] H
 | (tk,tv) :: r,σ,H,Q=>tk σ H λ x H1=>tv σ H1 λ y H2=>zk8 r σ H2 λ ps H3=>Q ((x,y) :: ps) H3
noncomputable abbrev VV:List (V × V) -> List (Value × Value) -> Prop:=Paired λ p q=>RelV p.1 q.1 /\ RelV p.2 q.2
noncomputable def PPs (X:Cx) (pos:Pos) (keys:List (Option Expr)) (values:List Expr) (trs:List (TE × TE)):Prop:=
 ∀ (pins:List (Addr × Obj)) (s:Shared) (σ:St) (H:Hp) (Q:List (V × V) -> Hp -> Prop),Inv X pins σ H s -> zk8 trs σ H Q ->
  wpAny (model X.prog X.w) X.A (evalPairs (pairTrees keys values X.env pos)) (λ vs s'=>∃ ps H',Inv X pins σ H' s' /\ VV ps vs /\ Q ps H') X.xe s
def zmb {X:Cx} {pos:Pos}:PPs X pos [] [] []:=λ pins s σ H Q I h=>pairTrees_nil_walk ⟨[],H,I,.nil,h⟩
def zkp {X:Cx} {pos:Pos} {k v:Expr} {ks:List (Option Expr)} {vs:List Expr} {tk tv:TE} {trs:List (TE × TE)} (hk:PE X k tk) (hv:PE X v tv) (hr:PPs X pos ks vs trs) :
  PPs X pos (some k :: ks) (v :: vs) ((tk,tv) :: trs):=λ pins s σ H Q I h=>
 pairTrees_cons_walk (thn (hk pins s σ H _ I h) λ u s1 ⟨x,H1,I1,rx,q1⟩=>thn (hv pins s1 σ H1 _ I1 q1) λ w2 s2 ⟨y,H2,I2,ry,q2⟩=>
  thn (hr pins s2 σ H2 _ I2 q2) λ ws s3 ⟨ps,H3,I3,rel,q3⟩=>⟨(x,y) :: ps,H3,I3,.cons ⟨rx,ry⟩ rel,q3⟩)
structure M1 (X:Cx) (o:Expr) (m:Str) (apos:Pos) (e:Expr) (cpos:Pos):Prop where
 base:attributeBase o m X.env (eval o X.env)=eval o X.env
 few:((backTo cpos (starEach [e] X.env)).all (λ x=>!x.1) && (backToKw cpos (keywordEach [] X.env)).all (λ x=>x.1.isSome)
  && decide (([e]:List Expr).length + ([]:List Keyword).length + (if ([]:List Keyword).isEmpty then 0 else 1) < 30))=true
 line:(apos.endLine == cpos.line)=true
 trees:backTo cpos (starEach [e] X.env)=[(false,eval e X.env)]
structure M2 (X:Cx) (o:Expr) (m:Str) (apos:Pos) (e f:Expr) (cpos:Pos):Prop where
 base:attributeBase o m X.env (eval o X.env)=eval o X.env
 few:((backTo cpos (starEach [e,f] X.env)).all (λ x=>!x.1) && (backToKw cpos (keywordEach [] X.env)).all (λ x=>x.1.isSome)
  && decide (([e,f]:List Expr).length + ([]:List Keyword).length + (if ([]:List Keyword).isEmpty then 0 else 1) < 30))=true
 line:(apos.endLine == cpos.line)=true
 trees:backTo cpos (starEach [e,f] X.env)=[(false,eval e X.env),(false,eval f X.env)]
noncomputable def IsD (H:Hp) (a:Addr):Prop:=(∃ kvs,Rd H a (.dK kvs)) \/ ∃ kvs,Rd H a (.dT kvs)
def zkZ {X:Cx} {pins:List (Addr × Obj)} {σ:St} {H:Hp} {s:Shared} {a:Addr} (I:Inv X pins σ H s) (d:IsD H a) :
  s.TypeIs (.ref a) "dict" /\ (∀ b,Value.ref a=.ref b -> ∃ ob,s.heap.get? b=some ob /\ ob.dict=none) /\ (a == sysModules)=false:=by
 rcases d with ⟨kvs,e⟩ | ⟨kvs,e⟩
 ·obtain ⟨_,hd,vs,_,dd⟩:=zgO I.hok e;refine ⟨dd.typeIs,λ b q=>?_,hd⟩;cases q;obtain ⟨ob,_,_,h1,h2,_⟩:=dd;exact ⟨ob,h1,h2.2.1⟩
 ·obtain ⟨_,hd,xs,_,dd⟩:=zg6 I.hok e;refine ⟨dd.typeIs,λ b q=>?_,hd⟩;cases q;obtain ⟨ob,_,_,h1,h2,_⟩:=dd;exact ⟨ob,h1,h2.2.1⟩
section
variable {X:Cx} {pins:List (Addr × Obj)} {σ:St} {H:Hp} {s:Shared} {a:Addr} {y d:V} {u r:Value} {o:Option V} {A:Around} {E:Value -> Shared -> Prop}
def zmv {Q:Value -> Shared -> Prop} (hu:A.units + 1 < cLine) (I:Inv X pins σ H s) (g:DGet H a y o) (ry:RelV y u) (h:∀ w' s',Inv X pins σ H s' -> RelV (o.getD .non) w' -> Q w' s') :
  wpAny (model X.prog X.w) A (call (.builtin "dict.get") [.ref a,u]) Q E s:=by
 rcases g with ⟨kvs,k,e,ey,l⟩ | ⟨kvs,k,b,e,ey,eb,l⟩
 ·subst ey;obtain ⟨z,hd,vs,rel,dd⟩:=zgO I.hok e;refine call_meetsIn yck dd.typeIs PySem.F.entry_dict_get (PySem.F.args_dict_get_2 _ _) (meets_dict_get (zaV X.prog X.w) a (zhX ry) hd) ⟨_,dd.mapOf,h _ _ (I.tok _) ?_⟩;rw [l];exact (rel.val k).getD rfl
 ·subst ey;cases (show u=Value.ref b from ry);obtain ⟨z,hd,xs,rel,dd⟩:=zg6 I.hok e;refine call_meetsIn yck dd.typeIs PySem.F.entry_dict_get (PySem.F.args_dict_get_2 _ _) (meetsH_dict_get (tupleKind (zaV X.prog X.w)) a b hd) ⟨tupleKind_room_in1 hu,k,xs,zep I.hok eb,dd,h _ _ (I.tok _) ?_⟩;rw [l];exact (rel.val k).getD rfl
end
noncomputable def zjO (td ty:TE):TE:=λ σ H Q=>td σ H λ x H1=>∃ a,x=.ref a /\ IsD H1 a /\ ty σ H1 λ y H2=>∃ o,DGet H2 a y o /\ Q (o.getD .non) H2
section
variable {X:Cx} {o e f:Expr} {apos cpos:Pos} {td ty tx:TE}
def zkI (hu:X.A.units + 1 < cLine) (ho:PE X o td) (he:PE X e ty) (m:M1 X o "get" apos e cpos):PE X (.Call (.Attribute o "get" apos) [e] [] cpos) (zjO td ty):=by
 intro pins s σ H Q I h;refine wpAny_Call_method m.base m.few m.line PySem.F.plainAttrs_dict yck PySem.F.type_dict_get (thn (ho pins s σ H _ I h) λ u s1 ⟨x,H1,I1,rx,a,ex,d,q1⟩=>?_);subst ex;obtain rfl:u=Value.ref a:=rx;obtain ⟨t1,t2,_⟩:=zkZ I1 d;refine ⟨t1,t2,?_⟩;rw [m.trees];refine ybG rfl (Calls.evalArgs_plain (yb4 (thn (he pins s1 σ H1 _ I1 q1) λ iv s2 ⟨y,H2,I2,ry,ov,g,q2⟩=>ycd ?_)));exact zmv hu I2 g ry λ w' s3 I3 rw'=>⟨_,H2,I3,rw',q2⟩
end
section
variable {X:Cx} {pins:List (Addr × Obj)} {σ:St} {H:Hp} {s:Shared} {a:Addr} {kvs:List (Key × V)} {A:Around} {E:Value -> Shared -> Prop}
end
section
variable {X:Cx} {pins:List (Addr × Obj)} {σ:St} {H:Hp} {s:Shared} {a:Addr} {y:V} {u:Value} {A:Around} {E:Value -> Shared -> Prop}
end
open Bm
def pv1 {X:Cx} (i:Nat) {x:Str} {pos:Pos} (h:X.N[i]?=some x /\ Vis X.env.scope x /\ (x == ("__debug__":Str))=false /\ (x == ("__classdict__":Str))=false):PE X (.Name x pos) (tVar i):=pv i h.1 h.2.1 h.2.2.1 h.2.2.2
noncomputable def zaF (l:Addr) (H H':Hp):Prop:=∀ b o,b ≠ l -> H b=some o -> H' b=some o
def zaF.trans {l:Addr} {H H1 H2:Hp} (a:zaF l H H1) (b:zaF l H1 H2):zaF l H H2:=λ c o n h=>b c o n (a c o n h)
def Same.keepBut {l:Addr} {H H':Hp} (s:Same H H'):zaF l H H':=λ b o _ h=>s b o h
def zaF.upd (l:Addr) (H:Hp) (o:HO):zaF l H (L2.upd H l o):=λ b u n h=>by rw [zak n]; exact h
def zaF.same {l:Addr} {H H0 H':Hp} (k:zaF l H0 H') (s:Same H H0) (h:H l=none):Same H H':=λ b o e=>k b o (zam e h) (s b o e)
inductive Nt (H:Hp):V -> Prop where
 | non:Nt H .non
 | bl (b:Bool):Nt H (.bl b)
 | int (i:Int):Nt H (.int i)
 | str (s:Str):Nt H (.str s)
 | lst {a:Addr} {xs:List V} (e:H a=some (.lst xs)):Nt H (.ref a)
noncomputable def Kd (H:Hp) (v:V):Prop:=Nt H v \/ ∃ a xs,v=.ref a /\ H a=some (.tup xs)
noncomputable def zba (v:V) (lo hi:Int):Bool:=match v with
 | .int i=>decide (lo <= i) && decide (i <= hi)
 | _=>false
noncomputable def zn9 (xs:List V):Bool:=decide (1 <= xs.length) && decide (xs.length <= 64) && xs.all λ v=>zba v (-2) ((xs.length:Int) - 1)
noncomputable def zoE (H:Hp) (v:V) (r:Bool):Prop:=(∃ a xs,v=.ref a /\ H a=some (.tup xs) /\ (∀ x ∈ xs,Kd H x) /\ xs.length <= 10000 /\ r=zn9 xs) \/ (Nt H v /\ r=false)
noncomputable def ToldP (p:Addr) (H:Hp) (v:V):Prop:=v ≠ .ref p /\ ((∃ a xs,v=.ref a /\ H a=some (.tup xs) /\ (∀ x ∈ xs,Kd H x /\ x ≠ .ref p) /\ xs.length <= 10000) \/ Nt H v)
inductive Kx (H:Hp):V -> Prop where
 | non:Kx H .non
 | bl (b:Bool):Kx H (.bl b)
 | int (i:Int):Kx H (.int i)
 | str (s:Str) (h:shpd (.str s)=true):Kx H (.str s)
 | lst {a:Addr} (is:List Int) (e:H a=some (.lst (is.map V.int))):Kx H (.ref a)
 | tup {a:Addr} (is:List Int) (hl:is.length <= 1) (e:H a=some (.tup (is.map V.int))):Kx H (.ref a)
noncomputable def eqS (s:Str):V -> Bool
 | .str t=>s == t
 | _=>false
noncomputable def inS (ss:List Str) (v:V):Bool:=ss.any λ s=>eqS s v
section
variable {X:Cx} {K:PySem.W.Frag}
end
noncomputable def zmR (w:Nat) (a b:V):Bool:=if inS ["and","or","gather","strew"] a then zba b 0 ((2 ^ w - 1:Nat):Int) else if inS ["left","right"] a then zba b 0 (w:Int) else eqS "turn" a && zba b 0 ((w:Int) - 1)
noncomputable def natV:V -> Nat
 | .int i=>i.toNat
 | _=>0
noncomputable def intV:V -> Int
 | .int i=>i
 | _=>0
noncomputable def znk (w:Nat) (a m n:V):Bool:=zba m 0 ((2 ^ w - 1:Nat):Int) && (if eqS "swap" a then zba n 1 ((w:Int) - 1) && (zdg w (natV m) (intV n) && decide ((natV m &&& natV m * 2 ^ natV n)=0)) else if eqS "copy" a then zba n (1 - (w:Int)) ((w:Int) - 1) && (intV n != 0) && zdg w (natV m) (intV n) else false)
noncomputable def zom (w:Nat):List V -> Bool
 | [a,b]=>zmR w a b
 | [a,m,n]=>znk w a m n
 | _=>false
noncomputable def Tu (H:Hp) (a:Addr) (xs:List V):Prop:=H a=some (.tup xs) /\ (∀ x ∈ xs,Kd H x) /\ xs.length <= 1000 /\ ∀ x r,xs=x :: r -> r ≠ [] -> Kx H x
noncomputable def znH (w:Nat) (H:Hp) (v:V) (r:Bool):Prop:=(∃ a xs,v=.ref a /\ Tu H a xs /\ r=zom w xs) \/ (Nt H v /\ r=false)
noncomputable def Th (H:Hp) (v:V):Prop:=(∃ a xs,v=.ref a /\ Tu H a xs) \/ Nt H v
noncomputable def KxP (p:Addr) (H:Hp) (v:V):Prop:=Kx H v /\ v ≠ .ref p
noncomputable def ThP (p:Addr) (H:Hp) (v:V):Prop:=v ≠ .ref p /\ ((∃ a xs,v=.ref a /\ H a=some (.tup xs) /\ (∀ x ∈ xs,KxP p H x) /\ xs.length <= 1000) \/ Nt H v)
noncomputable def RowIs (w:Nat) (H:Hp) (v:V) (r:Bool):Prop:=(∃ (a:Addr) (xs:List V) (f:Nat -> Bool),v=.ref a /\ SqH H a xs /\ (∀ i x,xs[i]?=some x -> znH w H x (f i)) /\ xs.length <= 1000 /\ r=(List.range xs.length).all f) \/ (zbA v=true /\ r=false)
noncomputable abbrev En:=Nat × List Int
noncomputable def nmE:List Str:=["and","or","left","right","turn","swap","gather","strew","copy"]
noncomputable def nmK (k:Nat):Str:=nmE.getD k "and"
noncomputable def dec (e:En):List V:=.str (nmK e.1) :: e.2.map V.int
noncomputable def fastD (w:Nat) (e:En):Bool:=match e.2 with
 | [b]=>if e.1=0 \/ e.1=1 \/ e.1=6 \/ e.1=7 then zba (.int b) 0 ((2 ^ w - 1:Nat):Int) else if e.1=2 \/ e.1=3 then zba (.int b) 0 (w:Int) else decide (e.1=4) && zba (.int b) 0 ((w:Int) - 1)
 | [m,n]=>zba (.int m) 0 ((2 ^ w - 1:Nat):Int) && (if e.1=5 then zba (.int n) 1 ((w:Int) - 1) && (zdg w m.toNat n && decide ((m.toNat &&& m.toNat * 2 ^ n.toNat)=0)) else if e.1=8 then zba (.int n) (1 - (w:Int)) ((w:Int) - 1) && (n != 0) && zdg w m.toNat n else false)
 | _=>false
noncomputable def oneF (k n:Nat):List En:=(List.range n).map λ (x:Nat)=>(k,[(x:Int)])
noncomputable def zkt (w m:Nat):List En:=((List.range (w - 1)).filter λ (j:Nat)=>zdg w m (1 + (j:Int)) && decide (m &&& m * 2 ^ (1 + j)=0)).map λ (j:Nat)=>(5,[(m:Int),1 + (j:Int)])
noncomputable def zlg (w m:Nat):List En:=((List.range (2 * w - 1)).filter λ (j:Nat)=>((1 - (w:Int)) + (j:Int) != 0) && zdg w m ((1 - (w:Int)) + (j:Int))).map λ (j:Nat)=>(8,[(m:Int),(1 - (w:Int)) + (j:Int)])
noncomputable def lawF (w:Nat):List En:=oneF 0 (2 ^ w) ++ oneF 1 (2 ^ w) ++ oneF 2 (w + 1) ++ oneF 3 (w + 1) ++ oneF 4 w ++ (List.range (2 ^ w)).flatMap (zkt w) ++ oneF 6 (2 ^ w) ++ oneF 7 (2 ^ w) ++ (List.range (2 ^ w)).flatMap (zlg w)
def zld {ta:TA} {σ:St} {H:Hp} {R:It -> Hp -> Prop} (h:ta σ H λ vs H1=>∃ i j:Int,vs=[.int i,.int j] /\ (-(2 ^ 62) <= i /\ i < 2 ^ 62 /\ -(2 ^ 62) <= j /\ j < 2 ^ 62) /\ R (Itr i (j - i).toNat) H1):zmU ta σ H R:=h
noncomputable def TL (H:Hp) (L:List (Addr × En)):Prop:=∀ q ∈ L,H q.1=some (.tup (dec q.2))
noncomputable def tlV (L:List (Addr × En)):List V:=L.map λ q=>.ref q.1
noncomputable def ens (L:List (Addr × En)):List En:=L.map Prod.snd
def zaJ (L:List (Addr × En)):(tlV L).length=L.length:=by rw [tlV,yac]
def TL.same {H H':Hp} {L:List (Addr × En)} (h:TL H L) (s:Same H H'):TL H' L:=λ q hq=>s _ _ (h q hq)
def TL.updL {H:Hp} {l:Addr} {xs ys:List V} {L:List (Addr × En)} (h:TL H L) (hl:H l=some (.lst xs)):TL (upd H l (.lst ys)) L:=λ q hq=>by
 have e:=h q hq;rw [zak (λ z=>by rw [z,hl] at e; cases e)];exact e
def TL.app {H:Hp} {L M:List (Addr × En)} (h:TL H L) (g:TL H M):TL H (L ++ M):=λ q hq=>(yaK.mp hq).elim (h q) (g q)
def TL.one {H:Hp} {t:Addr} {e:En} (n:H t=some (.tup (dec e))):TL H [(t,e)]:=λ q hq=>by rw [yaz.mp hq]; exact n
def TL.nil (H:Hp):TL H []:=λ _ z=>(nomatch z)
def zbx (L M:List (Addr × En)):tlV (L ++ M)=tlV L ++ tlV M:=yax
def zbm (L M:List (Addr × En)):ens (L ++ M)=ens L ++ ens M:=yax
noncomputable def Gr (H H':Hp) (l:Addr) (L:List (Addr × En)):Prop:=Same H H' /\ H' l=some (.lst (tlV L)) /\ TL H' L
def Gr.same {H H' H'':Hp} {l:Addr} {L:List (Addr × En)} (g:Gr H H' l L) (s:Same H' H''):Gr H H'' l L:=⟨g.1.trans s,s _ _ g.2.1,g.2.2.same s⟩
def Gr.put {H H':Hp} {l:Addr} {L M:List (Addr × En)} (g:Gr H H' l L) (hl:H l=none) (m:TL H' M):Gr H (upd H' l (.lst (tlV L ++ tlV M))) l (L ++ M):=
 ⟨g.1.updF hl,by rw [zbx]; exact zad,(g.2.2.updL g.2.1).app (m.updL g.2.1)⟩
noncomputable def zfJ:Sp:=λ vs H Q _=>∃ (w:Nat),vs=[nV w] /\ 1 <= w /\ w <= 4 /\ ∀ (l:Addr) (L:List (Addr × En)) (H':Hp),H l=none -> Gr H H' l L -> ens L=lawF w -> Q (.ref l) H'
noncomputable def zfq:Sp:=λ vs H Q _=>∃ (w m:Nat) (n:Int),vs=[nV w,nV m,.int n] /\ w <= 64 /\ m < 2 ^ w /\ ∀ H',Same H H' -> Q (.bl (zdg w m n)) H'
noncomputable def Dl (H:Hp) (L:List (Addr × Dd)):Prop:=∀ q ∈ L,H q.1=some (.tup q.2.vals)
noncomputable def On (H:Hp) (L:List (Addr × Nat)):Prop:=∀ q ∈ L,H q.1=some (.tup [nV q.2])
noncomputable def onV (L:List (Addr × Nat)):List V:=L.map λ q=>.ref q.1
noncomputable def onN (L:List (Addr × Nat)):List Nat:=L.map Prod.snd
noncomputable def onD (ns:List Nat):List PyData:=ns.map λ (n:Nat)=>.tuple [.int (n:Int)]
end L2
namespace Srt
open PySem PyProof.Rows
noncomputable def gallop':Bool -> Keyed -> Array Keyed -> Nat -> Nat -> Nat -> StateT SortSt Sem (Option Nat):=sortPriv% PySem.Builtin.gallop
section
variable {prog:Program} {w:World} {A:Around} {E:Value -> Shared -> Prop} {s:Shared}
noncomputable def znW (left:Bool) (k a:Int):Prop:=if left=true then a < k else a <= k
instance (left:Bool) (k a:Int):Decidable (znW left k a):=by unfold znW; infer_instance
end
end Srt
namespace Srt
open PySem PyProof.Rows
noncomputable abbrev kf (x:Keyed):Int:=numOf x.1
noncomputable def Sr (l:List Keyed):Prop:=l.Pairwise λ x y=>kf x <= kf y
structure MI (T L A B:List Keyed):Prop where
 perm:(L ++ (A ++ B)).Perm T
 sa:Sr (L ++ A)
 sb:Sr (L ++ B)
structure MH (T R A B:List Keyed):Prop where
 perm:((A ++ B) ++ R).Perm T
 sa:Sr (A ++ R)
 sb:Sr (B ++ R)
end Srt
namespace Srt
open PySem PyProof.Rows
end Srt
namespace Srt
open PySem PyProof.Rows
noncomputable def Good (T:List Keyed) (r:Array Keyed):Prop:=r.toList.Perm T /\ Sr r.toList
variable {a b out:Array Keyed} {ia ib:Nat}
section
variable {prog:Program} {w:World} {A:Around} {E:Value -> Shared -> Prop} {s:Shared} {st:SortSt} {mg k k1 ac bc n0:Nat}
end
end Srt
namespace Srt
open PySem PyProof.Rows
noncomputable abbrev HiSt:=Option (Array Keyed) × Nat × Nat × Array Keyed × Nat × Nat × Nat
noncomputable abbrev zjw (a b out:Array Keyed) (na nb:Nat):Array Keyed:=a.extract 0 na ++ b.extract 0 nb ++ out.reverse
noncomputable abbrev ziK (a b out:Array Keyed) (na nb:Nat):Array Keyed:=b.extract 0 nb ++ a.extract 0 na ++ out.reverse
noncomputable def hi3 (a b out:Array Keyed) (na nb mg k k1:Nat):StateT SortSt Sem (ForInStep HiSt):=do
 let x <- elem' a (na - 1)
 if na - 1 == 0 then pure (.done (some (zjw a b (out.push x) (na - 1) nb),na - 1,nb,out.push x,mg,k,k1))
 else if k < 7 && k1 < 7 then pure (.done (none,na - 1,nb,out.push x,mg,k,k1))
 else pure (.yield (none,na - 1,nb,out.push x,mg,k,k1))
noncomputable def hi2 (a b out:Array Keyed) (na nb mg k bc:Nat):StateT SortSt Sem (ForInStep HiSt):=do
 let y <- elem' b (nb - 1)
 if nb - 1 == 1 then pure (.done (some (ziK a b (out.push y) na (nb - 1)),na,nb - 1,out.push y,mg,k,bc))
 else do
  let z <- elem' a (na - 1)
  let r <- gallop' true z b 0 (nb - 1) (nb - 1 - 1)
  match r with
  | some at_=>
   if nb - 1 - at_ > 0 then
    if at_ == 1 then pure (.done (some (ziK a b (out.push y ++ (b.extract at_ (nb - 1)).reverse) na at_),na,at_,out.push y ++ (b.extract at_ (nb - 1)).reverse,mg,k,nb - 1 - at_))
    else if at_ == 0 then pure (.done (some (zjw a b (out.push y ++ (b.extract at_ (nb - 1)).reverse) na at_),na,at_,out.push y ++ (b.extract at_ (nb - 1)).reverse,mg,k,nb - 1 - at_))
    else hi3 a b (out.push y ++ (b.extract at_ (nb - 1)).reverse) na at_ mg k (nb - 1 - at_)
   else hi3 a b (out.push y) na (nb - 1) mg k (nb - 1 - at_)
  | _=>pure (.done (some (zjw a b (out.push y) na (nb - 1)),na,nb - 1,out.push y,mg,k,bc))
variable {a b out:Array Keyed} {na nb:Nat}
section
variable {prog:Program} {w:World} {A:Around} {E:Value -> Shared -> Prop} {s:Shared} {st:SortSt} {mg k k1 ac bc n0:Nat}
end
end Srt
namespace Srt
open PySem PyProof.Rows
noncomputable def laid (xs:Array Keyed) (at_:Nat) (ys:List Keyed):Array Keyed:=ys.zipIdx.foldl (λ a (p,j)=>a.setIfInBounds (at_ + j) p) xs
section
variable {prog:Program} {w:World} {A:Around} {E:Value -> Shared -> Prop} {s:Shared} {st:SortSt}
end
end Srt
namespace Srt
open PySem PyProof.Rows
noncomputable def rise (lo a nrem:Nat):StateT SortSt Sem (Option (Option Nat) × Nat):=
 forIn [a:nrem] ((none,a):Option (Option Nat) × Nat) λ _ c=>do
  match <- ltAt' (lo + c.2) (lo + c.2 - 1) with
  | some b=>if b then pure (.done (none,c.2)) else pure (.yield (none,c.2 + 1))
  | _=>pure (.done (some none,c.2))
noncomputable def fall (lo a nrem:Nat):StateT SortSt Sem (Option (Option Nat) × Nat × Nat):=
 forIn [a:nrem] ((none,a,0):Option (Option Nat) × Nat × Nat) λ _ c=>do
  match <- ltAt' (lo + c.2.1) (lo + c.2.1 - 1) with
  | some b=>
   if b then
    if c.2.2 > 0 then do
     reverseSlice' (lo + c.2.1 - (c.2.2 + 1)) (lo + c.2.1)
     pure (.yield (none,c.2.1 + 1,0))
    else pure (.yield (none,c.2.1 + 1,0))
   else do
    match <- ltAt' (lo + c.2.1 - 1) (lo + c.2.1) with
    | some g=>if g then pure (.done (none,c.2.1,c.2.2)) else pure (.yield (none,c.2.1 + 1,c.2.2 + 1))
    | _=>pure (.done (some none,c.2.1,c.2.2))
  | _=>pure (.done (some none,c.2.1,c.2.2))
noncomputable def turnAbout (lo n nrem:Nat):StateT SortSt Sem (Option Nat):=do
 reverseSlice' lo (lo + n)
 let c <- rise lo n nrem
 match c.1 with
 | some r=>pure r
 | none=>pure (some c.2)
noncomputable def falling (lo n nrem:Nat):StateT SortSt Sem (Option Nat):=do
 liftM (rule "list.sort.descending-run")
 let c <- fall lo (n + 1) nrem
 match c.1 with
 | some r=>pure r
 | none=>if c.2.2 > 0 then (reverseSlice' (lo + c.2.1 - (c.2.2 + 1)) (lo + c.2.1) >>= λ _=>turnAbout lo c.2.1 nrem) else turnAbout lo c.2.1 nrem
def countRun_parts (lo nrem:Nat):countRun' lo nrem=(do
  let c <- rise lo 1 nrem
  match c.1 with
  | some r=>pure r
  | none=>
   if c.2 == nrem then pure (some c.2)
   else if c.2 > 1 then do
    match <- ltAt' lo (lo + c.2 - 1) with
    | some b=>if b then pure (some c.2) else do
      reverseSlice' lo (lo + c.2)
      falling lo c.2 nrem
    | _=>pure none
   else falling lo c.2 nrem):=by
 kernel_rfl
structure SB (a₀:Array Keyed) (lo:Nat) (p:Array (Nat × Nat × Nat)) (f:Nat -> Int) (st:SortSt):Prop where
 perm:(arrOf st).Perm a₀
 kind:kindOf st=oneType'
 failed:failedOf st=none
 pend:pendingOf st=p
 low:∀ i,i < lo -> K (arrOf st) i=f i
variable {a₀:Array Keyed} {lo:Nat} {p:Array (Nat × Nat × Nat)} {f:Nat -> Int} {st:SortSt}
noncomputable def Up (lo:Nat) (xs:Array Keyed) (m:Nat):Prop:=∀ i j,i <= j -> j < m -> K xs (lo + i) <= K xs (lo + j)
noncomputable def Dn (lo:Nat) (xs:Array Keyed) (m:Nat):Prop:=∀ i j,i <= j -> j < m -> K xs (lo + j) <= K xs (lo + i)
section
variable {prog:Program} {w:World} {A:Around} {E:Value -> Shared -> Prop} {s:Shared}
end
end Srt
namespace Srt
open PySem PyProof.Rows
noncomputable def olderOnes (pw:Nat):StateT SortSt Sem (ForInStep (Option Unit × Unit)):=do
 let st <- get
 match (if (pendingOf st).size > 1 then (pendingOf st)[(pendingOf st).size - 2]? else none) with
 | some (_,_,older)=>if older <= pw then pure (.done (none,())) else do
   let b <- mergeAt' ((pendingOf st).size - 2)
   if !b then pure (.done (some (),())) else pure (.yield (none,()))
 | _=>pure (.done (none,()))
noncomputable def noted (sz lo n:Nat):StateT SortSt Sem (ForInStep (Option Unit × Nat)):=do
 let st <- get
 match (pendingOf st).back? with
 | some (s1,n1,_)=>do
  let c <- forIn [0:sz] ((none,()):Option Unit × Unit) λ _ _=>olderOnes (power' sz (2 * s1 + n1) (2 * s1 + n1 + n1 + n) sz)
  match c.1 with
  | some r=>pure (.done (some r,lo))
  | none=>do
   modify λ s=>setPending s ((pendingOf s).modify ((pendingOf s).size - 1) λ x=>(x.1,x.2.1,power' sz (2 * s1 + n1) (2 * s1 + n1 + n1 + n) sz))
   modify λ s=>setPending s ((pendingOf s).push (lo,n,0))
   pure (.yield (none,lo + n))
 | _=>do
  modify λ s=>setPending s ((pendingOf s).push (lo,n,0))
  pure (.yield (none,lo + n))
noncomputable def runStep (sz mr lo:Nat):StateT SortSt Sem (ForInStep (Option Unit × Nat)):=
 if lo >= sz then pure (.done (none,lo)) else do
  match <- countRun' lo (sz - lo) with
  | some found=>
   if found < mr then do
    liftM (rule "list.sort.binary-insertion")
    let b <- binarySort' lo (min (sz - lo) mr) found
    if !b then pure (.done (some (),lo)) else noted sz lo (min (sz - lo) mr)
   else noted sz lo found
  | _=>pure (.done (some (),lo))
noncomputable def whichTwo (p:Array (Nat × Nat × Nat)):Nat:=
 if Option.any (λ x=>decide (x < p[p.size - 2 + 1]?.elim 0 λ x=>x.2.1)) (if p.size - 2 > 0 then p[p.size - 2 - 1]?.map (λ x=>x.2.1) else none)=true then p.size - 2 - 1 else p.size - 2
noncomputable def lastStep:StateT SortSt Sem (ForInStep (Option Unit × Unit)):=do
 let st <- get
 if (pendingOf st).size <= 1 then pure (.done (none,())) else do
  let b <- mergeAt' (whichTwo (pendingOf st))
  if !b then pure (.done (some (),())) else pure (.yield (none,()))
def sortRuns_parts:sortRuns'=(do
  let st <- get
  let c <- forIn [0:(arrOf st).size] ((none,0):Option Unit × Nat) λ _ c=>runStep (arrOf st).size (minRun' (arrOf st).size (arrOf st).size 0) c.2
  match c.1 with
  | some r=>pure r
  | none=>do
   let d <- forIn [0:(arrOf st).size] ((none,()):Option Unit × Unit) λ _ _=>lastStep
   match d.1 with
   | some r=>pure r
   | none=>pure ()):=by
 kernel_rfl
def wpS_set {σ:Type} {M:Model} {A:Around} {E:Value -> Shared -> Prop} {s:Shared} {x:σ} {Q:PUnit -> σ -> Prop} {st:σ} (h:Q ⟨⟩ x):wpS M A E s (set x:StateT σ Sem PUnit) Q st:=by
 unfold wpS; rw [StateT.run_set]; exact wpAny_pure ⟨rfl,h⟩
section
variable {prog:Program} {w:World} {A:Around} {E:Value -> Shared -> Prop} {s:Shared} {a₀:Array Keyed}
end
end Srt
namespace Srt
open PySem PyProof.Rows
section
variable {prog:Program} {w:World} {A:Around} {E:Value -> Shared -> Prop} {s:Shared}
end
end Srt
namespace L2
open PySem PySem.Spec PyProof.Rows
section
variable {X:Cx}
end
end L2
namespace PySem.SeqAt
open PySem PySem.Spec PyProof.Rows
end PySem.SeqAt
namespace L2
open PySem PySem.Spec PyProof.Rows Bm
section
variable {X:Cx}
end
noncomputable abbrev zfx (ls:List Int):Prop:=ls.Perm (zaK ls.length)
end L2
namespace L2
open PySem PySem.Spec PyProof.Rows
section
variable {X:Cx} {tg iter elt:Expr} {ifs:List Expr} {scope sc:Scope} {pos:Pos} {N N':List Str} {src:List (Option Nat)} {wi:TI} {g:TG} {tc:TT} {te:TE}
end
open Bm
noncomputable abbrev Mat:=Nat -> Nat -> Bool
noncomputable def rowB (n:Nat) (f:Mat) (i:Nat):List Bool:=(List.range n).map λ j=>f i j
noncomputable def bV (l:List Bool):List V:=l.map λ b=>nV b.toNat
noncomputable def Mx (H:Hp) (l:Addr) (n:Nat) (f:Mat):Prop:=∃ as:List Addr,as.length=n /\ H l=some (.lst (as.map V.ref)) /\ ∀ i (h:i < as.length),H as[i]=some (.lst (bV (rowB n f i)))
noncomputable abbrev Cr:=Nat -> Option Bool
variable {h:Nat} {τ:Nat -> Nat} {c:Cr} {p0 q:Nat}
variable {ls:List Int}
section
variable {X:Nat -> Bool}
end
variable {h:Nat} {ls:List Int} {X:Nat -> Bool}
noncomputable def zmZ (h m1 m2:Nat) (lo up:List Int):List Int:=zaB (zaB ((Dd.swap m1 h).led (2 * h)) (lo ++ zlP h up)) ((Dd.swap m2 h).led (2 * h))
inductive Pap where
 | nil
 | node (m1 m2:Nat) (lo:List Int) (pl:Pap) (up:List Int) (pu:Pap)
noncomputable def zlS:List Int -> Pap -> Prop
 | ls,.nil=>ls.length=1 /\ zfx ls
 | ls,.node m1 m2 lo pl up pu=>∃ h,1 <= h /\ ls.length=2 * h /\ m1 < 2 ^ h /\ m2 < 2 ^ h /\ lo.length=h /\ up.length=h /\ zfx lo /\ zfx up /\ zmZ h m1 m2 lo up=ls /\ zlS lo pl /\ zlS up pu
variable {h:Nat}
noncomputable def PapH (H:Hp):Addr -> Pap -> Prop
  | a,.nil=>H a=some (.tup [])
  | a,.node m1 m2 lo pl up pu=>∃ x y lx px ly py:Addr,H a=some (.tup [nV m1,nV m2,.ref x,.ref y]) /\ H x=some (.tup [.ref lx,.ref px]) /\ H lx=some (.tup (lo.map V.int)) /\ PapH H px pl /\
      H y=some (.tup [.ref ly,.ref py]) /\ H ly=some (.tup (up.map V.int)) /\ PapH H py pu
variable {ls:List Int}
end L2
set_option maxHeartbeats 1000000
namespace L2
open PySem PyProof.Rows Bm
section
variable {X:Cx} {e st:Expr} {te:TE} {ts:TE} {pos p2:Pos}
end
section
variable {h n:Nat} {ls:List Int} {X:Nat -> Bool}
end
open PySem.Spec
noncomputable def zlY:Nat -> Pap -> Prop
 | 0,.nil=>True
 | k + 1,.node m1 m2 lo pl up pu=>m1 < 2 ^ 2 ^ k /\ m2 < 2 ^ 2 ^ k /\ zfx lo /\ lo.length=2 ^ k /\ zfx up /\ up.length=2 ^ k /\ zlY k pl /\ zlY k pu
 | _,_=>False
noncomputable def ziR:List Int -> Pap -> Bool
 | _,.nil=>true
 | ls,.node m1 m2 lo pl up pu=>decide (zmZ lo.length m1 m2 lo up=ls) && (ziR lo pl && ziR up pu)
noncomputable def Four (H:Hp) (h:Nat) (t:Addr) (m1 m2:Nat) (lo up:List Int):Prop:=∃ x y a p b q:Addr,H t=some (.tup [nV m1,nV m2,.ref x,.ref y]) /\ H x=some (.tup [.ref a,.ref p]) /\ H a=some (.tup (lo.map V.int)) /\ H y=some (.tup [.ref b,.ref q]) /\ H b=some (.tup (up.map V.int)) /\
 m1 < 2 ^ h /\ m2 < 2 ^ h /\ zfx lo /\ lo.length=h /\ zfx up /\ up.length=h /\ 1 <= h /\ h <= 32
section
variable {h:Nat} {A B:List Int}
end
section
variable {X:Cx} {a b c:Expr} {ta:TA} {p p2 pos pos2:Pos}
end
noncomputable def Evs (H:Hp) (A:List (Addr × List Int)) (w:Nat):Prop:=∀ q ∈ A,H q.1=some (.tup (q.2.map V.int)) /\ zfx q.2 /\ q.2.length=w
section
variable {X:Cx} {i o:Expr} {ty td:TE} {pos:Pos}
def znb (hu:X.A.units + 64 < cLine) (hi:PE X i ty) (ho:PE X o td) (h1:behindInMarks .In o=false:=by rfl):PT X (.Compare i [.In] [o] pos) (tB (tDIn ty td)):=zjx (zm5 (yaU (ybt (3:) _) hu) hi ho) h1
def zgo (hu:X.A.units + 64 < cLine) (hi:PE X i ty) (ho:PE X o td) (h1:behindInMarks .NotIn o=false:=by rfl):PT X (.Compare i [.NotIn] [o] pos) (tB (zg1 ty td)):=zjx (zjR (yaU (ybt (3:) _) hu) hi ho) h1
def zfV (hu:X.A.units + 64 < cLine) (ho:PE X o td) (hi:PE X i ty) (hs:NoSl i:=by exact λ _ _=>rfl):PE X (.Subscript o i pos) (zlF td ty):=zlE (yaU (ybt (3:) _) hu) ho hi hs
end
section
variable {ty td:TE} {σ:St} {H:Hp} {Q:VK}
def zmu (h:ty σ H λ y H1=>td σ H1 λ x H2=>∃ a o,x=.ref a /\ DGet H2 a y o /\ Q (.bl o.isSome) H2):tDIn ty td σ H Q:=h
def zfy (h:ty σ H λ y H1=>td σ H1 λ x H2=>∃ a o,x=.ref a /\ DGet H2 a y o /\ Q (.bl (!o.isSome)) H2):zg1 ty td σ H Q:=h
def zec (h:td σ H λ x H1=>ty σ H1 λ y H2=>∃ a v,x=.ref a /\ DGet H2 a y (some v) /\ Q v H2):zlF td ty σ H Q:=h
end
end L2
namespace PySem
open Sem (wp)
open AutoSeq1 (wpAny_loadPart')
section
variable {prog:Program} {w:World} {A:Around} {E:Value -> Shared -> Prop} {s:Shared}
end
section
variable {prog:Program} {w:World} {A:Around} {E:Value -> Shared -> Prop} {s:Shared}
end
end PySem
namespace L2
open PySem PySem.Spec PyProof.Rows Bm
section
variable {X:Cx} {a:Expr} {ta:TA} {p p1 p2 pos pos1 pos2:Pos}
end
section
variable {X:Cx} {e lw st:Expr} {te tl:TE} {ts:TE} {pos p2:Pos}
end
noncomputable def MxN (H:Hp) (l:Addr) (n:Nat) (g:Nat -> Nat -> Nat):Prop:=∃ as:List Addr,as.length=n /\ H l=some (.lst (as.map V.ref)) /\ ∀ i (h:i < as.length),H as[i]=some (.lst (((List.range n).map (g i)).map nV))
noncomputable def gT (n:Nat):Nat -> Nat -> Nat -> Nat
 | 0,r,c=>n * c + r
 | 1,r,c=>n * (n - 1 - c) + r
 | _,r,c=>n * r + (n - 1 - c)
section
variable {X:Cx} {o i value:Expr} {td ty tv:TE} {pos pos':Pos}
def zfn (hu:X.A.units + 64 < cLine) (ho:PE X o td) (hi:PE X i ty) (hv:PE X value tv) (hs:swapsWith value (some (.Subscript o i pos')) pos.line X.env=pure false:=by rfl) :
  PS X (.Assign [.Subscript o i pos'] value pos) (zll td ty tv):=zlo (yaU (ybt (3:) _) hu) ho hi hv hs
end
section
variable {td ty tv:TE} {D:Ends} {σ:St} {H:Hp} {Q:VK}
def zjs (h:tv σ H λ v H1=>td σ H1 λ x H2=>ty σ H2 λ y H3=>∃ a H4,x=.ref a /\ DPut H3 a y v H4 /\ D.nx σ H4):zll td ty tv D σ H:=h
end
noncomputable def Good (k:Nat) (ls:List Int) (P:Pap):Prop:=zlY k P /\ ziR ls P=true /\ zlS ls P
noncomputable def Part (H:Hp) (k:Nat) (x:Addr) (ls:List Int) (P:Pap):Prop:=∃ lx px:Addr,H x=some (.tup [.ref lx,.ref px]) /\ H lx=some (.tup (ls.map V.int)) /\ PapH H px P /\ Good k ls P
end L2
namespace Dit
open PySem PyProof.Rows
section
variable {prog:Program} {w:World} {A:Around} {E:Value -> Shared -> Prop} {s:Shared} {it d:Addr} {i ep:Nat} {es:Array DictEntry} {od:Obj}
def seen {m:Sem Fin} {Q:Option Value -> Shared -> Prop} (hit:s.heap.IsKeyIter it d i es.size ep) (h:wpAny (model prog w) A.in1 (Builtin.«dict_keyiterator.__next__» ⟨[.ref it],[]⟩) (λ f s'=>∃ v,f=.done (.ret v) /\ Q (some v) s') (λ e s'=>s'.TypeIs e "StopIteration" /\ Q none s') s) :
  wpAny (model prog w) A (pyNext (.ref it)) Q E s:=by
 unfold pyNext;refine wpAny_bind (wpAny_attempt (wpAny_callSpecial?_slot (name:=Str.ofString "__next__") hit.typeIs ybH (wpAny_call_entry ybH hit.typeIs F.entry_dict_keyiterator_next ?_ (F.args_dict_keyiterator_next_1 _))));refine wpAny_mono h (λ f s' z=>?_) λ e s' z=>?_
 ·obtain ⟨v,e,q⟩:=z;exact ⟨v,e,wpAny_pure q⟩
 ·refine wpAny_bind (wpAny_isInstance (T:="StopIteration") (b:=true) z.1 isSubtype_stop ?_);exact wpAny_pure z.2
def step_item {Q:Fin -> Shared -> Prop} (hit:s.heap.IsKeyIter it d i es.size ep) (hod:s.heap.get? d=some od) (hdd:od.data=.dict es ep) (hi:i < es.size)
  (h:∀ h',h'.IsKeyIter it d (i + 1) es.size ep -> Heap.SameBut it s.heap h' -> Q (.done (.ret es[i].key)) { s with heap:=h' }):wpAny (model prog w) A (Builtin.«dict_keyiterator.__next__» ⟨[.ref it],[]⟩) Q E s:=by
 obtain ⟨o,ho,hc,hd⟩:=id hit;have hown:Builtin.Dict_items.ownsTuple "dict_keyiterator"=false:=by decide
 have h':(s.heap.update it (Obj.mapFields (·.setIfInBounds 1 (rawInt ((i:Int) + 1))))).IsKeyIter it d (i + 1) es.size ep:=
  ⟨_,ybJ _ ho (ycj (ybx hd _)),(Obj.cls_mapFields ..).trans hc,by rw [ybx hd]; simp [rawInt]⟩
 refine wpAny_bind (wpAny_pure (wpAny_bind (wpAny_bind ?_)))
 first | refine wpAny_bind (wpAny_typeNameOfWhole_keyiter hit.typeIs (wpAny_pure (wpAny_bind (wpAny_fieldsOf ho hd ?_)))) | refine wpAny_bind (wpAny_typeNameOf_keyiter hit.typeIs (wpAny_pure (wpAny_bind (wpAny_fieldsOf ho hd ?_))))
 simp only [hown,yar,if_false];show wpAny _ _ (if (Value.ref d == Value.none)=true then _ else _) _ _ s;rw [if_neg (show ¬ ((Value.ref d == Value.none)=true) from yaq)];refine wpAny_bind (wpAny_pure (wpAny_bind (wpAny_dictEntries hod hdd ?_)));rw [if_neg (5:)];refine wpAny_bind (wpAny_pure (wpAny_bind (wpAny_dictEpoch hod hdd ?_)));rw [if_neg (5:)];refine wpAny_pure ?_;simp only [show ¬ ((i:Int) < 0) from by omega,if_false,yao,ybT hi];refine wpAny_bind ?_
 first | refine wpAny_bind (wpAny_typeNameOfWhole_keyiter hit.typeIs (wpAny_pure (wpAny_bind (wpAny_isOneOf_keyiter hit.typeIs ?_)))) | refine wpAny_bind (wpAny_typeNameOf_keyiter hit.typeIs (wpAny_pure (wpAny_bind (wpAny_isOneOf_keyiter hit.typeIs ?_))))
 refine wpAny_bind (m:=setField (.ref it) 1 (rawInt ((i:Int) + 1))) (wpAny_setField ho hd (5:) ?_);refine wpAny_bind (wpAny_holding (wpAny_bind (wpAny_isOneOf_keyiter (s:={ s with heap:=s.heap.update it (Obj.mapFields (·.setIfInBounds 1 (rawInt ((i:Int) + 1)))) }) h'.typeIs ?_)));show wpAny _ _ (pure es[i].key) _ _ _;exact wpAny_pure (wpAny_pure (h _ h' (ybr ..)))
def step_end {Q:Fin -> Shared -> Prop} (hh:A.handled=none) (hit:s.heap.IsKeyIter it d i es.size ep) (hod:s.heap.get? d=some od) (hdd:od.data=.dict es ep) (hi:es.size <= i)
  (h:∀ h' e,Heap.ExtBut it s.heap h' -> Shared.TypeIs { s with heap:=h' } e "StopIteration" -> E e { s with heap:=h' }):wpAny (model prog w) A (Builtin.«dict_keyiterator.__next__» ⟨[.ref it],[]⟩) Q E s:=by
 obtain ⟨o,ho,hc,hd⟩:=id hit;have hown:Builtin.Dict_items.ownsTuple "dict_keyiterator"=false:=by decide
 refine wpAny_bind (wpAny_pure (wpAny_bind (wpAny_bind ?_)))
 first | refine wpAny_bind (wpAny_typeNameOfWhole_keyiter hit.typeIs (wpAny_pure (wpAny_bind (wpAny_fieldsOf ho hd ?_)))) | refine wpAny_bind (wpAny_typeNameOf_keyiter hit.typeIs (wpAny_pure (wpAny_bind (wpAny_fieldsOf ho hd ?_))))
 simp only [hown,yar,if_false];show wpAny _ _ (if (Value.ref d == Value.none)=true then _ else _) _ _ s;rw [if_neg (show ¬ ((Value.ref d == Value.none)=true) from yaq)];refine wpAny_bind (wpAny_pure (wpAny_bind (wpAny_dictEntries hod hdd ?_)));rw [if_neg (5:)];refine wpAny_bind (wpAny_pure (wpAny_bind (wpAny_dictEpoch hod hdd ?_)));rw [if_neg (5:)];refine wpAny_pure ?_;simp only [show ¬ ((i:Int) < 0) from by omega,if_false,yao,Array.getElem?_eq_none hi];refine wpAny_bind ?_
 first | refine wpAny_bind (wpAny_typeNameOfWhole_keyiter hit.typeIs (wpAny_pure ?_)) | refine wpAny_bind (wpAny_typeNameOf_keyiter hit.typeIs (wpAny_pure ?_))
 refine wpAny_bind (m:=setField (.ref it) 0 .none) (wpAny_setField ho hd (5:) ?_);refine wpAny_bind ?_;simp only [newExc,newTuple];refine wpAny_bind (wpAny_newObj_type ?_ (by size_fits));refine wpAny_bind (m:=firstArgMember _ _) (wpAny_of_eq (a:=Value.none) (81:) ?_);refine wpAny_newObj_type ?_ (by size_fits);simp only [raiseNew];refine wpAny_bind (wpAny_handled ?_);rw [hh];refine wpAny_bind (wpAny_pure (wpAny_throw ?_));exact h _ _ (((ybr ..).extBut.push _).push _) ⟨_,yae _ rfl,rfl⟩
def iter_dict {Q:Value -> Shared -> Prop} (hd:(d == sysModules)=false) (ho:s.heap.get? d=some od) (hex:od.ExactDict) (hdd:od.data=.dict es ep)
  (hQ:Q (.ref s.heap.objs.size) { s with heap:=s.heap.push { cls:=.type "dict_keyiterator",data:=.fields #[.ref d,.int 0 0,.int es.size 0,.int ep 0] } }):wpAny (model prog w) A (pyIter (.ref d)) Q E s:=by
 have hT:s.TypeIs (.ref d) "dict":=⟨od,ho,hex.1⟩
 refine wpAny_pyIter_slot hT F.slot_dict_iter (wpAny_call_entry F.slot_dict_iter hT F.entry_dict_iter ?_ (F.args_dict_iter_1 _));unfold Builtin.«dict.__iter__» Builtin.Dict.dictSlotNone Builtin.Dict.showsAll;refine wpAny_bind (wpAny_bind (wpAny_notOrdered_dict hT (wpAny_pure ?_)));refine wpAny_bind (m:=if (d == sysModules)=true then _ else _) ?_;rw [if_neg (by rw [hd]; exact yaq)];refine wpAny_pure (wpAny_bind (wpAny_dictEntries ho hdd (wpAny_bind (wpAny_dictEpoch ho hdd (wpAny_bind (wpAny_newObj_type (wpAny_pure ⟨_,rfl,"dict_keyiterator",_,⟨_,yae _ rfl,rfl⟩,ybH.lookup,?_⟩)))))));simpa [rawInt] using hQ
end
end Dit
namespace L2
open PySem PySem.Spec PyProof.Rows
noncomputable def Frz (H:Hp) (a:Addr) (o:Obj) (kvs:List (List Key × V)):Prop:=H a=some (.frz o (.dT kvs))
noncomputable def Itd (a:Addr) (o:Obj) (kvs:List (List Key × V)):It:=
 ⟨λ i H=>Frz H a o kvs /\ i < kvs.length,λ i H x H'=>H'=H /\ ∃ k b,(kvs.map (·.1))[i]?=some k /\ x=.ref b /\ H b=some (.tup (k.map kV)),λ i H=>Frz H a o kvs /\ kvs.length <= i⟩
def zk1 {H:Hp}:∀ {kvs:List (List Key × V)} {xs:List (List Key × Addr × Value)} {i:Nat} {q:List Key × Addr × Value},Paired (λ (p:List Key × V) (q:List Key × Addr × Value)=>p.1=q.1 /\ H q.2.1=some (.tup (p.1.map kV)) /\ RelV p.2 q.2.2) kvs xs -> xs[i]?=some q -> (kvs.map (·.1))[i]?=some q.1 /\ H q.2.1=some (.tup (q.1.map kV))
 | _,_,_,_,.nil,e=>by simp at e
 | _,_,0,_,.cons r _,e=>by
  simp at e; subst e;exact ⟨by simp [r.1],by rw [<- r.1]; exact r.2.1⟩
 | _,_,i + 1,_,.cons _ t,e=>by
  have:=zk1 (i:=i) t (58:);exact ⟨by simpa using this.1,this.2⟩
def zgf {P:Program} {w:World} {K:PySem.W.Frag} {tg:Expr} {o:Obj} {es:Array DictEntry} {ep:Nat} (hdd:o.data=.dict es ep) (a:Addr) (kvs:List (List Key × V)) (it:Addr) (hne:a ≠ it) :
  Turn P w K tg (Itd a o kvs) [it] it (λ i h=>h.IsKeyIter it a i es.size ep) where
 mem:=by simp
 obj:=λ i h st b hb=>by
  have e:b=it:=by simpa using hb
  subst e;obtain ⟨o,ho,_,hd⟩:=st;exact ⟨o,ho,λ v z=>by rw [hd] at z; cases z⟩
 keep:=λ i h h' st k=>by
  obtain ⟨o,ho,hc,hd⟩:=st;exact ⟨o,k it (5:) _ ho,hc,hd⟩
 item:=by
  intro X hP hw hK hc i pins s σ H E I hf st hg;subst hP hw hK;obtain ⟨hF,hi⟩:=hg;obtain ⟨f0,f1,f2,f3,f4,f5⟩:=hf it (5:);obtain ⟨g1,g2⟩:=(show zaN X.prog X.w H s.heap a (.frz o (.dT kvs)) from I.hok a _ hF)
  obtain ⟨_,_,xs,rel,o',es',ep',h1,h2,h3,h4,h5⟩:=g2;have eo:o'=o:=by rw [g1] at h1; exact (Option.some.inj h1).symm
  subst eo;rw [hdd] at h3;cases h3;have hl:es.size=xs.length:=by rw [<- yaE,h4,yac]
  have hx:kvs.length=xs.length:=ya2 rel;have hi':i < es.size:=by omega
  have hq:xs[i]?=some xs[i]:=yaa (1:);obtain ⟨q1,q2⟩:=zk1 rel hq
  have ek:es[i].key=.ref xs[i].2.1:=by
   have:es.toList[i]?=some (entryOfKey (tupleKind (zaV X.prog X.w)) xs[i]):=by rw [h4,yai,hq]; rfl
   rw [yaV,getElem?_pos es i hi'] at this;rw [Option.some.inj this];rfl
  refine Dit.seen (m:=pure (.done (.ret .none))) st (Dit.step_item st g1 hdd hi' λ h' st' sb=>⟨_,rfl,?_⟩);have I1:Inv X pins σ H { s with heap:=h' }:=I.turned (t':=s.toks) (λ b o hb e=>(sb.2 b hb).trans e) f0 f1 f3 f4 f5;obtain ⟨o2,e2,c2,d2⟩:=id st';refine ⟨_,rfl,zj8 (s:={ s with heap:=h' }) e2 c2 d2 (3:) ⟨.ref xs[i].2.1,H,I1,ek,⟨rfl,_,_,q1,rfl,q2⟩,st',λ b hb=>(hf b hb).1⟩⟩
 done:=by
  intro X hP hw hK hc i pins s σ H E I hf st hg;subst hP hw hK;obtain ⟨hF,hi⟩:=hg;obtain ⟨f0,f1,f2,f3,f4,f5⟩:=hf it (5:);obtain ⟨g1,g2⟩:=(show zaN X.prog X.w H s.heap a (.frz o (.dT kvs)) from I.hok a _ hF)
  obtain ⟨_,_,xs,rel,o',es',ep',h1,h2,h3,h4,h5⟩:=g2;have eo:o'=o:=by rw [g1] at h1; exact (Option.some.inj h1).symm
  subst eo;rw [hdd] at h3;cases h3;have hl:es.size=xs.length:=by rw [<- yaE,h4,yac]
  have hx:kvs.length=xs.length:=ya2 rel;refine Dit.seen (m:=pure (.done (.ret .none))) st (Dit.step_end (I.ok.hd hc) st g1 hdd (1:) λ h' e eb hT=>⟨hT,rfl,I.turned (t':=s.toks) (λ b o hb e=>eb b o hb e) f0 f1 f3 f4 f5⟩)
 self:=λ _ i s Q E st h=>by
  have hT:s.TypeIs (.ref it) "dict_keyiterator":=st.typeIs;refine wpAny_pyIter_slot hT yb3 (wpAny_call_entry yb3 hT PySem.F.entry_dict_keyiterator_iter ?_ (PySem.F.args_dict_keyiterator_iter_1 _));exact wpAny_pure ⟨_,rfl,"dict_keyiterator",_,hT,PySem.F.slot_dict_keyiterator_next.lookup,h⟩
def zfP {P:Program} {w:World} {H:Hp} {h:Heap} {a:Addr} {o:Obj} {kvs:List (List Key × V)} (ok:zaN P w H h a (.dT kvs)) (e:H a=some (.dT kvs)) (ho:h.get? a=some o):zaN P w (upd H a (.frz o (.dT kvs))) h a (.frz o (.dT kvs)):=by
  obtain ⟨z1,z2,xs,rel,r⟩:=ok
  have up:∀ {l:List (List Key × V)} {m:List (List Key × Addr × Value)},Paired (λ (p:List Key × V) (q:List Key × Addr × Value)=>p.1=q.1 /\ H q.2.1=some (.tup (p.1.map kV)) /\ RelV p.2 q.2.2) l m ->
      Paired (λ (p:List Key × V) (q:List Key × Addr × Value)=>p.1=q.1 /\ upd H a (.frz o (.dT kvs)) q.2.1=some (.tup (p.1.map kV)) /\ RelV p.2 q.2.2) l m:=λ q=>by
    induction q with
    | nil=>exact .nil
    | cons hq _ ih=>
      refine .cons ⟨hq.1,?_,hq.2.2⟩ ih;rw [zak (zbK hq.2.1 e nofun)];exact hq.2.1
  exact ⟨ho,z1,z2,xs,up rel,r⟩
section
variable {X:Cx} {tg:Expr}
noncomputable def zk0 (tl:TE):TI:=λ σ H R=>tl σ H λ x H1=>∃ (a:Addr) (kvs:List (List Key × V)),x=.ref a /\ ((H1 a=some (.dT kvs) /\ ∀ o,R (Itd a o kvs) (upd H1 a (.frz o (.dT kvs)))) \/ ∃ o,Frz H1 a o kvs /\ R (Itd a o kvs) H1)
def zdX {l:Expr} {tl:TE} (hl:PE X l tl):PI X tg l (zk0 tl):=by
 intro pins s σ H R I h;refine thn (hl pins s σ H _ I h) λ v s1 ⟨x,H1,I1,r1,q1⟩=>?_;obtain ⟨a,kvs,e,q⟩:=q1;subst e;cases r1;rcases q with ⟨e,q⟩ | ⟨o,e,q⟩
 ·have ok := (show zaN X.prog X.w H1 s1.heap a (.dT kvs) from I1.hok a _ e)
  obtain ⟨z1,z2,xs,rel,o,es,ep,h1,h2,h3,h4,h5⟩:=id ok;refine Dit.iter_dict z2 h1 h2 h3 ?_;have ha:=yad h1;have h1':(s1.heap.push { cls:=.type "dict_keyiterator",data:=.fields #[.ref a,.int 0 0,.int es.size 0,.int ep 0] }).get? a=some o:=yab _ h1
  have J:Inv X pins σ (upd H1 a (.frz o (.dT kvs))) { s1 with heap:=s1.heap.push { cls:=.type "dict_keyiterator",data:=.fields #[.ref a,.int 0 0,.int es.size 0,.int ep 0] } }:=by
   have I2:=I1.kept (t':=s1.toks) (h':=s1.heap.push { cls:=.type "dict_keyiterator",data:=.fields #[.ref a,.int 0 0,.int es.size 0,.int ep 0] }) λ b o e=>yab _ e;have ok2:=(show zaN X.prog X.w H1 _ a (.dT kvs) from I2.hok a _ e)
   exact I2.write (t':=s1.toks) (x:=a) (e:=a) (by rw [e]; trivial) (.inl rfl) (λ b u _ z=>z) ⟨o,h1'⟩ (zfP ok2 e h1')
  refine ⟨s1.heap.objs.size,[s1.heap.objs.size],_,_,_,rfl,J,zgf h3 a kvs _ (yau ha),⟨_,yae _ rfl,rfl,rfl⟩,λ b hb=>?_,q o⟩;have eb:b=s1.heap.objs.size:=by simpa using hb
  subst eb;exact I1.fpOk (yag _) (by rw [zak (ya5 ha)]; exact I1.hok.fresh (yag _))
 ·obtain ⟨g1, z1, z2, xs, rel, o', es, ep, h1, h2, h3, h4, h5⟩ := (show zaN X.prog X.w H1 s1.heap a (.frz o (.dT kvs)) from I1.hok a _ e)
  have eo:o'=o:=by rw [g1] at h1; exact (Option.some.inj h1).symm
  subst eo;refine Dit.iter_dict z2 h1 h2 h3 ?_;have ha:=yad h1;refine ⟨s1.heap.objs.size,[s1.heap.objs.size],_,_,H1,rfl,I1.kept (t':=s1.toks) λ b o e=>yab _ e,zgf h3 a kvs _ (yau ha),⟨_,yae _ rfl,rfl,rfl⟩,λ b hb=>?_,q⟩;have eb:b=s1.heap.objs.size:=by simpa using hb
  subst eb;exact I1.fpOk (yag _) (I1.hok.fresh (yag _))
end
def zjX {a:Addr} {o:Obj} {kvs:List (List Key × V)} {g:TG} {tb:TS} {D:Ends} {σ:St} {H:Hp} (Pv:Nat -> St -> Hp -> Prop) (h0:Pv 0 σ H) (hl:∀ i σ H',Pv i σ H' -> Frz H' a o kvs)
  (step:∀ i k b σ H',(kvs.map (·.1))[i]?=some k -> H' b=some (.tup (k.map kV)) -> Pv i σ H' -> g (.ref b) σ H' λ σ2 H2=>tb { D with nx:=Pv (i + 1),ct:=Pv (i + 1),bk:=D.nx } σ2 H2) (done:∀ σ H',Pv kvs.length σ H' -> D.nx σ H'):ForW (Itd a o kvs) g tb D σ H:=by
 refine ⟨λ i m σ H=>m=kvs.length - i /\ i <= kvs.length /\ Pv i σ H,⟨kvs.length,by simp,yaQ _,h0⟩,?_⟩;rintro i m σ H ⟨rfl,hi,p⟩;by_cases hlt:i < kvs.length
 ·refine .inr ⟨⟨hl i σ H p,hlt⟩,Pv (i + 1),λ σ' H' p'=>⟨kvs.length - (i + 1),by omega,rfl,hlt,p'⟩,λ x H' y=>?_⟩;obtain ⟨e,k,b,y1,rfl,y3⟩:=y;subst e;exact step i k b σ _ y1 y3 p
 ·have e : i = kvs.length := by omega
  subst e;exact .inl ⟨⟨hl _ σ H p,yag _⟩,done σ H p⟩
def zd8 {a:Addr} {o:Obj} {kvs:List (List Key × V)} {src:List (Option Nat)} {σ:St} {g:TG} {tc:TT} {te:TE} {Q:VK} {H:Hp} (Pv:Nat -> List V -> Hp -> Prop) (h0:Pv 0 [] H) (len:∀ i acc H,Pv i acc H -> acc.length <= sizeLine) (hl:∀ i acc H,Pv i acc H -> Frz H a o kvs)
  (step:∀ i k b acc H,(kvs.map (·.1))[i]?=some k -> H b=some (.tup (k.map kV)) -> Pv i acc H -> g (.ref b) (capt src σ) H λ σ2 H2=>Ext (capt src σ) σ2 /\ tc σ2 H2 λ b H3=>if b=true then te σ2 H3 (λ y H4=>Pv (i + 1) (acc ++ [y]) H4) else Pv (i + 1) acc H3)
  (done:∀ acc H,Pv kvs.length acc H -> ∀ p,H p=none -> Q (.ref p) (upd H p (.lst acc))):zcb (Itd a o kvs) src σ g tc te Q H:=by
 refine ⟨λ i m acc H=>m=kvs.length - i /\ i <= kvs.length /\ Pv i acc H,⟨kvs.length,by simp,yaQ _,h0⟩,?_⟩;rintro i m acc H ⟨rfl,hi,p⟩;refine ⟨len i acc H p,?_⟩;by_cases hlt:i < kvs.length
 ·refine .inr ⟨⟨hl i acc H p,hlt⟩,λ y H4=>Pv (i + 1) (acc ++ [y]) H4,λ H3=>Pv (i + 1) acc H3,λ y H4 q=>⟨kvs.length - (i + 1),by omega,rfl,hlt,q⟩,λ H3 q=>⟨kvs.length - (i + 1),by omega,rfl,hlt,q⟩,λ x H' y=>?_⟩;obtain ⟨e,k,b,y1,rfl,y3⟩:=y;subst e;exact step i k b acc _ y1 y3 p
 ·have e : i = kvs.length := by omega
  subst e;exact .inl ⟨⟨hl _ acc H p,yag _⟩,done acc H p⟩
open Bm
noncomputable def Rn (S:List (List Int)) (w:Nat):Nat -> List Int -> Prop
 | 0,x=>x=zaK w
 | n + 1,x=>∃ y s,Rn S w n y /\ s ∈ S /\ x=zaB y s
noncomputable def Dst (S:List (List Int)) (w n:Nat) (x:List Int):Prop:=Rn S w n x /\ ∀ m,m < n -> ¬ Rn S w m x
section
variable {S T:List (List Int)} {w n m:Nat} {x y s:List Int}
def Rn.congr (h:∀ s,s ∈ S ↔ s ∈ T):∀ {n:Nat} {x:List Int},Rn S w n x ↔ Rn T w n x
 | 0,_=>Iff.rfl
 | n + 1,x=>⟨λ ⟨y,s,h1,h2,h3⟩=>⟨y,s,(Rn.congr h).mp h1,(h s).mp h2,h3⟩,λ ⟨y,s,h1,h2,h3⟩=>⟨y,s,(Rn.congr h).mpr h1,(h s).mpr h2,h3⟩⟩
def Dst.congr (h:∀ s,s ∈ S ↔ s ∈ T):Dst S w n x ↔ Dst T w n x:=
 ⟨λ ⟨a,b⟩=>⟨(Rn.congr h).mp a,λ m hm z=>b m hm ((Rn.congr h).mpr z)⟩,λ ⟨a,b⟩=>⟨(Rn.congr h).mpr a,λ m hm z=>b m hm ((Rn.congr h).mp z)⟩⟩
def Rn.least:∀ {n:Nat} {x:List Int},Rn S w n x -> ∃ m,m <= n /\ Dst S w m x:=λ {n x}=>by
 induction n using Nat.strongRecOn with
 | _ n ih=>
  intro h;by_cases c:∃ m,m < n /\ Rn S w m x
  ·obtain ⟨m,hm,z⟩:=c;obtain ⟨k,hk,d⟩:=ih m hm z;exact ⟨k,by omega,d⟩
  ·exact ⟨n,yag _,h,λ m hm z=>c ⟨m,hm,z⟩⟩
def Dst.one (a:Dst S w n x) (b:Dst S w m x):n=m:=by
 rcases Nat.lt_trichotomy n m with c | c | c
 ·exact absurd a.1 (b.2 n c)
 ·exact c
 ·exact absurd b.1 (a.2 m c)
def Dst.zero:Dst S w 0 x ↔ x=zaK w:=⟨λ h=>h.1,λ h=>⟨h,λ m hm=>absurd hm (ybN _)⟩⟩
def Dst.last (h:Dst S w (n + 1) x):∃ y s,Dst S w n y /\ s ∈ S /\ x=zaB y s:=by
 obtain ⟨⟨y,s,h1,h2,h3⟩,h4⟩:=h;refine ⟨y,s,⟨h1,λ m hm z=>h4 (m + 1) (1:) ⟨y,s,z,h2,h3⟩⟩,h2,h3⟩
def Dst.next (h:Dst S w n y) (hs:s ∈ S) (hx:x=zaB y s) (hn:∀ m,m <= n -> ¬ Dst S w m x):Dst S w (n + 1) x:=by
 refine ⟨⟨y,s,h.1,hs,hx⟩,λ m hm z=>?_⟩;obtain ⟨k,hk,d⟩:=z.least;exact hn k (1:) d
def Dst.none_beyond (h:∀ x,¬ Dst S w n x):∀ m,n <= m -> ∀ x,¬ Dst S w m x:=λ m hm=>by
 induction m with
 | zero=>
  have:n=0:=by omega
  subst this;exact h
 | succ m ih=>
  intro x d;by_cases c:n=m + 1
  ·subst c; exact h x d
  ·obtain ⟨y,s,dy,_⟩:=d.last;exact ih (1:) y dy
def Rn.ld (hS:∀ s ∈ S,Ld w s):∀ {n:Nat} {x:List Int},Rn S w n x -> Ld w x
 | 0,_,h=>by
  have h:_=zaK w:=h;rw [h]; exact zfb w
 | n + 1,x,⟨y,s,h1,h2,h3⟩=>by rw [h3]; exact ziS (Rn.ld hS h1) (hS s h2)
end
structure Ring (S:List (List Int)) (w n:Nat) (F:List (List Int × Nat)) (E:List (List Int)):Prop where
 all:∀ x m,(x,m) ∈ F ↔ m <= n /\ Dst S w m x
 edge:∀ x,x ∈ E ↔ Dst S w n x
 once:(F.map (·.1)).Nodup
 few:E.Nodup
def Ring.start (S:List (List Int)) (w:Nat):Ring S w 0 [(zaK w,0)] [zaK w] where
 all:=λ x m=>by
  rw [yaz,Prod.mk.injEq];constructor
  ·rintro ⟨rfl,rfl⟩; exact ⟨yag _,Dst.zero.mpr rfl⟩
  ·rintro ⟨h1, h2⟩;have : m = 0 := by omega
   subst this;exact ⟨Dst.zero.mp h2,rfl⟩
 edge:=λ x=>by rw [yaz]; exact Dst.zero.symm
 once:=by simp
 few:=by simp
structure Amid (S:List (List Int)) (w n:Nat) (F:List (List Int × Nat)) (D:List Int -> List Int -> Prop) (F':List (List Int × Nat)) (G:List (List Int)):Prop where
 is:F'=F ++ G.map λ x=>(x,n + 1)
 new:∀ x ∈ G,Dst S w (n + 1) x
 had:∀ y s,D y s -> (∃ m,m <= n /\ Dst S w m (zaB y s)) \/ zaB y s ∈ G
 once:(F'.map (·.1)).Nodup
def Amid.start {S:List (List Int)} {w n:Nat} {F:List (List Int × Nat)} {E:List (List Int)} (R:Ring S w n F E):Amid S w n F (λ _ _=>False) F []:=
 ⟨by simp,λ _ h=>absurd h yaH,λ _ _ h=>h.elim,R.once⟩
section
variable {S:List (List Int)} {w n:Nat} {F F':List (List Int × Nat)} {E G:List (List Int)} {D:List Int -> List Int -> Prop} {y s:List Int}
def Amid.keys (R:Ring S w n F E) (A:Amid S w n F D F' G) (x:List Int):x ∈ F'.map (·.1) ↔ (∃ m,m <= n /\ Dst S w m x) \/ x ∈ G:=by
 rw [A.is,yax,yaK,ya7];constructor
 ·rintro (h | h)
  ·obtain ⟨q,hq,rfl⟩:=yap.mp h;have:=(R.all q.1 q.2).mp hq;exact .inl ⟨q.2,this⟩
  ·obtain ⟨z,hz,rfl⟩:=yap.mp h;exact .inr hz
 ·rintro (⟨m, h⟩ | h)
  ·exact .inl (yap.mpr ⟨(x,m),(R.all x m).mpr h,rfl⟩)
  ·exact .inr (yap.mpr ⟨x,h,rfl⟩)
def Amid.old (R:Ring S w n F E) (A:Amid S w n F D F' G) (h:zaB y s ∈ F'.map (·.1)):Amid S w n F (λ a b=>D a b \/ (a=y /\ b=s)) F' G:=
 ⟨A.is,A.new,λ a b z=>z.elim (A.had a b) λ z=>by rw [z.1,z.2]; exact (A.keys R _).mp h,A.once⟩
def Amid.add (R:Ring S w n F E) (A:Amid S w n F D F' G) (hy:y ∈ E) (hs:s ∈ S) (h:zaB y s ∉ F'.map (·.1)):Amid S w n F (λ a b=>D a b \/ (a=y /\ b=s)) (F' ++ [(zaB y s,n + 1)]) (G ++ [zaB y s]) where
 is:=by rw [A.is,yax,yaF]; rfl
 new:=λ x hx=>by
  rcases yaK.mp hx with z | z
  ·exact A.new x z
  ·rw [yaz.mp z];exact ((R.edge y).mp hy).next hs rfl λ m hm d=>h ((A.keys R _).mpr (.inl ⟨m,hm,d⟩))
 had:=λ a b z=>by
  rcases z with z | ⟨rfl,rfl⟩
  ·exact (A.had a b z).imp id λ q=>yaR _ q
  ·exact .inr (yaD _ (yaz.mpr rfl))
 once:=by
  rw [yax];refine List.nodup_append.mpr ⟨A.once,by simp,λ a ha b hb z=>?_⟩;have:b=zaB y s:=yaz.mp hb;rw [z,this] at ha;exact h ha
def Amid.done (R:Ring S w n F E) (A:Amid S w n F D F' G) (h:∀ y s,y ∈ E -> s ∈ S -> D y s):Ring S w (n + 1) F' G:=by
 have new:∀ x,Dst S w (n + 1) x -> x ∈ G:=λ x d=>by
  obtain ⟨y,s,dy,hs,rfl⟩:=d.last;rcases A.had y s (h y s ((R.edge y).mpr dy) hs) with ⟨m,hm,z⟩ | z
  ·have:=d.one z; omega
  ·exact z
 have nod:=A.once;rw [A.is,yax,ya7] at nod;refine ⟨λ x m=>?_,λ x=>⟨A.new x,new x⟩,A.once,?_⟩
 ·rw [A.is, yaK, R.all, yap];constructor
  ·rintro (⟨h1, h2⟩ | ⟨z, hz, e⟩)
   ·exact ⟨by omega,h2⟩
   ·cases e;exact ⟨yag _,A.new _ hz⟩
  ·rintro ⟨h1, h2⟩;by_cases c : m <= n
   ·exact .inl ⟨c,h2⟩
   ·have : m = n + 1 := by omega
    subst this;exact .inr ⟨x,new x h2,rfl⟩
 ·have := (List.nodup_append.mp nod).2.1
  have e:(List.map ((λ (q:List Int × Nat)=>q.1) ∘ λ x=>(x,n + 1)) G)=G:=by
   conv=>rhs; rw [<- List.map_id G]
   rfl
  rw [e] at this;exact this
def Ring.end (R:Ring S w n F []) (x:List Int) (m:Nat):(x,m) ∈ F ↔ Dst S w m x:=by
 rw [R.all];have:=Dst.none_beyond (S:=S) (w:=w) (n:=n) λ x d=>absurd ((R.edge x).mpr d) yaH;refine ⟨λ h=>h.2,λ h=>⟨?_,h⟩⟩;rcases ybO m n with c | c
 ·omega
 ·exact absurd h (this m c x)
end
def zhj:∀ (N:Nat) (l:List Nat),l.Nodup -> (∀ x ∈ l,x < N) -> l.length <= N
 | 0,l,_,h=>by
  cases l with
  | nil=>exact yag _
  | cons a l=>exact absurd (h a (.head _)) (ybN _)
 | N + 1,l,hd,h=>by
  have:=zhj N (l.erase N) (hd.erase N) λ x hx=>by
   have h1:=(List.Nodup.mem_erase_iff hd).mp hx;have:=h x h1.2;have:=h1.1;omega
  by_cases c:N ∈ l
  ·rw [List.length_erase_of_mem c] at this;omega
  ·rw [List.erase_of_not_mem c] at this;omega
noncomputable def zcC (b:Nat):List Int -> Nat
 | []=>0
 | e :: r=>(e + 2).toNat + b * zcC b r
def zi8 (b:Nat):∀ ls:List Int,(∀ e ∈ ls,-2 <= e /\ e + 2 < (b:Int)) -> zcC b ls < b ^ ls.length
 | [],_=>by simp [zcC]
 | e :: r,h=>by
  have h1:=h e (.head _);have ih:=zi8 b r λ x hx=>h x (.tail _ hx);rw [zcC,ybi,Nat.pow_succ]
  have:b * zcC b r + b <= b ^ r.length * b:=by
   rw [ycz (b ^ r.length) b,<- Nat.mul_succ];exact Nat.mul_le_mul_left b ih
  omega
def zhm (b:Nat):∀ {x y:List Int},x.length=y.length -> (∀ e ∈ x,-2 <= e /\ e + 2 < (b:Int)) -> (∀ e ∈ y,-2 <= e /\ e + 2 < (b:Int)) -> zcC b x=zcC b y -> x=y
 | [],[],_,_,_,_=>rfl
 | [],_ :: _,h,_,_,_=>by cases h
 | _ :: _,[],h,_,_,_=>by cases h
 | e :: x,f :: y,hl,hx,hy,h=>by
  have h1:=hx e (.head _);have h2:=hy f (.head _);rw [zcC,zcC] at h;have m1:((e + 2).toNat + b * zcC b x) % b=(e + 2).toNat:=by rw [Nat.add_mul_mod_self_left,Nat.mod_eq_of_lt (1:)]
  have m2:((f + 2).toNat + b * zcC b y) % b=(f + 2).toNat:=by rw [Nat.add_mul_mod_self_left,Nat.mod_eq_of_lt (1:)]
  have ef:(e + 2).toNat=(f + 2).toNat:=by rw [<- m1,<- m2,h]
  have e2:b * zcC b x=b * zcC b y:=by omega
  have e3:zcC b x=zcC b y:=Nat.eq_of_mul_eq_mul_left (1:) e2;rw [zhm b (62:) (λ z hz=>hx z (.tail _ hz)) (λ z hz=>hy z (.tail _ hz)) e3];congr 1;omega
def zfQ {w:Nat} {l:List (List Int)} (hn:l.Nodup) (h:∀ x ∈ l,Ld w x):l.length <= (w + 2) ^ w:=by
 have bd:∀ x ∈ l,∀ e ∈ x,-2 <= e /\ e + 2 < ((w + 2:Nat):Int):=λ x hx e he=>by
  have:=(h x hx).2 e he;omega
 have hm:(l.map (zcC (w + 2))).Nodup:=by
  refine ybp.mpr (hn.imp_of_mem λ {x y} hx hy ne z=>ne ?_);exact zhm (w + 2) (by rw [(h x hx).1,(h y hy).1]) (bd x hx) (bd y hy) z
 have:=zhj ((w + 2) ^ w) _ hm λ c hc=>by
  obtain ⟨x,hx,rfl⟩:=yap.mp hc;have:=zi8 (w + 2) x (bd x hx);rw [(h x hx).1] at this;exact this
 rw [yac] at this;exact this
def Ring.len {S:List (List Int)} {w n:Nat} {F:List (List Int × Nat)} {E:List (List Int)} (R:Ring S w n F E) (hS:∀ s ∈ S,Ld w s):F.length <= (w + 2) ^ w:=by
 have:=zfQ (w:=w) R.once λ x hx=>by
  obtain ⟨q,hq,rfl⟩:=yap.mp hx;exact ((R.all q.1 q.2).mp hq).2.1.ld hS
 rw [yac] at this;exact this
def Amid.len {S:List (List Int)} {w n:Nat} {F F':List (List Int × Nat)} {E G:List (List Int)} {D:List Int -> List Int -> Prop} (R:Ring S w n F E) (A:Amid S w n F D F' G) (hS:∀ s ∈ S,Ld w s):F'.length <= (w + 2) ^ w:=by
 have:=zfQ (w:=w) A.once λ x hx=>by
  rcases (A.keys R x).mp hx with ⟨m,_,d⟩ | z
  ·exact d.1.ld hS
  ·exact (A.new x z).1.ld hS
 rw [yac] at this;exact this
noncomputable def zi4 (tk tv:TE):TE:=λ σ H Q=>∀ p,H p=none -> tk σ (upd H p (.dT [])) λ x H1=>tv σ H1 λ y H2=>∃ (ks:List Key) (b:Addr),x=.ref b /\ H2 b=some (.tup (ks.map kV)) /\ H2 p=some (.dT []) /\ Q (.ref p) (upd H2 p (.dT [(ks,y)]))
def zf3 {X:Cx} {pos:Pos} {k v:Expr} {tk tv:TE} (hu:X.A.units + 64 < cLine) (hk:PE X k tk) (hv:PE X v tv):PE X (.Dict [some k] [v] pos) (zi4 tk tv):=by
 intro pins s σ H Q I q;have hn:=I.hok.fresh (yag s.heap.objs.size);have I1:=I.laid (a:=s.heap.objs.size) (o:=.dT []) (h':=s.heap.push { cls:=.type "dict",data:=.dict #[] }) (t':=s.toks) (λ _ _ q=>yab _ q) (yag _) (zhM s.heap I.big);have lp:(pairTrees [some k] [v] X.env pos).length=1:=pairTrees_length _ _ _ _ rfl rfl;rw [arm_eval_Dict,zip_pairTrees [some k] [v] X.env pos rfl rfl,dictDisplay_pairs (pairTrees [some k] [v] X.env pos) (λ z=>by rw [z] at lp; cases lp) (by rw [lp]; decide)];refine wpAny_bind (wpAny_standAt (wpAny_bind ?_));unfold subDict;refine wpAny_bind (wpAny_alloc (wpAny_bind (wpAny_holding ?_)));rw [if_pos (by rw [lp]; decide)];have h1:PPs X pos [some k] [v] [(tk,tv)]:=zkp hk hv zmb
 refine wpAny_bind (thn (h1 pins _ σ _ (λ ps H2=>match ps with
  | [(x,y)]=>∃ (ks:List Key) (b:Addr),x=.ref b /\ H2 b=some (.tup (ks.map kV)) /\ H2 s.heap.objs.size=some (.dT []) /\ Q (.ref s.heap.objs.size) (upd H2 s.heap.objs.size (.dT [(ks,y)]))
  | _=>False) I1 (q _ hn)) λ vs s2 z=>?_)
 obtain ⟨ps,H2,I2,rel,z⟩:=z
 match ps,rel,z with
 | [(x,y)],.cons (b:=(u,r)) rr .nil,z=>
  obtain ⟨ks,b,rfl,eb,e,q2⟩:=z;cases (show u=Value.ref b from rr.1);refine wpAny_holding ?_;rw [ycw];obtain ⟨z1,hd,xs,rel0,dd⟩:=zn0 I2.hok e;cases rel0;refine wpAny_bind (wpAny_bind (wpAny_bind (wpAny_dictSet_heap (knd:=tupleKind (zaV X.prog X.w)) (show X.A.units < cLine by omega) (zep I2.hok eb) dd (λ h' dd' hs=>wpAny_pure ?_) (yaQ _))));show wpAny _ _ (forIn [] PUnit.unit _) _ _ _;rw [ycB];refine wpAny_pure (wpAny_pure (wpAny_pure (wpAny_pure ⟨.ref s.heap.objs.size,_,?_,rfl,q2⟩)));obtain ⟨qo,es,ep,hq,h2,h3,h4,_,h5⟩:=dd';refine zgU I2 (by rw [e]; exact True.intro) hs ⟨qo,hq⟩ ⟨(show 1 <= sizeLine by decide),hd,_,?_,qo,es,ep,hq,h2,h3,h4,h5⟩;refine .cons ⟨rfl,?_,rr.2⟩ .nil;rw [zak (zbK eb e (λ z=>nomatch z))];exact eb
 | [],_,z=>exact z.elim
 | _ :: _ :: _,_,z=>exact z.elim
end L2
namespace Srk
open PySem PyProof.Rows
class KeyC where
 κ:Keyed -> Int
 G:Keyed -> Prop
 kd:SortKind
class LtC [KeyC] (prog:Program) (w:World) (A:Around) (E:Value -> Shared -> Prop) (s:Shared):Prop where
 lt:∀ {st:SortSt} {x y:Keyed} {Q:Option Bool -> SortSt -> Prop},kindOf st=KeyC.kd -> KeyC.G x -> KeyC.G y -> Q (some (decide (KeyC.κ x < KeyC.κ y))) st -> wpS (model prog w) A E s (lt' x y) Q st
noncomputable def Kk [KeyC] (xs:Array Keyed) (i:Nat):Int:=match xs[i]? with
 | some p=>KeyC.κ p
 | none=>0
section
variable [KeyC]
def zbW {xs ys:Array Keyed} {i j:Nat} (h:xs[i]?=ys[j]?):Kk xs i=Kk ys j:=by unfold Kk; rw [h]
def zh9 {xs:Array Keyed} {i:Nat} (hi:i < xs.size):Kk xs i=KeyC.κ xs[i]:=by unfold Kk; rw [getElem?_pos xs i hi]
noncomputable def zbC (xs:Array Keyed) (n:Nat):Prop:=∀ i j,i <= j -> j < n -> Kk xs i <= Kk xs j
end
end Srk
namespace Srk
open PySem PyProof.Rows
variable [KeyC]
noncomputable def gallop'Q:Bool -> Keyed -> Array Keyed -> Nat -> Nat -> Nat -> StateT SortSt Sem (Option Nat):=sortPriv% PySem.Builtin.gallop
noncomputable def beyond'Q (left:Bool) (key:Keyed) (arr:Array Keyed) (base i:Nat):StateT SortSt Sem (Option Bool):=do
  let x <- elem' arr (base + i)
  if left then lt' x key else return (<- lt' key x).map (!·)
noncomputable def zhJ (left:Bool) (key:Keyed) (arr:Array Keyed) (base n lo0 hi0:Nat):StateT SortSt Sem (Option Nat):=do
 let mut lo:=lo0
 let mut hi:=hi0
 for _ in [0:n] do
  if lo >= hi then break
  let m:=lo + (hi - lo) / 2
  let some more <- beyond'Q left key arr base m | return none
  if more then lo:=m + 1 else hi:=m
 return some hi
noncomputable def znV (left:Bool) (key:Keyed) (arr:Array Keyed) (base n hint:Nat):StateT SortSt Sem (Option Nat):=do
 let mut lastofs:=0
 let mut ofs:=1
 let maxofs:=n - hint
 for _ in [0:n] do
  if ofs >= maxofs then break
  let some more <- beyond'Q left key arr base (hint + ofs) | return none
  if !more then break
  lastofs:=ofs
  ofs:=2 * ofs + 1
 zhJ left key arr base n (hint + lastofs + 1) (hint + min ofs maxofs)
noncomputable def zjJ (left:Bool) (key:Keyed) (arr:Array Keyed) (base n hint:Nat):StateT SortSt Sem (Option Nat):=do
 let mut lastofs:=0
 let mut ofs:=1
 let maxofs:=hint + 1
 for _ in [0:n] do
  if ofs >= maxofs then break
  let some found <- beyond'Q left key arr base (hint - ofs) | return none
  if found then break
  lastofs:=ofs
  ofs:=2 * ofs + 1
 zhJ left key arr base n (hint + 1 - min ofs maxofs) (hint - lastofs)
def gallop'_eqQ (left:Bool) (key:Keyed) (arr:Array Keyed) (base n hint:Nat):gallop'Q left key arr base n hint=(do
 let some right <- beyond'Q left key arr base hint | return none
 if right then znV left key arr base n hint else zjJ left key arr base n hint):=rfl
noncomputable def mergeLo'Q:Array Keyed -> Array Keyed -> StateT SortSt Sem (Array Keyed):=sortPriv% PySem.Builtin.mergeLo
noncomputable def mergeHi'Q:Array Keyed -> Array Keyed -> StateT SortSt Sem (Array Keyed):=sortPriv% PySem.Builtin.mergeHi
noncomputable def setMinGallop'Q:Nat -> StateT SortSt Sem Unit:=sortPriv% PySem.Builtin.setMinGallop
noncomputable abbrev zaQ (st:SortSt) (g:Nat):SortSt:=SortSt.mk' (kindOf st) (arrOf st) (pendingOf st) g (failedOf st)
def setMinGallop'_eqQ (g:Nat):setMinGallop'Q g=modify (λ s=>zaQ s g):=rfl
section
variable {prog:Program} {w:World} {A:Around} {E:Value -> Shared -> Prop} {s:Shared} [LtC prog w A E s]
noncomputable def zb6 (xs:Array Keyed):Prop:=∀ (i:Nat) (x:Keyed),xs[i]?=some x -> KeyC.G x
def zeq {st:SortSt} {x y:Keyed} {Q:Option Bool -> SortSt -> Prop} (hk:kindOf st=KeyC.kd) (hx:KeyC.G x) (hy:KeyC.G y)
  (h:Q (some (decide (KeyC.κ x < KeyC.κ y))) st):wpS (model prog w) A E s (lt' x y) Q st:=LtC.lt hk hx hy h
def zav {st:SortSt} {xs:Array Keyed} {i:Nat} {Q:Keyed -> SortSt -> Prop} (hi:i < xs.size) (h:∀ x,xs[i]?=some x -> Q x st) :
  wpS (model prog w) A E s (elem' xs i) Q st:=by
 have e:xs[i]?=some xs[i]:=getElem?_pos _ i hi;rw [elem'_eq,e];exact wpS_pure (h _ e)
def zbf {xs:Array Keyed} {i:Nat} {x:Keyed} (h:xs[i]?=some x):Kk xs i=KeyC.κ x:=by unfold Kk; rw [h]
noncomputable def zaz (left:Bool) (k a:Int):Prop:=if left=true then a < k else a <= k
instance (left:Bool) (k a:Int):Decidable (zaz left k a):=by unfold zaz; infer_instance
def zaz.mono {left:Bool} {k a b:Int} (h:zaz left k b) (hab:a <= b):zaz left k a:=by
 unfold zaz at *
 split at h
 ·rename_i e; rw [if_pos e]; omega
 ·rename_i e; rw [if_neg e]; omega
def zbX {st:SortSt} {left:Bool} {key:Keyed} {arr:Array Keyed} {base i:Nat} {Q:Option Bool -> SortSt -> Prop} (hk:kindOf st=KeyC.kd) (hkey:KeyC.G key) (ha:zb6 arr)
  (hi:base + i < arr.size) (h:Q (some (decide (zaz left (KeyC.κ key) (Kk arr (base + i))))) st) :
  wpS (model prog w) A E s (beyond'Q left key arr base i) Q st:=by
 unfold beyond'Q;refine wpS_bind (zav hi λ x ex=>?_);rw [zbf ex] at h;by_cases hl:left=true
 ·rw [if_pos hl];refine zeq hk (ha _ _ ex) hkey ?_;unfold zaz at h;simpa only [if_pos hl] using h
 ·rw [if_neg hl];refine wpS_bind (zeq hk hkey (ha _ _ ex) (wpS_pure ?_));unfold zaz at h
  have e:(!decide (KeyC.κ key < KeyC.κ x))=decide (KeyC.κ x <= KeyC.κ key):=by
   by_cases hh:KeyC.κ key < KeyC.κ x
   ·rw [decide_eq_true hh,decide_eq_false (1:)]; rfl
   ·rw [decide_eq_false hh,decide_eq_true (1:)]; rfl
  simp only [if_neg hl] at h;simpa only [yb6,e] using h
def zeT {st:SortSt} {left:Bool} {key:Keyed} {arr:Array Keyed} {base n lo hi:Nat} {Q:Option Nat -> SortSt -> Prop} (hk:kindOf st=KeyC.kd) (hkey:KeyC.G key) (ha:zb6 arr)
    (hn:base + n <= arr.size) (mono:∀ i j,i <= j -> j < n -> Kk arr (base + i) <= Kk arr (base + j)) (hlh:lo <= hi) (hhn:hi <= n)
    (hlo:∀ i,i < lo -> zaz left (KeyC.κ key) (Kk arr (base + i))) (hhi:∀ i,hi <= i -> i < n -> ¬ zaz left (KeyC.κ key) (Kk arr (base + i)))
    (h:∀ k,k <= n -> (∀ i,i < k -> zaz left (KeyC.κ key) (Kk arr (base + i))) -> (∀ i,k <= i -> i < n -> ¬ zaz left (KeyC.κ key) (Kk arr (base + i))) -> Q (some k) st) :
    wpS (model prog w) A E s (zhJ left key arr base n lo hi) Q st:=by
  unfold zhJ;dsimp only
  refine wpS_bind (wpS_mono (wpS_forRange (I:=λ x c st'=>st'=st /\ ∃ l r,c=(none,l,r) /\ l <= r /\ r <= n /\ r - l <= n - x /\
      (∀ i,i < l -> zaz left (KeyC.κ key) (Kk arr (base + i))) /\ (∀ i,r <= i -> i < n -> ¬ zaz left (KeyC.κ key) (Kk arr (base + i))))
    (Q:=λ c st'=>st'=st /\ ∃ l r,c=(none,l,r) /\ r <= n /\
      (∀ i,i < r -> zaz left (KeyC.κ key) (Kk arr (base + i))) /\ (∀ i,r <= i -> i < n -> ¬ zaz left (KeyC.κ key) (Kk arr (base + i)))) ?step ?fin ?init) ?post)
  case init=>exact ⟨rfl,lo,hi,rfl,hlh,hhn,by omega,hlo,hhi⟩
  case fin=>
    rintro c st' ⟨rfl,l,r,rfl,h1,h2,h3,h4,h5⟩;have:l=r:=by omega
    subst this;exact ⟨rfl,l,l,rfl,h2,h4,h5⟩
  case step=>
    rintro x c st' _ hx ⟨rfl,l,r,rfl,h1,h2,h3,h4,h5⟩;dsimp only;by_cases hge:l >= r
    · rw [if_pos hge];have : l = r := by omega
      subst this;exact wpS_pure ⟨rfl,l,l,rfl,h2,h4,h5⟩
    · rw [if_neg hge];refine wpS_bind (zbX hk hkey ha (1:) ?_);by_cases hl : zaz left (KeyC.κ key) (Kk arr (base + (l + (r - l) / 2)))
      · simp only [hl,decide_true,if_true];exact wpS_pure ⟨rfl,_,r,rfl,by omega,h2,by omega,λ i hi=>hl.mono (mono _ _ (1:) (1:)),h5⟩
      · simp only [hl,decide_false,yar,if_false];exact wpS_pure ⟨rfl,l,_,rfl,by omega,by omega,by omega,h4,λ i hi hin z=>hl (z.mono (mono _ _ (1:) (1:)))⟩
  case post=>
    rintro c st' ⟨rfl,l,r,rfl,h2,h4,h5⟩;exact wpS_pure (h r h2 h4 h5)
def zbd {st:SortSt} {left:Bool} {key:Keyed} {arr:Array Keyed} {base n hint:Nat} {Q:Option Nat -> SortSt -> Prop} (hk:kindOf st=KeyC.kd) (hkey:KeyC.G key) (ha:zb6 arr)
  (hn:base + n <= arr.size) (hh:hint < n) (mono:∀ i j,i <= j -> j < n -> Kk arr (base + i) <= Kk arr (base + j))
  (h:∀ k,k <= n -> (∀ i,i < k -> zaz left (KeyC.κ key) (Kk arr (base + i))) -> (∀ i,k <= i -> i < n -> ¬ zaz left (KeyC.κ key) (Kk arr (base + i))) -> Q (some k) st) :
  wpS (model prog w) A E s (gallop'Q left key arr base n hint) Q st:=by
 rw [gallop'_eqQ];refine wpS_bind (zbX hk hkey ha (1:) ?_);dsimp only;by_cases hr:zaz left (KeyC.κ key) (Kk arr (base + hint))
 ·simp only [hr, decide_true, if_true];unfold znV;dsimp only
  refine wpS_bind (wpS_mono (wpS_forRange (I:=λ x c st'=>st'=st /\ ∃ l r,c=(none,l,r) /\ l < r /\ x + 1 <= r /\ hint + l < n /\ zaz left (KeyC.κ key) (Kk arr (base + (hint + l))))
   (Q:=λ c st'=>st'=st /\ ∃ l r,c=(none,l,r) /\ l < r /\ hint + l < n /\ zaz left (KeyC.κ key) (Kk arr (base + (hint + l))) /\ (r >= n - hint \/ ¬ zaz left (KeyC.κ key) (Kk arr (base + (hint + r))))) ?step ?fin ?init) ?post)
  case init=>exact ⟨rfl,0,1,rfl,by omega,by omega,by omega,hr⟩
  case fin=>
   rintro c st' ⟨rfl,l,r,rfl,h1,h2,h3,h4⟩;exact ⟨rfl,l,r,rfl,h1,h3,h4,.inl (1:)⟩
  case step=>
   rintro x c st' _ hx ⟨rfl,l,r,rfl,h1,h2,h3,h4⟩;dsimp only;by_cases hge:r >= n - hint
   ·rw [if_pos hge];exact wpS_pure ⟨rfl,l,r,rfl,h1,h3,h4,.inl hge⟩
   ·rw [if_neg hge];refine wpS_bind (zbX hk hkey ha (1:) ?_);by_cases hl : zaz left (KeyC.κ key) (Kk arr (base + (hint + r)))
    ·simp only [hl,decide_true,yb7,yar,if_false];exact wpS_pure ⟨rfl,r,_,rfl,by omega,by omega,by omega,hl⟩
    ·simp only [hl,decide_false,Bool.not_false,if_true];exact wpS_pure ⟨rfl,l,r,rfl,h1,h3,h4,.inr hl⟩
  case post=>
   rintro c st' ⟨rfl,l,r,rfl,h1,h3,h4,h5⟩;dsimp only;refine zeT (lo:=hint + l + 1) (hi:=hint + min r (n - hint)) hk hkey ha hn mono (1:) (1:) (λ i hi=>h4.mono (mono _ _ (1:) (1:))) (λ i hi hin z=>?_) h;rcases h5 with h5 | h5
   ·omega
   ·by_cases hq : r <= n - hint
    ·rw [yb8 hq] at hi;exact h5 (z.mono (mono _ _ (1:) (1:)))
    ·omega
 ·simp only [hr, decide_false, yar, if_false];unfold zjJ;dsimp only
  refine wpS_bind (wpS_mono (wpS_forRange (I:=λ x c st'=>st'=st /\ ∃ l r,c=(none,l,r) /\ l < r /\ x + 1 <= r /\ l <= hint /\ ¬ zaz left (KeyC.κ key) (Kk arr (base + (hint - l))))
   (Q:=λ c st'=>st'=st /\ ∃ l r,c=(none,l,r) /\ l < r /\ l <= hint /\ ¬ zaz left (KeyC.κ key) (Kk arr (base + (hint - l))) /\ (r >= hint + 1 \/ zaz left (KeyC.κ key) (Kk arr (base + (hint - r))))) ?step ?fin ?init) ?post)
  case init=>exact ⟨rfl,0,1,rfl,by omega,by omega,by omega,hr⟩
  case fin=>
   rintro c st' ⟨rfl,l,r,rfl,h1,h2,h3,h4⟩;exact ⟨rfl,l,r,rfl,h1,h3,h4,.inl (1:)⟩
  case step=>
   rintro x c st' _ hx ⟨rfl,l,r,rfl,h1,h2,h3,h4⟩;dsimp only;by_cases hge:r >= hint + 1
   ·rw [if_pos hge];exact wpS_pure ⟨rfl,l,r,rfl,h1,h3,h4,.inl hge⟩
   ·rw [if_neg hge];refine wpS_bind (zbX hk hkey ha (1:) ?_);by_cases hl : zaz left (KeyC.κ key) (Kk arr (base + (hint - r)))
    ·simp only [hl,decide_true,if_true];exact wpS_pure ⟨rfl,l,r,rfl,h1,h3,h4,.inr hl⟩
    ·simp only [hl,decide_false,yar,if_false];exact wpS_pure ⟨rfl,r,_,rfl,by omega,by omega,by omega,hl⟩
  case post=>
   rintro c st' ⟨rfl,l,r,rfl,h1,h3,h4,h5⟩;dsimp only;refine zeT (lo:=hint + 1 - min r (hint + 1)) (hi:=hint - l) hk hkey ha hn mono (1:) (1:) (λ i hi=>?_) (λ i hi hin z=>h4 (z.mono (mono _ _ (1:) (1:)))) h;rcases h5 with h5 | h5
   ·omega
   ·by_cases hq : r <= hint + 1
    ·rw [yb8 hq] at hi;exact h5.mono (mono _ _ (1:) (1:))
    ·omega
end
end Srk
namespace Srk
open PySem PyProof.Rows
variable [KeyC]
noncomputable abbrev kfQ (x:Keyed):Int:=KeyC.κ x
noncomputable def SrQ (l:List Keyed):Prop:=l.Pairwise λ x y=>kfQ x <= kfQ y
structure MIQ (T L A B:List Keyed):Prop where
 perm:(L ++ (A ++ B)).Perm T
 sa:SrQ (L ++ A)
 sb:SrQ (L ++ B)
def MIQ.symm {T L A B:List Keyed} (h:MIQ T L A B):MIQ T L B A:=⟨((ycl L ycm).trans h.perm),h.sb,h.sa⟩
def MIQ.take {T L A B:List Keyed} (h:MIQ T L A B) (k:Nat) (hk:∀ x ∈ A.take k,∀ y ∈ B,kfQ x <= kfQ y):MIQ T (L ++ A.take k) (A.drop k) B:=by
 refine ⟨?_,?_,?_⟩
 ·have e : L ++ A.take k ++ (A.drop k ++ B) = L ++ (A ++ B) := by rw [yaF, <- yaF (A.take k), yaW]
  rw [e]; exact h.perm
 ·rw [yaF,yaW]; exact h.sa
 ·have h1 := yaL.mp h.sa;have h2 := yaL.mp h.sb;rw [SrQ, yaF, yaL];refine ⟨h1.1, yaL.mpr ⟨h1.2.1.sublist (List.take_sublist _ _), h2.2.1, hk⟩, fun x hx y hy => ?_⟩;rcases yaK.mp hy with hy | hy
  ·exact h1.2.2 x hx y (List.mem_of_mem_take hy)
  ·exact h2.2.2 x hx y hy
def MIQ.one {T L A B:List Keyed} {x:Keyed} (h:MIQ T L (x :: A) B) (hk:∀ y ∈ B,kfQ x <= kfQ y):MIQ T (L ++ [x]) A B:=
 h.take 1 λ z hz y hy=>by
  have:z=x:=by simpa using hz
  subst this; exact hk y hy
def MIQ.last {T L B:List Keyed} {z:Keyed} (h:MIQ T L [z] B) (hz:∀ y ∈ B,kfQ y <= kfQ z):(L ++ B ++ [z]).Perm T /\ SrQ (L ++ B ++ [z]):=by
 have h':=h.symm;refine ⟨by rw [yaF]; exact h'.perm,?_⟩;rw [SrQ,yaL];refine ⟨h.sb,List.pairwise_singleton _ _,λ x hx y hy=>?_⟩;have:y=z:=by simpa using hy
 subst this;rcases yaK.mp hx with hx | hx
 ·exact (yaL.mp h.sa).2.2 x hx y (5:)
 ·exact hz x hx
structure MHQ (T R A B:List Keyed):Prop where
 perm:((A ++ B) ++ R).Perm T
 sa:SrQ (A ++ R)
 sb:SrQ (B ++ R)
def MHQ.symm {T R A B:List Keyed} (h:MHQ T R A B):MHQ T R B A:=⟨((yb9 R ycm).trans h.perm),h.sb,h.sa⟩
def MHQ.take {T R A B:List Keyed} (h:MHQ T R A B) (k:Nat) (hk:∀ x ∈ A.drop k,∀ y ∈ B,kfQ y <= kfQ x):MHQ T (A.drop k ++ R) (A.take k) B:=by
 refine ⟨?_,?_,?_⟩
 ·have e:(A.take k ++ B ++ (A.drop k ++ R)).Perm (A ++ B ++ R):=by
   have p1:(A.take k ++ B ++ A.drop k).Perm (A.take k ++ A.drop k ++ B):=by
    rw [yaF,yaF]; exact ycl _ ycm
   rw [yaW] at p1;rw [<- yaF];exact yb9 R p1
  exact e.trans h.perm
 ·rw [<- yaF,yaW]; exact h.sa
 ·have h1 := yaL.mp h.sa;have h2 := yaL.mp h.sb;rw [SrQ, yaL];refine ⟨h2.1, yaL.mpr ⟨h1.1.sublist (List.drop_sublist _ _), h1.2.1, fun x hx y hy => h1.2.2 x (List.mem_of_mem_drop hx) y hy⟩, fun x hx y hy => ?_⟩;rcases yaK.mp hy with hy | hy
  ·exact hk y hy x hx
  ·exact h2.2.2 x hx y hy
def MHQ.one {T R A B:List Keyed} {x:Keyed} (h:MHQ T R (A ++ [x]) B) (hk:∀ y ∈ B,kfQ y <= kfQ x):MHQ T (x :: R) A B:=by
  have e1:(A ++ [x]).drop A.length=[x]:=by simp
  have e2:(A ++ [x]).take A.length=A:=by simp
  have := h.take A.length (by rw [e1]; intro z hz y hy; have : z = x := by simpa using hz
                              subst this; exact hk y hy)
  rw [e1,e2] at this;exact this
def MHQ.first {T R A:List Keyed} {z:Keyed} (h:MHQ T R A [z]) (hz:∀ y ∈ A,kfQ z <= kfQ y):([z] ++ A ++ R).Perm T /\ SrQ ([z] ++ A ++ R):=by
 have h':=h.symm;refine ⟨h'.perm,?_⟩;rw [SrQ,yaF,yaL];refine ⟨List.pairwise_singleton _ _,h.sa,λ x hx y hy=>?_⟩;have:x=z:=by simpa using hx
 subst this;rcases yaK.mp hy with hy | hy
 ·exact hz y hy
 ·exact (yaL.mp h.sb).2.2 x (5:) y hy
def zeY {xs:Array Keyed} {i:Nat} {x:Keyed} (h:xs[i]?=some x):xs.toList.drop i=x :: xs.toList.drop (i + 1):=by
 have hi:i < xs.size:=by
  rcases ybO i xs.size with h1 | h1
  ·exact h1
  ·rw [getElem?_neg xs i (1:)] at h; cases h
 rw [getElem?_pos xs i hi] at h;have e:=Option.some.inj h;rw [ybU (57:)];simp [e]
def ze6 {xs:Array Keyed} {i:Nat} {x:Keyed} (h:xs[i]?=some x):xs.toList.take (i + 1)=xs.toList.take i ++ [x]:=by
 have hi:i < xs.size:=by
  rcases ybO i xs.size with h1 | h1
  ·exact h1
  ·rw [getElem?_neg xs i (1:)] at h; cases h
 rw [getElem?_pos xs i hi] at h;have e:=Option.some.inj h;rw [List.take_succ_eq_append_getElem (57:)];simp [e]
def zbq {xs:Array Keyed} {i:Nat} {x:Keyed} (h:x ∈ xs.toList.drop i):∃ j,i <= j /\ j < xs.size /\ kfQ x=Kk xs j:=by
 obtain ⟨k,hk,e⟩:=ybY h;have hk':i + k < xs.size:=by simp at hk; omega
 refine ⟨i + k,by omega,hk',?_⟩;rw [List.getElem_drop] at e;rw [zbf (getElem?_pos xs (i + k) hk'),<- e];simp
def zbz {xs:Array Keyed} {i:Nat} {x:Keyed} (h:x ∈ xs.toList.take i):∃ j,j < i /\ j < xs.size /\ kfQ x=Kk xs j:=by
 obtain ⟨k,hk,e⟩:=ybY h;have hk':k < i /\ k < xs.size:=by simp at hk; omega
 refine ⟨k,by omega,hk'.2,?_⟩;rw [List.getElem_take] at e;rw [zbf (getElem?_pos xs k hk'.2),<- e];simp
def zcR {xs:Array Keyed} {i k:Nat} {x:Keyed} (h:x ∈ (xs.toList.drop i).take k):∃ j,j < k /\ i + j < xs.size /\ kfQ x=Kk xs (i + j):=by
 obtain ⟨m,hm,e⟩:=ybY h;have hm':m < k /\ i + m < xs.size:=by simp at hm; omega
 refine ⟨m,hm'.1,hm'.2,?_⟩;rw [List.getElem_take,List.getElem_drop] at e;rw [zbf (getElem?_pos xs (i + m) hm'.2),<- e];simp
def zcl {xs:Array Keyed} {i k:Nat} {x:Keyed} (h:x ∈ (xs.toList.take i).drop k):∃ j,k <= j /\ j < i /\ j < xs.size /\ kfQ x=Kk xs j:=by
 obtain ⟨m,hm,e⟩:=ybY h;have hm':k + m < i /\ k + m < xs.size:=by simp at hm; omega
 refine ⟨k + m,by omega,hm'.1,hm'.2,?_⟩;rw [List.getElem_drop,List.getElem_take] at e;rw [zbf (getElem?_pos xs (k + m) hm'.2),<- e];simp
def zcp {xs:Array Keyed} {i k:Nat}:(xs.extract i (i + k)).toList=(xs.toList.drop i).take k:=by
 rw [ybR,ybA];congr 1; omega
def zcs {xs:Array Keyed} {i:Nat}:(xs.extract i xs.size).toList=xs.toList.drop i:=by
 rw [ybR,ybA];exact yat (5:)
def zcA {xs:Array Keyed} {i:Nat}:(xs.extract 0 i).toList=xs.toList.take i:=by
 rw [ybR,ybA];simp
def zc5 {xs:Array Keyed} {i k:Nat}:(xs.extract k i).toList=(xs.toList.take i).drop k:=by
 rw [ybR,ybA,List.drop_take]
def zhH {xs:Array Keyed} (h:zbC xs xs.size):SrQ xs.toList:=by
 rw [SrQ,yaT];intro i j hi hj hij;have h1:=h i j (1:) (by simpa using hj);rw [zh9 (57:),zh9 (by simpa using hj)] at h1;simpa using h1
end Srk
namespace Srk
open PySem PyProof.Rows
variable [KeyC]
noncomputable abbrev zds:=Option (Array Keyed) × Array Keyed × Nat × Nat × Nat × Nat × Nat
noncomputable abbrev zbN (a b out:Array Keyed) (ia ib:Nat):Array Keyed:=out ++ a.extract ia a.size ++ b.extract ib b.size
noncomputable abbrev zdj (a b out:Array Keyed) (ia ib:Nat):Array Keyed:=out ++ b.extract ib b.size ++ a.extract ia a.size
noncomputable def lo3Q (a b out:Array Keyed) (ia ib mg k k1:Nat):StateT SortSt Sem (ForInStep zds):=do
 let x <- elem' a ia
 if ia + 1 + 1 == a.size then pure (.done (some (zdj a b (out.push x) (ia + 1) ib),out.push x,ia + 1,ib,mg,k,k1))
 else if k < 7 && k1 < 7 then pure (.done (none,out.push x,ia + 1,ib,mg,k,k1))
 else pure (.yield (none,out.push x,ia + 1,ib,mg,k,k1))
noncomputable def lo2Q (a b out:Array Keyed) (ia ib mg k bc:Nat):StateT SortSt Sem (ForInStep zds):=do
 let y <- elem' b ib
 if ib + 1 == b.size then pure (.done (some (zbN a b (out.push y) ia (ib + 1)),out.push y,ia,ib + 1,mg,k,bc))
 else do
  let z <- elem' a ia
  let r <- gallop'Q true z b (ib + 1) (b.size - (ib + 1)) 0
  match r with
  | some k1=>
   if k1 > 0 then
    if ib + 1 + k1 == b.size then pure (.done (some (zbN a b (out.push y ++ b.extract (ib + 1) (ib + 1 + k1)) ia (ib + 1 + k1)),out.push y ++ b.extract (ib + 1) (ib + 1 + k1),ia,ib + 1 + k1,mg,k,k1))
    else lo3Q a b (out.push y ++ b.extract (ib + 1) (ib + 1 + k1)) ia (ib + 1 + k1) mg k k1
   else lo3Q a b (out.push y) ia (ib + 1) mg k k1
  | _=>pure (.done (some (zbN a b (out.push y) ia (ib + 1)),out.push y,ia,ib + 1,mg,k,bc))
noncomputable def lo1Q (a b out:Array Keyed) (ia ib mg ac bc:Nat):StateT SortSt Sem (ForInStep zds):=do
 setMinGallop'Q mg
 let y <- elem' b ib
 let r <- gallop'Q false y a ia (a.size - ia) 0
 match r with
 | some k=>
  if k > 0 then
   if ia + k + 1 == a.size then pure (.done (some (zdj a b (out ++ a.extract ia (ia + k)) (ia + k) ib),out ++ a.extract ia (ia + k),ia + k,ib,mg,k,bc))
   else if ia + k == a.size then pure (.done (some (zbN a b (out ++ a.extract ia (ia + k)) (ia + k) ib),out ++ a.extract ia (ia + k),ia + k,ib,mg,k,bc))
   else lo2Q a b (out ++ a.extract ia (ia + k)) (ia + k) ib mg k bc
  else lo2Q a b out ia ib mg k bc
 | _=>pure (.done (some (zbN a b out ia ib),out,ia,ib,mg,ac,bc))
noncomputable abbrev ziL:=Option (Array Keyed) × Array Keyed × Nat × Nat × Nat × Nat
noncomputable def loBQ (a b:Array Keyed) (mg:Nat) (out:Array Keyed) (ia ib ac bc:Nat):StateT SortSt Sem (ForInStep ziL):=do
 let r <- lt' (<- elem' b ib) (<- elem' a ia)
 match r with
 | some bWins=>
  if bWins then do
   let y <- elem' b ib
   if ib + 1 == b.size then pure (.done (some (zbN a b (out.push y) ia (ib + 1)),out.push y,ia,ib + 1,0,bc + 1))
   else if bc + 1 >= mg then pure (.done (none,out.push y,ia,ib + 1,0,bc + 1))
   else pure (.yield (none,out.push y,ia,ib + 1,0,bc + 1))
  else do
   let x <- elem' a ia
   if ia + 1 + 1 == a.size then pure (.done (some (zdj a b (out.push x) (ia + 1) ib),out.push x,ia + 1,ib,ac + 1,0))
   else if ac + 1 >= mg then pure (.done (none,out.push x,ia + 1,ib,ac + 1,0))
   else pure (.yield (none,out.push x,ia + 1,ib,ac + 1,0))
 | _=>pure (.done (some (zbN a b out ia ib),out,ia,ib,ac,bc))
noncomputable def zgJ (a b:Array Keyed) (out:Array Keyed) (ia ib mg:Nat):StateT SortSt Sem (ForInStep (Option (Array Keyed) × Array Keyed × Nat × Nat × Nat)):=do
 let c <- forIn [0:a.size + b.size] ((none,out,ia,ib,0,0):ziL) λ _ c=>loBQ a b mg c.2.1 c.2.2.1 c.2.2.2.1 c.2.2.2.2.1 c.2.2.2.2.2
 match c.1 with
 | some r=>pure (.done (some r,c.2.1,c.2.2.1,c.2.2.2.1,mg))
 | none=>do
  liftM (rule "list.sort.gallop")
  let d <- forIn [0:a.size + b.size] ((none,c.2.1,c.2.2.1,c.2.2.2.1,mg + 1,c.2.2.2.2.1,c.2.2.2.2.2):zds) λ _ d=>
   if d.2.2.2.2.1 > 1 then lo1Q a b d.2.1 d.2.2.1 d.2.2.2.1 (d.2.2.2.2.1 - 1) d.2.2.2.2.2.1 d.2.2.2.2.2.2 else lo1Q a b d.2.1 d.2.2.1 d.2.2.2.1 d.2.2.2.2.1 d.2.2.2.2.2.1 d.2.2.2.2.2.2
  match d.1 with
  | some r=>pure (.done (some r,d.2.1,d.2.2.1,d.2.2.2.1,d.2.2.2.2.1))
  | none=>do
   setMinGallop'Q (d.2.2.2.2.1 + 1)
   pure (.yield (none,d.2.1,d.2.2.1,d.2.2.2.1,d.2.2.2.2.1 + 1))
def zeC (a b:Array Keyed):mergeLo'Q a b=(do
 liftM (rule "list.sort.merge-lo")
 let y <- elem' b 0
 if 1 == b.size then pure (zbN a b #[y] 0 1)
 else if 0 + 1 == a.size then pure (zdj a b #[y] 0 1)
 else do
  let st <- get
  let c <- forIn [0:a.size + b.size] ((none,#[y],0,1,gallopOf st):Option (Array Keyed) × Array Keyed × Nat × Nat × Nat) λ _ c=>zgJ a b c.2.1 c.2.2.1 c.2.2.2.1 c.2.2.2.2
  match c.1 with
  | some r=>pure r
  | none=>unsupported "internal:list.sort.merge-bound"):=by
 kernel_rfl
end Srk
namespace Srk
open PySem PyProof.Rows
variable [KeyC]
structure CmQ (a b:Array Keyed):Prop where
 ia:zb6 a
 ib:zb6 b
 sa:zbC a a.size
 sb:zbC b b.size
 pa:0 < a.size
 pb:0 < b.size
 last:∀ j,j < b.size -> Kk b j <= Kk a (a.size - 1)
 first:∀ j,j < a.size -> Kk b 0 <= Kk a j
noncomputable def zce (T:List Keyed) (r:Array Keyed):Prop:=r.toList.Perm T /\ SrQ r.toList
noncomputable abbrev totQ (a b:Array Keyed):List Keyed:=a.toList ++ b.toList
noncomputable abbrev MLQ (a b out:Array Keyed) (ia ib:Nat):Prop:=MIQ (totQ a b) out.toList (a.toList.drop ia) (b.toList.drop ib)
variable {a b out:Array Keyed} {ia ib:Nat}
def zbU (h:MLQ a b out ia ib) (hz:ib=b.size \/ ia=a.size):zce (totQ a b) (zbN a b out ia ib):=by
 have e:(zbN a b out ia ib).toList=out.toList ++ a.toList.drop ia ++ b.toList.drop ib:=by
  rw [yaP,yaP,zcs,zcs]
 unfold zce;rw [e];refine ⟨by rw [yaF]; exact h.perm,?_⟩;rcases hz with hz | hz
 ·have e2:b.toList.drop ib=[]:=yca (by simp [hz]);rw [e2,ybq]; exact h.sa
 ·have e2:a.toList.drop ia=[]:=yca (by simp [hz]);rw [e2,ybq]; exact h.sb
def zcw (C:CmQ a b) (h:MLQ a b out ia ib) (hz:ia + 1=a.size):zce (totQ a b) (zdj a b out ia ib):=by
 have e:(zdj a b out ia ib).toList=out.toList ++ b.toList.drop ib ++ a.toList.drop ia:=by
  rw [yaP,yaP,zcs,zcs]
 have ha:a[ia]?=some a[ia]:=getElem?_pos a ia (1:)
 have e2:a.toList.drop ia=[a[ia]]:=by
  rw [zeY ha,yca (41:)]
 unfold zce;rw [e,e2];have h':=h;unfold MLQ at h';rw [e2] at h';refine h'.last λ y hy=>?_;obtain ⟨j,_,h2,h3⟩:=zbq hy;rw [h3,show kfQ a[ia]=Kk a ia from (zbf ha).symm,show ia=a.size - 1 by omega];exact C.last j h2
def zgW (h:MLQ a b out ia ib) {y:Keyed} (hy:b[ib]?=some y) (hle:∀ j,ia <= j -> j < a.size -> kfQ y <= Kk a j):MLQ a b (out.push y) ia (ib + 1):=by
 have h':=h.symm;rw [zeY hy] at h'
 have:=(h'.one λ z hz=>by
  obtain ⟨j,h1,h2,h3⟩:=zbq hz;rw [h3]; exact hle j h1 h2).symm
 unfold MLQ;rw [ycg]; exact this
def zi9 (h:MLQ a b out ia ib) {x:Keyed} (hx:a[ia]?=some x) (hle:∀ j,ib <= j -> j < b.size -> kfQ x <= Kk b j):MLQ a b (out.push x) (ia + 1) ib:=by
 have h':=h;unfold MLQ at h';rw [zeY hx] at h'
 have:=h'.one λ z hz=>by
  obtain ⟨j,h1,h2,h3⟩:=zbq hz;rw [h3]; exact hle j h1 h2
 unfold MLQ;rw [ycg]; exact this
def zly (h:MLQ a b out ia ib) {k:Nat} (hle:∀ i,i < k -> ∀ j,ib <= j -> j < b.size -> ia + i < a.size -> Kk a (ia + i) <= Kk b j):MLQ a b (out ++ a.extract ia (ia + k)) (ia + k) ib:=by
 have:=h.take k λ x hx y hy=>by
  obtain ⟨i,h1,h2,h3⟩:=zcR hx;obtain ⟨j,g1,g2,g3⟩:=zbq hy;rw [h3,g3]; exact hle i h1 j g1 g2 h2
 unfold MLQ;rw [yaP,zcp];rw [List.drop_drop] at this;exact this
def zlN (h:MLQ a b out ia ib) {k:Nat} (hle:∀ i,i < k -> ∀ j,ia <= j -> j < a.size -> ib + i < b.size -> Kk b (ib + i) <= Kk a j):MLQ a b (out ++ b.extract ib (ib + k)) ia (ib + k):=by
 have:=(h.symm.take k λ x hx y hy=>by
  obtain ⟨i,h1,h2,h3⟩:=zcR hx;obtain ⟨j,g1,g2,g3⟩:=zbq hy;rw [h3,g3]; exact hle i h1 j g1 g2 h2).symm
 unfold MLQ;rw [yaP,zcp];rw [List.drop_drop] at this;exact this
structure LIQ (a b out:Array Keyed) (ia ib:Nat):Prop where
 ml:MLQ a b out ia ib
 ha:ia + 1 < a.size
 hb:ib < b.size
noncomputable def GPQ (a b:Array Keyed) (n0:Nat) (c:Option (Array Keyed)) (out:Array Keyed) (ia ib:Nat):Prop:=
 match c with
 | some r=>zce (totQ a b) r
 | none=>LIQ a b out ia ib /\ n0 <= ia + ib
section
variable {prog:Program} {w:World} {A:Around} {E:Value -> Shared -> Prop} {s:Shared} [LtC prog w A E s] {st:SortSt} {mg k k1 ac bc n0:Nat}
def zg8 (C:CmQ a b) (h:LIQ a b out ia ib) (hn:n0 <= ia + ib) (hle:∀ j,ib <= j -> j < b.size -> Kk a ia <= Kk b j) {Q:ForInStep zds -> SortSt -> Prop}
    (h1:∀ d:zds,GPQ a b n0 d.1 d.2.1 d.2.2.1 d.2.2.2.1 -> Q (.done d) st) (h2:∀ d:zds,d.1=none -> GPQ a b n0 d.1 d.2.1 d.2.2.1 d.2.2.2.1 -> Q (.yield d) st) :
    wpS (model prog w) A E s (lo3Q a b out ia ib mg k k1) Q st:=by
  unfold lo3Q;have ha:=h.ha;have hb:=h.hb;refine wpS_bind (zav (1:) λ x hx=>?_);have m:=zi9 h.ml hx λ j h1 h2=>by rw [show kfQ x=Kk a ia from (zbf hx).symm]; exact hle j h1 h2
  by_cases hz:ia + 1 + 1=a.size
  · rw [if_pos (29:)];exact wpS_pure (h1 _ (zcw C m hz))
  · rw [if_neg (29:)];have g : GPQ a b n0 none (out.push x) (ia + 1) ib := ⟨⟨m, by omega, h.hb⟩, by omega⟩
    split
    · exact wpS_pure (h1 _ g)
    · exact wpS_pure (h2 _ rfl g)
def zhq (C:CmQ a b) (hk:kindOf st=KeyC.kd) (h:LIQ a b out ia ib) (hn:n0 <= ia + ib) (hle:∀ j,ia <= j -> j < a.size -> Kk b ib <= Kk a j) {Q:ForInStep zds -> SortSt -> Prop}
    (h1:∀ d:zds,GPQ a b n0 d.1 d.2.1 d.2.2.1 d.2.2.2.1 -> Q (.done d) st) (h2:∀ d:zds,d.1=none -> GPQ a b n0 d.1 d.2.1 d.2.2.1 d.2.2.2.1 -> Q (.yield d) st) :
    wpS (model prog w) A E s (lo2Q a b out ia ib mg k bc) Q st:=by
  unfold lo2Q;have ha:=h.ha;have hb:=h.hb;refine wpS_bind (zav (1:) λ y hy=>?_);have m:=zgW h.ml hy λ j h1 h2=>by rw [show kfQ y=Kk b ib from (zbf hy).symm]; exact hle j h1 h2
  by_cases hz:ib + 1=b.size
  · rw [if_pos (29:)];exact wpS_pure (h1 _ (zbU m (.inl hz)))
  · rw [if_neg (29:)];refine wpS_bind (zav (1:) fun z hz' => ?_);refine wpS_bind (zbd hk (C.ia _ _ hz') C.ib (1:) (1:) (fun i j hij hj => C.sb _ _ (1:) (1:)) fun k2 hk2 p1 p2 => ?_);dsimp only;have hzk : KeyC.κ z = Kk a ia := (zbf hz').symm;have ah : ∀ i, zaz true (KeyC.κ z) (Kk b (ib + 1 + i)) ↔ Kk b (ib + 1 + i) < Kk a ia := fun i => by unfold zaz; rw [if_pos rfl, hzk]
    have m2:MLQ a b (out.push y ++ b.extract (ib + 1) (ib + 1 + k2)) ia (ib + 1 + k2):=zlN m λ i hi j h1 h2 h3=>by
      have:=(ah i).mp (p1 i hi);exact yby (ya8 this) (C.sa _ _ h1 h2)
    have nx:∀ j,ib + 1 + k2 <= j -> j < b.size -> Kk a ia <= Kk b j:=λ j h1 h2=>by
      have:=mt (ah (j - (ib + 1))).mpr (p2 (j - (ib + 1)) (1:) (1:));rw [show ib + 1 + (j - (ib + 1))=j by omega] at this;omega
    by_cases hk0:k2 > 0
    · rw [if_pos hk0];by_cases hq : ib + 1 + k2 = b.size
      · rw [if_pos (43:)];exact wpS_pure (h1 _ (zbU m2 (.inl hq)))
      · rw [if_neg (43:)];exact zg8 C ⟨m2,h.ha,by omega⟩ (1:) nx h1 h2
    · rw [if_neg hk0];have : k2 = 0 := by omega
      subst this;exact zg8 C ⟨m,h.ha,by omega⟩ (1:) nx h1 h2
def zkJ (C:CmQ a b) (hk:kindOf st=KeyC.kd) (h:LIQ a b out ia ib) (hn:n0 <= ia + ib) {Q:ForInStep zds -> SortSt -> Prop}
    (h1:∀ d:zds,GPQ a b n0 d.1 d.2.1 d.2.2.1 d.2.2.2.1 -> Q (.done d) (zaQ st mg)) (h2:∀ d:zds,d.1=none -> GPQ a b n0 d.1 d.2.1 d.2.2.1 d.2.2.2.1 -> Q (.yield d) (zaQ st mg)) :
    wpS (model prog w) A E s (lo1Q a b out ia ib mg ac bc) Q st:=by
  unfold lo1Q;have ha:=h.ha;have hb:=h.hb;rw [setMinGallop'_eqQ];refine wpS_bind (wpS_modify ?_);refine wpS_bind (zav (1:) λ y hy=>?_);refine wpS_bind (zbd (st:=zaQ st mg) hk (C.ib _ _ hy) C.ia (1:) (1:) (λ i j hij hj=>C.sa _ _ (1:) (1:)) λ k2 hk2 p1 p2=>?_);dsimp only;have hyk:KeyC.κ y=Kk b ib:=(zbf hy).symm;have ah:∀ i,zaz false (KeyC.κ y) (Kk a (ia + i)) ↔ Kk a (ia + i) <= Kk b ib:=λ i=>by unfold zaz; rw [if_neg (3:),hyk]
  have m2:MLQ a b (out ++ a.extract ia (ia + k2)) (ia + k2) ib:=zly h.ml λ i hi j h1 h2 h3=>yby ((ah i).mp (p1 i hi)) (C.sb _ _ h1 h2)
  have nx:∀ j,ia + k2 <= j -> j < a.size -> Kk b ib <= Kk a j:=λ j h1 h2=>by
    have:=mt (ah (j - ia)).mpr (p2 (j - ia) (1:) (1:));rw [show ia + (j - ia)=j by omega] at this;omega
  by_cases hk0:k2 > 0
  · rw [if_pos hk0];by_cases hq : ia + k2 + 1 = a.size
    · rw [if_pos (43:)];exact wpS_pure (h1 _ (zcw C m2 hq))
    · rw [if_neg (43:)];by_cases hq2 : ia + k2 = a.size
      · rw [if_pos (by simpa using hq2)];exact wpS_pure (h1 _ (zbU m2 (.inr hq2)))
      · rw [if_neg (by simpa using hq2)];exact zhq (st:=zaQ st mg) C hk ⟨m2,by omega,h.hb⟩ (1:) nx h1 h2
  · rw [if_neg hk0];have : k2 = 0 := by omega
    subst this;exact zhq (st:=zaQ st mg) C hk h (1:) nx h1 h2
def zkD (C:CmQ a b) (hk:kindOf st=KeyC.kd) (h:LIQ a b out ia ib) (hn:n0 <= ia + ib + 1) {Q:ForInStep ziL -> SortSt -> Prop}
    (h1:∀ d:ziL,GPQ a b n0 d.1 d.2.1 d.2.2.1 d.2.2.2.1 -> Q (.done d) st) (h2:∀ d:ziL,d.1=none -> GPQ a b n0 d.1 d.2.1 d.2.2.1 d.2.2.2.1 -> Q (.yield d) st) :
    wpS (model prog w) A E s (loBQ a b mg out ia ib ac bc) Q st:=by
  unfold loBQ;have ha:=h.ha;have hb:=h.hb;refine wpS_bind (zav (1:) λ y hy=>?_);refine wpS_bind (zav (1:) λ x hx=>?_);refine wpS_bind (zeq hk (C.ib _ _ hy) (C.ia _ _ hx) ?_);dsimp only;have ey:KeyC.κ y=Kk b ib:=(zbf hy).symm;have ex:KeyC.κ x=Kk a ia:=(zbf hx).symm;by_cases hl:KeyC.κ y < KeyC.κ x
  · rw [if_pos (62:)];refine wpS_bind (zav (1:) fun y' hy' => ?_);obtain rfl : y = y' := by rw [hy] at hy'; exact Option.some.inj hy'
    have m:=zgW h.ml hy λ j g1 g2=>by
      have:=C.sa _ _ g1 g2;show KeyC.κ y <= _;omega
    by_cases hz:ib + 1=b.size
    · rw [if_pos (29:)];exact wpS_pure (h1 _ (zbU m (.inl hz)))
    · rw [if_neg (29:)];have g : GPQ a b n0 none (out.push y) ia (ib + 1) := ⟨⟨m, h.ha, by omega⟩, by omega⟩
      split
      · exact wpS_pure (h1 _ g)
      · exact wpS_pure (h2 _ rfl g)
  · rw [if_neg (62:)];refine wpS_bind (zav (1:) fun x' hx' => ?_);obtain rfl : x = x' := by rw [hx] at hx'; exact Option.some.inj hx'
    have m:=zi9 h.ml hx λ j g1 g2=>by
      have:=C.sb _ _ g1 g2;show KeyC.κ x <= _;omega
    by_cases hz:ia + 1 + 1=a.size
    · rw [if_pos (29:)];exact wpS_pure (h1 _ (zcw C m hz))
    · rw [if_neg (29:)];have g : GPQ a b n0 none (out.push x) (ia + 1) ib := ⟨⟨m, by omega, h.hb⟩, by omega⟩
      split
      · exact wpS_pure (h1 _ g)
      · exact wpS_pure (h2 _ rfl g)
noncomputable abbrev GsQ (st st':SortSt):Prop:=∃ g,st'=zaQ st g
def zgF (C:CmQ a b) (hk:kindOf st=KeyC.kd) (h:LIQ a b out ia ib) {Q:ForInStep (Option (Array Keyed) × Array Keyed × Nat × Nat × Nat) -> SortSt -> Prop}
    (h1:∀ d st',GsQ st st' -> (∃ r,d.1=some r /\ zce (totQ a b) r) -> Q (.done d) st') (h2:∀ d st',GsQ st st' -> d.1=none -> LIQ a b d.2.1 d.2.2.1 d.2.2.2.1 -> ia + ib + 1 <= d.2.2.1 + d.2.2.2.1 -> Q (.yield d) st') :
    wpS (model prog w) A E s (zgJ a b out ia ib mg) Q st:=by
  unfold zgJ;have pa:=C.pa;refine wpS_bind (wpS_mono (wpS_forRange (I:=λ x c st'=>st'=st /\ c.1=none /\ GPQ a b (ia + ib + x) c.1 c.2.1 c.2.2.1 c.2.2.2.1) (Q:=λ c st'=>st'=st /\ GPQ a b (ia + ib + 1) c.1 c.2.1 c.2.2.1 c.2.2.2.1) ?step ?fin ?init) ?post)
  case init=>exact ⟨rfl,rfl,h,by show ia + ib + 0 <= ia + ib; omega⟩
  case fin=>
    rintro ⟨c1,c2⟩ st' ⟨rfl,z,g⟩;obtain rfl:c1=none:=z;refine ⟨rfl,g.1,?_⟩;have:=g.2;omega
  case step=>
    rintro x ⟨c1,c2⟩ st' _ hx ⟨rfl,z,g⟩;obtain rfl:c1=none:=z;have g1:=g.1;have g2:=g.2;refine zkD (n0:=ia + ib + x + 1) C hk g1 (1:) (λ d hd=>⟨rfl,?_⟩) (λ d hz hd=>⟨rfl,hz,hd⟩);obtain ⟨d1,d2⟩:=d;cases d1 with
    | some r=>exact hd
    | none=>exact ⟨hd.1,by have:=hd.2; omega⟩
  case post=>
    rintro ⟨c1,c2⟩ st' ⟨rfl,g⟩;cases c1 with
    | some r=>exact wpS_pure (h1 _ _ ⟨gallopOf st',rfl⟩ ⟨r,rfl,g⟩)
    | none=>
      dsimp only;refine wpS_bind (wpS_lift (wpAny_rule ⟨rfl,?_⟩));refine wpS_bind (wpS_mono (wpS_forRange (I:=λ x c st''=>GsQ st' st'' /\ c.1=none /\ GPQ a b (ia + ib + 1) c.1 c.2.1 c.2.2.1 c.2.2.2.1) (Q:=λ c st''=>GsQ st' st'' /\ GPQ a b (ia + ib + 1) c.1 c.2.1 c.2.2.1 c.2.2.2.1) ?step2 ?fin2 ⟨⟨gallopOf st',rfl⟩,rfl,g⟩) ?post2)
      case fin2=>
        rintro c st'' ⟨gs,z,g⟩;exact ⟨gs,g⟩
      case step2=>
        rintro x ⟨d1,d2⟩ st'' _ hx ⟨⟨gg,rfl⟩,z,g⟩;obtain rfl:d1=none:=z;dsimp only
        have one:∀ m,wpS (model prog w) A E s (lo1Q a b d2.1 d2.2.1 d2.2.2.1 m d2.2.2.2.2.1 d2.2.2.2.2.2) (λ r st''=>match r with | .done c=>GsQ st' st'' /\ GPQ a b (ia + ib + 1) c.1 c.2.1 c.2.2.1 c.2.2.2.1 | .yield c=>GsQ st' st'' /\ c.1=none /\ GPQ a b (ia + ib + 1) c.1 c.2.1 c.2.2.1 c.2.2.2.1) (zaQ st' gg):=λ m=>
          zkJ (st:=zaQ st' gg) (out:=d2.1) (ia:=d2.2.1) (ib:=d2.2.2.1) (n0:=ia + ib + 1) C hk g.1 g.2 (λ d hd=>⟨⟨m,rfl⟩,hd⟩) (λ d hz hd=>⟨⟨m,rfl⟩,hz,hd⟩)
        split
        · exact wpS_mono (one _) λ r _ hr=>by cases r <;> exact hr
        · exact wpS_mono (one _) λ r _ hr=>by cases r <;> exact hr
      case post2=>
        rintro ⟨d1,d2⟩ st'' ⟨⟨gg,rfl⟩,g⟩;cases d1 with
        | some r=>exact wpS_pure (h1 _ _ ⟨gg,rfl⟩ ⟨r,rfl,g⟩)
        | none=>
          dsimp only;rw [setMinGallop'_eqQ];exact wpS_bind (wpS_modify (wpS_pure (h2 _ _ ⟨_,rfl⟩ rfl g.1 g.2)))
def zf2 (C:CmQ a b) (hk:kindOf st=KeyC.kd) {Q:Array Keyed -> SortSt -> Prop} (h:∀ r st',GsQ st st' -> zce (totQ a b) r -> Q r st') :
  wpS (model prog w) A E s (mergeLo'Q a b) Q st:=by
 rw [zeC];have pa:=C.pa;have pb:=C.pb;refine wpS_bind (wpS_lift (wpAny_rule ⟨rfl,?_⟩));refine wpS_bind (zav (1:) λ y hy=>?_);have m0:MLQ a b #[] 0 0:=⟨List.Perm.refl _,zhH C.sa,zhH C.sb⟩
 have m:MLQ a b #[y] 0 1:=zgW m0 hy λ j _ h2=>by
  rw [show kfQ y=Kk b 0 from (zbf hy).symm]; exact C.first j h2
 by_cases hz:1=b.size
 ·rw [if_pos (29:)];exact wpS_pure (h _ _ ⟨gallopOf st,rfl⟩ (zbU m (.inl hz)))
 ·rw [if_neg (29:)];by_cases hq : 0 + 1 = a.size
  ·rw [if_pos (43:)];exact wpS_pure (h _ _ ⟨gallopOf st,rfl⟩ (zcw C m hq))
  ·rw [if_neg (43:)];refine wpS_bind (wpS_get ?_);refine wpS_bind (wpS_mono (wpS_forRange (I := fun x c st' => GsQ st st' /\ c.1 = none /\ LIQ a b c.2.1 c.2.2.1 c.2.2.2.1 /\ x <= c.2.2.1 + c.2.2.2.1) (Q := fun c st' => GsQ st st' /\ ∃ r, c.1 = some r /\ zce (totQ a b) r) ?step ?fin ⟨⟨gallopOf st, rfl⟩, rfl, ⟨m, by show 0 + 1 < a.size; omega, by show 1 < b.size; omega⟩, by omega⟩) ?post)
   case fin=>
    rintro c st' ⟨_,_,l,hx⟩;have:=l.ha;have:=l.hb;omega
   case step=>
    rintro x c st' _ hx ⟨⟨g,rfl⟩,z,l,hn⟩;refine zgF (st:=zaQ st g) C hk l (λ d st'' gs hd=>?_) (λ d st'' gs hz l2 hn2=>?_)
    ·obtain ⟨g2,rfl⟩:=gs;exact ⟨⟨g2,rfl⟩,hd⟩
    ·obtain ⟨g2,rfl⟩:=gs;exact ⟨⟨g2,rfl⟩,hz,l2,by omega⟩
   case post=>
    rintro ⟨c1,c2⟩ st' ⟨gs,r,hr,g⟩;obtain rfl:c1=some r:=hr;exact wpS_pure (h r st' gs g)
end
end Srk
namespace Srk
open PySem PyProof.Rows
variable [KeyC]
noncomputable abbrev zdu:=Option (Array Keyed) × Nat × Nat × Array Keyed × Nat × Nat × Nat
noncomputable abbrev zi0:=Option (Array Keyed) × Nat × Nat × Array Keyed × Nat × Nat
noncomputable abbrev zbL (a b out:Array Keyed) (na nb:Nat):Array Keyed:=a.extract 0 na ++ b.extract 0 nb ++ out.reverse
noncomputable abbrev zcq (a b out:Array Keyed) (na nb:Nat):Array Keyed:=b.extract 0 nb ++ a.extract 0 na ++ out.reverse
noncomputable def hi3Q (a b out:Array Keyed) (na nb mg k k1:Nat):StateT SortSt Sem (ForInStep zdu):=do
 let x <- elem' a (na - 1)
 if na - 1 == 0 then pure (.done (some (zbL a b (out.push x) (na - 1) nb),na - 1,nb,out.push x,mg,k,k1))
 else if k < 7 && k1 < 7 then pure (.done (none,na - 1,nb,out.push x,mg,k,k1))
 else pure (.yield (none,na - 1,nb,out.push x,mg,k,k1))
noncomputable def hi2Q (a b out:Array Keyed) (na nb mg k bc:Nat):StateT SortSt Sem (ForInStep zdu):=do
 let y <- elem' b (nb - 1)
 if nb - 1 == 1 then pure (.done (some (zcq a b (out.push y) na (nb - 1)),na,nb - 1,out.push y,mg,k,bc))
 else do
  let z <- elem' a (na - 1)
  let r <- gallop'Q true z b 0 (nb - 1) (nb - 1 - 1)
  match r with
  | some at_=>
   if nb - 1 - at_ > 0 then
    if at_ == 1 then pure (.done (some (zcq a b (out.push y ++ (b.extract at_ (nb - 1)).reverse) na at_),na,at_,out.push y ++ (b.extract at_ (nb - 1)).reverse,mg,k,nb - 1 - at_))
    else if at_ == 0 then pure (.done (some (zbL a b (out.push y ++ (b.extract at_ (nb - 1)).reverse) na at_),na,at_,out.push y ++ (b.extract at_ (nb - 1)).reverse,mg,k,nb - 1 - at_))
    else hi3Q a b (out.push y ++ (b.extract at_ (nb - 1)).reverse) na at_ mg k (nb - 1 - at_)
   else hi3Q a b (out.push y) na (nb - 1) mg k (nb - 1 - at_)
  | _=>pure (.done (some (zbL a b (out.push y) na (nb - 1)),na,nb - 1,out.push y,mg,k,bc))
noncomputable def hi1Q (a b out:Array Keyed) (na nb mg ac bc:Nat):StateT SortSt Sem (ForInStep zdu):=do
 setMinGallop'Q mg
 let y <- elem' b (nb - 1)
 let r <- gallop'Q false y a 0 na (na - 1)
 match r with
 | some at_=>
  if na - at_ > 0 then
   if at_ == 0 then pure (.done (some (zbL a b (out ++ (a.extract at_ na).reverse) at_ nb),at_,nb,out ++ (a.extract at_ na).reverse,mg,na - at_,bc))
   else hi2Q a b (out ++ (a.extract at_ na).reverse) at_ nb mg (na - at_) bc
  else hi2Q a b out na nb mg (na - at_) bc
 | _=>pure (.done (some (zbL a b out na nb),na,nb,out,mg,ac,bc))
noncomputable def hiBQ (a b:Array Keyed) (mg na nb:Nat) (out:Array Keyed) (ac bc:Nat):StateT SortSt Sem (ForInStep zi0):=do
 let r <- lt' (<- elem' b (nb - 1)) (<- elem' a (na - 1))
 match r with
 | some aWins=>
  if aWins then do
   let x <- elem' a (na - 1)
   if na - 1 == 0 then pure (.done (some (zbL a b (out.push x) (na - 1) nb),na - 1,nb,out.push x,ac + 1,0))
   else if ac + 1 >= mg then pure (.done (none,na - 1,nb,out.push x,ac + 1,0))
   else pure (.yield (none,na - 1,nb,out.push x,ac + 1,0))
  else do
   let y <- elem' b (nb - 1)
   if nb - 1 == 1 then pure (.done (some (zcq a b (out.push y) na (nb - 1)),na,nb - 1,out.push y,0,bc + 1))
   else if bc + 1 >= mg then pure (.done (none,na,nb - 1,out.push y,0,bc + 1))
   else pure (.yield (none,na,nb - 1,out.push y,0,bc + 1))
 | _=>pure (.done (some (zbL a b out na nb),na,nb,out,ac,bc))
noncomputable def zgV (a b:Array Keyed) (na nb:Nat) (out:Array Keyed) (mg:Nat):StateT SortSt Sem (ForInStep (Option (Array Keyed) × Nat × Nat × Array Keyed × Nat)):=do
 let c <- forIn [0:a.size + b.size] ((none,na,nb,out,0,0):zi0) λ _ c=>hiBQ a b mg c.2.1 c.2.2.1 c.2.2.2.1 c.2.2.2.2.1 c.2.2.2.2.2
 match c.1 with
 | some r=>pure (.done (some r,c.2.1,c.2.2.1,c.2.2.2.1,mg))
 | none=>do
  liftM (rule "list.sort.gallop")
  let d <- forIn [0:a.size + b.size] ((none,c.2.1,c.2.2.1,c.2.2.2.1,mg + 1,c.2.2.2.2.1,c.2.2.2.2.2):zdu) λ _ d=>
   if d.2.2.2.2.1 > 1 then hi1Q a b d.2.2.2.1 d.2.1 d.2.2.1 (d.2.2.2.2.1 - 1) d.2.2.2.2.2.1 d.2.2.2.2.2.2 else hi1Q a b d.2.2.2.1 d.2.1 d.2.2.1 d.2.2.2.2.1 d.2.2.2.2.2.1 d.2.2.2.2.2.2
  match d.1 with
  | some r=>pure (.done (some r,d.2.1,d.2.2.1,d.2.2.2.1,d.2.2.2.2.1))
  | none=>do
   setMinGallop'Q (d.2.2.2.2.1 + 1)
   pure (.yield (none,d.2.1,d.2.2.1,d.2.2.2.1,d.2.2.2.2.1 + 1))
def zex (a b:Array Keyed):mergeHi'Q a b=(do
 liftM (rule "list.sort.merge-hi")
 let x <- elem' a (a.size - 1)
 if a.size - 1 == 0 then pure (zbL a b #[x] (a.size - 1) b.size)
 else if b.size == 1 then pure (zcq a b #[x] (a.size - 1) b.size)
 else do
  let st <- get
  let c <- forIn [0:a.size + b.size] ((none,a.size - 1,b.size,#[x],gallopOf st):Option (Array Keyed) × Nat × Nat × Array Keyed × Nat) λ _ c=>zgV a b c.2.1 c.2.2.1 c.2.2.2.1 c.2.2.2.2
  match c.1 with
  | some r=>pure r
  | none=>unsupported "internal:list.sort.merge-bound"):=by
 kernel_rfl
noncomputable abbrev MRQ (a b out:Array Keyed) (na nb:Nat):Prop:=MHQ (totQ a b) out.toList.reverse (a.toList.take na) (b.toList.take nb)
variable {a b out:Array Keyed} {na nb:Nat}
def zbr (h:MRQ a b out na nb) (hz:na=0 \/ nb=0):zce (totQ a b) (zbL a b out na nb):=by
 have e:(zbL a b out na nb).toList=a.toList.take na ++ b.toList.take nb ++ out.toList.reverse:=by
  rw [yaP,yaP,zcA,zcA,ybS]
 unfold zce;rw [e];refine ⟨h.perm,?_⟩;rcases hz with rfl | rfl
 ·rw [List.take_zero,List.nil_append]; exact h.sb
 ·rw [List.take_zero,ybq]; exact h.sa
def zb5 (C:CmQ a b) (h:MRQ a b out na 1):zce (totQ a b) (zcq a b out na 1):=by
 have pb:=C.pb;have hb:b[0]?=some b[0]:=getElem?_pos b 0 (1:);have e2:b.toList.take 1=[b[0]]:=by rw [ze6 hb]; rfl
 have e:(zcq a b out na 1).toList=[b[0]] ++ a.toList.take na ++ out.toList.reverse:=by
  rw [yaP,yaP,zcA,zcA,ybS,e2]
 unfold zce;rw [e];have h':=h;unfold MRQ at h';rw [e2] at h';refine h'.first λ y hy=>?_;obtain ⟨j,h1,h2,h3⟩:=zbz hy;rw [h3,show kfQ b[0]=Kk b 0 from (zbf hb).symm];exact C.first j h2
def ze5 (h:MRQ a b out na nb) (h1:1 <= na) {x:Keyed} (hx:a[na - 1]?=some x) (hle:∀ j,j < nb -> j < b.size -> Kk b j <= kfQ x):MRQ a b (out.push x) (na - 1) nb:=by
 have h':=h;unfold MRQ at h';rw [show na=na - 1 + 1 by omega,ze6 hx] at h'
 have:=h'.one λ z hz=>by
  obtain ⟨j,h1,h2,h3⟩:=zbz hz;rw [h3]; exact hle j h1 h2
 unfold MRQ;rw [ycg,ybZ]; exact this
def zhI (h:MRQ a b out na nb) (h1:1 <= nb) {y:Keyed} (hy:b[nb - 1]?=some y) (hle:∀ j,j < na -> j < a.size -> Kk a j <= kfQ y):MRQ a b (out.push y) na (nb - 1):=by
 have h':=h.symm;rw [show nb=nb - 1 + 1 by omega,ze6 hy] at h'
 have:=(h'.one λ z hz=>by
  obtain ⟨j,h1,h2,h3⟩:=zbz hz;rw [h3]; exact hle j h1 h2).symm
 unfold MRQ;rw [ycg,ybZ]; exact this
def zkC (h:MRQ a b out na nb) {k:Nat} (hk:k <= na) (hle:∀ i,k <= i -> i < na -> i < a.size -> ∀ j,j < nb -> j < b.size -> Kk b j <= Kk a i):MRQ a b (out ++ (a.extract k na).reverse) k nb:=by
 have:=h.take k λ x hx y hy=>by
  obtain ⟨i,h1,h2,h2',h3⟩:=zcl hx;obtain ⟨j,g1,g2,g3⟩:=zbz hy;rw [h3,g3]; exact hle i h1 h2 h2' j g1 g2
 unfold MRQ;rw [yaP,ybS,zc5,ybZ,List.reverse_reverse];rw [List.take_take,yb8 hk] at this;exact this
def zj3 (h:MRQ a b out na nb) {k:Nat} (hk:k <= nb) (hle:∀ i,k <= i -> i < nb -> i < b.size -> ∀ j,j < na -> j < a.size -> Kk a j <= Kk b i):MRQ a b (out ++ (b.extract k nb).reverse) na k:=by
 have:=(h.symm.take k λ x hx y hy=>by
  obtain ⟨i,h1,h2,h2',h3⟩:=zcl hx;obtain ⟨j,g1,g2,g3⟩:=zbz hy;rw [h3,g3]; exact hle i h1 h2 h2' j g1 g2).symm
 unfold MRQ;rw [yaP,ybS,zc5,ybZ,List.reverse_reverse];rw [List.take_take,yb8 hk] at this;exact this
structure HIQ (a b out:Array Keyed) (na nb:Nat):Prop where
 mr:MRQ a b out na nb
 h1:1 <= na
 h2:2 <= nb
 ha:na <= a.size
 hb:nb <= b.size
noncomputable def HPQ (a b:Array Keyed) (n0:Nat) (c:Option (Array Keyed)) (na nb:Nat) (out:Array Keyed):Prop:=
 match c with
 | some r=>zce (totQ a b) r
 | none=>HIQ a b out na nb /\ na + nb <= n0
section
variable {prog:Program} {w:World} {A:Around} {E:Value -> Shared -> Prop} {s:Shared} [LtC prog w A E s] {st:SortSt} {mg k k1 ac bc n0:Nat}
def zhr (C:CmQ a b) (h:HIQ a b out na nb) (hn:na + nb <= n0) (hle:∀ j,j < nb -> j < b.size -> Kk b j <= Kk a (na - 1)) {Q:ForInStep zdu -> SortSt -> Prop}
    (h1:∀ d:zdu,HPQ a b n0 d.1 d.2.1 d.2.2.1 d.2.2.2.1 -> Q (.done d) st) (h2:∀ d:zdu,d.1=none -> HPQ a b n0 d.1 d.2.1 d.2.2.1 d.2.2.2.1 -> Q (.yield d) st) :
    wpS (model prog w) A E s (hi3Q a b out na nb mg k k1) Q st:=by
  unfold hi3Q;obtain ⟨mr,q1,q2,ha,hb⟩:=h;refine wpS_bind (zav (1:) λ x hx=>?_);have m:=ze5 mr q1 hx λ j h1 h2=>by rw [show kfQ x=Kk a (na - 1) from (zbf hx).symm]; exact hle j h1 h2
  by_cases hz:na - 1=0
  · rw [if_pos (29:)];exact wpS_pure (h1 _ (zbr m (.inl hz)))
  · rw [if_neg (29:)];have g : HPQ a b n0 none (na - 1) nb (out.push x) := ⟨⟨m, by omega, q2, by omega, hb⟩, by omega⟩
    split
    · exact wpS_pure (h1 _ g)
    · exact wpS_pure (h2 _ rfl g)
def zhv (C:CmQ a b) (hk:kindOf st=KeyC.kd) (h:HIQ a b out na nb) (hn:na + nb <= n0) (hle:∀ j,j < na -> j < a.size -> Kk a j <= Kk b (nb - 1)) {Q:ForInStep zdu -> SortSt -> Prop}
    (h1:∀ d:zdu,HPQ a b n0 d.1 d.2.1 d.2.2.1 d.2.2.2.1 -> Q (.done d) st) (h2:∀ d:zdu,d.1=none -> HPQ a b n0 d.1 d.2.1 d.2.2.1 d.2.2.2.1 -> Q (.yield d) st) :
    wpS (model prog w) A E s (hi2Q a b out na nb mg k bc) Q st:=by
  unfold hi2Q;obtain ⟨mr,q1,q2,ha,hb⟩:=h;refine wpS_bind (zav (1:) λ y hy=>?_);have m:=zhI mr (1:) hy λ j h1 h2=>by rw [show kfQ y=Kk b (nb - 1) from (zbf hy).symm]; exact hle j h1 h2
  by_cases hz:nb - 1=1
  · rw [if_pos (29:)];refine wpS_pure (h1 _ ?_);dsimp only;rw [hz] at m ⊢;exact zb5 C m
  · rw [if_neg (29:)];refine wpS_bind (zav (1:) fun z hz' => ?_);refine wpS_bind (zbd hk (C.ia _ _ hz') C.ib (1:) (1:) (fun i j hij hj => C.sb _ _ (1:) (1:)) fun k2 hk2 p1 p2 => ?_);dsimp only;have hzk : KeyC.κ z = Kk a (na - 1) := (zbf hz').symm;have ah : ∀ i, zaz true (KeyC.κ z) (Kk b (0 + i)) ↔ Kk b i < Kk a (na - 1) := fun i => by unfold zaz; rw [if_pos rfl, hzk, Nat.zero_add]
    have m2:MRQ a b (out.push y ++ (b.extract k2 (nb - 1)).reverse) na k2:=zj3 m hk2 λ i h1 h2 h2' j g1 g2=>by
      have:=mt (ah i).mpr (p2 i h1 h2);have:=C.sa j (na - 1) (1:) (1:);omega
    have nx:∀ j,j < k2 -> j < b.size -> Kk b j <= Kk a (na - 1):=λ j h1 h2=>ya8 ((ah j).mp (p1 j h1));by_cases hk0:nb - 1 - k2 > 0
    · rw [if_pos hk0];by_cases hq : k2 = 1
      · rw [if_pos (43:)];subst hq;exact wpS_pure (h1 _ (zb5 C m2))
      · rw [if_neg (43:)];by_cases hq2 : k2 = 0
        · rw [if_pos (by simpa using hq2)];exact wpS_pure (h1 _ (zbr m2 (.inr hq2)))
        · rw [if_neg (by simpa using hq2)];exact zhr C ⟨m2,q1,by omega,ha,by omega⟩ (1:) nx h1 h2
    · rw [if_neg hk0];have e : k2 = nb - 1 := by omega
      subst e;exact zhr C ⟨m,q1,by omega,ha,by omega⟩ (1:) nx h1 h2
def zkr (C:CmQ a b) (hk:kindOf st=KeyC.kd) (h:HIQ a b out na nb) (hn:na + nb <= n0) {Q:ForInStep zdu -> SortSt -> Prop}
    (h1:∀ d:zdu,HPQ a b n0 d.1 d.2.1 d.2.2.1 d.2.2.2.1 -> Q (.done d) (zaQ st mg)) (h2:∀ d:zdu,d.1=none -> HPQ a b n0 d.1 d.2.1 d.2.2.1 d.2.2.2.1 -> Q (.yield d) (zaQ st mg)) :
    wpS (model prog w) A E s (hi1Q a b out na nb mg ac bc) Q st:=by
  unfold hi1Q;have h0:=h;obtain ⟨mr,q1,q2,ha,hb⟩:=h;rw [setMinGallop'_eqQ];refine wpS_bind (wpS_modify ?_);refine wpS_bind (zav (1:) λ y hy=>?_);refine wpS_bind (zbd (st:=zaQ st mg) hk (C.ib _ _ hy) C.ia (1:) (1:) (λ i j hij hj=>C.sa _ _ (1:) (1:)) λ k2 hk2 p1 p2=>?_);dsimp only;have hyk:KeyC.κ y=Kk b (nb - 1):=(zbf hy).symm;have ah:∀ i,zaz false (KeyC.κ y) (Kk a (0 + i)) ↔ Kk a i <= Kk b (nb - 1):=λ i=>by unfold zaz; rw [if_neg (3:),hyk,Nat.zero_add]
  have m2:MRQ a b (out ++ (a.extract k2 na).reverse) k2 nb:=zkC mr hk2 λ i h1 h2 h2' j g1 g2=>by
    have:=mt (ah i).mpr (p2 i h1 h2);have:=C.sb j (nb - 1) (1:) (1:);omega
  have nx:∀ j,j < k2 -> j < a.size -> Kk a j <= Kk b (nb - 1):=λ j h1 h2=>(ah j).mp (p1 j h1);by_cases hk0:na - k2 > 0
  · rw [if_pos hk0];by_cases hq : k2 = 0
    · rw [if_pos (43:)];exact wpS_pure (h1 _ (zbr m2 (.inl hq)))
    · rw [if_neg (43:)];exact zhv (st:=zaQ st mg) C hk ⟨m2,by omega,q2,by omega,hb⟩ (1:) nx h1 h2
  · rw [if_neg hk0];have : k2 = na := by omega
    subst this;exact zhv (st:=zaQ st mg) C hk h0 (1:) nx h1 h2
def zkB (C:CmQ a b) (hk:kindOf st=KeyC.kd) (h:HIQ a b out na nb) (hn:na + nb <= n0 + 1) {Q:ForInStep zi0 -> SortSt -> Prop}
    (h1:∀ d:zi0,HPQ a b n0 d.1 d.2.1 d.2.2.1 d.2.2.2.1 -> Q (.done d) st) (h2:∀ d:zi0,d.1=none -> HPQ a b n0 d.1 d.2.1 d.2.2.1 d.2.2.2.1 -> Q (.yield d) st) :
    wpS (model prog w) A E s (hiBQ a b mg na nb out ac bc) Q st:=by
  unfold hiBQ;obtain ⟨mr,q1,q2,ha,hb⟩:=h;refine wpS_bind (zav (1:) λ y hy=>?_);refine wpS_bind (zav (1:) λ x hx=>?_);refine wpS_bind (zeq hk (C.ib _ _ hy) (C.ia _ _ hx) ?_);dsimp only;have ey:KeyC.κ y=Kk b (nb - 1):=(zbf hy).symm;have ex:KeyC.κ x=Kk a (na - 1):=(zbf hx).symm;by_cases hl:KeyC.κ y < KeyC.κ x
  · rw [if_pos (62:)];refine wpS_bind (zav (1:) fun x' hx' => ?_);obtain rfl : x = x' := by rw [hx] at hx'; exact Option.some.inj hx'
    have m:=ze5 mr q1 hx λ j g1 g2=>by
      have:=C.sb j (nb - 1) (1:) (1:);show _ <= KeyC.κ x;omega
    by_cases hz:na - 1=0
    · rw [if_pos (29:)];exact wpS_pure (h1 _ (zbr m (.inl hz)))
    · rw [if_neg (29:)];have g : HPQ a b n0 none (na - 1) nb (out.push x) := ⟨⟨m, by omega, q2, by omega, hb⟩, by omega⟩
      split
      · exact wpS_pure (h1 _ g)
      · exact wpS_pure (h2 _ rfl g)
  · rw [if_neg (62:)];refine wpS_bind (zav (1:) fun y' hy' => ?_);obtain rfl : y = y' := by rw [hy] at hy'; exact Option.some.inj hy'
    have m:=zhI mr (1:) hy λ j g1 g2=>by
      have:=C.sa j (na - 1) (1:) (1:);show _ <= KeyC.κ y;omega
    by_cases hz:nb - 1=1
    · rw [if_pos (29:)];refine wpS_pure (h1 _ ?_);dsimp only;rw [hz] at m ⊢;exact zb5 C m
    · rw [if_neg (29:)];have g : HPQ a b n0 none na (nb - 1) (out.push y) := ⟨⟨m, q1, by omega, ha, by omega⟩, by omega⟩
      split
      · exact wpS_pure (h1 _ g)
      · exact wpS_pure (h2 _ rfl g)
def zg4 (C:CmQ a b) (hk:kindOf st=KeyC.kd) (h:HIQ a b out na nb) {Q:ForInStep (Option (Array Keyed) × Nat × Nat × Array Keyed × Nat) -> SortSt -> Prop}
    (h1:∀ d st',GsQ st st' -> (∃ r,d.1=some r /\ zce (totQ a b) r) -> Q (.done d) st') (h2:∀ d st',GsQ st st' -> d.1=none -> HIQ a b d.2.2.2.1 d.2.1 d.2.2.1 -> d.2.1 + d.2.2.1 + 1 <= na + nb -> Q (.yield d) st') :
    wpS (model prog w) A E s (zgV a b na nb out mg) Q st:=by
  unfold zgV;have pa:=C.pa;have p1:=h.h1;have p2:=h.h2;have p3:=h.ha;have p4:=h.hb;refine wpS_bind (wpS_mono (wpS_forRange (I:=λ x c st'=>st'=st /\ c.1=none /\ HPQ a b (na + nb - x) c.1 c.2.1 c.2.2.1 c.2.2.2.1) (Q:=λ c st'=>st'=st /\ HPQ a b (na + nb - 1) c.1 c.2.1 c.2.2.1 c.2.2.2.1) ?step ?fin ?init) ?post)
  case init=>exact ⟨rfl,rfl,h,by show na + nb <= na + nb - 0; omega⟩
  case fin=>
    rintro ⟨c1,c2⟩ st' ⟨rfl,z,g⟩;obtain rfl:c1=none:=z;refine ⟨rfl,g.1,?_⟩;have:=g.2;omega
  case step=>
    rintro x ⟨c1,c2⟩ st' _ hx ⟨rfl,z,g⟩;obtain rfl:c1=none:=z;have g1:=g.1;have g2:=g.2;have g3:=g1.h1;refine zkB (n0:=na + nb - x - 1) C hk g1 (1:) (λ d hd=>⟨rfl,?_⟩) (λ d hz hd=>⟨rfl,hz,?_⟩)
    · obtain ⟨d1, d2⟩ := d;cases d1 with
      | some r=>exact hd
      | none=>exact ⟨hd.1,by have:=hd.2; omega⟩
    · rw [show na + nb - (x + 1)=na + nb - x - 1 by omega]; exact hd
  case post=>
    rintro ⟨c1,c2⟩ st' ⟨rfl,g⟩;cases c1 with
    | some r=>exact wpS_pure (h1 _ _ ⟨gallopOf st',rfl⟩ ⟨r,rfl,g⟩)
    | none=>
      dsimp only;refine wpS_bind (wpS_lift (wpAny_rule ⟨rfl,?_⟩));refine wpS_bind (wpS_mono (wpS_forRange (I:=λ x c st''=>GsQ st' st'' /\ c.1=none /\ HPQ a b (na + nb - 1) c.1 c.2.1 c.2.2.1 c.2.2.2.1) (Q:=λ c st''=>GsQ st' st'' /\ HPQ a b (na + nb - 1) c.1 c.2.1 c.2.2.1 c.2.2.2.1) ?step2 ?fin2 ⟨⟨gallopOf st',rfl⟩,rfl,g⟩) ?post2)
      case fin2=>
        rintro c st'' ⟨gs,z,g⟩;exact ⟨gs,g⟩
      case step2=>
        rintro x ⟨d1,d2⟩ st'' _ hx ⟨⟨gg,rfl⟩,z,g⟩;obtain rfl:d1=none:=z;dsimp only
        have one:∀ m,wpS (model prog w) A E s (hi1Q a b d2.2.2.1 d2.1 d2.2.1 m d2.2.2.2.2.1 d2.2.2.2.2.2) (λ r st''=>match r with | .done c=>GsQ st' st'' /\ HPQ a b (na + nb - 1) c.1 c.2.1 c.2.2.1 c.2.2.2.1 | .yield c=>GsQ st' st'' /\ c.1=none /\ HPQ a b (na + nb - 1) c.1 c.2.1 c.2.2.1 c.2.2.2.1) (zaQ st' gg):=λ m=>
          zkr (st:=zaQ st' gg) (out:=d2.2.2.1) (na:=d2.1) (nb:=d2.2.1) (n0:=na + nb - 1) C hk g.1 g.2 (λ d hd=>⟨⟨m,rfl⟩,hd⟩) (λ d hz hd=>⟨⟨m,rfl⟩,hz,hd⟩)
        split
        · exact wpS_mono (one _) λ r _ hr=>by cases r <;> exact hr
        · exact wpS_mono (one _) λ r _ hr=>by cases r <;> exact hr
      case post2=>
        rintro ⟨d1,d2⟩ st'' ⟨⟨gg,rfl⟩,g⟩;cases d1 with
        | some r=>exact wpS_pure (h1 _ _ ⟨gg,rfl⟩ ⟨r,rfl,g⟩)
        | none=>
          dsimp only;rw [setMinGallop'_eqQ];have:=g.2;exact wpS_bind (wpS_modify (wpS_pure (h2 _ _ ⟨_,rfl⟩ rfl g.1 (by dsimp only at *; omega))))
def zgl (C:CmQ a b) (hk:kindOf st=KeyC.kd) {Q:Array Keyed -> SortSt -> Prop} (h:∀ r st',GsQ st st' -> zce (totQ a b) r -> Q r st') :
  wpS (model prog w) A E s (mergeHi'Q a b) Q st:=by
 rw [zex];have pa:=C.pa;have pb:=C.pb;refine wpS_bind (wpS_lift (wpAny_rule ⟨rfl,?_⟩));refine wpS_bind (zav (1:) λ x hx=>?_)
 have m0:MRQ a b #[] a.size b.size:=by
  unfold MRQ;have e1:a.toList.take a.size=a.toList:=yat (5:);have e2:b.toList.take b.size=b.toList:=yat (5:);rw [e1,e2];exact ⟨by show (totQ a b ++ []).Perm _; rw [ybq],by show SrQ (a.toList ++ []); rw [ybq]; exact zhH C.sa,by show SrQ (b.toList ++ []); rw [ybq]; exact zhH C.sb⟩
 have m:MRQ a b #[x] (a.size - 1) b.size:=ze5 m0 (1:) hx λ j h2 _=>by
  rw [show kfQ x=Kk a (a.size - 1) from (zbf hx).symm]; exact C.last j h2
 by_cases hz:a.size - 1=0
 ·rw [if_pos (29:)];exact wpS_pure (h _ _ ⟨gallopOf st,rfl⟩ (zbr m (.inl hz)))
 ·rw [if_neg (29:)];by_cases hq : b.size = 1
  ·rw [if_pos (43:)];refine wpS_pure (h _ _ ⟨gallopOf st,rfl⟩ ?_);rw [hq] at m ⊢;exact zb5 C m
  ·rw [if_neg (43:)];refine wpS_bind (wpS_get ?_);refine wpS_bind (wpS_mono (wpS_forRange (I := fun x c st' => GsQ st st' /\ c.1 = none /\ HIQ a b c.2.2.2.1 c.2.1 c.2.2.1 /\ c.2.1 + c.2.2.1 + x <= a.size + b.size) (Q := fun c st' => GsQ st st' /\ ∃ r, c.1 = some r /\ zce (totQ a b) r) ?step ?fin ?init) ?post)
   case init=>exact ⟨⟨gallopOf st,rfl⟩,rfl,⟨m,by show 1 <= a.size - 1; omega,by show 2 <= b.size; omega,by show a.size - 1 <= _; omega,yag _⟩,by show a.size - 1 + b.size + 0 <= _; omega⟩
   case fin=>
    rintro c st' ⟨_,_,l,hx⟩;have:=l.h1;have:=l.h2;omega
   case step=>
    rintro x c st' _ hx ⟨⟨g,rfl⟩,z,l,hn⟩;refine zg4 (st:=zaQ st g) C hk l (λ d st'' gs hd=>?_) (λ d st'' gs hz l2 hn2=>?_)
    ·obtain ⟨g2,rfl⟩:=gs;exact ⟨⟨g2,rfl⟩,hd⟩
    ·obtain ⟨g2,rfl⟩:=gs;exact ⟨⟨g2,rfl⟩,hz,l2,by omega⟩
   case post=>
    rintro ⟨c1,c2⟩ st' ⟨gs,r,hr,g⟩;obtain rfl:c1=some r:=hr;exact wpS_pure (h r st' gs g)
end
end Srk
namespace Srk
open PySem PyProof.Rows
variable [KeyC]
noncomputable def zc7 (xs:Array Keyed) (at_:Nat) (ys:List Keyed):Array Keyed:=ys.zipIdx.foldl (λ a (p,j)=>a.setIfInBounds (at_ + j) p) xs
noncomputable def zhb (at_:Nat) (m:Array Keyed):StateT SortSt Sem Bool:=do
 modify λ s=>setArr s (zc7 (arrOf s) at_ m.toList)
 pure (failedOf (<- get)).isNone
noncomputable def zeZ (a:Array Keyed) (sa na sb nb:Nat):StateT SortSt Sem Bool:=do
 let y <- elem' a sb
 let r <- gallop'Q false y a sa na 0
 match r with
 | some k=>
  if na - k == 0 then pure true
  else do
   let x <- elem' a (sa + k + (na - k) - 1)
   let q <- gallop'Q true x a sb nb (nb - 1)
   match q with
   | some nb2=>
    if nb2 == 0 then pure true
    else if na - k <= nb2 then mergeLo'Q (a.extract (sa + k) sb) (a.extract sb (sb + nb2)) >>= zhb (sa + k)
    else mergeHi'Q (a.extract (sa + k) sb) (a.extract sb (sb + nb2)) >>= zhb (sa + k)
   | _=>pure false
 | _=>pure false
def zg0 (i:Nat):mergeAt' i=(do
   let st <- get
   match (pendingOf st)[i]?,(pendingOf st)[i + 1]? with
    | some (sa,na,p),some (sb,nb,_)=>do
       set (setPending st (((pendingOf st).setIfInBounds i (sa,na + nb,p)).eraseIdxIfInBounds (i + 1)))
       zeZ (arrOf st) sa na sb nb
    | _,_=>unsupported "internal:list.sort.pending"):=by
  kernel_rfl
def zef (ys:List Keyed):∀ (xs:Array Keyed) (k n i:Nat),k + n + ys.length <= xs.size ->
    ((ys.zipIdx n).foldl (λ a (p,j)=>a.setIfInBounds (k + j) p) xs)[i]?=if k + n <= i /\ i < k + n + ys.length then ys[i - (k + n)]? else xs[i]?:=by
  induction ys with
  | nil=>intro xs k n i _; rw [if_neg (5:)]; rfl
  | cons y ys ih=>
    intro xs k n i h;rw [ybi] at h;rw [List.zipIdx_cons,List.foldl_cons,ih _ _ _ _ (41:)];by_cases h1:i=k + n
    · subst h1;rw [if_neg (1:),if_pos (5:)];simp only [Nat.sub_self,List.getElem?_cons_zero];rw [Array.getElem?_setIfInBounds_self_of_lt (1:)]
    · by_cases h2 : k + (n + 1) <= i /\ i < k + (n + 1) + ys.length
      · rw [if_pos h2,if_pos (41:),show i - (k + n)=i - (k + (n + 1)) + 1 by omega,List.getElem?_cons_succ]
      · rw [if_neg h2,if_neg (41:),Array.getElem?_setIfInBounds_ne (1:)]
def zhQ {xs:Array Keyed} {k:Nat} {ys:List Keyed} (h:k + ys.length <= xs.size):(zc7 xs k ys).toList=xs.toList.take k ++ ys ++ xs.toList.drop (k + ys.length):=by
 apply ybo;intro i;have e:=zef ys xs k 0 i (1:);have e':(zc7 xs k ys).toList[i]?=(zc7 xs k ys)[i]?:=by simp
 rw [e'];unfold zc7;rw [show (ys.zipIdx)=ys.zipIdx 0 from rfl,e];by_cases h1:i < k
 ·rw [if_neg (1:),yaF,ybz (41:),List.getElem?_take_of_lt h1];simp
 ·by_cases h2 : i < k + ys.length
  ·rw [if_pos (1:),yaF,ybd (41:),ybz (41:)];congr 1;simp; omega
  ·rw [if_neg (1:),yaF,ybd (41:),ybd (41:),List.getElem?_drop];rw [show xs[i]?=xs.toList[i]? by simp];congr 1;simp; omega
def zeP {xs:Array Keyed} {i j k:Nat} (hj:j <= xs.size) (h:i + k < j):Kk (xs.extract i j) k=Kk xs (i + k):=by
 refine zbW ?_;rw [Array.getElem?_extract];rw [if_pos (1:)]
def zcn {xs:Array Keyed} (h:zb6 xs) (i j:Nat):zb6 (xs.extract i j):=by
 intro k x hx;rw [Array.getElem?_extract] at hx
 split at hx
 ·exact h _ _ hx
 ·cases hx
section
variable {prog:Program} {w:World} {A:Around} {E:Value -> Shared -> Prop} {s:Shared} [LtC prog w A E s] {st:SortSt}
end
end Srk
namespace Srk
open PySem PyProof.Rows
variable [KeyC]
noncomputable def AllG (a₀:Array Keyed):Prop:=∀ p ∈ a₀.toList,KeyC.G p
def zcZ {xs:Array Keyed} {i j:Nat} (hj:j <= xs.size) (k:Nat):Kk (mirror xs i j ((j - i) / 2)) k=if i <= k /\ k < j then Kk xs (i + j - 1 - k) else Kk xs k:=by
 by_cases h:i <= k /\ k < j
 ·rw [if_pos h]; exact zbW (by rw [getElem?_mirror_all hj,if_pos h])
 ·rw [if_neg h]; exact zbW (by rw [getElem?_mirror_all hj,if_neg h])
def zjn {xs:Array Keyed} {src d:Nat} (hs:src < xs.size) (hd:d <= src) (k:Nat):Kk (bubble xs src d) k=if k=src - d then Kk xs src else if src - d < k /\ k <= src then Kk xs (k - 1) else Kk xs k:=by
 by_cases h:k=src - d
 ·rw [if_pos h]; exact zbW (by rw [getElem?_bubble hs d hd,if_pos h])
 ·rw [if_neg h];by_cases h2 : src - d < k /\ k <= src
  ·rw [if_pos h2]; exact zbW (by rw [getElem?_bubble hs d hd,if_neg h,if_pos h2])
  ·rw [if_neg h2]; exact zbW (by rw [getElem?_bubble hs d hd,if_neg h,if_neg h2])
structure SBQ (a₀:Array Keyed) (lo:Nat) (p:Array (Nat × Nat × Nat)) (f:Nat -> Int) (st:SortSt):Prop where
 perm:(arrOf st).Perm a₀
 kind:kindOf st=KeyC.kd
 failed:failedOf st=none
 pend:pendingOf st=p
 low:∀ i,i < lo -> Kk (arrOf st) i=f i
variable {a₀:Array Keyed} {lo:Nat} {p:Array (Nat × Nat × Nat)} {f:Nat -> Int} {st:SortSt}
def SBQ.size (h:SBQ a₀ lo p f st):(arrOf st).size=a₀.size:=h.perm.size_eq
def SBQ.put (h:SBQ a₀ lo p f st) {xs:Array Keyed} (hp:xs.Perm (arrOf st)) (hl:∀ i,i < lo -> Kk xs i=Kk (arrOf st) i):SBQ a₀ lo p f (setArr st xs):=
 ⟨hp.trans h.perm,h.kind,h.failed,h.pend,λ i hi=>(hl i hi).trans (h.low i hi)⟩
def zgp {xs:Array Keyed} (h0:AllG a₀) (hp:xs.Perm a₀):zb6 xs:=by
 intro i x hx
 have hi:i < xs.size:=by
  rcases ybO i xs.size with h1 | h1
  ·exact h1
  ·rw [getElem?_neg xs i (1:)] at hx; cases hx
 rw [getElem?_pos xs i hi] at hx;have e:=Option.some.inj hx;exact h0 _ ((ybe.mp hp).mem_iff.mp (by rw [<- e]; simp))
noncomputable def UpQ (lo:Nat) (xs:Array Keyed) (m:Nat):Prop:=∀ i j,i <= j -> j < m -> Kk xs (lo + i) <= Kk xs (lo + j)
noncomputable def DnQ (lo:Nat) (xs:Array Keyed) (m:Nat):Prop:=∀ i j,i <= j -> j < m -> Kk xs (lo + j) <= Kk xs (lo + i)
def UpQ.one {xs:Array Keyed}:UpQ lo xs 1:=λ i j h1 h2=>by
 have:i=j:=by omega
 subst this; exact ybj _
def UpQ.more {xs:Array Keyed} {m:Nat} (h:UpQ lo xs m) (h1:1 <= m) (hl:Kk xs (lo + (m - 1)) <= Kk xs (lo + m)):UpQ lo xs (m + 1):=λ i j hij hj=>by
 by_cases c:j < m
 ·exact h i j hij c
 ·have : j = m := by omega
  subst this;by_cases c2:i=j
  ·subst c2; exact ybj _
  ·exact yby (h i (j - 1) (1:) (1:)) hl
def DnQ.more {xs:Array Keyed} {m:Nat} (h:DnQ lo xs m) (h1:1 <= m) (hl:Kk xs (lo + m) <= Kk xs (lo + (m - 1))):DnQ lo xs (m + 1):=λ i j hij hj=>by
 by_cases c:j < m
 ·exact h i j hij c
 ·have : j = m := by omega
  subst this;by_cases c2:i=j
  ·subst c2; exact ybj _
  ·exact yby hl (h i (j - 1) (1:) (1:))
section
variable {prog:Program} {w:World} {A:Around} {E:Value -> Shared -> Prop} {s:Shared} [LtC prog w A E s]
def zc2 {i j:Nat} {Q:Option Bool -> SortSt -> Prop} (hB:SBQ a₀ lo p f st) (h0:AllG a₀) (hi:i < a₀.size) (hj:j < a₀.size)
  (h:Q (some (decide (Kk (arrOf st) i < Kk (arrOf st) j))) st):wpS (model prog w) A E s (ltAt' i j) Q st:=by
 have hs:=hB.size;have ai:=zgp h0 hB.perm;have e1:(arrOf st)[i]?=some (arrOf st)[i]:=getElem?_pos _ i (1:);have e2:(arrOf st)[j]?=some (arrOf st)[j]:=getElem?_pos _ j (1:);rw [ltAt'_eq];refine wpS_bind (wpS_get (wpS_bind (zav (1:) λ x hx=>wpS_bind (zav (1:) λ y hy=>zeq hB.kind (ai _ _ hx) (ai _ _ hy) ?_))));rw [zbf hx,zbf hy] at h;exact h
def zfr {m nrem:Nat} {Q:Option (Option Nat) × Nat -> SortSt -> Prop} (h0:AllG a₀) (hn:lo + nrem <= a₀.size) (h1:1 <= m) (hmn:m <= nrem) (hB:SBQ a₀ lo p f st) (hu:UpQ lo (arrOf st) m)
  (h:∀ n,m <= n -> n <= nrem -> UpQ lo (arrOf st) n -> (n=nrem \/ Kk (arrOf st) (lo + n) < Kk (arrOf st) (lo + (n - 1))) -> Q (none,n) st) :
  wpS (model prog w) A E s (Srt.rise lo m nrem) Q st:=by
 unfold Srt.rise;refine wpS_forRange (I:=λ x c st'=>st'=st /\ c=(none,x) /\ UpQ lo (arrOf st) x) ?step ?fin ⟨rfl,rfl,hu⟩
 case fin=>
  rintro c st' ⟨rfl,rfl,hu'⟩;rw [show max m nrem=nrem by omega] at hu' ⊢;exact h nrem hmn (yag _) hu' (.inl rfl)
 case step=>
  rintro x c st' h2 h3 ⟨rfl,rfl,hu'⟩;dsimp only;refine wpS_bind (zc2 hB h0 (1:) (1:) ?_);rw [show lo + x - 1=lo + (x - 1) by omega];by_cases hl:Kk (arrOf st') (lo + x) < Kk (arrOf st') (lo + (x - 1))
  ·simp only [hl,decide_true,if_true];exact wpS_pure (h x h2 (1:) hu' (.inr hl))
  ·simp only [hl,decide_false,yar,if_false];exact wpS_pure ⟨rfl,rfl,hu'.more (1:) (1:)⟩
def zgY {xs:Array Keyed} {i j:Nat} (hj:j <= xs.size) (heq:∀ k,i <= k -> k < j -> Kk xs k=Kk xs (j - 1)) (k:Nat):Kk (mirror xs i j ((j - i) / 2)) k=Kk xs k:=by
 rw [zcZ hj]
 split
 ·rw [heq (i + j - 1 - k) (1:) (1:),heq k (1:) (1:)]
 ·rfl
def zcI {n nrem:Nat} {Q:Option Nat -> SortSt -> Prop} (h0:AllG a₀) (hn:lo + nrem <= a₀.size) (h1:1 <= n) (hnn:n <= nrem) (hB:SBQ a₀ lo p f st) (hd:DnQ lo (arrOf st) n)
  (h:∀ m st',SBQ a₀ lo p f st' -> 1 <= m -> m <= nrem -> UpQ lo (arrOf st') m -> Q (some m) st') :
  wpS (model prog w) A E s (Srt.turnAbout lo n nrem) Q st:=by
 unfold Srt.turnAbout;have hsz:lo + n <= (arrOf st).size:=by rw [hB.size]; omega
 refine wpS_bind (wpS_reverse ?_);have hB':SBQ a₀ lo p f (setArr st (mirror (arrOf st) lo (lo + n) ((lo + n - lo) / 2))):=hB.put (mirror_perm _ _ _ _) λ i hi=>by rw [zcZ hsz,if_neg (1:)]
 refine wpS_bind (zfr h0 hn h1 hnn hB' ?_ λ m hm1 hm2 hsm _=>wpS_pure (h m _ hB' (1:) hm2 hsm));intro i j hij hj;show Kk (mirror (arrOf st) lo (lo + n) ((lo + n - lo) / 2)) (lo + i) <= Kk (mirror (arrOf st) lo (lo + n) ((lo + n - lo) / 2)) (lo + j);rw [zcZ hsz,zcZ hsz,if_pos (1:),if_pos (1:),show lo + (lo + n) - 1 - (lo + i)=lo + (n - 1 - i) by omega,show lo + (lo + n) - 1 - (lo + j)=lo + (n - 1 - j) by omega];exact hd _ _ (1:) (1:)
def zjp {n nrem:Nat} {Q:Option (Option Nat) × Nat × Nat -> SortSt -> Prop} (h0:AllG a₀) (hn:lo + nrem <= a₀.size) (h1:1 <= n) (hnn:n <= nrem) (hB:SBQ a₀ lo p f st) (hd:DnQ lo (arrOf st) n)
  (h:∀ m q st',SBQ a₀ lo p f st' -> n <= m -> m <= nrem -> DnQ lo (arrOf st') m -> q + 1 <= m -> (∀ i,lo + m - (q + 1) <= i -> i < lo + m -> Kk (arrOf st') i=Kk (arrOf st') (lo + m - 1)) -> Q (none,m,q) st') :
  wpS (model prog w) A E s (Srt.fall lo n nrem) Q st:=by
 unfold Srt.fall;refine wpS_forRange (I:=λ x c st'=>∃ q,c=(none,x,q) /\ SBQ a₀ lo p f st' /\ DnQ lo (arrOf st') x /\ q + 1 <= x /\ (∀ i,lo + x - (q + 1) <= i -> i < lo + x -> Kk (arrOf st') i=Kk (arrOf st') (lo + x - 1))) ?step ?fin ⟨0,rfl,hB,hd,by omega,λ i _ _=>by congr 1; omega⟩
 case fin=>
  rintro c st' ⟨q,rfl,hB',hd',hq,he⟩;rw [show max n nrem=nrem by omega] at hd' hq he ⊢;exact h nrem q st' hB' hnn (yag _) hd' hq he
 case step=>
  rintro x c st' h2 h3 ⟨q,rfl,hB',hd',hq,he⟩;dsimp only;have hsz:lo + x <= (arrOf st').size:=by rw [hB'.size]; omega
  have ex:lo + x - 1=lo + (x - 1):=by omega
  refine wpS_bind (zc2 hB' h0 (1:) (1:) ?_);by_cases hl:Kk (arrOf st') (lo + x) < Kk (arrOf st') (lo + x - 1)
  ·simp only [hl, decide_true, if_true];rw [ex] at hl;have d1 := hd'.more (1:) (ya8 hl);by_cases hq0 : q > 0
   ·rw [if_pos hq0];have sm:=zgY hsz he;refine wpS_bind (wpS_reverse (wpS_pure ⟨0,rfl,hB'.put (mirror_perm _ _ _ _) λ i _=>sm i,λ i j hij hj=>?_,by omega,λ i _ _=>by congr 1; omega⟩));show Kk (mirror (arrOf st') _ _ _) _ <= Kk (mirror (arrOf st') _ _ _) _;rw [sm,sm]; exact d1 i j hij hj
   ·rw [if_neg hq0];exact wpS_pure ⟨0,rfl,hB',d1,by omega,λ i _ _=>by congr 1; omega⟩
  ·simp only [hl, decide_false, yar, if_false];refine wpS_bind (zc2 hB' h0 (1:) (1:) ?_);by_cases hg : Kk (arrOf st') (lo + x - 1) < Kk (arrOf st') (lo + x)
   ·simp only [hg,decide_true,if_true];exact wpS_pure (h x q st' hB' h2 (1:) hd' hq he)
   ·simp only [hg, decide_false, yar, if_false];have eqx : Kk (arrOf st') (lo + x) = Kk (arrOf st') (lo + x - 1) := by omega
    refine wpS_pure ⟨q + 1,rfl,hB',hd'.more (1:) (by rw [<- ex]; omega),by omega,λ i g1 g2=>?_⟩;rw [show lo + (x + 1) - 1=lo + x by omega];by_cases c:i=lo + x
    ·rw [c]
    ·rw [eqx]; exact he i (1:) (1:)
def zdy {n nrem:Nat} {Q:Option Nat -> SortSt -> Prop} (h0:AllG a₀) (hn:lo + nrem <= a₀.size) (hnn:n + 1 <= nrem) (hB:SBQ a₀ lo p f st) (hd:DnQ lo (arrOf st) (n + 1))
  (h:∀ m st',SBQ a₀ lo p f st' -> 1 <= m -> m <= nrem -> UpQ lo (arrOf st') m -> Q (some m) st') :
  wpS (model prog w) A E s (Srt.falling lo n nrem) Q st:=by
 unfold Srt.falling;refine wpS_bind (wpS_lift (wpAny_rule ⟨rfl,?_⟩));refine wpS_bind (zjp h0 hn (1:) hnn hB hd λ m q st' hB' hm1 hm2 hd' hq he=>?_);dsimp only;have hsz:lo + m <= (arrOf st').size:=by rw [hB'.size]; omega
 by_cases hq0:q > 0
 ·rw [if_pos hq0];have sm:=zgY hsz he;refine wpS_bind (wpS_reverse (zcI h0 hn (1:) hm2 (hB'.put (mirror_perm _ _ _ _) λ i _=>sm i) (λ i j hij hj=>?_) h));show Kk (mirror (arrOf st') _ _ _) _ <= Kk (mirror (arrOf st') _ _ _) _;rw [sm,sm]; exact hd' i j hij hj
 ·rw [if_neg hq0];exact zcI h0 hn (1:) hm2 hB' hd' h
def zez {nrem:Nat} {Q:Option Nat -> SortSt -> Prop} (h0:AllG a₀) (hn:lo + nrem <= a₀.size) (h1:1 <= nrem) (hB:SBQ a₀ lo p f st)
  (h:∀ m st',SBQ a₀ lo p f st' -> 1 <= m -> m <= nrem -> UpQ lo (arrOf st') m -> Q (some m) st') :
  wpS (model prog w) A E s (countRun' lo nrem) Q st:=by
 rw [Srt.countRun_parts];refine wpS_bind (zfr h0 hn (yag 1) h1 hB UpQ.one λ n hn1 hn2 hu hor=>?_);dsimp only;by_cases hnn:n=nrem
 ·rw [if_pos (by simpa using hnn)];exact wpS_pure (h n st hB hn1 hn2 hu)
 ·rw [if_neg (by simpa using hnn)];have hlt := hor.resolve_left hnn;have hsz : lo + n <= (arrOf st).size := by rw [hB.size]; omega
  by_cases hgt:n > 1
  ·rw [if_pos hgt];refine wpS_bind (zc2 hB h0 (1:) (1:) ?_);rw [show lo + n - 1 = lo + (n - 1) by omega];by_cases hr : Kk (arrOf st) lo < Kk (arrOf st) (lo + (n - 1))
   ·simp only [hr,decide_true,if_true];exact wpS_pure (h n st hB hn1 hn2 hu)
   ·simp only [hr, decide_false, yar, if_false]
    have hall:∀ k,lo <= k -> k < lo + n -> Kk (arrOf st) k=Kk (arrOf st) (lo + n - 1):=by
     intro k g1 g2;have a1:=hu 0 (k - lo) (1:) (1:);have a2:=hu (k - lo) (n - 1) (1:) (1:);rw [show lo + (k - lo)=k by omega] at a1 a2;rw [show lo + n - 1=lo + (n - 1) by omega];simp only [Nat.add_zero] at a1;omega
    have sm:=zgY hsz hall;refine wpS_bind (wpS_reverse (zdy h0 hn (1:) (hB.put (mirror_perm _ _ _ _) λ i _=>sm i) (λ i j hij hj=>?_) h));show Kk (mirror (arrOf st) _ _ _) _ <= Kk (mirror (arrOf st) _ _ _) _;rw [sm,sm];by_cases c:j < n
    ·rw [hall (lo + i) (1:) (1:),hall (lo + j) (1:) (1:)]; exact ybj _
    ·have : j = n := by omega
     subst this;by_cases c2:i=j
     ·subst c2; exact ybj _
     ·rw [hall (lo + i) (1:) (1:),show lo + j - 1=lo + (j - 1) by omega]; exact ya8 hlt
  ·rw [if_neg hgt];have : n = 1 := by omega
   subst this;refine zdy h0 hn (1:) hB (λ i j hij hj=>?_) h;by_cases c:i=j
   ·subst c; exact ybj _
   ·have e1 : i = 0 := by omega
    have e2:j=1:=by omega
    subst e1; subst e2;exact ya8 hlt
def zdN {n ok:Nat} {Q:Bool -> SortSt -> Prop} (h0:AllG a₀) (hn:lo + n <= a₀.size) (hok:ok <= n) (hB:SBQ a₀ lo p f st) (hu:UpQ lo (arrOf st) ok)
    (h:∀ st',SBQ a₀ lo p f st' -> UpQ lo (arrOf st') n -> Q true st'):wpS (model prog w) A E s (binarySort' lo n ok) Q st:=by
  rw [binarySort'_eq];refine wpS_bind (wpS_mono (wpS_forRange (I:=λ k c st'=>c=(none,()) /\ SBQ a₀ lo p f st' /\ UpQ lo (arrOf st') (min k n)) (Q:=λ c st'=>c=(none,()) /\ SBQ a₀ lo p f st' /\ UpQ lo (arrOf st') n) ?step ?fin ?init) ?post)
  case post=>
    rintro c st' ⟨rfl,hB',hu'⟩;exact wpS_pure (h st' hB' hu')
  case init=>
    refine ⟨rfl,hB,λ i j hij hj=>?_⟩;by_cases c:ok=0
    · have : i = j := by omega
      subst this; exact ybj _
    · exact hu i j hij (1:)
  case fin=>
    rintro c st' ⟨hc,hB',hu'⟩;rw [show min (max (max ok 1) n) n=n by omega] at hu';exact ⟨hc,hB',hu'⟩
  case step=>
    rintro k c st' g1 g2 ⟨rfl,hB',hu'⟩;rw [show min k n=k by omega] at hu'
    refine wpS_bind (wpS_mono (wpS_forRange (I:=λ x c st''=>st''=st' /\ ∃ l r,c=(none,l,r) /\ l <= r /\ r <= k /\ r - l <= k - x /\
        (∀ i,i < l -> Kk (arrOf st') (lo + i) <= Kk (arrOf st') (lo + k)) /\ (∀ i,r <= i -> i < k -> Kk (arrOf st') (lo + k) < Kk (arrOf st') (lo + i)))
      (Q:=λ c st''=>st''=st' /\ ∃ l r,c=(none,l,r) /\ l <= k /\
        (∀ i,i < l -> Kk (arrOf st') (lo + i) <= Kk (arrOf st') (lo + k)) /\ (∀ i,l <= i -> i < k -> Kk (arrOf st') (lo + k) < Kk (arrOf st') (lo + i))) ?istep ?ifin ?iinit) ?ipost)
    case iinit=>exact ⟨rfl,0,k,rfl,by omega,by omega,by omega,λ i hi=>by omega,λ i h1 h2=>by omega⟩
    case ifin=>
      rintro c st'' ⟨rfl,l,r,rfl,q1,q2,q3,q4,q5⟩;have:l=r:=by omega
      subst this;exact ⟨rfl,l,l,rfl,q2,q4,q5⟩
    case istep=>
      rintro x c st'' _ hx ⟨rfl,l,r,rfl,q1,q2,q3,q4,q5⟩;dsimp only;by_cases hge:l >= r
      · rw [if_pos hge];have : l = r := by omega
        subst this;exact wpS_pure ⟨rfl,l,l,rfl,q2,q4,q5⟩
      · rw [if_neg hge];refine wpS_bind (zc2 hB' h0 (1:) (1:) ?_);by_cases hl : Kk (arrOf st'') (lo + k) < Kk (arrOf st'') (lo + (l + r) / 2)
        · simp only [hl,decide_true,if_true];exact wpS_pure ⟨rfl,l,_,rfl,by omega,by omega,by omega,q4,λ i g3 g4=>Int.lt_of_lt_of_le hl (hu' _ _ g3 g4)⟩
        · simp only [hl,decide_false,yar,if_false];exact wpS_pure ⟨rfl,_,r,rfl,by omega,by omega,by omega,λ i g3=>yby (hu' i ((l + r) / 2) (1:) (1:)) (Int.not_lt.mp hl),q5⟩
    case ipost=>
      rintro c st'' ⟨rfl,l,r,rfl,q1,q4,q5⟩;show wpS _ _ _ _ (do moveDown' (lo + k) (lo + l); pure (ForInStep.yield (none,()))) _ _;rw [moveDown'_eq];have hks:lo + k < (arrOf st'').size:=by rw [hB'.size]; omega
      have kb:∀ i,Kk (bubble (arrOf st'') (lo + k) (lo + k - (lo + l))) i=if i=lo + l then Kk (arrOf st'') (lo + k) else if lo + l < i /\ i <= lo + k then Kk (arrOf st'') (i - 1) else Kk (arrOf st'') i:=λ i=>by
        rw [zjn hks (1:),show lo + k - (lo + k - (lo + l))=lo + l by omega]
      refine wpS_bind (wpS_modify (wpS_pure ⟨rfl,hB'.put (bubble_perm _ _ _) λ i hi=>by rw [kb,if_neg (1:),if_neg (1:)],?_⟩));rw [show min (k + 1) n=k + 1 by omega];intro i j hij hj;show Kk (bubble (arrOf st'') (lo + k) (lo + k - (lo + l))) (lo + i) <= Kk (bubble (arrOf st'') (lo + k) (lo + k - (lo + l))) (lo + j);rw [kb,kb]
      repeat' split
      all_goals first
        | (exfalso; omega)
        | exact ybj _
        | (rw [show lo + i - 1=lo + (i - 1) by omega,show lo + j - 1=lo + (j - 1) by omega]; exact hu' _ _ (1:) (1:))
        | (rw [show lo + j - 1=lo + (j - 1) by omega]; exact ya8 (q5 _ (1:) (1:)))
        | (rw [show lo + j - 1=lo + (j - 1) by omega]; exact hu' _ _ (1:) (1:))
        | exact q4 _ (1:)
        | exact hu' _ _ (1:) (1:)
end
end Srk
namespace Srk
open PySem PyProof.Rows
variable [KeyC]
section
variable {prog:Program} {w:World} {A:Around} {E:Value -> Shared -> Prop} {s:Shared} [LtC prog w A E s] {st:SortSt}
def zgs {a:Array Keyed} {lo n e:Nat} (hk:kindOf st=KeyC.kd) (hf:failedOf st=none) (ha:arrOf st=a) (hi:zb6 a) (h1:lo < n) (h2:n < e) (h3:e <= a.size)
  (s1:∀ i j,lo <= i -> i <= j -> j < n -> Kk a i <= Kk a j) (s2:∀ i j,n <= i -> i <= j -> j < e -> Kk a i <= Kk a j) {Q:Bool -> SortSt -> Prop}
  (h:∀ st',pendingOf st'=pendingOf st -> failedOf st'=none -> kindOf st'=KeyC.kd -> (arrOf st').Perm a -> (∀ i,i < lo \/ e <= i -> Kk (arrOf st') i=Kk a i) -> (∀ i j,lo <= i -> i <= j -> j < e -> Kk (arrOf st') i <= Kk (arrOf st') j) -> Q true st') :
  wpS (model prog w) A E s (zeZ a lo (n - lo) n (e - n)) Q st:=by
 unfold zeZ
 have inOrder:Kk a (n - 1) <= Kk a n -> Q true st:=λ hle=>by
  refine h st rfl hf hk (by rw [ha]) (λ i _=>by rw [ha]) ?_;rw [ha];intro i j g1 hij hj;by_cases c1:j < n
  ·exact s1 i j g1 hij c1
  ·by_cases c2 : n <= i
   ·exact s2 i j c2 hij hj
   ·exact yby (s1 i (n - 1) g1 (1:) (1:)) (yby hle (s2 n j (1:) (1:) hj))
 refine wpS_bind (zav (1:) λ y hy=>?_);refine wpS_bind (zbd hk (hi _ _ hy) hi (1:) (1:) (λ i j hij hj=>s1 _ _ (1:) (1:) (1:)) λ k hk1 p1 p2=>?_);dsimp only;have hyk:KeyC.κ y=Kk a n:=(zbf hy).symm;have ah:∀ i,zaz false (KeyC.κ y) (Kk a (lo + i)) ↔ Kk a (lo + i) <= Kk a n:=λ i=>by unfold zaz; rw [if_neg (3:),hyk]
 by_cases hz:n - lo - k=0
 ·rw [if_pos (29:)];have:=(ah (n - 1 - lo)).mp (p1 (n - 1 - lo) (1:));rw [show lo + (n - 1 - lo)=n - 1 by omega] at this;exact wpS_pure (inOrder this)
 ·rw [if_neg (29:)];have e0 : lo + k + (n - lo - k) - 1 = n - 1 := by omega
  refine wpS_bind (zav (1:) λ x hx=>?_);refine wpS_bind (zbd hk (hi _ _ hx) hi (1:) (1:) (λ i j hij hj=>s2 _ _ (1:) (1:) (1:)) λ k2 hk2 r1 r2=>?_);dsimp only;have hxk:KeyC.κ x=Kk a (n - 1):=by rw [<- e0]; exact (zbf hx).symm
  have ah2:∀ i,zaz true (KeyC.κ x) (Kk a (n + i)) ↔ Kk a (n + i) < Kk a (n - 1):=λ i=>by unfold zaz; rw [if_pos rfl,hxk]
  by_cases hz2:k2=0
  ·rw [if_pos (by simpa using hz2)];refine wpS_pure (inOrder ?_);have:=mt (ah2 0).mpr (r2 0 (1:) (1:));simp only [Nat.add_zero] at this;omega
  ·rw [if_neg (by simpa using hz2)];have zX : (a.extract (lo + k) n).size = n - lo - k := by simp; omega
   have zY:(a.extract n (n + k2)).size=k2:=by simp; omega
   have kX:∀ i,i < n - lo - k -> Kk (a.extract (lo + k) n) i=Kk a (lo + k + i):=λ i hi=>zeP (1:) (1:);have kY:∀ i,i < k2 -> Kk (a.extract n (n + k2)) i=Kk a (n + i):=λ i hi=>zeP (1:) (1:)
   have up:∀ i,lo + k <= i -> i < n -> Kk a n < Kk a i:=λ i q1 q2=>by
    have:=mt (ah (i - lo)).mpr (p2 (i - lo) (1:) (1:));rw [show lo + (i - lo)=i by omega] at this;omega
   have C:CmQ (a.extract (lo + k) n) (a.extract n (n + k2)):=by
    refine ⟨zcn hi _ _,zcn hi _ _,?_,?_,by omega,by omega,?_,?_⟩
    ·rw [zX]; intro i j hij hj;rw [kX i (1:),kX j hj]; exact s1 _ _ (1:) (1:) (1:)
    ·rw [zY]; intro i j hij hj;rw [kY i (1:),kY j hj]; exact s2 _ _ (1:) (1:) (1:)
    ·rw [zX,zY]; intro j hj;rw [kY j hj,kX _ (1:),show lo + k + (n - lo - k - 1)=n - 1 by omega];exact ya8 ((ah2 j).mp (r1 j hj))
    ·rw [zX]; intro j hj;rw [kY 0 (1:),kX j hj];exact ya8 (up _ (1:) (1:))
   have fin:∀ r st',GsQ st st' -> zce (totQ (a.extract (lo + k) n) (a.extract n (n + k2))) r -> wpS (model prog w) A E s (zhb (lo + k) r) Q st':=by
    rintro r st' ⟨g,rfl⟩ ⟨gp,gs⟩;unfold zhb;refine wpS_bind (wpS_modify (wpS_bind (wpS_get ?_)));have ef:(failedOf st).isNone=true:=by rw [hf]; rfl
    show wpS _ _ _ _ (pure (failedOf st).isNone) Q _;rw [ef]
    have hl:r.toList.length=n - lo - k + k2:=by
     rw [gp.length_eq]; simp only [totQ,yaf,yaE,zX,zY]
    have arr:arrOf (setArr (zaQ st g) (zc7 (arrOf (zaQ st g)) (lo + k) r.toList))=zc7 a (lo + k) r.toList:=by
     show zc7 (arrOf st) (lo + k) r.toList=_;rw [ha]
    have out:∀ i,i < lo + k \/ n + k2 <= i -> Kk (zc7 a (lo + k) r.toList) i=Kk a i:=λ i hi'=>zbW (by
     have e:=zef r.toList a (lo + k) 0 i (1:);unfold zc7;rw [show (r.toList.zipIdx)=r.toList.zipIdx 0 from rfl,e,if_neg (1:)])
    have inn:∀ i,lo + k <= i -> i < n + k2 -> ∃ hh:i - (lo + k) < r.toList.length,Kk (zc7 a (lo + k) r.toList) i=kfQ r.toList[i - (lo + k)]:=λ i g1 g2=>by
     have hh:i - (lo + k) < r.toList.length:=by omega
     refine ⟨hh,?_⟩;have e:=zef r.toList a (lo + k) 0 i (1:)
     have e2:(zc7 a (lo + k) r.toList)[i]?=some r.toList[i - (lo + k)]:=by
      unfold zc7;rw [show (r.toList.zipIdx)=r.toList.zipIdx 0 from rfl,e,if_pos (1:),Nat.add_zero,yaa hh]
     exact zbf e2
    have src:∀ i,lo + k <= i -> i < n + k2 -> ∃ q,((lo + k <= q /\ q < n) \/ (n <= q /\ q < n + k2)) /\ Kk (zc7 a (lo + k) r.toList) i=Kk a q:=λ i g1 g2=>by
     obtain ⟨hh,ek⟩:=inn i g1 g2;have hm:r.toList[i - (lo + k)] ∈ totQ (a.extract (lo + k) n) (a.extract n (n + k2)):=gp.mem_iff.mp (ybc hh);rcases yaK.mp hm with hm | hm
     ·rw [zc5] at hm;obtain ⟨q,q1,q2,q3,q4⟩:=zcl hm;exact ⟨q,.inl ⟨q1,q2⟩,by rw [ek,q4]⟩
     ·rw [zcp] at hm;obtain ⟨q,q1,q2,q3⟩:=zcR hm;exact ⟨n + q,.inr ⟨by omega,by omega⟩,by rw [ek,q3]⟩
    refine wpS_pure (h _ rfl hf hk ?_ ?_ ?_)
    ·rw [arr, ybe, zhQ (1:), hl, show lo + k + (n - lo - k + k2) = n + k2 by omega]
     have whole:a.toList=a.toList.take (lo + k) ++ ((a.toList.take n).drop (lo + k) ++ (a.toList.drop n).take k2) ++ a.toList.drop (n + k2):=by
      have e:a.toList.take (lo + k) ++ (a.toList.take n).drop (lo + k)=a.toList.take n:=by
       have:=yaW (lo + k) (a.toList.take n)
       rwa [List.take_take,yb8 (1:)] at this
      rw [<- yaF,e,yaF,<- List.drop_drop,yaW,yaW]
     have gp':r.toList.Perm ((a.toList.take n).drop (lo + k) ++ (a.toList.drop n).take k2):=by rw [<- zc5,<- zcp]; exact gp
     refine List.Perm.trans (yb9 _ (ycl _ gp')) ?_;rw [<- whole]
    ·intro i hi';rw [arr]; exact out i (1:)
    ·rw [arr];intro i j g1 hij hj;by_cases ci : i < lo + k
     ·rw [out i (.inl ci)]
      have hin:Kk a i <= Kk a n:=by
       have:=(ah (i - lo)).mp (p1 (i - lo) (1:))
       rwa [show lo + (i - lo)=i by omega] at this
      by_cases cj:j < lo + k
      ·rw [out j (.inl cj)]; exact s1 i j g1 hij (1:)
      ·by_cases cj2 : j < n + k2
       ·obtain ⟨q, hq, ek⟩ := src j (1:) cj2;rw [ek];rcases hq with hq | hq
        ·exact s1 i q g1 (1:) hq.2
        ·exact yby hin (s2 n q (1:) hq.1 (1:))
       ·rw [out j (.inr (1:))];exact yby hin (s2 n j (1:) (1:) hj)
     ·by_cases ci2 : i < n + k2
      ·by_cases cj2 : j < n + k2
       ·obtain ⟨h4, e4⟩ := inn i (1:) ci2;obtain ⟨h5, e5⟩ := inn j (1:) cj2;rw [e4, e5];rcases ybO (i - (lo + k)) (j - (lo + k)) with c | c
        ·exact yaT.mp gs _ _ h4 h5 c
        ·have : i = j := by omega
         subst this; exact ybj _
       ·obtain ⟨q, hq, ek⟩ := src i (1:) ci2;rw [ek, out j (.inr (1:))];rcases hq with hq | hq
        ·have q2:=mt (ah2 (j - n)).mpr (r2 (j - n) (1:) (1:));rw [show n + (j - n)=j by omega] at q2;exact yby (s1 q (n - 1) (1:) (1:) (1:)) (1:)
        ·exact s2 q j hq.1 (1:) hj
      ·rw [out i (.inr (1:)),out j (.inr (1:))];exact s2 i j (1:) hij hj
   split
   ·exact wpS_bind (zf2 C hk λ r st' gs gd=>fin r st' gs gd)
   ·exact wpS_bind (zgl C hk λ r st' gs gd=>fin r st' gs gd)
end
noncomputable def Runs (xs:Array Keyed):Nat -> List (Nat × Nat × Nat) -> Nat -> Prop
 | s,[],e=>s=e
 | s,(a,n,_) :: t,e=>a=s /\ 1 <= n /\ (∀ i j,s <= i -> i <= j -> j < s + n -> Kk xs i <= Kk xs j) /\ Runs xs (s + n) t e
def Runs.le {xs:Array Keyed}:∀ {l:List (Nat × Nat × Nat)} {s e:Nat},Runs xs s l e -> s + l.length <= e
 | [],s,e,h=>by cases h; simp
 | (a,n,p) :: t,s,e,h=>by
  obtain ⟨h1,h2,h3,h4⟩:=h;have:=Runs.le h4;simp only [ybi];omega
def Runs.append {xs:Array Keyed}:∀ {l r:List (Nat × Nat × Nat)} {s e:Nat},Runs xs s (l ++ r) e ↔ ∃ m,Runs xs s l m /\ Runs xs m r e
 | [],r,s,e=>⟨λ h=>⟨s,rfl,h⟩,λ ⟨m,h1,h2⟩=>by cases h1; exact h2⟩
 | (a,n,p) :: t,r,s,e=>⟨λ ⟨h1,h2,h3,h4⟩=>by
   obtain ⟨m,q1,q2⟩:=Runs.append.mp h4;exact ⟨m,⟨h1,h2,h3,q1⟩,q2⟩,λ ⟨m,⟨h1,h2,h3,h4⟩,q⟩=>⟨h1,h2,h3,Runs.append.mpr ⟨m,h4,q⟩⟩⟩
def Runs.congr {xs ys:Array Keyed}:∀ {l:List (Nat × Nat × Nat)} {s e:Nat},Runs xs s l e -> (∀ i,s <= i -> i < e -> Kk ys i=Kk xs i) -> Runs ys s l e
 | [],s,e,h,_=>h
 | (a,n,p) :: t,s,e,⟨h1,h2,h3,h4⟩,k=>by
  have:=Runs.le h4;refine ⟨h1,h2,λ i j g1 g2 g3=>?_,h4.congr λ i q1 q2=>k i (1:) q2⟩;rw [k i g1 (1:),k j (1:) (1:)];exact h3 i j g1 g2 g3
structure PI (a₀:Array Keyed) (hi:Nat) (st:SortSt):Prop where
 perm:(arrOf st).Perm a₀
 kind:kindOf st=KeyC.kd
 failed:failedOf st=none
 runs:Runs (arrOf st) 0 (pendingOf st).toList hi
section
variable {prog:Program} {w:World} {A:Around} {E:Value -> Shared -> Prop} {s:Shared} [LtC prog w A E s] {st:SortSt} {a₀:Array Keyed}
def zkL {α:Type} {l:List α} {i:Nat} {x y:α} (h1:l[i]?=some x) (h2:l[i + 1]?=some y):l=l.take i ++ x :: y :: l.drop (i + 2):=by
 have e1:l.drop i=x :: l.drop (i + 1):=by
  obtain ⟨hi,e⟩:=yah.mp h1;rw [<- e]; exact ybU hi
 have e2:l.drop (i + 1)=y :: l.drop (i + 2):=by
  obtain ⟨hi,e⟩:=yah.mp h2;rw [<- e]; exact ybU hi
 rw [<- e2,<- e1,yaW]
def zea {i hi:Nat} {Q:Bool -> SortSt -> Prop} (h0:AllG a₀) (hP:PI a₀ hi st) (hhi:hi <= a₀.size) (hi2Q:i + 1 < (pendingOf st).size)
  (h:∀ st',PI a₀ hi st' -> (pendingOf st').size + 1=(pendingOf st).size -> (∀ j,hi <= j -> Kk (arrOf st') j=Kk (arrOf st) j) -> Q true st') :
  wpS (model prog w) A E s (mergeAt' i) Q st:=by
 rw [zg0];refine wpS_bind (wpS_get ?_);have e1:(pendingOf st)[i]?=some (pendingOf st)[i]:=getElem?_pos _ i (1:);have e2:(pendingOf st)[i + 1]?=some (pendingOf st)[i + 1]:=getElem?_pos _ (i + 1) hi2Q;generalize (pendingOf st)[i]=x at e1;generalize (pendingOf st)[i + 1]=y at e2;obtain ⟨sa,na,p⟩:=x;obtain ⟨sb,nb,q⟩:=y;rw [e1,e2];dsimp only;have e1':(pendingOf st).toList[i]?=some (sa,na,p):=by rw [yaV]; exact e1
 have e2':(pendingOf st).toList[i + 1]?=some (sb,nb,q):=by rw [yaV]; exact e2
 have sp:=zkL e1' e2';have R:=hP.runs;rw [sp] at R;obtain ⟨m,R1,R2⟩:=Runs.append.mp R;obtain ⟨rfl,n1,u1,rfl,n2,u2,R3⟩:=R2;have l1:=R1.le;have l3:=R3.le;have hz:(arrOf st).size=a₀.size:=hP.perm.size_eq;refine wpS_bind (Srt.wpS_set ?_)
 have el:(((pendingOf st).setIfInBounds i (sa,na + nb,p)).eraseIdxIfInBounds (i + 1)).toList=(pendingOf st).toList.take i ++ (sa,na + nb,p) :: (pendingOf st).toList.drop (i + 2):=by
  have hl:(pendingOf st).toList.length=(pendingOf st).size:=yaE;have ht:((pendingOf st).toList.take i).length=i:=by rw [yaX]; omega
  have es:((pendingOf st).setIfInBounds i (sa,na + nb,p)).toList=(pendingOf st).toList.take i ++ (sa,na + nb,p) :: (sa + na,nb,q) :: (pendingOf st).toList.drop (i + 2):=by
   rw [Array.toList_setIfInBounds]
   conv=>lhs; rw [sp]
   rw [List.set_append_right _ _ (1:),ht];simp
  rw [Array.eraseIdxIfInBounds,dif_pos (41:),Array.toList_eraseIdx,es,List.eraseIdx_append_of_length_le (1:),ht,show i + 1 - i=1 by omega];rfl
 have tw:=zgs (st:=setPending st (((pendingOf st).setIfInBounds i (sa,na + nb,p)).eraseIdxIfInBounds (i + 1))) (prog:=prog) (w:=w) (A:=A) (E:=E) (s:=s) (a:=arrOf st) (lo:=sa) (n:=sa + na) (e:=sa + na + nb) hP.kind hP.failed rfl
  (fun i x hx => h0 _ ((ybe.mp hP.perm).mem_iff.mp (by
   have hi':i < (arrOf st).size:=by
    rcases ybO i (arrOf st).size with h1 | h1
    ·exact h1
    ·rw [getElem?_neg (arrOf st) i (1:)] at hx; cases hx
   rw [getElem?_pos (arrOf st) i hi'] at hx;rw [<- Option.some.inj hx]; simp))) (1:) (1:) (1:) u1 u2
  (Q:=Q) (λ st' p1 p2 p3 p4 p5 p6=>h st' ⟨p4.trans hP.perm,p3,p2,?_⟩ ?_ (λ j hj=>p5 j (.inr (1:))))
 ·rw [show sa + na - sa=na by omega,show sa + na + nb - (sa + na)=nb by omega] at tw;exact tw
 ·rw [p1];show Runs (arrOf st') 0 (((pendingOf st).setIfInBounds i (sa,na + nb,p)).eraseIdxIfInBounds (i + 1)).toList hi;rw [el];refine Runs.append.mpr ⟨sa,R1.congr λ j _ g2=>p5 j (.inl g2),rfl,by omega,λ j k g1 g2 g3=>p6 j k g1 g2 (1:),?_⟩;rw [show sa + (na + nb)=sa + na + nb by omega];exact R3.congr λ j g1 _=>p5 j (.inr g1)
 ·rw [p1];show (((pendingOf st).setIfInBounds i (sa,na + nb,p)).eraseIdxIfInBounds (i + 1)).size + 1=_;rw [<- yaE,el];have hl:(pendingOf st).toList.length=(pendingOf st).size:=yaE;simp only [yaf,yaX,ybi,List.length_drop];omega
def Runs.pow {xs:Array Keyed}:∀ {l l':List (Nat × Nat × Nat)} {s e:Nat},Runs xs s l e -> l'.map (λ x=>(x.1,x.2.1))=l.map (λ x=>(x.1,x.2.1)) -> Runs xs s l' e
 | [],[],s,e,h,_=>h
 | [],_ :: _,s,e,h,q=>by simp at q
 | _ :: _,[],s,e,h,q=>by simp at q
 | (a,n,p) :: t,(a',n',p') :: t',s,e,⟨h1,h2,h3,h4⟩,q=>by
  simp only [yaI,List.cons.injEq,Prod.mk.injEq] at q;obtain ⟨⟨q1,q2⟩,q3⟩:=q;subst q1 q2;exact ⟨h1,h2,h3,h4.pow q3⟩
def ziz {hi pw:Nat} {f:Nat -> Int} {Q:ForInStep (Option Unit × Unit) -> SortSt -> Prop} (h0:AllG a₀) (hP:PI a₀ hi st) (hf:∀ j,hi <= j -> Kk (arrOf st) j=f j) (hhi:hi <= a₀.size)
  (hd:∀ st',PI a₀ hi st' -> (∀ j,hi <= j -> Kk (arrOf st') j=f j) -> Q (.done (none,())) st') (hy:∀ st',PI a₀ hi st' -> (∀ j,hi <= j -> Kk (arrOf st') j=f j) -> Q (.yield (none,())) st'):wpS (model prog w) A E s (Srt.olderOnes pw) Q st:=by
 unfold Srt.olderOnes;refine wpS_bind (wpS_get ?_);by_cases c:(pendingOf st).size > 1
 ·rw [if_pos c];have e1 : (pendingOf st)[(pendingOf st).size - 2]? = some (pendingOf st)[(pendingOf st).size - 2] := getElem?_pos _ _ (1:);rw [e1];generalize (pendingOf st)[(pendingOf st).size - 2] = x;obtain ⟨x1, x2, x3⟩ := x;dsimp only;by_cases c2 : x3 <= pw
  ·rw [if_pos c2]; exact wpS_pure (hd st hP hf)
  ·rw [if_neg c2];refine wpS_bind (zea h0 hP hhi (1:) λ st' hP' _ hk'=>?_);simp only [yb7,yar,if_false];exact wpS_pure (hy st' hP' λ j hj=>(hk' j hj).trans (hf j hj))
 ·rw [if_neg c]; exact wpS_pure (hd st hP hf)
def PI.push {st:SortSt} {lo n:Nat} {l:List (Nat × Nat × Nat)} (hP:PI a₀ lo st) (hn:1 <= n) (hu:UpQ lo (arrOf st) n) {p:Array (Nat × Nat × Nat)} (hp:p.toList=l ++ [(lo,n,0)]) (hl:l.map (λ x=>(x.1,x.2.1))=(pendingOf st).toList.map (λ x=>(x.1,x.2.1))):PI a₀ (lo + n) (setPending st p):=by
 refine ⟨hP.perm,hP.kind,hP.failed,?_⟩;show Runs (arrOf st) 0 p.toList (lo + n);rw [hp];refine Runs.append.mpr ⟨lo,hP.runs.pow hl,rfl,hn,λ i j g1 g2 g3=>?_,rfl⟩;have:=hu (i - lo) (j - lo) (1:) (1:)
 rwa [show lo + (i - lo)=i by omega,show lo + (j - lo)=j by omega] at this
def zeK {sz lo n:Nat} {Q:ForInStep (Option Unit × Nat) -> SortSt -> Prop} (h0:AllG a₀) (hP:PI a₀ lo st) (hlo:lo + n <= a₀.size) (hn:1 <= n) (hu:UpQ lo (arrOf st) n)
  (h:∀ st',PI a₀ (lo + n) st' -> Q (.yield (none,lo + n)) st'):wpS (model prog w) A E s (Srt.noted sz lo n) Q st:=by
 unfold Srt.noted;refine wpS_bind (wpS_get ?_);cases hb:(pendingOf st).back? with
 | none=>
  dsimp only;exact wpS_bind (wpS_modify (wpS_pure (h _ (hP.push hn hu (l:=(pendingOf st).toList) (5:) rfl))))
 | some x=>
  obtain ⟨x1,x2,x3⟩:=x;dsimp only;generalize power' sz (2 * x1 + x2) (2 * x1 + x2 + x2 + n) sz=pw;refine wpS_bind (wpS_mono (wpS_forRange (I:=λ _ c st'=>c=(none,()) /\ PI a₀ lo st' /\ ∀ j,lo <= j -> Kk (arrOf st') j=Kk (arrOf st) j) (Q:=λ c st'=>c=(none,()) /\ PI a₀ lo st' /\ ∀ j,lo <= j -> Kk (arrOf st') j=Kk (arrOf st) j) ?_ (λ _ _ hh=>hh) ⟨rfl,hP,λ _ _=>rfl⟩) ?_)
  ·rintro x c st' _ _ ⟨rfl,hP',hk'⟩;exact ziz h0 hP' hk' (1:) (λ st2 h1 h2=>⟨rfl,h1,h2⟩) λ st2 h1 h2=>⟨rfl,h1,h2⟩
  ·rintro c st' ⟨rfl, hP', hk'⟩;dsimp only;refine wpS_bind (wpS_modify (wpS_bind (wpS_modify (wpS_pure (h _ ?_)))));refine hP'.push (p := ((pendingOf st').modify ((pendingOf st').size - 1) fun x => (x.1, x.2.1, pw)).push (lo, n, 0)) (l := ((pendingOf st').modify ((pendingOf st').size - 1) fun x => (x.1, x.2.1, pw)).toList) hn (fun i j g1 g2 => ?_) (5:) ?_
   ·rw [hk' _ (1:),hk' _ (1:)]; exact hu i j g1 g2
   ·rw [Array.toList_modify];apply ybo;intro i;rw [yai, yai, List.getElem?_modify];cases (pendingOf st').toList[i]? with
    | none=>rfl
    | some y=>
     by_cases c:(pendingOf st').size - 1=i <;> simp [c]
def zfh {Q:Unit -> SortSt -> Prop} (h0:AllG a₀) (hp:(arrOf st).Perm a₀) (hk:kindOf st=KeyC.kd) (hf:failedOf st=none) (he:pendingOf st=#[])
  (h:∀ st',(arrOf st').Perm a₀ -> failedOf st'=none -> zbC (arrOf st') a₀.size -> Q () st'):wpS (model prog w) A E s sortRuns' Q st:=by
 rw [Srt.sortRuns_parts];refine wpS_bind (wpS_get ?_);have hs:(arrOf st).size=a₀.size:=hp.size_eq;simp only [hs];generalize minRun' a₀.size a₀.size 0=mr
 refine wpS_bind (wpS_mono (wpS_forRange
  (I:=λ x c st'=>∃ lo,c=(none,lo) /\ x <= lo /\ lo <= a₀.size /\ PI a₀ lo st')
  (Q:=λ c st'=>c=(none,a₀.size) /\ PI a₀ a₀.size st') ?step ?fin ⟨0,rfl,yag _,yaQ _,⟨hp,hk,hf,by rw [he]; rfl⟩⟩) ?post)
 case fin=>
  rintro c st' ⟨lo,rfl,g1,g2,hP⟩;have:lo=a₀.size:=by omega
  subst this;exact ⟨rfl,hP⟩
 case step=>
  rintro x c st' _ hx ⟨lo,rfl,g1,g2,hP⟩;dsimp only;unfold Srt.runStep;by_cases c:lo >= a₀.size
  ·rw [if_pos c];have : lo = a₀.size := by omega
   subst this;exact wpS_pure ⟨rfl,hP⟩
  ·rw [if_neg c];have hB : SBQ a₀ lo (pendingOf st') (Kk (arrOf st')) st' := ⟨hP.perm, hP.kind, hP.failed, rfl, fun i _ => rfl⟩
   have back:∀ st2,SBQ a₀ lo (pendingOf st') (Kk (arrOf st')) st2 -> PI a₀ lo st2:=λ st2 q=>⟨q.perm,q.kind,q.failed,by rw [q.pend]; exact hP.runs.congr λ i _ g=>q.low i g⟩
   refine wpS_bind (zez h0 (1:) (1:) hB λ m st2 hB2 hm1 hm2 hs2=>?_);dsimp only;by_cases hlt:m < mr
   ·rw [if_pos hlt];refine wpS_bind (wpS_lift (wpAny_rule ⟨rfl,?_⟩));refine wpS_bind (zdN h0 (1:) (1:) hB2 hs2 λ st3 hB3 hs3=>?_);simp only [yb7,yar,if_false];exact zeK h0 (back st3 hB3) (1:) (1:) hs3 λ st4 hP4=>⟨_,rfl,by omega,by omega,hP4⟩
   ·rw [if_neg hlt];exact zeK h0 (back st2 hB2) (1:) hm1 hs2 λ st4 hP4=>⟨_,rfl,by omega,by omega,hP4⟩
 case post=>
  rintro c st' ⟨rfl,hP⟩;dsimp only
  refine wpS_bind (wpS_mono (wpS_forRange (I:=λ x c st''=>c=(none,()) /\ PI a₀ a₀.size st'' /\ ((pendingOf st'').size <= 1 \/ (pendingOf st'').size + x <= a₀.size))
   (Q:=λ c st''=>c=(none,()) /\ PI a₀ a₀.size st'' /\ (pendingOf st'').size <= 1) ?step2 ?fin2 ⟨rfl,hP,.inr (by have:=hP.runs.le; simpa using this)⟩) ?post2)
  case fin2=>
   rintro c st'' ⟨hc,hP',hz⟩;exact ⟨hc,hP',by omega⟩
  case step2=>
   rintro x c st'' _ hx ⟨rfl,hP',hz⟩;unfold Srt.lastStep;refine wpS_bind (wpS_get ?_);by_cases c:(pendingOf st'').size <= 1
   ·rw [if_pos c]; exact wpS_pure ⟨rfl,hP',c⟩
   ·rw [if_neg c]
    have hw:Srt.whichTwo (pendingOf st'') + 1 < (pendingOf st'').size:=by
     unfold Srt.whichTwo
     repeat' split
     all_goals omega
    refine wpS_bind (zea h0 hP' (yag _) hw λ st3 hP3 hz3 _=>?_);simp only [yb7,yar,if_false];exact wpS_pure ⟨rfl,hP3,.inr (1:)⟩
  case post2=>
   rintro c st'' ⟨rfl,hP',hz⟩;refine wpS_pure (h _ hP'.perm hP'.failed ?_);have R:=hP'.runs;have hl:(pendingOf st'').toList.length <= 1:=by simpa using hz
   match hm:(pendingOf st'').toList,R,hl with
   | [],R,_=>
    have:0=a₀.size:=R;intro i j _ hj; omega
   | [(a,n,p)],R,_=>
    obtain ⟨h1,h2,h3,h4⟩:=R;have h4:0 + n=a₀.size:=h4;intro i j g1 g2;exact h3 i j (yaQ _) g1 (1:)
   | _ :: _ :: _,_,hl=>simp at hl
end
end Srk
namespace Srk
open PySem PyProof.Rows
noncomputable abbrev za0 (h:Heap) (a:Addr) (vs:List Value):Heap:=((h.update a (Obj.mapSeq λ _=>#[])).push (seqObj "tuple" vs.toArray 0)).push (seqObj "list" #[] 0)
section
variable {prog:Program} {w:World} {A:Around} {E:Value -> Shared -> Prop} {s:Shared}
def zeH [C:KeyC] {a:Addr} {vs:List Value} {n:Nat} {P:Fin -> Shared -> Prop} (ho:s.heap.get? a=some (seqObj "list" vs.toArray n)) (hz:vs.length <= sizeLine)
  [hL:LtC prog w A E { s with heap:=za0 s.heap a vs }] (hG:AllG (pairsOf vs)) (hkk:2 <= vs.length -> wpAny (model prog w) A (keyKind' vs.toArray) (λ κ s'=>s'={ s with heap:=za0 s.heap a vs } /\ κ=C.kd) E { s with heap:=za0 s.heap a vs })
  (h:∀ xs:Array Keyed,xs.Perm (pairsOf vs) -> zbC xs (pairsOf vs).size -> P (.done (.ret .none)) { s with heap:=sortedHeap s.heap a vs (xs.map (·.2)) }) :
  wpAny (model prog w) A (Builtin.«list.sort» ⟨[.ref a],[]⟩) P E s:=by
 rw [list_sort_plain];have ha:a < s.heap.objs.size:=yad ho;refine wpAny_bind (listItems_at ho rfl ?_);refine wpAny_bind (listUpdate_at ho rfl ?_ (by rw [yak]; omega) (yaQ _));obtain ⟨e1,ho1⟩:∃ e1,(s.heap.update a (Obj.mapSeq λ _=>#[])).get? a=some (seqObj "list" #[] e1):=⟨_,get?_update_seq ho (λ _=>#[])⟩
 refine wpAny_bind (seqEpoch_at ho1 rfl ?_);refine wpAny_bind (wpAny_newTuple ?_ (by show vs.length <= _; omega));refine wpAny_bind (wpAny_newList ?_);refine wpAny_holding ?_
 have ho6:(za0 s.heap a vs).get? a=some (seqObj "list" #[] e1):=by
  rw [ybC _ _ _ (by rw [size_push',ybk]; exact yau (ybn ha)),ybC _ _ _ (by rw [ybk]; exact yau ha)];exact ho1
 show wpAny (model prog w) A _ P E { s with heap:=za0 s.heap a vs };dsimp only;have hsz:vs.toArray.size=vs.length:=by simp
 by_cases h2:vs.toArray.size < 2
 ·rw [if_pos h2, if_pos h2];refine wpAny_bind (wpAny_pure ?_);rw [StateT.run_pure];refine wpAny_bind (wpAny_pure ?_);dsimp only;refine wpAny_bind (seqEpoch_at ho6 rfl ?_);refine wpAny_bind (listUpdate_at ho6 rfl ?_ (hsz2 := by rw [Array.size_map]; show (pairsOf vs).size <= _; rw [pairsOf_size]; omega));simp only [bne_self_eq_false, yar, if_false];refine wpAny_pure (h (vs.toArray.zip vs.toArray) (Array.Perm.refl _) ?_);intro i j hij hj;have : i = j := by rw [pairsOf_size] at hj; omega
  subst this; exact ybj _
 ·rw [if_neg h2, if_neg h2];refine wpAny_bind (wpAny_mono (hkk (1:)) ?_ fun _ _ e => e);rintro κ s' ⟨rfl, rfl⟩
  refine wpAny_bind (wpAny_mono (zfh (prog:=prog) (w:=w) (A:=A) (E:=E) (a₀:=pairsOf vs) (st:=SortSt.mk' C.kd (vs.toArray.zip vs.toArray) #[] 7 none)
   (Q:=λ _ st'=>(arrOf st').Perm (pairsOf vs) /\ failedOf st'=none /\ zbC (arrOf st') (pairsOf vs).size)
   hG (Array.Perm.refl _) rfl rfl rfl λ st' a1 a2 a3=>⟨a1,a2,a3⟩) ?_ λ _ _ e=>e)
  rintro ⟨⟨⟩,st'⟩ s' ⟨rfl,hp,hf,hs⟩;dsimp only;have hz':((arrOf st').map (·.2)).size=vs.length:=by rw [Array.size_map,hp.size_eq,pairsOf_size]
  refine wpAny_bind (seqEpoch_at ho6 rfl (wpAny_bind (listUpdate_at ho6 rfl ?_ (hsz2:=by show ((arrOf st').map (·.2)).size <= _; rw [hz']; omega))));rw [hf];simp only [bne_self_eq_false,yar,if_false];exact wpAny_pure (h _ hp hs)
end
noncomputable def codeZ:List Int -> Int
 | []=>0
 | x :: t=>(x + 2) * 66 ^ t.length + codeZ t
noncomputable def InB (ls:List Int):Prop:=∀ e ∈ ls,-2 <= e /\ e < 64
def zc1:∀ {ls:List Int},InB ls -> 0 <= codeZ ls /\ codeZ ls < 66 ^ ls.length
 | [],_=>⟨ybj _,by simp [codeZ]⟩
 | x :: t,h=>by
  have ht:=zc1 (ls:=t) λ e he=>h e (yan _ he);have hx:=h x (yay ..);have hp:(0:Int) < 66 ^ t.length:=Int.pow_pos (3:);have hm:(x + 2) * 66 ^ t.length <= 65 * 66 ^ t.length:=yaZ (1:) (ya8 hp);have hm0:0 <= (x + 2) * 66 ^ t.length:=Int.mul_nonneg (1:) (ya8 hp);simp only [codeZ,ybi,Int.pow_succ];omega
def zcz {x y:Int} {t u:List Int} (hl:t.length=u.length) (ht:InB t) (hu:InB u):codeZ (x :: t) < codeZ (y :: u) ↔ x < y \/ (x=y /\ codeZ t < codeZ u):=by
 have a:=zc1 ht;have b:=zc1 hu;simp only [codeZ];rw [hl] at a ⊢;have hp:(0:Int) < 66 ^ u.length:=Int.pow_pos (3:);generalize (66:Int) ^ u.length=p at *;rcases Int.lt_trichotomy x y with c | c | c
 ·have:(x + 2) * p + p <= (y + 2) * p:=by
   have:=yaZ (show x + 2 + 1 <= y + 2 by omega) (ya8 hp)
   rwa [Int.add_mul (x + 2) 1 p,ybX] at this
  exact ⟨λ _=>.inl c,λ _=>by omega⟩
 ·subst c;exact ⟨λ h=>.inr ⟨rfl,by omega⟩,λ h=>by rcases h with h | h <;> omega⟩
 ·have:(y + 2) * p + p <= (x + 2) * p:=by
   have:=yaZ (show y + 2 + 1 <= x + 2 by omega) (ya8 hp)
   rwa [Int.add_mul (y + 2) 1 p,ybX] at this
  exact ⟨λ h=>by omega,λ h=>by omega⟩
noncomputable def TupAt (h:Heap) (wd:Nat) (b:Addr) (ls:List Int):Prop:=∃ o xs n,h.get? b=some o /\ o.cls=.type "tuple" /\ o.data=.seq xs n /\ IntsAre xs.toList ls /\ ls.length=wd /\ InB ls
noncomputable def codeAt (h:Heap) (v:Value):Int:=match v with
 | .ref b=>match h.get? b with
  | some o=>match o.data with
   | .seq xs _=>codeZ (xs.toList.map numOf)
   | _=>0
  | none=>0
 | _=>0
def code_at {h:Heap} {wd:Nat} {b:Addr} {ls:List Int} (x:TupAt h wd b ls):codeAt h (.ref b)=codeZ ls:=by
 obtain ⟨o,xs,n,h1,h2,h3,h4,_⟩:=x;unfold codeAt;simp only [h1,h3,h4.nums]
def TupAt.keep {h h':Heap} {wd:Nat} {b:Addr} {ls:List Int} (x:TupAt h wd b ls) (k:∀ o,h.get? b=some o -> h'.get? b=some o):TupAt h' wd b ls:=
 let ⟨o,xs,n,h1,r⟩:=x; ⟨o,xs,n,k o h1,r⟩
noncomputable abbrev keyT (h:Heap) (wd:Nat):KeyC:=⟨λ x=>codeAt h x.1,λ x=>∃ b ls,x.1=.ref b /\ TupAt h wd b ls,tuples' true⟩
section
variable {prog:Program} {w:World} {A:Around} {E:Value -> Shared -> Prop} {s:Shared}
def zfu {a b:Int} {t u:Tok} {Q:Bool -> Shared -> Prop} (h:Q (decide (a < b)) s):wpAny (model prog w) A (oneLt' false (.int a t) (.int b u)) Q E s:=by
 rw [oneLt'_eq];simp only [yar,if_false];exact wpAny_bind (richCompare_gives (op:=.Lt) (typeIs_int s _ t) (typeIs_int s _ u) F.slot_int_lt F.entry_int_lt (F.args_int_lt_2 _ _) (gives_int_lt _ _ t u) (λ x=>nomatch x) (wpAny_truthy_bool h))
def zhO {Q:Bool -> Shared -> Prop}:∀ {xs ys:List Value} {ls ms:List Int} (i:Nat),IntsAre xs ls -> IntsAre ys ms -> ls.length=ms.length -> InB ls -> InB ms -> Q (decide (codeZ ls < codeZ ms)) s -> PySem.W.KatLex prog w A true false Q (xs.zip ys) i s
 | _,_,_,_,i,.nil,.nil,_,_,_,h=>by
  refine PySem.W.kat_nil ?_;have e:decide (codeZ [] < codeZ [])=false:=by decide
  rwa [e] at h
 | _,_,_,_,i,.cons (ns:=ls) a t h1,.cons (ns:=ms) b u h2,hl,ha,hb,h=>by
  have hl':ls.length=ms.length:=by simpa using hl
  have ha':InB ls:=λ e he=>ha e (yan _ he);have hb':InB ms:=λ e he=>hb e (yan _ he);have st:=zcz (x:=a) (y:=b) hl' ha' hb';rw [List.zip_cons_cons];refine PySem.W.kat_cons (wpAny_eqBool_int ?_);by_cases c:a=b
  ·subst c;rw [show (a == a) = true by simp];refine PySem.W.kat_yes (zhO (i + 1) h1 h2 hl' ha' hb' ?_)
   have e:decide (codeZ (a :: ls) < codeZ (a :: ms))=decide (codeZ ls < codeZ ms):=by
    rw [decide_eq_decide,st]; exact ⟨λ z=>by rcases z with z | z; exact absurd z (Int.lt_irrefl _); exact z.2,λ z=>.inr ⟨rfl,z⟩⟩
   rwa [e] at h
  ·rw [show (a == b) = false by simpa using c];refine PySem.W.kat_no ?_
   have e:decide (codeZ (a :: ls) < codeZ (b :: ms))=decide (a < b):=by
    rw [decide_eq_decide,st]; exact ⟨λ z=>by rcases z with z | z; exact z; exact absurd z.1 c,λ z=>.inl z⟩
   rw [e] at h;cases (i == 0) with
   | true=>exact oneLt_int h
   | false=>exact zfu h
def ltT (wd:Nat):@LtC (keyT s.heap wd) prog w A E s:=by
 letI:=keyT s.heap wd
 refine ⟨λ {st x y Q} hk hx hy h=>?_⟩;obtain ⟨b,ls,e1,t1⟩:=hx;obtain ⟨c,ms,e2,t2⟩:=hy;have k1:KeyC.κ x=codeZ ls:=by show codeAt s.heap x.1=_; rw [e1]; exact code_at t1
 have k2:KeyC.κ y=codeZ ms:=by show codeAt s.heap y.1=_; rw [e2]; exact code_at t2
 rw [k1,k2] at h;obtain ⟨o,xs,n,g1,g2,g3,g4,g5,g6⟩:=t1;obtain ⟨o',xs',n',q1,q2,q3,q4,q5,q6⟩:=t2;rw [lt'_eq];refine wpS_bind (wpS_get ?_);rw [hk,e1,e2]
 have hz:decide (xs.size < xs'.size)=false:=by
  have a1:=ych g4;have a2:=ych q4;simp only [yaE] at a1 a2;simp; omega
 refine wpS_bind (wpS_lift (wpAny_attempt (PySem.W.kat_lt g1 g3 q1 q3 ?_)));rw [hz];exact zhO 0 g4 q4 (1:) g6 q6 ⟨rfl,wpS_pure h⟩
end
end Srk
namespace Srk
open PySem PyProof.Rows Srt
def ziP {h:Heap} {wd:Nat} (hw:1 <= wd):∀ {as:List Addr},(∀ b ∈ as,∃ ls,TupAt h wd b ls) -> ∃ fs:List Value,fs.length=as.length /\ PySem.W.KatTups h (as.map Value.ref) fs /\ ∀ v ∈ fs,∃ n t,v=.int n t
 | [],_=>⟨[],rfl,PySem.W.KatTups.nil,λ _ h=>nomatch h⟩
 | b :: as,hA=>by
  obtain ⟨fs,h1,h2,h3⟩:=ziP hw λ c hc=>hA c (yan _ hc);obtain ⟨ls,o,xs,n,g1,g2,g3,g4,g5,g6⟩:=hA b (yay ..);have hl:=ych g4;simp only [yaE] at hl;have h0:xs[0]?=some xs[0]:=getElem?_pos xs 0 (1:);refine ⟨xs[0] :: fs,by simp [h1],PySem.W.KatTups.cons g1 g2 g3 h0 h2,λ v hv=>?_⟩;rcases yal.mp hv with rfl | hv
  ·exact g4.all _ (5:)
  ·exact h3 v hv
def zkb {h:Heap} {as:List Addr} {xs:Array Keyed} (hp:xs.Perm (pairsOf (as.map Value.ref))) (hs:@zbC (keyT h wd) xs (pairsOf (as.map Value.ref)).size) :
  ∃ as':List Addr,as'.Perm as /\ (xs.map (·.2))=(as'.map Value.ref).toArray /\ as'.Pairwise λ b c=>codeAt h (.ref b) <= codeAt h (.ref c):=by
 letI:=keyT h wd
 have hl:xs.toList.Perm ((as.map Value.ref).zip (as.map Value.ref)):=by rw [<- pairsOf_toList]; exact ybe.mp hp
 let un:Keyed -> Addr:=λ p=>match p.1 with | .ref b=>b | _=>0
 have hmem:∀ p,p ∈ xs.toList -> p.1=.ref (un p) /\ p.2=.ref (un p):=λ p hp'=>by
  obtain ⟨e1,e2⟩:=mem_zip_self (hl.mem_iff.mp hp');obtain ⟨b,_,eb⟩:=yap.mp e2;have:un p=b:=by show (match p.1 with | .ref b=>b | _=>0)=b; rw [<- eb]
  rw [this,<- e1,eb]; exact ⟨rfl,rfl⟩
 refine ⟨xs.toList.map un,?_,?_,?_⟩
 ·have h1 := hl.map un
  have e2:((as.map Value.ref).zip (as.map Value.ref)).map un=as:=by
   rw [List.zip_map',ya7]
   conv=>rhs; rw [<- List.map_id as]
   exact ybs λ b _=>rfl
  rwa [e2] at h1
 ·apply Array.toList_inj.mp;rw [Array.toList_map,ya7];exact ybs λ p hp'=>(hmem p hp').2
 ·rw [ybp,yaT];intro i j hi hj hij;have h1:=hs i j (yaC hij) (by rw [<- hp.size_eq]; simpa using hj);rw [zh9 (57:),zh9 (by simpa using hj)] at h1;have e1:=(hmem xs.toList[i] (ybc hi)).1;have e2:=(hmem xs.toList[j] (ybc hj)).1;rw [<- e1,<- e2];have h2:codeAt h xs[i].1 <= codeAt h xs[j].1:=h1;simpa using h2
section
variable {prog:Program} {w:World} {A:Around} {E:Value -> Shared -> Prop} {s:Shared} {wd:Nat} {as:List Addr}
def zjm {a:Addr} {n:Nat} {P:Fin -> Shared -> Prop} (hw:1 <= wd) (ho:s.heap.get? a=some (seqObj "list" (as.map Value.ref).toArray n)) (hz:as.length <= sizeLine) (hA:∀ b ∈ as,∃ ls,TupAt s.heap wd b ls)
  (h:∀ as':List Addr,as'.Perm as -> (as'.Pairwise λ b c=>codeAt s.heap (.ref b) <= codeAt s.heap (.ref c)) -> P (.done (.ret .none)) { s with heap:=sortedHeap s.heap a (as.map Value.ref) (as'.map Value.ref).toArray }) :
  wpAny (model prog w) A (Builtin.«list.sort» ⟨[.ref a],[]⟩) P E s:=by
 have ha:a < s.heap.objs.size:=yad ho
 have kp:∀ b,(∃ ls,TupAt s.heap wd b ls) -> ∀ o,s.heap.get? b=some o -> (za0 s.heap a (as.map Value.ref)).get? b=some o:=λ b ⟨ls,o,xs,n,g1,g2,_⟩ o' e=>by
  have hb:=yad e
  have hne:b ≠ a:=λ z=>by
   subst z;rw [ho] at g1;cases g1;exact absurd (show Value.type "list"=Value.type "tuple" from g2) (3:)
  rw [ybC _ _ _ (by rw [size_push',ybk]; exact yau (ybn hb)),ybC _ _ _ (by rw [ybk]; exact yau hb),yb0 _ _ _ _ hne];exact e
 have hA':∀ b ∈ as,∃ ls,TupAt (za0 s.heap a (as.map Value.ref)) wd b ls:=λ b hb=>by
  obtain ⟨ls,t⟩:=hA b hb;exact ⟨ls,t.keep (kp b ⟨ls,t⟩)⟩
 have sm:∀ b ∈ as,codeAt (za0 s.heap a (as.map Value.ref)) (.ref b)=codeAt s.heap (.ref b):=λ b hb=>by
  obtain ⟨ls,t⟩:=hA b hb;rw [code_at t,code_at (t.keep (kp b ⟨ls,t⟩))]
 refine zeH (C:=keyT (za0 s.heap a (as.map Value.ref)) wd) ho (29:) (hL:=ltT (s:={ s with heap:=za0 s.heap a (as.map Value.ref) }) wd) (λ p hp=>?_) (λ h2=>?_) λ xs hp hs=>?_
 ·rw [pairsOf_toList] at hp;obtain ⟨b,hb,e⟩:=yap.mp (mem_zip_self hp).2;obtain ⟨ls,t⟩:=hA' b hb;exact ⟨b,ls,e.symm,t⟩
 ·obtain ⟨fs,f1,f2,f3⟩:=ziP hw hA';refine PySem.W.kat_kind (T:=.type "int") f2 (by rw [f1]; simp at h2; omega) (λ v hv=>?_) (3:) ⟨rfl,rfl⟩;obtain ⟨m,t,rfl⟩:=f3 v hv;exact .now
 ·obtain ⟨as', a1, a2, a3⟩ := zkb hp hs;rw [a2];refine h as' a1 (a3.imp_of_mem fun {b c} hb hc z => ?_)
  rwa [sm b (a1.mem_iff.mp hb),sm c (a1.mem_iff.mp hc)] at z
def sorted_tail {p:Addr} {Q:Shared -> Prop} (hp:p=s.heap.objs.size) (hw:1 <= wd) (hz:as.length <= sizeLine) (hA:∀ b ∈ as,∃ ls,TupAt s.heap wd b ls)
  (h:∀ (h':Heap) (as':List Addr) (e:Nat),as'.Perm as -> (as'.Pairwise λ b c=>codeAt s.heap (.ref b) <= codeAt s.heap (.ref c)) -> h'.get? p=some (seqObj "list" (as'.map Value.ref).toArray e) -> (∀ c o,s.heap.get? c=some o -> h'.get? c=some o) -> Q { s with heap:=h' }) :
  wpAny (model prog w) A (Builtin.«list.sort» ⟨[.ref p],[]⟩) (λ f s'=>f=.done (.ret .none) /\ Q s') E { s with heap:=s.heap.push (seqObj "list" (as.map Value.ref).toArray 0) }:=by
 subst hp;have hoL:(s.heap.push (seqObj "list" (as.map Value.ref).toArray 0)).get? s.heap.objs.size=some (seqObj "list" (as.map Value.ref).toArray 0):=yae _ rfl;have kp:∀ b o,s.heap.get? b=some o -> (s.heap.push (seqObj "list" (as.map Value.ref).toArray 0)).get? b=some o:=λ b o e=>yab _ e
 have sm:∀ b ∈ as,codeAt (s.heap.push (seqObj "list" (as.map Value.ref).toArray 0)) (.ref b)=codeAt s.heap (.ref b):=λ b hb=>by
  obtain ⟨ls,t⟩:=hA b hb;rw [code_at t,code_at (t.keep (kp b))]
 refine zjm hw hoL hz (λ b hb=>let ⟨ls,t⟩:=hA b hb; ⟨ls,t.keep (kp b)⟩) λ as' a1 a2=>⟨rfl,?_⟩
 obtain ⟨e,he⟩:=sortedHeap_at (out:=(as'.map Value.ref).toArray) hoL;refine h _ as' e a1 (a2.imp_of_mem λ {b c} hb hc z=>?_) he λ c o z=>?_
 ·rwa [sm b (a1.mem_iff.mp hb),sm c (a1.mem_iff.mp hc)] at z
 ·have z2:=yad z;rw [sortedHeap_old (yau z2) (by rw [yba]; exact ybn z2)];exact kp c o z
def zdB {l:Addr} {o:Obj} {T:String} {n:Nat} {vs:List Value} {Q:List Value -> Shared -> Prop} (ho:s.heap.get? l=some o) (hc:o.cls=.type T) (hT:T="list" \/ T="tuple") (hd:o.data=.seq vs.toArray n) (hz:vs.length <= sizeLine)
  (h:Q vs { s with heap:=(s.heap.push (seqObj "list" #[] 0)).update s.heap.objs.size (Obj.mapSeq (· ++ vs.toArray)) }) :
  wpAny (model prog w) A (collect (.ref l)) Q E s:=by
 unfold collect;refine wpAny_bind (wpAny_runValue (codeAny_builtin entry_proto_collect' ?_));show wpAny _ _ (do again (.builtin "list.__iadd__" ⟨[<- newList [],.ref l],[]⟩)) _ _ s;refine wpAny_bind (wpAny_newList (wpAny_pure ⟨ycA _ (28:),codeAny_builtin entry_list_iadd' ?_⟩));show wpAny _ _ (Builtin.List.listExtendWith (.ref s.heap.objs.size) (.ref l) (.ref s.heap.objs.size)) _ _ { s with heap:=s.heap.push (seqObj "list" #[] 0) };unfold Builtin.List.listExtendWith;have ho':(s.heap.push (seqObj "list" #[] 0)).get? l=some o:=yab _ ho;refine wpAny_bind (wpAny_typeOf (T:=T) ⟨o,ho',hc⟩ ?_);have b1:(Value.type "list" == Value.type "list")=true:=rfl;have b2:(Value.type "tuple" == Value.type "tuple")=true:=rfl;rw [if_pos (by rcases hT with rfl | rfl <;> simp [b1,b2])];have hne:¬ ((!(#[]:Array Value).isEmpty && Builtin.List.listTooLong ((#[]:Array Value).size + vs.toArray.size))=true):=by simp
 refine wpAny_bind (listItems_at ho' hd (wpAny_bind (listItems_at (xs:=#[]) (n:=0) (yae _ rfl) rfl ?_)));rw [if_neg hne];refine wpAny_bind (listUpdate_at (xs:=#[]) (n:=0) (yae _ rfl) rfl (wpAny_pure ?_) (yaQ _) (by show (#[] ++ vs.toArray).size <= sizeLine + 1; simp only [Array.size_append,yak,List.length_nil]; omega))
 show wpAny (model prog w) A (do
   let o <- load s.heap.objs.size
   match o.data with
   | .seq xs _=>pure xs.toList
   | _=>unsupported "internal:collect") Q E { s with heap:=(s.heap.push (seqObj "list" #[] 0)).update s.heap.objs.size (Obj.mapSeq (· ++ vs.toArray)) }
 refine wpAny_bind (wpAny_load (get?_update_seq (yae _ rfl) _) ?_);have ev:((#[]:Array Value) ++ vs.toArray).toList=vs:=by simp
 show wpAny _ _ (pure ((#[]:Array Value) ++ vs.toArray).toList) Q E _;rw [ev];exact wpAny_pure h
def sorted_list {l:Addr} {o:Obj} {T:String} {n:Nat} {Q:Value -> Shared -> Prop} (ho:s.heap.get? l=some o) (hc:o.cls=.type T) (hT:T="list" \/ T="tuple") (hd:o.data=.seq (as.map Value.ref).toArray n) (hw:1 <= wd) (hz:as.length <= sizeLine) (hA:∀ b ∈ as,∃ ls,TupAt s.heap wd b ls)
  (h:∀ (h':Heap) (p:Addr) (as':List Addr) (e:Nat),s.heap.objs.size <= p -> as'.Perm as -> (as'.Pairwise λ b c=>codeAt s.heap (.ref b) <= codeAt s.heap (.ref c)) -> h'.get? p=some (seqObj "list" (as'.map Value.ref).toArray e) -> (∀ c o,s.heap.get? c=some o -> h'.get? c=some o) -> Q (.ref p) { s with heap:=h' }) :
  wpAny (model prog w) A (call (.builtin "sorted") [.ref l]) Q E s:=by
 refine ybV kind_sorted plain_sorted entry_sorted (args_sorted1 _) ?_;unfold Builtin.«sorted»;refine wpAny_bind (m:=checkCount "sorted" 1 1 _) (wpAny_pure (wpAny_bind (zdB ho hc hT hd (29:) (wpAny_bind (wpAny_newList ?_ (29:))))))
 have k0:∀ c o,s.heap.get? c=some o -> ((s.heap.push (seqObj "list" #[] 0)).update s.heap.objs.size (Obj.mapSeq (· ++ (as.map Value.ref).toArray))).get? c=some o:=λ c o z=>by
  have z2:=yad z;rw [yb0 _ _ _ _ (yau z2)];exact yab _ z
 have sm:∀ b ∈ as,codeAt ((s.heap.push (seqObj "list" #[] 0)).update s.heap.objs.size (Obj.mapSeq (· ++ (as.map Value.ref).toArray))) (.ref b)=codeAt s.heap (.ref b):=λ b hb=>by
  obtain ⟨ls,t⟩:=hA b hb;rw [code_at t,code_at (t.keep (k0 b))]
 have hsz:((s.heap.push (seqObj "list" #[] 0)).update s.heap.objs.size (Obj.mapSeq (· ++ (as.map Value.ref).toArray))).objs.size=s.heap.objs.size + 1:=by
  rw [ybk,size_push']
 refine wpAny_bind (wpAny_holding (wpAny_call_entry slot_list_sort ⟨_,yae _ rfl,rfl⟩ entry_list_sort (wpAny_mono (sorted_tail (s:={ s with heap:=(s.heap.push (seqObj "list" #[] 0)).update s.heap.objs.size (Obj.mapSeq (· ++ (as.map Value.ref).toArray)) }) rfl hw hz (λ b hb=>let ⟨ls,t⟩:=hA b hb; ⟨ls,t.keep (k0 b)⟩) (λ h' as' e a1 a2 a3 a4=>h h' _ as' e (by dsimp only; rw [hsz]; exact Nat.le_succ _) a1 (a2.imp_of_mem λ {b c} hb hc z=>by rwa [sm b (a1.mem_iff.mp hb),sm c (a1.mem_iff.mp hc)] at z) a3 λ c o z=>a4 c o (k0 c o z))) (λ f s' z=>by
  obtain ⟨rfl,q⟩:=z;exact ⟨_,rfl,wpAny_pure ⟨_,rfl,q⟩⟩) λ _ _ e=>e) (args_list_sort _)))
end
end Srk
namespace Dit
open PySem PyProof.Rows
section
variable {prog:Program} {w:World} {A:Around} {E:Value -> Shared -> Prop} {s:Shared} {it d v:Addr} {i ep:Nat} {es:Array DictEntry} {od:Obj}
def zj1 {Q:Option Value -> Shared -> Prop} (hit:s.heap.IsValIter it d i es.size ep) (hod:s.heap.get? d=some od) (hdd:od.data=.dict es ep) (hlt':i < es.size)
  (hQ:∀ h',h'.IsValIter it d (i + 1) es.size ep -> Heap.SameBut it s.heap h' -> Q (some es[i].val) { s with heap:=h' }) :
  wpAny (model prog w) A (pyNext (.ref it)) Q E s:=by
 obtain ⟨o,ho,hc,hd⟩:=id hit;unfold pyNext
 refine wpAny_bind (wpAny_attempt (wpAny_callSpecial?_slot (name:=Str.ofString "__next__") hit.typeIs ya0
  (wpAny_call_entry ya0 hit.typeIs F.entry_dict_valueiterator_next ?_ (F.args_dict_valueiterator_next_1 _))))
 refine wpAny_bind (wpAny_pure ?_);refine wpAny_bind ?_;refine wpAny_bind ?_
 first | refine wpAny_bind (wpAny_typeNameOfWhole_valiter hit.typeIs (wpAny_pure ?_)) | refine wpAny_bind (wpAny_typeNameOf_valiter hit.typeIs (wpAny_pure ?_))
 refine wpAny_bind (wpAny_fieldsOf ho hd ?_);have hown:Builtin.Dict_items.ownsTuple "dict_valueiterator"=false:=by decide
 simp only [hown,yar,if_false];show wpAny _ _ (if (Value.ref d == Value.none)=true then _ else _) _ _ s;rw [if_neg (show ¬ ((Value.ref d == Value.none)=true) from yaq)];refine wpAny_bind (wpAny_pure ?_);refine wpAny_bind (wpAny_dictEntries hod hdd ?_);rw [if_neg (5:)];refine wpAny_bind (wpAny_pure ?_);refine wpAny_bind (wpAny_dictEpoch hod hdd ?_);rw [if_neg (5:)];refine wpAny_pure ?_;simp only [show ¬ ((i:Int) < 0) from by omega,if_false,yao,ybT hlt'];refine wpAny_bind ?_
 first | refine wpAny_bind (wpAny_typeNameOfWhole_valiter hit.typeIs (wpAny_pure ?_)) | refine wpAny_bind (wpAny_typeNameOf_valiter hit.typeIs (wpAny_pure ?_))
 refine wpAny_bind (wpAny_isOneOf_valiter hit.typeIs ?_);show wpAny _ _ (setField (.ref it) 1 (rawInt ((i:Int) + 1)) >>= _) _ _ s;refine wpAny_bind (wpAny_setField ho hd (5:) ?_)
 have hit':(s.heap.update it (Obj.mapFields (·.setIfInBounds 1 (rawInt ((i:Int) + 1))))).IsValIter it d (i + 1) es.size ep:=
  ⟨_,ybJ _ ho (ycj (ybx hd _)),(Obj.cls_mapFields ..).trans hc,by rw [ybx hd]; simp [rawInt]⟩
 refine wpAny_bind (wpAny_holding ?_);refine wpAny_bind (wpAny_isOneOf_valiter (s:={ s with heap:=s.heap.update it (Obj.mapFields (·.setIfInBounds 1 (rawInt ((i:Int) + 1)))) }) hit'.typeIs ?_);refine wpAny_bind (wpAny_isOneOf_valiter (s:={ s with heap:=s.heap.update it (Obj.mapFields (·.setIfInBounds 1 (rawInt ((i:Int) + 1)))) }) hit'.typeIs ?_);show wpAny _ _ (pure es[i].val) _ _ _;exact wpAny_pure (wpAny_pure ⟨_,rfl,wpAny_pure (hQ _ hit' (ybr ..))⟩)
def zlz {Q:Option Value -> Shared -> Prop} (hh:A.handled=none) (hit:s.heap.IsValIter it d i es.size ep) (hod:s.heap.get? d=some od) (hdd:od.data=.dict es ep) (hge:es.size <= i)
  (hQ:∀ h',Heap.ExtBut it s.heap h' -> Q none { s with heap:=h' }):wpAny (model prog w) A (pyNext (.ref it)) Q E s:=by
 obtain ⟨o,ho,hc,hd⟩:=id hit;unfold pyNext
 refine wpAny_bind (wpAny_attempt (wpAny_callSpecial?_slot (name:=Str.ofString "__next__") hit.typeIs ya0
  (wpAny_call_entry ya0 hit.typeIs F.entry_dict_valueiterator_next ?_ (F.args_dict_valueiterator_next_1 _))))
 refine wpAny_bind (wpAny_pure ?_);refine wpAny_bind ?_;refine wpAny_bind ?_
 first | refine wpAny_bind (wpAny_typeNameOfWhole_valiter hit.typeIs (wpAny_pure ?_)) | refine wpAny_bind (wpAny_typeNameOf_valiter hit.typeIs (wpAny_pure ?_))
 refine wpAny_bind (wpAny_fieldsOf ho hd ?_);have hown:Builtin.Dict_items.ownsTuple "dict_valueiterator"=false:=by decide
 simp only [hown,yar,if_false];show wpAny _ _ (if (Value.ref d == Value.none)=true then _ else _) _ _ s;rw [if_neg (show ¬ ((Value.ref d == Value.none)=true) from yaq)];refine wpAny_bind (wpAny_pure ?_);refine wpAny_bind (wpAny_dictEntries hod hdd ?_);rw [if_neg (5:)];refine wpAny_bind (wpAny_pure ?_);refine wpAny_bind (wpAny_dictEpoch hod hdd ?_);rw [if_neg (5:)];refine wpAny_pure ?_;simp only [show ¬ ((i:Int) < 0) from by omega,if_false,yao,Array.getElem?_eq_none hge];refine wpAny_bind ?_
 first | refine wpAny_bind (wpAny_typeNameOfWhole_valiter hit.typeIs (wpAny_pure ?_)) | refine wpAny_bind (wpAny_typeNameOf_valiter hit.typeIs (wpAny_pure ?_))
 show wpAny _ _ (setField (.ref it) 0 .none >>= _) _ _ s;refine wpAny_bind (wpAny_setField ho hd (5:) ?_);show wpAny _ _ (newExc (.type "StopIteration") [] >>= _) _ _ _;refine wpAny_bind ?_;simp only [newExc,newTuple];refine wpAny_bind (wpAny_newObj_type ?_ (by size_fits));refine wpAny_bind (m:=firstArgMember _ _) (wpAny_of_eq (a:=Value.none) (81:) ?_);refine wpAny_newObj_type ?_ (by size_fits);simp only [raiseNew];refine wpAny_bind (wpAny_handled ?_);rw [show A.in1.handled=none from hh];refine wpAny_bind (wpAny_pure (wpAny_throw ?_));refine wpAny_bind (wpAny_isInstance (T:="StopIteration") (b:=true) ⟨_,yae _ rfl,rfl⟩ isSubtype_stop ?_);exact wpAny_pure (hQ _ (((ybr ..).extBut.push _).push _))
def iter_vals {Q:Value -> Shared -> Prop} (hv:s.heap.IsValuesView v d) (ho:s.heap.get? d=some od) (hdd:od.data=.dict es ep)
  (hQ:Q (.ref s.heap.objs.size) { s with heap:=s.heap.push { cls:=.type "dict_valueiterator",data:=.fields #[.ref d,.int 0 0,.int es.size 0,.int ep 0] } }) :
  wpAny (model prog w) A (pyIter (.ref v)) Q E s:=by
 obtain ⟨ov,hov,hcv,hdv⟩:=id hv;refine wpAny_pyIter_slot hv.typeIs F.slot_dict_values_iter (wpAny_call_entry F.slot_dict_values_iter hv.typeIs F.entry_dict_values_iter ?_ (F.args_dict_values_iter_1 _));unfold Builtin.«dict_values.__iter__»;refine wpAny_bind (wpAny_pure ?_);refine wpAny_bind ?_;unfold Builtin.Dict_items.dictOf;refine wpAny_bind (wpAny_field hov hdv (x:=.ref d) rfl (wpAny_pure ?_));refine wpAny_bind ?_;unfold Builtin.Dict_items.newIterator;refine wpAny_bind (wpAny_dictEntries ho hdd ?_);refine wpAny_bind (wpAny_dictEpoch ho hdd ?_);have hown:Builtin.Dict_items.ownsTuple "dict_valueiterator"=false:=by decide
 simp only [hown,yar,if_false];refine wpAny_newObj_type (wpAny_pure ⟨_,rfl,"dict_valueiterator",_,⟨_,yae _ rfl,rfl⟩,ya0.lookup,?_⟩);simpa [rawInt] using hQ
def walk_vals (hh:A.handled=none) (I:Addr) (hne:d ≠ I) (hdd:od.data=.dict es ep) :
  Walks prog w A I [I,d] [I] es.size (λ i v=>(es[i]?).map (·.val)=some v) (λ i h=>h.IsValIter I d i es.size ep /\ h.get? d=some od) where
 sub:=λ b hb=>by simp at hb; simp [hb]
 frame:=λ _ _ _ st hk=>⟨st.1.at λ o e=>hk I (5:) o e,hk d (5:) _ st.2⟩
 item:=λ i s Q E hi st hQ=>by
  refine zj1 st.1 st.2 hdd hi λ h' hit' hs'=>?_;exact hQ _ h' s.toks (by rw [getElem?_pos es i hi]; rfl) ⟨hit',(hs'.2 d hne).trans st.2⟩ λ b o hb e=>hs'.extBut b o (λ h=>hb (by simp [h])) e
 done:=λ s Q E st hQ=>zlz hh st.1 st.2 hdd (yag _) λ h' he'=>hQ h' s.toks λ b o hb e=>he' b o (λ h=>hb (by simp [h])) e
 self:=λ _ _ _ _ st hQ=>wpAny_pyIter_valiter st.1 hQ
def ziq (hh:A.handled=none) (I:Addr) (hne:d ≠ I) (hdd:od.data=.dict es ep) :
  Walks prog w A I [I,d] [I] es.size (λ i v=>(es[i]?).map (·.key)=some v) (λ i h=>h.IsKeyIter I d i es.size ep /\ h.get? d=some od) where
 sub:=λ b hb=>by simp at hb; simp [hb]
 frame:=λ _ _ _ st hk=>⟨st.1.at λ o e=>hk I (5:) o e,hk d (5:) _ st.2⟩
 item:=λ i s Q E hi st hQ=>by
  refine seen (m:=pure (.done (.ret .none))) st.1 (step_item st.1 st.2 hdd hi λ h' st' sb=>⟨_,rfl,?_⟩);exact hQ _ h' s.toks (by rw [getElem?_pos es i hi]; rfl) ⟨st',(sb.2 d hne).trans st.2⟩ λ b o hb e=>sb.extBut b o (λ h=>hb (by simp [h])) e
 done:=λ s Q E st hQ=>seen (m:=pure (.done (.ret .none))) st.1 (step_end hh st.1 st.2 hdd (yag _) λ h' e eb hT=>⟨hT,hQ h' s.toks λ b o hb e=>eb b o (λ h=>hb (by simp [h])) e⟩)
 self:=λ _ _ _ _ st hQ=>wpAny_pyIter_keyiter st.1 hQ
def src_keys (lo:(d == sysModules)=false) (hex:od.ExactDict) (hdd:od.data=.dict es ep):PySem.W.KdlSrc prog w "dict" d d es.size (λ i v=>(es[i]?).map (·.key)=some v) (λ h=>h.get? d=some od) where
 type:=λ _ hm=>⟨od,hm,hex.1⟩
 there:=λ _ hm=>⟨yad hm,yad hm⟩
 keep:=λ _ _ hm hk=>hk d (.inl rfl) _ hm
 notList:=by decide
 notTuple:=by decide
 hint:=λ _ _ _ _ hm hq=>PySem.W.kdl_hint_dict ⟨od,hm,hex.1⟩ hq
 iter:=λ _ _ hh hm=>⟨_,_,(λ _ _ hq=>iter_dict lo hm hex hdd hq),ziq hh _ (yau (yad hm)) hdd,⟨⟨_,yae _ rfl,rfl,rfl⟩,yab _ hm⟩⟩
def collect_dict {Q:List Value -> Shared -> Prop} (hh:A.handled=none) (lo:(d == sysModules)=false) (ho:s.heap.get? d=some od) (hex:od.ExactDict) (hdd:od.data=.dict es ep) (hz:es.size <= sizeLine)
  (h:∀ (h':Heap) (tk:Nat),(∀ c o,s.heap.get? c=some o -> h'.get? c=some o) -> s.heap.objs.size <= h'.objs.size -> Q (es.toList.map (·.key)) { s with heap:=h',toks:=tk }) :
  wpAny (model prog w) A (collect (.ref d)) Q E s:=by
 have ha:=yad ho;unfold collect;refine wpAny_bind (wpAny_runValue (codeAny_builtin entry_proto_collect' ?_));rw [ybl yci _];show wpAny _ A.in1 (do again (.builtin "list.__iadd__" ⟨[<- newList [],.ref d],[]⟩)) _ _ s;refine wpAny_bind (wpAny_newList (wpAny_pure ⟨ycA _ (28:),codeAny_builtin entry_list_iadd' ?_⟩));rw [ybl yce _];show wpAny _ A.in1 (Builtin.List.listExtendWith (.ref s.heap.objs.size) (.ref d) (.ref s.heap.objs.size)) _ _ { s with heap:=s.heap.push (seqObj "list" #[] 0) }
 refine PySem.W.kdl_extend (s:={ s with heap:=s.heap.push (seqObj "list" #[] 0) }) (R:=λ r s'=>match r with
   | .ok (.ret v)=>wpAny (model prog w) A (match v with
     | .ref a=>do
      let o <- load a
      match o.data with
      | .seq xs _=>pure xs.toList
      | _=>unsupported "internal:collect"
     | _=>unsupported "internal:collect") Q E s'
   | .ok _=>False
   | .error e=>E e s') (src_keys lo hex hdd) hh (yab _ ho) s.heap.objs.size (ya5 ha) (ya5 ha) _ 0 (yae _ rfl) (λ h' tk acc' c' hk hS' hacc=>?_) hz
 show wpAny _ A (load s.heap.objs.size >>= _) _ _ { s with heap:=h',toks:=tk };refine wpAny_bind (wpAny_load hS' (wpAny_pure ?_))
 have e:acc'.toList=es.toList.map (·.key):=by
  refine ybo λ i=>?_;rw [yai,yaV,yaV];rcases ybO i acc'.size with c | c
  ·have c2:acc'[i]?=some acc'[i]:=getElem?_pos acc' i c;rw [c2,<- hacc.2 i _ c2]
  ·have:=hacc.1;rw [getElem?_neg acc' i (1:),getElem?_neg es i (1:)]; rfl
 show Q acc'.toList _;rw [e];exact h h' tk (λ c o z=>hk c o (yau (yad z)) (yab _ z)) (yaC (yad hS'))
end
end Dit
namespace L2
open PySem PySem.Spec PyProof.Rows
noncomputable abbrev kI (ls:List Int):List Key:=ls.map Sum.inl
def kI_V (ls:List Int):(kI ls).map kV=ls.map V.int:=by rw [ya7]; rfl
def zjt {a b:List Int} (h:kI a=kI b):a=b:=(List.map_inj_right (λ _ _ z=>Sum.inl.inj z)).mp h
noncomputable def zc4 (H:Hp) (kvs:List (List Key × V)) (bs:List Addr):Prop:=Paired (λ (p:List Key × V) (b:Addr)=>H b=some (.tup (p.1.map kV))) kvs bs
def zfl {H:Hp}:∀ {kvs:List (List Key × V)} {xs:List (List Key × Addr × Value)},Paired (λ (p:List Key × V) (q:List Key × Addr × Value)=>p.1=q.1 /\ H q.2.1=some (.tup (p.1.map kV)) /\ RelV p.2 q.2.2) kvs xs -> zc4 H kvs (xs.map (·.2.1))
 | _,_,.nil=>.nil
 | _,_,.cons r t=>.cons r.2.1 (zfl t)
def zjV {H:Hp}:∀ {kvs:List (List Key × V)} {xs:List (List Key × Addr × Value)},Paired (λ (p:List Key × V) (q:List Key × Addr × Value)=>p.1=q.1 /\ H q.2.1=some (.tup (p.1.map kV)) /\ RelV p.2 q.2.2) kvs xs -> Vals (kvs.map (·.2)) (xs.map (·.2.2))
 | _,_,.nil=>.nil
 | _,_,.cons r t=>.cons r.2.2 (zjV t)
def zc4.mem {H:Hp}:∀ {kvs:List (List Key × V)} {bs:List Addr},zc4 H kvs bs -> ∀ b ∈ bs,∃ kv ∈ kvs,H b=some (.tup (kv.1.map kV))
 | _,_,.nil,b,h=>by simp at h
 | _,_,.cons (a:=kv) r t,b,h=>by
  rcases yal.mp h with rfl | h
  ·exact ⟨kv,yay ..,r⟩
  ·obtain ⟨q,h1,h2⟩:=zc4.mem t b h;exact ⟨q,yan _ h1,h2⟩
def zc4.length {H:Hp} {kvs:List (List Key × V)} {bs:List Addr} (h:zc4 H kvs bs):kvs.length=bs.length:=ya2 h
def zci:∀ (bs:List Addr),Vals (bs.map V.ref) (bs.map Value.ref)
 | []=>.nil
 | b :: bs=>.cons rfl (zci bs)
def zer:∀ {bs:List Addr} {us:List Value},Vals (bs.map V.ref) us -> us=bs.map Value.ref
 | [],_,.nil=>rfl
 | b :: bs,_,.cons r t=>by cases (show _=Value.ref b from r); rw [yaI,zer t]
def zdc {P:Program} {w:World} {H:Hp} {h:Heap} {b:Addr} {ls:List Int} {wd:Nat} (ok:HOk P w H h) (e:H b=some (.tup (ls.map V.int))) (hl:ls.length=wd) (hb:Srk.InB ls):Srk.TupAt h wd b ls:=by
 obtain ⟨z,its,rv,o,ho,hc,_,n,hd⟩:=(show zaN P w H h b (.tup (ls.map V.int)) from ok b _ e)
 exact ⟨o,_,n,ho,hc,hd,by simpa using zdk rv,hl,hb⟩
noncomputable def AllT (wd:Nat) (kvs:List (List Key × V)):Prop:=∀ kv ∈ kvs,∃ ls:List Int,kv.1=kI ls /\ ls.length=wd /\ Srk.InB ls
noncomputable def zlV (H:Hp) (bs:List Addr):Prop:=bs.Pairwise λ b c=>∀ lb lc:List Int,H b=some (.tup (lb.map V.int)) -> H c=some (.tup (lc.map V.int)) -> Srk.InB lb -> Srk.InB lc -> Srk.codeZ lb <= Srk.codeZ lc
section
variable {X:Cx}
noncomputable def zni:List V -> Hp -> VK -> Prop:=λ xs H Q=>∃ (a:Addr) (kvs:List (List Key × V)),xs=[.ref a] /\ Rd H a (.dT kvs) /\ ∀ (p:Addr) (bs:List Addr),H p=none -> zc4 H kvs bs -> Q (.ref p) (upd H p (.lst (bs.map V.ref)))
def zh2 (hc:X.calm=true):zbk X (.type "list") zni:=by
 intro pins s σ H xs us Q I r h;obtain ⟨a,kvs,rfl,hq,q⟩:=h;obtain ⟨u,rfl,ru⟩:=r.one;cases ru;obtain ⟨z1,z2,xs,rel,o,es,ep,h1,h2,h3,h4,h5⟩:=(show zaN X.prog X.w H s.heap a (.dT kvs) from hq.ok I.hok)
 have hl:es.size=xs.length:=by rw [<- yaE,h4,yac]
 have hx:kvs.length=xs.length:=ya2 rel;refine PySem.W.kdl_call (Dit.src_keys z2 h2 h3) (I.ok.hd hc) h1 (1:) λ h' tk acc' c' hk hS' hacc=>?_
 have e:acc'.toList=(xs.map (·.2.1)).map Value.ref:=by
  refine ybo λ i=>?_;rw [yai,yai,yaV]
  have hent:(es[i]?).map (·.key)=(xs[i]?).map (λ q=>Value.ref q.2.1):=by
   rw [<- yaV,h4,yai,Option.map_map]; rfl
  rcases ybO i acc'.size with c | c
  ·have c2:acc'[i]?=some acc'[i]:=getElem?_pos acc' i c;rw [c2,<- hacc.2 i _ c2,hent,Option.map_map]; rfl
  ·have:=hacc.1;rw [getElem?_neg acc' i (1:),ybh (1:)]; rfl
 have hle:s.heap.objs.size <= s.heap.objs.size:=yag _;refine ⟨.ref s.heap.objs.size,_,I.laid (o:=.lst ((xs.map (·.2.1)).map V.ref)) hk hle ⟨?_,acc'.toList,c',?_,?_⟩,rfl,q _ (xs.map (·.2.1)) (I.hok.fresh hle) (zfl rel)⟩
 ·simp only [yac]; omega
 ·rw [e]; exact zci _
 ·rw [ycp]; exact hS'
noncomputable def znD:List V -> Hp -> VK -> Prop:=λ xs H Q=>∃ (a:Addr) (kvs:List (List Key × V)) (wd:Nat),xs=[.ref a] /\ Rd H a (.dT kvs) /\ 1 <= wd /\ AllT wd kvs /\
 ∀ (p:Addr) (bs bs':List Addr),H p=none -> zc4 H kvs bs -> bs'.Perm bs -> zlV H bs' -> Q (.ref p) (upd H p (.lst (bs'.map V.ref)))
def zhg {P:Program} {w:World} {H:Hp} {h:Heap} {bs:List Addr} (ok:HOk P w H h) (hp:bs.Pairwise λ b c=>Srk.codeAt h (.ref b) <= Srk.codeAt h (.ref c)):zlV H bs:=
 hp.imp λ {b c} z lb lc e1 e2 i1 i2=>by
  rwa [Srk.code_at (zdc ok e1 rfl i1),Srk.code_at (zdc ok e2 rfl i2)] at z
def zig (hc:X.calm=true):zbk X (.builtin "sorted") znD:=by
 intro pins s σ H xs us Q I r h;obtain ⟨a,kvs,wd,rfl,hq,hw,hT,q⟩:=h;obtain ⟨u,rfl,ru⟩:=r.one;cases ru;obtain ⟨z1,z2,xs,rel,o,es,ep,h1,h2,h3,h4,h5⟩:=(show zaN X.prog X.w H s.heap a (.dT kvs) from hq.ok I.hok)
 have hl:es.size=xs.length:=by rw [<- yaE,h4,yac]
 have hx:kvs.length=xs.length:=ya2 rel
 have hA:∀ b ∈ xs.map (·.2.1),∃ ls,Srk.TupAt s.heap wd b ls:=λ b hb=>by
  obtain ⟨kv,m1,m2⟩:=(zfl rel).mem b hb;obtain ⟨ls,e,e2,e3⟩:=hT kv m1;rw [e,kI_V] at m2;exact ⟨ls,zdc I.hok m2 e2 e3⟩
 refine ybV kind_sorted plain_sorted entry_sorted (args_sorted1 _) ?_;unfold Builtin.«sorted»;refine wpAny_bind (m:=checkCount "sorted" 1 1 _) (wpAny_pure (wpAny_bind (Dit.collect_dict (by simpa using I.ok.hd hc) z2 h1 h2 h3 (1:) λ h' tk hk hsz=>wpAny_bind ?_)));have ek:es.toList.map (·.key)=(xs.map (·.2.1)).map Value.ref:=by rw [h4,ya7,ya7]; rfl
 rw [ek];refine wpAny_newList ?_ (by simp only [yac]; omega)
 have sm:∀ b ∈ xs.map (·.2.1),Srk.codeAt h' (.ref b)=Srk.codeAt s.heap (.ref b):=λ b hb=>by
  obtain ⟨ls,t⟩:=hA b hb;rw [Srk.code_at t,Srk.code_at (t.keep λ o e=>hk b o e)]
 refine wpAny_bind (wpAny_holding (wpAny_call_entry slot_list_sort ⟨_,yae _ rfl,rfl⟩ entry_list_sort (wpAny_mono (Srk.sorted_tail (s:={ s with heap:=h',toks:=tk }) (Q:=λ s2=>EP X pins σ Q (.ref h'.objs.size) s2) rfl hw (by simp only [yac]; omega) (λ b hb=>let ⟨ls,t⟩:=hA b hb; ⟨ls,t.keep λ o e=>hk b o e⟩) (λ h2 as' e a1 a2 a3 a4=>?_)) (λ f s' z=>by
  obtain ⟨rfl,q⟩:=z;exact ⟨_,rfl,wpAny_pure ⟨_,rfl,q⟩⟩) λ _ _ e=>e) (args_list_sort _)))
 have hln:=a1.length_eq;simp only [yac] at hln;refine ⟨.ref h'.objs.size,_,I.laid (t':=tk) (o:=.lst (as'.map V.ref)) (λ b u z=>a4 b u (hk b u z)) hsz ⟨by simp only [yac]; omega,as'.map Value.ref,e,zci _,a3⟩,rfl,q _ (xs.map (·.2.1)) as' (I.hok.fresh hsz) (zfl rel) a1 ?_⟩;exact zhg I.hok (a2.imp_of_mem λ {b c} hb hc z=>by rwa [sm b (a1.mem_iff.mp hb),sm c (a1.mem_iff.mp hc)] at z)
noncomputable def zlk:List V -> Hp -> VK -> Prop:=λ xs H Q=>∃ (a:Addr) (bs:List Addr) (wd:Nat),xs=[.ref a] /\ Rd H a (.lst (bs.map V.ref)) /\ 1 <= wd /\ (∀ b ∈ bs,∃ ls:List Int,H b=some (.tup (ls.map V.int)) /\ ls.length=wd /\ Srk.InB ls) /\
 ∀ (p:Addr) (bs':List Addr),H p=none -> bs'.Perm bs -> zlV H bs' -> Q (.ref p) (upd H p (.lst (bs'.map V.ref)))
def zgS:zbk X (.builtin "sorted") zlk:=by
 intro pins s σ H xs us Q I r h;obtain ⟨a,bs,wd,rfl,hq,hw,hT,q⟩:=h;obtain ⟨u,rfl,ru⟩:=r.one;cases ru;obtain ⟨z,its,n,rv,e⟩:=(show zaN X.prog X.w H s.heap a (.lst (bs.map V.ref)) from hq.ok I.hok)
 have:=zer rv;subst this;simp only [yac] at z;refine Srk.sorted_list (wd:=wd) (as:=bs) e rfl (.inl rfl) rfl hw z (λ b hb=>?_) λ h' p bs' ep hp a1 a2 a3 a4=>?_
 ·obtain ⟨ls,e1,e2,e3⟩:=hT b hb;exact ⟨ls,zdc I.hok e1 e2 e3⟩
 ·have hln:=a1.length_eq;exact ⟨.ref p,_,I.laid (t':=s.toks) (o:=.lst (bs'.map V.ref)) a4 hp ⟨by simp only [yac]; omega,bs'.map Value.ref,ep,zci _,a3⟩,rfl,q p bs' (I.hok.fresh hp) a1 (zhg I.hok a2)⟩
noncomputable def ze7 (p d:Addr):HO:=.ext λ h=>h.IsValuesView p d
noncomputable def zm9 (td:TE):TE:=λ σ H Q=>td σ H λ x H1=>∃ (a:Addr) (kvs:List (List Key × V)),x=.ref a /\ Rd H1 a (.dT kvs) /\ ∀ p,H1 p=none -> Q (.ref p) (upd H1 p (ze7 p a))
def zlr {o:Expr} {td:TE} {apos cpos:Pos} (ho:PE X o td) (hbase:attributeBase o "values" X.env (eval o X.env)=eval o X.env:=by rfl) (hline:(apos.endLine == cpos.line)=true:=by rfl):PE X (.Call (.Attribute o "values" apos) [] [] cpos) (zm9 td):=by
 intro pins s σ H Q I h;refine wpAny_Call_method0_late hbase hline (thn (ho pins s σ H _ I h) λ v s1 ⟨x,H1,I1,r1,a,kvs,ex,hr,q1⟩=>?_);subst ex;cases r1;obtain ⟨t1,t2,t3⟩:=zkZ I1 (.inr ⟨kvs,hr⟩);refine ⟨"dict","dict.values",PySem.F.plainAttrs_dict,PySem.F.slot_dict_values,PySem.F.type_dict_values,t1,t2,ybG rfl (PySem.evalArgs_none ?_)⟩;refine wpAny_call_entry PySem.F.slot_dict_values t1 PySem.F.entry_dict_values ?_ (PySem.F.args_dict_values_1 _);refine wpAny_bind ?_;unfold Builtin.Dict.noArgs;refine wpAny_bind (wpAny_notOrdered_dict t1 ?_);show wpAny _ _ (pure a) _ _ s1;refine wpAny_pure ?_;show wpAny _ _ (Builtin.Dict.showsAll a >>= _) _ _ s1;unfold Builtin.Dict.showsAll;rw [if_neg (by rw [t3]; exact yaq)];refine wpAny_bind (wpAny_pure ?_);have hle:s1.heap.objs.size <= s1.heap.objs.size:=yag _;refine wpAny_bind (wpAny_newObj_type (wpAny_pure ⟨_,rfl,⟨.ref s1.heap.objs.size,_,I1.laid (t':=s1.toks) (o:=ze7 s1.heap.objs.size a) (λ _ _ z=>yab _ z) hle ⟨⟨_,yae _ rfl,rfl,rfl⟩,⟨_,yae _ rfl⟩,λ g1 g2 ⟨o,z1,z2⟩ k=>⟨o,k o z1,z2⟩⟩,rfl,q1 _ (I1.hok.fresh hle)⟩⟩))
noncomputable def zoy:List V -> Hp -> VK -> Prop:=λ xs H Q=>∃ (p a:Addr) (kvs:List (List Key × V)) (ns:List Int),xs=[.ref p] /\ H p=some (ze7 p a) /\ Rd H a (.dT kvs) /\ kvs.map (·.2)=ns.map V.int /\ ns ≠ [] /\ ∀ m ∈ ns,(∀ x ∈ ns,x <= m) -> Q (.int m) H
def ziw (hc:X.calm=true):zbk X (.builtin "max") zoy:=by
 intro pins s σ H xs us Q I r h;obtain ⟨p,a,kvs,ns,rfl,hp,hq,hv,hne,q⟩:=h;obtain ⟨u,rfl,ru⟩:=r.one;cases ru;have hview:s.heap.IsValuesView p a:=(I.hok p _ hp).1;obtain ⟨z1,z2,xs,rel,o,es,ep,h1,h2,h3,h4,h5⟩:=(show zaN X.prog X.w H s.heap a (.dT kvs) from hq.ok I.hok)
 have hl:es.size=xs.length:=by rw [<- yaE,h4,yac]
 have hx:kvs.length=xs.length:=ya2 rel;have hkn:kvs.length=ns.length:=by have:=congrArg List.length hv; simpa using this
 have ha:=yad h1;have hn0:0 < ns.length:=by cases ns with | nil=>exact absurd rfl hne | cons _ _=>simp
 have hrel:=zjV rel;rw [hv] at hrel;have hI:=zdk hrel
 have val:∀ (j:Nat) (v:Value),(es[j]?).map (·.val)=some v -> ∃ t,v=.int (ns.getD j 0) t:=λ j v e=>by
  have e2:(xs.map (·.2.2))[j]?=some v:=by
   rw [<- e,<- yaV,h4,yai,yai,Option.map_map]; rfl
  have hj:j < ns.length:=by
   have:=(yah.mp e2).1;simp at this; omega
  obtain ⟨t,et⟩:∃ t,v=.int (ns.getD j 0) t:=by
   have hxn:(ns.map V.int)[j]?=some (.int ns[j]):=by rw [yai,yaa hj]; rfl
   obtain ⟨u,e3,r3⟩:=Vals.get hrel hxn;rw [e3] at e2;cases e2;obtain ⟨t,rfl⟩:=r3;exact ⟨t,by rw [yas,yaa hj]; rfl⟩
  exact ⟨t,et⟩
 refine call_max_walk (Dit.iter_vals hview h1 h3 ⟨_,_,_,_,_,_,_,rfl,Dit.walk_vals (A:=X.A.in1) (by simpa using I.ok.hd hc) _ (yau ha) h3,⟨⟨_,yae _ rfl,rfl,rfl⟩,yab _ h1⟩,?_,by omega,CmpOf.ints_gt (λ j=>ns.getD j 0) val,λ v h' tk hP hk=>?_⟩)
 ·intro b hb;show b < (s.heap.push _).objs.size;rw [yba];rcases yal.mp hb with rfl | hb
  ·exact Nat.lt_succ_self _
  ·rw [yaz.mp hb]; exact ybn ha
 ·obtain ⟨t, rfl⟩ := val _ v hP;have hb := argBest_gt (fun j => ns.getD j 0) (es.size - 1);have hbl : argBest (fun i j => decide (ns.getD i 0 > ns.getD j 0)) (es.size - 1) < ns.length := by omega
  refine ⟨.int (ns.getD (argBest (λ i j=>decide (ns.getD i 0 > ns.getD j 0)) (es.size - 1)) 0),H,I.kept (t':=tk) λ b u z=>hk b u (λ m=>?_) (yab _ z),⟨t,rfl⟩,q _ ?_ λ x hxm=>?_⟩
  ·have:=yad z;rw [yaz.mp m] at this;exact ya3 _ this
  ·rw [yas,yaa hbl]; exact ybc hbl
  ·obtain ⟨i, hi, rfl⟩ := ybb.mp hxm;have := hb.2 i (1:)
   rwa [yas,yaa hi] at this
end
open Bm
section
variable {X:Cx}
noncomputable def tFrz (t:TE):TE:=λ σ H Q=>t σ H λ x H1=>∃ (a:Addr) (kvs:List (List Key × V)),x=.ref a /\ H1 a=some (.dT kvs) /\ ∀ o,Q x (upd H1 a (.frz o (.dT kvs)))
def zgR {e:Expr} {t:TE} (h:PE X e t):PE X e (tFrz t):=by
 intro pins s σ H Q I q;refine thn (h pins s σ H _ I q) λ v s1 ⟨x,H1,I1,r1,a,kvs,ex,e1,q1⟩=>?_;subst ex;have ok:=(show zaN X.prog X.w H1 s1.heap a (.dT kvs) from I1.hok a _ e1)
 obtain ⟨z1,z2,xs,rel,o,es,ep,h1,h2,h3,h4,h5⟩:=id ok;exact ⟨_,_,I1.write (t':=s1.toks) (x:=a) (e:=a) (by rw [e1]; trivial) (.inl rfl) (λ b u _ z=>z) ⟨o,h1⟩ (zfP ok e1 h1),r1,q1 o⟩
def zjY {o e:Expr} {td ty:TE} {apos cpos:Pos} (hu:X.A.units + 64 < cLine) (ho:PE X o td) (he:PE X e ty) (h1:attributeBase o "get" X.env (eval o X.env)=eval o X.env:=by rfl)
  (h2:((backTo cpos (starEach [e] X.env)).all (λ x=>!x.1) && (backToKw cpos (keywordEach [] X.env)).all (λ x=>x.1.isSome) && decide (([e]:List Expr).length + ([]:List Keyword).length + (if ([]:List Keyword).isEmpty then 0 else 1) < 30))=true:=by rfl)
  (h3:(apos.endLine == cpos.line)=true:=by rfl) (h4:backTo cpos (starEach [e] X.env)=[(false,eval e X.env)]:=by rfl):PE X (.Call (.Attribute o "get" apos) [e] [] cpos) (zjO td ty):=
 zkI (yaU (ybt (3:) _) hu) ho he ⟨h1,h2,h3,h4⟩
end
section
variable {σ:St} {H:Hp} {Q:VK} {tk tv td ty:TE} {tl:TE} {R:It -> Hp -> Prop}
def zkd (h:tl σ H λ x H1=>∃ (a:Addr) (kvs:List (List Key × V)),x=.ref a /\ H1 a=some (.dT kvs) /\ ∀ o,Q x (upd H1 a (.frz o (.dT kvs)))):tFrz tl σ H Q:=h
def zil (h:td σ H λ x H1=>∃ a,x=.ref a /\ IsD H1 a /\ ty σ H1 λ y H2=>∃ o,DGet H2 a y o /\ Q (o.getD .non) H2):zjO td ty σ H Q:=h
def zhl (h:∀ p,H p=none -> tk σ (upd H p (.dT [])) λ x H1=>tv σ H1 λ y H2=>∃ (ks:List Key) (b:Addr),x=.ref b /\ H2 b=some (.tup (ks.map kV)) /\ H2 p=some (.dT []) /\ Q (.ref p) (upd H2 p (.dT [(ks,y)]))):zi4 tk tv σ H Q:=h
def zl4 (h:∀ p,H p=none -> Q (.ref p) (upd H p (.dT []))):zk3 σ H Q:=h
def znn (h:td σ H λ x H1=>∃ (a:Addr) (kvs:List (List Key × V)),x=.ref a /\ Rd H1 a (.dT kvs) /\ ∀ p,H1 p=none -> Q (.ref p) (upd H1 p (ze7 p a))):zm9 td σ H Q:=h
def ze2 (h:tl σ H λ x H1=>∃ (a:Addr) (kvs:List (List Key × V)),x=.ref a /\ ((H1 a=some (.dT kvs) /\ ∀ o,R (Itd a o kvs) (upd H1 a (.frz o (.dT kvs)))) \/ ∃ o,Frz H1 a o kvs /\ R (Itd a o kvs) H1)):zk0 tl σ H R:=h
end
def DGet.r {H:Hp} {a b:Addr} {kvs:List (List Key × V)} {ls:List Int} (e:Rd H a (.dT kvs)) (eb:H b=some (.tup (ls.map V.int))):DGet H a (.ref b) (valV kvs (kI ls)):=.inr ⟨kvs,kI ls,b,e,rfl,by rw [kI_V]; exact eb,rfl⟩
def Frz.rd {H:Hp} {a:Addr} {o:Obj} {kvs:List (List Key × V)} (h:Frz H a o kvs):Rd H a (.dT kvs):=.inr ⟨o,h⟩
noncomputable def steps (w:Nat) (L:List (Addr × Dd)):List (List Int):=L.map λ e=>e.2.led w
def zev {w:Nat} {L:List (Addr × Dd)} {s:List Int}:s ∈ steps w L ↔ ∃ e ∈ L,s=e.2.led w:=by
 unfold steps; rw [yap]; exact ⟨λ ⟨e,h1,h2⟩=>⟨e,h1,h2.symm⟩,λ ⟨e,h1,h2⟩=>⟨e,h1,h2.symm⟩⟩
def zcv {H:Hp} {w:Nat} {L:List (Addr × Dd)} (h:Rw H w L):∀ s ∈ steps w L,Ld w s:=λ s hs=>by
 obtain ⟨e,he,rfl⟩:=zev.mp hs;exact Dd.led_ld (h e he).2
noncomputable def Mb (w:Nat) (L:List (Addr × Dd)) (kvs:List (List Key × V)):Prop:=(∀ k v,valV kvs k=some v -> ∃ e ∈ L,k=kI (e.2.led w) /\ v=.ref e.1) /\ (∀ e ∈ L,kI (e.2.led w) ∈ kvs.map (·.1)) /\ ∀ kv ∈ kvs,∃ e ∈ L,kv.1=kI (e.2.led w)
def zdU {κ:Type} [DecidableEq κ]:∀ {kvs:List (κ × V)} {k:κ},k ∈ kvs.map (·.1) -> ∃ v,valV kvs k=some v
 | [],k,h=>by simp at h
 | p :: r,k,h=>by
  by_cases c:p.1=k
  ·exact ⟨p.2,zaT c⟩
  ·rw [yaI] at h;obtain ⟨v,hv⟩:=zdU (kvs:=r) (k:=k) (by rcases yal.mp h with z | z; exact absurd z.symm c; exact z);exact ⟨v,by rw [zaI c]; exact hv⟩
def ze8 {κ:Type} [DecidableEq κ]:∀ {kvs:List (κ × V)} {k:κ} {v:V},valV kvs k=some v -> (k,v) ∈ kvs
 | [],k,v,h=>by cases h
 | p :: r,k,v,h=>by
  by_cases c:p.1=k
  ·rw [zaT c] at h; cases h; rw [<- c]; exact yay ..
  ·rw [zaI c] at h; exact yan _ (ze8 h)
def zga {κ:Type} [DecidableEq κ] {kvs:List (κ × V)} {k j:κ} {v:V}:j ∈ (putK kvs k v).map (·.1) ↔ j=k \/ j ∈ kvs.map (·.1):=by
 constructor
 ·intro h;obtain ⟨x, hx⟩ := zdU h;rw [zfi] at hx;by_cases c : j = k
  ·exact .inl c
  ·rw [if_neg c] at hx;exact .inr (yap.mpr ⟨_,ze8 hx,rfl⟩)
 ·intro h
  have:∃ x,valV (putK kvs k v) j=some x:=by
   rw [zfi];by_cases c:j=k
   ·exact ⟨v,by rw [if_pos c]⟩
   ·rw [if_neg c];exact zdU (h.resolve_left c)
  obtain ⟨x,hx⟩:=this;exact yap.mpr ⟨_,ze8 hx,rfl⟩
def Mb.nil (w:Nat):Mb w [] []:=⟨λ k v h=>(nomatch (show (none:Option V)=some v from h)),λ e h=>absurd h yaH,λ e h=>absurd h yaH⟩
def Mb.put {w:Nat} {L:List (Addr × Dd)} {kvs:List (List Key × V)} {e:Addr × Dd} (h:Mb w L kvs):Mb w (L ++ [e]) (putK kvs (kI (e.2.led w)) (.ref e.1)):=by
 have hk:∀ f ∈ L ++ [e],kI (f.2.led w) ∈ (putK kvs (kI (e.2.led w)) (.ref e.1)).map (·.1):=λ f hf=>zga.mpr (by
  rcases yaK.mp hf with z | z
  ·exact .inr (h.2.1 f z)
  ·rw [yaz.mp z]; exact .inl rfl)
 refine ⟨λ k v hv=>?_,hk,λ kv hkv=>?_⟩
 ·rw [zfi] at hv;by_cases c : k = kI (e.2.led w)
  ·rw [if_pos c] at hv; cases hv;exact ⟨e,yaD _ (yaz.mpr rfl),c,rfl⟩
  ·rw [if_neg c] at hv;obtain ⟨f,h1,h2⟩:=h.1 k v hv;exact ⟨f,yaR _ h1,h2⟩
 ·rcases zga.mp (yap.mpr ⟨kv, hkv, rfl⟩) with z | z
  ·exact ⟨e,yaD _ (yaz.mpr rfl),z⟩
  ·obtain ⟨q,hq,e2⟩:=yap.mp z;obtain ⟨f,h1,h2⟩:=h.2.2 q hq;exact ⟨f,yaR _ h1,by rw [<- e2]; exact h2⟩
noncomputable def Ent (H:Hp) (w:Nat) (L:List (Addr × Dd)) (G:List (List Int × Nat)) (q:List Int × Nat) (b:Addr):Prop:=
 ∃ r,H b=some (.tup (nV q.2 :: r)) /\ (q.2=0 \/ ∃ (a:Addr) (ys:List Int) (e:Addr × Dd) (m:Nat),r=[.ref a,.ref e.1] /\ q.2=m + 1 /\ H a=some (.tup (ys.map V.int)) /\ e ∈ L /\ q.1=zaB ys (e.2.led w) /\ (ys,m) ∈ G)
noncomputable def FndG (H:Hp) (w:Nat) (L:List (Addr × Dd)) (G F:List (List Int × Nat)) (kvs:List (List Key × V)):Prop:=Paired (λ (q:List Int × Nat) (kv:List Key × V)=>kv.1=kI q.1 /\ ∃ b,kv.2=.ref b /\ Ent H w L G q b) F kvs
noncomputable abbrev Fnd (H:Hp) (w:Nat) (L:List (Addr × Dd)) (F:List (List Int × Nat)) (kvs:List (List Key × V)):Prop:=FndG H w L F F kvs
def Ent.mono {H H':Hp} {w:Nat} {L:List (Addr × Dd)} {G G':List (List Int × Nat)} {q:List Int × Nat} {b:Addr} (h:Ent H w L G q b) (hT:∀ b xs,H b=some (.tup xs) -> H' b=some (.tup xs)) (hG:∀ x ∈ G,x ∈ G'):Ent H' w L G' q b:=by
 obtain ⟨r,h1,h2⟩:=h;refine ⟨r,hT _ _ h1,h2.imp id ?_⟩;rintro ⟨a,ys,e,m,z1,z2,z3,z4,z5,z6⟩;exact ⟨a,ys,e,m,z1,z2,hT _ _ z3,z4,z5,hG _ z6⟩
def FndG.mono {H H':Hp} {w:Nat} {L:List (Addr × Dd)} {G G':List (List Int × Nat)} (hT:∀ b xs,H b=some (.tup xs) -> H' b=some (.tup xs)) (hG:∀ x ∈ G,x ∈ G'):∀ {F:List (List Int × Nat)} {kvs:List (List Key × V)},FndG H w L G F kvs -> FndG H' w L G' F kvs
 | _,_,.nil=>.nil
 | _,_,.cons h t=>.cons ⟨h.1,let ⟨b,e,z⟩:=h.2; ⟨b,e,z.mono hT hG⟩⟩ (FndG.mono hT hG t)
def FndG.snoc {H:Hp} {w:Nat} {L:List (Addr × Dd)} {G:List (List Int × Nat)} {q:List Int × Nat} {b:Addr} (hb:Ent H w L G q b):∀ {F:List (List Int × Nat)} {kvs:List (List Key × V)},FndG H w L G F kvs -> FndG H w L G (F ++ [q]) (kvs ++ [(kI q.1,.ref b)])
 | _,_,.nil=>.cons ⟨rfl,b,rfl,hb⟩ .nil
 | _,_,.cons h t=>.cons h (FndG.snoc hb t)
def FndG.val {H:Hp} {w:Nat} {L:List (Addr × Dd)} {G:List (List Int × Nat)} {ls:List Int}:∀ {F:List (List Int × Nat)} {kvs:List (List Key × V)},FndG H w L G F kvs -> (ls ∉ F.map (·.1) /\ valV kvs (kI ls)=none) \/ ∃ n b,(ls,n) ∈ F /\ valV kvs (kI ls)=some (.ref b) /\ Ent H w L G (ls,n) b
 | _,_,.nil=>.inl ⟨by simp,rfl⟩
 | _,_,.cons (a:=q) (b:=kv) h t=>by
  obtain ⟨h1,b,h2,h3⟩:=h;by_cases c:q.1=ls
  ·subst c;exact .inr ⟨q.2,b,yay ..,by rw [zaT h1,h2],h3⟩
  ·have c2 : ¬ kv.1 = kI ls := fun z => c (zjt (h1.symm.trans z));rcases FndG.val (ls := ls) t with ⟨z1, z2⟩ | ⟨n, b', z1, z2, z3⟩
   ·refine .inl ⟨fun m => ?_, by rw [zaI c2]; exact z2⟩;rw [yaI] at m;rcases yal.mp m with m | m
    ·exact c m.symm
    ·exact z1 m
   ·exact .inr ⟨n,b',yan _ z1,by rw [zaI c2]; exact z2,z3⟩
def FndG.length {H:Hp} {w:Nat} {L:List (Addr × Dd)} {G F:List (List Int × Nat)} {kvs:List (List Key × V)} (h:FndG H w L G F kvs):F.length=kvs.length:=ya2 h
noncomputable def Lda (H:Hp) (E:List (List Int)) (es:List Addr):Prop:=Paired (λ (x:List Int) (a:Addr)=>H a=some (.tup (x.map V.int))) E es
def Lda.mono {H H':Hp} (hT:∀ b xs,H b=some (.tup xs) -> H' b=some (.tup xs)):∀ {E:List (List Int)} {es:List Addr},Lda H E es -> Lda H' E es
 | _,_,.nil=>.nil
 | _,_,.cons h t=>.cons (hT _ _ h) (Lda.mono hT t)
def Lda.snoc {H:Hp} {x:List Int} {a:Addr} (h:H a=some (.tup (x.map V.int))):∀ {E:List (List Int)} {es:List Addr},Lda H E es -> Lda H (E ++ [x]) (es ++ [a])
 | _,_,.nil=>.cons h .nil
 | _,_,.cons z t=>.cons z (Lda.snoc h t)
def Lda.get {H:Hp}:∀ {E:List (List Int)} {es:List Addr} {i:Nat} {a:Addr},Lda H E es -> es[i]?=some a -> ∃ x,E[i]?=some x /\ H a=some (.tup (x.map V.int))
 | _,_,_,_,.nil,e=>by simp at e
 | _,_,0,_,.cons h _,e=>by simp at e; subst e; exact ⟨_,rfl,h⟩
 | _,_,i + 1,_,.cons _ t,e=>by
  have:=Lda.get (i:=i) t (58:);simpa using this
def Lda.length {H:Hp} {E:List (List Int)} {es:List Addr} (h:Lda H E es):E.length=es.length:=ya2 h
def Amid.weak {S:List (List Int)} {w n:Nat} {F F':List (List Int × Nat)} {D D':List Int -> List Int -> Prop} {G:List (List Int)} (h:Amid S w n F D F' G) (k:∀ y s,D' y s -> D y s):Amid S w n F D' F' G:=⟨h.is,h.new,λ y s z=>h.had y s (k y s z),h.once⟩
noncomputable def zfv:Sp:=λ vs H Q _=>∃ (f l b:Addr) (kvs:List (List Key × V)) (ls:List Int) (n:Nat) (r:List V),vs=[.ref f,.ref l] /\ Rd H f (.dT kvs) /\ H l=some (.tup (ls.map V.int)) /\ valV kvs (kI ls)=some (.ref b) /\ H b=some (.tup (nV n :: r)) /\ Q (nV n) H
noncomputable def zhh (K:PySem.W.Frag) (H:Hp) (m:Addr) (L:List (Addr × Dd)):Prop:=SqL K H m (rowV L) \/ SqT K H m (rowV L)
noncomputable def zhG (K:PySem.W.Frag):Sp:=λ vs H Q _=>∃ (w:Nat) (m:Addr) (L:List (Addr × Dd)),vs=[nV w,.ref m] /\ zhh K H m L /\ Rw H w L /\ w <= 64 /\ L.length <= 1000 /\ ∀ (d:Addr) (o:Obj) (kvs:List (List Key × V)) (H':Hp),Same H H' -> Frz H' d o kvs -> Mb w L kvs -> Q (.ref d) H'
noncomputable def zk2:Sp:=λ vs H Q _=>∃ (f g m:Addr) (o:Obj) (w n:Nat) (L:List (Addr × Dd)) (kvs mk:List (List Key × V)) (F:List (List Int × Nat)) (E:List (List Int)) (es:List Addr),vs=[.ref f,.ref g,.ref m] /\ H f=some (.dT kvs) /\ H g=some (.lst (es.map V.ref)) /\ Frz H m o mk /\ Mb w L mk /\ Rw H w L /\ w <= 4 /\ Ring (steps w L) w n F E /\ Fnd H w L F kvs /\ Lda H E es /\
 ∀ (g':Addr) (es':List Addr) (H':Hp) (kvs':List (List Key × V)) (F':List (List Int × Nat)) (E':List (List Int)),zaF f H H' -> H' f=some (.dT kvs') -> Ring (steps w L) w (n + 1) F' E' -> Fnd H' w L F' kvs' -> Lda H' E' es' -> H' g'=some (.lst (es'.map V.ref)) -> F'.length=F.length + E'.length -> Q (.ref g') H'
noncomputable def KnD (F:List (List Int × Nat)):List (List Key × V):=F.map λ q=>(kI q.1,nV q.2)
noncomputable def zkW:Sp:=λ vs H Q _=>∃ (p:Addr) (w k:Nat),vs=[.ref p,nV w,nV k] /\ Hand H p /\ 1 <= w /\ w <= 64 /\ k <= 12 /\ ∀ (l:Addr) (L:List (Addr × Dd)) (H':Hp),H l=none -> But p H H' -> Hand H' p -> H' l=some (.lst (rowV L)) -> Rw H' w L -> L.length <= 24 -> Q (.ref l) H'
noncomputable def zf8:Sp:=λ vs H Q _=>∃ (a b:Addr) (ls ms:List Int) (w:Nat),vs=[.ref a,.ref b] /\ H a=some (.tup (ls.map V.int)) /\ H b=some (.lst (ms.map V.int)) /\ Ld w ls /\ Ld w ms /\ w <= 64 /\ ∀ t H',Same H H' -> H' t=some (.tup ((zaB ls ms).map V.int)) -> Q (.ref t) H'
structure Knw (w:Nat) (L:List (Addr × Dd)) (F:List (List Int × Nat)):Prop where
 all:∀ x m,(x,m) ∈ F ↔ Dst (steps w L) w m x
 once:(F.map (·.1)).Nodup
 few:F.length <= 1296
noncomputable def ziQ:Sp:=λ vs H Q _=>∃ (w:Nat) (m:Addr) (L:List (Addr × Dd)),vs=[nV w,.ref m] /\ H m=some (.lst (rowV L)) /\ Rw H w L /\ w <= 4 /\ L.length <= 1000 /\ ∀ (d:Addr) (o:Obj) (F:List (List Int × Nat)) (H':Hp),Same H H' -> Frz H' d o (KnD F) -> Knw w L F -> Q (.ref d) H'
noncomputable def ziH:Sp:=λ vs H Q _=>∃ (p m d:Addr) (o:Obj) (w:Nat) (L:List (Addr × Dd)) (F:List (List Int × Nat)),vs=[.ref p,nV w,.ref m,.ref d] /\ Hand H p /\ 1 <= w /\ w <= 4 /\ H m=some (.lst (rowV L)) /\ Rw H w L /\ L.length <= 1000 /\ m ≠ p /\ Frz H d o (KnD F) /\ Knw w L F /\
 ∀ (t:Addr) (ls:List Int) (H':Hp),Ld w ls -> But p H H' -> Hand H' p -> H' t=some (.tup (ls.map V.int)) -> Q (.ref t) H'
def SqL.afterD {K:PySem.W.Frag} {H H':Hp} {d m:Addr} {kvs:List (List Key × V)} {xs:List V} (h:SqL K (upd H d (.dT kvs)) m xs) (s:Same H H'):SqL K H' m xs:=by
 rcases h with h | h
 ·rcases h with h | ⟨o, h⟩
  ·by_cases c : m = d
   ·subst c; rw [zad] at h; cases h
   ·rw [zak c] at h; exact .inl (.inl (s _ _ h))
  ·by_cases c : m = d
   ·subst c; rw [zad] at h; cases h
   ·rw [zak c] at h; exact .inl (.inr ⟨o,s _ _ h⟩)
 ·exact .inr h
def SqT.afterD {K:PySem.W.Frag} {H H':Hp} {d m:Addr} {kvs:List (List Key × V)} {xs:List V} (h:SqT K (upd H d (.dT kvs)) m xs) (s:Same H H'):SqT K H' m xs:=by
 rcases h with h | h
 ·rcases h with h | ⟨o, h⟩
  ·by_cases c : m = d
   ·subst c; rw [zad] at h; cases h
   ·rw [zak c] at h; exact .inl (.inl (s _ _ h))
  ·by_cases c : m = d
   ·subst c; rw [zad] at h; cases h
   ·rw [zak c] at h; exact .inl (.inr ⟨o,s _ _ h⟩)
 ·exact .inr h
def zd3:∀ {F:List (List Int × Nat)} {x:List Int} {a b:Nat},(F.map (·.1)).Nodup -> (x,a) ∈ F -> (x,b) ∈ F -> a=b
 | [],_,_,_,_,h,_=>by simp at h
 | q :: F,x,a,b,hn,h1,h2=>by
  rw [yaI,ybI] at hn;rcases yal.mp h1 with e1 | m1
  ·rcases yal.mp h2 with e2 | m2
   ·rw [<- e1] at e2; exact (Prod.mk.inj e2).2.symm
   ·exact absurd (yap.mpr ⟨_,m2,by rw [<- e1]⟩) hn.1
  ·rcases yal.mp h2 with e2 | m2
   ·exact absurd (yap.mpr ⟨_,m1,by rw [<- e2]⟩) hn.1
   ·exact zd3 hn.2 m1 m2
noncomputable def Dij (E:List (List Int)) (S:List (List Int)) (ks:List (List Key)) (i j:Nat):List Int -> List Int -> Prop:=λ y s=>(∃ k,k < i /\ E[k]?=some y /\ s ∈ S) \/ (E[i]?=some y /\ ∃ k,k < j /\ ks[k]?=some (kI s))
def Dij.next {E S:List (List Int)} {ks:List (List Key)} {i j:Nat} {y s x t:List Int} (hx:E[i]?=some x) (ht:ks[j]?=some (kI t)) (h:Dij E S ks i (j + 1) y s):Dij E S ks i j y s \/ (y=x /\ s=t):=by
 rcases h with h | ⟨h1,k,h2,h3⟩
 ·exact .inl (.inl h)
 ·by_cases c : k = j
  ·subst c;rw [hx] at h1; rw [ht] at h3;exact .inr ⟨(Option.some.inj h1).symm,(zjt (Option.some.inj h3)).symm⟩
  ·exact .inl (.inr ⟨h1,k,by omega,h3⟩)
def Dij.turn {E S:List (List Int)} {ks:List (List Key)} {i:Nat} {y s:List Int} (hS:∀ s ∈ S,kI s ∈ ks) (h:Dij E S ks (i + 1) 0 y s):Dij E S ks i ks.length y s:=by
 rcases h with ⟨k,h1,h2,h3⟩ | ⟨_,k,h2,_⟩
 ·by_cases c : k = i
  ·subst c;obtain ⟨q,hq,e⟩:=ybb.mp (hS s h3);exact .inr ⟨h2,q,hq,by rw [yaa hq,e]⟩
  ·exact .inl ⟨k,by omega,h2,h3⟩
 ·omega
def Dij.all {E S:List (List Int)} {ks:List (List Key)} {y s:List Int} (hy:y ∈ E) (hs:s ∈ S):Dij E S ks E.length 0 y s:=by
 obtain ⟨q,hq,e⟩:=ybb.mp hy;exact .inl ⟨q,hq,by rw [yaa hq,e],hs⟩
def Mb.steps {w:Nat} {L:List (Addr × Dd)} {mk:List (List Key × V)} (h:Mb w L mk):∀ s ∈ steps w L,kI s ∈ mk.map (·.1):=λ s hs=>by
 obtain ⟨e,he,rfl⟩:=zev.mp hs;exact h.2.1 e he
def Mb.key {w:Nat} {L:List (Addr × Dd)} {mk:List (List Key × V)} (h:Mb w L mk) {j:Nat} {kk:List Key} (hk:(mk.map (·.1))[j]?=some kk):∃ e ∈ L,kk=kI (e.2.led w) /\ valV mk (kI (e.2.led w))=some (.ref e.1):=by
 have hm:kk ∈ mk.map (·.1):=yav hk;obtain ⟨v,hv⟩:=zdU hm;obtain ⟨e,h1,h2,h3⟩:=h.1 kk v hv;exact ⟨e,h1,h2,by rw [<- h2,hv,h3]⟩
def zaF.tup {f:Addr} {H H':Hp} {kvs:List (List Key × V)} (h:zaF f H H') (hf:H f=some (.dT kvs)):∀ b xs,H b=some (.tup xs) -> H' b=some (.tup xs):=λ b xs e=>h b _ (zbK e hf nofun) e
def zeo {w:Nat} (h:w <= 4):(w + 2) ^ w <= 1296:=by
 match w,h with
 | 0,_=>decide
 | 1,_=>decide
 | 2,_=>decide
 | 3,_=>decide
 | 4,_=>decide
noncomputable def Ldl (H:Hp) (E:List (List Int)) (es:List Addr):Prop:=Paired (λ (x:List Int) (a:Addr)=>H a=some (.lst (x.map V.int))) E es
def Ldl.mono {H H':Hp} (hT:∀ b xs,H b=some (.lst xs) -> H' b=some (.lst xs)):∀ {E:List (List Int)} {es:List Addr},Ldl H E es -> Ldl H' E es
 | _,_,.nil=>.nil
 | _,_,.cons h t=>.cons (hT _ _ h) (Ldl.mono hT t)
def Ldl.snoc {H:Hp} {x:List Int} {a:Addr} (h:H a=some (.lst (x.map V.int))):∀ {E:List (List Int)} {es:List Addr},Ldl H E es -> Ldl H (E ++ [x]) (es ++ [a])
 | _,_,.nil=>.cons h .nil
 | _,_,.cons z t=>.cons z (Ldl.snoc h t)
def Ldl.get {H:Hp}:∀ {E:List (List Int)} {es:List Addr} {i:Nat} {a:Addr},Ldl H E es -> es[i]?=some a -> ∃ x,E[i]?=some x /\ H a=some (.lst (x.map V.int))
 | _,_,_,_,.nil,e=>by simp at e
 | _,_,0,_,.cons h _,e=>by simp at e; subst e; exact ⟨_,rfl,h⟩
 | _,_,i + 1,_,.cons _ t,e=>by
  have:=Ldl.get (i:=i) t (58:);simpa using this
def Ldl.length {H:Hp} {E:List (List Int)} {es:List Addr} (h:Ldl H E es):E.length=es.length:=ya2 h
def KnD.val {ls:List Int}:∀ {F:List (List Int × Nat)},(ls ∉ F.map (·.1) /\ valV (KnD F) (kI ls)=none) \/ ∃ n,(ls,n) ∈ F /\ valV (KnD F) (kI ls)=some (nV n)
 | []=>.inl ⟨by simp,rfl⟩
 | q :: F=>by
  by_cases c:q.1=ls
  ·subst c;exact .inr ⟨q.2,yay ..,zaT rfl⟩
  ·have c2 : ¬ ((kI q.1, nV q.2) : List Key × V).1 = kI ls := fun z => c (zjt z);rcases KnD.val (ls := ls) (F := F) with ⟨z1, z2⟩ | ⟨n, z1, z2⟩
   ·refine .inl ⟨fun m => ?_, (zaI c2).trans z2⟩;rw [yaI] at m;rcases yal.mp m with m | m
    ·exact c m.symm
    ·exact z1 m
   ·exact .inr ⟨n,yan _ z1,(zaI c2).trans z2⟩
def KnD.put {F:List (List Int × Nat)} {x:List Int} {n:Nat} (h:valV (KnD F) (kI x)=none):putK (KnD F) (kI x) (nV n)=KnD (F ++ [(x,n)]):=by
 rw [zhe _ h]; simp [KnD]
def KnD.length (F:List (List Int × Nat)):(KnD F).length=F.length:=by simp [KnD]
def zho {H:Hp}:∀ {F:List (List Int × Nat)} {bs:List Addr},zc4 H (KnD F) bs -> Lda H (F.map (·.1)) bs
 | [],_,.nil=>.nil
 | q :: F,_,.cons h t=>by
  refine .cons ?_ (zho t);rw [<- kI_V]; exact h
def Ring.knw {w n:Nat} {L:List (Addr × Dd)} {F:List (List Int × Nat)} (R:Ring (steps w L) w n F []) (hS:∀ s ∈ steps w L,Ld w s) (hw:w <= 4):Knw w L F:=⟨λ x m=>R.end x m,R.once,yaY (R.len hS) (zeo hw)⟩
def Knw.ld {w:Nat} {L:List (Addr × Dd)} {F:List (List Int × Nat)} (h:Knw w L F) (hS:∀ s ∈ steps w L,Ld w s):∀ q ∈ F,Ld w q.1:=λ q hq=>((h.all q.1 q.2).mp hq).1.ld hS
def Knw.allT {w:Nat} {L:List (Addr × Dd)} {F:List (List Int × Nat)} (h:Knw w L F) (hS:∀ s ∈ steps w L,Ld w s) (hw:w <= 64):AllT w (KnD F):=λ kv hkv=>by
 obtain ⟨q,hq,rfl⟩:=yap.mp hkv;have l:=h.ld hS q hq;exact ⟨q.1,rfl,l.1,λ e he=>by have:=l.2 e he; omega⟩
def Knw.stay {w:Nat} {L:List (Addr × Dd)} {F:List (List Int × Nat)} (h:Knw w L F):(zaK w,0) ∈ F:=(h.all _ _).mpr (Dst.zero.mpr rfl)
def zff {S:List (List Int)} {j:Nat} {s:List Int} (h:S[j]?=some s):(S.map kI)[j]?=some (kI s):=by rw [yai,h]; rfl
def zgj {K:PySem.W.Frag} {H:Hp}:∀ {E:List (List Int)} {es:List Addr},Lda H E es -> DatVs K H (E.map ldD) (es.map V.ref)
 | _,_,.nil=>.nil
 | x :: _,_,.cons h t=>.cons (DatV.tuple (SqT.of h) (DatVs.ints K H x)) (zgj t)
def zkw {K:PySem.W.Frag} {H:Hp} {Q:VK} {a b:Addr} {E:List (List Int)} {es:List Addr} (ha:H a=some (.lst (es.map V.ref))) (hE:Lda H E es) (hb:H b=some (.lst [])) (h:Q (.bl (!decide (E=[]))) H):rNeU K (.ref a) (.ref b) H Q:=by
 refine ⟨.list (E.map ldD),.list (([]:List (List Int)).map ldD),DatV.list (SqL.of ha) (zgj hE),DatV.list (SqL.of hb) .nil,zhy _,zhy _,?_⟩
 rw [show PyData.eqv (.list (E.map ldD)) (.list (([]:List (List Int)).map ldD))=decide (E=[]) by
  cases E with
  | nil=>simp [PyData.eqv,PyData.eqvAll]
  | cons x E=>simp [PyData.eqv,PyData.eqvAll]]
 exact h
def zjB {K:PySem.W.Frag} {H:Hp} {Q:VK} {w:Nat} {a b:Addr} {L:List (Addr × Dd)} (ha:H a=some (.lst (rowV L))) (hL:Rw H w L) (hb:H b=some (.lst [])) (h:Q (.bl (!decide (L=[]))) H):rNeU K (.ref a) (.ref b) H Q:=by
 refine ⟨.list ((dds L).map Dd.dat),.list ((dds []).map Dd.dat),ziB ha hL,DatV.list (SqL.of hb) .nil,zgh _,zgh _,?_⟩
 rw [show PyData.eqv (.list ((dds L).map Dd.dat)) (.list ((dds []).map Dd.dat))=decide (L=[]) by
  cases L with
  | nil=>simp [PyData.eqv,PyData.eqvAll,dds]
  | cons x L=>simp [PyData.eqv,PyData.eqvAll,dds]]
 exact h
def zjL {F:List (List Int × Nat)} {i:Nat} {kk:List Key} (h:((KnD F).map (·.1))[i]?=some kk):∃ q,F[i]?=some q /\ kk=kI q.1:=by
 rw [KnD,ya7,yai] at h;cases e:F[i]? with
 | none=>rw [e] at h; cases h
 | some q=>rw [e] at h; exact ⟨q,rfl,(Option.some.inj h).symm⟩
def Knw.get {w:Nat} {L:List (Addr × Dd)} {F:List (List Int × Nat)} (h:Knw w L F) {q:List Int × Nat} (hq:q ∈ F):valV (KnD F) (kI q.1)=some (nV q.2):=by
 rcases KnD.val (ls:=q.1) (F:=F) with ⟨q1,_⟩ | ⟨n0,q1,q2⟩
 ·exact absurd (yap.mpr ⟨_,hq,rfl⟩) q1
 ·have:=zd3 h.once q1 (show (q.1,q.2) ∈ F from hq);subst this;exact q2
section
variable {X:Cx} {K:PySem.W.Frag}
end
end L2
namespace Srk
open PySem PyProof.Rows Srt
section
variable {prog:Program} {w:World} {A:Around} {E:Value -> Shared -> Prop} {s:Shared}
def TupAt.typeIs {wd:Nat} {b:Addr} {ls:List Int} (x:TupAt s.heap wd b ls):s.TypeIs (.ref b) "tuple":=let ⟨o,_,_,h1,h2,_⟩:=x; ⟨o,h1,h2⟩
def zfd {wd:Nat} {a b:Addr} {ls ms:List Int} {P:Fin -> Shared -> Prop} (hx:TupAt s.heap wd a ls) (hy:TupAt s.heap wd b ms) (h:P (.done (.ret (.bool (decide (codeZ ls < codeZ ms))))) s) :
  wpAny (model prog w) A (Builtin.«tuple.__lt__» ⟨[.ref a,.ref b],[]⟩) P E s:=by
 have hTb:=hy.typeIs;obtain ⟨oa,xs,na,hoa,_,hda,hia,hla,hba⟩:=hx;obtain ⟨ob,ys,nb,hob,_,hdb,hib,hlb,hbb⟩:=hy
 have sz:xs.size=ys.size:=by
  have a1:=ych hia;have a2:=ych hib;simp only [yaE] at a1 a2;omega
 show wpAny _ _ (isInstance (.ref b) (.type "tuple") >>= _) _ _ s;refine wpAny_bind (wpAny_isInstance hTb isSubtype_tuple_tuple ?_);simp only [yb7,yar,if_false];refine wpAny_bind (wpAny_tupleItemsOf hoa hda ?_);refine wpAny_bind (wpAny_tupleItemsOf hob hdb ?_);refine wpAny_bind ?_
 refine wpAny_forIn_list _
  (λ rest r s'=>r.1=none /\ s'=s /\ ∃ ls' ms' xs' ys',rest=List.zip xs' ys' /\ IntsAre xs' ls' /\ IntsAre ys' ms' /\ ls'.length=ms'.length /\ InB ls' /\ InB ms' /\ decide (codeZ ls' < codeZ ms')=decide (codeZ ls < codeZ ms))
  _ ?_ ?_ _ _ ⟨rfl,rfl,ls,ms,xs.toList,ys.toList,rfl,hia,hib,by omega,hba,hbb,rfl⟩
 ·rintro ⟨u, v⟩ rest r s' ⟨hr, rfl, ls', ms', xs', ys', hz, hx', hy', hl', hB1, hB2, hdec⟩;cases hx' with
  | nil=>simp at hz
  | @cons p t us2 ls2 hx''=>
   cases hy' with
   | nil=>simp at hz
   | @cons q t2 vs2 ms2 hy''=>
    simp only [List.zip_cons_cons,List.cons.injEq,Prod.mk.injEq] at hz;obtain ⟨⟨rfl,rfl⟩,rfl⟩:=hz;have hl2:ls2.length=ms2.length:=by simpa using hl'
    have i1:InB ls2:=λ e he=>hB1 e (yan _ he);have i2:InB ms2:=λ e he=>hB2 e (yan _ he);have st:=zcz (x:=p) (y:=q) hl2 i1 i2;refine wpAny_bind (wpAny_eqBool_int ?_);by_cases hk:p=q
    ·subst hk;rw [show (p == p)=true by simp];simp only [yb7,yar,if_false];refine wpAny_pure ⟨rfl,rfl,ls2,ms2,_,_,rfl,hx'',hy'',hl2,i1,i2,?_⟩;rw [<- hdec,decide_eq_decide,st];exact ⟨λ z=>.inr ⟨rfl,z⟩,λ z=>by rcases z with z | z; exact absurd z (Int.lt_irrefl _); exact z.2⟩
    ·rw [show (p == q) = false by simpa using hk];simp only [Bool.not_false, if_true]
     have hf:decide (codeZ ls < codeZ ms)=decide (p < q):=by
      rw [<- hdec,decide_eq_decide,st];exact ⟨λ z=>by rcases z with z | z; exact z; exact absurd z.1 hk,λ z=>.inl z⟩
     rw [hf] at h;refine wpAny_bind (wpAny_rule (wpAny_bind (richCompare_gives (op:=.Lt) (typeIs_int s' _ _) (typeIs_int s' _ _) F.slot_int_lt F.entry_int_lt (F.args_int_lt_2 _ _) (gives_int_lt _ _ _ _) (λ x=>nomatch x) ?_)));exact wpAny_pure (wpAny_pure h)
 ·rintro ⟨r1, r2⟩ s' ⟨hr, rfl, ls', ms', xs', ys', hz, hx', hy', hl', hB1, hB2, hdec⟩;simp only at hr;subst hr;refine wpAny_pure ?_
  have hfin:decide (xs.size < ys.size)=decide (codeZ ls < codeZ ms):=by
   rw [<- hdec];cases hx' with
   | nil=>
    cases hy' with
    | nil=>simp [sz]
    | cons _ _ _=>simp at hl'
   | cons _ _ _=>
    cases hy' with
    | nil=>simp at hl'
    | cons _ _ _=>simp at hz
  show P (.done (.ret (.bool (decide (xs.size < ys.size))))) s';rw [hfin]; exact h
def zh0 {us:List Value} {ls:List Int} (h:IntsAre us ls):ItemsAre (intKind prog w) ls us:=by
 induction h with
 | nil=>exact .nil
 | cons k t _ ih=>exact .cons (by simp [intKind,Value.isInt]) ih
def zlM {wd:Nat} {a b:Addr} {ls ms:List Int} {Q:Bool -> Shared -> Prop} (hu:A.units < cLine) (hx:TupAt s.heap wd a ls) (hy:TupAt s.heap wd b ms) (h:Q (decide (codeZ ls < codeZ ms)) s):wpAny (model prog w) A (oneLt' false (.ref a) (.ref b)) Q E s:=by
 rw [oneLt'_eq];simp only [yar,if_false];exact wpAny_bind (wpAny_richCompare_same_room (op:=.Lt) hx.typeIs hy.typeIs F.slot_tuple_lt (wpAny_call_entry F.slot_tuple_lt hx.typeIs F.entry_tuple_lt (zfd hx hy ⟨_,rfl,(λ e=>nomatch e),wpAny_truthy_bool h⟩) (F.args_tuple_lt_2 _ _)) hu)
def zma {wd:Nat} {a b:Addr} {ls ms:List Int} {Q:Bool -> Shared -> Prop} (hu:A.units < cLine) (hx:TupAt s.heap wd a ls) (hy:TupAt s.heap wd b ms) (h:Q (decide (ls=ms)) s):wpAny (model prog w) A (eqBool (.ref a) (.ref b)) Q E s:=by
 have key:∀ {a:Addr} {ls:List Int},TupAt s.heap wd a ls -> IsTupleKey (intKind prog w) s.heap ls a:=λ {a ls} ⟨o,xs,n,h1,h2,h3,h4,_⟩=>⟨o,xs,n,h1,h2,h3,zh0 h4⟩
 exact wpAny_eqBool_tuple hu (key hx) (key hy) h
end
noncomputable def PairAt (h:Heap) (wd:Nat) (p:Addr) (n:Int) (b:Addr) (ls:List Int):Prop:=(∃ o t m,h.get? p=some o /\ o.cls=.type "tuple" /\ o.data=.seq #[.int n t,.ref b] m) /\ TupAt h wd b ls
noncomputable def zaL (wd:Nat) (h:Heap) (v:Value):Int:=match v with
 | .ref p=>match h.get? p with
  | some o=>match o.data with
   | .seq xs _=>match xs.toList with
    | [.int n _,u]=>n * 66 ^ wd + codeAt h u
    | _=>0
   | _=>0
  | none=>0
 | _=>0
noncomputable def pcode (wd:Nat) (n:Int) (ls:List Int):Int:=n * 66 ^ wd + codeZ ls
def pcode_at {h:Heap} {wd:Nat} {p b:Addr} {n:Int} {ls:List Int} (x:PairAt h wd p n b ls):zaL wd h (.ref p)=pcode wd n ls:=by
 obtain ⟨⟨o,t,m,h1,h2,h3⟩,y⟩:=x;unfold zaL pcode;simp only [h1,h3,code_at y]
def PairAt.keep {h h':Heap} {wd:Nat} {p b:Addr} {n:Int} {ls:List Int} (x:PairAt h wd p n b ls) (k:∀ c o,h.get? c=some o -> o.cls=.type "tuple" -> h'.get? c=some o):PairAt h' wd p n b ls:=by
 obtain ⟨⟨o,t,m,h1,h2,h3⟩,⟨o',xs,n',g1,g2,r⟩⟩:=x;exact ⟨⟨o,t,m,k _ _ h1 h2,h2,h3⟩,o',xs,n',k _ _ g1 g2,g2,r⟩
def zeW {wd:Nat} {n m:Int} {ls ms:List Int} (h1:ls.length=wd) (h2:ms.length=wd) (i1:InB ls) (i2:InB ms):pcode wd n ls < pcode wd m ms ↔ n < m \/ (n=m /\ codeZ ls < codeZ ms):=by
 have a:=zc1 i1;have b:=zc1 i2;unfold pcode;rw [h1] at a; rw [h2] at b;have hp:(0:Int) < 66 ^ wd:=Int.pow_pos (3:);generalize (66:Int) ^ wd=p at *;rcases Int.lt_trichotomy n m with c | c | c
 ·have:n * p + p <= m * p:=by
   have:=yaZ (show n + 1 <= m by omega) (ya8 hp)
   rwa [Int.add_mul n 1 p,ybX] at this
  exact ⟨λ _=>.inl c,λ _=>by omega⟩
 ·subst c;exact ⟨λ h=>.inr ⟨rfl,by omega⟩,λ h=>by rcases h with h | h <;> omega⟩
 ·have:m * p + p <= n * p:=by
   have:=yaZ (show m + 1 <= n by omega) (ya8 hp)
   rwa [Int.add_mul m 1 p,ybX] at this
  exact ⟨λ h=>by omega,λ h=>by omega⟩
def zfE:∀ {ls ms:List Int},ls.length=ms.length -> InB ls -> InB ms -> codeZ ls=codeZ ms -> ls=ms
 | [],[],_,_,_,_=>rfl
 | [],_ :: _,h,_,_,_=>by cases h
 | _ :: _,[],h,_,_,_=>by cases h
 | x :: t,y :: u,hl,hx,hy,h=>by
  have hl':t.length=u.length:=by simpa using hl
  have ht:InB t:=λ e he=>hx e (yan _ he);have hu:InB u:=λ e he=>hy e (yan _ he);have s1:=zcz (x:=x) (y:=y) hl' ht hu;have s2:=zcz (x:=y) (y:=x) hl'.symm hu ht;have n1:=mt s1.mpr (1:);have n2:=mt s2.mpr (1:);have e:x=y:=by omega
  subst e
  have e2:codeZ t=codeZ u:=by
   rcases Int.lt_trichotomy (codeZ t) (codeZ u) with c | c | c
   ·exact absurd (.inr ⟨rfl,c⟩) n1
   ·exact c
   ·exact absurd (.inr ⟨rfl,c⟩) n2
  rw [zfE hl' ht hu e2]
def pcode_inj {wd:Nat} {n m:Int} {ls ms:List Int} (h1:ls.length=wd) (h2:ms.length=wd) (i1:InB ls) (i2:InB ms) (e:pcode wd n ls=pcode wd m ms):n=m /\ ls=ms:=by
 have a:=mt (zeW (n:=n) (m:=m) h1 h2 i1 i2).mpr (1:);have b:=mt (zeW (n:=m) (m:=n) h2 h1 i2 i1).mpr (1:);have e1:n=m:=by omega
 subst e1;refine ⟨rfl,zfE (1:) i1 i2 ?_⟩;unfold pcode at e;omega
noncomputable abbrev keyP (h:Heap) (wd:Nat):KeyC:=⟨λ x=>zaL wd h x.1,λ x=>∃ p n b ls,x.1=.ref p /\ PairAt h wd p n b ls,tuples' true⟩
section
variable {prog:Program} {w:World} {A:Around} {E:Value -> Shared -> Prop} {s:Shared}
def ltP (hu:A.units < cLine) (wd:Nat):@LtC (keyP s.heap wd) prog w A E s:=by
 letI:=keyP s.heap wd
 refine ⟨λ {st x y Q} hk hx hy h=>?_⟩;obtain ⟨p,n,b,ls,e1,t1⟩:=hx;obtain ⟨q,m,c,ms,e2,t2⟩:=hy;have k1:KeyC.κ x=pcode wd n ls:=by show zaL wd s.heap x.1=_; rw [e1]; exact pcode_at t1
 have k2:KeyC.κ y=pcode wd m ms:=by show zaL wd s.heap y.1=_; rw [e2]; exact pcode_at t2
 rw [k1,k2] at h;obtain ⟨⟨o,t,mm,g1,g2,g3⟩,y1⟩:=t1;obtain ⟨⟨o',t',mm',q1,q2,q3⟩,y2⟩:=t2;have lw1:ls.length=wd:=let ⟨_,_,_,_,_,_,_,z,_⟩:=y1; z;have lw2:ms.length=wd:=let ⟨_,_,_,_,_,_,_,z,_⟩:=y2; z;have ib1:InB ls:=let ⟨_,_,_,_,_,_,_,_,z⟩:=y1; z;have ib2:InB ms:=let ⟨_,_,_,_,_,_,_,_,z⟩:=y2; z;have st':=zeW (n:=n) (m:=m) lw1 lw2 ib1 ib2;rw [lt'_eq];refine wpS_bind (wpS_get ?_);rw [hk,e1,e2];refine wpS_bind (wpS_lift (wpAny_attempt (PySem.W.kat_lt g1 g3 q1 q3 ?_)));have hz:decide ((#[Value.int n t,Value.ref b]:Array Value).size < (#[Value.int m t',Value.ref c]:Array Value).size)=false:=by simp
 rw [hz];show PySem.W.KatLex prog w A true false _ [(Value.int n t,Value.int m t'),(Value.ref b,Value.ref c)] 0 s;refine PySem.W.kat_cons (wpAny_eqBool_int ?_);by_cases hnm:n=m
 ·subst hnm;rw [show (n == n) = true by simp];refine PySem.W.kat_yes (PySem.W.kat_cons (zma hu y1 y2 ?_));by_cases hlm : ls = ms
  ·subst hlm;rw [decide_eq_true rfl];refine PySem.W.kat_yes (PySem.W.kat_nil ⟨rfl, wpS_pure ?_⟩);have e : decide (pcode wd n ls < pcode wd n ls) = false := by simp
   rwa [e] at h
  ·rw [decide_eq_false hlm];refine PySem.W.kat_no ?_
   have e:decide (pcode wd n ls < pcode wd n ms)=decide (codeZ ls < codeZ ms):=by
    rw [decide_eq_decide,st'];exact ⟨λ z=>by rcases z with z | z; exact absurd z (Int.lt_irrefl _); exact z.2,λ z=>.inr ⟨rfl,z⟩⟩
   rw [e] at h;exact zlM hu y1 y2 ⟨rfl,wpS_pure h⟩
 ·rw [show (n == m) = false by simpa using hnm];refine PySem.W.kat_no ?_
  have e:decide (pcode wd n ls < pcode wd m ms)=decide (n < m):=by
   rw [decide_eq_decide,st'];exact ⟨λ z=>by rcases z with z | z; exact z; exact absurd z.1 hnm,λ z=>.inl z⟩
  rw [e] at h;exact oneLt_int ⟨rfl,wpS_pure h⟩
end
end Srk
namespace Srk
open PySem PyProof.Rows Srt
def zha {h:Heap} {wd:Nat}:∀ {as:List Addr},(∀ b ∈ as,∃ n c ls,PairAt h wd b n c ls) -> ∃ fs:List Value,fs.length=as.length /\ PySem.W.KatTups h (as.map Value.ref) fs /\ ∀ v ∈ fs,∃ n t,v=.int n t
 | [],_=>⟨[],rfl,PySem.W.KatTups.nil,λ _ h=>nomatch h⟩
 | b :: as,hA=>by
  obtain ⟨fs,h1,h2,h3⟩:=zha λ c hc=>hA c (yan _ hc);obtain ⟨n,c,ls,⟨o,t,m,g1,g2,g3⟩,_⟩:=hA b (yay ..);refine ⟨.int n t :: fs,by simp [h1],PySem.W.KatTups.cons g1 g2 g3 (5:) h2,λ v hv=>?_⟩;rcases yal.mp hv with rfl | hv
  ·exact ⟨n,t,rfl⟩
  ·exact h3 v hv
def ziO {h:Heap} {as:List Addr} {xs:Array Keyed} (hp:xs.Perm (pairsOf (as.map Value.ref))) (hs:@zbC (keyP h wd) xs (pairsOf (as.map Value.ref)).size) :
  ∃ as':List Addr,as'.Perm as /\ (xs.map (·.2))=(as'.map Value.ref).toArray /\ as'.Pairwise λ b c=>zaL wd h (.ref b) <= zaL wd h (.ref c):=by
 letI:=keyP h wd
 have hl:xs.toList.Perm ((as.map Value.ref).zip (as.map Value.ref)):=by rw [<- pairsOf_toList]; exact ybe.mp hp
 let un:Keyed -> Addr:=λ p=>match p.1 with | .ref b=>b | _=>0
 have hmem:∀ p,p ∈ xs.toList -> p.1=.ref (un p) /\ p.2=.ref (un p):=λ p hp'=>by
  obtain ⟨e1,e2⟩:=mem_zip_self (hl.mem_iff.mp hp');obtain ⟨b,_,eb⟩:=yap.mp e2;have:un p=b:=by show (match p.1 with | .ref b=>b | _=>0)=b; rw [<- eb]
  rw [this,<- e1,eb]; exact ⟨rfl,rfl⟩
 refine ⟨xs.toList.map un,?_,?_,?_⟩
 ·have h1 := hl.map un
  have e2:((as.map Value.ref).zip (as.map Value.ref)).map un=as:=by
   rw [List.zip_map',ya7]
   conv=>rhs; rw [<- List.map_id as]
   exact ybs λ b _=>rfl
  rwa [e2] at h1
 ·apply Array.toList_inj.mp;rw [Array.toList_map,ya7];exact ybs λ p hp'=>(hmem p hp').2
 ·rw [ybp,yaT];intro i j hi hj hij;have h1:=hs i j (yaC hij) (by rw [<- hp.size_eq]; simpa using hj);rw [zh9 (57:),zh9 (by simpa using hj)] at h1;have e1:=(hmem xs.toList[i] (ybc hi)).1;have e2:=(hmem xs.toList[j] (ybc hj)).1;rw [<- e1,<- e2];have h2:zaL wd h xs[i].1 <= zaL wd h xs[j].1:=h1;simpa using h2
section
variable {prog:Program} {w:World} {A:Around} {E:Value -> Shared -> Prop} {s:Shared} {wd:Nat} {as:List Addr}
def zib {a:Addr} {n:Nat} {P:Fin -> Shared -> Prop} (hu:A.units < cLine) (ho:s.heap.get? a=some (seqObj "list" (as.map Value.ref).toArray n)) (hz:as.length <= sizeLine) (hA:∀ b ∈ as,∃ n c ls,PairAt s.heap wd b n c ls)
  (h:∀ as':List Addr,as'.Perm as -> (as'.Pairwise λ b c=>zaL wd s.heap (.ref b) <= zaL wd s.heap (.ref c)) -> P (.done (.ret .none)) { s with heap:=sortedHeap s.heap a (as.map Value.ref) (as'.map Value.ref).toArray }) :
  wpAny (model prog w) A (Builtin.«list.sort» ⟨[.ref a],[]⟩) P E s:=by
 have ha:a < s.heap.objs.size:=yad ho
 have kp:∀ c o,s.heap.get? c=some o -> o.cls=.type "tuple" -> (za0 s.heap a (as.map Value.ref)).get? c=some o:=λ b o' e g2=>by
  have hb:=yad e
  have hne:b ≠ a:=λ z=>by
   subst z;rw [ho] at e;cases e;exact absurd (show Value.type "list"=Value.type "tuple" from g2) (3:)
  rw [ybC _ _ _ (by rw [size_push',ybk]; exact yau (ybn hb)),ybC _ _ _ (by rw [ybk]; exact yau hb),yb0 _ _ _ _ hne];exact e
 have hA':∀ b ∈ as,∃ n c ls,PairAt (za0 s.heap a (as.map Value.ref)) wd b n c ls:=λ b hb=>by
  obtain ⟨n,c,ls,t⟩:=hA b hb;exact ⟨n,c,ls,t.keep kp⟩
 have sm:∀ b ∈ as,zaL wd (za0 s.heap a (as.map Value.ref)) (.ref b)=zaL wd s.heap (.ref b):=λ b hb=>by
  obtain ⟨n,c,ls,t⟩:=hA b hb;rw [pcode_at t,pcode_at (t.keep kp)]
 refine zeH (C:=keyP (za0 s.heap a (as.map Value.ref)) wd) ho (29:) (hL:=ltP (s:={ s with heap:=za0 s.heap a (as.map Value.ref) }) hu wd) (λ p hp=>?_) (λ h2=>?_) λ xs hp hs=>?_
 ·rw [pairsOf_toList] at hp;obtain ⟨b,hb,e⟩:=yap.mp (mem_zip_self hp).2;obtain ⟨n,c,ls,t⟩:=hA' b hb;exact ⟨b,n,c,ls,e.symm,t⟩
 ·obtain ⟨fs,f1,f2,f3⟩:=zha hA';refine PySem.W.kat_kind (T:=.type "int") f2 (by rw [f1]; simp at h2; omega) (λ v hv=>?_) (3:) ⟨rfl,rfl⟩;obtain ⟨m,t,rfl⟩:=f3 v hv;exact .now
 ·obtain ⟨as', a1, a2, a3⟩ := ziO hp hs;rw [a2];refine h as' a1 (a3.imp_of_mem fun {b c} hb hc z => ?_)
  rwa [sm b (a1.mem_iff.mp hb),sm c (a1.mem_iff.mp hc)] at z
def zfK {p:Addr} {Q:Shared -> Prop} (hp:p=s.heap.objs.size) (hu:A.units < cLine) (hz:as.length <= sizeLine) (hA:∀ b ∈ as,∃ n c ls,PairAt s.heap wd b n c ls)
  (h:∀ (h':Heap) (as':List Addr) (e:Nat),as'.Perm as -> (as'.Pairwise λ b c=>zaL wd s.heap (.ref b) <= zaL wd s.heap (.ref c)) -> h'.get? p=some (seqObj "list" (as'.map Value.ref).toArray e) -> (∀ c o,s.heap.get? c=some o -> h'.get? c=some o) -> Q { s with heap:=h' }) :
  wpAny (model prog w) A (Builtin.«list.sort» ⟨[.ref p],[]⟩) (λ f s'=>f=.done (.ret .none) /\ Q s') E { s with heap:=s.heap.push (seqObj "list" (as.map Value.ref).toArray 0) }:=by
 subst hp;have hoL:(s.heap.push (seqObj "list" (as.map Value.ref).toArray 0)).get? s.heap.objs.size=some (seqObj "list" (as.map Value.ref).toArray 0):=yae _ rfl;have kp:∀ b o,s.heap.get? b=some o -> (s.heap.push (seqObj "list" (as.map Value.ref).toArray 0)).get? b=some o:=λ b o e=>yab _ e
 have sm:∀ b ∈ as,zaL wd (s.heap.push (seqObj "list" (as.map Value.ref).toArray 0)) (.ref b)=zaL wd s.heap (.ref b):=λ b hb=>by
  obtain ⟨n,c,ls,t⟩:=hA b hb;rw [pcode_at t,pcode_at (t.keep λ c o e _=>kp c o e)]
 refine zib hu hoL hz (λ b hb=>let ⟨n,c,ls,t⟩:=hA b hb; ⟨n,c,ls,t.keep λ c o e _=>kp c o e⟩) λ as' a1 a2=>⟨rfl,?_⟩
 obtain ⟨e,he⟩:=sortedHeap_at (out:=(as'.map Value.ref).toArray) hoL;refine h _ as' e a1 (a2.imp_of_mem λ {b c} hb hc z=>?_) he λ c o z=>?_
 ·rwa [sm b (a1.mem_iff.mp hb),sm c (a1.mem_iff.mp hc)] at z
 ·have z2:=yad z;rw [sortedHeap_old (yau z2) (by rw [yba]; exact ybn z2)];exact kp c o z
def sorted_listP {l:Addr} {o:Obj} {T:String} {n:Nat} {Q:Value -> Shared -> Prop} (ho:s.heap.get? l=some o) (hc:o.cls=.type T) (hT:T="list" \/ T="tuple") (hd:o.data=.seq (as.map Value.ref).toArray n) (hu:A.units + 8 < cLine) (hz:as.length <= sizeLine) (hA:∀ b ∈ as,∃ n c ls,PairAt s.heap wd b n c ls)
  (h:∀ (h':Heap) (p:Addr) (as':List Addr) (e:Nat),s.heap.objs.size <= p -> as'.Perm as -> (as'.Pairwise λ b c=>zaL wd s.heap (.ref b) <= zaL wd s.heap (.ref c)) -> h'.get? p=some (seqObj "list" (as'.map Value.ref).toArray e) -> (∀ c o,s.heap.get? c=some o -> h'.get? c=some o) -> Q (.ref p) { s with heap:=h' }) :
  wpAny (model prog w) A (call (.builtin "sorted") [.ref l]) Q E s:=by
 refine ybV kind_sorted plain_sorted entry_sorted (args_sorted1 _) ?_;unfold Builtin.«sorted»;refine wpAny_bind (m:=checkCount "sorted" 1 1 _) (wpAny_pure (wpAny_bind (zdB ho hc hT hd (29:) (wpAny_bind (wpAny_newList ?_ (29:))))))
 have k0:∀ c o,s.heap.get? c=some o -> ((s.heap.push (seqObj "list" #[] 0)).update s.heap.objs.size (Obj.mapSeq (· ++ (as.map Value.ref).toArray))).get? c=some o:=λ c o z=>by
  have z2:=yad z;rw [yb0 _ _ _ _ (yau z2)];exact yab _ z
 have sm:∀ b ∈ as,zaL wd ((s.heap.push (seqObj "list" #[] 0)).update s.heap.objs.size (Obj.mapSeq (· ++ (as.map Value.ref).toArray))) (.ref b)=zaL wd s.heap (.ref b):=λ b hb=>by
  obtain ⟨n,c,ls,t⟩:=hA b hb;rw [pcode_at t,pcode_at (t.keep λ c o e _=>k0 c o e)]
 have hsz:((s.heap.push (seqObj "list" #[] 0)).update s.heap.objs.size (Obj.mapSeq (· ++ (as.map Value.ref).toArray))).objs.size=s.heap.objs.size + 1:=by
  rw [ybk,size_push']
 refine wpAny_bind (wpAny_holding (wpAny_call_entry slot_list_sort ⟨_,yae _ rfl,rfl⟩ entry_list_sort (wpAny_mono (zfK (s:={ s with heap:=(s.heap.push (seqObj "list" #[] 0)).update s.heap.objs.size (Obj.mapSeq (· ++ (as.map Value.ref).toArray)) }) rfl (by simp only [Around.in1_units]; omega) hz (λ b hb=>let ⟨n,c,ls,t⟩:=hA b hb; ⟨n,c,ls,t.keep λ c o e _=>k0 c o e⟩) (λ h' as' e a1 a2 a3 a4=>h h' _ as' e (by dsimp only; rw [hsz]; exact Nat.le_succ _) a1 (a2.imp_of_mem λ {b c} hb hc z=>by rwa [sm b (a1.mem_iff.mp hb),sm c (a1.mem_iff.mp hc)] at z) a3 λ c o z=>a4 c o (k0 c o z))) (λ f s' z=>by
  obtain ⟨rfl,q⟩:=z;exact ⟨_,rfl,wpAny_pure ⟨_,rfl,q⟩⟩) λ _ _ e=>e) (args_list_sort _)))
end
end Srk
namespace L2
open PySem PySem.Spec PyProof.Rows
noncomputable def Prs2 (H:Hp) (G:List (Nat × List Int)) (ps:List Addr):Prop:=Paired (λ (q:Nat × List Int) (p:Addr)=>∃ b,H p=some (.tup [nV q.1,.ref b]) /\ H b=some (.tup (q.2.map V.int))) G ps
def zjc {P:Program} {w:World} {H:Hp} {h:Heap} {p b:Addr} {n:Nat} {ls:List Int} {wd:Nat} (ok:HOk P w H h) (e:H p=some (.tup [nV n,.ref b])) (e2:H b=some (.tup (ls.map V.int))) (hl:ls.length=wd) (hb:Srk.InB ls):Srk.PairAt h wd p n b ls:=by
 obtain ⟨z,its,rv,o,ho,hc,_,m,hd⟩:=(show zaN P w H h p (.tup [nV n,.ref b]) from ok p _ e)
 refine ⟨?_,zdc ok e2 hl hb⟩
 match its,rv with
 | [u,v],.cons r1 (.cons r2 .nil)=>
  obtain ⟨t,rfl⟩:=r1;cases (show v=Value.ref b from r2);exact ⟨o,t,m,ho,hc,hd⟩
def Prs2.get {H:Hp}:∀ {G:List (Nat × List Int)} {ps:List Addr} {i:Nat} {p:Addr},Prs2 H G ps -> ps[i]?=some p -> ∃ q,G[i]?=some q /\ ∃ b,H p=some (.tup [nV q.1,.ref b]) /\ H b=some (.tup (q.2.map V.int))
 | _,_,_,_,.nil,e=>by simp at e
 | _,_,0,_,.cons h _,e=>by simp at e; subst e; exact ⟨_,rfl,h⟩
 | _,_,i + 1,_,.cons _ t,e=>by
  have:=Prs2.get (i:=i) t (58:);simpa using this
def Prs2.mono {H H':Hp} (hT:∀ b xs,H b=some (.tup xs) -> H' b=some (.tup xs)):∀ {G:List (Nat × List Int)} {ps:List Addr},Prs2 H G ps -> Prs2 H' G ps
 | _,_,.nil=>.nil
 | _,_,.cons h t=>.cons (let ⟨b,h1,h2⟩:=h; ⟨b,hT _ _ h1,hT _ _ h2⟩) (Prs2.mono hT t)
def Prs2.snoc {H:Hp} {q:Nat × List Int} {p:Addr} (h:∃ b,H p=some (.tup [nV q.1,.ref b]) /\ H b=some (.tup (q.2.map V.int))):∀ {G:List (Nat × List Int)} {ps:List Addr},Prs2 H G ps -> Prs2 H (G ++ [q]) (ps ++ [p])
 | _,_,.nil=>.cons h .nil
 | _,_,.cons z t=>.cons z (Prs2.snoc h t)
def Prs2.length {H:Hp} {G:List (Nat × List Int)} {ps:List Addr} (h:Prs2 H G ps):G.length=ps.length:=ya2 h
def Prs2.perm {H:Hp}:∀ {ps ps':List Addr},ps'.Perm ps -> ∀ {G:List (Nat × List Int)},Prs2 H G ps -> ∃ G',G'.Perm G /\ Prs2 H G' ps':=by
 intro ps ps' hp
 induction hp with
 | nil=>intro G h; cases h; exact ⟨[],.nil,.nil⟩
 | cons p _ ih=>
  intro G h;cases h with
  | cons hq ht=>
   obtain ⟨G',g1,g2⟩:=ih ht;exact ⟨_ :: G',g1.cons _,.cons hq g2⟩
 | swap p q l=>
  intro G h;cases h with
  | cons h1 ht=>
   cases ht with
   | cons h2 ht=>exact ⟨_ :: _ :: _,List.Perm.swap ..,.cons h2 (.cons h1 ht)⟩
 | trans _ _ ih1 ih2=>
  intro G h;obtain ⟨G1,g1,g2⟩:=ih2 h;obtain ⟨G2,g3,g4⟩:=ih1 g2;exact ⟨G2,g3.trans g1,g4⟩
noncomputable def OrdP (wd:Nat) (G:List (Nat × List Int)):Prop:=G.Pairwise λ a b=>Srk.pcode wd a.1 a.2 <= Srk.pcode wd b.1 b.2
section
variable {X:Cx}
noncomputable def zlt:List V -> Hp -> VK -> Prop:=λ xs H Q=>∃ (a:Addr) (ps:List Addr) (G:List (Nat × List Int)) (wd:Nat),xs=[.ref a] /\ Rd H a (.lst (ps.map V.ref)) /\ Prs2 H G ps /\ (∀ q ∈ G,q.2.length=wd /\ Srk.InB q.2) /\
 ∀ (p:Addr) (ps':List Addr) (G':List (Nat × List Int)),H p=none -> G'.Perm G -> OrdP wd G' -> Prs2 H G' ps' -> Q (.ref p) (upd H p (.lst (ps'.map V.ref)))
def zen (hu:X.A.units + 64 < cLine):zbk X (.builtin "sorted") zlt:=by
 intro pins s σ H xs us Q I r h;obtain ⟨a,ps,G,wd,rfl,hq,hP,hT,q⟩:=h;obtain ⟨u,rfl,ru⟩:=r.one;cases ru;obtain ⟨z,its,n,rv,e⟩:=(show zaN X.prog X.w H s.heap a (.lst (ps.map V.ref)) from hq.ok I.hok)
 have:=zer rv;subst this;simp only [yac] at z
 have at':∀ {G:List (Nat × List Int)} {ps:List Addr},Prs2 H G ps -> (∀ q ∈ G,q.2.length=wd /\ Srk.InB q.2) -> ∀ {i:Nat} {p:Addr},ps[i]?=some p -> ∃ q b,G[i]?=some q /\ Srk.PairAt s.heap wd p q.1 b q.2:=λ {G ps} hP hT {i p} hp=>by
  obtain ⟨q,h1,b,h2,h3⟩:=hP.get hp;have:=hT q (yav h1);exact ⟨q,b,h1,zjc I.hok h2 h3 this.1 this.2⟩
 refine Srk.sorted_listP (wd:=wd) (as:=ps) e rfl (.inl rfl) rfl (1:) z (λ b hb=>?_) λ h' p ps' ep hp a1 a2 a3 a4=>?_
 ·obtain ⟨i,hi,e1⟩:=ybb.mp hb;obtain ⟨q,c,_,h2⟩:=at' hP hT (i:=i) (p:=b) (by rw [yaa hi,e1]);exact ⟨_,c,_,h2⟩
 ·have hln := a1.length_eq;obtain ⟨G', g1, g2⟩ := hP.perm a1;have hT' : ∀ q ∈ G', q.2.length = wd /\ Srk.InB q.2 := fun q hq => hT q (g1.mem_iff.mp hq);refine ⟨.ref p, _, I.laid (t' := s.toks) (o := .lst (ps'.map V.ref)) a4 hp ⟨by simp only [yac]; omega, ps'.map Value.ref, ep, zci _, a3⟩, rfl, q p ps' G' (I.hok.fresh hp) g1 ?_ g2⟩;refine yaT.mpr fun i j hi hj hij => ?_;have li : i < ps'.length := by have := g2.length; omega
  have lj:j < ps'.length:=by have:=g2.length; omega
  have hh:=yaT.mp a2 i j li lj hij;obtain ⟨qi,bi,e1,e2⟩:=at' g2 hT' (i:=i) (yaa li);obtain ⟨qj,bj,e3,e4⟩:=at' g2 hT' (i:=j) (yaa lj);rw [yaa hi] at e1;rw [yaa hj] at e3;rw [Srk.pcode_at e2,Srk.pcode_at e4] at hh;rw [Option.some.inj e1,Option.some.inj e3];exact hh
end
def zjN:∀ {wd:Nat} {G G':List (Nat × List Int)},(∀ q ∈ G,q.2.length=wd /\ Srk.InB q.2) -> OrdP wd G -> OrdP wd G' -> G'.Perm G -> G=G'
 | wd,[],G',_,_,_,hp=>by rw [List.Perm.eq_nil hp]
 | wd,q :: G,G',hT,h1,h2,hp=>by
  match G',h2,hp with
  | [],_,hp=>exact absurd hp.length_eq (5:)
  | q' :: G',h2,hp=>
   have c1:=List.pairwise_cons.mp h1;have c2:=List.pairwise_cons.mp h2
   have le1:Srk.pcode wd q.1 q.2 <= Srk.pcode wd q'.1 q'.2:=by
    rcases yal.mp (hp.mem_iff.mp (yay ..)) with z | z
    ·rw [z]; exact ybj _
    ·exact c1.1 _ z
   have le2:Srk.pcode wd q'.1 q'.2 <= Srk.pcode wd q.1 q.2:=by
    rcases yal.mp (hp.mem_iff.mpr (yay ..)) with z | z
    ·rw [z]; exact ybj _
    ·exact c2.1 _ z
   have t1:=hT q (yay ..);have t2:=hT q' (hp.mem_iff.mp (yay ..));have e:=Srk.pcode_inj (n:=(q.1:Int)) (m:=(q'.1:Int)) t1.1 t2.1 t1.2 t2.2 (1:);have eq:q=q':=Prod.ext (by have:=e.1; omega) e.2;subst eq;rw [zjN (λ x hx=>hT x (yan _ hx)) c1.2 c2.2 ((List.perm_cons q).mp hp)]
end L2
namespace Dit
open PySem PyProof.Rows
noncomputable abbrev noneHash:Int:=0xFCA86420
section
variable {prog:Program} {w:World} {A:Around} {E:Value -> Shared -> Prop} {s:Shared} {d:Addr} {ep:Nat} {es:Array DictEntry} {od:Obj}
def ziW {Q:Option Nat -> Shared -> Prop} (ho:s.heap.get? d=some od) (hdd:od.data=.dict es ep) (hh:∀ e ∈ es.toList,e.hash ≠ noneHash) (h:Q none s):wpAny (model prog w) A (dictFind d .none noneHash) Q E s:=by
 unfold dictFind
 try with_reducible refine wpAny_holding ?_
 refine wpAny_bind (wpAny_dictEntries ho hdd ?_)
 have hp:placesWithHash es.size (λ i=>es[i]?.map (·.hash)) noneHash=[]:=by
  unfold placesWithHash;rw [List.filter_eq_nil_iff];intro i hi;have hi':i < es.size:=by simpa using hi
  have:=hh es[i] (5:);show ¬ ((es[i]?.map (·.hash)) == some noneHash)=true;rw [getElem?_pos es i hi'];simpa using this
 simp only [hp,List.filterMap_nil];rw [if_pos (by simp [carriedByValue])];unfold dictWalkPlain;rw [ycB];exact wpAny_bind (wpAny_pure (wpAny_pure h))
def notIn_none {Q:Value -> Shared -> Prop} (hu:A.units + 1 < cLine) (hd:(d == sysModules)=false) (ho:s.heap.get? d=some od) (hex:od.ExactDict) (hdd:od.data=.dict es ep) (hh:∀ e ∈ es.toList,e.hash ≠ noneHash)
  (h:∀ tk,Q (.bool true) { s with toks:=tk }):wpAny (model prog w) A (compareOp .NotIn .none (.ref d)) Q E s:=by
 have hT:s.TypeIs (.ref d) "dict":=⟨od,ho,hex.1⟩
 show wpAny _ _ (do return .bool (!(<- contains (.ref d) .none))) Q E s;refine wpAny_bind ?_;unfold contains
 try with_reducible refine wpAny_holding ?_
 refine wpAny_bind (wpAny_specialOf hT slot_dict_contains.lookup ?_);show wpAny _ _ (if (some (Value.builtin "dict.__contains__") == some Value.none)=true then _ else _) _ E s;rw [if_neg (by rw [beq_builtin_none]; exact yaq)]
 refine wpAny_bind (wpAny_callSpecialUnlessNone?_slot (name:=Str.ofString "__contains__") hT slot_dict_contains
  (wpAny_call_entry slot_dict_contains hT entry_dict_contains ?_ (args_dict_contains _ _)))
 show wpAny _ _ (dictGet d .none >>= _) _ _ s;refine wpAny_bind ?_;unfold dictGet
 try with_reducible refine wpAny_holding ?_
 refine wpAny_bind ?_;show wpAny _ _ (pyHashByItsType .none) _ _ s;refine PySem.W.pyHash_slot (T:="NoneType") rfl F.slot_NoneType_hash F.entry_NoneType_hash (F.args_NoneType_hash_1 _) (beq_builtin_none _) (.inl rfl) (wpAny_bind (wpAny_pure (wpAny_bind (wpAny_mkInt (wpAny_pure ⟨_,_,rfl,?_⟩)))));show wpAny _ _ (dictFind d .none (reduceHash 0xFCA86420) >>= _) _ _ _;rw [show reduceHash 0xFCA86420=noneHash by decide +kernel];refine wpAny_bind (ziW ho hdd hh ?_);refine wpAny_pure ?_;show wpAny _ _ (Builtin.Dict.pendingKey? d .none >>= _) _ _ _;exact wpAny_bind (wpAny_pendingKey_other hd (wpAny_pure ⟨_,rfl,wpAny_truthy_bool (wpAny_pure (h _))⟩))
end
end Dit
namespace L2
open PySem PySem.Spec PyProof.Rows Bm
noncomputable def zku (ls:List Int):Int:=reduceHash (Builtin.Tuple.tupleHashOf (ls.map hashInt))
noncomputable def NoN (ls:List Int):Prop:=zku ls ≠ Dit.noneHash
noncomputable def zit (k:Nat):Nat -> List (List Int)
 | 0=>[[]]
 | n + 1=>(List.range k).flatMap λ (e:Nat)=>(zit k n).map λ l=>((e:Int) - 2) :: l
def zeR {k:Nat}:∀ {ls:List Int},(∀ e ∈ ls,-2 <= e /\ e + 2 < (k:Int)) -> ls ∈ zit k ls.length
 | [],_=>yaz.mpr rfl
 | e :: ls,h=>by
  have h1:=h e (.head _);refine List.mem_flatMap.mpr ⟨(e + 2).toNat,ybm.mpr (1:),yap.mpr ⟨ls,zeR λ x hx=>h x (.tail _ hx),?_⟩⟩;congr 1; omega
noncomputable def zhu (w:Nat):Bool:=(zit (w + 2) w).all λ ls=>zku ls != Dit.noneHash
def zkK:zhu 1=true:=by decide +kernel
def zkk:zhu 2=true:=by decide +kernel
def zkM:zhu 3=true:=by decide +kernel
def zmd {w:Nat} (h1:1 <= w) (h3:w <= 3) {ls:List Int} (h:Ld w ls):NoN ls:=by
 have hm:=zeR (k:=w + 2) (ls:=ls) λ e he=>by have:=h.2 e he; omega
 rw [h.1] at hm
 have:zhu w=true:=by
  match w,h1,h3 with
  | 1,_,_=>exact zkK
  | 2,_,_=>exact zkk
  | 3,_,_=>exact zkM
 have:=ybv.mp this ls hm;simpa [NoN] using this
section
variable {X:Cx} {i o:Expr} {ty td:TE} {pos:Pos}
noncomputable def ze1 (ty td:TE):TE:=λ σ H Q=>ty σ H λ y H1=>td σ H1 λ x H2=>∃ a,x=.ref a /\ ((∃ o,DGet H2 a y o /\ Q (.bl (!o.isSome)) H2) \/ ∃ kvs,y=.non /\ Rd H2 a (.dT kvs) /\ (∀ kv ∈ kvs,∃ ls,kv.1=kI ls /\ NoN ls) /\ Q (.bl true) H2)
def zk5 {H:Hp}:∀ {kvs:List (List Key × V)} {xs:List (List Key × Addr × Value)},Paired (λ (p:List Key × V) (q:List Key × Addr × Value)=>p.1=q.1 /\ H q.2.1=some (.tup (p.1.map kV)) /\ RelV p.2 q.2.2) kvs xs -> ∀ q ∈ xs,∃ kv ∈ kvs,kv.1=q.1
 | _,_,.nil,q,h=>by simp at h
 | _,_,.cons (a:=p) r t,q,h=>by
  rcases yal.mp h with rfl | h
  ·exact ⟨p,yay ..,r.1⟩
  ·obtain ⟨kv,h1,h2⟩:=zk5 t q h;exact ⟨kv,yan _ h1,h2⟩
def zia (hu:X.A.units + 1 < cLine) (hi:PE X i ty) (ho:PE X o td):PC X .NotIn i o (ze1 ty td):=by
 intro pins s σ H Q I h;refine thn (hi pins s σ H _ I h) λ iv s1 ⟨y,H1,I1,ry,q1⟩=>thn (ho pins s1 σ H1 _ I1 q1) λ u s2 ⟨x,H2,I2,rx,a,ex,q2⟩=>?_;subst ex;obtain rfl:u=Value.ref a:=rx;rcases q2 with ⟨ov,g,q2⟩ | ⟨kvs,rfl,hr,hN,q2⟩
 ·exact ziN hu I2 g ry λ s3 I3=>⟨.bl (!ov.isSome),H2,I3,rfl,q2⟩
 ·cases (show iv = Value.none from ry);obtain ⟨z1, z2, xs, rel, o, es, ep, h1, h2, h3, h4, h5⟩ := (show zaN X.prog X.w H2 s2.heap a (.dT kvs) from hr.ok I2.hok)
  refine Dit.notIn_none hu z2 h1 h2 h3 (λ e he=>?_) λ tk=>⟨.bl true,H2,I2.tok _,rfl,q2⟩
  rw [h4] at he;obtain ⟨q,hq,rfl⟩:=yap.mp he;obtain ⟨kv,k1,k2⟩:=zk5 rel q hq;obtain ⟨ls,k3,k4⟩:=hN kv k1;show tupleKeyHash (zaV X.prog X.w) q.1 ≠ _;rw [<- k2,k3]
  have e:tupleKeyHash (zaV X.prog X.w) (kI ls)=zku ls:=by
   unfold tupleKeyHash zku;rw [ya7]; rfl
  rw [e]; exact k4
def zhS (hu:X.A.units + 64 < cLine) (hi:PE X i ty) (ho:PE X o td) (h1:behindInMarks .NotIn o=false:=by rfl):PT X (.Compare i [.NotIn] [o] pos) (tB (ze1 ty td)):=zjx (zia (yaU (ybt (3:) _) hu) hi ho) h1
end
def zhR {ty td:TE} {σ:St} {H:Hp} {Q:VK} (h:ty σ H λ y H1=>td σ H1 λ x H2=>∃ a,x=.ref a /\ ((∃ o,DGet H2 a y o /\ Q (.bl (!o.isSome)) H2) \/ ∃ kvs,y=.non /\ Rd H2 a (.dT kvs) /\ (∀ kv ∈ kvs,∃ ls,kv.1=kI ls /\ NoN ls) /\ Q (.bl true) H2)):ze1 ty td σ H Q:=h
def FndG.keysN {H:Hp} {w:Nat} {L:List (Addr × Dd)} {G:List (List Int × Nat)}:∀ {F:List (List Int × Nat)} {kvs:List (List Key × V)},FndG H w L G F kvs -> (∀ q ∈ F,NoN q.1) -> ∀ kv ∈ kvs,∃ ls,kv.1=kI ls /\ NoN ls
 | _,_,.nil,_,kv,h=>by simp at h
 | _,_,.cons (a:=q) r t,hN,kv,h=>by
  rcases yal.mp h with rfl | h
  ·exact ⟨q.1,r.1,hN q (yay ..)⟩
  ·exact FndG.keysN t (λ x hx=>hN x (yan _ hx)) kv h
def FndG.keys {H:Hp} {w:Nat} {L:List (Addr × Dd)} {G:List (List Int × Nat)}:∀ {F:List (List Int × Nat)} {kvs:List (List Key × V)},FndG H w L G F kvs -> kvs.map (·.1)=F.map λ q=>kI q.1
 | _,_,.nil=>rfl
 | _,_,.cons (a:=q) r t=>by rw [yaI,yaI,r.1,FndG.keys t]
noncomputable def zd9 (K:PySem.W.Frag):Sp:=λ vs H Q _=>∃ (w:Nat) (m:Addr) (v:V) (L:List (Addr × Dd)) (W:List Int -> Prop),vs=[nV w,.ref m,v] /\ zhh K H m L /\ Rw H w L /\ 1 <= w /\ w <= 3 /\ L.length <= 1000 /\ ((v=.non /\ ∀ x,¬ W x) \/ ∃ l ls,v=.ref l /\ H l=some (.tup (ls.map V.int)) /\ ∀ x,W x ↔ x=ls) /\
 ∀ (f:Addr) (o:Obj) (kvs:List (List Key × V)) (H':Hp) (F:List (List Int × Nat)) (n:Nat) (E:List (List Int)),Same H H' -> Frz H' f o kvs -> Fnd H' w L F kvs -> Ring (steps w L) w n F E -> (E=[] \/ ∃ x,W x /\ x ∈ F.map (·.1)) -> Q (.ref f) H'
structure Rch (w:Nat) (L:List (Addr × Dd)) (G:List (Nat × List Int)):Prop where
 all:∀ n x,(n,x) ∈ G ↔ Dst (steps w L) w n x
 once:G.Nodup
 ord:OrdP w G
 few:G.length <= 1296
noncomputable def zjH (K:PySem.W.Frag):Sp:=λ vs H Q _=>∃ (w:Nat) (m:Addr) (L:List (Addr × Dd)),vs=[nV w,.ref m] /\ zhh K H m L /\ Rw H w L /\ 1 <= w /\ w <= 3 /\ L.length <= 1000 /\ ∀ (r:Addr) (ps:List Addr) (G:List (Nat × List Int)) (H':Hp),H r=none -> Same H H' -> Rch w L G -> Prs2 H' G ps -> H' r=some (.lst (ps.map V.ref)) -> Q (.ref r) H'
noncomputable def zfY (K:PySem.W.Frag):Sp:=λ vs H Q _=>∃ (w:Nat) (m l:Addr) (L:List (Addr × Dd)) (ls:List Int),vs=[.ref l,.ref m] /\ zhh K H m L /\ Rw H w L /\ 1 <= w /\ w <= 3 /\ L.length <= 1000 /\ H l=some (.tup (ls.map V.int)) /\ Ld w ls /\
 (∀ H',Same H H' -> (∀ n,¬ Dst (steps w L) w n ls) -> Q .non H') /\ ∀ (H':Hp) (n:Nat),Same H H' -> Dst (steps w L) w n ls -> Q (nV n) H'
noncomputable def cnv (e:En):Dd:=match e.1,e.2 with
 | 0,[m]=>.and m.toNat | 1,[m]=>.or m.toNat | 2,[m]=>.left m.toNat | 3,[m]=>.right m.toNat | 4,[m]=>.turn m.toNat
 | 5,[m,n]=>.swap m.toNat n.toNat | 6,[m]=>.gather m.toNat | 7,[m]=>.strew m.toNat | 8,[m,n]=>.copy m.toNat n | _,_=>.and 0
noncomputable def okD (w:Nat):Dd -> Bool
 | .and m=>decide (m < 2 ^ w) | .or m=>decide (m < 2 ^ w) | .left n=>decide (n <= w) | .right n=>decide (n <= w) | .turn n=>decide (n < w) | .gather m=>decide (m < 2 ^ w) | .strew m=>decide (m < 2 ^ w)
 | .swap m n=>decide (1 <= n) && decide (n < w) && decide (m < 2 ^ w) && (List.range w).all λ p=>!m.testBit p || (decide (p + n < w) && !m.testBit (p + n))
 | .copy m n=>decide (n ≠ 0) && decide (-(w:Int) < n) && decide (n < w) && decide (m < 2 ^ w) && (List.range w).all λ p=>!m.testBit p || (decide (0 <= (p:Int) + n) && decide ((p:Int) + n < w))
def znG {w:Nat}:∀ {d:Dd},okD w d=true -> d.ok w
 | .and m,h=>(of_decide_eq_true (p:=m < 2 ^ w) h)
 | .or m,h=>(of_decide_eq_true (p:=m < 2 ^ w) h)
 | .left m,h=>(of_decide_eq_true (p:=m <= w) h)
 | .right m,h=>(of_decide_eq_true (p:=m <= w) h)
 | .turn m,h=>(of_decide_eq_true (p:=m < w) h)
 | .gather m,h=>(of_decide_eq_true (p:=m < 2 ^ w) h)
 | .strew m,h=>(of_decide_eq_true (p:=m < 2 ^ w) h)
 | .swap m n,h=>by
  simp only [okD,yam,decide_eq_true_eq,ybv,ybm,yb5,ybQ] at h;obtain ⟨⟨⟨h1,h2⟩,h3⟩,h4⟩:=h;refine ⟨h1,h2,λ p hp=>?_⟩;by_cases c:p < w
  ·rcases h4 p c with z | z
   ·rw [hp] at z; cases z
   ·exact z
  ·rw [zgk h3 (1:)] at hp; cases hp
 | .copy m n,h=>by
  simp only [okD,yam,decide_eq_true_eq,ybv,ybm,yb5,ybQ] at h;obtain ⟨⟨⟨⟨h1,h2⟩,h3⟩,h4⟩,h5⟩:=h;refine ⟨h1,h2,h3,h4,λ p hp=>?_⟩;by_cases c:p < w
  ·rcases h5 p c with z | z
   ·rw [hp] at z; cases z
   ·exact z
  ·rw [zgk h4 (1:)] at hp; cases hp
noncomputable def shD (e:En):Bool:=match e.1,e.2 with
 | 0,[m]=>decide (0 <= m) | 1,[m]=>decide (0 <= m) | 2,[m]=>decide (0 <= m) | 3,[m]=>decide (0 <= m) | 4,[m]=>decide (0 <= m)
 | 5,[m,n]=>decide (0 <= m) && decide (0 <= n) | 6,[m]=>decide (0 <= m) | 7,[m]=>decide (0 <= m) | 8,[m,_]=>decide (0 <= m) | _,_=>false
def zmn {e:En} (h:shD e=true):dec e=(cnv e).vals:=by
 obtain ⟨k,is⟩:=e;have one:∀ (m:Int),0 <= m -> V.int m=nV m.toNat:=λ m hm=>by show V.int m=V.int (m.toNat:Int); rw [ybW hm]
 unfold shD at h
 split at h <;> first
  | (rename_i hk hi; simp only at hk hi; subst hk; subst hi; simp only [yam,decide_eq_true_eq] at h; simp only [dec,cnv,Dd.vals,yaI,List.map_nil]; first | (rw [one _ h]; rfl) | (rw [one _ h.1,one _ h.2]; rfl))
  | cases h
noncomputable def zkz (w:Nat):Bool:=(lawF w).all λ e=>okD w (cnv e) && shD e
def zl3:zkz 1=true:=by decide +kernel
def zln:zkz 2=true:=by decide +kernel
def zlZ:zkz 3=true:=by decide +kernel
def znT {w:Nat} (h1:1 <= w) (h3:w <= 3):∀ e ∈ lawF w,(cnv e).ok w /\ dec e=(cnv e).vals:=λ e he=>by
 have:zkz w=true:=by
  match w,h1,h3 with
  | 1,_,_=>exact zl3
  | 2,_,_=>exact zln
  | 3,_,_=>exact zlZ
 have:=ybv.mp this e he;rw [yam] at this;exact ⟨znG this.1,zmn this.2⟩
def zls {w:Nat} (h1:1 <= w) (h3:w <= 3):(lawF w).length <= 100:=by
 match w,h1,h3 with
 | 1,_,_=>decide +kernel
 | 2,_,_=>decide +kernel
 | 3,_,_=>decide +kernel
noncomputable def asDd (L:List (Addr × En)):List (Addr × Dd):=L.map λ q=>(q.1,cnv q.2)
def zkA (L:List (Addr × En)):rowV (asDd L)=tlV L:=by simp [asDd,rowV,tlV]
def zl5 {H:Hp} {w:Nat} {L:List (Addr × En)} (h1:1 <= w) (h3:w <= 3) (hL:TL H L) (e:ens L=lawF w):Rw H w (asDd L) /\ (asDd L).length <= 100:=by
 refine ⟨λ q hq=>?_,?_⟩
 ·obtain ⟨x,hx,rfl⟩:=yap.mp hq;have:=znT h1 h3 x.2 (by rw [<- e]; exact yap.mpr ⟨x,hx,rfl⟩);exact ⟨by rw [<- this.2]; exact hL x hx,this.1⟩
 ·have:=congrArg List.length e;rw [ens,yac] at this;rw [asDd,yac,this];exact zls h1 h3
end L2
namespace PySem
open PyProof.Rows
section
variable {prog:Program} {w:World} {A:Around} {E:Value -> Shared -> Prop} {s:Shared}
def zgB {Q:List Value -> Shared -> Prop} {I l:Addr} {items:Array Value} (hh:A.handled=none) (hit:s.heap.IsRevIter I l ((items.size:Int) - 1)) (hl:s.heap.IsList l items) (hne:l ≠ I) (hlen:items.size <= sizeLine)
  (h:∀ (h':Heap) (tk:Nat) (acc:Array Value),(∀ b o,b ≠ I -> s.heap.get? b=some o -> h'.get? b=some o) -> ItemsOf (λ i v=>items[items.size - 1 - i]?=some v) acc items.size -> Q acc.toList { s with heap:=h',toks:=tk }) :
  wpAny (model prog w) A (collect (.ref I)) Q E s:=by
 have hIl:I < s.heap.objs.size:=by obtain ⟨o,e,_⟩:=hit; exact yad e
 have hll:l < s.heap.objs.size:=by obtain ⟨o,e,_⟩:=hl; exact yad e
 unfold collect;refine wpAny_bind (wpAny_runValue (codeAny_builtin entry_proto_collect' ?_));rw [ybl yci _];show wpAny _ A.in1 (do again (.builtin "list.__iadd__" ⟨[<- newList [],.ref I],[]⟩)) _ _ s;refine wpAny_bind (wpAny_newList (wpAny_pure ⟨ycA _ (28:),codeAny_builtin entry_list_iadd' ?_⟩));rw [ybl yce _];show wpAny _ A.in1 (Builtin.List.listExtendWith (.ref s.heap.objs.size) (.ref I) (.ref s.heap.objs.size)) _ _ { s with heap:=s.heap.push (seqObj "list" #[] 0) }
 refine zdP (s:={ s with heap:=s.heap.push (seqObj "list" #[] 0) }) (R:=λ r s'=>match r with
   | .ok (.ret v)=>wpAny (model prog w) A (match v with
     | .ref a=>do
      let o <- load a
      match o.data with
      | .seq xs _=>pure xs.toList
      | _=>unsupported "internal:collect"
     | _=>unsupported "internal:collect") Q E s'
   | .ok _=>False
   | .error e=>E e s') hh (hit.at λ o e=>yab _ e) (hl.push _) hne hlen s.heap.objs.size _ 0 (yae _ rfl) (ya5 hIl) (ya5 hll) λ h' tk acc' c' hk hS' hacc=>?_
 show wpAny _ A (load s.heap.objs.size >>= _) _ _ { s with heap:=h',toks:=tk };refine wpAny_bind (wpAny_load hS' (wpAny_pure ?_));exact h h' tk acc' (λ b o hb e=>hk b o (yau (yad e)) hb (yab _ e)) hacc
end
def zcT (I l:Addr) (items:Array Value) (hlen:items.size <= sizeLine) (hne:l ≠ I) :
  Meets (Builtin.«tuple.__new__» ⟨[.type "tuple",.ref I],[]⟩)
   (fun A R s => A.handled = none /\ s.heap.IsRevIter I l ((items.size : Int) - 1) /\ s.heap.IsList l items /\ ∀ (h' : Heap) (tk : Nat) (acc : Array Value), (∀ b o, b ≠ I -> s.heap.get? b = some o -> h'.get? b = some o) -> ItemsOf (fun i v => items[items.size - 1 - i]? = some v) acc items.size ->
    R (.ok (.ret (.ref h'.objs.size))) { s with heap:=h'.push { cls:=.type "tuple",data:=.seq acc },toks:=tk }):=
 .of_wp λ prog w A R s h=>by
  obtain ⟨hh,hr,hl,h⟩:=h;have hsub:=sub_tuple_self;have hinit:=init_tuple_lookup;have hmh:=madeHere_tuple;have hT:s.TypeIs (.ref I) "list_reverseiterator":=hr.typeIs;have hh1:A.in1.handled=none:=hh
  wp_walk using wpAny_typeOf hT,zgB hh1 hr hl hne hlen
  intro h' tk acc hk hacc;show wpAny _ _ (Builtin.Tuple.tupleExact acc.toList.toArray >>= λ v=>ret v) _ _ _;unfold Builtin.Tuple.tupleExact;refine wpAny_bind (wpAny_newObj_type ?_ (show acc.toList.toArray.size <= sizeLine by simp only [ycp]; rw [hacc.1]; omega));refine wpAny_pure ⟨_,rfl,?_⟩;have e:acc.toList.toArray=acc:=by simp
  rw [e];exact h h' tk acc hk hacc
def zeB {prog:Program} {w:World} {A:Around} {E:Value -> Shared -> Prop} {s:Shared} {Q:Value -> Shared -> Prop} {I l:Addr} {items:Array Value} (hh:A.handled=none) (hit:s.heap.IsRevIter I l ((items.size:Int) - 1)) (hl:s.heap.IsList l items) (hne:l ≠ I) (hlen:items.size <= sizeLine)
  (h:∀ (h':Heap) (tk:Nat) (acc:Array Value),(∀ b o,b ≠ I -> s.heap.get? b=some o -> h'.get? b=some o) -> ItemsOf (λ i v=>items[items.size - 1 - i]?=some v) acc items.size -> Q (.ref h'.objs.size) { s with heap:=h'.push { cls:=.type "tuple",data:=.seq acc },toks:=tk }) :
  wpAny (model prog w) A (call (.type "tuple") [.ref I]) Q E s:=by
 refine callType_new F.called_tuple (3:) (F.typeCall_tuple_1 _) (F.newCall_tuple_1 _) (λ obj=>ycq obj _) F.entry_tuple_new
  (zcT I l items hlen hne) ⟨hh,hit,hl,λ h' tk acc hk hacc=>⟨⟨_,yae _ rfl,rfl⟩,?_⟩⟩
 exact h h' tk acc hk hacc
end PySem
namespace L2
open PySem PySem.Spec PyProof.Rows Bm
section
variable {X:Cx} {K:PySem.W.Frag} {a:Expr} {ta:TA} {p p2 pos pos2:Pos}
noncomputable def znU (K:PySem.W.Frag) (ta:TA):TE:=λ σ H Q=>ta σ H λ vs H1=>∃ a xs,vs=[.ref a] /\ SqL K H1 a xs /\ ∀ l,H1 l=none -> Q (.ref l) (upd H1 l (.tup xs.reverse))
def zcD (hc:X.calm=true) (hml:X.mg "tuple"=none) (hmr:X.mg "reversed"=none) (ha:PA X [a] ta) (hgl:Gl X "tuple":=by rfl) (hgr:Gl X "reversed":=by rfl) (hK:X.K=K:=by rfl)
  (hs:starEach [a] X.env=[(false,eval a X.env)]:=by rfl)
  (hs1:starEach [(.Call (.Name "reversed" p) [a] [] pos:Expr)] X.env=[(false,eval (.Call (.Name "reversed" p) [a] [] pos) X.env)]:=by rfl) :
  PE X (.Call (.Name "tuple" p2) [.Call (.Name "reversed" p) [a] [] pos] [] pos2) (znU K ta):=by
 subst hK;intro pins s σ H Q I h;refine wpAny_Call_Name_kw (zcg I hgl hml boot_tuple ?_);refine yaJ ?_ hs1 rfl;rw [hs1];show wpAny _ _ (spliced ((false,eval (.Call (.Name "reversed" p) [a] [] pos) X.env) :: backTo pos2 [])) _ _ s;refine yb4 ?_;refine Call_ (zcg I hgr hmr boot_reversed (yaJ (thn (ha pos pins s σ H _ I h) λ us s1 ⟨vs,H1,I1,r1,q1⟩=>?_) hs rfl));obtain ⟨a,xs,e,hq,q⟩:=q1;subst e;cases r1 with
 | cons r rr=>
  cases rr;cases r;obtain ⟨its,rv,pl,hz⟩:=I1.list hq;have hlen:=rv.length;refine call_reversed_list pl.isList ?_;have I2:Inv X pins σ H1 { s1 with heap:=s1.heap.push (revObj a ((its.toArray.size:Int) - 1)) }:=I1.kept (t':=s1.toks) λ b o e=>yab _ e;have al:a < s1.heap.objs.size:=by obtain ⟨o,n,e,_⟩:=pl; exact yad e
  obtain ⟨f0,f1,f2,f3,f4,f5⟩:=I1.fpOk (yag _) (I1.hok.fresh (yag _));refine ycd ?_;refine zeB (A:=X.A) (I.ok.hd hc) (I:=s1.heap.objs.size) (l:=a) (items:=its.toArray) ⟨_,yae _ rfl,rfl,rfl⟩ (pl.isList.push _) (yau al) (by rw [yak]; omega) λ h' tk acc' hk hacc=>?_;have ea:=ziZ rv hacc;have I4:Inv X pins σ H1 { s1 with heap:=h',toks:=tk }:=I2.turned (h':=h') (t':=tk) hk f0 f1 f3 f4 f5;exact ⟨.ref _,_,I4.laid (t':=tk) (o:=.tup xs.reverse) (λ b o e=>yab _ e) (yag _) ⟨by rw [ybD]; exact hz,its.reverse,rv.reverse,by rw [<- ea]; simpa using za5.new h' acc'⟩,rfl,q _ (I4.hok.fresh (yag _))⟩
end
def znB {K:PySem.W.Frag} {σ:St} {H:Hp} {Q:VK} {t:TA} (h:t σ H λ vs H1=>∃ a xs,vs=[.ref a] /\ SqL K H1 a xs /\ ∀ l,H1 l=none -> Q (.ref l) (upd H1 l (.tup xs.reverse))):znU K t σ H Q:=h
def Alike.prs {H:Hp} {a b:Addr} {G:List (Nat × List Int)} {ps qs:List Addr} (ha:H a=some (.lst (ps.map V.ref))) (hb:H b=some (.lst (qs.map V.ref))) (hp:Prs2 H G ps) (hq:Prs2 H G qs) (hz:G.length <= 1296) (hl:∀ q ∈ G,q.2.length <= 10000):Alike H 4 (.ref a) (.ref b):=by
 have z1:=hp.length;have z2:=hq.length;refine .lst ha hb (by rw [yac,yac]; omega) (by rw [yac]; omega) λ i x y hx hy=>?_;obtain ⟨p,ep,rfl⟩:=zbc hx;obtain ⟨q,eq,rfl⟩:=zbc hy;obtain ⟨u,e1,c,e2,e3⟩:=hp.get ep;obtain ⟨u',e4,c',e5,e6⟩:=hq.get eq;rw [e1] at e4;cases e4;have hu:=hl u (yav e1);refine .tup e2 e5 rfl (5:) λ j x y hx hy=>?_
 match j,hx,hy with
 | 0,hx,hy=>cases hx; cases hy; exact .int _ _
 | 1,hx,hy=>cases hx; cases hy; exact Alike.tints e3 e6 hu
 | j + 2,hx,hy=>simp at hx
def zkm (L:List (Addr × Dd)):rowV L.reverse=(rowV L).reverse:=by simp [rowV]
def zjD {w:Nat} {L:List (Addr × Dd)} {s:List Int}:s ∈ steps w L.reverse ↔ s ∈ steps w L:=by simp [steps]
end L2
set_option maxHeartbeats 0
open L2 in
local macro_rules | `(tactic| walk_at "pv")=>`(tactic| exact ⟨rfl,by first | exact Or.inl rfl | exact Or.inr (.inl rfl) | exact Or.inr (.inr rfl),by decide,by decide⟩)
open L2 in
local macro_rules | `(tactic| walk_at "vis")=>`(tactic| first | exact .inl rfl | exact .inr rfl | assumption)
open L2 in
local macro_rules | `(tactic| walk_at "lk2")=>`(tactic| first | assumption | exact zad | (refine (?h:∀ o,upd _ _ o _=some (HO.lst _)) _; (case h=>assumption)))
open L2 in
local macro_rules | `(tactic| walk_at "lk")=>`(tactic| first | assumption | exact zad | exact SqL.of (by walk_at "lk2") | exact SqT.of (by walk_at "lk2") | (refine (?h:∀ o,upd _ _ o _=some (HO.lst _)) _; (case h=>assumption)))
open L2 in
local macro_rules | `(tactic| walk_at "side")=>`(tactic| first | omega | decide | exact ⟨by omega,by omega⟩ | exact ⟨by omega,by omega,by omega⟩ | exact .inl ⟨by omega,by omega⟩ | exact .inr ⟨by omega,by omega⟩)
open L2 in
local macro_rules | `(tactic| walk_at "sz")=>`(tactic| (refine zaO ?_; first | omega | (simp only [yac,yaf,ybi,List.length_nil,ya6,yaX,Bm.bitsB]; omega)))
open L2 in
local macro_rules | `(tactic| walk_at "st")=>`(tactic| first
  | (with_reducible first | refine zoi ?_ | refine s_nx ?_ | refine s_rt ?_ | refine zot ?_ | refine zlD ?_)
  | ((with_reducible refine zol (v:=?v) ?e ?_); (case e=>exact rfl))
  | (with_reducible first | refine s_c ?_ | refine s_op ?_ | refine zng ?_ | refine znO ?_ | refine zov ?_)
  | ((with_reducible refine s_ri ?c ?_); (case c=>walk_at "side"))
  | (with_reducible first | refine zmf ?_)
  | ((with_reducible refine zkj ?c ?_); (case c=>walk_at "side"))
  | (with_reducible first | refine zmg ?_ | refine znx ?_ | refine zmk ?_)
  | ((with_reducible refine zl1 ?e ?_); (case e=>decide +kernel))
  | ((with_reducible refine zlW ?e ?_); (case e=>decide +kernel))
  | ((with_reducible refine zoe (xs:=?xs) ?hq ?e ?_); (case hq=>walk_at "lk"); (case e=>decide +kernel))
  | ((with_reducible refine zn8 (xs:=?xs) ?hq ?e ?_); (case hq=>walk_at "lk"); (case e=>decide +kernel))
  | ((with_reducible refine znN (xs:=?xs) ?hq ?e ?_); (case hq=>walk_at "lk"); (case e=>decide +kernel))
  | ((with_reducible refine znC (xs:=?xs) ?hq ?e ?_); (case hq=>walk_at "lk"); (case e=>decide +kernel))
  | (with_reducible first | refine zoj ?_ | refine s_if ?_ | refine zmN ?_ | refine s_b ?_ | refine zoh ?_ | refine zoq ?_ | refine s_or ?_ | refine zoa ?_ | refine zmE ?_ | refine zm1 ?_ | refine znf ?_ | refine s_un ?_ | refine s_ru ?_ | refine s_cb ?_ | refine znZ ?_ | refine zoo ?_ | refine zob ?_ | refine zmI ?_ | refine znK ?_ | refine zlG ?_ | refine znh ?_ | refine zm6 ?_ | refine zmM ?_ | refine zns ?_ | refine znm ?_ | refine zoc ?_ | refine zmD ?_ | refine ziJ ?_ | refine s_sl ?_ | refine zkN ?_ | refine zmS ?_ | refine zn3 ?_ | refine znz ?_)
  | ((with_reducible refine zn4 (xs:=?xs) ?hq ?_); (case hq=>walk_at "lk"))
  | ((with_reducible refine znr (xs:=?xs) ?hq ?_); (case hq=>walk_at "lk"))
  | ((with_reducible refine zcF (xs:=?xs) (v:=?v) ?hq ?h0 ?e ?_); (case hq=>walk_at "lk"); (case h0=>decide); (case e=>exact rfl))
  | ((with_reducible refine zjj (xs:=?xs) (v:=?v) ?hq ?h0 ?e ?_); (case hq=>walk_at "lk"); (case h0=>decide); (case e=>exact rfl))
  | ((with_reducible refine zmC (xs:=?xs) (j:=?j) ?hp ?e ?_); (case hp=>walk_at "lk"); (case e=>exact rfl); (try rw [zio]))
  | (with_reducible first | refine zoB ?_ | refine zof ?_ | refine zow ?_ | refine zox ?_ | refine znM ?_ | refine zke ?_ | refine zkQ ?_ | refine zjZ ?_)
  | ((with_reducible refine zj2 (xs:=?xs) ?hq ?_); (case hq=>walk_at "lk"))
  | ((with_reducible refine zkh (xs:=?xs) ?hq ?_); (case hq=>walk_at "lk"))
  | (with_reducible first | refine zna ?_ | refine zmV ?_)
  | ((with_reducible refine zny (xs:=?xs) ?hq ?hl ?_); (case hq=>walk_at "lk"); (case hl=>exact rfl))
  | ((with_reducible refine zn6 ?e ?_); (case e=>exact rfl))
  | ((with_reducible refine zmO ?e ?f ?_); (case e=>exact rfl); (case f=>exact rfl))
  | (with_reducible first | refine zoC ?_)
  | ((with_reducible refine zoz (xs:=?xs) ?hq ?_); (case hq=>walk_at "lk"))
  | ((with_reducible refine zos (xs:=?xs) ?hp ?hz ?_); (case hp=>walk_at "lk"); (case hz=>walk_at "sz"); (try rw [zio]))
  | (with_reducible first | refine zlJ ?_ | refine zj5 ?_ | refine znw ?_)
  | (with_reducible first | refine znt ?_ | refine zoD ?_ | refine zop ?_ | refine s_bm ?_ | refine iteT ?_ | refine iteF ?_))
open L2 in
local macro_rules | `(tactic| walk_at "go")=>`(tactic| repeat (walk_at "st"))
open L2 in
local macro_rules | `(tactic| walk_at "goI")=>`(tactic| repeat ((fail_if_success (with_reducible refine znf ?_)); (fail_if_success (with_reducible refine s_if ?_)); walk_at "st"))
namespace PySem.W.Fast
def tw18306377894766750761:=0
def tw6986604119172127117:=0
def tw606263799463363460:=0
def tw11925036843812287060:=0
def tw15063655146277157777:=0
def tw9374352034526254238:=0
def tw17509374075411441584:=0
def tw3398849935099415379:=0
def tw6566184883817313088:=0
def tw17275367800377952888:=0
def tw10425495523151039078:=0
def tw588954752035899997:=0
def tw17086570520615887177:=0
def tw16079100044644792850:=0
def tw15484514259620497611:=0
def tw6302935578311343987:=0
def tw566760819612608255:=0
def tw53400270401468340:=0
def tw17201514474727876615:=0
def tw3941034896218269548:=0
def tw3858185389247541306:=0
def tw7050858766709352990:=0
def tw12468538755896542348:=0
def tw605616202580146467:=0
def tw12323084592797647719:=0
def tw702328864840200340:=0
def tw7273966250288718490:=0
def tw6476095716021579501:=0
def tw15762034533497007915:=0
def tw10082480090621909157:=0
def tw750546066343493905:=0
def tw8413359474645451061:=0
def tw16675427061154950421:=0
def tw13577006894535536783:=0
def tw13874334903179815316:=0
def tw2913668206592143037:=0
def tw15601687621256467041:=0
def tw16428172053899850077:=0
def tw4686123163910693101:=0
def tw12439613391895590209:=0
def tw10898170684268321178:=0
def tw1577744349265521163:=0
def tw8460282885496912160:=0
def tw13732419901002449250:=0
def tw9173225460772087946:=0
def tw12989525652977588405:=0
def tw394052405913924377:=0
def tw12791490010109054976:=0
def tw11597254919638365194:=0
def tw2219900237591246836:=0
def tw1533510616889340255:=0
def tw5124478099508484149:=0
def tw11438180816108126887:=0
def tw5003026556744628169:=0
def tw17091542360143610425:=0
def tw14733048532881922395:=0
def tw12055826036585948605:=0
def tw4731543276913846455:=0
def tw1929669978838769450:=0
def tw13849657146599106164:=0
def tw1348768125552949311:=0
def tw7961322747374706168:=0
def tw14625457555409767220:=0
def tw1154692190015764571:=0
def tw17414583172849734444:=0
def tw13764897330693782453:=0
def tw8270620456491074797:=0
def tw8301823189953417594:=0
def tw18382246268559751388:=0
def tw4327033219158730780:=0
def tw8517386009248402363:=0
def tw3329827116552994360:=0
def tw9866670796587113412:=0
def tw13281088910600586181:=0
def tw2993542979095059026:=0
def tw5794786907833854108:=0
def tw2007185050982077724:=0
def tw7816049096025315984:=0
end PySem.W.Fast
namespace Lw
local macro_rules | `(tactic| symm)=>`(tactic| walk_at "go")
open PySem PyProof.Rows L2 Bm
noncomputable def top (i:Nat):Stmt:=PySem.Challenge.pw_bitlead_k30_all_that_are_led.main.body.getD i (.Pass ⟨0,0,0,0⟩)
noncomputable abbrev zdv:Stmt:=top 20
noncomputable abbrev zel:Stmt:=top 8
noncomputable abbrev zfk:Stmt:=top 1
noncomputable abbrev zb4:Stmt:=top 2
noncomputable abbrev zbn:Stmt:=top 12
noncomputable abbrev zbw:Stmt:=top 13
noncomputable abbrev zcQ:Stmt:=top 4
noncomputable abbrev zbb:Stmt:=top 15
noncomputable abbrev zb2:Stmt:=top 16
noncomputable abbrev zcJ:Stmt:=top 14
noncomputable abbrev zbe:Stmt:=top 11
noncomputable abbrev za8:Stmt:=top 22
noncomputable abbrev zhC:Stmt:=top 9
noncomputable abbrev zcO:Stmt:=top 23
noncomputable abbrev zdq:Stmt:=top 21
noncomputable abbrev zee:Stmt:=top 18
noncomputable abbrev zfm:Stmt:=top 19
noncomputable abbrev zb7:Stmt:=top 25
noncomputable abbrev zcU:Stmt:=top 26
noncomputable abbrev zb3:Stmt:=top 36
noncomputable abbrev zaG:Stmt:=top 35
noncomputable abbrev zcK:Stmt:=top 27
noncomputable abbrev zbl:Stmt:=top 28
noncomputable abbrev zbi:Stmt:=top 29
noncomputable abbrev zcM:Stmt:=top 30
noncomputable abbrev zcS:Stmt:=top 37
noncomputable abbrev zdf:Stmt:=top 31
noncomputable abbrev zbj:Stmt:=top 33
noncomputable abbrev zb0:Stmt:=top 32
noncomputable abbrev zbo:Stmt:=top 38
noncomputable abbrev zbF:Stmt:=top 39
noncomputable abbrev zbh:Stmt:=top 40
noncomputable abbrev zb8:Stmt:=top 41
noncomputable abbrev zf0:Stmt:=top 42
structure Blt (K:PySem.W.Frag) (mg:Str -> Option Value):Prop where
 b_abs:mg "abs"=none
 b_all:mg "all"=none
 b_bool:mg "bool"=none
 b_enumerate:mg "enumerate"=none
 b_int:mg "int"=none
 b_isinstance:mg "isinstance"=none
 b_len:mg "len"=none
 b_list:mg "list"=none
 b_max:mg "max"=none
 b_min:mg "min"=none
 b_range:mg "range"=none
 b_reversed:mg "reversed"=none
 b_sorted:mg "sorted"=none
 b_str:mg "str"=none
 b_tuple:mg "tuple"=none
 b_zip:mg "zip"=none
 g_NOUGHT:∃ t,mg "NOUGHT"=some (.int (-1) t)
 g_ONE:∃ t,mg "ONE"=some (.int (-2) t)
section
variable (P:Program) (w:World) (K:PySem.W.Frag) (mg:Str -> Option Value) (base:Heap)
noncomputable abbrev A0:Prop:=FnAt P w K mg base "deeds_to" ["found","leading"] 1 zfv
noncomputable abbrev A1:Prop:=FnAt P w K mg base "staying" ["width"] 1 zf7
noncomputable abbrev A2:Prop:=FnAt P w K mg base "bit_at" ["word","place"] 1 ziV
noncomputable abbrev A3:Prop:=FnAt P w K mg base "places_in" ["mask"] 2 zhc
noncomputable abbrev A4:Prop:=FnAt P w K mg base "gather_leading" ["width","mask"] 3 zg9
noncomputable abbrev A5:Prop:=FnAt P w K mg base "strew_leading" ["width","mask"] 3 zgi
noncomputable abbrev A6:Prop:=FnAt P w K mg base "is_within" ["thing","least","most"] 1 zhE
noncomputable abbrev A7:Prop:=FnAt P w K mg base "place_or_nought" ["width","place"] 2 zne
noncomputable abbrev A8:Prop:=FnAt P w K mg base "copy_source" ["mask","by","place"] 2 zfM
noncomputable abbrev A9:Prop:=FnAt P w K mg base "source_of" ["width","deed","place"] 3 zg7
noncomputable abbrev A10:Prop:=FnAt P w K mg base "deed_leading" ["width","deed"] 4 zhK
noncomputable abbrev A11:Prop:=FnAt P w K mg base "deeds_by_leading" ["width","menu"] 5 (zhG K)
noncomputable abbrev A12:Prop:=FnAt P w K mg base "then" ["one","other"] 1 zle
noncomputable abbrev A13:Prop:=FnAt P w K mg base "next_edge" ["found","edge","made_by"] 2 zk2
noncomputable abbrev A14:Prop:=FnAt P w K mg base "searched" ["width","menu","wanted"] 6 (zd9 K)
noncomputable abbrev A15:Prop:=FnAt P w K mg base "how_few" ["leading","menu"] 7 (zfY K)
noncomputable abbrev A16:Prop:=FnAt P w K mg base "reach" ["width","menu"] 7 (zjH K)
noncomputable abbrev A17:Prop:=FnAt P w K mg base "_law_hand" ["_law_script"] 1 (zk6 K)
noncomputable abbrev A18:Prop:=FnAt P w K mg base "_law_draw" ["_law_hand_here","_law_many"] 1 zkR
noncomputable abbrev A19:Prop:=FnAt P w K mg base "_law_goes" ["_law_width","_law_m","_law_n"] 1 zfq
noncomputable abbrev A20:Prop:=FnAt P w K mg base "_law_all" ["_law_width"] 2 zfJ
noncomputable abbrev A21:Prop:=FnAt P w K mg base "_law_word" ["_law_hand_here","_law_width"] 2 zk4
noncomputable abbrev A22:Prop:=FnAt P w K mg base "_law_swap_mask" ["_law_hand_here","_law_width","_law_n"] 2 zeQ
noncomputable abbrev A23:Prop:=FnAt P w K mg base "_law_copy_mask" ["_law_hand_here","_law_width","_law_n"] 3 zeV
noncomputable abbrev A24:Prop:=FnAt P w K mg base "_law_deed" ["_law_hand_here","_law_width"] 4 zlc
noncomputable abbrev A25:Prop:=FnAt P w K mg base "_law_menu" ["_law_hand_here","_law_width","_law_most"] 5 zkW
noncomputable abbrev A26:Prop:=FnAt P w K mg base "_law_bit" ["_law_word_here","_law_place"] 1 zhp
noncomputable abbrev A27:Prop:=FnAt P w K mg base "_law_from_pair" ["_law_deed_here","_law_places","_law_p"] 1 zeF
noncomputable abbrev A28:Prop:=FnAt P w K mg base "_law_from" ["_law_width","_law_deed_here"] 2 zkT
noncomputable abbrev A29:Prop:=FnAt P w K mg base "_law_behind" ["_law_one","_law_other"] 1 zf8
noncomputable abbrev A30:Prop:=FnAt P w K mg base "_law_rings" ["_law_width","_law_menu_here"] 3 ziQ
noncomputable abbrev A31:Prop:=FnAt P w K mg base "_law_asked" ["_law_hand_here","_law_width","_law_menu_here","_law_known"] 3 ziH
noncomputable abbrev A32:Prop:=FnAt P w K mg base "_law_same" ["_law_found","_law_due"] 5 (zc3 5)
end
noncomputable def At (K:PySem.W.Frag) (n:Str) (st:Stmt):Prop:=∃ (f:Addr) (od an:Option Addr) (sl:Array (Option Value)) (oc kV dc pm cd ct:Value),PySem.W.nsIn K mainGlobals n=some (some (.ref f)) /\ K.lookup f=some ⟨oc,od,.func (PySem.W.fnOf n n (zcN st) (zcm st) (zah st) .none kV dc pm an cd ct),sl⟩ /\ PySem.W.codeIn K cd n=true /\ PySem.W.keepIn K (.ref f)=true
def At.mk {K:PySem.W.Frag} {n:Str} {st:Stmt} {f:Addr} {od an:Option Addr} {sl:Array (Option Value)} {oc kV dc pm cd ct:Value} (e1:PySem.W.nsIn K mainGlobals n=some (some (.ref f))) (e2:K.lookup f=some ⟨oc,od,.func (PySem.W.fnOf n n (zcN st) (zcm st) (zah st) .none kV dc pm an cd ct),sl⟩) (e3:PySem.W.codeIn K cd n=true) (e4:PySem.W.keepIn K (.ref f)=true):At K n st:=⟨f,od,an,sl,oc,kV,dc,pm,cd,ct,e1,e2,e3,e4⟩
def At.at {P:Program} {w:World} {K:PySem.W.Frag} {h base:Heap} {mg:Str -> Option Value} {n:Str} {st:Stmt} {ps:List Str} {k:Nat} {sp:Sp} (X:K.In h) (G:h.Ns mainGlobals mg) (a:At K n st) (hb:∀ f fd,Fun K n n st f fd -> zgM K fd ps []) (ok:∀ f fd,Fun K n n st f fd -> FnOk P w K mg base CX0 k f fd ps sp):FnAt P w K mg base n ps k sp:=by
 obtain ⟨f,od,an,sl,oc,kV,dc,pm,cd,ct,e1,e2,e3,e4⟩:=a;have F:=zkX (st:=st) e2 e3 e4;exact ⟨f,_,ycC X G e1,e4,hb _ _ F,ok _ _ F⟩
section
variable {P:Program} {w:World} {K:PySem.W.Frag} {mg:Str -> Option Value} {base:Heap}
def zd4:FnScope ["found","leading"] ["found","leading"] (zah zdv):=⟨rfl,rfl,rfl,by decide +kernel,rfl,by decide +kernel,by decide +kernel⟩
def zgC {a:Addr} {fd:FuncData} (B:Blt K mg)  (F:Fun K "deeds_to" "deeds_to" zdv a fd):FnOk P w K mg base CX0 1 a fd ["found","leading"] zfv:=by
 refine F.ok zd4 (λ vs H Q E h=>?_) (λ cdv A outer s H vs Q E hr h=>?_)
 ·obtain ⟨f,l,b,kvs,ls,n,r,rfl,_⟩:=h;rfl
 ·have nd:=zd4.nd;have hu:=hr.units;obtain ⟨f,l,b,kvs,ls,n,r,rfl,hf,hl,hv,hb,k⟩:=h;refine ⟨_,((9:) ((19:) ((49:) (52:) (@zfV _ _ _ _ _ _ hu (8:) (16:) (68:)) (6:) (51:)))),?_⟩;symm;refine zec ?_;symm;refine ⟨f,.ref b,rfl,hv ▸ DGet.r hf hl,?_⟩;symm;exact k
def zeM:FnScope ["width"] ["width"] (zah zel):=⟨rfl,rfl,rfl,by decide +kernel,rfl,by decide +kernel,by decide +kernel⟩
def zic {a:Addr} {fd:FuncData} (B:Blt K mg)  (F:Fun K "staying" "staying" zel a fd):FnOk P w K mg base CX0 1 a fd ["width"] zf7:=by
 refine F.ok zeM (λ vs H Q E h=>?_) (λ cdv A outer s H vs Q E hr h=>?_)
 ·obtain ⟨w,rfl,_⟩:=h;rfl
 ·have nd:=zeM.nd;have hu:=hr.units;obtain ⟨w,rfl,hw,k⟩:=h;refine ⟨_,((9:) ((19:) (89:))),?_⟩;symm;refine ⟨w,rfl,by omega,λ l hl=>?_⟩;rw [zdW];exact k l _ (zaj hl) zad
def zfT:FnScope ["word","place"] ["word","place"] (zah zfk):=⟨rfl,rfl,rfl,by decide +kernel,rfl,by decide +kernel,by decide +kernel⟩
def ziy {a:Addr} {fd:FuncData} (B:Blt K mg)  (F:Fun K "bit_at" "bit_at" zfk a fd):FnOk P w K mg base CX0 1 a fd ["word","place"] ziV:=by
 refine F.ok zfT (λ vs H Q E h=>?_) (λ cdv A outer s H vs Q E hr h=>?_)
 ·obtain ⟨n,k,rfl,_⟩:=h;rfl
 ·have nd:=zfT.nd;have hu:=hr.units;obtain ⟨n,k,rfl,q⟩:=h;refine ⟨_,((9:) ((19:) ((10:) (@zdG _) ((10:) (@zfs _) (8:) (16:)) (6:)))),?_⟩;symm;rw [zcX];exact q
def zdC:FnScope ["mask"] ["mask"] (zah zb4):=⟨rfl,rfl,rfl,by decide +kernel,rfl,by decide +kernel,by decide +kernel⟩
def zfW {a:Addr} {fd:FuncData} (B:Blt K mg) (g_bit_at:A2 P w K mg base) (F:Fun K "places_in" "places_in" zb4 a fd):FnOk P w K mg base CX0 2 a fd ["mask"] zhc:=by
 refine F.ok zdC (λ vs H Q E h=>?_) (λ cdv A outer s H vs Q E hr h=>?_)
 ·obtain ⟨n,rfl,_⟩:=h;rfl
 ·have nd := zdC.nd;have hu := hr.units;obtain ⟨n, rfl, hn, q⟩ := h;have hb64 : zcd n <= 64 := zgn hn;refine ⟨_, ((9:) ((19:) (@zaS _ _ _ _ _ _ (zah zb4) _ ["mask"] ["place", "mask"] [none, some 0] _ _ _ _ rfl (@zax _ _ _ _ _ _ rfl B.b_range ((2:) (@zmJ _ K _ _ _ _ _ _ _ _ PySem.F.plainAttrs_int PySem.F.slot_int_bit_length PySem.F.type_int_bit_length (@zl6 _) (8:) (0:) (0:) (0:)) (4:) (0:)) (0:)) (fun _ _ _ _ => (@zat _ _ 0 _ (show List.Nodup (["place", "mask"] : List Str) by decide +kernel) rfl (12:) (11:))) (fun _ _ _ _ => (@zdm _ _ _ ((17:) (22:) ((14:) g_bit_at (15:) ((2:) (16:) ((2:) (8:) (4:) (0:)) (0:)) (0:) (3:) (0:) (0:)) (6:) (18:)))) (fun _ _ _ _ => (8:)) (28:) (0:) (0:) (21:)))), ?_⟩;symm;refine za1 (n := zcd n) (by rw [zg2]) (1:) ?_;refine zaA (fun i acc H' => H' = H /\ i <= 64 /\ acc = ((List.range i).filter n.testBit).map nV) ⟨rfl, by omega, rfl⟩ (fun i acc H' h => ?_) ?_ ?_
  ·obtain ⟨_,hi,rfl⟩:=h;have:=ybK n.testBit (List.range i);rw [ya6] at this;rw [yac];exact yaC (zaO (1:))
  ·rintro i acc H' hi ⟨rfl, hi64, rfl⟩;symm;refine ⟨n, i, rfl, ?_⟩;symm;refine zaC (fun h => ?_) (fun h => ?_)
   ·have hb:n.testBit i=true:=by
     cases e:n.testBit i
     ·rw [e] at h; cases h
     ·rfl
    symm;refine ⟨rfl,by omega,?_⟩;rw [yaO,yaN];simp [hb]
   ·have hb:n.testBit i=false:=by
     cases e:n.testBit i
     ·rfl
     ·rw [e] at h; exact absurd rfl h
    refine ⟨rfl,by omega,?_⟩;rw [yaO,yaN];simp [hb]
  ·rintro acc H' ⟨rfl,_,rfl⟩ p hp;exact q p _ hp (zaj hp) zad
def zbR:FnScope ["width","mask","places"] ["width","mask"] (zah zbn):=⟨rfl,rfl,rfl,by decide +kernel,rfl,by decide +kernel,by decide +kernel⟩
def zdl {a:Addr} {fd:FuncData} (B:Blt K mg) (g_places_in:A3 P w K mg base) (F:Fun K "gather_leading" "gather_leading" zbn a fd):FnOk P w K mg base CX0 3 a fd ["width","mask"] zg9:=by
 refine F.ok zbR (λ vs H Q E h=>?_) (λ cdv A outer s H vs Q E hr h=>?_)
 ·obtain ⟨w,m,rfl,_⟩:=h;rfl
 ·have nd:=zbR.nd;have hu:=hr.units;obtain ⟨w,m,rfl,hm,hw,k⟩:=h;have hl:=zco hm;refine ⟨_,((7:) (@zas _ _ 2 _ _ _ _ nd rfl (12:) ((14:) g_places_in (15:) ((2:) (16:) (4:) (0:)) (0:) (3:) (0:) (0:)) (0:) (11:)) ((9:) ((19:) ((56:) (@zif _ K (0:)) rfl B.b_tuple boot_tuple ((2:) ((10:) (27:) (13:) ((10:) (55:) ((47:) ((2:) (74:) (4:) (0:))) ((10:) (@za7 _) (8:) ((25:) (46:) rfl B.b_len boot_len ((2:) (13:) (4:) (0:)) (3:) (3:) (0:) (0:))))) (4:) (0:)) (3:) (3:) (0:) (0:))))),?_⟩;symm;refine ⟨m,rfl,lt64 hm hw,λ q H1 fq s1 n1=>?_⟩;symm;refine za2 (5:) λ a H2 f2 s2 n2=>?_;have n1':=s2 _ _ n1;symm;rw [yac];refine zkY (n:=w - (zae m).length) n2 (1:) (1:) λ r H3 f3 s3 n3=>?_;have n1'':=s3 _ _ n1';refine zdz n1'' n3 (by rw [yac,ybw]; omega) λ c H4 f4 s4 n4=>?_;symm;refine zes n4 λ t H5 f5 s5 n5=>?_;exact k t H5 (s1.trans (s2.trans (s3.trans (s4.trans s5)))) (by rw [n5,zh1 hm])
def zb9:FnScope ["width","mask","entries","place","to"] ["width","mask"] (zah zbw):=⟨rfl,rfl,rfl,by decide +kernel,rfl,by decide +kernel,by decide +kernel⟩
def zdT {a:Addr} {fd:FuncData} (B:Blt K mg) (g_places_in:A3 P w K mg base) (F:Fun K "strew_leading" "strew_leading" zbw a fd):FnOk P w K mg base CX0 3 a fd ["width","mask"] zgi:=by
 refine F.ok zb9 (λ vs H Q E h=>?_) (λ cdv A outer s H vs Q E hr h=>?_)
 ·obtain ⟨w,m,rfl,_⟩:=h;rfl
 ·have nd := zb9.nd;have hu := hr.units;obtain ⟨w, m, rfl, hm, hw, k⟩ := h;have hl := zco hm;refine ⟨_, ((7:) (@zas _ _ 2 _ _ _ _ nd rfl (12:) ((10:) (55:) ((47:) ((2:) (74:) (4:) (0:))) (8:)) (0:) (11:)) ((7:) ((40:) yaM rfl (@zim _ K _ _ _ _ _ _ _ B.b_enumerate ((2:) ((14:) g_places_in (15:) ((2:) (16:) (4:) (0:)) (0:) (3:) (0:) (0:)) (4:) (0:)) (0:) (0:) (0:)) (@zgI _ K _ _ _ _ 2 rfl (@zcu _ _ _ _ _ (@zat _ _ 3 _ nd rfl (12:) (11:)) (@zcu _ _ _ _ _ (75:) (@zgX _) (0:)) (0:)) (0:) (0:) (0:)) ((9:) (@zeO _ _ _ _ _ _ (20:) (@zfz _ _ _ _ _ _ _ (13:) (26:) (@zda _) (21:)) (0:) (0:) (0:))) (21:)) ((9:) ((19:) ((56:) (@zif _ K (0:)) rfl B.b_tuple boot_tuple ((2:) (13:) (4:) (0:)) (3:) (3:) (0:) (0:)))))), ?_⟩;symm;refine za2 (5:) fun a H2 f2 s2 n2 => ?_;symm;refine zkY (n := w) n2 rfl (1:) fun r H3 f3 s3 n3 => ?_;have s3 := s2.trans s3;have fr := s2.free f3;symm;refine ⟨m, rfl, lt64 hm hw, fun q H4 fq s4 n4 => ?_⟩
  have n3':H4 r=some (.lst ((zbG w m 0).map V.int)):=by
   rw [zgQ,List.map_replicate];exact s4 _ _ n3
  have s4:=s3.trans s4;have nqr:q ≠ r:=λ e=>by rw [e] at fq; rw [n3] at fq; cases fq
  symm;refine ⟨q,_,rfl,.inl ⟨SqL.of n4,?_⟩⟩;refine zjr (λ i σ H'=>Same H H' /\ i <= 64 /\ H' q=some (.lst ((zae m).map nV)) /\ H' r=some (.lst ((zbG w m i).map V.int)) /\ ∃ v3 v4,σ=[some (nV w),some (nV m),some (.ref r),v3,v4]) ⟨s4,by omega,n4,n3',_,_,rfl⟩ (λ i σ H' h=>SqL.of h.2.2.1) ?_ ?_
  ·rintro i u T σ H' hu hT ⟨s5,hi,nq,nr,v3,v4,rfl⟩;obtain ⟨y,hy,rfl⟩:=zbc hu;have hil:i < (zae m).length:=(yah.mp hy).1;have hyw:y < w:=zd2 hm (yav hy);have s6:=zaj (o:=.tup [V.int (i:Int),nV y]) hT;have nT:upd H' T (.tup [V.int (i:Int),nV y]) T=some (.tup [V.int (i:Int),nV y]):=zad;generalize upd H' T (.tup [V.int (i:Int),nV y])=H6 at s6 nT ⊢;have nq6:=s6 _ _ nq;have nr6:=s6 _ _ nr;symm;refine znA nr6 (by rw [yac,zhY]; exact hyw) ?_;refine ⟨(s5.trans s6).upd' fr,by omega,by rw [zak nqr]; exact nq6,?_,_,_,rfl⟩;rw [zad,<- zgx hm hy,List.map_set]
  ·rintro σ H' ⟨s5,_,nq,nr,v3,v4,rfl⟩;rw [yac,zh8] at nr;symm;refine zes nr λ t H7 f7 s7 n7=>?_;exact k t H7 (s5.trans s7) n7
def zdF:FnScope ["thing","least","most"] ["thing","least","most"] (zah zcQ):=⟨rfl,rfl,rfl,by decide +kernel,rfl,by decide +kernel,by decide +kernel⟩
def zfN {a:Addr} {fd:FuncData} (B:Blt K mg)  (F:Fun K "is_within" "is_within" zcQ a fd):FnOk P w K mg base CX0 1 a fd ["thing","least","most"] zhE:=by
 refine F.ok zdF (λ vs H Q E h=>?_) (λ cdv A outer s H vs Q E hr h=>?_)
 ·obtain ⟨i,lo,hi,rfl,_⟩:=h;rfl
 ·have nd := zdF.nd;have hu := hr.units;obtain ⟨i, lo, hi, rfl, k⟩ := h;refine ⟨_, ((7:) ((23:) (@PW.pt _ _ _ ((64:) (@zca _ _ _ ((25:) (44:) rfl B.b_isinstance boot_isinstance ((2:) (8:) ((2:) (65:) (4:) (0:)) (0:)) (3:) (3:) (0:) (0:)) (21:)) (@zeN _ _ _ _ (@zf5 _ _ _ _ (@zca _ _ _ ((25:) (44:) rfl B.b_isinstance boot_isinstance ((2:) (8:) ((2:) (@za6 _ _ (.ty "int") _ _ rfl B.b_int boot_int rfl (3:) (3:)) (4:) (0:)) (0:)) (3:) (3:) (0:) (0:)) (21:)))))) ((9:) ((19:) (@zgz _ _ _ _))) (24:)) ((9:) ((19:) (@zhA _ _ _ _ _ _ _ _ _ _ _ _ (@zme _) (@zme _) (16:) (8:) (13:) (by with_unfolding_all rfl))))), ?_⟩;symm;refine zdw (fun h1 => ?_) (fun h1 => ?_)
  ·symm;rw [decide_eq_true h1,Bool.true_and] at k;exact k
  ·symm;rw [decide_eq_false h1,Bool.false_and] at k;exact k
def zbE:FnScope ["width","place"] ["width","place"] (zah zbb):=⟨rfl,rfl,rfl,by decide +kernel,rfl,by decide +kernel,by decide +kernel⟩
def zcY {a:Addr} {fd:FuncData} (B:Blt K mg) (g_is_within:A6 P w K mg base) (F:Fun K "place_or_nought" "place_or_nought" zbb a fd):FnOk P w K mg base CX0 2 a fd ["width","place"] zne:=by
 refine F.ok zbE (λ vs H Q E h=>?_) (λ cdv A outer s H vs Q E hr h=>?_)
 ·obtain ⟨w,z,rfl,_⟩:=h;rfl
 ·have nd := zbE.nd;have hu := hr.units;obtain ⟨w, z, rfl, q⟩ := h;refine ⟨_, ((9:) ((19:) ((37:) (@zca _ _ _ ((14:) g_is_within (15:) ((2:) (16:) ((2:) (6:) ((2:) ((10:) (@za7 _) (8:) (6:)) (4:) (0:)) (0:)) (0:)) (0:) (3:) (0:) (0:)) (21:)) (16:) (74:)))), ?_⟩;symm;refine ⟨z, 0, (w : Int) - 1, rfl, ?_⟩;symm;refine ite2 (fun h => ?_) (fun h => ?_)
  ·symm;rw [yam,decide_eq_true_iff,decide_eq_true_iff] at h;rw [pon,if_pos h] at q;exact q
  ·symm;rw [yam,decide_eq_true_iff,decide_eq_true_iff] at h;rw [pon,if_neg h] at q;exact q
def zcH:FnScope ["mask","by","place","source"] ["mask","by","place"] (zah zb2):=⟨rfl,rfl,rfl,by decide +kernel,rfl,by decide +kernel,by decide +kernel⟩
def zew {a:Addr} {fd:FuncData} (B:Blt K mg) (g_bit_at:A2 P w K mg base) (F:Fun K "copy_source" "copy_source" zb2 a fd):FnOk P w K mg base CX0 2 a fd ["mask","by","place"] zfM:=by
 refine F.ok zcH (λ vs H Q E h=>?_) (λ cdv A outer s H vs Q E hr h=>?_)
 ·obtain ⟨m,n,p,rfl,_⟩:=h;rfl
 ·have nd := zcH.nd;have hu := hr.units;obtain ⟨m, n, p, rfl, q⟩ := h;refine ⟨_, ((7:) (@zas _ _ 3 _ _ _ _ nd rfl (12:) ((10:) (@za7 _) (13:) (16:)) (0:) (11:)) ((9:) ((19:) ((37:) (@PW.pt _ _ _ ((45:) ((17:) (@zjU _) (20:) (6:) (18:)) ((53:) ((17:) (22:) ((14:) g_bit_at (15:) ((2:) (8:) ((2:) (20:) (4:) (0:)) (0:)) (0:) (3:) (0:) (0:)) (6:) (18:))))) (20:) (13:))))), ?_⟩;symm;refine zdw (fun h => ?_) (fun h => ?_)
  ·obtain ⟨y, ey⟩ : ∃ y : Nat, (p : Int) - n = (y : Int) := ⟨((p : Int) - n).toNat, by omega⟩
   rw [ey] at q ⊢;rw [zeb] at q;symm;refine ⟨m,y,rfl,?_⟩;symm;refine zaC (λ h2=>?_) (λ h2=>?_)
   ·symm
    have:m.testBit y=true:=by
     cases e:m.testBit y
     ·rw [e] at h2; cases h2
     ·rfl
    rw [if_pos this] at q;exact q
   ·symm;have:¬ m.testBit y=true:=λ e=>h2 (by rw [e]; rfl);rw [if_neg this] at q;exact q
  ·symm;rw [if_neg (by unfold inM; rw [decide_eq_false (1:)]; exact yaq)] at q;exact q
def zdA:FnScope ["width","deed","place","name"] ["width","deed","place"] (zah zcJ):=⟨rfl,rfl,rfl,by decide +kernel,rfl,by decide +kernel,by decide +kernel⟩
def zge {a:Addr} {fd:FuncData} (B:Blt K mg) (g_bit_at:A2 P w K mg base) (g_place_or_nought:A7 P w K mg base) (g_copy_source:A8 P w K mg base) (F:Fun K "source_of" "source_of" zcJ a fd):FnOk P w K mg base CX0 3 a fd ["width","deed","place"] zg7:=by
 refine F.ok zdA (λ vs H Q E h=>?_) (λ cdv A outer s H vs Q E hr h=>?_)
 ·obtain ⟨w,p,b,d,rfl,_⟩:=h;rfl
 ·have nd := zdA.nd;have hu := hr.units;obtain ⟨w, p, b, d, rfl, hb, hd, hf, hp, hw, q⟩ := h;refine ⟨_, ((7:) (@zas _ _ 3 _ _ _ _ nd rfl (12:) (38:) (0:) (11:)) ((7:) ((23:) ((17:) (22:) (20:) (35:) (18:)) ((9:) ((19:) ((37:) ((17:) (22:) ((14:) g_bit_at (15:) ((2:) (38:) ((2:) (13:) (4:) (0:)) (0:)) (0:) (3:) (0:) (0:)) (6:) (18:)) (13:) (74:)))) (24:)) ((7:) ((23:) ((17:) (22:) (20:) (35:) (18:)) ((9:) ((19:) ((37:) ((17:) (22:) ((14:) g_bit_at (15:) ((2:) (38:) ((2:) (13:) (4:) (0:)) (0:)) (0:) (3:) (0:) (0:)) (6:) (18:)) (@zdd _ _ _ _ B.g_ONE (0:) (3:)) (13:)))) (24:)) ((7:) ((23:) ((17:) (22:) (20:) (35:) (18:)) ((9:) ((19:) ((14:) g_place_or_nought (15:) ((2:) (8:) ((2:) ((10:) (@za7 _) (13:) (38:)) (4:) (0:)) (0:)) (0:) (3:) (0:) (0:)))) (24:)) ((7:) ((23:) ((17:) (22:) (20:) (35:) (18:)) ((9:) ((19:) ((14:) g_place_or_nought (15:) ((2:) (8:) ((2:) ((10:) (27:) (13:) (38:)) (4:) (0:)) (0:)) (0:) (3:) (0:) (0:)))) (24:)) ((7:) ((23:) ((17:) (22:) (20:) (35:) (18:)) ((9:) ((19:) ((10:) (@zcW _) ((10:) (@za7 _) (13:) (38:)) (8:)))) (24:)) ((7:) ((23:) (@PW.pt _ _ _ ((45:) ((17:) (22:) (20:) (35:) (18:)) ((53:) ((17:) (22:) ((14:) g_bit_at (15:) ((2:) (38:) ((2:) (13:) (4:) (0:)) (0:)) (0:) (3:) (0:) (0:)) (6:) (18:))))) ((9:) ((19:) ((10:) (27:) (13:) (38:)))) (24:)) ((9:) ((19:) ((14:) g_copy_source (15:) ((2:) (38:) ((2:) (38:) ((2:) (13:) (4:) (0:)) (0:)) (0:)) (0:) (3:) (0:) (0:))))))))))), ?_⟩;cases d with
  | and m=>
   symm;refine ⟨m,p,rfl,?_⟩;symm;refine zaC (λ h2=>?_) (λ h2=>?_)
   ·symm
    have:m.testBit p=true:=by
     cases e:m.testBit p
     ·rw [e] at h2; cases h2
     ·rfl
    simp only [Dd.src] at q;rw [if_pos this] at q;exact q
   ·symm;have:¬ m.testBit p=true:=λ e=>h2 (by rw [e]; rfl);simp only [Dd.src] at q;rw [if_neg this] at q;exact q
  | or m=>
   symm;refine ⟨m,p,rfl,?_⟩;symm;refine zaC (λ h2=>?_) (λ h2=>?_)
   ·symm
    have:m.testBit p=true:=by
     cases e:m.testBit p
     ·rw [e] at h2; cases h2
     ·rfl
    simp only [Dd.src] at q;rw [if_pos this] at q;exact q
   ·symm;have:¬ m.testBit p=true:=λ e=>h2 (by rw [e]; rfl);simp only [Dd.src] at q;rw [if_neg this] at q;exact q
  | left n=>
   symm;refine ⟨w,(p:Int) - n,rfl,?_⟩
   have e:pon w ((p:Int) - n)=(Dd.left n).src w p:=by
    simp only [Dd.src,pon];by_cases h:n <= p
    ·rw [if_pos h,if_pos ⟨by omega,by omega⟩]
    ·rw [if_neg h,if_neg (1:)]
   rw [e];exact q
  | right n=>
   symm;refine ⟨w,(p:Int) + n,rfl,?_⟩
   have e:pon w ((p:Int) + n)=(Dd.right n).src w p:=by
    simp only [Dd.src,pon];by_cases h:p + n < w
    ·rw [if_pos h,if_pos ⟨by omega,by omega⟩]
    ·rw [if_neg h,if_neg (1:)]
   rw [e];exact q
  | turn n=>
   have hn:n < w:=hd;symm
   have e:((p:Int) - n) % (w:Int)=(Dd.turn n).src w p:=by
    simp only [Dd.src];by_cases h:n <= p
    ·rw [if_pos h];exact Int.emod_eq_of_lt (1:) (1:)
    ·rw [if_neg h,<- Int.add_emod_right];exact Int.emod_eq_of_lt (1:) (1:)
   rw [e];exact q
  | gather m=>cases hf
  | strew m=>cases hf
  | swap m n=>
   have e0:(Dd.swap m n).src w p=(if inM m ((p:Int) - n) then (p:Int) - n else if m.testBit p then (p:Int) + n else p):=rfl;rw [e0] at q;symm;refine ⟨m,p,rfl,?_⟩;symm;refine zaC (λ h2=>?_) (λ h2=>?_)
   ·symm
    have h3:m.testBit p=true:=by
     cases e:m.testBit p
     ·rw [e] at h2; cases h2
     ·rfl
    have h4:¬ inM m ((p:Int) - n)=true:=λ z=>by
     simp only [inM,yam,decide_eq_true_iff] at z;have:=(hd.2.2 _ z.2).2;rw [show ((p:Int) - n).toNat + n=p by omega,h3] at this;cases this
    rw [if_neg h4,if_pos h3] at q;exact q
   ·symm;have h3:¬ m.testBit p=true:=λ e=>h2 (by rw [e]; rfl);rw [if_neg h3] at q;exact ⟨m,n,p,rfl,q⟩
  | copy m n=>
   symm;exact ⟨m,n,p,rfl,q⟩
def zcf:FnScope ["width","deed"] ["width","deed"] (zah zbe):=⟨rfl,rfl,rfl,by decide +kernel,rfl,by decide +kernel,by decide +kernel⟩
def zd7 {a:Addr} {fd:FuncData} (B:Blt K mg) (g_gather_leading:A4 P w K mg base) (g_strew_leading:A5 P w K mg base) (g_source_of:A9 P w K mg base) (F:Fun K "deed_leading" "deed_leading" zbe a fd):FnOk P w K mg base CX0 4 a fd ["width","deed"] zhK:=by
 refine F.ok zcf (λ vs H Q E h=>?_) (λ cdv A outer s H vs Q E hr h=>?_)
 ·obtain ⟨w,b,d,rfl,_⟩:=h;rfl
 ·have nd := zcf.nd;have hu := hr.units;obtain ⟨w, b, d, rfl, hb, hd, hw, k⟩ := h
  have tk:∀ i,i < w -> ((d.led w).take i).map V.int ++ [V.int (d.src w i)]=((d.led w).take (i + 1)).map V.int:=λ i hi=>by
   rw [ya9,Dd.led,yai,ybE hi,yax];rfl
  refine ⟨_,((7:) ((23:) ((17:) (22:) (38:) (35:) (18:)) ((9:) ((19:) ((14:) g_gather_leading (15:) ((2:) (8:) ((2:) (38:) (4:) (0:)) (0:)) (0:) (3:) (0:) (0:)))) (24:)) ((7:) ((23:) ((17:) (22:) (38:) (35:) (18:)) ((9:) ((19:) ((14:) g_strew_leading (15:) ((2:) (8:) ((2:) (38:) (4:) (0:)) (0:)) (0:) (3:) (0:) (0:)))) (24:)) ((9:) ((19:) ((56:) (@zif _ K (0:)) rfl B.b_tuple boot_tuple ((2:) (@zaS _ _ _ _ _ _ (zah zbe) _ ["width","deed"] ["place","width","deed"] [none,some 0,some 1] _ _ _ _ rfl (66:) (λ _ _ _ _=>(@zat _ _ 0 _ (show List.Nodup (["place","width","deed"]:List Str) by decide +kernel) rfl (12:) (11:))) (λ _ _ _ _=>(@zaY _)) (λ _ _ _ _=>((14:) g_source_of (15:) ((2:) (16:) ((2:) (13:) ((2:) (8:) (4:) (0:)) (0:)) (0:)) (0:) (3:) (0:) (0:))) (28:) (0:) (0:) (21:)) (4:) (0:)) (3:) (3:) (0:) (0:)))))),?_⟩;cases hf:d.flat with
  | false=>
   cases d with
   | gather m=>symm; exact ⟨w,m,rfl,hd,hw,k⟩
   | strew m=>symm; exact ⟨w,m,rfl,hd,hw,k⟩
   | _=>cases hf
  | true=>
   have nm:∃ s xs,d.vals=.str s :: xs /\ (shpd (.str s)=true) /\ (s == "gather")=false /\ (s == "strew")=false:=by
    cases d with
    | gather m=>cases hf
    | strew m=>cases hf
    | _=>exact ⟨_,_,rfl,by decide +kernel,by decide +kernel,by decide +kernel⟩
   obtain ⟨sn,xs,ev,hs0,hs1,hs2⟩:=nm;have hb':=hb;rw [ev] at hb';symm;refine zfw hs0 (28:) ?_;rw [hs1];symm;refine zfw hs0 (28:) ?_;rw [hs2];symm;refine za1 (n:=w) rfl (1:) ?_;refine zaA (λ i acc H'=>H'=H /\ i <= 64 /\ acc=(((d.led w).take i).map V.int)) ⟨rfl,by omega,rfl⟩ (λ i acc H' h=>?_) ?_ ?_
   ·obtain ⟨_,hi,rfl⟩:=h;rw [yac,yaX];exact yaC (zaO (1:))
   ·rintro i acc H' hi ⟨rfl,hi2,rfl⟩;symm;refine ⟨w,i,b,d,rfl,hb,hd,hf,hi,hw,?_⟩;exact ⟨rfl,by omega,tk i hi⟩
   ·rintro acc H' ⟨rfl,_,rfl⟩ q hq;rw [yat (50:)];symm;refine zes zad λ t H5 f5 s5 n5=>?_;exact k t H5 ((zaj hq).trans s5) n5
def zbs:FnScope ["width","menu","made_by","deed"] ["width","menu"] (zah za8):=⟨rfl,rfl,rfl,by decide +kernel,rfl,by decide +kernel,by decide +kernel⟩
def zcP {a:Addr} {fd:FuncData} (B:Blt K mg) (g_deed_leading:A10 P w K mg base) (F:Fun K "deeds_by_leading" "deeds_by_leading" za8 a fd):FnOk P w K mg base CX0 5 a fd ["width","menu"] (zhG K):=by
 refine F.ok zbs (λ vs H Q E h=>?_) (λ cdv A outer s H vs Q E hr h=>?_)
 ·obtain ⟨w,m,L,rfl,_⟩:=h;rfl
 ·have nd := zbs.nd;have hu := hr.units;obtain ⟨wd, m, L, rfl, hm, hR, hw, hL, k⟩ := h;refine ⟨_, ((7:) (@zas _ _ 2 _ _ _ _ nd rfl (12:) (@zj6 _ _) (0:) (11:)) ((7:) ((40:) yaM rfl (67:) (@zat _ _ 3 _ nd rfl (12:) (11:)) ((9:) (@zfn _ _ _ _ _ _ _ _ _ hu (13:) ((14:) g_deed_leading (15:) ((2:) (8:) ((2:) (20:) (4:) (0:)) (0:)) (0:) (3:) (0:) (0:)) (20:) (0:))) (21:)) ((9:) ((19:) (@zgR _ _ _ (13:)))))), ?_⟩;symm;refine zl4 fun d hd => ?_;have s0 : Same H (upd H d (.dT [])) := zaj hd;symm;have hm0 : SqL K (upd H d (.dT [])) m (rowV L) \/ SqT K (upd H d (.dT [])) m (rowV L) := hm.elim (fun z => .inl (s0.seq z)) (fun z => .inr (s0.seqT z));refine zkE (xs := rowV L) hm0 (fun j σ H' => Same H H' /\ ∃ kvs v3, Mb wd (L.take j) kvs /\ kvs.length <= j /\ H' d = some (.dT kvs) /\ σ = [some (nV wd), some (.ref m), some (.ref d), v3]) ⟨s0, [], none, Mb.nil wd, yag _, zad, rfl⟩ (fun j σ H' h => ⟨fun z => z.afterD h.1, fun z => z.afterD h.1⟩) ?_ ?_
  ·rintro j y σ H' hy ⟨s1,kvs,v3,hM,hz,nd,rfl⟩;obtain ⟨q,hq,rfl⟩:=zbc hy;have hj:j < L.length:=(yah.mp hq).1;obtain ⟨h1,h2⟩:=hR q (yav hq);symm;refine zjs ?_;symm;refine ⟨wd,q.1,q.2,rfl,s1 _ _ h1,h2,hw,λ t2 H2 s2 n2=>?_⟩;refine ⟨d,_,rfl,DPut.t (k:=kI (q.2.led wd)) (s2 _ _ nd) (by rw [kI_V]; exact n2) (zaO (1:)),?_⟩;refine ⟨(s1.trans s2).upd' hd,_,_,?_,yaY (zcV _ _ _) (1:),zad,rfl⟩;rw [ya9,hq];exact hM.put
  ·rintro σ H' ⟨s1,kvs,v3,hM,hz,nd,rfl⟩;rw [show (rowV L).length=L.length by simp [rowV],yat (yag _)] at hM;symm;refine zkd ?_;symm;exact ⟨d,kvs,rfl,nd,λ o=>k d o kvs _ (s1.upd' hd) zad hM⟩
def zjW:FnScope ["one","other"] ["one","other"] (zah zhC):=⟨rfl,rfl,rfl,by decide +kernel,rfl,by decide +kernel,by decide +kernel⟩
def zl0 {a:Addr} {fd:FuncData} (B:Blt K mg)  (F:Fun K "then" "then" zhC a fd):FnOk P w K mg base CX0 1 a fd ["one","other"] zle:=by
 refine F.ok zjW (λ vs H Q E h=>?_) (λ cdv A outer s H vs Q E hr h=>?_)
 ·obtain ⟨b,c,ls,ms,w,rfl,_⟩:=h;rfl
 ·have nd := zjW.nd;have hu := hr.units;obtain ⟨b, c, ls, ms, w, rfl, hb, hc, h1, h2, hw, k⟩ := h;refine ⟨_, ((9:) ((19:) ((56:) (@zif _ K (0:)) rfl B.b_tuple boot_tuple ((2:) (@zaS _ _ _ _ _ _ (zah zhC) _ ["one", "other"] ["entry", "one"] [none, some 0] _ _ _ _ rfl (67:) (fun _ _ _ _ => (@zat _ _ 0 _ (show List.Nodup (["entry", "one"] : List Str) by decide +kernel) rfl (12:) (11:))) (fun _ _ _ _ => (@zaY _)) (fun _ _ _ _ => ((37:) ((17:) (@zjU _) (8:) (6:) (18:)) ((49:) (52:) (16:) (8:) (51:)) (8:))) (28:) (0:) (0:) (21:)) (4:) (0:)) (3:) (3:) (0:) (0:)))), ?_⟩;symm;refine zjF (SqT.of hc) ?_;refine zj0 (xs := ms.map V.int) (fun i acc H' => H' = H /\ i <= 64 /\ acc = ((zaB ls ms).take i).map V.int) ⟨rfl, by omega, rfl⟩ (fun i acc H' h => ?_) (fun i acc H' h => by rw [h.1]; exact SqT.of hc) ?_ ?_
  ·obtain ⟨_,hi,rfl⟩:=h;rw [yac,yaX];exact yaC (zaO (1:))
  ·rintro i x acc H' hx ⟨rfl, hi, rfl⟩;obtain ⟨e, he, rfl⟩ := zbc hx;have hil : i < ms.length := (yah.mp he).1;have q := h2.2 e (yav he);have hi2 : i < w := by rw [<- h2.1]; exact hil
   have tk:∀ v:Int,v=(if 0 <= e then ls.getD e.toNat 0 else e) -> ((zaB ls ms).take i).map V.int ++ [V.int v]=((zaB ls ms).take (i + 1)).map V.int:=λ v hv=>by
    rw [ya9,zaB,yai,he,yax];simp [hv]
   symm;refine zdw (λ h0=>?_) (λ h0=>?_)
   ·have hl : e.toNat < ls.length := by rw [h1.1]; omega
    symm;refine zjj (SqT.of hb) h0 (by rw [yai,yaa hl]; rfl) ?_;refine ⟨rfl,by omega,(tk _ ?_)⟩;rw [if_pos h0,yas,yaa hl];rfl
   ·symm;exact ⟨rfl,by omega,tk _ (by rw [if_neg h0])⟩
  ·rintro acc H' ⟨rfl,_,rfl⟩ p hp;rw [yac,yat (by rw [zaB,yac]; omega)];symm;refine ⟨p,_,rfl,.inl ⟨SqL.of zad,λ t ht=>?_⟩⟩;exact k t _ ((zaj hp).trans (zaj ht)) zad
def zdE:FnScope ["found","edge","made_by","fresh","ahead","step","leading"] ["found","edge","made_by"] (zah zcO):=⟨rfl,rfl,rfl,by decide +kernel,rfl,by decide +kernel,by decide +kernel⟩
def zf4 {a:Addr} {fd:FuncData} (B:Blt K mg) (g_then:A12 P w K mg base) (g_deeds_to:A0 P w K mg base) (F:Fun K "next_edge" "next_edge" zcO a fd):FnOk P w K mg base CX0 2 a fd ["found","edge","made_by"] zk2:=by
 refine F.ok zdE (λ vs H Q E h=>?_) (λ cdv A outer s H vs Q E hr h=>?_)
 ·obtain ⟨f,g,m,o,wd,n,L,kvs,mk,F,E,es,rfl,_⟩:=h;rfl
 ·have nd := zdE.nd;have hu := hr.units;obtain ⟨f, g, m, o, wd, n, L, kvs, mk, F, E, es, rfl, hf, hg, hm, hM, hR, hw, R, hF, hE, k⟩ := h;have hS := zcv hR;have hp4 := zeo hw;refine ⟨_, ((7:) (78:) ((7:) ((40:) yaM rfl (67:) (75:) ((9:) ((40:) yaM rfl (@zdX _ _ _ _ (13:)) (@zat _ _ 5 _ nd rfl (12:) (11:)) ((7:) (@zas _ _ 6 _ _ _ _ nd rfl (12:) ((14:) g_then (15:) ((2:) (26:) ((2:) (33:) (4:) (0:)) (0:)) (0:) (3:) (0:) (0:)) (0:) (11:)) ((9:) ((23:) (@zgo _ _ _ _ _ _ hu (31:) (8:) (0:)) ((7:) (@zfn _ _ _ _ _ _ _ _ _ hu (8:) (31:) ((34:) ((2:) ((10:) (27:) ((14:) g_deeds_to (15:) ((2:) (8:) ((2:) (26:) (4:) (0:)) (0:)) (0:) (3:) (0:) (0:)) (6:)) ((2:) (26:) ((2:) (@zfV _ _ _ _ _ _ hu (13:) (33:) (68:)) (4:) (0:)) (0:)) (0:))) (0:)) ((9:) ((39:) (@k_bm _ K _ _ _ _ _ _ _ _ _ _ _ yaw yaA yaB (@zaP _) (20:) ((2:) (31:) (4:) (0:)) (0:) (0:) (0:) (0:) (0:) (0:)) (0:)))) (24:)))) (21:))) (21:)) ((9:) ((19:) (20:))))), ?_⟩;symm;refine za2 (5:) fun r H1 f1 s1 n1 => ?_;have rf : r ≠ f := fun z => by rw [z, hf] at f1; cases f1
  have gf:g ≠ f:=zbK hg hf nofun;have mf:m ≠ f:=zbK hm hf nofun;symm
  refine ze4 (xs:=es.map V.ref) (λ i σ H'=>zaF f H H' /\ ∃ kvs' F' G gs v4 v5 v6,H' f=some (.dT kvs') /\ Amid (steps wd L) wd n F (Dij E (steps wd L) (mk.map (·.1)) i 0) F' G /\ Fnd H' wd L F' kvs' /\ Lda H' G gs /\ H' r=some (.lst (gs.map V.ref)) /\ σ=[some (.ref f),some (.ref g),some (.ref m),some (.ref r),v4,v5,v6])
   ⟨s1.keepBut,kvs,F,[],[],none,none,none,s1 _ _ hf,(Amid.start R).weak (λ y s z=>by rcases z with ⟨k,h1,_⟩ | ⟨_,k,h1,_⟩ <;> exact absurd h1 (ybN _)),hF.mono (λ b xs e=>s1 _ _ e) (λ _ z=>z),.nil,n1,rfl⟩ (λ i σ H' h=>SqL.of (h.1 _ _ gf hg)) ?_ ?_
  ·rintro i y σ H2 hy ⟨k2, kvs2, F2, G2, gs2, v4, v5, v6, e2, A2, hF2, hG2, r2, rfl⟩;obtain ⟨a, ha, rfl⟩ := zbc hy;obtain ⟨x, hx, hax⟩ := hE.get ha;have xE : x ∈ E := yav hx;have dx := (R.edge x).mp xE;have xF : (x, n) ∈ F := (R.all x n).mpr ⟨yag _, dx⟩;have lx : Ld wd x := dx.1.ld hS;symm;refine ze2 ?_;symm;refine ⟨m, mk, rfl, .inr ⟨o, k2 _ _ mf hm, ?_⟩⟩
   refine zjX (λ j σ H'=>zaF f H H' /\ ∃ kvs' F' G gs v5 v6,H' f=some (.dT kvs') /\ Amid (steps wd L) wd n F (Dij E (steps wd L) (mk.map (·.1)) i j) F' G /\ Fnd H' wd L F' kvs' /\ Lda H' G gs /\ H' r=some (.lst (gs.map V.ref)) /\ σ=[some (.ref f),some (.ref g),some (.ref m),some (.ref r),some (.ref a),v5,v6])
    ⟨k2,kvs2,F2,G2,gs2,v5,v6,e2,A2,hF2,hG2,r2,rfl⟩ (λ j σ H' h=>h.1 _ _ mf hm) ?_ ?_
   ·rintro j kk b σ H3 hk hb ⟨k3, kvs3, F3, G3, gs3, v5, v6, e3, A3, hF3, hG3, r3, rfl⟩;obtain ⟨e, eL, rfl, ev⟩ := hM.key hk;have sS : e.2.led wd ∈ steps wd L := zev.mpr ⟨e, eL, rfl⟩;rw [kI_V] at hb;have a3 := k3.tup hf _ _ hax;symm;refine ⟨a, b, x, e.2.led wd, wd, rfl, a3, hb, lx, hS _ sS, by omega, fun t H4 s4 n4 => ?_⟩;have hF4 : Fnd H4 wd L F3 kvs3 := hF3.mono (fun b xs z => s4 _ _ z) fun _ z => z;have hG4 : Lda H4 G3 gs3 := hG3.mono fun b xs z => s4 _ _ z;have e4 := s4 _ _ e3;have k4 : zaF f H H4 := k3.trans s4.keepBut;symm;refine zfy ?_;symm;refine ⟨f, _, rfl, DGet.r (.inl e4) n4, ?_⟩;rcases hF4.val (ls := zaB x (e.2.led wd)) with ⟨z1, z2⟩ | ⟨n', b', z1, z2, z3⟩
    ·rw [z2];symm;refine zeL rfl ?_;symm;refine zjs ?_;have xF3 : (x, n) ∈ F3 := by rw [A3.is]; exact yaR _ xF
     obtain ⟨b0,w1,w2⟩:∃ b0,valV kvs3 (kI x)=some (.ref b0) /\ Ent H4 wd L F3 (x,n) b0:=by
      rcases hF4.val (ls:=x) with ⟨q1,_⟩ | ⟨n0,b0,q1,q2,q3⟩
      ·exact absurd (yap.mpr ⟨_,xF3,rfl⟩) q1
      ·have:=zd3 A3.once q1 xF3;subst this;exact ⟨b0,q2,q3⟩
     obtain ⟨r0,w3,_⟩:=id w2;symm;refine ⟨f,a,b0,kvs3,x,n,r0,rfl,.inl e4,s4 _ _ a3,w1,w3,?_⟩;symm;refine zec ?_;symm;refine ⟨m,.ref e.1,rfl,ev ▸ DGet.r (Frz.rd (k4 _ _ mf hm)) (s4 _ _ hb),?_⟩;symm;refine zar (5:) λ u H5 f5 s5 n5=>?_;symm;have hlen:=A3.len R hS;have hl3:=hF3.length;refine ⟨f,_,rfl,DPut.t (k:=kI (zaB x (e.2.led wd))) (s5 _ _ e4) (by rw [kI_V]; exact s5 _ _ n4) (zaO (1:)),?_⟩;have nn:zaB x (e.2.led wd) ∉ F3.map (·.1):=z1;rw [zhe _ z2];have k6:zaF f H (upd H5 f (.dT (kvs3 ++ [(kI (zaB x (e.2.led wd)),.ref u)]))):=(k4.trans s5.keepBut).trans (zaF.upd _ _ _);have T5:∀ b xs,H4 b=some (.tup xs) -> upd H5 f (.dT (kvs3 ++ [(kI (zaB x (e.2.led wd)),.ref u)])) b=some (.tup xs):=λ b xs z=>by rw [zak (zbK z e4 nofun)]; exact s5 _ _ z
     have uf:u ≠ f:=λ z=>by rw [z,e4] at f5; cases f5
     have tf:t ≠ f:=zbK n4 e4 nofun;have A6:=(A3.add R xE sS nn).weak λ y s z=>Dij.next hx hk z
     have hEnt:Ent (upd H5 f (.dT (kvs3 ++ [(kI (zaB x (e.2.led wd)),.ref u)]))) wd L (F3 ++ [(zaB x (e.2.led wd),n + 1)]) (zaB x (e.2.led wd),n + 1) u:=
      ⟨[.ref a,.ref e.1],by rw [zak uf,n5]; rfl,.inr ⟨a,x,e,n,rfl,rfl,T5 _ _ (s4 _ _ a3),eL,rfl,yaR _ xF3⟩⟩
     have hF6:Fnd (upd H5 f (.dT (kvs3 ++ [(kI (zaB x (e.2.led wd)),.ref u)]))) wd L (F3 ++ [(zaB x (e.2.led wd),n + 1)]) (kvs3 ++ [(kI (zaB x (e.2.led wd)),.ref u)]):=
      FndG.snoc hEnt (hF4.mono T5 λ _ z=>yaR _ z)
     have r6:upd H5 f (.dT (kvs3 ++ [(kI (zaB x (e.2.led wd)),.ref u)])) r=some (.lst (gs3.map V.ref)):=by rw [zak rf]; exact s5 _ _ (s4 _ _ r3)
     have t6:upd H5 f (.dT (kvs3 ++ [(kI (zaB x (e.2.led wd)),.ref u)])) t=some (.tup ((zaB x (e.2.led wd)).map V.int)):=T5 _ _ n4;have hG6:=hG4.mono T5;have f6:upd H5 f (.dT (kvs3 ++ [(kI (zaB x (e.2.led wd)),.ref u)])) f=some (.dT (kvs3 ++ [(kI (zaB x (e.2.led wd)),.ref u)])):=zad;generalize upd H5 f (.dT (kvs3 ++ [(kI (zaB x (e.2.led wd)),.ref u)]))=H6 at *
     have hgl:gs3.length <= 1296:=by
      have h1:=congrArg List.length A3.is;have h2:=hG3.length;simp only [yaf,yac] at h1;omega
     symm;have T7:∀ b xs,H6 b=some (.tup xs) -> upd H6 r (.lst (gs3.map V.ref ++ [.ref t])) b=some (.tup xs):=λ b xs z=>by rw [zak (zbK z r6 nofun)]; exact z
     refine ⟨λ b o n e=>by rw [zak (zam e f1)]; exact k6 b o n e,_,_,_,gs3 ++ [t],_,_,by rw [zak rf.symm]; exact f6,A6,hF6.mono T7 λ _ z=>z,Lda.snoc (T7 _ _ t6) (hG6.mono T7),by rw [zad,yax]; rfl,rfl⟩
    ·rw [z2];symm;refine zbH rfl ?_;symm;exact ⟨k4,kvs3,F3,G3,gs3,_,_,e4,(A3.old R (yap.mpr ⟨_,z1,rfl⟩)).weak (λ y s z=>Dij.next hx hk z),hF4,hG4,s4 _ _ r3,rfl⟩
   ·rintro σ H3 ⟨k3,kvs3,F3,G3,gs3,v5,v6,e3,A3,hF3,hG3,r3,rfl⟩;symm;rw [show mk.length=(mk.map (·.1)).length by simp] at A3;exact ⟨k3,kvs3,F3,G3,gs3,_,_,_,e3,A3.weak (λ y s z=>Dij.turn hM.steps z),hF3,hG3,r3,rfl⟩
  ·rintro σ H2 ⟨k2, kvs2, F2, G2, gs2, v4, v5, v6, e2, A2, hF2, hG2, r2, rfl⟩;have hel : (es.map V.ref).length = E.length := by rw [yac, hE.length]
   rw [hel] at A2;symm;refine k r gs2 H2 kvs2 F2 G2 k2 e2 (A2.done R λ y s hy hs=>Dij.all hy hs) hF2 hG2 r2 ?_;rw [A2.is]; simp
def zei:FnScope ["width","menu","wanted","made_by","start","found","edge"] ["width","menu","wanted"] (zah zdq):=⟨rfl,rfl,rfl,by decide +kernel,rfl,by decide +kernel,by decide +kernel⟩
def zgN {a:Addr} {fd:FuncData} (B:Blt K mg) (g_staying:A1 P w K mg base) (g_deeds_by_leading:A11 P w K mg base) (g_next_edge:A13 P w K mg base) (F:Fun K "searched" "searched" zdq a fd):FnOk P w K mg base CX0 6 a fd ["width","menu","wanted"] (zd9 K):=by
 refine F.ok zei (λ vs H Q E h=>?_) (λ cdv A outer s H vs Q E hr h=>?_)
 ·obtain ⟨wd,m,v,L,W,rfl,_⟩:=h;rfl
 ·have nd := zei.nd;have hu := hr.units;obtain ⟨wd, m, v, L, W, rfl, hm, hR, hw1, hw3, hL, hv, k⟩ := h;have hw : wd <= 4 := by omega
  have hS:=zcv hR;have hp4:=zeo hw;refine ⟨_,((7:) (@zas _ _ 3 _ _ _ _ nd rfl (12:) ((14:) g_deeds_by_leading (15:) ((2:) (8:) ((2:) (16:) (4:) (0:)) (0:)) (0:) (3:) (0:) (0:)) (0:) (11:)) ((7:) (@zas _ _ 4 _ _ _ _ nd rfl (12:) ((14:) g_staying (15:) ((2:) (8:) (4:) (0:)) (0:) (3:) (0:) (0:)) (0:) (11:)) ((7:) (@zas _ _ 5 _ _ _ _ nd rfl (12:) (@zf3 _ _ _ _ _ _ hu (26:) ((34:) ((2:) (6:) ((2:) (@zd1 _ _ _) ((2:) (@zd1 _ _ _) (4:) (0:)) (0:)) (0:)))) (0:) (11:)) ((7:) (@zas _ _ 6 _ _ _ _ nd rfl (12:) ((47:) ((2:) (26:) (4:) (0:))) (0:) (11:)) ((7:) (@zhs _ _ _ _ _ _ yaM (@PW.pt _ _ _ ((45:) ((17:) (@zlw _) ((25:) (46:) rfl B.b_len boot_len ((2:) (31:) (4:) (0:)) (3:) (3:) (0:) (0:)) (6:) (18:)) ((53:) (@zhS _ _ _ _ _ _ hu (13:) (33:) (0:))))) ((9:) (@zas _ _ 6 _ _ _ _ nd rfl (12:) ((14:) g_next_edge (15:) ((2:) (33:) ((2:) (31:) ((2:) (20:) (4:) (0:)) (0:)) (0:)) (0:) (3:) (0:) (0:)) (0:) (11:)))) ((9:) ((19:) (@zgR _ _ _ (33:))))))))),?_⟩;symm;refine ⟨wd,m,L,rfl,hm,hR,by omega,hL,λ d o mk H1 s1 hd hM=>?_⟩;symm;refine ⟨wd,rfl,by omega,λ t H2 s2 n2=>?_⟩;symm;refine zhl λ f hf=>?_;symm;refine zar (5:) λ b H3 f3 s3 n3=>?_;have sf:=zaj (o:=.dT []) hf;have t3:H3 t=some (.tup ((kI (zaK wd)).map kV)):=by rw [kI_V]; exact s3 _ _ (sf _ _ n2)
  refine ⟨kI (zaK wd),t,rfl,t3,s3 _ _ zad,?_⟩;symm;refine za2 (5:) λ g H5 f5 s5 n5=>?_;symm;have hf3:H3 f=some (.dT []):=s3 _ _ zad;have bf:b ≠ f:=λ z=>by rw [z] at n3; rw [hf3] at n3; cases n3
  have Tk:∀ c u,H c=some u -> upd H3 f (.dT [(kI (zaK wd),.ref b)]) c=some u:=λ c u e=>by
   have e2:=s2 _ _ (s1 _ _ e);rw [zak (zam e2 hf)];exact s3 _ _ (sf _ _ e2)
  have s05:Same H H5:=λ c u e=>s5 _ _ (Tk c u e);have hf5:H5 f=some (.dT [(kI (zaK wd),.ref b)]):=s5 _ _ zad
  have hd5:Frz H5 d o mk:=by
   have e2:=s2 _ _ hd;refine s5 _ _ ?_;rw [zak (zam e2 hf)];exact s3 _ _ (sf _ _ e2)
  have t5:H5 t=some (.tup ((zaK wd).map V.int)):=by
   rw [kI_V] at t3;refine s5 _ _ ?_;rw [zak (zbK t3 hf3 nofun)];exact t3
  have hF5:Fnd H5 wd L [(zaK wd,0)] [(kI (zaK wd),.ref b)]:=.cons ⟨rfl,b,rfl,[.non,.non],s5 _ _ (by rw [zak bf]; exact n3),.inl rfl⟩ .nil;have Hf0:H f=none:=(s1.trans s2).freeS hf
  refine ⟨λ mm σ H'=>Same H H' /\ ∃ kvs F n E es g,mm=2 * (1296 - F.length) + (if E=[] then 0 else 1) /\ H' f=some (.dT kvs) /\ Frz H' d o mk /\ Ring (steps wd L) wd n F E /\ Fnd H' wd L F kvs /\ Lda H' E es /\ H' g=some (.lst (es.map V.ref)) /\ σ=[some (nV wd),some (.ref m),some v,some (.ref d),some (.ref t),some (.ref f),some (.ref g)],
   ⟨_,s05,_,_,0,[zaK wd],[t],g,rfl,hf5,hd5,Ring.start _ _,hF5,.cons t5 .nil,n5,rfl⟩,?_⟩
  rintro mm σ H6 ⟨s6,kvs,F,n,E,es,g6,rfl,e6,d6,R6,F6,E6,g6',rfl⟩;symm;have hel:=E6.length;have out:(E=[] \/ ∃ x,W x /\ x ∈ F.map (·.1)) -> ∃ (a:Addr) (kvs:List (List Key × V)),V.ref f=.ref a /\ H6 a=some (.dT kvs) /\ ∀ o,Q (.ref f) (upd H6 a (.frz o (.dT kvs))):=λ hh=>⟨f,kvs,rfl,e6,λ o'=>k f o' kvs _ F n E (s6.upd' Hf0) zad (F6.mono (λ b xs z=>by rw [zak (zbK z e6 nofun)]; exact z) λ _ z=>z) R6 hh⟩
  have key:∀ QQ:Bool -> Prop,(∀ c:Bool,(c=false -> ∃ x,W x /\ x ∈ F.map (·.1)) -> QQ c) -> ((∃ o,DGet H6 f v o /\ ∃ k,V.bl (!o.isSome)=V.bl k /\ QQ k) \/ ∃ kvs,v=.non /\ Rd H6 f (.dT kvs) /\ (∀ kv ∈ kvs,∃ ls,kv.1=kI ls /\ NoN ls) /\ ∃ k,V.bl true=V.bl k /\ QQ k):=λ QQ hq=>by
   rcases hv with ⟨rfl,_⟩ | ⟨l,ls,rfl,hl,hW⟩
   ·exact .inr ⟨kvs,rfl,.inl e6,F6.keysN (λ q hq=>zmd hw1 hw3 (((R6.all q.1 q.2).mp hq).2.1.ld hS)),true,rfl,hq true (λ z=>by cases z)⟩
   ·refine .inl ⟨_, DGet.r (.inl e6) (s6 _ _ hl), _, rfl, ?_⟩;rcases F6.val (ls := ls) with ⟨z1, z2⟩ | ⟨n', b', z1, z2, z3⟩
    ·rw [z2]; exact hq true (λ z=>by cases z)
    ·rw [z2]; exact hq false λ _=>⟨ls,(hW ls).mpr rfl,yap.mpr ⟨_,z1,rfl⟩⟩
  refine zdw (λ hc=>?_) (λ hc=>?_)
  ·have hne : E ≠ [] := fun z => by rw [z] at hel; simp at hel; simp [<- hel] at hc
   symm;refine zhR ?_;symm;refine ⟨f,rfl,key _ λ c hcf=>?_⟩;cases c with
   | true=>
    symm;refine ⟨_,λ _ _ h=>h,?_⟩;symm;refine ⟨f,g6,d,o,wd,n,L,kvs,mk,F,E,es,rfl,e6,g6',d6,hM,hR.same s6,hw,R6,F6,E6,λ g7 es7 H7 kvs7 F7 E7 k7 e7 R7 F7' E7' g7' hlen=>?_⟩;symm;have h7:=R7.len hS;refine ⟨2 * (1296 - F7.length) + (if E7=[] then 0 else 1),?_,k7.same s6 Hf0,kvs7,F7,n + 1,E7,es7,g7,rfl,e7,k7 _ _ (zbK d6 e6 nofun) d6,R7,F7',E7',g7',rfl⟩;rw [if_neg hne]
    split
    ·rename_i hz;rw [hz] at hlen;simp at hlen;omega
    ·have:1 <= E7.length:=yb1.mpr (by assumption);omega
   | false=>
    symm;refine zkd ?_;symm;exact out (.inr (hcf rfl))
  ·symm;refine zkd ?_;symm;refine out (.inl ?_);cases E with
   | nil=>rfl
   | cons x E=>rw [ybi] at hel; simp [<- hel] at hc
def zeS:FnScope ["leading","menu","found"] ["leading","menu"] (zah zee):=⟨rfl,rfl,rfl,by decide +kernel,rfl,by decide +kernel,by decide +kernel⟩
def zhV {a:Addr} {fd:FuncData} (B:Blt K mg) (g_deeds_to:A0 P w K mg base) (g_searched:A14 P w K mg base) (F:Fun K "how_few" "how_few" zee a fd):FnOk P w K mg base CX0 7 a fd ["leading","menu"] (zfY K):=by
 refine F.ok zeS (λ vs H Q E h=>?_) (λ cdv A outer s H vs Q E hr h=>?_)
 ·obtain ⟨wd,m,l,L,ls,rfl,_⟩:=h;rfl
 ·have nd := zeS.nd;have hu := hr.units;obtain ⟨wd, m, l, L, ls, rfl, hm, hR, hw1, hw, hL, hl, hld, k0, k1⟩ := h;have ell : (ls.map V.int).length = wd := by rw [yac, hld.1]
  refine ⟨_,((7:) (@zas _ _ 2 _ _ _ _ nd rfl (12:) ((14:) g_searched (15:) ((2:) ((25:) (46:) rfl B.b_len boot_len ((2:) (8:) (4:) (0:)) (3:) (3:) (0:) (0:)) ((2:) (16:) ((2:) (8:) (4:) (0:)) (0:)) (0:)) (0:) (3:) (0:) (0:)) (0:) (11:)) ((9:) ((19:) ((37:) (@znb _ _ _ _ _ _ hu (8:) (13:) (0:)) ((14:) g_deeds_to (15:) ((2:) (13:) ((2:) (8:) (4:) (0:)) (0:)) (0:) (3:) (0:) (0:)) (@zd1 _ _ _))))),?_⟩;symm;rw [ell];refine ⟨wd,m,.ref l,L,(·=ls),rfl,hm,hR,hw1,hw,hL,.inr ⟨l,ls,rfl,hl,λ x=>Iff.rfl⟩,λ f o kvs H1 F n E s1 hf hF R hE=>?_⟩;have hE:E=[] \/ ls ∈ F.map (·.1):=hE.imp id λ ⟨x,hx,hm⟩=>hx ▸ hm;symm;refine zmu ?_;symm;refine ⟨f,_,rfl,DGet.r (Frz.rd hf) (s1 _ _ hl),?_⟩;rcases hF.val (ls:=ls) with ⟨z1,z2⟩ | ⟨n',b',z1,z2,z3⟩
  ·rw [z2];symm;refine zbH rfl ?_;symm;have hE0:E=[]:=hE.resolve_right z1;subst hE0;exact k0 H1 s1 λ q dq=>z1 (yap.mpr ⟨_,(R.end ls q).mpr dq,rfl⟩)
  ·rw [z2];symm;refine zeL rfl ?_;symm;obtain ⟨r0,w3,_⟩:=id z3;refine ⟨f,l,b',kvs,ls,n',r0,rfl,Frz.rd hf,s1 _ _ hl,z2,w3,?_⟩;symm;exact k1 H1 n' s1 ((R.all ls n').mp z1).2
def zhf:FnScope ["width","menu","found"] ["width","menu"] (zah zfm):=⟨rfl,rfl,rfl,by decide +kernel,rfl,by decide +kernel,by decide +kernel⟩
def zkn {a:Addr} {fd:FuncData} (B:Blt K mg) (g_deeds_to:A0 P w K mg base) (g_searched:A14 P w K mg base) (F:Fun K "reach" "reach" zfm a fd):FnOk P w K mg base CX0 7 a fd ["width","menu"] (zjH K):=by
 refine F.ok zhf (λ vs H Q E h=>?_) (λ cdv A outer s H vs Q E hr h=>?_)
 ·obtain ⟨wd,m,L,rfl,_⟩:=h;rfl
 ·have nd := zhf.nd;have hu := hr.units;obtain ⟨wd, m, L, rfl, hm, hR, hw1, hw, hL, k⟩ := h;have hS := zcv hR;have hp4 := zeo (w := wd) (1:);refine ⟨_, ((7:) (@zas _ _ 2 _ _ _ _ nd rfl (Or.inr rfl) ((14:) g_searched (15:) ((2:) (8:) ((2:) (16:) ((2:) (@zd1 _ _ _) (4:) (0:)) (0:)) (0:)) (0:) (3:) (0:) (0:)) (0:) (11:)) ((9:) ((19:) ((25:) (@zen _ hu) rfl B.b_sorted boot_sorted ((2:) (@zaS _ _ _ _ _ _ (zah zfm) _ ["width", "menu", "found"] ["leading", "found"] [none, some 2] _ _ _ _ rfl (@zdX _ _ _ _ (13:)) (fun _ _ _ _ => (@zat _ _ 0 _ (show List.Nodup (["leading", "found"] : List Str) by decide +kernel) rfl (12:) (11:))) (fun _ _ _ _ => (@zaY _)) (fun _ _ _ _ => ((34:) ((2:) ((14:) g_deeds_to (15:) ((2:) (16:) ((2:) (8:) (4:) (0:)) (0:)) (0:) (3:) (0:) (0:)) ((2:) (8:) (4:) (0:)) (0:)))) (28:) (0:) (0:) (21:)) (4:) (0:)) (3:) (3:) (0:) (0:))))), ?_⟩;symm;refine ⟨wd, m, .non, L, fun _ => False, rfl, hm, hR, hw1, hw, hL, .inl ⟨rfl, fun _ z => z⟩, fun f o kvs H1 F n E s1 hf hF R hE => ?_⟩;have hE0 : E = [] := hE.resolve_right fun ⟨_, z, _⟩ => z;subst hE0;have hFl := R.len hS;have hkl := hF.length;symm;refine ze2 ?_;symm;refine ⟨f, kvs, rfl, .inr ⟨o, hf, ?_⟩⟩;refine zd8 (fun i acc H' => Same H1 H' /\ ∃ ps, acc = ps.map V.ref /\ ps.length = i /\ i <= F.length /\ Prs2 H' ((F.take i).map fun q => (q.2, q.1)) ps) ⟨Same.refl _, [], rfl, rfl, yaQ _, .nil⟩ (fun i acc H' h => ?_) (fun i acc H' h => h.1 _ _ hf) ?_ ?_
  ·obtain ⟨_,ps,rfl,h1,h2,_⟩:=h;rw [yac];exact yaC (zaO (1:))
  ·rintro i kk b acc H2 hkk hb ⟨s2, ps, rfl, hl, hiF, hP⟩;rw [hF.keys, yai] at hkk
   obtain ⟨q,hq,rfl⟩:∃ q,F[i]?=some q /\ kI q.1=kk:=by
    cases e:F[i]? with
    | none=>rw [e] at hkk; cases hkk
    | some q=>rw [e] at hkk; exact ⟨q,rfl,Option.some.inj hkk⟩
   have hil:i < F.length:=(yah.mp hq).1;have hqF:=yav hq;rw [kI_V] at hb;have f2:Frz H2 f o kvs:=s2 _ _ hf;have hF2:=hF.mono (λ b xs z=>s2 _ _ z) λ _ z=>z
   obtain ⟨b0,w1,w2⟩:∃ b0,valV kvs (kI q.1)=some (.ref b0) /\ Ent H2 wd L F (q.1,q.2) b0:=by
    rcases hF2.val (ls:=q.1) with ⟨q1,_⟩ | ⟨n0,b0,q1,q2,q3⟩
    ·exact absurd (yap.mpr ⟨_,hqF,rfl⟩) q1
    ·have:=zd3 R.once q1 (show (q.1,q.2) ∈ F from hqF);subst this;exact ⟨b0,q2,q3⟩
   obtain ⟨r0,w3,_⟩:=id w2;symm;refine ⟨f,b,b0,kvs,q.1,q.2,r0,rfl,Frz.rd f2,hb,w1,w3,?_⟩;symm;refine zar (5:) λ t H3 f3 s3 n3=>?_;refine ⟨s2.trans s3,ps ++ [t],by rw [yax]; rfl,by rw [yaf,hl]; rfl,hil,?_⟩;rw [ya9,hq,yax];exact Prs2.snoc ⟨b,n3,s3 _ _ hb⟩ (hP.mono λ b xs z=>s3 _ _ z)
  ·rintro acc H2 ⟨s2, ps, rfl, hl, hiF, hP⟩ l hfl;rw [<- hkl, yat (yag _)] at hP;have sl := zaj (o := .lst (ps.map V.ref)) hfl;have l3 : upd H2 l (.lst (ps.map V.ref)) l = some (.lst (ps.map V.ref)) := zad;have P3 := hP.mono fun b xs z => sl _ _ z;have s13 := s2.trans sl;generalize upd H2 l (.lst (ps.map V.ref)) = H3 at *;symm;refine ⟨l, ps, _, wd, rfl, .inl l3, P3, fun q hq => ?_, fun r ps' G' hr hG hO hP' => ?_⟩
   ·obtain ⟨q',hq',rfl⟩:=yap.mp hq;have l:=(((R.all q'.1 q'.2).mp hq').2).1.ld hS;exact ⟨l.1,λ e he=>by have:=l.2 e he; omega⟩
   ·have sr := zaj (o := .lst (ps'.map V.ref)) hr
    have nod:(F.map λ q=>(q.2,q.1)).Nodup:=by
     refine ybp.mpr ((ybp.mp R.once).imp λ {a b} z e=>z ?_);exact (Prod.mk.inj e).2
    refine k r ps' G' _ ((s1.trans s13).freeS hr) ((s1.trans s13).trans sr) ⟨λ q x=>?_,hG.nodup_iff.mpr nod,hO,?_⟩ (hP'.mono λ b xs z=>sr _ _ z) zad
    ·rw [hG.mem_iff,yap,<- R.end x q];exact ⟨λ ⟨a,ha,e⟩=>by cases e; exact ha,λ h=>⟨_,h,rfl⟩⟩
    ·rw [hG.length_eq,yac]; omega
def zdD:FnScope ["_law_script"] ["_law_script"] (zah zb7):=⟨rfl,rfl,rfl,by decide +kernel,rfl,by decide +kernel,by decide +kernel⟩
def zgg {a:Addr} {fd:FuncData} (B:Blt K mg)  (F:Fun K "_law_hand" "_law_hand" zb7 a fd):FnOk P w K mg base CX0 1 a fd ["_law_script"] (zk6 K):=by
 refine F.ok zdD (λ vs H Q E h=>?_) (λ cdv A outer s H vs Q E hr h=>?_)
 ·obtain ⟨b,ns,rfl,_⟩:=h;rfl
 ·have nd := zdD.nd;have hu := hr.units;obtain ⟨b, ns, rfl, hS, k⟩ := h;obtain ⟨ms, ems, lms⟩ := zn7 ns;refine ⟨_, ((9:) ((19:) ((47:) ((2:) (@zaS _ _ _ _ _ _ (zah zb7) _ ["_law_script"] ["_law_cell"] [none] _ _ _ _ rfl (@zbI _ K _ _ _ (@zky _ _ _ _ _ _ _ _ _ _ (@k_sl _ K (0:)) (8:) (@zlC _) (@zl7 _ _ _ (6:))) (0:)) (fun _ _ _ _ => (@zat _ _ 0 _ (show List.Nodup (["_law_cell"] : List Str) by decide +kernel) rfl (12:) (11:))) (fun _ _ _ _ => (@zaY _)) (fun _ _ _ _ => ((25:) (@ziI _) rfl B.b_abs boot_abs ((2:) (8:) (4:) (0:)) (3:) (3:) (0:) (0:))) (28:) (0:) (0:) (21:)) ((2:) (6:) ((2:) (6:) ((2:) (6:) (4:) (0:)) (0:)) (0:)) (0:))))), ?_⟩;symm;refine .inl ⟨b, _, rfl, hS, fun p1 hp1 => ?_⟩;have s1 := zaj (o := .lst (cutV (ns.map V.int) none (some 63))) hp1;generalize hH1 : upd H p1 (.lst (cutV (ns.map V.int) none (some 63))) = H1 at s1 ⊢;have n1 : H1 p1 = some (.lst (ms.map V.int)) := by rw [<- hH1, zad, ems]
  refine zd0 (SqL.of n1) ?_;refine zeg (xs:=ms.map V.int) (λ i acc H'=>H'=H1 /\ i <= 63 /\ acc=(ms.take i).map λ z=>nV z.natAbs) ⟨rfl,by omega,rfl⟩ (λ i acc H' h=>?_) (λ i acc H' h=>by rw [h.1]; exact SqL.of n1) ?_ ?_
  ·obtain ⟨_,hi,rfl⟩:=h;rw [yac,yaX];exact yaC (zaO (1:))
  ·rintro i x acc H' hx ⟨rfl,hi,rfl⟩;obtain ⟨z,hz,rfl⟩:=zbc hx;have hil:i < ms.length:=(yah.mp hz).1;symm;refine ⟨rfl,by omega,?_⟩;rw [ya9,hz,show ((some z).toList:List Int)=[z] from rfl,yax,yaI,List.map_nil,zlA]
  ·rintro acc H' ⟨rfl, _, rfl⟩ p2 hp2;rw [yac, List.take_length];symm;refine ⟨yaC (zaO (5:)), fun p3 hp3 => ?_⟩;have e2 : H' p2 = none := hp2;have ne23 : p2 ≠ p3 := zam zad hp3;refine k p3 _ (s1.free ((zaj hp2).free hp3)) ?_ (Hand.of (q := p2) (cells := ms.map Int.natAbs) (a := 0) (b := 0) (c := 0) zad ?_ (by rw [yac]; exact lms))
   ·exact s1.trans ((zaj hp2).trans (zaj hp3))
   ·rw [zak ne23,zad,ya7];rfl
def zdH:FnScope ["_law_hand_here","_law_many","_law_cell","_law_once","_law_twice","_law_found"] ["_law_hand_here","_law_many"] (zah zcU):=⟨rfl,rfl,rfl,by decide +kernel,rfl,by decide +kernel,by decide +kernel⟩
def zgw {a:Addr} {fd:FuncData} (B:Blt K mg)  (F:Fun K "_law_draw" "_law_draw" zcU a fd):FnOk P w K mg base CX0 1 a fd ["_law_hand_here","_law_many"] zkR:=by
 refine F.ok zdH (λ vs H Q E h=>?_) (λ cdv A outer s H vs Q E hr h=>?_)
 ·obtain ⟨p,n,rfl,_⟩:=h;rfl
 ·have nd := zdH.nd;have hu := hr.units;obtain ⟨p, n, rfl, hH, hn0, hn1, k⟩ := h;obtain ⟨q, cells, ca, cb, cc, h1, h2, h3⟩ := hH
  have npq:q ≠ p:=by
   intro e;rw [e,h1] at h2;cases cells with
   | nil=>cases h2
   | cons c r=>cases h2
  have hq:∀ o,upd H p o q=some (.lst (cells.map nV)):=λ o=>by rw [zak npq]; exact h2
  have fin:∀ (r a b c:Nat),r < n -> Q (nV r) (upd H p (.lst [.ref q,nV a,nV b,nV c])):=λ r a b c hr=>k r _ hr (But.updL h1) ⟨q,cells,a,b,c,zad,hq _,h3⟩;refine ⟨_,((7:) (@zeO _ _ _ _ _ _ ((10:) (27:) (36:) (6:)) (72:) (0:) (0:) (0:)) ((7:) ((23:) ((17:) (22:) (36:) (6:) (18:)) ((7:) (@zas _ _ 2 _ _ _ _ nd rfl (12:) (6:) (0:) (11:)) ((7:) ((23:) ((17:) (@zlw _) ((25:) (46:) rfl B.b_len boot_len ((2:) (36:) (4:) (0:)) (3:) (3:) (0:) (0:)) (6:) (18:)) ((9:) (@zas _ _ 2 _ _ _ _ nd rfl (12:) ((49:) (52:) (36:) ((10:) (@zcW _) (36:) ((25:) (46:) rfl B.b_len boot_len ((2:) (36:) (4:) (0:)) (3:) (3:) (0:) (0:))) (51:)) (0:) (11:))) (24:)) ((7:) (@zeO _ _ _ _ _ _ ((10:) (27:) (36:) (6:)) (72:) (0:) (0:) (0:)) ((7:) ((23:) (@PW.pt _ _ _ ((64:) ((17:) (@zhZ _) (13:) ((10:) (@znq _) (6:) (6:)) (18:)) (@zeN _ _ _ _ ((17:) (@zlw _) (36:) ((25:) (46:) rfl B.b_len boot_len ((2:) (36:) (4:) (0:)) (3:) (3:) (0:) (0:)) (18:))))) ((7:) (@zas _ _ 3 _ _ _ _ nd rfl (12:) ((10:) (@zcW _) ((10:) (55:) ((10:) (27:) ((10:) (27:) ((10:) (@zcW _) (13:) (6:)) ((10:) (55:) (6:) (36:))) (6:)) (6:)) (6:)) (0:) (11:)) ((7:) (@zas _ _ 4 _ _ _ _ nd rfl (12:) ((10:) (@zcW _) ((10:) (27:) ((10:) (55:) (20:) ((10:) (27:) ((10:) (@zcW _) (20:) (6:)) (36:))) ((10:) (55:) (6:) (36:))) (6:)) (0:) (11:)) ((9:) ((19:) ((10:) (@zcW _) ((10:) (@zdY _) (26:) (6:)) (16:)))))) (24:)) ((9:) (@zeO _ _ _ _ _ _ (13:) (72:) (0:) (0:) (0:))))))) (24:)) ((7:) (@zas _ _ 5 _ _ _ _ nd rfl (12:) ((10:) (@zcW _) (36:) (16:)) (0:) (11:)) ((7:) (@zeO _ _ _ _ _ _ ((10:) (@zdY _) (36:) (16:)) (72:) (0:) (0:) (0:)) ((9:) ((19:) (33:))))))),?_⟩;symm;refine zaC (λ hc=>?_) (λ hc=>?_)
  ·symm;refine zdw (fun hl => ?_) (fun hl => ?_)
   ·have hl' : 0 < cells.length := by simpa using hl
    symm
    have hidx:((ca:Int) % ((cells.map nV).length:Int)).toNat=ca % cells.length:=by
     rw [yac,<- Int.natCast_emod,yao]
    have e0:(cells.map nV)[((ca:Int) % ((cells.map nV).length:Int)).toNat]?=some (nV (cells[ca % cells.length]'(ycf _ hl'))):=by
     rw [hidx,yai,yaa (ycf _ hl')];rfl
    refine zcF (SqL.of (hq _)) (Int.emod_nonneg _ (by rw [yac]; omega)) e0 ?_;symm;generalize (10:Int) ^ Int.toNat 18=big;refine ite2 (λ h18=>?_) (λ h18=>?_)
    ·symm;obtain ⟨r,hr1,er⟩:=modN _ hn0;rw [er];exact fin r (ca + 1) cb (cc + 1) hr1
    ·symm;refine ite2 (fun h19 => ?_) (fun h19 => ?_)
     ·symm;obtain ⟨r,hr1,er⟩:=modN _ hn0;rw [er];exact fin r (ca + 1) cb (cc + 1) hr1
     ·symm;exact fin ((cells[ca % cells.length]'(ycf _ hl')) % n) (ca + 1) ((cells[ca % cells.length]'(ycf _ hl')) / n) (cc + 1) (ycf _ hn0)
   ·skip
    symm;generalize (10:Int) ^ Int.toNat 18=big;refine ite2 (λ h18=>?_) (λ h18=>?_)
    ·symm;obtain ⟨r,hr1,er⟩:=modN _ hn0;rw [er];exact fin r (ca + 1) cb (cc + 1) hr1
    ·symm;refine ite2 (fun h19 => ?_) (fun h19 => ?_)
     ·symm;obtain ⟨r,hr1,er⟩:=modN _ hn0;rw [er];exact fin r (ca + 1) cb (cc + 1) hr1
     ·symm;exact fin (0 % n) (ca + 1) (0 / n) (cc + 1) (ycf _ hn0)
  ·symm;exact fin (cb % n) ca (cb / n) (cc + 1) (ycf _ hn0)
def zdM:FnScope ["_law_width","_law_m","_law_n"] ["_law_width","_law_m","_law_n"] (zah zb3):=⟨rfl,rfl,rfl,by decide +kernel,rfl,by decide +kernel,by decide +kernel⟩
def zf9 {a:Addr} {fd:FuncData} (B:Blt K mg)  (F:Fun K "_law_goes" "_law_goes" zb3 a fd):FnOk P w K mg base CX0 1 a fd ["_law_width","_law_m","_law_n"] zfq:=by
 refine F.ok zdM (λ vs H Q E h=>?_) (λ cdv A outer s H vs Q E hr h=>?_)
 ·obtain ⟨w,m,n,rfl,_⟩:=h;rfl
 ·have nd := zdM.nd;have hu := hr.units;obtain ⟨w, m, n, rfl, hw, hm, k⟩ := h;refine ⟨_, ((9:) ((19:) ((25:) (@znY _ K rfl (0:)) rfl B.b_all boot_all ((2:) (@zaS _ _ _ _ _ _ (zah zb3) _ ["_law_width", "_law_m", "_law_n"] ["_law_p", "_law_n", "_law_width", "_law_m"] [none, some 2, some 0, some 1] _ _ _ _ rfl (66:) (fun _ _ _ _ => (@zat _ _ 0 _ (show List.Nodup (["_law_p", "_law_n", "_law_width", "_law_m"] : List Str) by decide +kernel) rfl (12:) (11:))) (fun _ _ _ _ => (@zdm _ _ _ ((17:) (22:) ((10:) (@zdG _) ((10:) (@zfs _) (20:) (8:)) (6:)) (6:) (18:)))) (fun _ _ _ _ => (@zhA _ _ _ _ _ _ _ _ _ _ _ _ (@zme _) (@zhZ _) (6:) ((10:) (27:) (8:) (16:)) (13:) (by with_unfolding_all rfl))) (28:) (0:) (0:) (21:)) (4:) (0:)) (3:) (3:) (0:) (0:)))), ?_⟩;symm;refine za1 (n := w) rfl (1:) ?_;refine zaA (fun i acc H' => H' = H /\ i <= 64 /\ ∃ bs : List Bool, acc = bs.map V.bl /\ bs = ((List.range i).filter m.testBit).map fun (p : Nat) => decide ((0 : Int) <= (p : Int) + n) && decide ((p : Int) + n <= (w : Int) - 1)) ⟨rfl, by omega, [], rfl, rfl⟩ (fun i acc H' h => ?_) ?_ ?_
  ·obtain ⟨_,hi,bs,rfl,rfl⟩:=h;have:=ybK m.testBit (List.range i);rw [ya6] at this;rw [yac,yac];exact yaC (zaO (1:))
  ·rintro i acc H' hi ⟨rfl, hi64, bs, rfl, rfl⟩;symm;rw [zcX];refine zaC (fun h => ?_) (fun h => ?_)
   ·have hb:m.testBit i=true:=by
     cases e:m.testBit i
     ·rw [e] at h; cases h
     ·rfl
    have fin:∀ c:Bool,c=(decide ((0:Int) <= (i:Int) + n) && decide ((i:Int) + n <= (w:Int) - 1)) -> ∃ bs:List Bool,((((List.range i).filter m.testBit).map λ (p:Nat)=>decide ((0:Int) <= (p:Int) + n) && decide ((p:Int) + n <= (w:Int) - 1)).map V.bl) ++ [V.bl c]=bs.map V.bl /\ bs=((List.range (i + 1)).filter m.testBit).map λ (p:Nat)=>decide ((0:Int) <= (p:Int) + n) && decide ((p:Int) + n <= (w:Int) - 1):=λ c hc=>by
     refine ⟨_,?_,rfl⟩;rw [yaO,yaN,yax,yax,hc];simp [hb]
    symm;refine zdw (λ h1=>?_) (λ h1=>?_)
    ·symm;exact ⟨rfl,by omega,fin _ (by rw [decide_eq_true h1,Bool.true_and]; exact decide_eq_decide.mpr (1:))⟩
    ·symm;exact ⟨rfl,by omega,fin _ (by rw [decide_eq_false h1,Bool.false_and])⟩
   ·have hb:m.testBit i=false:=by
     cases e:m.testBit i
     ·rfl
     ·rw [e] at h; exact absurd rfl h
    refine ⟨rfl,by omega,_,rfl,?_⟩;rw [yaO,yaN];simp [hb]
  ·rintro acc H' ⟨rfl,_,bs,rfl,rfl⟩ p hp;rw [<- zay hm];symm;refine ⟨p,_,rfl,SqL.of zad,?_⟩;rw [show (λ bs:List Bool=>bs.all id) ((zae m).map λ (p:Nat)=>decide ((0:Int) <= (p:Int) + n) && decide ((p:Int) + n <= (w:Int) - 1))=zdg w m n by unfold zdg; simp];exact k _ (zaj hp)
def zd5:FnScope ["_law_width","_law_whole","_law_found","_law_some","_law_m"] ["_law_width"] (zah zaG):=⟨rfl,rfl,rfl,by decide +kernel,rfl,by decide +kernel,by decide +kernel⟩
def zbZ {k n:Nat} {st:Str} {σ:L2.St} {H:Hp} {Q:VK} (hn:n <= 100) (hs:st=nmK k) (h:∀ (l:Addr) (M:List (Addr × En)) (H':Hp),H l=none -> Same H H' -> H' l=some (.lst (tlV M)) -> TL H' M -> ens M=oneF k n -> M.length=n -> Q (.ref l) H'):zcb (Itr 0 n) [none] σ (zj4 0) zlf (tTup (ziX (tC (V.str st)) (ziX (tVar 0) tNil))) Q H:=by
 refine zaA (λ i acc H'=>Same H H' /\ i <= 100 /\ ∃ M:List (Addr × En),acc=tlV M /\ TL H' M /\ M.length=i /\ ens M=oneF k i) ⟨Same.refl _,by omega,[],rfl,TL.nil _,rfl,rfl⟩ (λ i acc H' h=>?_) ?_ ?_
 ·obtain ⟨_,hi,M,rfl,_,hz,_⟩:=h;rw [zaJ];exact yaC (zaO (1:))
 ·rintro i acc H' hi ⟨s1,hi2,M,rfl,hM,hz,eM⟩;symm;refine zar (5:) λ u H2 f2 s2 n2=>?_;subst hs;refine ⟨s1.trans s2,by omega,M ++ [(u,(k,[(i:Int)]))],by rw [zbx]; rfl,(hM.same s2).app (TL.one n2),by rw [yaf,hz]; rfl,?_⟩;rw [zbm,eM,oneF,oneF,yaO,yax]; rfl
 ·rintro acc H' ⟨s1,_,M,rfl,hM,hz,eM⟩ q hq;have s2:=zaj (o:=.lst (tlV M)) hq;exact h q M _ (s1.freeS hq) (s1.trans s2) zad (hM.same s2) eM hz
def zg5 {a:Addr} {fd:FuncData} (B:Blt K mg) (g__law_goes:A19 P w K mg base) (F:Fun K "_law_all" "_law_all" zaG a fd):FnOk P w K mg base CX0 2 a fd ["_law_width"] zfJ:=by
 refine F.ok zd5 (λ vs H Q E h=>?_) (λ cdv A outer s H vs Q E hr h=>?_)
 ·obtain ⟨w,rfl,_⟩:=h;rfl
 ·have nd := zd5.nd;have hu := hr.units;obtain ⟨w, rfl, hw1, hw4, k⟩ := h;have h16 : 2 ^ w <= 16 := yaS (3:) hw4;have hp0 := ybL w;have pw : (1 : Int) * 2 ^ ((w : Int)).toNat = ((2 ^ w : Nat) : Int) := by rw [ybX, yao]; simp
  refine ⟨_,((7:) (@zas _ _ 1 _ _ _ _ nd rfl (12:) ((10:) (@zck _) (6:) (8:)) (0:) (11:)) ((7:) (@zas _ _ 2 _ _ _ _ nd rfl (12:) ((10:) (27:) (70:) (70:)) (0:) (11:)) ((7:) (@zas _ _ 2 _ _ _ _ nd rfl (12:) ((10:) (27:) ((10:) (27:) (13:) (90:)) (90:)) (0:) (11:)) ((7:) (@zas _ _ 2 _ _ _ _ nd rfl (12:) ((10:) (27:) (13:) (@zaS _ _ _ _ _ _ (zah zaG) _ ["_law_width","_law_whole","_law_found","_law_some","_law_m"] ["_law_n"] [none] _ _ _ _ rfl (66:) (λ _ _ _ _=>(86:)) (λ _ _ _ _=>(@zaY _)) (λ _ _ _ _=>((34:) ((30:) ((2:) (8:) (4:) (0:))))) (28:) (0:) (0:) (21:))) (0:) (11:)) ((7:) (78:) ((7:) ((40:) yaM rfl (69:) (@zat _ _ 4 _ nd rfl (Or.inr rfl) (11:)) ((9:) ((39:) (@k_bm _ K _ _ _ _ _ _ _ _ _ _ _ yaw PySem.F.slot_list_extend PySem.F.type_list_extend (@zgq _) (20:) ((2:) (@zaS _ _ _ _ _ _ (zah zaG) _ ["_law_width","_law_whole","_law_found","_law_some","_law_m"] ["_law_n","_law_m","_law_width"] [none,some 4,some 0] _ _ _ _ rfl (@zfX _ _ _ _ _ _ _ rfl B.b_range ((2:) (6:) ((2:) (8:) (4:) (0:)) (0:)) (0:) (0:)) (λ _ _ _ _=>(88:)) (λ _ _ _ _=>(@zdm _ _ _ (@PW.pt _ _ _ ((45:) (87:) ((53:) ((17:) (22:) ((10:) (@zdG _) (16:) ((10:) (@zck _) (16:) (8:))) (6:) (18:))))))) (λ _ _ _ _=>((34:) ((30:) ((2:) (16:) ((2:) (8:) (4:) (0:)) (0:))))) (28:) (0:) (0:) (21:)) (4:) (0:)) (0:) (0:) (0:) (0:) (0:) (0:)) (0:))) (21:)) ((7:) (@zas _ _ 2 _ _ _ _ nd rfl (12:) ((10:) (27:) ((10:) (27:) ((10:) (27:) (13:) (20:)) (70:)) (70:)) (0:) (11:)) ((7:) ((40:) yaM rfl (69:) (@zat _ _ 4 _ nd rfl (Or.inr rfl) (11:)) ((9:) ((39:) (@k_bm _ K _ _ _ _ _ _ _ _ _ _ _ yaw PySem.F.slot_list_extend PySem.F.type_list_extend (@zgq _) (13:) ((2:) (@zaS _ _ _ _ _ _ (zah zaG) _ ["_law_width","_law_whole","_law_found","_law_some","_law_m"] ["_law_n","_law_m","_law_width"] [none,some 4,some 0] _ _ _ _ rfl (@zfX _ _ _ _ _ _ _ rfl B.b_range ((2:) ((10:) (@za7 _) (6:) (8:)) ((2:) (8:) (4:) (0:)) (0:)) (0:) (0:)) (λ _ _ _ _=>(88:)) (λ _ _ _ _=>(@zdm _ _ _ (@PW.pt _ _ _ ((45:) ((17:) (@k_ne _ K hu (0:)) (8:) (6:) (18:)) ((53:) (87:)))))) (λ _ _ _ _=>((34:) ((30:) ((2:) (16:) ((2:) (8:) (4:) (0:)) (0:))))) (28:) (0:) (0:) (21:)) (4:) (0:)) (0:) (0:) (0:) (0:) (0:) (0:)) (0:))) (21:)) ((9:) ((19:) (13:))))))))))),?_⟩;symm;rw [pw];refine za1 (n:=2 ^ w) rfl (1:) ?_;refine zbZ (k:=0) (1:) rfl λ l1 M1 H1 f1 s1 n1 t1 e1 z1=>?_;symm;refine za1 (n:=2 ^ w) rfl (1:) ?_;refine zbZ (k:=1) (1:) rfl λ l2 M2 H2 f2 s2 n2 t2 e2 z2=>?_;symm;refine zdz (s2 _ _ n1) n2 (by rw [zaJ,zaJ]; omega) λ c1 H3 f3 s3 n3=>?_;rw [<- zbx] at n3;have T3:=((t1.same s2).app t2).same s3;symm;rw [show (w:Int) + 1=((w + 1:Nat):Int) by omega];refine za1 (n:=w + 1) rfl (1:) ?_;refine zbZ (k:=2) (1:) rfl λ l4 M4 H4 f4 s4 n4 t4 e4 z4=>?_;symm;refine zdz (s4 _ _ n3) n4 (by rw [zaJ,zaJ,yaf]; omega) λ c2 H5 f5 s5 n5=>?_;rw [<- zbx] at n5;have T5:=((T3.same s4).app t4).same s5;symm;rw [show (w:Int) + 1=((w + 1:Nat):Int) by omega];refine za1 (n:=w + 1) rfl (1:) ?_;refine zbZ (k:=3) (1:) rfl λ l6 M6 H6 f6 s6 n6 t6 e6 z6=>?_;symm;refine zdz (s6 _ _ n5) n6 (by rw [zaJ,zaJ,yaf,yaf]; omega) λ c3 H7 f7 s7 n7=>?_;rw [<- zbx] at n7;have T7:=((T5.same s6).app t6).same s7;symm;refine za1 (n:=w) rfl (1:) ?_;refine zbZ (k:=4) (1:) rfl λ l8 M8 H8 f8 s8 n8 t8 e8 z8=>?_;symm;refine zdz (s8 _ _ n7) n8 (by rw [zaJ,zaJ,yaf,yaf,yaf]; omega) λ c4 H9 f9 s9 n9=>?_;rw [<- zbx] at n9;have T9:=((T7.same s8).app t8).same s9;have s09:=s1.trans (s2.trans (s3.trans (s4.trans (s5.trans (s6.trans (s7.trans (s8.trans s9)))))));have Z9:(M1 ++ M2 ++ M4 ++ M6 ++ M8).length <= 60:=by rw [yaf,yaf,yaf,yaf]; omega
  have E9:ens (M1 ++ M2 ++ M4 ++ M6 ++ M8)=oneF 0 (2 ^ w) ++ oneF 1 (2 ^ w) ++ oneF 2 (w + 1) ++ oneF 3 (w + 1) ++ oneF 4 w:=by rw [zbm,zbm,zbm,zbm,e1,e2,e4,e6,e8]
  generalize M1 ++ M2 ++ M4 ++ M6 ++ M8=A at n9 T9 Z9 E9;symm;refine za2 (5:) λ l H10 f10 s10 n10=>?_;symm;refine za9 (n:=2 ^ w) rfl (1:) ?_;refine zaw (λ i σ H'=>i <= 16 /\ ∃ (L:List (Addr × En)) (v4:Option V),Gr H9 H' l L /\ ens L=(List.range i).flatMap (zkt w) /\ L.length <= 3 * i /\ σ=[some (nV w),some (nV (2 ^ w)),some (.ref c4),some (.ref l),v4]) ⟨by omega,[],none,⟨s10,n10,TL.nil _⟩,rfl,by simp,rfl⟩ ?_ ?_
  ·rintro i σ H11 hi ⟨hi16, L, v4, g, eL, zL, rfl⟩;have n11 := g.2.1;symm;refine zld ?_;symm;refine ⟨1, (w : Int), rfl, ⟨by omega, by omega, by omega, by omega⟩, ?_⟩;rw [show ((w : Int) - 1).toNat = w - 1 by omega];refine zdi (fun j acc H' => Same H11 H' /\ j <= 3 /\ ∃ M : List (Addr × En), acc = tlV M /\ TL H' M /\ M.length <= j /\ ens M = ((List.range j).filter fun (j : Nat) => zdg w i (1 + (j : Int)) && decide (i &&& i * 2 ^ (1 + j) = 0)).map fun (j : Nat) => (5, [(i : Int), 1 + (j : Int)])) ⟨Same.refl _, by omega, [], rfl, TL.nil _, by simp, rfl⟩ (fun j acc H' h => ?_) ?_ ?_
   ·obtain ⟨_,hj,M,rfl,_,hz,_⟩:=h;rw [zaJ];exact yaC (zaO (1:))
   ·rintro j acc H12 hj ⟨s12, hj3, M, rfl, hM, hz, eM⟩;have hj64 : 1 + j <= 64 := by omega
    rw [show (1:Int) + (j:Int)=((1 + j:Nat):Int) by omega];symm;refine ⟨w,i,((1 + j:Nat):Int),rfl,by omega,hi,λ H13 s13=>?_⟩;symm;cases c1':zdg w i ((1 + j:Nat):Int) with
    | false=>
     rw [if_neg (3:)];refine ⟨s12.trans s13,by omega,M,rfl,hM.same s13,by omega,?_⟩;rw [eM,yaO,yaN];rw [show ((1 + j:Nat):Int)=1 + (j:Int) by omega] at c1';simp [c1']
    | true=>
     rw [if_pos rfl];symm;rw [zmc,zbT];rw [show ((1 + j:Nat):Int)=1 + (j:Int) by omega] at c1';refine zaC (λ c2'=>?_) (λ c2'=>?_)
     ·have c3' : i &&& i * 2 ^ (1 + j) = 0 := by omega
      symm;refine zar (5:) λ u H14 f14 s14 n14=>?_;have n14':H14 u=some (.tup (dec (5,[(i:Int),1 + (j:Int)]))):=by rw [show (1:Int) + (j:Int)=((1 + j:Nat):Int) by omega]; exact n14
      refine ⟨s12.trans (s13.trans s14),by omega,M ++ [(u,(5,[(i:Int),1 + (j:Int)]))],by rw [zbx]; rfl,((hM.same s13).same s14).app (TL.one n14'),by rw [yaf]; simp; omega,?_⟩;rw [zbm,eM,yaO,yaN];simp [c1',c3',ens]
     ·have c3':¬ (i &&& i * 2 ^ (1 + j)=0):=λ z=>c2' (by rw [z]; rfl);symm;refine ⟨s12.trans s13,by omega,M,rfl,hM.same s13,by omega,?_⟩;rw [eM,yaO,yaN];simp [c1',c3']
   ·rintro acc H12 ⟨s12, _, M, rfl, hM, hz, eM⟩ q hq;have s13 := zaj (o := .lst (tlV M)) hq;generalize hH13 : upd H12 q (.lst (tlV M)) = H13 at s13;have n13 : H13 q = some (.lst (tlV M)) := by rw [<- hH13]; exact zad
    have g13:=g.same (s12.trans s13);symm;refine zm2 (K:=K) g13.2.1 n13 (by rw [zaJ,zaJ]; omega) ?_;refine ⟨by omega,_,_,g13.put f10 (hM.same s13),?_,by rw [yaf]; omega,rfl⟩;rw [zbm,eL,eM,yaO,List.flatMap_append];simp [zkt]
  rintro σ H11 ⟨hi16,L,v4,g,eL,zL,rfl⟩;have n11:=g.2.1;have n911:=g.1 _ _ n9;have T911:=T9.same g.1;symm;refine zdz n911 n11 (by rw [zaJ,zaJ]; omega) λ c5 H12 f12 s12 n12=>?_;rw [<- zbx] at n12;have T12:=(T911.app g.2.2).same s12;symm;refine za1 (n:=2 ^ w) rfl (1:) ?_;refine zbZ (k:=6) (1:) rfl λ l13 M13 H13 f13 s13 n13 t13 e13 z13=>?_;symm;refine zdz (s13 _ _ n12) n13 (by rw [zaJ,zaJ,yaf]; omega) λ c6 H14 f14 s14 n14=>?_;rw [<- zbx] at n14;have T14:=((T12.same s13).app t13).same s14;symm;refine za1 (n:=2 ^ w) rfl (1:) ?_;refine zbZ (k:=7) (1:) rfl λ l15 M15 H15 f15 s15 n15 t15 e15 z15=>?_;symm;refine zdz (s15 _ _ n14) n15 (by rw [zaJ,zaJ,yaf,yaf]; omega) λ c7 H16 f16 s16 n16=>?_;rw [<- zbx] at n16;have T16:=((T14.same s15).app t15).same s16;have s016:=s09.trans (g.1.trans (s12.trans (s13.trans (s14.trans (s15.trans s16)))));have f16':H c7=none:=(s09.trans (g.1.trans (s12.trans (s13.trans (s14.trans s15))))).freeS f16;have Z16:(A ++ L ++ M13 ++ M15).length <= 200:=by rw [yaf,yaf,yaf]; omega
  have E16:ens (A ++ L ++ M13 ++ M15)=oneF 0 (2 ^ w) ++ oneF 1 (2 ^ w) ++ oneF 2 (w + 1) ++ oneF 3 (w + 1) ++ oneF 4 w ++ (List.range (2 ^ w)).flatMap (zkt w) ++ oneF 6 (2 ^ w) ++ oneF 7 (2 ^ w):=by rw [zbm,zbm,zbm,E9,eL,e13,e15]
  generalize A ++ L ++ M13 ++ M15=N at n16 T16 Z16 E16;symm;refine za9 (n:=2 ^ w) rfl (1:) ?_;refine zaw (λ i σ H'=>i <= 16 /\ ∃ (L:List (Addr × En)) (v4:Option V),Gr H H' c7 L /\ ens L=ens N ++ (List.range i).flatMap (zlg w) /\ L.length <= 200 + 7 * i /\ σ=[some (nV w),some (nV (2 ^ w)),some (.ref c7),some (.ref l),v4]) ⟨by omega,N,_,⟨s016,n16,T16⟩,by simp,by omega,rfl⟩ ?_ ?_
  ·rintro i σ H17 hi ⟨hi16', L', v4', g', eL', zL', rfl⟩;have n17 := g'.2.1;symm;refine zld ?_;symm;refine ⟨1 - (w : Int), (w : Int), rfl, ⟨by omega, by omega, by omega, by omega⟩, ?_⟩;rw [show ((w : Int) - (1 - (w : Int))).toNat = 2 * w - 1 by omega];refine zdi (fun j acc H' => Same H17 H' /\ j <= 7 /\ ∃ M : List (Addr × En), acc = tlV M /\ TL H' M /\ M.length <= j /\ ens M = ((List.range j).filter fun (j : Nat) => ((1 - (w : Int)) + (j : Int) != 0) && zdg w i ((1 - (w : Int)) + (j : Int))).map fun (j : Nat) => (8, [(i : Int), (1 - (w : Int)) + (j : Int)])) ⟨Same.refl _, by omega, [], rfl, TL.nil _, by simp, rfl⟩ (fun j acc H' h => ?_) ?_ ?_
   ·obtain ⟨_,hj,M,rfl,_,hz,_⟩:=h;rw [zaJ];exact yaC (zaO (1:))
   ·rintro j acc H18 hj ⟨s18, hj7, M, rfl, hM, hz, eM⟩;symm;refine zn1 (fun c2' => ?_) (fun c2' => ?_)
    ·symm;refine ⟨w, i, (1 - (w : Int)) + (j : Int), rfl, by omega, hi, fun H19 s19 => ?_⟩;symm;have c3' : ((1 - (w : Int)) + (j : Int) != 0) = true := bne_iff_ne.mpr c2';cases c1' : zdg w i ((1 - (w : Int)) + (j : Int)) with
     | false=>
      rw [if_neg (3:)];refine ⟨s18.trans s19,by omega,M,rfl,hM.same s19,by omega,?_⟩;rw [eM,yaO,yaN];simp [c1']
     | true=>
      rw [if_pos rfl];symm;refine zar (5:) λ u H20 f20 s20 n20=>?_;refine ⟨s18.trans (s19.trans s20),by omega,M ++ [(u,(8,[(i:Int),(1 - (w:Int)) + (j:Int)]))],by rw [zbx]; rfl,((hM.same s19).same s20).app (TL.one n20),by rw [yaf]; simp; omega,?_⟩;rw [zbm,eM,yaO,yaN,List.filter_cons_of_pos (by rw [c3',c1']; rfl),yax];rfl
    ·symm;refine ⟨s18,by omega,M,rfl,hM,by omega,?_⟩;rw [eM,yaO,yaN,List.filter_cons_of_neg (by rw [c2']; simp),List.filter_nil,ybq]
   ·rintro acc H18 ⟨s18, _, M, rfl, hM, hz, eM⟩ q hq;have s19 := zaj (o := .lst (tlV M)) hq;generalize hH19 : upd H18 q (.lst (tlV M)) = H19 at s19;have n19 : H19 q = some (.lst (tlV M)) := by rw [<- hH19]; exact zad
    have g19:=g'.same (s18.trans s19);symm;refine zm2 (K:=K) g19.2.1 n19 (by rw [zaJ,zaJ]; omega) ?_;refine ⟨by omega,_,_,g19.put f16' (hM.same s19),?_,by rw [yaf]; omega,rfl⟩;rw [zbm,eL',eM,yaO,List.flatMap_append];simp [zlg]
  rintro σ H17 ⟨hi16',L',v4',g',eL',zL',rfl⟩;symm;exact k c7 L' H17 f16' g' (by rw [eL',E16]; rfl)
def zdx:FnScope ["_law_hand_here","_law_width","_law_whole","_law_way","_law_drawn","_law_k"] ["_law_hand_here","_law_width"] (zah zcK):=⟨rfl,rfl,rfl,by decide +kernel,rfl,by decide +kernel,by decide +kernel⟩
def zgm {a:Addr} {fd:FuncData} (B:Blt K mg) (g__law_draw:A18 P w K mg base) (F:Fun K "_law_word" "_law_word" zcK a fd):FnOk P w K mg base CX0 2 a fd ["_law_hand_here","_law_width"] zk4:=by
 refine F.ok zdx (λ vs H Q E h=>?_) (λ cdv A outer s H vs Q E hr h=>?_)
 ·obtain ⟨p,w,rfl,_⟩:=h;rfl
 ·have nd := zdx.nd;have hu := hr.units;obtain ⟨p, w, rfl, hH, hw1, hw2, k⟩ := h;have wholeLt : 2 ^ w - 1 < 2 ^ w := Nat.sub_lt (ybL w) (3:);have wl64 : 2 ^ w <= 2 ^ 64 := yaS (3:) hw2;refine ⟨_, ((7:) (@zas _ _ 2 _ _ _ _ nd rfl (12:) ((10:) (@za7 _) ((10:) (@zck _) (6:) (16:)) (6:)) (0:) (11:)) ((7:) (@zas _ _ 3 _ _ _ _ nd rfl (12:) ((14:) g__law_draw (15:) ((2:) (8:) ((2:) (6:) (4:) (0:)) (0:)) (0:) (3:) (0:) (0:)) (0:) (11:)) ((7:) ((23:) ((17:) (@zhZ _) (20:) (6:) (18:)) ((9:) ((19:) ((49:) (52:) ((47:) ((2:) (6:) ((2:) (13:) (4:) (0:)) (0:))) (20:) (51:)))) (24:)) ((7:) ((23:) ((17:) (22:) (20:) (6:) (18:)) ((9:) ((19:) ((10:) (@zck _) (6:) ((14:) g__law_draw (15:) ((2:) (8:) ((2:) (16:) (4:) (0:)) (0:)) (0:) (3:) (0:) (0:))))) (24:)) ((7:) ((23:) ((17:) (22:) (20:) (6:) (18:)) ((9:) ((19:) ((10:) (@zdG _) ((10:) (@zck _) ((10:) (@zdY _) (13:) (6:)) ((14:) g__law_draw (15:) ((2:) (8:) ((2:) (6:) (4:) (0:)) (0:)) (0:) (3:) (0:) (0:))) (13:)))) (24:)) ((7:) (@zas _ _ 4 _ _ _ _ nd rfl (12:) (6:) (0:) (11:)) ((7:) ((40:) yaM rfl (80:) (@zat _ _ 5 _ nd rfl (12:) (11:)) ((9:) (@zas _ _ 4 _ _ _ _ nd rfl (12:) ((10:) (@zmW _) ((10:) (@zck _) (26:) (6:)) ((14:) g__law_draw (15:) ((2:) (8:) ((2:) ((10:) (@zck _) (6:) (6:)) (4:) (0:)) (0:)) (0:) (3:) (0:) (0:))) (0:) (11:))) (21:)) ((9:) ((19:) ((10:) (@zdG _) ((10:) (@zfs _) (26:) ((14:) g__law_draw (15:) ((2:) (8:) ((2:) (6:) (4:) (0:)) (0:)) (0:) (3:) (0:) (0:))) (13:))))))))))), ?_⟩;symm;rw [zlL]
  have W64:2 ^ w - 1 < 18446744073709551616:=by
   have:(2:Nat) ^ 64=18446744073709551616:=by decide
   omega
  generalize 2 ^ w - 1=W at wholeLt W64 ⊢;refine ⟨p,8,rfl,hH,by decide,by decide,λ r H1 hr1 b1 h1=>?_⟩;symm;refine zdw (λ hc=>?_) (λ hc=>?_)
  ·symm;refine ⟨yaC (zaO (5:)), fun p2 hp2 => ?_⟩;have h1' := h1.same (zaj (o := .lst [V.int 0, nV W]) hp2);have b1' : But p H (upd H1 p2 (.lst [V.int 0, nV W])) := b1.trans (zaj hp2).but;symm;rcases (show r = 0 \/ r = 1 by omega) with rfl | rfl
   ·exact zcF (SqL.of zad) (3:) rfl (k 0 _ (ybL w) b1' h1')
   ·exact zcF (SqL.of zad) (3:) rfl (k W _ wholeLt b1' h1')
  ·symm;refine zaC (fun hc2 => ?_) (fun hc2 => ?_)
   ·symm;refine ⟨p,w,rfl,h1,by omega,by omega,λ r2 H2 hr2 b2 h2=>?_⟩;symm;rw [show (1:Int) * 2 ^ ((r2:Int)).toNat=((2 ^ r2:Nat):Int) by rw [yao]; simp];exact k _ H2 (ycr (3:) hr2) (b1.trans b2) h2
   ·symm;refine zaC (fun hc3 => ?_) (fun hc3 => ?_)
    ·symm;refine ⟨p,2,rfl,h1,by decide,by decide,λ r2 H2 hr2 b2 h2=>?_⟩;symm;rw [show (W:Int) / 3 * 2 ^ ((r2:Int)).toNat=((W / 3 * 2 ^ r2:Nat):Int) by rw [yao]; simp,zbT];exact k _ H2 (yaU Nat.and_le_right wholeLt) (b1.trans b2) h2
    ·symm;refine za9 (n := 4) rfl (3:) ?_;refine zaw (fun i σ H' => But p H H' /\ Hand H' p /\ ∃ d v, d < 2 ^ (16 * i) /\ σ = [some (.ref p), some (nV w), some (nV W), some (nV r), some (nV d), v]) ⟨b1, h1, 0, none, by decide, rfl⟩ ?_ ?_
     ·rintro i σ H' hi ⟨b2, h2, d, v, hd, rfl⟩;have hd48 : d < 281474976710656 := yaj hd (yaY (yaS (3:) (show 16 * i <= 48 by omega)) (3:));symm;refine ⟨p, 65536, rfl, h2, by decide, by decide, fun r2 H3 hr2 b3 h3 => ?_⟩;symm;refine ⟨b2.trans b3, h3, (d * 2 ^ 16 ||| r2), some (nV i), ?_, ?_⟩
      ·refine Nat.or_lt_two_pow ?_ (yaj hr2 ?_)
       ·rw [show 16 * (i + 1)=16 * i + 16 by omega,Nat.pow_add];exact Nat.mul_lt_mul_of_pos_right hd (3:)
       ·exact yaY (show 65536 <= 2 ^ 16 by decide) (yaS (3:) (1:))
      ·have e:Builtin.bitOr ((d:Int) * 2 ^ (Int.toNat 16)) (r2:Int)=((d * 2 ^ 16 ||| r2:Nat):Int):=by
        rw [show (d:Int) * 2 ^ (Int.toNat 16)=((d * 2 ^ 16:Nat):Int) by simp,zgb]
       show [some (V.ref p),some (nV w),some (nV W),some (nV r),some (V.int (Builtin.bitOr ((d:Int) * 2 ^ (Int.toNat 16)) (r2:Int))),some (V.int (i:Int))]=_;rw [e]
     ·rintro σ H' ⟨b2,h2,d,v,hd,rfl⟩;symm;refine ⟨p,33,rfl,h2,by decide,by decide,λ r2 H3 hr2 b3 h3=>?_⟩;symm;rw [show (d:Int) / 2 ^ ((r2:Int)).toNat=((d / 2 ^ r2:Nat):Int) by rw [yao]; simp,zbT];exact k _ H3 (yaU Nat.and_le_right wholeLt) (b2.trans b3) h3
def zbO:FnScope ["_law_hand_here","_law_width","_law_n","_law_mask","_law_p"] ["_law_hand_here","_law_width","_law_n"] (zah zbl):=⟨rfl,rfl,rfl,by decide +kernel,rfl,by decide +kernel,by decide +kernel⟩
def zdn {a:Addr} {fd:FuncData} (B:Blt K mg) (g__law_draw:A18 P w K mg base) (F:Fun K "_law_swap_mask" "_law_swap_mask" zbl a fd):FnOk P w K mg base CX0 2 a fd ["_law_hand_here","_law_width","_law_n"] zeQ:=by
 refine F.ok zbO (λ vs H Q E h=>?_) (λ cdv A outer s H vs Q E hr h=>?_)
 ·obtain ⟨p,w,n,rfl,_⟩:=h;rfl
 ·have nd := zbO.nd;have hu := hr.units;obtain ⟨p, w, n, rfl, hH, hn, hnw, hw, k⟩ := h;refine ⟨_, ((7:) (@zas _ _ 3 _ _ _ _ nd rfl (12:) (6:) (0:) (11:)) ((7:) ((40:) yaM rfl (@zax _ _ _ _ _ _ rfl B.b_range ((2:) ((10:) (@za7 _) (16:) (13:)) (4:) (0:)) (0:)) (75:) ((9:) ((23:) (@PW.pt _ _ _ ((45:) ((17:) (22:) ((10:) (@zdG _) ((10:) (@zfs _) (20:) (26:)) (6:)) (6:) (18:)) ((45:) (@PW.pt _ _ _ ((64:) ((17:) (@zhZ _) (26:) (13:) (18:)) (@zeN _ _ _ _ ((17:) (22:) ((10:) (@zdG _) ((10:) (@zfs _) (20:) ((10:) (@za7 _) (26:) (13:))) (6:)) (6:) (18:))))) ((53:) ((17:) (22:) ((14:) g__law_draw (15:) ((2:) (8:) ((2:) (6:) (4:) (0:)) (0:)) (0:) (3:) (0:) (0:)) (6:) (18:)))))) ((9:) (@zas _ _ 3 _ _ _ _ nd rfl (12:) ((10:) (@zmW _) (20:) ((10:) (@zck _) (6:) (26:))) (0:) (11:))) (24:))) (21:)) ((9:) ((19:) (20:))))), ?_⟩;symm;rw [show (w : Int) - (n : Int) = ((w - n : Nat) : Int) by omega];refine za9 (n := w - n) rfl (1:) ?_;refine zaw (fun i σ H' => But p H H' /\ Hand H' p /\ ∃ (m : Nat) (v : Option V), m < 2 ^ i /\ i + n <= w /\ (∀ q, m.testBit q = true -> m.testBit (q + n) = false) /\ σ = [some (.ref p), some (nV w), some (nV n), some (nV m), v]) ⟨But.refl p H, hH, 0, none, by decide, by omega, fun q z => by simp at z, rfl⟩ ?_ ?_
  ·rintro i σ H' hi ⟨b2, h2, m, v, hm, hiw, hpair, rfl⟩
   have stay:∀ H',But p H H' -> Hand H' p -> (∃ (m':Nat) (v:Option V),m' < 2 ^ (i + 1) /\ (i + 1) + n <= w /\ (∀ q,m'.testBit q=true -> m'.testBit (q + n)=false) /\ [some (V.ref p),some (nV w),some (nV n),some (nV m),some (nV i)]=[some (.ref p),some (nV w),some (nV n),some (nV m'),v]):=λ _ _ _=>
    ⟨m,_,yaj hm (yaS (3:) (1:)),by omega,hpair,rfl⟩
   have put:(n <= i -> m.testBit (i - n)=false) -> ∀ H',But p H H' -> Hand H' p -> (∃ (m':Nat) (v:Option V),m' < 2 ^ (i + 1) /\ (i + 1) + n <= w /\ (∀ q,m'.testBit q=true -> m'.testBit (q + n)=false) /\ [some (V.ref p),some (nV w),some (nV n),some (nV (m ||| 2 ^ i)),some (nV i)]=[some (.ref p),some (nV w),some (nV n),some (nV m'),v]):=λ hlow _ _ _=>by
    refine ⟨m ||| 2 ^ i,_,Nat.or_lt_two_pow (yaj hm (yaS (3:) (1:))) (ycr (3:) (1:)),by omega,λ q hq=>?_,rfl⟩;rw [Nat.testBit_or,Nat.testBit_two_pow] at hq ⊢;rw [yb5,decide_eq_true_iff] at hq;rcases hq with hq | rfl
    ·rw [hpair q hq,Bool.false_or];apply decide_eq_false;intro e;have:=hlow (1:);rw [e,Nat.add_sub_cancel] at this;rw [this] at hq;cases hq
    ·rw [zgk hm (1:),Bool.false_or];exact decide_eq_false (1:)
   symm;rw [zcX];refine zaC (λ hc=>?_) (λ hc=>?_)
   ·symm;refine zdw (fun hc2 => ?_) (fun hc2 => ?_)
    ·symm;refine ⟨p, 2, rfl, h2, by decide, by decide, fun r H3 hr b3 h3 => ?_⟩;symm;refine zaC (fun hc3 => ?_) (fun hc3 => ?_)
     ·symm;rw [zkV];exact ⟨b2.trans b3,h3,put (λ z=>by omega) H3 (b2.trans b3) h3⟩
     ·symm;exact ⟨b2.trans b3,h3,stay H3 (b2.trans b3) h3⟩
    ·symm;rw [show (i : Int) - (n : Int) = ((i - n : Nat) : Int) by omega, zcX];refine zaC (fun hc4 => ?_) (fun hc4 => ?_)
     ·have hb:m.testBit (i - n)=false:=by
       cases z:m.testBit (i - n)
       ·rfl
       ·rw [z] at hc4; cases hc4
      symm;refine ⟨p,2,rfl,h2,by decide,by decide,λ r H3 hr b3 h3=>?_⟩;symm;refine zaC (λ hc3=>?_) (λ hc3=>?_)
      ·symm;rw [zkV];exact ⟨b2.trans b3,h3,put (λ z=>hb) H3 (b2.trans b3) h3⟩
      ·symm;exact ⟨b2.trans b3,h3,stay H3 (b2.trans b3) h3⟩
     ·symm;exact ⟨b2,h2,stay H' b2 h2⟩
   ·symm;exact ⟨b2,h2,stay H' b2 h2⟩
  ·rintro σ H' ⟨b2, h2, m, v, hm, hiw, hpair, rfl⟩;symm;refine k m H' ⟨hn, hnw, fun q hq => ⟨?_, hpair q hq⟩⟩ b2 h2;by_cases z : q + n < w
   ·exact z
   ·rw [zgk hm (1:)] at hq; cases hq
def zbP:FnScope ["_law_hand_here","_law_width","_law_n","_law_begin","_law_end"] ["_law_hand_here","_law_width","_law_n"] (zah zbi):=⟨rfl,rfl,rfl,by decide +kernel,rfl,by decide +kernel,by decide +kernel⟩
def zdt {a:Addr} {fd:FuncData} (B:Blt K mg) (g__law_word:A21 P w K mg base) (F:Fun K "_law_copy_mask" "_law_copy_mask" zbi a fd):FnOk P w K mg base CX0 3 a fd ["_law_hand_here","_law_width","_law_n"] zeV:=by
 refine F.ok zbP (λ vs H Q E h=>?_) (λ cdv A outer s H vs Q E hr h=>?_)
 ·obtain ⟨p,w,n,rfl,_⟩:=h;rfl
 ·have nd := zbP.nd;have hu := hr.units;obtain ⟨p, w, n, rfl, hH, hn0, hn1, hn2, hw, k⟩ := h;refine ⟨_, ((7:) (@zm3 _ _ 3 4 _ _ _ _ _ _ _ _ _ _ _ rfl nd rfl rfl (3:) rfl rfl ((2:) ((25:) (@zjh _ rfl) rfl B.b_max boot_max ((2:) (6:) ((2:) (@zgG _ _ _ _ _ _ (@zdZ _) (13:)) (4:) (0:)) (0:)) (3:) (3:) (0:) (0:)) ((2:) ((25:) (@zix _ rfl) rfl B.b_min boot_min ((2:) (16:) ((2:) ((10:) (@za7 _) (16:) (13:)) (4:) (0:)) (0:)) (3:) (3:) (0:) (0:)) (4:) (0:)) (0:)) rfl (0:)) ((9:) ((19:) ((10:) (@zdG _) ((14:) g__law_word (15:) ((2:) (8:) ((2:) (16:) (4:) (0:)) (0:)) (0:) (3:) (0:) (0:)) ((10:) (@za7 _) ((10:) (@zck _) (6:) (26:)) ((10:) (@zck _) (6:) (20:))))))), ?_⟩;symm;obtain ⟨lo, elo⟩ : ∃ lo : Nat, (if -n > 0 then -n else 0) = (lo : Int) := ⟨(-n).toNat, by split <;> omega⟩
  obtain ⟨hi,ehi⟩:∃ hi:Nat,(if (w:Int) - n < w then (w:Int) - n else w)=(hi:Int):=⟨((w:Int) - n).toNat - (if (w:Int) - n < w then 0 else (-n).toNat),by split <;> omega⟩
  rw [elo,ehi]
  have hlo:lo <= hi /\ hi <= w /\ (∀ q:Nat,lo <= q -> q < hi -> 0 <= (q:Int) + n /\ (q:Int) + n < w):=by
   refine ⟨?_,?_,λ q h1 h2=>?_⟩ <;> (split at elo <;> split at ehi <;> omega)
  refine ⟨p,w,rfl,hH,by omega,hw,λ x H2 hx b2 h2=>?_⟩;symm;have hpp:2 ^ lo <= 2 ^ hi:=yaS (3:) hlo.1;rw [show (1:Int) * 2 ^ ((hi:Int)).toNat - 1 * 2 ^ ((lo:Int)).toNat=((2 ^ hi - 2 ^ lo:Nat):Int) by rw [yao,yao,Int.natCast_sub hpp]; simp,zbT];refine k _ H2 ⟨hn0,hn1,hn2,yaU Nat.and_le_left hx,λ q hq=>?_⟩ b2 h2;rw [Nat.testBit_and,yam,zkG hlo.1,yam,decide_eq_true_iff,decide_eq_true_iff] at hq;exact hlo.2.2 q hq.2.1 hq.2.2
def zdI:FnScope ["_law_hand_here","_law_width","_law_word_here","_law_n"] ["_law_hand_here","_law_width"] (zah zcM):=⟨rfl,rfl,rfl,by decide +kernel,rfl,by decide +kernel,by decide +kernel⟩
def zfF {a:Addr} {fd:FuncData} (B:Blt K mg) (g__law_draw:A18 P w K mg base) (g__law_word:A21 P w K mg base) (g__law_swap_mask:A22 P w K mg base) (g__law_copy_mask:A23 P w K mg base) (F:Fun K "_law_deed" "_law_deed" zcM a fd):FnOk P w K mg base CX0 4 a fd ["_law_hand_here","_law_width"] zlc:=by
 refine F.ok zdI (λ vs H Q E h=>?_) (λ cdv A outer s H vs Q E hr h=>?_)
 ·obtain ⟨p,w,rfl,_⟩:=h;rfl
 ·have nd := zdI.nd;have hu := hr.units;obtain ⟨p, w, rfl, hH, hw1, hw2, k⟩ := h;refine ⟨_, ((7:) (@zas _ _ 2 _ _ _ _ nd rfl (12:) ((49:) (52:) ((47:) ((30:) ((30:) ((30:) ((30:) ((30:) ((30:) ((30:) ((30:) ((30:) (4:))))))))))) ((14:) g__law_draw (15:) ((2:) (8:) ((2:) (6:) (4:) (0:)) (0:)) (0:) (3:) (0:) (0:)) (51:)) (0:) (11:)) ((7:) ((23:) (@PW.pt _ _ _ ((64:) ((17:) (54:) (13:) ((34:) ((30:) ((30:) ((30:) ((30:) (4:)))))) rfl) (@zeN _ _ _ _ (@PW.pt _ _ _ ((45:) ((17:) (22:) (16:) (6:) (18:)) ((53:) ((17:) (54:) (13:) ((34:) ((30:) ((30:) (4:)))) rfl))))))) ((9:) ((19:) ((34:) ((2:) ((37:) ((17:) (@zi5 _ K (0:)) (13:) ((34:) ((30:) ((30:) (4:)))) rfl) (13:) (35:)) ((2:) ((14:) g__law_word (15:) ((2:) (8:) ((2:) (16:) (4:) (0:)) (0:)) (0:) (3:) (0:) (0:)) (4:) (0:)) (0:))))) (24:)) ((7:) ((23:) ((17:) (54:) (13:) ((34:) ((30:) ((30:) (4:)))) rfl) ((9:) ((19:) ((34:) ((2:) (13:) ((2:) ((14:) g__law_draw (15:) ((2:) (8:) ((2:) ((10:) (27:) (16:) (6:)) (4:) (0:)) (0:)) (0:) (3:) (0:) (0:)) (4:) (0:)) (0:))))) (24:)) ((7:) ((23:) ((17:) (22:) (13:) (35:) (18:)) ((9:) ((19:) ((34:) ((2:) (13:) ((2:) ((14:) g__law_draw (15:) ((2:) (8:) ((2:) (16:) (4:) (0:)) (0:)) (0:) (3:) (0:) (0:)) (4:) (0:)) (0:))))) (24:)) ((7:) (@zas _ _ 3 _ _ _ _ nd rfl (12:) ((10:) (27:) (6:) ((14:) g__law_draw (15:) ((2:) (8:) ((2:) ((10:) (@za7 _) (16:) (6:)) (4:) (0:)) (0:)) (0:) (3:) (0:) (0:))) (0:) (11:)) ((7:) ((23:) ((17:) (22:) (13:) (35:) (18:)) ((9:) ((19:) ((34:) ((2:) (13:) ((2:) ((14:) g__law_swap_mask (15:) ((2:) (8:) ((2:) (16:) ((2:) (20:) (4:) (0:)) (0:)) (0:)) (0:) (3:) (0:) (0:)) ((2:) (20:) (4:) (0:)) (0:)) (0:))))) (24:)) ((7:) (@zas _ _ 3 _ _ _ _ nd rfl (12:) ((10:) (55:) (20:) ((10:) (@za7 _) (6:) ((10:) (55:) (6:) ((14:) g__law_draw (15:) ((2:) (8:) ((2:) (6:) (4:) (0:)) (0:)) (0:) (3:) (0:) (0:))))) (0:) (11:)) ((9:) ((19:) ((34:) ((2:) (13:) ((2:) ((14:) g__law_copy_mask (15:) ((2:) (8:) ((2:) (16:) ((2:) (20:) (4:) (0:)) (0:)) (0:)) (0:) (3:) (0:) (0:)) ((2:) (20:) (4:) (0:)) (0:)) (0:)))))))))))), ?_⟩;symm;refine za2 (5:) fun l H1 fl s1 n1 => ?_;have h1 := hH.same s1;have nlp := hH.ne fl;symm;refine ⟨p, 9, rfl, h1, by decide, by decide, fun r H2 hr b2 h2 => ?_⟩;have n2 := b2.keep _ _ nlp n1;have b2 : But p H H2 := s1.but.trans b2;clear n1 h1 s1;rcases (show r = 0 \/ r = 1 \/ r = 2 \/ r = 3 \/ r = 4 \/ r = 5 \/ r = 6 \/ r = 7 \/ r = 8 by omega) with rfl | rfl | rfl | rfl | rfl | rfl | rfl | rfl | rfl
  all_goals symm
  all_goals refine zar (5:) λ t1 H3 f3 s3 n3=>?_
  all_goals have h3:=h2.same s3
  all_goals have b3:But p H H3:=b2.trans s3.but
  all_goals symm
  ·refine zar (5:) λ t2 H4 f4 s4 n4=>?_;symm;refine ⟨p,w,rfl,h3.same s4,hw1,hw2,λ m H5 hm b5 h5=>?_⟩;symm;refine zar (5:) λ t H6 f6 s6 n6=>?_;exact k t (.and m) H6 hm (b3.trans (s4.but.trans (b5.trans s6.but))) (h5.same s6) n6
  ·refine zar (5:) λ t2 H4 f4 s4 n4=>?_;symm;refine ⟨p,w,rfl,h3.same s4,hw1,hw2,λ m H5 hm b5 h5=>?_⟩;symm;refine zar (5:) λ t H6 f6 s6 n6=>?_;exact k t (.or m) H6 hm (b3.trans (s4.but.trans (b5.trans s6.but))) (h5.same s6) n6
  ·refine zaC (fun hc => ?_) (fun hc => ?_)
   ·symm;refine zar (5:) fun t1' H3' f3' s3' n3' => ?_
    replace h3:=h3.same s3'
    replace b3:But p H H3':=b3.trans s3'.but
    clear n3 s3;symm;refine zar (5:) λ t2 H4 f4 s4 n4=>?_;symm;refine ⟨p,w + 1,rfl,h3.same s4,by omega,by omega,λ m H5 hm b5 h5=>?_⟩;symm;refine zar (5:) λ t H6 f6 s6 n6=>?_;exact k t (.left m) H6 (show m <= w by omega) (b3.trans (s4.but.trans (b5.trans s6.but))) (h5.same s6) n6
   ·symm;refine zar (5:) λ t2 H4 f4 s4 n4=>?_;symm;refine ⟨p,w + 1,rfl,h3.same s4,by omega,by omega,λ m H5 hm b5 h5=>?_⟩;symm;refine zar (5:) λ t H6 f6 s6 n6=>?_;exact k t (.left m) H6 (show m <= w by omega) (b3.trans (s4.but.trans (b5.trans s6.but))) (h5.same s6) n6
  ·refine zaC (fun hc => ?_) (fun hc => ?_)
   ·symm;refine zar (5:) fun t1' H3' f3' s3' n3' => ?_
    replace h3:=h3.same s3'
    replace b3:But p H H3':=b3.trans s3'.but
    clear n3 s3;symm;refine zar (5:) λ t2 H4 f4 s4 n4=>?_;symm;refine ⟨p,w + 1,rfl,h3.same s4,by omega,by omega,λ m H5 hm b5 h5=>?_⟩;symm;refine zar (5:) λ t H6 f6 s6 n6=>?_;exact k t (.right m) H6 (show m <= w by omega) (b3.trans (s4.but.trans (b5.trans s6.but))) (h5.same s6) n6
   ·symm;refine zar (5:) λ t2 H4 f4 s4 n4=>?_;symm;refine ⟨p,w + 1,rfl,h3.same s4,by omega,by omega,λ m H5 hm b5 h5=>?_⟩;symm;refine zar (5:) λ t H6 f6 s6 n6=>?_;exact k t (.right m) H6 (show m <= w by omega) (b3.trans (s4.but.trans (b5.trans s6.but))) (h5.same s6) n6
  ·refine zaC (fun hc => ?_) (fun hc => ?_)
   ·symm;refine zar (5:) fun t1' H3' f3' s3' n3' => ?_
    replace h3:=h3.same s3'
    replace b3:But p H H3':=b3.trans s3'.but
    clear n3 s3;symm;refine zar (5:) λ t2 H4 f4 s4 n4=>?_;symm;refine ⟨p,w,rfl,h3.same s4,by omega,by omega,λ m H5 hm b5 h5=>?_⟩;symm;refine zar (5:) λ t H6 f6 s6 n6=>?_;exact k t (.turn m) H6 hm (b3.trans (s4.but.trans (b5.trans s6.but))) (h5.same s6) n6
   ·symm;refine zar (5:) λ t2 H4 f4 s4 n4=>?_;symm;refine ⟨p,w,rfl,h3.same s4,by omega,by omega,λ m H5 hm b5 h5=>?_⟩;symm;refine zar (5:) λ t H6 f6 s6 n6=>?_;exact k t (.turn m) H6 hm (b3.trans (s4.but.trans (b5.trans s6.but))) (h5.same s6) n6
  ·refine zaC (fun hc => ?_) (fun hc => ?_)
   ·symm;refine zar (5:) fun t1' H3' f3' s3' n3' => ?_
    replace h3:=h3.same s3'
    replace b3:But p H H3':=b3.trans s3'.but
    clear n3 s3;symm;refine zar (5:) λ t2 H4 f4 s4 n4=>?_;symm;refine ⟨p,w,rfl,h3.same s4,hw1,hw2,λ m H5 hm b5 h5=>?_⟩;symm;refine zar (5:) λ t H6 f6 s6 n6=>?_;exact k t (.and m) H6 hm (b3.trans (s4.but.trans (b5.trans s6.but))) (h5.same s6) n6
   ·symm;refine zar (5:) λ t2 H4 f4 s4 n4=>?_;symm;refine ⟨p,w - 1,by rw [show ((w:Int) - 1)=((w - 1:Nat):Int) by omega]; rfl,h3.same s4,by omega,by omega,λ m H5 hm b5 h5=>?_⟩;symm;refine ⟨p,w,1 + m,by rw [show (1:Int) + (m:Int)=((1 + m:Nat):Int) by omega]; rfl,h5,by omega,by omega,hw2,λ x H6 hx b6 h6=>?_⟩;symm;refine zar (5:) λ t H7 f7 s7 n7=>?_;exact k t (.swap x (1 + m)) H7 hx (b3.trans (s4.but.trans (b5.trans (b6.trans s7.but)))) (h6.same s7) (by rw [n7]; show some (HO.tup [_,_,V.int ((1:Int) + (m:Int))])=some (HO.tup [_,_,V.int ((1 + m:Nat):Int)]); rw [show (1:Int) + (m:Int)=((1 + m:Nat):Int) by omega])
  ·refine zar (5:) λ t2 H4 f4 s4 n4=>?_;symm;refine ⟨p,w,rfl,h3.same s4,hw1,hw2,λ m H5 hm b5 h5=>?_⟩;symm;refine zar (5:) λ t H6 f6 s6 n6=>?_;exact k t (.gather m) H6 hm (b3.trans (s4.but.trans (b5.trans s6.but))) (h5.same s6) n6
  ·refine zar (5:) λ t2 H4 f4 s4 n4=>?_;symm;refine ⟨p,w,rfl,h3.same s4,hw1,hw2,λ m H5 hm b5 h5=>?_⟩;symm;refine zar (5:) λ t H6 f6 s6 n6=>?_;exact k t (.strew m) H6 hm (b3.trans (s4.but.trans (b5.trans s6.but))) (h5.same s6) n6
  ·refine zaC (fun hc => ?_) (fun hc => ?_)
   ·symm;refine zar (5:) fun t1' H3' f3' s3' n3' => ?_
    replace h3:=h3.same s3'
    replace b3:But p H H3':=b3.trans s3'.but
    clear n3 s3;symm;refine zar (5:) λ t2 H4 f4 s4 n4=>?_;symm;refine ⟨p,w,rfl,h3.same s4,hw1,hw2,λ m H5 hm b5 h5=>?_⟩;symm;refine zar (5:) λ t H6 f6 s6 n6=>?_;exact k t (.and m) H6 hm (b3.trans (s4.but.trans (b5.trans s6.but))) (h5.same s6) n6
   ·symm;refine zar (5:) fun t2 H4 f4 s4 n4 => ?_;symm;refine ⟨p, w - 1, by rw [show ((w : Int) - 1) = ((w - 1 : Nat) : Int) by omega]; rfl, h3.same s4, by omega, by omega, fun m H5 hm b5 h5 => ?_⟩;symm;refine ⟨p, 2, rfl, h5, by decide, by decide, fun y H6 hy b6 h6 => ?_⟩;symm
    obtain ⟨z,ez,hz⟩:∃ z:Int,(1 + (m:Int)) * (1 - 2 * (y:Int))=z /\ z ≠ 0 /\ -(w:Int) < z /\ z < w:=by
     rcases (show y=0 \/ y=1 by omega) with rfl | rfl
     ·exact ⟨1 + (m:Int),by simp,by omega,by omega,by omega⟩
     ·exact ⟨-(1 + (m:Int)),by simp,by omega,by omega,by omega⟩
    rw [ez];refine ⟨p,w,z,rfl,h6,hz.1,hz.2.1,hz.2.2,hw2,λ x H7 hx b7 h7=>?_⟩;symm;refine zar (5:) λ t H8 f8 s8 n8=>?_;exact k t (.copy x z) H8 hx (b3.trans (s4.but.trans (b5.trans (b6.trans (b7.trans s8.but))))) (h7.same s8) n8
def zdK:FnScope ["_law_hand_here","_law_width","_law_most","_law_menu_here","_law_k"] ["_law_hand_here","_law_width","_law_most"] (zah zcS):=⟨rfl,rfl,rfl,by decide +kernel,rfl,by decide +kernel,by decide +kernel⟩
def zgu {a:Addr} {fd:FuncData} (B:Blt K mg) (g__law_draw:A18 P w K mg base) (g__law_deed:A24 P w K mg base) (F:Fun K "_law_menu" "_law_menu" zcS a fd):FnOk P w K mg base CX0 5 a fd ["_law_hand_here","_law_width","_law_most"] zkW:=by
 refine F.ok zdK (λ vs H Q E h=>?_) (λ cdv A outer s H vs Q E hr h=>?_)
 ·obtain ⟨p,w,k,rfl,_⟩:=h;rfl
 ·have nd := zdK.nd;have hu := hr.units;obtain ⟨p, wd, n, rfl, hH, hw1, hw2, hn, k⟩ := h;refine ⟨_, ((7:) (78:) ((7:) ((40:) yaM rfl (@zax _ _ _ _ _ _ rfl B.b_range ((2:) ((14:) g__law_draw (15:) ((2:) (8:) ((2:) ((10:) (27:) (13:) (6:)) (4:) (0:)) (0:)) (0:) (3:) (0:) (0:)) (4:) (0:)) (0:)) (75:) ((7:) ((39:) (@k_bm _ K _ _ _ _ _ _ _ _ _ _ _ yaw yaA yaB (@zaP _) (20:) ((2:) ((14:) g__law_deed (15:) ((2:) (8:) ((2:) (16:) (4:) (0:)) (0:)) (0:) (3:) (0:) (0:)) (4:) (0:)) (0:) (0:) (0:) (0:) (0:) (0:)) (0:)) ((9:) ((23:) ((17:) (22:) ((14:) g__law_draw (15:) ((2:) (8:) ((2:) (6:) (4:) (0:)) (0:)) (0:) (3:) (0:) (0:)) (6:) (18:)) ((9:) ((39:) (@k_bm _ K _ _ _ _ _ _ _ _ _ _ _ yaw yaA yaB (@zaP _) (20:) ((2:) ((49:) (52:) (20:) ((14:) g__law_draw (15:) ((2:) (8:) ((2:) ((25:) (46:) rfl B.b_len boot_len ((2:) (20:) (4:) (0:)) (3:) (3:) (0:) (0:)) (4:) (0:)) (0:)) (0:) (3:) (0:) (0:)) (51:)) (4:) (0:)) (0:) (0:) (0:) (0:) (0:) (0:)) (0:))) (24:)))) (21:)) ((9:) ((19:) (20:))))), ?_⟩;symm;refine za2 (5:) fun l H1 f1 s1 n1 => ?_;have h1 := hH.same s1;symm;refine ⟨p, n + 1, rfl, h1, by omega, by omega, fun r H2 hr b2 h2 => ?_⟩;have lp : l ≠ p := hH.ne f1;symm;refine za9 (n := r) rfl (1:) ?_
  refine zaw (λ i σ H'=>But p H H' /\ Hand H' p /\ i <= r /\ ∃ L v4,L.length <= 2 * i /\ Rw H' wd L /\ H' l=some (.lst (rowV L)) /\ σ=[some (.ref p),some (nV wd),some (nV n),some (.ref l),v4])
   ⟨s1.but.trans b2,h2,by omega,[],none,yag _,λ _ z=>(nomatch z),b2.keep _ _ lp n1,rfl⟩ ?_ ?_
  ·rintro i σ H3 hi ⟨b3, h3, hi3, L, v4, hL, hR, nl, rfl⟩;symm;refine ⟨p, wd, rfl, h3, hw1, hw2, fun t d H4 hd b4 h4 n4 => ?_⟩;have l4 := b4.keep _ _ lp nl
   have R4:Rw H4 wd (L ++ [(t,d)]):=λ q hq=>by
    rcases yaK.mp hq with z | z
    ·exact hR.but h3 b4 q z
    ·rw [yaz.mp z]; exact ⟨n4,hd⟩
   have zl:(rowV L).length <= 24:=by rw [rowV,yac]; omega
   symm;have R5:Rw (upd H4 l (.lst (rowV L ++ [.ref t]))) wd (L ++ [(t,d)]):=R4.updL l4;have l5:upd H4 l (.lst (rowV L ++ [.ref t])) l=some (.lst (rowV (L ++ [(t,d)]))):=by rw [zad,rowV,rowV,yax]; rfl
   have b5:But p H (upd H4 l (.lst (rowV L ++ [.ref t]))):=(b3.trans b4).upd' f1;have h5:Hand (upd H4 l (.lst (rowV L ++ [.ref t]))) p:=hH.upd (b3.trans b4) h4 f1;generalize upd H4 l (.lst (rowV L ++ [.ref t]))=H5 at *;refine ⟨p,8,rfl,h5,by decide,by decide,λ r6 H6 hr6 b6 h6=>?_⟩;have l6:=b6.keep _ _ lp l5;have R6:=R5.but h5 b6;symm;refine zaC (λ hc=>?_) (λ hc=>?_)
   ·symm;have zr : (rowV (L ++ [(t, d)])).length = L.length + 1 := by rw [rowV, yac, yaf]; rfl
    rw [zr];refine ⟨p,L.length + 1,rfl,h6,by omega,by omega,λ r7 H7 hr7 b7 h7=>?_⟩;have l7:=b7.keep _ _ lp l6;have R7:=R6.but h6 b7;have hlt:r7 < (L ++ [(t,d)]).length:=by rw [yaf]; exact hr7
    have hq:(L ++ [(t,d)])[r7]?=some (L ++ [(t,d)])[r7]:=yaa hlt;generalize (L ++ [(t,d)])[r7]=q at hq;symm;refine zcF (SqL.of l7) (1:) (by rw [rowV,yai,yao,hq]; rfl) ?_;have zl2:(rowV (L ++ [(t,d)])).length <= 50:=by omega
    symm;have qm:=yav hq;refine ⟨((b5.trans b6).trans b7).upd' f1,hH.upd ((b5.trans b6).trans b7) h7 f1,by omega,L ++ [(t,d)] ++ [q],_,by simp; omega,Rw.updL (λ x hx=>?_) l7,by rw [zad]; simp [rowV],rfl⟩;rcases yaK.mp hx with z | z
    ·exact R7 x z
    ·rw [yaz.mp z]; exact R7 q qm
   ·symm;exact ⟨b5.trans b6,h6,by omega,L ++ [(t,d)],_,by simp; omega,R6,l6,rfl⟩
  ·rintro σ H3 ⟨b3,h3,hi3,L,v4,hL,hR,nl,rfl⟩;symm;exact k l L H3 f1 b3 h3 nl hR (1:)
def zed:FnScope ["_law_word_here","_law_place"] ["_law_word_here","_law_place"] (zah zdf):=⟨rfl,rfl,rfl,by decide +kernel,rfl,by decide +kernel,by decide +kernel⟩
def zgT {a:Addr} {fd:FuncData} (B:Blt K mg)  (F:Fun K "_law_bit" "_law_bit" zdf a fd):FnOk P w K mg base CX0 1 a fd ["_law_word_here","_law_place"] zhp:=by
 refine F.ok zed (λ vs H Q E h=>?_) (λ cdv A outer s H vs Q E hr h=>?_)
 ·obtain ⟨x,k,rfl,_⟩:=h;rfl
 ·have nd := zed.nd;have hu := hr.units;obtain ⟨x, k, rfl, hk, q⟩ := h;refine ⟨_, ((9:) ((19:) ((10:) (@zcW _) ((10:) (@zdY _) (8:) ((10:) (@zck _) (6:) (16:))) (6:)))), ?_⟩;symm;have hp : 0 < (1 : Int) * 2 ^ ((k : Int)).toNat := by rw [ybX]; exact Int.pow_pos (3:)
  have hp2:(1:Int) * 2 ^ ((k:Int)).toNat < 18446744073709551616:=by
   have:=ycr (a:=2) (3:) hk;rw [ybX,yao,show (2:Int) ^ k=((2 ^ k:Nat):Int) by simp];omega
  refine s_ri ⟨hp,hp2⟩ ?_;symm;rw [zie];exact q
def zbV:FnScope ["_law_deed_here","_law_places","_law_p"] ["_law_deed_here","_law_places","_law_p"] (zah zbj):=⟨rfl,rfl,rfl,by decide +kernel,rfl,by decide +kernel,by decide +kernel⟩
def zdp {a:Addr} {fd:FuncData} (B:Blt K mg)  (F:Fun K "_law_from_pair" "_law_from_pair" zbj a fd):FnOk P w K mg base CX0 1 a fd ["_law_deed_here","_law_places","_law_p"] zeF:=by
 refine F.ok zbV (λ vs H Q E h=>?_) (λ cdv A outer s H vs Q E hr h=>?_)
 ·obtain ⟨b,c,d,m,n,w,q,rfl,_⟩:=h;rfl
 ·have nd := zbV.nd;have hu := hr.units;obtain ⟨b, c, d, m, n, w, q, rfl, hb, hc, hd, hm, k⟩ := h;have fl := zbQ (zae m)
  have inP:∀ z:Int,inV (.int z) ((zae m).map nV)=inM m z:=λ z=>by
   rw [show (zae m).map nV=(zae m).map λ (n:Nat)=>V.int (n:Int) from rfl,zju];unfold inM;apply ycx.mpr;rw [decide_eq_true_iff,yam,decide_eq_true_iff,zbp]
  refine ⟨_,((7:) ((23:) ((17:) (54:) ((10:) (@za7 _) (13:) (36:)) (16:) rfl) ((9:) ((19:) ((10:) (@za7 _) (13:) (36:)))) (24:)) ((9:) ((19:) ((37:) (@PW.pt _ _ _ ((45:) ((17:) (22:) (36:) (35:) (18:)) ((53:) ((17:) (54:) (13:) (16:) rfl)))) ((10:) (27:) (13:) (36:)) (13:))))),?_⟩;rcases hd with ⟨kn,rfl,rfl⟩ | rfl
  ·symm;refine ⟨c, _, rfl, .inl (SqL.of hc), rfl, fl, ?_⟩;rw [if_neg (3:), inP];symm;have e0 : (Dd.swap m kn).src w q = (if inM m ((q : Int) - kn) then (q : Int) - kn else if m.testBit q then (q : Int) + kn else q) := rfl;refine ite2 (fun h1 => ?_) (fun h1 => ?_)
   ·symm;rw [e0,if_pos h1] at k;exact k H λ _ _ e=>e
   ·rw [e0, if_neg h1] at k;symm;refine ⟨c, _, rfl, .inl (SqL.of hc), rfl, fl, ?_⟩;rw [if_neg (3:), inP, zeb];symm;refine ite2 (fun h2 => ?_) (fun h2 => ?_)
    ·symm;rw [if_pos h2] at k;exact k H λ _ _ e=>e
    ·symm;rw [if_neg h2] at k;exact k H λ _ _ e=>e
  ·symm;refine ⟨c, _, rfl, .inl (SqL.of hc), rfl, fl, ?_⟩;rw [if_neg (3:), inP];symm;have e0 : (Dd.copy m n).src w q = (if inM m ((q : Int) - n) then (q : Int) - n else q) := rfl;refine ite2 (fun h1 => ?_) (fun h1 => ?_)
   ·symm;rw [e0,if_pos h1] at k;exact k H λ _ _ e=>e
   ·rw [e0,if_neg h1] at k;symm;exact k H λ _ _ e=>e
def zdJ:FnScope ["_law_width","_law_deed_here","_law_word_here","_law_number","_law_places","_law_found","_law_p"] ["_law_width","_law_deed_here"] (zah zb0):=⟨rfl,rfl,rfl,by decide +kernel,rfl,by decide +kernel,by decide +kernel⟩
def zfR {a:Addr} {fd:FuncData} (B:Blt K mg) (g__law_bit:A26 P w K mg base) (g__law_from_pair:A27 P w K mg base) (F:Fun K "_law_from" "_law_from" zb0 a fd):FnOk P w K mg base CX0 2 a fd ["_law_width","_law_deed_here"] zkT:=by
 refine F.ok zdJ (λ vs H Q E h=>?_) (λ cdv A outer s H vs Q E hr h=>?_)
 ·obtain ⟨w,b,d,rfl,_⟩:=h;rfl
 ·have nd := zdJ.nd;have hu := hr.units;obtain ⟨w, b, d, rfl, hb, hd, hw, k⟩ := h;have hm := d.mask_lt hd;have hm64 := lt64 hm hw;have fl := zbQ (zae d.mask)
  have tk:∀ (i:Nat) (v:Int),v=d.src w i -> i < w -> ((d.led w).take i).map V.int ++ [V.int v]=((d.led w).take (i + 1)).map V.int:=λ i v hv hi=>by
   rw [ya9,Dd.led,yai,ybE hi,yax,hv];rfl
  have hlen:∀ i,i <= 64 -> (((List.range i).filter d.mask.testBit).map nV).length <= sizeLine:=λ i hi=>by
   have:=ybK d.mask.testBit (List.range i);rw [ya6] at this;rw [yac];exact yaC (zaO (1:))
  have yes:∀ i,d.mask.testBit i=true -> ((List.range i).filter d.mask.testBit).map nV ++ [V.int (i:Int)]=((List.range (i + 1)).filter d.mask.testBit).map nV:=λ i hb=>by
   rw [yaO,yaN,yax,List.filter_cons_of_pos hb];rfl
  have no:∀ i,d.mask.testBit i=false -> ((List.range i).filter d.mask.testBit).map nV=((List.range (i + 1)).filter d.mask.testBit).map nV:=λ i hb=>by
   rw [yaO,yaN,List.filter_cons_of_neg (by rw [hb]; exact yaq)];simp
  refine ⟨_,((7:) (@zeO _ _ _ _ _ _ ((34:) ((2:) (38:) ((2:) (38:) (4:) (0:)) (0:))) (@zgI _ K _ _ _ _ 2 rfl (@zcu _ _ _ _ _ (@zat _ _ 2 _ nd rfl (Or.inr rfl) (11:)) (@zcu _ _ _ _ _ (@zat _ _ 3 _ nd rfl (Or.inr rfl) (11:)) (@zgX _) (0:)) (0:)) (0:) (0:) (0:)) (0:) (0:) (0:)) ((7:) (@zeI _ _ _ _ _ _ (zah zb0) _ ["_law_width","_law_deed_here","_law_word_here","_law_number","_law_places","_law_found","_law_p"] ["_law_p","_law_word_here","_law_number"] [none,some 2,some 3] _ _ _ _ 4 _ _ _ nd rfl (12:) rfl (66:) (λ _ _ _ _=>(@zat _ _ 0 _ (show List.Nodup (["_law_p","_law_word_here","_law_number"]:List Str) by decide +kernel) rfl (12:) (11:))) (λ _ _ _ _=>(@zdm _ _ _ (@PW.pt _ _ _ ((45:) ((17:) (@zi5 _ K (0:)) (16:) ((34:) ((30:) ((30:) ((30:) (4:))))) rfl) ((53:) ((17:) (22:) ((14:) g__law_bit (15:) ((2:) (13:) ((2:) (8:) (4:) (0:)) (0:)) (0:) (3:) (0:) (0:)) (6:) (18:))))))) (λ _ _ _ _=>(8:)) (28:) (0:) (0:) (21:) (0:) (11:)) ((7:) (@zas _ _ 5 _ _ _ _ nd rfl (12:) ((47:) (4:)) (0:) (11:)) ((7:) ((40:) yaM rfl (66:) (@zat _ _ 6 _ nd rfl (12:) (11:)) ((9:) ((23:) ((17:) (22:) (13:) (35:) (18:)) ((9:) ((39:) (@k_bm _ K _ _ _ _ _ _ _ _ _ _ _ yaw yaA yaB (@zaP _) (33:) ((2:) ((37:) ((17:) (54:) (31:) (26:) rfl) (31:) (60:)) (4:) (0:)) (0:) (0:) (0:) (0:) (0:) (0:)) (0:))) ((9:) ((23:) ((17:) (22:) (13:) (35:) (18:)) ((9:) ((39:) (@k_bm _ K _ _ _ _ _ _ _ _ _ _ _ yaw yaA yaB (@zaP _) (33:) ((2:) ((37:) ((17:) (54:) (31:) (26:) rfl) (60:) (31:)) (4:) (0:)) (0:) (0:) (0:) (0:) (0:) (0:)) (0:))) ((9:) ((23:) ((17:) (22:) (13:) (35:) (18:)) ((9:) ((39:) (@k_bm _ K _ _ _ _ _ _ _ _ _ _ _ yaw yaA yaB (@zaP _) (33:) ((2:) ((37:) ((17:) (@zjU _) (31:) (20:) (18:)) ((10:) (@za7 _) (31:) (20:)) (60:)) (4:) (0:)) (0:) (0:) (0:) (0:) (0:) (0:)) (0:))) ((9:) ((23:) ((17:) (22:) (13:) (35:) (18:)) ((9:) ((39:) (@k_bm _ K _ _ _ _ _ _ _ _ _ _ _ yaw yaA yaB (@zaP _) (33:) ((2:) ((37:) ((17:) (@zhZ _) ((10:) (27:) (31:) (20:)) (8:) (18:)) ((10:) (27:) (31:) (20:)) (60:)) (4:) (0:)) (0:) (0:) (0:) (0:) (0:) (0:)) (0:))) ((9:) ((23:) ((17:) (22:) (13:) (35:) (18:)) ((9:) ((39:) (@k_bm _ K _ _ _ _ _ _ _ _ _ _ _ yaw yaA yaB (@zaP _) (33:) ((2:) ((37:) ((17:) (@zjU _) (31:) (20:) (18:)) ((10:) (@za7 _) (31:) (20:)) ((10:) (27:) ((10:) (@za7 _) (31:) (20:)) (8:))) (4:) (0:)) (0:) (0:) (0:) (0:) (0:) (0:)) (0:))) ((9:) ((23:) ((17:) (22:) (13:) (35:) (18:)) ((9:) ((39:) (@k_bm _ K _ _ _ _ _ _ _ _ _ _ _ yaw yaA yaB (@zaP _) (33:) ((2:) ((37:) ((17:) (@zhZ _) (31:) ((25:) (46:) rfl B.b_len boot_len ((2:) (26:) (4:) (0:)) (3:) (3:) (0:) (0:)) (18:)) ((49:) (52:) (26:) (31:) (51:)) (60:)) (4:) (0:)) (0:) (0:) (0:) (0:) (0:) (0:)) (0:))) ((9:) ((23:) ((17:) (22:) (13:) (35:) (18:)) ((9:) ((39:) (@k_bm _ K _ _ _ _ _ _ _ _ _ _ _ yaw yaA yaB (@zaP _) (33:) ((2:) ((37:) ((17:) (54:) (31:) (26:) rfl) (@k_bm _ K _ _ _ _ _ _ _ _ _ _ _ yaw PySem.F.slot_list_index PySem.F.type_list_index (@zj9 _) (26:) ((2:) (31:) (4:) (0:)) (0:) (0:) (0:) (0:) (0:) (0:)) (60:)) (4:) (0:)) (0:) (0:) (0:) (0:) (0:) (0:)) (0:))) ((9:) ((39:) (@k_bm _ K _ _ _ _ _ _ _ _ _ _ _ yaw yaA yaB (@zaP _) (33:) ((2:) ((14:) g__law_from_pair (15:) ((2:) (16:) ((2:) (26:) ((2:) (31:) (4:) (0:)) (0:)) (0:)) (0:) (3:) (0:) (0:)) (4:) (0:)) (0:) (0:) (0:) (0:) (0:) (0:)) (0:))))))))))))))))) (21:)) ((9:) ((19:) (33:))))))),?_⟩;cases d with
  | and m=>
   symm;refine zar (5:) λ t0 H0 f0 s0 n0=>?_;symm;refine za1 (n:=w) rfl (1:) ?_;refine zaA (λ i acc H'=>i <= 64 /\ Same H0 H' /\ acc=(((List.range i).filter (m:Nat).testBit).map nV)) ⟨by omega,λ _ _ e=>e,rfl⟩ (λ i acc H' h=>by obtain ⟨h1,_,rfl⟩:=h; exact hlen i h1) ?_ ?_
   ·rintro i acc H' hi ⟨hi2, s2, rfl⟩;symm;refine zar (5:) fun t H3 f3 s3 n3 => ?_;symm;refine ⟨m, i, rfl, by omega, ?_⟩;symm;refine zaC (fun h => ?_) (fun h => ?_)
    ·have hbt:(m:Nat).testBit i=true:=by
      cases e:(m:Nat).testBit i
      ·rw [e] at h; cases h
      ·rfl
     symm;exact ⟨by omega,s2.trans s3,yes i hbt⟩
    ·have hbt:(m:Nat).testBit i=false:=by
      cases e:(m:Nat).testBit i
      ·rfl
      ·rw [e] at h; exact absurd rfl h
     exact ⟨by omega,s2.trans s3,no i hbt⟩
   ·rintro acc H' ⟨_, s2, rfl⟩ q hq;rw [show (List.range w).filter (m : Nat).testBit = zae (m : Nat) from (zay hm).symm];have s3 := s2.trans (zaj (o := .lst ((zae (m : Nat)).map nV)) hq);have nq : upd H' q (.lst ((zae (m : Nat)).map nV)) q = some (.lst ((zae (m : Nat)).map nV)) := zad;generalize upd H' q (.lst ((zae (m : Nat)).map nV)) = H3 at s3 nq ⊢;symm;refine za2 (5:) fun l H4 f4 s4 n4 => ?_;symm;refine za9 (n := w) rfl (1:) ?_;refine zaw (fun i σ H' => i <= w /\ Same H3 H' /\ H' l = some (.lst ((((.and m : Dd).led w).take i).map V.int)) /\ ∃ v, σ = [some (nV w), some (.ref b), some (.str "and"), some (nV m), some (.ref q), some (.ref l), v]) ⟨by omega, s4, n4, none, rfl⟩ ?_ ?_
    ·rintro i σ H5 hi ⟨_, s5, n5, v, rfl⟩;have nq5 := s5 _ _ nq;have hb5 := s5 _ _ (s3 _ _ (s0 _ _ hb));symm;refine zli nq5 ?_;rw [zeb];symm;refine ite2 (fun h1 => ?_) (fun h1 => ?_)
     ·symm;exact ⟨by omega,s5.upd' f4,by rw [zad,tk i _ (83:) hi],_,rfl⟩
     ·symm;exact ⟨by omega,s5.upd' f4,by rw [zad,tk i _ (84:) hi],_,rfl⟩
    ·rintro σ H5 ⟨_,s5,n5,v,rfl⟩;symm;refine k l H5 (s0.free (s3.free f4)) (s0.trans (s3.trans s5)) ?_;rw [n5,yat (50:)]
  | or m=>
   symm;refine zar (5:) λ t0 H0 f0 s0 n0=>?_;symm;refine za1 (n:=w) rfl (1:) ?_;refine zaA (λ i acc H'=>i <= 64 /\ Same H0 H' /\ acc=(((List.range i).filter (m:Nat).testBit).map nV)) ⟨by omega,λ _ _ e=>e,rfl⟩ (λ i acc H' h=>by obtain ⟨h1,_,rfl⟩:=h; exact hlen i h1) ?_ ?_
   ·rintro i acc H' hi ⟨hi2, s2, rfl⟩;symm;refine zar (5:) fun t H3 f3 s3 n3 => ?_;symm;refine ⟨m, i, rfl, by omega, ?_⟩;symm;refine zaC (fun h => ?_) (fun h => ?_)
    ·have hbt:(m:Nat).testBit i=true:=by
      cases e:(m:Nat).testBit i
      ·rw [e] at h; cases h
      ·rfl
     symm;exact ⟨by omega,s2.trans s3,yes i hbt⟩
    ·have hbt:(m:Nat).testBit i=false:=by
      cases e:(m:Nat).testBit i
      ·rfl
      ·rw [e] at h; exact absurd rfl h
     exact ⟨by omega,s2.trans s3,no i hbt⟩
   ·rintro acc H' ⟨_, s2, rfl⟩ q hq;rw [show (List.range w).filter (m : Nat).testBit = zae (m : Nat) from (zay hm).symm];have s3 := s2.trans (zaj (o := .lst ((zae (m : Nat)).map nV)) hq);have nq : upd H' q (.lst ((zae (m : Nat)).map nV)) q = some (.lst ((zae (m : Nat)).map nV)) := zad;generalize upd H' q (.lst ((zae (m : Nat)).map nV)) = H3 at s3 nq ⊢;symm;refine za2 (5:) fun l H4 f4 s4 n4 => ?_;symm;refine za9 (n := w) rfl (1:) ?_;refine zaw (fun i σ H' => i <= w /\ Same H3 H' /\ H' l = some (.lst ((((.or m : Dd).led w).take i).map V.int)) /\ ∃ v, σ = [some (nV w), some (.ref b), some (.str "or"), some (nV m), some (.ref q), some (.ref l), v]) ⟨by omega, s4, n4, none, rfl⟩ ?_ ?_
    ·rintro i σ H5 hi ⟨_, s5, n5, v, rfl⟩;have nq5 := s5 _ _ nq;have hb5 := s5 _ _ (s3 _ _ (s0 _ _ hb));symm;refine zli nq5 ?_;rw [zeb];symm;refine ite2 (fun h1 => ?_) (fun h1 => ?_)
     ·symm;exact ⟨by omega,s5.upd' f4,by rw [zad,tk i _ (83:) hi],_,rfl⟩
     ·symm;exact ⟨by omega,s5.upd' f4,by rw [zad,tk i _ (84:) hi],_,rfl⟩
    ·rintro σ H5 ⟨_,s5,n5,v,rfl⟩;symm;refine k l H5 (s0.free (s3.free f4)) (s0.trans (s3.trans s5)) ?_;rw [n5,yat (50:)]
  | left n=>
   symm;refine zar (5:) λ t0 H0 f0 s0 n0=>?_;symm;refine za1 (n:=w) rfl (1:) ?_;refine zaA (λ i acc H'=>i <= 64 /\ Same H0 H' /\ acc=(((List.range i).filter (0:Nat).testBit).map nV)) ⟨by omega,λ _ _ e=>e,rfl⟩ (λ i acc H' h=>by obtain ⟨h1,_,rfl⟩:=h; exact hlen i h1) ?_ ?_
   ·rintro i acc H' hi ⟨hi2,s2,rfl⟩;symm;refine zar (5:) λ t H3 f3 s3 n3=>?_;symm;exact ⟨by omega,s2.trans s3,no i (Nat.zero_testBit i)⟩
   ·rintro acc H' ⟨_, s2, rfl⟩ q hq;rw [show (List.range w).filter (0 : Nat).testBit = zae (0 : Nat) from (zay hm).symm];have s3 := s2.trans (zaj (o := .lst ((zae (0 : Nat)).map nV)) hq);have nq : upd H' q (.lst ((zae (0 : Nat)).map nV)) q = some (.lst ((zae (0 : Nat)).map nV)) := zad;generalize upd H' q (.lst ((zae (0 : Nat)).map nV)) = H3 at s3 nq ⊢;symm;refine za2 (5:) fun l H4 f4 s4 n4 => ?_;symm;refine za9 (n := w) rfl (1:) ?_;refine zaw (fun i σ H' => i <= w /\ Same H3 H' /\ H' l = some (.lst ((((.left n : Dd).led w).take i).map V.int)) /\ ∃ v, σ = [some (nV w), some (.ref b), some (.str "left"), some (nV n), some (.ref q), some (.ref l), v]) ⟨by omega, s4, n4, none, rfl⟩ ?_ ?_
    ·rintro i σ H5 hi ⟨_, s5, n5, v, rfl⟩;have nq5 := s5 _ _ nq;have hb5 := s5 _ _ (s3 _ _ (s0 _ _ hb));symm;refine zdw (fun h1 => ?_) (fun h1 => ?_)
     ·symm;exact ⟨by omega,s5.upd' f4,by rw [zad,tk i _ (82:) hi],_,rfl⟩
     ·symm;exact ⟨by omega,s5.upd' f4,by rw [zad,tk i _ (73:) hi],_,rfl⟩
    ·rintro σ H5 ⟨_,s5,n5,v,rfl⟩;symm;refine k l H5 (s0.free (s3.free f4)) (s0.trans (s3.trans s5)) ?_;rw [n5,yat (50:)]
  | right n=>
   symm;refine zar (5:) λ t0 H0 f0 s0 n0=>?_;symm;refine za1 (n:=w) rfl (1:) ?_;refine zaA (λ i acc H'=>i <= 64 /\ Same H0 H' /\ acc=(((List.range i).filter (0:Nat).testBit).map nV)) ⟨by omega,λ _ _ e=>e,rfl⟩ (λ i acc H' h=>by obtain ⟨h1,_,rfl⟩:=h; exact hlen i h1) ?_ ?_
   ·rintro i acc H' hi ⟨hi2,s2,rfl⟩;symm;refine zar (5:) λ t H3 f3 s3 n3=>?_;symm;exact ⟨by omega,s2.trans s3,no i (Nat.zero_testBit i)⟩
   ·rintro acc H' ⟨_, s2, rfl⟩ q hq;rw [show (List.range w).filter (0 : Nat).testBit = zae (0 : Nat) from (zay hm).symm];have s3 := s2.trans (zaj (o := .lst ((zae (0 : Nat)).map nV)) hq);have nq : upd H' q (.lst ((zae (0 : Nat)).map nV)) q = some (.lst ((zae (0 : Nat)).map nV)) := zad;generalize upd H' q (.lst ((zae (0 : Nat)).map nV)) = H3 at s3 nq ⊢;symm;refine za2 (5:) fun l H4 f4 s4 n4 => ?_;symm;refine za9 (n := w) rfl (1:) ?_;refine zaw (fun i σ H' => i <= w /\ Same H3 H' /\ H' l = some (.lst ((((.right n : Dd).led w).take i).map V.int)) /\ ∃ v, σ = [some (nV w), some (.ref b), some (.str "right"), some (nV n), some (.ref q), some (.ref l), v]) ⟨by omega, s4, n4, none, rfl⟩ ?_ ?_
    ·rintro i σ H5 hi ⟨_, s5, n5, v, rfl⟩;have nq5 := s5 _ _ nq;have hb5 := s5 _ _ (s3 _ _ (s0 _ _ hb));symm;refine zdw (fun h1 => ?_) (fun h1 => ?_)
     ·symm;exact ⟨by omega,s5.upd' f4,by rw [zad,tk i _ (82:) hi],_,rfl⟩
     ·symm;exact ⟨by omega,s5.upd' f4,by rw [zad,tk i _ (73:) hi],_,rfl⟩
    ·rintro σ H5 ⟨_,s5,n5,v,rfl⟩;symm;refine k l H5 (s0.free (s3.free f4)) (s0.trans (s3.trans s5)) ?_;rw [n5,yat (50:)]
  | turn n=>
   symm;refine zar (5:) λ t0 H0 f0 s0 n0=>?_;symm;refine za1 (n:=w) rfl (1:) ?_;refine zaA (λ i acc H'=>i <= 64 /\ Same H0 H' /\ acc=(((List.range i).filter (0:Nat).testBit).map nV)) ⟨by omega,λ _ _ e=>e,rfl⟩ (λ i acc H' h=>by obtain ⟨h1,_,rfl⟩:=h; exact hlen i h1) ?_ ?_
   ·rintro i acc H' hi ⟨hi2,s2,rfl⟩;symm;refine zar (5:) λ t H3 f3 s3 n3=>?_;symm;exact ⟨by omega,s2.trans s3,no i (Nat.zero_testBit i)⟩
   ·rintro acc H' ⟨_, s2, rfl⟩ q hq;rw [show (List.range w).filter (0 : Nat).testBit = zae (0 : Nat) from (zay hm).symm];have s3 := s2.trans (zaj (o := .lst ((zae (0 : Nat)).map nV)) hq);have nq : upd H' q (.lst ((zae (0 : Nat)).map nV)) q = some (.lst ((zae (0 : Nat)).map nV)) := zad;generalize upd H' q (.lst ((zae (0 : Nat)).map nV)) = H3 at s3 nq ⊢;symm;refine za2 (5:) fun l H4 f4 s4 n4 => ?_;symm;refine za9 (n := w) rfl (1:) ?_;refine zaw (fun i σ H' => i <= w /\ Same H3 H' /\ H' l = some (.lst ((((.turn n : Dd).led w).take i).map V.int)) /\ ∃ v, σ = [some (nV w), some (.ref b), some (.str "turn"), some (nV n), some (.ref q), some (.ref l), v]) ⟨by omega, s4, n4, none, rfl⟩ ?_ ?_
    ·rintro i σ H5 hi ⟨_, s5, n5, v, rfl⟩;have nq5 := s5 _ _ nq;have hb5 := s5 _ _ (s3 _ _ (s0 _ _ hb));symm;refine zdw (fun h1 => ?_) (fun h1 => ?_)
     ·symm;exact ⟨by omega,s5.upd' f4,by rw [zad,tk i _ (82:) hi],_,rfl⟩
     ·symm;exact ⟨by omega,s5.upd' f4,by rw [zad,tk i _ (73:) hi],_,rfl⟩
    ·rintro σ H5 ⟨_,s5,n5,v,rfl⟩;symm;refine k l H5 (s0.free (s3.free f4)) (s0.trans (s3.trans s5)) ?_;rw [n5,yat (50:)]
  | gather m=>
   symm;refine zar (5:) λ t0 H0 f0 s0 n0=>?_;symm;refine za1 (n:=w) rfl (1:) ?_;refine zaA (λ i acc H'=>i <= 64 /\ Same H0 H' /\ acc=(((List.range i).filter (m:Nat).testBit).map nV)) ⟨by omega,λ _ _ e=>e,rfl⟩ (λ i acc H' h=>by obtain ⟨h1,_,rfl⟩:=h; exact hlen i h1) ?_ ?_
   ·rintro i acc H' hi ⟨hi2, s2, rfl⟩;symm;refine zar (5:) fun t H3 f3 s3 n3 => ?_;symm;refine ⟨m, i, rfl, by omega, ?_⟩;symm;refine zaC (fun h => ?_) (fun h => ?_)
    ·have hbt:(m:Nat).testBit i=true:=by
      cases e:(m:Nat).testBit i
      ·rw [e] at h; cases h
      ·rfl
     symm;exact ⟨by omega,s2.trans s3,yes i hbt⟩
    ·have hbt:(m:Nat).testBit i=false:=by
      cases e:(m:Nat).testBit i
      ·rfl
      ·rw [e] at h; exact absurd rfl h
     exact ⟨by omega,s2.trans s3,no i hbt⟩
   ·rintro acc H' ⟨_, s2, rfl⟩ q hq;rw [show (List.range w).filter (m : Nat).testBit = zae (m : Nat) from (zay hm).symm];have s3 := s2.trans (zaj (o := .lst ((zae (m : Nat)).map nV)) hq);have nq : upd H' q (.lst ((zae (m : Nat)).map nV)) q = some (.lst ((zae (m : Nat)).map nV)) := zad;generalize upd H' q (.lst ((zae (m : Nat)).map nV)) = H3 at s3 nq ⊢;symm;refine za2 (5:) fun l H4 f4 s4 n4 => ?_;symm;refine za9 (n := w) rfl (1:) ?_;refine zaw (fun i σ H' => i <= w /\ Same H3 H' /\ H' l = some (.lst ((((.gather m : Dd).led w).take i).map V.int)) /\ ∃ v, σ = [some (nV w), some (.ref b), some (.str "gather"), some (nV m), some (.ref q), some (.ref l), v]) ⟨by omega, s4, n4, none, rfl⟩ ?_ ?_
    ·rintro i σ H5 hi ⟨_, s5, n5, v, rfl⟩;have nq5 := s5 _ _ nq;have hb5 := s5 _ _ (s3 _ _ (s0 _ _ hb));symm;refine zdw (fun h1 => ?_) (fun h1 => ?_)
     ·symm;rw [yac] at h1;have h1' : i < (zae m).length := by omega
      refine zcF (SqL.of nq5) (1:) (by rw [yao,yai,yaa h1']; rfl) ?_;symm;exact ⟨by omega,s5.upd' f4,by rw [zad,tk i _ (by simp only [Dd.src]; rw [if_pos h1',yas,yaa h1']; rfl) hi],_,rfl⟩
     ·symm;rw [yac] at h1;exact ⟨by omega,s5.upd' f4,by rw [zad,tk i _ (73:) hi],_,rfl⟩
    ·rintro σ H5 ⟨_,s5,n5,v,rfl⟩;symm;refine k l H5 (s0.free (s3.free f4)) (s0.trans (s3.trans s5)) ?_;rw [n5,yat (50:)]
  | strew m=>
   symm;refine zar (5:) λ t0 H0 f0 s0 n0=>?_;symm;refine za1 (n:=w) rfl (1:) ?_;refine zaA (λ i acc H'=>i <= 64 /\ Same H0 H' /\ acc=(((List.range i).filter (m:Nat).testBit).map nV)) ⟨by omega,λ _ _ e=>e,rfl⟩ (λ i acc H' h=>by obtain ⟨h1,_,rfl⟩:=h; exact hlen i h1) ?_ ?_
   ·rintro i acc H' hi ⟨hi2, s2, rfl⟩;symm;refine zar (5:) fun t H3 f3 s3 n3 => ?_;symm;refine ⟨m, i, rfl, by omega, ?_⟩;symm;refine zaC (fun h => ?_) (fun h => ?_)
    ·have hbt:(m:Nat).testBit i=true:=by
      cases e:(m:Nat).testBit i
      ·rw [e] at h; cases h
      ·rfl
     symm;exact ⟨by omega,s2.trans s3,yes i hbt⟩
    ·have hbt:(m:Nat).testBit i=false:=by
      cases e:(m:Nat).testBit i
      ·rfl
      ·rw [e] at h; exact absurd rfl h
     exact ⟨by omega,s2.trans s3,no i hbt⟩
   ·rintro acc H' ⟨_, s2, rfl⟩ q hq;rw [show (List.range w).filter (m : Nat).testBit = zae (m : Nat) from (zay hm).symm];have s3 := s2.trans (zaj (o := .lst ((zae (m : Nat)).map nV)) hq);have nq : upd H' q (.lst ((zae (m : Nat)).map nV)) q = some (.lst ((zae (m : Nat)).map nV)) := zad;generalize upd H' q (.lst ((zae (m : Nat)).map nV)) = H3 at s3 nq ⊢;symm;refine za2 (5:) fun l H4 f4 s4 n4 => ?_;symm;refine za9 (n := w) rfl (1:) ?_;refine zaw (fun i σ H' => i <= w /\ Same H3 H' /\ H' l = some (.lst ((((.strew m : Dd).led w).take i).map V.int)) /\ ∃ v, σ = [some (nV w), some (.ref b), some (.str "strew"), some (nV m), some (.ref q), some (.ref l), v]) ⟨by omega, s4, n4, none, rfl⟩ ?_ ?_
    ·rintro i σ H5 hi ⟨_, s5, n5, v, rfl⟩;have nq5 := s5 _ _ nq;have hb5 := s5 _ _ (s3 _ _ (s0 _ _ hb));symm;refine zli nq5 ?_;rw [zeb];symm;refine ite2 (fun h1 => ?_) (fun h1 => ?_)
     ·symm;refine zlT nq5 h1 ?_;symm;exact ⟨by omega,s5.upd' f4,by rw [zad,tk i _ (83:) hi],_,rfl⟩
     ·symm;exact ⟨by omega,s5.upd' f4,by rw [zad,tk i _ (84:) hi],_,rfl⟩
    ·rintro σ H5 ⟨_,s5,n5,v,rfl⟩;symm;refine k l H5 (s0.free (s3.free f4)) (s0.trans (s3.trans s5)) ?_;rw [n5,yat (50:)]
  | swap m n=>
   symm;refine zar (5:) λ t0 H0 f0 s0 n0=>?_;symm;refine za1 (n:=w) rfl (1:) ?_;refine zaA (λ i acc H'=>i <= 64 /\ Same H0 H' /\ acc=(((List.range i).filter (m:Nat).testBit).map nV)) ⟨by omega,λ _ _ e=>e,rfl⟩ (λ i acc H' h=>by obtain ⟨h1,_,rfl⟩:=h; exact hlen i h1) ?_ ?_
   ·rintro i acc H' hi ⟨hi2, s2, rfl⟩;symm;refine zar (5:) fun t H3 f3 s3 n3 => ?_;symm;refine ⟨m, i, rfl, by omega, ?_⟩;symm;refine zaC (fun h => ?_) (fun h => ?_)
    ·have hbt:(m:Nat).testBit i=true:=by
      cases e:(m:Nat).testBit i
      ·rw [e] at h; cases h
      ·rfl
     symm;exact ⟨by omega,s2.trans s3,yes i hbt⟩
    ·have hbt:(m:Nat).testBit i=false:=by
      cases e:(m:Nat).testBit i
      ·rfl
      ·rw [e] at h; exact absurd rfl h
     exact ⟨by omega,s2.trans s3,no i hbt⟩
   ·rintro acc H' ⟨_, s2, rfl⟩ q hq;rw [show (List.range w).filter (m : Nat).testBit = zae (m : Nat) from (zay hm).symm];have s3 := s2.trans (zaj (o := .lst ((zae (m : Nat)).map nV)) hq);have nq : upd H' q (.lst ((zae (m : Nat)).map nV)) q = some (.lst ((zae (m : Nat)).map nV)) := zad;generalize upd H' q (.lst ((zae (m : Nat)).map nV)) = H3 at s3 nq ⊢;symm;refine za2 (5:) fun l H4 f4 s4 n4 => ?_;symm;refine za9 (n := w) rfl (1:) ?_;refine zaw (fun i σ H' => i <= w /\ Same H3 H' /\ H' l = some (.lst ((((.swap m n : Dd).led w).take i).map V.int)) /\ ∃ v, σ = [some (nV w), some (.ref b), some (.str "swap"), some (nV m), some (.ref q), some (.ref l), v]) ⟨by omega, s4, n4, none, rfl⟩ ?_ ?_
    ·rintro i σ H5 hi ⟨_,s5,n5,v,rfl⟩;have nq5:=s5 _ _ nq;have hb5:=s5 _ _ (s3 _ _ (s0 _ _ hb));symm;refine ⟨b,q,.swap m n,m,n,w,i,rfl,hb5,nq5,.inl ⟨n,rfl,rfl⟩,hm,λ H6 s6=>?_⟩;have n6:=s6 _ _ n5;symm;exact ⟨by omega,(s5.trans s6).upd' f4,by rw [zad,tk i _ rfl hi],_,rfl⟩
    ·rintro σ H5 ⟨_,s5,n5,v,rfl⟩;symm;refine k l H5 (s0.free (s3.free f4)) (s0.trans (s3.trans s5)) ?_;rw [n5,yat (50:)]
  | copy m n=>
   symm;refine zar (5:) λ t0 H0 f0 s0 n0=>?_;symm;refine za1 (n:=w) rfl (1:) ?_;refine zaA (λ i acc H'=>i <= 64 /\ Same H0 H' /\ acc=(((List.range i).filter (m:Nat).testBit).map nV)) ⟨by omega,λ _ _ e=>e,rfl⟩ (λ i acc H' h=>by obtain ⟨h1,_,rfl⟩:=h; exact hlen i h1) ?_ ?_
   ·rintro i acc H' hi ⟨hi2, s2, rfl⟩;symm;refine zar (5:) fun t H3 f3 s3 n3 => ?_;symm;refine ⟨m, i, rfl, by omega, ?_⟩;symm;refine zaC (fun h => ?_) (fun h => ?_)
    ·have hbt:(m:Nat).testBit i=true:=by
      cases e:(m:Nat).testBit i
      ·rw [e] at h; cases h
      ·rfl
     symm;exact ⟨by omega,s2.trans s3,yes i hbt⟩
    ·have hbt:(m:Nat).testBit i=false:=by
      cases e:(m:Nat).testBit i
      ·rfl
      ·rw [e] at h; exact absurd rfl h
     exact ⟨by omega,s2.trans s3,no i hbt⟩
   ·rintro acc H' ⟨_, s2, rfl⟩ q hq;rw [show (List.range w).filter (m : Nat).testBit = zae (m : Nat) from (zay hm).symm];have s3 := s2.trans (zaj (o := .lst ((zae (m : Nat)).map nV)) hq);have nq : upd H' q (.lst ((zae (m : Nat)).map nV)) q = some (.lst ((zae (m : Nat)).map nV)) := zad;generalize upd H' q (.lst ((zae (m : Nat)).map nV)) = H3 at s3 nq ⊢;symm;refine za2 (5:) fun l H4 f4 s4 n4 => ?_;symm;refine za9 (n := w) rfl (1:) ?_;refine zaw (fun i σ H' => i <= w /\ Same H3 H' /\ H' l = some (.lst ((((.copy m n : Dd).led w).take i).map V.int)) /\ ∃ v, σ = [some (nV w), some (.ref b), some (.str "copy"), some (nV m), some (.ref q), some (.ref l), v]) ⟨by omega, s4, n4, none, rfl⟩ ?_ ?_
    ·rintro i σ H5 hi ⟨_,s5,n5,v,rfl⟩;have nq5:=s5 _ _ nq;have hb5:=s5 _ _ (s3 _ _ (s0 _ _ hb));symm;refine ⟨b,q,.copy m n,m,n,w,i,rfl,hb5,nq5,.inr rfl,hm,λ H6 s6=>?_⟩;have n6:=s6 _ _ n5;symm;exact ⟨by omega,(s5.trans s6).upd' f4,by rw [zad,tk i _ rfl hi],_,rfl⟩
    ·rintro σ H5 ⟨_,s5,n5,v,rfl⟩;symm;refine k l H5 (s0.free (s3.free f4)) (s0.trans (s3.trans s5)) ?_;rw [n5,yat (50:)]
def zcG:FnScope ["_law_one","_law_other"] ["_law_one","_law_other"] (zah zbo):=⟨rfl,rfl,rfl,by decide +kernel,rfl,by decide +kernel,by decide +kernel⟩
def zeD {a:Addr} {fd:FuncData} (B:Blt K mg)  (F:Fun K "_law_behind" "_law_behind" zbo a fd):FnOk P w K mg base CX0 1 a fd ["_law_one","_law_other"] zf8:=by
 refine F.ok zcG (λ vs H Q E h=>?_) (λ cdv A outer s H vs Q E hr h=>?_)
 ·obtain ⟨b,c,ls,ms,w,rfl,_⟩:=h;rfl
 ·have nd := zcG.nd;have hu := hr.units;obtain ⟨b, c, ls, ms, w, rfl, hb, hc, h1, h2, hw, k⟩ := h;refine ⟨_, ((9:) ((19:) ((56:) (@zif _ K (0:)) rfl B.b_tuple boot_tuple ((2:) (@zaS _ _ _ _ _ _ (zah zbo) _ ["_law_one", "_law_other"] ["_law_entry", "_law_one"] [none, some 0] _ _ _ _ rfl (67:) (fun _ _ _ _ => (@zat _ _ 0 _ (show List.Nodup (["_law_entry", "_law_one"] : List Str) by decide +kernel) rfl (12:) (11:))) (fun _ _ _ _ => (@zaY _)) (fun _ _ _ _ => ((37:) ((17:) (@zjU _) (8:) (6:) (18:)) ((49:) (52:) (16:) (8:) (51:)) (8:))) (28:) (0:) (0:) (21:)) (4:) (0:)) (3:) (3:) (0:) (0:)))), ?_⟩;symm;refine zd0 (SqL.of hc) ?_;refine zeg (xs := ms.map V.int) (fun i acc H' => H' = H /\ i <= 64 /\ acc = ((zaB ls ms).take i).map V.int) ⟨rfl, by omega, rfl⟩ (fun i acc H' h => ?_) (fun i acc H' h => by rw [h.1]; exact SqL.of hc) ?_ ?_
  ·obtain ⟨_,hi,rfl⟩:=h;rw [yac,yaX];exact yaC (zaO (1:))
  ·rintro i x acc H' hx ⟨rfl, hi, rfl⟩;obtain ⟨e, he, rfl⟩ := zbc hx;have hil : i < ms.length := (yah.mp he).1;have q := h2.2 e (yav he);have hi2 : i < w := by rw [<- h2.1]; exact hil
   have tk:∀ v:Int,v=(if 0 <= e then ls.getD e.toNat 0 else e) -> ((zaB ls ms).take i).map V.int ++ [V.int v]=((zaB ls ms).take (i + 1)).map V.int:=λ v hv=>by
    rw [ya9,zaB,yai,he,yax];simp [hv]
   symm;refine zdw (λ h0=>?_) (λ h0=>?_)
   ·have hl : e.toNat < ls.length := by rw [h1.1]; omega
    symm;refine zjj (SqT.of hb) h0 (by rw [yai,yaa hl]; rfl) ?_;refine ⟨rfl,by omega,(tk _ ?_)⟩;rw [if_pos h0,yas,yaa hl];rfl
   ·symm;exact ⟨rfl,by omega,tk _ (by rw [if_neg h0])⟩
  ·rintro acc H' ⟨rfl,_,rfl⟩ p hp;rw [yac,yat (by rw [zaB,yac]; omega)];symm;refine zes zad λ t H5 f5 s5 n5=>?_;exact k t H5 ((zaj hp).trans s5) n5
def zc8:FnScope ["_law_width","_law_menu_here","_law_steps","_law_known","_law_ring","_law_further","_law_one","_law_step","_law_other"] ["_law_width","_law_menu_here"] (zah zbF):=⟨rfl,rfl,rfl,by decide +kernel,rfl,by decide +kernel,by decide +kernel⟩
def ze9 {a:Addr} {fd:FuncData} (B:Blt K mg) (g__law_from:A28 P w K mg base) (g__law_behind:A29 P w K mg base) (F:Fun K "_law_rings" "_law_rings" zbF a fd):FnOk P w K mg base CX0 3 a fd ["_law_width","_law_menu_here"] ziQ:=by
 refine F.ok zc8 (λ vs H Q E h=>?_) (λ cdv A outer s H vs Q E hr h=>?_)
 ·obtain ⟨wd,m,L,rfl,_⟩:=h;rfl
 ·have nd := zc8.nd;have hu := hr.units;obtain ⟨wd, m, L, rfl, hm, hR, hw, hL, k⟩ := h;have hS := zcv hR;have hp4 := zeo hw;have zS : (steps wd L).length = L.length := by simp [steps]
  refine ⟨_,((7:) (@zeI _ _ _ _ _ _ (zah zbF) _ ["_law_width","_law_menu_here","_law_steps","_law_known","_law_ring","_law_further","_law_one","_law_step","_law_other"] ["_law_deed_here","_law_width"] [none,some 0] _ _ _ _ 2 _ _ _ nd rfl (12:) rfl (67:) (λ _ _ _ _=>(@zat _ _ 0 _ (show List.Nodup (["_law_deed_here","_law_width"]:List Str) by decide +kernel) rfl (12:) (11:))) (λ _ _ _ _=>(@zaY _)) (λ _ _ _ _=>((14:) g__law_from (15:) ((2:) (16:) ((2:) (8:) (4:) (0:)) (0:)) (0:) (3:) (0:) (0:))) (28:) (0:) (0:) (21:) (0:) (11:)) ((7:) (@zas _ _ 3 _ _ _ _ nd rfl (12:) (@zf3 _ _ _ _ _ _ hu (89:) (6:)) (0:) (11:)) ((7:) (@zas _ _ 4 _ _ _ _ nd rfl (12:) ((56:) (@zh2 _ rfl) rfl B.b_list boot_list ((2:) (20:) (4:) (0:)) (3:) (3:) (0:) (0:)) (0:) (11:)) ((7:) (@zhs _ _ _ _ _ _ yaM ((17:) (@k_ne _ K hu (0:)) (26:) ((47:) (4:)) (18:)) ((7:) (@zas _ _ 5 _ _ _ _ nd rfl (12:) ((47:) (4:)) (0:) (11:)) ((7:) ((40:) yaM rfl (@zbI _ K _ _ _ (26:) (0:)) (@zat _ _ 6 _ nd rfl (12:) (11:)) ((9:) ((40:) yaM rfl (@zbI _ K _ _ _ (13:) (0:)) (@zat _ _ 7 _ nd rfl (12:) (11:)) ((7:) (@zas _ _ 8 _ _ _ _ nd rfl (12:) ((14:) g__law_behind (15:) ((2:) (31:) ((2:) (63:) (4:) (0:)) (0:)) (0:) (3:) (0:) (0:)) (0:) (11:)) ((9:) ((23:) (@zgo _ _ _ _ _ _ hu (@pv1 _ 8 _ _ (42:)) (20:) (0:)) ((7:) (@zfn _ _ _ _ _ _ _ _ _ hu (20:) (@pv1 _ 8 _ _ (42:)) ((10:) (27:) (@zfV _ _ _ _ _ _ hu (20:) (31:) (68:)) (6:)) (0:)) ((9:) ((39:) (@k_bm _ K _ _ _ _ _ _ _ _ _ _ _ yaw yaA yaB (@zaP _) (33:) ((2:) (@pv1 _ 8 _ _ (42:)) (4:) (0:)) (0:) (0:) (0:) (0:) (0:) (0:)) (0:)))) (24:)))) (21:))) (21:)) ((9:) (@zas _ _ 4 _ _ _ _ nd rfl (12:) (33:) (0:) (11:)))))) ((9:) ((19:) (@zgR _ _ _ (20:)))))))),?_⟩;symm;refine zd0 (SqL.of hm) ?_;refine zeg (xs:=rowV L) (λ i acc H'=>Same H H' /\ i <= 1000 /\ ∃ ss,acc=ss.map V.ref /\ ss.length=i /\ Ldl H' ((steps wd L).take i) ss) ⟨Same.refl H,by omega,[],rfl,rfl,.nil⟩ (λ i acc H' h=>?_) (λ i acc H' h=>SqL.of (h.1 _ _ hm)) ?_ ?_
  ·obtain ⟨_,hi,ss,rfl,hl,_⟩:=h;rw [yac];exact yaC (zaO (1:))
  ·rintro i x acc H' hx ⟨s1,hi,ss,rfl,hl,hss⟩;obtain ⟨q,hq,rfl⟩:=zbc hx;have hil:i < L.length:=(yah.mp hq).1;obtain ⟨g1,g2⟩:=hR q (yav hq);symm;refine ⟨wd,q.1,q.2,rfl,s1 _ _ g1,g2,by omega,λ t H2 f2 s2 n2=>?_⟩;refine ⟨s1.trans s2,by omega,ss ++ [t],by rw [yax]; rfl,by rw [yaf,hl]; rfl,?_⟩;rw [ya9,show (steps wd L)[i]?=some (q.2.led wd) by rw [steps,yai,hq]; rfl];exact Ldl.snoc n2 (hss.mono λ b xs z=>s2 _ _ z)
  ·rintro acc H1 ⟨s1, _, ss, rfl, hl, hss⟩ sa hsa;have zr : (rowV L).length = L.length := by rw [rowV, yac]
   rw [zr] at hl hss;rw [yat (by rw [zS]; omega)] at hss;have s2:=zaj (o:=.lst (ss.map V.ref)) hsa;have n2:upd H1 sa (.lst (ss.map V.ref)) sa=some (.lst (ss.map V.ref)):=zad;have ss2:Ldl (upd H1 sa (.lst (ss.map V.ref))) (steps wd L) ss:=hss.mono λ b xs z=>s2 _ _ z;have s02:=s1.trans s2;generalize upd H1 sa (.lst (ss.map V.ref))=H2 at *;symm;refine zhl λ d hd=>?_;have sd:=zaj (o:=.dT []) hd;symm;refine ⟨wd,rfl,by omega,λ t ht=>?_⟩;rw [zdW];have td:t ≠ d:=λ z=>by rw [z,zad] at ht; cases ht
   symm;refine ⟨kI (zaK wd),t,rfl,by rw [kI_V]; exact zad,by rw [zak td.symm]; exact zad,?_⟩
   have s24:Same H2 (upd (upd (upd H2 d (.dT [])) t (.tup ((zaK wd).map V.int))) d (.dT [(kI (zaK wd),V.int 0)])):=λ b u e=>by
    rw [zak (zam e hd),zak (λ z=>by rw [z] at e; exact absurd (sd _ _ e) (by rw [ht]; simp)),zak (zam e hd)]; exact e
   have t4:upd (upd (upd H2 d (.dT [])) t (.tup ((zaK wd).map V.int))) d (.dT [(kI (zaK wd),V.int 0)]) t=some (.tup ((zaK wd).map V.int)):=by rw [zak td]; exact zad
   have d4:upd (upd (upd H2 d (.dT [])) t (.tup ((zaK wd).map V.int))) d (.dT [(kI (zaK wd),V.int 0)]) d=some (.dT (KnD [(zaK wd,0)])):=zad;have Hd0:H d=none:=s02.freeS hd;have s04:=s02.trans s24;have n4:=s24 _ _ n2;have ss4:=ss2.mono λ b xs z=>s24 _ _ z;generalize upd (upd (upd H2 d (.dT [])) t (.tup ((zaK wd).map V.int))) d (.dT [(kI (zaK wd),V.int 0)])=H4 at *;symm;refine ⟨d,_,rfl,.inl d4,λ g bs hg hk=>?_⟩;have hE4:=zho hk;have s5:=zaj (o:=.lst (bs.map V.ref)) hg;have g5:upd H4 g (.lst (bs.map V.ref)) g=some (.lst (bs.map V.ref)):=zad;have s05:=s04.trans s5;have n5:=s5 _ _ n4;have d5:=s5 _ _ d4;have ss5:=ss4.mono λ b xs z=>s5 _ _ z;have hE5:=hE4.mono λ b xs z=>s5 _ _ z;generalize upd H4 g (.lst (bs.map V.ref))=H5 at *;symm
   refine ⟨λ mm σ H'=>Same H H' /\ ∃ F n E es g v5 v6 v7 v8,mm=2 * (1296 - F.length) + (if E=[] then 0 else 1) /\ H' d=some (.dT (KnD F)) /\ Ring (steps wd L) wd n F E /\ Lda H' E es /\ H' g=some (.lst (es.map V.ref)) /\ H' sa=some (.lst (ss.map V.ref)) /\ Ldl H' (steps wd L) ss /\ σ=[some (nV wd),some (.ref m),some (.ref sa),some (.ref d),some (.ref g),v5,v6,v7,v8],
    ⟨_,s05,[(zaK wd,0)],0,[zaK wd],bs,g,none,none,none,none,rfl,d5,Ring.start _ _,hE5,g5,n5,ss5,rfl⟩,?_⟩
   rintro mm σ H6 ⟨s6,F,n,E,es,g6,v5,v6,v7,v8,rfl,d6,R6,E6,g6',n6,ss6,rfl⟩;symm;refine za2 (5:) λ z7 H7 f7 s7 n7=>?_;have hel:=E6.length;symm;refine zkw (s7 _ _ g6') (E6.mono λ b xs z=>s7 _ _ z) n7 ?_;have d7:=s7 _ _ d6;by_cases hne:E=[]
   ·subst hne;symm;refine zbH (5:) ?_;symm;refine zkd ?_;symm;exact ⟨d,KnD F,rfl,d7,λ o'=>k d o' F _ ((s6.trans s7).upd' Hd0) zad (R6.knw hS hw)⟩
   ·rw [decide_eq_false hne];symm;refine ⟨_, fun _ _ h => h, ?_⟩;have E7 := E6.mono fun b xs z => s7 _ _ z;have S7 := ss6.mono fun b xs z => s7 _ _ z;have g7 := s7 _ _ g6';have n7' := s7 _ _ n6;have s07 := s6.trans s7;symm;refine za2 (5:) fun r H8 f8 s8 n8 => ?_;have rd : r ≠ d := fun z => by rw [z, d7] at f8; cases f8
    have gd:g6 ≠ d:=zbK g7 d7 nofun;have sd':sa ≠ d:=zbK n7' d7 nofun;symm
    refine ze4 (xs:=es.map V.ref) (λ i σ H'=>zaF d H7 H' /\ ∃ F' G gs v6 v7 v8,H' d=some (.dT (KnD F')) /\ Amid (steps wd L) wd n F (Dij E (steps wd L) ((steps wd L).map kI) i 0) F' G /\ Lda H' G gs /\ H' r=some (.lst (gs.map V.ref)) /\ σ=[some (nV wd),some (.ref m),some (.ref sa),some (.ref d),some (.ref g6),some (.ref r),v6,v7,v8])
     ⟨s8.keepBut,F,[],[],_,_,_,s8 _ _ d7,(Amid.start R6).weak (λ y s z=>by rcases z with ⟨k,h1,_⟩ | ⟨_,k,h1,_⟩ <;> exact absurd h1 (ybN _)),.nil,n8,rfl⟩ (λ i σ H' h=>SqL.of (h.1 _ _ gd g7)) ?_ ?_
    ·rintro i y σ H9 hy ⟨k9, F9, G9, gs9, v6, v7, v8, d9, A9, G9', r9, rfl⟩;obtain ⟨a, ha, rfl⟩ := zbc hy;obtain ⟨x, hx, hax⟩ := E7.get ha;have xE : x ∈ E := yav hx;have dx := (R6.edge x).mp xE;have xF : (x, n) ∈ F := (R6.all x n).mpr ⟨yag _, dx⟩;have lx : Ld wd x := dx.1.ld hS;symm
     refine ze4 (xs:=ss.map V.ref) (λ j σ H'=>zaF d H7 H' /\ ∃ F' G gs v7 v8,H' d=some (.dT (KnD F')) /\ Amid (steps wd L) wd n F (Dij E (steps wd L) ((steps wd L).map kI) i j) F' G /\ Lda H' G gs /\ H' r=some (.lst (gs.map V.ref)) /\ σ=[some (nV wd),some (.ref m),some (.ref sa),some (.ref d),some (.ref g6),some (.ref r),some (.ref a),v7,v8])
      ⟨k9,F9,G9,gs9,_,_,d9,A9,G9',r9,rfl⟩ (λ j σ H' h=>SqL.of (h.1 _ _ sd' n7')) ?_ ?_
     ·rintro j u σ H3 hu ⟨k3, F3, G3, gs3, v7, v8, d3, A3, G3', r3, rfl⟩;obtain ⟨b, hb, rfl⟩ := zbc hu;obtain ⟨s, hs, hbs⟩ := S7.get hb;have sS : s ∈ steps wd L := yav hs;have hk := zff hs;have a3 := k3 _ _ (zbK hax d7 nofun) hax;have b3 := k3 _ _ (zbK hbs d7 nofun) hbs;symm;refine ⟨a, b, x, s, wd, rfl, a3, b3, lx, hS _ sS, by omega, fun t H4 s4 n4 => ?_⟩;have d4 := s4 _ _ d3;have k4 : zaF d H7 H4 := k3.trans s4.keepBut;have G4' := G3'.mono fun b xs z => s4 _ _ z;have r4 := s4 _ _ r3;symm;refine zfy ?_;symm;refine ⟨d, _, rfl, DGet.r (.inl d4) n4, ?_⟩;rcases KnD.val (ls := zaB x s) (F := F3) with ⟨z1, z2⟩ | ⟨n', z1, z2⟩
      ·rw [z2];symm;refine zeL rfl ?_;symm;refine zjs ?_;have xF3 : (x, n) ∈ F3 := by rw [A3.is]; exact yaR _ xF
       have w1:valV (KnD F3) (kI x)=some (nV n):=by
        rcases KnD.val (ls:=x) (F:=F3) with ⟨q1,_⟩ | ⟨n0,q1,q2⟩
        ·exact absurd (yap.mpr ⟨_,xF3,rfl⟩) q1
        ·have:=zd3 A3.once q1 xF3;subst this;exact q2
       symm;refine zec ?_;symm;refine ⟨d,nV n,rfl,w1 ▸ DGet.r (.inl d4) (s4 _ _ a3),?_⟩;symm;have hlen:=A3.len R6 hS;refine ⟨d,_,rfl,DPut.t (k:=kI (zaB x s)) d4 (by rw [kI_V]; exact n4) (zaO (by rw [KnD.length]; omega)),?_⟩;rw [show V.int ((n:Int) + 1)=nV (n + 1) from rfl,KnD.put z2];have A6:=(A3.add R6 xE sS z1).weak λ y s z=>Dij.next hx hk z;have d6':upd H4 d (.dT (KnD (F3 ++ [(zaB x s,n + 1)]))) d=some (.dT (KnD (F3 ++ [(zaB x s,n + 1)]))):=zad;have k6:zaF d H7 (upd H4 d (.dT (KnD (F3 ++ [(zaB x s,n + 1)])))):=k4.trans (zaF.upd _ _ _);have T6:∀ b xs,H4 b=some (.tup xs) -> upd H4 d (.dT (KnD (F3 ++ [(zaB x s,n + 1)]))) b=some (.tup xs):=λ b xs z=>by rw [zak (zbK z d4 nofun)]; exact z
       have r6:upd H4 d (.dT (KnD (F3 ++ [(zaB x s,n + 1)]))) r=some (.lst (gs3.map V.ref)):=by rw [zak rd]; exact r4
       have G6':=G4'.mono T6;have t6:=T6 _ _ n4;generalize upd H4 d (.dT (KnD (F3 ++ [(zaB x s,n + 1)])))=H6' at *
       have hgl:gs3.length <= 1296:=by
        have h1:=congrArg List.length A3.is;have h2:=G3'.length;simp only [yaf,yac] at h1;omega
       symm;have T8:∀ b xs,H6' b=some (.tup xs) -> upd H6' r (.lst (gs3.map V.ref ++ [.ref t])) b=some (.tup xs):=λ b xs z=>by rw [zak (zbK z r6 nofun)]; exact z
       exact ⟨λ b o n e=>by rw [zak (zam e f8)]; exact k6 b o n e,_,_,gs3 ++ [t],_,_,by rw [zak rd.symm]; exact d6',A6,Lda.snoc (T8 _ _ t6) (G6'.mono T8),by rw [zad,yax]; rfl,rfl⟩
      ·rw [z2];symm;refine zbH rfl ?_;symm;exact ⟨k4,F3,G3,gs3,_,_,d4,(A3.old R6 (yap.mpr ⟨_,z1,rfl⟩)).weak (λ y s z=>Dij.next hx hk z),G4',r4,rfl⟩
     ·rintro σ H3 ⟨k3, F3, G3, gs3, v7, v8, d3, A3, G3', r3, rfl⟩;have e1 : (ss.map V.ref).length = ((steps wd L).map kI).length := by rw [yac, yac, S7.length]
      rw [e1] at A3;exact ⟨k3,F3,G3,gs3,_,_,_,d3,A3.weak (λ y s z=>Dij.turn (λ s hs=>yap.mpr ⟨s,hs,rfl⟩) z),G3',r3,rfl⟩
    ·rintro σ H9 ⟨k9, F9, G9, gs9, v6, v7, v8, d9, A9, G9', r9, rfl⟩;have hel2 : (es.map V.ref).length = E.length := by rw [yac, E7.length]
     rw [hel2] at A9;have R9:=A9.done R6 λ y s hy hs=>Dij.all hy hs;have h9:=R9.len hS;have hlen:F9.length=F.length + G9.length:=by rw [A9.is]; simp
     symm;refine ⟨2 * (1296 - F9.length) + (if G9=[] then 0 else 1),?_,k9.same s07 Hd0,F9,n + 1,G9,gs9,r,_,_,_,_,rfl,d9,R9,G9',r9,k9 _ _ sd' n7',S7.mono (λ b xs z=>k9 _ _ (zbK z d7 nofun) z),rfl⟩;rw [if_neg hne]
     split
     ·rename_i hz;rw [hz] at hlen;simp at hlen;omega
     ·have:1 <= G9.length:=yb1.mpr (by assumption);omega
def zc9:FnScope ["_law_hand_here","_law_width","_law_menu_here","_law_known","_law_way","_law_some","_law_most","_law_leading","_law_turn"] ["_law_hand_here","_law_width","_law_menu_here","_law_known"] (zah zbh):=⟨rfl,rfl,rfl,by decide +kernel,rfl,by decide +kernel,by decide +kernel⟩
def ze3 {a:Addr} {fd:FuncData} (B:Blt K mg) (g__law_draw:A18 P w K mg base) (g__law_from:A28 P w K mg base) (g__law_behind:A29 P w K mg base) (F:Fun K "_law_asked" "_law_asked" zbh a fd):FnOk P w K mg base CX0 3 a fd ["_law_hand_here","_law_width","_law_menu_here","_law_known"] ziH:=by
 refine F.ok zc9 (λ vs H Q E h=>?_) (λ cdv A outer s H vs Q E hr h=>?_)
 ·obtain ⟨p,m,d,o,wd,L,F,rfl,_⟩:=h;rfl
 ·have nd := zc9.nd;have hu := hr.units;obtain ⟨p, m, d, o, wd, L, F, rfl, hH, hw1, hw, hm, hR, hL, mp, hd, hK, k⟩ := h;have hS := zcv hR;have hF0 := hK.stay
  have dp:d ≠ p:=by
   obtain ⟨q,cells,a,b,c,e,_⟩:=hH;exact zbK hd e nofun
  have hFl:1 <= F.length:=List.length_pos_of_mem hF0;have hFw:=hK.few;refine ⟨_,((7:) (@zas _ _ 4 _ _ _ _ nd rfl (12:) ((14:) g__law_draw (15:) ((2:) (8:) ((2:) (6:) (4:) (0:)) (0:)) (0:) (3:) (0:) (0:)) (0:) (11:)) ((7:) ((23:) ((17:) (22:) (26:) (6:) (18:)) ((9:) ((19:) ((56:) (@zif _ K (0:)) rfl B.b_tuple boot_tuple ((2:) (@zaS _ _ _ _ _ _ (zah zbh) _ ["_law_hand_here","_law_width","_law_menu_here","_law_known","_law_way","_law_some","_law_most","_law_leading","_law_turn"] ["_law_p","_law_hand_here","_law_width"] [none,some 0,some 1] _ _ _ _ rfl (69:) (λ _ _ _ _=>(@zat _ _ 0 _ (show List.Nodup (["_law_p","_law_hand_here","_law_width"]:List Str) by decide +kernel) rfl (12:) (11:))) (λ _ _ _ _=>(@zaY _)) (λ _ _ _ _=>((10:) (@za7 _) ((14:) g__law_draw (15:) ((2:) (16:) ((2:) ((10:) (27:) (13:) (6:)) (4:) (0:)) (0:)) (0:) (3:) (0:) (0:)) (6:))) (28:) (0:) (0:) (21:)) (4:) (0:)) (3:) (3:) (0:) (0:)))) (24:)) ((7:) ((23:) ((17:) (22:) (26:) (6:) (18:)) ((7:) (@zas _ _ 5 _ _ _ _ nd rfl (12:) ((25:) (@zig _ rfl) rfl B.b_sorted boot_sorted ((2:) (20:) (4:) (0:)) (3:) (3:) (0:) (0:)) (0:) (11:)) ((9:) ((19:) (85:)))) (24:)) ((7:) ((23:) ((17:) (22:) (26:) (6:) (18:)) ((7:) (@zas _ _ 6 _ _ _ _ nd rfl (Or.inr rfl) ((25:) (@ziw _ rfl) rfl B.b_max boot_max ((2:) (@zlr _ _ _ _ _ (20:) (0:) (0:)) (4:) (0:)) (3:) (3:) (0:) (0:)) (0:) (11:)) ((7:) (@zas _ _ 5 _ _ _ _ nd rfl (12:) ((25:) (@zgS _) rfl B.b_sorted boot_sorted ((2:) (@zaS _ _ _ _ _ _ (zah zbh) _ ["_law_hand_here","_law_width","_law_menu_here","_law_known","_law_way","_law_some","_law_most","_law_leading","_law_turn"] ["_law_one","_law_known","_law_most"] [none,some 3,some 6] _ _ _ _ rfl (@zdX _ _ _ _ (20:)) (λ _ _ _ _=>(@zat _ _ 0 _ (show List.Nodup (["_law_one","_law_known","_law_most"]:List Str) by decide +kernel) rfl (12:) (11:))) (λ _ _ _ _=>(@zdm _ _ _ ((17:) (22:) (@zfV _ _ _ _ _ _ hu (16:) (8:) (68:)) (13:) (18:)))) (λ _ _ _ _=>(8:)) (28:) (0:) (0:) (21:)) (4:) (0:)) (3:) (3:) (0:) (0:)) (0:) (11:)) ((9:) ((19:) (85:))))) (24:)) ((7:) (@zas _ _ 7 _ _ _ _ nd rfl (12:) (@zaX _ K _ _ _ _ _ _ rfl B.b_tuple B.b_range ((2:) (16:) (4:) (0:)) (0:) (0:) (0:) (0:) (0:)) (0:) (11:)) ((7:) ((40:) yaM rfl (@zax _ _ _ _ _ _ rfl B.b_range ((2:) ((37:) ((17:) (@k_ne _ K hu (0:)) (13:) ((47:) (4:)) (18:)) ((14:) g__law_draw (15:) ((2:) (8:) ((2:) (6:) (4:) (0:)) (0:)) (0:) (3:) (0:) (0:)) (6:)) (4:) (0:)) (0:)) (@zat _ _ 8 _ nd rfl (12:) (11:)) ((9:) (@zas _ _ 7 _ _ _ _ nd rfl (12:) ((14:) g__law_behind (15:) ((2:) (63:) ((2:) ((14:) g__law_from (15:) ((2:) (16:) ((2:) ((49:) (52:) (13:) ((14:) g__law_draw (15:) ((2:) (8:) ((2:) ((25:) (46:) rfl B.b_len boot_len ((2:) (13:) (4:) (0:)) (3:) (3:) (0:) (0:)) (4:) (0:)) (0:)) (0:) (3:) (0:) (0:)) (51:)) (4:) (0:)) (0:)) (0:) (3:) (0:) (0:)) (4:) (0:)) (0:)) (0:) (3:) (0:) (0:)) (0:) (11:))) (21:)) ((9:) ((19:) (63:))))))))),?_⟩;symm;refine ⟨p,4,rfl,hH,by decide,by decide,λ r H1 hr b1 h1=>?_⟩;have d1:Frz H1 d o (KnD F):=b1.keep _ _ dp hd;have m1:=b1.keep _ _ mp hm;have R1:=hR.but hH b1;symm;refine zaC (λ hc=>?_) (λ hc0=>?_)
  ·symm;refine za1 (n := wd) rfl (1:) ?_;refine zaA (fun i acc H' => But p H H' /\ Hand H' p /\ i <= wd /\ ∃ ls : List Int, acc = ls.map V.int /\ ls.length = i /\ ∀ e ∈ ls, -2 <= e /\ e < (wd : Int)) ⟨b1, h1, by omega, [], rfl, rfl, fun _ z => (nomatch z)⟩ (fun i acc H' h => ?_) ?_ ?_
   ·obtain ⟨_,_,hi,ls,rfl,hl,_⟩:=h;rw [yac];exact yaC (zaO (1:))
   ·rintro i acc H2 hi ⟨b2, h2, hi2, ls, rfl, hl, hls⟩;symm;refine ⟨p, wd + 2, rfl, h2, by omega, by omega, fun r3 H3 hr3 b3 h3 => ?_⟩;symm;refine ⟨b2.trans b3, h3, by omega, ls ++ [(r3 : Int) - 2], by rw [yax]; rfl, by rw [yaf, hl]; rfl, fun e he => ?_⟩;rcases yaK.mp he with z | z
    ·exact hls e z
    ·rw [yaz.mp z]; omega
   ·rintro acc H2 ⟨b2,h2,_,ls,rfl,hl,hls⟩ q hq;symm;refine zes zad λ t H5 f5 s5 n5=>?_;have s25:=(zaj hq).trans s5;symm;exact k t ls H5 ⟨hl,hls⟩ (b2.trans s25.but) (h2.same s25) n5
  symm;refine zaC (λ hc=>?_) (λ hc1=>?_)
  ·symm;refine ⟨d, KnD F, wd, rfl, Frz.rd d1, hw1, hK.allT hS (1:), fun g bs bs' hg hk hp ho => ?_⟩;have zb : bs'.length = F.length := by rw [hp.length_eq, <- hk.length, KnD.length]
   have sg:=zaj (o:=.lst (bs'.map V.ref)) hg;have g2:upd H1 g (.lst (bs'.map V.ref)) g=some (.lst (bs'.map V.ref)):=zad;have h2:=h1.same sg;have b2:=b1.trans sg.but;have gp:g ≠ p:=h1.ne hg;symm;refine ⟨p,F.length,by rw [yac,zb]; rfl,h2,by omega,by omega,λ r3 H3 hr3 b3 h3=>?_⟩;have hq:bs'[r3]?=some bs'[r3]:=yaa (1:);generalize bs'[r3]=t at hq;obtain ⟨kv,m1',m2'⟩:=hk.mem t (hp.mem_iff.mp (yav hq));obtain ⟨q,hqF,rfl⟩:=yap.mp m1';have t1:H1 t=some (.tup (q.1.map V.int)):=by rw [<- kI_V]; exact m2'
   refine zcF (SqL.of (b3.keep _ _ gp g2)) (1:) (by rw [yai,yao,hq]; rfl) ?_;symm;exact k t q.1 H3 (hK.ld hS q hqF) (b2.trans b3) h3 (b3.keep _ _ (h1.neT t1) (sg _ _ t1))
  symm;refine zaC (λ hc=>?_) (λ hc2=>?_)
  ·symm;refine znn ?_;symm;refine ⟨d, KnD F, rfl, Frz.rd d1, fun v hv => ?_⟩;have sv := zaj (o := ze7 v d) hv;have d2 : Frz (upd H1 v (ze7 v d)) d o (KnD F) := sv _ _ d1;have v2 : upd H1 v (ze7 v d) v = some (ze7 v d) := zad;have h2 := h1.same sv;have b2 := b1.trans sv.but;generalize upd H1 v (ze7 v d) = H2 at *;symm;refine ⟨v, d, KnD F, F.map (fun q => (q.2 : Int)), rfl, v2, Frz.rd d2, by simp [KnD], fun z => by rw [List.map_eq_nil_iff] at z; rw [z] at hFl; simp at hFl, fun mx hmx hle => ?_⟩;symm;refine ze2 ?_;symm;refine ⟨d, KnD F, rfl, .inr ⟨o, d2, ?_⟩⟩;refine zd8 (fun i acc H' => H' = H2 /\ ∃ bs : List Addr, acc = bs.map V.ref /\ bs.length <= i /\ i <= F.length /\ (∀ b ∈ bs, ∃ q ∈ F, H2 b = some (.tup (q.1.map V.int))) /\ ((∃ j q, j < i /\ F[j]? = some q /\ (q.2 : Int) = mx) -> bs ≠ [])) ⟨rfl, [], rfl, yag _, yaQ _, fun _ z => (nomatch z), fun ⟨j, _, z, _⟩ => absurd z (ybN _)⟩ (fun i acc H' h => ?_) (fun i acc H' h => by rw [h.1]; exact d2) ?_ ?_
   ·obtain ⟨_,bs,rfl,h1',h2',_⟩:=h;rw [yac];exact yaC (zaO (1:))
   ·rintro i kk b acc H' hkk hb ⟨rfl, bs, rfl, hbi, hiF, hbs, hbn⟩;obtain ⟨q, hq, rfl⟩ := zjL hkk;have hqF := yav hq;have hil : i < F.length := (yah.mp hq).1;rw [kI_V] at hb;symm;refine zec ?_;symm;refine ⟨d, nV q.2, rfl, hK.get hqF ▸ DGet.r (Frz.rd d2) hb, ?_⟩;symm;refine zaC (fun hm => ?_) (fun hm => ?_)
    ·symm;refine ⟨rfl, bs ++ [b], by rw [yax]; rfl, by rw [yaf]; simp; omega, by omega, fun c hc' => ?_, fun _ z => by simp at z⟩;rcases yaK.mp hc' with z | z
     ·exact hbs c z
     ·rw [yaz.mp z]; exact ⟨q,hqF,hb⟩
    ·symm;refine ⟨rfl, bs, rfl, by omega, by omega, hbs, fun ⟨j, q', hj, hq', e⟩ => ?_⟩;by_cases z : j = i
     ·subst z;rw [hq] at hq';cases hq';exact absurd e hm
     ·exact hbn ⟨j,q',by omega,hq',e⟩
   ·rintro acc H' ⟨rfl, bs, rfl, hbi, hiF, hbs, hbn⟩ l hl
    have bne:bs ≠ []:=hbn (by
     obtain ⟨q,hq,e⟩:=yap.mp hmx;obtain ⟨j,hj,ej⟩:=ybb.mp hq;exact ⟨j,q,by rw [KnD.length]; exact hj,by rw [yaa hj,ej],e⟩)
    have sl:=zaj (o:=.lst (bs.map V.ref)) hl;have l3:upd H' l (.lst (bs.map V.ref)) l=some (.lst (bs.map V.ref)):=zad;have h3:=h2.same sl;have b3:=b2.trans sl.but
    have hbs3:∀ b ∈ bs,∃ ls:List Int,upd H' l (.lst (bs.map V.ref)) b=some (.tup (ls.map V.int)) /\ ls.length=wd /\ Srk.InB ls:=λ b hb=>by
     obtain ⟨q,hq,e⟩:=hbs b hb;have l:=hK.ld hS q hq;exact ⟨q.1,sl _ _ e,l.1,λ e he=>by have:=l.2 e he; omega⟩
    have hbs3':∀ b ∈ bs,∃ q ∈ F,upd H' l (.lst (bs.map V.ref)) b=some (.tup (q.1.map V.int)):=λ b hb=>let ⟨q,hq,e⟩:=hbs b hb; ⟨q,hq,sl _ _ e⟩;generalize upd H' l (.lst (bs.map V.ref))=H3 at *;symm;refine ⟨l,bs,wd,rfl,.inl l3,hw1,hbs3,λ g bs' hg hp ho=>?_⟩;have zb:bs'.length=bs.length:=hp.length_eq;have zb1:1 <= bs.length:=yb1.mpr bne;have sg:=zaj (o:=.lst (bs'.map V.ref)) hg;have g4:upd H3 g (.lst (bs'.map V.ref)) g=some (.lst (bs'.map V.ref)):=zad;have h4:=h3.same sg;have b4:=b3.trans sg.but;have gp:g ≠ p:=h3.ne hg;rw [KnD.length] at hbi;symm;refine ⟨p,bs.length,by rw [yac,zb]; rfl,h4,by omega,by omega,λ r5 H5 hr5 b5 h5=>?_⟩;have hq:bs'[r5]?=some bs'[r5]:=yaa (1:);generalize bs'[r5]=t at hq;obtain ⟨q,hqF,t3⟩:=hbs3' t (hp.mem_iff.mp (yav hq));refine zcF (SqL.of (b5.keep _ _ gp g4)) (1:) (by rw [yai,yao,hq]; rfl) ?_;symm;exact k t q.1 H5 (hK.ld hS q hqF) (b4.trans b5) h5 (b5.keep _ _ (h3.neT t3) (sg _ _ t3))
  symm;refine ⟨wd,rfl,by omega,λ t ht=>?_⟩;rw [zdW];have st:=zaj (o:=.tup ((zaK wd).map V.int)) ht;have t2:upd H1 t (.tup ((zaK wd).map V.int)) t=some (.tup ((zaK wd).map V.int)):=zad;have h2:=h1.same st;have b2:=b1.trans st.but;have m2:=st _ _ m1;generalize upd H1 t (.tup ((zaK wd).map V.int))=H2 at *;symm;refine za2 (5:) λ z3 H3 f3 s3 n3=>?_;have m3:=s3 _ _ m2;have R3:=R1.same (st.trans s3);symm;refine zjB m3 R3 n3 ?_;symm;have t3:=s3 _ _ t2;have h3:=h2.same s3;have b3:=b2.trans s3.but;by_cases hLe:L=[]
  ·refine zbH (by simp [hLe]) ?_;symm;refine za9 (n := 0) rfl (1:) ?_;refine zaw (fun i σ H' => H' = H3 /\ σ = [some (.ref p), some (nV wd), some (.ref m), some (.ref d), some (nV r), none, none, some (.ref t), none]) ⟨rfl, rfl⟩ ?_ ?_
   ·rintro i σ H' hi _;exact absurd hi (ybN _)
   ·rintro σ H' ⟨rfl,rfl⟩;symm;exact k t _ H' (zfb wd) b3 h3 t3
  ·have hL1 : 1 <= L.length := yb1.mpr hLe;have zr : (rowV L).length = L.length := by rw [rowV, yac]
   refine zeL (by simp [hLe]) ?_;symm;refine ⟨p,6,rfl,h3,by decide,by decide,λ r4 H4 hr4 b4 h4=>?_⟩;symm;refine za9 (n:=r4) rfl (1:) ?_
   refine zaw (λ i σ H'=>But p H H' /\ Hand H' p /\ ∃ t ls v8,Ld wd ls /\ H' t=some (.tup (ls.map V.int)) /\ σ=[some (.ref p),some (nV wd),some (.ref m),some (.ref d),some (nV r),none,none,some (.ref t),v8])
    ⟨b3.trans b4,h4,t,_,none,zfb wd,b4.keep _ _ (h3.neT t3) t3,rfl⟩ ?_ ?_
   ·rintro i σ H5 hi ⟨b5,h5,t5,ls5,v8,l5,n5,rfl⟩;have m5:=b5.keep _ _ mp hm;symm;refine ⟨p,L.length,by rw [zr]; rfl,h5,by omega,by omega,λ r6 H6 hr6 b6 h6=>?_⟩;have m6:=b6.keep _ _ mp m5;have hq:L[r6]?=some L[r6]:=yaa (1:);generalize L[r6]=q at hq;have hqL:=yav hq;have R6:=hR.but hH (b5.trans b6);refine zcF (SqL.of m6) (1:) (by rw [rowV,yai,yao,hq]; rfl) ?_;symm;refine ⟨wd,q.1,q.2,rfl,(R6 q hqL).1,(R6 q hqL).2,by omega,λ c H7 f7 s7 n7=>?_⟩;symm;have n6:=b6.keep _ _ (h5.neT n5) n5;have lq:=q.2.led_ld (R6 q hqL).2;refine ⟨t5,c,ls5,_,wd,rfl,s7 _ _ n6,n7,l5,lq,by omega,λ t8 H8 s8 n8=>?_⟩;symm;have s78:=s7.trans s8;exact ⟨(b5.trans b6).trans s78.but,h6.same s78,t8,_,_,ziS l5 lq,n8,rfl⟩
   ·rintro σ H5 ⟨b5,h5,t5,ls5,v8,l5,n5,rfl⟩;symm;exact k t5 ls5 H5 l5 b5 h5 n5
def zdL:FnScope ["_law_found","_law_due"] ["_law_found","_law_due"] (zah zb8):=⟨rfl,rfl,rfl,by decide +kernel,rfl,by decide +kernel,by decide +kernel⟩
def zbg {a:Addr} {fd:FuncData} (B:Blt K mg) {j:Nat}  (g__law_same:FnAt P w K mg base "_law_same" ["_law_found","_law_due"] (j + 0) (zc3 j)) (F:Fun K "_law_same" "_law_same" zb8 a fd):FnOk P w K mg base CX0 (j + 0 + 1) a fd ["_law_found","_law_due"] (zc3 (j + 1)):=by
 refine F.ok zdL (λ vs H Q E h=>?_) (λ cdv A outer s H vs Q E hr h=>?_)
 ·obtain ⟨x,y,rfl,_⟩:=h;rfl
 ·have nd := zdL.nd;have hu := hr.units;obtain ⟨x, y, rfl, hA, k⟩ := h;refine ⟨_, ((7:) ((23:) ((17:) (@zla _) (16:) (@zd1 _ _ _) (18:)) ((9:) ((19:) (@zek _ _ _ _ _ _ _ _ (@zla _) (8:) (@zd1 _ _ _) (18:)))) (24:)) ((7:) ((23:) (@zca _ _ _ ((25:) (@znE _ K (0:)) rfl B.b_isinstance boot_isinstance ((2:) (16:) ((2:) ((34:) ((2:) (79:) ((2:) (77:) (4:) (0:)) (0:))) (4:) (0:)) (0:)) (3:) (3:) (0:) (0:)) (21:)) ((7:) ((23:) (@PW.pt _ _ _ ((64:) ((17:) (@k_ne _ K hu (0:)) ((25:) (44:) rfl B.b_isinstance boot_isinstance ((2:) (8:) ((2:) (79:) (4:) (0:)) (0:)) (3:) (3:) (0:) (0:)) ((25:) (44:) rfl B.b_isinstance boot_isinstance ((2:) (16:) ((2:) (79:) (4:) (0:)) (0:)) (3:) (3:) (0:) (0:)) (18:)) (@zeN _ _ _ _ ((17:) (@k_ne _ K hu (0:)) ((25:) (44:) rfl B.b_isinstance boot_isinstance ((2:) (8:) ((2:) (77:) (4:) (0:)) (0:)) (3:) (3:) (0:) (0:)) ((25:) (44:) rfl B.b_isinstance boot_isinstance ((2:) (16:) ((2:) (77:) (4:) (0:)) (0:)) (3:) (3:) (0:) (0:)) (18:))))) ((9:) ((19:) (@zgz _ _ _ _))) (24:)) ((9:) ((19:) (@zhN _ _ _ _ _ _ _ (@zek _ _ _ _ _ _ _ _ (22:) ((25:) (46:) rfl B.b_len boot_len ((2:) (8:) (4:) (0:)) (3:) (3:) (0:) (0:)) ((25:) (46:) rfl B.b_len boot_len ((2:) (16:) (4:) (0:)) (3:) (3:) (0:) (0:)) (18:)) (@zi2 _ _ _ _ _ ((25:) (@znY _ K rfl (0:)) rfl B.b_all boot_all ((2:) (@zaS _ _ _ _ _ _ (zah zb8) _ ["_law_found", "_law_due"] ["_law_one", "_law_other"] [none, none] _ _ _ _ rfl (@zi6 _ K _ _ _ _ _ _ _ _ B.b_zip ((2:) (8:) ((2:) (16:) (4:) (0:)) (0:)) (0:) (0:) (0:) (0:)) (fun _ _ _ _ => (@zgI _ K _ _ _ _ 2 rfl (@zcu _ _ _ _ _ (@zat _ _ 0 _ (show List.Nodup (["_law_one", "_law_other"] : List Str) by decide +kernel) rfl (12:) (11:)) (@zcu _ _ _ _ _ (@zat _ _ 1 _ (show List.Nodup (["_law_one", "_law_other"] : List Str) by decide +kernel) rfl (12:) (11:)) (@zgX _) (0:)) (0:)) (0:) (0:) (0:))) (fun _ _ _ _ => (@zaY _)) (fun _ _ _ _ => ((14:) g__law_same (hr.mono (1:)) ((2:) (8:) ((2:) (16:) (4:) (0:)) (0:)) (0:) (3:) (0:) (0:))) (28:) (0:) (0:) (21:)) (4:) (0:)) (3:) (3:) (0:) (0:))))))) (24:)) ((7:) ((23:) (@PW.pt _ _ _ ((64:) (@zca _ _ _ ((25:) (44:) rfl B.b_isinstance boot_isinstance ((2:) (16:) ((2:) (65:) (4:) (0:)) (0:)) (3:) (3:) (0:) (0:)) (21:)) (@zeN _ _ _ _ (@zca _ _ _ ((25:) (44:) rfl B.b_isinstance boot_isinstance ((2:) (16:) ((2:) (@za6 _ _ (.ty "str") _ _ rfl B.b_str boot_str rfl (3:) (3:)) (4:) (0:)) (0:)) (3:) (3:) (0:) (0:)) (21:))))) ((9:) ((19:) (@zhN _ _ _ _ _ _ _ (@zek _ _ _ _ _ _ _ _ (22:) ((25:) (44:) rfl B.b_isinstance boot_isinstance ((2:) (8:) ((2:) (65:) (4:) (0:)) (0:)) (3:) (3:) (0:) (0:)) ((25:) (44:) rfl B.b_isinstance boot_isinstance ((2:) (16:) ((2:) (65:) (4:) (0:)) (0:)) (3:) (3:) (0:) (0:)) (18:)) (@zi2 _ _ _ _ _ (@zek _ _ _ _ _ _ _ _ (22:) (8:) (16:) (18:)))))) (24:)) ((9:) ((19:) (@zhN _ _ _ _ _ _ _ ((25:) (44:) rfl B.b_isinstance boot_isinstance ((2:) (8:) ((2:) (@za6 _ _ (.ty "int") _ _ rfl B.b_int boot_int rfl (3:) (3:)) (4:) (0:)) (0:)) (3:) (3:) (0:) (0:)) (@zhN _ _ _ _ _ _ _ (@zno _ _ _ _ ((25:) (44:) rfl B.b_isinstance boot_isinstance ((2:) (8:) ((2:) (65:) (4:) (0:)) (0:)) (3:) (3:) (0:) (0:))) (@zi2 _ _ _ _ _ (@zek _ _ _ _ _ _ _ _ (22:) (8:) (16:) (18:)))))))))), ?_⟩;cases hA with
  | non=>
   symm;refine zeL (decide_eq_true rfl) ?_;symm;rw [decide_eq_true rfl];exact k _ (Same.refl H)
  | int _ i=>
   symm;refine zbH (decide_eq_false nofun) ?_;symm;refine zkq λ H1 s1=>?_;symm;refine zfj (b:=false) (.int i) rfl ?_;symm;rw [beq_self_eq_true];exact k _ s1
  | bl _ i=>
   symm;refine zbH (decide_eq_false nofun) ?_;symm;refine zkg λ H1 s1=>?_;symm;rw [beq_self_eq_true];symm;rw [beq_self_eq_true];exact k _ s1
  | str _ i hs=>
   symm;refine zbH (decide_eq_false nofun) ?_;symm;refine zkf λ H1 s1=>?_;symm;refine zfj (b:=false) (.str i) rfl ?_;symm;refine zfj (b:=true) (.str i) rfl ?_;symm;refine zfj (b:=false) (.str i) rfl ?_;symm;refine zfj (b:=false) (.str i) rfl ?_;symm;refine zeL rfl ?_;symm;refine zfw hs hs ?_;rw [beq_self_eq_true];exact k _ s1
  | @lst n a b xs ys ha hb hl hz hi=>
   symm;refine zbH (decide_eq_false nofun) ?_;symm;refine zks hb λ H1 s1=>?_;have ha1:=s1 _ _ ha;have hb1:=s1 _ _ hb;symm;refine zhL ?_;symm;refine zbH rfl ?_;symm;refine zfj (b:=false) (.lst ha1) rfl ?_;symm;refine zfj (b:=false) (.lst hb1) rfl ?_;refine zhL ?_;symm;refine zbH rfl ?_;symm;rw [hl,beq_self_eq_true];symm;refine ⟨a,b,xs,ys,true,true,rfl,SqL.of ha1,SqL.of hb1,?_⟩;refine zfA (λ i acc H'=>Same H1 H' /\ i <= 10000 /\ acc=(List.replicate i true).map V.bl) ⟨Same.refl H1,by omega,rfl⟩ (λ i acc H' h=>?_) (λ i acc H' h=>⟨SqL.of (h.1 _ _ ha1),SqL.of (h.1 _ _ hb1)⟩) ?_ ?_
   ·obtain ⟨_,hi2,rfl⟩:=h;rw [yac,ybw];exact yaC (zaO (1:))
   ·rintro i u v T acc H' hu hv hT ⟨s2,hi2,rfl⟩;have hil:i < xs.length:=(yah.mp hu).1;have st:=zaj (o:=.tup [u,v]) hT;have nT:upd H' T (.tup [u,v]) T=some (.tup [u,v]):=zad;generalize upd H' T (.tup [u,v])=H2 at st nT ⊢;symm;refine ⟨u,v,rfl,(hi i u v hu hv).same (s1.trans (s2.trans st)),λ H3 s3=>?_⟩;refine ⟨s2.trans (st.trans s3),by omega,?_⟩;rw [List.replicate_succ',yax];rfl
   ·rintro acc H' ⟨s2,_,rfl⟩ p hp;symm;refine ⟨p,_,rfl,SqL.of zad,?_⟩;rw [zhz];exact k _ (s1.trans (s2.trans (zaj hp)))
  | @tup n a b xs ys ha hb hl hz hi=>
   symm;refine zbH (decide_eq_false nofun) ?_;symm;refine zkl hb λ H1 s1=>?_;have ha1:=s1 _ _ ha;have hb1:=s1 _ _ hb;symm;refine zfj (b:=false) (.tup ha1) rfl ?_;symm;refine zfj (b:=false) (.tup hb1) rfl ?_;refine zhL ?_;symm;refine zbH rfl ?_;symm;refine zhL ?_;symm;refine zbH rfl ?_;symm;rw [hl,beq_self_eq_true];symm;refine ⟨a,b,xs,ys,false,false,rfl,SqT.of ha1,SqT.of hb1,?_⟩;refine zfA (λ i acc H'=>Same H1 H' /\ i <= 10000 /\ acc=(List.replicate i true).map V.bl) ⟨Same.refl H1,by omega,rfl⟩ (λ i acc H' h=>?_) (λ i acc H' h=>⟨SqT.of (h.1 _ _ ha1),SqT.of (h.1 _ _ hb1)⟩) ?_ ?_
   ·obtain ⟨_,hi2,rfl⟩:=h;rw [yac,ybw];exact yaC (zaO (1:))
   ·rintro i u v T acc H' hu hv hT ⟨s2,hi2,rfl⟩;have hil:i < xs.length:=(yah.mp hu).1;have st:=zaj (o:=.tup [u,v]) hT;have nT:upd H' T (.tup [u,v]) T=some (.tup [u,v]):=zad;generalize upd H' T (.tup [u,v])=H2 at st nT ⊢;symm;refine ⟨u,v,rfl,(hi i u v hu hv).same (s1.trans (s2.trans st)),λ H3 s3=>?_⟩;refine ⟨s2.trans (st.trans s3),by omega,?_⟩;rw [List.replicate_succ',yax];rfl
   ·rintro acc H' ⟨s2,_,rfl⟩ p hp;symm;refine ⟨p,_,rfl,SqL.of zad,?_⟩;rw [zhz];exact k _ (s1.trans (s2.trans (zaj hp)))
def zkU:FnScope ["_law_script","_law_hand_here","_law_turn","_law_width","_law_menu_here","_law_known","_law_due","_law_found","_law_again","_law_leading"] ["_law_script"] (zah zf0):=⟨rfl,rfl,rfl,by decide +kernel,rfl,by decide +kernel,by decide +kernel⟩
def znQ {a:Addr} {fd:FuncData} (B:Blt K mg) (g_how_few:A15 P w K mg base) (g_reach:A16 P w K mg base) (g__law_hand:A17 P w K mg base) (g__law_draw:A18 P w K mg base) (g__law_all:A20 P w K mg base) (g__law_menu:A25 P w K mg base) (g__law_rings:A30 P w K mg base) (g__law_asked:A31 P w K mg base) (g__law_same:A32 P w K mg base) (F:Fun K "law" "law" zf0 a fd):FnOk P w K mg base CX0 8 a fd ["_law_script"] (zko K):=by
 refine F.ok zkU (λ vs H Q E h=>?_) (λ cdv A outer s H vs Q E hr h=>?_)
 ·obtain ⟨b,ns,rfl,_⟩:=h;rfl
 ·have nd := zkU.nd;have hu := hr.units;obtain ⟨b, ns, rfl, hS, hlen, k⟩ := h;refine ⟨_, ((7:) (@zas _ _ 1 _ _ _ _ nd rfl (12:) ((14:) g__law_hand (15:) ((2:) (8:) (4:) (0:)) (0:) (3:) (0:) (0:)) (0:) (11:)) ((7:) ((40:) yaM rfl (80:) (@zat _ _ 2 _ nd rfl (12:) (11:)) ((7:) (@zas _ _ 3 _ _ _ _ nd rfl (12:) ((10:) (27:) (6:) ((14:) g__law_draw (15:) ((2:) (16:) ((2:) (6:) (4:) (0:)) (0:)) (0:) (3:) (0:) (0:))) (0:) (11:)) ((7:) (@zas _ _ 4 _ _ _ _ nd rfl (12:) ((14:) g__law_menu (15:) ((2:) (16:) ((2:) (20:) ((2:) ((49:) (52:) ((47:) ((2:) (6:) ((2:) (6:) ((2:) (6:) ((2:) (6:) ((2:) (6:) ((2:) (6:) ((2:) (6:) ((2:) (6:) (4:) (0:)) (0:)) (0:)) (0:)) (0:)) (0:)) (0:)) (0:))) ((14:) g__law_draw (15:) ((2:) (16:) ((2:) (6:) (4:) (0:)) (0:)) (0:) (3:) (0:) (0:)) (51:)) (4:) (0:)) (0:)) (0:)) (0:) (3:) (0:) (0:)) (0:) (11:)) ((7:) ((23:) (@PW.pt _ _ _ ((45:) ((17:) (22:) (13:) (6:) (18:)) ((53:) ((17:) (22:) ((14:) g__law_draw (15:) ((2:) (16:) ((2:) (6:) (4:) (0:)) (0:)) (0:) (3:) (0:) (0:)) (6:) (18:))))) ((9:) (@zas _ _ 4 _ _ _ _ nd rfl (12:) ((14:) g__law_all (15:) ((2:) (20:) (4:) (0:)) (0:) (3:) (0:) (0:)) (0:) (11:))) (24:)) ((7:) (@zas _ _ 5 _ _ _ _ nd rfl (Or.inr rfl) ((14:) g__law_rings (15:) ((2:) (20:) ((2:) (26:) (4:) (0:)) (0:)) (0:) (3:) (0:) (0:)) (0:) (11:)) ((7:) (@zas _ _ 6 _ _ _ _ nd rfl (12:) ((25:) (@zen _ hu) rfl B.b_sorted boot_sorted ((2:) (@zaS _ _ _ _ _ _ (zah zf0) _ ["_law_script", "_law_hand_here", "_law_turn", "_law_width", "_law_menu_here", "_law_known", "_law_due", "_law_found", "_law_again", "_law_leading"] ["_law_one", "_law_known"] [none, some 5] _ _ _ _ rfl (@zdX _ _ _ _ (33:)) (fun _ _ _ _ => (@zat _ _ 0 _ (show List.Nodup (["_law_one", "_law_known"] : List Str) by decide +kernel) rfl (12:) (11:))) (fun _ _ _ _ => (@zaY _)) (fun _ _ _ _ => ((34:) ((2:) (@zfV _ _ _ _ _ _ hu (16:) (8:) (68:)) ((2:) (8:) (4:) (0:)) (0:)))) (28:) (0:) (0:) (21:)) (4:) (0:)) (3:) (3:) (0:) (0:)) (0:) (11:)) ((7:) (@zas _ _ 7 _ _ _ _ nd rfl (12:) ((14:) g_reach (15:) ((2:) (20:) ((2:) (26:) (4:) (0:)) (0:)) (0:) (3:) (0:) (0:)) (0:) (11:)) ((7:) ((23:) (@zf5 _ _ _ _ (@zca _ _ _ ((14:) g__law_same (15:) ((2:) (63:) ((2:) (31:) (4:) (0:)) (0:)) (0:) (3:) (0:) (0:)) (21:))) ((9:) ((19:) (@zgz _ _ _ _))) (24:)) ((7:) ((39:) (@zmJ _ K _ _ _ _ _ _ _ _ yaw PySem.F.slot_list_reverse PySem.F.type_list_reverse (@zh6 _) (63:) (0:) (0:) (0:)) (0:)) ((7:) ((39:) (@k_bm _ K _ _ _ _ _ _ _ _ _ _ _ yaw yaA yaB (@zaP _) (63:) ((2:) (@zd1 _ _ _) (4:) (0:)) (0:) (0:) (0:) (0:) (0:) (0:)) (0:)) ((7:) ((23:) (@zf5 _ _ _ _ (@zca _ _ _ ((14:) g__law_same (15:) ((2:) ((14:) g_reach (15:) ((2:) (20:) ((2:) (@zcD _ K _ _ _ _ _ _ rfl B.b_tuple B.b_reversed ((2:) (26:) (4:) (0:)) (0:) (0:) (0:) (0:) (0:)) (4:) (0:)) (0:)) (0:) (3:) (0:) (0:)) ((2:) (31:) (4:) (0:)) (0:)) (0:) (3:) (0:) (0:)) (21:))) ((9:) ((19:) (@zgz _ _ _ _))) (24:)) ((7:) ((40:) yaM rfl (80:) (@zat _ _ 8 _ nd rfl (12:) (11:)) ((7:) (@zas _ _ 9 _ _ _ _ nd rfl (12:) ((14:) g__law_asked (15:) ((2:) (16:) ((2:) (20:) ((2:) (26:) ((2:) (33:) (4:) (0:)) (0:)) (0:)) (0:)) (0:) (3:) (0:) (0:)) (0:) (11:)) ((9:) ((23:) (@zf5 _ _ _ _ (@zca _ _ _ ((14:) g__law_same (15:) ((2:) ((14:) g_how_few (15:) ((2:) (@pv1 _ 9 _ _ (42:)) ((2:) (26:) (4:) (0:)) (0:)) (0:) (3:) (0:) (0:)) ((2:) (@zjY _ _ _ _ _ _ _ hu (33:) (@pv1 _ 9 _ _ (42:)) (0:) (0:) (0:) (0:)) (4:) (0:)) (0:)) (0:) (3:) (0:) (0:)) (21:))) ((9:) ((19:) (@zgz _ _ _ _))) (24:)))) (21:)) ((9:) ((23:) (@zf5 _ _ _ _ (@zca _ _ _ ((14:) g__law_same (15:) ((2:) ((14:) g_how_few (15:) ((2:) (@zaX _ K _ _ _ _ _ _ rfl B.b_tuple B.b_range ((2:) (20:) (4:) (0:)) (0:) (0:) (0:) (0:) (0:)) ((2:) (26:) (4:) (0:)) (0:)) (0:) (3:) (0:) (0:)) ((2:) (6:) (4:) (0:)) (0:)) (0:) (3:) (0:) (0:)) (21:))) ((9:) ((19:) (@zgz _ _ _ _))) (24:)))))))))))))) (21:)) ((9:) ((19:) (@zgz _ _ _ _))))), ?_⟩
  walk_at "goI"
  refine ⟨b,ns,rfl,hS,λ p H1 fp s1 h1=>?_⟩
  walk_at "goI"
  refine za9 (n:=5) rfl (3:) ?_;refine zaw (λ i σ H'=>Hand H' p /\ ∃ v2 v3 v4 v5 v6 v7 v8 v9,σ=[some (.ref b),some (.ref p),v2,v3,v4,v5,v6,v7,v8,v9]) ⟨h1,none,none,none,none,none,none,none,none,rfl⟩ ?_ ?_
  ·rintro i σ H2 hi ⟨h2, v2, v3, v4, v5, v6, v7, v8, v9, rfl⟩
   walk_at "goI"
   refine ⟨p,3,rfl,h2,by decide,by decide,λ r H3 hr3 b3 h3=>?_⟩
   walk_at "goI"
   rw [show (1:Int) + (r:Int)=((1 + r:Nat):Int) by omega];refine za2 (5:) λ q4 H4 f4 s4 n4=>?_;have h4:=h3.same s4
   walk_at "goI"
   refine ⟨p,8,rfl,h4,by decide,by decide,λ r5 H5 hr5 b5 h5=>?_⟩;have q5:=b5.keep _ _ (h3.ne f4) n4
   have hpick:∃ m:Nat,m <= 12 /\ ([V.int 7,.int 7,.int 7,.int 7,.int 7,.int 7,.int 12,.int 0]:List V)[r5]?=some (nV m):=by
    match r5,hr5 with
    | 0,_=>exact ⟨7,by decide,rfl⟩
    | 1,_=>exact ⟨7,by decide,rfl⟩
    | 2,_=>exact ⟨7,by decide,rfl⟩
    | 3,_=>exact ⟨7,by decide,rfl⟩
    | 4,_=>exact ⟨7,by decide,rfl⟩
    | 5,_=>exact ⟨7,by decide,rfl⟩
    | 6,_=>exact ⟨12,by decide,rfl⟩
    | 7,_=>exact ⟨0,by decide,rfl⟩
   obtain ⟨mm,hmm,hpk⟩:=hpick;refine zcF (SqL.of q5) (1:) (by rw [yao]; exact hpk) ?_
   walk_at "goI"
   refine ⟨p,1 + r,mm,rfl,h5,by omega,by omega,hmm,λ l0 L0 H6 f6 b6 h6 n6 R6 z6=>?_⟩;have lp0:l0 ≠ p:=h5.ne f6
   walk_at "goI"
   refine zmx (λ σ H'=>Hand H' p /\ ∃ l L,l ≠ p /\ H' l=some (.lst (rowV L)) /\ Rw H' (1 + r) L /\ L.length <= 100 /\ σ=[some (.ref b),some (.ref p),some (nV i),some (nV (1 + r)),some (.ref l),v5,v6,v7,v8,v9]) (λ f hf=>?_) ?_
   ·have go : ∀ H7, But p H6 H7 -> Hand H7 p -> f [some (.ref b), some (.ref p), some (nV i), some (nV (1 + r)), some (.ref l0), v5, v6, v7, v8, v9] H7 := fun H7 b7 h7 => hf _ _ ⟨h7, l0, L0, lp0, b7.keep _ _ lp0 n6, R6.but h6 b7, by omega, rfl⟩
    walk_at "goI"
    refine zaC (λ hc=>?_) (λ hc=>?_)
    ·walk_at "goI"
     refine ⟨p,3,rfl,h6,by decide,by decide,λ r7 H7 hr7 b7 h7=>?_⟩
     walk_at "goI"
     refine zaC (λ hc7=>?_) (λ hc7=>?_)
     ·walk_at "goI"
      refine ⟨1 + r,rfl,by omega,by omega,λ l L H8 fl G e8=>?_⟩
      walk_at "goI"
      have rw8:=zl5 (1:) (1:) G.2.2 e8;exact hf _ _ ⟨h7.same G.1,l,asDd L,h7.ne fl,by rw [zkA]; exact G.2.1,rw8.1,rw8.2,rfl⟩
     ·walk_at "goI"
      exact go H7 b7 h7
    ·walk_at "goI"
     exact go H6 (But.refl _ _) h6
   rintro σ H7 ⟨h7,l,L,lp,n7,R7,z7,rfl⟩;have hSt:=zcv R7
   walk_at "goI"
   refine ⟨1 + r,l,L,rfl,n7,R7,by omega,by omega,λ d o F H8 s8 hd hK=>?_⟩;have h8:=h7.same s8;have n8:=s8 _ _ n7;have R8:=R7.same s8
   have dp:d ≠ p:=by
    obtain ⟨q,cells,a,b,c,e,_⟩:=h8;exact zbK hd e nofun
   have hFw:=hK.few;symm;refine ze2 ?_;symm;refine ⟨d,KnD F,rfl,.inr ⟨o,hd,?_⟩⟩;refine zd8 (λ j acc H'=>Same H8 H' /\ ∃ ps,acc=ps.map V.ref /\ ps.length=j /\ j <= F.length /\ Prs2 H' ((F.take j).map λ q=>(q.2,q.1)) ps) ⟨Same.refl _,[],rfl,rfl,yaQ _,.nil⟩ (λ j acc H' h=>?_) (λ j acc H' h=>h.1 _ _ hd) ?_ ?_
   ·obtain ⟨_,ps,rfl,h1,h2,_⟩:=h;rw [yac];exact yaC (zaO (1:))
   ·rintro j kk bb acc H9 hkk hb ⟨s9,ps,rfl,hl,hiF,hP⟩;obtain ⟨q,hq,rfl⟩:=zjL hkk;have hil:j < F.length:=(yah.mp hq).1;have hqF:=yav hq;rw [kI_V] at hb;have d9:Frz H9 d o (KnD F):=s9 _ _ hd;symm;refine zec ?_;symm;refine ⟨d,nV q.2,rfl,hK.get hqF ▸ DGet.r (Frz.rd d9) hb,?_⟩;symm;refine zar (5:) λ t H10 f10 s10 n10=>?_;refine ⟨s9.trans s10,ps ++ [t],by rw [yax]; rfl,by rw [yaf,hl]; rfl,hil,?_⟩;rw [ya9,hq,yax];exact Prs2.snoc ⟨bb,n10,s10 _ _ hb⟩ (hP.mono λ b xs z=>s10 _ _ z)
   rintro acc H9 ⟨s9,ps,rfl,hl,hiF,hP⟩ lc hlc;rw [KnD.length,yat (yag _)] at hP;have slc:=zaj (o:=.lst (ps.map V.ref)) hlc;have lc10:upd H9 lc (.lst (ps.map V.ref)) lc=some (.lst (ps.map V.ref)):=zad;have P10:=hP.mono λ b xs z=>slc _ _ z;have s10:=s9.trans slc;generalize upd H9 lc (.lst (ps.map V.ref))=H10 at *;symm;refine ⟨lc,ps,_,1 + r,rfl,.inl lc10,P10,λ q hq=>?_,λ g psg G hg hG hO hPG=>?_⟩
   ·obtain ⟨q',hq',rfl⟩:=yap.mp hq;have l:=hK.ld hSt q' hq';exact ⟨l.1,λ e he=>by have:=l.2 e he; omega⟩
   have sg:=zaj (o:=.lst (psg.map V.ref)) hg;have g11:upd H10 g (.lst (psg.map V.ref)) g=some (.lst (psg.map V.ref)):=zad;have PG:=hPG.mono λ b xs z=>sg _ _ z;have s11:=s10.trans sg;have gp:g ≠ p:=(h8.same s10).ne hg;generalize upd H10 g (.lst (psg.map V.ref))=H11 at *
   have memG:∀ n x,(n,x) ∈ G ↔ Dst (steps (1 + r) L) (1 + r) n x:=λ n x=>by
    rw [hG.mem_iff,yap,<- hK.all x n];exact ⟨λ ⟨a,ha,e⟩=>by cases e; exact ha,λ h=>⟨_,h,rfl⟩⟩
   have inG:∀ q ∈ G,q.2.length=1 + r /\ Srk.InB q.2:=λ q hq=>by
    have l:=((memG q.1 q.2).mp hq).1.ld hSt;exact ⟨l.1,λ e he=>by have:=l.2 e he; omega⟩
   have zG:G.length <= 1296:=by rw [hG.length_eq,yac]; exact hFw
   have nodG:G.Nodup:=by
    rw [hG.nodup_iff];exact ybp.mpr ((ybp.mp hK.once).imp λ {a b} z e=>z (Prod.mk.inj e).2)
   have one:∀ {L':List (Addr × Dd)} {G':List (Nat × List Int)},(∀ s,s ∈ steps (1 + r) L' ↔ s ∈ steps (1 + r) L) -> Rch (1 + r) L' G' -> G=G':=λ {L' G'} hs R'=>by
    have hmem:∀ q,q ∈ G' ↔ q ∈ G:=λ q=>(R'.all q.1 q.2).trans ((Dst.congr hs).trans (memG q.1 q.2).symm);exact zjN inG hO R'.ord ((List.perm_ext_iff_of_nodup R'.once nodG).mpr hmem)
   have n11:=s11 _ _ n8;have R11:=R8.same s11;have d11:Frz H11 d o (KnD F):=s11 _ _ hd;have h11:=h8.same s11;symm;refine ⟨1 + r,l,L,rfl,.inl (SqL.of n11),R11,by omega,by omega,by omega,λ rr psr Gr H12 frr s12 RG PR nr=>?_⟩;have eG:=one (λ _=>Iff.rfl) RG;subst eG;have glen:∀ q ∈ G,q.2.length <= 10000:=λ q hq=>by rw [(inG q hq).1]; omega
   have zpr:=PR.length;symm;refine ⟨.ref rr,.ref g,rfl,Alike.prs nr (s12 _ _ g11) PR (PG.mono λ b xs z=>s12 _ _ z) zG glen,λ H13 s13=>?_⟩;have nr13:=s13 _ _ nr;have zps:(psr.map V.ref).length <= 1296:=by rw [yac]; omega
   symm;refine ⟨rr,_,rfl,rfl,nr13,?_⟩;have nr14:upd H13 rr (.lst (psr.map V.ref).reverse) rr=some (.lst (psr.map V.ref).reverse):=zad;have s14:Same H11 (upd H13 rr (.lst (psr.map V.ref).reverse)):=(s12.trans s13).upd' frr;generalize upd H13 rr (.lst (psr.map V.ref).reverse)=H14 at *;have zps2:(psr.map V.ref).reverse.length <= 1296:=by rw [ybD]; exact zps
   symm;have s15:Same H11 (upd H14 rr (.lst ((psr.map V.ref).reverse ++ [.non]))):=s14.upd' frr;generalize upd H14 rr (.lst ((psr.map V.ref).reverse ++ [.non]))=H15 at *;have n15:=s15 _ _ n11;refine znB ?_;symm;refine ⟨l,rowV L,rfl,SqL.of n15,λ t ht=>?_⟩;have st:=zaj (o:=.tup (rowV L).reverse) ht;have t16:upd H15 t (.tup (rowV L).reverse) t=some (.tup (rowV L).reverse):=zad;have s16:=s15.trans st;generalize upd H15 t (.tup (rowV L).reverse)=H16 at *;symm;refine ⟨1 + r,t,L.reverse,rfl,.inr (SqT.of (by rw [zkm]; exact t16)),λ q hq=>(R11.same s16) q (List.mem_reverse.mp hq),by omega,by omega,by rw [ybD]; omega,λ rr2 ps2 G2 H17 fr2 s17 RG2 PR2 nr2=>?_⟩;have eG2:=one (λ _=>zjD) RG2;subst eG2;have s117:=s16.trans s17;symm;refine ⟨.ref rr2,.ref g,rfl,Alike.prs nr2 (s117 _ _ g11) PR2 (PG.mono λ b xs z=>s117 _ _ z) zG glen,λ H18 s18=>?_⟩;have s118:=s117.trans s18;have h18:=h11.same s118;have n18:=s118 _ _ n11;have R18:=R11.same s118;have d18:Frz H18 d o (KnD F):=s118 _ _ d11;symm;refine za9 (n:=6) rfl (3:) ?_;refine zaw (λ j σ H'=>But p H18 H' /\ Hand H' p /\ ∃ v8 v9,σ=[some (.ref b),some (.ref p),some (nV i),some (nV (1 + r)),some (.ref l),some (.ref d),some (.ref g),some (.ref rr),v8,v9]) ⟨But.refl _ _,h18,_,_,rfl⟩ ?_ ?_
   ·rintro j σ H19 hj ⟨b19, h19, w8, w9, rfl⟩;have n19 := b19.keep _ _ lp n18;have R19 := R18.but h18 b19;have d19 : Frz H19 d o (KnD F) := b19.keep _ _ dp d18;symm;refine ⟨p, l, d, o, 1 + r, L, F, rfl, h19, by omega, by omega, n19, R19, by omega, lp, d19, hK, fun t2 ls H20 l20 b20 h20 n20 => ?_⟩;have m20 := b20.keep _ _ lp n19;have R20 := R19.but h19 b20;have d20 : Frz H20 d o (KnD F) := b20.keep _ _ dp d19;have b1920 := b19.trans b20
    have fin:∀ (x:V) (H21:Hp),Same H20 H21 -> x=((valV (KnD F) (kI ls)).getD .non) -> (x=.non \/ ∃ n:Nat,x=nV n) -> Alike H21 4 x ((valV (KnD F) (kI ls)).getD .non):=λ x H21 s21 e hx=>by
     rw [<- e];rcases hx with rfl | ⟨n,rfl⟩
     ·exact .non _
     ·exact .int _ _
    symm;refine ⟨1 + r,l,t2,L,ls,rfl,.inl (SqL.of m20),R20,by omega,by omega,by omega,n20,l20,λ H21 s21 nod=>?_,λ H21 n s21 dn=>?_⟩
    ·have d21 : Frz H21 d o (KnD F) := s21 _ _ d20
     have ev:V.non=((valV (KnD F) (kI ls)).getD .non):=by
      rcases KnD.val (ls:=ls) (F:=F) with ⟨z1,zv⟩ | ⟨n,z1,zv⟩
      ·rw [zv]; rfl
      ·exact absurd ((hK.all ls n).mp z1) (nod n)
     symm;refine zil ?_;symm;refine ⟨d,rfl,.inr ⟨_,Frz.rd d21⟩,?_⟩;symm;refine ⟨_,DGet.r (Frz.rd d21) (s21 _ _ n20),?_⟩;symm;refine ⟨.non,_,rfl,fin _ _ s21 ev (.inl rfl),λ H22 s22=>?_⟩;symm;exact ⟨b1920.trans (s21.trans s22).but,h20.same (s21.trans s22),_,_,rfl⟩
    ·have d21 : Frz H21 d o (KnD F) := s21 _ _ d20
     have ev:nV n=((valV (KnD F) (kI ls)).getD .non):=by
      rcases KnD.val (ls:=ls) (F:=F) with ⟨z1,zv⟩ | ⟨n',z1,zv⟩
      ·exact absurd (yap.mpr ⟨_,(hK.all ls n).mpr dn,rfl⟩) z1
      ·rw [zv,dn.one ((hK.all ls n').mp z1)]; rfl
     symm;refine zil ?_;symm;refine ⟨d,rfl,.inr ⟨_,Frz.rd d21⟩,?_⟩;symm;refine ⟨_,DGet.r (Frz.rd d21) (s21 _ _ n20),?_⟩;symm;refine ⟨nV n,_,rfl,fin _ _ s21 ev (.inr ⟨n,rfl⟩),λ H22 s22=>?_⟩;symm;exact ⟨b1920.trans (s21.trans s22).but,h20.same (s21.trans s22),_,_,rfl⟩
   ·rintro σ H19 ⟨b19,h19,w8,w9,rfl⟩;have n19:=b19.keep _ _ lp n18;have R19:=R18.but h18 b19;symm;refine ⟨1 + r,rfl,by omega,λ t2 ht2=>?_⟩;rw [zdW];have st2:=zaj (o:=.tup ((zaK (1 + r)).map V.int)) ht2;have t20:upd H19 t2 (.tup ((zaK (1 + r)).map V.int)) t2=some (.tup ((zaK (1 + r)).map V.int)):=zad;have h20:=h19.same st2;have m20:=st2 _ _ n19;have R20:=R19.same st2;generalize upd H19 t2 (.tup ((zaK (1 + r)).map V.int))=H20 at *;symm;refine ⟨1 + r,l,t2,L,zaK (1 + r),rfl,.inl (SqL.of m20),R20,by omega,by omega,by omega,t20,zfb _,λ H21 s21 nod=>absurd (Dst.zero.mpr rfl) (nod 0),λ H21 n s21 dn=>?_⟩;have:=dn.one (Dst.zero.mpr rfl);subst this;symm;refine ⟨nV 0,.int 0,rfl,.int _ _,λ H22 s22=>?_⟩;symm;exact ⟨h20.same (s21.trans s22),_,_,_,_,_,_,_,_,rfl⟩
  ·rintro σ H2 ⟨h2, v2, v3, v4, v5, v6, v7, v8, v9, rfl⟩
   walk_at "goI"
   exact k H2
end
def all_mk {l:PySem.W.OpenLaw} {w:World} {K:PySem.W.Frag} {h:Heap} {mg:Str -> Option Value} {fa:Addr} (X:K.In h) (G:h.Ns mainGlobals mg) (hfa:mg "law"=some (.ref fa))
  {t_NOUGHT t_ONE:Tok}
  (a0:At K "deeds_to" zdv)
  (a1:At K "staying" zel)
  (a2:At K "bit_at" zfk)
  (a3:At K "places_in" zb4)
  (a4:At K "gather_leading" zbn)
  (a5:At K "strew_leading" zbw)
  (a6:At K "is_within" zcQ)
  (a7:At K "place_or_nought" zbb)
  (a8:At K "copy_source" zb2)
  (a9:At K "source_of" zcJ)
  (a10:At K "deed_leading" zbe)
  (a11:At K "deeds_by_leading" za8)
  (a12:At K "then" zhC)
  (a13:At K "next_edge" zcO)
  (a14:At K "searched" zdq)
  (a15:At K "how_few" zee)
  (a16:At K "reach" zfm)
  (a17:At K "_law_hand" zb7)
  (a18:At K "_law_draw" zcU)
  (a19:At K "_law_goes" zb3)
  (a20:At K "_law_all" zaG)
  (a21:At K "_law_word" zcK)
  (a22:At K "_law_swap_mask" zbl)
  (a23:At K "_law_copy_mask" zbi)
  (a24:At K "_law_deed" zcM)
  (a25:At K "_law_menu" zcS)
  (a26:At K "_law_bit" zdf)
  (a27:At K "_law_from_pair" zbj)
  (a28:At K "_law_from" zb0)
  (a29:At K "_law_behind" zbo)
  (a30:At K "_law_rings" zbF)
  (a31:At K "_law_asked" zbh)
  (a32:At K "_law_same" zb8)
  (a33:At K "law" zf0)
  (z_abs:PySem.W.nsIn K mainGlobals "abs"=some none)
  (z_all:PySem.W.nsIn K mainGlobals "all"=some none)
  (z_bool:PySem.W.nsIn K mainGlobals "bool"=some none)
  (z_enumerate:PySem.W.nsIn K mainGlobals "enumerate"=some none)
  (z_int:PySem.W.nsIn K mainGlobals "int"=some none)
  (z_isinstance:PySem.W.nsIn K mainGlobals "isinstance"=some none)
  (z_len:PySem.W.nsIn K mainGlobals "len"=some none)
  (z_list:PySem.W.nsIn K mainGlobals "list"=some none)
  (z_max:PySem.W.nsIn K mainGlobals "max"=some none)
  (z_min:PySem.W.nsIn K mainGlobals "min"=some none)
  (z_range:PySem.W.nsIn K mainGlobals "range"=some none)
  (z_reversed:PySem.W.nsIn K mainGlobals "reversed"=some none)
  (z_sorted:PySem.W.nsIn K mainGlobals "sorted"=some none)
  (z_str:PySem.W.nsIn K mainGlobals "str"=some none)
  (z_tuple:PySem.W.nsIn K mainGlobals "tuple"=some none)
  (z_zip:PySem.W.nsIn K mainGlobals "zip"=some none)
  (y_NOUGHT:PySem.W.nsIn K mainGlobals "NOUGHT"=some (some (.int (-1) t_NOUGHT)))
  (y_ONE:PySem.W.nsIn K mainGlobals "ONE"=some (some (.int (-2) t_ONE)))
  : ∃ fd:FuncData,(∀ (s:Shared) (v:Value),BindsTo s fd ⟨[v],[]⟩ [("_law_script",v)]) /\ ∀ base:Heap,K.In base -> base.Ns mainGlobals mg -> FnOk l.prog w K mg base CX0 8 fa fd ["_law_script"] (zko K):=by
 obtain ⟨ff,od,an33,sl,oc,kV33,dc33,pm33,cd33,ct33,aa,ll,cc,kk⟩:=a33;have e:=hfa.symm.trans (ycC X G aa);cases e;have B:Blt K mg:=⟨yaG X G z_abs,yaG X G z_all,yaG X G z_bool,yaG X G z_enumerate,yaG X G z_int,yaG X G z_isinstance,yaG X G z_len,yaG X G z_list,yaG X G z_max,yaG X G z_min,yaG X G z_range,yaG X G z_reversed,yaG X G z_sorted,yaG X G z_str,yaG X G z_tuple,yaG X G z_zip,⟨_,ycC X G y_NOUGHT⟩,⟨_,ycC X G y_ONE⟩⟩
 have F33:=zkX (st:=zf0) ll cc kk;refine ⟨PySem.W.fnOf "law" "law" (zcN zf0) (zcm zf0) (zah zf0) .none kV33 dc33 pm33 an33 cd33 ct33,λ s v=>.of_eq rfl,λ base _ _=>?_⟩;have g_deeds_to:A0 l.prog w K mg base:=a0.at X G (32:) λ _ _=>zgC B ;have g_staying:A1 l.prog w K mg base:=a1.at X G (71:) λ _ _=>zic B ;have g_bit_at:A2 l.prog w K mg base:=a2.at X G (32:) λ _ _=>ziy B ;have g_places_in:A3 l.prog w K mg base:=a3.at X G (71:) λ _ _=>zfW B g_bit_at;have g_gather_leading:A4 l.prog w K mg base:=a4.at X G (32:) λ _ _=>zdl B g_places_in;have g_strew_leading:A5 l.prog w K mg base:=a5.at X G (32:) λ _ _=>zdT B g_places_in;have g_is_within:A6 l.prog w K mg base:=a6.at X G (48:) λ _ _=>zfN B ;have g_place_or_nought:A7 l.prog w K mg base:=a7.at X G (32:) λ _ _=>zcY B g_is_within;have g_copy_source:A8 l.prog w K mg base:=a8.at X G (48:) λ _ _=>zew B g_bit_at;have g_source_of:A9 l.prog w K mg base:=a9.at X G (48:) λ _ _=>zge B g_bit_at g_place_or_nought g_copy_source;have g_deed_leading:A10 l.prog w K mg base:=a10.at X G (32:) λ _ _=>zd7 B g_gather_leading g_strew_leading g_source_of;have g_deeds_by_leading:A11 l.prog w K mg base:=a11.at X G (32:) λ _ _=>zcP B g_deed_leading;have g_then:A12 l.prog w K mg base:=a12.at X G (32:) λ _ _=>zl0 B ;have g_next_edge:A13 l.prog w K mg base:=a13.at X G (48:) λ _ _=>zf4 B g_then g_deeds_to;have g_searched:A14 l.prog w K mg base:=a14.at X G (48:) λ _ _=>zgN B g_staying g_deeds_by_leading g_next_edge;have g_how_few:A15 l.prog w K mg base:=a15.at X G (32:) λ _ _=>zhV B g_deeds_to g_searched;have g_reach:A16 l.prog w K mg base:=a16.at X G (32:) λ _ _=>zkn B g_deeds_to g_searched;have g__law_hand:A17 l.prog w K mg base:=a17.at X G (71:) λ _ _=>zgg B ;have g__law_draw:A18 l.prog w K mg base:=a18.at X G (32:) λ _ _=>zgw B ;have g__law_goes:A19 l.prog w K mg base:=a19.at X G (48:) λ _ _=>zf9 B ;have g__law_all:A20 l.prog w K mg base:=a20.at X G (71:) λ _ _=>zg5 B g__law_goes;have g__law_word:A21 l.prog w K mg base:=a21.at X G (32:) λ _ _=>zgm B g__law_draw;have g__law_swap_mask:A22 l.prog w K mg base:=a22.at X G (48:) λ _ _=>zdn B g__law_draw;have g__law_copy_mask:A23 l.prog w K mg base:=a23.at X G (48:) λ _ _=>zdt B g__law_word;have g__law_deed:A24 l.prog w K mg base:=a24.at X G (32:) λ _ _=>zfF B g__law_draw g__law_word g__law_swap_mask g__law_copy_mask;have g__law_menu:A25 l.prog w K mg base:=a25.at X G (48:) λ _ _=>zgu B g__law_draw g__law_deed;have g__law_bit:A26 l.prog w K mg base:=a26.at X G (32:) λ _ _=>zgT B ;have g__law_from_pair:A27 l.prog w K mg base:=a27.at X G (48:) λ _ _=>zdp B ;have g__law_from:A28 l.prog w K mg base:=a28.at X G (32:) λ _ _=>zfR B g__law_bit g__law_from_pair;have g__law_behind:A29 l.prog w K mg base:=a29.at X G (32:) λ _ _=>zeD B ;have g__law_rings:A30 l.prog w K mg base:=a30.at X G (32:) λ _ _=>ze9 B g__law_from g__law_behind;have g__law_asked:A31 l.prog w K mg base:=a31.at X G (λ _ _ F=>F.binds λ _ _ _ _ _ _ us hl=>match us,hl with | [_,_,_,_],_=>rfl) λ _ _=>ze3 B g__law_draw g__law_from g__law_behind
 have g0__law_same:FnAt l.prog w K mg base "_law_same" ["_law_found","_law_due"] (0 + 0) (zc3 0):=a32.at X G (32:) λ _ _ _=>⟨λ _ _ _ _ h=>h.elim,λ _ _ _ _ _ _ _ _ _ _ _ _ _ h=>h.elim⟩
 have g1__law_same:FnAt l.prog w K mg base "_law_same" ["_law_found","_law_due"] (1 + 0) (zc3 1):=a32.at X G (32:) λ _ _=>zbg (j:=0) B  g0__law_same;have g2__law_same:FnAt l.prog w K mg base "_law_same" ["_law_found","_law_due"] (2 + 0) (zc3 2):=a32.at X G (32:) λ _ _=>zbg (j:=1) B  g1__law_same;have g3__law_same:FnAt l.prog w K mg base "_law_same" ["_law_found","_law_due"] (3 + 0) (zc3 3):=a32.at X G (32:) λ _ _=>zbg (j:=2) B  g2__law_same;have g4__law_same:FnAt l.prog w K mg base "_law_same" ["_law_found","_law_due"] (4 + 0) (zc3 4):=a32.at X G (32:) λ _ _=>zbg (j:=3) B  g3__law_same;have g__law_same:FnAt l.prog w K mg base "_law_same" ["_law_found","_law_due"] (5 + 0) (zc3 5):=a32.at X G (32:) λ _ _=>zbg (j:=4) B  g4__law_same;exact znQ B g_how_few g_reach g__law_hand g__law_draw g__law_all g__law_menu g__law_rings g__law_asked g__law_same F33
def walk {l:PySem.W.OpenLaw} {q:Program} {loose:List Str} {XP:(Str -> Option Value) -> Heap -> Prop} {YP:World -> Heap -> Prop} {d:DefRec} {K:Params -> PySem.W.Frag} (hn:l.most=some 63) (hdf:d.params.defaults=[])
  (hY:∀ (w:World) (h:Heap),YP w h -> (K w.params).In h)
  (F : ∀ (w : World) (mg : Str -> Option Value) (fa : Addr) (h : Heap), (K w.params).In h -> h.Ns mainGlobals mg -> mg d.name = some (.ref fa) ->
   ∃ fd:FuncData,(∀ (s:Shared) (u:Value),BindsTo s fd ⟨[u],[]⟩ [("_law_script",u)]) /\ ∀ base:Heap,(K w.params).In base -> base.Ns mainGlobals mg -> FnOk l.prog w (K w.params) mg base CX0 8 fa fd ["_law_script"] (zko (K w.params))) :
  PySem.W.WalkO q loose XP YP l.row.toRowW d [] (λ f vs=>PySem.call f vs):=
 L2.walk_of (n:=63) (k:=8) (x:="_law_script") (CX:=λ _=>CX0) (sp:=λ w=>zko (K w.params)) hn (3:) hdf ⟨rfl,by decide,by decide⟩ hY F (λ _ _ a ns hl _ hS=>⟨a,ns,rfl,hS,hl,λ _=>rfl⟩) λ _ _ _ _ _ z=>z
end Lw
local macro_rules | `(tactic| walk_at "at")=>`(tactic| (refine' Lw.At.mk ?xn ?xl ?xc ?xk; (case xn=>k_is); (case xl=>k_is); (case xc=>k_is); (case xk=>k_is)))
open PySem PySem.W PyProof.Rows
set_option maxRecDepth 100000 in
set_option maxHeartbeats 0 in
theorem PySem.Challenge.cw_bitlead_k30_all_that_are_led_holds : PySem.Challenge.rw_bitlead_k30_all_that_are_led.Holds := by
 w_on; o_law; k_head; (case hw=>w_witness2)
 k_fill
 refine Lw.walk (l:=PySem.Challenge.rw_bitlead_k30_all_that_are_led) rfl rfl (λ w h Y=>PySem.W.kIn_of Y) ?F
 case F=>
  intro w mg fa h KX G hmg;refine' Lw.all_mk KX G hmg ?a0 ?a1 ?a2 ?a3 ?a4 ?a5 ?a6 ?a7 ?a8 ?a9 ?a10 ?a11 ?a12 ?a13 ?a14 ?a15 ?a16 ?a17 ?a18 ?a19 ?a20 ?a21 ?a22 ?a23 ?a24 ?a25 ?a26 ?a27 ?a28 ?a29 ?a30 ?a31 ?a32 ?a33 ?z_abs ?z_all ?z_bool ?z_enumerate ?z_int ?z_isinstance ?z_len ?z_list ?z_max ?z_min ?z_range ?z_reversed ?z_sorted ?z_str ?z_tuple ?z_zip ?y_NOUGHT ?y_ONE
  (case a0=>walk_at "at")
  (case a1=>walk_at "at")
  (case a2=>walk_at "at")
  (case a3=>walk_at "at")
  (case a4=>walk_at "at")
  (case a5=>walk_at "at")
  (case a6=>walk_at "at")
  (case a7=>walk_at "at")
  (case a8=>walk_at "at")
  (case a9=>walk_at "at")
  (case a10=>walk_at "at")
  (case a11=>walk_at "at")
  (case a12=>walk_at "at")
  (case a13=>walk_at "at")
  (case a14=>walk_at "at")
  (case a15=>walk_at "at")
  (case a16=>walk_at "at")
  (case a17=>walk_at "at")
  (case a18=>walk_at "at")
  (case a19=>walk_at "at")
  (case a20=>walk_at "at")
  (case a21=>walk_at "at")
  (case a22=>walk_at "at")
  (case a23=>walk_at "at")
  (case a24=>walk_at "at")
  (case a25=>walk_at "at")
  (case a26=>walk_at "at")
  (case a27=>walk_at "at")
  (case a28=>walk_at "at")
  (case a29=>walk_at "at")
  (case a30=>walk_at "at")
  (case a31=>walk_at "at")
  (case a32=>walk_at "at")
  (case a33=>walk_at "at")
  (case z_abs=>k_is)
  (case z_all=>k_is)
  (case z_bool=>k_is)
  (case z_enumerate=>k_is)
  (case z_int=>k_is)
  (case z_isinstance=>k_is)
  (case z_len=>k_is)
  (case z_list=>k_is)
  (case z_max=>k_is)
  (case z_min=>k_is)
  (case z_range=>k_is)
  (case z_reversed=>k_is)
  (case z_sorted=>k_is)
  (case z_str=>k_is)
  (case z_tuple=>k_is)
  (case z_zip=>k_is)
  (case y_NOUGHT=>k_is)
  (case y_ONE=>k_is)
