import PyProof.Rows.All
import Wide.All
import OpenK.AllK
import Wide.FinOn
import Lean
import PyProof.EqAt
import PyProof.EqKinds
import PyProof.TupleCall
import PySem.Challenge.RW_bitlead_k67_whole_gathered_by_any_rows
local macro_rules|`(tactic|omega)=>`(tactic|first|lia|omega (config:={}))
set_option Elab.async false
set_option linter.all false
set_option maxRecDepth 100000
set_option hygiene false in
local macro_rules
 | `((39:))=>`(by walk_at "pv")
 | `((0:))=>`(by rfl)
 | `((2:))=>`(@zaa _ _ _ _ _)
 | `((3:))=>`(by decide)
 | `((24:))=>`(@zaq _ _ _ _ _ _ _ (@k_ix _ K (0:)) (@pv1 _ 1 _ _ (39:)) (@zag _ _ _ _) (λ _ _=>rfl))
 | `((1:))=>`(by omega)
 | `((5:))=>`(@pv1 _ 0 _ _ (39:))
 | `((9:))=>`(@zah _ _ _ _ _ _ _ _ _ _)
 | `((28:))=>`(λ _ _ F=>F.binds λ _ _ _ _ _ _ us hl=>match us,hl with | [_],_=>rfl)
 | `((30:))=>`(λ _ _ F=>F.binds λ _ _ _ _ _ _ us hl=>match us,hl with | [_,_],_=>rfl)
 | `((14:))=>`(by walk_at "vis")
 | `((12:))=>`(@zap _ _ _ _ _ _ _ _)
 | `((13:))=>`(@pv1 _ 1 _ _ (39:))
 | `((37:))=>`(@zal _ _ _ _ _ _ _ _ (@k_eq _ K hu (0:)) (@pv1 _ 3 _ _ (39:)) (@zaS _ _ _ _) (@zan _ _ (3:) (3:)))
 | `((15:))=>`(@pv1 _ 2 _ _ (39:))
 | `((54:))=>`(@zav _ _ _ _ _ _ _ _ _ (@zbO _ K (0:)) rfl B.b_len boot_len ((2:) (5:) (@zab _) (0:)) (3:) (3:) (0:) (0:))
 | `((6:))=>`(@zad _ _ _ _ _)
 | `((40:))=>`(λ _ _ F=>F.binds λ _ _ _ _ _ _ us hl=>match us,hl with | [_,_,_],_=>rfl)
 | `((10:))=>`(hr.mono (3:))
 | `((99:))=>`(@zar _ _ _ _ _ (@zam _ _ 0 _ (show List.Nodup (["place","entry"]:List Str) by decide +kernel) rfl (Or.inl rfl) (14:)) (@zar _ _ _ _ _ (@zam _ _ 1 _ (show List.Nodup (["place","entry"]:List Str) by decide +kernel) rfl (Or.inl rfl) (14:)) (@za6 _) (0:)) (0:))
 | `((17:))=>`(@zag _ _ _ _)
 | `((19:))=>`(@zan _ _ (3:) (3:))
 | `((21:))=>`(@zal _ _ _ _ _ _ _ _)
 | `((22:))=>`(@zaD _ _ _ _ _ _ _ _)
 | `((20:))=>`(@pv1 _ 3 _ _ (39:))
 | `((18:))=>`(by intro _; rfl)
 | `((41:))=>`(@zaq _ _ _ _ _ _ _ (@k_ix _ K (0:)) (5:) (17:) (λ _ _=>rfl))
 | `((16:))=>`(Or.inl rfl)
 | `((4:))=>`(@zab _)
 | `((11:))=>`(@zaj _ _ _ _)
 | `((7:))=>`(@zae _ _ _)
 | `((51:))=>`(@zaq _ _ _ _ _ _ _ (@k_ix _ K (0:)) (15:) (17:) (λ _ _=>rfl))
 | `((8:))=>`(by simp)
 | `((25:))=>`(by decide +kernel)
 | `((29:))=>`(@k_eq _ K hu (0:))
 | `((63:))=>`(@zaZ _ K _ _ _ _ _ _ _ B.b_enumerate ((2:) (5:) (4:) (0:)) (0:) (0:) (0:))
 | `((27:))=>`(@zaG _ _ _ _ _ _)
 | `((26:))=>`(@zaF _ _ _ _ _)
 | `((33:))=>`(@pv1 _ 4 _ _ (39:))
 | `((35:))=>`(@zav _ _ _ _ _ _ _ _ _)
 | `((84:))=>`(@za8 _ K _ _ _ _ 2 rfl (@zar _ _ _ _ _ (@zam _ _ 3 _ nd rfl (16:) (14:)) (@zar _ _ _ _ _ (@zam _ _ 4 _ nd rfl (16:) (14:)) (@za6 _) (0:)) (0:)) (0:) (0:) (0:))
 | `((70:))=>`(@zat _ _ 2 _ _ _ _ nd rfl (16:) (@zaN _ _ _ _ (4:)) (0:) (14:))
 | `((34:))=>`(by simpa using hz)
 | `((38:))=>`(@zbq _ _ _ _ _ _ _ _)
 | `((31:))=>`(@zby _ K (0:))
 | `((85:))=>`(@zaZ _ K _ _ _ _ _ _ _ B.b_enumerate ((2:) ((9:) g_places_in (10:) ((2:) (13:) (4:) (0:)) (0:) (3:) (0:) (0:)) (4:) (0:)) (0:) (0:) (0:))
 | `((42:))=>`(@zaq _ _ _ _ _ _ _)
 | `((86:))=>`(@zar _ _ _ _ _ (@zam _ _ 4 _ nd rfl (16:) (14:)) (@zar _ _ _ _ _ (@zam _ _ 5 _ nd rfl (16:) (14:)) (@za6 _) (0:)) (0:))
 | `((71:))=>`(by intro z; have z':@Eq Nat _ _:=z; omega)
 | `((46:))=>`(@pv1 _ 5 _ _ (39:))
 | `((23:))=>`(@zao _)
 | `((72:))=>`(@za8 _ K _ _ _ _ 2 rfl (99:) (0:) (0:) (0:))
 | `((43:))=>`(λ _ _=>rfl)
 | `((56:))=>`(@zaJ _ K _ _ _ (13:) (0:))
 | `((44:))=>`(@k_ix _ K (0:))
 | `((32:))=>`(@zaN _ _ _ _)
 | `((64:))=>`(@zam _ _ 3 _ nd rfl (16:) (14:))
 | `((47:))=>`(@k_ne _ K hu (0:))
 | `((87:))=>`(@zam _ _ 0 _ (show List.Nodup (["place","leading"]:List Str) by decide +kernel) rfl (16:) (14:))
 | `((73:))=>`(by rw [hg,decide_eq_true_iff]; exact hc)
 | `((36:))=>`(@zcF _ _ _ _)
 | `((79:))=>`(@zaT _ _ _ _ _ _ rfl B.b_range ((2:) (54:) (4:) (0:)) (0:))
 | `((80:))=>`(@zaT _ _ _ _ _ _ rfl B.b_range ((2:) (13:) (4:) (0:)) (0:))
 | `((74:))=>`(by rw [hg]; exact decide_eq_true hc)
 | `((52:))=>`(by simpa using hq)
 | `((55:))=>`(@zbx _ _ _ _ _ _ _ _)
 | `((75:))=>`(@zbX _ _ _ _ B.g_NOUGHT (0:) (3:))
 | `((45:))=>`(@zar _ _ _ _ _)
 | `((49:))=>`(by simp; omega)
 | `((59:))=>`(@zbu _ _ _ _ _ _ _ _ _)
 | `((57:))=>`(@zcB _ _ _ _ _ _ _ _)
 | `((81:))=>`(@zat _ _ 3 _ _ _ _ nd rfl (16:) (24:) (0:) (14:))
 | `((90:))=>`(@PW.pt _ _ _ (@zfY _ _ _ _ _ _ _ ((21:) (29:) (24:) (@zaS _ _ _ _) (19:)) (@zds _ _ _ _ ((21:) (29:) (51:) (@zaS _ _ _ _) (19:)))))
 | `((82:))=>`(@zeZ _ _ _ _ _ _ _ (5:) (17:) (@zb3 _) (18:))
 | `((91:))=>`(@zam _ _ 0 _ (show List.Nodup (["place","leading","crossing","half"]:List Str) by decide +kernel) rfl (16:) (14:))
 | `((88:))=>`(@zaT _ _ _ _ _ _ rfl B.b_range ((2:) (17:) (4:) (0:)) (0:))
 | `((92:))=>`(@zat _ _ 2 _ _ _ _ nd rfl (16:) ((12:) (@zht _ K (0:)) ((32:) ((2:) (@zcr _ _ _) (4:) (0:))) (54:)) (0:) (14:))
 | `((93:))=>`(@zam _ _ 0 _ (show List.Nodup (["_law_word_here","_law_mask"]:List Str) by decide +kernel) rfl (16:) (14:))
 | `((76:))=>`(by rw [xob,ea,eb]; rfl)
 | `((94:))=>`(@znC _ K _ _ _ _ _ _ _ _ ya3 PySem.F.slot_list_pop PySem.F.type_list_pop (@zqb _) (13:) (0:) (0:) (0:))
 | `((65:))=>`(by simpa using h1)
 | `((66:))=>`(@pv1 _ 6 _ _ (39:))
 | `((95:))=>`(@zdl _ _ _ _ (@zbt _ _ _ ((9:) g_is_even (10:) ((2:) (5:) (4:) (0:)) (0:) (3:) (0:) (0:)) (18:)))
 | `((67:))=>`(@zfS _ _ _ _ _ _ _)
 | `((96:))=>`(@zlJ _ K _ _ _ _ _ _ _ _ B.b_zip ((2:) (20:) ((2:) (33:) (4:) (0:)) (0:)) (0:) (0:) (0:) (0:))
 | `((58:))=>`(@zbO _ K (0:))
 | `((97:))=>`(@zam _ _ 0 _ (show List.Nodup (["by","mask"]:List Str) by decide +kernel) rfl (16:) (14:))
 | `((60:))=>`(@zeN _ _ _ _ _ _)
 | `((89:))=>`(@zbt _ _ _ ((42:) (44:) (15:) (5:) (43:)) (18:))
 | `((98:))=>`(@zbV _ _ _ _ ((9:) g_check_halved (10:) ((2:) (54:) (4:) (0:)) (0:) (3:) (0:) (0:)) (0:))
 | `((69:))=>`(by simpa using hw)
 | `((61:))=>`(@ziQ _ K (0:))
 | `((83:))=>`(by show 2 <= sizeLine; decide)
 | `((53:))=>`(@zcr _ _ _)
 | `((62:))=>`(hr.mono (1:))
 | `((48:))=>`(@zbg _ _ _)
 | `((77:))=>`(by simpa using h2)
 | `((68:))=>`(@zht _ K (0:))
 | `((78:))=>`(@zfY _ _ _ _ _ _ _)
 | `((50:))=>`(@zbt _ _ _)
def yaa:=@List.length_map
def yab:=@List.getD_eq_getElem?_getD
def yac:=@List.getElem?_eq_getElem
def yad:=@List.getElem?_eq_some_iff
def yae:=@List.map_append
def yaf:=@List.getElem?_map
def yag:=@Nat.lt_of_lt_of_le
def yah:=@List.length_range
def yai:=@List.mem_range
def yaj:=@Nat.le_refl
def yak:=@Int.toNat_natCast
def yal:=@Bool.and_eq_true
def yam:=@PySem.Heap.get?_push_of_some
def yan:=@PySem.Heap.lt_size
def yao:=@List.length_append
def yap:=@List.filter_append
def yaq:=@List.mem_filter
def yar:=@List.range_succ
def yas:=@List.size_toArray
def yat:=@List.mem_of_getElem?
def yau:=@List.mem_map
def yav:=@List.take_of_length_le
def yaw:=@Nat.le_of_lt
def yax:=@List.mem_singleton
def yay:=@List.getElem?_range
def yaz:=@List.take_add_one
def yaA:=@List.mem_append
def yaB:=@List.length_filter_le
def yaC:=@Bool.false_eq_true
def yaD:=@List.mem_cons
def yaE:=@List.append_assoc
def yaF:=@PySem.Heap.get?_push_size
def yaG:=@Nat.pow_le_pow_right
def yaH:=@List.pairwise_append
def yaI:=@Bool.false_ne_true
def yaJ:=@PySem.PassesOwn.never
def yaK:=@List.getElem?_eq_none
def yaL:=@PyProof.Rows.callWith_type1
def yaM:=@List.map_congr_left
def yaN:=@List.filter_cons_of_pos
def yaO:=@List.filter_cons_of_neg
def yaP:=@List.mem_append_right
def yaQ:=@Nat.testBit_and
def yaR:=@Nat.ne_of_lt
def yaS:=@Nat.two_pow_pos
def yaT:=@List.mem_cons_self
def yaU:=@PySem.W.mg_none_of
def yaV:=@List.not_mem_nil
def yaW:=@Nat.le_trans
def yaX:=@List.map_map
def yaY:=@List.mem_cons_of_mem
def yaZ:=@List.length_take
def ya0:=@Array.toList_append
def ya1:=@Nat.lt_of_le_of_lt
def ya2:=@List.take_append_drop
def ya3:=@PySem.F.plainAttrs_list
def ya4:=@List.getElem?_append_left
def ya5:=@List.pairwise_iff_getElem
def ya6:=@Nat.mod_eq_of_lt
def ya7:=@List.foldl_append
def ya8:=@List.getElem?_append_right
def ya9:=@Nat.testBit_mul_two_pow
def yba:=@Nat.testBit_div_two_pow
def ybb:=@List.append_nil
def ybc:=@Nat.eq_of_testBit_eq
def ybd:=@Nat.testBit_two_pow_sub_one
def ybe:=@PySem.W.kia_one
def ybf:=@Nat.testBit_or
def ybg:=@Nat.lt_pow_two_of_testBit
def ybh:=@Nat.testBit_xor
def ybi:=@List.lookup_cons
def ybj:=@List.replicate_succ
def ybk:=@List.mem_map_of_mem
def ybl:=@Nat.mod_lt
def ybm:=@Nat.lt_irrefl
def ybn:=@List.reverse_reverse
def ybo:=@List.all_eq_true
def ybp:=@List.getElem_mem
def ybq:=@Nat.pow_succ
def ybr:=@List.pairwise_lt_range
def ybs:=@PySem.mem_of_lookup
def ybt:=@List.ext_getElem?
def ybu:=@List.length_zipWith
def ybv:=@List.map_cons
def ybw:=@Array.getElem?_eq_getElem
def ybx:=@Nat.lt_or_ge
def yby:=@PySem.F.slot_list_append
def ybz:=@PySem.F.type_list_append
def ybA:=@Nat.zero_le
def ybB:=@List.length_cons
def ybC:=@List.mem_iff_getElem
def ybD:=@List.mem_of_mem_take
def ybE:=@List.reverse_append
def ybF:=@PySem.F.slot_tuple_iterator_next
def ybG:=@Int.natCast_nonneg
def ybH:=@List.extract_eq_take_drop
def ybI:=@List.mem_append_left
def ybJ:=@List.getElem?_set_ne
def ybK:=@List.nodup_cons
def ybL:=@PyProof.Rows.slot_tuple_getitem
def ybM:=@List.reverse_cons
def ybN:=@Nat.add_mod_right
def ybO:=@Int.le_trans
def ybP:=@Int.toNat_of_nonneg
def ybQ:=@List.countP_cons
def ybR:=@List.nodup_range
def ybS:=@Bool.false_and
def ybT:=@Nat.testBit_lt_two_pow
def ybU:=@List.length_replicate
def ybV:=@Nat.add_zero
def ybW:=@Nat.min_eq_left
def ybX:=@List.perm_append_comm
def ybY:=@Int.le_of_lt
def ybZ:=@Int.le_refl
def yb0:=@PySem.F.slot_int_bit_length
def yb1:=@PySem.F.type_int_bit_length
def yb2:=@List.flatten_cons
def yb3:=@List.pairwise_map
def yb4:=@Bool.true_and
def yb5:=@List.length_dropLast
def yb6:=@Array.toList_extract
def yb7:=@Array.toList_reverse
def yb8:=@List.length_take_le'
def yb9:=@List.getLastD_eq_getLast?
def yca:=@List.take_length
def ycb:=@Array.length_toList
def ycc:=@Nat.testBit_two_pow
def ycd:=@List.getElem_of_mem
def yce:=@List.flatMap_append
def ycf:=@Nat.ne_of_gt
def ycg:=@List.filterMap_cons_none
def ych:=@Nat.min_self
def yci:=@PySem.F.plainAttrs_tuple
def ycj:=@PySem.Calls.spliced_cons
def yck:=@List.getElem?_replicate
def ycl:=@Bool.not_true
def ycm:=@Nat.add_sub_cancel
def ycn:=@List.getElem?_take
def yco:=@List.countP_cons_of_neg
def ycp:=@List.countP_cons_of_pos
def ycq:=@List.count_pos_iff
def ycr:=@List.count_eq_zero
def ycs:=@List.getElem?_set_self
def yct:=@List.Perm.append_right
def ycu:=@List.drop_eq_nil_of_le
def ycv:=@List.zipWith_cons_cons
def ycw:=@PySem.F.plainAttrs_int
def ycx:=@PySem.Calls.spliced_nil
def ycy:=@Nat.lt_trichotomy
def ycz:=@Bool.not_eq_true'
def ycA:=@Array.toList_push
def ycB:=@List.drop_drop
def ycC:=@List.length_singleton
def ycD:=@Nat.zero_add
def ycE:=@List.Perm.append_left
def ycF:=@List.getElem?_zipWith
def ycG:=@Ne.symm
def ycH:=@Nat.min_le_right
def ycI:=@List.range'_succ
def ycJ:=@PySem.F.slot_tuple_mul
def ycK:=@List.mem_reverse
def ycL:=@List.flatMap_map
def ycM:=@List.range_eq_range'
def ycN:=@List.Pairwise.filter
def ycO:=@List.nodup_iff_count
def ycP:=@Nat.pow_lt_pow_right
def ycQ:=@PySem.W.mg_of
def ycR:=@List.filterMap_cons
def ycS:=@List.foldl_cons
def ycT:=@PySem.F.slot_int_rmul
def ycU:=@Bool.eq_iff_iff
def ycV:=@List.length_nil
def ycW:=@Nat.mod_mod
def ycX:=@List.length_reverse
def ycY:=@Nat.one_le_two_pow
def ycZ:=@List.getElem_idxOf
def yc0:=@Bool.and_false
def yc1:=@List.take_take
def yc2:=@List.all_cons
def yc3:=@Bool.false_or
namespace L2
open PySem PySem.Spec PyProof.Rows
noncomputable abbrev Key:=Sum Int Str
noncomputable def zsK:Key -> Value -> Bool
 | .inl k,v=>Value.isInt k v
 | .inr x,v=>Value.isStrOf x v
noncomputable def keyH (w:World):Key -> Int
 | .inl k=>hashInt k
 | .inr x=>hashStr w x
def za4:∀ {k:Key} {v:Value},zsK k v=true -> (∃ i t,k=Sum.inl i /\ v=Value.int i t) \/ (∃ x t,k=Sum.inr x /\ v=Value.str x t)
 | .inl i,v,h=>by
  obtain ⟨t,e⟩:=Value.isInt_shape (k:=i) (v:=v) h;exact .inl ⟨i,t,rfl,e⟩
 | .inr x,v,h=>by
  obtain ⟨t,e⟩:=Value.isStrOf_shape (x:=x) (v:=v) h;exact .inr ⟨x,t,rfl,e⟩
def zsd (a b:Int):decide ((Sum.inl a:Key)=Sum.inl b)=(a == b):=by
 by_cases e:a=b
 ·subst e; simp
 ·have h:¬ (Sum.inl a:Key)=Sum.inl b:=λ q=>e (Sum.inl.inj q);rw [decide_eq_false h];exact (beq_eq_false_iff_ne.mpr e).symm
def zsO (a b:Str):decide ((Sum.inr a:Key)=Sum.inr b)=decide (a=b):=by
 by_cases e:a=b
 ·subst e; simp
 ·have h:¬ (Sum.inr a:Key)=Sum.inr b:=λ q=>e (Sum.inr.inj q);rw [decide_eq_false h,decide_eq_false e]
def zsu (a:Int) (b:Str):decide ((Sum.inl a:Key)=Sum.inr b)=false:=decide_eq_false (λ q=>nomatch q)
def zrP (a:Str) (b:Int):decide ((Sum.inr a:Key)=Sum.inl b)=false:=decide_eq_false (λ q=>nomatch q)
noncomputable def zn5 (prog:Program) (w:World):PySem.KeyKind prog w Key where
 is:=zsK
 hash:=keyH w
 inj:=λ v a b ha hb=>by
  rcases za4 ha with ⟨i,t,rfl,rfl⟩ | ⟨x,t,rfl,rfl⟩
  ·rcases za4 hb with ⟨j, u, rfl, e⟩ | ⟨y, u, rfl, e⟩
   ·injection e with e1 _; rw [e1]
   ·exact nomatch e
  ·rcases za4 hb with ⟨j, u, rfl, e⟩ | ⟨y, u, rfl, e⟩
   ·exact nomatch e
   ·injection e with e1 _; rw [e1]
 byValue:=λ k v h=>by
  rcases za4 h with ⟨i,t,rfl,rfl⟩ | ⟨x,t,rfl,rfl⟩ <;> rfl
 pyHash:=λ hv h=>by
  rcases za4 hv with ⟨i,t,rfl,rfl⟩ | ⟨x,t,rfl,rfl⟩
  ·exact wpAny_pyHash_int h
  ·exact wpAny_pyHash_str h
 eqBool:=λ hu hv h=>by
  rcases za4 hu with ⟨i,t,rfl,rfl⟩ | ⟨x,t,rfl,rfl⟩
  ·rcases za4 hv with ⟨j, u, rfl, rfl⟩ | ⟨y, u, rfl, rfl⟩
   ·rw [zsd] at h; exact wpAny_eqBool_int h
   ·rw [zsu] at h; exact SeqAt.EqAt.int_str i t y u _ _ _ _ h
  ·rcases za4 hv with ⟨j, u, rfl, rfl⟩ | ⟨y, u, rfl, rfl⟩
   ·rw [zrP] at h; exact SeqAt.EqAt.str_int x t j u _ _ _ _ h
   ·rw [zsO] at h; exact wpAny_eqBool_str h
 «strs»:=λ k x t v h=>by
  rcases za4 h with ⟨i,u,rfl,e⟩ | ⟨y,u,rfl,e⟩
  ·exact nomatch e
  ·injection e with e1 _;subst e1;cases v <;> rfl
inductive V where
 | non | bl (b:Bool) | int (i:Int) | str (x:Str) | byt (b:Array UInt8) | flt (b:UInt64) | ref (a:Addr) | ty (n:String)
 deriving DecidableEq
noncomputable def RelV:V -> Value -> Prop
 | .non,u=>u=Value.none
 | .bl b,u=>u=Value.bool b
 | .int i,u=>∃ t,u=Value.int i t
 | .str x,u=>∃ t,u=Value.str x t
 | .byt b,u=>∃ t,u=Value.bytes b t
 | .flt b,u=>∃ t,u=Value.float b t
 | .ref a,u=>u=Value.ref a
 | .ty n,u=>u=Value.type n
noncomputable abbrev Vals:List V -> List Value -> Prop:=Paired RelV
def Vals.length {xs:List V} {us:List Value} (r:Vals xs us):xs.length=us.length:=Paired.length r
def Vals.get:∀ {xs:List V} {us:List Value} {i:Nat} {x:V},Vals xs us -> xs[i]?=some x -> ∃ u,us[i]?=some u /\ RelV x u
 | _,_,_,_,.nil,e=>by simp at e
 | _,_,0,_,.cons r _,e=>by simp at e; subst e; exact ⟨_,rfl,r⟩
 | _,_,i + 1,x,.cons _ t,e=>by
  obtain ⟨u,h1,h2⟩:=Vals.get (i:=i) (x:=x) t (by simpa using e);exact ⟨u,by simpa using h1,h2⟩
def Vals.set {x:V} {u:Value} (r:RelV x u):∀ {xs:List V} {us:List Value} (i:Nat),Vals xs us -> Vals (xs.set i x) (us.set i u)
 | _,_,_,.nil=>.nil
 | _,_,0,.cons _ t=>.cons r t
 | _,_,i + 1,.cons q t=>.cons q (Vals.set r i t)
def Vals.append:∀ {xs ys:List V} {us ws:List Value},Vals xs us -> Vals ys ws -> Vals (xs ++ ys) (us ++ ws)
 | _,_,_,_,.nil,s=>s
 | _,_,_,_,.cons r t,s=>.cons r (Vals.append t s)
def Vals.take:∀ {xs:List V} {us:List Value} (n:Nat),Vals xs us -> Vals (xs.take n) (us.take n)
 | _,_,0,_=>.nil
 | _,_,_ + 1,.nil=>.nil
 | _,_,n + 1,.cons r t=>.cons r (Vals.take n t)
def Vals.drop:∀ {xs:List V} {us:List Value} (n:Nat),Vals xs us -> Vals (xs.drop n) (us.drop n)
 | _,_,0,r=>r
 | _,_,_ + 1,.nil=>.nil
 | _,_,n + 1,.cons _ t=>Vals.drop n t
noncomputable def RelO:Option V -> Option Value -> Prop
 | some v,some u=>RelV v u
 | none,none=>True
 | _,_=>False
noncomputable def KV {κ:Type}:List (κ × V) -> List (κ × Value) -> Prop:=Paired λ (p:κ × V) (q:κ × Value)=>p.1=q.1 /\ RelV p.2 q.2
noncomputable def kV:Key -> V
 | .inl i=>.int i
 | .inr x=>.str x
inductive HO where
 /-- a list -/
 | lst (xs:List V)
 /-- a tuple (never changes) -/
 | tup (xs:List V)
 /-- a dict whose keys are ints and texts; one whose keys are tuples of ints and texts (the empty one is both) -/
 | dK (kvs:List (Key × V)) | dT (kvs:List (List Key × V))
 /-- a set of ints: its members,its size -/
 | set (S:Int -> Bool) (n:Nat)
 /-- an instance of the class at C,its dict at dx,its attributes -/
 | ins (C dx:Addr) (fs:List (Str × V))
 /-- the dict of the instance at x -/
 | own (x:Addr)
 /-- the dict of an exception -/
 | xd (fs:List (Str × V))
 /-- a bound method,f of x -/
 | met (f x:Addr)
 /-- a range object lo,lo + 1,.. below hi -/
 | rng (lo hi:Int)
 /-- a thing that is known to the object (the script; a dict while a loop walks it): read,never written while it is so -/
 | frz (o:Obj) (u:HO)
 /-- a code object's table -/
 | tbl (ps:Array Value)
 /-- any other thing,by what is true of its one object (a def of one's own: SetO a S n:=HO.ext λ h=>..) -/
 | ext (φ:Heap -> Prop)
noncomputable abbrev Hp:=Addr -> Option HO
noncomputable def upd (H:Hp) (a:Addr) (o:HO):Hp:=λ b=>if b=a then some o else H b
def zai {H:Hp} {a:Addr} {o:HO}:upd H a o a=some o:=by unfold upd; rw [if_pos rfl]
def zaA {H:Hp} {a b:Addr} {o:HO} (h:b ≠ a):upd H a o b=H b:=by unfold upd; rw [if_neg h]
def zoP {H:Hp} {a:Addr} {o u:HO}:upd (upd H a o) a u=upd H a u:=by
 funext b; unfold upd; split <;> rfl
def zaC {H:Hp} {a b:Addr} {o:HO} (h:H a=some o) (h':H b=none):a ≠ b:=by
 intro e; subst e; rw [h] at h'; cases h'
noncomputable def zbB (h:Heap) (a:Addr) (items:Array Value):Prop:=∃ o,h.get? a=some o /\ o.cls=.type "tuple" /\ o.dict=none /\ ∃ n,o.data=.seq items n
def zbB.tup {h:Heap} {a:Addr} {items:Array Value} (x:zbB h a items):IsTup h a items:=by
 obtain ⟨o,e,c,_,n⟩:=x;exact ⟨o,e,c,n⟩
def zbB.lt {h:Heap} {a:Addr} {items:Array Value} (x:zbB h a items):a < h.objs.size:=x.tup.lt
def zbB.new (h:Heap) (items:Array Value):zbB (h.push { cls:=.type "tuple",data:=.seq items }) h.objs.size items:=⟨_,yaF _ rfl,rfl,rfl,_,rfl⟩
section
variable (P:Program) (w:World)
noncomputable def zda (H:Hp) (h:Heap) (a:Addr):HO -> Prop
  | .lst xs=>xs.length <= sizeLine /\ ∃ (its:List Value) (n:Nat),Vals xs its /\ h.get? a=some { cls:=.type "list",data:=.seq its.toArray n }
  | .tup xs=>xs.length <= sizeLine /\ ∃ its:List Value,Vals xs its /\ zbB h a its.toArray
  | .dK kvs=>kvs.length <= sizeLine /\ (a == sysModules)=false /\ ∃ vs,KV kvs vs /\ h.DictOf (zn5 P w) a vs
  | .dT kvs=>kvs.length <= sizeLine /\ (a == sysModules)=false /\ ∃ xs:List (List Key × Addr × Value),
      Paired (λ (p:List Key × V) (q:List Key × Addr × Value)=>p.1=q.1 /\ H q.2.1=some (.tup (p.1.map kV)) /\ RelV p.2 q.2.2) kvs xs /\
      ∃ o es ep,h.get? a=some o /\ o.ExactDict /\ o.data=.dict es ep /\ es.toList=xs.map (entryOfKey (tupleKind (zn5 P w))) /\ (xs.map (·.1)).Nodup
  | .set S n=>h.SetOf (intKind P w) a S n
  | .ins C dx fs=>H dx=some (.own a) /\ fs.length <= 1000 /\ dx ≠ a /\ h.get? a=some (PySem.W.instObj C dx) /\
      ∃ mA,h.Ns1 dx mA /\ (∀ f,RelO (fs.lookup f) (mA f)) /\ PySem.Within mA (fs.map (·.1))
  | .own _=>∃ o,h.get? a=some o
  | .xd fs=>∃ mA,h.Ns1 a mA /\ ∀ f,RelO (fs.lookup f) (mA f)
  | .rng lo hi=>∃ t u v,h.get? a=some { cls:=.type "range",data:=.fields #[.int lo t,.int hi u,.int 1 v] }
  | .frz o u=>h.get? a=some o /\ zda H h a u
  | .tbl ps=>h.get? a=some { cls:=.none,data:=.fields ps }
  | .met f x=>h.get? a=some (PySem.W.methodObj (.ref f) (.ref x))
  | .ext φ=>φ h /\ (∃ o,h.get? a=some o) /\ ∀ h1 h2:Heap,φ h1 -> (∀ o,h1.get? a=some o -> h2.get? a=some o) -> φ h2
noncomputable def HOk (H:Hp) (h:Heap):Prop:=∀ a o,H a=some o -> zda P w H h a o
end
section
variable {P:Program} {w:World} {H H':Hp} {h h':Heap} {a:Addr} {o:HO}
def zda.lt (x:zda P w H h a o):a < h.objs.size:=by
 cases o with
 | lst xs=>obtain ⟨_,_,_,_,e⟩:=x; exact yan e
 | tup xs=>obtain ⟨_,_,_,p⟩:=x; exact p.lt
 | dK kvs=>obtain ⟨_,_,_,_,o,_,_,e,_⟩:=x; exact yan e
 | dT kvs=>obtain ⟨_,_,_,_,o,_,_,e,_⟩:=x; exact yan e
 | set S n=>obtain ⟨o,_,_,_,e,_⟩:=x; exact yan e
 | ins C dx fs=>obtain ⟨_,_,_,e,_⟩:=x; exact yan e
 | own y=>obtain ⟨_,e⟩:=x; exact yan e
 | xd fs=>obtain ⟨_,⟨_,_,_,e,_⟩,_⟩:=x; exact yan e
 | rng lo hi=>obtain ⟨_,_,_,e⟩:=x; exact yan e
 | frz ob u=>obtain ⟨e,_⟩:=x; exact yan e
 | tbl ps=>exact yan (show h.get? a=some _ from x)
 | met f y=>exact yan (show h.get? a=some _ from x)
 | ext φ=>obtain ⟨_,⟨_,e⟩,_⟩:=x; exact yan e
def Paired.mapP {α β:Type} {F G:α -> β -> Prop}:∀ {l₁:List α} {l₂:List β},Paired F l₁ l₂ -> (∀ a b,F a b -> G a b) -> Paired G l₁ l₂
 | _,_,.nil,_=>.nil
 | _,_,.cons r t,f=>.cons (f _ _ r) (Paired.mapP t f)
def zda.stay (x:zda P w H h a o) (k:∀ b u,(b=a \/ H b=some (.own a)) -> h.get? b=some u -> h'.get? b=some u)
  (ho:∀ b,H b=some (.own a) -> H' b=some (.own a)) (ht:∀ b xs,H b=some (.tup xs) -> H' b=some (.tup xs)):zda P w H' h' a o:=by
 induction o with
 | lst xs=>obtain ⟨z,its,n,r,e⟩:=x; exact ⟨z,its,n,r,k _ _ (.inl rfl) e⟩
 | tup xs=>obtain ⟨z,its,r,ob,e,c⟩:=x; exact ⟨z,its,r,ob,k _ _ (.inl rfl) e,c⟩
 | dK kvs=>obtain ⟨z,y,vs,r,ob,es,ep,e,c⟩:=x; exact ⟨z,y,vs,r,ob,es,ep,k _ _ (.inl rfl) e,c⟩
 | dT kvs=>
  obtain ⟨z,y,xs,r,ob,es,ep,e,c⟩:=x;exact ⟨z,y,xs,Paired.mapP r λ p q z=>⟨z.1,ht _ _ z.2.1,z.2.2⟩,ob,es,ep,k _ _ (.inl rfl) e,c⟩
 | set S n=>obtain ⟨ob,es,ep,t,e,c⟩:=x; exact ⟨ob,es,ep,t,k _ _ (.inl rfl) e,c⟩
 | ins C dx fs=>
  obtain ⟨d,z,ne,e,mA,⟨od,es,ep,e2,c⟩,r⟩:=x;exact ⟨ho _ d,z,ne,k _ _ (.inl rfl) e,mA,⟨od,es,ep,k _ _ (.inr d) e2,c⟩,r⟩
 | own y=>obtain ⟨ob,e⟩:=x; exact ⟨ob,k _ _ (.inl rfl) e⟩
 | xd fs=>obtain ⟨mA,⟨od,es,ep,e,c⟩,r⟩:=x; exact ⟨mA,⟨od,es,ep,k _ _ (.inl rfl) e,c⟩,r⟩
 | rng lo hi=>obtain ⟨t,u,v,e⟩:=x; exact ⟨t,u,v,k _ _ (.inl rfl) e⟩
 | frz ob u ih=>obtain ⟨e,q⟩:=x; exact ⟨k _ _ (.inl rfl) e,ih q⟩
 | tbl ps=>
  have e:h.get? a=some { cls:=.none,data:=.fields ps }:=x;show h'.get? a=some { cls:=.none,data:=.fields ps };exact k a _ (.inl rfl) e
 | met f y=>
  have e:h.get? a=some (PySem.W.methodObj (.ref f) (.ref y)):=x;show h'.get? a=some (PySem.W.methodObj (.ref f) (.ref y));exact k a _ (.inl rfl) e
 | ext φ=>obtain ⟨p,⟨o,e⟩,st⟩:=x; exact ⟨st _ _ p λ o q=>k _ _ (.inl rfl) q,⟨o,k _ _ (.inl rfl) e⟩,st⟩
def HOk.lt (x:HOk P w H h) (e:H a=some o):a < h.objs.size:=(x a o e).lt
def HOk.fresh (x:HOk P w H h) (e:h.objs.size <= a):H a=none:=by
 cases q:H a with
 | none=>rfl
 | some u=>exact absurd (yag (x.lt q) e) (ybm _)
def HOk.kept (x:HOk P w H h) (k:∀ b u,h.get? b=some u -> h'.get? b=some u):HOk P w H h':=λ a o e=>
 (x a o e).stay (λ b u _ q=>k b u q) (λ _ q=>q) λ _ _ q=>q
def HOk.laid (x:HOk P w H h) (k:∀ b u,h.get? b=some u -> h'.get? b=some u) (hp:h.objs.size <= a) (new:zda P w (upd H a o) h' a o):HOk P w (upd H a o) h':=λ b u e=>by
 have hn:=x.fresh hp;by_cases hb:b=a
 ·subst hb; rw [zai] at e; cases e; exact new
 ·rw [zaA hb] at e;exact (x b u e).stay (λ c v _ q=>k c v q) (λ c q=>by rw [zaA (zaC q hn)]; exact q) λ c xs q=>by rw [zaA (zaC q hn)]; exact q
end
noncomputable def Rd (H:Hp) (a:Addr) (u:HO):Prop:=H a=some u \/ ∃ o,H a=some (.frz o u)
def Rd.ok {P:Program} {w:World} {H:Hp} {h:Heap} {a:Addr} {u:HO} (r:Rd H a u) (x:HOk P w H h):zda P w H h a u:=by
 rcases r with r | ⟨o,r⟩
 ·exact x a u r
 ·obtain ⟨_,q⟩:=x a _ r;exact q
noncomputable def Mut:Option HO -> Prop
 | some (.lst _)=>True
 | some (.dK _)=>True
 | some (.dT _)=>True
 | some (.set _ _)=>True
 | some (.ins _ _ _)=>True
 | some (.ext _)=>True
 | _=>False
section
variable {P:Program} {w:World} {H:Hp} {h h':Heap} {x e:Addr} {o':HO}
def HOk.write (ok:HOk P w H h) (mu:Mut (H x)) (he:e=x \/ H e=some (.own x)) (k:∀ b u,b ≠ e -> h.get? b=some u -> h'.get? b=some u) (heo:∃ u,h'.get? e=some u)
  (new:zda P w (upd H x o') h' x o'):HOk P w (upd H x o') h':=λ b u q=>by
 have nown:∀ c y,H c=some (.own y) -> c ≠ x:=λ c y r z=>by subst z; rw [r] at mu; exact mu
 have ntup:∀ c xs,H c=some (.tup xs) -> c ≠ x:=λ c xs r z=>by subst z; rw [r] at mu; exact mu
 by_cases hb:b=x
 ·subst hb; rw [zai] at q; cases q; exact new
 ·rw [zaA hb] at q;by_cases hbe : b = e
  ·have q':H b=some (.own x):=by
    rcases he with z | z
    ·exact absurd (hbe.trans z) hb
    ·rw [hbe]; exact z
   rw [q] at q'; cases q';obtain ⟨v,hv⟩:=heo;exact ⟨v,by rw [hbe]; exact hv⟩
  ·refine (ok b u q).stay (fun c v hc r => k c v ?_ r) (fun c r => by rw [zaA (nown c b r)]; exact r) fun c xs r => by rw [zaA (ntup c xs r)]; exact r
   rcases hc with rfl | hc
   ·exact hbe
   ·rintro rfl;rcases he with z | z
    ·exact nown c b hc z
    ·rw [hc] at z; cases z; exact hb rfl
end
structure Un (fs ex:List Addr) (H H':Hp) (h h':Heap):Prop where
 keep:∀ b o,h.get? b=some o -> H b=none -> b ∉ fs -> b ∉ ex -> h'.get? b=some o
 slot:∀ b o,h.get? b=some o -> H b=none -> b ∈ fs -> b ∉ ex -> ∃ sl,h'.get? b=some { o with slots:=sl }
 free:∀ b o,h.get? b=some o -> H b=none -> b ∉ ex -> H' b=none
 there:∀ b o,h.get? b=some o -> b ∉ ex -> ∃ o',h'.get? b=some o'
 tups:∀ b xs,H b=some (.tup xs) -> H' b=some (.tup xs)
 frzs:∀ b o u,H b=some (.frz o u) -> H' b=some (.frz o u)
 tbls:∀ b ps,H b=some (.tbl ps) -> ∃ more,H' b=some (.tbl (ps ++ more))
section
variable {fs fs' ex ex':List Addr} {H H1 H2:Hp} {h h1 h2 h':Heap} {a x e:Addr} {o:HO}
def Un.any (u:Un fs ex H H1 h h1) {b:Addr} {ob:Obj} (q:h.get? b=some ob) (n:H b=none) (hx:b ∉ ex):∃ sl,h1.get? b=some { ob with slots:=sl }:=by
 by_cases hb:b ∈ fs
 ·exact u.slot b ob q n hb hx
 ·exact ⟨ob.slots,u.keep b ob q n hb hx⟩
def Un.kept (k:∀ b u,h.get? b=some u -> h'.get? b=some u):Un fs ex H H h h':=
 ⟨λ b ob q _ _ _=>k b ob q,λ b ob q _ _ _=>⟨ob.slots,k b ob q⟩,λ _ _ _ n _=>n,λ b ob q _=>⟨ob,k b ob q⟩,λ _ _ q=>q,λ _ _ _ q=>q,λ _ ps q=>⟨#[],by rw [q]; simp⟩⟩
def Un.refl:Un fs ex H H h h:=Un.kept λ _ _ q=>q
def Un.laid (k:∀ b u,h.get? b=some u -> h'.get? b=some u) (hp:h.objs.size <= a) (hn:H a=none):Un fs ex H (upd H a o) h h' where
 keep:=λ b u q _ _ _=>k b u q
 slot:=λ b u q _ _ _=>⟨u.slots,k b u q⟩
 free:=λ b u q n _=>by rw [zaA (yaR (yag (yan q) hp))]; exact n
 there:=λ b u q _=>⟨u,k b u q⟩
 tups:=λ b xs q=>by rw [zaA (zaC q hn)]; exact q
 frzs:=λ b u xs q=>by rw [zaA (zaC q hn)]; exact q
 tbls:=λ b ps q=>⟨#[],by rw [zaA (zaC q hn),q]; simp⟩
def Un.write (mu:Mut (H x)) (he:e=x \/ H e=some (.own x)) (k:∀ b u,b ≠ e -> h.get? b=some u -> h'.get? b=some u) (heo:∃ u,h'.get? e=some u):Un fs ex H (upd H x o) h h':=by
 have hx:∀ b,H b=none -> b ≠ x:=λ b n z=>by subst z; rw [n] at mu; exact mu
 have hb:∀ b,H b=none -> b ≠ e:=λ b n z=>by
  subst z;rcases he with r | r
  ·exact hx b n r
  ·rw [n] at r; cases r
 have hm:∀ b u,H b=some u -> ¬ Mut (some u) -> b ≠ x:=λ b u q nm z=>by subst z; rw [q] at mu; exact nm mu
 refine ⟨λ b u q n _ _=>k b u (hb b n) q,λ b u q n _ _=>⟨u.slots,k b u (hb b n) q⟩,λ b u q n _=>by rw [zaA (hx b n)]; exact n,λ b u q _=>?_,
  λ b xs q=>by rw [zaA (hm b _ q λ z=>z)]; exact q,λ b u xs q=>by rw [zaA (hm b _ q λ z=>z)]; exact q,λ b ps q=>⟨#[],by rw [zaA (hm b _ q λ z=>z),q]; simp⟩⟩
 by_cases hbe:b=e
 ·subst hbe; exact heo
 ·exact ⟨u,k b u hbe q⟩
end
noncomputable def trk (h:Heap) (H:Hp):List Addr:=(List.range h.objs.size).filter λ a=>(H a).isSome
noncomputable def hidT (h:Heap) (H:Hp):Heap:=PySem.W.hideAll h (trk h H)
def zor (h:Heap) (H:Hp):(hidT h H).objs.size=h.objs.size:=PySem.W.hideAll_size _ _
def zpu {h:Heap} {H:Hp} {b:Addr} {o:Obj} (e:h.get? b=some o) (n:H b=none):(hidT h H).get? b=some o:=
 PySem.W.hideAll_get _ e λ hm=>by
  have q:(H b).isSome=true:=(yaq.mp hm).2;rw [n] at q; simp at q
def zqH {h:Heap} {H:Hp} {b:Addr} {o:Obj} (e:(hidT h H).get? b=some o):h.get? b=some o /\ H b=none:=by
 have e':h.get? b=some o:=PySem.W.of_hideAll (trk h H) e;refine ⟨e',?_⟩;cases q:H b with
 | none=>rfl
 | some x=>
  have hm:b ∈ trk h H:=yaq.mpr ⟨yai.mpr (yan e'),by simp [q]⟩;have z:(hidT h H).get? b=none:=PySem.W.hideAll_none (trk h H) hm;rw [z] at e; cases e
noncomputable def zrj (g h:Heap) (L:Addr):List (Addr × Obj):=(List.range h.objs.size).filterMap λ a=>if a=L \/ (g.get? a).isSome=true then none else (h.get? a).map λ o=>(a,o)
noncomputable def rest (g h:Heap) (L d:Addr):List (Addr × Obj):=(zrj g h L).filter λ p=>decide (p.1 ≠ d)
structure Mod (K:PySem.W.Frag) (mg:Str -> Option Value) (base:Heap):Prop where
 kin:K.In base
 glob:base.Ns mainGlobals mg
 blt:∃ mb,base.Ns builtinsNs mb /\ ∀ x:Str,x ≠ "__name__" -> mb x=bootBuiltins x
 nolimit:base.NoLimit
structure Cx where
 prog:Program
 w:World
 K:PySem.W.Frag
 mg:Str -> Option Value
 base:Heap
 A:Around
 N:List Str
 s₀:Shared
 H₀:Hp
 env:Env
 outer:List Env
 stack:List Env
 ex:List Addr
 fn:Str -> Bool
 calm:Bool
 pn:List (Addr × Obj)
 xe:Value -> Shared -> Prop
noncomputable def frs (l:List Env):List Addr:=l.filterMap (·.frame)
noncomputable abbrev Cx.fs (X:Cx):List Addr:=frs X.outer
noncomputable def Vis (sc:Scope) (x:Str):Prop:=sc.names.lookup x=some .local \/ sc.names.lookup x=some .cell \/ sc.names.lookup x=some .free
noncomputable def Loc (sc:Scope) (x:Str):Prop:=sc.names.lookup x=some .local \/ sc.names.lookup x=some .cell
noncomputable def Look (env:Env) (h:Heap) (m:Str -> Option Value) (x:Str) (u:Value):Prop:=
 (env.kindOf x=some .local /\ m x=some u) \/ ((env.kindOf x=some .cell \/ env.kindOf x=some .free) /\ ∃ c,env.cells.lookup x=some c /\ h.IsCell c (some u))
structure Cx.Ok (X:Cx):Prop where
 mod:Mod X.K X.mg X.base
 kind:X.env.scope.kind=.function
 glob:X.env.globals=mainGlobals
 blt:X.env.builtins=builtinsNs
 above:X.s₀.heap.objs.size <= X.env.locals
 inj:∀ x y c,X.env.cells.lookup x=some c -> X.env.cells.lookup y=some c -> x=y
 has:∀ x,(X.env.kindOf x=some .cell \/ X.env.kindOf x=some .free) -> ∃ c,X.env.cells.lookup x=some c
 cab:∀ x c,X.fn x=true -> X.env.cells.lookup x=some c -> X.s₀.heap.objs.size <= c
 hd:X.calm=true -> X.A.handled=none
 frames:X.A.frames=some X.stack
 stk:X.stack=X.outer \/ (X.stack=X.env :: X.outer /\ X.env.frame=some X.env.locals)
 exf:∀ b ∈ X.ex,b ≠ X.env.locals /\ ∀ x c,X.env.cells.lookup x=some c -> c ≠ b
 bs:∀ b o,X.base.get? b=some o -> X.s₀.heap.get? b=some o /\ X.H₀ b=none
 bsz:X.base.objs.size <= X.s₀.heap.objs.size
 noex:∀ b o,X.base.get? b=some o -> b ∉ X.ex
 exfs:∀ b ∈ X.ex,b ∉ X.fs
 funs:X.s₀.heap.FunFrames X.base X.outer
 frf:∀ b ∈ X.fs,X.H₀ b=none
structure Inv (X:Cx) (pins:List (Addr × Obj)) (σ:List (Option V)) (H:Hp) (s:Shared):Prop where
 ok:X.Ok
 os:s.os=X.s₀.os
 bare:AllBare s.gens
 base:Un X.fs X.ex X.H₀ H X.s₀.heap s.heap
 loc:∃ m,s.heap.Ns X.env.locals m /\ ∀ (i:Nat) (x:Str) (v:V),X.N[i]?=some x -> σ[i]?=some (some v) -> Vis X.env.scope x -> ∃ u,RelV v u /\ Look X.env s.heap m x u
 cell:∀ x c,X.env.cells.lookup x=some c -> ∃ v,s.heap.IsCell c v
 free:H X.env.locals=none
 freeC:∀ x c,X.env.cells.lookup x=some c -> H c=none
 pin:∀ p ∈ X.pn ++ pins,s.heap.get? p.1=some p.2 /\ H p.1=none /\ p.1 ≠ X.env.locals /\ p.1 ∉ X.fs /\ ∀ v,p.2.data ≠ .cell v
 hok:HOk X.prog X.w H s.heap
 len:σ.length=X.N.length
section
variable {X:Cx} {pins:List (Addr × Obj)} {σ:List (Option V)} {H H':Hp} {s:Shared} {h':Heap}
def Cx.Ok.nofr (ok:X.Ok) {b:Addr} {o:Obj} (e:X.base.get? b=some o):b ∉ X.fs:=λ hb=>by
 have:=(ok.funs.mem hb).1;rw [e] at this; cases this
def Inv.bs (I:Inv X pins σ H s):∀ b o,X.base.get? b=some o -> s.heap.get? b=some o /\ H b=none:=λ b o e=>
 ⟨I.base.keep b o (I.ok.bs b o e).1 (I.ok.bs b o e).2 (I.ok.nofr e) (I.ok.noex b o e),I.base.free b o (I.ok.bs b o e).1 (I.ok.bs b o e).2 (I.ok.noex b o e)⟩
def Inv.bk (I:Inv X pins σ H s):∀ b o,X.base.get? b=some o -> s.heap.get? b=some o:=λ b o e=>(I.bs b o e).1
def Inv.mod (I:Inv X pins σ H s):Mod X.K X.mg X.base:=I.ok.mod
def Inv.kIn (I:Inv X pins σ H s):X.K.In s.heap:=I.ok.mod.kin.keeps I.bk
def Inv.lt (I:Inv X pins σ H s):X.env.locals < s.heap.objs.size:=let ⟨_,hn,_⟩:=I.loc; hn.lt
def Inv.sz (I:Inv X pins σ H s):X.s₀.heap.objs.size <= s.heap.objs.size:=yaW I.ok.above (yaw I.lt)
def Inv.nofs (I:Inv X pins σ H s) {a:Addr} (h:s.heap.objs.size <= a):a ∉ X.fs:=λ hb=>by
 obtain ⟨_,o,ho,_⟩:=I.ok.funs.mem hb;exact absurd (yag (yan ho) (yaW I.sz h)) (ybm _)
def Inv.cne (I:Inv X pins σ H s):∀ x c,X.env.cells.lookup x=some c -> c ≠ X.env.locals:=λ x c e z=>by
 obtain ⟨v,o,ho,hd⟩:=I.cell x c e;obtain ⟨m,⟨o',es,ep,ho',hd',_⟩,_⟩:=I.loc;rw [z,ho'] at ho; cases ho; rw [hd'] at hd; cases hd
def Inv.funs (I:Inv X pins σ H s):s.heap.FunFrames X.base X.outer:=by
 have all:∀ (l:List Env),(∀ b ∈ frs l,b ∈ X.fs) -> X.s₀.heap.FunFrames X.base l -> s.heap.FunFrames X.base l:=by
  intro l
  induction l with
  | nil=>intro _ _; trivial
  | cons env r ih=>
   intro hs hl;obtain ⟨hk,⟨L,o,hf,hn,ho,hd⟩,hr⟩:=hl;have hL:L ∈ X.fs:=hs L (by unfold frs; rw [ycR,hf]; exact yaT);obtain ⟨sl,e⟩:=I.base.slot L o ho (I.ok.frf L hL) hL λ z=>I.ok.exfs L z hL;exact ⟨hk,⟨L,_,hf,hn,e,hd⟩,ih (λ b hb=>hs b (by unfold frs; rw [ycR,hf]; exact yaY _ hb)) hr⟩
 exact all X.outer (λ _ hb=>hb) I.ok.funs
def Inv.stack (I:Inv X pins σ H s):s.heap.FunFrames X.base X.stack:=by
 rcases I.ok.stk with e | ⟨e,hf⟩
 ·rw [e]; exact I.funs
 ·rw [e];obtain ⟨m,hn,_⟩:=I.loc;refine .cons (by rw [I.ok.kind]; decide) hf hn ?_ I.funs;exact Heap.get?_none_of_le (yaW I.ok.bsz I.ok.above)
def Inv.stkSub (I:Inv X pins σ H s):∀ b ∈ frs X.stack,b ∈ X.env.locals :: X.fs:=λ b hb=>by
 rcases I.ok.stk with e | ⟨e,hf⟩
 ·rw [e] at hb; exact yaY _ hb
 ·rw [e] at hb;unfold frs at hb;rw [ycR,hf] at hb;exact hb
def Inv.stkFree (I:Inv X pins σ H s):∀ b ∈ frs X.stack,H b=none:=λ b hb=>by
 rcases yaD.mp (I.stkSub b hb) with e | hb
 ·rw [e]; exact I.free
 ·obtain ⟨_,o,ho,_⟩:=I.ok.funs.mem hb;exact I.base.free b o ho (I.ok.frf b hb) λ z=>I.ok.exfs b z hb
def Inv.step {g':Array GenState} {t':Nat} {d':Drawn} {ch:List Addr} (I:Inv X pins σ H s)
  (hch:∀ b ∈ ch,(b ∈ X.ex \/ X.s₀.heap.objs.size <= b) /\ b ≠ X.env.locals /\ (∀ x c,X.env.cells.lookup x=some c -> c ≠ b) /\ ∀ p ∈ X.pn ++ pins,p.1 ≠ b)
  (keep:∀ b o,b ≠ X.env.locals -> b ∉ X.fs -> b ∉ ch -> s.heap.get? b=some o -> H b=none -> h'.get? b=some o)
  (slot:∀ b o,b ≠ X.env.locals -> b ∈ X.fs -> b ∉ ch -> s.heap.get? b=some o -> H b=none -> ∃ sl,h'.get? b=some { o with slots:=sl }) (free:∀ b o,b ∉ ch -> s.heap.get? b=some o -> H b=none -> H' b=none)
  (there:∀ b o,b ∉ ch -> s.heap.get? b=some o -> ∃ o',h'.get? b=some o')
  (tups:∀ b xs,H b=some (.tup xs) -> H' b=some (.tup xs)) (frzs:∀ b o u,H b=some (.frz o u) -> H' b=some (.frz o u)) (tbls:∀ b ps,H b=some (.tbl ps) -> ∃ more,H' b=some (.tbl (ps ++ more)))
  (ns:∀ m,s.heap.Ns X.env.locals m -> h'.Ns X.env.locals m) (hok:HOk X.prog X.w H' h') (hg:AllBare g') :
  Inv X pins σ H' { s with heap:=h',gens:=g',drawn:=d',toks:=t' }:=by
 have neL:∀ b o,X.s₀.heap.get? b=some o -> b ≠ X.env.locals:=λ b o e=>yaR (yag (yan e) I.ok.above)
 have neC:∀ b o,X.s₀.heap.get? b=some o -> b ∉ X.ex -> b ∉ ch:=λ b o e hx hb=>by
  rcases (hch b hb).1 with z | z
  ·exact hx z
  ·exact absurd (yag (yan e) z) (ybm _)
 have cellK:∀ x c,X.env.cells.lookup x=some c -> ∀ v,s.heap.IsCell c v -> h'.IsCell c v:=λ x c e v ⟨o,ho,hd⟩=>by
  have nch:c ∉ ch:=λ z=>(hch c z).2.2.1 x c e rfl;by_cases hc:c ∈ X.fs
  ·obtain ⟨sl,q⟩:=slot c o (I.cne x c e) hc nch ho (I.freeC x c e);exact ⟨_,q,hd⟩
  ·exact ⟨o,keep c o (I.cne x c e) hc nch ho (I.freeC x c e),hd⟩
 refine ⟨I.ok,I.os,hg,⟨λ b o e n hb hx=>?_,λ b o e n hb hx=>?_,λ b o e n hx=>?_,λ b o e hx=>?_,λ b xs e=>tups b xs (I.base.tups b xs e),λ b o xs e=>frzs b o xs (I.base.frzs b o xs e),λ b ps e=>?_⟩,?_,λ x c e=>?_,?_,λ x c e=>?_,λ p hp=>?_,hok,I.len⟩
 ·exact keep b o (neL b o e) hb (neC b o e hx) (I.base.keep b o e n hb hx) (I.base.free b o e n hx)
 ·obtain ⟨sl,e1⟩:=I.base.slot b o e n hb hx;obtain ⟨sl',e2⟩:=slot b _ (neL b o e) hb (neC b o e hx) e1 (I.base.free b o e n hx);exact ⟨sl',e2⟩
 ·obtain ⟨o',e1⟩:=I.base.there b o e hx;exact free b o' (neC b o e hx) e1 (I.base.free b o e n hx)
 ·obtain ⟨o',e1⟩:=I.base.there b o e hx;exact there b o' (neC b o e hx) e1
 ·obtain ⟨m1,e1⟩:=I.base.tbls b ps e;obtain ⟨m2,e2⟩:=tbls b _ e1;exact ⟨m1 ++ m2,by rw [e2,Array.append_assoc]⟩
 ·obtain ⟨m, hn, hl⟩ := I.loc;refine ⟨m, ns m hn, fun i x v e1 e2 e3 => ?_⟩;obtain ⟨u, r, l⟩ := hl i x v e1 e2 e3;refine ⟨u, r, ?_⟩;rcases l with l | ⟨k, c, e, z⟩
  ·exact .inl l
  ·exact .inr ⟨k,c,e,cellK x c e _ z⟩
 ·obtain ⟨v,z⟩:=I.cell x c e;exact ⟨v,cellK x c e v z⟩
 ·obtain ⟨m,⟨o,_,_,ho,_⟩,_⟩:=I.loc;exact free _ o (λ z=>(hch _ z).2.1 rfl) ho I.free
 ·obtain ⟨v,o,ho,hd⟩:=I.cell x c e;exact free c o (λ z=>(hch c z).2.2.1 x c e rfl) ho (I.freeC x c e)
 ·obtain ⟨e,n,ne,nf,d⟩:=I.pin p hp;have nch:p.1 ∉ ch:=λ z=>(hch p.1 z).2.2.2 p hp rfl;exact ⟨keep p.1 p.2 ne nf nch e n,free p.1 p.2 nch e n,ne,nf,d⟩
def Inv.un {t':Nat} (I:Inv X pins σ H s) (u:Un X.fs [] H H' s.heap h') (hok:HOk X.prog X.w H' h'):Inv X pins σ H' { s with heap:=h',toks:=t' }:=by
 obtain ⟨m,⟨o,es,ep,ho,r⟩,_⟩:=id I.loc;obtain ⟨sl,hL⟩:=u.any ho I.free (8:)
 exact I.step (g':=s.gens) (d':=s.drawn) (ch:=[]) (λ _ z=>nomatch z) (λ b o _ hb _ e n=>u.keep b o e n hb (8:)) (λ b o _ hb _ e n=>u.slot b o e n hb (8:)) (λ b o _ e n=>u.free b o e n (8:)) (λ b o _ e=>u.there b o e (8:)) u.tups u.frzs u.tbls (λ m' hm=>by
  obtain ⟨o',es',ep',ho',r'⟩:=hm;rw [ho] at ho'; cases ho';exact ⟨_,es',ep',hL,r'⟩) hok I.bare
def Inv.call {g':Array GenState} {t':Nat} {d':Drawn} {ch:List Addr} (I:Inv X pins σ H s) (u:Un (frs X.stack) ch H H' s.heap h') (hok:HOk X.prog X.w H' h') (hg:AllBare g')
  (hch:∀ b ∈ ch,(b ∈ X.ex \/ X.s₀.heap.objs.size <= b) /\ b ≠ X.env.locals /\ (∀ x c,X.env.cells.lookup x=some c -> c ≠ b) /\ ∀ p ∈ X.pn ++ pins,p.1 ≠ b) :
  Inv X pins σ H' { s with heap:=h',gens:=g',drawn:=d',toks:=t' }:=by
 obtain ⟨m,⟨o,es,ep,ho,r⟩,_⟩:=id I.loc;obtain ⟨sl,hL⟩:=u.any ho I.free λ z=>(hch _ z).2.1 rfl
 exact I.step (ch:=ch) hch (λ b o hL hb hc e n=>u.keep b o e n (λ z=>(yaD.mp (I.stkSub b z)).elim hL hb) hc) (λ b o _ _ hc e n=>u.any e n hc) (λ b o hc e n=>u.free b o e n hc) (λ b o hc e=>u.there b o e hc) u.tups u.frzs u.tbls (λ m' hm=>by
  obtain ⟨o',es',ep',ho',r'⟩:=hm;rw [ho] at ho'; cases ho';exact ⟨_,es',ep',hL,r'⟩) hok hg
def Inv.turned {t':Nat} {it:Addr} (I:Inv X pins σ H s) (k:∀ b o,b ≠ it -> s.heap.get? b=some o -> h'.get? b=some o) (hn:H it=none) (hL:it ≠ X.env.locals)
  (h1:it ∈ X.ex \/ X.s₀.heap.objs.size <= it) (h2:∀ x c,X.env.cells.lookup x=some c -> c ≠ it) (h3:∀ p ∈ X.pn ++ pins,p.1 ≠ it):Inv X pins σ H { s with heap:=h',toks:=t' }:=by
 have nit:∀ b u,H b=some u -> b ≠ it:=λ b u e z=>by rw [z,hn] at e; cases e
 refine I.step (g':=s.gens) (d':=s.drawn) (ch:=[it]) (λ b hb=>?_) (λ b o _ _ hc e _=>k b o (λ z=>hc (by simp [z])) e) (λ b o _ _ hc e _=>⟨o.slots,k b o (λ z=>hc (by simp [z])) e⟩) (λ _ _ _ _ n=>n)
  (λ b o hc e=>⟨o,k b o (λ z=>hc (by simp [z])) e⟩) (λ _ _ e=>e) (λ _ _ _ e=>e) (λ b ps e=>⟨#[],by rw [e]; simp⟩) (λ m hm=>?_) (λ b u e=>?_) I.bare
 ·have e : b = it := by simpa using hb
  subst e;exact ⟨h1,hL,h2,h3⟩
 ·obtain ⟨o,es,ep,ho,r⟩:=hm;exact ⟨o,es,ep,k _ o (ycG hL) ho,r⟩
 ·refine (I.hok b u e).stay (fun c v hc q => k c v ?_ q) (fun _ q => q) fun _ _ q => q;rcases hc with z | z
  ·rw [z]; exact nit b u e
  ·exact nit c _ z
def Inv.tok (I:Inv X pins σ H s) (t:Nat):Inv X pins σ H { s with toks:=t }:=I.un (h':=s.heap) (t':=t) Un.refl I.hok
def Inv.kept {t':Nat} (I:Inv X pins σ H s) (k:∀ b u,s.heap.get? b=some u -> h'.get? b=some u):Inv X pins σ H { s with heap:=h',toks:=t' }:=I.un (Un.kept k) (I.hok.kept k)
def Inv.laid {a:Addr} {o:HO} {t':Nat} (I:Inv X pins σ H s) (k:∀ b u,s.heap.get? b=some u -> h'.get? b=some u) (hp:s.heap.objs.size <= a) (new:zda X.prog X.w (upd H a o) h' a o) :
  Inv X pins σ (upd H a o) { s with heap:=h',toks:=t' }:=I.un (Un.laid k hp (I.hok.fresh hp)) (I.hok.laid k hp new)
def Inv.write {x e:Addr} {o:HO} {t':Nat} (I:Inv X pins σ H s) (mu:Mut (H x)) (he:e=x \/ H e=some (.own x)) (k:∀ b u,b ≠ e -> s.heap.get? b=some u -> h'.get? b=some u) (heo:∃ u,h'.get? e=some u)
  (new:zda X.prog X.w (upd H x o) h' x o):Inv X pins σ (upd H x o) { s with heap:=h',toks:=t' }:=I.un (Un.write mu he k heo) (I.hok.write mu he k heo new)
def Inv.weak {σ':List (Option V)} (I:Inv X pins σ H s) (hl:σ'.length=σ.length) (w:∀ (i:Nat) v,σ'[i]?=some (some v) -> σ[i]?=some (some v)):Inv X pins σ' H s:=
 ⟨I.ok,I.os,I.bare,I.base,let ⟨m,hn,hl'⟩:=I.loc; ⟨m,hn,λ i x v e1 e2 e3=>hl' i x v e1 (w i v e2) e3⟩,I.cell,I.free,I.freeC,I.pin,I.hok,hl.trans I.len⟩
def Inv.pins_of {pins':List (Addr × Obj)} (I:Inv X pins σ H s) (h:∀ p ∈ pins',s.heap.get? p.1=some p.2 /\ H p.1=none /\ p.1 ≠ X.env.locals /\ p.1 ∉ X.fs /\ ∀ v,p.2.data ≠ .cell v):Inv X pins' σ H s:=
 ⟨I.ok,I.os,I.bare,I.base,I.loc,I.cell,I.free,I.freeC,λ p hp=>(yaA.mp hp).elim (λ z=>I.pin p (ybI _ z)) (h p),I.hok,I.len⟩
def zmm {N:List Str} (hN:N.Nodup) {i j:Nat} {x:Str} (a:N[i]?=some x) (b:N[j]?=some x):i=j:=by
 obtain ⟨h1,e1⟩:=yad.mp a;obtain ⟨h2,e2⟩:=yad.mp b;exact (List.getElem_inj hN).mp (e1.trans e2.symm)
def znq {M:Model} {A:Around} {E:Value -> Shared -> Prop} {i:Nat} {x:Str} {v:V} {u:Value} {Q:Unit -> Shared -> Prop} (I:Inv X pins σ H s) (hN:X.N.Nodup) (hi:X.N[i]?=some x) (hx:Loc X.env.scope x) (r:RelV v u)
  (h:∀ s',Inv X pins (σ.set i (some v)) H s' -> (∃ a,Heap.SameBut a s.heap s'.heap /\ (a=X.env.locals \/ X.env.cells.lookup x=some a)) -> Q () s') (hf:X.fn x=true \/ X.env.scope.names.lookup x=some .local:=by first | exact .inl rfl | exact .inr rfl | assumption):wpAny M A (storeName X.env x u) Q E s:=by
 obtain ⟨m,hn,hl⟩:=id I.loc;have hcls:(X.env.scope.kind == .class || (X.env.scope.kind == .module && X.env.locals != X.env.globals))=false:=by rw [I.ok.kind]; rfl
 have hiσ:i < σ.length:=by rw [I.len]; exact (yad.mp hi).1
 have cne:=I.cne
 have tracked:∀ {a:Addr} {h':Heap},(∃ o,s.heap.get? a=some o /\ H a=none) -> Heap.SameBut a s.heap h' -> HOk X.prog X.w H h':=λ {a h'} ha hs b ob e=>by
  obtain ⟨_,_,hfree⟩:=ha;refine (I.hok b ob e).stay (λ c w' hc q=>(hs.2 c ?_).trans q) (λ _ q=>q) λ _ _ q=>q;rintro rfl;rcases hc with rfl | hc
  ·rw [hfree] at e; cases e
  ·rw [hfree] at hc; cases hc
 rcases hx with hk | hk
 ·refine wpAny_storeName_local hk hn (fun h' hn' hs => ?_) hcls;obtain ⟨oL, _, _, hoL, _⟩ := id hn;refine h _ ⟨I.ok, I.os, I.bare, ⟨fun b o e n hb hx => ?_, fun b o e n hb hx => ?_, I.base.free, fun b o e hx => ?_, I.base.tups, I.base.frzs, I.base.tbls⟩, ⟨_, hn', fun j y v' e1 e2 e3 => ?_⟩, fun y c e => ?_, I.free, I.freeC, fun p hp => ?_, tracked ⟨oL, hoL, I.free⟩ hs, by simpa using I.len⟩ ⟨_, hs, .inl rfl⟩
  ·exact (hs.2 b (yaR (yag (yan e) I.ok.above))).trans (I.base.keep b o e n hb hx)
  ·obtain ⟨sl,e1⟩:=I.base.slot b o e n hb hx;exact ⟨sl,(hs.2 b (yaR (yag (yan e) I.ok.above))).trans e1⟩
  ·obtain ⟨o',e1⟩:=I.base.there b o e hx;exact ⟨o',(hs.2 b (yaR (yag (yan e) I.ok.above))).trans e1⟩
  ·by_cases hj : j = i
   ·subst hj;rw [hi] at e1; cases e1;rw [ycs hiσ] at e2;cases e2;exact ⟨u,r,.inl ⟨hk,by simp⟩⟩
   ·rw [ybJ (ycG hj)] at e2;obtain ⟨u', r', q⟩ := hl j y v' e1 e2 e3;refine ⟨u', r', ?_⟩;rcases q with ⟨k, e⟩ | ⟨k, c, e, z⟩
    ·refine .inl ⟨k,?_⟩;have:y ≠ x:=λ e=>hj (zmm hN e1 (e ▸ hi));simp [this,e]
    ·exact .inr ⟨k,c,e,z.sameBut hs (cne y c e)⟩
  ·obtain ⟨w',z⟩:=I.cell y c e;exact ⟨w',z.sameBut hs (cne y c e)⟩
  ·obtain ⟨e,n,ne,nf,d⟩:=I.pin p hp;exact ⟨(hs.2 p.1 ne).trans e,n,ne,nf,d⟩
 ·have hfn:X.fn x=true:=by
   rcases hf with z | z
   ·exact z
   ·rw [z] at hk; cases hk
  obtain ⟨c,hc⟩:=I.ok.has x (.inl hk);obtain ⟨w',z⟩:=I.cell x c hc;refine wpAny_storeName_cell I.ok.kind hk hc z (λ h' hc' hs=>?_);obtain ⟨oc,hoc,hocd⟩:=id z;refine h { s with heap:=h' } ⟨I.ok,I.os,I.bare,⟨λ b o e n hb hx=>?_,λ b o e n hb hx=>?_,I.base.free,λ b o e hx=>?_,I.base.tups,I.base.frzs,I.base.tbls⟩,⟨m,hn.sameBut hs (ycG (cne x c hc)),λ j y v' e1 e2 e3=>?_⟩,λ y c' e=>?_,I.free,I.freeC,λ p hp=>?_,tracked ⟨oc,hoc,I.freeC x c hc⟩ hs,by simpa using I.len⟩ ⟨c,hs,.inr hc⟩
  ·exact (hs.2 b (yaR (yag (yan e) (I.ok.cab x c hfn hc)))).trans (I.base.keep b o e n hb hx)
  ·obtain ⟨sl,e1⟩:=I.base.slot b o e n hb hx;exact ⟨sl,(hs.2 b (yaR (yag (yan e) (I.ok.cab x c hfn hc)))).trans e1⟩
  ·obtain ⟨o',e1⟩:=I.base.there b o e hx;exact ⟨o',(hs.2 b (yaR (yag (yan e) (I.ok.cab x c hfn hc)))).trans e1⟩
  ·by_cases hj : j = i
   ·subst hj;rw [hi] at e1; cases e1;rw [ycs hiσ] at e2;cases e2;exact ⟨u,r,.inr ⟨.inl hk,c,hc,hc'⟩⟩
   ·rw [ybJ (ycG hj)] at e2;obtain ⟨u', r', q⟩ := hl j y v' e1 e2 e3;refine ⟨u', r', ?_⟩;rcases q with q | ⟨k, c', e, z'⟩
    ·exact .inl q
    ·refine .inr ⟨k,c',e,z'.sameBut hs ?_⟩;rintro rfl;exact hj (zmm hN e1 (I.ok.inj _ _ _ e hc ▸ hi))
  ·by_cases hcc : c' = c
   ·subst hcc; exact ⟨_,hc'⟩
   ·obtain ⟨w2,z2⟩:=I.cell y c' e;exact ⟨w2,z2.sameBut hs hcc⟩
  ·obtain ⟨e,n,ne,nf,d⟩:=I.pin p hp;refine ⟨(hs.2 p.1 ?_).trans e,n,ne,nf,d⟩;intro q;rw [q,hoc] at e;have q':oc=p.2:=Option.some.inj e;exact d w' (by rw [<- q']; exact hocd)
def zfb {M:Model} {A:Around} {E:Value -> Shared -> Prop} {i:Nat} {x:Str} {v:V} {u:Value} {Q:Unit -> Shared -> Prop} (I:Inv X pins σ H s) (hN:X.N.Nodup) (hi:X.N[i]?=some x) (hx:Loc X.env.scope x) (r:RelV v u)
  (h:∀ s',Inv X pins (σ.set i (some v)) H s' -> Q () s') (hf:X.fn x=true \/ X.env.scope.names.lookup x=some .local:=by first | exact .inl rfl | exact .inr rfl | assumption):wpAny M A (storeName X.env x u) Q E s:=
 znq I hN hi hx r (λ s' I' _=>h s' I') hf
end
noncomputable abbrev XK:=Value -> Option Addr -> Hp -> Prop
noncomputable abbrev St:=List (Option V)
noncomputable abbrev VK:=V -> Hp -> Prop
noncomputable abbrev TE:=St -> Hp -> VK -> Prop
noncomputable abbrev TT:=St -> Hp -> (Bool -> Hp -> Prop) -> Prop
noncomputable abbrev TA:=St -> Hp -> (List V -> Hp -> Prop) -> Prop
structure Ends where
 nx:St -> Hp -> Prop
 rt:VK
 bk:St -> Hp -> Prop:=λ _ _=>False
 ct:St -> Hp -> Prop:=λ _ _=>False
noncomputable abbrev TS:=Ends -> St -> Hp -> Prop
noncomputable def EP (X:Cx) (pins:List (Addr × Obj)) (σ:St) (Q:VK) (u:Value) (s':Shared):Prop:=∃ v H',Inv X pins σ H' s' /\ RelV v u /\ Q v H'
noncomputable def TP (X:Cx) (pins:List (Addr × Obj)) (σ:St) (Q:Bool -> Hp -> Prop) (b:Bool) (s':Shared):Prop:=∃ H',Inv X pins σ H' s' /\ Q b H'
noncomputable def AP (X:Cx) (pins:List (Addr × Obj)) (σ:St) (Q:List V -> Hp -> Prop) (us:List Value) (s':Shared):Prop:=∃ vs H',Inv X pins σ H' s' /\ Vals vs us /\ Q vs H'
noncomputable def SP (X:Cx) (pins:List (Addr × Obj)) (D:Ends) (f:Flow) (s':Shared):Prop:=
 match f with
 | .next=>∃ σ' H',Inv X pins σ' H' s' /\ D.nx σ' H'
 | .brk=>∃ σ' H',Inv X pins σ' H' s' /\ D.bk σ' H'
 | .cont=>∃ σ' H',Inv X pins σ' H' s' /\ D.ct σ' H'
 | .ret u=>∃ v σ' H',Inv X pins σ' H' s' /\ RelV v u /\ D.rt v H'
noncomputable def PE (X:Cx) (e:Expr) (t:TE):Prop:=
 ∀ (pins:List (Addr × Obj)) (s:Shared) (σ:St) (H:Hp) (Q:VK),Inv X pins σ H s -> t σ H Q -> wpAny (model X.prog X.w) X.A (eval e X.env) (EP X pins σ Q) X.xe s
noncomputable def PT (X:Cx) (e:Expr) (t:TT):Prop:=
 ∀ (pins:List (Addr × Obj)) (s:Shared) (σ:St) (H:Hp) (Q:Bool -> Hp -> Prop),Inv X pins σ H s -> t σ H Q -> wpAny (model X.prog X.w) X.A (isTrue e X.env (eval e X.env)) (TP X pins σ Q) X.xe s
noncomputable def PW (X:Cx) (e:Expr) (t:TT):Prop:=
 ∀ (whole:Sem Value) (pins:List (Addr × Obj)) (s:Shared) (σ:St) (H:Hp) (Q:Bool -> Hp -> Prop),Inv X pins σ H s -> t σ H Q -> wpAny (model X.prog X.w) X.A (isTrue e X.env whole) (TP X pins σ Q) X.xe s
def PW.pt {X:Cx} {e:Expr} {t:TT} (h:PW X e t):PT X e t:=h _
noncomputable def PA (X:Cx) (es:List Expr) (t:TA):Prop:=
 ∀ (pos:Pos) (pins:List (Addr × Obj)) (s:Shared) (σ:St) (H:Hp) (Q:List V -> Hp -> Prop),Inv X pins σ H s -> t σ H Q -> wpAny (model X.prog X.w) X.A (spliced (backTo pos (starEach es X.env))) (AP X pins σ Q) X.xe s
noncomputable def PS (X:Cx) (st:Stmt) (t:TS):Prop:=
 ∀ (pins:List (Addr × Obj)) (s:Shared) (σ:St) (H:Hp) (D:Ends),Inv X pins σ H s -> t D σ H -> wpAny (model X.prog X.w) X.A (exec st X.env) (SP X pins D) X.xe s
noncomputable def PSs (X:Cx) (st:List Stmt) (t:TS):Prop:=
 ∀ (pins:List (Addr × Obj)) (s:Shared) (σ:St) (H:Hp) (D:Ends),Inv X pins σ H s -> t D σ H -> wpAny (model X.prog X.w) X.A (execs st X.env) (SP X pins D) X.xe s
def thn {α:Type} {t:Sem α} {Q Q':α -> Shared -> Prop} {M:Model} {A:Around} {E:Value -> Shared -> Prop} {s:Shared} (h:wpAny M A t Q E s) (hQ:∀ a s,Q a s -> Q' a s):wpAny M A t Q' E s:=wpAny_mono h hQ λ _ _ x=>x
section
variable {X:Cx}
noncomputable def tVar (i:Nat):TE:=λ σ H Q=>∃ v,σ[i]?=some (some v) /\ Q v H
noncomputable def tC (v:V):TE:=λ _ H Q=>Q v H
def zsR {i:Nat} {x:Str} {pos:Pos} (hN:X.N[i]?=some x) (hv:Vis X.env.scope x) (hd:(x == ("__debug__":Str))=false:=by decide) (hcd:(x == ("__classdict__":Str))=false:=by decide):PE X (.Name x pos) (tVar i):=by
 intro pins s σ H Q I h;obtain ⟨v,e,h⟩:=h;obtain ⟨m,hn,hl⟩:=I.loc;obtain ⟨u,r,l⟩:=hl i x v hN e hv;have fin:EP X pins σ Q u s:=⟨v,H,I,r,h⟩
 rcases l with ⟨hk,hm⟩ | ⟨hk,c,hc,hcell⟩
 ·exact wpAny_Name (wpAny_loadName_local I.ok.kind hk hn hm fin) hd
 ·rcases hk with hk | hk
  ·exact wpAny_Name (wpAny_loadName_cell I.ok.kind hk hc hcell fin) hd
  ·exact wpAny_Name (wpAny_loadName_free I.ok.kind hk hc hcell fin hcd) hd
def zag {i j pos}:PE X (.Constant (.int i) j pos) (tC (.int i)):=λ _ _ _ H _ I h=>wpAny_Constant_int ⟨.int i,H,I.tok _,⟨_,rfl⟩,h⟩
def zcF {b j pos}:PE X (.Constant (.bool b) j pos) (tC (.bl b)):=λ _ _ _ H _ I h=>Constant_bool ⟨.bl b,H,I,rfl,h⟩
def zcr {j pos}:PE X (.Constant .none j pos) (tC .non):=λ _ _ _ H _ I h=>Constant_none ⟨.non,H,I,rfl,h⟩
def zaS {x j pos}:PE X (.Constant (.str x) j pos) (tC (.str x)):=λ _ _ _ H _ I h=>Calls.Constant_str ⟨.str x,H,I.tok _,⟨_,rfl⟩,h⟩
noncomputable def Gl (X:Cx) (x:Str):Prop:=X.env.kindOf x=some .globalImplicit
def znV {E:Value -> Shared -> Prop} {pins:List (Addr × Obj)} {s:Shared} {σ:St} {H:Hp} {x:Str} {u:Value} {pos:Pos} {Q:Value -> Shared -> Prop} (I:Inv X pins σ H s) (hg:Gl X x) (hm:X.mg x=some u) (h:Q u s)
  (hd:(x == ("__debug__":Str))=false:=by decide):wpAny (model X.prog X.w) X.A (eval (.Name x pos) X.env) Q E s:=
 Calls.Name_function_global I.ok.kind hg (Calls.loadGlobal_global (by rw [I.ok.glob]; exact I.mod.glob.keeps I.bk) hm h) hd
def zcH {E:Value -> Shared -> Prop} {pins:List (Addr × Obj)} {s:Shared} {σ:St} {H:Hp} {x:Str} {u:Value} {pos:Pos} {Q:Value -> Shared -> Prop} (I:Inv X pins σ H s) (hg:Gl X x) (hm:X.mg x=none) (hv:bootBuiltins x=some u) (h:Q u s)
  (hn:x ≠ "__name__":=by decide) (hd:(x == ("__debug__":Str))=false:=by decide):wpAny (model X.prog X.w) X.A (eval (.Name x pos) X.env) Q E s:=by
 obtain ⟨mb,h1,h2⟩:=I.mod.blt;exact Calls.Name_function_global I.ok.kind hg (Calls.loadGlobal_builtin (by rw [I.ok.glob]; exact I.mod.glob.keeps I.bk) hm (by rw [I.ok.blt]; exact h1.keeps I.bk) ((h2 x hn).trans hv) h) hd
def znF {x:Str} {v:V} {u:Value} {pos:Pos} (hg:Gl X x) (hm:X.mg x=some u) (r:RelV v u) (hd:(x == ("__debug__":Str))=false:=by decide):PE X (.Name x pos) (tC v):=
 λ _ _ _ H _ I h=>znV I hg hm ⟨v,H,I,r,h⟩ hd
def zgH {x:Str} {v:V} {u:Value} {pos:Pos} (hg:Gl X x) (hm:X.mg x=none) (hv:bootBuiltins x=some u) (r:RelV v u) (hn:x ≠ "__name__":=by decide) (hd:(x == ("__debug__":Str))=false:=by decide):PE X (.Name x pos) (tC v):=
 λ _ _ _ H _ I h=>zcH I hg hm hv ⟨v,H,I,r,h⟩ hn hd
variable {a b:Expr} {ta tb:TE} {pos:Pos}
noncomputable def tB (t:TE):TT:=λ σ H Q=>t σ H λ x H1=>∃ c,x=.bl c /\ Q c H1
def zbt {e:Expr} {t:TE} (h:PE X e t) (he:∀ whole,isTrue e X.env whole=(do let v <- whole; standAt e.pos; holding [v] (truthy v)):=by intro _; rfl):PT X e (tB t):=by
 intro pins s σ H Q I hw;refine isTrue_plain (thn (h pins s σ H _ I hw) λ v s1 ⟨x,H1,I1,r1,q1⟩=>?_) (he _);obtain ⟨d,rfl,q⟩:=q1;cases r1;exact wpAny_truthy_bool ⟨H1,I1,q⟩
variable {tA tB':TT} {rest:List Expr}
noncomputable def tAnd (t u:TT):TT:=λ σ H Q=>t σ H λ c H1=>if c=true then u σ H1 Q else Q false H1
noncomputable def tOr (t u:TT):TT:=λ σ H Q=>t σ H λ c H1=>if c=true then Q true H1 else u σ H1 Q
noncomputable def tNot (t:TT):TT:=λ σ H Q=>t σ H λ c H1=>Q (!c) H1
def zds (ha:PT X a tA):PW X (.BoolOp .And [a] pos) tA:=by
 intro wh pins s σ H Q I h;refine isTrue_and (thn (ha pins s σ H Q I h) λ c s1 e=>?_);cases c with
 | true=>exact isTrue_and_nil e
 | false=>exact e
def zlK (ha:PT X a tA):PW X (.BoolOp .Or [a] pos) tA:=by
 intro wh pins s σ H Q I h;refine isTrue_or (thn (ha pins s σ H Q I h) λ c s1 e=>?_);cases c with
 | false=>exact isTrue_or_nil e
 | true=>exact e
def zfY (ha:PT X a tA) (hb:PW X (.BoolOp .And (b :: rest) pos) tB'):PW X (.BoolOp .And (a :: b :: rest) pos) (tAnd tA tB'):=by
 intro wh pins s σ H Q I h;refine isTrue_and (thn (ha pins s σ H _ I h) λ c s1 ⟨H1,I1,q1⟩=>?_);cases c with
 | true=>exact hb wh pins s1 σ H1 Q I1 q1
 | false=>exact ⟨H1,I1,q1⟩
def zpw (ha:PT X a tA) (hb:PW X (.BoolOp .Or (b :: rest) pos) tB'):PW X (.BoolOp .Or (a :: b :: rest) pos) (tOr tA tB'):=by
 intro wh pins s σ H Q I h;refine isTrue_or (thn (ha pins s σ H _ I h) λ c s1 ⟨H1,I1,q1⟩=>?_);cases c with
 | true=>exact ⟨H1,I1,q1⟩
 | false=>exact hb wh pins s1 σ H1 Q I1 q1
def zdl (ha:PT X a tA):PT X (.UnaryOp .Not a pos) (tNot tA):=by
 intro pins s σ H Q I h;exact isTrue_not (ha pins s σ H (λ c H1=>Q (!c) H1) I h)
noncomputable def zrL (ta tb:TE):TE:=λ σ H Q=>ta σ H λ x H1=>∃ c,x=.bl c /\ if c=true then tb σ H1 Q else Q (.bl false) H1
noncomputable def zsV (ta:TE):TE:=λ σ H Q=>ta σ H λ x H1=>∃ c,x=.bl c /\ Q (.bl (!c)) H1
def zid {op} {t:TE} (h:PE X a t):PE X (.BoolOp op [a] pos) t:=λ pins s σ H Q I hw=>BoolOp_one (h pins s σ H Q I hw)
def zfS (ha:PE X a ta) (hb:PE X (.BoolOp .And (b :: rest) pos) tb):PE X (.BoolOp .And (a :: b :: rest) pos) (zrL ta tb):=by
 intro pins s σ H Q I h;refine BoolOp_and (thn (ha pins s σ H _ I h) λ v s1 ⟨x,H1,I1,r1,q1⟩=>?_);obtain ⟨c,rfl,q1⟩:=q1;cases r1;refine wpAny_truthy_bool ?_;cases c with
 | true=>exact hb pins s1 σ H1 Q I1 q1
 | false=>exact ⟨.bl false,H1,I1,rfl,q1⟩
def zrD (ha:PE X a ta):PE X (.UnaryOp .Not a pos) (zsV ta):=by
 intro pins s σ H Q I h;refine UnaryOp_ (thn (ha pins s σ H _ I h) λ v s1 ⟨x,H1,I1,r1,q1⟩=>?_);obtain ⟨c,rfl,q1⟩:=q1;cases r1;exact not_of (wpAny_truthy_bool ⟨.bl (!c),H1,I1,rfl,q1⟩)
noncomputable def tIf (t:TT) (ta tb:TE):TE:=λ σ H Q=>t σ H λ c H1=>if c=true then ta σ H1 Q else tb σ H1 Q
def zbx {c:Expr} (hc:PT X c tA) (ha:PE X a ta) (hb:PE X b tb):PE X (.IfExp c a b pos) (tIf tA ta tb):=by
 intro pins s σ H Q I h;refine wpAny_IfExp (thn (hc pins s σ H _ I h) λ d s1 ⟨H1,I1,q1⟩=>?_);cases d with
 | true=>exact ha pins s1 σ H1 Q I1 q1
 | false=>exact hb pins s1 σ H1 Q I1 q1
end
noncomputable def SqL (K:PySem.W.Frag) (H:Hp) (a:Addr) (xs:List V):Prop:=
 Rd H a (.lst xs) \/
  ∃ (o:Obj) (its:Array Value) (n:Nat),K.lookup a=some o /\ o.cls=.type "list" /\ o.dict=none /\ o.data=.seq its n /\ its.size <= sizeLine /\ Vals xs its.toList
noncomputable def SqT (K:PySem.W.Frag) (H:Hp) (a:Addr) (xs:List V):Prop:=
 Rd H a (.tup xs) \/
  ∃ (o:Obj) (its:Array Value) (n:Nat),K.lookup a=some o /\ o.cls=.type "tuple" /\ o.data=.seq its n /\ its.size <= sizeLine /\ Vals xs its.toList
noncomputable def absV:Value -> Option V
 | .none=>some .non
 | .bool b=>some (.bl b)
 | .int i _=>some (.int i)
 | .str x _=>some (.str x)
 | .bytes b _=>some (.byt b)
 | .float b _=>some (.flt b)
 | .ref a=>some (.ref a)
 | .type n=>some (.ty n)
 | _=>none
def RelV.abs {x:V} {u:Value} (r:RelV x u):absV u=some x:=by
 cases x with
 | non=>cases r; rfl
 | bl _=>cases r; rfl
 | int _=>obtain ⟨t,rfl⟩:=r; rfl
 | str _=>obtain ⟨t,rfl⟩:=r; rfl
 | byt _=>obtain ⟨t,rfl⟩:=r; rfl
 | flt _=>obtain ⟨t,rfl⟩:=r; rfl
 | ref _=>cases r; rfl
 | ty _=>cases r; rfl
def RelV.inj {x y:V} {u:Value} (r:RelV x u) (q:RelV y u):x=y:=Option.some.inj (r.abs.symm.trans q.abs)
def Vals.inj:∀ {xs ys:List V} {us:List Value},Vals xs us -> Vals ys us -> xs=ys
 | _,_,_,.nil,.nil=>rfl
 | _,_,_,.cons r t,.cons r' t'=>by rw [r.inj r',Vals.inj t t']
section
variable {X:Cx} {pins:List (Addr × Obj)} {σ:St} {H:Hp} {s:Shared} {a:Addr} {xs ys:List V}
def SqL.of {K:PySem.W.Frag} (h:H a=some (.lst xs)):SqL K H a xs:=.inl (.inl h)
def SqT.of {K:PySem.W.Frag} (h:H a=some (.tup xs)):SqT K H a xs:=.inl (.inl h)
def Inv.list (I:Inv X pins σ H s) (h:SqL X.K H a xs):∃ its:List Value,Vals xs its /\ PlainL s.heap a its.toArray /\ xs.length <= sizeLine:=by
 rcases h with h | ⟨o,its,n,hk,hc,hd,hs,hz,r⟩
 ·obtain ⟨z,its,n,r,e⟩:=h.ok I.hok;exact ⟨its,r,⟨_,n,e,rfl,rfl,rfl⟩,z⟩
 ·refine ⟨its.toList,r,⟨o,n,I.kIn a o hk,hc,hd,by simpa using hs⟩,?_⟩;have e:=r.length;simp only [ycb] at e;omega
def Inv.tuple (I:Inv X pins σ H s) (h:SqT X.K H a xs):∃ its:List Value,Vals xs its /\ IsTup s.heap a its.toArray /\ xs.length <= sizeLine:=by
 rcases h with h | ⟨o,its,n,hk,hc,hs,hz,r⟩
 ·obtain ⟨z,its,r,p⟩:=h.ok I.hok;exact ⟨its,r,p.tup,z⟩
 ·refine ⟨its.toList,r,⟨o,I.kIn a o hk,hc,n,by simpa using hs⟩,?_⟩;have e:=r.length;simp only [ycb] at e;omega
def Inv.list_inj (I:Inv X pins σ H s) (h:SqL X.K H a xs) (h':SqL X.K H a ys):xs=ys:=by
 obtain ⟨its,r,⟨o,n,e,_,_,d⟩,_⟩:=I.list h;obtain ⟨its',r',⟨o',n',e',_,_,d'⟩,_⟩:=I.list h';rw [e] at e'; cases e';rw [d] at d';injection d' with d1 _;have:its=its':=by simpa using congrArg Array.toList d1
 subst this;exact r.inj r'
def Inv.tuple_inj (I:Inv X pins σ H s) (h:SqT X.K H a xs) (h':SqT X.K H a ys):xs=ys:=by
 obtain ⟨its,r,⟨o,e,_,n,d⟩,_⟩:=I.tuple h;obtain ⟨its',r',⟨o',e',_,n',d'⟩,_⟩:=I.tuple h';rw [e] at e'; cases e';rw [d] at d';injection d' with d1 _;have:its=its':=by simpa using congrArg Array.toList d1
 subst this;exact r.inj r'
end
noncomputable abbrev Cx.wish (X:Cx) (E:Value -> Shared -> Prop):Cx:={ X with xe:=E }
noncomputable abbrev Cx.nox (X:Cx):Cx:=X.wish λ _ _=>False
def Cx.Ok.wish {X:Cx} (ok:X.Ok) (E:Value -> Shared -> Prop):(X.wish E).Ok:=
 ⟨ok.mod,ok.kind,ok.glob,ok.blt,ok.above,ok.inj,ok.has,ok.cab,ok.hd,ok.frames,ok.stk,ok.exf,ok.bs,ok.bsz,ok.noex,ok.exfs,ok.funs,ok.frf⟩
def Cx.Ok.unwish {X:Cx} {E:Value -> Shared -> Prop} (ok:(X.wish E).Ok):X.Ok:=
 ⟨ok.mod,ok.kind,ok.glob,ok.blt,ok.above,ok.inj,ok.has,ok.cab,ok.hd,ok.frames,ok.stk,ok.exf,ok.bs,ok.bsz,ok.noex,ok.exfs,ok.funs,ok.frf⟩
section
variable {X:Cx} {pins:List (Addr × Obj)} {σ:St} {H:Hp} {s:Shared} {E:Value -> Shared -> Prop}
def Inv.wish (I:Inv X pins σ H s) (E:Value -> Shared -> Prop):Inv (X.wish E) pins σ H s:=⟨I.ok.wish E,I.os,I.bare,I.base,I.loc,I.cell,I.free,I.freeC,I.pin,I.hok,I.len⟩
def Inv.unwish (I:Inv (X.wish E) pins σ H s):Inv X pins σ H s:=⟨I.ok.unwish,I.os,I.bare,I.base,I.loc,I.cell,I.free,I.freeC,I.pin,I.hok,I.len⟩
def SP.unwish {D:Ends} {f:Flow} {s':Shared} (h:SP (X.wish E) pins D f s'):SP X pins D f s':=by
 cases f with
 | next=>obtain ⟨σ',H',I,q⟩:=h; exact ⟨σ',H',I.unwish,q⟩
 | brk=>obtain ⟨σ',H',I,q⟩:=h; exact ⟨σ',H',I.unwish,q⟩
 | cont=>obtain ⟨σ',H',I,q⟩:=h; exact ⟨σ',H',I.unwish,q⟩
 | ret u=>obtain ⟨v,σ',H',I,r,q⟩:=h; exact ⟨v,σ',H',I.unwish,r,q⟩
def PSs.nox {st:List Stmt} {t:TS} (h:PSs X.nox st t):PSs X st t:=λ pins s σ H D I hw=>
 wpAny_mono (h pins s σ H D (I.wish _) hw) (λ _ _ q=>q.unwish) λ _ _ z=>False.elim z
end
section
variable {X:Cx} {st:Stmt} {rest:List Stmt} {t u:TS} {e:Expr} {te:TE} {pos:Pos}
noncomputable def zrz:TS:=λ D σ H=>D.nx σ H
noncomputable def tSeq (t u:TS):TS:=λ D σ H=>t { D with nx:=u D } σ H
def zao:PSs X [] zrz:=λ _ _ σ H _ I h=>wpAny_execs_nil ⟨σ,H,I,h⟩
def zad (h1:PS X st t) (h2:PSs X rest u):PSs X (st :: rest) (tSeq t u):=by
 intro pins s σ H D I h;refine wpAny_execs_cons (thn (h1 pins s σ H { D with nx:=u D } I h) λ f s1 q=>?_);cases f with
 | next=>
  obtain ⟨σ',H',I',q⟩:=q;exact h2 pins s1 σ' H' D I' q
 | ret v=>exact q
 | brk=>exact q
 | cont=>exact q
def zae (h1:PS X st t):PSs X [st] t:=by
 intro pins s σ H D I h;refine wpAny_execs_cons (thn (h1 pins s σ H D I h) λ f s1 q=>?_);cases f with
 | next=>exact wpAny_execs_nil q
 | ret v=>exact q
 | brk=>exact q
 | cont=>exact q
def Inv.quiet {pins:List (Addr × Obj)} {σ:St} {H:Hp} {s:Shared} (I:Inv X pins σ H s):interactive X.env=false:=by simp [interactive,I.ok.kind]
noncomputable def zrt (te:TE):TS:=λ D σ H=>te σ H λ _ H1=>D.nx σ H1
def zbV (he:PE X e te) (hs:swapsWith e none pos.line X.env=pure false:=by rfl):PS X (.Expr e pos) (zrt te):=by
 intro pins s σ H D I h;exact wpAny_Expr_any (thn (he pins s σ H _ I h) λ v s1 ⟨x,H1,I1,r1,q1⟩=>⟨σ,H1,I1,q1⟩) I.quiet hs
noncomputable def tRet (te:TE):TS:=λ D σ H=>te σ H D.rt
def zaj (he:PE X e te):PS X (.Return (some e) pos) (tRet te):=by
 intro pins s σ H D I h;exact wpAny_Return_some (thn (he pins s σ H _ I h) λ v s1 ⟨x,H1,I1,r1,q1⟩=>⟨x,σ,H1,I1,r1,q1⟩)
noncomputable def zth:TS:=λ D _ H=>D.rt .non H
def zq1:PS X (.Return none pos) zth:=λ _ _ σ H _ I h=>wpAny_Return_none ⟨.non,σ,H,I,rfl,h⟩
noncomputable def tIfS (c:TT) (t u:TS):TS:=λ D σ H=>c σ H λ b H1=>if b=true then t D σ H1 else u D σ H1
def zaD {c:Expr} {a b:List Stmt} {tc:TT} (hc:PT X c tc) (ha:PSs X a t) (hb:PSs X b u):PS X (.If c a b pos) (tIfS tc t u):=by
 intro pins s σ H D I h;refine wpAny_If (thn (hc pins s σ H _ I h) λ d s1 ⟨H1,I1,q1⟩=>?_);cases d with
 | true=>exact ha pins s1 σ H1 D I1 q1
 | false=>exact hb pins s1 σ H1 D I1 q1
end
noncomputable abbrev TG:=V -> St -> Hp -> (St -> Hp -> Prop) -> Prop
noncomputable abbrev TGs:=List V -> St -> Hp -> (St -> Hp -> Prop) -> Prop
noncomputable def PG (X:Cx) (target:Expr) (t:TG):Prop:=
 ∀ (pins:List (Addr × Obj)) (s:Shared) (σ:St) (H:Hp) (v:V) (u:Value) (Q:St -> Hp -> Prop),Inv X pins σ H s -> RelV v u -> t v σ H Q ->
  wpAny (model X.prog X.w) X.A (assign target X.env u) (λ _ s'=>∃ σ' H',Inv X pins σ' H' s' /\ Q σ' H') X.xe s
noncomputable def PGs (X:Cx) (ts:List Expr) (t:TGs):Prop:=
 ∀ (pins:List (Addr × Obj)) (s:Shared) (σ:St) (H:Hp) (vs:List V) (us:List Value) (Q:St -> Hp -> Prop),Inv X pins σ H s -> Vals vs us -> t vs σ H Q ->
  wpAny (model X.prog X.w) X.A (assignInOrder ((assignEach ts X.env).map (·.2)) us) (λ _ s'=>∃ σ' H',Inv X pins σ' H' s' /\ Q σ' H') X.xe s
noncomputable abbrev TSet:=V -> V -> V -> Hp -> (Hp -> Prop) -> Prop
noncomputable def PSet (X:Cx) (t:TSet):Prop:=
 ∀ (pins:List (Addr × Obj)) (s:Shared) (σ:St) (H:Hp) (o i v:V) (ov iv u:Value) (Q:Hp -> Prop),Inv X pins σ H s -> RelV o ov -> RelV i iv -> RelV v u -> t o i v H Q ->
  wpAny (model X.prog X.w) X.A (setItem ov iv u) (λ _ s'=>∃ H',Inv X pins σ H' s' /\ Q H') X.xe s
section
variable {X:Cx} {pos:Pos}
noncomputable def zqI (i:Nat):TG:=λ v σ H Q=>Q (σ.set i (some v)) H
def zam {i:Nat} {x:Str} (hN:X.N.Nodup) (hi:X.N[i]?=some x) (hx:Loc X.env.scope x) (hf:X.fn x=true \/ X.env.scope.names.lookup x=some .local:=by first | exact .inl rfl | exact .inr rfl | assumption):PG X (.Name x pos) (zqI i):=by
 intro pins s σ H v u Q I r h;exact wpAny_assign_Name (zfb I hN hi hx r (λ s' I'=>⟨_,H,I',h⟩) hf)
noncomputable def gNil:TGs:=λ vs σ H Q=>vs=[] /\ Q σ H
noncomputable def zrU (t:TG) (u:TGs):TGs:=λ vs σ H Q=>∃ v r,vs=v :: r /\ t v σ H λ σ' H'=>u r σ' H' Q
def za6:PGs X [] gNil:=by
 intro pins s σ H vs us Q I r h;obtain ⟨e,h⟩:=h;subst e;cases r;exact assignInOrder_nil ⟨σ,H,I,h⟩
def zar {e:Expr} {es:List Expr} {t:TG} {u:TGs} (h1:PG X e t) (h2:PGs X es u)
  (hs:(assignEach (e :: es) X.env).map (·.2)=assign e X.env :: (assignEach es X.env).map (·.2):=by rfl):PGs X (e :: es) (zrU t u):=by
 intro pins s σ H vs us Q I r h;obtain ⟨v,vr,e1,h⟩:=h;subst e1;cases r with
 | cons r rr=>
  rw [hs];refine assignInOrder_cons (thn (h1 pins s σ H _ _ _ I r h) λ _ s1 ⟨σ1,H1,I1,q1⟩=>?_);exact h2 pins s1 σ1 H1 _ _ Q I1 rr q1
noncomputable def gTup (K:PySem.W.Frag) (n:Nat) (t:TGs):TG:=λ v σ H Q=>∃ a xs,v=.ref a /\ SqT K H a xs /\ xs.length=n /\ t xs σ H Q
def zsI {es:List Expr} {k:Nat} {t:TGs} {n:Nat} (hc:X.calm=true) (h:PGs X es t)
  (hn:(assignEach es X.env).length=n:=by rfl) (hst:(assignEach es X.env).findIdx? (·.1)=none:=by rfl):PG X (.Tuple es k pos) (gTup X.K n t):=by
 intro pins s σ H v u Q I r hw;obtain ⟨a,xs,e1,hq,hl,hw⟩:=hw;subst e1;cases r;obtain ⟨its,rv,ht,hz⟩:=I.tuple hq;refine assign_Tuple_tuple (I.ok.hd hc) ht (by simp [hn,<- hl,rv.length]) hst λ h' hx=>?_;have I1:Inv X pins σ H { s with heap:=h' }:=I.kept (t':=s.toks) λ b o e=>hx b o (yaR (yan e)) e;exact h pins _ σ H xs _ Q I1 (by simpa using rv) hw
noncomputable def gSub (to ti:TE) (t:TSet):TG:=λ v σ H Q=>to σ H λ o H1=>ti σ H1 λ i H2=>t o i v H2 λ H3=>Q σ H3
def zeZ {o i:Expr} {to ti:TE} {t:TSet} (ho:PE X o to) (hi:PE X i ti) (hs:PSet X t)
  (ha : ∀ v, assign (.Subscript o i pos) X.env v = (do
   let ov <- holding [v] (eval o X.env)
   let iv <- holding [v,ov] (eval i X.env)
   standAt pos
   holding [v,ov,iv] (setItem ov iv v)
   release [v,ov,iv] []):=by intro _; rfl):PG X (.Subscript o i pos) (gSub to ti t):=by
 intro pins s σ H v u Q I r h;rw [ha];refine wpAny_bind (wpAny_holding (thn (ho pins s σ H _ I h) λ ov s1 ⟨x,H1,I1,r1,q1⟩=>?_));refine wpAny_bind (wpAny_holding (thn (hi pins s1 σ H1 _ I1 q1) λ iv s2 ⟨y,H2,I2,r2,q2⟩=>?_));refine wpAny_bind (wpAny_standAt (wpAny_bind (wpAny_holding (thn (hs pins s2 σ H2 x y v ov iv u _ I2 r1 r2 r q2) λ _ s3 ⟨H3,I3,q3⟩=>?_))));exact wpAny_release ⟨σ,H3,I3,q3⟩
noncomputable def tAsg (te:TE) (g:TG):TS:=λ D σ H=>te σ H λ x H1=>g x σ H1 D.nx
def zeN {tg e:Expr} {te:TE} {g:TG} (he:PE X e te) (hg:PG X tg g) (hs:swapsWithSole [tg] e pos.line X.env=pure false:=by rfl) (hw:swappedStores [tg] e X.env=pure none:=by rfl)
  (h1:(assignEach [tg] X.env).map (·.2)=[assign tg X.env]:=by rfl):PS X (.Assign [tg] e pos) (tAsg te g):=by
 intro pins s σ H D I h;refine wpAny_Assign_stores (thn (he pins s σ H _ I h) λ v s1 ⟨x,H1,I1,r1,q1⟩=>?_) hs hw;rw [h1];exact thn (hg pins s1 σ H1 x v _ I1 r1 q1) λ _ s2 q=>q
def zat {i:Nat} {x:Str} {e:Expr} {te:TE} {pos':Pos} (hN:X.N.Nodup) (hi:X.N[i]?=some x) (hx:Loc X.env.scope x) (he:PE X e te) (hs:swapsWith e (some (.Name x pos')) pos.line X.env=pure false:=by rfl) (hf:X.fn x=true \/ X.env.scope.names.lookup x=some .local:=by first | exact .inl rfl | exact .inr rfl | assumption) :
  PS X (.Assign [.Name x pos'] e pos) (tAsg te (zqI i)):=by
 intro pins s σ H D I h;refine wpAny_Assign_Name (thn (he pins s σ H _ I h) λ v s1 ⟨y,H1,I1,r1,q1⟩=>?_) hs;exact zfb I1 hN hi hx r1 (λ s2 I2=>⟨_,H1,I2,q1⟩) hf
noncomputable def tPar (i j:Nat) (ta:TA):TS:=λ D σ H=>ta σ H λ vs H1=>∃ v w,vs=[v,w] /\ D.nx ((σ.set i (some v)).set j (some w)) H1
def zo2 {i j:Nat} {x y:Str} {a b:Expr} {ta:TA} {px py pt:Pos} {kt k2 pt2} (hc:X.calm=true) (hN:X.N.Nodup) (hi:X.N[i]?=some x) (hj:X.N[j]?=some y) (hij:i ≠ j)
  (hx:X.env.scope.names.lookup x=some .local) (hy:X.env.scope.names.lookup y=some .local) (ha:PA X [a,b] ta)
  (hw:swappedStores [.Tuple [.Name x px,.Name y py] kt pt] (.Tuple [a,b] k2 pt2) X.env=pure (some [x,y]))
  (hs:swapsWithSole [.Tuple [.Name x px,.Name y py] kt pt] (.Tuple [a,b] k2 pt2) pos.line X.env=pure false:=by rfl) :
  PS X (.Assign [.Tuple [.Name x px,.Name y py] kt pt] (.Tuple [a,b] k2 pt2) pos) (tPar i j ta):=by
 intro pins s σ H D I h;rw [exec_Assign_arm];refine wpAny_bind (wpAny_standAt ?_);rw [hs];refine wpAny_bind (wpAny_pure ?_);rw [if_neg (3:)];refine wpAny_bind (Tuple_ (thn (ha _ pins s σ H _ I h) λ us s1 ⟨vs,H1,I1,r1,q1⟩=>?_));obtain ⟨v,w,e1,q1⟩:=q1;subst e1
 obtain ⟨u1,u2,rfl,rv,rw'⟩:∃ u1 u2,us=[u1,u2] /\ RelV v u1 /\ RelV w u2:=by
  cases r1 with
  | cons p q=>
   cases q with
   | cons p' q'=>
    cases q';exact ⟨_,_,rfl,p,p'⟩
 refine wpAny_newObj_type ?_ (83:);have I2:Inv X pins σ H1 { s1 with heap:=s1.heap.push { cls:=.type "tuple",data:=.seq [u1,u2].toArray } }:=I1.kept (t':=s1.toks) λ b o e=>yam _ e;rw [hw];refine wpAny_bind (wpAny_pure ?_);show wpAny (model X.prog X.w) X.A (do rule "assign.swapped-stores"; let items <- unpackItems (.ref s1.heap.objs.size) 2 none; assignInOrder [λ v=>bindName X.env y v,λ v=>bindName X.env x v] items.reverse; pure Flow.next) _ _ _;refine wpAny_bind (wpAny_rule (wpAny_bind (unpackItems_tuple (items:=#[u1,u2]) (I.ok.hd hc) (IsTup.new s1.heap _) λ h' hx'=>?_)));have I3:=I2.kept (h':=h') (t':=s1.toks) λ b o e=>hx' b o (yaR (yan e)) e;show wpAny _ _ (assignInOrder [λ v=>bindName X.env y v,λ v=>bindName X.env x v] [u2,u1] >>= λ _=>pure Flow.next) _ _ _;refine wpAny_bind (assignInOrder_cons (wpAny_bindName (zfb I3 hN hj (.inl hy) rw' (λ s2 I4=>?_) (.inr hy))));refine assignInOrder_cons (wpAny_bindName (zfb I4 hN hi (.inl hx) rv (λ s3 I5=>assignInOrder_nil (wpAny_pure ?_)) (.inr hx)));rw [List.set_comm _ _ (ycG hij)] at I5;exact ⟨_,H1,I5,q1⟩
end
section
variable {X:Cx} {pos:Pos}
noncomputable def zrV (c:TT) (tb:TS):TS:=λ D σ H=>∃ W:Nat -> St -> Hp -> Prop,(∃ m,W m σ H) /\ ∀ m σ H,W m σ H ->
 c σ H λ b H1=>if b=true then ∃ N:St -> Hp -> Prop,(∀ σ' H',N σ' H' -> ∃ m',m' < m /\ W m' σ' H') /\ tb { D with nx:=N,ct:=N,bk:=D.nx } σ H1 else D.nx σ H1
def ziT {c:Expr} {body:List Stmt} {tc:TT} {tb:TS} (hp:PassesOwn (model X.prog X.w) X.A X.env X.xe) (hc:PT X c tc) (hb:PSs X body tb):PS X (.While c body [] pos) (zrV tc tb):=by
 intro pins s σ H D I h;obtain ⟨W,⟨m0,w0⟩,turn⟩:=h;refine wpAny_While (codeAny_whileLoop (λ n s'=>∃ σ' H',Inv X pins σ' H' s' /\ W n σ' H') ?_ m0 ⟨σ,H,I,w0⟩);rintro n s1 ⟨σ1,H1,I1,w1⟩;refine wpAny_passesOwn hp (thn (hc pins s1 σ1 H1 _ I1 (turn n σ1 H1 w1)) λ b s2 ⟨H2,I2,q2⟩=>?_);cases b with
 | true=>
  obtain ⟨N,hN,q2⟩:=q2;rw [if_pos rfl];refine wpAny_passesOwn hp (thn (hb pins s2 σ1 H2 _ I2 q2) λ f s3 q3=>?_);cases f with
  | next=>
   obtain ⟨σ3,H3,I3,n3⟩:=q3;obtain ⟨m',hm,w3⟩:=hN σ3 H3 n3;exact ⟨m',hm,σ3,H3,I3,w3⟩
  | cont=>
   obtain ⟨σ3,H3,I3,n3⟩:=q3;obtain ⟨m',hm,w3⟩:=hN σ3 H3 n3;exact ⟨m',hm,σ3,H3,I3,w3⟩
  | brk=>exact q3
  | ret v=>exact q3
 | false=>
  rw [if_neg yaI];exact wpAny_execs_nil ⟨σ1,H2,I2,q2⟩
end
structure It where
 go:Nat -> Hp -> Prop
 yld:Nat -> Hp -> V -> Hp -> Prop
 stop:Nat -> Hp -> Prop
noncomputable def FpOk (X:Cx) (pins:List (Addr × Obj)) (H:Hp) (b:Addr):Prop:=
 H b=none /\ b ≠ X.env.locals /\ b ∉ X.fs /\ (b ∈ X.ex \/ X.s₀.heap.objs.size <= b) /\ (∀ x c,X.env.cells.lookup x=some c -> c ≠ b) /\ ∀ p ∈ X.pn ++ pins,p.1 ≠ b
def Inv.fpOk {X:Cx} {pins:List (Addr × Obj)} {σ:St} {H H':Hp} {s:Shared} {b:Addr} (I:Inv X pins σ H s) (hb:s.heap.objs.size <= b) (hn:H' b=none):FpOk X pins H' b:=by
 refine ⟨hn,ycf (yag I.lt hb),I.nofs hb,.inr (yaW I.sz hb),λ x c e z=>?_,λ p hp z=>?_⟩
 ·obtain ⟨v,q⟩:=I.cell x c e;exact absurd (yag q.lt (by rw [z]; exact hb)) (ybm _)
 ·exact absurd (yag (yan (I.pin p hp).1) (by rw [z]; exact hb)) (ybm _)
structure Turn (P:Program) (w:World) (K:PySem.W.Frag) (tg:Expr) (J:It) (fp:List Addr) (it:Addr) (tn:Nat -> Heap -> Prop):Prop where
 mem:it ∈ fp
 obj:∀ i h,tn i h -> ∀ b ∈ fp,∃ o,h.get? b=some o /\ ∀ v,o.data ≠ .cell v
 keep:∀ i h h',tn i h -> (∀ b ∈ fp,∀ o,h.get? b=some o -> h'.get? b=some o) -> tn i h'
 item:∀ (X:Cx),X.prog=P -> X.w=w -> X.K=K -> X.calm=true -> ∀ (i:Nat) (pins:List (Addr × Obj)) (s:Shared) (σ:St) (H:Hp) (E:Value -> Shared -> Prop),Inv X pins σ H s -> (∀ b ∈ fp,FpOk X pins H b) -> tn i s.heap -> J.go i H ->
  wpAny (model P w) X.A (pyNext (.ref it)) (λ r s1=>∃ u,r=some u /\
   wpAny (model P w) X.A (letOwnedTupleGo tg (.ref it) u) (λ _ s2=>∃ x H',Inv X pins σ H' s2 /\ RelV x u /\ J.yld i H x H' /\ tn (i + 1) s2.heap /\ ∀ b ∈ fp,H' b=none) E s1) E s
 done:∀ (X:Cx),X.prog=P -> X.w=w -> X.K=K -> X.calm=true -> ∀ (i:Nat) (pins:List (Addr × Obj)) (s:Shared) (σ:St) (H:Hp) (E:Value -> Shared -> Prop),Inv X pins σ H s -> (∀ b ∈ fp,FpOk X pins H b) -> tn i s.heap -> J.stop i H ->
  wpAny (model P w) X.A (pyNext (.ref it)) (λ r s1=>r=none /\ Inv X pins σ H s1) E s
 self:∀ (A:Around) (i:Nat) (s:Shared) (Q:Value -> Shared -> Prop) (E:Value -> Shared -> Prop),tn i s.heap -> Q (.ref it) s -> wpAny (model P w) A (pyIter (.ref it)) Q E s
noncomputable abbrev TI:=St -> Hp -> (It -> Hp -> Prop) -> Prop
noncomputable def PIE (X:Cx) (pins:List (Addr × Obj)) (σ:St) (tg:Expr) (R:It -> Hp -> Prop) (itv:Value) (s2:Shared):Prop:=
 ∃ (it:Addr) (fp:List Addr) (tn:Nat -> Heap -> Prop) (J:It) (H':Hp),itv=.ref it /\ Inv X pins σ H' s2 /\ Turn X.prog X.w X.K tg J fp it tn /\ tn 0 s2.heap /\ (∀ b ∈ fp,FpOk X pins H' b) /\ R J H'
noncomputable def PI (X:Cx) (tg iter:Expr) (wi:TI):Prop:=
 ∀ (pins:List (Addr × Obj)) (s:Shared) (σ:St) (H:Hp) (R:It -> Hp -> Prop),Inv X pins σ H s -> wi σ H R ->
  wpAny (model X.prog X.w) X.A (eval iter X.env) (λ v s1=>wpAny (model X.prog X.w) X.A (pyIter v) (PIE X pins σ tg R) X.xe s1) X.xe s
def zpp {M:Model} {A:Around} {E:Value -> Shared -> Prop} {s:Shared} {tg:Expr} {it:Addr} {u:Value} {o:Obj} {n:String} {vs:Array Value} {Q:Unit -> Shared -> Prop} (ho:s.heap.get? it=some o) (hc:o.cls=.type n) (hd:o.data=.fields vs)
    (hn:["enumerate","zip","dict_itemiterator","dict_reverseitemiterator","odict_iterator","itertools.zip_longest","itertools.pairwise"].contains n=false) (hQ:Q () s):wpAny M A (letOwnedTupleGo tg (.ref it) u) Q E s:=by
  unfold letOwnedTupleGo
  cases tg <;> first
    | exact wpAny_pure hQ
    | (cases u <;> first
        | exact wpAny_pure hQ
        | (refine wpAny_bind (wpAny_load ho ?_)
           rw [hc,hd];show wpAny M A (if (["enumerate","zip","dict_itemiterator","dict_reverseitemiterator","odict_iterator","itertools.zip_longest","itertools.pairwise"].contains n && vs[0]? == some (rawInt _))=true then _ else _) Q E s;rw [if_neg (by intro h; rw [hn,ybS] at h; cases h)];exact wpAny_pure hQ))
noncomputable def Itl (K:PySem.W.Frag) (a:Addr):It:=
 ⟨λ i H=>∃ xs x,SqL K H a xs /\ xs[i]?=some x,λ i H x H'=>H'=H /\ ∀ xs,SqL K H a xs -> xs[i]?=some x,λ i H=>∃ xs,SqL K H a xs /\ xs.length <= i⟩
noncomputable def Itt (K:PySem.W.Frag) (a:Addr):It:=
 ⟨λ i H=>∃ xs x,SqT K H a xs /\ xs[i]?=some x,λ i H x H'=>H'=H /\ ∀ xs,SqT K H a xs -> xs[i]?=some x,λ i H=>∃ xs,SqT K H a xs /\ xs.length <= i⟩
noncomputable def Itr (lo:Int) (n:Nat):It:=⟨λ i _=>i < n,λ i H x H'=>H'=H /\ x=.int (lo + i),λ i _=>n <= i⟩
def zoy {P:Program} {w:World} {K:PySem.W.Frag} {tg:Expr} (a it:Addr):Turn P w K tg (Itl K a) [it] it (λ i h=>h.IsListIter it a i) where
 mem:=by simp
 obj:=λ i h st b hb=>by
  have e:b=it:=by simpa using hb
  subst e;obtain ⟨o,e,c,d⟩:=st;exact ⟨o,e,λ v z=>by rw [d] at z; cases z⟩
 keep:=λ i h h' st k=>st.at λ o e=>k it (8:) o e
 item:=by
  intro X hP hw hK hc i pins s σ H E I hf st hg;subst hP hw hK;obtain ⟨xs,x,hq,hx⟩:=hg;obtain ⟨its,rv,p,hz⟩:=I.list hq;obtain ⟨u,hu,ru⟩:=rv.get hx;obtain ⟨f0,f1,f2,f3,f4,f5⟩:=hf it (8:);refine wpAny_pyNext_list_item st p.isList (x:=u) (by simpa using hu) λ h' st' sb=>?_;have I1:Inv X pins σ H { s with heap:=h' }:=I.turned (t':=s.toks) (λ b o hb e=>(sb.2 b hb).trans e) f0 f1 f3 f4 f5;obtain ⟨o,e,c,d⟩:=id st';exact ⟨u,rfl,zpp (s:={ s with heap:=h' }) e c d (3:) ⟨x,H,I1,ru,⟨rfl,λ ys hy=>by rw [I.list_inj hy hq]; exact hx⟩,st',λ b hb=>(hf b hb).1⟩⟩
 done:=by
  intro X hP hw hK hc i pins s σ H E I hf st hg;subst hP hw hK;obtain ⟨xs,hq,hx⟩:=hg;obtain ⟨its,rv,p,hz⟩:=I.list hq;obtain ⟨f0,f1,f2,f3,f4,f5⟩:=hf it (8:);have hl:=rv.length;exact wpAny_pyNext_list_end (I.ok.hd hc) st p.isList (49:) λ h' eb=>⟨rfl,I.turned (t':=s.toks) (λ b o hb e=>eb b o hb e) f0 f1 f3 f4 f5⟩
 self:=λ _ _ _ _ _ st h=>wpAny_pyIter_listiter st h
def zmY {P:Program} {w:World} {K:PySem.W.Frag} {tg:Expr} (a it:Addr):Turn P w K tg (Itt K a) [it] it (λ i h=>h.IsTupleIter it a i) where
 mem:=by simp
 obj:=λ i h st b hb=>by
  have e:b=it:=by simpa using hb
  subst e;obtain ⟨o,e,c,d⟩:=st;exact ⟨o,e,λ v z=>by rw [d] at z; cases z⟩
 keep:=λ i h h' st k=>st.at λ o e=>k it (8:) o e
 item:=by
  intro X hP hw hK hc i pins s σ H E I hf st hg;subst hP hw hK;obtain ⟨xs,x,hq,hx⟩:=hg;obtain ⟨its,rv,p,hz⟩:=I.tuple hq;obtain ⟨u,hu,ru⟩:=rv.get hx;obtain ⟨f0,f1,f2,f3,f4,f5⟩:=hf it (8:);refine wpAny_pyNext_tuple_item st (show s.heap.IsTuple a its.toArray from p) (x:=u) (by simpa using hu) λ h' st' sb=>?_;have I1:Inv X pins σ H { s with heap:=h' }:=I.turned (t':=s.toks) (λ b o hb e=>(sb.2 b hb).trans e) f0 f1 f3 f4 f5;obtain ⟨o,e,c,d⟩:=id st';exact ⟨u,rfl,zpp (s:={ s with heap:=h' }) e c d (3:) ⟨x,H,I1,ru,⟨rfl,λ ys hy=>by rw [I.tuple_inj hy hq]; exact hx⟩,st',λ b hb=>(hf b hb).1⟩⟩
 done:=by
  intro X hP hw hK hc i pins s σ H E I hf st hg;subst hP hw hK;obtain ⟨xs,hq,hx⟩:=hg;obtain ⟨its,rv,p,hz⟩:=I.tuple hq;obtain ⟨f0,f1,f2,f3,f4,f5⟩:=hf it (8:);have hl:=rv.length;exact wpAny_pyNext_tuple_end (I.ok.hd hc) st (show s.heap.IsTuple a its.toArray from p) (49:) λ h' eb=>⟨rfl,I.turned (t':=s.toks) (λ b o hb e=>eb b o hb e) f0 f1 f3 f4 f5⟩
 self:=λ _ _ _ _ _ st h=>wpAny_pyIter_tupleiter st h
def zmG {P:Program} {w:World} {K:PySem.W.Frag} {tg:Expr} (it:Addr) (lo:Int) (n:Nat):Turn P w K tg (Itr lo n) [it] it (λ i h=>IsRangeIter h it (lo + (i:Nat) * 1) ((n:Int) - (i:Nat)) 1) where
 mem:=by simp
 obj:=λ i h st b hb=>by
  have e:b=it:=by simpa using hb
  subst e
  exact ⟨_,st,λ v z=>by
   have z':Data.fields _=Data.cell v:=z;cases z'⟩
 keep:=λ i h h' st k=>k it (8:) _ st
 item:=by
  intro X hP hw hK hc i pins s σ H E I hf st hg;subst hP hw hK;obtain ⟨f0,f1,f2,f3,f4,f5⟩:=hf it (8:);have W:=Walks.range (prog:=X.prog) (w:=X.w) (I.ok.hd hc) it lo 1 n;refine W.item i s _ _ hg st λ v h' tk hv st' kk=>?_;obtain ⟨t,rfl⟩:=hv;have I1:Inv X pins σ H { s with heap:=h',toks:=tk }:=I.turned (λ b o hb e=>kk b o (by simpa using hb) e) f0 f1 f3 f4 f5;refine ⟨_,rfl,zpp (s:={ s with heap:=h',toks:=tk }) (n:="range_iterator") st' rfl rfl (3:) ⟨.int (lo + i),H,I1,⟨t,?_⟩,⟨rfl,rfl⟩,st',λ b hb=>(hf b hb).1⟩⟩;rw [Int.mul_one]
 done:=by
  intro X hP hw hK hc i pins s σ H E I hf st hg;subst hP hw hK;obtain ⟨f0,f1,f2,f3,f4,f5⟩:=hf it (8:);exact wpAny_pyNext_range_end (I.ok.hd hc) st (by have:n <= i:=hg; omega) λ h' eb=>⟨rfl,I.turned (t':=s.toks) (λ b o hb e=>eb b o hb e) f0 f1 f3 f4 f5⟩
 self:=λ _ _ _ _ _ st h=>wpAny_pyIter_rangeiter st h
section
variable {X:Cx} {tg:Expr}
def zpr {pins:List (Addr × Obj)} {σ:St} {H:Hp} {s:Shared} {R:It -> Hp -> Prop} {E:Value -> Shared -> Prop} {lo hi:Int} {t u v:Tok} {tk:Nat} (I:Inv X pins σ H s) (h1:-(2 ^ 62) <= lo) (h2:lo < 2 ^ 62) (h3:-(2 ^ 62) <= hi) (h4:hi < 2 ^ 62)
  (q:R (Itr lo (hi - lo).toNat) H):wpAny (model X.prog X.w) X.A (pyIter (.ref s.heap.objs.size)) (PIE X pins σ tg R) E { s with heap:=s.heap.push { cls:=.type "range",data:=.fields #[.int lo t,.int hi u,.int 1 v] },toks:=tk }:=by
 refine wpAny_pyIter_range (IsRange.new ..) (small_one h1 h2 h3 h4) ?_;have I1:Inv X pins σ H { s with heap:=s.heap.push { cls:=.type "range",data:=.fields #[.int lo t,.int hi u,.int 1 v] },toks:=tk }:=I.kept λ b o e=>yam _ e
 refine ⟨(s.heap.push { cls:=.type "range",data:=.fields #[.int lo t,.int hi u,.int 1 v] }).objs.size,[(s.heap.push { cls:=.type "range",data:=.fields #[.int lo t,.int hi u,.int 1 v] }).objs.size],_,_,H,rfl,
  I1.kept (t':=tk) λ b o e=>yam _ e,zmG _ lo (hi - lo).toNat,?_,λ b hb=>?_,q⟩
 ·have e1 : lo + ((0 : Nat) : Int) * 1 = lo := by simp
  have e2:(((hi - lo).toNat:Nat):Int) - ((0:Nat):Int)=Builtin.Range.rangeSize lo hi 1:=by rw [rangeSize_one]; split <;> omega
  show IsRangeIter _ _ (lo + ((0:Nat):Int) * 1) ((((hi - lo).toNat:Nat):Int) - ((0:Nat):Int)) 1;rw [e1,e2];exact yaF _ rfl
 ·have e : b = (s.heap.push { cls := .type "range", data := .fields #[.int lo t, .int hi u, .int 1 v] }).objs.size := by simpa using hb
  subst e;exact I1.fpOk (yaj _) (I1.hok.fresh (yaj _))
noncomputable def zrs (ta:TA):TI:=λ σ H R=>ta σ H λ vs H1=>∃ j:Int,vs=[.int j] /\ -(2 ^ 62) <= j /\ j < 2 ^ 62 /\ R (Itr 0 j.toNat) H1
def zaT {a:Expr} {ta:TA} {p pos:Pos} (hg:Gl X "range") (hm:X.mg "range"=none) (ha:PA X [a] ta) (hs:starEach [a] X.env=[(false,eval a X.env)]:=by rfl):PI X tg (.Call (.Name "range" p) [a] [] pos) (zrs ta):=by
 intro pins s σ H R I h;refine Call_ (zcH I hg hm boot_range (yaL (thn (ha pos pins s σ H _ I h) λ us s1 ⟨vs,H1,I1,r1,q1⟩=>?_) hs rfl));obtain ⟨j,e,q1,q2,q⟩:=q1;subst e;cases r1 with
 | cons r rr=>
  cases rr;obtain ⟨t,rfl⟩:=r;exact call_range_1 (zpr I1 (1:) (1:) q1 q2 (by simpa using q))
noncomputable def tFor (wi:TI) (g:TG) (tb:TS):TS:=λ D σ H=>wi σ H λ J H1=>∃ W:Nat -> Nat -> St -> Hp -> Prop,(∃ m,W 0 m σ H1) /\ ∀ i m σ H,W i m σ H ->
 (J.stop i H /\ D.nx σ H) \/ (J.go i H /\ ∃ N:St -> Hp -> Prop,(∀ σ' H',N σ' H' -> ∃ m',m' < m /\ W (i + 1) m' σ' H') /\ ∀ x H',J.yld i H x H' -> g x σ H' λ σ2 H2=>tb { D with nx:=N,ct:=N,bk:=D.nx } σ2 H2)
noncomputable def zjq (fp:List Addr) (h:Heap):List (Addr × Obj):=fp.filterMap λ b=>(h.get? b).map λ o=>(b,o)
def zfy {fp:List Addr} {h:Heap} {b:Addr} {o:Obj} (hb:b ∈ fp) (e:h.get? b=some o):(b,o) ∈ zjq fp h:=List.mem_filterMap.mpr ⟨b,hb,by rw [e]; rfl⟩
def zn2 {fp:List Addr} {h:Heap} {p:Addr × Obj} (hp:p ∈ zjq fp h):p.1 ∈ fp /\ h.get? p.1=some p.2:=by
 obtain ⟨b,hb,e⟩:=List.mem_filterMap.mp hp;cases q:h.get? b with
 | none=>rw [q] at e; cases e
 | some o=>
  rw [q] at e;have e':(b,o)=p:=Option.some.inj e;subst e';exact ⟨hb,q⟩
def Inv.pinned {pins:List (Addr × Obj)} {σ:St} {H:Hp} {s:Shared} {fp:List Addr} (I:Inv X pins σ H s) (hf:∀ b ∈ fp,FpOk X pins H b) (ho:∀ b ∈ fp,∃ o,s.heap.get? b=some o /\ ∀ v,o.data ≠ .cell v):Inv X (pins ++ zjq fp s.heap) σ H s:=
 I.pins_of λ p hp=>(yaA.mp hp).elim (λ z=>I.pin p (yaP _ z)) λ z=>by
  obtain ⟨hb,e⟩:=zn2 z;obtain ⟨f0,f1,f2,_⟩:=hf p.1 hb;obtain ⟨o,e',d⟩:=ho p.1 hb;rw [e] at e'; cases e';exact ⟨e,f0,f1,f2,d⟩
def Inv.unpinned {pins pl:List (Addr × Obj)} {σ:St} {H:Hp} {s:Shared} (I:Inv X (pins ++ pl) σ H s):Inv X pins σ H s:=I.pins_of λ p hp=>I.pin p (yaP _ (ybI _ hp))
def zbq {iter:Expr} {body:List Stmt} {wi:TI} {g:TG} {tb:TS} {pos:Pos} (hp:PassesOwn (model X.prog X.w) X.A X.env X.xe) (hc:X.calm=true) (hi:PI X tg iter wi) (hg:PG X tg g) (hb:PSs X body tb)
  (hs:∀ x,foldedSetIterable iter X.env x=pure x:=by intro _; rfl):PS X (.For tg iter body [] pos) (tFor wi g tb):=by
 intro pins s σ H D I h;refine wpAny_For (thn (hi pins s σ H _ I h) λ v s1 h1=>thn h1 λ itv s2 h2=>?_) hs;obtain ⟨it,fp,tn,J,H2,e,I2,T,st2,f2,W,⟨m0,w0⟩,turn⟩:=h2;subst e
 -- what stays true of the iterator's objects through the loop
 have stat:∀ {H':Hp},(∀ b ∈ fp,H' b=none) -> ∀ b ∈ fp,FpOk X pins H' b:=λ hn b hb=>⟨hn b hb,(f2 b hb).2⟩
 refine codeAny_forLoop_any (λ n s'=>∃ i σ' H',Inv X pins σ' H' s' /\ tn i s'.heap /\ (∀ b ∈ fp,H' b=none) /\ W i n σ' H') ?_ m0 ⟨0,σ,H2,I2,st2,λ b hb=>(f2 b hb).1,w0⟩;rintro n s3 ⟨i,σ3,H3,I3,st3,fr3,w3⟩;rcases turn i n σ3 H3 w3 with ⟨stop,qn⟩ | ⟨go,N,hN,step⟩
 ·refine wpAny_passesOwn hp (thn (T.done X rfl rfl rfl hc i pins s3 σ3 H3 X.xe I3 (stat fr3) st3 stop) λ r s4 ⟨hr,I4⟩=>?_);subst hr;exact wpAny_execs_nil ⟨σ3,H3,I4,qn⟩
 ·refine wpAny_passesOwn hp (thn (T.item X rfl rfl rfl hc i pins s3 σ3 H3 X.xe I3 (stat fr3) st3 go) fun r s4 ⟨u, hr, h4⟩ => ?_);subst hr;refine wpAny_passesOwn hp (thn h4 fun _ s5 ⟨x, H5, I5, r5, y5, st5, fr5⟩ => ?_);have I5' := I5.pinned (stat fr5) (T.obj _ _ st5);refine wpAny_passesOwn hp (thn (hg _ s5 σ3 H5 x u _ I5' r5 (step x H5 y5)) fun _ s6 ⟨σ6, H6, I6, q6⟩ => ?_);refine wpAny_passesOwn hp (thn (hb _ s6 σ6 H6 _ I6 q6) fun f s7 q7 => ?_)
  have again:∀ {σ7:St} {H7:Hp},Inv X (pins ++ zjq fp s5.heap) σ7 H7 s7 -> N σ7 H7 -> ∃ m,m < n /\ ∃ i σ' H',Inv X pins σ' H' s7 /\ tn i s7.heap /\ (∀ b ∈ fp,H' b=none) /\ W i m σ' H':=λ {σ7 H7} I7 n7=>by
   obtain ⟨m',hm,w7⟩:=hN σ7 H7 n7;refine ⟨m',hm,i + 1,σ7,H7,I7.unpinned,T.keep _ _ _ st5 λ b hb o e=>(I7.pin (b,o) (yaP _ (yaP _ (zfy hb e)))).1,λ b hb=>?_,w7⟩;obtain ⟨o,e,d⟩:=T.obj _ _ st5 b hb;exact (I7.pin (b,o) (yaP _ (yaP _ (zfy hb e)))).2.1
  cases f with
  | next=>obtain ⟨σ7,H7,I7,n7⟩:=q7; exact again I7 n7
  | cont=>obtain ⟨σ7,H7,I7,n7⟩:=q7; exact again I7 n7
  | brk=>obtain ⟨σ7,H7,I7,q7⟩:=q7; exact ⟨σ7,H7,I7.unpinned,q7⟩
  | ret v=>obtain ⟨x7,σ7,H7,I7,r7,q7⟩:=q7; exact ⟨x7,σ7,H7,I7.unpinned,r7,q7⟩
end
def zlq {K:PySem.W.Frag} {a:Addr} {xs:List V} {g:TG} {tb:TS} {D:Ends} {σ:St} {H:Hp} (Pv:Nat -> St -> Hp -> Prop) (h0:Pv 0 σ H) (hl:∀ i σ H,i <= xs.length -> Pv i σ H -> SqL K H a xs)
  (hs:∀ i x σ H,xs[i]?=some x -> Pv i σ H -> g x σ H λ σ2 H2=>tb { D with nx:=Pv (i + 1),ct:=Pv (i + 1),bk:=D.nx } σ2 H2) (hd:∀ σ H,Pv xs.length σ H -> D.nx σ H) :
  ∃ W:Nat -> Nat -> St -> Hp -> Prop,(∃ m,W 0 m σ H) /\ ∀ i m σ H,W i m σ H ->
   ((Itl K a).stop i H /\ D.nx σ H) \/ ((Itl K a).go i H /\ ∃ N:St -> Hp -> Prop,(∀ σ' H',N σ' H' -> ∃ m',m' < m /\ W (i + 1) m' σ' H') /\ ∀ x H',(Itl K a).yld i H x H' -> g x σ H' λ σ2 H2=>tb { D with nx:=N,ct:=N,bk:=D.nx } σ2 H2):=by
 refine ⟨λ i m σ H=>m=xs.length - i /\ i <= xs.length /\ Pv i σ H,⟨xs.length,by simp,ybA _,h0⟩,?_⟩;rintro i m σ H ⟨rfl,hi,p⟩;have q:=hl i σ H hi p;by_cases hlt:i < xs.length
 ·refine .inr ⟨⟨xs,xs[i],q,by simp [hlt]⟩,Pv (i + 1),λ σ' H' p'=>⟨xs.length - (i + 1),by omega,rfl,hlt,p'⟩,λ x H' y=>?_⟩;obtain ⟨e,y⟩:=y;subst e;exact hs i x σ _ (y xs q) p
 ·have e : i = xs.length := by omega
  subst e;exact .inl ⟨⟨xs,q,yaj _⟩,hd σ H p⟩
def zrg {K:PySem.W.Frag} {a:Addr} {xs:List V} {g:TG} {tb:TS} {D:Ends} {σ:St} {H:Hp} (Pv:Nat -> St -> Hp -> Prop) (h0:Pv 0 σ H) (hl:∀ i σ H,i <= xs.length -> Pv i σ H -> SqT K H a xs)
  (hs:∀ i x σ H,xs[i]?=some x -> Pv i σ H -> g x σ H λ σ2 H2=>tb { D with nx:=Pv (i + 1),ct:=Pv (i + 1),bk:=D.nx } σ2 H2) (hd:∀ σ H,Pv xs.length σ H -> D.nx σ H) :
  ∃ W:Nat -> Nat -> St -> Hp -> Prop,(∃ m,W 0 m σ H) /\ ∀ i m σ H,W i m σ H ->
   ((Itt K a).stop i H /\ D.nx σ H) \/ ((Itt K a).go i H /\ ∃ N:St -> Hp -> Prop,(∀ σ' H',N σ' H' -> ∃ m',m' < m /\ W (i + 1) m' σ' H') /\ ∀ x H',(Itt K a).yld i H x H' -> g x σ H' λ σ2 H2=>tb { D with nx:=N,ct:=N,bk:=D.nx } σ2 H2):=by
 refine ⟨λ i m σ H=>m=xs.length - i /\ i <= xs.length /\ Pv i σ H,⟨xs.length,by simp,ybA _,h0⟩,?_⟩;rintro i m σ H ⟨rfl,hi,p⟩;have q:=hl i σ H hi p;by_cases hlt:i < xs.length
 ·refine .inr ⟨⟨xs,xs[i],q,by simp [hlt]⟩,Pv (i + 1),λ σ' H' p'=>⟨xs.length - (i + 1),by omega,rfl,hlt,p'⟩,λ x H' y=>?_⟩;obtain ⟨e,y⟩:=y;subst e;exact hs i x σ _ (y xs q) p
 ·have e : i = xs.length := by omega
  subst e;exact .inl ⟨⟨xs,q,yaj _⟩,hd σ H p⟩
def zpc {lo:Int} {n:Nat} {g:TG} {tb:TS} {D:Ends} {σ:St} {H:Hp} (Pv:Nat -> St -> Hp -> Prop) (h0:Pv 0 σ H)
  (hs:∀ i σ H,i < n -> Pv i σ H -> g (.int (lo + i)) σ H λ σ2 H2=>tb { D with nx:=Pv (i + 1),ct:=Pv (i + 1),bk:=D.nx } σ2 H2) (hd:∀ σ H,Pv n σ H -> D.nx σ H) :
  ∃ W:Nat -> Nat -> St -> Hp -> Prop,(∃ m,W 0 m σ H) /\ ∀ i m σ H,W i m σ H ->
   ((Itr lo n).stop i H /\ D.nx σ H) \/ ((Itr lo n).go i H /\ ∃ N:St -> Hp -> Prop,(∀ σ' H',N σ' H' -> ∃ m',m' < m /\ W (i + 1) m' σ' H') /\ ∀ x H',(Itr lo n).yld i H x H' -> g x σ H' λ σ2 H2=>tb { D with nx:=N,ct:=N,bk:=D.nx } σ2 H2):=by
 refine ⟨λ i m σ H=>m=n - i /\ i <= n /\ Pv i σ H,⟨n,by simp,ybA _,h0⟩,?_⟩;rintro i m σ H ⟨rfl,hi,p⟩;by_cases hlt:i < n
 ·refine .inr ⟨hlt,Pv (i + 1),λ σ' H' p'=>⟨n - (i + 1),by omega,rfl,hlt,p'⟩,λ x H' y=>?_⟩;obtain ⟨e,y⟩:=y;subst e y;exact hs i σ _ hlt p
 ·have e : i = n := by omega
  subst e;exact .inl ⟨yaj _,hd σ H p⟩
noncomputable abbrev R2:=V -> V -> Hp -> VK -> Prop
noncomputable def OpR (X:Cx) (f:Value -> Value -> Sem Value) (r:R2):Prop:=
 ∀ (pins:List (Addr × Obj)) (s:Shared) (σ:St) (H:Hp) (x y:V) (v u:Value) (Q:VK),Inv X pins σ H s -> RelV x v -> RelV y u -> r x y H Q ->
  wpAny (model X.prog X.w) X.A (f v u) (EP X pins σ Q) X.xe s
noncomputable def UnR (X:Cx) (f:Value -> Sem Value) (r:V -> Hp -> VK -> Prop):Prop:=
 ∀ (pins:List (Addr × Obj)) (s:Shared) (σ:St) (H:Hp) (x:V) (v:Value) (Q:VK),Inv X pins σ H s -> RelV x v -> r x H Q ->
  wpAny (model X.prog X.w) X.A (f v) (EP X pins σ Q) X.xe s
noncomputable def zdq (X:Cx) (f:Value) (r:List V -> Hp -> VK -> Prop):Prop:=
 ∀ (pins:List (Addr × Obj)) (s:Shared) (σ:St) (H:Hp) (xs:List V) (us:List Value) (Q:VK),Inv X pins σ H s -> Vals xs us -> r xs H Q ->
  wpAny (model X.prog X.w) X.A (call f us) (EP X pins σ Q) X.xe s
noncomputable def tOp (r:R2) (ta tb:TE):TE:=λ σ H Q=>ta σ H λ x H1=>tb σ H1 λ y H2=>r x y H2 Q
noncomputable def tUn (r:V -> Hp -> VK -> Prop) (ta:TE):TE:=λ σ H Q=>ta σ H λ x H1=>r x H1 Q
noncomputable def rI (C:Int -> Int -> Prop) (g:Int -> Int -> V):R2:=λ x y H Q=>∃ i j,x=.int i /\ y=.int j /\ C i j /\ Q (g i j) H
noncomputable def rI0 (g:Int -> Int -> V):R2:=λ x y H Q=>∃ i j,x=.int i /\ y=.int j /\ Q (g i j) H
noncomputable def rU (g:Int -> V):V -> Hp -> VK -> Prop:=λ x H Q=>∃ i,x=.int i /\ Q (g i) H
section
variable {X:Cx} {a b c:Expr} {ta tb tc:TE} {pos:Pos}
def binT (ha:PE X a ta) (hb:PE X b tb) {pins:List (Addr × Obj)} {s:Shared} {σ:St} {H:Hp} {R:V -> V -> Hp -> Prop} (I:Inv X pins σ H s)
  (h:ta σ H λ x H1=>tb σ H1 λ y H2=>R x y H2) {Q:Value -> Shared -> Prop} {f:Value -> Value -> Sem Value}
  (hf:∀ v u s2 x y H2,Inv X pins σ H2 s2 -> RelV x v -> RelV y u -> R x y H2 -> wpAny (model X.prog X.w) X.A (f v u) Q X.xe s2) :
  wpAny (model X.prog X.w) X.A (eval a X.env) (λ v s₁=>wpAny (model X.prog X.w) X.A (eval b X.env) (λ u s₂=>wpAny (model X.prog X.w) X.A (f v u) Q X.xe s₂) X.xe s₁) X.xe s:=by
 refine thn (ha pins s σ H _ I h) λ v s1 ⟨x,H1,I1,r1,q1⟩=>?_;refine thn (hb pins s1 σ H1 _ I1 q1) λ u s2 ⟨y,H2,I2,r2,q2⟩=>?_;exact hf v u s2 x y H2 I2 r1 r2 q2
def zap {op:Operator} {r:R2} (ho:OpR X (binaryOp op) r) (ha:PE X a ta) (hb:PE X b tb):PE X (.BinOp a op b pos) (tOp r ta tb):=by
 intro pins s σ H Q I h;exact wpAny_BinOp (binT ha hb I h λ v u s2 x y H2 I2 rx ry q=>ho pins s2 σ H2 x y v u Q I2 rx ry q)
def zoL {op:UnaryOp} {r:V -> Hp -> VK -> Prop} (ho:UnR X (unaryOp op) r) (ha:PE X a ta):PE X (.UnaryOp op a pos) (tUn r ta):=by
 intro pins s σ H Q I h;exact UnaryOp_ (thn (ha pins s σ H _ I h) λ v s1 ⟨x,H1,I1,r1,q1⟩=>ho pins s1 σ H1 x v Q I1 r1 q1)
def opI {f:Value -> Value -> Sem Value} {C:Int -> Int -> Prop} {g:Int -> Int -> Int}
    (rule:∀ (i j:Int) (t u:Tok) (s:Shared) (Q:Value -> Shared -> Prop) (E:Value -> Shared -> Prop),C i j -> Q (.int (g i j) s.toks) { s with toks:=s.toks + 1 } -> wpAny (model X.prog X.w) X.A (f (.int i t) (.int j u)) Q E s) :
    OpR X f (rI C λ i j=>.int (g i j)):=by
  intro pins s σ H x y v u Q I rx ry h;obtain ⟨i,j,rfl,rfl,hc,q⟩:=h;obtain ⟨t,rfl⟩:=rx;obtain ⟨t',rfl⟩:=ry;exact rule i j t t' s _ _ hc ⟨.int (g i j),H,I.tok _,⟨_,rfl⟩,q⟩
def opI0 {f:Value -> Value -> Sem Value} {g:Int -> Int -> Int}
    (rule:∀ (i j:Int) (t u:Tok) (s:Shared) (Q:Value -> Shared -> Prop) (E:Value -> Shared -> Prop),Q (.int (g i j) s.toks) { s with toks:=s.toks + 1 } -> wpAny (model X.prog X.w) X.A (f (.int i t) (.int j u)) Q E s) :
    OpR X f (rI0 λ i j=>.int (g i j)):=by
  intro pins s σ H x y v u Q I rx ry h;obtain ⟨i,j,rfl,rfl,q⟩:=h;obtain ⟨t,rfl⟩:=rx;obtain ⟨t',rfl⟩:=ry;exact rule i j t t' s _ _ ⟨.int (g i j),H,I.tok _,⟨_,rfl⟩,q⟩
def opB0 {f:Value -> Value -> Sem Value} {g:Int -> Int -> Bool}
    (rule:∀ (i j:Int) (t u:Tok) (s:Shared) (Q:Value -> Shared -> Prop) (E:Value -> Shared -> Prop),Q (.bool (g i j)) s -> wpAny (model X.prog X.w) X.A (f (.int i t) (.int j u)) Q E s) :
    OpR X f (rI0 λ i j=>.bl (g i j)):=by
  intro pins s σ H x y v u Q I rx ry h;obtain ⟨i,j,rfl,rfl,q⟩:=h;obtain ⟨t,rfl⟩:=rx;obtain ⟨t',rfl⟩:=ry;exact rule i j t t' s _ _ ⟨.bl (g i j),H,I,rfl,q⟩
noncomputable def CPow (i j:Int):Prop:=0 <= j /\ j <= 1000000 /\ i.natAbs < 2 ^ 64
noncomputable def CMul (i j:Int):Prop:=(-(2 ^ 64) < i /\ i < 2 ^ 64) \/ (-(2 ^ 64) < j /\ j < 2 ^ 64)
def CMul.ok {i j:Int} (h:CMul i j):IntMulOk i j:=by
 rcases h with ⟨h1,h2⟩ | ⟨h1,h2⟩
 ·exact .of_left (intBits_le_64 h1 h2)
 ·exact .of_right (intBits_le_64 h1 h2)
def zm1 (k:Nat):(0:Int) <= 2 ^ k:=by
 rw [two_pow_cast];exact ybG _
def zrY:OpR X (binaryOp .Add) (rI0 λ i j=>.int (i + j)):=opI0 λ _ _ _ _ _ _ _ q=>add_int q
def zbk:OpR X (binaryOp .Sub) (rI0 λ i j=>.int (i - j)):=opI0 λ _ _ _ _ _ _ _ q=>sub_int q
def zsC:OpR X (binaryOp .Mult) (rI CMul λ i j=>.int (i * j)):=opI λ _ _ _ _ _ _ _ hc q=>mul_int q hc.ok
def zcO:OpR X (binaryOp .Mod) (rI (λ _ j=>0 < j) λ i j=>.int (i % j)):=opI λ i j _ _ _ _ _ hc q=>by
 have h1:(0:Int) < j:=hc;exact mod_int' (1:) (by rw [Int.fmod_eq_emod_of_nonneg i (1:)]; exact q)
def zsp:OpR X (binaryOp .Pow) (rI CPow λ i j=>.int (i ^ j.toNat)):=opI λ _ _ _ _ _ _ _ hc q=>pow_int_small hc.1 hc.2.1 hc.2.2 q
def zca:OpR X (binaryOp .LShift) (rI CPow λ i j=>.int (i * 2 ^ j.toNat)):=opI λ _ _ _ _ _ _ _ hc q=>lshift_int_small hc.1 hc.2.1 hc.2.2 q
def zhg:OpR X (binaryOp .RShift) (rI (λ _ j=>0 <= j) λ i j=>.int (i / 2 ^ j.toNat)):=opI λ i j _ _ _ _ _ hc q=>
 rshift_int hc (by rw [Int.fdiv_eq_ediv_of_nonneg i (zm1 _)]; exact q)
def zdj:OpR X (binaryOp .BitAnd) (rI0 λ i j=>.int (Builtin.bitAnd i j)):=opI0 λ _ _ _ _ _ _ _ q=>and_int q
def zko:OpR X (binaryOp .BitOr) (rI0 λ i j=>.int (Builtin.bitOr i j)):=opI0 λ _ _ _ _ _ _ _ q=>or_int q
def zh6:OpR X (binaryOp .BitXor) (rI0 λ i j=>.int (Builtin.bitXor i j)):=opI0 λ _ _ _ _ _ _ _ q=>xor_int q
def unI {f:Value -> Sem Value} {g:Int -> Int}
    (rule:∀ (i:Int) (t:Tok) (s:Shared) (Q:Value -> Shared -> Prop) (E:Value -> Shared -> Prop),Q (.int (g i) s.toks) { s with toks:=s.toks + 1 } -> wpAny (model X.prog X.w) X.A (f (.int i t)) Q E s) :
    UnR X f (rU λ i=>.int (g i)):=by
  intro pins s σ H x v Q I rx h;obtain ⟨i,rfl,q⟩:=h;obtain ⟨t,rfl⟩:=rx;exact rule i t s _ _ ⟨.int (g i),H,I.tok _,⟨_,rfl⟩,q⟩
def zkd:UnR X (unaryOp .USub) (rU λ i=>.int (-i)):=unI λ _ _ _ _ _ q=>neg_int q
end
section
variable {X:Cx} {a b c:Expr} {ta tb tc:TE} {pos:Pos}
def zqk {pins:List (Addr × Obj)} {σ:St} {H:Hp} {s:Shared} {Q:VK} {k k':Bool} (I:Inv X pins σ H s) (q:Q (.bl k) H) (e:k=k'):EP X pins σ Q (.bool k') s:=by
 subst e;exact ⟨.bl k,H,I,rfl,q⟩
def zpI:OpR X (compareOp .Lt) (rI0 λ i j=>.bl (decide (i < j))):=opB0 λ _ _ _ _ _ _ _ q=>lt_int q
def zsM:OpR X (compareOp .LtE) (rI0 λ i j=>.bl (decide (i <= j))):=opB0 λ _ _ _ _ _ _ _ q=>le_int q
def zoZ:OpR X (compareOp .Gt) (rI0 λ i j=>.bl (decide (j < i))):=opB0 λ _ _ _ _ _ _ _ q=>gt_int q
def zkH:OpR X (compareOp .GtE) (rI0 λ i j=>.bl (decide (j <= i))):=opB0 λ _ _ _ _ _ _ _ q=>ge_int q
def zsU:OpR X (compareOp .Is) (λ x y H Q=>y=.non /\ Q (.bl (decide (x=.non))) H):=by
 intro pins s σ H x y v u Q I rx ry h;obtain ⟨rfl,q⟩:=h;cases ry;refine is_none_gen (zqk I q ?_)
 cases x <;> first
  | (cases rx; rfl)
  | (obtain ⟨t,rfl⟩:=rx; rfl)
def zq9:OpR X (compareOp .IsNot) (λ x y H Q=>y=.non /\ Q (.bl (!decide (x=.non))) H):=by
 intro pins s σ H x y v u Q I rx ry h;obtain ⟨rfl,q⟩:=h;cases ry;refine isnot_none_gen (zqk I q ?_)
 cases x <;> first
  | (cases rx; rfl)
  | (obtain ⟨t,rfl⟩:=rx; rfl)
def OpR.or {f:Value -> Value -> Sem Value} {r r':R2} (h:OpR X f r) (h':OpR X f r'):OpR X f (λ x y H Q=>r x y H Q \/ r' x y H Q):=by
 intro pins s σ H x y v u Q I rx ry q;rcases q with q | q
 ·exact h pins s σ H x y v u Q I rx ry q
 ·exact h' pins s σ H x y v u Q I rx ry q
def zan (b:Expr) {op:CmpOp} (h:op ≠ .In:=by decide) (h2:op ≠ .NotIn:=by decide):behindInMarks op b=false:=by
 have e1:(op == CmpOp.In)=false:=by cases op <;> first | rfl | exact absurd rfl h
 have e2:(op == CmpOp.NotIn)=false:=by cases op <;> first | rfl | exact absurd rfl h2
 cases b <;> simp [behindInMarks,e1,e2]
def zcB {op:CmpOp} {r:R2} (ho:OpR X (compareOp op) r) (ha:PE X a ta) (hb:PE X b tb) (hm:behindInMarks op b=false):PE X (.Compare a [op] [b] pos) (tOp r ta tb):=by
 intro pins s σ H Q I h;exact wpAny_Compare1 (binT ha hb I h λ v u s2 x y H2 I2 rx ry q=>ho pins s2 σ H2 x y v u Q I2 rx ry q) hm
noncomputable def zsc (t:TE):TT:=λ σ H Q=>t σ H λ x H'=>∃ k,x=.bl k /\ Q k H'
def zal {op:CmpOp} {r:R2} (ho:OpR X (compareOp op) r) (ha:PE X a ta) (hb:PE X b tb) (hm:behindInMarks op b=false):PT X (.Compare a [op] [b] pos) (zsc (tOp r ta tb)):=by
 intro pins s σ H Q I h
 refine wpAny_isTrue_Compare1 (thn (ha pins s σ H _ I h) λ v s1 ⟨x,H1,I1,r1,q1⟩=>thn (hb pins s1 σ H1 _ I1 q1) λ u s2 ⟨y,H2,I2,r2,q2⟩=>
  thn (ho pins s2 σ H2 x y v u _ I2 r1 r2 q2) λ c s3 ⟨z,H3,I3,r3,k,e,q3⟩=>?_) hm
 subst e;cases r3;exact wpAny_truthy_bool ⟨H3,I3,q3⟩
noncomputable def zqe (r r':R2) (ta tb tc:TE):TE:=λ σ H Q=>ta σ H λ x H1=>tb σ H1 λ y H2=>r x y H2 λ z H3=>∃ k,z=.bl k /\
 (if k=true then tc σ H3 λ w' H4=>r' y w' H4 Q else Q (.bl false) H3)
def zpx {op op':CmpOp} {r r':R2} (ho:OpR X (compareOp op) r) (ho':OpR X (compareOp op') r') (ha:PE X a ta) (hb:PE X b tb) (hc:PE X c tc)
  (hm:lastMarks [op,op'] [b,c]=false:=by with_unfolding_all rfl):PE X (.Compare a [op,op'] [b,c] pos) (zqe r r' ta tb tc):=by
 intro pins s σ H Q I h
 refine Compare_chain (thn (ha pins s σ H _ I h) λ v s1 ⟨x,H1,I1,r1,q1⟩=>chain_link (thn (hb pins s1 σ H1 _ I1 q1) λ u s2 ⟨y,H2,I2,r2,q2⟩=>
  thn (ho pins s2 σ H2 x y v u _ I2 r1 r2 q2) λ d s3 ⟨z,H3,I3,r3,k,e,q3⟩=>?_)) hm
 subst e;cases r3;refine wpAny_truthy_bool ?_;cases k with
 | false=>exact ite_ff ⟨.bl false,H3,I3,rfl,q3⟩
 | true=>exact ite_tt (chain_last (thn (hc pins s3 σ H3 _ I3 q3) λ w' s4 ⟨z',H4,I4,r4,q4⟩=>ho' pins s4 σ H4 y z' u w' Q I4 r2 r4 q4))
def zkg:(sizeLine:Nat) < 2 ^ 63:=by rw [sizeLine_eq]; decide
def zqZ {x:V} {us:List Value} (r:Vals [x] us):∃ u,us=[u] /\ RelV x u:=by
 cases r with
 | cons r1 r2=>cases r2; exact ⟨_,rfl,r1⟩
def ztu {x y:V} {us:List Value} (r:Vals [x,y] us):∃ u w',us=[u,w'] /\ RelV x u /\ RelV y w':=by
 cases r with
 | cons r1 r2=>
  cases r2 with
  | cons r3 r4=>cases r4; exact ⟨_,_,rfl,r1,r3⟩
def zpY:zdq X (.builtin "abs") (λ xs H Q=>∃ i,xs=[.int i] /\ Q (.int (if i < 0 then -i else i)) H):=by
 intro pins s σ H xs us Q I r h;obtain ⟨i,rfl,q⟩:=h;obtain ⟨u,rfl,t,rfl⟩:=zqZ r;exact call_abs_int λ u tk=>⟨.int (if i < 0 then -i else i),H,I.tok _,⟨_,rfl⟩,q⟩
def zoX (hc:X.calm=true):zdq X (.builtin "min") (λ xs H Q=>∃ i j,xs=[.int i,.int j] /\ Q (.int (if j < i then j else i)) H):=by
 intro pins s σ H xs us Q I r h;obtain ⟨i,j,rfl,q⟩:=h;obtain ⟨u,w',rfl,⟨t,rfl⟩,⟨t',rfl⟩⟩:=ztu r;refine min_two_ints (I.ok.hd hc) λ h' tk k=>⟨_,H,I.kept k,?_,q⟩
 by_cases hj:j < i
 ·rw [if_pos hj,if_pos hj]; exact ⟨_,rfl⟩
 ·rw [if_neg hj,if_neg hj]; exact ⟨_,rfl⟩
noncomputable def LenV (K:PySem.W.Frag) (x:V) (H:Hp) (n:Nat):Prop:=
 match x with
 | .str y=>y.length <= sizeLine /\ n=y.length
 | .byt y=>y.size <= sizeLine /\ n=y.size
 | .ref p=>(∃ xs,SqL K H p xs /\ n=xs.length) \/ ∃ xs,SqT K H p xs /\ n=xs.length
 | _=>False
def zpV:zdq X (.builtin "len") (λ xs H Q=>∃ x n,xs=[x] /\ LenV X.K x H n /\ Q (.int n) H):=by
 intro pins s σ H xs us Q I r h;obtain ⟨x,n,rfl,e,q⟩:=h;obtain ⟨u,rfl,rx⟩:=zqZ r;have hl:=zkg;have hs:sizeLine=16777216:=sizeLine_eq;cases x with
 | str y=>
  obtain ⟨t,rfl⟩:=rx;obtain ⟨hy,e'⟩:y.length <= sizeLine /\ n=y.length:=e;subst e';exact len_str (1:) ⟨.int _,H,I.tok _,⟨_,rfl⟩,q⟩
 | byt y=>
  obtain ⟨t,rfl⟩:=rx;obtain ⟨hy,e'⟩:y.size <= sizeLine /\ n=y.size:=e;subst e';exact PySem.W.len_bytes (1:) ⟨.int _,H,I.tok _,⟨_,rfl⟩,q⟩
 | ref p=>
  cases rx;have e':(∃ xs,SqL X.K H p xs /\ n=xs.length) \/ ∃ xs,SqT X.K H p xs /\ n=xs.length:=e;rcases e' with ⟨xs,hx,e'⟩ | ⟨xs,hx,e'⟩
  ·subst e';obtain ⟨its,r',pl,hz⟩:=I.list hx;have hlen:=r'.length;exact Calls.call_len_list pl.isList (by simp only [yas]; omega) ⟨.int xs.length,H,I.tok _,⟨_,by simp only [yas]; rw [hlen]⟩,q⟩
  ·subst e';obtain ⟨its,r',pl,hz⟩:=I.tuple hx;have hlen:=r'.length;exact len_tuple pl (by simp only [yas]; omega) ⟨.int xs.length,H,I.tok _,⟨_,by simp only [yas]; rw [hlen]⟩,q⟩
 | _=>exact (show False from e).elim
end
structure ObjM (h:Heap) (x dx C:Addr) (mA:Str -> Option Value):Prop where
 obj:h.get? x=some (PySem.W.instObj C dx)
 ns:h.Ns1 dx mA
 ne:dx ≠ x
def znY {h:Heap} {dx:Addr} {mA:Str -> Option Value} (n:h.Ns1 dx mA):∃ od,h.get? dx=some od /\ ∀ name,PySem.W.lookIn name od=some (mA name):=by
 obtain ⟨o,es,ep,ho,hd,hk,_,hm⟩:=n;refine ⟨o,ho,λ name=>?_⟩;have e:=hm name;unfold nsFind findBy at e;rw [<- Array.find?_toList] at e;unfold PySem.W.lookIn;rw [hd];dsimp only
 split
 ·rename_i y q;rw [q] at e;exact congrArg some e
 ·rename_i q;rw [q] at e
  have a:es.toList.any (·.refKey)=false:=by
   rw [List.any_eq_false];intro y hy;obtain ⟨z,t,hkey⟩:=hk y (Array.mem_toList_iff.mp hy);simp [DictEntry.refKey,hkey]
  have a':¬ es.toList.any (·.refKey)=true:=by rw [a]; exact yaI
  rw [if_neg a'];exact congrArg some e
def ObjM.look {h:Heap} {x dx C:Addr} {mA:Str -> Option Value} (I:ObjM h x dx C mA):∃ od,PySem.W.InstAt h x (PySem.W.instObj C dx) C (some od) /\ ∀ name,PySem.W.lookIn name od=some (mA name):=
 let ⟨od,ho,hl⟩:=znY I.ns
 ⟨od,⟨I.obj,rfl,rfl,ho⟩,hl⟩
section
variable {prog:Program} {w:World} {A:Around} {E:Value -> Shared -> Prop} {s:Shared} {K:PySem.W.Frag} {x dx C f:Addr} {mA:Str -> Option Value} {name:Str} {v:Value}
end
section
variable {P:Program} {w:World} {H H':Hp} {h h':Heap} {a C dx:Addr} {fs fs':List (Str × V)}
def zqF (hok:HOk P w H h) (e:H a=some (.ins C dx fs)):∃ mA,ObjM h a dx C mA /\ (∀ f,RelO (fs.lookup f) (mA f)) /\ PySem.Within mA (fs.map (·.1)) /\ fs.length <= 1000 /\ H dx=some (.own a):=by
 obtain ⟨d,z,ne,ob,mA,n,r,q⟩:=(show zda P w H h a (.ins C dx fs) from hok a _ e)
 exact ⟨mA,⟨ob,n,ne⟩,r,q,z,d⟩
end
structure Cls (K:PySem.W.Frag) (C:Addr):Prop where
 pg:PySem.W.plainGet K C Str.empty=true
 hd:PySem.W.hasDictIn K C=true
 po:PySem.W.plainOver K C=true
 sa:PySem.W.findIn K (.ref C) "__setattr__"=some (some (.builtin "object.__setattr__"))
def Cls.get {K:PySem.W.Frag} {C:Addr} (c:Cls K C) (f:Str):PySem.W.plainGet K C f=true:=c.pg
section
variable {X:Cx} {pins:List (Addr × Obj)} {σ:St} {H:Hp} {s:Shared} {a C dx:Addr} {fs:List (Str × V)} {f:Str} {v:V} {A:Around} {E:Value -> Shared -> Prop}
end
section
variable {X:Cx} {o e value:Expr} {f:Str} {pos pos' tpos:Pos} {ta tv:TE}
end
section
variable {X:Cx} {pins:List (Addr × Obj)} {σ:St} {H:Hp} {s:Shared} {A:Around} {E:Value -> Shared -> Prop} {Q:Value -> Shared -> Prop} {c:Value} {b:Bool}
inductive TyOf (K:PySem.W.Frag) (H:Hp):V -> Value -> Prop where
 | non:TyOf K H .non (.type "NoneType")
 | bl (x:Bool):TyOf K H (.bl x) (.type "bool")
 | int (i:Int):TyOf K H (.int i) (.type "int")
 | str (x:Str):TyOf K H (.str x) (.type "str")
 | flt (x:UInt64):TyOf K H (.flt x) (.type "float")
 | lst {a:Addr} {xs:List V} (e:H a=some (.lst xs)):TyOf K H (.ref a) (.type "list")
 | frz {a:Addr} {o:Obj} {xs:List V} (e:H a=some (.frz o (.lst xs))):TyOf K H (.ref a) (.type "list")
 | tup {a:Addr} {xs:List V} (e:H a=some (.tup xs)):TyOf K H (.ref a) (.type "tuple")
 | dK {a:Addr} {kvs:List (Key × V)} (e:H a=some (.dK kvs)):TyOf K H (.ref a) (.type "dict")
 | dT {a:Addr} {kvs:List (List Key × V)} (e:H a=some (.dT kvs)):TyOf K H (.ref a) (.type "dict")
 | ins {a C dx:Addr} {fs:List (Str × V)} (e:H a=some (.ins C dx fs)) (cl:Cls K C) (ha:PySem.W.findIn K (.ref C) "__class__"=some (some (.builtin "object.__class__")))
   (hn:PySem.W.specialIn K (.builtin "object.__class__") "__get__"=some (some (.builtin "getset_descriptor.__get__"))) (htk:PySem.W.takesIn K (.builtin "object.__class__")=some true)
   (hm:PySem.W.mroIn K C (.type "object")=some true):TyOf K H (.ref a) (.ref C)
def znS {x:V} {u t:Value} (I:Inv X pins σ H s) (rx:RelV x u) (ty:TyOf X.K H x t) (e:PySem.W.kitOne X.K t c=some b) (h:∀ tk,Q (.bool b) { s with toks:=tk }) :
  wpAny (model X.prog X.w) A (call (.builtin "isinstance") [u,c]) Q E s:=by
 cases ty with
 | non=>cases (show u=Value.none from rx); exact ybe PySem.W.kitx_none I.kIn True.intro e (λ z=>nomatch z) h
 | bl y=>cases (show u=Value.bool y from rx); exact ybe PySem.W.kitx_bool I.kIn True.intro e (λ z=>nomatch z) h
 | int i=>obtain ⟨t,q⟩:=(show ∃ t,u=Value.int i t from rx); cases q; exact ybe PySem.W.kitx_int I.kIn True.intro e (λ z=>nomatch z) h
 | str y=>obtain ⟨t,q⟩:=(show ∃ t,u=Value.str y t from rx); cases q; exact ybe PySem.W.kitx_str I.kIn True.intro e (λ z=>nomatch z) h
 | flt y=>obtain ⟨t,q⟩:=(show ∃ t,u=Value.float y t from rx); cases q; exact ybe PySem.W.kitx_float I.kIn True.intro e (λ z=>nomatch z) h
 | @lst a xs ea=>
  cases (show u=Value.ref a from rx);obtain ⟨_,_,n,_,h1⟩:=(show zda X.prog X.w H s.heap a (.lst xs) from I.hok a _ ea)
  exact ybe PySem.W.kitx_list I.kIn ⟨_,h1,rfl⟩ e (λ z=>nomatch z) h
 | @frz a ob xs ea=>
  cases (show u=Value.ref a from rx);obtain ⟨_,_,_,n,_,h1⟩:=(show zda X.prog X.w H s.heap a (.frz ob (.lst xs)) from I.hok a _ ea)
  exact ybe PySem.W.kitx_list I.kIn ⟨_,h1,rfl⟩ e (λ z=>nomatch z) h
 | @tup a xs ea=>
  cases (show u=Value.ref a from rx);obtain ⟨_,_,_,p⟩:=(show zda X.prog X.w H s.heap a (.tup xs) from I.hok a _ ea)
  obtain ⟨o,h1,h2,_⟩:=p;exact ybe PySem.W.kitx_tuple I.kIn ⟨o,h1,h2⟩ e (λ z=>nomatch z) h
 | @dK a kvs ea=>
  cases (show u=Value.ref a from rx);obtain ⟨_,_,vs,_,p⟩:=(show zda X.prog X.w H s.heap a (.dK kvs) from I.hok a _ ea)
  obtain ⟨o,es,ep,h1,h2,_⟩:=p;exact ybe PySem.W.kitx_dict I.kIn ⟨o,h1,h2.1⟩ e (λ z=>nomatch z) h
 | @dT a kvs ea=>
  cases (show u=Value.ref a from rx);obtain ⟨_,_,xs,_,o,es,ep,h1,h2,_⟩:=(show zda X.prog X.w H s.heap a (.dT kvs) from I.hok a _ ea)
  exact ybe PySem.W.kitx_dict I.kIn ⟨o,h1,h2.1⟩ e (λ z=>nomatch z) h
 | @ins a C dx fs ea cl ha hn htk hm=>
  cases (show u=Value.ref a from rx);obtain ⟨mA,O,_⟩:=zqF I.hok ea;obtain ⟨od,J,_⟩:=O.look;exact ybe (PySem.W.kitx_own (cl.get _) cl.hd ha hn htk hm) I.kIn J e (λ z=>nomatch z) h
end
structure Room (k:Nat) (A:Around):Prop where
 hd:A.handled=none
 dp:A.depth + 3 * k + 5 < recursionLimit
 un:A.units + 16 * k + 200 < cLine
def Room.mono {j k:Nat} {A:Around} (r:Room k A) (h:j <= k):Room j A:=⟨r.hd,by have:=r.dp; omega,by have:=r.un; omega⟩
def Room.deeper {k:Nat} {A:Around} (r:Room (k + 1) A) (env:Env):Room k (A.deeper env):=
 ⟨r.hd,by have:=r.dp; show A.depth + 1 + 3 * k + 5 < _; omega,by have:=r.un; show A.units + 3 + 16 * k + 200 < _; omega⟩
def Room.depth {k:Nat} {A:Around} (r:Room k A):A.depth < recursionLimit:=by have:=r.dp; omega
def Room.units {k:Nat} {A:Around} (r:Room k A):A.units + 64 < cLine:=by have:=r.un; omega
noncomputable def tNil:TA:=λ _ H Q=>Q [] H
noncomputable def zqY (ta:TE) (tr:TA):TA:=λ σ H Q=>ta σ H λ x H1=>tr σ H1 λ xs H2=>Q (x :: xs) H2
section
variable {X:Cx} {e:Expr} {es:List Expr} {te:TE} {t:TA} {pos:Pos}
def zab:PA X [] tNil:=λ _ _ _ _ H Q I h=>ycx ⟨[],H,I,.nil,h⟩
def zaa (ha:PE X e te) (hr:PA X es t) (hs:starEach (e :: es) X.env=(false,eval e X.env) :: starEach es X.env:=by rfl):PA X (e :: es) (zqY te t):=by
 intro pos pins s σ H Q I h;rw [hs];show wpAny _ _ (spliced ((false,eval e X.env) :: backTo pos (starEach es X.env))) _ _ s;refine ycj (thn (ha pins s σ H _ I h) λ u s1 ⟨x,H1,I1,r1,q1⟩=>?_);exact thn (hr pos pins s1 σ H1 _ I1 q1) λ us s2 ⟨xs,H2,I2,r2,q2⟩=>⟨x :: xs,H2,I2,.cons r1 r2,q2⟩
noncomputable def tTup (t:TA):TE:=λ σ H Q=>t σ H λ xs H1=>xs.length <= sizeLine /\ ∀ p,H1 p=none -> Q (.ref p) (upd H1 p (.tup xs))
noncomputable def tLst (t:TA):TE:=λ σ H Q=>t σ H λ xs H1=>xs.length <= sizeLine /\ ∀ p,H1 p=none -> Q (.ref p) (upd H1 p (.lst xs))
def zaF {x1} (h:PA X es t):PE X (.Tuple es x1 pos) (tTup t):=by
 intro pins s σ H Q I hq;refine wpAny_Tuple_spliced (thn (h pos pins s σ H _ I hq) λ us s1 ⟨xs,H1,I1,r,z,q⟩=>⟨by rw [<- r.length]; exact z,?_⟩);have hf:H1 s1.heap.objs.size=none:=I1.hok.fresh (yaj _);refine ⟨.ref s1.heap.objs.size,upd H1 s1.heap.objs.size (.tup xs),I1.laid (t':=s1.toks) (λ b u e=>yam _ e) (yaj _) ?_,rfl,q _ hf⟩;exact ⟨z,us,r,⟨_,yaF _ rfl,rfl,rfl,_,rfl⟩⟩
def zaN (h:PA X es t):PE X (.List es pos) (tLst t):=by
 intro pins s σ H Q I hq;refine wpAny_List_spliced (thn (h pos pins s σ H _ I hq) λ us s1 ⟨xs,H1,I1,r,z,q⟩=>⟨by rw [<- r.length]; exact z,?_⟩);have hf:H1 s1.heap.objs.size=none:=I1.hok.fresh (yaj _);refine ⟨.ref s1.heap.objs.size,upd H1 s1.heap.objs.size (.lst xs),I1.laid (t':=s1.toks) (λ b u e=>yam _ e) (yaj _) ?_,rfl,q _ hf⟩;exact ⟨z,us,0,r,yaF _ rfl⟩
end
noncomputable abbrev Sp:=List V -> Hp -> VK -> XK -> Prop
noncomputable abbrev CXT:=List Env -> Hp -> Shared -> XK -> Value -> Shared -> Prop
structure Env0 (P:Program) (w:World) (K:PySem.W.Frag) (mg:Str -> Option Value) (base:Heap) (A:Around) (outer:List Env) (s:Shared) (H:Hp):Prop where
 frames:A.frames=some outer
 mod:Mod K mg base
 bs:∀ b o,base.get? b=some o -> s.heap.get? b=some o /\ H b=none
 bsz:base.objs.size <= s.heap.objs.size
 funs:s.heap.FunFrames base outer
 frf:∀ b ∈ frs outer,H b=none
 hok:HOk P w H s.heap
 bare:AllBare s.gens
noncomputable def CE (outer:List Env) (P:Program) (w:World) (H:Hp) (s:Shared) (Q:VK) (u:Value) (s':Shared):Prop:=
 ∃ v H',s'.os=s.os /\ AllBare s'.gens /\ Un (frs outer) [] H H' s.heap s'.heap /\ HOk P w H' s'.heap /\ RelV v u /\ Q v H'
noncomputable def CR (CX:CXT) (outer:List Env) (P:Program) (w:World) (H:Hp) (s:Shared) (Q:VK) (E:XK) (r:Result) (s':Shared):Prop:=
 match r with
 | .ok (.ret u)=>CE outer P w H s Q u s'
 | .ok _=>False
 | .error e=>CX outer H s E e s'
structure FnOk (P:Program) (w:World) (K:PySem.W.Frag) (mg:Str -> Option Value) (base:Heap) (CX:CXT) (k:Nat) (f:Addr) (fd:FuncData) (ps:List Str) (sp:Sp):Prop where
 len:∀ vs H Q E,sp vs H Q E -> vs.length=ps.length
 run:∀ (A:Around) (outer:List Env) (s:Shared) (H:Hp) (args:Args) (us:List Value) (vs:List V) (Q:VK) (E:XK),Room k A -> Env0 P w K mg base A outer s H -> BindsTo s fd args (ps.zip us) -> Vals vs us -> sp vs H Q E ->
  codeAny (model P w) A (.call (.ref f) args) (CR CX outer P w H s Q E) s
section
variable {X:Cx} {pins:List (Addr × Obj)} {σ:St} {H:Hp} {s s':Shared}
def Inv.env0 (I:Inv X pins σ H s):Env0 X.prog X.w X.K X.mg X.base X.A X.stack s H:=
 ⟨I.ok.frames,I.ok.mod,I.bs,yaW I.ok.bsz I.sz,I.stack,I.stkFree,I.hok,I.bare⟩
def Inv.after {Q:VK} {u:Value} (I:Inv X pins σ H s) (h:CE X.stack X.prog X.w H s Q u s'):EP X pins σ Q u s':=by
 obtain ⟨v,H',os,bare,un,hok,r,q⟩:=h;obtain ⟨hh,g,d,t,os'⟩:=s';obtain rfl:os'=s.os:=os;exact ⟨v,H',I.call (h':=hh) (g':=g) (d':=d) (t':=t) (ch:=[]) un hok bare (λ b z=>absurd z (8:)),r,q⟩
end
noncomputable def zqT (sp:Sp) (dvs:List V) (E:XK) (t:TA):TE:=λ σ H Q=>t σ H λ vs H1=>sp (vs ++ dvs) H1 Q E
noncomputable def zkD (K:PySem.W.Frag) (fd:FuncData) (ps:List Str) (ds:List Value):Prop:=
 ∀ (s:Shared) (us:List Value),K.In s.heap -> (us ++ ds).length=ps.length -> BindsTo s fd ⟨us,[]⟩ (ps.zip (us ++ ds))
def zkD.all {K:PySem.W.Frag} {fd:FuncData} {ps:List Str} (h:∀ us:List Value,us.length=ps.length -> bindArgs fd ⟨us,[]⟩=pure (ps.zip us)):zkD K fd ps []:=λ s us _ hl=>by
 rw [ybb] at hl ⊢;exact .of_eq (h us hl)
noncomputable def zo7 (CX:CXT) (X:Cx) (E:XK):Prop:=∀ (pins:List (Addr × Obj)) (σ:St) (H:Hp) (s:Shared) (e:Value) (s':Shared),Inv X pins σ H s -> CX X.stack H s E e s' -> X.xe e s'
section
variable {X:Cx} {CX:CXT} {k:Nat} {f C:Addr} {fd:FuncData} {ps:List Str} {sp:Sp} {dvs:List V} {ds:List Value} {E:XK} {x m:Str} {p pos apos:Pos} {e o:Expr} {es:List Expr} {ta:TE} {t:TA}
def zso {pins:List (Addr × Obj)} {σ:St} {H:Hp} {s:Shared} {Q:VK} {us:List Value} {vs:List V} (F:FnOk X.prog X.w X.K X.mg X.base CX k f fd ps sp) (hr:Room k X.A) (hb:zkD X.K fd ps ds) (hd:Vals dvs ds) (hx:zo7 CX X E)
  (I:Inv X pins σ H s) (r:Vals vs us) (h:sp (vs ++ dvs) H Q E):wpAny (model X.prog X.w) X.A (call (.ref f) us) (EP X pins σ Q) X.xe s:=by
 have r2:Vals (vs ++ dvs) (us ++ ds):=r.append hd;have hl:(us ++ ds).length=ps.length:=by rw [<- r2.length]; exact F.len _ _ _ _ h
 refine wpAny_call (codeAny_mono (F.run X.A X.stack s H ⟨us,[]⟩ (us ++ ds) (vs ++ dvs) Q E hr I.env0 (hb s us I.kIn hl) r2 h) λ r s' hq=>?_);cases r with
 | error e=>exact hx pins σ H s e s' I hq
 | ok fl=>
  cases fl with
  | ret u=>exact I.after hq
  | next=>exact False.elim hq
  | brk=>exact False.elim hq
  | cont=>exact False.elim hq
def zrk (F:FnOk X.prog X.w X.K X.mg X.base CX k f fd ps sp) (hr:Room k X.A) (hg:Gl X x) (hm:X.mg x=some (.ref f)) (hk:PySem.W.keepIn X.K (.ref f)=true) (hb:zkD X.K fd ps ds) (hd:Vals dvs ds) (hx:zo7 CX X E)
  (ha:PA X (e :: es) t) (hdb:(x == ("__debug__":Str))=false:=by decide) (he:starEach (e :: es) X.env=(false,eval e X.env) :: starEach es X.env:=by rfl) (hpl:(backTo pos (starEach es X.env)).any (·.1)=false:=by rfl) :
  PE X (.Call (.Name x p) (e :: es) [] pos) (zqT sp dvs E t):=by
 intro pins s σ H Q I h;refine wpAny_Call_Name_kw (znV I hg hm ?_ hdb);refine PySem.W.callWith_K (h₀:=X.base) I.ok.mod.kin hk (thn (ha pos pins s σ H _ I h) λ us s1 ⟨vs,H1,I1,r,q⟩=>⟨I1.kIn,?_⟩) he hpl;exact zso F hr hb hd hx I1 r q
end
section
variable {X:Cx} {CX:CXT} {k:Nat} {f C:Addr} {fd:FuncData} {ps ks:List Str} {sp:Sp} {E:XK} {x m:Str} {p pos apos kpos:Pos} {e o:Expr} {es:List Expr} {kws:List Keyword} {te ta:TE} {t tk:TA} {nm:Option Str}
variable {g:List Value -> List Value -> List Value} {gV:List V -> List V -> List V}
end
structure FnScope (N P:List Str) (sc:Scope):Prop where
 kind:sc.kind=.function
 co:sc.isCoroutine=false
 gen:sc.isGenerator=false
 nd:N.Nodup
 pre:N.take P.length=P
 par:∀ x ∈ P,sc.names.lookup x=some .local \/ sc.names.lookup x=some .cell
 nofree:∀ y ∈ sc.names,y.2 ≠ .free
def zjA {kindOf:Str -> Option NameKind} {x:Str}:∀ {binds:List (Str × Value)} {m:Str -> Option Value},(∀ v,(x,v) ∉ binds) -> bindL kindOf binds m x=m x
 | [],_,_=>rfl
 | (n,v) :: r,m,h=>by
  unfold bindL;rw [zjA λ w hw=>h w (yaY _ hw)]
  split
  ·have : x ≠ n := by rintro rfl; exact h v yaT
   simp [this]
  ·rfl
def zjc {kindOf:Str -> Option NameKind} {x:Str}:∀ {binds:List (Str × Value)} {m:Str -> Option Value},(∀ v,(x,v) ∉ binds) -> bindC kindOf binds m x=m x
 | [],_,_=>rfl
 | (n,v) :: r,m,h=>by
  unfold bindC;rw [zjc λ w hw=>h w (yaY _ hw)]
  split
  ·rfl
  ·have : x ≠ n := by rintro rfl; exact h v yaT
   simp [this]
def zjY {kindOf:Str -> Option NameKind} {x:Str} {v:Value}:∀ {P:List Str} {vs:List Value} {i:Nat} {m:Str -> Option Value},P.Nodup -> P[i]?=some x -> vs[i]?=some v -> kindOf x=some .local ->
    bindL kindOf (P.zip vs) m x=some v
  | [],_,_,_,_,h,_,_=>by simp at h
  | _ :: _,[],_,_,_,_,h,_=>by simp at h
  | p :: P,w :: vs,0,m,nd,h1,h2,hk=>by
    simp at h1 h2; subst h1; subst h2;show bindL kindOf ((p,w) :: P.zip vs) m p=_;unfold bindL;rw [zjA λ v hv=>(ybK.mp nd).1 (List.of_mem_zip hv).1,if_pos hk];simp
  | p :: P,w :: vs,i + 1,m,nd,h1,h2,hk=>by
    show bindL kindOf ((p,w) :: P.zip vs) m x=_;unfold bindL;exact zjY (i:=i) (ybK.mp nd).2 (65:) (77:) hk
def zkl {kindOf:Str -> Option NameKind} {x:Str} {v:Value}:∀ {P:List Str} {vs:List Value} {i:Nat} {m:Str -> Option Value},P.Nodup -> P[i]?=some x -> vs[i]?=some v -> kindOf x ≠ some .local ->
    bindC kindOf (P.zip vs) m x=some v
  | [],_,_,_,_,h,_,_=>by simp at h
  | _ :: _,[],_,_,_,_,h,_=>by simp at h
  | p :: P,w :: vs,0,m,nd,h1,h2,hk=>by
    simp at h1 h2; subst h1; subst h2;show bindC kindOf ((p,w) :: P.zip vs) m p=_;unfold bindC;rw [zjc λ v hv=>(ybK.mp nd).1 (List.of_mem_zip hv).1,if_neg hk];simp
  | p :: P,w :: vs,i + 1,m,nd,h1,h2,hk=>by
    show bindC kindOf ((p,w) :: P.zip vs) m x=_;unfold bindC;exact zkl (i:=i) (ybK.mp nd).2 (65:) (77:) hk
noncomputable def start (N:List Str) (vs:List V):St:=vs.map some ++ List.replicate (N.length - vs.length) none
noncomputable def cxOf (CX:CXT) (P:Program) (w:World) (K:PySem.W.Frag) (mg:Str -> Option Value) (base:Heap) (N:List Str) (qual:Str) (scope:Scope) (f:Addr) (cd:Value) (A:Around) (outer:List Env) (s:Shared) (H:Hp) (E:XK):Cx where
 prog:=P
 w:=w
 K:=K
 mg:=mg
 base:=base
 A:=A.deeper (envOfC qual scope s.heap.objs.size f cd)
 N:=N
 s₀:=s
 H₀:=H
 env:=envOfC qual scope s.heap.objs.size f cd
 outer:=outer
 stack:=envOfC qual scope s.heap.objs.size f cd :: outer
 ex:=[]
 calm:=true
 fn:=λ _=>true
 pn:=[]
 xe:=λ e s'=>wpAny (model P w) (A.deeper (envOfC qual scope s.heap.objs.size f cd)) (leaving (envOfC qual scope s.heap.objs.size f cd) e) (λ _ s''=>CX outer H s E e s'') (λ e' s''=>CX outer H s E e' s'') s'
def zlY {sc:Scope} {n:Nat} {x:Str} (h:sc.names.lookup x=some .cell):∃ c,(cellsFrom n sc.names []).lookup x=some c:=by
 have q:=PySem.W.cellsFrom_some sc.names n [] (.inl h);exact Option.isSome_iff_exists.mp q
def zon {CX:CXT} {P:Program} {w:World} {K:PySem.W.Frag} {mg:Str -> Option Value} {base:Heap} {N ps:List Str} {qual:Str} {scope:Scope} {f:Addr} {cd:Value} {A:Around} {outer:List Env} {s s1:Shared} {H:Hp} {E:XK} {us:List Value} {vs:List V}
    (S:FnScope N ps scope) (hd:A.handled=none) (e0:Env0 P w K mg base A outer s H) (hl:vs.length=ps.length) (r:Vals vs us)
    (x:InCallC s s.heap.objs.size (bindL (envOfC qual scope s.heap.objs.size f cd).kindOf (ps.zip us) λ _=>none) (cellsFrom (s.heap.objs.size + 1) scope.names []) (bindC (envOfC qual scope s.heap.objs.size f cd).kindOf (ps.zip us) λ _=>none) s1) :
    Inv (cxOf CX P w K mg base N qual scope f cd A outer s H E) [] (start N vs) H s1:=by
  have hpl:ps.length <= N.length:=by have:=congrArg List.length S.pre; rw [yaZ] at this; omega
  obtain ⟨h1,tk,rfl,hk⟩:=x.done;have noA:∀ b:Addr,b ∉ (cxOf CX P w K mg base N qual scope f cd A outer s H E).ex:=λ b z=>absurd (show b ∈ ([]:List Addr) from z) (8:)
  refine ⟨⟨e0.mod,S.kind,rfl,rfl,yaj _,λ y z c h1 h2=>?_,λ y hy=>?_,λ y c _ h=>?_,λ _=>hd,Around.frames_deeper e0.frames,.inr ⟨rfl,rfl⟩,λ b z=>absurd z (noA b),e0.bs,e0.bsz,λ b _ _=>noA b,λ b z=>absurd z (noA b),e0.funs,e0.frf⟩,
    rfl,e0.bare,Un.kept hk,⟨_,x.toInCall.ns,λ i y v h1 h2 h3=>?_⟩,λ y c h=>⟨_,x.cell y c h⟩,e0.hok.fresh (yaj _),λ y c h=>?_,λ p hp=>absurd (show p ∈ ([]:List (Addr × Obj)) from hp) (8:),e0.hok.kept hk,?_⟩
  · exact name_of_addr x.apart (ybs h1) (ybs h2)
  · have hy : scope.names.lookup y = some .cell \/ scope.names.lookup y = some .free := hy;rcases hy with hy | hy
    · exact zlY hy
    · exact absurd rfl (S.nofree _ (ybs hy))
  · exact yaw (x.above y c (ybs h))
  · have hi:i < vs.length:=by
      unfold start at h2;by_cases hi:i < vs.length
      · exact hi
      · rw [ya8 (by simpa using hi)] at h2;rw [yck] at h2
        split at h2 <;> cases h2
    have ha:vs[i]?=some v:=by
      unfold start at h2;rw [ya4 (by simpa using hi),yaf] at h2;cases e:vs[i]? with
      | none=>rw [e] at h2; cases h2
      | some a=>rw [e] at h2; cases h2; rfl
    obtain ⟨u,hu,rv⟩:=r.get ha
    have hp:ps[i]?=some y:=by
      rw [<- S.pre,List.getElem?_take_of_lt (1:)]; exact h1
    have ndP:ps.Nodup:=by rw [<- S.pre]; exact S.nd.sublist (List.take_sublist _ _)
    refine ⟨u,rv,?_⟩;rcases S.par y (yat hp) with k | k
    · exact .inl ⟨k,zjY ndP hp hu k⟩
    · obtain ⟨c,e⟩:=zlY (n:=s.heap.objs.size + 1) k;refine .inr ⟨.inl k,c,e,?_⟩;have q:=x.cell y c e;rw [zkl ndP hp hu (by show scope.names.lookup y ≠ _; rw [k]; decide)] at q;exact q
  · exact e0.hok.fresh (yaw (x.above y c (ybs h)))
  · unfold start;show _=N.length;rw [yao,yaa,ybU];omega
def ztm {CX:CXT} {P:Program} {w:World} {K:PySem.W.Frag} {mg:Str -> Option Value} {base:Heap} {k:Nat} {f:Addr} {name qual:Str} {params:Arguments} {body:List Stmt} {scope:Scope} {dV kV doc pm cdv ct oc:Value} {an od:Option Addr}
    {osl:Array (Option Value)} {N ps:List Str} {sp:Sp} (lk:K.lookup f=some ⟨oc,od,.func (PySem.W.fnOf name qual params body scope dV kV doc pm an cdv ct),osl⟩) (hcd:PySem.W.codeIn K cdv qual=true) (S:FnScope N ps scope)
    (len:∀ vs H Q E,sp vs H Q E -> vs.length=ps.length)
    (hbody:∀ (A:Around) (outer:List Env) (s:Shared) (H:Hp) (vs:List V) (Q:VK) (E:XK),Room k (A.deeper (envOfC qual scope s.heap.objs.size f cdv)) -> sp vs H Q E ->
      ∃ t,PSs (cxOf CX P w K mg base N qual scope f cdv A outer s H E) body t /\ t { nx:=λ _ H'=>Q .non H',rt:=Q } (start N vs) H) :
    FnOk P w K mg base CX (k + 1) f (PySem.W.fnOf name qual params body scope dV kV doc pm an cdv ct) ps sp:=by
  refine ⟨len,λ A outer s H args us vs Q E hr e0 hb r hsp=>?_⟩;have hl:=len _ _ _ _ hsp;have KX:K.In s.heap:=e0.mod.kin.keeps λ b o e=>(e0.bs b o e).1;have lim:s.heap.NoLimit:=e0.mod.nolimit.keeps λ b o e=>(e0.bs b o e).1
  have hkind:∀ y ∈ ps.zip us,scope.names.lookup y.1=some .local \/ (scope.names.lookup y.1=some .cell /\ ((cellsFrom (s.heap.objs.size + 1) scope.names []).lookup y.1).isSome=true):=λ ⟨n,v⟩ hy=>by
    rcases S.par n (List.of_mem_zip hy).1 with q | q
    · exact .inl q
    · exact .inr ⟨q,PySem.W.cellsFrom_some _ _ _ (.inl q)⟩
  refine codeAny_call_function hr.depth (KX _ _ lk) rfl S.co S.gen rfl (PySem.W.codeRec_of KX hcd) (hb _ _ _ _ ?_);refine wpAny_newFunctionEnv_cells S.kind hkind λ env he s1 x=>?_;subst he;refine ⟨lim.keeps x.toInCall.keep,codeAny_func ?_⟩;obtain ⟨t,ht,hq⟩:=hbody A outer s H vs Q E (hr.deeper _) hsp;have I:Inv (cxOf CX P w K mg base N qual scope f cdv A outer s H E) [] (start N vs) H s1:=zon S hr.hd e0 hl r x;refine wpAny_mono (ht [] s1 (start N vs) H _ I hq) (λ fl s' hs=>?_) λ e s' hs=>hs
  have fin:∀ {σ':St} {H':Hp} {v:V} {u:Value},Inv (cxOf CX P w K mg base N qual scope f cdv A outer s H E) [] σ' H' s' -> RelV v u -> Q v H' -> CE outer P w H s Q u s':=
    λ {σ' H' v u} J rv q=>⟨v,H',J.os,J.bare,J.base,J.hok,rv,q⟩
  cases fl with
  | ret u=>
    obtain ⟨v,σ',H',J,rv,q⟩:=hs;exact fin J rv q
  | next=>
    obtain ⟨σ',H',J,q⟩:=hs;exact fin (v:=V.non) (u:=Value.none) J rfl q
  | brk=>
    obtain ⟨_,_,_,q⟩:=hs;exact False.elim q
  | cont=>
    obtain ⟨_,_,_,q⟩:=hs;exact False.elim q
section
variable {X:Cx} {x:Str} {p pos:Pos} {e:Expr} {es:List Expr} {t:TA} {id T:String} {r:List V -> Hp -> VK -> Prop}
noncomputable def tCB (r:List V -> Hp -> VK -> Prop) (t:TA):TE:=λ σ H Q=>t σ H λ vs H1=>r vs H1 Q
def zav (hc:zdq X (.builtin id) r) (hg:Gl X x) (hm:X.mg x=none) (hv:bootBuiltins x=some (.builtin id)) (ha:PA X (e :: es) t) (hn:x ≠ "__name__":=by decide) (hdb:(x == ("__debug__":Str))=false:=by decide)
  (he:starEach (e :: es) X.env=(false,eval e X.env) :: starEach es X.env:=by rfl) (hpl:(backTo pos (starEach es X.env)).any (·.1)=false:=by rfl):PE X (.Call (.Name x p) (e :: es) [] pos) (tCB r t):=by
 intro pins s σ H Q I h;refine wpAny_Call_Name_kw (zcH I hg hm hv ?_ hn hdb);exact PyProof.Rows.callWith_builtin1 (thn (ha pos pins s σ H _ I h) λ us s1 ⟨vs,H1,I1,r1,q1⟩=>hc pins s1 σ H1 vs us Q I1 r1 q1) he hpl
def zbu (hc:zdq X (.type T) r) (hg:Gl X x) (hm:X.mg x=none) (hv:bootBuiltins x=some (.type T)) (ha:PA X (e :: es) t) (hn:x ≠ "__name__":=by decide) (hdb:(x == ("__debug__":Str))=false:=by decide)
  (he:starEach (e :: es) X.env=(false,eval e X.env) :: starEach es X.env:=by rfl) (hpl:(backTo pos (starEach es X.env)).any (·.1)=false:=by rfl):PE X (.Call (.Name x p) (e :: es) [] pos) (tCB r t):=by
 intro pins s σ H Q I h;refine wpAny_Call_Name_kw (zcH I hg hm hv ?_ hn hdb);exact yaL (thn (ha pos pins s σ H _ I h) λ us s1 ⟨vs,H1,I1,r1,q1⟩=>hc pins s1 σ H1 vs us Q I1 r1 q1) he hpl
end
end L2
namespace HT
open PySem PyProof.Rows
section
open PySem.SeqAt
open PySem.AutoSeq1 (wpAny_loadPart')
open PySem.MeetsSeq PySem.MeetsSeq2 PySem.MeetsSeq3
end
section
variable {prog:Program} {w:World} {A:Around} {E:Value -> Shared -> Prop} {s:Shared}
def cat_tup {t b:Addr} {vs ws:List Value} {Q:Value -> Shared -> Prop} (ht:IsTup s.heap t vs.toArray) (hb:IsTup s.heap b ws.toArray) (hv:vs ≠ [])
  (h1:ws=[] -> Q (.ref t) s) (h2:ws ≠ [] -> Q (.ref s.heap.objs.size) { s with heap:=s.heap.push { cls:=.type "tuple",data:=.seq (vs ++ ws).toArray } })
  (hsz:vs.length + ws.length <= sizeLine):wpAny (model prog w) A (binaryOp .Add (.ref t) (.ref b)) Q E s:=by
 obtain ⟨⟨cls,dd,data,sl⟩,ho,hc,n,hd⟩:=id ht;obtain ⟨⟨cls2,dd2,data2,sl2⟩,ho2,hc2,n2,hd2⟩:=id hb;simp only at hc hd hc2 hd2;subst hc hd hc2 hd2;have e:vs.toArray ++ ws.toArray=(vs ++ ws).toArray:=by simp
 by_cases hw:ws=[]
 ·exact concat_meets ⟨_,ho,rfl⟩ ⟨_,ho2,rfl⟩ noFill_tuple_add seq_tuple_add PySem.F.slot_tuple_add PySem.F.entry_tuple_add (PySem.F.args_tuple_add_2 _ _)
   (tuple_addW1 t b vs.toArray ws.toArray n n2 dd dd2 sl sl2 (by simpa using hv) (by simp [hw])) ⟨ho,ho2,h1 hw⟩
 ·refine concat_meets ⟨_,ho,rfl⟩ ⟨_,ho2,rfl⟩ noFill_tuple_add seq_tuple_add PySem.F.slot_tuple_add PySem.F.entry_tuple_add (PySem.F.args_tuple_add_2 _ _)
   (tuple_addW2 t b vs.toArray ws.toArray n n2 dd dd2 sl sl2 (by simpa using hv) (69:) (by rw [yas,yas]; exact hsz)) ⟨ho,ho2,?_⟩
  rw [e];exact h2 hw
noncomputable def sIx (n d:Nat):Option Int -> Nat
 | none=>d
 | some v=>if v < 0 then (v + (n:Int)).toNat else min v.toNat n
def sIx_nat (n d k:Nat):sIx n d (some (k:Int))=min k n:=by
 show (if (k:Int) < 0 then ((k:Int) + (n:Int)).toNat else min (k:Int).toNat n)=min k n;rw [if_neg (1:),yak]
def zsx (n d:Nat) (hd:d <= n) (o:Option Int):sIx n d o <= n:=by
 cases o with
 | none=>exact hd
 | some v=>
  show (if v < 0 then (v + (n:Int)).toNat else min v.toNat n) <= n;by_cases hv:v < 0
  ·rw [if_pos hv]; omega
  ·rw [if_neg hv]; exact ycH _ _
def znf (v:Int) (n d:Nat):(if v < 0 then max (v + (n:Int)) 0 else min v (n:Int))=((sIx n d (some v):Nat):Int):=by
 show (if v < 0 then max (v + (n:Int)) 0 else min v (n:Int))=(((if v < 0 then (v + (n:Int)).toNat else min v.toNat n):Nat):Int);by_cases hv:v < 0
 ·simp only [if_pos hv]; omega
 ·simp only [if_neg hv]; omega
def zmI (lo hi:Option Int) (n:Nat):Builtin.Slice.sliceAdjust lo hi 1 (n:Int)=(((sIx n 0 lo:Nat):Int),((sIx n n hi:Nat):Int)):=by
 have h1:¬ ((1:Int) < 0):=by omega
 unfold Builtin.Slice.sliceAdjust;simp only [h1,if_false];refine Prod.ext ?_ ?_
 ·cases lo with
  | none=>rfl
  | some v=>exact znf v n 0
 ·cases hi with
  | none=>rfl
  | some v=>exact znf v n n
def zm5 (i j:Nat):Builtin.Slice.slicePlaces (i:Int) (j:Int) 1=j - i:=by
 unfold Builtin.Slice.slicePlaces;have h1:(1:Int) > 0:=by omega
 simp only [h1,if_true,Int.ediv_one]
 split <;> omega
def zhU {v:Value} {o:Option Int} {Q:Option Int -> Shared -> Prop} (p:IsPart v o) (h:Q o s):wpAny (model prog w) A (Builtin.Slice.slicePartIndex v) Q E s:=by
 cases p with
 | none=>exact slicePart_none h
 | int i t=>exact slicePart_int h
def zf8 {sl:Addr} {vl vu:Value} {lo hi:Option Int} {n:Nat} {Q:Int × Int × Nat -> Shared -> Prop} (hs:s.heap.IsSliceOf sl vl vu .none) (pl:IsPart vl lo) (pu:IsPart vu hi)
  (h:Q (((sIx n 0 lo:Nat):Int),1,sIx n n hi - sIx n 0 lo) s):wpAny (model prog w) A (Builtin.Slice.sliceApplied (.ref sl) (pure (n:Int))) Q E s:=by
 obtain ⟨os,hos,hcs,hds⟩:=id hs;unfold Builtin.Slice.sliceApplied Builtin.Slice.sliceFields;refine wpAny_bind (wpAny_bind (wpAny_field hos hds (x:=vl) rfl (wpAny_bind (wpAny_field hos hds (x:=vu) rfl (wpAny_bind (wpAny_field hos hds (x:=.none) rfl (wpAny_pure ?_)))))));refine wpAny_bind (slicePart_none ?_);show wpAny _ _ (if ((1:Int) == 0)=true then _ else _) _ _ s;rw [if_neg (3:)];refine wpAny_bind (zhU pl (wpAny_bind (zhU pu (wpAny_bind (wpAny_pure ?_)))));show wpAny _ _ (match Builtin.Slice.sliceAdjust lo hi 1 (n:Int) with | (lo,hi)=>pure (lo,(1:Int),Builtin.Slice.slicePlaces lo hi 1)) _ _ s
 rw [zmI lo hi n];show wpAny _ _ (pure (((sIx n 0 lo:Nat):Int),(1:Int),Builtin.Slice.slicePlaces ((sIx n 0 lo:Nat):Int) ((sIx n n hi:Nat):Int) 1)) _ _ s;rw [zm5];exact wpAny_pure h
def zpt (xs:Array Value) (i k:Nat):((List.range k).filterMap λ (m:Nat)=>xs[((i:Int) + (m:Int) * 1).toNat]?).toArray=((xs.toList.drop i).take k).toArray:=by
 have e:(λ (m:Nat)=>xs[((i:Int) + (m:Int) * 1).toNat]?)=λ m=>xs[i + m]?:=by
  funext m
  have:((i:Int) + (m:Int) * 1).toNat=i + m:=by omega
  rw [this]
 rw [e];have:=pick_run xs i k;rw [List.filterMap_map] at this;have e2:((λ x=>xs[x]?) ∘ λ x=>i + x)=λ m=>xs[i + m]?:=rfl;rw [e2] at this;rw [this]
def getItem_tuple_cut {t sl:Addr} {items:Array Value} {vl vu:Value} {lo hi:Option Int} {Q:Value -> Shared -> Prop} (ht:IsTup s.heap t items) (hs:s.heap.IsSliceOf sl vl vu .none) (pl:IsPart vl lo) (pu:IsPart vu hi)
  (hw:¬ (sIx items.size 0 lo=0 /\ sIx items.size items.size hi=items.size))
  (h:Q (.ref s.heap.objs.size) { s with heap:=s.heap.push { cls:=.type "tuple",data:=.seq ((items.toList.drop (sIx items.size 0 lo)).take (sIx items.size items.size hi - sIx items.size 0 lo)).toArray } })
  (hsz:items.size <= sizeLine):wpAny (model prog w) A (getItem (.ref t) (.ref sl)) Q E s:=by
 have htake:sizeOk (.seq ((items.toList.drop (sIx items.size 0 lo)).take (sIx items.size items.size hi - sIx items.size 0 lo)).toArray):=by
  show ((items.toList.drop (sIx items.size 0 lo)).take (sIx items.size items.size hi - sIx items.size 0 lo)).toArray.size <= sizeLine;rw [yas,yaZ,List.length_drop,ycb];omega
 have hj:sIx items.size items.size hi <= items.size:=zsx _ _ (yaj _) hi;obtain ⟨os,hos,hcs,hds⟩:=id hs;have hTs:s.TypeIs (.ref sl) "slice":=⟨os,hos,hcs⟩
 unfold getItem
 try with_reducible refine wpAny_holding ?_
 first | refine wpAny_bind (wpAny_pure ?_) | skip
 refine wpAny_bind (wpAny_sequenceKey ht.typeIs (3:) ?_)
 refine wpAny_bind (wpAny_callSpecial?_slot (name:=Str.ofString "__getitem__") ht.typeIs ybL
  (wpAny_call_entry ybL ht.typeIs entry_tuple_getitem ?_ (args_tuple_getitem _ _)))
 show wpAny _ _ (Builtin.Tuple.tupleItemsOf (.ref t) >>= _) _ _ s;refine wpAny_bind (tupleItemsOf_ ht ?_);refine wpAny_bind (wpAny_typeOf hTs ?_);rw [if_pos (3:)];refine wpAny_bind (zf8 hs pl pu ?_)
 have hno:¬ ((((sIx items.size 0 lo:Nat):Int) == 0 && (1:Int) == 1 && (sIx items.size items.size hi - sIx items.size 0 lo) == items.size)=true):=by
  intro q;rw [yal,yal] at q;have q1:((sIx items.size 0 lo:Nat):Int)=0:=eq_of_beq q.1.1;have q2:sIx items.size items.size hi - sIx items.size 0 lo=items.size:=eq_of_beq q.2;exact hw ⟨by omega,by omega⟩
 show wpAny _ _ (if (((sIx items.size 0 lo:Nat):Int) == 0 && (1:Int) == 1 && (sIx items.size items.size hi - sIx items.size 0 lo) == items.size)=true then _ else _) _ _ s;rw [if_neg hno,zpt]
 first
  | exact wpAny_bind (m:=Builtin.Tuple.tupleExact _) (wpAny_newObj_type (wpAny_pure ⟨_,rfl,wpAny_pure h⟩) htake)
  | exact wpAny_bind (m:=Builtin.Tuple.tupleExact _) (wpAny_newObj_type (wpAny_bind (wpAny_pure (wpAny_pure ⟨_,rfl,wpAny_pure h⟩))) htake)
  | exact wpAny_bind (wpAny_bind (m:=Builtin.Tuple.tupleExact _) (wpAny_newObj_type (wpAny_pure (wpAny_pure ⟨_,rfl,wpAny_pure h⟩)) htake))
  | exact wpAny_bind (wpAny_bind (m:=Builtin.Tuple.tupleExact _) (wpAny_newObj_type (wpAny_pure ⟨_,rfl,wpAny_pure h⟩) htake))
end
end HT
namespace L2
open PySem PySem.Spec PyProof.Rows
noncomputable abbrev TO:=St -> Hp -> (Option Int -> Hp -> Prop) -> Prop
noncomputable def PO (X:Cx) (e:Option Expr) (t:TO):Prop:=
 ∀ (pins:List (Addr × Obj)) (s:Shared) (σ:St) (H:Hp) (Q:Option Int -> Hp -> Prop),Inv X pins σ H s -> t σ H Q ->
  wpAny (model X.prog X.w) X.A (evalPart e X.env) (λ u s'=>∃ o H',Inv X pins σ H' s' /\ IsPart u o /\ Q o H') X.xe s
noncomputable def zn8:TO:=λ _ H Q=>Q none H
noncomputable def zsA (t:TE):TO:=λ σ H Q=>t σ H λ x H1=>∃ i,x=.int i /\ Q (some i) H1
section
variable {X:Cx} {e:Expr} {te:TE} {lo hi:Option Expr} {tl th:TO} {pos p2:Pos}
def zqN:PO X none zn8:=by
 intro pins s σ H Q I h;rw [evalPart_none];exact wpAny_pure ⟨none,H,I,.none,h⟩
def zqA (h:PE X e te):PO X (some e) (zsA te):=by
 intro pins s σ H Q I hw;rw [evalPart_some];refine thn (h pins s σ H _ I hw) λ u s1 ⟨x,H1,I1,r1,q1⟩=>?_;obtain ⟨i,rfl,q⟩:=q1;obtain ⟨t,rfl⟩:=r1;exact ⟨some i,H1,I1,.int i t,q⟩
noncomputable def SlR (X:Cx) (r:V -> Option Int -> Option Int -> Hp -> VK -> Prop):Prop:=
 ∀ (pins:List (Addr × Obj)) (s:Shared) (σ:St) (H:Hp) (x:V) (v vl vu:Value) (lo hi:Option Int) (sl:Addr) (Q:VK),Inv X pins σ H s -> RelV x v -> s.heap.IsSliceOf sl vl vu .none -> IsPart vl lo -> IsPart vu hi -> r x lo hi H Q ->
  ∃ T id,typeLookup (.type T) "__getitem__"=pure (some (.builtin id)) /\ s.TypeIs v T /\ wpAny (model X.prog X.w) X.A (getItem v (.ref sl)) (EP X pins σ Q) X.xe s
def SlR.or {r r':V -> Option Int -> Option Int -> Hp -> VK -> Prop} (h:SlR X r) (h':SlR X r'):SlR X (λ x lo hi H Q=>r x lo hi H Q \/ r' x lo hi H Q):=by
 intro pins s σ H x v vl vu lo hi sl Q I rx hs pl pu q;rcases q with q | q
 ·exact h pins s σ H x v vl vu lo hi sl Q I rx hs pl pu q
 ·exact h' pins s σ H x v vl vu lo hi sl Q I rx hs pl pu q
noncomputable def tSl (r:V -> Option Int -> Option Int -> Hp -> VK -> Prop) (te:TE) (tl th:TO):TE:=λ σ H Q=>te σ H λ x H1=>tl σ H1 λ l H2=>th σ H2 λ u H3=>r x l u H3 Q
def zpy {r:V -> Option Int -> Option Int -> Hp -> VK -> Prop} (hr:SlR X r) (he:PE X e te) (hl:PO X lo tl) (hu:PO X hi th):PE X (.Subscript e (.Slice lo hi none p2) pos) (tSl r te tl th):=by
 intro pins s σ H Q I h;refine Subscript_ (thn (he pins s σ H _ I h) λ v s1 ⟨x,H1,I1,r1,q1⟩=>?_);refine wpAny_Slice (thn (hl pins s1 σ H1 _ I1 q1) λ vl s2 ⟨l,H2,I2,pl,q2⟩=>thn (hu pins s2 σ H2 _ I2 q2) λ vu s3 ⟨u,H3,I3,pu,q3⟩=>?_);rw [evalPart_none];refine wpAny_pure ?_;have I4:Inv X pins σ H3 { s3 with heap:=s3.heap.push { cls:=.type "slice",data:=.fields #[vl,vu,.none] } }:=I3.kept (t':=s3.toks) λ b ob q=>yam _ q;obtain ⟨T,id,hT,ht,hg⟩:=hr pins { s3 with heap:=s3.heap.push { cls:=.type "slice",data:=.fields #[vl,vu,.none] } } σ H3 x v vl vu l u s3.heap.objs.size Q I4 r1 (Heap.IsSliceOf.new ..) pl pu q3;show wpAny (model X.prog X.w) X.A (subscriptTail e (.Slice lo hi none p2) v (.ref s3.heap.objs.size)) (EP X pins σ Q) X.xe { s3 with heap:=s3.heap.push { cls:=.type "slice",data:=.fields #[vl,vu,.none] } };exact tail_any (ops:=[.ref s3.heap.objs.size,v]) ht hT hg (by with_unfolding_all rfl)
noncomputable def cutV (xs:List V) (lo hi:Option Int):List V:=(xs.drop (HT.sIx xs.length 0 lo)).take (HT.sIx xs.length xs.length hi - HT.sIx xs.length 0 lo)
def zgB (xs:List V) (lo hi:Option Int):(cutV xs lo hi).length <= xs.length:=by
 unfold cutV;rw [yaZ,List.length_drop];omega
noncomputable def rSlT (K:PySem.W.Frag):V -> Option Int -> Option Int -> Hp -> VK -> Prop:=λ x lo hi H Q=>∃ a xs,x=.ref a /\ SqT K H a xs /\
 ¬ (HT.sIx xs.length 0 lo=0 /\ HT.sIx xs.length xs.length hi=xs.length) /\ ∀ p,H p=none -> Q (.ref p) (upd H p (.tup (cutV xs lo hi)))
def zs6:SlR X (rSlT X.K):=by
 intro pins s σ H x v vl vu lo hi sl Q I rx hs pl pu h;obtain ⟨a,xs,rfl,hx,hw,q⟩:=h;cases rx;obtain ⟨its,r,ht,hz⟩:=I.tuple hx;have hlen:its.toArray.size=xs.length:=by rw [yas]; exact r.length.symm
 refine ⟨"tuple",_,ybL.lookup,ht.typeIs,?_⟩;refine HT.getItem_tuple_cut ht hs pl pu (by rw [hlen]; exact hw) ?_ (by rw [hlen]; exact hz);rw [hlen];refine ⟨.ref s.heap.objs.size,_,I.laid (t':=s.toks) (o:=.tup (cutV xs lo hi)) (λ b ob q=>yam _ q) (yaj _) ?_,rfl,q _ (I.hok.fresh (yaj _))⟩;exact ⟨yaW (zgB xs lo hi) hz,_,(r.drop (HT.sIx xs.length 0 lo)).take (HT.sIx xs.length xs.length hi - HT.sIx xs.length 0 lo),zbB.new _ _⟩
noncomputable def zrv (K:PySem.W.Frag):R2:=λ x y H Q=>∃ a b xs ys,x=.ref a /\ y=.ref b /\ SqT K H a xs /\ SqT K H b ys /\ xs ≠ [] /\ xs.length + ys.length <= sizeLine /\
 (ys=[] -> Q (.ref a) H) /\ (ys ≠ [] -> ∀ p,H p=none -> Q (.ref p) (upd H p (.tup (xs ++ ys))))
def Vals.nil_iff {xs:List V} {us:List Value} (r:Vals xs us):us=[] ↔ xs=[]:=by
 cases r with
 | nil=>simp
 | cons _ _=>simp
def zqX:OpR X (binaryOp .Add) (zrv X.K):=by
 intro pins s σ H x y v u Q I rx ry h;obtain ⟨a,b,xs,ys,rfl,rfl,ha,hb,hx,hz,q1,q2⟩:=h;cases rx;cases ry;obtain ⟨its,r1,p1,_⟩:=I.tuple ha;obtain ⟨its2,r2,p2,_⟩:=I.tuple hb;refine HT.cat_tup p1 p2 (λ z=>hx (r1.nil_iff.mp z)) (λ z=>⟨.ref a,H,I,rfl,q1 (r2.nil_iff.mp z)⟩) (λ z=>?_) (by rw [<- r1.length,<- r2.length]; exact hz);refine ⟨.ref s.heap.objs.size,_,I.laid (t':=s.toks) (o:=.tup (xs ++ ys)) (λ b ob q=>yam _ q) (yaj _) ?_,rfl,q2 (λ w=>z (r2.nil_iff.mpr w)) _ (I.hok.fresh (yaj _))⟩;exact ⟨by rw [yao]; exact hz,_,r1.append r2,zbB.new _ _⟩
end
noncomputable def ixN (n:Nat) (i:Int):Option Nat:=if 0 <= i then (if i < n then some i.toNat else none) else if -(n:Int) <= i then some (i + n).toNat else none
noncomputable def atI {α:Type} (xs:List α) (i:Int):Option α:=(ixN xs.length i).bind λ j=>xs[j]?
def znA {n:Nat} {i:Int} {j:Nat} (h:ixN n i=some j):seqIndex? i n=some j /\ j < n /\ -(n:Int) <= i /\ i < n:=by
 unfold ixN at h;by_cases h0:0 <= i
 ·rw [if_pos h0] at h;by_cases h1 : i < n
  ·rw [if_pos h1] at h;have e:i.toNat=j:=Option.some.inj h;exact ⟨by rw [seqIndex_of h0 h1,e],by omega,by omega,h1⟩
  ·rw [if_neg h1] at h; cases h
 ·rw [if_neg h0] at h;by_cases h1 : -(n : Int) <= i
  ·rw [if_pos h1] at h;have e:(i + n).toNat=j:=Option.some.inj h;exact ⟨by rw [seqIndex_neg (1:) h1,e],by omega,h1,by omega⟩
  ·rw [if_neg h1] at h; cases h
def zlg {α:Type} {xs:List α} {i:Int} {v:α} (h:atI xs i=some v):∃ j,seqIndex? i xs.length=some j /\ xs[j]?=some v /\ j < xs.length /\ -(xs.length:Int) <= i /\ i < xs.length:=by
 unfold atI at h;cases e:ixN xs.length i with
 | none=>rw [e] at h; cases h
 | some j=>
  rw [e] at h;obtain ⟨h1,h2,h3,h4⟩:=znA e;exact ⟨j,h1,h,h2,h3,h4⟩
def zoi {α:Type} {xs:List α} {j:Nat} {v:α} (h:xs[j]?=some v):atI xs (j:Int)=some v:=by
 have hj:j < xs.length:=(yad.mp h).1
 have e:ixN xs.length (j:Int)=some j:=by
  unfold ixN;rw [if_pos (1:),if_pos (1:)]; simp
 unfold atI; rw [e]; exact h
noncomputable def zqJ (b:Expr):Prop:=∀ o i,subscripted b false o i=operate [o,i] (getItem o i)
noncomputable def IxR (X:Cx) (r:R2):Prop:=
 ∀ (value slice:Expr) (pins:List (Addr × Obj)) (s:Shared) (σ:St) (H:Hp) (x y:V) (v u:Value) (Q:VK),Inv X pins σ H s -> RelV x v -> RelV y u -> r x y H Q ->
  subscripted slice false v u=operate [v,u] (getItem v u) -> wpAny (model X.prog X.w) X.A (subscriptTail value slice v u) (EP X pins σ Q) X.xe s
noncomputable def MtR (X:Cx) (id:String) (r:V -> List V -> Hp -> VK -> Prop):Prop:=
 ∀ (pins:List (Addr × Obj)) (s:Shared) (σ:St) (H:Hp) (x:V) (xs:List V) (v:Value) (us:List Value) (Q:VK),Inv X pins σ H s -> RelV x v -> Vals xs us -> r x xs H Q ->
  wpAny (model X.prog X.w) X.A (call (.builtin id) (v :: us)) (EP X pins σ Q) X.xe s
section
variable {X:Cx} {a b:Expr} {ta tb:TE} {pos:Pos}
def IxR.or {r r':R2} (h:IxR X r) (h':IxR X r'):IxR X (λ x y H Q=>r x y H Q \/ r' x y H Q):=by
 intro value slice pins s σ H x y v u Q I rx ry q hs;rcases q with q | q
 ·exact h value slice pins s σ H x y v u Q I rx ry q hs
 ·exact h' value slice pins s σ H x y v u Q I rx ry q hs
def zaq {r:R2} (hr:IxR X r) (ha:PE X a ta) (hb:PE X b tb) (hs:zqJ b):PE X (.Subscript a b pos) (tOp r ta tb):=by
 intro pins s σ H Q I h;exact Subscript_ (binT ha hb I h λ v u s2 x y H2 I2 rx ry q=>hr a b pins s2 σ H2 x y v u Q I2 rx ry q (hs _ _))
noncomputable def rIxL (K:PySem.W.Frag):R2:=λ x y H Q=>∃ p xs i v,x=.ref p /\ y=.int i /\ SqL K H p xs /\ atI xs i=some v /\ Q v H
noncomputable def rIxT (K:PySem.W.Frag):R2:=λ x y H Q=>∃ p xs i v,x=.ref p /\ y=.int i /\ SqT K H p xs /\ atI xs i=some v /\ Q v H
noncomputable def rIxS:R2:=λ x y H Q=>∃ z i c,x=.str z /\ y=.int i /\ z.length <= sizeLine /\ atI z.cps.toList i=some c /\ Q (.str ⟨#[c]⟩) H
def zqC:IxR X (rIxL X.K):=by
 intro value slice pins s σ H x y v u Q I rx ry h hs;obtain ⟨p,xs,i,z,rfl,rfl,hq,he,q⟩:=h;cases rx;obtain ⟨t,rfl⟩:=ry;obtain ⟨its,r,pl,hz⟩:=I.list hq;obtain ⟨j,h1,h2,h3,h4,h5⟩:=zlg he;obtain ⟨w,ew,rw'⟩:=r.get h2;have hl:=r.length;have hn:=zkg;have fin:EP X pins σ Q w s:=⟨z,H,I,rw',q⟩
 by_cases h0:0 <= i
 ·have hj:i.toNat=j:=by
   rw [seqIndex_of h0 h5] at h1;exact Option.some.inj h1
  exact item_listR pl.isList h0 (1:) (by rw [hj]; simpa using ew) fin hs
 ·have hj:(i + (its.toArray.size:Int)).toNat=j:=by
   rw [seqIndex_neg (1:) h4] at h1;rw [yas,<- hl];exact Option.some.inj h1
  exact subscriptTail_builtinR (x:=w) pl.isList.typeIs slot_list_getitem.lookup
   (wpAny_getItem_list_neg (Q:=λ r s'=>r=w /\ EP X pins σ Q r s') pl.isList (1:) (by rw [yas] <;> omega) (1:) (by rw [hj]; simpa using ew) ⟨rfl,fin⟩) hs
def zsZ:IxR X (rIxT X.K):=by
 intro value slice pins s σ H x y v u Q I rx ry h hs;obtain ⟨p,xs,i,z,rfl,rfl,hq,he,q⟩:=h;cases rx;obtain ⟨t,rfl⟩:=ry;obtain ⟨its,r,pl,hz⟩:=I.tuple hq;obtain ⟨j,h1,h2,h3,h4,h5⟩:=zlg he;obtain ⟨w,ew,rw'⟩:=r.get h2;have hl:=r.length;have hn:=zkg;have fin:EP X pins σ Q w s:=⟨z,H,I,rw',q⟩
 exact subscriptTail_builtinR (x:=w) pl.typeIs slot_tuple_getitem.lookup
  (getItem_tuple (j:=j) (Q:=λ r s'=>r=w /\ EP X pins σ Q r s') pl (1:) (1:) (by rw [yas,<- hl]; exact h1) (by simpa using ew) ⟨rfl,fin⟩) hs
def zsY:IxR X rIxS:=by
 intro value slice pins s σ H x y v u Q I rx ry h hs;obtain ⟨z,i,c,rfl,rfl,hz,he,q⟩:=h;obtain ⟨t,rfl⟩:=rx;obtain ⟨t',rfl⟩:=ry;obtain ⟨j,h1,h2,h3,h4,h5⟩:=zlg he;have hl:z.cps.toList.length=z.length:=by simp [Str.length]
 rw [hl] at h1 h4 h5;have hn:=zkg
 exact tail_any (typeIs_str s z t) slot_str_getitem.lookup (getItem_str (c:=c) (by
  have e1:decide (i < -(2 ^ 63:Int))=false:=decide_eq_false (1:);have e2:decide (i >= 2 ^ 63)=false:=decide_eq_false (1:);rw [e1,e2,Bool.or_false]) (by rw [h1]; simpa using h2) ⟨.str ⟨#[c]⟩,H,I.tok _,⟨_,rfl⟩,q⟩) hs
noncomputable def rIx (K:PySem.W.Frag):R2:=λ x y H Q=>rIxL K x y H Q \/ rIxT K x y H Q \/ rIxS x y H Q
def zsl:IxR X (rIx X.K):=zqC.or (zsZ.or zsY)
def znc (its:List Value) (n j:Nat) (u:Value):Obj.mapSeq (·.setIfInBounds j u) { cls:=.type "list",data:=.seq its.toArray n }={ cls:=.type "list",data:=.seq (its.set j u).toArray n }:=by
 simp [Obj.mapSeq]
def Inv.lst {pins:List (Addr × Obj)} {σ:St} {H:Hp} {s:Shared} {p:Addr} {xs:List V} (I:Inv X pins σ H s) (h:H p=some (.lst xs)) :
  ∃ (its:List Value) (n:Nat),Vals xs its /\ s.heap.get? p=some { cls:=.type "list",data:=.seq its.toArray n } /\ xs.length <= sizeLine:=by
 obtain ⟨z,its,n,r,e⟩:=I.hok p _ h;exact ⟨its,n,r,e,z⟩
def Inv.lstUpd {pins:List (Addr × Obj)} {σ:St} {H:Hp} {s:Shared} {p:Addr} {xs ys:List V} {its its':List Value} {n n':Nat} {f:Obj -> Obj} (I:Inv X pins σ H s) (h:H p=some (.lst xs))
  (ho:s.heap.get? p=some { cls:=.type "list",data:=.seq its.toArray n }) (hf:f { cls:=.type "list",data:=.seq its.toArray n }={ cls:=.type "list",data:=.seq its'.toArray n' }) (r:Vals ys its') (hz:ys.length <= sizeLine) (t:Nat) :
  Inv X pins σ (upd H p (.lst ys)) { s with heap:=s.heap.update p f,toks:=t }:=by
 have e:(s.heap.update p f).get? p=some { cls:=.type "list",data:=.seq its'.toArray n' }:=by
  rw [Heap.get?_update_self f ho (by rw [hf] <;> rfl),hf]
 refine I.write (x:=p) (e:=p) (by rw [h]; trivial) (.inl rfl) (λ b u hb q=>(Heap.get?_update_other _ _ (ycG hb)).trans q) ⟨_,e⟩ ?_;exact ⟨hz,its',n',r,e⟩
noncomputable def zqU:V -> V -> V -> Hp -> (Hp -> Prop) -> Prop:=λ o i v H Q=>∃ p xs k j,o=.ref p /\ i=.int k /\ H p=some (.lst xs) /\ ixN xs.length k=some j /\ Q (upd H p (.lst (xs.set j v)))
def zb3:PSet X zqU:=by
 intro pins s σ H o i v ov iv u Q I ro ri rv h;obtain ⟨p,xs,k,j,rfl,rfl,hp,hj,q⟩:=h;cases ro;obtain ⟨t,rfl⟩:=ri;obtain ⟨its,n,r,ho,hz⟩:=I.lst hp;obtain ⟨h1,h2,h3,h4⟩:=znA hj;have hl:=r.length;have hn:=zkg
 have I':Inv X pins σ (upd H p (.lst (xs.set j v))) { s with heap:=s.heap.update p (Obj.mapSeq (·.setIfInBounds j u)) }:=
  I.lstUpd hp ho (znc its n j u) (r.set rv j) (by rw [List.length_set]; exact hz) s.toks
 by_cases h0:0 <= k
 ·have hk:k.toNat=j:=by
   rw [seqIndex_of h0 h4] at h1;exact Option.some.inj h1
  exact PySem.W.ki_setAt ho h0 (1:) (by rw [yas,<- hl]; exact h4) (by rw [hk]; exact ⟨_,I',q⟩)
 ·have hk:(k + (its.toArray.size:Int)).toNat=j:=by
   rw [seqIndex_neg (1:) h3] at h1;rw [yas,<- hl];exact Option.some.inj h1
  exact PySem.W.ki_setBack ho (1:) (by rw [yas,<- hl]; exact h3) (1:) (by rw [hk]; exact ⟨_,I',q⟩)
def zjI (lo hi:Option Int) (n:Nat):(sliceBounds lo hi none n).1=((HT.sIx n 0 lo:Nat):Int) /\ (sliceBounds lo hi none n).2.1=((HT.sIx n n hi:Nat):Int) /\ (sliceBounds lo hi none n).2.2=1:=by
 refine ⟨?_,?_,rfl⟩
 ·cases lo with
  | none=>simp [sliceBounds,HT.sIx]
  | some i=>
   simp only [sliceBounds,HT.sIx,Option.getD_none,show (1:Int) > 0 by decide,if_true];by_cases h:i < 0
   ·simp only [h,if_true] <;> omega
   ·simp only [h,if_false] <;> omega
 ·cases hi with
  | none=>simp [sliceBounds,HT.sIx]
  | some i=>
   simp only [sliceBounds,HT.sIx,Option.getD_none,show (1:Int) > 0 by decide,if_true];by_cases h:i < 0
   ·simp only [h,if_true] <;> omega
   ·simp only [h,if_false] <;> omega
def zin (its:List Value) (lo hi:Option Int):slicePick its.toArray lo hi none=((its.drop (HT.sIx its.length 0 lo)).take (HT.sIx its.length its.length hi - HT.sIx its.length 0 lo)).toArray:=by
 obtain ⟨h1,h2,h3⟩:=zjI lo hi its.toArray.size;unfold slicePick;rw [h1,h2,h3];simp only [sliceRange_one,pick_run,yas] <;> rfl
noncomputable def rSlL (K:PySem.W.Frag):V -> Option Int -> Option Int -> Hp -> VK -> Prop:=λ x lo hi H Q=>∃ a xs,x=.ref a /\ SqL K H a xs /\ ∀ p,H p=none -> Q (.ref p) (upd H p (.lst (cutV xs lo hi)))
def zro:SlR X (rSlL X.K):=by
 intro pins s σ H x v vl vu lo hi sl Q I rx hs pl pu h;obtain ⟨a,xs,rfl,hx,q⟩:=h;cases rx;obtain ⟨its,r,ht,hz⟩:=I.list hx;have hlen:=r.length;refine ⟨"list",_,slot_list_getitem.lookup,ht.isList.typeIs,?_⟩;refine wpAny_getItem_list_slice ht.isList hs pl pu .none (8:) ?_ (by rw [yas] <;> omega);rw [zin,<- hlen];refine ⟨.ref s.heap.objs.size,_,I.laid (t':=s.toks) (o:=.lst (cutV xs lo hi)) (λ b ob q=>yam _ q) (yaj _) ?_,rfl,q _ (I.hok.fresh (yaj _))⟩;exact ⟨yaW (zgB xs lo hi) hz,_,0,(r.drop (HT.sIx xs.length 0 lo)).take (HT.sIx xs.length xs.length hi - HT.sIx xs.length 0 lo),yaF _ rfl⟩
noncomputable def zbZ:V -> Bool
 | .non=>true
 | .bl _=>true
 | .int _=>true
 | .str _=>true
 | _=>false
noncomputable def eqV:V -> V -> Bool
 | .non,.non=>true
 | .bl a,.bl b=>a == b
 | .bl a,.int b=>(if a then 1 else 0) == b
 | .int a,.bl b=>a == (if b then 1 else 0)
 | .int a,.int b=>a == b
 | .str a,.str b=>a == b
 | _,_=>false
def zsX {A:Around} {s:Shared} {y x:V} {u v:Value} (ry:RelV y u) (rx:RelV x v) (fy:zbZ y=true) (fx:zbZ x=true):SeqAt.EqAt A s u v (eqV y x):=by
 cases y with
 | non=>
  cases ry;cases x with
  | non=>cases rx; exact SeqAt.EqAt.same _
  | bl b=>cases rx; exact SeqAt.EqAt.none_bool b
  | int b=>obtain ⟨t,rfl⟩:=rx; exact SeqAt.EqAt.none_int b t
  | str b=>obtain ⟨t,rfl⟩:=rx; exact SeqAt.EqAt.none_str b t
  | _=>exact absurd (show false=true from fx) yaI
 | bl a=>
  cases ry;cases x with
  | non=>cases rx; exact SeqAt.EqAt.bool_none a
  | bl b=>cases rx; exact SeqAt.EqAt.bool_bool a b
  | int b=>obtain ⟨t,rfl⟩:=rx; exact SeqAt.EqAt.bool_int a b t
  | str b=>obtain ⟨t,rfl⟩:=rx; exact SeqAt.EqAt.bool_str a b t
  | _=>exact absurd (show false=true from fx) yaI
 | int a=>
  obtain ⟨t',rfl⟩:=ry;cases x with
  | non=>cases rx; exact SeqAt.EqAt.int_none a t'
  | bl b=>cases rx; exact SeqAt.EqAt.int_bool a t' b
  | int b=>obtain ⟨t,rfl⟩:=rx; exact SeqAt.EqAt.int_int a t' b t
  | str b=>obtain ⟨t,rfl⟩:=rx; exact SeqAt.EqAt.int_str a t' b t
  | _=>exact absurd (show false=true from fx) yaI
 | str a=>
  obtain ⟨t',rfl⟩:=ry;cases x with
  | non=>cases rx; exact SeqAt.EqAt.str_none a t'
  | bl b=>cases rx; exact SeqAt.EqAt.str_bool a t' b
  | int b=>obtain ⟨t,rfl⟩:=rx; exact SeqAt.EqAt.str_int a t' b t
  | str b=>obtain ⟨t,rfl⟩:=rx; exact SeqAt.EqAt.str_str a t' b t
  | _=>exact absurd (show false=true from fx) yaI
 | _=>exact absurd (show false=true from fy) yaI
noncomputable def eqU (x:V) (u:Value):Bool:=match u with
 | .none=>eqV .non x
 | .bool b=>eqV (.bl b) x
 | .int i _=>eqV (.int i) x
 | .str z _=>eqV (.str z) x
 | _=>false
def zkr {x y:V} {u:Value} (r:RelV y u) (f:zbZ y=true):eqU x u=eqV y x:=by
 cases y with
 | non=>cases r; rfl
 | bl b=>cases r; rfl
 | int i=>obtain ⟨t,rfl⟩:=r; rfl
 | str z=>obtain ⟨t,rfl⟩:=r; rfl
 | _=>exact absurd (show false=true from f) yaI
def zgV {x:V}:∀ {xs:List V} {us:List Value},Vals xs us -> xs.all zbZ=true -> us.any (eqU x)=xs.any λ y=>eqV y x
 | _,_,.nil,_=>rfl
 | y :: xs,u :: us,.cons r t,f=>by
  rw [yc2,yal] at f;rw [List.any_cons,List.any_cons,zkr r f.1,zgV t f.2]
def zc3 {A:Around} {s:Shared} {x:V} {v:Value} (rx:RelV x v) (fx:zbZ x=true):∀ {xs:List V} {us:List Value},Vals xs us -> xs.all zbZ=true -> ∀ u ∈ us,SeqAt.EqAt A s u v (eqU x u)
 | _,_,.nil,_=>λ u hu=>by cases hu
 | y :: xs,u :: us,.cons r t,f=>λ u' hu=>by
  rw [yc2,yal] at f;rcases yaD.mp hu with rfl | hu
  ·rw [zkr r f.1]; exact zsX r rx f.1 fx
  ·exact zc3 rx fx t f.2 u' hu
noncomputable def inV (x:V) (xs:List V):Bool:=xs.any λ y=>eqV y x
noncomputable def rIn (K:PySem.W.Frag) (neg:Bool):R2:=λ x y H Q=>∃ p xs,y=.ref p /\ (SqL K H p xs \/ SqT K H p xs) /\ zbZ x=true /\ xs.all zbZ=true /\ Q (.bl (if neg then !inV x xs else inV x xs)) H
def znn:OpR X (compareOp .In) (rIn X.K false):=by
 intro pins s σ H x y v u Q I rx ry h;obtain ⟨p,xs,rfl,hq,fx,fs,q⟩:=h;cases ry;rcases hq with hq | hq
 ·obtain ⟨its,r,pl,hz⟩:=I.list hq;refine SeqAt.in_listAt (eqU x) pl.isList (λ w hw=>zc3 rx fx r fs w (69:)) ⟨.bl _,H,I,rfl,?_⟩;rw [show its.toArray.any (eqU x)=its.any (eqU x) by simp,zgV r fs];exact q
 ·obtain ⟨its,r,pl,hz⟩:=I.tuple hq;refine SeqAt.in_tupleAt (eqU x) pl (λ w hw=>zc3 rx fx r fs w (69:)) ⟨.bl _,H,I,rfl,?_⟩;rw [show its.toArray.any (eqU x)=its.any (eqU x) by simp,zgV r fs];exact q
def zkm:OpR X (compareOp .NotIn) (rIn X.K true):=by
 intro pins s σ H x y v u Q I rx ry h;obtain ⟨p,xs,rfl,hq,fx,fs,q⟩:=h;cases ry;rcases hq with hq | hq
 ·obtain ⟨its,r,pl,hz⟩:=I.list hq;refine SeqAt.notIn_listAt (eqU x) pl.isList (λ w hw=>zc3 rx fx r fs w (69:)) ⟨.bl _,H,I,rfl,?_⟩;rw [show its.toArray.any (eqU x)=its.any (eqU x) by simp,zgV r fs];exact q
 ·obtain ⟨its,r,pl,hz⟩:=I.tuple hq;refine SeqAt.notIn_tupleAt (eqU x) pl (λ w hw=>zc3 rx fx r fs w (69:)) ⟨.bl _,H,I,rfl,?_⟩;rw [show its.toArray.any (eqU x)=its.any (eqU x) by simp,zgV r fs];exact q
def ziA:zdq X (.type "tuple") (λ xs H Q=>∃ p ys,xs=[.ref p] /\ ((SqL X.K H p ys /\ ∀ l,H l=none -> Q (.ref l) (upd H l (.tup ys))) \/ (SqT X.K H p ys /\ Q (.ref p) H))):=by
 intro pins s σ H xs us Q I r h;obtain ⟨p,ys,rfl,h⟩:=h;obtain ⟨u,rfl,rx⟩:=zqZ r;cases rx;rcases h with ⟨hq,q⟩ | ⟨hq,q⟩
 ·obtain ⟨its, r', pl, hz⟩ := I.list hq;have hlen := r'.length;refine call_tuple_list pl.isList (fun h' kp => ?_) (by simp only [yas] <;> omega);have I1 : Inv X pins σ H { s with heap := h' } := I.kept (t' := s.toks) kp
  have I2:Inv X pins σ (upd H h'.objs.size (.tup ys)) { s with heap:=h'.push { cls:=.type "tuple",data:=.seq its.toArray } }:=
   I1.laid (t':=s.toks) (λ b o e=>yam _ e) (yaj _) (show zda X.prog X.w _ _ _ (.tup ys) from ⟨hz,its,r',zbB.new _ _⟩)
  exact ⟨.ref h'.objs.size,_,I2,rfl,q _ (I1.hok.fresh (yaj _))⟩
 ·obtain ⟨its,r',pl,hz⟩:=I.tuple hq;exact call_tuple_same pl ⟨.ref p,H,I,rfl,q⟩
noncomputable def tyV (K:PySem.W.Frag) (T:String) (x:V) (H:Hp):Prop:=match x with
  | .str _=>T="str"
  | .int _=>T="int"
  | .ref p=>(T="list" /\ ∃ xs,SqL K H p xs) \/ (T="tuple" /\ ((∃ o,K.lookup p=some o /\ o.cls=.type "tuple" /\ o.dict=none) \/ ∃ xs,H p=some (.tup xs))) \/
      (T="dict" /\ ((∃ kvs,H p=some (.dK kvs)) \/ ∃ kvs,H p=some (.dT kvs))) \/ (T="set" /\ ∃ S n,H p=some (.set S n))
  | _=>False
def zqh {pins:List (Addr × Obj)} {σ:St} {H:Hp} {s:Shared} {T:String} {x:V} {v:Value} (I:Inv X pins σ H s) (r:RelV x v) (ty:tyV X.K T x H) :
  s.TypeIs v T /\ ∀ a,v=.ref a -> ∃ ob,s.heap.get? a=some ob /\ ob.dict=none:=by
 cases x with
 | str z=>
  obtain ⟨t,rfl⟩:=r;cases (show T="str" from ty);exact ⟨typeIs_str s z t,λ _ e=>nomatch e⟩
 | int i=>
  obtain ⟨t,rfl⟩:=r;cases (show T="int" from ty);exact ⟨typeIs_int s i t,λ _ e=>nomatch e⟩
 | ref p=>
  cases r;rcases ty with ⟨rfl,xs,hq⟩ | ⟨rfl,⟨o,hk,hc,hd⟩ | ⟨xs,hx⟩⟩ | ⟨rfl,hk⟩ | ⟨rfl,S,n,hk⟩
  ·obtain ⟨its,_,pl,_⟩:=I.list hq;refine ⟨pl.isList.typeIs,λ a e=>?_⟩;cases e;obtain ⟨o,n,e,c,hd,_⟩:=pl;exact ⟨o,e,hd⟩
  ·refine ⟨⟨o,I.kIn p o hk,hc⟩,λ a e=>?_⟩;cases e;exact ⟨o,I.kIn _ o hk,hd⟩
  ·obtain ⟨_,_,_,o,e,c,hd,_⟩:=I.hok p _ hx;refine ⟨⟨o,e,c⟩,λ a e2=>?_⟩;cases e2;exact ⟨o,e,hd⟩
  ·have z:∃ o,s.heap.get? p=some o /\ o.ExactDict:=by
    rcases hk with ⟨kvs,hk⟩ | ⟨kvs,hk⟩
    ·obtain ⟨_,_,_,_,o,_,_,e,ex,_⟩:=I.hok p _ hk;exact ⟨o,e,ex⟩
    ·obtain ⟨_,_,_,_,o,_,_,e,ex,_⟩:=I.hok p _ hk;exact ⟨o,e,ex⟩
   obtain ⟨o,e,ex⟩:=z;refine ⟨⟨o,e,ex.1⟩,λ a e2=>?_⟩;cases e2;exact ⟨o,e,ex.2.1⟩
  ·obtain ⟨o,_,_,_,e,ex,_⟩:=I.hok p _ hk;refine ⟨⟨o,e,ex.1⟩,λ a e2=>?_⟩;cases e2;exact ⟨o,e,ex.2.1⟩
 | _=>exact False.elim ty
noncomputable def tBM0 (K:PySem.W.Frag) (T:String) (r:V -> List V -> Hp -> VK -> Prop) (to:TE):TE:=λ σ H Q=>to σ H λ x H1=>tyV K T x H1 /\ r x [] H1 Q
noncomputable def tBM (K:PySem.W.Frag) (T:String) (r:V -> List V -> Hp -> VK -> Prop) (to:TE) (t:TA):TE:=λ σ H Q=>to σ H λ x H1=>tyV K T x H1 /\ t σ H1 λ xs H2=>r x xs H2 Q
variable {o e:Expr} {es:List Expr} {to:TE} {t:TA} {name:Str} {apos cpos:Pos} {T id:String} {r:V -> List V -> Hp -> VK -> Prop}
def zss (pa:PlainAttrs T) (slot:Slot T name id) (hty:typeOf (.builtin id)=pure (.type "method_descriptor")) (hm:MtR X id r) (ho:PE X o to)
  (hbase:attributeBase o name X.env (eval o X.env)=eval o X.env:=by rfl) (hline:(apos.endLine == cpos.line)=true:=by rfl):PE X (.Call (.Attribute o name apos) [] [] cpos) (tBM0 X.K T r to):=by
 intro pins s σ H Q I h;refine wpAny_Call_method0_late hbase hline (thn (ho pins s σ H _ I h) λ v s1 ⟨x,H1,I1,r1,ty,q1⟩=>?_);obtain ⟨h1,h2⟩:=zqh I1 r1 ty;exact ⟨T,id,pa,slot,hty,h1,h2,Calls.callWith_builtin rfl (PySem.evalArgs_none (hm pins s1 σ H1 x [] v [] Q I1 r1 .nil q1))⟩
def zty (pa:PlainAttrs T) (slot:Slot T name id) (hty:typeOf (.builtin id)=pure (.type "method_descriptor")) (hm:MtR X id r) (ho:PE X o to) (ha:PA X (e :: es) t)
  (hbase:attributeBase o name X.env (eval o X.env)=eval o X.env:=by rfl)
  (hfew : ((backTo cpos (starEach (e :: es) X.env)).all (fun x => !x.1) && (backToKw cpos (keywordEach [] X.env)).all (fun x => x.1.isSome)
   && decide ((e :: es).length + ([]:List Keyword).length + (if ([]:List Keyword).isEmpty then 0 else 1) < 30))=true:=by rfl)
  (hline:(apos.endLine == cpos.line)=true:=by rfl) (hs:starEach (e :: es) X.env=(false,eval e X.env) :: starEach es X.env:=by rfl) (hplain:(backTo cpos (starEach es X.env)).any (·.1)=false:=by rfl) :
  PE X (.Call (.Attribute o name apos) (e :: es) [] cpos) (tBM X.K T r to t):=by
 intro pins s σ H Q I h;refine wpAny_Call_method_late hbase hfew hline rfl (thn (ho pins s σ H _ I h) λ v s1 ⟨x,H1,I1,r1,ty,q1⟩=>?_);obtain ⟨h1,h2⟩:=zqh I1 r1 ty;refine ⟨T,id,pa,slot,hty,h1,h2,?_⟩;have hA:=ha cpos pins s1 σ H1 _ I1 q1;rw [hs] at hA ⊢;refine Calls.callWith_builtin (by show (false || (backTo cpos (starEach es X.env)).any (·.1))=false; rw [hplain] <;> rfl) (Calls.evalArgs_plain ?_);exact thn hA λ us s2 ⟨vs,H2,I2,r2,q2⟩=>hm pins s2 σ H2 x vs v us Q I2 r1 r2 q2
end
noncomputable def MtM (X:Cx) (id:String) (r:V -> List V -> Hp -> VK -> Prop):Prop:=
 ∀ (pins:List (Addr × Obj)) (s:Shared) (σ:St) (H:Hp) (x:V) (xs:List V) (v:Value) (us:List Value) (Q:VK),Inv X pins σ H s -> RelV x v -> Vals xs us -> r x xs H Q ->
  wpAny (model X.prog X.w) X.A (call (.builtin id) (v :: us)) (EP X pins σ Q) X.xe s
def Vals.one:∀ {x:V} {us:List Value},Vals [x] us -> ∃ u,us=[u] /\ RelV x u
 | _,_,.cons r .nil=>⟨_,rfl,r⟩
def Vals.two:∀ {x y:V} {us:List Value},Vals [x,y] us -> ∃ u v,us=[u,v] /\ RelV x u /\ RelV y v
 | _,_,_,.cons r (.cons q .nil)=>⟨_,_,rfl,r,q⟩
def Vals.zero:∀ {us:List Value},Vals [] us -> us=[]
 | _,.nil=>rfl
def Vals.dropLast {xs:List V} {us:List Value} (h:Vals xs us):Vals xs.dropLast us.dropLast:=by
 induction h with
 | nil=>exact .nil
 | cons r t ih=>
  cases t with
  | nil=>exact .nil
  | cons q t'=>exact .cons r ih
def Vals.rep {xs:List V} {us:List Value} (h:Vals xs us):∀ k:Nat,Vals (List.replicate k xs).flatten (List.replicate k us).flatten
 | 0=>.nil
 | k + 1=>by
  rw [ybj,ybj,yb2,yb2];exact Vals.append h (Vals.rep h k)
def zmH {α:Type} (l:List α):l.eraseIdx (l.length - 1)=l.dropLast:=by
 induction l with
 | nil=>rfl
 | cons a r ih=>
  cases r with
  | nil=>rfl
  | cons b r=>
   have e:(a :: b :: r).length - 1=((b :: r).length - 1) + 1:=by
    have h1:(a :: b :: r).length=r.length + 2:=rfl;have h2:(b :: r).length=r.length + 1:=rfl;omega
   rw [e,List.eraseIdx_cons_succ,ih]
   all_goals rfl
def zgw (its:List Value):∀ (k:Nat) (acc:List Value),
  List.foldl (λ x1 x2=>x1 ++ x2) acc.toArray (List.replicate k its.toArray)=(acc ++ (List.replicate k its).flatten).toArray
 | 0,acc=>by simp
 | k + 1,acc=>by
  have e:acc.toArray ++ its.toArray=(acc ++ its).toArray:=by simp
  have e2:(acc ++ its) ++ (List.replicate k its).flatten=acc ++ (List.replicate (k + 1) its).flatten:=by
   rw [ybj,yb2,yaE]
  rw [<- e2,<- zgw its k (acc ++ its),<- e,ybj,ycS]
section
variable {X:Cx} {pins:List (Addr × Obj)} {σ:St} {H:Hp} {s:Shared} {l b:Addr} {xs ys zs:List V}
def Inv.lset {its its':List Value} {n:Nat} {f:Array Value -> Array Value} {t':Nat} (I:Inv X pins σ H s) (hH:H l=some (.lst xs))
  (e:s.heap.get? l=some { cls:=.type "list",data:=.seq its.toArray n }) (hf:f its.toArray=its'.toArray) (hv:Vals ys its') (hz:ys.length <= sizeLine) :
  Inv X pins σ (upd H l (.lst ys)) { s with heap:=s.heap.update l (Obj.mapSeq f),toks:=t' }:=by
 have q:=PySem.IsL.update e f;rw [hf] at q;refine I.write (x:=l) (e:=l) (by rw [hH]; exact trivial) (.inl rfl) (λ b' u hb hu=>(Heap.get?_update_other s.heap (Obj.mapSeq f) (ycG hb)).trans hu) ⟨_,q⟩ ?_;exact ⟨hz,its',_,hv,q⟩
def Inv.lnew {its:List Value} {t':Nat} (I:Inv X pins σ H s) (hv:Vals ys its) (hz:ys.length <= sizeLine) :
  Inv X pins σ (upd H s.heap.objs.size (.lst ys)) { s with heap:=s.heap.push { cls:=.type "list",data:=.seq its.toArray },toks:=t' }:=
 I.laid (λ _ _ q=>yam _ q) (yaj _) ⟨hz,its,0,hv,yaF _ rfl⟩
def Inv.fresh (I:Inv X pins σ H s):H s.heap.objs.size=none:=I.hok.fresh (yaj _)
def Inv.lstM (I:Inv X pins σ H s) (hH:H l=some (.lst xs)):xs.length <= sizeLine /\ ∃ (its:List Value) (n:Nat),Vals xs its /\ xs.length=its.length /\ s.heap.get? l=some { cls:=.type "list",data:=.seq its.toArray n }:=by
 obtain ⟨z,its,n,r,e⟩:=I.hok l _ hH;exact ⟨z,its,n,r,r.length,e⟩
def zlr {n:Nat} (h:n <= sizeLine):Builtin.List.listTooLong n=false:=by
 unfold Builtin.List.listTooLong;exact decide_eq_false (1:)
end
section
variable {X:Cx}
noncomputable def zog:V -> List V -> Hp -> VK -> Prop:=λ x vs H Q=>∃ l xs y,x=.ref l /\ vs=[y] /\ H l=some (.lst xs) /\ xs.length < sizeLine /\ Q .non (upd H l (.lst (xs ++ [y])))
def zdF:MtM X "list.append" zog:=by
 intro pins s σ H x vs v us Q I rx rv h;obtain ⟨l,xs,y,rfl,rfl,hH,hz,q⟩:=h;cases rx;obtain ⟨u,rfl,ru⟩:=rv.one;obtain ⟨z,its,n,r,hl,e⟩:=I.lstM hH;refine call_meets F.slot_list_append ⟨_,e,rfl⟩ F.entry_list_append (F.args_list_append_2 _ _) (PySem.list_append l its.toArray n u (by rw [yas]; omega)) ⟨e,?_⟩;refine ⟨.non,_,I.lset (its':=its ++ [u]) hH e (8:) (r.append (.cons ru .nil)) ?_,rfl,q⟩;rw [yao,ycC];omega
noncomputable def zod:V -> List V -> Hp -> VK -> Prop:=λ x vs H Q=>∃ l b xs zs,x=.ref l /\ vs=[.ref b] /\ H l=some (.lst xs) /\ H b=some (.lst zs) /\ xs.length + zs.length <= sizeLine /\ Q .non (upd H l (.lst (xs ++ zs)))
def zjf:MtM X "list.extend" zod:=by
 intro pins s σ H x vs v us Q I rx rv h;obtain ⟨l,b,xs,zs,rfl,rfl,hH,hB,hz,q⟩:=h;cases rx;obtain ⟨u,rfl,ru⟩:=rv.one;cases ru;obtain ⟨z,its,n,r,hl,e⟩:=I.lstM hH;obtain ⟨z2,its2,n2,r2,hl2,e2⟩:=I.lstM hB;have hsz:its.toArray.size + its2.toArray.size <= sizeLine:=by rw [yas,yas]; omega
 have hlong:¬ (!its.toArray.isEmpty && Builtin.List.listTooLong (its.toArray.size + its2.toArray.size))=true:=by
  rw [zlr hsz,yc0];exact yaI
 refine call_meets F.slot_list_extend ⟨_,e,rfl⟩ F.entry_list_extend (F.args_list_extend_2 _ _)
  (AutoSeq1.list_extend_list_list_0 l its.toArray n b its2.toArray n2 hlong (by rw [yas]; omega) (1:)) ⟨e,e2,?_⟩
 refine ⟨.non,_,I.lset (its':=its ++ its2) hH e (8:) (r.append r2) ?_,rfl,q⟩;rw [yao];omega
noncomputable def rPop:V -> List V -> Hp -> VK -> Prop:=λ x vs H Q=>∃ l xs y,x=.ref l /\ vs=[] /\ H l=some (.lst xs) /\ xs[xs.length - 1]?=some y /\ Q y (upd H l (.lst xs.dropLast))
def zqb:MtM X "list.pop" rPop:=by
 intro pins s σ H x vs v us Q I rx rv h;obtain ⟨l,xs,y,rfl,rfl,hH,hy,q⟩:=h;cases rx;have hus:=rv.zero;subst hus;obtain ⟨z,its,n,r,hl,e⟩:=I.lstM hH;obtain ⟨u,hu,ru⟩:=r.get hy
 have hy':its.toArray[its.toArray.size - 1]?=some u:=by
  show its.toArray[its.length - 1]?=some u;rw [<- Array.getElem?_toList,<- hl];exact hu
 refine call_meets F.slot_list_pop ⟨_,e,rfl⟩ F.entry_list_pop (F.args_list_pop_1 _) (MeetsSeq.list_pop_last l its.toArray n u hy' (by rw [yas]; omega)) ⟨e,?_⟩;refine ⟨y,_,I.lset (its':=its.dropLast) hH e ?_ r.dropLast ?_,ru,q⟩
 ·show its.toArray.eraseIdxIfInBounds (its.toArray.size - 1)=its.dropLast.toArray;rw [yas,List.eraseIdxIfInBounds_toArray,zmH]
 ·rw [yb5];omega
noncomputable def rCat:R2:=λ x y H Q=>∃ l b xs zs,x=.ref l /\ y=.ref b /\ H l=some (.lst xs) /\ H b=some (.lst zs) /\ xs.length + zs.length <= sizeLine /\ ∀ p,H p=none -> Q (.ref p) (upd H p (.lst (xs ++ zs)))
def ztb:OpR X (binaryOp .Add) rCat:=by
 intro pins s σ H x y v u Q I rx ry h;obtain ⟨l,b,xs,zs,rfl,rfl,hH,hB,hz,q⟩:=h;cases rx;cases ry;obtain ⟨z,its,n,r,hl,e⟩:=I.lstM hH;obtain ⟨z2,its2,n2,r2,hl2,e2⟩:=I.lstM hB;refine PySem.P.add_list e e2 ?_ (by rw [yas,yas]; omega);have ea:its.toArray ++ its2.toArray=(its ++ its2).toArray:=by simp
 rw [ea];exact ⟨.ref _,_,I.lnew (t':=s.toks) (r.append r2) (by rw [yao]; omega),rfl,q _ I.fresh⟩
noncomputable def rRep:R2:=λ x y H Q=>∃ l k xs,x=.ref l /\ y=.int k /\ H l=some (.lst xs) /\ -(2 ^ 63) <= k /\ k < 2 ^ 63 /\ xs.length * k.toNat <= sizeLine /\
 ∀ p,H p=none -> Q (.ref p) (upd H p (.lst (List.replicate k.toNat xs).flatten))
def znQ {α:Type} (xs:List α) (k:Nat):(List.replicate k xs).flatten.length=k * xs.length:=by
 induction k with
 | zero=>simp
 | succ k ih=>rw [ybj,yb2,yao,ih,Nat.succ_mul,Nat.add_comm]
def zsW:OpR X (binaryOp .Mult) rRep:=by
 intro pins s σ H x y v u Q I rx ry h;obtain ⟨l,k,xs,rfl,rfl,hH,h1,h2,hz,q⟩:=h;cases rx;obtain ⟨t,rfl⟩:=ry;obtain ⟨z,its,n,r,hl,e⟩:=I.lstM hH;have hlen:its.toArray.size * k.toNat <= sizeLine:=by rw [yas,<- hl]; exact hz
 have hcap:¬ its.toArray.size * k.toNat > (2 ^ 63 - 1) / 8:=by
  have:(sizeLine:Nat) <= (2 ^ 63 - 1) / 8:=by decide
  omega
 have hfit:¬ (!Builtin.List.listFitsIndex k)=true:=by
  rw [fitsIndex_both h1 h2];exact yaI
 have hlong:¬ Builtin.List.listTooLong (its.toArray.size * k.toNat)=true:=by
  rw [zlr hlen];exact yaI
 have hnew:List.foldl (λ x1 x2=>x1 ++ x2) #[] (List.replicate (if its.toArray.isEmpty=true then 0 else k.toNat) its.toArray)=(List.replicate k.toNat its).flatten.toArray:=by
  have f0:∀ m:Nat,List.foldl (λ x1 x2=>x1 ++ x2) #[] (List.replicate m its.toArray)=(List.replicate m its).flatten.toArray:=λ m=>by
   have:=zgw its m [];rw [List.nil_append] at this;exact this
  rw [f0];cases its with
  | nil=>simp
  | cons a r'=>rw [if_neg (8:)]
 refine wpAny_binaryOp_repeat_ref (T:="list") (U:="int") (3:) ⟨_,e,rfl⟩ (λ s'=>typeIs_int s' k t) noFill_list_mul F.fills_int_mul ycT repeat_list F.slot_int_index.lookup
  (call_meets ycT (typeIs_int s k t) F.entry_int_rmul (F.args_int_rmul_2 _ _) (int___rmul___int_list k t l its.toArray n)
   ⟨e,rfl,⟨_,e,rfl⟩,call_meets F.slot_list_mul ⟨_,e,rfl⟩ F.entry_list_mul (F.args_list_mul_2 _ _) (AutoListH.list___mul___list_int_3 l its.toArray n k t hfit hcap hlong) ⟨e,?_⟩⟩)
 rw [hnew];exact ⟨.ref _,_,I.lnew (t':=s.toks) (r.rep k.toNat) (by rw [znQ,Nat.mul_comm]; exact hz),rfl,q _ I.fresh⟩
end
section
variable {prog:Program} {w:World} {A:Around} {E:Value -> Shared -> Prop} {s:Shared}
end
section
variable {X:Cx}
end
end L2
namespace Att
open PySem PySem.W PySem.Calls PyProof.Rows
def zgD {P:Params} {h:Heap}:∀ (ns:List Int) (vs:List Value),WellAll P h vs (ns.map WData.int) -> IntsAre vs ns:=by
 intro ns
 induction ns with
 | nil=>
  intro vs w;rw [List.map_nil] at w;cases w;exact .nil
 | cons n ns ih=>
  intro vs w;rw [ybv] at w;cases w with
  | cons a b=>
   cases a;exact .cons _ _ (ih _ b)
def zn6 {l:OpenLaw} {n:Nat} (hn:l.most=some n) {P:Params} {h:Heap} {args:List WData} {vals:List Value}
    (hpre:l.row.toRowW.claim.pre args=true) (hwl:WellAll P h vals args) :
    ∃ a vs ns,vals=[Value.ref a] /\ args=[WData.list (ns.map WData.int)] /\ h.get? a=some { cls:=.type "list",data:=.seq vs.toArray } /\ IntsAre vs ns /\ ns.length <= n:=by
  have hsh:WShape.hasAll [] args [.list .int]=true:=(pre_splitW hpre).1;have hc:l.pre.holds [] { args:=args }=true:=(pre_splitW hpre).2;obtain ⟨d,r,rfl,h1,h2⟩:=hasAllW_cons hsh;obtain rfl:=hasAllW_nil h2;obtain ⟨xs,rfl,h3⟩:=hasW_list h1;obtain ⟨ns,rfl⟩:=items_int h3
  have hlen:ns.length <= n:=by
    unfold OpenLaw.pre at hc
    have h4:(WTm.not (.lt (.lit (.int (n:Int))) (.len (.arg 0)))).holds [] { args:=[.list (ns.map .int)] }=true:=by
      have h4:=(holds_andW hc).1;rw [hn] at h4;exact h4
    have h5:=condW_of h4 (w_not (w_lt w_lit (w_len_list (w_arg rfl))));rw [yaa] at h5;refine Nat.le_of_not_lt λ q=>?_;have q':(n:Int) < ((ns.length:Nat):Int):=by omega
    first
      | (rw [decide_eq_true q'] at h5; exact absurd h5 (3:))
      | (simp at h5; omega)
  cases hwl with
  | cons w1 w2=>
    cases w2;cases w1 with
    | list ho hall=>exact ⟨_,_,ns,rfl,rfl,ho,zgD ns _ hall,hlen⟩
def zpe (l:OpenLaw) (args:List WData):l.row.toRowW.claim.post args (.bool true) args=true:=
 postW_of (r:=l.row.toRowW) (X:=(true == true))
  (show WShape.has [] (.bool true) .bool=true by first | rfl | decide | simp [WShape.has,WShape.arms,WShape.armsAll])
  (show (WTm.eq .res (.lit (.bool true))).value [] { args:=args,res:=some (.bool true),after:=args }=some (.bool (true == true)) from w_eq_bool (w_res rfl) w_lit) rfl
def attach_call {l:OpenLaw} {n:Nat} {q:Program} {loose:List Str} {XP:(Str -> Option Value) -> Heap -> Prop} {YP:World -> Heap -> Prop} {d:DefRec}
    (hn:l.most=some n) (hdf:d.params.defaults=[])
    (call:∀ (w:World) (s₀ s₁:Shared) (mg mb:Str -> Option Value) (fa:Addr) (o:Obj) (pm cd doc:Value) (a:Addr) (vs:List Value) (ns:List Int),
      Ground q loose [] XP w s₀ mg mb s₁.heap -> YP w s₁.heap ->
      s₁.heap.get? fa=some o -> o.data=.func (docDef d.name d.params d.body d.scope pm cd doc) -> s₁.heap.CodeRec cd d.name -> mg d.name=some (.ref fa) ->
      s₁.heap.get? a=some { cls:=.type "list",data:=.seq vs.toArray } -> IntsAre vs ns -> ns.length <= n -> s₁.gens=#[] ->
      codeAny (model l.prog w) callerA (.call (.ref fa) ⟨[.ref a],[]⟩) (λ r s'=>r=.ok (.ret (.bool true)) /\ OldK s₁.heap s'.heap /\ s'.os=s₁.os /\ AllBare s'.gens) s₁) :
    WalkO q loose XP YP l.row.toRowW d [] (λ f vs=>PySem.call f vs):=by
  intro w s₀ s₁ mg mb G Y fa o pm cd doc dV kV ho hd hcd hD hmg hg args vals as hpre hlay hrd hwl hlo;obtain rfl:dV=.none:=Dflts.none hD hdf;obtain rfl:kV=.none:=Dflts.noKw hD;obtain ⟨a,vs,ns,rfl,rfl,hobj,hints,hlen⟩:=zn6 hn hpre hwl;refine enter_call (codeAny_mono (call w s₀ s₁ mg mb fa o pm cd doc a vs ns G Y ho (fd_plain hd) hcd hmg hobj hints hlen hg) λ r s' hq=>?_);obtain ⟨rfl,h2,h3,h4⟩:=hq;exact ⟨.inl ⟨.bool true,.bool true,[],rfl,λ _=>rfl,.bool true,zpe l _,λ _=>⟨List.Pairwise.nil,λ _ hm=>(nomatch hm)⟩⟩,h2,h3,h4⟩
section
variable {prog:Program} {w:World} {A:Around} {E:Value -> Shared -> Prop} {s:Shared} {K:Frag}
end
end Att
namespace L2
open PySem PySem.Spec PyProof.Rows
def zjW:∀ {vs:List Value} {ns:List Int},IntsAre vs ns -> Vals (ns.map V.int) vs
 | _,_,.nil=>.nil
 | _,_,.cons n t h=>.cons ⟨t,rfl⟩ (zjW h)
noncomputable def Only (H:Hp):Prop:=∀ b,H b=none \/ ∃ o xs,H b=some (.frz o (.lst xs))
def zpR {P:Program} {w:World} {K:PySem.W.Frag} {mg mb:Str -> Option Value} {CX:CXT} {k:Nat} {fa a:Addr} {fd:FuncData} {x:Str} {sp:Sp} {s₁:Shared} {vs:List Value} {ns:List Int}
    (KX:K.In s₁.heap) (hns:s₁.heap.Ns mainGlobals mg) (hb:s₁.heap.Ns builtinsNs mb) (hbb:∀ x:Str,x ≠ "__name__" -> mb x=bootBuiltins x) (hlim:s₁.heap.NoLimit) (hg:s₁.gens=#[])
    (ha:s₁.heap.get? a=some { cls:=.type "list",data:=.seq vs.toArray }) (hi:IntsAre vs ns) (hl:ns.length <= sizeLine) (hr:Room k callerA)
    (F:∀ base:Heap,K.In base -> base.Ns mainGlobals mg -> FnOk P w K mg base CX k fa fd [x] sp) (hbind:∀ (s:Shared) (u:Value),BindsTo s fd ⟨[u],[]⟩ [(x,u)])
    (hsp:∀ H:Hp,Only H -> SqL K H a (ns.map V.int) -> sp [.ref a] H (λ v _=>v=.bl true) λ _ _ _=>False)
    (hCX:∀ H e s',CX [] H s₁ (λ _ _ _=>False) e s' -> False) :
    codeAny (model P w) callerA (.call (.ref fa) ⟨[.ref a],[]⟩) (λ r s'=>r=.ok (.ret (.bool true)) /\ OldK s₁.heap s'.heap /\ s'.os=s₁.os /\ AllBare s'.gens) s₁:=by
  have rv:=zjW hi;have lenV:=hi.length
  -- from an abstract heap in which nothing but the script may be tracked
  have core:∀ H:Hp,Only H -> SqL K H a (ns.map V.int) -> HOk P w H s₁.heap -> (∀ b,H b ≠ none -> b=a) -> (H a ≠ none -> K.lookup a=none) ->
      codeAny (model P w) callerA (.call (.ref fa) ⟨[.ref a],[]⟩) (λ r s'=>r=.ok (.ret (.bool true)) /\ OldK s₁.heap s'.heap /\ s'.os=s₁.os /\ AllBare s'.gens) s₁:=by
    intro H hO hS hok hA hK;have base_of:∀ {b:Addr} {o:Obj},s₁.heap.get? b=some o -> H b=none -> (hidT s₁.heap H).get? b=some o:=λ e n=>zpu e n
    have noA:∀ {b:Addr} {o:Obj} {es:Array DictEntry} {ep:Nat},s₁.heap.get? b=some o -> o.data=.dict es ep -> H b=none:=λ {b o es ep} e d=>by
      cases q:H b with
      | none=>rfl
      | some u=>
        have e':b=a:=hA b (by rw [q]; simp);subst e';rw [ha] at e; cases e;have d':Data.seq vs.toArray _=Data.dict es ep:=d;cases d'
    have nsK:∀ {b:Addr} {m:Str -> Option Value},s₁.heap.Ns b m -> (hidT s₁.heap H).Ns b m:=λ {b m} ⟨o,es,ep,e,d,r⟩=>⟨o,es,ep,base_of e (noA e d),d,r⟩
    have hKb:K.In (hidT s₁.heap H):=λ b o e=>base_of (KX b o e) (by
      cases q:H b with
      | none=>rfl
      | some u=>
        have e':b=a:=hA b (by rw [q]; simp);subst e';rw [hK (by rw [q]; simp)] at e; cases e)
    have hM:Mod K mg (hidT s₁.heap H):=⟨hKb,nsK hns,⟨mb,nsK hb,hbb⟩,let ⟨mc,h1,h2⟩:=hlim; ⟨mc,nsK h1,h2⟩⟩
    have e0:Env0 P w K mg (hidT s₁.heap H) callerA [] s₁ H:=⟨rfl,hM,λ b o e=>zqH e,Nat.le_of_eq (zor _ _),trivial,λ b hb=>absurd (show b ∈ ([]:List Addr) from hb) (8:),hok,.of_eq hg⟩
    refine codeAny_mono ((F _ hKb (nsK hns)).run callerA [] s₁ H ⟨[.ref a],[]⟩ [.ref a] [.ref a] _ _ hr e0 (hbind s₁ (.ref a)) (.cons rfl .nil) (hsp H hO hS)) λ r s' h=>?_;cases r with
    | error e=>exact (hCX H e s' h).elim
    | ok fl=>
      cases fl with
      | next=>exact False.elim h
      | brk=>exact False.elim h
      | cont=>exact False.elim h
      | ret u=>
        obtain ⟨v,H',os,bare,un,hok',r',q⟩:=h;have q':v=.bl true:=q;subst q';obtain rfl:u=Value.bool true:=r';refine ⟨rfl,OldK.of_keep λ b o e=>?_,os,bare⟩;cases q:H b with
        | none=>exact un.keep b o e q (by intro z; exact absurd (show b ∈ ([]:List Addr) from z) (8:)) (8:)
        | some u=>
          rcases hO b with z | ⟨ob,xs,z⟩
          · rw [q] at z; cases z
          · have z2:=un.frzs b ob _ z;obtain ⟨e1,_⟩:=hok b _ z;obtain ⟨e2,_⟩:=hok' b _ z2;rw [e] at e1; cases e1;exact e2
  cases hk:K.lookup a with
  | some o=>
    -- the script is one of the module's own objects
    have e:=KX a o hk;rw [ha] at e;cases e;refine core (λ _=>none) (λ _=>.inl rfl) (.inr ⟨_,vs.toArray,_,hk,rfl,rfl,rfl,by rw [yas,lenV]; exact hl,by simpa using rv⟩) (λ b u z=>by have z':(none:Option HO)=some u:=z; cases z') (λ b z=>absurd rfl z) λ z=>absurd rfl z
  | none=>
    refine core (λ b=>if b=a then some (.frz { cls:=.type "list",data:=.seq vs.toArray } (.lst (ns.map V.int))) else none) (λ b=>?_) (.inl (.inr ⟨{ cls:=.type "list",data:=.seq vs.toArray },if_pos rfl⟩)) (λ b u z=>?_) (λ b z=>?_) λ _=>hk
    · by_cases hb : b = a
      · exact .inr ⟨_,_,if_pos hb⟩
      · exact .inl (if_neg hb)
    · by_cases hb : b = a
      · have z':=(if_pos hb).symm.trans z;cases z';subst hb;exact ⟨ha,by rw [yaa]; exact hl,vs,_,rv,ha⟩
      · have z':=(if_neg hb).symm.trans z;cases z'
    · by_cases hb : b = a
      · exact hb
      · exact absurd (if_neg hb) z
def walk_of {l:PySem.W.OpenLaw} {n k:Nat} {q:Program} {loose:List Str} {XP:(Str -> Option Value) -> Heap -> Prop} {YP:World -> Heap -> Prop} {d:DefRec} {K:Params -> PySem.W.Frag} {CX:World -> CXT} {sp:World -> Sp} {x:Str}
    (hn:l.most=some n) (hn2:n <= sizeLine) (hdf:d.params.defaults=[]) (hr:Room k callerA)
    (hY:∀ (w:World) (h:Heap),YP w h -> (K w.params).In h)
    (F:∀ (w:World) (mg:Str -> Option Value) (fa:Addr) (h:Heap),(K w.params).In h -> h.Ns mainGlobals mg -> mg d.name=some (.ref fa) ->
      ∃ fd:FuncData,(∀ (s:Shared) (u:Value),BindsTo s fd ⟨[u],[]⟩ [(x,u)]) /\
        ∀ base:Heap,(K w.params).In base -> base.Ns mainGlobals mg -> FnOk l.prog w (K w.params) mg base (CX w) k fa fd [x] (sp w))
    (hsp:∀ (w:World) (H:Hp) (a:Addr) (ns:List Int),ns.length <= n -> Only H -> SqL (K w.params) H a (ns.map V.int) -> sp w [.ref a] H (λ v _=>v=.bl true) λ _ _ _=>False)
    (hCX:∀ (w:World) (H:Hp) (s:Shared) (e:Value) (s':Shared),CX w [] H s (λ _ _ _=>False) e s' -> False) :
    PySem.W.WalkO q loose XP YP l.row.toRowW d [] (λ f vs=>PySem.call f vs):=by
  refine Att.attach_call hn hdf λ w s₀ s₁ mg mb fa o pm cd doc a vs ns G Y ho hd hcd hmg hobj hints hlen hg=>?_;have KX:=hY w _ Y;obtain ⟨fd,hb,hF⟩:=F w mg fa _ KX G.T.g hmg;exact zpR KX G.T.g G.T.b G.T.builtins G.T.nolimit hg hobj hints (yaW hlen hn2) hr hF hb (λ H hO hS=>hsp w H a ns hlen hO hS) λ H e s'=>hCX w H s₁ e s'
noncomputable def zes (s:Stmt):Arguments:=match s with
 | .FunctionDef _ a _ _ _ _ _ _ _ _=>a
 | _=>{ posonlyargs:=[],args:=[],vararg:=none,kwonlyargs:=[],kw_defaults:=[],kwarg:=none,defaults:=[] }
noncomputable def zdJ (s:Stmt):List Stmt:=match s with
 | .FunctionDef _ _ b _ _ _ _ _ _ _=>b
 | _=>[]
noncomputable def zaf (s:Stmt):Scope:=match s with
 | .FunctionDef _ _ _ _ _ _ sc _ _ _=>sc
 | _=>{ kind:=.function,names:=[],isGenerator:=false,isCoroutine:=false }
noncomputable abbrev CX0:CXT:=λ _ _ _ _ _ _=>False
noncomputable abbrev E0:XK:=λ _ _ _=>False
def ztI {X:Cx}:zo7 CX0 X E0:=λ _ _ _ _ _ _ _ h=>h.elim
structure Fun (K:PySem.W.Frag) (x qual:Str) (st:Stmt) (f:Addr) (fd:FuncData):Prop where
 ex:∃ (oc:Value) (od:Option Addr) (kV doc pm:Value) (an:Option Addr) (cdv ct:Value) (osl:Array (Option Value)),
  fd=PySem.W.fnOf x qual (zes st) (zdJ st) (zaf st) .none kV doc pm an cdv ct /\ K.lookup f=some ⟨oc,od,.func fd,osl⟩ /\ PySem.W.codeIn K cdv qual=true
 kp:PySem.W.keepIn K (.ref f)=true
section
variable {P:Program} {w:World} {K:PySem.W.Frag} {mg:Str -> Option Value} {base:Heap}
def Fun.ok {x qual:Str} {st:Stmt} {f:Addr} {fd:FuncData} {N ps:List Str} {k:Nat} {sp:Sp} (F:Fun K x qual st f fd) (S:FnScope N ps (zaf st)) (len:∀ vs H Q E,sp vs H Q E -> vs.length=ps.length)
  (hbody : ∀ (cdv : Value) (A : Around) (outer : List Env) (s : Shared) (H : Hp) (vs : List V) (Q : VK) (E : XK), Room k (A.deeper (envOfC qual (zaf st) s.heap.objs.size f cdv)) -> sp vs H Q E ->
   ∃ t,PSs (cxOf CX0 P w K mg base N qual (zaf st) f cdv A outer s H E).nox (zdJ st) t /\ t { nx:=λ _ H'=>Q .non H',rt:=Q } (start N vs) H):FnOk P w K mg base CX0 (k + 1) f fd ps sp:=by
 obtain ⟨oc,od,kV,doc,pm,an,cdv,ct,osl,rfl,lk,hcd⟩:=F.ex;refine ztm lk hcd S len λ A outer s H vs Q E hr hsp=>?_;obtain ⟨t,h,q⟩:=hbody cdv A outer s H vs Q E hr hsp;exact ⟨t,h.nox,q⟩
def Fun.binds {x qual:Str} {st:Stmt} {f:Addr} {fd:FuncData} {ps:List Str} (F:Fun K x qual st f fd)
  (h:∀ (kV doc pm:Value) (an:Option Addr) (cdv ct:Value) (us:List Value),us.length=ps.length -> bindArgs (PySem.W.fnOf x qual (zes st) (zdJ st) (zaf st) .none kV doc pm an cdv ct) ⟨us,[]⟩=pure (ps.zip us)):zkD K fd ps []:=by
 obtain ⟨oc,od,kV,doc,pm,an,cdv,ct,osl,rfl,lk,hcd⟩:=F.ex;exact .all (h kV doc pm an cdv ct)
def zqv {x qual:Str} {st:Stmt} {f:Addr} {oc:Value} {od an:Option Addr} {osl:Array (Option Value)} {kV doc pm cdv ct:Value} (l:K.lookup f=some ⟨oc,od,.func (PySem.W.fnOf x qual (zes st) (zdJ st) (zaf st) .none kV doc pm an cdv ct),osl⟩)
  (c:PySem.W.codeIn K cdv qual=true) (k:PySem.W.keepIn K (.ref f)=true):Fun K x qual st f (PySem.W.fnOf x qual (zes st) (zdJ st) (zaf st) .none kV doc pm an cdv ct):=⟨⟨oc,od,kV,doc,pm,an,cdv,ct,osl,rfl,l,c⟩,k⟩
end
section
variable {X:Cx}
def pv (i:Nat) {x:Str} {pos:Pos} (hN:X.N[i]?=some x:=by rfl) (hv:Vis X.env.scope x:=by first | exact Or.inl rfl | exact Or.inr (Or.inl rfl) | exact Or.inr (Or.inr rfl)) (hd:(x == ("__debug__":Str))=false:=by decide)
  (hcd:(x == ("__classdict__":Str))=false:=by decide):PE X (.Name x pos) (tVar i):=zsR hN hv hd hcd
end
def iteF {A B:Prop} (h:B):if false=true then A else B:=by
 rw [if_neg yaI];exact h
def iteT {A B:Prop} (h:A):if true=true then A else B:=by
 rw [if_pos rfl];exact h
def ite2 {c A B:Prop} [Decidable c] (h1:c -> A) (h2:¬ c -> B):if c then A else B:=by
 by_cases h:c
 ·rw [if_pos h];exact h1 h
 ·rw [if_neg h];exact h2 h
noncomputable def Same (H H':Hp):Prop:=∀ b o,H b=some o -> H' b=some o
def Same.refl (H:Hp):Same H H:=λ _ _ h=>h
def Same.trans {H H1 H2:Hp} (a:Same H H1) (b:Same H1 H2):Same H H2:=λ c o h=>b c o (a c o h)
def Same.free {H H':Hp} (e:Same H H') {l:Addr} (h:H' l=Option.none):H l=Option.none:=by
 cases q:H l with
 | none=>rfl
 | some o=>
  rw [e l o q] at h;cases h
def Same.seq {K:PySem.W.Frag} {H H':Hp} {a:Addr} {xs:List V} (e:Same H H') (h:SqL K H a xs):SqL K H' a xs:=by
 rcases h with (h | ⟨o,h⟩) | h
 ·exact .inl (.inl (e _ _ h))
 ·exact .inl (.inr ⟨o,e _ _ h⟩)
 ·exact .inr h
noncomputable def zcu (cells:List (Str × Addr)):List (Str × NameKind) -> List (Str × Addr) -> List (Str × Addr)
 | [],cs=>cs
 | (n,k) :: r,cs=>if k == .free then (match cells.lookup n with | some a=>zcu cells r ((n,a) :: cs) | none=>zcu cells r cs) else zcu cells r cs
noncomputable abbrev clOf (env:Env) (scope:Scope):List (Str × Addr):=zcu env.cells scope.names []
def ziL {env:Env}:∀ (names:List (Str × NameKind)) (cs:List (Str × Addr)),(∀ p ∈ names,p.2=.free -> ∃ c,env.cells.lookup p.1=some c) ->
    (forIn names cs λ x r=>(if (x.2 == NameKind.free)=true then (do let a <- cellOf env x.1; pure (ForInStep.yield ((x.1,a) :: r))) else pure (ForInStep.yield r)):Sem (List (Str × Addr)))=pure (zcu env.cells names cs)
  | [],cs,_=>by simp [zcu]
  | (n,k) :: r,cs,h=>by
    have hr:∀ p ∈ r,p.2=.free -> ∃ c,env.cells.lookup p.1=some c:=λ p hp=>h p (yaY _ hp);rw [List.forIn_cons];by_cases hk:k=.free
    · subst hk;obtain ⟨c,e⟩:=h (n,.free) yaT rfl;have ih:=ziL r ((n,c) :: cs) hr;simp only [beq_self_eq_true,if_true,cellOf,e,pure_bind,zcu];exact ih
    · have hb : (k == NameKind.free) = false := by simpa using hk
      have ih:=ziL r cs hr;simp only [hb,yaC,if_false,pure_bind,zcu];exact ih
def zfd {scope:Scope} {env:Env} (h:∀ p ∈ scope.names,p.2=.free -> ∃ c,env.cells.lookup p.1=some c):closureFor scope env=pure (clOf env scope):=by
 have e:=ziL (env:=env) scope.names [] h;unfold closureFor;simp only [bind_pure];exact e
def zdQ {cells:List (Str × Addr)}:∀ (names:List (Str × NameKind)) (cs:List (Str × Addr)),(∀ p ∈ cs,cells.lookup p.1=some p.2) -> ∀ p ∈ zcu cells names cs,cells.lookup p.1=some p.2
 | [],_,h=>h
 | (n,k) :: r,cs,h=>by
  unfold zcu
  split
  ·cases e : cells.lookup n with
   | none=>exact zdQ r cs h
   | some a=>
    refine zdQ r _ λ p hp=>?_;rcases yaD.mp hp with rfl | hp
    ·exact e
    ·exact h p hp
  ·exact zdQ r cs h
def zdX {cells:List (Str × Addr)} {x:Str}:∀ (names:List (Str × NameKind)) (cs:List (Str × Addr)),(cs.lookup x).isSome=true -> ((zcu cells names cs).lookup x).isSome=true
 | [],_,h=>h
 | (n,k) :: r,cs,h=>by
  unfold zcu
  split
  ·cases e : cells.lookup n with
   | none=>exact zdX r cs h
   | some a=>
    refine zdX r _ ?_;rw [ybi]
    split
    ·rfl
    ·exact h
  ·exact zdX r cs h
def zdY {cells:List (Str × Addr)} {x:Str} {c:Addr} (e:cells.lookup x=some c):∀ (names:List (Str × NameKind)) (cs:List (Str × Addr)),(x,NameKind.free) ∈ names -> ((zcu cells names cs).lookup x).isSome=true
 | [],_,h=>nomatch h
 | (n,k) :: r,cs,h=>by
  unfold zcu;rcases yaD.mp h with h | h
  ·cases h;rw [if_pos (0:),e];exact zdX r _ (8:)
  ·split
   ·cases e' : cells.lookup n with
    | none=>exact zdY e r cs h
    | some a=>exact zdY e r _ h
   ·exact zdY e r cs h
def zct {env:Env} {scope:Scope} {x:Str} {c:Addr} (h:(clOf env scope).lookup x=some c):env.cells.lookup x=some c:=
 zdQ scope.names [] (λ _ z=>nomatch z) (x,c) (ybs h)
def zmh {env:Env} {scope:Scope} {x:Str} {c:Addr} (e:env.cells.lookup x=some c) (h:(x,NameKind.free) ∈ scope.names):(clOf env scope).lookup x=some c:=by
 obtain ⟨d,q⟩:=Option.isSome_iff_exists.mp (zdY e scope.names [] h);have:=zct (scope:=scope) q;rw [e] at this;cases this;exact q
def zch {env:Env}:∀ {names:List (Str × NameKind)} {x:Str},names.lookup x=some .free ->
    (names.map λ (n,k)=>if (k == NameKind.free && env.scope.kind == .function && env.kindOf n == some .cell) then (n,NameKind.cell) else (n,k)).lookup x=some .cell \/
    (names.map λ (n,k)=>if (k == NameKind.free && env.scope.kind == .function && env.kindOf n == some .cell) then (n,NameKind.cell) else (n,k)).lookup x=some .free
  | [],_,h=>by simp at h
  | (n,k) :: r,x,h=>by
    have ih:=@zch env r x;show List.lookup x ((if (k == NameKind.free && env.scope.kind == .function && env.kindOf n == some .cell)=true then (n,NameKind.cell) else (n,k)) :: _)=_ \/ List.lookup x ((if (k == NameKind.free && env.scope.kind == .function && env.kindOf n == some .cell)=true then (n,NameKind.cell) else (n,k)) :: _)=_;cases hx:x == n with
    | true=>
      simp only [ybi,hx] at h;cases h;by_cases hc:(NameKind.free == NameKind.free && env.scope.kind == .function && env.kindOf n == some .cell)=true
      · rw [if_pos hc]; simp [ybi,hx]
      · rw [if_neg hc]; simp [ybi,hx]
    | false=>
      simp only [ybi,hx] at h;by_cases hc:(k == NameKind.free && env.scope.kind == .function && env.kindOf n == some .cell)=true
      · rw [if_pos hc]; simp only [ybi,hx]; exact ih h
      · rw [if_neg hc]; simp only [ybi,hx]; exact ih h
def zcj {env:Env}:∀ {names:List (Str × NameKind)} {x:Str},(∀ y ∈ names,y.2 ≠ .cell) ->
    ((names.map λ (n,k)=>if (k == NameKind.free && env.scope.kind == .function && env.kindOf n == some .cell) then (n,NameKind.cell) else (n,k)).lookup x=some .cell \/
    (names.map λ (n,k)=>if (k == NameKind.free && env.scope.kind == .function && env.kindOf n == some .cell) then (n,NameKind.cell) else (n,k)).lookup x=some .free) -> (x,NameKind.free) ∈ names
  | [],_,_,h=>by simp at h
  | (n,k) :: r,x,hc,h=>by
    have ih:=@zcj env r x λ y hy=>hc y (yaY _ hy);have hk:k ≠ .cell:=hc (n,k) yaT
    have h':List.lookup x ((if (k == NameKind.free && env.scope.kind == .function && env.kindOf n == some .cell)=true then (n,NameKind.cell) else (n,k)) :: (r.map λ (n,k)=>if (k == NameKind.free && env.scope.kind == .function && env.kindOf n == some .cell) then (n,NameKind.cell) else (n,k)))=some .cell \/
      List.lookup x ((if (k == NameKind.free && env.scope.kind == .function && env.kindOf n == some .cell)=true then (n,NameKind.cell) else (n,k)) :: (r.map λ (n,k)=>if (k == NameKind.free && env.scope.kind == .function && env.kindOf n == some .cell) then (n,NameKind.cell) else (n,k)))=some .free:=h
    by_cases hq:(k == NameKind.free && env.scope.kind == .function && env.kindOf n == some .cell)=true
    · rw [if_pos hq] at h'
      have hf:k=.free:=by
        have:=hq;simp only [yal] at this;simpa using this.1.1
      cases hx:x == n with
      | true=>
        have:x=n:=by simpa using hx
        subst this;rw [hf];exact yaT
      | false=>
        simp only [ybi,hx] at h';exact yaY _ (ih h')
    · rw [if_neg hq] at h';cases hx : x == n with
      | true=>
        simp only [ybi,hx,Option.some.injEq] at h';have:x=n:=by simpa using hx
        subst this;rcases h' with z | z
        · exact absurd z hk
        · rw [z]; exact yaT
      | false=>
        simp only [ybi,hx] at h';exact yaY _ (ih h')
noncomputable def zka (N:List Str) (sc scope:Scope):List Str -> List (Option Nat) -> Bool
 | [],[]=>true
 | _ :: N',none :: src=>zka N sc scope N' src
 | x :: N',some j :: src=>decide (N[j]?=some x) && (decide (sc.names.lookup x=some .cell) || decide (sc.names.lookup x=some .free)) && decide (scope.names.lookup x=some .free) && zka N sc scope N' src
 | _,_=>false
noncomputable def zlu (N:List Str) (sc scope:Scope) (N':List Str) (src:List (Option Nat)):Bool:=
 scope.names.all (λ y=>decide (y.2 ≠ .cell)) && decide (scope.kind=.function) && scope.names.all (λ y=>decide (y.2=.local -> scope.names.lookup y.1=some .local)) &&
 scope.names.all (λ y=>decide (y.2=.free -> sc.names.lookup y.1=some .cell \/ sc.names.lookup y.1=some .free)) && decide (src.length=N'.length) && zka N sc scope N' src
structure CompOk (N:List Str) (sc scope:Scope) (N':List Str) (src:List (Option Nat)):Prop where
 cell:∀ y ∈ scope.names,y.2 ≠ .cell
 kind:scope.kind=.function
 names:∀ y ∈ scope.names,y.2=.local -> scope.names.lookup y.1=some .local
 free:∀ y ∈ scope.names,y.2=.free -> sc.names.lookup y.1=some .cell \/ sc.names.lookup y.1=some .free
 len:src.length=N'.length
 cap:∀ (i j:Nat) (x:Str),src[i]?=some (some j) -> N'[i]?=some x -> N[j]?=some x /\ (sc.names.lookup x=some .cell \/ sc.names.lookup x=some .free) /\ scope.names.lookup x=some .free
def zis {N:List Str} {sc scope:Scope}:∀ {N':List Str} {src:List (Option Nat)},zka N sc scope N' src=true -> ∀ (i j:Nat) (x:Str),src[i]?=some (some j) -> N'[i]?=some x ->
    N[j]?=some x /\ (sc.names.lookup x=some .cell \/ sc.names.lookup x=some .free) /\ scope.names.lookup x=some .free
  | [],[],_,i,j,x,h,_=>by simp at h
  | [],_ :: _,h,_,_,_,_,_=>by simp [zka] at h
  | _ :: _,[],h,_,_,_,_,_=>by simp [zka] at h
  | y :: N',none :: src,h,i,j,x,h1,h2=>by
    cases i with
    | zero=>simp at h1
    | succ i=>exact zis (N':=N') (src:=src) (by simpa [zka] using h) i j x (65:) (77:)
  | y :: N',some k :: src,h,i,j,x,h1,h2=>by
    simp only [zka,yal,Bool.or_eq_true,decide_eq_true_eq] at h;cases i with
    | zero=>
      simp at h1 h2;subst h1 h2;exact ⟨h.1.1.1,h.1.1.2,h.1.2⟩
    | succ i=>exact zis (N':=N') (src:=src) h.2 i j x (65:) (77:)
def zjg {N:List Str} {sc scope:Scope} {N':List Str} {src:List (Option Nat)} (h:zlu N sc scope N' src=true):CompOk N sc scope N' src:=by
 simp only [zlu,yal,ybo,decide_eq_true_eq] at h;exact ⟨h.1.1.1.1.1,h.1.1.1.1.2,h.1.1.1.2,h.1.1.2,h.1.2,zis h.2⟩
noncomputable def za2 (X:Cx) (scope:Scope) (N':List Str) (C:Addr) (s:Shared) (H:Hp) (fp:List Addr):Cx where
 prog:=X.prog
 w:=X.w
 K:=X.K
 mg:=X.mg
 base:=X.base
 A:=X.A
 N:=N'
 s₀:=s
 H₀:=H
 env:=compEnvC scope (clOf X.env scope) C X.env
 outer:=X.stack
 stack:=X.stack
 ex:=fp
 fn:=λ _=>false
 calm:=X.calm
 pn:=[]
 xe:=λ _ _=>False
noncomputable def capt (src:List (Option Nat)) (σ:St):St:=src.map λ o=>o.bind λ j=>(σ[j]?).getD none
noncomputable def Ext (σ σ':St):Prop:=σ.length=σ'.length /\ ∀ (i:Nat) v,σ[i]?=some (some v) -> σ'[i]?=some (some v)
noncomputable def PTs (X:Cx) (ifs:List Expr) (t:TT):Prop:=
 ∀ (pins:List (Addr × Obj)) (s:Shared) (σ:St) (H:Hp) (Q:Bool -> Hp -> Prop),Inv X pins σ H s -> t σ H Q ->
  wpAny (model X.prog X.w) X.A (forIn ifs true λ c r=>if r=true then do let ok <- isTrue c X.env (eval c X.env); pure (ForInStep.yield ok) else pure (ForInStep.yield r)) (TP X pins σ Q) X.xe s
noncomputable def zsG:TT:=λ _ H Q=>Q true H
def zba {X:Cx}:PTs X [] zsG:=λ _ _ _ H _ I h=>wpAny_tests_nil ⟨H,I,h⟩
def zbg {X:Cx} {c:Expr} {t:TT} (h:PT X c t):PTs X [c] t:=λ pins s σ H Q I hw=>wpAny_tests_one (h pins s σ H Q I hw)
noncomputable def zdc (J:It) (src:List (Option Nat)) (σ:St) (g:TG) (tc:TT) (te:TE) (Q:VK) (H1:Hp):Prop:=
 ∃ W:Nat -> Nat -> List V -> Hp -> Prop,(∃ m,W 0 m [] H1) /\ ∀ i m acc H,W i m acc H -> acc.length <= sizeLine /\
  ((J.stop i H /\ ∀ p,H p=none -> Q (.ref p) (upd H p (.lst acc))) \/
  (J.go i H /\ ∃ (N1 : V -> Hp -> Prop) (N2 : Hp -> Prop), (∀ y H4, N1 y H4 -> ∃ m', m' < m /\ W (i + 1) m' (acc ++ [y]) H4) /\ (∀ H3, N2 H3 -> ∃ m', m' < m /\ W (i + 1) m' acc H3) /\
   ∀ x H',J.yld i H x H' -> g x (capt src σ) H' λ σ2 H2=>Ext (capt src σ) σ2 /\ tc σ2 H2 λ b H3=>if b=true then te σ2 H3 N1 else N2 H3))
noncomputable def zpS (src:List (Option Nat)) (wi:TI) (g:TG) (tc:TT) (te:TE):TE:=λ σ H Q=>wi σ H λ J H1=>zdc J src σ g tc te Q H1
section
variable {prog:Program} {w:World} {A:Around} {R:Result -> Shared -> Prop} {s:Shared}
def zjK {elt target iter:Expr} {ifs:List Expr} {scope:Scope} {pos:Pos} {it acc:Value} {env:Env} (I:Nat -> Shared -> Prop)
  (turn : ∀ n s, I n s -> wpAny (model prog w) A (pyNext it) (fun r s₁ => match r with
   | none=>R (.ok .next) s₁
   | some v=>wpAny (model prog w) A (letOwnedTupleGo target it v) (λ _ s₁'=>wpAny (model prog w) A (assign target env v) (λ _ s₂=>
     wpAny (model prog w) A (forIn ifs true λ c r=>if r=true then do let ok <- isTrue c env (eval c env); pure (ForInStep.yield ok) else pure (ForInStep.yield r)) (λ ok s₃=>
      if ok=true then wpAny (model prog w) A (eval elt env) (λ x s₄=>
       wpAny (model prog w) A (call (.builtin "list.append") [acc,x]) (λ _ s₅=>∃ m,m < n /\ I m s₅) (λ _ _=>False) s₄) (λ _ _=>False) s₃
      else ∃ m,m < n /\ I m s₃) (λ _ _=>False) s₂) (λ _ _=>False) s₁') (λ _ _=>False) s₁) (λ _ _=>False) s)
  (n:Nat) (h:I n s) :
  codeAny (model prog w) A (.compLoop (.ListComp elt [⟨target,iter,ifs,0⟩] scope pos) 0 it acc env) R s:=by
 refine codeAny_loop rfl I (λ n s hI=>?_) n h;show wpAny _ A ((compTurn (.ListComp elt [⟨target,iter,ifs,0⟩] scope pos) 0 it acc env).onRaise (λ x=>do noteFrame x env; theTreesLotGoes x)) _ _ s;refine wpAny_noted ?_;rw [compTurn_list];refine wpAny_bind (wpAny_standAt (wpAny_bind (wpAny_mono (turn n s hI) (λ r s₁ h₁=>?_) λ _ _ h'=>False.elim h')));cases r with
 | none=>exact wpAny_pure h₁
 | some v=>
  refine wpAny_bind (wpAny_mono h₁ (λ _ s₁' h₁'=>?_) λ _ _ h'=>False.elim h');refine wpAny_bind (wpAny_mono h₁' (λ _ s₂ h₂=>wpAny_bind (wpAny_mono h₂ (λ ok s₃ h₃=>?_) λ _ _ h'=>False.elim h')) λ _ _ h'=>False.elim h');cases ok with
  | false=>exact wpAny_pure ⟨rfl,h₃⟩
  | true=>
   exact wpAny_bind (wpAny_bind (wpAny_mono h₃ (λ x s₄ h₄=>wpAny_bind (wpAny_mono h₄ (λ _ s₅ h₅=>wpAny_pure (wpAny_pure ⟨rfl,h₅⟩)) λ _ _ h'=>False.elim h')) λ _ _ h'=>False.elim h'))
end
section
variable {X:Cx} {tg iter elt:Expr} {ifs:List Expr} {scope sc:Scope} {pos:Pos} {N N':List Str} {src:List (Option Nat)} {wi:TI} {g:TG} {tc:TT} {te:TE}
def Inv.lst_made {pins:List (Addr × Obj)} {σ:St} {H:Hp} {h:Heap} {D:Addr} {acc:List V} {its:List Value} (P:Program) (w:World) (hok:HOk P w H h) (hn:H D=none) (hz:acc.length <= sizeLine) (r:Vals acc its) (e:h.PlainList D its.toArray) :
  HOk P w (upd H D (.lst acc)) h:=λ b u q=>by
 by_cases hb:b=D
 ·subst hb;rw [zai] at q;cases q;obtain ⟨n,e⟩:=e;exact ⟨hz,its,n,r,e⟩
 ·rw [zaA hb] at q;exact (hok b u q).stay (λ c v _ q=>q) (λ c q=>by rw [zaA (zaC q hn)]; exact q) λ c xs q=>by rw [zaA (zaC q hn)]; exact q
def zjJ (hc:X.calm=true) (hN:X.N=N) (hsc:X.env.scope=sc) (ok:CompOk N sc scope N' src)
    (hg:∀ C s H fp,PG (za2 X scope N' C s H fp) tg g) (ht:∀ C s H fp,PTs (za2 X scope N' C s H fp) ifs tc) (he:∀ C s H fp,PE (za2 X scope N' C s H fp) elt te)
    {pins:List (Addr × Obj)} {σ:St} {H2:Hp} {s₂:Shared} {J:It} {it:Addr} {fp:List Addr} {tn:Nat -> Heap -> Prop} (I2:Inv X pins σ H2 s₂) (T:Turn X.prog X.w X.K tg J fp it tn) (st2:tn 0 s₂.heap) (f2:∀ b ∈ fp,FpOk X pins H2 b)
    {Q:VK} (hw:zdc J src σ g tc te Q H2) {E:Value -> Shared -> Prop} {RR:Value -> Addr -> Result -> Shared -> Prop}
    (fin:∀ D C s' acc H' oC m,Inv X pins σ (upd H' D (.lst acc)) s' -> Q (.ref D) (upd H' D (.lst acc)) -> s'.heap.get? C=some oC -> s'.heap.Ns C m -> (∀ v,oC.data ≠ .cell v) -> FpOk X pins (upd H' D (.lst acc)) C -> RR (.ref D) C (.ok .next) s') :
    wpAny (model X.prog X.w) X.A (newList []) (λ acc s₃=>wpAny (model X.prog X.w) X.A (newFunctionEnv scope X.env.globals (clOf X.env scope) [] X.env.qual none .none (some X.env)) (λ cenv s₄=>
      codeAny (model X.prog X.w) X.A (.compStart (.ListComp elt [⟨tg,iter,ifs,0⟩] scope pos) 0 (.ref it) acc { cenv with scope:=relabel scope X.env }) (RR acc cenv.locals) s₄) E s₃) E s₂:=by
  subst hN hsc;refine wpAny_newObj_type (wpAny_newFunctionEnv ok.cell (by intro y hy; simp at hy) (λ h₁ hns₁ hsb₁=>?_) ok.kind);dsimp only at hns₁ hsb₁ ⊢;generalize hHp:s₂.heap.push { cls:=.type "list",dict:=none,data:=.seq ([]:List Value).toArray }=Hp2 at hns₁ hsb₁ ⊢;have hC:Hp2.objs.size=s₂.heap.objs.size + 1:=by rw [<- hHp,Heap.size_push]
  have hDC:s₂.heap.objs.size ≠ Hp2.objs.size:=by rw [hC]; exact yaR (Nat.lt_succ_self _)
  have hCle:s₂.heap.objs.size <= Hp2.objs.size:=by rw [hC]; exact Nat.le_succ _
  have below:∀ b,b < s₂.heap.objs.size -> b ≠ Hp2.objs.size /\ b ≠ s₂.heap.objs.size:=λ b hb=>⟨by rw [hC]; exact yaR (Nat.lt_succ_of_lt hb),yaR hb⟩
  have old:∀ b o,s₂.heap.get? b=some o -> h₁.get? b=some o:=λ b o e=>hsb₁.extBut b o (below b (yan e)).1 (yam _ (hHp ▸ yam _ e));have hacc:h₁.PlainList s₂.heap.objs.size #[]:=⟨_,hsb₁.extBut _ _ hDC (yam _ (hHp ▸ yaF _ rfl))⟩
  have hst₁:tn 0 h₁:=T.keep _ _ _ st2 λ b _ o e=>old b o e
  have fpl:∀ b ∈ fp,b < s₂.heap.objs.size:=λ b hb=>by
    obtain ⟨o,e,_⟩:=T.obj 0 _ st2 b hb;exact yan e
  generalize hCd:Hp2.objs.size=C at hns₁ hsb₁ hC hDC hCle below ⊢;generalize hDd:s₂.heap.objs.size=D at hC hDC hCle below hacc fpl ⊢;have freshH:∀ a,D <= a -> H2 a=none:=λ a ha=>I2.hok.fresh (by rw [hDd]; exact ha)
  have cellLt:∀ x c,X.env.cells.lookup x=some c -> c < D:=λ x c e=>by
    obtain ⟨v,o,ho,_⟩:=I2.cell x c e;rw [<- hDd];exact yan ho
  -- the block's context is right
  have oky:(za2 X scope N' C s₂ H2 fp).Ok:=by
    refine ⟨I2.ok.mod,?_,I2.ok.glob,I2.ok.blt,?_,λ x y c h1 h2=>I2.ok.inj x y c (zct h1) (zct h2),λ x hx=>?_,λ x c z=>absurd z (by simp [za2]),I2.ok.hd,I2.ok.frames,.inl rfl,λ b hb=>?_,I2.bs,yaW I2.ok.bsz I2.sz,λ b o e hb=>?_,λ b hb z=>?_,I2.stack,I2.stkFree⟩
    · exact ok.kind
    · show s₂.heap.objs.size <= C;rw [hDd]; exact hCle
    · have hm:=zcj (env:=X.env) (x:=x) ok.cell hx;obtain ⟨c,e⟩:=I2.ok.has x (ok.free _ hm rfl);exact ⟨c,zmh e hm⟩
    · exact ⟨(below b (fpl b hb)).1,λ x c e=>(f2 b hb).2.2.2.2.1 x c (zct e)⟩
    · have q := I2.ok.bs b o e;rcases (f2 b hb).2.2.2.1 with z | z
      · exact I2.ok.noex b o e z
      · exact absurd (yag (yan q.1) z) (ybm _)
    · rcases yaD.mp (I2.stkSub b z) with e | e
      · exact (f2 b hb).2.1 e
      · exact (f2 b hb).2.2.1 e
  have stkLt:∀ b ∈ frs X.stack,b < D:=λ b hb=>by
    obtain ⟨_,o,ho,_⟩:=I2.stack.mem hb;rw [<- hDd];exact yan ho
  have fpo:∀ {H':Hp} {pl:List (Addr × Obj)},(∀ b ∈ fp,H' b=none) -> (∀ p ∈ pl,p.1 ∉ fp) -> ∀ b ∈ fp,FpOk (za2 X scope N' C s₂ H2 fp) pl H' b:=λ {H' pl} hn hp b hb=>
    ⟨hn b hb,(below b (fpl b hb)).1,λ z=>(oky.exfs b hb) z,.inl hb,λ x c e=>(f2 b hb).2.2.2.2.1 x c (zct e),λ p hp' z=>by
      have hp':p ∈ pl:=by simpa [za2] using hp'
      exact hp p hp' (by rw [z]; exact hb)⟩
  have Dfp:D ∉ fp:=λ z=>ybm _ (fpl D z)
  -- the start
  have Iy:∀ tk,Inv (za2 X scope N' C s₂ H2 fp) [] (capt src σ) H2 { s₂ with heap:=h₁,toks:=tk }:=λ tk=>by
    refine ⟨oky,rfl,I2.bare,Un.kept old,⟨_,hns₁,λ i x v h1 h2 _=>?_⟩,λ x c e=>?_,freshH _ hCle,λ x c e=>I2.freeC x c (zct e),λ p hp=>absurd hp (by simp [za2]),I2.hok.kept old,?_⟩
    · have h2:(src[i]?).map (λ o=>o.bind λ j=>(σ[j]?).getD none)=some (some v):=by
        rw [<- h2]; simp [capt]
      cases e:src[i]? with
      | none=>rw [e] at h2; cases h2
      | some o=>
        rw [e] at h2;cases o with
        | none=>cases h2
        | some j=>
          have h2:(σ[j]?).getD none=some v:=Option.some.inj h2
          have h3:σ[j]?=some (some v):=by
            cases q:σ[j]? with
            | none=>rw [q] at h2; cases h2
            | some y=>rw [q] at h2; cases h2; rfl
          obtain ⟨a1,a2,a3⟩:=ok.cap i j x e h1;obtain ⟨m,hn,hl⟩:=I2.loc;obtain ⟨u,ru,lu⟩:=hl j x v a1 h3 (.inr a2);refine ⟨u,ru,?_⟩;rcases lu with ⟨k,_⟩ | ⟨k,c,ec,hcell⟩
          · have k:X.env.scope.names.lookup x=some .local:=k;rcases a2 with z | z <;> rw [k] at z <;> cases z
          · refine .inr ⟨zch a3,c,zmh ec (ybs a3),?_⟩;obtain ⟨o,ho,hd⟩:=hcell;exact ⟨o,old c o ho,hd⟩
    · obtain ⟨v,o,ho,hd⟩:=I2.cell x c (zct e);exact ⟨v,o,old c o ho,hd⟩
    · show (capt src σ).length=N'.length;rw [capt,yaa]; exact ok.len
  obtain ⟨W,⟨m0,w0⟩,turn⟩:=hw
  have loop:∀ tk,codeAny (model X.prog X.w) X.A (.compLoop (.ListComp elt [⟨tg,iter,ifs,0⟩] scope pos) 0 (.ref it) (.ref D) (compEnvC scope (clOf X.env scope) C X.env)) (RR (.ref D) C) { s₂ with heap:=h₁,toks:=tk }:=by
    intro tk
    refine zjK (λ n s'=>∃ i H' acc its,Inv (za2 X scope N' C s₂ H2 fp) [] (capt src σ) H' s' /\ tn i s'.heap /\ (∀ b ∈ fp,H' b=none) /\ H' D=none /\ s'.heap.PlainList D (List.toArray its) /\ Vals acc its /\ W i n acc H') ?_ m0
      ⟨0,H2,[],[],Iy tk,hst₁,λ b hb=>(f2 b hb).1,freshH _ (yaj _),hacc,.nil,w0⟩
    rintro n s3 ⟨i,H3,acc,its,I3,st3,fr3,hD3,pl3,v3,w3⟩;obtain ⟨hz,turn⟩:=turn i n acc H3 w3;obtain ⟨nD,eD⟩:=pl3;have Dfs:D ∉ frs X.stack:=λ z=>ybm _ (stkLt D z)
    have I3D:Inv (za2 X scope N' C s₂ H2 fp) [(D,{ cls:=.type "list",data:=.seq its.toArray nD })] (capt src σ) H3 s3:=I3.pins_of λ p hp=>by
      have hp:p=(D,{ cls:=.type "list",data:=.seq its.toArray nD }):=by simpa [za2] using hp
      subst hp;exact ⟨eD,hD3,hDC,Dfs,λ v z=>nomatch z⟩
    have pD:∀ p ∈ [(D,({ cls:=.type "list",data:=.seq its.toArray nD }:Obj))],p.1 ∉ fp:=λ p hp=>by
      have hp:p=(D,{ cls:=.type "list",data:=.seq its.toArray nD }):=by simpa using hp
      subst hp;exact Dfp
    rcases turn with ⟨stop,qn⟩ | ⟨go,N1,N2,hN1,hN2,step⟩
    · refine thn (T.done (za2 X scope N' C s₂ H2 fp) rfl rfl rfl hc i _ s3 _ H3 _ I3D (fpo fr3 pD) st3 stop) fun r s4 ⟨hr, I4⟩ => ?_;subst hr;obtain ⟨eD4, hD4, _⟩ := I4.pin (D, { cls := .type "list", data := .seq its.toArray nD }) (by simp [za2]);have hok4 : HOk X.prog X.w (upd H3 D (.lst acc)) s4.heap := Inv.lst_made (pins := []) (σ := []) _ _ I4.hok hD3 hz v3 ⟨nD, eD4⟩
      have un:Un (frs X.stack) fp H2 (upd H3 D (.lst acc)) s₂.heap s4.heap:=by
        have u:Un (frs X.stack) fp H2 H3 s₂.heap s4.heap:=I4.base;have ne:∀ b o,s₂.heap.get? b=some o -> b ≠ D:=λ b o e=>yaR (hDd ▸ yan e);refine ⟨u.keep,u.slot,λ b o e n hx=>?_,u.there,λ b xs e=>?_,λ b o x e=>?_,λ b ps e=>?_⟩
        · rw [zaA (ne b o e)]; exact u.free b o e n hx
        · have q:=u.tups b xs e;rw [zaA (zaC q hD3)]; exact q
        · have q:=u.frzs b o x e;rw [zaA (zaC q hD3)]; exact q
        · obtain ⟨more,q⟩:=u.tbls b ps e;exact ⟨more,by rw [zaA (zaC q hD3)]; exact q⟩
      have chk:∀ b ∈ fp,(b ∈ X.ex \/ X.s₀.heap.objs.size <= b) /\ b ≠ X.env.locals /\ (∀ x c,X.env.cells.lookup x=some c -> c ≠ b) /\ ∀ p ∈ X.pn ++ pins,p.1 ≠ b:=λ b hb=>by
        obtain ⟨_,f1,_,f3,f4,f5⟩:=f2 b hb;exact ⟨f3,f1,f4,f5⟩
      have IX:Inv X pins σ (upd H3 D (.lst acc)) s4:=by
        have hos:s4.os=s₂.os:=I4.os;have hb4:=I4.bare;obtain ⟨hh,gg,dd,tt,os'⟩:=s4;obtain rfl:os'=s₂.os:=hos;exact I2.call (h':=hh) (g':=gg) (d':=dd) (t':=tt) (ch:=fp) un hok4 hb4 chk
      obtain ⟨mC,hnC,_⟩:=I4.loc;have hnC:s4.heap.Ns C mC:=hnC;obtain ⟨oC,es,ep,eC,dC,rC⟩:=id hnC
      have fC:FpOk X pins (upd H3 D (.lst acc)) C:=by
        refine ⟨by rw [zaA hDC.symm]; exact I4.free,ycf (yag I2.lt (by rw [hDd]; exact hCle)),I2.nofs (by rw [hDd]; exact hCle),.inr (yaW I2.sz (by rw [hDd]; exact hCle)),λ x c e z=>?_,λ p hp z=>?_⟩
        · have:=cellLt x c e;rw [z] at this;exact ybm _ (yag this hCle)
        · have:=yan (I2.pin p hp).1;rw [z,hDd] at this;exact ybm _ (yag this hCle)
      exact fin D C s4 acc H3 oC mC IX (qn D hD3) eC hnC (λ v z=>by rw [dC] at z; cases z) fC
    · refine thn (T.item (za2 X scope N' C s₂ H2 fp) rfl rfl rfl hc i _ s3 _ H3 _ I3D (fpo fr3 pD) st3 go) fun r s4 ⟨u, hr, h4⟩ => ?_;subst hr;refine thn h4 fun _ s5 ⟨x, H5, I5, r5, y5, st5, fr5⟩ => ?_;have I5' := I5.pinned (fpo fr5 pD) (T.obj _ _ st5);refine thn (hg C s₂ H2 fp _ s5 _ H5 x u _ I5' r5 (step x H5 y5)) fun _ s6 ⟨σ6, H6, I6, ex6, q6⟩ => ?_;refine thn (ht C s₂ H2 fp _ s6 σ6 H6 _ I6 q6) fun b s7 ⟨H7, I7, q7⟩ => ?_
      -- back to the start of a turn
      have back:∀ {s8:Shared} {H8:Hp},Inv (za2 X scope N' C s₂ H2 fp) ([(D,({ cls:=.type "list",data:=.seq its.toArray nD }:Obj))] ++ zjq fp s5.heap) σ6 H8 s8 ->
          Inv (za2 X scope N' C s₂ H2 fp) [] (capt src σ) H8 s8 /\ tn (i + 1) s8.heap /\ (∀ b ∈ fp,H8 b=none) /\ H8 D=none /\ s8.heap.get? D=some { cls:=.type "list",data:=.seq its.toArray nD }:=λ {s8 H8} I8=>by
        have pf:∀ b ∈ fp,∀ o,s5.heap.get? b=some o -> s8.heap.get? b=some o /\ H8 b=none:=λ b hb o e=>by
          have q:=I8.pin (b,o) (yaP _ (yaP _ (zfy hb e)));exact ⟨q.1,q.2.1⟩
        have qD:=I8.pin (D,{ cls:=.type "list",data:=.seq its.toArray nD }) (yaP _ (ybI _ yaT));refine ⟨(I8.pins_of (pins':=[]) λ p hp=>absurd hp (by simp [za2])).weak ex6.1 ex6.2,T.keep _ _ _ st5 λ b hb o e=>(pf b hb o e).1,λ b hb=>?_,qD.2.1,qD.1⟩;obtain ⟨o,e,_⟩:=T.obj _ _ st5 b hb;exact (pf b hb o e).2
      cases b with
      | false=>
        obtain ⟨m',hm,w7⟩:=hN2 H7 (by simpa using q7);obtain ⟨J8,st8,fr8,hD8,eD8⟩:=back I7;exact (by simpa using (⟨m',hm,i + 1,H7,acc,its,J8,st8,fr8,hD8,⟨nD,eD8⟩,v3,w7⟩:∃ m,m < n /\ ∃ i H' acc its,Inv (za2 X scope N' C s₂ H2 fp) [] (capt src σ) H' s7 /\ tn i s7.heap /\ (∀ b ∈ fp,H' b=none) /\ H' D=none /\ s7.heap.PlainList D (List.toArray its) /\ Vals acc its /\ W i m acc H'))
      | true=>
        have q7:te σ6 H7 N1:=by simpa using q7
        show wpAny _ _ _ _ _ _;refine thn (he C s₂ H2 fp _ s7 σ6 H7 _ I7 q7) λ u8 s8 ⟨y,H8,I8,r8,n8⟩=>?_;obtain ⟨m',hm,w8⟩:=hN1 y H8 n8;obtain ⟨J8,st8,fr8,hD8,eD8⟩:=back I8
        have hl8:its.toArray.size <= sizeLine:=by
          have:=v3.length;simp only [yas];omega
        refine wpAny_list_append_plain (l:=D) (items:=its.toArray) ⟨nD,eD8⟩ (λ h' pl9 sb9=>?_) hl8;have kp:∀ b o,b ≠ D -> s8.heap.get? b=some o -> h'.get? b=some o:=λ b o hb e=>(sb9.2 b hb).trans e
        have J9:Inv (za2 X scope N' C s₂ H2 fp) [] (capt src σ) H8 { s8 with heap:=h' }:=J8.turned (t':=s8.toks) kp hD8 hDC (.inr (show s₂.heap.objs.size <= D from Nat.le_of_eq hDd))
          (λ x c e z=>ybm D (by have:=cellLt x c (zct e); rw [z] at this; exact this)) (λ p hp=>absurd hp (by simp [za2]))
        refine ⟨m',hm,i + 1,H8,acc ++ [y],its ++ [u8],J9,T.keep _ _ _ st8 λ b hb o e=>kp b o (λ z=>Dfp (z ▸ hb)) e,fr8,hD8,?_,v3.append (.cons r8 .nil),w8⟩;have e9:its.toArray.push u8=(its ++ [u8]).toArray:=by simp
        rw [<- e9]; exact pl9
  exact codeAny_compStart_list (loop _) (T.self _ 0 _ _ _ hst₁ (loop _))
def zaW (hc:X.calm=true) (hi:PI X tg iter wi) (hg:∀ C s H fp,PG (za2 X scope N' C s H fp) tg g) (ht:∀ C s H fp,PTs (za2 X scope N' C s H fp) ifs tc) (he:∀ C s H fp,PE (za2 X scope N' C s H fp) elt te)
  (ok:zlu N sc scope N' src=true) (hN:X.N=N:=by rfl) (hsc:X.env.scope=sc:=by rfl) (hs:∀ x,foldedSetIterable iter X.env x=pure x:=by intro _; rfl) :
  PE X (.ListComp elt [⟨tg,iter,ifs,0⟩] scope pos) (zpS src wi g tc te):=by
 intro pins s σ H Q I h;have ok:=zjg ok;rw [eval_ListComp];have hclos:closureFor scope X.env=pure (clOf X.env scope):=zfd λ p hp hf=>I.ok.has p.1 (by subst hsc; exact ok.free p hp hf);refine wpAny_comprehension_free (use:=none) rfl hs hclos ok.kind ok.names (thn (hi pins s σ H _ I h) λ xv s₁ h₁=>thn h₁ λ itv s₂ h₂=>?_);obtain ⟨it,fp,tn,J,H2,e,I2,T,st2,f2,hw⟩:=h₂;subst e;refine zjJ hc hN hsc ok hg ht he I2 T st2 f2 hw (RR:=λ acc C=>compPost (model X.prog X.w) X.A X.xe none (EP X pins σ Q) acc C) ?_;intro D C s' acc H' oC m IX q eC hn nc f;obtain ⟨f0,f1,f2',f3,f4,f5⟩:=f;refine ⟨m,hn,λ h' sb=>⟨.ref D,upd H' D (.lst acc),?_,rfl,q⟩⟩;exact IX.turned (t':=s'.toks) (λ b o hb e=>(sb.2 b hb).trans e) f0 f1 f3 f4 f5
noncomputable def zl2 (src:List (Option Nat)) (wi:TI) (g:TG) (tc:TT) (te:TE) (j:Nat):TS:=λ D σ H=>zpS src wi g tc te σ H λ x H1=>D.nx (σ.set j (some x)) H1
def zaR {j:Nat} {y:Str} {py spos:Pos} (hnd:X.N.Nodup) (hj:X.N[j]?=some y) (hy:Loc X.env.scope y)
  (hc:X.calm=true) (hi:PI X tg iter wi) (hg:∀ C s H fp,PG (za2 X scope N' C s H fp) tg g) (ht:∀ C s H fp,PTs (za2 X scope N' C s H fp) ifs tc) (he:∀ C s H fp,PE (za2 X scope N' C s H fp) elt te)
  (ok:zlu N sc scope N' src=true) (hN:X.N=N:=by rfl) (hsc:X.env.scope=sc:=by rfl) (hs:∀ x,foldedSetIterable iter X.env x=pure x:=by intro _; rfl)
  (hsw:swapsWith (.ListComp elt [⟨tg,iter,ifs,0⟩] scope pos) (some (.Name y py)) spos.line X.env=pure true:=by rfl)
  (hf:X.fn y=true \/ X.env.scope.names.lookup y=some .local:=by first | exact .inl rfl | exact .inr rfl | assumption) :
  PS X (.Assign [.Name y py] (.ListComp elt [⟨tg,iter,ifs,0⟩] scope pos) spos) (zl2 src wi g tc te j):=by
 intro pins s σ H D I h;have ok:=zjg ok;rw [exec_Assign_Name_used _ _ _ _ hsw];refine wpAny_bind (wpAny_standAt (wpAny_bind ?_));show wpAny _ _ (do let _ <- comprehension (.ListComp elt [⟨tg,iter,ifs,0⟩] scope pos) scope X.env _ (newList []) false (eval iter X.env) (some (assign (.Name y py) X.env))) _ _ s;have hclos:closureFor scope X.env=pure (clOf X.env scope):=zfd λ p hp hf=>I.ok.has p.1 (by subst hsc; exact ok.free p hp hf)
 refine wpAny_bind (wpAny_mono (wpAny_comprehension_free (use:=some (assign (.Name y py) X.env)) (Q:=λ _ s'=>SP X pins D .next s') rfl hs hclos ok.kind ok.names
  (thn (hi pins s σ H _ I h) λ xv s₁ h₁=>thn h₁ λ itv s₂ h₂=>?_)) (λ _ s' hq=>wpAny_pure (wpAny_pure hq)) λ _ _ e=>e)
 obtain ⟨it,fp,tn,J,H2,e,I2,T,st2,f2,hw⟩:=h₂;subst e;refine zjJ hc hN hsc ok hg ht he I2 T st2 f2 hw (RR:=λ acc C=>compPost (model X.prog X.w) X.A X.xe (some (assign (.Name y py) X.env)) (λ _ s'=>SP X pins D .next s') acc C) ?_;intro D' C s' acc H' oC m IX q eC hn nc f;obtain ⟨f0,f1,f2',f3,f4,f5⟩:=f;show wpAny _ _ (assign (.Name y py) X.env (.ref D')) _ _ s'
 have IC:Inv X (pins ++ [(C,oC)]) σ (upd H' D' (.lst acc)) s':=IX.pins_of λ p hp=>(yaA.mp hp).elim (λ z=>IX.pin p (yaP _ z)) λ z=>by
  have z:p=(C,oC):=by simpa using z
  subst z;exact ⟨eC,f0,f1,f2',nc⟩
 refine wpAny_assign_Name (zfb IC hnd hj hy (show RelV (.ref D') (.ref D') from rfl) (λ s2 I2'=>?_) hf);have qC:=I2'.pin (C,oC) (yaP _ (yaP _ yaT));obtain ⟨oC',es,ep,eC',r⟩:=hn;rw [eC] at eC';cases eC';refine ⟨m,⟨oC,es,ep,qC.1,r⟩,λ h' sb=>⟨σ.set j (some (.ref D')),upd H' D' (.lst acc),?_,q⟩⟩;exact I2'.unpinned.turned (t':=s2.toks) (λ b o hb e=>(sb.2 b hb).trans e) f0 f1 f3 f4 f5
end
def zkL {σ:St} {i:Nat} {v:V} (h:σ[i]?=some none):Ext σ (σ.set i (some v)):=by
 refine ⟨by simp,λ k u e=>?_⟩;by_cases hk:i=k
 ·subst hk; rw [h] at e; cases e
 ·rw [ybJ hk]; exact e
def zmw {lo:Int} {n:Nat} {src:List (Option Nat)} {σ:St} {g:TG} {tc:TT} {te:TE} {Q:VK} {H:Hp} (Pv:Nat -> List V -> Hp -> Prop) (h0:Pv 0 [] H) (len:∀ i acc H,Pv i acc H -> acc.length <= sizeLine)
  (step:∀ i acc H,i < n -> Pv i acc H -> g (.int (lo + i)) (capt src σ) H λ σ2 H2=>Ext (capt src σ) σ2 /\ tc σ2 H2 λ b H3=>if b=true then te σ2 H3 (λ y H4=>Pv (i + 1) (acc ++ [y]) H4) else Pv (i + 1) acc H3)
  (done:∀ acc H,Pv n acc H -> ∀ p,H p=none -> Q (.ref p) (upd H p (.lst acc))):zdc (Itr lo n) src σ g tc te Q H:=by
 refine ⟨λ i m acc H=>m=n - i /\ i <= n /\ Pv i acc H,⟨n,by simp,ybA _,h0⟩,?_⟩;rintro i m acc H ⟨rfl,hi,p⟩;refine ⟨len i acc H p,?_⟩;by_cases hlt:i < n
 ·refine .inr ⟨hlt,λ y H4=>Pv (i + 1) (acc ++ [y]) H4,λ H3=>Pv (i + 1) acc H3,λ y H4 q=>⟨n - (i + 1),by omega,rfl,hlt,q⟩,λ H3 q=>⟨n - (i + 1),by omega,rfl,hlt,q⟩,λ x H' y=>?_⟩;obtain ⟨e,y⟩:=y;subst e y;exact step i acc _ hlt p
 ·have e : i = n := by omega
  subst e;exact .inl ⟨yaj _,done acc H p⟩
def zbN {K:PySem.W.Frag} {a:Addr} {xs:List V} {src:List (Option Nat)} {σ:St} {g:TG} {tc:TT} {te:TE} {Q:VK} {H:Hp} (Pv:Nat -> List V -> Hp -> Prop) (h0:Pv 0 [] H) (len:∀ i acc H,Pv i acc H -> acc.length <= sizeLine)
  (hl:∀ i acc H,Pv i acc H -> SqL K H a xs)
  (step:∀ i x acc H,xs[i]?=some x -> Pv i acc H -> g x (capt src σ) H λ σ2 H2=>Ext (capt src σ) σ2 /\ tc σ2 H2 λ b H3=>if b=true then te σ2 H3 (λ y H4=>Pv (i + 1) (acc ++ [y]) H4) else Pv (i + 1) acc H3)
  (done:∀ acc H,Pv xs.length acc H -> ∀ p,H p=none -> Q (.ref p) (upd H p (.lst acc))):zdc (Itl K a) src σ g tc te Q H:=by
 refine ⟨λ i m acc H=>m=xs.length - i /\ i <= xs.length /\ Pv i acc H,⟨xs.length,by simp,ybA _,h0⟩,?_⟩;rintro i m acc H ⟨rfl,hi,p⟩;refine ⟨len i acc H p,?_⟩;by_cases hlt:i < xs.length
 ·refine .inr ⟨⟨xs,xs[i],hl i acc H p,by simp [hlt]⟩,λ y H4=>Pv (i + 1) (acc ++ [y]) H4,λ H3=>Pv (i + 1) acc H3,λ y H4 q=>⟨xs.length - (i + 1),by omega,rfl,hlt,q⟩,λ H3 q=>⟨xs.length - (i + 1),by omega,rfl,hlt,q⟩,λ x H' y=>?_⟩;obtain ⟨e,y⟩:=y;subst e;exact step i x acc _ (y xs (hl i acc _ p)) p
 ·have e : i = xs.length := by omega
  subst e;exact .inl ⟨⟨xs,hl _ acc H p,yaj _⟩,done acc H p⟩
def zlx {K:PySem.W.Frag} {a:Addr} {xs:List V} {src:List (Option Nat)} {σ:St} {g:TG} {tc:TT} {te:TE} {Q:VK} {H:Hp} (Pv:Nat -> List V -> Hp -> Prop) (h0:Pv 0 [] H) (len:∀ i acc H,Pv i acc H -> acc.length <= sizeLine)
  (hl:∀ i acc H,Pv i acc H -> SqT K H a xs)
  (step:∀ i x acc H,xs[i]?=some x -> Pv i acc H -> g x (capt src σ) H λ σ2 H2=>Ext (capt src σ) σ2 /\ tc σ2 H2 λ b H3=>if b=true then te σ2 H3 (λ y H4=>Pv (i + 1) (acc ++ [y]) H4) else Pv (i + 1) acc H3)
  (done:∀ acc H,Pv xs.length acc H -> ∀ p,H p=none -> Q (.ref p) (upd H p (.lst acc))):zdc (Itt K a) src σ g tc te Q H:=by
 refine ⟨λ i m acc H=>m=xs.length - i /\ i <= xs.length /\ Pv i acc H,⟨xs.length,by simp,ybA _,h0⟩,?_⟩;rintro i m acc H ⟨rfl,hi,p⟩;refine ⟨len i acc H p,?_⟩;by_cases hlt:i < xs.length
 ·refine .inr ⟨⟨xs,xs[i],hl i acc H p,by simp [hlt]⟩,λ y H4=>Pv (i + 1) (acc ++ [y]) H4,λ H3=>Pv (i + 1) acc H3,λ y H4 q=>⟨xs.length - (i + 1),by omega,rfl,hlt,q⟩,λ H3 q=>⟨xs.length - (i + 1),by omega,rfl,hlt,q⟩,λ x H' y=>?_⟩;obtain ⟨e,y⟩:=y;subst e;exact step i x acc _ (y xs (hl i acc _ p)) p
 ·have e : i = xs.length := by omega
  subst e;exact .inl ⟨⟨xs,hl _ acc H p,yaj _⟩,done acc H p⟩
def Ext.trans {a b c:St} (h:Ext a b) (k:Ext b c):Ext a c:=⟨h.1.trans k.1,λ i v e=>k.2 i v (h.2 i v e)⟩
noncomputable def FnAt (P:Program) (w:World) (K:PySem.W.Frag) (mg:Str -> Option Value) (base:Heap) (x:Str) (ps:List Str) (k:Nat) (sp:Sp):Prop:=
 ∃ f fd,mg x=some (.ref f) /\ PySem.W.keepIn K (.ref f)=true /\ zkD K fd ps [] /\ FnOk P w K mg base CX0 k f fd ps sp
section
variable {X:Cx} {x:Str} {p pos:Pos} {e:Expr} {es:List Expr} {t:TA} {ps:List Str} {k:Nat} {sp:Sp}
def zah (h:FnAt X.prog X.w X.K X.mg X.base x ps k sp) (hr:Room k X.A) (ha:PA X (e :: es) t) (hg:Gl X x:=by rfl) (hdb:(x == ("__debug__":Str))=false:=by decide)
  (he:starEach (e :: es) X.env=(false,eval e X.env) :: starEach es X.env:=by rfl) (hpl:(backTo pos (starEach es X.env)).any (·.1)=false:=by rfl):PE X (.Call (.Name x p) (e :: es) [] pos) (zqT sp [] E0 t):=by
 obtain ⟨f,fd,hm,hk,hb,F⟩:=h;exact zrk F hr hg hm hk hb .nil ztI ha hdb he hpl
end
noncomputable def iSeq (K:PySem.W.Frag) (tl:TE):TI:=λ σ H R=>tl σ H λ x H1=>∃ a,x=.ref a /\ (((∃ xs,SqL K H1 a xs) /\ R (Itl K a) H1) \/ ((∃ xs,SqT K H1 a xs) /\ R (Itt K a) H1))
section
variable {X:Cx} {tg:Expr}
def zrX {l:Expr} {tl:TE} (hl:PE X l tl):PI X tg l (iSeq X.K tl):=by
 intro pins s σ H R I h;refine thn (hl pins s σ H _ I h) λ v s1 ⟨x,H1,I1,r1,q1⟩=>?_;obtain ⟨a,e,q1⟩:=q1;subst e;cases r1;rcases q1 with ⟨⟨xs,hq⟩,q⟩ | ⟨⟨xs,hq⟩,q⟩
 ·obtain ⟨its, rv, p, hz⟩ := I1.list hq;refine wpAny_pyIter_list p.isList ?_;refine ⟨s1.heap.objs.size, [s1.heap.objs.size], _, _, H1, rfl, I1.kept (t' := s1.toks) fun b o e => yam _ e, zoy a _, ⟨_, yaF _ rfl, rfl, rfl⟩, fun b hb => ?_, q⟩;have e : b = s1.heap.objs.size := by simpa using hb
  subst e;exact I1.fpOk (yaj _) (I1.hok.fresh (yaj _))
 ·obtain ⟨its, rv, p, hz⟩ := I1.tuple hq;refine wpAny_pyIter_tuple (show s1.heap.IsTuple a its.toArray from p) ?_;refine ⟨s1.heap.objs.size, [s1.heap.objs.size], _, _, H1, rfl, I1.kept (t' := s1.toks) fun b o e => yam _ e, zmY a _, ⟨_, yaF _ rfl, rfl, rfl⟩, fun b hb => ?_, q⟩;have e : b = s1.heap.objs.size := by simpa using hb
  subst e;exact I1.fpOk (yaj _) (I1.hok.fresh (yaj _))
end
section
variable {X:Cx} {pins:List (Addr × Obj)} {σ:St} {H:Hp} {s:Shared} {h':Heap} {ch:List Addr}
def Inv.turnL {t':Nat} (I:Inv X pins σ H s) (hf:∀ b ∈ ch,FpOk X pins H b) (k:∀ b o,b ∉ ch -> s.heap.get? b=some o -> h'.get? b=some o):Inv X pins σ H { s with heap:=h',toks:=t' }:=by
 have nit:∀ b u,H b=some u -> b ∉ ch:=λ b u e z=>by rw [(hf b z).1] at e; cases e
 refine I.step (g':=s.gens) (d':=s.drawn) (ch:=ch) (λ b hb=>?_) (λ b o _ _ hc e _=>k b o hc e) (λ b o _ _ hc e _=>⟨o.slots,k b o hc e⟩) (λ _ _ _ _ n=>n)
  (λ b o hc e=>⟨o,k b o hc e⟩) (λ _ _ e=>e) (λ _ _ _ e=>e) (λ b ps e=>⟨#[],by rw [e]; simp⟩) (λ m hm=>?_) (λ b u e=>?_) I.bare
 ·obtain ⟨_,f1,_,f3,f4,f5⟩:=hf b hb;exact ⟨f3,f1,f4,f5⟩
 ·obtain ⟨o,es,ep,ho,r⟩:=hm;exact ⟨o,es,ep,k _ o (λ z=>(hf _ z).2.1 rfl) ho,r⟩
 ·refine (I.hok b u e).stay (fun c v hc q => k c v ?_ q) (fun _ q => q) fun _ _ q => q;rcases hc with rfl | hc
  ·exact nit _ _ e
  ·exact nit _ _ hc
def zo3 {prog:Program} {w:World} {A:Around} {z TI TO i1 i2 l1 l2:Addr} (D:ZipApart z TI TO i1 i2 l1 l2) {xs ys:Array Value} {i:Nat} {s:Shared} {Q:Option Value -> Shared -> Prop} {E:Value -> Shared -> Prop} (hi:i < min xs.size ys.size)
  (hst:IsZip s.heap z TI TO .none /\ IsPair s.heap TI (.ref i1) (.ref i2) /\ (∃ a b,IsPair s.heap TO a b) /\ s.heap.IsListIter i1 l1 i /\ s.heap.IsListIter i2 l2 i /\ s.heap.IsList l1 xs /\ s.heap.IsList l2 ys)
  (hQ : ∀ T vals h' tk, (∃ x y, xs[i]? = some x /\ ys[i]? = some y /\ vals = #[x, y]) -> s.heap.objs.size <= T -> zbB h' T vals ->
   (IsZip h' z TI TO (rawInt T) /\ IsPair h' TI (.ref i1) (.ref i2) /\ (∃ a b,IsPair h' TO a b) /\ h'.IsListIter i1 l1 (i + 1) /\ h'.IsListIter i2 l2 (i + 1) /\ h'.IsList l1 xs /\ h'.IsList l2 ys /\ T ≠ z /\ T ≠ TO /\ T ≠ i1 /\ T ≠ i2) ->
   (∀ b o,b ∉ [z,TO,i1,i2] -> s.heap.get? b=some o -> h'.get? b=some o) -> Q (some (.ref T)) { s with heap:=h',toks:=tk }) :
  wpAny (model prog w) A (pyNext (.ref z)) Q E s:=by
 obtain ⟨hz,hTI,⟨a,b,hTO⟩,h1,h2,hl1,hl2⟩:=hst;have hix:i < xs.size:=yag hi (Nat.min_le_left ..);have hiy:i < ys.size:=yag hi (ycH ..);have ne:∀ {c o},s.heap.get? c=some o -> s.heap.objs.size ≠ c:=λ e=>ycf (yan e);refine wpAny_pyNext_zip_item D hz hTI hTO h1 h2 hl1 hl2 (ybw hix) (ybw hiy) λ h' a1 a2 a3 a4 a5 a6 hk=>?_;refine hQ s.heap.objs.size #[xs[i],ys[i]] h' s.toks ⟨_,_,ybw hix,ybw hiy,rfl⟩ (yaj _) ⟨_,a5,rfl,rfl,_,rfl⟩ ⟨a1,hk _ _ D.TIz D.TITO D.TIi1 D.TIi2 hTI,⟨_,_,a2⟩,a3,a4,?_,?_,ne hz,ne hTO,?_,?_⟩ ?_
 ·exact hl1.at λ o e=>hk _ o D.l1z D.l1TO D.l1i1 D.l1i2 e
 ·exact hl2.at λ o e=>hk _ o D.l2z D.l2TO D.l2i1 D.l2i2 e
 ·obtain ⟨_,e,_⟩:=h1; exact ne e
 ·obtain ⟨_,e,_⟩:=h2; exact ne e
 ·exact λ c o hc e=>hk c o (λ x=>hc (by simp [x])) (λ x=>hc (by simp [x])) (λ x=>hc (by simp [x])) (λ x=>hc (by simp [x])) e
def Inv.turnTup {T:Addr} {xs:List V} {its:List Value} {t':Nat} (I:Inv X pins σ H s) (hf:∀ b ∈ ch,FpOk X pins H b) (k:∀ b o,b ∉ ch -> s.heap.get? b=some o -> h'.get? b=some o)
  (hT:s.heap.objs.size <= T) (ht:zbB h' T its.toArray) (r:Vals xs its) (hz:xs.length <= sizeLine):Inv X pins σ (upd H T (.tup xs)) { s with heap:=h',toks:=t' }:=by
 have J:Inv X pins σ H { s with heap:=h',toks:=t' }:=I.turnL hf k;have hn:H T=none:=I.hok.fresh hT;have ne:∀ b o,s.heap.get? b=some o -> b ≠ T:=λ b o e=>yaR (yag (yan e) hT);refine ⟨J.ok,J.os,J.bare,?_,J.loc,J.cell,?_,λ x c e=>?_,λ p hp=>?_,λ b u q=>?_,J.len⟩
 ·have u := J.base;refine ⟨u.keep, u.slot, fun b o e n hx => ?_, u.there, fun b ys e => ?_, fun b o x e => ?_, fun b ps e => ?_⟩
  ·rw [zaA (yaR (yag (yan e) (yaW I.sz hT)))];exact u.free b o e n hx
  ·have q:=u.tups b ys e;rw [zaA (zaC q hn)]; exact q
  ·have q:=u.frzs b o x e;rw [zaA (zaC q hn)]; exact q
  ·obtain ⟨more,q⟩:=u.tbls b ps e;exact ⟨more,by rw [zaA (zaC q hn)]; exact q⟩
 ·rw [zaA (yaR (yag I.lt hT))]; exact I.free
 ·obtain ⟨v,o,ho,_⟩:=I.cell x c e;rw [zaA (ne c o ho)]; exact I.freeC x c e
 ·obtain ⟨e,n,r⟩:=J.pin p hp;refine ⟨e,?_,r⟩;rw [zaA (ne _ _ (I.pin p hp).1)]; exact n
 ·by_cases hb : b = T
  ·subst hb;rw [zai] at q;cases q;exact ⟨hz,its,r,ht⟩
  ·rw [zaA hb] at q;exact (J.hok b u q).stay (λ c v _ q=>q) (λ c q=>by rw [zaA (zaC q hn)]; exact q) λ c xs q=>by rw [zaA (zaC q hn)]; exact q
end
noncomputable def Itv (K:PySem.W.Frag) (a:Addr) (xs:List V):It:=
 ⟨λ i H=>i < xs.length /\ SqL K H a xs,λ i H x H'=>H'=H /\ xs[xs.length - 1 - i]?=some x,λ i _=>i=xs.length⟩
def zpZ {P:Program} {w:World} {K:PySem.W.Frag} {tg:Expr} (a it:Addr) (xs:List V):Turn P w K tg (Itv K a xs) [it] it (λ i h=>h.IsRevIter it a ((xs.length:Int) - 1 - (i:Int))) where
 mem:=by simp
 obj:=λ i h st b hb=>by
  have e:b=it:=by simpa using hb
  subst e;obtain ⟨o,e,c,d⟩:=st;exact ⟨o,e,λ v z=>by rw [d] at z; cases z⟩
 keep:=λ i h h' st k=>st.at λ o e=>k it (8:) o e
 item:=by
  intro X hP hw hK hc i pins s σ H E I hf st hg;subst hP hw hK;obtain ⟨hi,hq⟩:=hg;obtain ⟨its,rv,p,hz⟩:=I.list hq;have hl:=rv.length;have hx:xs[xs.length - 1 - i]?=some (xs[xs.length - 1 - i]'(1:)):=yac (1:);obtain ⟨u,hu,ru⟩:=rv.get hx;obtain ⟨f0,f1,f2,f3,f4,f5⟩:=hf it (8:);have e:(xs.length:Int) - 1 - (i:Int)=((xs.length - 1 - i:Nat):Int):=by omega
  rw [e] at st;refine wpAny_pyNext_rev_item st p.isList (x:=u) (by simpa using hu) λ h' st' sb=>?_;have I1:Inv X pins σ H { s with heap:=h' }:=I.turned (t':=s.toks) (λ b o hb e=>(sb.2 b hb).trans e) f0 f1 f3 f4 f5;obtain ⟨o,e',c,d⟩:=id st';refine ⟨u,rfl,zpp (s:={ s with heap:=h' }) e' c d (3:) ⟨_,H,I1,ru,⟨rfl,hx⟩,?_,λ b hb=>(hf b hb).1⟩⟩;have e2:((xs.length - 1 - i:Nat):Int) - 1=(xs.length:Int) - 1 - ((i + 1:Nat):Int):=by omega
  rw [<- e2];exact st'
 done:=by
  intro X hP hw hK hc i pins s σ H E I hf st hg;subst hP hw hK;have hg:i=xs.length:=hg;subst hg;obtain ⟨f0,f1,f2,f3,f4,f5⟩:=hf it (8:);have e:(xs.length:Int) - 1 - (xs.length:Int)=-1:=by omega
  rw [e] at st;exact wpAny_pyNext_rev_end (I.ok.hd hc) st λ h' eb=>⟨rfl,I.turned (t':=s.toks) (λ b o hb e=>eb b o hb e) f0 f1 f3 f4 f5⟩
 self:=λ _ _ _ _ _ st h=>wpAny_pyIter_revIter st h
noncomputable def iRev (K:PySem.W.Frag) (ta:TA):TI:=λ σ H R=>ta σ H λ vs H1=>∃ a xs,vs=[.ref a] /\ SqL K H1 a xs /\ R (Itv K a xs) H1
def zrW {X:Cx} {tg a:Expr} {ta:TA} {p pos:Pos} (hm:X.mg "reversed"=none) (ha:PA X [a] ta) (hg:Gl X "reversed":=by rfl) (hs:starEach [a] X.env=[(false,eval a X.env)]:=by rfl):PI X tg (.Call (.Name "reversed" p) [a] [] pos) (iRev X.K ta):=by
 intro pins s σ H R I h;refine Call_ (zcH I hg hm boot_reversed (yaL (thn (ha pos pins s σ H _ I h) λ us s1 ⟨vs,H1,I1,r1,q1⟩=>?_) hs rfl));obtain ⟨a,xs,e,hq,q⟩:=q1;subst e;cases r1 with
 | cons r rr=>
  cases rr;cases r;obtain ⟨its,rv,p,hz⟩:=I1.list hq;refine call_reversed_list p.isList ?_
  have hl:((its.toArray.size:Nat):Int) - 1=(xs.length:Int) - 1 - ((0:Nat):Int):=by
   rw [yas,rv.length]; omega
  have st:Heap.IsRevIter (s1.heap.push (revObj a ((its.toArray.size:Int) - 1))) s1.heap.objs.size a ((xs.length:Int) - 1 - ((0:Nat):Int)):=by
   rw [<- hl];exact ⟨_,yaF _ rfl,rfl,rfl⟩
  have I2:Inv X pins σ H1 { s1 with heap:=s1.heap.push (revObj a ((its.toArray.size:Int) - 1)) }:=I1.kept (t':=s1.toks) λ b o e=>yam _ e;refine wpAny_pyIter_revIter st ?_;refine ⟨s1.heap.objs.size,[s1.heap.objs.size],_,_,H1,rfl,I2,zpZ a _ xs,st,λ b hb=>?_,q⟩;have e:b=s1.heap.objs.size:=by simpa using hb
  subst e;exact I1.fpOk (yaj _) (I1.hok.fresh (yaj _))
noncomputable def Itz (K:PySem.W.Frag) (a b:Addr) (xs ys:List V):It:=
 ⟨fun i H => i < min xs.length ys.length /\ SqL K H a xs /\ SqL K H b ys, fun i H x H' => ∃ T u v, x = .ref T /\ H T = none /\ H' = upd H T (.tup [u, v]) /\ xs[i]? = some u /\ ys[i]? = some v,
  λ i H=>i=min xs.length ys.length /\ SqL K H a xs /\ SqL K H b ys⟩
def zp3 {P:Program} {w:World} {K:PySem.W.Frag} {elts:List Expr} {kk:Nat} {tpos:Pos} (a b z TI TO i1 i2:Addr) (hne:[z,TI,TO,i1,i2].Nodup) (ha:a ∉ [z,TI,TO,i1,i2]) (hb:b ∉ [z,TI,TO,i1,i2]) (xs ys:List V) :
  Turn P w K (.Tuple elts kk tpos) (Itz K a b xs ys) [z,TI,TO,i1,i2] z (λ i h=>IsZip h z TI TO .none /\ IsPair h TI (.ref i1) (.ref i2) /\ (∃ u v,IsPair h TO u v) /\ h.IsListIter i1 a i /\ h.IsListIter i2 b i):=by
 have D:ZipApart z TI TO i1 i2 a b:=by
  simp only [ybK,yaD,not_or,yaV,not_false_eq_true,and_true,List.nodup_nil] at hne ha hb;obtain ⟨⟨h1,h2,h3,h4⟩,⟨h5,h6,h7⟩,⟨h8,h9⟩,h10⟩:=hne;obtain ⟨a1,a2,a3,a4,a5⟩:=ha;obtain ⟨b1,b2,b3,b4,b5⟩:=hb;exact ⟨ycG h1,ycG h2,ycG h3,ycG h4,h5,h6,h7,h8,h9,h10,a1,a3,a4,a5,b1,b3,b4,b5⟩
 have wrs:∀ c,c ∈ [z,TO,i1,i2] -> c ∈ [z,TI,TO,i1,i2]:=λ c hc=>by
  simp only [yaD,yaV,or_false] at hc ⊢;rcases hc with h | h | h | h <;> simp [h]
 refine ⟨by simp,?_,?_,?_,?_,?_⟩
 ·rintro i h ⟨hz, hTI, ⟨u, v, hTO⟩, h1, h2⟩ c hc;simp only [yaD, yaV, or_false] at hc;rcases hc with rfl | rfl | rfl | rfl | rfl
  ·exact ⟨_,hz,λ v q=>nomatch q⟩
  ·exact ⟨_,hTI,λ v q=>nomatch q⟩
  ·exact ⟨_,hTO,λ v q=>nomatch q⟩
  ·obtain ⟨o,e,c,d⟩:=h1; exact ⟨o,e,λ v q=>by rw [d] at q; cases q⟩
  ·obtain ⟨o,e,c,d⟩:=h2; exact ⟨o,e,λ v q=>by rw [d] at q; cases q⟩
 ·rintro i h h' ⟨hz,hTI,⟨u,v,hTO⟩,h1,h2⟩ k;exact ⟨k z (8:) _ hz,k TI (8:) _ hTI,⟨u,v,k TO (8:) _ hTO⟩,h1.at λ o e=>k i1 (8:) o e,h2.at λ o e=>k i2 (8:) o e⟩
 ·intro X hP hw hK hc i pins s σ H E I hf st hg;subst hP hw hK;obtain ⟨hi, hqa, hqb⟩ := hg;obtain ⟨hz, hTI, hTO, h1, h2⟩ := st;obtain ⟨ia, ra, pa, za⟩ := I.list hqa;obtain ⟨ib, rb, pb, zb⟩ := I.list hqb;have la := ra.length;have lb := rb.length;have W := WalksT.zip2 (prog := X.prog) (w := X.w) (A := X.A) (I.ok.hd hc) z TI TO i1 i2 a b D ia.toArray ib.toArray;refine zo3 (xs := ia.toArray) (ys := ib.toArray) D (by simpa [<- la, <- lb] using hi) ⟨hz, hTI, hTO, h1, h2, pa.isList, pb.isList⟩ fun T vals h' tk hP hfr hT hm hk => ?_;obtain ⟨u, v, eu, ev, rfl⟩ := hP;refine ⟨_, rfl, W.go elts kk tpos i T _ _ _ hm fun h2 st2 hk2 => ?_⟩;obtain ⟨gz, gTI, gTO, g1, g2, _, _⟩ := st2;have eu' : ia[i]? = some u := by simpa using eu
  have ev':ib[i]?=some v:=by simpa using ev
  have hix:i < xs.length:=by omega
  have hiy:i < ys.length:=by omega
  obtain ⟨u',hu',ru⟩:=ra.get (yac hix);obtain ⟨v',hv',rv⟩:=rb.get (yac hiy);rw [eu'] at hu'; cases hu';rw [ev'] at hv'; cases hv';have hTw:T ∉ [z,TO,i1,i2]:=W.apart i T _ hm
  have hT2:zbB h2 T [u,v].toArray:=by
   obtain ⟨o,e,c,n,d⟩:=hT;exact ⟨o,hk2 T o hTw e,c,n,d⟩
  refine ⟨.ref T,upd H T (.tup [xs[i],ys[i]]),I.turnTup (ch:=[z,TO,i1,i2]) (t':=tk) (λ c hc=>hf c (wrs c hc)) (λ c o hc e=>hk2 c o hc (hk c o hc e)) hfr hT2 (.cons ru (.cons rv .nil)) (83:),rfl,
   ⟨T,_,_,rfl,I.hok.fresh hfr,rfl,yac hix,yac hiy⟩,⟨gz,gTI,gTO,g1,g2⟩,λ c hc=>?_⟩
  have hcl:c < s.heap.objs.size:=by
   simp only [yaD,yaV,or_false] at hc;obtain ⟨u,v,hTO⟩:=hTO;rcases hc with rfl | rfl | rfl | rfl | rfl
   ·exact yan hz
   ·exact yan hTI
   ·exact yan hTO
   ·obtain ⟨o,e,_⟩:=h1; exact yan e
   ·obtain ⟨o,e,_⟩:=h2; exact yan e
  rw [zaA (yaR (yag hcl hfr))];exact (hf c hc).1
 ·intro X hP hw hK hc i pins s σ H E I hf st hg;subst hP hw hK;obtain ⟨hi, hqa, hqb⟩ := hg;obtain ⟨hz, hTI, hTO, h1, h2⟩ := st;obtain ⟨ia, ra, pa, za⟩ := I.list hqa;obtain ⟨ib, rb, pb, zb⟩ := I.list hqb;have la := ra.length;have lb := rb.length;have W := WalksT.zip2 (prog := X.prog) (w := X.w) (A := X.A) (I.ok.hd hc) z TI TO i1 i2 a b D ia.toArray ib.toArray;have hi' : i = min ia.toArray.size ib.toArray.size := by simpa [<- la, <- lb] using hi
  refine W.done s _ _ (hi' ▸ ⟨hz,hTI,hTO,h1,h2,pa.isList,pb.isList⟩) λ h' tk hk=>⟨rfl,I.turnL (ch:=[z,TO,i1,i2]) (λ c hc=>hf c (wrs c hc)) hk⟩
 ·rintro A i s Q E ⟨hz,_⟩ h;exact wpAny_pyIter_zip hz h
noncomputable def iZip (K:PySem.W.Frag) (ta:TA):TI:=λ σ H R=>ta σ H λ vs H1=>∃ a b xs ys,vs=[.ref a,.ref b] /\ SqL K H1 a xs /\ SqL K H1 b ys /\ R (Itz K a b xs ys) H1
def zrJ {X:Cx} {elts:List Expr} {kk:Nat} {tpos:Pos} {a b:Expr} {ta:TA} {p pos:Pos} (hm:X.mg "zip"=none) (ha:PA X [a,b] ta) (hg:Gl X "zip":=by rfl)
  (hs:starEach [a,b] X.env=[(false,eval a X.env),(false,eval b X.env)]:=by rfl) (hs2:starEach [b] X.env=[(false,eval b X.env)]:=by rfl):PI X (.Tuple elts kk tpos) (.Call (.Name "zip" p) [a,b] [] pos) (iZip X.K ta):=by
 intro pins s σ H R I h;refine Call_ (zcH I hg hm boot_zip (yaL (thn (ha pos pins s σ H _ I h) λ us s1 ⟨vs,H1,I1,r1,q1⟩=>?_) (by rw [hs,hs2]) (by rw [hs2]; rfl)));obtain ⟨a,b,xs,ys,e,hqa,hqb,q⟩:=q1;subst e;cases r1 with
 | cons r rr=>
  cases rr with
  | cons r' rr=>
   cases rr;cases r;cases r';obtain ⟨ia,ra,pa,za⟩:=I1.list hqa;obtain ⟨ib,rb,pb,zb⟩:=I1.list hqb;have al:a < s1.heap.objs.size:=by obtain ⟨o,n,e,_⟩:=pa; exact yan e
   have bl:b < s1.heap.objs.size:=by obtain ⟨o,n,e,_⟩:=pb; exact yan e
   refine call_zip_2 pa.isList pb.isList λ h' hz hTI hTO h1 h2 hsz hk=>?_;have I2:Inv X pins σ H1 { s1 with heap:=h' }:=I1.kept (t':=s1.toks) hk;refine wpAny_pyIter_zip hz ?_;refine ⟨s1.heap.objs.size + 4,[s1.heap.objs.size + 4,s1.heap.objs.size + 2,s1.heap.objs.size + 3,s1.heap.objs.size,s1.heap.objs.size + 1],_,_,H1,rfl,I2,zp3 a b _ _ _ _ _ ?_ ?_ ?_ xs ys,⟨hz,hTI,⟨_,_,hTO⟩,h1,h2⟩,λ c hc=>?_,q⟩
   ·simp
   ·intro z;simp only [yaD,yaV,or_false] at z;have al':@LT.lt Nat _ a s1.heap.objs.size:=al;rcases z with z | z | z | z | z <;> (have z':@Eq Nat a _:=z; omega)
   ·intro z;simp only [yaD,yaV,or_false] at z;have bl':@LT.lt Nat _ b s1.heap.objs.size:=bl;rcases z with z | z | z | z | z <;> (have z':@Eq Nat b _:=z; omega)
   ·have hc':s1.heap.objs.size <= c:=by
     simp only [yaD,yaV,or_false] at hc;show @LE.le Nat _ s1.heap.objs.size c;rcases hc with z | z | z | z | z <;> (have z':@Eq Nat c _:=z; omega)
    exact I1.fpOk hc' (I1.hok.fresh hc')
def zmk {K:PySem.W.Frag} {a b:Addr} {xs ys:List V} {src:List (Option Nat)} {σ:St} {g:TG} {tc:TT} {te:TE} {Q:VK} {H:Hp} (Pv:Nat -> List V -> Hp -> Prop) (h0:Pv 0 [] H) (len:∀ i acc H,Pv i acc H -> acc.length <= sizeLine)
  (hl:∀ i acc H,Pv i acc H -> SqL K H a xs /\ SqL K H b ys)
  (step:∀ i u v T acc H,xs[i]?=some u -> ys[i]?=some v -> H T=none -> Pv i acc H -> g (.ref T) (capt src σ) (upd H T (.tup [u,v])) λ σ2 H2=>Ext (capt src σ) σ2 /\ tc σ2 H2 λ b H3=>if b=true then te σ2 H3 (λ y H4=>Pv (i + 1) (acc ++ [y]) H4) else Pv (i + 1) acc H3)
  (done:∀ acc H,Pv (min xs.length ys.length) acc H -> ∀ p,H p=none -> Q (.ref p) (upd H p (.lst acc))):zdc (Itz K a b xs ys) src σ g tc te Q H:=by
 refine ⟨λ i m acc H=>m=min xs.length ys.length - i /\ i <= min xs.length ys.length /\ Pv i acc H,⟨min xs.length ys.length,by simp,ybA _,h0⟩,?_⟩;rintro i m acc H ⟨rfl,hi,p⟩;refine ⟨len i acc H p,?_⟩;by_cases hlt:i < min xs.length ys.length
 ·refine .inr ⟨⟨hlt,hl i acc H p⟩,λ y H4=>Pv (i + 1) (acc ++ [y]) H4,λ H3=>Pv (i + 1) acc H3,λ y H4 q=>⟨min xs.length ys.length - (i + 1),by omega,rfl,hlt,q⟩,λ H3 q=>⟨min xs.length ys.length - (i + 1),by omega,rfl,hlt,q⟩,λ x H' y=>?_⟩;obtain ⟨T,u,v,rfl,hT,rfl,hu,hv⟩:=y;exact step i u v T acc H hu hv hT p
 ·have e : i = min xs.length ys.length := by omega
  subst e;exact .inl ⟨⟨rfl,hl _ acc H p⟩,done acc H p⟩
mutual
noncomputable def DatV (K:PySem.W.Frag) (H:Hp):PyData -> V -> Prop
 | .none,v=>v=.non
 | .bool b,v=>v=.bl b
 | .int i,v=>v=.int i
 | .str x,v=>v=.str x
 | .list ds,v=>∃ a xs,v=.ref a /\ SqL K H a xs /\ DatVs K H ds xs
 | .tuple ds,v=>∃ a xs,v=.ref a /\ SqT K H a xs /\ DatVs K H ds xs
 | .dict _,_=>False
noncomputable def DatVs (K:PySem.W.Frag) (H:Hp):List PyData -> List V -> Prop
 | [],xs=>xs=[]
 | d :: ds,xs=>∃ y ys,xs=y :: ys /\ DatV K H d y /\ DatVs K H ds ys
end
section
variable {X:Cx} {pins:List (Addr × Obj)} {σ:St} {H:Hp} {s:Shared}
mutual
def DatV.reads (I:Inv X pins σ H s):∀ (d:PyData) {x:V} {u:Value},DatV X.K H d x -> RelV x u -> ∃ as,Reads s.heap u d as
 | .none,x,u,h,r=>by
  rw [DatV] at h; subst h; cases r; exact ⟨_,.none⟩
 | .bool b,x,u,h,r=>by
  rw [DatV] at h; subst h; cases r; exact ⟨_,.bool b⟩
 | .int i,x,u,h,r=>by
  rw [DatV] at h; subst h; obtain ⟨t,rfl⟩:=r; exact ⟨_,.int i t⟩
 | .str z,x,u,h,r=>by
  rw [DatV] at h; subst h; obtain ⟨t,rfl⟩:=r; exact ⟨_,.str z t⟩
 | .list ds,x,u,h,r=>by
  rw [DatV] at h;obtain ⟨a,xs,rfl,hq,hd⟩:=h;cases r;obtain ⟨its,rv,⟨o,n,e,c,_,d⟩,hz⟩:=I.list hq;obtain ⟨as,ra⟩:=DatVs.reads I ds hd rv;exact ⟨_,.list e c d (by simpa using ra)⟩
 | .tuple ds,x,u,h,r=>by
  rw [DatV] at h;obtain ⟨a,xs,rfl,hq,hd⟩:=h;cases r;obtain ⟨its,rv,⟨o,e,c,n,d⟩,hz⟩:=I.tuple hq;obtain ⟨as,ra⟩:=DatVs.reads I ds hd rv;exact ⟨_,.tuple e c d (by simpa using ra)⟩
 | .dict _,x,u,h,r=>by
  rw [DatV] at h; exact h.elim
def DatVs.reads (I:Inv X pins σ H s):∀ (ds:List PyData) {xs:List V} {us:List Value},DatVs X.K H ds xs -> Vals xs us -> ∃ as,ReadsAll s.heap us ds as
 | [],xs,us,h,r=>by
  rw [DatVs] at h; subst h; cases r; exact ⟨_,.nil⟩
 | d :: ds,xs,us,h,r=>by
  rw [DatVs] at h;obtain ⟨y,ys,rfl,h1,h2⟩:=h;cases r with
  | cons r1 r2=>
   obtain ⟨as,a1⟩:=DatV.reads I d h1 r1;obtain ⟨bs,a2⟩:=DatVs.reads I ds h2 r2;exact ⟨_,.cons a1 a2⟩
end
end
def DatV.int (K:PySem.W.Frag) (H:Hp) (i:Int):DatV K H (.int i) (.int i):=by rw [DatV]
def DatV.bool (K:PySem.W.Frag) (H:Hp) (i:Bool):DatV K H (.bool i) (.bl i):=by rw [DatV]
def DatV.str (K:PySem.W.Frag) (H:Hp) (i:Str):DatV K H (.str i) (.str i):=by rw [DatV]
def DatV.list {K:PySem.W.Frag} {H:Hp} {a:Addr} {xs:List V} {ds:List PyData} (h:SqL K H a xs) (k:DatVs K H ds xs):DatV K H (.list ds) (.ref a):=by rw [DatV]; exact ⟨a,xs,rfl,h,k⟩
def DatV.tuple {K:PySem.W.Frag} {H:Hp} {a:Addr} {xs:List V} {ds:List PyData} (h:SqT K H a xs) (k:DatVs K H ds xs):DatV K H (.tuple ds) (.ref a):=by rw [DatV]; exact ⟨a,xs,rfl,h,k⟩
def DatVs.nil {K:PySem.W.Frag} {H:Hp}:DatVs K H [] []:=by rw [DatVs]
def DatVs.cons {K:PySem.W.Frag} {H:Hp} {d:PyData} {ds:List PyData} {x:V} {xs:List V} (h:DatV K H d x) (k:DatVs K H ds xs):DatVs K H (d :: ds) (x :: xs):=by rw [DatVs]; exact ⟨x,xs,rfl,h,k⟩
def DatVs.ints (K:PySem.W.Frag) (H:Hp):∀ ns:List Int,DatVs K H (ns.map .int) (ns.map V.int)
 | []=>.nil
 | n :: ns=>.cons (.int K H n) (DatVs.ints K H ns)
noncomputable abbrev shpd:=SeqAt.shaped
def zkj (ns:List Int):shpd (.list (ns.map PyData.int))=true:=PySem.W.ke_shaped_ints ns
def zdR (ns:List Int):shpd (.tuple (ns.map PyData.int))=true:=by
 have h:=PySem.W.ke_shaped_ints ns;simpa [SeqAt.shaped,PyData.canLay0,PyData.depth] using h
def zdd:∀ ns ms:List Int,PyData.eqvAll (ns.map .int) (ms.map .int)=decide (ns=ms)
 | [],[]=>by simp [PyData.eqvAll]
 | [],_ :: _=>by simp [PyData.eqvAll]
 | _ :: _,[]=>by simp [PyData.eqvAll]
 | a :: r,b :: t=>by
  simp only [ybv,PyData.eqvAll,PyData.eqv,zdd r t];by_cases h:a=b <;> by_cases h':r=t <;> simp [h,h']
noncomputable def rEqU (K:PySem.W.Frag):R2:=λ x y H Q=>∃ d e,DatV K H d x /\ DatV K H e y /\ shpd d=true /\ shpd e=true /\ Q (.bl (PyData.eqv d e)) H
noncomputable def rNeU (K:PySem.W.Frag):R2:=λ x y H Q=>∃ d e,DatV K H d x /\ DatV K H e y /\ shpd d=true /\ shpd e=true /\ Q (.bl (!PyData.eqv d e)) H
section
variable {X:Cx}
def zr6 (hu:X.A.units + 64 < cLine):OpR X (compareOp .Eq) (rEqU X.K):=by
 intro pins s σ H x y v u Q I rx ry h;obtain ⟨d,e,hd,he,sd,se,q⟩:=h;obtain ⟨as,ra⟩:=DatV.reads I d hd rx;obtain ⟨bs,rb⟩:=DatV.reads I e he ry;exact eq_dataH ra rb sd se hu ⟨.bl _,H,I,rfl,q⟩
def zsq (hu:X.A.units + 64 < cLine):OpR X (compareOp .NotEq) (rNeU X.K):=by
 intro pins s σ H x y v u Q I rx ry h;obtain ⟨d,e,hd,he,sd,se,q⟩:=h;obtain ⟨as,ra⟩:=DatV.reads I d hd rx;obtain ⟨bs,rb⟩:=DatV.reads I e he ry;exact ne_dataH ra rb sd se hu ⟨.bl _,H,I,rfl,q⟩
noncomputable def zp4 (K:PySem.W.Frag):R2:=λ x y H Q=>rI0 (λ i j=>.int (i + j)) x y H Q \/ (rCat x y H Q \/ zrv K x y H Q)
def zre:OpR X (binaryOp .Add) (zp4 X.K):=zrY.or (ztb.or zqX)
noncomputable def zrZ:R2:=λ x y H Q=>rI CMul (λ i j=>.int (i * j)) x y H Q \/ rRep x y H Q
def zrn:OpR X (binaryOp .Mult) zrZ:=zsC.or zsW
noncomputable def rIsU:R2:=λ x y H Q=>(y=.non /\ Q (.bl (decide (x=.non))) H) \/ (∃ a b,x=.bl a /\ y=.bl b /\ Q (.bl (a == b)) H)
def zsN:OpR X (compareOp .Is) (λ x y H Q=>∃ a b,x=.bl a /\ y=.bl b /\ Q (.bl (a == b)) H):=by
 intro pins s σ H x y v u Q I rx ry h;obtain ⟨a,b,rfl,rfl,q⟩:=h;cases rx;cases ry;exact is_bool ⟨.bl _,H,I,rfl,q⟩
def zlB:OpR X (compareOp .Is) rIsU:=zsU.or zsN
noncomputable def zsh:R2:=λ x y H Q=>(y=.non /\ Q (.bl (!decide (x=.non))) H) \/ (∃ a b,x=.bl a /\ y=.bl b /\ Q (.bl (a != b)) H)
def zq8:OpR X (compareOp .IsNot) (λ x y H Q=>∃ a b,x=.bl a /\ y=.bl b /\ Q (.bl (a != b)) H):=by
 intro pins s σ H x y v u Q I rx ry h;obtain ⟨a,b,rfl,rfl,q⟩:=h;cases rx;cases ry;exact isnot_bool ⟨.bl _,H,I,rfl,q⟩
def zoE:OpR X (compareOp .IsNot) zsh:=zq9.or zq8
def slU:SlR X (λ x lo hi H Q=>rSlL X.K x lo hi H Q \/ rSlT X.K x lo hi H Q):=zro.or zs6
noncomputable def zru:V -> List V -> Hp -> VK -> Prop:=λ x xs H Q=>∃ i,x=.int i /\ xs=[] /\ Q (.int (Builtin.Int.intBits i)) H
def zk3:MtR X "int.bit_length" zru:=by
 intro pins s σ H x xs v us Q I rx rv h;obtain ⟨i,rfl,rfl,q⟩:=h;obtain ⟨t,rfl⟩:=rx;have hus:=rv.zero;subst hus;exact call_int_bit_length ⟨.int _,H,I.tok _,⟨_,rfl⟩,q⟩
def zok (bs:List Bool):(List.range bs.length).all (λ i=>bs[i]?.getD false)=bs.all id:=by
 rw [ycU];simp only [ybo,yai,id];constructor
 ·intro h b hb;obtain ⟨i,hi,e⟩:=ybC.mp hb;have:=h i hi;simp only [yac hi,Option.getD_some,e] at this;exact this
 ·intro h i hi;simp only [yac hi,Option.getD_some];exact h _ (ybp hi)
noncomputable def zr2 (K:PySem.W.Frag) (g:List Bool -> Bool):List V -> Hp -> VK -> Prop:=λ xs H Q=>∃ a bs,xs=[.ref a] /\ SqL K H a (bs.map V.bl) /\ Q (.bl (g bs)) H
def zhw:∀ {bs:List Bool} {us:List Value},Vals (bs.map V.bl) us -> us=bs.map Value.bool
 | [],_,.nil=>rfl
 | b :: bs,_,.cons r t=>by
  have e:_=Value.bool b:=r;rw [e,zhw t];rfl
def zns (hc:X.calm=true):zdq X (.builtin "all") (zr2 X.K λ bs=>bs.all id):=by
 intro pins s σ H xs us Q I r h;obtain ⟨a,bs,rfl,hq,q⟩:=h;obtain ⟨u,rfl,ru⟩:=r.one;cases ru;obtain ⟨its,rv,pl,hz⟩:=I.list hq;have ei:=zhw rv;subst ei;have hh:X.A.in1.handled=none:=I.ok.hd hc;have al:a < s.heap.objs.size:=by obtain ⟨o,n,e,_⟩:=pl; exact yan e
 refine call_all_walk (wpAny_pyIter_list pl.isList ?_);refine ⟨s.heap.objs.size,_,_,_,_,_,λ i=>bs[i]?.getD false,rfl,Walks.list hh s.heap.objs.size a (yaR al) (bs.map Value.bool).toArray,⟨⟨_,yaF _ rfl,rfl,rfl⟩,pl.isList.push _⟩,?_,λ h' tk hk=>?_⟩
 ·intro i v s' Q' E' hv hQ;have hv : (bs.map Value.bool)[i]? = some v := by simpa using hv
  rw [yaf] at hv;cases e:bs[i]? with
  | none=>rw [e] at hv; cases hv
  | some b=>
   rw [e] at hv;cases hv;simp only [e,Option.getD_some] at hQ;exact wpAny_truthy_bool hQ
 ·have I2:Inv X pins σ H { s with heap:=h',toks:=tk }:=I.kept λ b o e=>hk b o (by
   intro z;have z:b=s.heap.objs.size:=by simpa using z
   exact absurd (yan e) (by rw [z]; exact ybm _)) (yam _ e)
  refine ⟨.bl _,H,I2,rfl,?_⟩;have e:(bs.map Value.bool).toArray.size=bs.length:=by simp
  rw [e,zok];exact q
noncomputable def rIsi (K:PySem.W.Frag):List V -> Hp -> VK -> Prop:=λ xs H Q=>∃ x T t b,xs=[x,.ty T] /\ TyOf K H x t /\ PySem.W.kitOne K t (.type T)=some b /\ Q (.bl b) H
def zp0:zdq X (.builtin "isinstance") (rIsi X.K):=by
 intro pins s σ H xs us Q I r h;obtain ⟨x,T,t,b,rfl,ty,e,q⟩:=h;obtain ⟨u,v,rfl,ru,rv⟩:=r.two;cases rv;exact znS I ru ty e λ tk=>⟨.bl b,H,I.tok tk,rfl,q⟩
noncomputable def rLen (K:PySem.W.Frag):List V -> Hp -> VK -> Prop:=λ xs H Q=>∃ x n,xs=[x] /\ LenV K x H n /\ Q (.int n) H
def zo1:zdq X (.builtin "len") (rLen X.K):=zpV
noncomputable def rAbs:List V -> Hp -> VK -> Prop:=λ xs H Q=>∃ i,xs=[.int i] /\ Q (.int (if i < 0 then -i else i)) H
def znu:zdq X (.builtin "abs") rAbs:=zpY
noncomputable def zov (K:PySem.W.Frag):List V -> Hp -> VK -> Prop:=λ xs H Q=>∃ p ys,xs=[.ref p] /\ ((SqL K H p ys /\ ∀ l,H l=none -> Q (.ref l) (upd H l (.tup ys))) \/ (SqT K H p ys /\ Q (.ref p) H))
def znI:zdq X (.type "tuple") (zov X.K):=ziA
noncomputable def zsL:List V -> Hp -> VK -> Prop:=λ xs H Q=>∃ i j,xs=[.int i,.int j] /\ Q (.int (if j < i then j else i)) H
def zjP (hc:X.calm=true):zdq X (.builtin "min") zsL:=zoX hc
def zbX {x:Str} {i:Int} {pos:Pos} (h:∃ t,X.mg x=some (.int i t)) (hg:Gl X x:=by rfl) (hd:(x == ("__debug__":Str))=false:=by decide):PE X (.Name x pos) (tC (.int i)):=by
 obtain ⟨t,e⟩:=h;exact znF hg e ⟨t,rfl⟩ hd
end
noncomputable abbrev NewL (xs:List V) (H:Hp) (Q:VK):Prop:=xs.length <= sizeLine /\ ∀ p,H p=none -> Q (.ref p) (upd H p (.lst xs))
noncomputable abbrev NewT (xs:List V) (H:Hp) (Q:VK):Prop:=xs.length <= sizeLine /\ ∀ p,H p=none -> Q (.ref p) (upd H p (.tup xs))
section
variable {D:Ends} {σ:St} {H:Hp} {Q:VK}
def ztr {t u:TS} (h:t { D with nx:=u D } σ H):tSeq t u D σ H:=h
def zsT (h:D.nx σ H):zrz D σ H:=h
def s_nx {f:St -> Hp -> Prop} {r:VK} {b c:St -> Hp -> Prop} (h:f σ H):Ends.nx { nx:=f,rt:=r,bk:=b,ct:=c } σ H:=h
def s_rt {f:St -> Hp -> Prop} {r:VK} {b c:St -> Hp -> Prop} {v:V} (h:r v H):Ends.rt { nx:=f,rt:=r,bk:=b,ct:=c } v H:=h
def ztK {te:TE} {g:TG} (h:te σ H λ x H1=>g x σ H1 D.nx):tAsg te g D σ H:=h
def zte {te:TE} (h:te σ H D.rt):tRet te D σ H:=h
def zsS {te:TE} (h:te σ H λ _ H1=>D.nx σ H1):zrt te D σ H:=h
def s_if {c:TT} {t u:TS} (h:c σ H λ b H1=>if b=true then t D σ H1 else u D σ H1):tIfS c t u D σ H:=h
def zqL {i:Nat} {v:V} {K:St -> Hp -> Prop} (h:K (σ.set i (some v)) H):zqI i v σ H K:=h
def zrG {K:St -> Hp -> Prop} (h:K σ H):gNil [] σ H K:=⟨rfl,h⟩
def zqB {t:TG} {u:TGs} {v:V} {r:List V} {K:St -> Hp -> Prop} (h:t v σ H λ σ' H'=>u r σ' H' K):zrU t u (v :: r) σ H K:=⟨v,r,rfl,h⟩
def zta {to ti:TE} {t:TSet} {v:V} {K:St -> Hp -> Prop} (h:to σ H λ o H1=>ti σ H1 λ i H2=>t o i v H2 λ H3=>K σ H3):gSub to ti t v σ H K:=h
def ztx {i:Nat} {v:V} (e:σ[i]?=some (some v)) (h:Q v H):tVar i σ H Q:=⟨v,e,h⟩
def s_c {v:V} (h:Q v H):tC v σ H Q:=h
def s_op {r:R2} {ta tb:TE} (h:ta σ H λ x H1=>tb σ H1 λ y H2=>r x y H2 Q):tOp r ta tb σ H Q:=h
def s_un {r:V -> Hp -> VK -> Prop} {ta:TE} (h:ta σ H λ x H1=>r x H1 Q):tUn r ta σ H Q:=h
def s_cb {r:List V -> Hp -> VK -> Prop} {t:TA} (h:t σ H λ vs H1=>r vs H1 Q):tCB r t σ H Q:=h
def zs7 {sp:Sp} {E:XK} {t:TA} (h:t σ H λ vs H1=>sp (vs ++ []) H1 Q E):zqT sp [] E t σ H Q:=h
def ztC {K:List V -> Hp -> Prop} (h:K [] H):tNil σ H K:=h
def zrC {ta:TE} {tr:TA} {K:List V -> Hp -> Prop} (h:ta σ H λ x H1=>tr σ H1 λ xs H2=>K (x :: xs) H2):zqY ta tr σ H K:=h
def ztj {t:TA} (h:t σ H λ xs H1=>NewL xs H1 Q):tLst t σ H Q:=h
def ztn {t:TA} (h:t σ H λ xs H1=>NewT xs H1 Q):tTup t σ H Q:=h
def zsj {t:TE} {K:Bool -> Hp -> Prop} (h:t σ H λ x H'=>∃ k,x=.bl k /\ K k H'):zsc t σ H K:=h
def s_b {t:TE} {K:Bool -> Hp -> Prop} (h:t σ H λ x H'=>∃ k,x=.bl k /\ K k H'):tB t σ H K:=h
def ztG {b:Bool} {K:Bool -> Prop} (h:K b):∃ k,V.bl b=.bl k /\ K k:=⟨b,rfl,h⟩
def ztJ {t u:TT} {K:Bool -> Hp -> Prop} (h:t σ H λ c H1=>if c=true then u σ H1 K else K false H1):tAnd t u σ H K:=h
def s_or {t u:TT} {K:Bool -> Hp -> Prop} (h:t σ H λ c H1=>if c=true then K true H1 else u σ H1 K):tOr t u σ H K:=h
def ztz {t:TT} {K:Bool -> Hp -> Prop} (h:t σ H λ c H1=>K (!c) H1):tNot t σ H K:=h
def zs5 {ta tb:TE} (h:ta σ H λ x H1=>∃ c,x=.bl c /\ if c=true then tb σ H1 Q else Q (.bl false) H1):zrL ta tb σ H Q:=h
def zsy {ta:TE} (h:ta σ H λ x H1=>∃ c,x=.bl c /\ Q (.bl (!c)) H1):zsV ta σ H Q:=h
def zry {t:TT} {ta tb:TE} (h:t σ H λ c H1=>if c=true then ta σ H1 Q else tb σ H1 Q):tIf t ta tb σ H Q:=h
def zrr {r r':R2} {ta tb tc:TE} (h:ta σ H λ x H1=>tb σ H1 λ y H2=>r x y H2 λ z H3=>∃ k,z=.bl k /\ if k=true then tc σ H3 λ u H4=>r' y u H4 Q else Q (.bl false) H3):zqe r r' ta tb tc σ H Q:=by
  exact h
def zsP {K:Bool -> Hp -> Prop} (h:K true H):zsG σ H K:=h
def s_ri {C:Int -> Int -> Prop} {g:Int -> Int -> V} {i j:Int} (c:C i j) (h:Q (g i j) H):rI C g (.int i) (.int j) H Q:=⟨i,j,rfl,rfl,c,h⟩
def zti {g:Int -> Int -> V} {i j:Int} (h:Q (g i j) H):rI0 g (.int i) (.int j) H Q:=⟨i,j,rfl,rfl,h⟩
def s_ru {g:Int -> V} {i:Int} (h:Q (g i) H):rU g (.int i) H Q:=⟨i,rfl,h⟩
def zrb {K:PySem.W.Frag} {i j:Int} (h:Q (.int (i + j)) H):zp4 K (.int i) (.int j) H Q:=.inl ⟨i,j,rfl,rfl,h⟩
def zrw {K:PySem.W.Frag} {i j:Int} (h:Q (.bl (i == j)) H):rEqU K (.int i) (.int j) H Q:=⟨.int i,.int j,.int K H i,.int K H j,rfl,rfl,h⟩
def zr3 {K:PySem.W.Frag} {i j:Int} (h:Q (.bl (!(i == j))) H):rNeU K (.int i) (.int j) H Q:=⟨.int i,.int j,.int K H i,.int K H j,rfl,rfl,h⟩
def zd9 {K:PySem.W.Frag} {p:Addr} {i:Int} {xs:List V} {v:V} (hq:SqL K H p xs) (h0:0 <= i) (e:xs[i.toNat]?=some v) (h:Q v H):rIx K (.ref p) (.int i) H Q:=by
 have e':atI xs i=some v:=by
  have:=zoi e
  rwa [ybP h0] at this
 exact .inl ⟨p,xs,i,v,rfl,rfl,hq,e',h⟩
def zdn {K:PySem.W.Frag} {p:Addr} {i:Int} {xs:List V} {v:V} (hq:SqT K H p xs) (h0:0 <= i) (e:xs[i.toNat]?=some v) (h:Q v H):rIx K (.ref p) (.int i) H Q:=by
 have e':atI xs i=some v:=by
  have:=zoi e
  rwa [ybP h0] at this
 exact .inr (.inl ⟨p,xs,i,v,rfl,rfl,hq,e',h⟩)
def zrN {t:TA} {R:It -> Hp -> Prop} (h:t σ H λ vs H1=>∃ j:Int,vs=[.int j] /\ -(2 ^ 62) <= j /\ j < 2 ^ 62 /\ R (Itr 0 j.toNat) H1):zrs t σ H R:=h
def zsB {K:PySem.W.Frag} {t:TE} {R:It -> Hp -> Prop} (h:t σ H λ x H1=>∃ a,x=.ref a /\ (((∃ xs,SqL K H1 a xs) /\ R (Itl K a) H1) \/ ((∃ xs,SqT K H1 a xs) /\ R (Itt K a) H1))):iSeq K t σ H R:=h
def ztD {K:PySem.W.Frag} {T:String} {r:V -> List V -> Hp -> VK -> Prop} {t:TE} (h:t σ H λ x H1=>tyV K T x H1 /\ r x [] H1 Q):tBM0 K T r t σ H Q:=h
def s_bm {K:PySem.W.Frag} {T:String} {r:V -> List V -> Hp -> VK -> Prop} {t:TE} {ta:TA} (h:t σ H λ x H1=>tyV K T x H1 /\ ta σ H1 λ xs H2=>r x xs H2 Q):tBM K T r t ta σ H Q:=h
end
section
variable {σ:St} {H:Hp} {Q:VK}
def zse {K:PySem.W.Frag} {a:Addr} {xs:List V} (hq:SqL K H a xs) (h:Q (.int xs.length) H):rLen K [.ref a] H Q:=⟨_,_,rfl,.inl ⟨xs,hq,rfl⟩,h⟩
def zsb {K:PySem.W.Frag} {a:Addr} {xs:List V} (hq:SqT K H a xs) (h:Q (.int xs.length) H):rLen K [.ref a] H Q:=⟨_,_,rfl,.inr ⟨xs,hq,rfl⟩,h⟩
def ztL {i:Int} (h:Q (.int (if i < 0 then -i else i)) H):rAbs [.int i] H Q:=⟨i,rfl,h⟩
def ztF {i j:Int} (h:Q (.int (if j < i then j else i)) H):zsL [.int i,.int j] H Q:=⟨i,j,rfl,h⟩
def ztf {x:V} (h:Q (.bl (decide (x=.non))) H):rIsU x .non H Q:=.inl ⟨rfl,h⟩
def zrM {x:V} (h:Q (.bl (!decide (x=.non))) H):zsh x .non H Q:=.inl ⟨rfl,h⟩
def ztk {p:Addr} {xs:List V} {y:V} (hp:H p=some (.lst xs)) (hz:xs.length < sizeLine) (h:Q .non (upd H p (.lst (xs ++ [y])))):zog (.ref p) [y] H Q:=⟨p,xs,y,rfl,rfl,hp,hz,h⟩
def zsr {i:Int} (h:Q (.int (Builtin.Int.intBits i)) H):zru (.int i) [] H Q:=⟨i,rfl,rfl,h⟩
def zpB {K:PySem.W.Frag} {i:Int} (h:Q (.bl true) H):rIsi K [.int i,.ty "int"] H Q:=⟨_,"int",_,true,rfl,TyOf.int i,rfl,h⟩
def zp1 {K:PySem.W.Frag} {i:Int} (h:Q (.bl false) H):rIsi K [.int i,.ty "bool"] H Q:=⟨_,"bool",_,false,rfl,TyOf.int i,rfl,h⟩
def zph {K:PySem.W.Frag} {a:Addr} {xs:List V} (hq:H a=some (.tup xs)) (h:Q (.bl true) H):rIsi K [.ref a,.ty "tuple"] H Q:=⟨_,"tuple",_,true,rfl,TyOf.tup hq,rfl,h⟩
def s_sl {r:V -> Option Int -> Option Int -> Hp -> VK -> Prop} {te:TE} {tl th:TO} (h:te σ H λ x H1=>tl σ H1 λ l H2=>th σ H2 λ u H3=>r x l u H3 Q):tSl r te tl th σ H Q:=h
def zpL {K:Option Int -> Hp -> Prop} (h:K none H):zn8 σ H K:=h
def zs9 {t:TE} {K:Option Int -> Hp -> Prop} (h:t σ H λ x H1=>∃ i,x=.int i /\ K (some i) H1):zsA t σ H K:=h
def zr7 {j:Int} {K:Int -> Prop} (h:K j):∃ i,V.int j=.int i /\ K i:=⟨j,rfl,h⟩
def zts {K:PySem.W.Frag} {t:TA} {R:It -> Hp -> Prop} (h:t σ H λ vs H1=>∃ a xs,vs=[.ref a] /\ SqL K H1 a xs /\ R (Itv K a xs) H1):iRev K t σ H R:=h
def ztl {K:PySem.W.Frag} {t:TA} {R:It -> Hp -> Prop} (h:t σ H λ vs H1=>∃ a b xs ys,vs=[.ref a,.ref b] /\ SqL K H1 a xs /\ SqL K H1 b ys /\ R (Itz K a b xs ys) H1):iZip K t σ H R:=h
def zsD {K:PySem.W.Frag} {n:Nat} {t:TGs} {a:Addr} {xs:List V} {K':St -> Hp -> Prop} (hq:SqT K H a xs) (hl:xs.length=n) (h:t xs σ H K'):gTup K n t (.ref a) σ H K':=⟨a,xs,rfl,hq,hl,h⟩
def zmE {p:Addr} {xs:List V} {k:Int} {j:Nat} {v:V} {K:Hp -> Prop} (hp:H p=some (.lst xs)) (e:ixN xs.length k=some j) (h:K (upd H p (.lst (xs.set j v)))):zqU (.ref p) (.int k) v H K:=⟨p,xs,k,j,rfl,rfl,hp,e,h⟩
end
def ztp {K:PySem.W.Frag} {i:Int} {H:Hp} {P:Prop} (h:P):tyV K "int" (.int i) H /\ P:=⟨rfl,h⟩
def ztE {K:PySem.W.Frag} {p:Addr} {xs:List V} {H:Hp} {P:Prop} (hq:SqL K H p xs) (h:P):tyV K "list" (.ref p) H /\ P:=⟨.inl ⟨rfl,xs,hq⟩,h⟩
def zaV {n:Nat} {src:List (Option Nat)} {σ:St} {g:TG} {tc:TT} {te:TE} {Q:VK} {H:Hp} (Pv:Nat -> List V -> Hp -> Prop) (h0:Pv 0 [] H) (len:∀ i acc H,Pv i acc H -> acc.length <= sizeLine)
  (step:∀ i acc H,i < n -> Pv i acc H -> g (.int (i:Nat)) (capt src σ) H λ σ2 H2=>Ext (capt src σ) σ2 /\ tc σ2 H2 λ b H3=>if b=true then te σ2 H3 (λ y H4=>Pv (i + 1) (acc ++ [y]) H4) else Pv (i + 1) acc H3)
  (done:∀ acc H,Pv n acc H -> ∀ p,H p=none -> Q (.ref p) (upd H p (.lst acc))):zdc (Itr 0 n) src σ g tc te Q H:=
 zmw Pv h0 len (λ i acc H hi p=>by rw [Int.zero_add]; exact step i acc H hi p) done
def small5 {n:Nat} (h:n <= 100000):n < sizeLine:=ya1 h (3:)
def zck {c A B:Prop} [Decidable c] (h1:c -> A) (h2:¬ c -> B):if decide c=true then A else B:=by
 by_cases h:c
 ·rw [if_pos (decide_eq_true h)]; exact h1 h
 ·rw [if_neg (by rw [decide_eq_false h]; exact yaI)]; exact h2 h
def zbE {i j:Int} {A B:Prop} (h1:i=j -> A) (h2:¬ i=j -> B):if (i == j)=true then A else B:=by
 by_cases h:i=j
 ·rw [if_pos (by simpa using h)]; exact h1 h
 ·rw [if_neg (by simpa using h)]; exact h2 h
def zju {i j:Int} {A B:Prop} (h1:¬ i=j -> A) (h2:i=j -> B):if (!(i == j))=true then A else B:=by
 by_cases h:i=j
 ·rw [if_neg (by simp [h])]; exact h2 h
 ·rw [if_pos (by simp [h])]; exact h1 h
def zrS {A B:Prop} (h:B):if (!true)=true then A else B:=iteF h
def zrO {A B:Prop} (h:A):if (!false)=true then A else B:=iteT h
def zrR {σ:St} {i:Nat} {v:V} {P:Prop} (h:σ[i]?=some none) (p:P):Ext σ (σ.set i (some v)) /\ P:=⟨zkL h,p⟩
def zsE {σ:St} {i j:Nat} {v u:V} {P:Prop} (h:σ[i]?=some none) (k:(σ.set i (some v))[j]?=some none) (p:P):Ext σ ((σ.set i (some v)).set j (some u)) /\ P:=⟨(zkL h).trans (zkL k),p⟩
section
variable {X:Cx} {K:PySem.W.Frag} {tg l a b e o:Expr} {es:List Expr} {tl ta tb to:TE} {tA:TA}
def k_eq (hu:X.A.units + 64 < cLine) (hK:X.K=K:=by rfl):OpR X (compareOp .Eq) (rEqU K):=hK ▸ zr6 hu
def k_ne (hu:X.A.units + 64 < cLine) (hK:X.K=K:=by rfl):OpR X (compareOp .NotEq) (rNeU K):=hK ▸ zsq hu
def zby (hK:X.K=K:=by rfl):OpR X (binaryOp .Add) (zp4 K):=hK ▸ zre
def k_ix (hK:X.K=K:=by rfl):IxR X (rIx K):=hK ▸ zsl
noncomputable def rSlU (K:PySem.W.Frag):V -> Option Int -> Option Int -> Hp -> VK -> Prop:=λ x lo hi H Q=>rSlL K x lo hi H Q \/ rSlT K x lo hi H Q
def k_sl (hK:X.K=K:=by rfl):SlR X (rSlU K):=hK ▸ slU
def k_in (hK:X.K=K:=by rfl):OpR X (compareOp .In) (rIn K false):=hK ▸ znn
def zkY (hK:X.K=K:=by rfl):OpR X (compareOp .NotIn) (rIn K true):=hK ▸ zkm
def zaJ (hl:PE X l tl) (hK:X.K=K:=by rfl):PI X tg l (iSeq K tl):=hK ▸ zrX hl
def zpQ {p pos:Pos} (hm:X.mg "reversed"=none) (ha:PA X [a] tA) (hg:Gl X "reversed":=by rfl) (hs:starEach [a] X.env=[(false,eval a X.env)]:=by rfl) (hK:X.K=K:=by rfl):PI X tg (.Call (.Name "reversed" p) [a] [] pos) (iRev K tA):=hK ▸ zrW hm ha hg hs
def zlJ {elts:List Expr} {kk:Nat} {tpos p pos:Pos} (hm:X.mg "zip"=none) (ha:PA X [a,b] tA) (hg:Gl X "zip":=by rfl)
  (hs:starEach [a,b] X.env=[(false,eval a X.env),(false,eval b X.env)]:=by rfl) (hs2:starEach [b] X.env=[(false,eval b X.env)]:=by rfl) (hK:X.K=K:=by rfl):PI X (.Tuple elts kk tpos) (.Call (.Name "zip" p) [a,b] [] pos) (iZip K tA):=hK ▸ zrJ hm ha hg hs hs2
def zbO (hK:X.K=K:=by rfl):zdq X (.builtin "len") (rLen K):=hK ▸ zo1
def ziQ (hK:X.K=K:=by rfl):zdq X (.type "tuple") (zov K):=hK ▸ znI
def zrB (hc:X.calm=true) (hK:X.K=K:=by rfl):zdq X (.builtin "all") (zr2 K λ bs=>bs.all id):=hK ▸ zns hc
def zno (hK:X.K=K:=by rfl):zdq X (.builtin "isinstance") (rIsi K):=hK ▸ zp0
def za8 {pos:Pos} {k:Nat} {t:TGs} {n:Nat} (hc:X.calm=true) (h:PGs X es t) (hn:(assignEach es X.env).length=n:=by rfl) (hst:(assignEach es X.env).findIdx? (·.1)=none:=by rfl) (hK:X.K=K:=by rfl):PG X (.Tuple es k pos) (gTup K n t):=hK ▸ zsI hc h hn hst
def znC {name:Str} {apos cpos:Pos} {T id:String} {r:V -> List V -> Hp -> VK -> Prop} (pa:PlainAttrs T) (slot:Slot T name id) (hty:typeOf (.builtin id)=pure (.type "method_descriptor")) (hm:MtR X id r) (ho:PE X o to)
  (hbase:attributeBase o name X.env (eval o X.env)=eval o X.env:=by rfl) (hline:(apos.endLine == cpos.line)=true:=by rfl) (hK:X.K=K:=by rfl):PE X (.Call (.Attribute o name apos) [] [] cpos) (tBM0 K T r to):=hK ▸ zss pa slot hty hm ho hbase hline
def k_bm {name:Str} {apos cpos:Pos} {T id:String} {r:V -> List V -> Hp -> VK -> Prop} (pa:PlainAttrs T) (slot:Slot T name id) (hty:typeOf (.builtin id)=pure (.type "method_descriptor")) (hm:MtR X id r) (ho:PE X o to) (ha:PA X (e :: es) tA)
  (hbase:attributeBase o name X.env (eval o X.env)=eval o X.env:=by rfl)
  (hfew : ((backTo cpos (starEach (e :: es) X.env)).all (fun x => !x.1) && (backToKw cpos (keywordEach [] X.env)).all (fun x => x.1.isSome)
   && decide ((e :: es).length + ([]:List Keyword).length + (if ([]:List Keyword).isEmpty then 0 else 1) < 30))=true:=by rfl)
  (hline:(apos.endLine == cpos.line)=true:=by rfl) (hs:starEach (e :: es) X.env=(false,eval e X.env) :: starEach es X.env:=by rfl) (hplain:(backTo cpos (starEach es X.env)).any (·.1)=false:=by rfl) (hK:X.K=K:=by rfl) :
  PE X (.Call (.Attribute o name apos) (e :: es) [] cpos) (tBM K T r to tA):=hK ▸ zty pa slot hty hm ho ha hbase hfew hline hs hplain
end
noncomputable abbrev ForW (J:It) (g:TG) (tb:TS) (D:Ends) (σ:St) (H1:Hp):Prop:=∃ W:Nat -> Nat -> St -> Hp -> Prop,(∃ m,W 0 m σ H1) /\ ∀ i m σ H,W i m σ H ->
 (J.stop i H /\ D.nx σ H) \/ (J.go i H /\ ∃ N:St -> Hp -> Prop,(∀ σ' H',N σ' H' -> ∃ m',m' < m /\ W (i + 1) m' σ' H') /\ ∀ x H',J.yld i H x H' -> g x σ H' λ σ2 H2=>tb { D with nx:=N,ct:=N,bk:=D.nx } σ2 H2)
def zdS {n:Nat} {g:TG} {tb:TS} {D:Ends} {σ:St} {H:Hp} (Pv:Nat -> St -> Hp -> Prop) (h0:Pv 0 σ H)
  (hs:∀ i σ H,i < n -> Pv i σ H -> g (.int (i:Nat)) σ H λ σ2 H2=>tb { D with nx:=Pv (i + 1),ct:=Pv (i + 1),bk:=D.nx } σ2 H2) (hd:∀ σ H,Pv n σ H -> D.nx σ H):ForW (Itr 0 n) g tb D σ H:=
 zpc Pv h0 (λ i σ H hi p=>by rw [Int.zero_add]; exact hs i σ H hi p) hd
def ztw {wi:TI} {g:TG} {tb:TS} {D:Ends} {σ:St} {H:Hp} (h:wi σ H λ J H1=>ForW J g tb D σ H1):tFor wi g tb D σ H:=h
def zmc {j:Int} {n:Nat} {g:TG} {tb:TS} {D:Ends} {σ:St} {H:Hp} (e:j=(n:Int)) (hn:n <= 1000000) (h:ForW (Itr 0 n) g tb D σ H):∃ i:Int,[V.int j]=[V.int i] /\ -(2 ^ 62) <= i /\ i < 2 ^ 62 /\ ForW (Itr 0 i.toNat) g tb D σ H:=by
 subst e;exact ⟨n,rfl,by omega,by omega,by simpa using h⟩
def zed {j:Int} {n:Nat} {src:List (Option Nat)} {g:TG} {tc:TT} {te:TE} {Q:VK} {σ:St} {H:Hp} (e:j=(n:Int)) (hn:n <= 1000000) (h:zdc (Itr 0 n) src σ g tc te Q H):∃ i:Int,[V.int j]=[V.int i] /\ -(2 ^ 62) <= i /\ i < 2 ^ 62 /\ zdc (Itr 0 i.toNat) src σ g tc te Q H:=by
 subst e;exact ⟨n,rfl,by omega,by omega,by simpa using h⟩
def zsz {src:List (Option Nat)} {wi:TI} {g:TG} {tc:TT} {te:TE} {σ:St} {H:Hp} {Q:VK} (h:wi σ H λ J H1=>zdc J src σ g tc te Q H1):zpS src wi g tc te σ H Q:=h
def zoV {src:List (Option Nat)} {wi:TI} {g:TG} {tc:TT} {te:TE} {j:Nat} {D:Ends} {σ:St} {H:Hp} (h:zpS src wi g tc te σ H λ x H1=>D.nx (σ.set j (some x)) H1):zl2 src wi g tc te j D σ H:=h
def zgg {K:PySem.W.Frag} {a:Addr} {xs:List V} {g:TG} {tb:TS} {D:Ends} {σ:St} {H:Hp} (hA:SqL K H a xs \/ SqT K H a xs) (Pv:Nat -> St -> Hp -> Prop) (h0:Pv 0 σ H)
  (hs:∀ i σ H',Pv i σ H' -> (SqL K H a xs -> SqL K H' a xs) /\ (SqT K H a xs -> SqT K H' a xs))
  (step:∀ i x σ H',xs[i]?=some x -> Pv i σ H' -> g x σ H' λ σ2 H2=>tb { D with nx:=Pv (i + 1),ct:=Pv (i + 1),bk:=D.nx } σ2 H2) (done:∀ σ H',Pv xs.length σ H' -> D.nx σ H') :
  ∃ b,V.ref a=.ref b /\ (((∃ xs,SqL K H b xs) /\ ForW (Itl K b) g tb D σ H) \/ ((∃ xs,SqT K H b xs) /\ ForW (Itt K b) g tb D σ H)):=by
 refine ⟨a,rfl,?_⟩;rcases hA with hA | hA
 ·exact .inl ⟨⟨xs,hA⟩,zlq Pv h0 (λ i σ H' _ p=>(hs i σ H' p).1 hA) step done⟩
 ·exact .inr ⟨⟨xs,hA⟩,zrg Pv h0 (λ i σ H' _ p=>(hs i σ H' p).2 hA) step done⟩
def zbQ {K:PySem.W.Frag} {a:Addr} {xs:List V} {src:List (Option Nat)} {σ:St} {g:TG} {tc:TT} {te:TE} {Q:VK} {H:Hp} (hA:SqL K H a xs)
  (h:zdc (Itl K a) src σ g tc te Q H):∃ b,V.ref a=.ref b /\ (((∃ xs,SqL K H b xs) /\ zdc (Itl K b) src σ g tc te Q H) \/ ((∃ xs,SqT K H b xs) /\ zdc (Itt K b) src σ g tc te Q H)):=⟨a,rfl,.inl ⟨⟨xs,hA⟩,h⟩⟩
def zak {H:Hp} {p:Addr} {o:HO} (h:H p=none):Same H (upd H p o):=λ b u e=>by rw [zaA (zaC e h)]; exact e
def Same.seqT {K:PySem.W.Frag} {H H':Hp} {a:Addr} {xs:List V} (e:Same H H') (h:SqT K H a xs):SqT K H' a xs:=by
 rcases h with (h | ⟨o,h⟩) | h
 ·exact .inl (.inl (e _ _ h))
 ·exact .inl (.inr ⟨o,e _ _ h⟩)
 ·exact .inr h
structure But (p:Addr) (H H':Hp):Prop where
 keep:∀ b o,b ≠ p -> H b=some o -> H' b=some o
 fst:∀ q r,H p=some (.lst (.ref q :: r)) -> ∃ r',H' p=some (.lst (.ref q :: r'))
def But.refl (p:Addr) (H:Hp):But p H H:=⟨λ _ _ _ h=>h,λ _ r h=>⟨r,h⟩⟩
def But.trans {p:Addr} {H H1 H2:Hp} (a:But p H H1) (b:But p H1 H2):But p H H2:=⟨λ c o n h=>b.keep c o n (a.keep c o n h),λ q r h=>by
 obtain ⟨r1,h1⟩:=a.fst q r h;exact b.fst q r1 h1⟩
def Same.but {p:Addr} {H H':Hp} (s:Same H H'):But p H H':=⟨λ b o _ h=>s b o h,λ q r h=>⟨r,s _ _ h⟩⟩
def But.updL {p q:Addr} {H:Hp} {r r':List V} (h:H p=some (.lst (.ref q :: r))):But p H (upd H p (.lst (.ref q :: r'))):=⟨λ b u n e=>by rw [zaA n]; exact e,λ q' r2 e=>by
 rw [h] at e;cases e;exact ⟨r',zai⟩⟩
def Same.upd' {q:Addr} {H0 H:Hp} {o:HO} (b:Same H0 H) (hq:H0 q=none):Same H0 (L2.upd H q o):=λ c u h=>by rw [zaA (zaC h hq)]; exact b c u h
end L2
namespace PySem
namespace F
end F
section
variable {prog:Program} {w:World} {A:Around} {E:Value -> Shared -> Prop} {s:Shared}
end
end PySem
namespace L2
open PySem PySem.Spec PyProof.Rows
section
variable {X:Cx} {pins:List (Addr × Obj)} {σ:St} {H:Hp} {s:Shared} {h':Heap} {ch:List Addr}
end
section
variable {X:Cx} {K:PySem.W.Frag} {a:Expr} {ta:TA} {p p2 pos pos2:Pos}
end
section
variable {σ:St} {H:Hp} {Q:VK}
end
def znd {prog:Program} {w:World} {A:Around} {e it l:Addr} (hei:e ≠ it) (hle:l ≠ e) (hli:l ≠ it) {items:Array Value} {i:Nat} {s:Shared} {Q:Option Value -> Shared -> Prop} {E:Value -> Shared -> Prop} (hi:i < items.size)
  (hst:(∃ old,IsEnum s.heap e it i old) /\ s.heap.IsListIter it l i /\ s.heap.IsList l items)
  (hQ : ∀ T vals h' tk, (∃ t x, items[i]? = some x /\ vals = #[.int i t, x]) -> s.heap.objs.size <= T -> zbB h' T vals ->
   ((∃ x,IsEnumOut h' e it ((i:Int) + 1) x T) /\ h'.IsListIter it l (i + 1) /\ h'.IsList l items /\ T ≠ e /\ T ≠ it) ->
   (∀ b o,b ∉ [e,it] -> s.heap.get? b=some o -> h'.get? b=some o) -> Q (some (.ref T)) { s with heap:=h',toks:=tk }) :
  wpAny (model prog w) A (pyNext (.ref e)) Q E s:=by
 obtain ⟨⟨old,he⟩,hit,hl⟩:=hst;have hx:items[i]?=some items[i]:=ybw hi;have l1:e < s.heap.objs.size:=yan he;have l2:it < s.heap.objs.size:=by obtain ⟨_,x,_⟩:=hit; exact yan x
 refine wpAny_pyNext_enum_item he hit hl hx hei λ h' ho hit' hT hsz hk=>?_;refine hQ s.heap.objs.size #[.int i s.toks,items[i]] h' (s.toks + 1) ⟨_,_,hx,rfl⟩ (yaj _) ⟨_,hT,rfl,rfl,_,rfl⟩ ⟨⟨_,ho⟩,hit',?_,ycf l1,ycf l2⟩ ?_
 ·exact hl.at λ o x=>hk l o hle hli x
 ·exact λ b o hb x=>hk b o (λ z=>hb (by simp [z])) (λ z=>hb (by simp [z])) x
def zkJ {prog:Program} {w:World} {A:Around} {it:Addr} {fp:List Addr} {n:Nat} {P:Nat -> Value -> Prop} {St:Nat -> Heap -> Prop} (D:Draws prog w A.in1 it fp n P St) {e:Addr} (hei:e ≠ it) (hef:e ∉ fp) {i:Nat} {s:Shared} {Q:Option Value -> Shared -> Prop} {E:Value -> Shared -> Prop} (hi:i < n)
  (hst:(∃ old,IsEnum s.heap e it i old) /\ St i s.heap)
  (hQ : ∀ T vals h' tk, (∃ t x, P i x /\ vals = #[.int i t, x]) -> s.heap.objs.size <= T -> zbB h' T vals ->
   ((∃ x,IsEnumOut h' e it ((i:Int) + 1) x T) /\ St (i + 1) h' /\ T ≠ e /\ T ≠ it) ->
   (∀ b o,b ∉ [e,it] -> s.heap.get? b=some o -> h'.get? b=some o) -> Q (some (.ref T)) { s with heap:=h',toks:=tk }) :
  wpAny (model prog w) A (pyNext (.ref e)) Q E s:=by
 obtain ⟨⟨old,he⟩,hs⟩:=hst;have l1:e < s.heap.objs.size:=yan he;have l2:it < s.heap.objs.size:=by obtain ⟨_,y⟩:=D.live _ _ hs; exact yan y
 refine wpAny_pyNext_enum_itemD D he hs hi hei hef λ x h' tk hP ho hs' hT hsz hk=>?_;refine hQ s.heap.objs.size #[.int i tk,x] h' (tk + 1) ⟨_,_,hP,rfl⟩ (yaj _) ⟨_,hT,rfl,rfl,_,rfl⟩ ⟨⟨_,ho⟩,hs',ycf l1,ycf l2⟩ ?_;exact λ b o hb y=>hk b o (λ z=>hb (by simp [z])) (λ z=>hb (by simp [z])) y
end L2
namespace PySem
open Sem (wp)
open AutoSeq1 (wpAny_loadPart')
section
variable {prog:Program} {w:World} {A:Around} {E:Value -> Shared -> Prop} {s:Shared}
def zeA {Q:List Value -> Shared -> Prop} {r:Addr} {a b c:Int} {t u v:Tok} {n:Nat} (hh:A.handled=none) (hr:IsRange s.heap r a b c t u v) (hsmall:Builtin.Range.small a b c=true)
    (hn:Builtin.Range.rangeSize a b c=n) (hlen:n <= 2 ^ 24)
    (hQ:∀ (h':Heap) (tk:Nat) (acc:Array Value),(∀ b o,s.heap.get? b=some o -> h'.get? b=some o) -> ItemsOf (λ i v=>∃ t,v=.int (a + i * c) t) acc n -> Q acc.toList { s with heap:=h',toks:=tk }) :
    wpAny (model prog w) A (collect (.ref r)) Q E s:=by
  have hS:(s.heap.push { cls:=.type "list",dict:=none,data:=.seq ([]:List Value).toArray }).get? s.heap.objs.size=some { cls:=.type "list",data:=.seq #[] }:=yaF _ rfl
  have step:∀ R:Result -> Shared -> Prop,(∀ h' tk acc' c',(∀ b o,b ≠ s.heap.objs.size -> (s.heap.push { cls:=.type "list",dict:=none,data:=.seq ([]:List Value).toArray }).get? b=some o -> h'.get? b=some o) ->
      h'.get? s.heap.objs.size=some { cls:=.type "list",dict:=none,data:=.seq acc' c',slots:=#[] } -> ItemsOf (λ i v=>∃ t,v=.int (a + i * c) t) acc' n -> R (.ok (.ret (.ref s.heap.objs.size))) { s with heap:=h',toks:=tk }) ->
      codeAny (model prog w) A (.builtin "list.__iadd__" ⟨[.ref s.heap.objs.size,.ref r],[]⟩) R { s with heap:=s.heap.push { cls:=.type "list",dict:=none,data:=.seq ([]:List Value).toArray } }:=λ R hR=>by
    refine codeAny_builtin F.entry_list_iadd ?_;rw [Around.under_plainId F.plain_list_iadd _];exact wpAny_extend_range (R:=R) (s:={ s with heap:=s.heap.push { cls:=.type "list",dict:=none,data:=.seq ([]:List Value).toArray } }) hh (yam _ hr) hsmall hn hlen s.heap.objs.size (.ref s.heap.objs.size) _ hS hR
  unfold collect;refine wpAny_bind (wpAny_runValue (codeAny_builtin F.entry_proto_collect ?_));rw [Around.under_plainId F.plain_proto_collect _];show wpAny _ A.in1 (newList [] >>= λ l=>again (.builtin "list.__iadd__" ⟨[l,.ref r],[]⟩)) _ _ s;refine wpAny_bind (wpAny_newObj_type ?_);refine wpAny_pure ⟨plainId_quiet F.plain_list_iadd _,step _ λ h' tk acc' c' hk hS' hacc=>?_⟩;show wpAny _ A (load s.heap.objs.size >>= _) _ _ _;refine wpAny_bind (wpAny_load hS' ?_);exact wpAny_pure (hQ h' tk acc' (λ b o e=>hk b o (yaR (yan e)) (yam _ e)) hacc)
end
def zdt (r:Addr) (a b c:Int) (t u v:Tok) (n:Nat) (hsmall:Builtin.Range.small a b c=true) (hn:Builtin.Range.rangeSize a b c=n) (hlen:n <= 2 ^ 24) :
  Meets (Builtin.«tuple.__new__» ⟨[.type "tuple",.ref r],[]⟩)
   (fun A R s => A.handled = none /\ IsRange s.heap r a b c t u v /\ ∀ (h' : Heap) (tk : Nat) (acc : Array Value), (∀ b o, s.heap.get? b = some o -> h'.get? b = some o) -> ItemsOf (fun i v => ∃ t, v = .int (a + i * c) t) acc n ->
    R (.ok (.ret (.ref h'.objs.size))) { s with heap:=h'.push { cls:=.type "tuple",data:=.seq acc },toks:=tk }):=
 .of_wp λ prog w A R s h=>by
  obtain ⟨hh,hr,h⟩:=h;have hsub:=sub_tuple_self;have hinit:=init_tuple_lookup;have hmh:=madeHere_tuple;have hT:s.TypeIs (.ref r) "range":=⟨_,hr,rfl⟩
  have hh1:A.in1.handled=none:=hh
  wp_walk using wpAny_typeOf hT,zeA hh1 hr hsmall hn hlen
  intro h' tk acc hk hacc;show wpAny _ _ (Builtin.Tuple.tupleExact acc.toList.toArray >>= λ v=>ret v) _ _ _;unfold Builtin.Tuple.tupleExact;refine wpAny_bind (wpAny_newObj_type ?_ (show acc.toList.toArray.size <= sizeLine by simp only [Array.toArray_toList]; rw [hacc.1,sizeLine_eq]; omega));refine wpAny_pure ⟨_,rfl,?_⟩;have e:acc.toList.toArray=acc:=by simp
  rw [e];exact h h' tk acc hk hacc
section
variable {prog:Program} {w:World} {A:Around} {E:Value -> Shared -> Prop} {s:Shared}
def zf4 {Q:Value -> Shared -> Prop} {r:Addr} {a b c:Int} {t u v:Tok} {n:Nat} (hh:A.handled=none) (hr:IsRange s.heap r a b c t u v) (hsmall:Builtin.Range.small a b c=true)
  (hn:Builtin.Range.rangeSize a b c=n) (hlen:n <= 2 ^ 24)
  (h:∀ (h':Heap) (tk:Nat) (acc:Array Value),(∀ b o,s.heap.get? b=some o -> h'.get? b=some o) -> ItemsOf (λ i v=>∃ t,v=.int (a + i * c) t) acc n -> Q (.ref h'.objs.size) { s with heap:=h'.push { cls:=.type "tuple",data:=.seq acc },toks:=tk }) :
  wpAny (model prog w) A (call (.type "tuple") [.ref r]) Q E s:=by
 refine callType_new F.called_tuple (3:) (F.typeCall_tuple_1 _) (F.newCall_tuple_1 _) (λ obj=>F.args_object_init_2 obj _) F.entry_tuple_new
  (zdt r a b c t u v n hsmall hn hlen) ⟨hh,hr,λ h' tk acc hk hacc=>⟨⟨_,yaF _ rfl,rfl⟩,?_⟩⟩
 exact h h' tk acc hk hacc
def zcU {it l:Addr} {i:Nat} {items} {x:Value} {Q:Value -> Shared -> Prop} (hit:s.heap.IsTupleIter it l i)
  (hl:s.heap.IsTuple l items) (hx:items[i]?=some x)
  (hQ:∀ h',h'.IsTupleIter it l (i + 1) -> Heap.SameBut it s.heap h' -> Q x { s with heap:=h' }) :
  wpAny (model prog w) A (Builtin.SmallTypes.nextOf (.ref it)) Q E s:=by
 obtain ⟨o,ho,hc,hd⟩:=id hit;obtain ⟨ol,hol,_,nl,hdl⟩:=hl;unfold Builtin.SmallTypes.nextOf
 refine wpAny_bind (wpAny_callSpecial?_slot (name:=Str.ofString "__next__") hit.typeIs ybF
  (wpAny_call_entry ybF hit.typeIs F.entry_tuple_iterator_next ?_ (F.args_tuple_iterator_next_1 _)))
 show wpAny _ _ (field (.ref it) 0 >>= _) _ _ s;refine wpAny_bind (wpAny_field ho hd (x:=.ref l) rfl ?_);show wpAny _ _ (if (Value.ref l == Value.none)=true then _ else _) _ _ s;rw [if_neg (show ¬ ((Value.ref l == Value.none)=true) from yaI)];show wpAny _ _ (field (.ref it) 1 >>= _) _ _ s;refine wpAny_bind (wpAny_field ho hd (x:=.int i 0) rfl ?_);show wpAny _ _ (seqItems? (.ref l) >>= _) _ _ s;refine wpAny_bind (wpAny_seqItems hol hdl ?_);simp only [yak,hx];refine wpAny_bind (wpAny_setField ho hd (8:) (wpAny_pure ⟨x,rfl,wpAny_pure (hQ _ ?_ (Heap.SameBut.update ..))⟩))
 exact ⟨_,Heap.get?_update_self _ ho (Obj.isFreed_of_fields (Obj.data_mapFields hd _)),(Obj.cls_mapFields ..).trans hc,by
  rw [Obj.data_mapFields hd]; simp [rawInt]⟩
def zdp {it l:Addr} {i:Nat} {items} {Q:Value -> Shared -> Prop} (hh:A.handled=none)
  (hit:s.heap.IsTupleIter it l i) (hl:s.heap.IsTuple l items) (hx:items[i]?=none)
  (hE:∀ h' e,Heap.ExtBut it s.heap h' -> (∃ o,h'.get? e=some o /\ o.cls=.type "StopIteration") -> E (.ref e) { s with heap:=h' }) :
  wpAny (model prog w) A (Builtin.SmallTypes.nextOf (.ref it)) Q E s:=by
 obtain ⟨o,ho,hc,hd⟩:=id hit;obtain ⟨ol,hol,_,nl,hdl⟩:=hl;unfold Builtin.SmallTypes.nextOf
 refine wpAny_bind (wpAny_callSpecial?_slot (name:=Str.ofString "__next__") hit.typeIs ybF
  (wpAny_call_entry ybF hit.typeIs F.entry_tuple_iterator_next ?_ (F.args_tuple_iterator_next_1 _)))
 show wpAny _ _ (field (.ref it) 0 >>= _) _ _ s;refine wpAny_bind (wpAny_field ho hd (x:=.ref l) rfl ?_);show wpAny _ _ (if (Value.ref l == Value.none)=true then _ else _) _ _ s;rw [if_neg (show ¬ ((Value.ref l == Value.none)=true) from yaI)];show wpAny _ _ (field (.ref it) 1 >>= _) _ _ s;refine wpAny_bind (wpAny_field ho hd (x:=.int i 0) rfl ?_);show wpAny _ _ (seqItems? (.ref l) >>= _) _ _ s;refine wpAny_bind (wpAny_seqItems hol hdl ?_);simp only [yak,hx];refine wpAny_bind (wpAny_rule (wpAny_bind (wpAny_setField ho hd (8:) ?_)));show wpAny _ _ (newExc (.type "StopIteration") [] >>= _) _ _ _;refine wpAny_bind ?_;simp only [newExc,newTuple];refine wpAny_bind (wpAny_newObj_type ?_ (by size_fits));refine wpAny_bind (m:=firstArgMember _ _) (wpAny_of_eq (a:=Value.none) (by first | rfl | (simp only [firstArgMember]; rfl)) ?_);refine wpAny_newObj_type ?_ (by size_fits);simp only [raiseNew];refine wpAny_bind (wpAny_handled ?_)
 first | rw [show A.in1.handled=none from hh] | rw [hh]
 refine wpAny_bind (wpAny_pure (wpAny_throw ?_));exact hE _ _ (((Heap.SameBut.update ..).extBut.push _).push _) ⟨_,yaF _ rfl,rfl⟩
end
def Draws.tuple {prog:Program} {w:World} {A:Around} (hh:A.handled=none) (it l:Addr) (hne:l ≠ it) (items:Array Value) :
  Draws prog w A it [it,l] items.size (λ i v=>items[i]?=some v) (λ i h=>h.IsTupleIter it l i /\ h.IsTuple l items) where
 live:=λ _ _ st=>let ⟨o,ho,_⟩:=st.1; ⟨o,ho⟩
 frame:=λ _ _ _ st hk=>⟨st.1.at λ o e=>hk it (8:) o e,st.2.at λ o e=>hk l (8:) o e⟩
 item:=λ i s Q E hi st hQ=>by
  refine zcU st.1 st.2 (x:=items[i]) (by simp [hi]) λ h' hit' hs'=>?_;exact hQ _ h' s.toks (by simp [hi]) ⟨hit',st.2.at λ o e=>hs'.extBut _ o hne e⟩ hs'
 done:=λ s Q E st hE=>zdp hh st.1 st.2 (8:) hE
def zd8 (l:Addr) (items:Array Value) (n:Nat) (dct:Option Addr) (sl:Array (Option Value)) :
  Meets (Builtin.«enumerate.__new__» ⟨[.type "enumerate",.ref l],[]⟩) (λ _ R s=>s.heap.get? l=some { cls:=.type "tuple",dict:=dct,data:=.seq items n,slots:=sl } /\
   R (.ok (.ret (.ref (s.heap.push { cls:=.type "tuple_iterator",data:=.fields #[.ref l,.int 0 0] }).objs.size)))
    { s with heap:=(s.heap.push { cls:=.type "tuple_iterator",data:=.fields #[.ref l,.int 0 0] }).push { cls:=.type "enumerate",data:=.fields #[.none,.bool false,.ref s.heap.objs.size,rawInt 0,.none,.none] } }):=
 .of_wp λ prog w A R s h=>by
  obtain ⟨hp,g,d,tk,os⟩:=s; obtain ⟨hl,h⟩:=h;have hsub:=sub_enumerate;have hL:Heap.IsTuple (Shared.heap ⟨hp,g,d,tk,os⟩) l items:=⟨_,hl,rfl,n,rfl⟩
  wp_walk using wpAny_loadPart' hl
  refine wpAny_stack_any λ st=>wpAny_pure ?_
  split
  ·rename_i c _ _ _ _ _;cases (c == Value.type "enumerate")
   ·wp_walk using wpAny_loadPart' hl, wpAny_pyIter_tuple hL
    exact ⟨_,rfl,h⟩
   ·wp_walk using wpAny_loadPart' hl, wpAny_pyIter_tuple hL
    exact ⟨_,rfl,h⟩
  ·wp_walk using wpAny_loadPart' hl, wpAny_pyIter_tuple hL
   exact ⟨_,rfl,h⟩
section
variable {prog:Program} {w:World} {A:Around} {E:Value -> Shared -> Prop} {s:Shared}
def zd7 {l:Addr} {items:Array Value} {Q:Value -> Shared -> Prop} (hL:s.heap.IsTuple l items)
    (h:∀ h',IsEnum h' (s.heap.objs.size + 1) s.heap.objs.size 0 .none -> h'.IsTupleIter s.heap.objs.size l 0 -> h'.objs.size=s.heap.objs.size + 2 ->
      (∀ b o,s.heap.get? b=some o -> h'.get? b=some o) -> Q (.ref (s.heap.objs.size + 1)) { s with heap:=h' }) :
    wpAny (model prog w) A (call (.type "enumerate") [.ref l]) Q E s:=by
  obtain ⟨⟨c,dct,dt,sl⟩,hl,hc,n,hd⟩:=hL
  replace hc:c=.type "tuple":=hc
  replace hd:dt=.seq items n:=hd
  subst hc hd
  refine callType_new F.called_enumerate (3:) (F.typeCall_enumerate_1 _) (F.newCall_enumerate_1 _) (λ obj=>F.args_object_init_2 obj _) F.entry_enumerate_new
    (zd8 l items n dct sl) ⟨hl,?_⟩
  have hz:(s.heap.push { cls:=.type "tuple_iterator",data:=.fields #[.ref l,.int 0 0] }).objs.size=s.heap.objs.size + 1:=Heap.size_push ..;show _ /\ _;rw [hz]
  have he:IsEnum ((s.heap.push { cls:=.type "tuple_iterator",data:=.fields #[.ref l,.int 0 0] }).push
      { cls:=.type "enumerate",data:=.fields #[.none,.bool false,.ref s.heap.objs.size,rawInt 0,.none,.none] }) (s.heap.objs.size + 1) s.heap.objs.size 0 .none:=by
    have:=yaF (s.heap.push { cls:=.type "tuple_iterator",data:=.fields #[.ref l,.int 0 0] })
      (o:={ cls:=.type "enumerate",data:=.fields #[.none,.bool false,.ref s.heap.objs.size,rawInt 0,.none,.none] }) rfl
    rw [hz] at this; exact this
  refine ⟨⟨_,he,rfl⟩,h _ he ⟨_,yam _ (yaF _ rfl),rfl,rfl⟩ (by rw [Heap.size_push,hz]) λ b o x=>yam _ (yam _ x)⟩
end
end PySem
namespace L2
open PySem PySem.Spec PyProof.Rows
section
variable {X:Cx} {K:PySem.W.Frag} {a:Expr} {ta:TA} {p p2 pos pos2:Pos}
def zgM {acc:Array Value} {n:Nat} (h:ItemsOf (λ i v=>∃ t,v=Value.int ((0:Int) + i * 1) t) acc n):Vals ((List.range n).map λ (x:Nat)=>V.int (x:Int)) acc.toList:=by
 obtain ⟨h1,h2⟩:=h
 have key:∀ (k:Nat) (l:List Value) (j:Nat),l.length=k -> (∀ i v,l[i]?=some v -> ∃ t,v=Value.int ((j + i:Nat):Int) t) -> Vals ((List.range' j k).map λ (x:Nat)=>V.int (x:Int)) l:=by
  intro k
  induction k with
  | zero=>
   intro l j hl _;cases l with
   | nil=>exact .nil
   | cons _ _=>simp at hl
  | succ k ih=>
   intro l j hl hv;cases l with
   | nil=>simp at hl
   | cons x r=>
    rw [ycI,ybv];refine .cons (hv 0 x rfl) (ih r (j + 1) (by simpa using hl) λ i v e=>?_);obtain ⟨t,q⟩:=hv (i + 1) v (by simpa using e);exact ⟨t,by rw [q]; congr 1; omega⟩
 rw [ycM];refine key n acc.toList 0 (65:) λ i v e=>?_;obtain ⟨t,q⟩:=h2 i v (by simpa using e);exact ⟨t,by rw [q]; congr 1; omega⟩
noncomputable def zos (ta:TA):TE:=λ σ H Q=>ta σ H λ vs H1=>∃ n:Nat,vs=[.int n] /\ n <= 1000000 /\ ∀ l,H1 l=none -> Q (.ref l) (upd H1 l (.lst ((List.range n).map λ (x:Nat)=>V.int (x:Int))))
noncomputable def zoc (ta:TA):TE:=λ σ H Q=>ta σ H λ vs H1=>∃ n:Nat,vs=[.int n] /\ n <= 1000000 /\ ∀ l,H1 l=none -> Q (.ref l) (upd H1 l (.tup ((List.range n).map λ (x:Nat)=>V.int (x:Int))))
def zol {n:Nat} (h:n <= 1000000):Builtin.Range.small 0 (n:Int) 1=true:=small_one (1:) (1:) (1:) (1:)
def zqw {n:Nat}:Builtin.Range.rangeSize 0 (n:Int) 1=(n:Nat):=by
 rw [rangeSize_one]; split <;> omega
def zf1 (hc:X.calm=true) (hml:X.mg "list"=none) (hmr:X.mg "range"=none) (ha:PA X [a] ta) (hgl:Gl X "list":=by rfl) (hgr:Gl X "range":=by rfl) (hK:X.K=K:=by rfl)
  (hs:starEach [a] X.env=[(false,eval a X.env)]:=by rfl)
  (hs1:starEach [(.Call (.Name "range" p) [a] [] pos:Expr)] X.env=[(false,eval (.Call (.Name "range" p) [a] [] pos) X.env)]:=by rfl) :
  PE X (.Call (.Name "list" p2) [.Call (.Name "range" p) [a] [] pos] [] pos2) (zos ta):=by
 intro pins s σ H Q I h;refine wpAny_Call_Name_kw (zcH I hgl hml boot_list ?_);refine yaL ?_ hs1 rfl;rw [hs1];show wpAny _ _ (spliced ((false,eval (.Call (.Name "range" p) [a] [] pos) X.env) :: backTo pos2 [])) _ _ s;refine ycj ?_;refine Call_ (zcH I hgr hmr boot_range (yaL (thn (ha pos pins s σ H _ I h) λ us s1 ⟨vs,H1,I1,r1,q1⟩=>?_) hs rfl));obtain ⟨n,e,hn,q⟩:=q1;subst e;cases r1 with
 | cons r rr=>
  cases rr;obtain ⟨t,rfl⟩:=r;refine call_range_1 ?_;have I2:Inv X pins σ H1 { s1 with heap:=s1.heap.push { cls:=.type "range",data:=.fields #[.int 0 s1.toks,.int n t,.int 1 (s1.toks + 1)] },toks:=s1.toks + 1 + 1 }:=I1.kept λ b o e=>yam _ e;refine ycx ?_;refine call_list_range (I.ok.hd hc) (IsRange.new ..) (zol hn) zqw (1:) λ h' tk acc' c' hk hS' hacc=>?_;have rv:=zgM hacc;exact ⟨.ref _,_,I2.laid (t':=tk) (o:=.lst _) hk (yaj _) ⟨by rw [yaa,yah,sizeLine_eq]; omega,_,c',rv,by simpa using hS'⟩,rfl,q _ (I2.hok.fresh (yaj _))⟩
def zfw (hc:X.calm=true) (hml:X.mg "tuple"=none) (hmr:X.mg "range"=none) (ha:PA X [a] ta) (hgl:Gl X "tuple":=by rfl) (hgr:Gl X "range":=by rfl) (hK:X.K=K:=by rfl)
  (hs:starEach [a] X.env=[(false,eval a X.env)]:=by rfl)
  (hs1:starEach [(.Call (.Name "range" p) [a] [] pos:Expr)] X.env=[(false,eval (.Call (.Name "range" p) [a] [] pos) X.env)]:=by rfl) :
  PE X (.Call (.Name "tuple" p2) [.Call (.Name "range" p) [a] [] pos] [] pos2) (zoc ta):=by
 intro pins s σ H Q I h;refine wpAny_Call_Name_kw (zcH I hgl hml boot_tuple ?_);refine yaL ?_ hs1 rfl;rw [hs1];show wpAny _ _ (spliced ((false,eval (.Call (.Name "range" p) [a] [] pos) X.env) :: backTo pos2 [])) _ _ s;refine ycj ?_;refine Call_ (zcH I hgr hmr boot_range (yaL (thn (ha pos pins s σ H _ I h) λ us s1 ⟨vs,H1,I1,r1,q1⟩=>?_) hs rfl));obtain ⟨n,e,hn,q⟩:=q1;subst e;cases r1 with
 | cons r rr=>
  cases rr;obtain ⟨t,rfl⟩:=r;refine call_range_1 ?_;have I2:Inv X pins σ H1 { s1 with heap:=s1.heap.push { cls:=.type "range",data:=.fields #[.int 0 s1.toks,.int n t,.int 1 (s1.toks + 1)] },toks:=s1.toks + 1 + 1 }:=I1.kept λ b o e=>yam _ e;refine ycx ?_;refine zf4 (I.ok.hd hc) (IsRange.new ..) (zol hn) zqw (1:) λ h' tk acc' hk hacc=>?_;have rv:=zgM hacc;have I3:Inv X pins σ H1 { s1 with heap:=h',toks:=tk }:=I2.kept (h':=h') (t':=tk) hk;exact ⟨.ref _,_,I3.laid (t':=tk) (o:=.tup _) (λ b o e=>yam _ e) (yaj _) ⟨by rw [yaa,yah,sizeLine_eq]; omega,_,rv,by simpa using zbB.new _ _⟩,rfl,q _ (I3.hok.fresh (yaj _))⟩
end
section
variable {σ:St} {H:Hp} {Q:VK}
def zpg {t:TA} (h:t σ H λ vs H1=>∃ n:Nat,vs=[.int n] /\ n <= 1000000 /\ ∀ l,H1 l=none -> Q (.ref l) (upd H1 l (.lst ((List.range n).map λ (x:Nat)=>V.int (x:Int))))):zos t σ H Q:=h
def zpU {t:TA} (h:t σ H λ vs H1=>∃ n:Nat,vs=[.int n] /\ n <= 1000000 /\ ∀ l,H1 l=none -> Q (.ref l) (upd H1 l (.tup ((List.range n).map λ (x:Nat)=>V.int (x:Int))))):zoc t σ H Q:=h
end
noncomputable def IteL (K:PySem.W.Frag) (a:Addr) (xs:List V):It:=
 ⟨λ i H=>i < xs.length /\ SqL K H a xs,λ i H x H'=>∃ T u,x=.ref T /\ H T=none /\ H'=upd H T (.tup [.int (i:Int),u]) /\ xs[i]?=some u,λ i H=>i=xs.length /\ SqL K H a xs⟩
def zm4 {P:Program} {w:World} {K:PySem.W.Frag} {elts:List Expr} {kk:Nat} {tpos:Pos} (a e it:Addr) (hei:e ≠ it) (hae:a ≠ e) (hai:a ≠ it) (xs:List V) :
  Turn P w K (.Tuple elts kk tpos) (IteL K a xs) [e,it] e (λ i h=>(∃ old,IsEnum h e it i old) /\ h.IsListIter it a i):=by
 refine ⟨by simp,?_,?_,?_,?_,?_⟩
 ·rintro i h ⟨⟨old, he⟩, h1⟩ c hc;simp only [yaD, yaV, or_false] at hc;rcases hc with rfl | rfl
  ·exact ⟨_,he,λ v q=>nomatch q⟩
  ·obtain ⟨o,e,c,d⟩:=h1; exact ⟨o,e,λ v q=>by rw [d] at q; cases q⟩
 ·rintro i h h' ⟨⟨old,he⟩,h1⟩ k;exact ⟨⟨old,k e (8:) _ he⟩,h1.at λ o q=>k it (8:) o q⟩
 ·intro X hP hw hK hc i pins s σ H E I hf st hg;subst hP hw hK;obtain ⟨hi, hqa⟩ := hg;obtain ⟨he, h1⟩ := st;obtain ⟨ia, ra, pa, za⟩ := I.list hqa;have la := ra.length;have W := WalksT.enumerate (prog := X.prog) (w := X.w) (A := X.A) (I.ok.hd hc) e it a hei hae hai ia.toArray;refine znd (items := ia.toArray) hei hae hai (by simpa [<- la] using hi) ⟨he, h1, pa.isList⟩ fun T vals h' tk hP hfr hT hm hk => ?_;obtain ⟨t, u, eu, rfl⟩ := hP;refine ⟨_, rfl, W.go elts kk tpos i T _ _ _ hm fun h2 st2 hk2 => ?_⟩;have eu' : ia[i]? = some u := by simpa using eu
  obtain ⟨u',hu',ru⟩:=ra.get (yac hi);rw [eu'] at hu'; cases hu';have hTw:T ∉ [e,it]:=W.apart i T _ hm
  have hT2:zbB h2 T [Value.int (i:Int) t,u].toArray:=by
   obtain ⟨o,e,c,n,d⟩:=hT;exact ⟨o,hk2 T o hTw e,c,n,d⟩
  refine ⟨.ref T,upd H T (.tup [.int (i:Int),xs[i]]),I.turnTup (ch:=[e,it]) (t':=tk) (λ c hc=>hf c hc) (λ c o hc q=>hk2 c o hc (hk c o hc q)) hfr hT2 (.cons ⟨t,rfl⟩ (.cons ru .nil)) (83:),rfl,
   ⟨T,_,rfl,I.hok.fresh hfr,rfl,yac hi⟩,⟨st2.1,st2.2.1⟩,λ c hc=>?_⟩
  have hcl:c < s.heap.objs.size:=by
   simp only [yaD,yaV,or_false] at hc;obtain ⟨old,he⟩:=he;rcases hc with rfl | rfl
   ·exact yan he
   ·obtain ⟨o,e,_⟩:=h1; exact yan e
  rw [zaA (yaR (yag hcl hfr))];exact (hf c hc).1
 ·intro X hP hw hK hc i pins s σ H E I hf st hg;subst hP hw hK;obtain ⟨hi, hqa⟩ := hg;obtain ⟨he, h1⟩ := st;obtain ⟨ia, ra, pa, za⟩ := I.list hqa;have la := ra.length;have W := WalksT.enumerate (prog := X.prog) (w := X.w) (A := X.A) (I.ok.hd hc) e it a hei hae hai ia.toArray;have hi' : i = ia.toArray.size := by simpa [<- la] using hi
  refine W.done s _ _ (hi' ▸ ⟨he,h1,pa.isList⟩) λ h' tk hk=>⟨rfl,I.turnL (ch:=[e,it]) (λ c hc=>hf c hc) hk⟩
 ·rintro A i s Q E ⟨⟨old,he⟩,_⟩ h;exact wpAny_pyIter_enum he h
noncomputable def IteT (K:PySem.W.Frag) (a:Addr) (xs:List V):It:=
 ⟨λ i H=>i < xs.length /\ SqT K H a xs,λ i H x H'=>∃ T u,x=.ref T /\ H T=none /\ H'=upd H T (.tup [.int (i:Int),u]) /\ xs[i]?=some u,λ i H=>i=xs.length /\ SqT K H a xs⟩
def zmC {P:Program} {w:World} {K:PySem.W.Frag} {elts:List Expr} {kk:Nat} {tpos:Pos} (a e it:Addr) (hei:e ≠ it) (hae:a ≠ e) (hai:a ≠ it) (xs:List V) :
  Turn P w K (.Tuple elts kk tpos) (IteT K a xs) [e,it] e (λ i h=>(∃ old,IsEnum h e it i old) /\ h.IsTupleIter it a i):=by
 refine ⟨by simp,?_,?_,?_,?_,?_⟩
 ·rintro i h ⟨⟨old, he⟩, h1⟩ c hc;simp only [yaD, yaV, or_false] at hc;rcases hc with rfl | rfl
  ·exact ⟨_,he,λ v q=>nomatch q⟩
  ·obtain ⟨o,e,c,d⟩:=h1; exact ⟨o,e,λ v q=>by rw [d] at q; cases q⟩
 ·rintro i h h' ⟨⟨old,he⟩,h1⟩ k;exact ⟨⟨old,k e (8:) _ he⟩,h1.at λ o q=>k it (8:) o q⟩
 ·intro X hP hw hK hc i pins s σ H E I hf st hg;subst hP hw hK;obtain ⟨hi, hqa⟩ := hg;obtain ⟨he, h1⟩ := st;obtain ⟨ia, ra, pa, za⟩ := I.tuple hqa;have la := ra.length;have W := WalksT.enumerateD (prog := X.prog) (w := X.w) (A := X.A) (Draws.tuple (A := X.A.in1) (I.ok.hd hc) it a hai ia.toArray) e hei (fun z => (yaD.mp z).elim (fun q => hei q) (fun q => hae (yax.mp q).symm)) (8:);refine zkJ (Draws.tuple (A := X.A.in1) (I.ok.hd hc) it a hai ia.toArray) hei (fun z => (yaD.mp z).elim (fun q => hei q) (fun q => hae (yax.mp q).symm)) (by simpa [<- la] using hi) ⟨he, h1, (show s.heap.IsTuple a ia.toArray from pa)⟩ fun T vals h' tk hP hfr hT hm hk => ?_;obtain ⟨t, u, eu, rfl⟩ := hP;refine ⟨_, rfl, W.go elts kk tpos i T _ _ _ hm fun h2 st2 hk2 => ?_⟩;have eu' : ia[i]? = some u := by simpa using eu
  obtain ⟨u',hu',ru⟩:=ra.get (yac hi);rw [eu'] at hu'; cases hu';have hTw:T ∉ [e,it]:=W.apart i T _ hm
  have hT2:zbB h2 T [Value.int (i:Int) t,u].toArray:=by
   obtain ⟨o,e,c,n,d⟩:=hT;exact ⟨o,hk2 T o hTw e,c,n,d⟩
  refine ⟨.ref T,upd H T (.tup [.int (i:Int),xs[i]]),I.turnTup (ch:=[e,it]) (t':=tk) (λ c hc=>hf c hc) (λ c o hc q=>hk2 c o hc (hk c o hc q)) hfr hT2 (.cons ⟨t,rfl⟩ (.cons ru .nil)) (83:),rfl,
   ⟨T,_,rfl,I.hok.fresh hfr,rfl,yac hi⟩,⟨st2.1,st2.2.1⟩,λ c hc=>?_⟩
  have hcl:c < s.heap.objs.size:=by
   simp only [yaD,yaV,or_false] at hc;obtain ⟨old,he⟩:=he;rcases hc with rfl | rfl
   ·exact yan he
   ·obtain ⟨o,e,_⟩:=h1; exact yan e
  rw [zaA (yaR (yag hcl hfr))];exact (hf c hc).1
 ·intro X hP hw hK hc i pins s σ H E I hf st hg;subst hP hw hK;obtain ⟨hi, hqa⟩ := hg;obtain ⟨he, h1⟩ := st;obtain ⟨ia, ra, pa, za⟩ := I.tuple hqa;have la := ra.length;have W := WalksT.enumerateD (prog := X.prog) (w := X.w) (A := X.A) (Draws.tuple (A := X.A.in1) (I.ok.hd hc) it a hai ia.toArray) e hei (fun z => (yaD.mp z).elim (fun q => hei q) (fun q => hae (yax.mp q).symm)) (8:);have hi' : i = ia.toArray.size := by simpa [<- la] using hi
  refine W.done s _ _ (hi' ▸ ⟨he,h1,(show s.heap.IsTuple a ia.toArray from pa)⟩) λ h' tk hk=>⟨rfl,I.turnL (ch:=[e,it]) (λ c hc=>hf c hc) hk⟩
 ·rintro A i s Q E ⟨⟨old,he⟩,_⟩ h;exact wpAny_pyIter_enum he h
noncomputable def zsi (K:PySem.W.Frag) (ta:TA):TI:=λ σ H R=>ta σ H λ vs H1=>∃ a xs,vs=[.ref a] /\ ((SqL K H1 a xs /\ R (IteL K a xs) H1) \/ (SqT K H1 a xs /\ R (IteT K a xs) H1))
def zaZ {X:Cx} {K:PySem.W.Frag} {elts:List Expr} {kk:Nat} {tpos:Pos} {a:Expr} {ta:TA} {p pos:Pos} (hm:X.mg "enumerate"=none) (ha:PA X [a] ta) (hg:Gl X "enumerate":=by rfl) (hs:starEach [a] X.env=[(false,eval a X.env)]:=by rfl) (hK:X.K=K:=by rfl) :
  PI X (.Tuple elts kk tpos) (.Call (.Name "enumerate" p) [a] [] pos) (zsi K ta):=by
 subst hK;intro pins s σ H R I h;refine Call_ (zcH I hg hm boot_enumerate (yaL (thn (ha pos pins s σ H _ I h) λ us s1 ⟨vs,H1,I1,r1,q1⟩=>?_) hs rfl));obtain ⟨a,xs,e,q⟩:=q1;subst e;cases r1 with
 | cons r rr=>
  cases rr;cases r
  have fpo:∀ c ∈ [s1.heap.objs.size + 1,s1.heap.objs.size],FpOk X pins H1 c:=λ c hc=>by
   have hc':s1.heap.objs.size <= c:=by
    simp only [yaD,yaV,or_false] at hc;show @LE.le Nat _ s1.heap.objs.size c;rcases hc with z | z <;> (have z':@Eq Nat c _:=z; omega)
   exact I1.fpOk hc' (I1.hok.fresh hc')
  rcases q with ⟨hqa,q⟩ | ⟨hqa,q⟩
  ·obtain ⟨ia, ra, pa, za⟩ := I1.list hqa;have al : @LT.lt Nat _ a s1.heap.objs.size := by obtain ⟨o, n, e, _⟩ := pa; exact yan e
   refine call_enumerate_list pa.isList λ h' he h1 hsz hk=>?_;have I2:Inv X pins σ H1 { s1 with heap:=h' }:=I1.kept (t':=s1.toks) hk;refine wpAny_pyIter_enum he ?_;exact ⟨s1.heap.objs.size + 1,[s1.heap.objs.size + 1,s1.heap.objs.size],_,_,H1,rfl,I2,zm4 a _ _ (71:) (71:) (71:) xs,⟨⟨_,he⟩,h1⟩,fpo,q⟩
  ·obtain ⟨ia, ra, pa, za⟩ := I1.tuple hqa;have al : @LT.lt Nat _ a s1.heap.objs.size := by obtain ⟨o, e, _⟩ := pa; exact yan e
   refine zd7 (show s1.heap.IsTuple a ia.toArray from pa) λ h' he h1 hsz hk=>?_;have I2:Inv X pins σ H1 { s1 with heap:=h' }:=I1.kept (t':=s1.toks) hk;refine wpAny_pyIter_enum he ?_;exact ⟨s1.heap.objs.size + 1,[s1.heap.objs.size + 1,s1.heap.objs.size],_,_,H1,rfl,I2,zmC a _ _ (71:) (71:) (71:) xs,⟨⟨_,he⟩,h1⟩,fpo,q⟩
def zst {σ:St} {H:Hp} {K:PySem.W.Frag} {t:TA} {R:It -> Hp -> Prop} (h:t σ H λ vs H1=>∃ a xs,vs=[.ref a] /\ ((SqL K H1 a xs /\ R (IteL K a xs) H1) \/ (SqT K H1 a xs /\ R (IteT K a xs) H1))):zsi K t σ H R:=h
end L2
namespace PySem
section
variable {prog:Program} {w:World} {A:Around} {E:Value -> Shared -> Prop} {s:Shared}
end
end PySem
namespace L2
open PySem PySem.Spec PyProof.Rows
def zh8 {K:PySem.W.Frag} {a:Addr} {xs:List V} {src:List (Option Nat)} {σ:St} {g:TG} {tc:TT} {te:TE} {Q:VK} {H:Hp} (Pv:Nat -> List V -> Hp -> Prop) (h0:Pv 0 [] H) (len:∀ i acc H,Pv i acc H -> acc.length <= sizeLine)
  (hl:∀ i acc H,Pv i acc H -> SqL K H a xs)
  (step:∀ i u T acc H,xs[i]?=some u -> H T=none -> Pv i acc H -> g (.ref T) (capt src σ) (upd H T (.tup [.int (i:Int),u])) λ σ2 H2=>Ext (capt src σ) σ2 /\ tc σ2 H2 λ b H3=>if b=true then te σ2 H3 (λ y H4=>Pv (i + 1) (acc ++ [y]) H4) else Pv (i + 1) acc H3)
  (done:∀ acc H,Pv xs.length acc H -> ∀ p,H p=none -> Q (.ref p) (upd H p (.lst acc))):zdc (IteL K a xs) src σ g tc te Q H:=by
 refine ⟨λ i m acc H=>m=xs.length - i /\ i <= xs.length /\ Pv i acc H,⟨xs.length,by simp,ybA _,h0⟩,?_⟩;rintro i m acc H ⟨rfl,hi,p⟩;refine ⟨len i acc H p,?_⟩;by_cases hlt:i < xs.length
 ·refine .inr ⟨⟨hlt,hl i acc H p⟩,λ y H4=>Pv (i + 1) (acc ++ [y]) H4,λ H3=>Pv (i + 1) acc H3,λ y H4 q=>⟨xs.length - (i + 1),by omega,rfl,hlt,q⟩,λ H3 q=>⟨xs.length - (i + 1),by omega,rfl,hlt,q⟩,λ x H' y=>?_⟩;obtain ⟨T,u,rfl,hT,rfl,hu⟩:=y;exact step i u T acc H hu hT p
 ·have e : i = xs.length := by omega
  subst e;exact .inl ⟨⟨rfl,hl _ acc H p⟩,done acc H p⟩
def zjT {K:PySem.W.Frag} {a:Addr} {xs:List V} {src:List (Option Nat)} {σ:St} {g:TG} {tc:TT} {te:TE} {Q:VK} {H:Hp} (hA:SqT K H a xs)
  (h:zdc (Itt K a) src σ g tc te Q H):∃ b,V.ref a=.ref b /\ (((∃ xs,SqL K H b xs) /\ zdc (Itl K b) src σ g tc te Q H) \/ ((∃ xs,SqT K H b xs) /\ zdc (Itt K b) src σ g tc te Q H)):=⟨a,rfl,.inr ⟨⟨xs,hA⟩,h⟩⟩
end L2
namespace PySem
open Sem (wp)
open Builtin
def zfs:fillsNumberSlot (.type "tuple") "mul"=pure false:=
 fillsNumberSlot_seq (id:="tuple.__mul__") (r:=some (.builtin "tuple.__rmul__")) ycJ.lookup (25:) F.slot_tuple_rmul.lookup (25:)
def zio:seqRepeat? (.type "tuple")=pure (some (.builtin "tuple.__mul__")):=by
 unfold seqRepeat?;rw [seqSlot_of (T:="tuple") (name:="__mul__") (id:="tuple.__mul__") ycJ.lookup (25:),seqSlot_of (T:="tuple") (name:="__rmul__") (id:="tuple.__rmul__") F.slot_tuple_rmul.lookup (25:)];rfl
def zgl (a:Int) (t:Tok) (l:Addr) (items:Array Value) (n:Nat) {dd} {sl} :
  Meets (Builtin.«int.__rmul__» ⟨[.int a t,.ref l],[]⟩) (λ _ R s=>s.heap.get? l=some { cls:=.type "tuple",dict:=dd,data:=.seq items n,slots:=sl } /\ R (.ok (.ret Value.notImplemented)) s):=
 .of_wp λ prog w A R s h=>by obtain ⟨hp,g,d,tk,os⟩:=s; obtain ⟨hl,h⟩:=h; wp_walk; exact ⟨_,rfl,h⟩
def zkT (l:Addr) (items:Array Value) (n:Nat) (x:Int) (u:Tok) {dd} {sl} (h0:items.isEmpty=false) (h1:1 < x) (h2:x < 2 ^ 63) (hz:items.size * x.toNat <= sizeLine) :
  Meets (Builtin.«tuple.__mul__» ⟨[.ref l,.int x u],[]⟩) (λ _ R s=>s.heap.get? l=some { cls:=.type "tuple",dict:=dd,data:=.seq items n,slots:=sl } /\ R (.ok (.ret (Value.ref s.heap.objs.size))) { s with heap:=s.heap.push { cls:=Value.type "tuple",data:=Data.seq (List.foldl (λ x1 x2=>x1 ++ x2) #[] (List.replicate x.toNat items)) },toks:=s.toks }):=
 .of_wp λ prog w A R s h=>by
  obtain ⟨hp,g,d,tk,os⟩:=s; obtain ⟨hl,h⟩:=h
  have hm:(items.size:Int) * x=((items.size * x.toNat:Nat):Int):=by
   rw [Int.natCast_mul,ybP (1:)]
  have hcap:(sizeLine:Nat) <= (2 ^ 63 - 1) / 8:=by decide
  have hc0:¬(decide (x < -2 ^ 63) || decide (x >= 2 ^ 63))=true:=by
   rw [decide_eq_false (1:),decide_eq_false (1:)]; decide
  have hc1:¬(items.isEmpty || x == 1)=true:=by
   rw [h0,beq_eq_false_iff_ne.mpr (1:)]; decide
  have hc2:¬(decide (x <= 0) || items.isEmpty)=true:=by
   rw [h0,decide_eq_false (1:)]; decide
  have hc3:¬ (items.size:Int) * x > (2 ^ 63 - 1) / 8:=by
   rw [hm]; omega
  have hc4:¬ Builtin.Tuple.tupleTooMany ((items.size:Int) * x)=true:=by
   rw [hm];unfold Builtin.Tuple.tupleTooMany;rw [decide_eq_false (1:)];decide
  wp_walk
  rw [if_neg hc0]
  wp_walk using wpAny_loadPart' hl
  rw [if_neg hc1]
  wp_walk
  rw [if_neg hc2]
  wp_walk
  rw [if_neg hc3]
  wp_walk
  rw [if_neg hc4]
  wp_walk
  rw [if_neg (by
   have e:=Nat.mul_comm items.size x.toNat;rw [AutoListH.size_joined]; simp only [Array.size_empty]; omega)]
  wp_walk
  exact ⟨_,rfl,h⟩
def zkO (l:Addr) (items:Array Value) (n:Nat) (u:Tok) {dd} {sl} :
  Meets (Builtin.«tuple.__mul__» ⟨[.ref l,.int 1 u],[]⟩) (λ _ R s=>s.heap.get? l=some { cls:=.type "tuple",dict:=dd,data:=.seq items n,slots:=sl } /\ R (.ok (.ret (Value.ref l))) s):=
 .of_wp λ prog w A R s h=>by
  obtain ⟨hp,g,d,tk,os⟩:=s; obtain ⟨hl,h⟩:=h
  wp_walk
  exact ⟨_,rfl,h⟩
end PySem
namespace L2
open PySem PySem.Spec PyProof.Rows
section
variable {X:Cx}
noncomputable def zsJ (K:PySem.W.Frag):R2:=λ x y H Q=>∃ a k xs,x=.ref a /\ y=.int k /\ SqT K H a xs /\ 1 <= k /\ k < 2 ^ 63 /\ xs ≠ [] /\ xs.length * k.toNat <= sizeLine /\
 (k=1 -> Q (.ref a) H) /\ (k ≠ 1 -> ∀ p,H p=none -> Q (.ref p) (upd H p (.tup (List.replicate k.toNat xs).flatten)))
def zra:OpR X (binaryOp .Mult) (zsJ X.K):=by
 intro pins s σ H x y v u Q I rx ry h;obtain ⟨a,k,xs,rfl,rfl,ha,h1,h2,hx,hz,q1,q2⟩:=h;cases rx;obtain ⟨t,rfl⟩:=ry;obtain ⟨its,r,p1,_⟩:=I.tuple ha;obtain ⟨⟨cls,dd,data,sl⟩,ho,hc,n,hd⟩:=id p1;simp only at hc hd;subst hc hd
 refine wpAny_binaryOp_repeat_ref (T:="tuple") (U:="int") (3:) ⟨_,ho,rfl⟩ (λ s'=>typeIs_int s' k t) zfs F.fills_int_mul ycT zio F.slot_int_index.lookup
  (call_meets ycT (typeIs_int s k t) F.entry_int_rmul (F.args_int_rmul_2 _ _) (zgl k t a its.toArray n) ⟨ho,rfl,⟨_,ho,rfl⟩,?_⟩)
 by_cases e:k=1
 ·subst e;exact call_meets ycJ ⟨_,ho,rfl⟩ F.entry_tuple_mul (F.args_tuple_mul_2 _ _) (zkO a its.toArray n t) ⟨ho,.ref a,H,I,rfl,q1 rfl⟩
 ·refine call_meets ycJ ⟨_, ho, rfl⟩ F.entry_tuple_mul (F.args_tuple_mul_2 _ _) (zkT a its.toArray n k t ?_ (1:) h2 (by rw [yas, <- r.length]; exact hz)) ⟨ho, ?_⟩
  ·cases its with
   | nil=>exact absurd (r.nil_iff.mp rfl) hx
   | cons _ _=>rfl
  ·have f0:List.foldl (λ x1 x2=>x1 ++ x2) #[] (List.replicate k.toNat its.toArray)=(List.replicate k.toNat its).flatten.toArray:=by
    have:=zgw its k.toNat [];rw [List.nil_append] at this;exact this
   rw [f0];refine ⟨.ref s.heap.objs.size,_,I.laid (t':=s.toks) (o:=.tup (List.replicate k.toNat xs).flatten) (λ b ob q=>yam _ q) (yaj _) ?_,rfl,q2 e _ (I.hok.fresh (yaj _))⟩;exact ⟨by rw [znQ,Nat.mul_comm]; exact hz,_,r.rep k.toNat,zbB.new _ _⟩
noncomputable def zqP (K:PySem.W.Frag):R2:=λ x y H Q=>zrZ x y H Q \/ zsJ K x y H Q
def zht {K:PySem.W.Frag} (hK:X.K=K:=by rfl):OpR X (binaryOp .Mult) (zqP K):=hK ▸ zrn.or zra
end
def zpW {K:PySem.W.Frag} {i j:Int} {H:Hp} {Q:VK} (c:CMul i j) (h:Q (.int (i * j)) H):zqP K (.int i) (.int j) H Q:=.inl (.inl ⟨i,j,rfl,rfl,c,h⟩)
open PySem.W
section
variable {prog:Program} {w:World} {A:Around} {E:Value -> Shared -> Prop} {s:Shared} {t:Addr}
end
section
variable {X:Cx}
def zhA:∀ {ns:List Int} {us:List Value},Vals (ns.map V.int) us -> IntsAre us ns
 | [],_,.nil=>.nil
 | n :: ns,_,.cons r t=>by
  obtain ⟨k,rfl⟩:=r;exact .cons n k (zhA t)
end
end L2
namespace L2
open PySem PySem.Spec PyProof.Rows
section
variable {X:Cx} {pos:Pos}
end
def zrF {i j:Nat} {ta:TA} {D:Ends} {σ:St} {H:Hp} (h:ta σ H λ vs H1=>∃ v w,vs=[v,w] /\ D.nx ((σ.set i (some v)).set j (some w)) H1):tPar i j ta D σ H:=h
def ztd {u v:V} {P:V -> V -> Prop} (h:P u v):∃ u' v',[u,v]=[u',v'] /\ P u' v':=⟨u,v,rfl,h⟩
def zhY {K:PySem.W.Frag} {a b:Str} {H:Hp} {Q:VK} (ha:shpd (.str a)=true) (hb:shpd (.str b)=true) (h:Q (.bl (a == b)) H):rEqU K (.str a) (.str b) H Q:=⟨.str a,.str b,.str K H a,.str K H b,ha,hb,h⟩
def zsH {K:PySem.W.Frag} {a b:Str} {H:Hp} {Q:VK} (ha:shpd (.str a)=true) (hb:shpd (.str b)=true) (h:Q (.bl (!(a == b))) H):rNeU K (.str a) (.str b) H Q:=⟨.str a,.str b,.str K H a,.str K H b,ha,hb,h⟩
end L2
namespace Bm
def zhh (n k:Nat):(n / 2 ^ k) &&& 1=(n.testBit k).toNat:=by
 rw [Nat.and_one_is_mod,Nat.testBit_eq_decide_div_mod_eq];have h:n / 2 ^ k % 2 < 2:=ybl _ (3:);by_cases e:n / 2 ^ k % 2=1
 ·simp [e]
 ·have : n / 2 ^ k % 2 = 0 := by omega
  simp [this]
def zmx:∀ (a b:Nat),(a ||| b)=(a ^^^ b) + (a &&& b):=by
 intro a
 induction a using Nat.strongRecOn with
 | ind a ih=>
  intro b;by_cases h:a=0
  ·subst h; simp
  ·have i := ih (a / 2) (1:) (b / 2);have e1 := Nat.or_div_two (a := a) (b := b);have e2 := Nat.xor_div_two (a := a) (b := b);have e3 := Nat.and_div_two (a := a) (b := b)
   have m1:(a ||| b) % 2=(a ^^^ b) % 2 + (a &&& b) % 2:=by
    have ha:a % 2=0 \/ a % 2=1:=by omega
    have hb:b % 2=0 \/ b % 2=1:=by omega
    have o:=Nat.or_mod_two_pow (a:=a) (b:=b) (n:=1);have x:=Nat.xor_mod_two_pow (a:=a) (b:=b) (n:=1);have n:=Nat.and_mod_two_pow (a:=a) (b:=b) (n:=1);simp only [Nat.pow_one] at o x n;rw [o,x,n];rcases ha with ha | ha <;> rcases hb with hb | hb <;> simp [ha,hb]
   omega
noncomputable def zaI (ps:List Nat):Nat:=ps.foldl (λ m p=>m ||| 2 ^ p) 0
def zeF (k:Nat):∀ (ps:List Nat) (m:Nat),(ps.foldl (λ m p=>m ||| 2 ^ p) m).testBit k=(m.testBit k || decide (k ∈ ps))
 | [],m=>by simp
 | p :: ps,m=>by
  rw [ycS,zeF k ps,ybf,ycc];by_cases h:p=k
  ·subst h; simp
  ·have h':¬ k=p:=λ e=>h e.symm;simp [h,h']
def zau (ps:List Nat) (k:Nat):(zaI ps).testBit k=decide (k ∈ ps):=by
 unfold zaI;rw [zeF];simp
def zmT (ps:List Nat) (p:Nat):zaI (ps ++ [p])=zaI ps ||| 2 ^ p:=by
 simp [zaI,ya7]
noncomputable def zgP (l:List Bool):Nat:=l.foldr (λ b acc=>2 * acc + b.toNat) 0
def zhM (b:Bool) (l:List Bool):zgP (b :: l)=2 * zgP l + b.toNat:=rfl
def zbC:∀ (l:List Bool) (k:Nat),(zgP l).testBit k=l[k]?.getD false
 | [],k=>by simp [zgP]
 | b :: l,0=>by
  rw [zhM,Nat.testBit_zero];cases b <;> simp <;> omega
 | b :: l,k + 1=>by
  rw [zhM,Nat.testBit_succ];have:(2 * zgP l + b.toNat) / 2=zgP l:=by cases b <;> simp <;> omega
  rw [this,zbC l k];simp
noncomputable def bitsB (n w:Nat):List Bool:=(List.range w).map n.testBit
def zlc {n w:Nat} (h:n < 2 ^ w):zgP (bitsB n w)=n:=by
 apply ybc;intro k;rw [zbC];unfold bitsB;by_cases hk:k < w
 ·simp [hk]
 ·have:n.testBit k=false:=ybT (yag h (yaG (3:) (1:)));simp [hk,this]
noncomputable def zaz (n:Nat):Nat:=if n=0 then 0 else n.log2 + 1
def zgF (n:Nat):n < 2 ^ zaz n:=by
 unfold zaz
 split
 ·rename_i h; subst h; decide
 ·exact Nat.lt_log2_self
def zgY {n w:Nat} (h:n < 2 ^ w):zaz n <= w:=by
 unfold zaz
 split
 ·exact ybA _
 ·rename_i h0;exact (Nat.log2_lt h0).mpr h
def ze6 {n k:Nat} (h:zaz n <= k):n.testBit k=false:=
 ybT (yag (zgF n) (yaG (3:) h))
noncomputable def zac (n:Nat):List Nat:=(List.range (zaz n)).filter n.testBit
def zdo {p:Nat -> Bool} {a b:Nat} (h:a <= b) (hp:∀ i,a <= i -> p i=false):(List.range b).filter p=(List.range a).filter p:=by
  induction b with
  | zero => have : a = 0 := by omega
            subst this; rfl
  | succ b ih=>
    by_cases e:a=b + 1
    · subst e; rfl
    · rw [yar,yap,ih (1:)];simp [hp b (1:)]
def zb2 {n w:Nat} (h:n < 2 ^ w):zac n=(List.range w).filter n.testBit:=by
 unfold zac;exact (zdo (zgY h) λ i hi=>ze6 hi).symm
def za7 {n k:Nat}:k ∈ zac n ↔ n.testBit k=true:=by
 unfold zac;rw [yaq,yai];constructor
 ·exact λ h=>h.2
 ·intro h;refine ⟨?_, h⟩;by_cases hk : k < zaz n
  ·exact hk
  ·rw [ze6 (1:)] at h; cases h
def zie (n:Nat):zaI (zac n)=n:=by
 apply ybc;intro k;rw [zau];by_cases h:n.testBit k=true
 ·simp [za7,h]
 ·have : n.testBit k = false := by simpa using h
  simp [za7,this]
end Bm
namespace L2
open PySem PySem.Spec PyProof.Rows Bm
noncomputable abbrev nV (n:Nat):V:=V.int (n:Int)
noncomputable def SqA (K:PySem.W.Frag) (H:Hp) (a:Addr) (xs:List V):Prop:=SqL K H a xs \/ SqT K H a xs
def zaQ (a b:Nat):Builtin.bitAnd (a:Int) (b:Int)=((a &&& b:Nat):Int):=by
 simp [Builtin.bitAnd]
def zhS (a:Nat):Builtin.bitNot (a:Int)=-((a:Int) + 1):=by
 simp [Builtin.bitNot]; omega
def zbA (a b:Nat):Builtin.bitOr (a:Int) (b:Int)=((a ||| b:Nat):Int):=by
 have h1:decide (0 <= Builtin.bitNot (a:Int))=false:=by rw [zhS]; apply decide_eq_false; omega
 have h2:decide (0 <= Builtin.bitNot (b:Int))=false:=by rw [zhS]; apply decide_eq_false; omega
 have n1:(Builtin.bitNot (Builtin.bitNot (a:Int))).toNat=a:=by simp [Builtin.bitNot]; omega
 have n2:(Builtin.bitNot (Builtin.bitNot (b:Int))).toNat=b:=by simp [Builtin.bitNot]; omega
 unfold Builtin.bitOr Builtin.bitAnd;rw [h1,h2];dsimp only;rw [n1,n2];simp [Builtin.bitNot];omega
def zb6 (a b:Nat):Builtin.bitXor (a:Int) (b:Int)=((a ^^^ b:Nat):Int):=by
 unfold Builtin.bitXor;rw [zbA,zaQ];have h:=zmx a b;omega
def zg7 (n:Nat):Builtin.Int.intBits (n:Int)=zaz n:=by
 unfold Builtin.Int.intBits zaz;by_cases h:n=0
 ·subst h; rfl
 ·have:((n:Int) == 0)=false:=by
   apply beq_eq_false_iff_ne.mpr;omega
  rw [this,if_neg h];simp
def modN {n:Nat} (x:Int) (h:0 < n):∃ r:Nat,r < n /\ x % (n:Int)=(r:Int):=by
 have h1:=Int.emod_nonneg x (show (n:Int) ≠ 0 by omega);have h2:=Int.emod_lt_of_pos x (show (0:Int) < n by omega);exact ⟨(x % (n:Int)).toNat,by omega,by omega⟩
def zaB {α β:Type} {f:α -> β} {xs:List α} {i:Nat} {y:β} (h:(xs.map f)[i]?=some y):∃ x,xs[i]?=some x /\ y=f x:=by
 rw [yaf] at h;cases e:xs[i]? with
 | none=>rw [e] at h; cases h
 | some x=>rw [e] at h; cases h; exact ⟨x,rfl,rfl⟩
def zoY (n k:Nat):Builtin.bitAnd ((n:Int) / 2 ^ ((k:Int)).toNat) 1=((n.testBit k).toNat:Int):=by
 rw [yak];have e:((n:Int) / 2 ^ k)=((n / 2 ^ k:Nat):Int):=by simp
 rw [e];have:=zaQ (n / 2 ^ k) 1;rw [zhh] at this;exact this
def zo4 (n:Nat):(1:Int) * 2 ^ ((n:Int)).toNat - 1=((2 ^ n - 1:Nat):Int):=by
 rw [yak];have h:1 <= 2 ^ n:=ycY;rw [Int.natCast_sub h];simp
def zsa (m y:Nat):Builtin.bitOr (m:Int) ((1:Int) * 2 ^ ((y:Int)).toNat)=((m ||| 2 ^ y:Nat):Int):=by
 rw [yak];have e:(1:Int) * 2 ^ y=((2 ^ y:Nat):Int):=by simp
 rw [e,zbA]
def ztv (ns:List Int):∃ ms:List Int,cutV (ns.map V.int) none (some 63)=ms.map V.int /\ ms.length <= 63:=by
 refine ⟨(ns.drop (HT.sIx (ns.map V.int).length 0 none)).take (HT.sIx (ns.map V.int).length (ns.map V.int).length (some 63) - HT.sIx (ns.map V.int).length 0 none),?_,?_⟩
 ·unfold cutV;rw [List.map_take,List.map_drop]
 ·rw [yaZ];have h:HT.sIx (ns.map V.int).length (ns.map V.int).length (some 63)=min 63 (ns.map V.int).length:=HT.sIx_nat _ _ 63;rw [h];omega
def zqW (z:Int):(if z < 0 then -z else z)=(z.natAbs:Int):=by
 split <;> omega
def zhE:∀ ps:List Nat,(ps.map nV).all zbZ=true
 | []=>rfl
 | _ :: r=>by rw [ybv,yc2,zhE r]; rfl
noncomputable def zo5:Sp:=λ vs H Q _=>∃ n k:Nat,vs=[nV n,nV k] /\ Q (nV (n.testBit k).toNat) H
noncomputable def zlL:Sp:=λ vs H Q _=>∃ n:Nat,vs=[nV n] /\ n < 2 ^ 64 /\ ∀ p H',H p=none -> Same H H' -> H' p=some (.lst ((zac n).map nV)) -> Q (.ref p) H'
noncomputable def zlj (K:PySem.W.Frag):Sp:=λ vs H Q _=>∃ (a:Addr) (ps:List Nat),vs=[.ref a] /\ SqA K H a (ps.map nV) /\ (∀ p ∈ ps,p < 64) /\ Q (nV (zaI ps)) H
noncomputable def zpm:Sp:=λ vs H Q _=>∃ n:Nat,vs=[nV n] /\ n <= 64 /\ Q (nV (2 ^ n - 1)) H
noncomputable def zma:Sp:=λ vs H Q _=>∃ n:Nat,vs=[nV n] /\ n < 2 ^ 64 /\ ∀ H',Same H H' -> Q (nV (zac n).length) H'
noncomputable def Hand (H:Hp) (p:Addr):Prop:=∃ (q:Addr) (cells:List Nat) (a b c:Nat),H p=some (.lst [.ref q,nV a,nV b,nV c]) /\ H q=some (.lst (cells.map nV)) /\ cells.length <= 63
def Hand.of {H:Hp} {p q:Addr} {cells:List Nat} {a b c:Nat} (h1:H p=some (.lst [.ref q,nV a,nV b,nV c])) (h2:H q=some (.lst (cells.map nV))) (h3:cells.length <= 63):Hand H p:=⟨q,cells,a,b,c,h1,h2,h3⟩
def Hand.same {H H':Hp} {p:Addr} (h:Hand H p) (s:Same H H'):Hand H' p:=by
 obtain ⟨q,cells,a,b,c,h1,h2,h3⟩:=h;exact ⟨q,cells,a,b,c,s _ _ h1,s _ _ h2,h3⟩
noncomputable def zqc (K:PySem.W.Frag):Sp:=λ vs H Q _=>∃ (a:Addr) (ns:List Int),vs=[.ref a] /\ SqL K H a (ns.map V.int) /\ ∀ p H',H p=none -> Same H H' -> Hand H' p -> Q (.ref p) H'
noncomputable def zqr:Sp:=λ vs H Q _=>∃ (p:Addr) (n:Nat),vs=[.ref p,nV n] /\ Hand H p /\ 0 < n /\ n < 1073741824 /\ ∀ (r:Nat) (H':Hp),r < n -> But p H H' -> Hand H' p -> Q (nV r) H'
noncomputable def zqp:Sp:=λ vs H Q _=>∃ (p:Addr) (w:Nat),vs=[.ref p,nV w] /\ Hand H p /\ 1 <= w /\ w <= 64 /\ ∀ (r:Nat) (H':Hp),r < 2 ^ w -> But p H H' -> Hand H' p -> Q (nV r) H'
noncomputable def zom:Sp:=λ vs H Q _=>∃ i j:Int,vs=[.int i,.int j] /\ Q (.bl (i == j)) H
noncomputable def zpJ (K:PySem.W.Frag):Sp:=λ vs H Q _=>∃ (a:Addr) (ns:List Int),vs=[.ref a] /\ SqL K H a (ns.map V.int) /\ ns.length <= 63 /\ ∀ H',Q (.bl true) H'
noncomputable def Ld (w:Nat) (ls:List Int):Prop:=ls.length=w /\ ∀ e ∈ ls,-2 <= e /\ e < (w:Int)
noncomputable def zaE (w:Nat):List Int:=(List.range w).map λ (x:Nat)=>(x:Int)
noncomputable def zax (ls ms:List Int):List Int:=ms.map λ e=>if 0 <= e then ls.getD e.toNat 0 else e
noncomputable def bitL (n:Nat) (e:Int):Bool:=if e=-2 then true else if 0 <= e then n.testBit e.toNat else false
noncomputable def ledN (ls:List Int) (n:Nat):Nat:=zgP (ls.map (bitL n))
def zlP (w:Nat):((List.range w).map λ (x:Nat)=>V.int (x:Int))=(zaE w).map V.int:=by
 unfold zaE;rw [yaX];rfl
def zdy (w:Nat):Ld w (zaE w):=by
 refine ⟨by simp [zaE],λ e he=>?_⟩;simp only [zaE,yau,yai] at he;obtain ⟨x,hx,rfl⟩:=he;omega
def zbv {w:Nat} {ls ms:List Int} (h1:Ld w ls) (h2:Ld w ms):Ld w (zax ls ms):=by
 refine ⟨by rw [zax,yaa]; exact h2.1,λ e he=>?_⟩;simp only [zax,yau] at he;obtain ⟨x,hx,rfl⟩:=he;have q:=h2.2 x hx
 split
 ·rename_i h0;have hl : x.toNat < ls.length := by rw [h1.1]; omega
  rw [yab,yac hl];exact h1.2 _ (ybp hl)
 ·exact q
noncomputable def zjw:Sp:=λ vs H Q _=>∃ w:Nat,vs=[nV w] /\ w <= 64 /\ ∀ t H',Same H H' -> H' t=some (.tup ((zaE w).map V.int)) -> Q (.ref t) H'
noncomputable def zqo:Sp:=λ vs H Q _=>∃ (a b:Addr) (ls ms:List Int) (w:Nat),vs=[.ref a,.ref b] /\ H a=some (.tup (ls.map V.int)) /\ H b=some (.tup (ms.map V.int)) /\ Ld w ls /\ Ld w ms /\ w <= 64 /\
 ∀ t H',Same H H' -> H' t=some (.tup ((zax ls ms).map V.int)) -> Q (.ref t) H'
noncomputable def zlt:Sp:=λ vs H Q _=>∃ i lo hi:Int,vs=[.int i,.int lo,.int hi] /\ Q (.bl (decide (lo <= i) && decide (i <= hi))) H
def zbI {w:Nat} {ls:List Int} (h:Ld w ls):zax (zaE w) ls=ls:=by
 have:∀ e ∈ ls,(if 0 <= e then (zaE w).getD e.toNat 0 else e)=e:=λ e he=>by
  have q:=h.2 e he;by_cases z:0 <= e
  ·rw [if_pos z,yab,zaE,yaf,yay (1:)];simp;omega
  ·rw [if_neg z]
 rw [zax,yaM this,List.map_id']
def zfH {w:Nat} {ls:List Int} (h:Ld w ls):zax ls (zaE w)=ls:=by
 apply ybt;intro i;rw [zax,zaE,yaX,yaf];by_cases hi:i < w
 ·rw [yay hi];have hl : i < ls.length := by rw [h.1]; exact hi
  simp [yac hl]
 ·rw [yaK (by rw [yah]; omega),yaK (by rw [h.1]; omega)];rfl
def zbK {w:Nat} {ls ms:List Int} (h:Ld w ms) {i:Nat} (hi:i < w):(zax ls ms).getD i 0=(if 0 <= ms.getD i 0 then ls.getD (ms.getD i 0).toNat 0 else ms.getD i 0):=by
 have hl:i < ms.length:=by rw [h.1]; exact hi
 rw [yab,zax,yaf,yab,yac hl];rfl
def zcJ {w:Nat} {a b c:List Int} (hb:Ld w b) (hc:Ld w c):zax (zax a b) c=zax a (zax b c):=by
 rw [show zax a (zax b c)=(c.map λ e=>if 0 <= e then b.getD e.toNat 0 else e).map λ e=>if 0 <= e then a.getD e.toNat 0 else e from rfl,yaX];rw [show zax (zax a b) c=c.map λ e=>if 0 <= e then (zax a b).getD e.toNat 0 else e from rfl];apply yaM;intro e he;have q:=hc.2 e he;by_cases z:0 <= e
 ·show _=(if 0 <= (if 0 <= e then b.getD e.toNat 0 else e) then a.getD (if 0 <= e then b.getD e.toNat 0 else e).toNat 0 else (if 0 <= e then b.getD e.toNat 0 else e));rw [if_pos z,if_pos z,zbK hb (1:)]
 ·show _=(if 0 <= (if 0 <= e then b.getD e.toNat 0 else e) then a.getD (if 0 <= e then b.getD e.toNat 0 else e).toNat 0 else (if 0 <= e then b.getD e.toNat 0 else e));rw [if_neg z,if_neg z,if_neg z]
def znX (ls:List Int) (n i:Nat) (hi:i < ls.length):(ledN ls n).testBit i=bitL n (ls.getD i 0):=by
 rw [ledN,zbC,yaf,yab,yac hi];rfl
def zpo {w:Nat} {ls ms:List Int} (h1:Ld w ls) (h2:Ld w ms) (n:Nat):ledN (zax ls ms) n=ledN ms (ledN ls n):=by
 rw [show ledN (zax ls ms) n=zgP ((zax ls ms).map (bitL n)) from rfl,show ledN ms (ledN ls n)=zgP (ms.map (bitL (ledN ls n))) from rfl,zax,yaX];congr 1;apply yaM;intro e he;have q:=h2.2 e he;show bitL n (if 0 <= e then ls.getD e.toNat 0 else e)=bitL (ledN ls n) e;by_cases z:0 <= e
 ·rw [if_pos z,show bitL (ledN ls n) e=(ledN ls n).testBit e.toNat by unfold bitL; rw [if_neg (1:),if_pos z],znX _ _ _ (by rw [h1.1]; omega)]
 ·rw [if_neg z];unfold bitL;rw [if_neg z,if_neg z]
def zlo {K:PySem.W.Frag} {a b:Addr} {xs ys:List Int} {H:Hp} {Q:VK} (ha:SqT K H a (xs.map V.int)) (hb:SqT K H b (ys.map V.int)) (h:Q (.bl (!decide (xs=ys))) H):rNeU K (.ref a) (.ref b) H Q:=by
 refine ⟨.tuple (xs.map .int),.tuple (ys.map .int),DatV.tuple ha (DatVs.ints K H xs),DatV.tuple hb (DatVs.ints K H ys),zdR _,zdR _,?_⟩;rw [show PyData.eqv (.tuple (xs.map .int)) (.tuple (ys.map .int))=decide (xs=ys) by rw [PyData.eqv,zdd]];exact h
def zoF {K:PySem.W.Frag} {a b:Addr} {xs ys:List Int} {H:Hp} {Q:VK} (ha:SqT K H a (xs.map V.int)) (hb:SqT K H b (ys.map V.int)) (h:Q (.bl (decide (xs=ys))) H):rEqU K (.ref a) (.ref b) H Q:=by
 refine ⟨.tuple (xs.map .int),.tuple (ys.map .int),DatV.tuple ha (DatVs.ints K H xs),DatV.tuple hb (DatVs.ints K H ys),zdR _,zdR _,?_⟩;rw [show PyData.eqv (.tuple (xs.map .int)) (.tuple (ys.map .int))=decide (xs=ys) by rw [PyData.eqv,zdd]];exact h
def zlz {n w:Nat} (h:n < 2 ^ w):ledN (zaE w) n=n:=by
 rw [ledN,zaE,yaX,show (bitL n ∘ λ (x:Nat)=>(x:Int))=n.testBit from funext λ x=>by
  show bitL n (x:Int)=n.testBit x;unfold bitL;rw [if_neg (1:),if_pos (1:),yak]]
 exact zlc h
noncomputable def zlb (n m:Nat):Nat:=zgP ((zac m).map n.testBit)
noncomputable def zbD (n m i:Nat):List Nat:=((List.range i).filter n.testBit).map λ j=>(zac m).getD j 0
noncomputable def za3 (n m:Nat):Nat:=zaI (zbD n m (zac m).length)
noncomputable def zqm:Sp:=λ vs H Q _=>∃ n m:Nat,vs=[nV n,nV m] /\ m < 2 ^ 64 /\ ∀ H',Same H H' -> Q (nV (zlb n m)) H'
noncomputable def zn1:Sp:=λ vs H Q _=>∃ n m:Nat,vs=[nV n,nV m] /\ m < 2 ^ 64 /\ ∀ H',Same H H' -> Q (nV (za3 n m)) H'
def zay {m w:Nat} (h:m < 2 ^ w):(zac m).length <= w:=by
 rw [zb2 h];have:=yaB m.testBit (List.range w);rw [yah] at this;exact this
def zhc {m w x:Nat} (h:m < 2 ^ w) (hx:x ∈ zac m):x < w:=by
 rw [zb2 h] at hx;exact yai.mp (yaq.mp hx).1
def zaM {m w j:Nat} (h:m < 2 ^ w) (hj:j < (zac m).length):(zac m).getD j 0 < w:=by
 rw [yab,yac hj];exact zhc h (ybp hj)
def zeL {m i j:Nat} (hij:i < j) (hj:j < (zac m).length):(zac m).getD i 0 < (zac m).getD j 0:=by
 have hp:(zac m).Pairwise (· < ·):=ycN _ ybr;rw [yab,yac (Nat.lt_trans hij hj),yab,yac hj];exact ya5.mp hp i j _ _ hij
def zlT (n m:Nat):zaI ((List.range (zac m).length).filter λ j=>n.testBit ((zac m).getD j 0))=zlb n m:=by
 apply ybc;intro k;rw [zau,zlb,zbC];by_cases hk:k < (zac m).length
 ·rw [yaf, yac hk];have e : (zac m).getD k 0 = (zac m)[k] := by rw [yab, yac hk]; rfl
  cases h:n.testBit (zac m)[k] <;> simp [hk,h]
 ·rw [yaK (by rw [yaa]; omega)];simp [hk]
def mask_lt {ps:List Nat} {w:Nat} (h:∀ p ∈ ps,p < w):zaI ps < 2 ^ w:=by
 apply ybg;intro i hi;rw [zau];apply decide_eq_false;intro z;have:=h i z;omega
def zgL (n m i:Nat):zbD n m (i + 1)=zbD n m i ++ (if n.testBit i=true then [(zac m).getD i 0] else []):=by
 show ((List.range (i + 1)).filter n.testBit).map (λ j=>(zac m).getD j 0)=_;rw [yar,yap,yae];show zbD n m i ++ _=_;congr 1;cases hb:n.testBit i <;> simp [hb]
def zkn {n m x w:Nat} (h:m < 2 ^ w) (hx:x ∈ zbD n m (zac m).length):x < w:=by
 simp only [zbD,yau,yaq,yai] at hx;obtain ⟨j,⟨hj,_⟩,rfl⟩:=hx;exact zaM h hj
def zn3 (n m i:Nat):(zbD n m i).length <= i:=by
 rw [zbD,yaa];have:=yaB n.testBit (List.range i);rw [yah] at this;exact this
def lt64 {m w:Nat} (h:m < 2 ^ w) (hw:w <= 64):m < 2 ^ 64:=yag h (yaG (3:) hw)
def zd0 {m i j:Nat} (hi:i < (zac m).length) (hj:j < (zac m).length) (e:(zac m).getD i 0=(zac m).getD j 0):i=j:=by
 rcases ycy i j with h | h | h
 ·have:=zeL h hj; omega
 ·exact h
 ·have:=zeL h hi; omega
def zdw {m x:Nat}:m.testBit x=true ↔ ∃ j,j < (zac m).length /\ (zac m).getD j 0=x:=by
 rw [<- za7,ybC];constructor
 ·rintro ⟨j,hj,e⟩;exact ⟨j,hj,by rw [yab,yac hj]; exact e⟩
 ·rintro ⟨j,hj,e⟩;exact ⟨j,hj,by rw [yab,yac hj] at e; exact e⟩
def zlO (n m k:Nat):(zlb n m).testBit k=(decide (k < (zac m).length) && n.testBit ((zac m).getD k 0)):=by
 rw [<- zlT,zau];by_cases hk:k < (zac m).length
 ·cases h:n.testBit ((zac m).getD k 0) <;> simp_all
 ·simp [hk]
def zfa (n m k:Nat):(za3 n m).testBit k=true ↔ ∃ j,j < (zac m).length /\ n.testBit j=true /\ (zac m).getD j 0=k:=by
 rw [za3,zau,decide_eq_true_iff];simp only [zbD,yau,yaq,yai];constructor
 ·rintro ⟨j,⟨h1,h2⟩,e⟩; exact ⟨j,h1,h2,e⟩
 ·rintro ⟨j,h1,h2,e⟩; exact ⟨j,⟨h1,h2⟩,e⟩
def zlk (n m k:Nat) (hk:k < (zac m).length):(za3 n m).testBit ((zac m).getD k 0)=n.testBit k:=by
 apply ycU.mpr;rw [zfa];constructor
 ·rintro ⟨j,h1,h2,e⟩;rw [<- zd0 h1 hk e]; exact h2
 ·exact λ h=>⟨k,hk,h,rfl⟩
end L2
namespace L2
open PySem PySem.Spec PyProof.Rows
section
variable {X:Cx}
def znw {xs:List V} {i:Nat} {u:V} (h:xs.all zbZ=true) (e:xs[i]?=some u):zbZ u=true:=ybo.mp h u (yat e)
end
def zaG {X:Cx} {x:Str} {j pos} {es:List Expr} {t:TA} (hr:PA X es t):PA X (.Constant (.str x) j pos :: es) (zqY (tC (.str x)) t):=zaa zaS hr rfl
noncomputable def ztB (i j:Int):Prop:=0 < j /\ j < 18446744073709551616
def zd5 {X:Cx}:OpR X (binaryOp .FloorDiv) (rI ztB λ i j=>.int (i / j)):=opI λ i j _ _ _ _ _ hc q=>by
 have h1:(0:Int) < j:=hc.1;have h2:j < 18446744073709551616:=hc.2;refine floordiv_int (1:) (by rw [Int.fdiv_eq_ediv_of_nonneg i (1:)]; exact q) (.inl (PyProof.noPylong_of_log2 ?_));have h3:j.natAbs < 2 ^ 64:=by omega
 have h4:j.natAbs ≠ 0:=by omega
 have:=(Nat.log2_lt h4).mpr h3;omega
def zrl {K:PySem.W.Frag} {a b:Str} {H:Hp} {Q:VK} (e:(shpd (.str a) && shpd (.str b) && (a == b))=true) (h:Q (.bl true) H):rEqU K (.str a) (.str b) H Q:=by
 rw [yal,yal] at e;refine zhY e.1.1 e.1.2 ?_;rw [e.2];exact h
def zq6 {K:PySem.W.Frag} {a b:Str} {H:Hp} {Q:VK} (e:(shpd (.str a) && shpd (.str b) && !(a == b))=true) (h:Q (.bl false) H):rEqU K (.str a) (.str b) H Q:=by
 rw [yal,yal,ycz] at e;refine zhY e.1.1 e.1.2 ?_;rw [e.2];exact h
def ztc {K:PySem.W.Frag} {x:V} {p:Addr} {xs:List V} {H:Hp} {Q:VK} (hq:SqT K H p xs) (e:(zbZ x && xs.all zbZ && inV x xs)=true) (h:Q (.bl true) H):rIn K false x (.ref p) H Q:=by
 rw [yal,yal] at e;refine ⟨p,xs,rfl,.inr hq,e.1.1,e.1.2,?_⟩;rw [if_neg (3:),e.2];exact h
def ztt {K:PySem.W.Frag} {x:V} {p:Addr} {xs:List V} {H:Hp} {Q:VK} (hq:SqT K H p xs) (e:(zbZ x && xs.all zbZ && !inV x xs)=true) (h:Q (.bl false) H):rIn K false x (.ref p) H Q:=by
 rw [yal,yal,ycz] at e;refine ⟨p,xs,rfl,.inr hq,e.1.1,e.1.2,?_⟩;rw [if_neg (3:),e.2];exact h
def zaP {xs:List V} {H:Hp} {Q:VK} (hz:xs.length <= 100000) (h:∀ p H',H p=none -> Same H H' -> H' p=some (.lst xs) -> Q (.ref p) H'):NewL xs H Q:=⟨yaw (small5 hz),λ p hp=>h p _ hp (zak hp) zai⟩
def zaw {xs:List V} {H:Hp} {Q:VK} (hz:xs.length <= 100000) (h:∀ p H',H p=none -> Same H H' -> H' p=some (.tup xs) -> Q (.ref p) H'):NewT xs H Q:=⟨yaw (small5 hz),λ p hp=>h p _ hp (zak hp) zai⟩
def zq0 (z:Int) (ps:List Nat):inV (.int z) (ps.map λ (n:Nat)=>V.int (n:Int))=decide (0 <= z /\ z.toNat ∈ ps):=by
 induction ps with
 | nil=>simp [inV]
 | cons p r ih=>
  have e:inV (.int z) ((p :: r).map λ (n:Nat)=>V.int (n:Int))=(((p:Int) == z) || inV (.int z) (r.map λ (n:Nat)=>V.int (n:Int))):=rfl;rw [e,ih];apply ycU.mpr;simp only [Bool.or_eq_true,decide_eq_true_iff,beq_iff_eq,yaD];constructor
  ·rintro (h | ⟨h, k⟩)
   ·exact ⟨by omega,.inl (1:)⟩
   ·exact ⟨h,.inr k⟩
  ·rintro ⟨h, k | k⟩
   ·exact .inl (1:)
   ·exact .inr ⟨h,k⟩
open Bm
inductive Dd where
 | and (m:Nat) | or (m:Nat) | left (n:Nat) | right (n:Nat) | turn (n:Nat) | gather (m:Nat) | strew (m:Nat) | swap (m n:Nat) | copy (m:Nat) (n:Int)
 deriving DecidableEq
noncomputable def Dd.vals:Dd -> List V
 | .and m=>[.str "and",nV m]
 | .or m=>[.str "or",nV m]
 | .left n=>[.str "left",nV n]
 | .right n=>[.str "right",nV n]
 | .turn n=>[.str "turn",nV n]
 | .gather m=>[.str "gather",nV m]
 | .strew m=>[.str "strew",nV m]
 | .swap m n=>[.str "swap",nV m,nV n]
 | .copy m n=>[.str "copy",nV m,.int n]
noncomputable def inM (m:Nat) (z:Int):Bool:=decide (0 <= z) && m.testBit z.toNat
noncomputable def Dd.ok (w:Nat):Dd -> Prop
 | .and m=>m < 2 ^ w
 | .or m=>m < 2 ^ w
 | .left n=>n <= w
 | .right n=>n <= w
 | .turn n=>n < w
 | .gather m=>m < 2 ^ w
 | .strew m=>m < 2 ^ w
 | .swap m n=>1 <= n /\ n < w /\ ∀ p,m.testBit p=true -> p + n < w /\ m.testBit (p + n)=false
 | .copy m n=>n ≠ 0 /\ -(w:Int) < n /\ n < w /\ m < 2 ^ w /\ ∀ p,m.testBit p=true -> 0 <= (p:Int) + n /\ (p:Int) + n < w
noncomputable def zhe (x:Nat) (n:Int):Nat:=if 0 <= n then x * 2 ^ n.toNat else x / 2 ^ (-n).toNat
noncomputable def znG (x m n:Nat):Nat:=(x ^^^ ((x ^^^ (x / 2 ^ n)) &&& m)) ^^^ (((x ^^^ (x / 2 ^ n)) &&& m) * 2 ^ n)
noncomputable def zpi (x m:Nat) (n:Int):Nat:=(x ^^^ (x &&& zhe m n)) ||| zhe (x &&& m) n
noncomputable def zps (w x n:Nat):Nat:=((x * 2 ^ n) &&& (2 ^ w - 1)) ||| (x / 2 ^ (w - n))
noncomputable def Dd.doneN (w:Nat) (x:Nat):Dd -> Nat
 | .and m=>x &&& m
 | .or m=>x ||| m
 | .left n=>(x * 2 ^ n) &&& (2 ^ w - 1)
 | .right n=>x / 2 ^ n
 | .turn n=>zps w x n
 | .gather m=>zlb x m
 | .strew m=>za3 x m
 | .swap m n=>znG x m n
 | .copy m n=>zpi x m n
noncomputable def Dd.src (w:Nat) (p:Nat):Dd -> Int
 | .and m=>if m.testBit p then (p:Int) else -1
 | .or m=>if m.testBit p then -2 else (p:Int)
 | .left n=>if n <= p then (p:Int) - n else -1
 | .right n=>if p + n < w then (p:Int) + n else -1
 | .turn n=>if n <= p then (p:Int) - n else (p:Int) - n + w
 | .gather m=>if p < (zac m).length then ((zac m).getD p 0:Int) else -1
 | .strew m=>if m.testBit p then ((zac m).idxOf p:Int) else -1
 | .swap m n=>if inM m ((p:Int) - n) then (p:Int) - n else if m.testBit p then (p:Int) + n else p
 | .copy m n=>if inM m ((p:Int) - n) then (p:Int) - n else p
noncomputable def Dd.led (w:Nat) (d:Dd):List Int:=(List.range w).map λ p=>d.src w p
def ziX (m k:Nat):inM m (k:Int)=m.testBit k:=by
 unfold inM; simp
def ze3 (x:Nat) (n:Int) (i:Nat):(zhe x n).testBit i=inM x ((i:Int) - n):=by
 unfold zhe inM;by_cases h:0 <= n
 ·rw [if_pos h, ya9];by_cases k : n.toNat <= i
  ·rw [decide_eq_true k,decide_eq_true (show 0 <= (i:Int) - n by omega),show ((i:Int) - n).toNat=i - n.toNat by omega]
  ·rw [decide_eq_false k,decide_eq_false (show ¬ 0 <= (i:Int) - n by omega)]; rfl
 ·rw [if_neg h,yba,decide_eq_true (show 0 <= (i:Int) - n by omega),show ((i:Int) - n).toNat=i + (-n).toNat by omega];simp
def zdh {x w i:Nat} (h:x < 2 ^ w) (hi:w <= i):x.testBit i=false:=ybT (yag h (yaG (3:) hi))
def zaO {m p:Nat} (h:m.testBit p=true):(zac m).idxOf p < (zac m).length /\ (zac m).getD ((zac m).idxOf p) 0=p:=by
 have hm:p ∈ zac m:=za7.mpr h;have hl:=List.idxOf_lt_length_iff.mpr hm;refine ⟨hl,?_⟩;rw [yab,yac hl];exact ycZ hl
def zd1 (x k:Nat):bitL x (k:Int)=x.testBit k:=by
 unfold bitL;rw [if_neg (1:),if_pos (1:),yak]
def zcX {x:Nat} {z:Int} (h:0 <= z):bitL x z=x.testBit z.toNat:=by
 unfold bitL;rw [if_neg (1:),if_pos h]
def Dd.src_ld {w:Nat} {d:Dd} (h:d.ok w) {p:Nat} (hp:p < w):-2 <= d.src w p /\ d.src w p < (w:Int):=by
 cases d with
 | and m=>simp only [Dd.src]; split <;> omega
 | or m=>simp only [Dd.src]; split <;> omega
 | left n=>simp only [Dd.src]; split <;> omega
 | right n=>simp only [Dd.src]; split <;> omega
 | turn n=>simp only [Dd.src,Dd.ok] at h ⊢; split <;> omega
 | gather m=>
  simp only [Dd.src,Dd.ok] at h ⊢
  split
  ·rename_i k; have:=zaM h k; omega
  ·omega
 | strew m=>
  simp only [Dd.src,Dd.ok] at h ⊢
  split
  ·rename_i k; have:=(zaO k).1; have:=zay h; omega
  ·omega
 | swap m n=>
  simp only [Dd.src,Dd.ok] at h ⊢
  split
  ·rename_i k; simp only [inM,yal,decide_eq_true_iff] at k; omega
  ·split
   ·rename_i k; have:=(h.2.2 p k).1; omega
   ·omega
 | copy m n=>
  simp only [Dd.src,Dd.ok] at h ⊢
  split
  ·rename_i k;simp only [inM, yal, decide_eq_true_iff] at k
   have:((p:Int) - n).toNat < w:=by
    by_cases z:((p:Int) - n).toNat < w
    ·exact z
    ·rw [zdh h.2.2.2.1 (1:)] at k; exact absurd k.2 yaI
   omega
  ·omega
def Dd.led_ld {w:Nat} {d:Dd} (h:d.ok w):Ld w (d.led w):=by
 refine ⟨by simp [Dd.led],λ e he=>?_⟩;simp only [Dd.led,yau,yai] at he;obtain ⟨p,hp,rfl⟩:=he;exact d.src_ld h hp
def Dd.done_lt {w x:Nat} {d:Dd} (h:d.ok w) (hx:x < 2 ^ w):d.doneN w x < 2 ^ w:=by
 apply ybg;intro i hi;have bx:=zdh hx hi;have p1:(2 ^ w - 1).testBit i=false:=by rw [ybd]; simp; omega
 cases d with
 | and m=>simp only [Dd.doneN,yaQ,bx,ybS]
 | or m=>simp only [Dd.doneN,Dd.ok,ybf,bx,yc3] at h ⊢; exact zdh h hi
 | left n=>simp only [Dd.doneN,yaQ,p1,yc0]
 | right n=>simp only [Dd.doneN,yba]; exact zdh hx (1:)
 | turn n=>simp only [Dd.doneN,zps,ybf,yaQ,p1,yc0,yc3,yba]; exact zdh hx (1:)
 | gather m=>
  simp only [Dd.doneN,Dd.ok] at h ⊢;rw [zlO];have:=zay h;simp; omega
 | strew m=>
  simp only [Dd.doneN,Dd.ok] at h ⊢;cases z:(za3 x m).testBit i
  ·rfl
  ·obtain ⟨j,hj,_,e⟩:=(zfa x m i).mp z;have:=zaM h hj;omega
 | swap m n=>
  simp only [Dd.doneN,Dd.ok] at h ⊢
  have m1:∀ p,w <= p + n -> m.testBit p=false:=λ p hp=>by
   cases z:m.testBit p
   ·rfl
   ·have:=(h.2.2 p z).1; omega
  unfold znG;rw [ybh,ybh,bx,yaQ,m1 i (1:),ya9,yaQ,m1 (i - n) (1:)];simp
 | copy m n=>
  simp only [Dd.doneN,Dd.ok] at h ⊢;unfold zpi;rw [ybf,ybh,yaQ,bx,ze3,ze3];cases z:inM (x &&& m) ((i:Int) - n)
  ·rfl
  ·simp only [inM,yal,decide_eq_true_iff,yaQ] at z;have:=h.2.2.2.2 _ z.2.2;omega
def Dd.led_done {w x:Nat} {d:Dd} (h:d.ok w) (hx:x < 2 ^ w):ledN (d.led w) x=d.doneN w x:=by
 apply ybc;intro i;by_cases hi:i < w
 ·have e0:(d.led w).getD i 0=d.src w i:=by
   rw [Dd.led,yab,yaf,yay hi]; rfl
  rw [znX _ _ _ (by simp [Dd.led]; exact hi),e0];cases d with
  | and m=>simp only [Dd.src,Dd.doneN,yaQ]; split <;> rename_i k <;> simp [k,zd1]; rfl
  | or m=>simp only [Dd.src,Dd.doneN,ybf]; split <;> rename_i k <;> simp [k,zd1]; rfl
  | left n=>
   simp only [Dd.src,Dd.doneN,yaQ,ya9,ybd]
   split
   ·rename_i k;rw [zcX (1:),show ((i:Int) - n).toNat=i - n by omega]; simp [k,hi]
   ·rename_i k; simp [k]; rfl
  | right n=>
   simp only [Dd.src,Dd.doneN,yba]
   split
   ·rw [zcX (1:),show ((i:Int) + n).toNat=i + n by omega]
   ·rw [zdh hx (1:)]; rfl
  | turn n=>
   simp only [Dd.src,Dd.doneN,Dd.ok] at h ⊢;unfold zps;rw [ybf,yaQ,ya9,ybd,yba]
   split
   ·rename_i k;rw [zcX (1:),show ((i:Int) - n).toNat=i - n by omega,zdh hx (show w <= i + (w - n) by omega)]; simp [k,hi]
   ·rename_i k;rw [zcX (1:),show ((i:Int) - n + w).toNat=i + (w - n) by omega]; simp [k]
  | gather m=>
   simp only [Dd.src,Dd.doneN,zlO]
   split
   ·rename_i k; rw [zd1]; simp [k]
   ·rename_i k; simp [k]; rfl
  | strew m=>
   simp only [Dd.src,Dd.doneN]
   split
   ·rename_i k;obtain ⟨k1,k2⟩:=zaO k;have:=zlk x m _ k1;rw [k2] at this;rw [this,zd1]
   ·rename_i k;cases z : (za3 x m).testBit i
    ·rfl
    ·obtain ⟨j,hj,_,e⟩:=(zfa x m i).mp z;exact absurd (zdw.mpr ⟨j,hj,e⟩) k
  | swap m n=>
   simp only [Dd.src,Dd.doneN,Dd.ok] at h ⊢;unfold znG;rw [ybh,ybh,yaQ,ybh,yba,ya9,yaQ,ybh,yba]
   split
   ·rename_i k;simp only [inM, yal, decide_eq_true_iff] at k;have e1 : ((i : Int) - n).toNat = i - n := by omega
    rw [e1] at k;have:=(h.2.2 _ k.2).2;rw [show i - n + n=i by omega] at this;rw [zcX k.1,e1,this,k.2,show i - n + n=i by omega];have:decide (i >= n)=true:=decide_eq_true (1:);rw [this];cases x.testBit i <;> cases x.testBit (i - n) <;> simp
   ·rename_i k
    have k0:(decide (i >= n) && m.testBit (i - n))=false:=by
     cases z:(decide (i >= n) && m.testBit (i - n))
     ·rfl
     ·rw [yal,decide_eq_true_iff] at z;refine absurd ?_ k;simp only [inM,yal,decide_eq_true_iff];rw [show ((i:Int) - n).toNat=i - n by omega];exact ⟨by omega,z.2⟩
    have k1:∀ b,(decide (i >= n) && (b && m.testBit (i - n)))=false:=λ b=>by
     cases b
     ·simp
     ·simpa using k0
    rw [k1]
    split
    ·rename_i k2;rw [zcX (1:),show ((i:Int) + n).toNat=i + n by omega,k2];cases x.testBit i <;> cases x.testBit (i + n) <;> rfl
    ·rename_i k2;rw [zd1];simp [k2]
  | copy m n=>
   simp only [Dd.src,Dd.doneN,Dd.ok] at h ⊢;unfold zpi;rw [ybf,ybh,yaQ,ze3,ze3]
   split
   ·rename_i k;rw [k];simp only [inM, yal, decide_eq_true_iff] at k;rw [zcX k.1]
    have:inM (x &&& m) ((i:Int) - n)=x.testBit ((i:Int) - n).toNat:=by
     unfold inM; rw [yaQ,k.2,decide_eq_true k.1]; simp
    rw [this];cases x.testBit i <;> cases x.testBit ((i:Int) - n).toNat <;> rfl
   ·rename_i k;have k' : inM m ((i : Int) - n) = false := by simpa using k
    have:inM (x &&& m) ((i:Int) - n)=false:=by
     unfold inM at k' ⊢; rw [yaQ];cases z:decide (0 <= (i:Int) - n)
     ·rfl
     ·rw [z] at k'; simp at k' ⊢; simp [k']
    rw [this,k',zd1];simp
 ·rw [zdh (d.done_lt h hx) (1:),ledN,zbC,yaK (by simp [Dd.led]; omega)];rfl
def zi6 (x n:Nat):(x:Int) * 2 ^ ((n:Int)).toNat=((x * 2 ^ n:Nat):Int):=by rw [yak]; simp
def zi7 (x n:Nat):(x:Int) / 2 ^ ((n:Int)).toNat=((x / 2 ^ n:Nat):Int):=by rw [yak]; simp
def zlw {a b:Nat} (h:a < 2 ^ 64):a &&& b < 2 ^ 64:=ya1 Nat.and_le_left h
noncomputable def zj7:Sp:=λ vs H Q _=>∃ (x:Nat) (n:Int),vs=[nV x,.int n] /\ x < 2 ^ 64 /\ -64 < n /\ n < 64 /\ Q (nV (zhe x n)) H
noncomputable def zlW:Sp:=λ vs H Q _=>∃ (x m:Nat) (n:Int),vs=[nV x,nV m,.int n] /\ x < 2 ^ 64 /\ m < 2 ^ 64 /\ -64 < n /\ n < 64 /\ Q (nV (zpi x m n)) H
noncomputable def zki:Sp:=λ vs H Q _=>∃ (x m n:Nat),vs=[nV x,nV m,nV n] /\ x < 2 ^ 64 /\ n < 64 /\ Q (nV (znG x m n)) H
noncomputable def zmf:Sp:=λ vs H Q _=>∃ (w x n:Nat),vs=[nV w,nV x,nV n] /\ x < 2 ^ 64 /\ n < w /\ w <= 64 /\ Q (nV (zps w x n)) H
noncomputable def zql:Sp:=λ vs H Q _=>∃ (w x:Nat) (a:Addr) (d:Dd),vs=[nV w,.ref a,nV x] /\ H a=some (.tup d.vals) /\ d.ok w /\ w <= 64 /\ x < 2 ^ w /\ ∀ H',Same H H' -> Q (nV (d.doneN w x)) H'
noncomputable def Dd.mask:Dd -> Nat
 | .and m=>m | .or m=>m | .left _=>0 | .right _=>0 | .turn _=>0 | .gather m=>m | .strew m=>m | .swap m _=>m | .copy m _=>m
def Dd.mask_lt {w:Nat} {d:Dd} (h:d.ok w):d.mask < 2 ^ w:=by
 cases d with
 | and m=>exact h
 | or m=>exact h
 | left n=>exact yaS w
 | right n=>exact yaS w
 | turn n=>exact yaS w
 | gather m=>exact h
 | strew m=>exact h
 | swap m n=>
  apply ybg;intro i hi;show m.testBit i=false;cases z:m.testBit i
  ·rfl
  ·have:=(h.2.2 i z).1; omega
 | copy m n=>exact h.2.2.2.1
def zhi {K:PySem.W.Frag} {a:Addr} {xs:List V} {g:TG} {tb:TS} {D:Ends} {σ:St} {H:Hp} (Pv:Nat -> St -> Hp -> Prop) (h0:Pv 0 σ H) (hl:∀ i σ H,Pv i σ H -> SqL K H a xs)
  (hs:∀ i u T σ H,xs[i]?=some u -> H T=none -> Pv i σ H -> g (.ref T) σ (upd H T (.tup [.int (i:Int),u])) λ σ2 H2=>tb { D with nx:=Pv (i + 1),ct:=Pv (i + 1),bk:=D.nx } σ2 H2) (hd:∀ σ H,Pv xs.length σ H -> D.nx σ H) :
  ForW (IteL K a xs) g tb D σ H:=by
 refine ⟨λ i m σ H=>m=xs.length - i /\ i <= xs.length /\ Pv i σ H,⟨xs.length,by simp,ybA _,h0⟩,?_⟩;rintro i m σ H ⟨rfl,hi,p⟩;by_cases hlt:i < xs.length
 ·refine .inr ⟨⟨hlt,hl i σ H p⟩,Pv (i + 1),λ σ' H' p'=>⟨xs.length - (i + 1),by omega,rfl,hlt,p'⟩,λ x H' y=>?_⟩;obtain ⟨T,u,rfl,hT,rfl,hu⟩:=y;exact hs i u T σ H hu hT p
 ·have e : i = xs.length := by omega
  subst e;exact .inl ⟨⟨rfl,hl _ σ H p⟩,hd σ H p⟩
def zjo {K:PySem.W.Frag} {a:Addr} {x:V} {k:Int} {n:Nat} {H:Hp} {Q:VK} (ha:H a=some (.lst [x])) (e:k=(n:Int)) (h2:n <= 100000) (h:∀ t H',H t=none -> Same H H' -> H' t=some (.lst (List.replicate n x)) -> Q (.ref t) H'):zqP K (.ref a) (.int k) H Q:=by
 subst e;refine .inl (.inr ⟨a,_,_,rfl,rfl,ha,by omega,by omega,?_,λ p hp=>?_⟩)
 ·rw [yak];show 1 * n <= sizeLine;rw [Nat.one_mul];exact yaw (small5 h2)
 ·have e:(List.replicate ((n:Int)).toNat [x]).flatten=List.replicate n x:=by
   rw [yak];clear h2 h
   induction n with
   | zero=>rfl
   | succ n ih=>rw [ybj,yb2,ih,ybj]; rfl
  rw [e];exact h p _ hp (zak hp) zai
def zdN {K:PySem.W.Frag} {a b:Addr} {xs ys:List V} {H:Hp} {Q:VK} (ha:H a=some (.lst xs)) (hb:H b=some (.lst ys)) (hz:xs.length + ys.length <= 100000) (h:∀ t H',H t=none -> Same H H' -> H' t=some (.lst (xs ++ ys)) -> Q (.ref t) H'):zp4 K (.ref a) (.ref b) H Q:=
 .inr (.inl ⟨a,b,_,_,rfl,rfl,ha,hb,yaw (small5 hz),λ p hp=>h p _ hp (zak hp) zai⟩)
def zrx {p:Addr} {xs:List V} {j:Nat} {v:V} {H:Hp} {K:Hp -> Prop} (hp:H p=some (.lst xs)) (hj:j < xs.length) (h:K (upd H p (.lst (xs.set j v)))):zqU (.ref p) (.int (j:Int)) v H K:=
 zmE hp (by unfold ixN; rw [if_pos (1:),if_pos (1:)]; simp) h
def ziG {K:PySem.W.Frag} {a:Addr} {xs:List V} {H:Hp} {Q:VK} (ha:H a=some (.lst xs)) (h:∀ t H',H t=none -> Same H H' -> H' t=some (.tup xs) -> Q (.ref t) H'):zov K [.ref a] H Q:=
 ⟨a,xs,rfl,.inl ⟨SqL.of ha,λ t ht=>h t _ ht (zak ht) zai⟩⟩
noncomputable def pon (w:Nat) (z:Int):Int:=if 0 <= z /\ z <= (w:Int) - 1 then z else -1
noncomputable def zs3:Sp:=λ vs H Q _=>∃ (w:Nat) (z:Int),vs=[nV w,.int z] /\ Q (.int (pon w z)) H
noncomputable def zj2:Sp:=λ vs H Q _=>∃ (m:Nat) (n:Int) (p:Nat),vs=[nV m,.int n,nV p] /\ Q (.int (if inM m ((p:Int) - n) then (p:Int) - n else p)) H
noncomputable def Dd.flat:Dd -> Bool
 | .gather _=>false
 | .strew _=>false
 | _=>true
noncomputable def zlA:Sp:=λ vs H Q _=>∃ (w p:Nat) (a:Addr) (d:Dd),vs=[nV w,.ref a,nV p] /\ H a=some (.tup d.vals) /\ d.ok w /\ d.flat=true /\ p < w /\ w <= 64 /\ Q (.int (d.src w p)) H
noncomputable def zmb:Sp:=λ vs H Q _=>∃ (w m:Nat),vs=[nV w,nV m] /\ m < 2 ^ w /\ w <= 64 /\ ∀ t H',Same H H' -> H' t=some (.tup (((Dd.gather m).led w).map V.int)) -> Q (.ref t) H'
noncomputable def zjD:Sp:=λ vs H Q _=>∃ (w m:Nat),vs=[nV w,nV m] /\ m < 2 ^ w /\ w <= 64 /\ ∀ t H',Same H H' -> H' t=some (.tup (((Dd.strew m).led w).map V.int)) -> Q (.ref t) H'
noncomputable def zms:Sp:=λ vs H Q _=>∃ (w:Nat) (a:Addr) (d:Dd),vs=[nV w,.ref a] /\ H a=some (.tup d.vals) /\ d.ok w /\ w <= 64 /\ ∀ t H',Same H H' -> H' t=some (.tup ((d.led w).map V.int)) -> Q (.ref t) H'
def zmu {m w:Nat} (h:m < 2 ^ w):((Dd.gather m).led w).map V.int=(zac m).map nV ++ (List.replicate (w - (zac m).length) (V.int (-1))):=by
 have hl:=zay h;apply ybt;intro i;rw [Dd.led,yaX,yaf];by_cases hi:i < w
 ·rw [yay hi];show some (V.int ((Dd.gather m).src w i)) = _;simp only [Dd.src];by_cases hp : i < (zac m).length
  ·rw [if_pos hp,ya4 (by rw [yaa]; exact hp),yaf,yac hp,yab,yac hp];rfl
  ·rw [if_neg hp,ya8 (by rw [yaa]; omega),yck,yaa,if_pos (1:)]
 ·rw [yaK (by rw [yah]; omega),yaK (by rw [yao,yaa,ybU]; omega)];rfl
noncomputable def zcq (w m i:Nat):List Int:=(List.range w).map λ p=>if (zac m).idxOf p < i /\ m.testBit p=true then ((zac m).idxOf p:Int) else -1
def zkz (w m:Nat):zcq w m 0=List.replicate w (-1):=by
 rw [zcq,yaM (g:=λ _=>(-1:Int)) (λ p _=>by rw [if_neg (1:)])];rw [List.map_const',yah]
def zkK {w m i y:Nat} (h:m < 2 ^ w) (hi:(zac m)[i]?=some y):(zcq w m i).set y (i:Int)=zcq w m (i + 1):=by
 have hil:i < (zac m).length:=(yad.mp hi).1;have eg:(zac m).getD i 0=y:=by rw [yab,hi]; rfl
 have hy:m.testBit y=true:=zdw.mpr ⟨i,hil,eg⟩;have hyw:y < w:=zhc h (za7.mpr hy)
 have ei:(zac m).idxOf y=i:=by
  obtain ⟨h1,h2⟩:=zaO hy;exact zd0 h1 hil (h2.trans eg.symm)
 apply ybt;intro p;rw [List.getElem?_set];by_cases e:y=p
 ·subst e;rw [if_pos rfl,if_pos (by simp [zcq]; exact hyw),zcq,yaf,yay hyw];show some (i:Int)=some (if (zac m).idxOf y < i + 1 /\ m.testBit y=true then ((zac m).idxOf y:Int) else -1);rw [if_pos ⟨by omega,hy⟩,ei]
 ·rw [if_neg e, zcq, zcq, yaf, yaf];by_cases hp : p < w
  ·rw [yay hp];show some (if (zac m).idxOf p < i /\ m.testBit p = true then ((zac m).idxOf p : Int) else -1) = some (if (zac m).idxOf p < i + 1 /\ m.testBit p = true then ((zac m).idxOf p : Int) else -1)
   have:((zac m).idxOf p < i /\ m.testBit p=true) ↔ ((zac m).idxOf p < i + 1 /\ m.testBit p=true):=by
    constructor
    ·exact λ ⟨a,b⟩=>⟨by omega,b⟩
    ·rintro ⟨a, b⟩;refine ⟨?_, b⟩
     have:(zac m).idxOf p ≠ i:=λ z=>by
      have:=(zaO b).2;rw [z,eg] at this;exact e this
     omega
   by_cases c:(zac m).idxOf p < i /\ m.testBit p=true
   ·rw [if_pos c,if_pos (this.mp c)]
   ·rw [if_neg c,if_neg (λ z=>c (this.mpr z))]
  ·rw [yaK (by rw [yah]; omega)];rfl
def zmB {w m:Nat}:zcq w m (zac m).length=(Dd.strew m).led w:=by
 rw [zcq,Dd.led];apply yaM;intro p hp;simp only [Dd.src];by_cases c:m.testBit p=true
 ·rw [if_pos c,if_pos ⟨(zaO c).1,c⟩]
 ·rw [if_neg c,if_neg (λ z=>c z.2)]
def zna (w m i:Nat):(zcq w m i).length=w:=by simp [zcq]
noncomputable def rowV (L:List (Addr × Dd)):List V:=L.map λ q=>V.ref q.1
noncomputable def Rw (H:Hp) (w:Nat) (L:List (Addr × Dd)):Prop:=∀ q ∈ L,H q.1=some (.tup q.2.vals) /\ q.2.ok w
def Rw.same {H H':Hp} {w:Nat} {L:List (Addr × Dd)} (h:Rw H w L) (s:Same H H'):Rw H' w L:=λ q hq=>⟨s _ _ (h q hq).1,(h q hq).2⟩
noncomputable def dds (L:List (Addr × Dd)):List Dd:=L.map λ q=>q.2
noncomputable def rowN (w:Nat) (ds:List Dd) (x:Nat):Nat:=ds.foldl (λ x d=>d.doneN w x) x
noncomputable def rowL (w:Nat) (ds:List Dd):List Int:=ds.foldl (λ l d=>zax l (d.led w)) (zaE w)
def zjp {w:Nat}:∀ (ds:List Dd) (l:List Int),(∀ d ∈ ds,d.ok w) -> Ld w l -> Ld w (ds.foldl (λ l d=>zax l (d.led w)) l)
 | [],_,_,h=>h
 | d :: ds,l,hd,h=>zjp ds _ (λ e he=>hd e (.tail _ he)) (zbv h (d.led_ld (hd d (.head _))))
def ze9 {w:Nat} {ds:List Dd} (h:∀ d ∈ ds,d.ok w):Ld w (rowL w ds):=zjp ds _ h (zdy w)
def zeK {w:Nat}:∀ (ds:List Dd) (l:List Int),(∀ d ∈ ds,d.ok w) -> Ld w l -> ds.foldl (λ l d=>zax l (d.led w)) l=zax l (rowL w ds)
 | [],l,_,h=>(zfH h).symm
 | d :: ds,l,hd,h=>by
  have h0:=d.led_ld (hd d (.head _));have ht:∀ e ∈ ds,e.ok w:=λ e he=>hd e (.tail _ he);show ds.foldl (λ l d=>zax l (d.led w)) (zax l (d.led w))=zax l (ds.foldl (λ l d=>zax l (d.led w)) (zax (zaE w) (d.led w)));rw [zeK ds _ ht (zbv h h0),zeK ds _ ht (zbv (zdy w) h0),zbI h0,zcJ h0 (ze9 ht)]
def zg8 {w:Nat} {ds es:List Dd} (h1:∀ d ∈ ds,d.ok w) (h2:∀ d ∈ es,d.ok w):rowL w (ds ++ es)=zax (rowL w ds) (rowL w es):=by
 show List.foldl _ _ (ds ++ es)=_;rw [ya7];exact zeK es _ h2 (ze9 h1)
def zp5 (w:Nat) (ds es:List Dd) (x:Nat):rowN w (ds ++ es) x=rowN w es (rowN w ds x):=by
 show List.foldl _ _ (ds ++ es)=_;rw [ya7];rfl
def znl {w:Nat}:∀ (ds:List Dd) (x:Nat),(∀ d ∈ ds,d.ok w) -> x < 2 ^ w -> rowN w ds x < 2 ^ w
 | [],_,_,h=>h
 | d :: ds,x,hd,h=>znl ds _ (λ e he=>hd e (.tail _ he)) (d.done_lt (hd d (.head _)) h)
def zlv {w:Nat}:∀ (ds:List Dd) (l:List Int) (x:Nat),(∀ d ∈ ds,d.ok w) -> Ld w l -> ledN l x < 2 ^ w -> ledN (ds.foldl (λ l d=>zax l (d.led w)) l) x=rowN w ds (ledN l x)
 | [],_,_,_,_,_=>rfl
 | d :: ds,l,x,hd,h,hx=>by
  have h0:=hd d (.head _);have e:ledN (zax l (d.led w)) x=d.doneN w (ledN l x):=by rw [zpo h (d.led_ld h0),d.led_done h0 hx]
  show ledN (ds.foldl (λ l d=>zax l (d.led w)) (zax l (d.led w))) x=rowN w ds (d.doneN w (ledN l x));rw [zlv ds _ x (λ e he=>hd e (.tail _ he)) (zbv h (d.led_ld h0)) (by rw [e]; exact d.done_lt h0 hx),e]
def zrf {w x:Nat} {ds:List Dd} (h:∀ d ∈ ds,d.ok w) (hx:x < 2 ^ w):ledN (rowL w ds) x=rowN w ds x:=by
 have:=zlv ds (zaE w) x h (zdy w) (by rw [zlz hx]; exact hx);rw [zlz hx] at this;exact this
def zb4 (L M:List (Addr × Dd)):rowV L ++ rowV M=rowV (L ++ M):=by rw [rowV,rowV,rowV,yae]
def zbe (L:List (Addr × Dd)):(rowV L).length=L.length:=by rw [rowV,yaa]
def zfl (L M:List (Addr × Dd)):dds (L ++ M)=dds L ++ dds M:=by rw [dds,dds,dds,yae]
def Rw.app {H:Hp} {w:Nat} {L M:List (Addr × Dd)} (h:Rw H w L) (h':Rw H w M):Rw H w (L ++ M):=λ q hq=>(yaA.mp hq).elim (h q) (h' q)
def Rw.take {H:Hp} {w:Nat} {L:List (Addr × Dd)} (h:Rw H w L) (k:Nat):Rw H w (L.take k):=λ q hq=>h q (ybD hq)
def zcd {A B:Prop} {c:Bool} (e:c=false) (h:B):if c=true then A else B:=by subst e; exact iteF h
def zcv {A B:Prop} {c:Bool} (e:c=true) (h:A):if c=true then A else B:=by subst e; exact iteT h
def Rw.ok {H:Hp} {w:Nat} {L:List (Addr × Dd)} (h:Rw H w L):∀ d ∈ dds L,d.ok w:=λ d hd=>by
 obtain ⟨q,hq,rfl⟩:=yau.mp hd;exact (h q hq).2
noncomputable def zkp (K:PySem.W.Frag):Sp:=λ vs H Q _=>∃ (w x:Nat) (a:Addr) (L:List (Addr × Dd)),vs=[nV w,.ref a,nV x] /\ SqA K H a (rowV L) /\ Rw H w L /\ w <= 64 /\ x < 2 ^ w /\ ∀ H',Same H H' -> Q (nV (rowN w (dds L) x)) H'
noncomputable def zoS (K:PySem.W.Frag):Sp:=λ vs H Q _=>∃ (w:Nat) (a:Addr) (L:List (Addr × Dd)),vs=[nV w,.ref a] /\ SqA K H a (rowV L) /\ Rw H w L /\ w <= 64 /\ ∀ t H',Same H H' -> H' t=some (.tup ((rowL w (dds L)).map V.int)) -> Q (.ref t) H'
noncomputable def zkw (ls:List Int):List Nat:=(ls.filter λ e=>decide (0 <= e)).map Int.toNat
noncomputable def zhn (ls:List Int):Nat:=zaI (zkw ls)
def zoM (ls:List Int):(ls.filter λ e=>decide (0 <= e)).map V.int=(zkw ls).map nV:=by
 rw [zkw,yaX];apply yaM;intro e he;have:=(yaq.mp he).2;rw [decide_eq_true_iff] at this;show V.int e=V.int ((e.toNat:Nat):Int);rw [ybP this]
def zpC (ls:List Int) (p:Nat):(zhn ls).testBit p=decide ((p:Int) ∈ ls):=by
 rw [zhn,zau];apply decide_eq_decide.mpr;simp only [zkw,yau,yaq,decide_eq_true_iff];constructor
 ·rintro ⟨e,⟨h1,h2⟩,rfl⟩;rw [ybP h2]; exact h1
 ·exact λ h=>⟨p,⟨h,by omega⟩,by omega⟩
noncomputable def zqn:Sp:=λ vs H Q _=>∃ (a:Addr) (ls:List Int) (w:Nat),vs=[.ref a] /\ H a=some (.tup (ls.map V.int)) /\ Ld w ls /\ w <= 64 /\ ∀ H',Same H H' -> Q (nV (zhn ls)) H'
def zoO {K:PySem.W.Frag} {i j:Bool} {H:Hp} {Q:VK} (h:Q (.bl (!(i == j))) H):rNeU K (.bl i) (.bl j) H Q:=⟨.bool i,.bool j,.bool K H i,.bool K H j,rfl,rfl,h⟩
def Rw.snoc {H H':Hp} {w:Nat} {L:List (Addr × Dd)} {t:Addr} {d:Dd} (h:Rw H w L) (s:Same H H') (n:H' t=some (.tup d.vals)) (hd:d.ok w):Rw H' w (L ++ [(t,d)]):=λ q hq=>by
 rcases yaA.mp hq with z | z
 ·exact h.same s q z
 ·rw [yax.mp z]; exact ⟨n,hd⟩
def Rw.nil (H:Hp) (w:Nat):Rw H w []:=λ _ z=>(nomatch z)
def zsF {K:PySem.W.Frag} {a b:Addr} {xs ys:List V} {H:Hp} {Q:VK} (ha:H a=some (.lst xs)) (hb:H b=some (.lst ys)) (hz:xs.length + ys.length <= 100000) (h:Q .non (upd H a (.lst (xs ++ ys)))):zod (.ref a) [.ref b] H Q:=⟨a,b,xs,ys,rfl,rfl,ha,hb,yaw (small5 hz),h⟩
def zbY {K:PySem.W.Frag} {a:Addr} {xs:List V} {g:TG} {tb:TS} {D:Ends} {σ:St} {H:Hp} (Pv:Nat -> St -> Hp -> Prop) (h0:Pv 0 σ H) (hl:∀ i σ H',Pv i σ H' -> SqL K H' a xs)
  (step:∀ i x σ H',xs[i]?=some x -> Pv i σ H' -> g x σ H' λ σ2 H2=>tb { D with nx:=Pv (i + 1),ct:=Pv (i + 1),bk:=D.nx } σ2 H2) (done:∀ σ H',Pv xs.length σ H' -> D.nx σ H') :
  ∃ b,V.ref a=.ref b /\ (((∃ xs,SqL K H b xs) /\ ForW (Itl K b) g tb D σ H) \/ ((∃ xs,SqT K H b xs) /\ ForW (Itt K b) g tb D σ H)):=
 ⟨a,rfl,.inl ⟨⟨xs,hl 0 σ H h0⟩,zlq Pv h0 (λ i σ H' _ p=>hl i σ H' p) step done⟩⟩
def zs4 {K:PySem.W.Frag} {a b:Addr} {xs ys:List Int} {H:Hp} {Q:VK} (ha:SqL K H a (xs.map V.int)) (hb:SqL K H b (ys.map V.int)) (h:Q (.bl (decide (xs=ys))) H):rEqU K (.ref a) (.ref b) H Q:=by
 refine ⟨.list (xs.map .int),.list (ys.map .int),DatV.list ha (DatVs.ints K H xs),DatV.list hb (DatVs.ints K H ys),zkj _,zkj _,?_⟩;rw [show PyData.eqv (.list (xs.map .int)) (.list (ys.map .int))=decide (xs=ys) by rw [PyData.eqv,zdd]];exact h
noncomputable def zjk:Sp:=λ vs H Q _=>∃ (w:Nat) (a:Addr) (d:Dd),vs=[nV w,.ref a] /\ H a=some (.tup d.vals) /\ d.ok w /\ w <= 64 /\ ∀ H',Same H H' -> Q (.bl (decide (d.led w=zaE w))) H'
def ztg {t:TT} {ta tb:TE} {σ:St} {H:Hp} {Q:VK} (P:V -> Hp -> Prop)
  (h:∀ Q':VK,(∀ v H2,P v H2 -> Q' v H2) -> t σ H λ c H1=>if c=true then ta σ H1 Q' else tb σ H1 Q') (hq:∀ v H2,P v H2 -> Q v H2):tIf t ta tb σ H Q:=h Q hq
def zp9 {c:TT} {t u:TS} {D:Ends} {σ:St} {H:Hp} (P:St -> Hp -> Prop)
  (h:∀ f:St -> Hp -> Prop,(∀ σ2 H2,P σ2 H2 -> f σ2 H2) -> c σ H λ b H1=>if b=true then t { D with nx:=f } σ H1 else u { D with nx:=f } σ H1) (hq:∀ σ2 H2,P σ2 H2 -> D.nx σ2 H2):tIfS c t u D σ H:=h D.nx hq
noncomputable abbrev plc (m j:Nat):Nat:=(zac m).getD j 0
noncomputable def wayN (m j:Nat):Nat:=plc m j - j
noncomputable def posN (m s j:Nat):Nat:=j + 2 ^ s * (wayN m j / 2 ^ s)
def zkt {m i:Nat}:∀ d,i + d < (zac m).length -> plc m i + d <= plc m (i + d)
 | 0,_=>yaj _
 | d + 1,h=>by
  have a:=zkt (m:=m) (i:=i) d (1:);have b:=zeL (m:=m) (i:=i + d) (j:=i + (d + 1)) (1:) h;show plc m i + (d + 1) <= plc m (i + (d + 1));have b':plc m (i + d) < plc m (i + (d + 1)):=b;omega
def zhD {m j:Nat} (h:j < (zac m).length):j <= plc m j:=by
 have:=zkt (m:=m) (i:=0) j (1:);rw [ycD] at this;omega
def zpH {m i j:Nat} (hij:i <= j) (hj:j < (zac m).length):wayN m i <= wayN m j:=by
 have:=zkt (m:=m) (i:=i) (j - i) (1:);rw [show i + (j - i)=j by omega] at this;have:=zhD (m:=m) (j:=i) (1:);unfold wayN;omega
def zqg {m s i j:Nat} (hij:i < j) (hj:j < (zac m).length):posN m s i < posN m s j:=by
 have:=Nat.div_le_div_right (c:=2 ^ s) (zpH (yaw hij) hj);have:=Nat.mul_le_mul_left (2 ^ s) this;unfold posN;omega
def zof {m s i j:Nat} (hi:i < (zac m).length) (hj:j < (zac m).length) (e:posN m s i=posN m s j):i=j:=by
 rcases ycy i j with h | h | h
 ·have:=zqg (s:=s) h hj; omega
 ·exact h
 ·have:=zqg (s:=s) h hi; omega
def zme {m j:Nat} (h:j < (zac m).length):posN m 0 j=plc m j:=by
 have:=zhD h;unfold posN wayN;rw [Nat.pow_zero,Nat.one_mul,Nat.div_one];omega
def zni {m s j:Nat} (h:wayN m j < 2 ^ s):posN m s j=j:=by
 unfold posN;rw [Nat.div_eq_of_lt h];omega
def zgb (m s j:Nat):posN m s j=posN m (s + 1) j + (if (wayN m j).testBit s then 2 ^ s else 0):=by
 unfold posN
 have e:wayN m j / 2 ^ s=2 * (wayN m j / 2 ^ (s + 1)) + ((wayN m j).testBit s).toNat:=by
  rw [<- zhh,Nat.and_one_is_mod,ybq,<- Nat.div_div_eq_div_mul];omega
 rw [e,ybq];generalize wayN m j / (2 ^ s * 2)=q;cases (wayN m j).testBit s
 ·simp only [Bool.toNat_false,ybV,yaC,if_false];rw [<- Nat.mul_assoc]
 ·simp only [Bool.toNat_true,if_true];rw [Nat.mul_add,<- Nat.mul_assoc,Nat.mul_one];omega
def zoq {m j:Nat} (s:Nat) (h:j < (zac m).length):posN m s j=plc m j - wayN m j % 2 ^ s:=by
 have:=zhD h;have d:=Nat.div_add_mod (wayN m j) (2 ^ s);have:wayN m j % 2 ^ s <= wayN m j:=Nat.mod_le _ _;unfold posN;unfold wayN at *;omega
def zhO {m j:Nat} (s:Nat) (h:j < (zac m).length):posN m s j <= plc m j:=by
 rw [zoq s h];omega
noncomputable def movL (m s i:Nat):List Nat:=((List.range i).filter λ j=>(wayN m j).testBit s).map (posN m s)
noncomputable def upN (m s:Nat):Nat:=zaI (movL m s (zac m).length)
def zfB {m s q:Nat}:(upN m s).testBit q=true ↔ ∃ j,j < (zac m).length /\ (wayN m j).testBit s=true /\ posN m s j=q:=by
 rw [upN,zau,decide_eq_true_iff,movL];simp only [yau,yaq,yai];constructor
 ·rintro ⟨j,⟨h1,h2⟩,e⟩; exact ⟨j,h1,h2,e⟩
 ·rintro ⟨j,h1,h2,e⟩; exact ⟨j,⟨h1,h2⟩,e⟩
def zrT {m w:Nat} (s:Nat) (hm:m < 2 ^ w):upN m s < 2 ^ w:=by
 apply mask_lt;intro p hp;simp only [movL,yau,yaq,yai] at hp;obtain ⟨j,⟨h1,_⟩,rfl⟩:=hp;exact ya1 (zhO s h1) (zaM hm h1)
def zh9 {n s:Nat} (h:s < zaz n):2 ^ s <= n:=by
 unfold zaz at h
 split at h
 ·omega
 ·rename_i h0;have:=Nat.log2_self_le h0;exact yaW (yaG (3:) (1:)) this
noncomputable def zd6 (w m:Nat) (s:Nat):Dd:=.copy (upN m s) (-((2 ^ s:Nat):Int))
noncomputable def zfG (w m:Nat):List Dd:=(List.range (zaz (w - 1))).map (zd6 w m) ++ [.and (2 ^ (zac m).length - 1)]
def zmd {w m s:Nat} (hm:m < 2 ^ w) (hs:s < zaz (w - 1)):(zd6 w m s).ok w:=by
 have h1:=zh9 hs;have h2:=yaS s;refine ⟨by omega,by omega,by omega,zrT s hm,λ p hp=>?_⟩;obtain ⟨j,hj,hb,rfl⟩:=zfB.mp hp;have:=zgb m s j;rw [hb,if_pos rfl] at this;have:=zhO s hj;have:=zaM hm hj;have e:plc m j < w:=this;omega
def zqt {w m:Nat} (hm:m < 2 ^ w):(Dd.and (2 ^ (zac m).length - 1)).ok w:=by
 have:=zay hm;have:=yaG (n:=2) (3:) this;have h2:=yaS (zac m).length;show 2 ^ (zac m).length - 1 < 2 ^ w;omega
def zfx {w q:Nat} (d:Dd) (h:q < w):(d.led w).getD q 0=d.src w q:=by
 rw [Dd.led,yab,yaf,yay h];rfl
def zja {w m:Nat} (hm:m < 2 ^ w):∀ s,s <= zaz (w - 1) -> Ld w (rowL w ((List.range s).map (zd6 w m))) /\ ∀ j,j < (zac m).length -> (rowL w ((List.range s).map (zd6 w m))).getD (posN m s j) 0=(plc m j:Int)
 | 0,_=>by
  refine ⟨zdy w,λ j hj=>?_⟩;have:=zaM hm hj;rw [zme hj];show (zaE w).getD (plc m j) 0=_;rw [zaE,yab,yaf,yay this];rfl
 | s + 1,hs=>by
  obtain ⟨h1,h2⟩:=zja hm s (1:);have ok:=zmd (m:=m) hm (show s < zaz (w - 1) by omega)
  have e:rowL w ((List.range (s + 1)).map (zd6 w m))=zax (rowL w ((List.range s).map (zd6 w m))) ((zd6 w m s).led w):=by
   rw [yar,yae];unfold rowL;rw [ya7];rfl
  rw [e];refine ⟨zbv h1 ((zd6 w m s).led_ld ok),λ j hj=>?_⟩;have hpw:posN m (s + 1) j < w:=ya1 (zhO (s + 1) hj) (zaM hm hj);rw [zbK ((zd6 w m s).led_ld ok) hpw,zfx _ hpw];have es:(zd6 w m s).src w (posN m (s + 1) j)=(if inM (upN m s) ((posN m (s + 1) j:Int) - (-((2 ^ s:Nat):Int))) then (posN m (s + 1) j:Int) - (-((2 ^ s:Nat):Int)) else posN m (s + 1) j):=rfl;have st:=zgb m s j;have cast:(posN m (s + 1) j:Int) - (-((2 ^ s:Nat):Int))=((posN m (s + 1) j + 2 ^ s:Nat):Int):=by omega
  rw [cast,ziX] at es;by_cases hb:(wayN m j).testBit s=true
  ·rw [hb,if_pos rfl] at st;rw [if_pos (zfB.mpr ⟨j,hj,hb,st⟩),<- st] at es;rw [es,if_pos (1:),yak];exact h2 j hj
  ·rw [if_neg hb, ybV] at st
   have:¬ (upN m s).testBit (posN m (s + 1) j + 2 ^ s)=true:=λ z=>by
    obtain ⟨i,hi,hbi,ei⟩:=zfB.mp z;have si:=zgb m s i;rw [hbi,if_pos rfl] at si;have:=zof (s:=s + 1) hi hj (1:);subst this;exact hb hbi
   rw [if_neg this] at es;rw [es,if_pos (1:),yak,<- st];exact h2 j hj
def zqi {w m j:Nat} (hw:1 <= w) (hm:m < 2 ^ w) (hj:j < (zac m).length):wayN m j < 2 ^ zaz (w - 1):=by
 have a:=zaM hm hj
 have b:wayN m j <= w - 1:=by
  unfold wayN;show plc m j - j <= w - 1;have a':plc m j < w:=a;omega
 exact ya1 b (zgF (w - 1))
def zmr {w m:Nat} (hw:1 <= w) (hm:m < 2 ^ w):rowL w (zfG w m)=(Dd.gather m).led w:=by
 obtain ⟨h1,h2⟩:=zja hm (zaz (w - 1)) (yaj _);have ok:=zqt hm
 have e:rowL w (zfG w m)=zax (rowL w ((List.range (zaz (w - 1))).map (zd6 w m))) ((Dd.and (2 ^ (zac m).length - 1)).led w):=by
  unfold zfG rowL;rw [ya7];rfl
 rw [e];have hl:=zay hm;apply ybt;intro q;by_cases hq:q < w
 ·have l1:q < (zax (rowL w ((List.range (zaz (w - 1))).map (zd6 w m))) ((Dd.and (2 ^ (zac m).length - 1)).led w)).length:=by
   rw [(zbv h1 (Dd.led_ld ok)).1]; exact hq
  have l2:q < ((Dd.gather m).led w).length:=by rw [Dd.led,yaa,yah]; exact hq
  have g1:=zbK (ls:=rowL w ((List.range (zaz (w - 1))).map (zd6 w m))) (Dd.led_ld ok) hq;have g2:=zfx (Dd.gather m) hq;rw [yab,yac l1] at g1;rw [yab,yac l2] at g2;rw [yac l1,yac l2];congr 1;refine Eq.trans g1 (Eq.trans ?_ g2.symm);rw [zfx _ hq];show (if 0 <= (if (2 ^ (zac m).length - 1).testBit q then (q:Int) else -1) then _ else _)=(if q < (zac m).length then ((zac m).getD q 0:Int) else -1);by_cases hc:q < (zac m).length
  ·rw [if_pos hc];have tb : (2 ^ (zac m).length - 1).testBit q = true := by rw [ybd]; exact decide_eq_true hc
   simp only [Dd.src,tb,if_true];rw [if_pos (1:),yak];have:=h2 q hc;rw [zni (zqi hw hm hc)] at this;exact this
  ·rw [if_neg hc];have tb : (2 ^ (zac m).length - 1).testBit q = false := by rw [ybd]; exact decide_eq_false hc
   simp only [Dd.src,tb,yaC,if_false];rw [if_neg (1:)]
 ·rw [yaK (by rw [(zbv h1 (Dd.led_ld ok)).1]; omega),yaK (by rw [Dd.led,yaa,yah]; omega)]
def ziW {w:Nat} (h:w <= 64):zaz (w - 1) <= 6:=zgY (show w - 1 < 2 ^ 6 by omega)
noncomputable def zoR:Sp:=λ vs H Q _=>∃ w:Nat,vs=[nV w] /\ 1 <= w /\ w <= 64 /\ ∀ l H',H l=none -> Same H H' -> H' l=some (.lst ((List.range (zaz (w - 1))).map λ s=>nV (2 ^ s))) -> Q (.ref l) H'
noncomputable def zoT:Sp:=λ vs H Q _=>∃ m s:Nat,vs=[nV m,nV (2 ^ s)] /\ m < 2 ^ 64 /\ s < 64 /\ ∀ H',Same H H' -> Q (nV (upN m s)) H'
noncomputable def zj0:Sp:=λ vs H Q _=>∃ w m:Nat,vs=[nV w,nV m] /\ 1 <= w /\ w <= 64 /\ m < 2 ^ w /\ ∀ (l:Addr) (L:List (Addr × Dd)) (H':Hp),H l=none -> Same H H' -> dds L=zfG w m -> Rw H' w L -> H' l=some (.lst (rowV L)) -> Q (.ref l) H'
def zoo {K:PySem.W.Frag} {p:Addr} {xs:List V} {v:V} {H:Hp} {Q:VK} (hq:SqL K H p xs) (e:xs[xs.length - 1]?=some v) (h:Q v H):rIx K (.ref p) (.int (-1)) H Q:=by
 have hl:xs.length - 1 < xs.length:=(yad.mp e).1
 have e':atI xs (-1)=some v:=by
  unfold atI ixN;rw [if_neg (3:),if_pos (1:),show ((-1:Int) + (xs.length:Int)).toNat=xs.length - 1 by omega];exact e
 exact .inl ⟨p,xs,-1,v,rfl,rfl,hq,e',h⟩
def zqO (x s:Nat):x &&& 2 ^ s=if x.testBit s then 2 ^ s else 0:=by
 apply ybc;intro i;rw [yaQ,ycc];by_cases h:s=i
 ·subst h;cases z : x.testBit s
  ·simp
  ·simp [ycc]
 ·cases z : x.testBit s
  ·simp [h]
  ·simp [h,ycc]
def zqR (m j s:Nat):(Builtin.bitAnd ((wayN m j:Nat):Int) (((2 ^ s:Nat)):Int) == 0)=!(wayN m j).testBit s:=by
 rw [zaQ,zqO];have:=yaS s;cases (wayN m j).testBit s
 ·simp
 ·simp only [if_true,ycl];apply beq_eq_false_iff_ne.mpr;omega
def zpz {K:PySem.W.Frag} {a:Addr} {xs:List V} {src:List (Option Nat)} {σ:St} {g:TG} {tc:TT} {te:TE} {Q:VK} {H:Hp} (Pv:Nat -> List V -> Hp -> Prop) (h0:Pv 0 [] H) (len:∀ i acc H,Pv i acc H -> acc.length <= sizeLine)
  (hl:∀ i acc H,Pv i acc H -> SqL K H a xs)
  (step:∀ i x acc H,i < xs.length -> xs[xs.length - 1 - i]?=some x -> Pv i acc H -> g x (capt src σ) H λ σ2 H2=>Ext (capt src σ) σ2 /\ tc σ2 H2 λ b H3=>if b=true then te σ2 H3 (λ y H4=>Pv (i + 1) (acc ++ [y]) H4) else Pv (i + 1) acc H3)
  (done:∀ acc H,Pv xs.length acc H -> ∀ p,H p=none -> Q (.ref p) (upd H p (.lst acc))):zdc (Itv K a xs) src σ g tc te Q H:=by
 refine ⟨λ i m acc H=>m=xs.length - i /\ i <= xs.length /\ Pv i acc H,⟨xs.length,by simp,ybA _,h0⟩,?_⟩;rintro i m acc H ⟨rfl,hi,p⟩;refine ⟨len i acc H p,?_⟩;by_cases hlt:i < xs.length
 ·refine .inr ⟨⟨hlt,hl i acc H p⟩,λ y H4=>Pv (i + 1) (acc ++ [y]) H4,λ H3=>Pv (i + 1) acc H3,λ y H4 q=>⟨xs.length - (i + 1),by omega,rfl,hlt,q⟩,λ H3 q=>⟨xs.length - (i + 1),by omega,rfl,hlt,q⟩,λ x H' y=>?_⟩;obtain ⟨e,y⟩:=y;subst e;exact step i x acc _ hlt y p
 ·have e : i = xs.length := by omega
  subst e;exact .inl ⟨rfl,done acc H p⟩
noncomputable def strD (m s:Nat):Dd:=.copy (upN m s / 2 ^ (2 ^ s)) ((2 ^ s:Nat):Int)
noncomputable def zh4 (w m:Nat):List Dd:=(List.range (zaz (w - 1))).map (λ i=>strD m (zaz (w - 1) - 1 - i)) ++ [.and m]
def znB (m s q:Nat):(upN m s / 2 ^ (2 ^ s)).testBit q=(upN m s).testBit (q + 2 ^ s):=by rw [yba]
def zo6 {w m s:Nat} (hm:m < 2 ^ w) (hs:s < zaz (w - 1)):(strD m s).ok w:=by
 have h1:=zh9 hs;have h2:=yaS s;refine ⟨by omega,by omega,by omega,ya1 (Nat.div_le_self _ _) (zrT s hm),λ p hp=>?_⟩;rw [znB] at hp;obtain ⟨j,hj,_,e⟩:=zfB.mp hp;have a:=zhO s hj;have b:plc m j < w:=zaM hm hj;omega
def zlX {w m:Nat} (hw:1 <= w) (hm:m < 2 ^ w):∀ i,i <= zaz (w - 1) -> Ld w (rowL w ((List.range i).map (λ i=>strD m (zaz (w - 1) - 1 - i)))) /\
    ∀ j,j < (zac m).length -> (rowL w ((List.range i).map (λ i=>strD m (zaz (w - 1) - 1 - i)))).getD (posN m (zaz (w - 1) - i) j) 0=(j:Int)
  | 0,_=>by
    refine ⟨zdy w,λ j hj=>?_⟩;have hl:=zay hm;rw [Nat.sub_zero,zni (zqi hw hm hj)];show (zaE w).getD j 0=_;rw [zaE,yab,yaf,yay (1:)];rfl
  | i + 1,hi=>by
    obtain ⟨h1,h2⟩:=zlX hw hm i (1:);obtain ⟨s,es⟩:∃ s,s=zaz (w - 1) - 1 - i:=⟨_,rfl⟩
    have e1:zaz (w - 1) - i=s + 1:=by omega
    have e2:zaz (w - 1) - (i + 1)=s:=by omega
    have ok:=zo6 (m:=m) (s:=s) hm (1:)
    have e:rowL w ((List.range (i + 1)).map (λ i=>strD m (zaz (w - 1) - 1 - i)))=zax (rowL w ((List.range i).map (λ i=>strD m (zaz (w - 1) - 1 - i)))) ((strD m s).led w):=by
      rw [yar,yae];unfold rowL;rw [ya7,es];rfl
    rw [e,e2];rw [e1] at h2;refine ⟨zbv h1 ((strD m s).led_ld ok),λ j hj=>?_⟩;have hpw:posN m s j < w:=ya1 (zhO s hj) (zaM hm hj);rw [zbK ((strD m s).led_ld ok) hpw,zfx _ hpw];have ev:(strD m s).src w (posN m s j)=(if inM (upN m s / 2 ^ (2 ^ s)) ((posN m s j:Int) - ((2 ^ s:Nat):Int)) then (posN m s j:Int) - ((2 ^ s:Nat):Int) else posN m s j):=rfl;have st:=zgb m s j;by_cases hb:(wayN m j).testBit s=true
    · rw [hb, if_pos rfl] at st;have c : (posN m s j : Int) - ((2 ^ s : Nat) : Int) = (posN m (s + 1) j : Int) := by omega
      rw [c,ziX,znB,<- st,if_pos (zfB.mpr ⟨j,hj,hb,rfl⟩)] at ev;rw [ev,if_pos (1:),yak];exact h2 j hj
    · rw [if_neg hb, ybV] at st
      have:¬ inM (upN m s / 2 ^ (2 ^ s)) ((posN m s j:Int) - ((2 ^ s:Nat):Int))=true:=λ z=>by
        simp only [inM,yal,decide_eq_true_iff] at z;rw [znB] at z;obtain ⟨k,hk,hbk,ek⟩:=zfB.mp z.2;have:=zof (s:=s) hk hj (1:);subst this;exact hb hbk
      rw [if_neg this] at ev;rw [ev,if_pos (1:),yak,st];exact h2 j hj
def zne {w m:Nat} (hw:1 <= w) (hm:m < 2 ^ w):rowL w (zh4 w m)=(Dd.strew m).led w:=by
 obtain ⟨h1,h2⟩:=zlX hw hm (zaz (w - 1)) (yaj _);rw [Nat.sub_self] at h2;have ok:(Dd.and m).ok w:=hm
 have e:rowL w (zh4 w m)=zax (rowL w ((List.range (zaz (w - 1))).map (λ i=>strD m (zaz (w - 1) - 1 - i)))) ((Dd.and m).led w):=by
  unfold zh4 rowL;rw [ya7];rfl
 rw [e];apply ybt;intro q;by_cases hq:q < w
 ·have l1:q < (zax (rowL w ((List.range (zaz (w - 1))).map (λ i=>strD m (zaz (w - 1) - 1 - i)))) ((Dd.and m).led w)).length:=by
   rw [(zbv h1 (Dd.led_ld ok)).1]; exact hq
  have l2:q < ((Dd.strew m).led w).length:=by rw [Dd.led,yaa,yah]; exact hq
  have g1:=zbK (ls:=rowL w ((List.range (zaz (w - 1))).map (λ i=>strD m (zaz (w - 1) - 1 - i)))) (Dd.led_ld ok) hq;have g2:=zfx (Dd.strew m) hq;rw [yab,yac l1] at g1;rw [yab,yac l2] at g2;rw [yac l1,yac l2];congr 1;refine Eq.trans g1 (Eq.trans ?_ g2.symm);rw [zfx _ hq];have eb:(Dd.strew m).src w q=(if m.testBit q then ((zac m).idxOf q:Int) else -1):=rfl;by_cases hc:m.testBit q=true
  ·have ea : (Dd.and m).src w q = (q : Int) := by simp only [Dd.src, hc, if_true]
   rw [ea,if_pos (1:),yak,eb,if_pos hc];obtain ⟨i1,i2⟩:=zaO hc;have:=h2 _ i1;rw [zme i1] at this;have i2':plc m ((zac m).idxOf q)=q:=i2;rw [i2'] at this;exact this
  ·have ea:(Dd.and m).src w q=-1:=by
    show (if m.testBit q then (q:Int) else -1)=-1;rw [if_neg hc]
   rw [ea,if_neg (1:),eb,if_neg hc]
 ·rw [yaK (by rw [(zbv h1 (Dd.led_ld ok)).1]; omega),yaK (by rw [Dd.led,yaa,yah]; omega)]
noncomputable def zmp:Sp:=λ vs H Q _=>∃ w m:Nat,vs=[nV w,nV m] /\ 1 <= w /\ w <= 64 /\ m < 2 ^ w /\ ∀ (l:Addr) (L:List (Addr × Dd)) (H':Hp),H l=none -> Same H H' -> dds L=zh4 w m -> Rw H' w L -> H' l=some (.lst (rowV L)) -> Q (.ref l) H'
section
variable {X:Cx} {K:PySem.W.Frag}
end
noncomputable def SqIt:Bool -> Heap -> Addr -> Addr -> Nat -> Prop
 | true,h,it,l,i=>h.IsListIter it l i
 | false,h,it,l,i=>h.IsTupleIter it l i
noncomputable def SqOb:Bool -> Heap -> Addr -> Array Value -> Prop
 | true,h,l,xs=>h.IsList l xs
 | false,h,l,xs=>h.IsTuple l xs
section
variable {prog:Program} {w:World} {A:Around} {E:Value -> Shared -> Prop} {s:Shared}
variable {z TI TO i1 i2:Addr} {f1 f2:List Addr} {n1 n2 k:Nat} {P1 P2:Nat -> Value -> Prop} {S1 S2:Nat -> Heap -> Prop} {a b:Value}
end
section
variable {prog:Program} {w:World} {A:Around} {E:Value -> Shared -> Prop} {s:Shared}
end
noncomputable def SqB:Bool -> PySem.W.Frag -> Hp -> Addr -> List V -> Prop
 | true,K,H,a,xs=>SqL K H a xs
 | false,K,H,a,xs=>SqT K H a xs
inductive Alike (H:Hp):Nat -> V -> V -> Prop where
 | non (n:Nat):Alike H n .non .non
 | bl (n:Nat) (b:Bool):Alike H n (.bl b) (.bl b)
 | int (n:Nat) (i:Int):Alike H n (.int i) (.int i)
 | str (n:Nat) (s:Str) (h:shpd (.str s)=true):Alike H n (.str s) (.str s)
 | lst {n:Nat} {a b:Addr} {xs ys:List V} (ha:H a=some (.lst xs)) (hb:H b=some (.lst ys)) (hl:xs.length=ys.length) (hz:xs.length <= 10000) (hi:∀ (i:Nat) (x y:V),xs[i]?=some x -> ys[i]?=some y -> Alike H n x y):Alike H (n + 1) (.ref a) (.ref b)
 | tup {n:Nat} {a b:Addr} {xs ys:List V} (ha:H a=some (.tup xs)) (hb:H b=some (.tup ys)) (hl:xs.length=ys.length) (hz:xs.length <= 10000) (hi:∀ (i:Nat) (x y:V),xs[i]?=some x -> ys[i]?=some y -> Alike H n x y):Alike H (n + 1) (.ref a) (.ref b)
section
variable {K:PySem.W.Frag} {H:Hp} {Q:VK}
end
noncomputable def zfA (w m:Nat) (n:Int):Bool:=(zac m).all λ (p:Nat)=>decide ((0:Int) <= (p:Int) + n) && decide ((p:Int) + n <= (w:Int) - 1)
def ziv {w m:Nat} {n:Int}:zfA w m n=true ↔ ∀ p,m.testBit p=true -> 0 <= (p:Int) + n /\ (p:Int) + n < w:=by
 unfold zfA;rw [ybo];constructor
 ·intro h p hp;have:=h p (za7.mpr hp);simp only [yal,decide_eq_true_iff] at this;omega
 ·intro h p hp;have:=h p (za7.mp hp);simp only [yal,decide_eq_true_iff];omega
def zjN {m n:Nat}:(m &&& m * 2 ^ n)=0 ↔ ∀ p,m.testBit p=true -> m.testBit (p + n)=false:=by
 constructor
 ·intro h p hp;have : (m &&& m * 2 ^ n).testBit (p + n) = false := by rw [h, Nat.zero_testBit]
  rw [yaQ,ya9,ycm,hp,decide_eq_true (Nat.le_add_left n p)] at this;simpa using this
 ·intro h;apply ybc;intro i;rw [Nat.zero_testBit, yaQ, ya9];by_cases c : n <= i
  ·cases z : m.testBit (i - n)
   ·simp
   ·have:=h _ z;rw [show i - n + n=i by omega] at this;rw [this]; rfl
  ·simp [c]
noncomputable def zqf:Sp:=λ vs H Q _=>∃ (w m:Nat) (n:Int),vs=[nV w,nV m,.int n] /\ m < 2 ^ 64 /\ ∀ H',Same H H' -> Q (.bl (zfA w m n)) H'
noncomputable def znL:Sp:=λ vs H Q _=>∃ (w m n:Nat),vs=[nV w,nV m,nV n] /\ m < 2 ^ 64 /\ n < 64 /\ ∀ H',Same H H' -> Q (.bl (zfA w m n && decide ((m &&& m * 2 ^ n)=0))) H'
noncomputable def zoz:Sp:=λ vs H Q _=>∃ (w x:Nat) (s:Str) (d:Dd),vs=[nV w,.str s,nV x] /\ d.vals=[.str s,nV x] /\ 1 <= w /\ w <= 64 /\ ∀ b H',(b=true ↔ d.ok w) -> Same H H' -> Q (.bl b) H'
noncomputable def zoU:Sp:=λ vs H Q _=>∃ (w m:Nat) (n:Int) (s:Str) (d:Dd),vs=[nV w,.str s,nV m,.int n] /\ d.vals=[.str s,nV m,.int n] /\ 1 <= w /\ w <= 64 /\ ∀ b H',(b=true ↔ d.ok w) -> Same H H' -> Q (.bl b) H'
noncomputable def zl4:Sp:=λ vs H Q _=>∃ (w:Nat) (a:Addr) (d:Dd),vs=[nV w,.ref a] /\ H a=some (.tup d.vals) /\ 1 <= w /\ w <= 64 /\ ∀ b H',(b=true ↔ d.ok w) -> Same H H' -> Q (.bl b) H'
def zcL {x hi:Nat}:(decide ((0:Int) <= (x:Int)) && decide ((x:Int) <= (hi:Int)))=true ↔ x <= hi:=by
 simp only [yal,decide_eq_true_iff];omega
def zkP {x w:Nat}:x <= 2 ^ w - 1 ↔ x < 2 ^ w:=by
 have:=yaS w;omega
section
variable {K:PySem.W.Frag} {H:Hp} {Q:VK} {x y:V} {d:PyData}
end
def zeW (w:Nat) (ds:List Dd) (d:Dd):rowL w (ds ++ [d])=zax (rowL w ds) (d.led w):=by
 unfold rowL; rw [ya7]; rfl
def SqA.of {K:PySem.W.Frag} {H:Hp} {a:Addr} {xs:List V} (h:H a=some (.lst xs)):SqA K H a xs:=.inl (SqL.of h)
def SqT.keepAt {K:PySem.W.Frag} {H H':Hp} {a:Addr} {xs:List V} (h:SqT K H a xs) (k:∀ o,H a=some o -> H' a=some o):SqT K H' a xs:=by
 rcases h with (h | ⟨o,h⟩) | h
 ·exact .inl (.inl (k _ h))
 ·exact .inl (.inr ⟨o,k _ h⟩)
 ·exact .inr h
def SqL.keepAt {K:PySem.W.Frag} {H H':Hp} {a:Addr} {xs:List V} (h:SqL K H a xs) (k:∀ o,H a=some o -> H' a=some o):SqL K H' a xs:=by
 rcases h with (h | ⟨o,h⟩) | h
 ·exact .inl (.inl (k _ h))
 ·exact .inl (.inr ⟨o,k _ h⟩)
 ·exact .inr h
noncomputable def SqH (H:Hp) (a:Addr) (xs:List V):Prop:=H a=some (.lst xs) \/ H a=some (.tup xs)
def SqH.same {H H':Hp} {a:Addr} {xs:List V} (h:SqH H a xs) (s:Same H H'):SqH H' a xs:=h.elim (λ z=>.inl (s _ _ z)) (λ z=>.inr (s _ _ z))
def SqH.sqA {K:PySem.W.Frag} {H:Hp} {a:Addr} {xs:List V} (h:SqH H a xs):SqL K H a xs \/ SqT K H a xs:=h.elim (λ z=>.inl (SqL.of z)) (λ z=>.inr (SqT.of z))
def SqH.obj {H:Hp} {a:Addr} {xs:List V} (h:SqH H a xs):∃ o,H a=some o:=h.elim (λ z=>⟨_,z⟩) (λ z=>⟨_,z⟩)
end L2
namespace Bm
end Bm
namespace L2
open PySem PySem.Spec PyProof.Rows Bm
section
variable {X:Cx} {K:PySem.W.Frag}
def zks {lo:Int} {acc:Array Value} {n:Nat} (h:ItemsOf (λ i v=>∃ t,v=Value.int (lo + i * 1) t) acc n):Vals ((List.range n).map λ (x:Nat)=>V.int (lo + x)) acc.toList:=by
 obtain ⟨h1,h2⟩:=h
 have key:∀ (n:Nat) (l:List Value) (k:Nat),l.length=n -> (∀ i v,l[i]?=some v -> ∃ t,v=Value.int (lo + ((k + i:Nat):Int)) t) -> Vals ((List.range' k n).map λ (x:Nat)=>V.int (lo + x)) l:=by
  intro n
  induction n with
  | zero=>intro l k e _; cases l with
   | nil=>exact .nil
   | cons _ _=>cases e
  | succ n ih=>
   intro l k e hv;cases l with
   | nil=>cases e
   | cons v l=>
    rw [ycI,ybv];refine .cons (hv 0 v rfl) (ih l (k + 1) (by simpa using e) λ i u hu=>?_);obtain ⟨t,rfl⟩:=hv (i + 1) u (by simpa using hu);exact ⟨t,by congr 2; omega⟩
 rw [ycM];refine key n acc.toList 0 (65:) λ i v e=>?_;obtain ⟨t,q⟩:=h2 i v (by simpa using e);exact ⟨t,by rw [q]; congr 2 <;> omega⟩
variable {a b:Expr} {ta:TA} {p p2 pos pos2:Pos}
end
section
variable {σ:St} {H:Hp} {Q:VK}
end
noncomputable def zaU (k:Nat) (ls:List Int):List Int:=ls.map λ e=>if 0 <= e then e + (k:Int) else e
def zdV (k:Nat) (ls:List Int):(zaU k ls).length=ls.length:=by simp [zaU]
def znH {k w:Nat} {ls:List Int} (h:Ld w ls):∀ e ∈ zaU k ls,-2 <= e /\ e < ((k + w:Nat):Int):=λ e he=>by
 simp only [zaU,yau] at he;obtain ⟨x,hx,rfl⟩:=he;have:=h.2 x hx
 split <;> omega
def zsn {n w:Nat} {a b:List Int} (ha:Ld n a) (hb:Ld w b):Ld (n + w) (a ++ zaU n b):=by
 refine ⟨by rw [yao,zdV,ha.1,hb.1],λ e he=>?_⟩;rcases yaA.mp he with z | z
 ·have:=ha.2 e z; omega
 ·exact znH hb e z
def zmi {α:Type} {P:List α -> Prop} (h0:P []) (h1:∀ l a,P l -> P (l ++ [a])) (l:List α):P l:=by
 have key:∀ m:List α,P m.reverse:=λ m=>by
  induction m with
  | nil=>exact h0
  | cons a m ih=>rw [ybM]; exact h1 _ _ ih
 have:=key l.reverse
 rwa [ybn] at this
noncomputable def LdE (ls:List Int):Prop:=Ld ls.length ls
noncomputable def Lds (H:Hp) (A:List (Addr × List Int)):Prop:=∀ q ∈ A,H q.1=some (.tup (q.2.map V.int)) /\ LdE q.2
def zbn {K:PySem.W.Frag} {a:Addr} {xs:List V} {src:List (Option Nat)} {σ:St} {g:TG} {tc:TT} {te:TE} {Q:VK} {H:Hp} (Pv:Nat -> List V -> Hp -> Prop) (h0:Pv 0 [] H) (len:∀ i acc H,Pv i acc H -> acc.length <= sizeLine) (hl:∀ i acc H,Pv i acc H -> SqT K H a xs)
  (step:∀ i u T acc H,xs[i]?=some u -> H T=none -> Pv i acc H -> g (.ref T) (capt src σ) (upd H T (.tup [.int (i:Int),u])) λ σ2 H2=>Ext (capt src σ) σ2 /\ tc σ2 H2 λ b H3=>if b=true then te σ2 H3 (λ y H4=>Pv (i + 1) (acc ++ [y]) H4) else Pv (i + 1) acc H3)
  (done:∀ acc H,Pv xs.length acc H -> ∀ p,H p=none -> Q (.ref p) (upd H p (.lst acc))):zdc (IteT K a xs) src σ g tc te Q H:=by
 refine ⟨λ i m acc H=>m=xs.length - i /\ i <= xs.length /\ Pv i acc H,⟨xs.length,by simp,ybA _,h0⟩,?_⟩;rintro i m acc H ⟨rfl,hi,p⟩;refine ⟨len i acc H p,?_⟩;by_cases hlt:i < xs.length
 ·refine .inr ⟨⟨hlt,hl i acc H p⟩,λ y H4=>Pv (i + 1) (acc ++ [y]) H4,λ H3=>Pv (i + 1) acc H3,λ y H4 q=>⟨xs.length - (i + 1),by omega,rfl,hlt,q⟩,λ H3 q=>⟨xs.length - (i + 1),by omega,rfl,hlt,q⟩,λ x H' y=>?_⟩;obtain ⟨T,u,rfl,hT,rfl,hu⟩:=y;exact step i u T acc H hu hT p
 ·have e : i = xs.length := by omega
  subst e;exact .inl ⟨⟨rfl,hl _ acc H p⟩,done acc H p⟩
section
variable {X:Cx}
end
noncomputable def Rws (H:Hp) (w:Nat) (T:List (Addr × List (Addr × Dd))):Prop:=∀ q ∈ T,SqH H q.1 (rowV q.2) /\ Rw H w q.2
noncomputable def zpO (w m n:Nat):Bool:=zfA w m n && decide ((m &&& m * 2 ^ n)=0)
def zjx {w m n:Nat} (h1:1 <= n) (h2:n < w):zpO w m n=true ↔ (Dd.swap m n).ok w:=by
 unfold zpO;rw [yal,decide_eq_true_iff,ziv,zjN];constructor
 ·rintro ⟨a,b⟩;exact ⟨h1,h2,λ p hp=>⟨by have:=(a p hp).2; omega,b p hp⟩⟩
 ·rintro ⟨_,_,c⟩;exact ⟨λ p hp=>by have:=(c p hp).1; omega,λ p hp=>(c p hp).2⟩
noncomputable def Dd.tog (w:Nat):Dd -> Dd -> Option Dd
 | .and a,.and b=>some (.and (a &&& b))
 | .or a,.or b=>some (.or (a ||| b))
 | .left a,.left b=>some (.left (min (a + b) w))
 | .right a,.right b=>some (.right (min (a + b) w))
 | .turn a,.turn b=>some (.turn ((a + b) % w))
 | .swap a n,.swap b m=>if m=n /\ zpO w (a ||| b) n=true then some (.swap (a ^^^ b) n) else none
 | .gather a,.gather b=>some (.gather (za3 b a))
 | .strew a,.strew b=>some (.strew (za3 a b))
 | .gather a,.strew b=>if a=b then some (.and a) else none
 | .strew a,.gather b=>if a=b then some (.and (2 ^ (zac a).length - 1)) else none
 | _,_=>none
noncomputable def aft (w:Nat) (d:Dd) (z:Int):Int:=if 0 <= z then (d.led w).getD z.toNat 0 else z
def zcy {w:Nat} {d e f:Dd} (h:∀ p,p < w -> f.src w p=aft w d (e.src w p)):f.led w=zax (d.led w) (e.led w):=by
 unfold zax;rw [show e.led w=(List.range w).map λ p=>e.src w p from rfl,yaX];apply yaM;intro p hp;exact h p (yai.mp hp)
def led_getD {w:Nat} (d:Dd) {q:Nat} (h:q < w):(d.led w).getD q 0=d.src w q:=by
 rw [Dd.led,yab,yaf,yay h]; rfl
def zdx {w q:Nat} (d:Dd) (h:q < w):aft w d (q:Int)=d.src w q:=by rw [aft,if_pos (1:),yak,led_getD d h]
def zfE {w:Nat} {z:Int} (d:Dd) (h:z < 0):aft w d z=z:=by rw [aft,if_neg (1:)]
def zfk:∀ (ps:List Nat) (w:Nat),ps.Pairwise (· < ·) -> (∀ p ∈ ps,p < w) -> (List.range w).filter (λ k=>decide (k ∈ ps))=ps:=by
 intro ps;refine zmi (P:=λ ps=>∀ w,ps.Pairwise (· < ·) -> (∀ p ∈ ps,p < w) -> (List.range w).filter (λ k=>decide (k ∈ ps))=ps) (λ w _ _=>by simp) (λ ps p ih w hp hw=>?_) ps;have hpw:p < w:=hw p (8:);rw [yaH] at hp;have hlt:∀ x ∈ ps,x < p:=λ x hx=>hp.2.2 x hx p (8:)
 have e1:(List.range w).filter (λ k=>decide (k ∈ ps ++ [p]))=(List.range (p + 1)).filter (λ k=>decide (k ∈ ps ++ [p])):=by
  refine zdo (1:) λ i hi=>decide_eq_false λ z=>?_;rcases yaA.mp z with y | y
  ·have:=hlt i y; omega
  ·rw [yax.mp y] at hi; omega
 rw [e1,yar,yap];congr 1
 ·rw [<- ih p hp.1 hlt];apply List.filter_congr;intro k hk;have := yai.mp hk;apply decide_eq_decide.mpr;rw [ih p hp.1 hlt];constructor
  ·intro z;rcases yaA.mp z with y | y
   ·exact y
   ·rw [yax.mp y] at this; omega
  ·exact λ z=>ybI _ z
 ·simp
def zle {ps:List Nat} (h:ps.Pairwise (· < ·)):zac (zaI ps)=ps:=by
 obtain ⟨w,hw⟩:∃ w,∀ p ∈ ps,p < w:=by
  refine zmi (P:=λ ps=>∃ w,∀ p ∈ ps,p < w) ⟨0,λ _ z=>(nomatch z)⟩ (λ ps p ih=>?_) ps;obtain ⟨w,hw⟩:=ih;refine ⟨w + p + 1,λ q hq=>?_⟩;rcases yaA.mp hq with z | z
  ·have:=hw q z; omega
  ·rw [yax.mp z]; omega
 rw [zb2 (mask_lt hw)];rw [show (zaI ps).testBit=λ k=>decide (k ∈ ps) from funext λ k=>zau ps k];exact zfk ps w h hw
def zfZ (n m:Nat):zac (za3 n m)=zbD n m (zac m).length:=by
 rw [za3];apply zle;unfold zbD;rw [yb3];have hp:((List.range (zac m).length).filter n.testBit).Pairwise (· < ·):=ycN _ ybr;refine hp.imp_of_mem ?_;intro a b ha hb hab;exact zeL hab (yai.mp (yaq.mp hb).1)
def zlZ {n m w:Nat} (h:m < 2 ^ w):za3 n m < 2 ^ w:=mask_lt λ x hx=>zkn h hx
def zhV (b l:Nat):∃ r,zac b=(List.range l).filter b.testBit ++ r /\ ∀ x ∈ r,l <= x:=by
 have hb:b < 2 ^ (l + zaz b):=yag (zgF b) (yaG (3:) (1:));refine ⟨((List.range (zaz b)).map (l + ·)).filter b.testBit,?_,λ x hx=>?_⟩
 ·rw [zb2 hb,List.range_add,yap]
 ·obtain ⟨y,_,rfl⟩:=yau.mp (yaq.mp hx).1;omega
def zsw {w a b:Nat} (ha:a < 2 ^ w) (hb:b < 2 ^ w) (p:Nat):(Dd.gather (za3 b a)).src w p=if 0 <= (Dd.gather b).src w p then ((Dd.gather a).led w).getD ((Dd.gather b).src w p).toNat 0 else (Dd.gather b).src w p:=by
 obtain ⟨r,e,hr⟩:=zhV b (zac a).length;have hs:=zfZ b a;have hlen:(zbD b a (zac a).length).length=((List.range (zac a).length).filter b.testBit).length:=by rw [zbD,yaa]
 show (if p < (zac (za3 b a)).length then ((zac (za3 b a)).getD p 0:Int) else -1)=_;show _=if 0 <= (if p < (zac b).length then ((zac b).getD p 0:Int) else -1) then ((Dd.gather a).led w).getD (if p < (zac b).length then ((zac b).getD p 0:Int) else -1).toNat 0 else (if p < (zac b).length then ((zac b).getD p 0:Int) else -1)
 rw [hs];by_cases c1:p < ((List.range (zac a).length).filter b.testBit).length
 ·have c2 : p < (zac b).length := by rw [e, yao]; omega
  have g1:(zac b).getD p 0=((List.range (zac a).length).filter b.testBit).getD p 0:=by
   rw [e,yab,ya4 c1,<- yab]
  have g2:((List.range (zac a).length).filter b.testBit).getD p 0 < (zac a).length:=by
   rw [yab,yac c1];exact yai.mp (yaq.mp (ybp c1)).1
  have g3:(zbD b a (zac a).length).getD p 0=(zac a).getD (((List.range (zac a).length).filter b.testBit).getD p 0) 0:=by
   rw [zbD,yab,yaf,yac c1,yab (l:=(List.range _).filter _),yac c1]; rfl
  have lw:=zay ha;rw [if_pos (by rw [hlen]; exact c1),if_pos c2,if_pos (1:),yak,g1,led_getD _ (1:),g3];show _=if _ then _ else _
  rw [if_pos g2]
 ·rw [if_neg (by rw [hlen]; exact c1)];by_cases c2 : p < (zac b).length
  ·have g1:(zac a).length <= (zac b).getD p 0:=by
    have c3:p - ((List.range (zac a).length).filter b.testBit).length < r.length:=by
     rw [e,yao] at c2; omega
    rw [e,yab,ya8 (1:),yac c3];exact hr _ (ybp c3)
   have g2:=zaM hb c2;rw [if_pos c2,if_pos (1:),yak,led_getD _ g2];show _=if _ then _ else _
   rw [if_neg (1:)]
  ·rw [if_neg c2,if_neg (1:)]
def zfq {m j:Nat} (h:j < (zac m).length):(zac m).idxOf ((zac m).getD j 0)=j:=by
 have hb:m.testBit ((zac m).getD j 0)=true:=zdw.mpr ⟨j,h,rfl⟩;obtain ⟨h1,h2⟩:=zaO hb;exact zd0 h1 h h2
def zr4 {w a b:Nat} (ha:a < 2 ^ w) (hb:b < 2 ^ w) (p:Nat):(Dd.strew (za3 a b)).src w p=if 0 <= (Dd.strew b).src w p then ((Dd.strew a).led w).getD ((Dd.strew b).src w p).toNat 0 else (Dd.strew b).src w p:=by
 show (if (za3 a b).testBit p then ((zac (za3 a b)).idxOf p:Int) else -1)=if 0 <= (if b.testBit p then ((zac b).idxOf p:Int) else -1) then ((Dd.strew a).led w).getD (if b.testBit p then ((zac b).idxOf p:Int) else -1).toNat 0 else (if b.testBit p then ((zac b).idxOf p:Int) else -1)
 by_cases c:b.testBit p=true
 ·obtain ⟨h1, h2⟩ := zaO c;have lw := zay hb;generalize hj : (zac b).idxOf p = j at h1 h2;rw [if_pos c, if_pos (show (0 : Int) <= (j : Int) by omega), yak, led_getD _ (1:), show (Dd.strew a).src w j = (if a.testBit j then ((zac a).idxOf j : Int) else -1) from rfl];have hbit : (za3 a b).testBit p = a.testBit j := by rw [<- h2]; exact zlk a b j h1
  by_cases d:a.testBit j=true
  ·rw [if_pos d, if_pos (show (za3 a b).testBit p = true by rw [hbit]; exact d)];congr 1;have hs := zfZ a b;obtain ⟨g1, g2⟩ := zaO d
   -- the place of p among the strewn ones is that of j among a's
   have key:(zac (za3 a b)).getD ((zac a).idxOf j) 0=p /\ (zac a).idxOf j < (zac (za3 a b)).length:=by
    obtain ⟨r,e,hr⟩:=zhV a (zac b).length;have hmem:j ∈ (List.range (zac b).length).filter a.testBit:=yaq.mpr ⟨yai.mpr h1,d⟩;obtain ⟨i,hi,ei⟩:=ybC.mp hmem;have gi:(zac a).getD i 0=j:=by rw [e,yab,ya4 hi,yac hi]; exact ei
    have ii:(zac a).idxOf j=i:=by
     have:=zfq (m:=a) (j:=i) (by rw [e,yao]; omega)
     rwa [gi] at this
    have c1:(zac a).idxOf j < ((List.range (zac b).length).filter a.testBit).length:=by rw [ii]; exact hi
    have q1:((List.range (zac b).length).filter a.testBit).getD ((zac a).idxOf j) 0=j:=by rw [ii,yab,yac hi]; exact ei
    refine ⟨?_,by rw [hs,zbD,yaa]; exact c1⟩;rw [hs,zbD,yab,yaf];rw [yab,yac c1] at q1;rw [yac c1];show (zac b).getD (((List.range (zac b).length).filter a.testBit)[(zac a).idxOf j]) 0=p;rw [show ((List.range (zac b).length).filter a.testBit)[(zac a).idxOf j]=j from q1];exact h2
   have:=zfq key.2;rw [key.1] at this;omega
  ·rw [if_neg d,if_neg (show ¬ (za3 a b).testBit p=true by rw [hbit]; exact d)]
 ·have:¬ (za3 a b).testBit p=true:=λ z=>by
   obtain ⟨j,h1,_,h3⟩:=(zfa a b p).mp z;exact c (zdw.mpr ⟨j,h1,h3⟩)
  rw [if_neg c,if_neg this,if_neg (show ¬ (0:Int) <= -1 by omega)]
noncomputable def swT (m n q:Nat):Nat:=if n <= q /\ m.testBit (q - n)=true then q - n else if m.testBit q=true then q + n else q
def zgG {m n q:Nat} (h:n <= q) (k:m.testBit (q - n)=true):swT m n q=q - n:=if_pos ⟨h,k⟩
def zgy {m n q:Nat} (h:¬ (n <= q /\ m.testBit (q - n)=true)) (k:m.testBit q=true):swT m n q=q + n:=by rw [swT,if_neg h,if_pos k]
def zeh {m n q:Nat} (h:¬ (n <= q /\ m.testBit (q - n)=true)) (k:m.testBit q=false):swT m n q=q:=by rw [swT,if_neg h,if_neg (by rw [k]; decide)]
def zn7 (m n w q:Nat):(Dd.swap m n).src w q=(swT m n q:Int):=by
 show (if inM m ((q:Int) - n) then (q:Int) - n else if m.testBit q then (q:Int) + n else q)=_;by_cases c:n <= q /\ m.testBit (q - n)=true
 ·have:inM m ((q:Int) - n)=true:=by
   unfold inM;rw [decide_eq_true (1:),show ((q:Int) - n).toNat=q - n by omega,c.2]; rfl
  rw [if_pos this,zgG c.1 c.2]; omega
 ·have:¬ inM m ((q:Int) - n)=true:=λ z=>by
   unfold inM at z;rw [yal,decide_eq_true_iff] at z;rw [show ((q:Int) - n).toNat=q - n by omega] at z;exact c ⟨by omega,z.2⟩
  rw [if_neg this];cases e:m.testBit q
  ·rw [zeh c e]; rfl
  ·rw [zgy c e]; simp
def zn4 {w a b n:Nat} (ha:(Dd.swap a n).ok w) (hb:(Dd.swap b n).ok w) (hab:(Dd.swap (a ||| b) n).ok w) {p:Nat} (hp:p < w) :
  (Dd.swap (a ^^^ b) n).src w p=if 0 <= (Dd.swap b n).src w p then ((Dd.swap a n).led w).getD ((Dd.swap b n).src w p).toNat 0 else (Dd.swap b n).src w p:=by
 obtain ⟨h1,h2,h3⟩:=hab;have orb:∀ q,(a ||| b).testBit q=(a.testBit q || b.testBit q):=λ q=>ybf ..;have xob:∀ q,(a ^^^ b).testBit q=(a.testBit q ^^ b.testBit q):=λ q=>ybh ..
 have apart:∀ q,(a.testBit q || b.testBit q)=true -> a.testBit (q + n)=false /\ b.testBit (q + n)=false:=λ q hq=>by
  have:=(h3 q (by rw [orb]; exact hq)).2;rw [orb,Bool.or_eq_false_iff] at this;exact this
 have up:∀ q,(a.testBit q || b.testBit q)=true -> q + n < w:=λ q hq=>(h3 q (by rw [orb]; exact hq)).1
 -- what stands n below a place of either is of neither
 have below:∀ q,(a.testBit q || b.testBit q)=true -> ∀ m:Nat,(m=a \/ m=b \/ m=a ^^^ b) -> ¬ (n <= q /\ m.testBit (q - n)=true):=λ q hq m hm z=>by
  have hz:(a.testBit (q - n) || b.testBit (q - n))=true:=by
   rcases hm with rfl | rfl | rfl
   ·rw [z.2]; rfl
   ·rw [z.2]; simp
   ·have:=z.2;rw [xob] at this;cases ea:a.testBit (q - n) <;> cases eb:b.testBit (q - n) <;> simp_all
  have:=apart _ hz;rw [show q - n + n=q by omega] at this;rw [this.1,this.2] at hq;cases hq
 have key:swT (a ^^^ b) n p=swT a n (swT b n p) /\ swT b n p < w:=by
  by_cases c1:n <= p /\ (a.testBit (p - n) || b.testBit (p - n))=true
  ·obtain ⟨cn, cm⟩ := c1;have ap := apart (p - n) cm;rw [show p - n + n = p by omega] at ap;have bl := below (p - n) cm;cases ea : a.testBit (p - n) <;> cases eb : b.testBit (p - n)
   ·rw [ea,eb] at cm; cases cm
   ·rw [zgG (m:=b) cn eb,zgG (m:=a ^^^ b) cn (76:),zeh (m:=a) (bl a (.inl rfl)) ea];exact ⟨rfl,by omega⟩
   ·have nb : ¬ (n <= p /\ b.testBit (p - n) = true) := fun z => by rw [eb] at z; exact absurd z.2 (3:)
    rw [zeh (m:=b) nb ap.2,zgG (m:=a ^^^ b) cn (76:),zgG (m:=a) cn ea];exact ⟨rfl,hp⟩
   ·have nx : ¬ (n <= p /\ (a ^^^ b).testBit (p - n) = true) := fun z => by rw [xob, ea, eb] at z; exact absurd z.2 (3:)
    rw [zgG (m:=b) cn eb,zeh (m:=a ^^^ b) nx (by rw [xob,ap.1,ap.2]; rfl),zgy (m:=a) (bl a (.inl rfl)) ea];exact ⟨by omega,by omega⟩
  ·have lb : ¬ (n <= p /\ b.testBit (p - n) = true) := fun z => c1 ⟨z.1, by rw [z.2]; simp⟩;have la : ¬ (n <= p /\ a.testBit (p - n) = true) := fun z => c1 ⟨z.1, by rw [z.2]; simp⟩
   have lx:¬ (n <= p /\ (a ^^^ b).testBit (p - n)=true):=λ z=>by
    have:=z.2;rw [xob] at this;cases ea:a.testBit (p - n) <;> cases eb:b.testBit (p - n)
    ·rw [ea,eb] at this; cases this
    ·exact lb ⟨z.1,eb⟩
    ·exact la ⟨z.1,ea⟩
    ·exact lb ⟨z.1,eb⟩
   cases ea:a.testBit p <;> cases eb:b.testBit p
   ·rw [zeh (m:=b) lb eb,zeh (m:=a ^^^ b) lx (76:),zeh (m:=a) la ea];exact ⟨rfl,hp⟩
   ·have hu:=up p (by rw [eb]; simp);have ap:=apart p (by rw [eb]; simp);rw [zgy (m:=b) lb eb,zgy (m:=a ^^^ b) lx (76:),zeh (m:=a) (λ z=>by rw [ycm,ea] at z; exact absurd z.2 (3:)) ap.1];exact ⟨rfl,hu⟩
   ·rw [zeh (m:=b) lb eb,zgy (m:=a ^^^ b) lx (76:),zgy (m:=a) la ea];exact ⟨rfl,hp⟩
   ·have hu:=up p (by rw [eb]; simp);rw [zgy (m:=b) lb eb,zeh (m:=a ^^^ b) lx (76:),zgG (m:=a) (1:) (by rw [ycm]; exact ea)];exact ⟨by omega,hu⟩
 rw [zn7,zn7,if_pos (1:),yak,led_getD _ key.2,zn7,key.1]
def Dd.tog_led {w:Nat} {d e f:Dd} (hd:d.ok w) (he:e.ok w) (h:d.tog w e=some f):f.ok w /\ f.led w=zax (d.led w) (e.led w):=by
 cases d with
 | and a=>
  cases e <;> simp only [Dd.tog,reduceCtorEq,Option.some.injEq] at h;rename_i b;subst h;refine ⟨ya1 Nat.and_le_left hd,zcy λ p hp=>?_⟩;simp only [Dd.src,yaQ];by_cases eb:b.testBit p=true
  ·rw [if_pos eb,zdx _ hp];simp only [Dd.src,eb,Bool.and_true]
  ·rw [if_neg eb,zfE _ (1:),if_neg (by simp [eb])]
 | or a=>
  cases e <;> simp only [Dd.tog,reduceCtorEq,Option.some.injEq] at h;rename_i b;subst h;refine ⟨Nat.or_lt_two_pow hd he,zcy λ p hp=>?_⟩;simp only [Dd.src,ybf];by_cases eb:b.testBit p=true
  ·rw [if_pos eb,zfE _ (1:),if_pos (by simp [eb])]
  ·rw [if_neg eb,zdx _ hp];simp only [Dd.src,eb,Bool.or_false]
 | left a=>
  cases e <;> simp only [Dd.tog,reduceCtorEq,Option.some.injEq] at h;rename_i b;subst h;refine ⟨ycH _ _,zcy λ p hp=>?_⟩;simp only [Dd.src];by_cases c:b <= p
  ·rw [if_pos c, show (p : Int) - (b : Int) = ((p - b : Nat) : Int) by omega, zdx _ (1:)];simp only [Dd.src];by_cases c2 : a + b <= p
   ·rw [if_pos (1:),if_pos (1:)]; omega
   ·rw [if_neg (1:),if_neg (1:)]
  ·rw [if_neg c,zfE _ (1:),if_neg (1:)]
 | right a=>
  cases e <;> simp only [Dd.tog,reduceCtorEq,Option.some.injEq] at h;rename_i b;subst h;refine ⟨ycH _ _,zcy λ p hp=>?_⟩;simp only [Dd.src];by_cases c:p + b < w
  ·rw [if_pos c, show (p : Int) + (b : Int) = ((p + b : Nat) : Int) by omega, zdx _ c];simp only [Dd.src];by_cases c2 : p + b + a < w
   ·rw [if_pos (1:),if_pos c2]; omega
   ·rw [if_neg (1:),if_neg c2]
  ·rw [if_neg c,zfE _ (1:),if_neg (1:)]
 | turn a=>
  cases e <;> simp only [Dd.tog,reduceCtorEq,Option.some.injEq] at h;rename_i b;subst h;have ha:a < w:=hd;have hb:b < w:=he;refine ⟨ybl _ (1:),zcy λ p hp=>?_⟩
  have em:(a + b) % w=if a + b < w then a + b else a + b - w:=by
   split
   ·exact ya6 ‹_›
   ·rw [Nat.mod_eq_sub_mod (1:),ya6 (1:)]
  simp only [Dd.src];by_cases c:b <= p
  ·rw [if_pos c, show (p : Int) - (b : Int) = ((p - b : Nat) : Int) by omega, zdx _ (1:)];simp only [Dd.src];rw [em]
   split <;> split <;> split <;> omega
  ·rw [if_neg c, show (p : Int) - (b : Int) + (w : Int) = ((p + w - b : Nat) : Int) by omega, zdx _ (1:)];simp only [Dd.src];rw [em]
   split <;> split <;> split <;> omega
 | swap a n=>
  cases e <;> simp only [Dd.tog,reduceCtorEq] at h;rename_i b m;by_cases c:m=n /\ zpO w (a ||| b) n=true
  ·rw [if_pos c] at h;cases h;obtain ⟨rfl, c2⟩ := c;have hab := (zjx hd.1 hd.2.1).mp c2;refine ⟨⟨hd.1, hd.2.1, fun p hp => ?_⟩, zcy fun p hp => zn4 hd he hab hp⟩;rw [ybh] at hp
   have hor:(a ||| b).testBit p=true:=by
    rw [ybf];cases ea:a.testBit p <;> cases eb:b.testBit p <;> simp_all
   have:=hab.2.2 p hor;refine ⟨this.1,?_⟩;have h2:=this.2;rw [ybf,Bool.or_eq_false_iff] at h2;rw [ybh,h2.1,h2.2]; rfl
  ·rw [if_neg c] at h; cases h
 | gather a=>
  cases e <;> simp only [Dd.tog,reduceCtorEq,Option.some.injEq] at h
  ·rename_i b;subst h;exact ⟨zlZ hd,zcy λ p hp=>zsw hd he p⟩
  ·rename_i b;by_cases c : a = b
   ·rw [if_pos c] at h;cases h;subst c;refine ⟨hd, zcy fun p hp => ?_⟩;simp only [Dd.src];by_cases c : a.testBit p = true
    ·obtain ⟨h1,h2⟩:=zaO c;have lw:=zay hd;rw [if_pos c,if_pos c,zdx _ (1:)];simp only [Dd.src];rw [if_pos h1,h2]
    ·rw [if_neg c,if_neg c,zfE _ (1:)]
   ·rw [if_neg c] at h; cases h
 | strew a=>
  cases e <;> simp only [Dd.tog,reduceCtorEq,Option.some.injEq] at h
  ·rename_i b;by_cases c : a = b
   ·rw [if_pos c] at h;cases h;subst c;have lw := zay hd;refine ⟨yag (Nat.sub_lt (yaS _) (3:)) (yaG (3:) lw), zcy fun p hp => ?_⟩;simp only [Dd.src, ybd];by_cases c : p < (zac a).length
    ·have hb:a.testBit ((zac a).getD p 0)=true:=zdw.mpr ⟨p,c,rfl⟩;have g:=zaM hd c;rw [if_pos (decide_eq_true c),if_pos c,zdx _ g];simp only [Dd.src];rw [if_pos hb,zfq c]
    ·rw [if_neg (by rw [decide_eq_false c]; decide),if_neg c,zfE _ (1:)]
   ·rw [if_neg c] at h; cases h
  ·rename_i b;subst h;exact ⟨zlZ he,zcy λ p hp=>zr4 hd he p⟩
 | copy a n=>cases e <;> simp only [Dd.tog,reduceCtorEq] at h
noncomputable def Dd.nm:Dd -> Str
 | .and _=>"and" | .or _=>"or" | .left _=>"left" | .right _=>"right" | .turn _=>"turn" | .gather _=>"gather" | .strew _=>"strew" | .swap _ _=>"swap" | .copy _ _=>"copy"
noncomputable def Dd.num:Dd -> Nat
 | .and m=>m | .or m=>m | .left m=>m | .right m=>m | .turn m=>m | .gather m=>m | .strew m=>m | .swap m _=>m | .copy m _=>m
noncomputable def Dd.rest:Dd -> List V
 | .swap _ n=>[nV n] | .copy _ n=>[.int n] | _=>[]
def Dd.vals_nm (d:Dd):d.vals=.str d.nm :: nV d.num :: d.rest:=by cases d <;> rfl
def Dd.nm_shpd (d:Dd):shpd (.str d.nm)=true:=by cases d <;> (simp only [Dd.nm]; decide +kernel)
def Dd.nm_gather {d:Dd} (h:d.nm="gather"):∃ m,d=.gather m:=by
 cases d <;> first | exact ⟨_,rfl⟩ | exact absurd h (by simp only [Dd.nm]; decide +kernel)
def Dd.nm_strew {d:Dd} (h:d.nm="strew"):∃ m,d=.strew m:=by
 cases d <;> first | exact ⟨_,rfl⟩ | exact absurd h (by simp only [Dd.nm]; decide +kernel)
def Dd.tog_num {w:Nat} {d e:Dd} (h:d.nm ≠ e.nm) (k:d.num ≠ e.num):d.tog w e=none:=by
 cases d <;> cases e <;> first | rfl | exact absurd rfl h | (show (if _ then _ else _)=_; exact if_neg k)
def Dd.tog_else {w:Nat} {d e:Dd} (h:d.nm ≠ e.nm) (k1:¬ (d.nm="gather" /\ e.nm="strew")) (k2:¬ (d.nm="strew" /\ e.nm="gather")):d.tog w e=none:=by
 cases d <;> cases e <;> first | rfl | exact absurd rfl h | exact absurd ⟨rfl,rfl⟩ k1 | exact absurd ⟨rfl,rfl⟩ k2
noncomputable def TogV (H:Hp) (r:V):Option Dd -> Prop
 | none=>r=.non
 | some f=>∃ t,r=.ref t /\ H t=some (.tup f.vals)
noncomputable def zrA:Sp:=λ vs H Q _=>∃ (w:Nat) (a b:Addr) (d e:Dd),vs=[nV w,.ref a,.ref b] /\ H a=some (.tup d.vals) /\ H b=some (.tup e.vals) /\ d.ok w /\ e.ok w /\ 1 <= w /\ w <= 64 /\ ∀ r H',Same H H' -> TogV H' r (d.tog w e) -> Q r H'
noncomputable def zou:Sp:=λ vs H Q _=>∃ (w:Nat) (a b:Addr) (d e:Dd),vs=[nV w,.ref a,.ref b] /\ H a=some (.tup d.vals) /\ H b=some (.tup e.vals) /\ d.ok w /\ e.ok w /\ 1 <= w /\ w <= 64 /\ d.nm=e.nm /\ ∀ r H',Same H H' -> TogV H' r (d.tog w e) -> Q r H'
noncomputable def zhL:Sp:=λ vs H Q _=>∃ (w:Nat) (a b:Addr) (x n y m:Nat),vs=[nV w,.ref a,.ref b] /\ H a=some (.tup (Dd.swap x n).vals) /\ H b=some (.tup (Dd.swap y m).vals) /\ (Dd.swap x n).ok w /\ (Dd.swap y m).ok w /\ 1 <= w /\ w <= 64 /\ ∀ r H',Same H H' -> TogV H' r ((Dd.swap x n).tog w (Dd.swap y m)) -> Q r H'
def zqV {K:PySem.W.Frag} {d e:Dd} {H:Hp} {Q:VK} (h:Q (.bl (decide (d.nm=e.nm))) H):rEqU K (.str d.nm) (.str e.nm) H Q:=by
 refine zhY d.nm_shpd e.nm_shpd ?_;rw [show (d.nm == e.nm)=decide (d.nm=e.nm) by by_cases c:d.nm=e.nm <;> simp [c]];exact h
def ze5 {K:PySem.W.Frag} {d:Dd} {s:Str} {H:Hp} {Q:VK} (hs:shpd (.str s)=true) (h:Q (.bl (decide (d.nm=s))) H):rEqU K (.str d.nm) (.str s) H Q:=by
 refine zhY d.nm_shpd hs ?_;rw [show (d.nm == s)=decide (d.nm=s) by by_cases c:d.nm=s <;> simp [c]];exact h
section
variable {X:Cx} {K:PySem.W.Frag}
end
def zrp {K:PySem.W.Frag} {d e:Dd} {H:Hp} {Q:VK} (h:Q (.bl (!decide (d.nm=e.nm))) H):rNeU K (.str d.nm) (.str e.nm) H Q:=by
 refine zsH d.nm_shpd e.nm_shpd ?_;rw [show (d.nm == e.nm)=decide (d.nm=e.nm) by by_cases c:d.nm=e.nm <;> simp [c]];exact h
inductive AlikeI (H:Hp):Nat -> V -> V -> Prop where
 | non (n:Nat):AlikeI H n .non .non
 | int (n:Nat) (i:Int):AlikeI H n (.int i) (.int i)
 | str (n:Nat) (s:Str) (h:shpd (.str s)=true):AlikeI H n (.str s) (.str s)
 | lst {n:Nat} {a b:Addr} {xs ys:List V} (ha:H a=some (.lst xs)) (hb:H b=some (.lst ys)) (hl:xs.length=ys.length) (hz:xs.length <= 10000) (hi:∀ (i:Nat) (x y:V),xs[i]?=some x -> ys[i]?=some y -> AlikeI H n x y):AlikeI H (n + 1) (.ref a) (.ref b)
 | tup {n:Nat} {a b:Addr} {xs ys:List V} (ha:H a=some (.tup xs)) (hb:H b=some (.tup ys)) (hl:xs.length=ys.length) (hz:xs.length <= 10000) (hi:∀ (i:Nat) (x y:V),xs[i]?=some x -> ys[i]?=some y -> AlikeI H n x y):AlikeI H (n + 1) (.ref a) (.ref b)
section
variable {X:Cx}
end
end L2
namespace HT
open PySem PySem.Spec PyProof.Rows
section
variable {prog:Program} {w:World} {A:Around} {E:Value -> Shared -> Prop} {s:Shared}
end
end HT
namespace L2
open PySem PySem.Spec PyProof.Rows Bm
section
variable {X:Cx}
end
noncomputable def SqHB:Bool -> Hp -> Addr -> List V -> Prop
 | true,H,a,xs=>H a=some (.lst xs)
 | false,H,a,xs=>H a=some (.tup xs)
noncomputable def zcS (w:Nat) (d:Dd):Bool:=decide (d.led w=zaE w)
noncomputable def zpT (w:Nat) (q:Dd × Dd):Bool:=(q.1.tog w q.2).isNone
noncomputable def zcM (w:Nat) (ds:List Dd):Bool:=!((ds.map (zcS w)).any id) && ((ds.zip ds.tail).map (zpT w)).all id
def zjb {w:Nat} {ds:List Dd}:zcM w ds=true ↔ (∀ d ∈ ds,d.led w ≠ zaE w) /\ ∀ i d e,ds[i]?=some d -> ds[i + 1]?=some e -> d.tog w e=none:=by
 unfold zcM;rw [yal,ycz,List.any_eq_false,ybo];constructor
 ·rintro ⟨h1, h2⟩;refine ⟨fun d hd z => h1 (zcS w d) (yau.mpr ⟨d, hd, rfl⟩) (by simp [zcS, z]), fun i d e hd he => ?_⟩
  have hm:(d,e) ∈ ds.zip ds.tail:=by
   refine yat (i:=i) ?_;rw [List.getElem?_zip_eq_some];exact ⟨hd,by rw [List.getElem?_tail]; exact he⟩
  have:=h2 (zpT w (d,e)) (yau.mpr ⟨_,hm,rfl⟩);simpa [zpT] using this
 ·rintro ⟨h1, h2⟩;refine ⟨fun b hb => ?_, fun b hb => ?_⟩
  ·obtain ⟨d,hd,rfl⟩:=yau.mp hb;simpa [zcS] using h1 d hd
  ·obtain ⟨⟨d,e⟩,hq,rfl⟩:=yau.mp hb;obtain ⟨i,hi⟩:=List.getElem?_of_mem hq;rw [List.getElem?_zip_eq_some,List.getElem?_tail] at hi;simpa [zpT] using h2 i d e hi.1 hi.2
def zmV {w:Nat} {ds:List Dd} (h:zcM w ds=true) (k:Nat):zcM w (ds.take k)=true:=by
 rw [zjb] at h ⊢;refine ⟨λ d hd=>h.1 d (ybD hd),λ i d e hd he=>?_⟩;rw [ycn] at hd he
 split at hd
 ·split at he
  ·exact h.2 i d e hd he
  ·cases he
 ·cases hd
def zmA {w k:Nat} {ds:List Dd} {d:Dd} (h:zcM w (ds.take k)=true) (hd:ds[k]?=some d) (h1:d.led w ≠ zaE w) (h2:∀ e,0 < k -> ds[k - 1]?=some e -> e.tog w d=none):zcM w (ds.take (k + 1))=true:=by
 rw [zjb] at h ⊢;constructor
 ·intro e he;rw [yaz, hd] at he;rcases yaA.mp he with z | z
  ·exact h.1 e z
  ·obtain rfl : e = d := by simpa using z
   exact h1
 ·intro i a b ha hb;rw [ycn] at ha hb
  split at hb
  ·rename_i hi;rw [if_pos (1:)] at ha;by_cases e : i + 1 = k
   ·subst e;rw [hd] at hb;cases hb;exact h2 a (1:) (by simpa using ha)
   ·exact h.2 i a b (by rw [ycn,if_pos (1:)]; exact ha) (by rw [ycn,if_pos (1:)]; exact hb)
  ·cases hb
noncomputable def LR (H:Hp) (p l l2:Addr) (w:Nat) (L2 L:List (Addr × Dd)) (H':Hp):Prop:=But p H H' /\ Hand H' p /\ H' l2=some (.lst (rowV L2)) /\ Rw H' w L2 /\ Rw H' w L /\ H' l=some (.lst (rowV L))
def Rw.updL {H:Hp} {w:Nat} {l:Addr} {xs ys:List V} {L:List (Addr × Dd)} (h:Rw H w L) (hl:H l=some (.lst xs)):Rw (upd H l (.lst ys)) w L:=λ q hq=>by
 refine ⟨?_,(h q hq).2⟩;rw [zaA (λ e=>?_)]
 ·exact (h q hq).1
 ·have:=(h q hq).1;rw [e,hl] at this;cases this
def Same.updF {H H':Hp} {t:Addr} {o:HO} (s:Same H H') (h:H t=none):Same H (upd H' t o):=λ b u e=>by rw [zaA (zaC e h)]; exact s b u e
end L2
namespace L2
open PySem PySem.Spec PyProof.Rows
section
variable {κ:Type} [DecidableEq κ]
noncomputable def valV (kvs:List (κ × V)) (k:κ):Option V:=(kvs.find? λ kv=>decide (kv.1=k)).map (·.2)
noncomputable def putK (kvs:List (κ × V)) (k:κ) (v:V):List (κ × V):=
 if (kvs.any λ kv=>decide (kv.1=k))=true then kvs.map (λ kv=>if kv.1=k then (kv.1,v) else kv) else kvs ++ [(k,v)]
noncomputable def dropK (kvs:List (κ × V)) (k:κ):List (κ × V):=kvs.filter λ kv=>decide (kv.1 ≠ k)
end
noncomputable abbrev KT (H:Hp):List (List Key × V) -> List (List Key × Addr × Value) -> Prop:=Paired λ p q=>p.1=q.1 /\ H q.2.1=some (.tup (p.1.map kV)) /\ RelV p.2 q.2.2
section
variable {P:Program} {w:World} {H:Hp} {h:Heap} {a:Addr}
end
noncomputable def DGet (H:Hp) (a:Addr) (y:V) (r:Option V):Prop:=
 (∃ kvs k,Rd H a (.dK kvs) /\ y=kV k /\ r=valV kvs k) \/ ∃ kvs k b,Rd H a (.dT kvs) /\ y=.ref b /\ H b=some (.tup (k.map kV)) /\ r=valV kvs k
noncomputable def DPut (H:Hp) (a:Addr) (y v:V) (H':Hp):Prop:=
 (∃ kvs k,H a=some (.dK kvs) /\ y=kV k /\ kvs.length < sizeLine /\ H'=upd H a (.dK (putK kvs k v))) \/
 ∃ kvs k b,H a=some (.dT kvs) /\ y=.ref b /\ H b=some (.tup (k.map kV)) /\ kvs.length < sizeLine /\ H'=upd H a (.dT (putK kvs k v))
section
variable {X:Cx} {pins:List (Addr × Obj)} {σ:St} {H:Hp} {s:Shared} {a:Addr} {y v:V} {u r:Value} {o:Option V} {A:Around} {E:Value -> Shared -> Prop}
end
section
variable {X:Cx} {pins:List (Addr × Obj)} {σ:St} {H:Hp} {s:Shared} {a:Addr} {kvs:List (Key × V)} {k:Key} {u:Value} {A:Around} {E:Value -> Shared -> Prop}
end
section
variable {X:Cx} {o i e value:Expr} {pos pos' tpos:Pos} {td ty tv:TE}
end
section
variable {X:Cx} {pos:Pos}
end
section
variable {X:Cx} {pins:List (Addr × Obj)} {σ:St} {H:Hp} {s:Shared} {a:Addr} {y d:V} {u r:Value} {o:Option V} {A:Around} {E:Value -> Shared -> Prop}
end
section
variable {X:Cx} {o e f:Expr} {apos cpos:Pos} {td ty tx:TE}
end
section
variable {X:Cx} {pins:List (Addr × Obj)} {σ:St} {H:Hp} {s:Shared} {a:Addr} {kvs:List (Key × V)} {A:Around} {E:Value -> Shared -> Prop}
end
section
variable {X:Cx} {pins:List (Addr × Obj)} {σ:St} {H:Hp} {s:Shared} {a:Addr} {y:V} {u:Value} {A:Around} {E:Value -> Shared -> Prop}
end
open Bm
def pv1 {X:Cx} (i:Nat) {x:Str} {pos:Pos} (h:X.N[i]?=some x /\ Vis X.env.scope x /\ (x == ("__debug__":Str))=false /\ (x == ("__classdict__":Str))=false):PE X (.Name x pos) (tVar i):=pv i h.1 h.2.1 h.2.2.1 h.2.2.2
noncomputable def zcl (w:Nat):List Dd -> Dd -> List Dd
 | [],d=>if zcS w d=true then [] else [d]
 | e :: r,d=>if zcS w d=true then e :: r else match e.tog w d with
  | none=>d :: e :: r
  | some f=>zcl w r f
def zbz {w:Nat} {d:Dd} (h:zcS w d=true):∀ rs,zcl w rs d=rs
 | []=>by rw [zcl,if_pos h]
 | e :: r=>by rw [zcl,if_pos h]
def zeQ {w:Nat} {d:Dd} (h:zcS w d=false):zcl w [] d=[d]:=by rw [zcl,if_neg (by rw [h]; decide)]
def zdz {w:Nat} {d e:Dd} {r:List Dd} (h:zcS w d=false) (t:e.tog w d=none):zcl w (e :: r) d=d :: e :: r:=by rw [zcl,if_neg (by rw [h]; decide),t]
def zdv {w:Nat} {d e f:Dd} {r:List Dd} (h:zcS w d=false) (t:e.tog w d=some f):zcl w (e :: r) d=zcl w r f:=by rw [zcl,if_neg (by rw [h]; decide),t]
def zoe {w:Nat}:∀ (rs:List Dd) (d:Dd),(∀ x ∈ rs,x.ok w) -> d.ok w -> ∀ x ∈ zcl w rs d,x.ok w
 | [],d,_,hd=>by
  cases h:zcS w d with
  | true=>rw [zbz h]; intro x hx; cases hx
  | false=>rw [zeQ h]; intro x hx; rw [yax.mp hx]; exact hd
 | e :: r,d,hr,hd=>by
  cases h:zcS w d with
  | true=>rw [zbz h]; exact hr
  | false=>
   cases t:e.tog w d with
   | none=>
    rw [zdz h t];intro x hx;rcases yaD.mp hx with z | z
    ·rw [z]; exact hd
    ·exact hr x z
   | some f=>rw [zdv h t]; exact zoe r f (λ x hx=>hr x (.tail _ hx)) (Dd.tog_led (hr e (.head _)) hd t).1
def zdU (w:Nat) (ds:List Dd) (d:Dd):rowL w (ds ++ [d])=zax (rowL w ds) (d.led w):=by
 show List.foldl _ _ _=_;rw [ya7];rfl
def zl9 {w:Nat}:∀ (rs:List Dd) (d:Dd),(∀ x ∈ rs,x.ok w) -> d.ok w -> rowL w (zcl w rs d).reverse=zax (rowL w rs.reverse) (d.led w)
 | [],d,_,hd=>by
  cases h:zcS w d with
  | true=>
   rw [zbz h,show d.led w=zaE w from of_decide_eq_true h];exact (zfH (zdy w)).symm
  | false=>rw [zeQ h]; exact zdU w [] d
 | e :: r,d,hr,hd=>by
  have hrr:∀ x ∈ (e :: r).reverse,x.ok w:=λ x hx=>hr x (ycK.mp hx);have hr1:∀ x ∈ r.reverse,x.ok w:=λ x hx=>hr x (.tail _ (ycK.mp hx));cases h:zcS w d with
  | true=>
   rw [zbz h,show d.led w=zaE w from of_decide_eq_true h];exact (zfH (ze9 hrr)).symm
  | false=>
   cases t:e.tog w d with
   | none=>rw [zdz h t,ybM,zdU]
   | some f=>
    have g:=Dd.tog_led (hr e (.head _)) hd t;rw [zdv h t,zl9 r f (λ x hx=>hr x (.tail _ hx)) g.1,g.2,ybM,zdU,zcJ (e.led_ld (hr e (.head _))) (d.led_ld hd)]
def zi9 {w:Nat}:∀ (rs:List Dd) (d:Dd),(zcl w rs d).length <= rs.length + 1
 | [],d=>by
  cases h:zcS w d with
  | true=>rw [zbz h]; simp
  | false=>rw [zeQ h]; simp
 | e :: r,d=>by
  cases h:zcS w d with
  | true=>rw [zbz h]; simp
  | false=>
   cases t:e.tog w d with
   | none=>rw [zdz h t]; simp
   | some f=>rw [zdv h t]; have:=zi9 (w:=w) r f; simp; omega
def zh3 {w:Nat} {ds:List Dd} {d:Dd} (h:zcM w ds=true) (h1:d.led w ≠ zaE w) (h2:∀ e,ds[ds.length - 1]?=some e -> e.tog w d=none):zcM w (ds ++ [d])=true:=by
 have:=zmA (ds:=ds ++ [d]) (k:=ds.length) (d:=d) (by rw [List.take_left]; exact h) (8:) h1 (λ e h0 he=>h2 e (by rw [ya4 (1:)] at he; exact he));rw [yav (8:)] at this;exact this
def zhG {w:Nat}:∀ (rs:List Dd) (d:Dd),zcM w rs.reverse=true -> zcM w (zcl w rs d).reverse=true
 | [],d,hs=>by
  cases h:zcS w d with
  | true=>rw [zbz h]; exact hs
  | false=>
   rw [zeQ h];exact zh3 (ds:=[]) rfl (of_decide_eq_false h) (λ e he=>by simp at he)
 | e :: r,d,hs=>by
  cases h:zcS w d with
  | true=>rw [zbz h]; exact hs
  | false=>
   cases t:e.tog w d with
   | none=>
    rw [zdz h t,ybM];refine zh3 hs (of_decide_eq_false h) λ x hx=>?_;rw [ybM] at hx;simp at hx;rw [<- hx];exact t
   | some f=>
    rw [zdv h t];refine zhG r f ?_;have:=zmV hs r.reverse.length;rw [ybM,List.take_left] at this;exact this
noncomputable def zaH (w:Nat) (ds:List Dd):List Dd:=ds.foldl (zcl w) []
def zfU (w:Nat) (ds:List Dd) (d:Dd):zaH w (ds ++ [d])=zcl w (zaH w ds) d:=by
 unfold zaH;rw [ya7];rfl
def zew {w:Nat} (ds:List Dd) (hok:∀ d ∈ ds,d.ok w):(∀ d ∈ zaH w ds,d.ok w) /\ rowL w (zaH w ds).reverse=rowL w ds /\ zcM w (zaH w ds).reverse=true /\ (zaH w ds).length <= ds.length:=by
 have key:∀ n,n <= ds.length -> (∀ d ∈ zaH w (ds.take n),d.ok w) /\ rowL w (zaH w (ds.take n)).reverse=rowL w (ds.take n) /\ zcM w (zaH w (ds.take n)).reverse=true /\ (zaH w (ds.take n)).length <= n:=by
  intro n
  induction n with
  | zero=>intro _; exact ⟨λ d hd=>(nomatch hd),rfl,rfl,yaj _⟩
  | succ n ih=>
   intro hn;obtain ⟨a1,a2,a3,a4⟩:=ih (1:);obtain ⟨d,hd⟩:∃ d,ds[n]?=some d:=⟨_,yac (1:)⟩
   have hdo:=hok d (yat hd);rw [yaz,hd];show (∀ x ∈ zaH w (ds.take n ++ [d]),x.ok w) /\ rowL w (zaH w (ds.take n ++ [d])).reverse=rowL w (ds.take n ++ [d]) /\ zcM w (zaH w (ds.take n ++ [d])).reverse=true /\ (zaH w (ds.take n ++ [d])).length <= n + 1;rw [zfU,zdU,zl9 _ d a1 hdo,a2];have:=zi9 (w:=w) (zaH w (ds.take n)) d;exact ⟨zoe _ d a1 hdo,rfl,zhG _ d a3,by omega⟩
 have:=key ds.length (yaj _);rw [yav (yaj _)] at this;exact this
noncomputable def za9 (l:Addr) (H H':Hp):Prop:=∀ b o,b ≠ l -> H b=some o -> H' b=some o
def za9.refl (l:Addr) (H:Hp):za9 l H H:=λ _ _ _ h=>h
def za9.trans {l:Addr} {H H1 H2:Hp} (a:za9 l H H1) (b:za9 l H1 H2):za9 l H H2:=λ c o n h=>b c o n (a c o n h)
def Same.keepBut {l:Addr} {H H':Hp} (s:Same H H'):za9 l H H':=λ b o _ h=>s b o h
def za9.upd (l:Addr) (H:Hp) (o:HO):za9 l H (L2.upd H l o):=λ b u n h=>by rw [zaA n]; exact h
def za9.same {l:Addr} {H H0 H':Hp} (k:za9 l H0 H') (s:Same H H0) (h:H l=none):Same H H':=λ b o e=>k b o (zaC e h) (s b o e)
noncomputable def zgN:Sp:=λ vs H Q _=>∃ (w:Nat) (l a:Addr) (L:List (Addr × Dd)) (d:Dd),vs=[nV w,.ref l,.ref a] /\ H l=some (.lst (rowV L)) /\ Rw H w L /\ H a=some (.tup d.vals) /\ d.ok w /\ 1 <= w /\ w <= 64 /\ L.length <= 20000 /\
 ∀ (M:List (Addr × Dd)) (H':Hp),(dds M).reverse=zcl w (dds L).reverse d -> Rw H' w M -> H' l=some (.lst (rowV M)) -> za9 l H H' -> Q .non H'
noncomputable def zgk:Sp:=λ vs H Q _=>∃ (w:Nat) (a:Addr) (L:List (Addr × Dd)),vs=[nV w,.ref a] /\ SqH H a (rowV L) /\ Rw H w L /\ 1 <= w /\ w <= 64 /\ L.length <= 10000 /\
 ∀ (l:Addr) (M:List (Addr × Dd)) (H':Hp),(dds M).reverse=zaH w (dds L) -> Rw H' w M -> H l=none -> H' l=some (.lst (rowV M)) -> Same H H' -> Q (.ref l) H'
inductive Nt (H:Hp):V -> Prop where
 | non:Nt H .non
 | bl (b:Bool):Nt H (.bl b)
 | int (i:Int):Nt H (.int i)
 | str (s:Str):Nt H (.str s)
 | lst {a:Addr} {xs:List V} (e:H a=some (.lst xs)):Nt H (.ref a)
noncomputable def Kd (H:Hp) (v:V):Prop:=Nt H v \/ ∃ a xs,v=.ref a /\ H a=some (.tup xs)
noncomputable def zbG (v:V) (lo hi:Int):Bool:=match v with
 | .int i=>decide (lo <= i) && decide (i <= hi)
 | _=>false
noncomputable def ztH (xs:List V):Bool:=decide (1 <= xs.length) && decide (xs.length <= 64) && xs.all λ v=>zbG v (-2) ((xs.length:Int) - 1)
noncomputable def ztM (H:Hp) (v:V) (r:Bool):Prop:=(∃ a xs,v=.ref a /\ H a=some (.tup xs) /\ (∀ x ∈ xs,Kd H x) /\ xs.length <= 10000 /\ r=ztH xs) \/ (Nt H v /\ r=false)
noncomputable def ToldP (p:Addr) (H:Hp) (v:V):Prop:=v ≠ .ref p /\ ((∃ a xs,v=.ref a /\ H a=some (.tup xs) /\ (∀ x ∈ xs,Kd H x /\ x ≠ .ref p) /\ xs.length <= 10000) \/ Nt H v)
inductive Kx (H:Hp):V -> Prop where
 | non:Kx H .non
 | bl (b:Bool):Kx H (.bl b)
 | int (i:Int):Kx H (.int i)
 | str (s:Str) (h:shpd (.str s)=true):Kx H (.str s)
 | lst {a:Addr} (is:List Int) (e:H a=some (.lst (is.map V.int))):Kx H (.ref a)
 | tup {a:Addr} (is:List Int) (hl:is.length <= 1) (e:H a=some (.tup (is.map V.int))):Kx H (.ref a)
noncomputable def eqS (s:Str):V -> Bool
 | .str t=>s == t
 | _=>false
noncomputable def inS (ss:List Str) (v:V):Bool:=ss.any λ s=>eqS s v
section
variable {X:Cx} {K:PySem.W.Frag}
end
noncomputable def zs0 (w:Nat) (a b:V):Bool:=if inS ["and","or","gather","strew"] a then zbG b 0 ((2 ^ w - 1:Nat):Int) else if inS ["left","right"] a then zbG b 0 (w:Int) else eqS "turn" a && zbG b 0 ((w:Int) - 1)
noncomputable def natV:V -> Nat
 | .int i=>i.toNat
 | _=>0
noncomputable def intV:V -> Int
 | .int i=>i
 | _=>0
noncomputable def zr9 (w:Nat) (a m n:V):Bool:=zbG m 0 ((2 ^ w - 1:Nat):Int) && (if eqS "swap" a then zbG n 1 ((w:Int) - 1) && (zfA w (natV m) (intV n) && decide ((natV m &&& natV m * 2 ^ natV n)=0)) else if eqS "copy" a then zbG n (1 - (w:Int)) ((w:Int) - 1) && (intV n != 0) && zfA w (natV m) (intV n) else false)
noncomputable def zto (w:Nat):List V -> Bool
 | [a,b]=>zs0 w a b
 | [a,m,n]=>zr9 w a m n
 | _=>false
noncomputable def Tu (H:Hp) (a:Addr) (xs:List V):Prop:=H a=some (.tup xs) /\ (∀ x ∈ xs,Kd H x) /\ xs.length <= 1000 /\ ∀ x r,xs=x :: r -> r ≠ [] -> Kx H x
noncomputable def zsg (w:Nat) (H:Hp) (v:V) (r:Bool):Prop:=(∃ a xs,v=.ref a /\ Tu H a xs /\ r=zto w xs) \/ (Nt H v /\ r=false)
noncomputable def Th (H:Hp) (v:V):Prop:=(∃ a xs,v=.ref a /\ Tu H a xs) \/ Nt H v
noncomputable def KxP (p:Addr) (H:Hp) (v:V):Prop:=Kx H v /\ v ≠ .ref p
noncomputable def ThP (p:Addr) (H:Hp) (v:V):Prop:=v ≠ .ref p /\ ((∃ a xs,v=.ref a /\ H a=some (.tup xs) /\ (∀ x ∈ xs,KxP p H x) /\ xs.length <= 1000) \/ Nt H v)
noncomputable def RowIs (w:Nat) (H:Hp) (v:V) (r:Bool):Prop:=(∃ (a:Addr) (xs:List V) (f:Nat -> Bool),v=.ref a /\ SqH H a xs /\ (∀ i x,xs[i]?=some x -> zsg w H x (f i)) /\ xs.length <= 1000 /\ r=(List.range xs.length).all f) \/ (zbZ v=true /\ r=false)
noncomputable abbrev En:=Nat × List Int
noncomputable def nmE:List Str:=["and","or","left","right","turn","swap","gather","strew","copy"]
noncomputable def nmK (k:Nat):Str:=nmE.getD k "and"
noncomputable def dec (e:En):List V:=.str (nmK e.1) :: e.2.map V.int
noncomputable def fastD (w:Nat) (e:En):Bool:=match e.2 with
 | [b]=>if e.1=0 \/ e.1=1 \/ e.1=6 \/ e.1=7 then zbG (.int b) 0 ((2 ^ w - 1:Nat):Int) else if e.1=2 \/ e.1=3 then zbG (.int b) 0 (w:Int) else decide (e.1=4) && zbG (.int b) 0 ((w:Int) - 1)
 | [m,n]=>zbG (.int m) 0 ((2 ^ w - 1:Nat):Int) && (if e.1=5 then zbG (.int n) 1 ((w:Int) - 1) && (zfA w m.toNat n && decide ((m.toNat &&& m.toNat * 2 ^ n.toNat)=0)) else if e.1=8 then zbG (.int n) (1 - (w:Int)) ((w:Int) - 1) && (n != 0) && zfA w m.toNat n else false)
 | _=>false
noncomputable def TL (H:Hp) (L:List (Addr × En)):Prop:=∀ q ∈ L,H q.1=some (.tup (dec q.2))
noncomputable def tlV (L:List (Addr × En)):List V:=L.map λ q=>.ref q.1
noncomputable def Gr (H H':Hp) (l:Addr) (L:List (Addr × En)):Prop:=Same H H' /\ H' l=some (.lst (tlV L)) /\ TL H' L
noncomputable def tNo:TS:=λ _ _ _=>False
def ze7 {X:Cx} {e c:Option Expr} {pos:Pos}:PS X (.Raise e c pos) tNo:=λ _ _ _ _ _ _ h=>h.elim
noncomputable def zk7:List Nat:=[1,2,4,8,16,32,64]
noncomputable def zmn:Sp:=λ vs H Q _=>∃ w:Nat,vs=[nV w] /\ w ∈ zk7 /\ Q .non H
def zsm {K:PySem.W.Frag} {w:Nat} {a:Addr} {ws:List Nat} {H:Hp} {Q:VK} (hT:SqT K H a (ws.map nV)) (hw:w ∈ ws) (h:Q (.bl false) H):rIn K true (nV w) (.ref a) H Q:=by
 refine ⟨a,_,rfl,.inr hT,rfl,zhE _,?_⟩
 rw [if_pos rfl,show inV (nV w) (ws.map nV)=true by
  rw [show ws.map nV=ws.map λ (n:Nat)=>V.int (n:Int) from rfl,show nV w=V.int (w:Int) from rfl,zq0];exact decide_eq_true ⟨by omega,by rw [yak]; exact hw⟩]
 exact h
noncomputable def Dl (H:Hp) (L:List (Addr × Dd)):Prop:=∀ q ∈ L,H q.1=some (.tup q.2.vals)
def Dl.same {H H':Hp} {L:List (Addr × Dd)} (h:Dl H L) (s:Same H H'):Dl H' L:=λ q hq=>s _ _ (h q hq)
def Dl.app {H:Hp} {L M:List (Addr × Dd)} (h:Dl H L) (g:Dl H M):Dl H (L ++ M):=λ q hq=>(yaA.mp hq).elim (h q) (g q)
def Dl.one {H:Hp} {t:Addr} {d:Dd} (n:H t=some (.tup d.vals)):Dl H [(t,d)]:=λ q hq=>by rw [yax.mp hq]; exact n
def Dl.nil (H:Hp):Dl H []:=λ _ z=>(nomatch z)
def zcC (L:List (Addr × Dd)):(dds L).length=L.length:=yaa _
def dds_app' (L M:List (Addr × Dd)):dds (L ++ M)=dds L ++ dds M:=yae
noncomputable def On (H:Hp) (L:List (Addr × Nat)):Prop:=∀ q ∈ L,H q.1=some (.tup [nV q.2])
end L2
namespace Srt
open PySem PyProof.Rows
noncomputable def gallop':Bool -> Keyed -> Array Keyed -> Nat -> Nat -> Nat -> StateT SortSt Sem (Option Nat):=sortPriv% PySem.Builtin.gallop
noncomputable def beyond' (left:Bool) (key:Keyed) (arr:Array Keyed) (base i:Nat):StateT SortSt Sem (Option Bool):=do
  let x <- elem' arr (base + i)
  if left then lt' x key else return (<- lt' key x).map (!·)
noncomputable def zpG (left:Bool) (key:Keyed) (arr:Array Keyed) (base n lo0 hi0:Nat):StateT SortSt Sem (Option Nat):=do
 let mut lo:=lo0
 let mut hi:=hi0
 for _ in [0:n] do
  if lo >= hi then break
  let m:=lo + (hi - lo) / 2
  let some more <- beyond' left key arr base m | return none
  if more then lo:=m + 1 else hi:=m
 return some hi
noncomputable def goUp (left:Bool) (key:Keyed) (arr:Array Keyed) (base n hint:Nat):StateT SortSt Sem (Option Nat):=do
 let mut lastofs:=0
 let mut ofs:=1
 let maxofs:=n - hint
 for _ in [0:n] do
  if ofs >= maxofs then break
  let some more <- beyond' left key arr base (hint + ofs) | return none
  if !more then break
  lastofs:=ofs
  ofs:=2 * ofs + 1
 zpG left key arr base n (hint + lastofs + 1) (hint + min ofs maxofs)
noncomputable def zqj (left:Bool) (key:Keyed) (arr:Array Keyed) (base n hint:Nat):StateT SortSt Sem (Option Nat):=do
 let mut lastofs:=0
 let mut ofs:=1
 let maxofs:=hint + 1
 for _ in [0:n] do
  if ofs >= maxofs then break
  let some found <- beyond' left key arr base (hint - ofs) | return none
  if found then break
  lastofs:=ofs
  ofs:=2 * ofs + 1
 zpG left key arr base n (hint + 1 - min ofs maxofs) (hint - lastofs)
def gallop'_eq (left:Bool) (key:Keyed) (arr:Array Keyed) (base n hint:Nat):gallop' left key arr base n hint=(do
 let some right <- beyond' left key arr base hint | return none
 if right then goUp left key arr base n hint else zqj left key arr base n hint):=rfl
noncomputable def mergeLo':Array Keyed -> Array Keyed -> StateT SortSt Sem (Array Keyed):=sortPriv% PySem.Builtin.mergeLo
noncomputable def mergeHi':Array Keyed -> Array Keyed -> StateT SortSt Sem (Array Keyed):=sortPriv% PySem.Builtin.mergeHi
noncomputable def setMinGallop':Nat -> StateT SortSt Sem Unit:=sortPriv% PySem.Builtin.setMinGallop
noncomputable abbrev zbo (st:SortSt) (g:Nat):SortSt:=SortSt.mk' (kindOf st) (arrOf st) (pendingOf st) g (failedOf st)
def setMinGallop'_eq (g:Nat):setMinGallop' g=modify (λ s=>zbo s g):=rfl
section
variable {prog:Program} {w:World} {A:Around} {E:Value -> Shared -> Prop} {s:Shared}
noncomputable def zhW (x:Keyed):Prop:=∃ n t,x.1=.int n t
noncomputable def ze8 (xs:Array Keyed):Prop:=∀ (i:Nat) (x:Keyed),xs[i]?=some x -> zhW x
def zjj {st:SortSt} {x y:Keyed} {Q:Option Bool -> SortSt -> Prop} (hk:kindOf st=oneType') (hx:zhW x) (hy:zhW y)
  (h:Q (some (decide (numOf x.1 < numOf y.1))) st):wpS (model prog w) A E s (lt' x y) Q st:=by
 obtain ⟨a,t,e1⟩:=hx;obtain ⟨b,u,e2⟩:=hy;rw [lt'_eq];refine wpS_bind (wpS_get ?_);rw [hk,keyLt'_oneType,e1,e2];rw [e1,e2] at h;refine wpS_bind (wpS_lift (wpAny_attempt (oneLt_int ⟨rfl,?_⟩)));exact wpS_pure h
def zaK {st:SortSt} {xs:Array Keyed} {i:Nat} {Q:Keyed -> SortSt -> Prop} (hi:i < xs.size) (h:∀ x,xs[i]?=some x -> Q x st) :
  wpS (model prog w) A E s (elem' xs i) Q st:=by
 have e:xs[i]?=some xs[i]:=getElem?_pos _ i hi;rw [elem'_eq,e];exact wpS_pure (h _ e)
def K_at {xs:Array Keyed} {i:Nat} {x:Keyed} (h:xs[i]?=some x):K xs i=numOf x.1:=by unfold K; rw [h]
noncomputable def zaX (left:Bool) (k a:Int):Prop:=if left=true then a < k else a <= k
instance (left:Bool) (k a:Int):Decidable (zaX left k a):=by unfold zaX; infer_instance
def zaX.mono {left:Bool} {k a b:Int} (h:zaX left k b) (hab:a <= b):zaX left k a:=by
 unfold zaX at *
 split at h
 ·rename_i e; rw [if_pos e]; omega
 ·rename_i e; rw [if_neg e]; omega
def zd2 {st:SortSt} {left:Bool} {key:Keyed} {arr:Array Keyed} {base i:Nat} {Q:Option Bool -> SortSt -> Prop} (hk:kindOf st=oneType') (hkey:zhW key) (ha:ze8 arr)
  (hi:base + i < arr.size) (h:Q (some (decide (zaX left (numOf key.1) (K arr (base + i))))) st) :
  wpS (model prog w) A E s (beyond' left key arr base i) Q st:=by
 unfold beyond';refine wpS_bind (zaK hi λ x ex=>?_);rw [K_at ex] at h;by_cases hl:left=true
 ·rw [if_pos hl];refine zjj hk (ha _ _ ex) hkey ?_;unfold zaX at h;simpa only [if_pos hl] using h
 ·rw [if_neg hl];refine wpS_bind (zjj hk hkey (ha _ _ ex) (wpS_pure ?_));unfold zaX at h
  have e:(!decide (numOf key.1 < numOf x.1))=decide (numOf x.1 <= numOf key.1):=by
   by_cases hh:numOf key.1 < numOf x.1
   ·rw [decide_eq_true hh,decide_eq_false (1:)]; rfl
   ·rw [decide_eq_false hh,decide_eq_true (1:)]; rfl
  simp only [if_neg hl] at h;simpa only [Option.map_some,e] using h
def zjZ {st:SortSt} {left:Bool} {key:Keyed} {arr:Array Keyed} {base n lo hi:Nat} {Q:Option Nat -> SortSt -> Prop} (hk:kindOf st=oneType') (hkey:zhW key) (ha:ze8 arr)
    (hn:base + n <= arr.size) (mono:∀ i j,i <= j -> j < n -> K arr (base + i) <= K arr (base + j)) (hlh:lo <= hi) (hhn:hi <= n)
    (hlo:∀ i,i < lo -> zaX left (numOf key.1) (K arr (base + i))) (hhi:∀ i,hi <= i -> i < n -> ¬ zaX left (numOf key.1) (K arr (base + i)))
    (h:∀ k,k <= n -> (∀ i,i < k -> zaX left (numOf key.1) (K arr (base + i))) -> (∀ i,k <= i -> i < n -> ¬ zaX left (numOf key.1) (K arr (base + i))) -> Q (some k) st) :
    wpS (model prog w) A E s (zpG left key arr base n lo hi) Q st:=by
  unfold zpG;dsimp only
  refine wpS_bind (wpS_mono (wpS_forRange (I:=λ x c st'=>st'=st /\ ∃ l r,c=(none,l,r) /\ l <= r /\ r <= n /\ r - l <= n - x /\
      (∀ i,i < l -> zaX left (numOf key.1) (K arr (base + i))) /\ (∀ i,r <= i -> i < n -> ¬ zaX left (numOf key.1) (K arr (base + i))))
    (Q:=λ c st'=>st'=st /\ ∃ l r,c=(none,l,r) /\ r <= n /\
      (∀ i,i < r -> zaX left (numOf key.1) (K arr (base + i))) /\ (∀ i,r <= i -> i < n -> ¬ zaX left (numOf key.1) (K arr (base + i)))) ?step ?fin ?init) ?post)
  case init=>exact ⟨rfl,lo,hi,rfl,hlh,hhn,by omega,hlo,hhi⟩
  case fin=>
    rintro c st' ⟨rfl,l,r,rfl,h1,h2,h3,h4,h5⟩;have:l=r:=by omega
    subst this;exact ⟨rfl,l,l,rfl,h2,h4,h5⟩
  case step=>
    rintro x c st' _ hx ⟨rfl,l,r,rfl,h1,h2,h3,h4,h5⟩;dsimp only;by_cases hge:l >= r
    · rw [if_pos hge];have : l = r := by omega
      subst this;exact wpS_pure ⟨rfl,l,l,rfl,h2,h4,h5⟩
    · rw [if_neg hge];refine wpS_bind (zd2 hk hkey ha (1:) ?_);by_cases hl : zaX left (numOf key.1) (K arr (base + (l + (r - l) / 2)))
      · simp only [hl,decide_true,if_true];exact wpS_pure ⟨rfl,_,r,rfl,by omega,h2,by omega,λ i hi=>hl.mono (mono _ _ (1:) (1:)),h5⟩
      · simp only [hl,decide_false,yaC,if_false];exact wpS_pure ⟨rfl,l,_,rfl,by omega,by omega,by omega,h4,λ i hi hin z=>hl (z.mono (mono _ _ (1:) (1:)))⟩
  case post=>
    rintro c st' ⟨rfl,l,r,rfl,h2,h4,h5⟩;exact wpS_pure (h r h2 h4 h5)
def zb7 {st:SortSt} {left:Bool} {key:Keyed} {arr:Array Keyed} {base n hint:Nat} {Q:Option Nat -> SortSt -> Prop} (hk:kindOf st=oneType') (hkey:zhW key) (ha:ze8 arr)
  (hn:base + n <= arr.size) (hh:hint < n) (mono:∀ i j,i <= j -> j < n -> K arr (base + i) <= K arr (base + j))
  (h:∀ k,k <= n -> (∀ i,i < k -> zaX left (numOf key.1) (K arr (base + i))) -> (∀ i,k <= i -> i < n -> ¬ zaX left (numOf key.1) (K arr (base + i))) -> Q (some k) st) :
  wpS (model prog w) A E s (gallop' left key arr base n hint) Q st:=by
 rw [gallop'_eq];refine wpS_bind (zd2 hk hkey ha (1:) ?_);dsimp only;by_cases hr:zaX left (numOf key.1) (K arr (base + hint))
 ·simp only [hr, decide_true, if_true];unfold goUp;dsimp only
  refine wpS_bind (wpS_mono (wpS_forRange (I:=λ x c st'=>st'=st /\ ∃ l r,c=(none,l,r) /\ l < r /\ x + 1 <= r /\ hint + l < n /\ zaX left (numOf key.1) (K arr (base + (hint + l))))
   (Q:=λ c st'=>st'=st /\ ∃ l r,c=(none,l,r) /\ l < r /\ hint + l < n /\ zaX left (numOf key.1) (K arr (base + (hint + l))) /\ (r >= n - hint \/ ¬ zaX left (numOf key.1) (K arr (base + (hint + r))))) ?step ?fin ?init) ?post)
  case init=>exact ⟨rfl,0,1,rfl,by omega,by omega,by omega,hr⟩
  case fin=>
   rintro c st' ⟨rfl,l,r,rfl,h1,h2,h3,h4⟩;exact ⟨rfl,l,r,rfl,h1,h3,h4,.inl (1:)⟩
  case step=>
   rintro x c st' _ hx ⟨rfl,l,r,rfl,h1,h2,h3,h4⟩;dsimp only;by_cases hge:r >= n - hint
   ·rw [if_pos hge];exact wpS_pure ⟨rfl,l,r,rfl,h1,h3,h4,.inl hge⟩
   ·rw [if_neg hge];refine wpS_bind (zd2 hk hkey ha (1:) ?_);by_cases hl : zaX left (numOf key.1) (K arr (base + (hint + r)))
    ·simp only [hl,decide_true,ycl,yaC,if_false];exact wpS_pure ⟨rfl,r,_,rfl,by omega,by omega,by omega,hl⟩
    ·simp only [hl,decide_false,Bool.not_false,if_true];exact wpS_pure ⟨rfl,l,r,rfl,h1,h3,h4,.inr hl⟩
  case post=>
   rintro c st' ⟨rfl,l,r,rfl,h1,h3,h4,h5⟩;dsimp only;refine zjZ (lo:=hint + l + 1) (hi:=hint + min r (n - hint)) hk hkey ha hn mono (1:) (1:) (λ i hi=>h4.mono (mono _ _ (1:) (1:))) (λ i hi hin z=>?_) h;rcases h5 with h5 | h5
   ·omega
   ·by_cases hq : r <= n - hint
    ·rw [ybW hq] at hi;exact h5 (z.mono (mono _ _ (1:) (1:)))
    ·omega
 ·simp only [hr, decide_false, yaC, if_false];unfold zqj;dsimp only
  refine wpS_bind (wpS_mono (wpS_forRange (I:=λ x c st'=>st'=st /\ ∃ l r,c=(none,l,r) /\ l < r /\ x + 1 <= r /\ l <= hint /\ ¬ zaX left (numOf key.1) (K arr (base + (hint - l))))
   (Q:=λ c st'=>st'=st /\ ∃ l r,c=(none,l,r) /\ l < r /\ l <= hint /\ ¬ zaX left (numOf key.1) (K arr (base + (hint - l))) /\ (r >= hint + 1 \/ zaX left (numOf key.1) (K arr (base + (hint - r))))) ?step ?fin ?init) ?post)
  case init=>exact ⟨rfl,0,1,rfl,by omega,by omega,by omega,hr⟩
  case fin=>
   rintro c st' ⟨rfl,l,r,rfl,h1,h2,h3,h4⟩;exact ⟨rfl,l,r,rfl,h1,h3,h4,.inl (1:)⟩
  case step=>
   rintro x c st' _ hx ⟨rfl,l,r,rfl,h1,h2,h3,h4⟩;dsimp only;by_cases hge:r >= hint + 1
   ·rw [if_pos hge];exact wpS_pure ⟨rfl,l,r,rfl,h1,h3,h4,.inl hge⟩
   ·rw [if_neg hge];refine wpS_bind (zd2 hk hkey ha (1:) ?_);by_cases hl : zaX left (numOf key.1) (K arr (base + (hint - r)))
    ·simp only [hl,decide_true,if_true];exact wpS_pure ⟨rfl,l,r,rfl,h1,h3,h4,.inr hl⟩
    ·simp only [hl,decide_false,yaC,if_false];exact wpS_pure ⟨rfl,r,_,rfl,by omega,by omega,by omega,hl⟩
  case post=>
   rintro c st' ⟨rfl,l,r,rfl,h1,h3,h4,h5⟩;dsimp only;refine zjZ (lo:=hint + 1 - min r (hint + 1)) (hi:=hint - l) hk hkey ha hn mono (1:) (1:) (λ i hi=>?_) (λ i hi hin z=>h4 (z.mono (mono _ _ (1:) (1:)))) h;rcases h5 with h5 | h5
   ·omega
   ·by_cases hq : r <= hint + 1
    ·rw [ybW hq] at hi;exact h5.mono (mono _ _ (1:) (1:))
    ·omega
end
end Srt
namespace Srt
open PySem PyProof.Rows
noncomputable abbrev kf (x:Keyed):Int:=numOf x.1
noncomputable def Sr (l:List Keyed):Prop:=l.Pairwise λ x y=>kf x <= kf y
structure MI (T L A B:List Keyed):Prop where
 perm:(L ++ (A ++ B)).Perm T
 sa:Sr (L ++ A)
 sb:Sr (L ++ B)
def MI.symm {T L A B:List Keyed} (h:MI T L A B):MI T L B A:=⟨((ycE L ybX).trans h.perm),h.sb,h.sa⟩
def MI.take {T L A B:List Keyed} (h:MI T L A B) (k:Nat) (hk:∀ x ∈ A.take k,∀ y ∈ B,kf x <= kf y):MI T (L ++ A.take k) (A.drop k) B:=by
 refine ⟨?_,?_,?_⟩
 ·have e : L ++ A.take k ++ (A.drop k ++ B) = L ++ (A ++ B) := by rw [yaE, <- yaE (A.take k), ya2]
  rw [e]; exact h.perm
 ·rw [yaE,ya2]; exact h.sa
 ·have h1 := yaH.mp h.sa;have h2 := yaH.mp h.sb;rw [Sr, yaE, yaH];refine ⟨h1.1, yaH.mpr ⟨h1.2.1.sublist (List.take_sublist _ _), h2.2.1, hk⟩, fun x hx y hy => ?_⟩;rcases yaA.mp hy with hy | hy
  ·exact h1.2.2 x hx y (ybD hy)
  ·exact h2.2.2 x hx y hy
def MI.one {T L A B:List Keyed} {x:Keyed} (h:MI T L (x :: A) B) (hk:∀ y ∈ B,kf x <= kf y):MI T (L ++ [x]) A B:=
 h.take 1 λ z hz y hy=>by
  have:z=x:=by simpa using hz
  subst this; exact hk y hy
def MI.last {T L B:List Keyed} {z:Keyed} (h:MI T L [z] B) (hz:∀ y ∈ B,kf y <= kf z):(L ++ B ++ [z]).Perm T /\ Sr (L ++ B ++ [z]):=by
 have h':=h.symm;refine ⟨by rw [yaE]; exact h'.perm,?_⟩;rw [Sr,yaH];refine ⟨h.sb,List.pairwise_singleton _ _,λ x hx y hy=>?_⟩;have:y=z:=by simpa using hy
 subst this;rcases yaA.mp hx with hx | hx
 ·exact (yaH.mp h.sa).2.2 x hx y (8:)
 ·exact hz x hx
structure MH (T R A B:List Keyed):Prop where
 perm:((A ++ B) ++ R).Perm T
 sa:Sr (A ++ R)
 sb:Sr (B ++ R)
def MH.symm {T R A B:List Keyed} (h:MH T R A B):MH T R B A:=⟨((yct R ybX).trans h.perm),h.sb,h.sa⟩
def MH.take {T R A B:List Keyed} (h:MH T R A B) (k:Nat) (hk:∀ x ∈ A.drop k,∀ y ∈ B,kf y <= kf x):MH T (A.drop k ++ R) (A.take k) B:=by
 refine ⟨?_,?_,?_⟩
 ·have e:(A.take k ++ B ++ (A.drop k ++ R)).Perm (A ++ B ++ R):=by
   have p1:(A.take k ++ B ++ A.drop k).Perm (A.take k ++ A.drop k ++ B):=by
    rw [yaE,yaE]; exact ycE _ ybX
   rw [ya2] at p1;rw [<- yaE];exact yct R p1
  exact e.trans h.perm
 ·rw [<- yaE,ya2]; exact h.sa
 ·have h1 := yaH.mp h.sa;have h2 := yaH.mp h.sb;rw [Sr, yaH];refine ⟨h2.1, yaH.mpr ⟨h1.1.sublist (List.drop_sublist _ _), h1.2.1, fun x hx y hy => h1.2.2 x (List.mem_of_mem_drop hx) y hy⟩, fun x hx y hy => ?_⟩;rcases yaA.mp hy with hy | hy
  ·exact hk y hy x hx
  ·exact h2.2.2 x hx y hy
def MH.one {T R A B:List Keyed} {x:Keyed} (h:MH T R (A ++ [x]) B) (hk:∀ y ∈ B,kf y <= kf x):MH T (x :: R) A B:=by
  have e1:(A ++ [x]).drop A.length=[x]:=by simp
  have e2:(A ++ [x]).take A.length=A:=by simp
  have := h.take A.length (by rw [e1]; intro z hz y hy; have : z = x := by simpa using hz
                              subst this; exact hk y hy)
  rw [e1,e2] at this;exact this
def MH.first {T R A:List Keyed} {z:Keyed} (h:MH T R A [z]) (hz:∀ y ∈ A,kf z <= kf y):([z] ++ A ++ R).Perm T /\ Sr ([z] ++ A ++ R):=by
 have h':=h.symm;refine ⟨h'.perm,?_⟩;rw [Sr,yaE,yaH];refine ⟨List.pairwise_singleton _ _,h.sa,λ x hx y hy=>?_⟩;have:x=z:=by simpa using hx
 subst this;rcases yaA.mp hy with hy | hy
 ·exact hz y hy
 ·exact (yaH.mp h.sb).2.2 x (8:) y hy
def zkG {xs:Array Keyed} {i:Nat} {x:Keyed} (h:xs[i]?=some x):xs.toList.drop i=x :: xs.toList.drop (i + 1):=by
 have hi:i < xs.size:=by
  rcases ybx i xs.size with h1 | h1
  ·exact h1
  ·rw [getElem?_neg xs i (1:)] at h; cases h
 rw [getElem?_pos xs i hi] at h;have e:=Option.some.inj h;rw [List.drop_eq_getElem_cons (by simpa using hi)];simp [e]
def zk8 {xs:Array Keyed} {i:Nat} {x:Keyed} (h:xs[i]?=some x):xs.toList.take (i + 1)=xs.toList.take i ++ [x]:=by
 have hi:i < xs.size:=by
  rcases ybx i xs.size with h1 | h1
  ·exact h1
  ·rw [getElem?_neg xs i (1:)] at h; cases h
 rw [getElem?_pos xs i hi] at h;have e:=Option.some.inj h;rw [List.take_succ_eq_append_getElem (by simpa using hi)];simp [e]
def zbH {xs:Array Keyed} {i:Nat} {x:Keyed} (h:x ∈ xs.toList.drop i):∃ j,i <= j /\ j < xs.size /\ kf x=K xs j:=by
 obtain ⟨k,hk,e⟩:=ycd h;have hk':i + k < xs.size:=by simp at hk; omega
 refine ⟨i + k,by omega,hk',?_⟩;rw [List.getElem_drop] at e;rw [K_at (getElem?_pos xs (i + k) hk'),<- e];simp
def zb5 {xs:Array Keyed} {i:Nat} {x:Keyed} (h:x ∈ xs.toList.take i):∃ j,j < i /\ j < xs.size /\ kf x=K xs j:=by
 obtain ⟨k,hk,e⟩:=ycd h;have hk':k < i /\ k < xs.size:=by simp at hk; omega
 refine ⟨k,by omega,hk'.2,?_⟩;rw [List.getElem_take] at e;rw [K_at (getElem?_pos xs k hk'.2),<- e];simp
def zhJ {xs:Array Keyed} {i k:Nat} {x:Keyed} (h:x ∈ (xs.toList.drop i).take k):∃ j,j < k /\ i + j < xs.size /\ kf x=K xs (i + j):=by
 obtain ⟨m,hm,e⟩:=ycd h;have hm':m < k /\ i + m < xs.size:=by simp at hm; omega
 refine ⟨m,hm'.1,hm'.2,?_⟩;rw [List.getElem_take,List.getElem_drop] at e;rw [K_at (getElem?_pos xs (i + m) hm'.2),<- e];simp
def zel {xs:Array Keyed} {i k:Nat} {x:Keyed} (h:x ∈ (xs.toList.take i).drop k):∃ j,k <= j /\ j < i /\ j < xs.size /\ kf x=K xs j:=by
 obtain ⟨m,hm,e⟩:=ycd h;have hm':k + m < i /\ k + m < xs.size:=by simp at hm; omega
 refine ⟨k + m,by omega,hm'.1,hm'.2,?_⟩;rw [List.getElem_drop,List.getElem_take] at e;rw [K_at (getElem?_pos xs (k + m) hm'.2),<- e];simp
def zgn {xs:Array Keyed} {i k:Nat}:(xs.extract i (i + k)).toList=(xs.toList.drop i).take k:=by
 rw [yb6,ybH];congr 1; omega
def zfc {xs:Array Keyed} {i:Nat}:(xs.extract i xs.size).toList=xs.toList.drop i:=by
 rw [yb6,ybH];exact yav (8:)
def zeD {xs:Array Keyed} {i:Nat}:(xs.extract 0 i).toList=xs.toList.take i:=by
 rw [yb6,ybH];simp
def zit {xs:Array Keyed} {i k:Nat}:(xs.extract k i).toList=(xs.toList.take i).drop k:=by
 rw [yb6,ybH,List.drop_take]
def zpl {xs:Array Keyed} (h:SortedTo xs xs.size):Sr xs.toList:=by
 rw [Sr,ya5];intro i j hi hj hij;have h1:=h i j (1:) (by simpa using hj);rw [K_eq (by simpa using hi),K_eq (by simpa using hj)] at h1;simpa using h1
end Srt
namespace Srt
open PySem PyProof.Rows
noncomputable abbrev LoSt:=Option (Array Keyed) × Array Keyed × Nat × Nat × Nat × Nat × Nat
noncomputable abbrev zek (a b out:Array Keyed) (ia ib:Nat):Array Keyed:=out ++ a.extract ia a.size ++ b.extract ib b.size
noncomputable abbrev zhz (a b out:Array Keyed) (ia ib:Nat):Array Keyed:=out ++ b.extract ib b.size ++ a.extract ia a.size
noncomputable def lo3 (a b out:Array Keyed) (ia ib mg k k1:Nat):StateT SortSt Sem (ForInStep LoSt):=do
 let x <- elem' a ia
 if ia + 1 + 1 == a.size then pure (.done (some (zhz a b (out.push x) (ia + 1) ib),out.push x,ia + 1,ib,mg,k,k1))
 else if k < 7 && k1 < 7 then pure (.done (none,out.push x,ia + 1,ib,mg,k,k1))
 else pure (.yield (none,out.push x,ia + 1,ib,mg,k,k1))
noncomputable def lo2 (a b out:Array Keyed) (ia ib mg k bc:Nat):StateT SortSt Sem (ForInStep LoSt):=do
 let y <- elem' b ib
 if ib + 1 == b.size then pure (.done (some (zek a b (out.push y) ia (ib + 1)),out.push y,ia,ib + 1,mg,k,bc))
 else do
  let z <- elem' a ia
  let r <- gallop' true z b (ib + 1) (b.size - (ib + 1)) 0
  match r with
  | some k1=>
   if k1 > 0 then
    if ib + 1 + k1 == b.size then pure (.done (some (zek a b (out.push y ++ b.extract (ib + 1) (ib + 1 + k1)) ia (ib + 1 + k1)),out.push y ++ b.extract (ib + 1) (ib + 1 + k1),ia,ib + 1 + k1,mg,k,k1))
    else lo3 a b (out.push y ++ b.extract (ib + 1) (ib + 1 + k1)) ia (ib + 1 + k1) mg k k1
   else lo3 a b (out.push y) ia (ib + 1) mg k k1
  | _=>pure (.done (some (zek a b (out.push y) ia (ib + 1)),out.push y,ia,ib + 1,mg,k,bc))
noncomputable def lo1 (a b out:Array Keyed) (ia ib mg ac bc:Nat):StateT SortSt Sem (ForInStep LoSt):=do
 setMinGallop' mg
 let y <- elem' b ib
 let r <- gallop' false y a ia (a.size - ia) 0
 match r with
 | some k=>
  if k > 0 then
   if ia + k + 1 == a.size then pure (.done (some (zhz a b (out ++ a.extract ia (ia + k)) (ia + k) ib),out ++ a.extract ia (ia + k),ia + k,ib,mg,k,bc))
   else if ia + k == a.size then pure (.done (some (zek a b (out ++ a.extract ia (ia + k)) (ia + k) ib),out ++ a.extract ia (ia + k),ia + k,ib,mg,k,bc))
   else lo2 a b (out ++ a.extract ia (ia + k)) (ia + k) ib mg k bc
  else lo2 a b out ia ib mg k bc
 | _=>pure (.done (some (zek a b out ia ib),out,ia,ib,mg,ac,bc))
noncomputable abbrev LoS1:=Option (Array Keyed) × Array Keyed × Nat × Nat × Nat × Nat
noncomputable def loB (a b:Array Keyed) (mg:Nat) (out:Array Keyed) (ia ib ac bc:Nat):StateT SortSt Sem (ForInStep LoS1):=do
 let r <- lt' (<- elem' b ib) (<- elem' a ia)
 match r with
 | some bWins=>
  if bWins then do
   let y <- elem' b ib
   if ib + 1 == b.size then pure (.done (some (zek a b (out.push y) ia (ib + 1)),out.push y,ia,ib + 1,0,bc + 1))
   else if bc + 1 >= mg then pure (.done (none,out.push y,ia,ib + 1,0,bc + 1))
   else pure (.yield (none,out.push y,ia,ib + 1,0,bc + 1))
  else do
   let x <- elem' a ia
   if ia + 1 + 1 == a.size then pure (.done (some (zhz a b (out.push x) (ia + 1) ib),out.push x,ia + 1,ib,ac + 1,0))
   else if ac + 1 >= mg then pure (.done (none,out.push x,ia + 1,ib,ac + 1,0))
   else pure (.yield (none,out.push x,ia + 1,ib,ac + 1,0))
 | _=>pure (.done (some (zek a b out ia ib),out,ia,ib,ac,bc))
noncomputable def zn0 (a b:Array Keyed) (out:Array Keyed) (ia ib mg:Nat):StateT SortSt Sem (ForInStep (Option (Array Keyed) × Array Keyed × Nat × Nat × Nat)):=do
 let c <- forIn [0:a.size + b.size] ((none,out,ia,ib,0,0):LoS1) λ _ c=>loB a b mg c.2.1 c.2.2.1 c.2.2.2.1 c.2.2.2.2.1 c.2.2.2.2.2
 match c.1 with
 | some r=>pure (.done (some r,c.2.1,c.2.2.1,c.2.2.2.1,mg))
 | none=>do
  liftM (rule "list.sort.gallop")
  let d <- forIn [0:a.size + b.size] ((none,c.2.1,c.2.2.1,c.2.2.2.1,mg + 1,c.2.2.2.2.1,c.2.2.2.2.2):LoSt) λ _ d=>
   if d.2.2.2.2.1 > 1 then lo1 a b d.2.1 d.2.2.1 d.2.2.2.1 (d.2.2.2.2.1 - 1) d.2.2.2.2.2.1 d.2.2.2.2.2.2 else lo1 a b d.2.1 d.2.2.1 d.2.2.2.1 d.2.2.2.2.1 d.2.2.2.2.2.1 d.2.2.2.2.2.2
  match d.1 with
  | some r=>pure (.done (some r,d.2.1,d.2.2.1,d.2.2.2.1,d.2.2.2.2.1))
  | none=>do
   setMinGallop' (d.2.2.2.2.1 + 1)
   pure (.yield (none,d.2.1,d.2.2.1,d.2.2.2.1,d.2.2.2.2.1 + 1))
def ziO (a b:Array Keyed):mergeLo' a b=(do
 liftM (rule "list.sort.merge-lo")
 let y <- elem' b 0
 if 1 == b.size then pure (zek a b #[y] 0 1)
 else if 0 + 1 == a.size then pure (zhz a b #[y] 0 1)
 else do
  let st <- get
  let c <- forIn [0:a.size + b.size] ((none,#[y],0,1,gallopOf st):Option (Array Keyed) × Array Keyed × Nat × Nat × Nat) λ _ c=>zn0 a b c.2.1 c.2.2.1 c.2.2.2.1 c.2.2.2.2
  match c.1 with
  | some r=>pure r
  | none=>unsupported "internal:list.sort.merge-bound"):=by
 kernel_rfl
end Srt
namespace Srt
open PySem PyProof.Rows
structure Cm (a b:Array Keyed):Prop where
 ia:ze8 a
 ib:ze8 b
 sa:SortedTo a a.size
 sb:SortedTo b b.size
 pa:0 < a.size
 pb:0 < b.size
 last:∀ j,j < b.size -> K b j <= K a (a.size - 1)
 first:∀ j,j < a.size -> K b 0 <= K a j
noncomputable def Good (T:List Keyed) (r:Array Keyed):Prop:=r.toList.Perm T /\ Sr r.toList
noncomputable abbrev tot (a b:Array Keyed):List Keyed:=a.toList ++ b.toList
noncomputable abbrev ML (a b out:Array Keyed) (ia ib:Nat):Prop:=MI (tot a b) out.toList (a.toList.drop ia) (b.toList.drop ib)
variable {a b out:Array Keyed} {ia ib:Nat}
def zdr (h:ML a b out ia ib) (hz:ib=b.size \/ ia=a.size):Good (tot a b) (zek a b out ia ib):=by
 have e:(zek a b out ia ib).toList=out.toList ++ a.toList.drop ia ++ b.toList.drop ib:=by
  rw [ya0,ya0,zfc,zfc]
 unfold Good;rw [e];refine ⟨by rw [yaE]; exact h.perm,?_⟩;rcases hz with hz | hz
 ·have e2:b.toList.drop ib=[]:=ycu (by simp [hz]);rw [e2,ybb]; exact h.sa
 ·have e2:a.toList.drop ia=[]:=ycu (by simp [hz]);rw [e2,ybb]; exact h.sb
def zeS (C:Cm a b) (h:ML a b out ia ib) (hz:ia + 1=a.size):Good (tot a b) (zhz a b out ia ib):=by
 have e:(zhz a b out ia ib).toList=out.toList ++ b.toList.drop ib ++ a.toList.drop ia:=by
  rw [ya0,ya0,zfc,zfc]
 have ha:a[ia]?=some a[ia]:=getElem?_pos a ia (1:)
 have e2:a.toList.drop ia=[a[ia]]:=by
  rw [zkG ha,ycu (49:)]
 unfold Good;rw [e,e2];have h':=h;unfold ML at h';rw [e2] at h';refine h'.last λ y hy=>?_;obtain ⟨j,_,h2,h3⟩:=zbH hy;rw [h3,show kf a[ia]=K a ia from (K_at ha).symm,show ia=a.size - 1 by omega];exact C.last j h2
def zoQ (h:ML a b out ia ib) {y:Keyed} (hy:b[ib]?=some y) (hle:∀ j,ia <= j -> j < a.size -> kf y <= K a j):ML a b (out.push y) ia (ib + 1):=by
 have h':=h.symm;rw [zkG hy] at h'
 have:=(h'.one λ z hz=>by
  obtain ⟨j,h1,h2,h3⟩:=zbH hz;rw [h3]; exact hle j h1 h2).symm
 unfold ML;rw [ycA]; exact this
def zqd (h:ML a b out ia ib) {x:Keyed} (hx:a[ia]?=some x) (hle:∀ j,ib <= j -> j < b.size -> kf x <= K b j):ML a b (out.push x) (ia + 1) ib:=by
 have h':=h;unfold ML at h';rw [zkG hx] at h'
 have:=h'.one λ z hz=>by
  obtain ⟨j,h1,h2,h3⟩:=zbH hz;rw [h3]; exact hle j h1 h2
 unfold ML;rw [ycA]; exact this
def zsk (h:ML a b out ia ib) {k:Nat} (hle:∀ i,i < k -> ∀ j,ib <= j -> j < b.size -> ia + i < a.size -> K a (ia + i) <= K b j):ML a b (out ++ a.extract ia (ia + k)) (ia + k) ib:=by
 have:=h.take k λ x hx y hy=>by
  obtain ⟨i,h1,h2,h3⟩:=zhJ hx;obtain ⟨j,g1,g2,g3⟩:=zbH hy;rw [h3,g3]; exact hle i h1 j g1 g2 h2
 unfold ML;rw [ya0,zgn];rw [ycB] at this;exact this
def zrI (h:ML a b out ia ib) {k:Nat} (hle:∀ i,i < k -> ∀ j,ia <= j -> j < a.size -> ib + i < b.size -> K b (ib + i) <= K a j):ML a b (out ++ b.extract ib (ib + k)) ia (ib + k):=by
 have:=(h.symm.take k λ x hx y hy=>by
  obtain ⟨i,h1,h2,h3⟩:=zhJ hx;obtain ⟨j,g1,g2,g3⟩:=zbH hy;rw [h3,g3]; exact hle i h1 j g1 g2 h2).symm
 unfold ML;rw [ya0,zgn];rw [ycB] at this;exact this
structure LI (a b out:Array Keyed) (ia ib:Nat):Prop where
 ml:ML a b out ia ib
 ha:ia + 1 < a.size
 hb:ib < b.size
noncomputable def GP (a b:Array Keyed) (n0:Nat) (c:Option (Array Keyed)) (out:Array Keyed) (ia ib:Nat):Prop:=
 match c with
 | some r=>Good (tot a b) r
 | none=>LI a b out ia ib /\ n0 <= ia + ib
section
variable {prog:Program} {w:World} {A:Around} {E:Value -> Shared -> Prop} {s:Shared} {st:SortSt} {mg k k1 ac bc n0:Nat}
def znp (C:Cm a b) (h:LI a b out ia ib) (hn:n0 <= ia + ib) (hle:∀ j,ib <= j -> j < b.size -> K a ia <= K b j) {Q:ForInStep LoSt -> SortSt -> Prop}
    (h1:∀ d:LoSt,GP a b n0 d.1 d.2.1 d.2.2.1 d.2.2.2.1 -> Q (.done d) st) (h2:∀ d:LoSt,d.1=none -> GP a b n0 d.1 d.2.1 d.2.2.1 d.2.2.2.1 -> Q (.yield d) st) :
    wpS (model prog w) A E s (lo3 a b out ia ib mg k k1) Q st:=by
  unfold lo3;have ha:=h.ha;have hb:=h.hb;refine wpS_bind (zaK (1:) λ x hx=>?_);have m:=zqd h.ml hx λ j h1 h2=>by rw [show kf x=K a ia from (K_at hx).symm]; exact hle j h1 h2
  by_cases hz:ia + 1 + 1=a.size
  · rw [if_pos (34:)];exact wpS_pure (h1 _ (zeS C m hz))
  · rw [if_neg (34:)];have g : GP a b n0 none (out.push x) (ia + 1) ib := ⟨⟨m, by omega, h.hb⟩, by omega⟩
    split
    · exact wpS_pure (h1 _ g)
    · exact wpS_pure (h2 _ rfl g)
def zoh (C:Cm a b) (hk:kindOf st=oneType') (h:LI a b out ia ib) (hn:n0 <= ia + ib) (hle:∀ j,ia <= j -> j < a.size -> K b ib <= K a j) {Q:ForInStep LoSt -> SortSt -> Prop}
    (h1:∀ d:LoSt,GP a b n0 d.1 d.2.1 d.2.2.1 d.2.2.2.1 -> Q (.done d) st) (h2:∀ d:LoSt,d.1=none -> GP a b n0 d.1 d.2.1 d.2.2.1 d.2.2.2.1 -> Q (.yield d) st) :
    wpS (model prog w) A E s (lo2 a b out ia ib mg k bc) Q st:=by
  unfold lo2;have ha:=h.ha;have hb:=h.hb;refine wpS_bind (zaK (1:) λ y hy=>?_);have m:=zoQ h.ml hy λ j h1 h2=>by rw [show kf y=K b ib from (K_at hy).symm]; exact hle j h1 h2
  by_cases hz:ib + 1=b.size
  · rw [if_pos (34:)];exact wpS_pure (h1 _ (zdr m (.inl hz)))
  · rw [if_neg (34:)];refine wpS_bind (zaK (1:) fun z hz' => ?_);refine wpS_bind (zb7 hk (C.ia _ _ hz') C.ib (1:) (1:) (fun i j hij hj => C.sb _ _ (1:) (1:)) fun k2 hk2 p1 p2 => ?_);dsimp only;have hzk : numOf z.1 = K a ia := (K_at hz').symm;have ah : ∀ i, zaX true (numOf z.1) (K b (ib + 1 + i)) ↔ K b (ib + 1 + i) < K a ia := fun i => by unfold zaX; rw [if_pos rfl, hzk]
    have m2:ML a b (out.push y ++ b.extract (ib + 1) (ib + 1 + k2)) ia (ib + 1 + k2):=zrI m λ i hi j h1 h2 h3=>by
      have:=(ah i).mp (p1 i hi);exact ybO (ybY this) (C.sa _ _ h1 h2)
    have nx:∀ j,ib + 1 + k2 <= j -> j < b.size -> K a ia <= K b j:=λ j h1 h2=>by
      have:=mt (ah (j - (ib + 1))).mpr (p2 (j - (ib + 1)) (1:) (1:));rw [show ib + 1 + (j - (ib + 1))=j by omega] at this;omega
    by_cases hk0:k2 > 0
    · rw [if_pos hk0];by_cases hq : ib + 1 + k2 = b.size
      · rw [if_pos (52:)];exact wpS_pure (h1 _ (zdr m2 (.inl hq)))
      · rw [if_neg (52:)];exact znp C ⟨m2,h.ha,by omega⟩ (1:) nx h1 h2
    · rw [if_neg hk0];have : k2 = 0 := by omega
      subst this;exact znp C ⟨m,h.ha,by omega⟩ (1:) nx h1 h2
def zqx (C:Cm a b) (hk:kindOf st=oneType') (h:LI a b out ia ib) (hn:n0 <= ia + ib) {Q:ForInStep LoSt -> SortSt -> Prop}
    (h1:∀ d:LoSt,GP a b n0 d.1 d.2.1 d.2.2.1 d.2.2.2.1 -> Q (.done d) (zbo st mg)) (h2:∀ d:LoSt,d.1=none -> GP a b n0 d.1 d.2.1 d.2.2.1 d.2.2.2.1 -> Q (.yield d) (zbo st mg)) :
    wpS (model prog w) A E s (lo1 a b out ia ib mg ac bc) Q st:=by
  unfold lo1;have ha:=h.ha;have hb:=h.hb;rw [setMinGallop'_eq];refine wpS_bind (wpS_modify ?_);refine wpS_bind (zaK (1:) λ y hy=>?_);refine wpS_bind (zb7 (st:=zbo st mg) hk (C.ib _ _ hy) C.ia (1:) (1:) (λ i j hij hj=>C.sa _ _ (1:) (1:)) λ k2 hk2 p1 p2=>?_);dsimp only;have hyk:numOf y.1=K b ib:=(K_at hy).symm;have ah:∀ i,zaX false (numOf y.1) (K a (ia + i)) ↔ K a (ia + i) <= K b ib:=λ i=>by unfold zaX; rw [if_neg (3:),hyk]
  have m2:ML a b (out ++ a.extract ia (ia + k2)) (ia + k2) ib:=zsk h.ml λ i hi j h1 h2 h3=>ybO ((ah i).mp (p1 i hi)) (C.sb _ _ h1 h2)
  have nx:∀ j,ia + k2 <= j -> j < a.size -> K b ib <= K a j:=λ j h1 h2=>by
    have:=mt (ah (j - ia)).mpr (p2 (j - ia) (1:) (1:));rw [show ia + (j - ia)=j by omega] at this;omega
  by_cases hk0:k2 > 0
  · rw [if_pos hk0];by_cases hq : ia + k2 + 1 = a.size
    · rw [if_pos (52:)];exact wpS_pure (h1 _ (zeS C m2 hq))
    · rw [if_neg (52:)];by_cases hq2 : ia + k2 = a.size
      · rw [if_pos (by simpa using hq2)];exact wpS_pure (h1 _ (zdr m2 (.inr hq2)))
      · rw [if_neg (by simpa using hq2)];exact zoh (st:=zbo st mg) C hk ⟨m2,by omega,h.hb⟩ (1:) nx h1 h2
  · rw [if_neg hk0];have : k2 = 0 := by omega
    subst this;exact zoh (st:=zbo st mg) C hk h (1:) nx h1 h2
def zrc (C:Cm a b) (hk:kindOf st=oneType') (h:LI a b out ia ib) (hn:n0 <= ia + ib + 1) {Q:ForInStep LoS1 -> SortSt -> Prop}
    (h1:∀ d:LoS1,GP a b n0 d.1 d.2.1 d.2.2.1 d.2.2.2.1 -> Q (.done d) st) (h2:∀ d:LoS1,d.1=none -> GP a b n0 d.1 d.2.1 d.2.2.1 d.2.2.2.1 -> Q (.yield d) st) :
    wpS (model prog w) A E s (loB a b mg out ia ib ac bc) Q st:=by
  unfold loB;have ha:=h.ha;have hb:=h.hb;refine wpS_bind (zaK (1:) λ y hy=>?_);refine wpS_bind (zaK (1:) λ x hx=>?_);refine wpS_bind (zjj hk (C.ib _ _ hy) (C.ia _ _ hx) ?_);dsimp only;have ey:numOf y.1=K b ib:=(K_at hy).symm;have ex:numOf x.1=K a ia:=(K_at hx).symm;by_cases hl:numOf y.1 < numOf x.1
  · rw [if_pos (by simpa using hl)];refine wpS_bind (zaK (1:) fun y' hy' => ?_);obtain rfl : y = y' := by rw [hy] at hy'; exact Option.some.inj hy'
    have m:=zoQ h.ml hy λ j g1 g2=>by
      have:=C.sa _ _ g1 g2;show numOf y.1 <= _;omega
    by_cases hz:ib + 1=b.size
    · rw [if_pos (34:)];exact wpS_pure (h1 _ (zdr m (.inl hz)))
    · rw [if_neg (34:)];have g : GP a b n0 none (out.push y) ia (ib + 1) := ⟨⟨m, h.ha, by omega⟩, by omega⟩
      split
      · exact wpS_pure (h1 _ g)
      · exact wpS_pure (h2 _ rfl g)
  · rw [if_neg (by simpa using hl)];refine wpS_bind (zaK (1:) fun x' hx' => ?_);obtain rfl : x = x' := by rw [hx] at hx'; exact Option.some.inj hx'
    have m:=zqd h.ml hx λ j g1 g2=>by
      have:=C.sb _ _ g1 g2;show numOf x.1 <= _;omega
    by_cases hz:ia + 1 + 1=a.size
    · rw [if_pos (34:)];exact wpS_pure (h1 _ (zeS C m hz))
    · rw [if_neg (34:)];have g : GP a b n0 none (out.push x) (ia + 1) ib := ⟨⟨m, by omega, h.hb⟩, by omega⟩
      split
      · exact wpS_pure (h1 _ g)
      · exact wpS_pure (h2 _ rfl g)
noncomputable abbrev Gs (st st':SortSt):Prop:=∃ g,st'=zbo st g
def zmK (C:Cm a b) (hk:kindOf st=oneType') (h:LI a b out ia ib) {Q:ForInStep (Option (Array Keyed) × Array Keyed × Nat × Nat × Nat) -> SortSt -> Prop}
    (h1:∀ d st',Gs st st' -> (∃ r,d.1=some r /\ Good (tot a b) r) -> Q (.done d) st') (h2:∀ d st',Gs st st' -> d.1=none -> LI a b d.2.1 d.2.2.1 d.2.2.2.1 -> ia + ib + 1 <= d.2.2.1 + d.2.2.2.1 -> Q (.yield d) st') :
    wpS (model prog w) A E s (zn0 a b out ia ib mg) Q st:=by
  unfold zn0;have pa:=C.pa;refine wpS_bind (wpS_mono (wpS_forRange (I:=λ x c st'=>st'=st /\ c.1=none /\ GP a b (ia + ib + x) c.1 c.2.1 c.2.2.1 c.2.2.2.1) (Q:=λ c st'=>st'=st /\ GP a b (ia + ib + 1) c.1 c.2.1 c.2.2.1 c.2.2.2.1) ?step ?fin ?init) ?post)
  case init=>exact ⟨rfl,rfl,h,by show ia + ib + 0 <= ia + ib; omega⟩
  case fin=>
    rintro ⟨c1,c2⟩ st' ⟨rfl,z,g⟩;obtain rfl:c1=none:=z;refine ⟨rfl,g.1,?_⟩;have:=g.2;omega
  case step=>
    rintro x ⟨c1,c2⟩ st' _ hx ⟨rfl,z,g⟩;obtain rfl:c1=none:=z;have g1:=g.1;have g2:=g.2;refine zrc (n0:=ia + ib + x + 1) C hk g1 (1:) (λ d hd=>⟨rfl,?_⟩) (λ d hz hd=>⟨rfl,hz,hd⟩);obtain ⟨d1,d2⟩:=d;cases d1 with
    | some r=>exact hd
    | none=>exact ⟨hd.1,by have:=hd.2; omega⟩
  case post=>
    rintro ⟨c1,c2⟩ st' ⟨rfl,g⟩;cases c1 with
    | some r=>exact wpS_pure (h1 _ _ ⟨gallopOf st',rfl⟩ ⟨r,rfl,g⟩)
    | none=>
      dsimp only;refine wpS_bind (wpS_lift (wpAny_rule ⟨rfl,?_⟩));refine wpS_bind (wpS_mono (wpS_forRange (I:=λ x c st''=>Gs st' st'' /\ c.1=none /\ GP a b (ia + ib + 1) c.1 c.2.1 c.2.2.1 c.2.2.2.1) (Q:=λ c st''=>Gs st' st'' /\ GP a b (ia + ib + 1) c.1 c.2.1 c.2.2.1 c.2.2.2.1) ?step2 ?fin2 ⟨⟨gallopOf st',rfl⟩,rfl,g⟩) ?post2)
      case fin2=>
        rintro c st'' ⟨gs,z,g⟩;exact ⟨gs,g⟩
      case step2=>
        rintro x ⟨d1,d2⟩ st'' _ hx ⟨⟨gg,rfl⟩,z,g⟩;obtain rfl:d1=none:=z;dsimp only
        have one:∀ m,wpS (model prog w) A E s (lo1 a b d2.1 d2.2.1 d2.2.2.1 m d2.2.2.2.2.1 d2.2.2.2.2.2) (λ r st''=>match r with | .done c=>Gs st' st'' /\ GP a b (ia + ib + 1) c.1 c.2.1 c.2.2.1 c.2.2.2.1 | .yield c=>Gs st' st'' /\ c.1=none /\ GP a b (ia + ib + 1) c.1 c.2.1 c.2.2.1 c.2.2.2.1) (zbo st' gg):=λ m=>
          zqx (st:=zbo st' gg) (out:=d2.1) (ia:=d2.2.1) (ib:=d2.2.2.1) (n0:=ia + ib + 1) C hk g.1 g.2 (λ d hd=>⟨⟨m,rfl⟩,hd⟩) (λ d hz hd=>⟨⟨m,rfl⟩,hz,hd⟩)
        split
        · exact wpS_mono (one _) λ r _ hr=>by cases r <;> exact hr
        · exact wpS_mono (one _) λ r _ hr=>by cases r <;> exact hr
      case post2=>
        rintro ⟨d1,d2⟩ st'' ⟨⟨gg,rfl⟩,g⟩;cases d1 with
        | some r=>exact wpS_pure (h1 _ _ ⟨gg,rfl⟩ ⟨r,rfl,g⟩)
        | none=>
          dsimp only;rw [setMinGallop'_eq];exact wpS_bind (wpS_modify (wpS_pure (h2 _ _ ⟨_,rfl⟩ rfl g.1 g.2)))
def zkM (C:Cm a b) (hk:kindOf st=oneType') {Q:Array Keyed -> SortSt -> Prop} (h:∀ r st',Gs st st' -> Good (tot a b) r -> Q r st') :
  wpS (model prog w) A E s (mergeLo' a b) Q st:=by
 rw [ziO];have pa:=C.pa;have pb:=C.pb;refine wpS_bind (wpS_lift (wpAny_rule ⟨rfl,?_⟩));refine wpS_bind (zaK (1:) λ y hy=>?_);have m0:ML a b #[] 0 0:=⟨List.Perm.refl _,zpl C.sa,zpl C.sb⟩
 have m:ML a b #[y] 0 1:=zoQ m0 hy λ j _ h2=>by
  rw [show kf y=K b 0 from (K_at hy).symm]; exact C.first j h2
 by_cases hz:1=b.size
 ·rw [if_pos (34:)];exact wpS_pure (h _ _ ⟨gallopOf st,rfl⟩ (zdr m (.inl hz)))
 ·rw [if_neg (34:)];by_cases hq : 0 + 1 = a.size
  ·rw [if_pos (52:)];exact wpS_pure (h _ _ ⟨gallopOf st,rfl⟩ (zeS C m hq))
  ·rw [if_neg (52:)];refine wpS_bind (wpS_get ?_);refine wpS_bind (wpS_mono (wpS_forRange (I := fun x c st' => Gs st st' /\ c.1 = none /\ LI a b c.2.1 c.2.2.1 c.2.2.2.1 /\ x <= c.2.2.1 + c.2.2.2.1) (Q := fun c st' => Gs st st' /\ ∃ r, c.1 = some r /\ Good (tot a b) r) ?step ?fin ⟨⟨gallopOf st, rfl⟩, rfl, ⟨m, by show 0 + 1 < a.size; omega, by show 1 < b.size; omega⟩, by omega⟩) ?post)
   case fin=>
    rintro c st' ⟨_,_,l,hx⟩;have:=l.ha;have:=l.hb;omega
   case step=>
    rintro x c st' _ hx ⟨⟨g,rfl⟩,z,l,hn⟩;refine zmK (st:=zbo st g) C hk l (λ d st'' gs hd=>?_) (λ d st'' gs hz l2 hn2=>?_)
    ·obtain ⟨g2,rfl⟩:=gs;exact ⟨⟨g2,rfl⟩,hd⟩
    ·obtain ⟨g2,rfl⟩:=gs;exact ⟨⟨g2,rfl⟩,hz,l2,by omega⟩
   case post=>
    rintro ⟨c1,c2⟩ st' ⟨gs,r,hr,g⟩;obtain rfl:c1=some r:=hr;exact wpS_pure (h r st' gs g)
end
end Srt
namespace Srt
open PySem PyProof.Rows
noncomputable abbrev HiSt:=Option (Array Keyed) × Nat × Nat × Array Keyed × Nat × Nat × Nat
noncomputable abbrev HiS1:=Option (Array Keyed) × Nat × Nat × Array Keyed × Nat × Nat
noncomputable abbrev zeg (a b out:Array Keyed) (na nb:Nat):Array Keyed:=a.extract 0 na ++ b.extract 0 nb ++ out.reverse
noncomputable abbrev zft (a b out:Array Keyed) (na nb:Nat):Array Keyed:=b.extract 0 nb ++ a.extract 0 na ++ out.reverse
noncomputable def hi3 (a b out:Array Keyed) (na nb mg k k1:Nat):StateT SortSt Sem (ForInStep HiSt):=do
 let x <- elem' a (na - 1)
 if na - 1 == 0 then pure (.done (some (zeg a b (out.push x) (na - 1) nb),na - 1,nb,out.push x,mg,k,k1))
 else if k < 7 && k1 < 7 then pure (.done (none,na - 1,nb,out.push x,mg,k,k1))
 else pure (.yield (none,na - 1,nb,out.push x,mg,k,k1))
noncomputable def hi2 (a b out:Array Keyed) (na nb mg k bc:Nat):StateT SortSt Sem (ForInStep HiSt):=do
 let y <- elem' b (nb - 1)
 if nb - 1 == 1 then pure (.done (some (zft a b (out.push y) na (nb - 1)),na,nb - 1,out.push y,mg,k,bc))
 else do
  let z <- elem' a (na - 1)
  let r <- gallop' true z b 0 (nb - 1) (nb - 1 - 1)
  match r with
  | some at_=>
   if nb - 1 - at_ > 0 then
    if at_ == 1 then pure (.done (some (zft a b (out.push y ++ (b.extract at_ (nb - 1)).reverse) na at_),na,at_,out.push y ++ (b.extract at_ (nb - 1)).reverse,mg,k,nb - 1 - at_))
    else if at_ == 0 then pure (.done (some (zeg a b (out.push y ++ (b.extract at_ (nb - 1)).reverse) na at_),na,at_,out.push y ++ (b.extract at_ (nb - 1)).reverse,mg,k,nb - 1 - at_))
    else hi3 a b (out.push y ++ (b.extract at_ (nb - 1)).reverse) na at_ mg k (nb - 1 - at_)
   else hi3 a b (out.push y) na (nb - 1) mg k (nb - 1 - at_)
  | _=>pure (.done (some (zeg a b (out.push y) na (nb - 1)),na,nb - 1,out.push y,mg,k,bc))
noncomputable def hi1 (a b out:Array Keyed) (na nb mg ac bc:Nat):StateT SortSt Sem (ForInStep HiSt):=do
 setMinGallop' mg
 let y <- elem' b (nb - 1)
 let r <- gallop' false y a 0 na (na - 1)
 match r with
 | some at_=>
  if na - at_ > 0 then
   if at_ == 0 then pure (.done (some (zeg a b (out ++ (a.extract at_ na).reverse) at_ nb),at_,nb,out ++ (a.extract at_ na).reverse,mg,na - at_,bc))
   else hi2 a b (out ++ (a.extract at_ na).reverse) at_ nb mg (na - at_) bc
  else hi2 a b out na nb mg (na - at_) bc
 | _=>pure (.done (some (zeg a b out na nb),na,nb,out,mg,ac,bc))
noncomputable def hiB (a b:Array Keyed) (mg na nb:Nat) (out:Array Keyed) (ac bc:Nat):StateT SortSt Sem (ForInStep HiS1):=do
 let r <- lt' (<- elem' b (nb - 1)) (<- elem' a (na - 1))
 match r with
 | some aWins=>
  if aWins then do
   let x <- elem' a (na - 1)
   if na - 1 == 0 then pure (.done (some (zeg a b (out.push x) (na - 1) nb),na - 1,nb,out.push x,ac + 1,0))
   else if ac + 1 >= mg then pure (.done (none,na - 1,nb,out.push x,ac + 1,0))
   else pure (.yield (none,na - 1,nb,out.push x,ac + 1,0))
  else do
   let y <- elem' b (nb - 1)
   if nb - 1 == 1 then pure (.done (some (zft a b (out.push y) na (nb - 1)),na,nb - 1,out.push y,0,bc + 1))
   else if bc + 1 >= mg then pure (.done (none,na,nb - 1,out.push y,0,bc + 1))
   else pure (.yield (none,na,nb - 1,out.push y,0,bc + 1))
 | _=>pure (.done (some (zeg a b out na nb),na,nb,out,ac,bc))
noncomputable def zoK (a b:Array Keyed) (na nb:Nat) (out:Array Keyed) (mg:Nat):StateT SortSt Sem (ForInStep (Option (Array Keyed) × Nat × Nat × Array Keyed × Nat)):=do
 let c <- forIn [0:a.size + b.size] ((none,na,nb,out,0,0):HiS1) λ _ c=>hiB a b mg c.2.1 c.2.2.1 c.2.2.2.1 c.2.2.2.2.1 c.2.2.2.2.2
 match c.1 with
 | some r=>pure (.done (some r,c.2.1,c.2.2.1,c.2.2.2.1,mg))
 | none=>do
  liftM (rule "list.sort.gallop")
  let d <- forIn [0:a.size + b.size] ((none,c.2.1,c.2.2.1,c.2.2.2.1,mg + 1,c.2.2.2.2.1,c.2.2.2.2.2):HiSt) λ _ d=>
   if d.2.2.2.2.1 > 1 then hi1 a b d.2.2.2.1 d.2.1 d.2.2.1 (d.2.2.2.2.1 - 1) d.2.2.2.2.2.1 d.2.2.2.2.2.2 else hi1 a b d.2.2.2.1 d.2.1 d.2.2.1 d.2.2.2.2.1 d.2.2.2.2.2.1 d.2.2.2.2.2.2
  match d.1 with
  | some r=>pure (.done (some r,d.2.1,d.2.2.1,d.2.2.2.1,d.2.2.2.2.1))
  | none=>do
   setMinGallop' (d.2.2.2.2.1 + 1)
   pure (.yield (none,d.2.1,d.2.2.1,d.2.2.2.1,d.2.2.2.2.1 + 1))
def ziV (a b:Array Keyed):mergeHi' a b=(do
 liftM (rule "list.sort.merge-hi")
 let x <- elem' a (a.size - 1)
 if a.size - 1 == 0 then pure (zeg a b #[x] (a.size - 1) b.size)
 else if b.size == 1 then pure (zft a b #[x] (a.size - 1) b.size)
 else do
  let st <- get
  let c <- forIn [0:a.size + b.size] ((none,a.size - 1,b.size,#[x],gallopOf st):Option (Array Keyed) × Nat × Nat × Array Keyed × Nat) λ _ c=>zoK a b c.2.1 c.2.2.1 c.2.2.2.1 c.2.2.2.2
  match c.1 with
  | some r=>pure r
  | none=>unsupported "internal:list.sort.merge-bound"):=by
 kernel_rfl
noncomputable abbrev MR (a b out:Array Keyed) (na nb:Nat):Prop:=MH (tot a b) out.toList.reverse (a.toList.take na) (b.toList.take nb)
variable {a b out:Array Keyed} {na nb:Nat}
def zcT (h:MR a b out na nb) (hz:na=0 \/ nb=0):Good (tot a b) (zeg a b out na nb):=by
 have e:(zeg a b out na nb).toList=a.toList.take na ++ b.toList.take nb ++ out.toList.reverse:=by
  rw [ya0,ya0,zeD,zeD,yb7]
 unfold Good;rw [e];refine ⟨h.perm,?_⟩;rcases hz with rfl | rfl
 ·rw [List.take_zero,List.nil_append]; exact h.sb
 ·rw [List.take_zero,ybb]; exact h.sa
def zdW (C:Cm a b) (h:MR a b out na 1):Good (tot a b) (zft a b out na 1):=by
 have pb:=C.pb;have hb:b[0]?=some b[0]:=getElem?_pos b 0 (1:);have e2:b.toList.take 1=[b[0]]:=by rw [zk8 hb]; rfl
 have e:(zft a b out na 1).toList=[b[0]] ++ a.toList.take na ++ out.toList.reverse:=by
  rw [ya0,ya0,zeD,zeD,yb7,e2]
 unfold Good;rw [e];have h':=h;unfold MR at h';rw [e2] at h';refine h'.first λ y hy=>?_;obtain ⟨j,h1,h2,h3⟩:=zb5 hy;rw [h3,show kf b[0]=K b 0 from (K_at hb).symm];exact C.first j h2
def zk0 (h:MR a b out na nb) (h1:1 <= na) {x:Keyed} (hx:a[na - 1]?=some x) (hle:∀ j,j < nb -> j < b.size -> K b j <= kf x):MR a b (out.push x) (na - 1) nb:=by
 have h':=h;unfold MR at h';rw [show na=na - 1 + 1 by omega,zk8 hx] at h'
 have:=h'.one λ z hz=>by
  obtain ⟨j,h1,h2,h3⟩:=zb5 hz;rw [h3]; exact hle j h1 h2
 unfold MR;rw [ycA,ybE]; exact this
def zoW (h:MR a b out na nb) (h1:1 <= nb) {y:Keyed} (hy:b[nb - 1]?=some y) (hle:∀ j,j < na -> j < a.size -> K a j <= kf y):MR a b (out.push y) na (nb - 1):=by
 have h':=h.symm;rw [show nb=nb - 1 + 1 by omega,zk8 hy] at h'
 have:=(h'.one λ z hz=>by
  obtain ⟨j,h1,h2,h3⟩:=zb5 hz;rw [h3]; exact hle j h1 h2).symm
 unfold MR;rw [ycA,ybE]; exact this
def zqE (h:MR a b out na nb) {k:Nat} (hk:k <= na) (hle:∀ i,k <= i -> i < na -> i < a.size -> ∀ j,j < nb -> j < b.size -> K b j <= K a i):MR a b (out ++ (a.extract k na).reverse) k nb:=by
 have:=h.take k λ x hx y hy=>by
  obtain ⟨i,h1,h2,h2',h3⟩:=zel hx;obtain ⟨j,g1,g2,g3⟩:=zb5 hy;rw [h3,g3]; exact hle i h1 h2 h2' j g1 g2
 unfold MR;rw [ya0,yb7,zit,ybE,ybn];rw [yc1,ybW hk] at this;exact this
def zqM (h:MR a b out na nb) {k:Nat} (hk:k <= nb) (hle:∀ i,k <= i -> i < nb -> i < b.size -> ∀ j,j < na -> j < a.size -> K a j <= K b i):MR a b (out ++ (b.extract k nb).reverse) na k:=by
 have:=(h.symm.take k λ x hx y hy=>by
  obtain ⟨i,h1,h2,h2',h3⟩:=zel hx;obtain ⟨j,g1,g2,g3⟩:=zb5 hy;rw [h3,g3]; exact hle i h1 h2 h2' j g1 g2).symm
 unfold MR;rw [ya0,yb7,zit,ybE,ybn];rw [yc1,ybW hk] at this;exact this
structure HI (a b out:Array Keyed) (na nb:Nat):Prop where
 mr:MR a b out na nb
 h1:1 <= na
 h2:2 <= nb
 ha:na <= a.size
 hb:nb <= b.size
noncomputable def HP (a b:Array Keyed) (n0:Nat) (c:Option (Array Keyed)) (na nb:Nat) (out:Array Keyed):Prop:=
 match c with
 | some r=>Good (tot a b) r
 | none=>HI a b out na nb /\ na + nb <= n0
section
variable {prog:Program} {w:World} {A:Around} {E:Value -> Shared -> Prop} {s:Shared} {st:SortSt} {mg k k1 ac bc n0:Nat}
def znM (C:Cm a b) (h:HI a b out na nb) (hn:na + nb <= n0) (hle:∀ j,j < nb -> j < b.size -> K b j <= K a (na - 1)) {Q:ForInStep HiSt -> SortSt -> Prop}
    (h1:∀ d:HiSt,HP a b n0 d.1 d.2.1 d.2.2.1 d.2.2.2.1 -> Q (.done d) st) (h2:∀ d:HiSt,d.1=none -> HP a b n0 d.1 d.2.1 d.2.2.1 d.2.2.2.1 -> Q (.yield d) st) :
    wpS (model prog w) A E s (hi3 a b out na nb mg k k1) Q st:=by
  unfold hi3;obtain ⟨mr,q1,q2,ha,hb⟩:=h;refine wpS_bind (zaK (1:) λ x hx=>?_);have m:=zk0 mr q1 hx λ j h1 h2=>by rw [show kf x=K a (na - 1) from (K_at hx).symm]; exact hle j h1 h2
  by_cases hz:na - 1=0
  · rw [if_pos (34:)];exact wpS_pure (h1 _ (zcT m (.inl hz)))
  · rw [if_neg (34:)];have g : HP a b n0 none (na - 1) nb (out.push x) := ⟨⟨m, by omega, q2, by omega, hb⟩, by omega⟩
    split
    · exact wpS_pure (h1 _ g)
    · exact wpS_pure (h2 _ rfl g)
def znx (C:Cm a b) (hk:kindOf st=oneType') (h:HI a b out na nb) (hn:na + nb <= n0) (hle:∀ j,j < na -> j < a.size -> K a j <= K b (nb - 1)) {Q:ForInStep HiSt -> SortSt -> Prop}
    (h1:∀ d:HiSt,HP a b n0 d.1 d.2.1 d.2.2.1 d.2.2.2.1 -> Q (.done d) st) (h2:∀ d:HiSt,d.1=none -> HP a b n0 d.1 d.2.1 d.2.2.1 d.2.2.2.1 -> Q (.yield d) st) :
    wpS (model prog w) A E s (hi2 a b out na nb mg k bc) Q st:=by
  unfold hi2;obtain ⟨mr,q1,q2,ha,hb⟩:=h;refine wpS_bind (zaK (1:) λ y hy=>?_);have m:=zoW mr (1:) hy λ j h1 h2=>by rw [show kf y=K b (nb - 1) from (K_at hy).symm]; exact hle j h1 h2
  by_cases hz:nb - 1=1
  · rw [if_pos (34:)];refine wpS_pure (h1 _ ?_);dsimp only;rw [hz] at m ⊢;exact zdW C m
  · rw [if_neg (34:)];refine wpS_bind (zaK (1:) fun z hz' => ?_);refine wpS_bind (zb7 hk (C.ia _ _ hz') C.ib (1:) (1:) (fun i j hij hj => C.sb _ _ (1:) (1:)) fun k2 hk2 p1 p2 => ?_);dsimp only;have hzk : numOf z.1 = K a (na - 1) := (K_at hz').symm;have ah : ∀ i, zaX true (numOf z.1) (K b (0 + i)) ↔ K b i < K a (na - 1) := fun i => by unfold zaX; rw [if_pos rfl, hzk, ycD]
    have m2:MR a b (out.push y ++ (b.extract k2 (nb - 1)).reverse) na k2:=zqM m hk2 λ i h1 h2 h2' j g1 g2=>by
      have:=mt (ah i).mpr (p2 i h1 h2);have:=C.sa j (na - 1) (1:) (1:);omega
    have nx:∀ j,j < k2 -> j < b.size -> K b j <= K a (na - 1):=λ j h1 h2=>ybY ((ah j).mp (p1 j h1));by_cases hk0:nb - 1 - k2 > 0
    · rw [if_pos hk0];by_cases hq : k2 = 1
      · rw [if_pos (52:)];subst hq;exact wpS_pure (h1 _ (zdW C m2))
      · rw [if_neg (52:)];by_cases hq2 : k2 = 0
        · rw [if_pos (by simpa using hq2)];exact wpS_pure (h1 _ (zcT m2 (.inr hq2)))
        · rw [if_neg (by simpa using hq2)];exact znM C ⟨m2,q1,by omega,ha,by omega⟩ (1:) nx h1 h2
    · rw [if_neg hk0];have e : k2 = nb - 1 := by omega
      subst e;exact znM C ⟨m,q1,by omega,ha,by omega⟩ (1:) nx h1 h2
def zqG (C:Cm a b) (hk:kindOf st=oneType') (h:HI a b out na nb) (hn:na + nb <= n0) {Q:ForInStep HiSt -> SortSt -> Prop}
    (h1:∀ d:HiSt,HP a b n0 d.1 d.2.1 d.2.2.1 d.2.2.2.1 -> Q (.done d) (zbo st mg)) (h2:∀ d:HiSt,d.1=none -> HP a b n0 d.1 d.2.1 d.2.2.1 d.2.2.2.1 -> Q (.yield d) (zbo st mg)) :
    wpS (model prog w) A E s (hi1 a b out na nb mg ac bc) Q st:=by
  unfold hi1;have h0:=h;obtain ⟨mr,q1,q2,ha,hb⟩:=h;rw [setMinGallop'_eq];refine wpS_bind (wpS_modify ?_);refine wpS_bind (zaK (1:) λ y hy=>?_);refine wpS_bind (zb7 (st:=zbo st mg) hk (C.ib _ _ hy) C.ia (1:) (1:) (λ i j hij hj=>C.sa _ _ (1:) (1:)) λ k2 hk2 p1 p2=>?_);dsimp only;have hyk:numOf y.1=K b (nb - 1):=(K_at hy).symm;have ah:∀ i,zaX false (numOf y.1) (K a (0 + i)) ↔ K a i <= K b (nb - 1):=λ i=>by unfold zaX; rw [if_neg (3:),hyk,ycD]
  have m2:MR a b (out ++ (a.extract k2 na).reverse) k2 nb:=zqE mr hk2 λ i h1 h2 h2' j g1 g2=>by
    have:=mt (ah i).mpr (p2 i h1 h2);have:=C.sb j (nb - 1) (1:) (1:);omega
  have nx:∀ j,j < k2 -> j < a.size -> K a j <= K b (nb - 1):=λ j h1 h2=>(ah j).mp (p1 j h1);by_cases hk0:na - k2 > 0
  · rw [if_pos hk0];by_cases hq : k2 = 0
    · rw [if_pos (52:)];exact wpS_pure (h1 _ (zcT m2 (.inl hq)))
    · rw [if_neg (52:)];exact znx (st:=zbo st mg) C hk ⟨m2,by omega,q2,by omega,hb⟩ (1:) nx h1 h2
  · rw [if_neg hk0];have : k2 = na := by omega
    subst this;exact znx (st:=zbo st mg) C hk h0 (1:) nx h1 h2
def zq3 (C:Cm a b) (hk:kindOf st=oneType') (h:HI a b out na nb) (hn:na + nb <= n0 + 1) {Q:ForInStep HiS1 -> SortSt -> Prop}
    (h1:∀ d:HiS1,HP a b n0 d.1 d.2.1 d.2.2.1 d.2.2.2.1 -> Q (.done d) st) (h2:∀ d:HiS1,d.1=none -> HP a b n0 d.1 d.2.1 d.2.2.1 d.2.2.2.1 -> Q (.yield d) st) :
    wpS (model prog w) A E s (hiB a b mg na nb out ac bc) Q st:=by
  unfold hiB;obtain ⟨mr,q1,q2,ha,hb⟩:=h;refine wpS_bind (zaK (1:) λ y hy=>?_);refine wpS_bind (zaK (1:) λ x hx=>?_);refine wpS_bind (zjj hk (C.ib _ _ hy) (C.ia _ _ hx) ?_);dsimp only;have ey:numOf y.1=K b (nb - 1):=(K_at hy).symm;have ex:numOf x.1=K a (na - 1):=(K_at hx).symm;by_cases hl:numOf y.1 < numOf x.1
  · rw [if_pos (by simpa using hl)];refine wpS_bind (zaK (1:) fun x' hx' => ?_);obtain rfl : x = x' := by rw [hx] at hx'; exact Option.some.inj hx'
    have m:=zk0 mr q1 hx λ j g1 g2=>by
      have:=C.sb j (nb - 1) (1:) (1:);show _ <= numOf x.1;omega
    by_cases hz:na - 1=0
    · rw [if_pos (34:)];exact wpS_pure (h1 _ (zcT m (.inl hz)))
    · rw [if_neg (34:)];have g : HP a b n0 none (na - 1) nb (out.push x) := ⟨⟨m, by omega, q2, by omega, hb⟩, by omega⟩
      split
      · exact wpS_pure (h1 _ g)
      · exact wpS_pure (h2 _ rfl g)
  · rw [if_neg (by simpa using hl)];refine wpS_bind (zaK (1:) fun y' hy' => ?_);obtain rfl : y = y' := by rw [hy] at hy'; exact Option.some.inj hy'
    have m:=zoW mr (1:) hy λ j g1 g2=>by
      have:=C.sa j (na - 1) (1:) (1:);show _ <= numOf y.1;omega
    by_cases hz:nb - 1=1
    · rw [if_pos (34:)];refine wpS_pure (h1 _ ?_);dsimp only;rw [hz] at m ⊢;exact zdW C m
    · rw [if_neg (34:)];have g : HP a b n0 none na (nb - 1) (out.push y) := ⟨⟨m, q1, by omega, ha, by omega⟩, by omega⟩
      split
      · exact wpS_pure (h1 _ g)
      · exact wpS_pure (h2 _ rfl g)
def zmv (C:Cm a b) (hk:kindOf st=oneType') (h:HI a b out na nb) {Q:ForInStep (Option (Array Keyed) × Nat × Nat × Array Keyed × Nat) -> SortSt -> Prop}
    (h1:∀ d st',Gs st st' -> (∃ r,d.1=some r /\ Good (tot a b) r) -> Q (.done d) st') (h2:∀ d st',Gs st st' -> d.1=none -> HI a b d.2.2.2.1 d.2.1 d.2.2.1 -> d.2.1 + d.2.2.1 + 1 <= na + nb -> Q (.yield d) st') :
    wpS (model prog w) A E s (zoK a b na nb out mg) Q st:=by
  unfold zoK;have pa:=C.pa;have p1:=h.h1;have p2:=h.h2;have p3:=h.ha;have p4:=h.hb;refine wpS_bind (wpS_mono (wpS_forRange (I:=λ x c st'=>st'=st /\ c.1=none /\ HP a b (na + nb - x) c.1 c.2.1 c.2.2.1 c.2.2.2.1) (Q:=λ c st'=>st'=st /\ HP a b (na + nb - 1) c.1 c.2.1 c.2.2.1 c.2.2.2.1) ?step ?fin ?init) ?post)
  case init=>exact ⟨rfl,rfl,h,by show na + nb <= na + nb - 0; omega⟩
  case fin=>
    rintro ⟨c1,c2⟩ st' ⟨rfl,z,g⟩;obtain rfl:c1=none:=z;refine ⟨rfl,g.1,?_⟩;have:=g.2;omega
  case step=>
    rintro x ⟨c1,c2⟩ st' _ hx ⟨rfl,z,g⟩;obtain rfl:c1=none:=z;have g1:=g.1;have g2:=g.2;have g3:=g1.h1;refine zq3 (n0:=na + nb - x - 1) C hk g1 (1:) (λ d hd=>⟨rfl,?_⟩) (λ d hz hd=>⟨rfl,hz,?_⟩)
    · obtain ⟨d1, d2⟩ := d;cases d1 with
      | some r=>exact hd
      | none=>exact ⟨hd.1,by have:=hd.2; omega⟩
    · rw [show na + nb - (x + 1)=na + nb - x - 1 by omega]; exact hd
  case post=>
    rintro ⟨c1,c2⟩ st' ⟨rfl,g⟩;cases c1 with
    | some r=>exact wpS_pure (h1 _ _ ⟨gallopOf st',rfl⟩ ⟨r,rfl,g⟩)
    | none=>
      dsimp only;refine wpS_bind (wpS_lift (wpAny_rule ⟨rfl,?_⟩));refine wpS_bind (wpS_mono (wpS_forRange (I:=λ x c st''=>Gs st' st'' /\ c.1=none /\ HP a b (na + nb - 1) c.1 c.2.1 c.2.2.1 c.2.2.2.1) (Q:=λ c st''=>Gs st' st'' /\ HP a b (na + nb - 1) c.1 c.2.1 c.2.2.1 c.2.2.2.1) ?step2 ?fin2 ⟨⟨gallopOf st',rfl⟩,rfl,g⟩) ?post2)
      case fin2=>
        rintro c st'' ⟨gs,z,g⟩;exact ⟨gs,g⟩
      case step2=>
        rintro x ⟨d1,d2⟩ st'' _ hx ⟨⟨gg,rfl⟩,z,g⟩;obtain rfl:d1=none:=z;dsimp only
        have one:∀ m,wpS (model prog w) A E s (hi1 a b d2.2.2.1 d2.1 d2.2.1 m d2.2.2.2.2.1 d2.2.2.2.2.2) (λ r st''=>match r with | .done c=>Gs st' st'' /\ HP a b (na + nb - 1) c.1 c.2.1 c.2.2.1 c.2.2.2.1 | .yield c=>Gs st' st'' /\ c.1=none /\ HP a b (na + nb - 1) c.1 c.2.1 c.2.2.1 c.2.2.2.1) (zbo st' gg):=λ m=>
          zqG (st:=zbo st' gg) (out:=d2.2.2.1) (na:=d2.1) (nb:=d2.2.1) (n0:=na + nb - 1) C hk g.1 g.2 (λ d hd=>⟨⟨m,rfl⟩,hd⟩) (λ d hz hd=>⟨⟨m,rfl⟩,hz,hd⟩)
        split
        · exact wpS_mono (one _) λ r _ hr=>by cases r <;> exact hr
        · exact wpS_mono (one _) λ r _ hr=>by cases r <;> exact hr
      case post2=>
        rintro ⟨d1,d2⟩ st'' ⟨⟨gg,rfl⟩,g⟩;cases d1 with
        | some r=>exact wpS_pure (h1 _ _ ⟨gg,rfl⟩ ⟨r,rfl,g⟩)
        | none=>
          dsimp only;rw [setMinGallop'_eq];have:=g.2;exact wpS_bind (wpS_modify (wpS_pure (h2 _ _ ⟨_,rfl⟩ rfl g.1 (by dsimp only at *; omega))))
def zkZ (C:Cm a b) (hk:kindOf st=oneType') {Q:Array Keyed -> SortSt -> Prop} (h:∀ r st',Gs st st' -> Good (tot a b) r -> Q r st') :
  wpS (model prog w) A E s (mergeHi' a b) Q st:=by
 rw [ziV];have pa:=C.pa;have pb:=C.pb;refine wpS_bind (wpS_lift (wpAny_rule ⟨rfl,?_⟩));refine wpS_bind (zaK (1:) λ x hx=>?_)
 have m0:MR a b #[] a.size b.size:=by
  unfold MR;have e1:a.toList.take a.size=a.toList:=yav (8:);have e2:b.toList.take b.size=b.toList:=yav (8:);rw [e1,e2];exact ⟨by show (tot a b ++ []).Perm _; rw [ybb],by show Sr (a.toList ++ []); rw [ybb]; exact zpl C.sa,by show Sr (b.toList ++ []); rw [ybb]; exact zpl C.sb⟩
 have m:MR a b #[x] (a.size - 1) b.size:=zk0 m0 (1:) hx λ j h2 _=>by
  rw [show kf x=K a (a.size - 1) from (K_at hx).symm]; exact C.last j h2
 by_cases hz:a.size - 1=0
 ·rw [if_pos (34:)];exact wpS_pure (h _ _ ⟨gallopOf st,rfl⟩ (zcT m (.inl hz)))
 ·rw [if_neg (34:)];by_cases hq : b.size = 1
  ·rw [if_pos (52:)];refine wpS_pure (h _ _ ⟨gallopOf st,rfl⟩ ?_);rw [hq] at m ⊢;exact zdW C m
  ·rw [if_neg (52:)];refine wpS_bind (wpS_get ?_);refine wpS_bind (wpS_mono (wpS_forRange (I := fun x c st' => Gs st st' /\ c.1 = none /\ HI a b c.2.2.2.1 c.2.1 c.2.2.1 /\ c.2.1 + c.2.2.1 + x <= a.size + b.size) (Q := fun c st' => Gs st st' /\ ∃ r, c.1 = some r /\ Good (tot a b) r) ?step ?fin ?init) ?post)
   case init=>exact ⟨⟨gallopOf st,rfl⟩,rfl,⟨m,by show 1 <= a.size - 1; omega,by show 2 <= b.size; omega,by show a.size - 1 <= _; omega,yaj _⟩,by show a.size - 1 + b.size + 0 <= _; omega⟩
   case fin=>
    rintro c st' ⟨_,_,l,hx⟩;have:=l.h1;have:=l.h2;omega
   case step=>
    rintro x c st' _ hx ⟨⟨g,rfl⟩,z,l,hn⟩;refine zmv (st:=zbo st g) C hk l (λ d st'' gs hd=>?_) (λ d st'' gs hz l2 hn2=>?_)
    ·obtain ⟨g2,rfl⟩:=gs;exact ⟨⟨g2,rfl⟩,hd⟩
    ·obtain ⟨g2,rfl⟩:=gs;exact ⟨⟨g2,rfl⟩,hz,l2,by omega⟩
   case post=>
    rintro ⟨c1,c2⟩ st' ⟨gs,r,hr,g⟩;obtain rfl:c1=some r:=hr;exact wpS_pure (h r st' gs g)
end
end Srt
namespace Srt
open PySem PyProof.Rows
noncomputable def laid (xs:Array Keyed) (at_:Nat) (ys:List Keyed):Array Keyed:=ys.zipIdx.foldl (λ a (p,j)=>a.setIfInBounds (at_ + j) p) xs
noncomputable def zp2 (at_:Nat) (m:Array Keyed):StateT SortSt Sem Bool:=do
 modify λ s=>setArr s (laid (arrOf s) at_ m.toList)
 pure (failedOf (<- get)).isNone
noncomputable def zkV (a:Array Keyed) (sa na sb nb:Nat):StateT SortSt Sem Bool:=do
 let y <- elem' a sb
 let r <- gallop' false y a sa na 0
 match r with
 | some k=>
  if na - k == 0 then pure true
  else do
   let x <- elem' a (sa + k + (na - k) - 1)
   let q <- gallop' true x a sb nb (nb - 1)
   match q with
   | some nb2=>
    if nb2 == 0 then pure true
    else if na - k <= nb2 then mergeLo' (a.extract (sa + k) sb) (a.extract sb (sb + nb2)) >>= zp2 (sa + k)
    else mergeHi' (a.extract (sa + k) sb) (a.extract sb (sb + nb2)) >>= zp2 (sa + k)
   | _=>pure false
 | _=>pure false
def zmX (i:Nat):mergeAt' i=(do
   let st <- get
   match (pendingOf st)[i]?,(pendingOf st)[i + 1]? with
    | some (sa,na,p),some (sb,nb,_)=>do
       set (setPending st (((pendingOf st).setIfInBounds i (sa,na + nb,p)).eraseIdxIfInBounds (i + 1)))
       zkV (arrOf st) sa na sb nb
    | _,_=>unsupported "internal:list.sort.pending"):=by
  kernel_rfl
def znO (ys:List Keyed):∀ (xs:Array Keyed) (k n:Nat),((ys.zipIdx n).foldl (λ a (p,j)=>a.setIfInBounds (k + j) p) xs).size=xs.size:=by
 induction ys with
 | nil=>intros; rfl
 | cons y ys ih=>intro xs k n; rw [List.zipIdx_cons,ycS,ih]; simp
def zpF (ys:List Keyed):∀ (xs:Array Keyed) (k n i:Nat),k + n + ys.length <= xs.size ->
    ((ys.zipIdx n).foldl (λ a (p,j)=>a.setIfInBounds (k + j) p) xs)[i]?=if k + n <= i /\ i < k + n + ys.length then ys[i - (k + n)]? else xs[i]?:=by
  induction ys with
  | nil=>intro xs k n i _; rw [if_neg (8:)]; rfl
  | cons y ys ih=>
    intro xs k n i h;rw [ybB] at h;rw [List.zipIdx_cons,ycS,ih _ _ _ _ (49:)];by_cases h1:i=k + n
    · subst h1;rw [if_neg (1:),if_pos (8:)];simp only [Nat.sub_self,List.getElem?_cons_zero];rw [Array.getElem?_setIfInBounds_self_of_lt (1:)]
    · by_cases h2 : k + (n + 1) <= i /\ i < k + (n + 1) + ys.length
      · rw [if_pos h2,if_pos (49:),show i - (k + n)=i - (k + (n + 1)) + 1 by omega,List.getElem?_cons_succ]
      · rw [if_neg h2,if_neg (49:),Array.getElem?_setIfInBounds_ne (1:)]
def znP {xs:Array Keyed} {k:Nat} {ys:List Keyed} (h:k + ys.length <= xs.size):(laid xs k ys).toList=xs.toList.take k ++ ys ++ xs.toList.drop (k + ys.length):=by
 apply ybt;intro i;have e:=zpF ys xs k 0 i (1:);have e':(laid xs k ys).toList[i]?=(laid xs k ys)[i]?:=by simp
 rw [e'];unfold laid;rw [show (ys.zipIdx)=ys.zipIdx 0 from rfl,e];by_cases h1:i < k
 ·rw [if_neg (1:),yaE,ya4 (49:),List.getElem?_take_of_lt h1];simp
 ·by_cases h2 : i < k + ys.length
  ·rw [if_pos (1:),yaE,ya8 (49:),ya4 (49:)];congr 1;simp; omega
  ·rw [if_neg (1:),yaE,ya8 (49:),ya8 (49:),List.getElem?_drop];rw [show xs[i]?=xs.toList[i]? by simp];congr 1;simp; omega
def ztA {xs:Array Keyed} (h:Sr xs.toList):SortedTo xs xs.size:=by
 intro i j hij hj;rw [K_eq (1:),K_eq hj];rcases ybx i j with h1 | h1
 ·have:=ya5.mp h i j (49:) (by simpa using hj) h1;simpa using this
 ·have : i = j := by omega
  subst this; exact ybZ _
def zjM {xs:Array Keyed} {i j k:Nat} (hj:j <= xs.size) (h:i + k < j):K (xs.extract i j) k=K xs (i + k):=by
 refine K_congr ?_;rw [Array.getElem?_extract];rw [if_pos (1:)]
def zeb {xs:Array Keyed} (h:ze8 xs) (i j:Nat):ze8 (xs.extract i j):=by
 intro k x hx;rw [Array.getElem?_extract] at hx
 split at hx
 ·exact h _ _ hx
 ·cases hx
def zo0 {L1 X Y L2 M:List Keyed} (h1:Sr (L1 ++ X)) (h2:Sr (Y ++ L2)) (h3:∀ l ∈ L1,∀ y ∈ Y ++ L2,kf l <= kf y) (h4:∀ x ∈ X,∀ y ∈ L2,kf x <= kf y) (hp:M.Perm (X ++ Y)) (hs:Sr M) :
  (L1 ++ M ++ L2).Perm (L1 ++ X ++ (Y ++ L2)) /\ Sr (L1 ++ M ++ L2):=by
 refine ⟨?_,?_⟩
 ·rw [yaE,yaE,<- yaE X];exact ycE _ (yct _ hp)
 ·have q1 := yaH.mp h1;have q2 := yaH.mp h2;rw [Sr, yaE, yaH];refine ⟨q1.1, yaH.mpr ⟨hs, q2.2.1, fun m hm y hy => ?_⟩, fun l hl y hy => ?_⟩
  ·rcases yaA.mp (hp.mem_iff.mp hm) with hm | hm
   ·exact h4 m hm y hy
   ·exact q2.2.2 m hm y hy
  ·rcases yaA.mp hy with hy | hy
   ·rcases yaA.mp (hp.mem_iff.mp hy) with hy | hy
    ·exact q1.2.2 l hl y hy
    ·exact h3 l hl y (ybI _ hy)
   ·exact h3 l hl y (yaP _ hy)
section
variable {prog:Program} {w:World} {A:Around} {E:Value -> Shared -> Prop} {s:Shared} {st:SortSt}
def zkB {a:Array Keyed} {n:Nat} (hk:kindOf st=oneType') (hf:failedOf st=none) (ha:arrOf st=a) (hi:ze8 a) (h1:1 <= n) (h2:n < a.size)
  (s1:SortedTo a n) (s2:∀ i j,n <= i -> i <= j -> j < a.size -> K a i <= K a j) {Q:Bool -> SortSt -> Prop}
  (h:∀ st',pendingOf st'=pendingOf st -> failedOf st'=none -> (arrOf st').Perm a -> SortedTo (arrOf st') a.size -> Q true st') :
  wpS (model prog w) A E s (zkV a 0 n n (a.size - n)) Q st:=by
 unfold zkV
 -- already in order
 have inOrder:K a (n - 1) <= K a n -> Q true st:=λ hle=>by
  refine h st rfl hf (by rw [ha]) ?_;rw [ha];intro i j hij hj;by_cases c1:j < n
  ·exact s1 i j hij c1
  ·by_cases c2 : n <= i
   ·exact s2 i j c2 hij hj
   ·exact ybO (s1 i (n - 1) (1:) (1:)) (ybO hle (s2 n j (1:) (1:) hj))
 refine wpS_bind (zaK (1:) λ y hy=>?_);refine wpS_bind (zb7 hk (hi _ _ hy) hi (1:) (1:) (λ i j hij hj=>s1 _ _ (1:) (1:)) λ k hk1 p1 p2=>?_);dsimp only;have hyk:numOf y.1=K a n:=(K_at hy).symm;have ah:∀ i,zaX false (numOf y.1) (K a (0 + i)) ↔ K a i <= K a n:=λ i=>by unfold zaX; rw [if_neg (3:),hyk,ycD]
 by_cases hz:n - k=0
 ·rw [if_pos (34:)];exact wpS_pure (inOrder ((ah (n - 1)).mp (p1 (n - 1) (1:))))
 ·rw [if_neg (34:)];have e0 : 0 + k + (n - k) - 1 = n - 1 := by omega
  refine wpS_bind (zaK (1:) λ x hx=>?_);refine wpS_bind (zb7 hk (hi _ _ hx) hi (1:) (1:) (λ i j hij hj=>s2 _ _ (1:) (1:) (1:)) λ k2 hk2 r1 r2=>?_);dsimp only;have hxk:numOf x.1=K a (n - 1):=by rw [<- e0]; exact (K_at hx).symm
  have ah2:∀ i,zaX true (numOf x.1) (K a (n + i)) ↔ K a (n + i) < K a (n - 1):=λ i=>by unfold zaX; rw [if_pos rfl,hxk]
  by_cases hz2:k2=0
  ·rw [if_pos (by simpa using hz2)];refine wpS_pure (inOrder ?_);have:=mt (ah2 0).mpr (r2 0 (1:) (1:));simp only [ybV] at this;omega
  ·rw [if_neg (by simpa using hz2)];rw [ycD];have zX : (a.extract k n).size = n - k := by simp; omega
   have zY:(a.extract n (n + k2)).size=k2:=by simp; omega
   have kX:∀ i,i < n - k -> K (a.extract k n) i=K a (k + i):=λ i hi=>zjM (1:) (1:);have kY:∀ i,i < k2 -> K (a.extract n (n + k2)) i=K a (n + i):=λ i hi=>zjM (1:) (1:)
   have up:∀ i,k <= i -> i < n -> K a n < K a i:=λ i q1 q2=>by
    have:=mt (ah i).mpr (p2 i q1 q2);omega
   have C:Cm (a.extract k n) (a.extract n (n + k2)):=by
    refine ⟨zeb hi _ _,zeb hi _ _,?_,?_,by omega,by omega,?_,?_⟩
    ·rw [zX]; intro i j hij hj;rw [kX i (1:),kX j hj]; exact s1 _ _ (1:) (1:)
    ·rw [zY]; intro i j hij hj;rw [kY i (1:),kY j hj]; exact s2 _ _ (1:) (1:) (1:)
    ·rw [zX,zY]; intro j hj;rw [kY j hj,kX _ (1:),show k + (n - k - 1)=n - 1 by omega];exact ybY ((ah2 j).mp (r1 j hj))
    ·rw [zX]; intro j hj;rw [kY 0 (1:),kX j hj];exact ybY (up _ (1:) (1:))
   have fin:∀ r st',Gs st st' -> Good (tot (a.extract k n) (a.extract n (n + k2))) r -> wpS (model prog w) A E s (zp2 k r) Q st':=by
    rintro r st' ⟨g,rfl⟩ ⟨gp,gs⟩;unfold zp2;refine wpS_bind (wpS_modify (wpS_bind (wpS_get ?_)));have ef:(failedOf st).isNone=true:=by rw [hf]; rfl
    show wpS _ _ _ _ (pure (failedOf st).isNone) Q _;rw [ef];refine wpS_pure (h _ rfl hf ?_ ?_)
    all_goals
     have hl:r.toList.length=n - k + k2:=by
      rw [gp.length_eq]; simp only [tot,yao,ycb,zX,zY]
     have el:(laid a k r.toList).toList=a.toList.take k ++ r.toList ++ a.toList.drop (n + k2):=by
      rw [znP (1:),hl,show k + (n - k + k2)=n + k2 by omega]
     have eX:(a.extract k n).toList=(a.toList.take n).drop k:=zit;have eY:(a.extract n (n + k2)).toList=(a.toList.drop n).take k2:=zgn
     have sA:Sr (a.toList.take k ++ (a.toList.take n).drop k):=by
      have e:a.toList.take k ++ (a.toList.take n).drop k=a.toList.take n:=by
       have:=ya2 k (a.toList.take n)
       rwa [yc1,ybW (1:)] at this
      rw [e,Sr,ya5];intro i j hi' hj' hij;simp at hi' hj';have:=s1 i j (1:) (1:);rw [K_eq (1:),K_eq (1:)] at this;simpa using this
     have sB:Sr ((a.toList.drop n).take k2 ++ a.toList.drop (n + k2)):=by
      rw [<- ycB,ya2,Sr,ya5];intro i j hi' hj' hij;simp at hi' hj';have:=s2 (n + i) (n + j) (1:) (1:) (1:);rw [K_eq (1:),K_eq (1:)] at this;simpa using this
     have whole:a.toList.take k ++ (a.toList.take n).drop k ++ ((a.toList.drop n).take k2 ++ a.toList.drop (n + k2))=a.toList:=by
      have e:a.toList.take k ++ (a.toList.take n).drop k=a.toList.take n:=by
       have:=ya2 k (a.toList.take n)
       rwa [yc1,ybW (1:)] at this
      rw [e,<- ycB,ya2,ya2]
     have bt:=zo0 (L1:=a.toList.take k) (X:=(a.toList.take n).drop k) (Y:=(a.toList.drop n).take k2) (L2:=a.toList.drop (n + k2)) (M:=r.toList) sA sB (λ l hl' y hy'=>by
      obtain ⟨i,i1,i2,i3⟩:=zb5 hl';have hy2:y ∈ a.toList.drop n:=by rwa [<- ycB,ya2] at hy'
      obtain ⟨j,j1,j2,j3⟩:=zbH hy2;rw [i3,j3];exact ybO ((ah i).mp (p1 i i1)) (s2 n j (1:) j1 j2)) (λ x' hx' y hy'=>by
      obtain ⟨i,i1,i2,i2',i3⟩:=zel hx';obtain ⟨j,j1,j2,j3⟩:=zbH hy';rw [i3,j3];have q:=mt (ah2 (j - n)).mpr (r2 (j - n) (1:) (1:));rw [show n + (j - n)=j by omega] at q;exact ybO (s1 i (n - 1) (1:) (1:)) (1:)) (by rw [<- eX,<- eY]; exact gp) gs
     rw [whole] at bt
     have arr:arrOf (setArr (zbo st g) (laid (arrOf (zbo st g)) k r.toList))=laid a k r.toList:=by
      show laid (arrOf st) k r.toList=_;rw [ha]
    ·rw [arr,Array.perm_iff_toList_perm,el]; exact bt.1
    ·rw [arr];have := ztA (xs := laid a k r.toList) (by rw [el]; exact bt.2);have e : (laid a k r.toList).size = a.size := znO _ _ _ _
     rwa [e] at this
   split
   ·exact wpS_bind (zkM C hk λ r st' gs gd=>fin r st' gs gd)
   ·exact wpS_bind (zkZ C hk λ r st' gs gd=>fin r st' gs gd)
end
end Srt
namespace Srt
open PySem PyProof.Rows
noncomputable def rise (lo a nrem:Nat):StateT SortSt Sem (Option (Option Nat) × Nat):=
 forIn [a:nrem] ((none,a):Option (Option Nat) × Nat) λ _ c=>do
  match <- ltAt' (lo + c.2) (lo + c.2 - 1) with
  | some b=>if b then pure (.done (none,c.2)) else pure (.yield (none,c.2 + 1))
  | _=>pure (.done (some none,c.2))
noncomputable def fall (lo a nrem:Nat):StateT SortSt Sem (Option (Option Nat) × Nat × Nat):=
 forIn [a:nrem] ((none,a,0):Option (Option Nat) × Nat × Nat) λ _ c=>do
  match <- ltAt' (lo + c.2.1) (lo + c.2.1 - 1) with
  | some b=>
   if b then
    if c.2.2 > 0 then do
     reverseSlice' (lo + c.2.1 - (c.2.2 + 1)) (lo + c.2.1)
     pure (.yield (none,c.2.1 + 1,0))
    else pure (.yield (none,c.2.1 + 1,0))
   else do
    match <- ltAt' (lo + c.2.1 - 1) (lo + c.2.1) with
    | some g=>if g then pure (.done (none,c.2.1,c.2.2)) else pure (.yield (none,c.2.1 + 1,c.2.2 + 1))
    | _=>pure (.done (some none,c.2.1,c.2.2))
  | _=>pure (.done (some none,c.2.1,c.2.2))
noncomputable def zff (lo n nrem:Nat):StateT SortSt Sem (Option Nat):=do
 reverseSlice' lo (lo + n)
 let c <- rise lo n nrem
 match c.1 with
 | some r=>pure r
 | none=>pure (some c.2)
noncomputable def zix (lo n nrem:Nat):StateT SortSt Sem (Option Nat):=do
 liftM (rule "list.sort.descending-run")
 let c <- fall lo (n + 1) nrem
 match c.1 with
 | some r=>pure r
 | none=>if c.2.2 > 0 then (reverseSlice' (lo + c.2.1 - (c.2.2 + 1)) (lo + c.2.1) >>= λ _=>zff lo c.2.1 nrem) else zff lo c.2.1 nrem
def zho (lo nrem:Nat):countRun' lo nrem=(do
  let c <- rise lo 1 nrem
  match c.1 with
  | some r=>pure r
  | none=>
   if c.2 == nrem then pure (some c.2)
   else if c.2 > 1 then do
    match <- ltAt' lo (lo + c.2 - 1) with
    | some b=>if b then pure (some c.2) else do
      reverseSlice' lo (lo + c.2)
      zix lo c.2 nrem
    | _=>pure none
   else zix lo c.2 nrem):=by
 kernel_rfl
structure SB (a₀:Array Keyed) (lo:Nat) (p:Array (Nat × Nat × Nat)) (f:Nat -> Int) (st:SortSt):Prop where
 perm:(arrOf st).Perm a₀
 kind:kindOf st=oneType'
 failed:failedOf st=none
 pend:pendingOf st=p
 low:∀ i,i < lo -> K (arrOf st) i=f i
variable {a₀:Array Keyed} {lo:Nat} {p:Array (Nat × Nat × Nat)} {f:Nat -> Int} {st:SortSt}
def SB.size (h:SB a₀ lo p f st):(arrOf st).size=a₀.size:=h.perm.size_eq
def SB.put (h:SB a₀ lo p f st) {xs:Array Keyed} (hp:xs.Perm (arrOf st)) (hl:∀ i,i < lo -> K xs i=K (arrOf st) i):SB a₀ lo p f (setArr st xs):=
 ⟨hp.trans h.perm,h.kind,h.failed,h.pend,λ i hi=>(hl i hi).trans (h.low i hi)⟩
def zhb {xs:Array Keyed} (h0:IntKeys a₀) (hp:xs.Perm a₀):ze8 xs:=by
 intro i x hx
 have hi:i < xs.size:=by
  rcases ybx i xs.size with h1 | h1
  ·exact h1
  ·rw [getElem?_neg xs i (1:)] at hx; cases hx
 rw [getElem?_pos xs i hi] at hx;have e:=Option.some.inj hx;exact h0 _ ((Array.perm_iff_toList_perm.mp hp).mem_iff.mp (by rw [<- e]; simp))
noncomputable def Up (lo:Nat) (xs:Array Keyed) (m:Nat):Prop:=∀ i j,i <= j -> j < m -> K xs (lo + i) <= K xs (lo + j)
noncomputable def Dn (lo:Nat) (xs:Array Keyed) (m:Nat):Prop:=∀ i j,i <= j -> j < m -> K xs (lo + j) <= K xs (lo + i)
def Up.one {xs:Array Keyed}:Up lo xs 1:=λ i j h1 h2=>by
 have:i=j:=by omega
 subst this; exact ybZ _
def Up.more {xs:Array Keyed} {m:Nat} (h:Up lo xs m) (h1:1 <= m) (hl:K xs (lo + (m - 1)) <= K xs (lo + m)):Up lo xs (m + 1):=λ i j hij hj=>by
 by_cases c:j < m
 ·exact h i j hij c
 ·have : j = m := by omega
  subst this;by_cases c2:i=j
  ·subst c2; exact ybZ _
  ·exact ybO (h i (j - 1) (1:) (1:)) hl
def Dn.more {xs:Array Keyed} {m:Nat} (h:Dn lo xs m) (h1:1 <= m) (hl:K xs (lo + m) <= K xs (lo + (m - 1))):Dn lo xs (m + 1):=λ i j hij hj=>by
 by_cases c:j < m
 ·exact h i j hij c
 ·have : j = m := by omega
  subst this;by_cases c2:i=j
  ·subst c2; exact ybZ _
  ·exact ybO hl (h i (j - 1) (1:) (1:))
section
variable {prog:Program} {w:World} {A:Around} {E:Value -> Shared -> Prop} {s:Shared}
def zgv {i j:Nat} {Q:Option Bool -> SortSt -> Prop} (hB:SB a₀ lo p f st) (h0:IntKeys a₀) (hi:i < a₀.size) (hj:j < a₀.size)
  (h:Q (some (decide (K (arrOf st) i < K (arrOf st) j))) st):wpS (model prog w) A E s (ltAt' i j) Q st:=by
 have hs:=hB.size;have ai:=zhb h0 hB.perm;have e1:(arrOf st)[i]?=some (arrOf st)[i]:=getElem?_pos _ i (1:);have e2:(arrOf st)[j]?=some (arrOf st)[j]:=getElem?_pos _ j (1:);rw [ltAt'_eq];refine wpS_bind (wpS_get (wpS_bind (zaK (1:) λ x hx=>wpS_bind (zaK (1:) λ y hy=>zjj hB.kind (ai _ _ hx) (ai _ _ hy) ?_))));rw [K_at hx,K_at hy] at h;exact h
def zlF {m nrem:Nat} {Q:Option (Option Nat) × Nat -> SortSt -> Prop} (h0:IntKeys a₀) (hn:lo + nrem <= a₀.size) (h1:1 <= m) (hmn:m <= nrem) (hB:SB a₀ lo p f st) (hu:Up lo (arrOf st) m)
  (h:∀ n,m <= n -> n <= nrem -> Up lo (arrOf st) n -> (n=nrem \/ K (arrOf st) (lo + n) < K (arrOf st) (lo + (n - 1))) -> Q (none,n) st) :
  wpS (model prog w) A E s (rise lo m nrem) Q st:=by
 unfold rise;refine wpS_forRange (I:=λ x c st'=>st'=st /\ c=(none,x) /\ Up lo (arrOf st) x) ?step ?fin ⟨rfl,rfl,hu⟩
 case fin=>
  rintro c st' ⟨rfl,rfl,hu'⟩;rw [show max m nrem=nrem by omega] at hu' ⊢;exact h nrem hmn (yaj _) hu' (.inl rfl)
 case step=>
  rintro x c st' h2 h3 ⟨rfl,rfl,hu'⟩;dsimp only;refine wpS_bind (zgv hB h0 (1:) (1:) ?_);rw [show lo + x - 1=lo + (x - 1) by omega];by_cases hl:K (arrOf st') (lo + x) < K (arrOf st') (lo + (x - 1))
  ·simp only [hl,decide_true,if_true];exact wpS_pure (h x h2 (1:) hu' (.inr hl))
  ·simp only [hl,decide_false,yaC,if_false];exact wpS_pure ⟨rfl,rfl,hu'.more (1:) (1:)⟩
def znr {xs:Array Keyed} {i j:Nat} (hj:j <= xs.size) (heq:∀ k,i <= k -> k < j -> K xs k=K xs (j - 1)) (k:Nat):K (mirror xs i j ((j - i) / 2)) k=K xs k:=by
 rw [K_mirror hj]
 split
 ·rw [heq (i + j - 1 - k) (1:) (1:),heq k (1:) (1:)]
 ·rfl
def ze4 {n nrem:Nat} {Q:Option Nat -> SortSt -> Prop} (h0:IntKeys a₀) (hn:lo + nrem <= a₀.size) (h1:1 <= n) (hnn:n <= nrem) (hB:SB a₀ lo p f st) (hd:Dn lo (arrOf st) n)
  (h:∀ m st',SB a₀ lo p f st' -> 1 <= m -> m <= nrem -> Up lo (arrOf st') m -> Q (some m) st') :
  wpS (model prog w) A E s (zff lo n nrem) Q st:=by
 unfold zff;have hsz:lo + n <= (arrOf st).size:=by rw [hB.size]; omega
 refine wpS_bind (wpS_reverse ?_);have hB':SB a₀ lo p f (setArr st (mirror (arrOf st) lo (lo + n) ((lo + n - lo) / 2))):=hB.put (mirror_perm _ _ _ _) λ i hi=>by rw [K_mirror hsz,if_neg (1:)]
 refine wpS_bind (zlF h0 hn h1 hnn hB' ?_ λ m hm1 hm2 hsm _=>wpS_pure (h m _ hB' (1:) hm2 hsm));intro i j hij hj;show K (mirror (arrOf st) lo (lo + n) ((lo + n - lo) / 2)) (lo + i) <= K (mirror (arrOf st) lo (lo + n) ((lo + n - lo) / 2)) (lo + j);rw [K_mirror hsz,K_mirror hsz,if_pos (1:),if_pos (1:),show lo + (lo + n) - 1 - (lo + i)=lo + (n - 1 - i) by omega,show lo + (lo + n) - 1 - (lo + j)=lo + (n - 1 - j) by omega];exact hd _ _ (1:) (1:)
def zpN {n nrem:Nat} {Q:Option (Option Nat) × Nat × Nat -> SortSt -> Prop} (h0:IntKeys a₀) (hn:lo + nrem <= a₀.size) (h1:1 <= n) (hnn:n <= nrem) (hB:SB a₀ lo p f st) (hd:Dn lo (arrOf st) n)
  (h:∀ m q st',SB a₀ lo p f st' -> n <= m -> m <= nrem -> Dn lo (arrOf st') m -> q + 1 <= m -> (∀ i,lo + m - (q + 1) <= i -> i < lo + m -> K (arrOf st') i=K (arrOf st') (lo + m - 1)) -> Q (none,m,q) st') :
  wpS (model prog w) A E s (fall lo n nrem) Q st:=by
 unfold fall;refine wpS_forRange (I:=λ x c st'=>∃ q,c=(none,x,q) /\ SB a₀ lo p f st' /\ Dn lo (arrOf st') x /\ q + 1 <= x /\ (∀ i,lo + x - (q + 1) <= i -> i < lo + x -> K (arrOf st') i=K (arrOf st') (lo + x - 1))) ?step ?fin ⟨0,rfl,hB,hd,by omega,λ i _ _=>by congr 1; omega⟩
 case fin=>
  rintro c st' ⟨q,rfl,hB',hd',hq,he⟩;rw [show max n nrem=nrem by omega] at hd' hq he ⊢;exact h nrem q st' hB' hnn (yaj _) hd' hq he
 case step=>
  rintro x c st' h2 h3 ⟨q,rfl,hB',hd',hq,he⟩;dsimp only;have hsz:lo + x <= (arrOf st').size:=by rw [hB'.size]; omega
  have ex:lo + x - 1=lo + (x - 1):=by omega
  refine wpS_bind (zgv hB' h0 (1:) (1:) ?_);by_cases hl:K (arrOf st') (lo + x) < K (arrOf st') (lo + x - 1)
  ·simp only [hl, decide_true, if_true];rw [ex] at hl;have d1 := hd'.more (1:) (ybY hl);by_cases hq0 : q > 0
   ·rw [if_pos hq0];have sm:=znr hsz he;refine wpS_bind (wpS_reverse (wpS_pure ⟨0,rfl,hB'.put (mirror_perm _ _ _ _) λ i _=>sm i,λ i j hij hj=>?_,by omega,λ i _ _=>by congr 1; omega⟩));show K (mirror (arrOf st') _ _ _) _ <= K (mirror (arrOf st') _ _ _) _;rw [sm,sm]; exact d1 i j hij hj
   ·rw [if_neg hq0];exact wpS_pure ⟨0,rfl,hB',d1,by omega,λ i _ _=>by congr 1; omega⟩
  ·simp only [hl, decide_false, yaC, if_false];refine wpS_bind (zgv hB' h0 (1:) (1:) ?_);by_cases hg : K (arrOf st') (lo + x - 1) < K (arrOf st') (lo + x)
   ·simp only [hg,decide_true,if_true];exact wpS_pure (h x q st' hB' h2 (1:) hd' hq he)
   ·simp only [hg, decide_false, yaC, if_false];have eqx : K (arrOf st') (lo + x) = K (arrOf st') (lo + x - 1) := by omega
    refine wpS_pure ⟨q + 1,rfl,hB',hd'.more (1:) (by rw [<- ex]; omega),by omega,λ i g1 g2=>?_⟩;rw [show lo + (x + 1) - 1=lo + x by omega];by_cases c:i=lo + x
    ·rw [c]
    ·rw [eqx]; exact he i (1:) (1:)
def zgJ {n nrem:Nat} {Q:Option Nat -> SortSt -> Prop} (h0:IntKeys a₀) (hn:lo + nrem <= a₀.size) (hnn:n + 1 <= nrem) (hB:SB a₀ lo p f st) (hd:Dn lo (arrOf st) (n + 1))
  (h:∀ m st',SB a₀ lo p f st' -> 1 <= m -> m <= nrem -> Up lo (arrOf st') m -> Q (some m) st') :
  wpS (model prog w) A E s (zix lo n nrem) Q st:=by
 unfold zix;refine wpS_bind (wpS_lift (wpAny_rule ⟨rfl,?_⟩));refine wpS_bind (zpN h0 hn (1:) hnn hB hd λ m q st' hB' hm1 hm2 hd' hq he=>?_);dsimp only;have hsz:lo + m <= (arrOf st').size:=by rw [hB'.size]; omega
 by_cases hq0:q > 0
 ·rw [if_pos hq0];have sm:=znr hsz he;refine wpS_bind (wpS_reverse (ze4 h0 hn (1:) hm2 (hB'.put (mirror_perm _ _ _ _) λ i _=>sm i) (λ i j hij hj=>?_) h));show K (mirror (arrOf st') _ _ _) _ <= K (mirror (arrOf st') _ _ _) _;rw [sm,sm]; exact hd' i j hij hj
 ·rw [if_neg hq0];exact ze4 h0 hn (1:) hm2 hB' hd' h
def ziP {nrem:Nat} {Q:Option Nat -> SortSt -> Prop} (h0:IntKeys a₀) (hn:lo + nrem <= a₀.size) (h1:1 <= nrem) (hB:SB a₀ lo p f st)
  (h:∀ m st',SB a₀ lo p f st' -> 1 <= m -> m <= nrem -> Up lo (arrOf st') m -> Q (some m) st') :
  wpS (model prog w) A E s (countRun' lo nrem) Q st:=by
 rw [zho];refine wpS_bind (zlF h0 hn (yaj 1) h1 hB Up.one λ n hn1 hn2 hu hor=>?_);dsimp only;by_cases hnn:n=nrem
 ·rw [if_pos (by simpa using hnn)];exact wpS_pure (h n st hB hn1 hn2 hu)
 ·rw [if_neg (by simpa using hnn)];have hlt := hor.resolve_left hnn;have hsz : lo + n <= (arrOf st).size := by rw [hB.size]; omega
  by_cases hgt:n > 1
  ·rw [if_pos hgt];refine wpS_bind (zgv hB h0 (1:) (1:) ?_);rw [show lo + n - 1 = lo + (n - 1) by omega];by_cases hr : K (arrOf st) lo < K (arrOf st) (lo + (n - 1))
   ·simp only [hr,decide_true,if_true];exact wpS_pure (h n st hB hn1 hn2 hu)
   ·simp only [hr, decide_false, yaC, if_false]
    have hall:∀ k,lo <= k -> k < lo + n -> K (arrOf st) k=K (arrOf st) (lo + n - 1):=by
     intro k g1 g2;have a1:=hu 0 (k - lo) (1:) (1:);have a2:=hu (k - lo) (n - 1) (1:) (1:);rw [show lo + (k - lo)=k by omega] at a1 a2;rw [show lo + n - 1=lo + (n - 1) by omega];simp only [ybV] at a1;omega
    have sm:=znr hsz hall;refine wpS_bind (wpS_reverse (zgJ h0 hn (1:) (hB.put (mirror_perm _ _ _ _) λ i _=>sm i) (λ i j hij hj=>?_) h));show K (mirror (arrOf st) _ _ _) _ <= K (mirror (arrOf st) _ _ _) _;rw [sm,sm];by_cases c:j < n
    ·rw [hall (lo + i) (1:) (1:),hall (lo + j) (1:) (1:)]; exact ybZ _
    ·have : j = n := by omega
     subst this;by_cases c2:i=j
     ·subst c2; exact ybZ _
     ·rw [hall (lo + i) (1:) (1:),show lo + j - 1=lo + (j - 1) by omega]; exact ybY hlt
  ·rw [if_neg hgt];have : n = 1 := by omega
   subst this;refine zgJ h0 hn (1:) hB (λ i j hij hj=>?_) h;by_cases c:i=j
   ·subst c; exact ybZ _
   ·have e1 : i = 0 := by omega
    have e2:j=1:=by omega
    subst e1; subst e2;exact ybY hlt
def zha {n ok:Nat} {Q:Bool -> SortSt -> Prop} (h0:IntKeys a₀) (hn:lo + n <= a₀.size) (hok:ok <= n) (hB:SB a₀ lo p f st) (hu:Up lo (arrOf st) ok)
    (h:∀ st',SB a₀ lo p f st' -> Up lo (arrOf st') n -> Q true st'):wpS (model prog w) A E s (binarySort' lo n ok) Q st:=by
  rw [binarySort'_eq];refine wpS_bind (wpS_mono (wpS_forRange (I:=λ k c st'=>c=(none,()) /\ SB a₀ lo p f st' /\ Up lo (arrOf st') (min k n)) (Q:=λ c st'=>c=(none,()) /\ SB a₀ lo p f st' /\ Up lo (arrOf st') n) ?step ?fin ?init) ?post)
  case post=>
    rintro c st' ⟨rfl,hB',hu'⟩;exact wpS_pure (h st' hB' hu')
  case init=>
    refine ⟨rfl,hB,λ i j hij hj=>?_⟩;by_cases c:ok=0
    · have : i = j := by omega
      subst this; exact ybZ _
    · exact hu i j hij (1:)
  case fin=>
    rintro c st' ⟨hc,hB',hu'⟩;rw [show min (max (max ok 1) n) n=n by omega] at hu';exact ⟨hc,hB',hu'⟩
  case step=>
    rintro k c st' g1 g2 ⟨rfl,hB',hu'⟩;rw [show min k n=k by omega] at hu'
    refine wpS_bind (wpS_mono (wpS_forRange (I:=λ x c st''=>st''=st' /\ ∃ l r,c=(none,l,r) /\ l <= r /\ r <= k /\ r - l <= k - x /\
        (∀ i,i < l -> K (arrOf st') (lo + i) <= K (arrOf st') (lo + k)) /\ (∀ i,r <= i -> i < k -> K (arrOf st') (lo + k) < K (arrOf st') (lo + i)))
      (Q:=λ c st''=>st''=st' /\ ∃ l r,c=(none,l,r) /\ l <= k /\
        (∀ i,i < l -> K (arrOf st') (lo + i) <= K (arrOf st') (lo + k)) /\ (∀ i,l <= i -> i < k -> K (arrOf st') (lo + k) < K (arrOf st') (lo + i))) ?istep ?ifin ?iinit) ?ipost)
    case iinit=>exact ⟨rfl,0,k,rfl,by omega,by omega,by omega,λ i hi=>by omega,λ i h1 h2=>by omega⟩
    case ifin=>
      rintro c st'' ⟨rfl,l,r,rfl,q1,q2,q3,q4,q5⟩;have:l=r:=by omega
      subst this;exact ⟨rfl,l,l,rfl,q2,q4,q5⟩
    case istep=>
      rintro x c st'' _ hx ⟨rfl,l,r,rfl,q1,q2,q3,q4,q5⟩;dsimp only;by_cases hge:l >= r
      · rw [if_pos hge];have : l = r := by omega
        subst this;exact wpS_pure ⟨rfl,l,l,rfl,q2,q4,q5⟩
      · rw [if_neg hge];refine wpS_bind (zgv hB' h0 (1:) (1:) ?_);by_cases hl : K (arrOf st'') (lo + k) < K (arrOf st'') (lo + (l + r) / 2)
        · simp only [hl,decide_true,if_true];exact wpS_pure ⟨rfl,l,_,rfl,by omega,by omega,by omega,q4,λ i g3 g4=>Int.lt_of_lt_of_le hl (hu' _ _ g3 g4)⟩
        · simp only [hl,decide_false,yaC,if_false];exact wpS_pure ⟨rfl,_,r,rfl,by omega,by omega,by omega,λ i g3=>ybO (hu' i ((l + r) / 2) (1:) (1:)) (Int.not_lt.mp hl),q5⟩
    case ipost=>
      rintro c st'' ⟨rfl,l,r,rfl,q1,q4,q5⟩;show wpS _ _ _ _ (do moveDown' (lo + k) (lo + l); pure (ForInStep.yield (none,()))) _ _;rw [moveDown'_eq];have hks:lo + k < (arrOf st'').size:=by rw [hB'.size]; omega
      have kb:∀ i,K (bubble (arrOf st'') (lo + k) (lo + k - (lo + l))) i=if i=lo + l then K (arrOf st'') (lo + k) else if lo + l < i /\ i <= lo + k then K (arrOf st'') (i - 1) else K (arrOf st'') i:=λ i=>by
        rw [K_bubble hks (1:),show lo + k - (lo + k - (lo + l))=lo + l by omega]
      refine wpS_bind (wpS_modify (wpS_pure ⟨rfl,hB'.put (bubble_perm _ _ _) λ i hi=>by rw [kb,if_neg (1:),if_neg (1:)],?_⟩));rw [show min (k + 1) n=k + 1 by omega];intro i j hij hj;show K (bubble (arrOf st'') (lo + k) (lo + k - (lo + l))) (lo + i) <= K (bubble (arrOf st'') (lo + k) (lo + k - (lo + l))) (lo + j);rw [kb,kb]
      repeat' split
      all_goals first
        | (exfalso; omega)
        | exact ybZ _
        | (rw [show lo + i - 1=lo + (i - 1) by omega,show lo + j - 1=lo + (j - 1) by omega]; exact hu' _ _ (1:) (1:))
        | (rw [show lo + j - 1=lo + (j - 1) by omega]; exact ybY (q5 _ (1:) (1:)))
        | (rw [show lo + j - 1=lo + (j - 1) by omega]; exact hu' _ _ (1:) (1:))
        | exact q4 _ (1:)
        | exact hu' _ _ (1:) (1:)
end
end Srt
namespace Srt
open PySem PyProof.Rows
noncomputable def zkf (pw:Nat):StateT SortSt Sem (ForInStep (Option Unit × Unit)):=do
 let st <- get
 match (if (pendingOf st).size > 1 then (pendingOf st)[(pendingOf st).size - 2]? else none) with
 | some (_,_,older)=>if older <= pw then pure (.done (none,())) else do
   let b <- mergeAt' ((pendingOf st).size - 2)
   if !b then pure (.done (some (),())) else pure (.yield (none,()))
 | _=>pure (.done (none,()))
noncomputable def zm7 (sz lo n:Nat):StateT SortSt Sem (ForInStep (Option Unit × Nat)):=do
 let st <- get
 match (pendingOf st).back? with
 | some (s1,n1,_)=>do
  let c <- forIn [0:sz] ((none,()):Option Unit × Unit) λ _ _=>zkf (power' sz (2 * s1 + n1) (2 * s1 + n1 + n1 + n) sz)
  match c.1 with
  | some r=>pure (.done (some r,lo))
  | none=>do
   modify λ s=>setPending s ((pendingOf s).modify ((pendingOf s).size - 1) λ x=>(x.1,x.2.1,power' sz (2 * s1 + n1) (2 * s1 + n1 + n1 + n) sz))
   modify λ s=>setPending s ((pendingOf s).push (lo,n,0))
   pure (.yield (none,lo + n))
 | _=>do
  modify λ s=>setPending s ((pendingOf s).push (lo,n,0))
  pure (.yield (none,lo + n))
noncomputable def zig (sz mr lo:Nat):StateT SortSt Sem (ForInStep (Option Unit × Nat)):=
 if lo >= sz then pure (.done (none,lo)) else do
  match <- countRun' lo (sz - lo) with
  | some found=>
   if found < mr then do
    liftM (rule "list.sort.binary-insertion")
    let b <- binarySort' lo (min (sz - lo) mr) found
    if !b then pure (.done (some (),lo)) else zm7 sz lo (min (sz - lo) mr)
   else zm7 sz lo found
  | _=>pure (.done (some (),lo))
noncomputable def zlI (p:Array (Nat × Nat × Nat)):Nat:=
 if Option.any (λ x=>decide (x < p[p.size - 2 + 1]?.elim 0 λ x=>x.2.1)) (if p.size - 2 > 0 then p[p.size - 2 - 1]?.map (λ x=>x.2.1) else none)=true then p.size - 2 - 1 else p.size - 2
noncomputable def ziq:StateT SortSt Sem (ForInStep (Option Unit × Unit)):=do
 let st <- get
 if (pendingOf st).size <= 1 then pure (.done (none,())) else do
  let b <- mergeAt' (zlI (pendingOf st))
  if !b then pure (.done (some (),())) else pure (.yield (none,()))
def zhv:sortRuns'=(do
  let st <- get
  let c <- forIn [0:(arrOf st).size] ((none,0):Option Unit × Nat) λ _ c=>zig (arrOf st).size (minRun' (arrOf st).size (arrOf st).size 0) c.2
  match c.1 with
  | some r=>pure r
  | none=>do
   let d <- forIn [0:(arrOf st).size] ((none,()):Option Unit × Unit) λ _ _=>ziq
   match d.1 with
   | some r=>pure r
   | none=>pure ()):=by
 kernel_rfl
def zq2 {σ:Type} {M:Model} {A:Around} {E:Value -> Shared -> Prop} {s:Shared} {x:σ} {Q:PUnit -> σ -> Prop} {st:σ} (h:Q ⟨⟩ x):wpS M A E s (set x:StateT σ Sem PUnit) Q st:=by
 unfold wpS; rw [StateT.run_set]; exact wpAny_pure ⟨rfl,h⟩
section
variable {prog:Program} {w:World} {A:Around} {E:Value -> Shared -> Prop} {s:Shared} {a₀:Array Keyed}
structure Fst (a₀:Array Keyed) (n:Nat) (st:SortSt):Prop where
 perm:(arrOf st).Perm a₀
 kind:kindOf st=oneType'
 failed:failedOf st=none
 pend:pendingOf st=#[(0,n,0)]
 up:SortedTo (arrOf st) n
structure Snd (a₀:Array Keyed) (n pw:Nat) (st:SortSt):Prop where
 perm:(arrOf st).Perm a₀
 kind:kindOf st=oneType'
 failed:failedOf st=none
 pend:pendingOf st=#[(0,n,pw),(n,a₀.size - n,0)]
 up:SortedTo (arrOf st) n
 up2:∀ i j,n <= i -> i <= j -> j < a₀.size -> K (arrOf st) i <= K (arrOf st) j
def zhR {st:SortSt} {sz n:Nat} {Q:ForInStep (Option Unit × Nat) -> SortSt -> Prop} (hB:SBase a₀ st) (hs:SortedTo (arrOf st) n) (h:∀ st',Fst a₀ n st' -> Q (.yield (none,n)) st') :
  wpS (model prog w) A E s (zm7 sz 0 n) Q st:=by
 unfold zm7;refine wpS_bind (wpS_get ?_);have hb:(pendingOf st).back?=none:=by rw [hB.pend]; rfl
 rw [hb];dsimp only;refine wpS_bind (wpS_modify (wpS_pure ?_));rw [ycD];exact h _ ⟨hB.perm,hB.kind,hB.failed,by show (pendingOf st).push _=_; rw [hB.pend]; rfl,hs⟩
def zhH {st:SortSt} {sz n m:Nat} {f:Nat -> Int} {Q:ForInStep (Option Unit × Nat) -> SortSt -> Prop} (hB:SB a₀ n #[(0,n,0)] f st) (hs:SortedTo (arrOf st) n) (hu:Up n (arrOf st) m) (hm:m=a₀.size - n) (hn:n <= a₀.size)
  (h:∀ pw st',Snd a₀ n pw st' -> Q (.yield (none,a₀.size)) st') :
  wpS (model prog w) A E s (zm7 sz n m) Q st:=by
 unfold zm7;refine wpS_bind (wpS_get ?_);have hb:(pendingOf st).back?=some (0,n,0):=by rw [hB.pend]; rfl
 rw [hb];dsimp only;generalize power' sz (2 * 0 + n) (2 * 0 + n + n + m) sz=pw;refine wpS_bind (wpS_mono (wpS_forRange (I:=λ _ c st'=>st'=st /\ c=(none,())) (Q:=λ c st'=>st'=st /\ c=(none,())) ?_ (λ _ _ hh=>hh) ⟨rfl,rfl⟩) ?_)
 ·rintro x c st' _ _ ⟨rfl, rfl⟩;unfold zkf;refine wpS_bind (wpS_get ?_)
  have e:(if (pendingOf st').size > 1 then (pendingOf st')[(pendingOf st').size - 2]? else none)=none:=by
   rw [if_neg];rw [hB.pend]; simp
  rw [e];exact wpS_pure ⟨rfl,rfl⟩
 ·rintro c st' ⟨rfl, rfl⟩;dsimp only;refine wpS_bind (wpS_modify (wpS_bind (wpS_modify (wpS_pure ?_))));rw [show n + m = a₀.size by omega];refine h pw _ ⟨hB.perm, hB.kind, hB.failed, ?_, hs, fun i j h1 h2 h3 => ?_⟩
  ·show ((pendingOf st').modify ((pendingOf st').size - 1) _).push _=_;rw [hB.pend,hm];rfl
  ·have:=hu (i - n) (j - n) (1:) (1:);rw [show n + (i - n)=i by omega,show n + (j - n)=j by omega] at this;exact this
def zm8 {st:SortSt} {n pw:Nat} {Q:Bool -> SortSt -> Prop} (h0:IntKeys a₀) (h1:1 <= n) (h2:n < a₀.size) (hS:Snd a₀ n pw st)
  (h:∀ st',pendingOf st'=#[(0,a₀.size,pw)] -> failedOf st'=none -> (arrOf st').Perm a₀ -> SortedTo (arrOf st') a₀.size -> Q true st') :
  wpS (model prog w) A E s (mergeAt' 0) Q st:=by
 rw [zmX];refine wpS_bind (wpS_get ?_);have e1:(pendingOf st)[0]?=some (0,n,pw):=by rw [hS.pend]; rfl
 have e2:(pendingOf st)[0 + 1]?=some (n,a₀.size - n,0):=by rw [hS.pend]; rfl
 have hz:(arrOf st).size=a₀.size:=hS.perm.size_eq;rw [e1,e2];dsimp only;refine wpS_bind (zq2 ?_)
 have ep:((pendingOf st).setIfInBounds 0 (0,n + (a₀.size - n),pw)).eraseIdxIfInBounds (0 + 1)=#[(0,a₀.size,pw)]:=by
  rw [hS.pend,show n + (a₀.size - n)=a₀.size by omega];apply Array.ext';simp [Array.eraseIdxIfInBounds]
 rw [ep,<- hz];refine zkB (st:=setPending st #[(0,(arrOf st).size,pw)]) (a:=arrOf st) hS.kind hS.failed rfl (zhb h0 hS.perm) h1 (1:) hS.up (by rw [hz]; exact hS.up2) λ st' p1 p2 p3 p4=>h st' ?_ p2 (p3.trans hS.perm) (by rw [<- hz]; exact p4);rw [p1,<- hz]
def zhp {st:SortSt} {Q:Unit -> SortSt -> Prop} (h0:IntKeys a₀) (hB:SBase a₀ st) (h64:a₀.size=64)
  (h:∀ st',(arrOf st').Perm a₀ -> failedOf st'=none -> SortedTo (arrOf st') a₀.size -> Q () st'):wpS (model prog w) A E s sortRuns' Q st:=by
 rw [zhv];refine wpS_bind (wpS_get ?_);have hs:=hB.size;rw [h64] at hs;have hmr:minRun' 64 64 0=32:=rfl;simp only [hs,hmr]
 refine wpS_bind (wpS_mono (wpS_forRange
  (I:=λ x c st'=>(x=0 /\ c=(none,0) /\ SBase a₀ st') \/ (x=1 /\ ∃ n,32 <= n /\ n <= 64 /\ c=(none,n) /\ Fst a₀ n st') \/ (2 <= x /\ c=(none,64) /\ ∃ n pw,32 <= n /\ n < 64 /\ Snd a₀ n pw st'))
  (Q:=λ c st'=>c=(none,64) /\ (Fst a₀ 64 st' \/ ∃ n pw,32 <= n /\ n < 64 /\ Snd a₀ n pw st')) ?step ?fin (.inl ⟨rfl,rfl,hB⟩)) ?post)
 case fin=>
  rintro c st' (⟨hx,_⟩ | ⟨hx,_⟩ | ⟨_,hc,hD⟩)
  ·omega
  ·omega
  ·exact ⟨hc,.inr hD⟩
 case step=>
  rintro x c st' _ hx (⟨rfl,rfl,hB'⟩ | ⟨rfl,n,hn1,hn2,rfl,hF⟩ | ⟨hx2,rfl,hD⟩)
  ·unfold zig;rw [if_neg (1:)];refine wpS_bind (wpS_countRun h0 (1:) (1:) hB' fun m st2 hB2 hm1 hm2 hs2 => ?_);dsimp only;by_cases hlt : m < 32
   ·rw [if_pos hlt];refine wpS_bind (wpS_lift (wpAny_rule ⟨rfl,?_⟩));rw [show min (64 - 0) 32=32 by omega];refine wpS_bind (wpS_binarySort h0 (1:) (1:) hB2 hs2 λ st3 hB3 hs3=>?_);simp only [ycl,yaC,if_false];exact zhR hB3 hs3 λ st4 hF=>.inr (.inl ⟨by simp,32,by omega,by omega,rfl,hF⟩)
   ·rw [if_neg hlt];exact zhR hB2 hs2 λ st4 hF=>.inr (.inl ⟨rfl,m,by omega,by omega,rfl,hF⟩)
  ·unfold zig;by_cases hge : n >= 64
   ·rw [if_pos hge];have : n = 64 := by omega
    subst this;exact wpS_pure ⟨rfl,.inl hF⟩
   ·rw [if_neg hge];have hB1 : SB a₀ n #[(0, n, 0)] (K (arrOf st')) st' := ⟨hF.perm, hF.kind, hF.failed, hF.pend, fun i _ => rfl⟩
    have low:∀ st2,SB a₀ n #[(0,n,0)] (K (arrOf st')) st2 -> SortedTo (arrOf st2) n:=λ st2 q i j hij hj=>by
     rw [q.low i (1:),q.low j hj]; exact hF.up i j hij hj
    refine wpS_bind (ziP h0 (1:) (1:) hB1 λ m st2 hB2 hm1 hm2 hs2=>?_);dsimp only;by_cases hlt:m < 32
    ·rw [if_pos hlt];refine wpS_bind (wpS_lift (wpAny_rule ⟨rfl,?_⟩));rw [show min (64 - n) 32=64 - n by omega];refine wpS_bind (zha h0 (1:) hm2 hB2 hs2 λ st3 hB3 hs3=>?_);simp only [ycl,yaC,if_false];exact zhH hB3 (low _ hB3) hs3 (1:) (1:) λ pw st4 hS=>.inr (.inr ⟨by omega,by rw [h64],n,pw,hn1,by omega,hS⟩)
    ·rw [if_neg hlt];exact zhH hB2 (low _ hB2) hs2 (1:) (1:) λ pw st4 hS=>.inr (.inr ⟨by omega,by rw [h64],n,pw,hn1,by omega,hS⟩)
  ·unfold zig;rw [if_pos (by dsimp only; omega)];exact wpS_pure ⟨rfl,.inr hD⟩
 case post=>
  rintro c st' ⟨rfl,hD⟩;dsimp only
  refine wpS_bind (wpS_mono (wpS_forRange (I:=λ x c st''=>c=(none,()) /\ ((x=0 /\ st''=st') \/ (1 <= x /\ (pendingOf st'').size <= 1 /\ (arrOf st'').Perm a₀ /\ failedOf st''=none /\ SortedTo (arrOf st'') a₀.size)))
   (Q:=λ c st''=>c=(none,()) /\ (arrOf st'').Perm a₀ /\ failedOf st''=none /\ SortedTo (arrOf st'') a₀.size) ?step2 ?fin2 ⟨rfl,.inl ⟨rfl,rfl⟩⟩) ?post2)
  case fin2=>
   rintro c st'' ⟨hc,⟨hx,_⟩ | ⟨_,_,hh⟩⟩
   ·omega
   ·exact ⟨hc,hh⟩
  case step2=>
   rintro x c st'' _ _ ⟨rfl,⟨rfl,rfl⟩ | ⟨_,hz,hh⟩⟩
   ·unfold ziq;refine wpS_bind (wpS_get ?_);rcases hD with hF | ⟨n, pw, hn1, hn2, hS⟩
    ·rw [if_pos (by rw [hF.pend]; exact yaj 1)];exact wpS_pure ⟨rfl,hF.perm,hF.failed,by rw [h64]; exact hF.up⟩
    ·rw [if_neg (by rw [hS.pend]; simp)];have e : zlI (pendingOf st'') = 0 := by rw [hS.pend]; rfl
     rw [e];refine wpS_bind (zm8 h0 (1:) (1:) hS λ st3 p1 p2 p3 p4=>?_);simp only [ycl,yaC,if_false];exact wpS_pure ⟨rfl,.inr ⟨by omega,by rw [p1]; exact yaj 1,p3,p2,p4⟩⟩
   ·unfold ziq;refine wpS_bind (wpS_get ?_);rw [if_pos hz];exact wpS_pure ⟨rfl,hh⟩
  case post2=>
   rintro c st'' ⟨rfl,h1,h2,h3⟩;exact wpS_pure (h _ h1 h2 h3)
end
end Srt
namespace Srt
open PySem PyProof.Rows
section
variable {prog:Program} {w:World} {A:Around} {E:Value -> Shared -> Prop} {s:Shared}
def zf6 {a₀:Array Keyed} {st:SortSt} {Q:Unit -> SortSt -> Prop} (h0:IntKeys a₀) (hB:SBase a₀ st) (h2:2 <= a₀.size) (h64:a₀.size <= 64)
  (h:∀ st',(arrOf st').Perm a₀ -> failedOf st'=none -> SortedTo (arrOf st') a₀.size -> Q () st'):wpS (model prog w) A E s sortRuns' Q st:=by
 rcases ybx a₀.size 64 with hlt | hge
 ·exact wpS_sortRuns h0 hB h2 hlt h
 ·exact zhp h0 hB (1:) h
def zpa {a:Addr} {vs:List Value} {ns:List Int} {n:Nat} {P:Fin -> Shared -> Prop} (ho:s.heap.get? a=some (seqObj "list" vs.toArray n)) (hI:IntsAre vs ns) (h64:vs.length <= 64)
  (h:∀ (out:Array Value) (ns':List Int),IntsAre out.toList ns' -> ns'.Perm ns -> ns'.Pairwise (· <= ·) -> P (.done (.ret .none)) { s with heap:=sortedHeap s.heap a vs out }) :
  wpAny (model prog w) A (Builtin.«list.sort» ⟨[.ref a],[]⟩) P E s:=by
 by_cases hlt:vs.length < 64
 ·exact list_sort_tree ho hI hlt h
 have hl:vs.length=64:=by omega
 have la:a < s.heap.objs.size:=yan ho;have e1:=get?_update_seq ho (λ _=>#[])
 have e6:(((s.heap.update a (Obj.mapSeq λ _=>#[])).push (seqObj "tuple" vs.toArray 0)).push (seqObj "list" #[] 0)).get? a=some (seqObj "list" #[] (if (#[]:Array Value).size == vs.toArray.size then n else n + 1)):=by
  rw [Heap.get?_push_ne _ _ _ (by rw [size_push',Heap.size_update]; exact yaR (Nat.lt_succ_of_lt la)),Heap.get?_push_ne _ _ _ (by rw [Heap.size_update]; exact yaR la)];exact e1
 have kk:keyKind' vs.toArray=pure oneType':=by
  match vs,hl with
  | v₁ :: v₂ :: rest,_=>exact keyKind_ints hI
 have n2:¬ vs.toArray.size < 2:=by simp; omega
 rw [list_sort_plain];refine wpAny_bind (listItems_at ho rfl (wpAny_bind (listUpdate_at ho rfl (wpAny_bind (seqEpoch_at e1 rfl (wpAny_bind (wpAny_newTuple (wpAny_bind (wpAny_newList (wpAny_holding ?_)))))) ))));show wpAny (model prog w) A _ P E { s with heap:=((s.heap.update a (Obj.mapSeq λ _=>#[])).push (seqObj "tuple" vs.toArray 0)).push (seqObj "list" #[] 0) };dsimp only;rw [if_neg n2,if_neg n2,kk]
 refine wpAny_bind (wpAny_pure (wpAny_bind (wpAny_mono (zf6 (a₀:=pairsOf vs) (st:=SortSt.mk' oneType' (vs.toArray.zip vs.toArray) #[] 7 none)
  (Q:=λ _ st'=>(arrOf st').Perm (pairsOf vs) /\ failedOf st'=none /\ SortedTo (arrOf st') (pairsOf vs).size)
  hI.intKeys ⟨Array.Perm.refl _,rfl,rfl,rfl⟩ (by rw [pairsOf_size]; omega) (by rw [pairsOf_size]; omega) λ st' a1 a2 a3=>⟨a1,a2,a3⟩) ?_ λ _ _ e=>e)))
 rintro ⟨⟨⟩,st'⟩ s' ⟨rfl,hp,hf,hs⟩;dsimp only;obtain ⟨ns',g1,g2,g3⟩:=sorted_out hI hp hs;have hz:((arrOf st').map (·.2)).size=64:=by rw [Array.size_map,hp.size_eq,pairsOf_size,hl]
 refine wpAny_bind (seqEpoch_at e6 rfl (wpAny_bind (listUpdate_at e6 rfl ?_ (hsz2:=by show ((arrOf st').map (·.2)).size <= _; rw [hz,sizeLine_eq]; omega))));rw [hf];simp only [bne_self_eq_false,yaC,if_false];exact wpAny_pure (h _ ns' g1 g2 g3)
def zkv {l:Addr} {o:Obj} {T:String} {n:Nat} {vs:List Value} {Q:List Value -> Shared -> Prop} (ho:s.heap.get? l=some o) (hc:o.cls=.type T) (hT:T="list" \/ T="tuple") (hd:o.data=.seq vs.toArray n) (hz:vs.length <= 64)
  (h:Q vs { s with heap:=(s.heap.push (seqObj "list" #[] 0)).update s.heap.objs.size (Obj.mapSeq (· ++ vs.toArray)) }) :
  wpAny (model prog w) A (collect (.ref l)) Q E s:=by
 unfold collect;refine wpAny_bind (wpAny_runValue (codeAny_builtin entry_proto_collect' ?_));show wpAny _ _ (do again (.builtin "list.__iadd__" ⟨[<- newList [],.ref l],[]⟩)) _ _ s;refine wpAny_bind (wpAny_newList (wpAny_pure ⟨Code.quiet_builtin _ (25:),codeAny_builtin entry_list_iadd' ?_⟩));show wpAny _ _ (Builtin.List.listExtendWith (.ref s.heap.objs.size) (.ref l) (.ref s.heap.objs.size)) _ _ { s with heap:=s.heap.push (seqObj "list" #[] 0) };unfold Builtin.List.listExtendWith;have ho':(s.heap.push (seqObj "list" #[] 0)).get? l=some o:=yam _ ho;refine wpAny_bind (wpAny_typeOf (T:=T) ⟨o,ho',hc⟩ ?_);have b1:(Value.type "list" == Value.type "list")=true:=rfl;have b2:(Value.type "tuple" == Value.type "tuple")=true:=rfl;rw [if_pos (by rcases hT with rfl | rfl <;> simp [b1,b2])];have hne:¬ ((!(#[]:Array Value).isEmpty && Builtin.List.listTooLong ((#[]:Array Value).size + vs.toArray.size))=true):=by simp
 refine wpAny_bind (listItems_at ho' hd (wpAny_bind (listItems_at (xs:=#[]) (n:=0) (yaF _ rfl) rfl ?_)));rw [if_neg hne];refine wpAny_bind (listUpdate_at (xs:=#[]) (n:=0) (yaF _ rfl) rfl (wpAny_pure ?_) (ybA _) (by show (#[] ++ vs.toArray).size <= sizeLine + 1; simp only [Array.size_append,yas,ycV,sizeLine_eq]; omega))
 show wpAny (model prog w) A (do
   let o <- load s.heap.objs.size
   match o.data with
   | .seq xs _=>pure xs.toList
   | _=>unsupported "internal:collect") Q E { s with heap:=(s.heap.push (seqObj "list" #[] 0)).update s.heap.objs.size (Obj.mapSeq (· ++ vs.toArray)) }
 refine wpAny_bind (wpAny_load (get?_update_seq (yaF _ rfl) _) ?_);have ev:((#[]:Array Value) ++ vs.toArray).toList=vs:=by simp
 show wpAny _ _ (pure ((#[]:Array Value) ++ vs.toArray).toList) Q E _;rw [ev];exact wpAny_pure h
def sorted_seq {l:Addr} {o:Obj} {T:String} {n:Nat} {vs:List Value} {ns:List Int} {Q:Value -> Shared -> Prop} (ho:s.heap.get? l=some o) (hc:o.cls=.type T) (hT:T="list" \/ T="tuple") (hd:o.data=.seq vs.toArray n) (hI:IntsAre vs ns) (hz:vs.length <= 64)
  (h : ∀ (h' : Heap) (vs' : List Value) (ns' : List Int) (e : Nat), (∀ b u, s.heap.get? b = some u -> h'.get? b = some u) -> h'.get? (s.heap.objs.size + 1) = some (seqObj "list" vs'.toArray e) ->
   IntsAre vs' ns' -> ns'.Perm ns -> ns'.Pairwise (· <= ·) -> Q (.ref (s.heap.objs.size + 1)) { s with heap:=h' }) :
  wpAny (model prog w) A (call (.builtin "sorted") [.ref l]) Q E s:=by
 refine Calls.call_function_entry kind_sorted plain_sorted entry_sorted (args_sorted1 _) ?_;unfold Builtin.«sorted»;refine wpAny_bind (m:=checkCount "sorted" 1 1 _) (wpAny_pure (wpAny_bind (zkv ho hc hT hd hz (wpAny_bind (wpAny_newList ?_)))))
 have hsz:((s.heap.push (seqObj "list" #[] 0)).update s.heap.objs.size (Obj.mapSeq (· ++ vs.toArray))).objs.size=s.heap.objs.size + 1:=by
  rw [Heap.size_update,size_push']
 have hoL:(((s.heap.push (seqObj "list" #[] 0)).update s.heap.objs.size (Obj.mapSeq (· ++ vs.toArray))).push (seqObj "list" vs.toArray 0)).get? (s.heap.objs.size + 1)=some (seqObj "list" vs.toArray 0):=by
  rw [<- hsz]; exact yaF _ rfl
 show wpAny _ _ _ _ _ { s with heap:=((s.heap.push (seqObj "list" #[] 0)).update s.heap.objs.size (Obj.mapSeq (· ++ vs.toArray))).push (seqObj "list" vs.toArray 0) };rw [hsz];refine wpAny_bind (wpAny_holding (wpAny_call_entry slot_list_sort ⟨_,hoL,rfl⟩ entry_list_sort (zpa hoL hI hz λ out ns' a1 a2 a3=>⟨_,rfl,wpAny_pure ⟨_,rfl,?_⟩⟩) (args_list_sort _)));obtain ⟨e,he⟩:=sortedAll_at s.heap vs out;exact h _ out.toList ns' e (λ _ _=>sortedAll_old) he a1 a2 a3
end
end Srt
namespace L2
open PySem PySem.Spec PyProof.Rows
section
variable {X:Cx}
def zgR:∀ {ns:List Int} {us:List Value},IntsAre us ns -> Vals (ns.map V.int) us
 | _,_,.nil=>.nil
 | _,_,.cons n t h=>.cons ⟨t,rfl⟩ (zgR h)
noncomputable def znh (K:PySem.W.Frag):List V -> Hp -> VK -> Prop:=λ xs H Q=>∃ (a:Addr) (ns:List Int),xs=[.ref a] /\ (SqL K H a (ns.map V.int) \/ SqT K H a (ns.map V.int)) /\ ns.length <= 64 /\
 ∀ (p:Addr) (ns':List Int),H p=none -> ns'.Perm ns -> ns'.Pairwise (· <= ·) -> Q (.ref p) (upd H p (.lst (ns'.map V.int)))
def zlf:zdq X (.builtin "sorted") (znh X.K):=by
  intro pins s σ H xs us Q I r h;obtain ⟨a,ns,rfl,hq,hz,q⟩:=h;obtain ⟨u,rfl,ru⟩:=r.one;cases ru
  have go:∀ (o:Obj) (T:String) (n:Nat) (its:List Value),s.heap.get? a=some o -> o.cls=.type T -> (T="list" \/ T="tuple") -> o.data=.seq its.toArray n -> Vals (ns.map V.int) its ->
      wpAny (model X.prog X.w) X.A (call (.builtin "sorted") [.ref a]) (EP X pins σ Q) X.xe s:=by
    intro o T n its ho hc hT hd rv;have hi:=zhA rv;have hl:its.length=ns.length:=by have:=rv.length; simp at this; omega
    refine Srt.sorted_seq ho hc hT hd hi (1:) λ h' vs' ns' e hk he hi' hp hs=>?_;have hl':=(zgR hi').length;have hle:s.heap.objs.size <= s.heap.objs.size + 1:=Nat.le_succ _;refine ⟨.ref (s.heap.objs.size + 1),_,I.laid hk hle ?_,rfl,q _ ns' (I.hok.fresh hle) hp hs⟩;refine ⟨?_,vs',e,zgR hi',he⟩;have:=hp.length_eq;simp only [yaa];rw [sizeLine_eq];omega
  rcases hq with hq | hq
  · obtain ⟨its,rv,⟨o,n,ho,hc,hd,hs⟩,_⟩:=I.list hq;exact go o "list" n its ho hc (.inl rfl) hs rv
  · obtain ⟨its,rv,ht,_⟩:=I.tuple hq;obtain ⟨o,ho,hc,n,hd⟩:=ht;exact go o "tuple" n its ho hc (.inr rfl) hd rv
def zpP {K:PySem.W.Frag} (hK:X.K=K:=by rfl):zdq X (.builtin "sorted") (znh K):=hK ▸ zlf
end
end L2
namespace PySem.SeqAt
open PySem PySem.Spec PyProof.Rows
def zpM {M:Model} {A:Around} {E:Value -> Shared -> Prop} {s:Shared} {β:Type} {a b:Nat} {f:Nat -> β -> Sem (ForInStep β)} (I:Nat -> β -> Shared -> Prop) {Q:β -> Shared -> Prop} {c:β}
    (turn:∀ i c s,a <= i -> i < b -> I i c s -> wpAny M A (f i c) (λ r s'=>match r with | .done c'=>Q c' s' | .yield c'=>I (i + 1) c' s') E s)
    (fin:∀ c s,I (max a b) c s -> Q c s) (h:I a c s):wpAny M A (forIn [a:b] c f) Q E s:=by
  rw [Std.Legacy.Range.forIn_eq_forIn_range'];have hsz:([a:b]:Std.Legacy.Range).size=b - a:=by simp [Std.Legacy.Range.size]
  show wpAny M A (forIn (List.range' a ([a:b]:Std.Legacy.Range).size 1) c f) Q E s;rw [hsz];refine wpAny_forIn_list f (λ l c s=>∃ i,a <= i /\ i <= max a b /\ l=List.range' i (max a b - i) 1 /\ I i c s) Q ?_ ?_ _ c ⟨a,yaj _,by omega,by congr 1; omega,h⟩
  · rintro x rest c s ⟨i, h1, h2, h3, h4⟩
    have hlt:i < max a b:=by
      rcases ybx i (max a b) with z | z
      · exact z
      · rw [show max a b - i=0 by omega] at h3; simp at h3
    obtain ⟨n,hn⟩:∃ n,max a b - i=n + 1:=⟨max a b - i - 1,by omega⟩
    rw [hn,ycI] at h3;obtain ⟨rfl,rfl⟩:=List.cons.inj h3;refine wpAny_mono (turn x c s h1 (1:) h4) (λ r s' q=>?_) λ _ _ e=>e;cases r with
    | done c'=>exact q
    | yield c'=>exact ⟨x + 1,by omega,by omega,by congr 1; omega,q⟩
  · rintro c s ⟨i, h1, h2, h3, h4⟩
    have:i=max a b:=by
      rcases ybx i (max a b) with z | z
      · obtain ⟨n, hn⟩ : ∃ n, max a b - i = n + 1 := ⟨max a b - i - 1, by omega⟩
        rw [hn,ycI] at h3; simp at h3
      · omega
    subst this; exact fin _ _ h4
def tuple_indexAt (l:Addr) (items:Array Value) (n:Nat) (dd:Option Addr) (sl:Array (Option Value)) (x:Value) (e:Value -> Bool) (j:Nat) (hj:j < items.size) (hit:e items[j]=true)
  (hno:∀ m (hm:m < items.size),m < j -> e items[m]=false) :
  Meets (Builtin.«tuple.index» ⟨[.ref l,x],[]⟩)
   (λ A R s=>s.heap.get? l=some { cls:=.type "tuple",dict:=dd,data:=.seq items n,slots:=sl } /\ (∀ y,y ∈ items -> EqAt A.in1 s y x (e y)) /\ R (.ok (.ret (.int j s.toks))) { s with toks:=s.toks + 1 }):=
 .of_wp λ prog w A R s h=>by
  obtain ⟨hp,g,d,tk,os⟩:=s; obtain ⟨hl,he,h⟩:=h
  wp_walk using PySem.AutoSeq1.wpAny_loadPart' hl,zpM (λ i c s'=>c=(none,()) /\ s'=⟨hp,g,d,tk,os⟩ /\ i <= j)
  case turn=>
   rintro i c s' _ hi ⟨rfl,rfl,hij⟩;have hz:i < items.size:=by omega
   dsimp only;rw [getElem?_pos items i hz];dsimp only;refine wpAny_bind (he _ (Array.getElem_mem hz) prog w _ _ ?_);by_cases hq:i=j
   ·subst hq;rw [hit]
    wp_walk
    exact ⟨_,rfl,h⟩
   ·rw [hno i hz (1:)]
    wp_walk
    exact ⟨rfl,rfl,by omega⟩
  case fin=>
   rintro c s' ⟨rfl,rfl,hij⟩;omega
  case h=>exact ⟨rfl,rfl,by omega⟩
end PySem.SeqAt
namespace L2
open PySem PySem.Spec PyProof.Rows Bm
section
variable {X:Cx}
noncomputable def zny (K:PySem.W.Frag):V -> List V -> Hp -> VK -> Prop:=λ x vs H Q=>∃ (l:Addr) (xs:List V) (y u:V) (j:Nat),x=.ref l /\ vs=[y] /\ SqT K H l xs /\ zbZ y=true /\ xs.all zbZ=true /\ xs[j]?=some u /\ eqV u y=true /\
 (∀ (m:Nat) (u:V),m < j -> xs[m]?=some u -> eqV u y=false) /\ Q (.int (j:Int)) H
def zj3 {K:PySem.W.Frag} (hK:X.K=K:=by rfl):MtR X "tuple.index" (zny K):=by
 subst hK;intro pins s σ H x vs v us Q I rx rv h;obtain ⟨l,xs,y,u,j,rfl,rfl,hH,fy,fs,hj,hit,hno,q⟩:=h;cases rx;obtain ⟨uy,rfl,ry⟩:=Vals.one rv;obtain ⟨its,r,⟨⟨cls,dd,data,sl⟩,e,hc,n,hd⟩,z⟩:=I.tuple hH;obtain rfl:cls=.type "tuple":=hc;obtain rfl:data=.seq its.toArray n:=hd;have hl:=r.length;obtain ⟨ju,hju,rju⟩:=r.get hj;have hjl:j < its.length:=(yad.mp hju).1;have eju:its[j]=ju:=(yad.mp hju).2
 refine call_meets F.slot_tuple_index ⟨_,e,rfl⟩ F.entry_tuple_index (F.args_tuple_index_2 _ _)
  (SeqAt.tuple_indexAt l its.toArray n dd sl uy (eqU y) j (by simpa using hjl) ?_ ?_) ⟨e,λ w hw=>zc3 ry fy r fs w (69:),?_⟩
 ·show eqU y its[j]=true;rw [eju,zkr rju (znw fs hj)];exact hit
 ·intro m hm hlt;have hm' : m < xs.length := by rw [hl]; simpa using hm
  obtain ⟨mu,hmu,rmu⟩:=r.get (yac hm');have emu:its[m]'(by simpa using hm)=mu:=(yad.mp hmu).2;show eqU y (its[m]'(by simpa using hm))=false;rw [emu,zkr rmu (znw fs (yac hm'))];exact hno m _ hlt (yac hm')
 ·exact ⟨.int _,H,I.tok _,⟨_,rfl⟩,q⟩
noncomputable def zop (K:PySem.W.Frag):V -> List V -> Hp -> VK -> Prop:=λ x vs H Q=>∃ (l:Addr) (xs:List V) (y:V),x=.ref l /\ vs=[y] /\ SqT K H l xs /\ zbZ y=true /\ xs.all zbZ=true /\ Q (.int ((xs.countP λ u=>eqV u y:Nat):Int)) H
def zkh {y:V}:∀ {xs:List V} {its:List Value},Vals xs its -> xs.all zbZ=true -> its.countP (eqU y)=xs.countP λ u=>eqV u y
 | [],_,.nil,_=>rfl
 | x :: xs,_,.cons r t,h=>by
  rw [yc2,yal] at h;rw [ybQ,ybQ,zkh t h.2,zkr r h.1]
def znU {K:PySem.W.Frag} (hK:X.K=K:=by rfl):MtR X "tuple.count" (zop K):=by
 subst hK;intro pins s σ H x vs v us Q I rx rv h;obtain ⟨l,xs,y,rfl,rfl,hH,fy,fs,q⟩:=h;cases rx;obtain ⟨uy,rfl,ry⟩:=Vals.one rv;obtain ⟨its,r,⟨⟨cls,dd,data,sl⟩,e,hc,n,hd⟩,z⟩:=I.tuple hH;obtain rfl:cls=.type "tuple":=hc;obtain rfl:data=.seq its.toArray n:=hd
 refine call_meets F.slot_tuple_count ⟨_,e,rfl⟩ F.entry_tuple_count (F.args_tuple_count_2 _ _)
  (SeqAt.tuple_countAt l its.toArray n dd sl uy (eqU y)) ⟨e,λ w hw=>zc3 ry fy r fs w (69:),?_⟩
 exact ⟨.int _,H,I.tok _,⟨_,rfl⟩,by rw [<- zkh r fs] at q; exact q⟩
end
noncomputable abbrev zaL (ls:List Int):Prop:=ls.Perm (zaE ls.length)
noncomputable def znj (ls:List Int):Bool:=decide (zaL ls)
noncomputable def zj8 (ls:List Int):List Int:=(List.range ls.length).map λ (p:Nat)=>((ls.idxOf (p:Int):Nat):Int)
def zbr (w:Nat):(zaE w).length=w:=by simp [zaE]
def zk2 (w:Nat):(zaE w).Pairwise (· <= ·):=by
 rw [zaE,yb3];exact ybr.imp λ h=>by omega
def zkI {ls ns:List Int} (hp:ns.Perm ls) (hs:ns.Pairwise (· <= ·)):decide (ns=zaE ls.length)=znj ls:=by
 unfold znj;apply decide_eq_decide.mpr;constructor
 ·intro e;rw [e] at hp;exact hp.symm
 ·intro e;exact PySem.W.ksm_same (hp.trans e) hs (zk2 _)
def zlU {ls:List Int} (h:zaL ls) {p:Nat} (hp:p < ls.length):(p:Int) ∈ ls:=
 h.mem_iff.mpr (by rw [zaE,yau]; exact ⟨p,yai.mpr hp,rfl⟩)
def zbl {ls:List Int} (h:zaL ls) {e:Int} (he:e ∈ ls):0 <= e /\ e < (ls.length:Int):=by
 have:=h.mem_iff.mp he;rw [zaE,yau] at this;obtain ⟨x,hx,rfl⟩:=this;have:=yai.mp hx;omega
def zfp (w:Nat):(zaE w).Nodup:=by
 rw [zaE,List.Nodup,yb3];exact ybr.imp λ h=>by omega
def zfv {ls:List Int} (h:zaL ls):ls.Nodup:=h.nodup_iff.mpr (zfp _)
def zfj {ls:List Int} (h:zaL ls):Ld ls.length ls:=⟨rfl,λ e he=>by have:=zbl h he; omega⟩
def zob {w:Nat} {ms:List Nat} (h:ms.Perm (List.range w)):zaL (ms.map λ (x:Nat)=>(x:Int)):=by
 unfold zaL;rw [yaa,h.length_eq,yah];exact h.map _
def zpv (ls:List Int):(zj8 ls).length=ls.length:=by simp [zj8]
def zjG {ls:List Int} {x:Int} (h:x ∈ ls):ls.idxOf x < ls.length /\ ls.getD (ls.idxOf x) 0=x:=by
 have h1:=List.idxOf_lt_length_of_mem h;refine ⟨h1,?_⟩;rw [yab,yac h1];exact ycZ h1
def zdI {ls:List Int} (h:ls.Nodup) {i:Nat} (hi:i < ls.length):ls.idxOf (ls.getD i 0)=i:=by
 have e:ls.getD i 0=ls[i]:=by rw [yab,yac hi]; rfl
 rw [e];have hm:ls[i] ∈ ls:=ybp hi;have q:=zjG hm;have e2:ls[ls.idxOf ls[i]]'q.1=ls[i]:=ycZ q.1;rcases ycy (ls.idxOf ls[i]) i with z | z | z
 ·exact absurd e2 (ya5.mp h _ _ q.1 hi z)
 ·exact z
 ·exact absurd e2.symm (ya5.mp h _ _ hi q.1 z)
def zcz (ls:List Int):ls=(List.range ls.length).map λ i=>ls.getD i 0:=by
 apply ybt;intro i;by_cases hi:i < ls.length
 ·rw [yaf,yay hi,yac hi];simp [yab,yac hi]
 ·rw [yaK (1:),yaK (by rw [yaa,yah]; omega)]
def getD_mem' {ls:List Int} {k:Nat} (hk:k < ls.length):ls.getD k 0 ∈ ls:=by
 rw [yab,yac hk]; exact ybp hk
noncomputable def zli:Sp:=λ vs H Q _=>∃ (a:Addr) (ls:List Int) (w:Nat),vs=[.ref a] /\ H a=some (.tup (ls.map V.int)) /\ Ld w ls /\ w <= 64 /\ ∀ H',Same H H' -> Q (.bl (znj ls)) H'
noncomputable def zh1:Sp:=λ vs H Q _=>∃ (a:Addr) (ls:List Int),vs=[.ref a] /\ H a=some (.tup (ls.map V.int)) /\ zaL ls /\ ls.length <= 64 /\ ∀ t H',Same H H' -> H' t=some (.tup ((zj8 ls).map V.int)) -> Q (.ref t) H'
def tyT {K:PySem.W.Frag} {H:Hp} {p:Addr} {xs:List V} (h:H p=some (.tup xs)):tyV K "tuple" (.ref p) H:=.inr (.inl ⟨rfl,.inr ⟨xs,h⟩⟩)
def zjh (ls:List Int):(ls.map V.int).all zbZ=true:=by
 rw [ybo];intro x hx;obtain ⟨z,_,rfl⟩:=yau.mp hx;rfl
def zih (a b:Int):eqV (.int a) (.int b)=decide (a=b):=by
 by_cases h:a=b
 ·subst h; rw [decide_eq_true rfl]; exact beq_self_eq_true a
 ·rw [decide_eq_false h]; exact beq_eq_false_iff_ne.mpr h
def zmj {K:PySem.W.Frag} {ls:List Int} {z:Int} {l:Addr} {H:Hp} {Q:VK} (hl:SqT K H l (ls.map V.int)) (hq:ls.idxOf z < ls.length /\ ls.getD (ls.idxOf z) 0=z) (h:Q (.int ((ls.idxOf z:Nat):Int)) H):zny K (.ref l) [.int z] H Q:=by
 refine ⟨l,_,.int z,.int z,ls.idxOf z,rfl,rfl,hl,rfl,zjh ls,?_,by rw [zih,decide_eq_true rfl],λ m u hm hu=>?_,h⟩
 ·have e:=hq.2;rw [yab,yac hq.1] at e;rw [yaf,yac hq.1];have e:ls[ls.idxOf z]=z:=e;rw [e]; rfl
 ·obtain ⟨x,hx,rfl⟩:=zaB hu;rw [zih];apply decide_eq_false;rintro rfl;have hml:m < ls.length:=(yad.mp hx).1;have:=List.not_of_lt_findIdx (p:=(· == x)) (xs:=ls) (i:=m) (by exact hm);rw [(yad.mp hx).2] at this;simp at this
def zcs {a b:List Int} (hl:a.length=b.length) (h:∀ p,p < a.length -> a.getD p 0=b.getD p 0):a=b:=by
 rw [zcz a,zcz b,hl];apply yaM;intro p hp;exact h p (by rw [hl]; exact yai.mp hp)
def zbf {w p:Nat} (hp:p < w):(zaE w).getD p 0=(p:Int):=by
 rw [zaE,yab,yaf,yay hp]; rfl
def zpj {ls:List Int} (h:zaL ls) (hl:∀ p,p < ls.length -> ls.getD p 0 <= (p:Int)):ls=zaE ls.length:=by
 refine zcs (by rw [zbr]) λ p hp=>?_;rw [zbf hp];have nd:=zfv h
 have key:∀ n,∀ p,p < n -> p < ls.length -> ls.getD p 0=(p:Int):=by
  intro n
  induction n with
  | zero=>intro p h1; omega
  | succ n ih=>
   intro p h1 h2;by_cases c:p < n
   ·exact ih p c h2
   ·have : p = n := by omega
    subst this;have hm:=zbl h (getD_mem' h2);have hle:=hl p h2;by_cases e:ls.getD p 0=(p:Int)
    ·exact e
    ·exfalso;obtain ⟨q, hq⟩ : ∃ q : Nat, ls.getD p 0 = (q : Int) := ⟨(ls.getD p 0).toNat, by omega⟩
     have hqp:q < p:=by omega
     have e1:=ih q hqp (1:);have i1:=zdI nd h2;have i2:=zdI nd (show q < ls.length by omega);rw [hq] at i1;rw [e1] at i2;omega
 exact key (p + 1) p (1:) hp
def znt {ls:List Int} (h:zaL ls) (hl:∀ p,p < ls.length -> (p:Int) <= ls.getD p 0):ls=zaE ls.length:=by
 refine zcs (by rw [zbr]) λ p hp=>?_;rw [zbf hp];have nd:=zfv h
 have key:∀ n,∀ p,p < ls.length -> ls.length - p <= n -> ls.getD p 0=(p:Int):=by
  intro n
  induction n with
  | zero=>intro p h1 h2; omega
  | succ n ih=>
   intro p h2 h1;have hm:=zbl h (getD_mem' h2);have hle:=hl p h2;by_cases e:ls.getD p 0=(p:Int)
   ·exact e
   ·exfalso;obtain ⟨q, hq⟩ : ∃ q : Nat, ls.getD p 0 = (q : Int) := ⟨(ls.getD p 0).toNat, by omega⟩
    have hqp:p < q:=by omega
    have e1:=ih q (1:) (1:);have i1:=zdI nd h2;have i2:=zdI nd (show q < ls.length by omega);rw [hq] at i1;rw [e1] at i2;omega
 exact key (ls.length - p) p hp (yaj _)
def Dd.led_len (w:Nat) (d:Dd):(d.led w).length=w:=by simp [Dd.led]
def Dd.led_getD {w p:Nat} (d:Dd) (hp:p < w):(d.led w).getD p 0=d.src w p:=by
 rw [Dd.led,yab,yaf,yay hp]; rfl
noncomputable def Dd.flatE:Dd -> Bool
 | .turn _=>false
 | .swap _ _=>false
 | _=>true
def zpf {w:Nat} {d:Dd} (h:zaL (d.led w)) (ok:d.ok w) (hf:d.flatE=true):d.led w=zaE w:=by
 have el:(d.led w).length=w:=d.led_len w
 have low:(∀ p,p < w -> d.src w p <= (p:Int)) -> d.led w=zaE w:=λ hh=>by
  have:=zpj h (λ p hp=>by rw [d.led_getD (1:)]; exact hh p (1:));rw [el] at this; exact this
 have high:(∀ p,p < w -> (p:Int) <= d.src w p) -> d.led w=zaE w:=λ hh=>by
  have:=znt h (λ p hp=>by rw [d.led_getD (1:)]; exact hh p (1:));rw [el] at this; exact this
 have pos:∀ p,p < w -> 0 <= d.src w p:=λ p hp=>by
  rw [<- d.led_getD hp]; exact (zbl h (getD_mem' (1:))).1
 cases d with
 | and m=>
  refine low λ p hp=>?_;rw [show (Dd.and m).src w p=if m.testBit p then (p:Int) else -1 from rfl]; split <;> omega
 | or m=>
  refine low λ p hp=>?_;rw [show (Dd.or m).src w p=if m.testBit p then -2 else (p:Int) from rfl]; split <;> omega
 | left n=>
  refine low λ p hp=>?_;rw [show (Dd.left n).src w p=if n <= p then (p:Int) - n else -1 from rfl]; split <;> omega
 | right n=>
  refine high λ p hp=>?_;have:=pos p hp;rw [show (Dd.right n).src w p=if p + n < w then (p:Int) + n else -1 from rfl] at this ⊢;by_cases c:p + n < w
  ·rw [if_pos c]; omega
  ·rw [if_neg c] at this; omega
 | turn n=>cases hf
 | swap m n=>cases hf
 | gather m=>
  refine high λ p hp=>?_;have:=pos p hp;rw [show (Dd.gather m).src w p=if p < (zac m).length then ((zac m).getD p 0:Int) else -1 from rfl] at this ⊢;by_cases c:p < (zac m).length
  ·rw [if_pos c];have e:p <= (zac m).getD p 0:=zhD c;omega
  ·rw [if_neg c] at this;omega
 | strew m=>
  refine low λ p hp=>?_;rw [show (Dd.strew m).src w p=if m.testBit p then ((zac m).idxOf p:Int) else -1 from rfl];by_cases c:m.testBit p=true
  ·rw [if_pos c];have q:=zaO c;have e:(zac m).idxOf p <= (zac m).getD ((zac m).idxOf p) 0:=zhD q.1;rw [q.2] at e;omega
  ·rw [if_neg c]; omega
 | copy m n=>
  have s:∀ p,(Dd.copy m n).src w p=if inM m ((p:Int) - n) then (p:Int) - n else p:=λ p=>rfl
  by_cases hn:0 <= n
  ·exact low λ p hp=>by rw [s]; split <;> omega
  ·exact high λ p hp=>by rw [s]; split <;> omega
noncomputable def zmU (w:Nat):Dd -> Dd
 | .turn n=>.turn ((w - n) % w)
 | d=>d
def zoA {w:Nat} {d:Dd} (ok:d.ok w):(zmU w d).ok w:=by
 cases d with
 | turn n=>
  have:n < w:=ok;exact ybl _ (1:)
 | _=>exact ok
def zj5 {w:Nat} {d:Dd} (hf:d.flatE=true):zmU w d=d:=by cases d <;> first | rfl | cases hf
def zeT {ls ms:List Int} {p:Nat} (hp:p < ms.length) (h0:0 <= ms.getD p 0):(zax ls ms).getD p 0=ls.getD (ms.getD p 0).toNat 0:=by
 have e:ms.getD p 0=ms[p]:=by rw [yab,yac hp]; rfl
 rw [e] at h0 ⊢
 have e2:(zax ls ms).getD p 0=if 0 <= ms[p] then ls.getD ms[p].toNat 0 else ms[p]:=by
  rw [zax,yab,yaf,yac hp]; rfl
 rw [e2,if_pos h0]
def zbM (ls ms:List Int):(zax ls ms).length=ms.length:=by simp [zax]
def zcW {w n m:Nat} (hn:n < w) (hm:m < w) (e:n + m=0 \/ n + m=w):zax ((Dd.turn n).led w) ((Dd.turn m).led w)=zaE w:=by
 refine zcs (by rw [zbM,Dd.led_len,zbr]) λ p hp=>?_;rw [zbM,Dd.led_len] at hp;rw [zbf hp];have s1:(Dd.turn m).src w p=if m <= p then (p:Int) - m else (p:Int) - m + w:=rfl
 have h0:0 <= ((Dd.turn m).led w).getD p 0:=by
  rw [Dd.led_getD _ hp,s1]; split <;> omega
 rw [zeT (by rw [Dd.led_len]; exact hp) h0,Dd.led_getD _ hp,s1];have hq:(if m <= p then (p:Int) - m else (p:Int) - m + w).toNat < w:=by split <;> omega
 rw [Dd.led_getD _ hq];generalize hqq:(if m <= p then (p:Int) - m else (p:Int) - m + w).toNat=q at hq;have s2:(Dd.turn n).src w q=if n <= q then (q:Int) - n else (q:Int) - n + w:=rfl
 rw [s2]
 split at hqq <;> split <;> omega
def zc8 {w m n:Nat} (ok:(Dd.swap m n).ok w):zax ((Dd.swap m n).led w) ((Dd.swap m n).led w)=zaE w:=by
 obtain ⟨h1,h2,h3⟩:=ok;have sr:∀ p,(Dd.swap m n).src w p=if inM m ((p:Int) - n) then (p:Int) - n else if m.testBit p then (p:Int) + n else p:=λ p=>rfl
 refine zcs (by rw [zbM,Dd.led_len,zbr]) λ p hp=>?_;rw [zbM,Dd.led_len] at hp;rw [zbf hp]
 have inm:∀ q:Nat,inM m ((q:Int) - n)=true ↔ n <= q /\ m.testBit (q - n)=true:=λ q=>by
  unfold inM;rw [yal,decide_eq_true_iff];constructor
  ·rintro ⟨a,b⟩;refine ⟨by omega,?_⟩;rw [show q - n=((q:Int) - n).toNat by omega]; exact b
  ·rintro ⟨a,b⟩;refine ⟨by omega,?_⟩;rw [show ((q:Int) - n).toNat=q - n by omega]; exact b
 have cases3:((Dd.swap m n).src w p=(p:Int) - n /\ n <= p /\ m.testBit (p - n)=true) \/ ((Dd.swap m n).src w p=(p:Int) + n /\ m.testBit p=true /\ ¬ inM m ((p:Int) - n)=true) \/ ((Dd.swap m n).src w p=(p:Int) /\ m.testBit p=false /\ ¬ inM m ((p:Int) - n)=true):=by
  rw [sr];by_cases c1:inM m ((p:Int) - n)=true
  ·rw [if_pos c1]; exact .inl ⟨rfl,(inm p).mp c1⟩
  ·rw [if_neg c1];by_cases c2 : m.testBit p = true
   ·rw [if_pos c2]; exact .inr (.inl ⟨rfl,c2,c1⟩)
   ·rw [if_neg c2]; exact .inr (.inr ⟨rfl,by simpa using c2,c1⟩)
 have go:∀ q:Nat,(Dd.swap m n).src w p=(q:Int) -> q < w -> (Dd.swap m n).src w q=(p:Int) -> (zax ((Dd.swap m n).led w) ((Dd.swap m n).led w)).getD p 0=(p:Int):=λ q e1 hq e2=>by
  rw [zeT (by rw [Dd.led_len]; exact hp) (by rw [Dd.led_getD _ hp,e1]; omega),Dd.led_getD _ hp,e1,yak,Dd.led_getD _ hq,e2]
 rcases cases3 with ⟨e,c1,c2⟩ | ⟨e,c1,c2⟩ | ⟨e,c1,c2⟩
 ·refine go (p - n) (by rw [e]; omega) (1:) ?_;rw [sr, if_neg, if_pos c2]
  ·omega
  ·intro z;have:=(inm (p - n)).mp z;have q:=(h3 _ this.2).2;rw [show p - n - n + n=p - n by omega] at q;rw [c2] at q; cases q
 ·have q:=h3 p c1;refine go (p + n) (by rw [e]; omega) q.1 ?_;rw [sr,if_pos ((inm (p + n)).mpr ⟨by omega,by rw [show p + n - n=p by omega]; exact c1⟩)];omega
 ·refine go p e hp e
def zoj {w:Nat} {d:Dd} (ok:d.ok w) (he:zaL (d.led w)):zax (d.led w) ((zmU w d).led w)=zaE w /\ zax ((zmU w d).led w) (d.led w)=zaE w:=by
 by_cases hf:d.flatE=true
 ·rw [zj5 hf,zpf he ok hf,zbI (zdy w)];exact ⟨rfl,rfl⟩
 ·cases d with
  | turn n=>
   have hn:n < w:=ok;have hm:(w - n) % w < w:=ybl _ (1:)
   have e:n + (w - n) % w=0 \/ n + (w - n) % w=w:=by
    by_cases z:n=0
    ·subst z; rw [Nat.sub_zero,Nat.mod_self]; exact .inl rfl
    ·rw [ya6 (1:)]; exact .inr (1:)
   exact ⟨zcW hn hm e,zcW hm hn (1:)⟩
  | swap m n=>exact ⟨zc8 ok,zc8 ok⟩
  | _=>exact absurd rfl hf
noncomputable def zf3 (w:Nat) (ds:List Dd):List Dd:=(ds.map (zmU w)).reverse
def zlS {w:Nat} {ds:List Dd} (h:∀ d ∈ ds,d.ok w):∀ d ∈ zf3 w ds,d.ok w:=λ d hd=>by
 rw [zf3,ycK,yau] at hd;obtain ⟨e,he,rfl⟩:=hd;exact zoA (h e he)
def zcN {w:Nat} {d:Dd} {ds:List Dd} (hd:d.ok w) (h:∀ e ∈ ds,e.ok w):rowL w (d :: ds)=zax (d.led w) (rowL w ds):=by
 show ds.foldl (λ l d=>zax l (d.led w)) (zax (zaE w) (d.led w))=_;rw [zbI (Dd.led_ld hd)];exact zeK ds _ h (Dd.led_ld hd)
def ziU {w:Nat}:∀ {ds:List Dd},(∀ d ∈ ds,d.ok w) -> (∀ d ∈ ds,zaL (d.led w)) -> zax (rowL w ds) (rowL w (zf3 w ds))=zaE w
 | [],_,_=>by show zax (zaE w) (zaE w)=zaE w; exact zbI (zdy w)
 | d :: ds,h,he=>by
  have hd:=h d (8:);have hds:∀ e ∈ ds,e.ok w:=λ e hx=>h e (by simp [hx]);have eu:zf3 w (d :: ds)=zf3 w ds ++ [zmU w d]:=by simp [zf3]
  have ih:=ziU hds λ e hx=>he e (by simp [hx]);have l1:=ze9 hds;have l2:=ze9 (zlS hds);have l3:=Dd.led_ld (zoA hd);rw [eu,zeW,zcN hd hds,zcJ l1 (zbv l2 l3),<- zcJ l2 l3,ih,zbI l3];exact (zoj hd (he d (8:))).1
def ziH {w:Nat} {a b:List Int} (ha:Ld w a) (hb:Ld w b) (h1:zax a b=zaE w) (h2:zax b a=zaE w):zaL a:=by
 have pos:∀ {x y:List Int},Ld w x -> Ld w y -> zax x y=zaE w -> ∀ p,p < w -> 0 <= y.getD p 0 /\ (y.getD p 0).toNat < w /\ x.getD (y.getD p 0).toNat 0=(p:Int):=λ {x y} hx hy e p hp=>by
  have hpl:p < y.length:=by rw [hy.1]; exact hp
  have q:=hy.2 _ (getD_mem' hpl);have ey:y.getD p 0=y[p]:=by rw [yab,yac hpl]; rfl
  have e2:(zax x y).getD p 0=if 0 <= y[p] then x.getD y[p].toNat 0 else y[p]:=by
   rw [zax,yab,yaf,yac hpl]; rfl
  rw [e,zbf hp] at e2;rw [ey] at q ⊢;by_cases c:0 <= y[p]
  ·rw [if_pos c] at e2;exact ⟨c,by omega,e2.symm⟩
  ·rw [if_neg c] at e2;omega
 unfold zaL;rw [ha.1];refine (List.perm_ext_iff_of_nodup ?_ (zfp w)).mpr λ z=>?_
 ·rw [List.Nodup, ya5];intro i j hi hj hij e;have gi : a.getD i 0 = a[i] := by rw [yab, yac hi]; rfl
  have gj:a.getD j 0=a[j]:=by rw [yab,yac hj]; rfl
  have q1:=(pos hb ha h2 i (by rw [<- ha.1]; exact hi)).2.2;have q2:=(pos hb ha h2 j (by rw [<- ha.1]; exact hj)).2.2;rw [gi,e] at q1;rw [gj] at q2;omega
 ·constructor
  ·intro hz;obtain ⟨i, hi, rfl⟩ := ybC.mp hz;have gi : a.getD i 0 = a[i] := by rw [yab, yac hi]; rfl
   have q1:=pos hb ha h2 i (by rw [<- ha.1]; exact hi);rw [gi] at q1;rw [zaE,yau];exact ⟨a[i].toNat,yai.mpr q1.2.1,by omega⟩
  ·intro hz;rw [zaE,yau] at hz;obtain ⟨p,hp,rfl⟩:=hz;have q:=pos ha hb h1 p (yai.mp hp);rw [<- q.2.2];exact getD_mem' (by rw [ha.1]; exact q.2.1)
def zo9 {w n:Nat} (hn:n < w):zaL ((Dd.turn n).led w):=by
 have hm:(w - n) % w < w:=ybl _ (1:)
 have e:n + (w - n) % w=0 \/ n + (w - n) % w=w:=by
  by_cases z:n=0
  ·subst z; rw [Nat.sub_zero,Nat.mod_self]; exact .inl rfl
  ·rw [ya6 (1:)]; exact .inr (1:)
 exact ziH (Dd.led_ld (d:=.turn n) hn) (Dd.led_ld (d:=.turn _) hm) (zcW hn hm e) (zcW hm hn (1:))
def zg3 {w m n:Nat} (ok:(Dd.swap m n).ok w):zaL ((Dd.swap m n).led w):=ziH (Dd.led_ld ok) (Dd.led_ld ok) (zc8 ok) (zc8 ok)
noncomputable def wayB (ls:List Int) (m p:Nat):Int:=if m.testBit p then ((ls.idxOf (p:Int):Nat):Int) else -1
noncomputable def zmO (ls:List Int) (m:Nat):List Int:=(List.range ls.length).map λ p=>wayB ls m p
def zkS {w m:Nat} (hm:m < 2 ^ w):zmO ((Dd.gather m).led w) m=(Dd.strew m).led w:=by
 rw [zmO,Dd.led_len];show (List.range w).map (λ p=>wayB ((Dd.gather m).led w) m p)=(List.range w).map λ p=>(Dd.strew m).src w p;apply yaM;intro p hp;have hp:=yai.mp hp;rw [wayB,show (Dd.strew m).src w p=if m.testBit p then ((zac m).idxOf p:Int) else -1 from rfl];by_cases c:m.testBit p=true
 ·rw [if_pos c, if_pos c];have q := zaO c;have hlen := zay hm
  have nd:((Dd.gather m).led w).idxOf (p:Int)=(zac m).idxOf p:=by
   have key:∀ j,j < (zac m).length -> ((Dd.gather m).led w).getD j 0=((zac m).getD j 0:Int):=λ j hj=>by
    rw [Dd.led_getD _ (1:),show (Dd.gather m).src w j=if j < (zac m).length then ((zac m).getD j 0:Int) else -1 from rfl,if_pos hj]
   have mem:(p:Int) ∈ (Dd.gather m).led w:=by
    have:=key _ q.1;rw [q.2] at this;rw [<- this];exact getD_mem' (by rw [Dd.led_len]; omega)
   have r:=zjG mem;rw [Dd.led_len] at r
   have hj:((Dd.gather m).led w).idxOf (p:Int) < (zac m).length:=by
    rcases ybx (((Dd.gather m).led w).idxOf (p:Int)) (zac m).length with z | z
    ·exact z
    ·have e:=r.2;rw [Dd.led_getD _ r.1,show (Dd.gather m).src w (((Dd.gather m).led w).idxOf (p:Int))=if ((Dd.gather m).led w).idxOf (p:Int) < (zac m).length then ((zac m).getD (((Dd.gather m).led w).idxOf (p:Int)) 0:Int) else -1 from rfl,if_neg (1:)] at e;omega
   have e:=r.2;rw [key _ hj] at e;exact zd0 hj q.1 (by rw [q.2]; omega)
  rw [nd]
 ·rw [if_neg c,if_neg c]
noncomputable def zr0:Sp:=λ vs H Q _=>∃ (a:Addr) (ls:List Int) (w m p:Nat),vs=[.ref a,nV m,nV p] /\ H a=some (.tup (ls.map V.int)) /\ Ld w ls /\ w <= 64 /\ p < w /\ (m.testBit p=true -> (p:Int) ∈ ls) /\ Q (.int (wayB ls m p)) H
noncomputable def zqu:Sp:=λ vs H Q _=>∃ (a:Addr) (ls:List Int) (w m:Nat),vs=[.ref a,nV m] /\ H a=some (.tup (ls.map V.int)) /\ Ld w ls /\ w <= 64 /\ (∀ p,p < w -> m.testBit p=true -> (p:Int) ∈ ls) /\
 ∀ t H',Same H H' -> H' t=some (.tup ((zmO ls m).map V.int)) -> Q (.ref t) H'
def zl7 (z:Int):∀ ls:List Int,inV (.int z) (ls.map V.int)=decide (z ∈ ls)
 | []=>rfl
 | x :: ls=>by
  show (eqV (.int x) (.int z) || inV (.int z) (ls.map V.int))=_;rw [zih,zl7 z ls];by_cases c:x=z
  ·subst c; simp
  ·have c':¬ z=x:=λ e=>c e.symm;simp [c,c']
def zrK {K:PySem.W.Frag} {ls:List Int} {z:Int} {a:Addr} {H:Hp} {Q:VK} (hT:SqT K H a (ls.map V.int)) (h:Q (.bl (!decide (z ∈ ls))) H):rIn K true (.int z) (.ref a) H Q:=by
 refine ⟨a,_,rfl,.inr hT,rfl,zjh ls,?_⟩;rw [if_pos rfl,zl7];exact h
end L2
namespace L2
open PySem PySem.Spec PyProof.Rows
section
variable {X:Cx} {tg iter elt:Expr} {ifs:List Expr} {scope sc:Scope} {pos:Pos} {N N':List Str} {src:List (Option Nat)} {wi:TI} {g:TG} {tc:TT} {te:TE}
end
open Bm
noncomputable abbrev Mat:=Nat -> Nat -> Bool
noncomputable def rowB (n:Nat) (f:Mat) (i:Nat):List Bool:=(List.range n).map λ j=>f i j
noncomputable def bV (l:List Bool):List V:=l.map λ b=>nV b.toNat
noncomputable def Mx (H:Hp) (l:Addr) (n:Nat) (f:Mat):Prop:=∃ as:List Addr,as.length=n /\ H l=some (.lst (as.map V.ref)) /\ ∀ i (h:i < as.length),H as[i]=some (.lst (bV (rowB n f i)))
noncomputable def opp (h p:Nat):Nat:=if h <= p then p - h else p + h
def zdk {h p:Nat} (hp:p < 2 * h):opp h p < 2 * h:=by unfold opp; split <;> omega
def zbT {h p:Nat} (hp:p < 2 * h):opp h (opp h p)=p:=by unfold opp; split <;> split <;> omega
def zl0 {h p:Nat} (hp:p < 2 * h):opp h p ≠ p:=by unfold opp; split <;> omega
def zgW {h p:Nat} (hp:p < 2 * h):p % h=if p < h then p else p - h:=by
 split
 ·exact ya6 (1:)
 ·rw [Nat.mod_eq_sub_mod (1:)]; exact ya6 (1:)
def zld {h p y:Nat} (hp:p < 2 * h) (hy:y < 2 * h) (e:y % h=p % h):y=p \/ y=opp h p:=by
 rw [zgW hp,zgW hy] at e;unfold opp
 split at e <;> split at e <;> split <;> omega
structure Prs (h:Nat) (τ:Nat -> Nat):Prop where
 lt:∀ p,p < 2 * h -> τ p < 2 * h
 inv:∀ p,p < 2 * h -> τ (τ p)=p
 ne:∀ p,p < 2 * h -> τ p ≠ p
noncomputable abbrev Cr:=Nat -> Option Bool
noncomputable def putC (c:Cr) (p:Nat) (b:Bool):Cr:=λ q=>if q=p then some b else c q
def zb1 (c:Cr) (p:Nat) (b:Bool):putC c p b p=some b:=if_pos rfl
def zbc {c:Cr} {p q:Nat} (b:Bool) (h:q ≠ p):putC c p b q=c q:=if_neg h
structure Closed (h:Nat) (τ:Nat -> Nat) (c:Cr):Prop where
 t:∀ p b,p < 2 * h -> c p=some b -> c (τ p)=some (!b)
 o:∀ p b,p < 2 * h -> c p=some b -> c (opp h p)=some (!b)
structure Chain (h:Nat) (τ:Nat -> Nat) (c:Cr) (p0 q:Nat):Prop where
 l0:p0 < 2 * h
 lq:q < 2 * h
 t:∀ p b,p < 2 * h -> c p=some b -> c (τ p)=some (!b)
 c0:c p0=some false
 cz:c (opp h q)=some true
 o:∀ p b,p < 2 * h -> c p=some b -> p ≠ p0 -> p ≠ opp h q -> c (opp h p)=some (!b)
 en:c q=none \/ q=p0
variable {h:Nat} {τ:Nat -> Nat} {c:Cr} {p0 q:Nat}
def zlp (P:Prs h τ) (t:∀ p b,p < 2 * h -> c p=some b -> c (τ p)=some (!b)) (hq:q < 2 * h) (hn:c q=none):c (τ q)=none:=by
 cases e:c (τ q) with
 | none=>rfl
 | some b=>
  have:=t _ _ (P.lt q hq) e;rw [P.inv q hq,hn] at this;cases this
def zr5 (P:Prs h τ) (t:∀ p b,p < 2 * h -> c p=some b -> c (τ p)=some (!b)) (hq:q < 2 * h) (hn:c q=none):∀ p b,p < 2 * h -> putC (putC c q false) (τ q) true p=some b -> putC (putC c q false) (τ q) true (τ p)=some (!b):=by
 intro p b hp e;by_cases c1:p=τ q
 ·subst c1;rw [zb1] at e;cases e;rw [P.inv q hq,zbc true (P.ne q hq).symm,zb1];rfl
 ·by_cases c2 : p = q
  ·subst c2;rw [zbc true (P.ne p hp).symm,zb1] at e;cases e;rw [zb1]; rfl
  ·rw [zbc true c1,zbc false c2] at e;have e2:=t p b hp e;have n1:τ p ≠ τ q:=λ z=>c2 (by rw [<- P.inv p hp,z,P.inv q hq]);have n2:τ p ≠ q:=λ z=>c1 (by rw [<- z,P.inv p hp]);rw [zbc true n1,zbc false n2];exact e2
def zkA (P:Prs h τ) (C:Closed h τ c) (hp:p0 < 2 * h) (hn:c p0=none):Chain h τ (putC (putC c p0 false) (τ p0) true) p0 (opp h (τ p0)):=by
 have lz:=P.lt p0 hp;have zn:=zlp P C.t hp hn;refine ⟨hp,zdk lz,zr5 P C.t hp hn,?_,?_,λ p b hp' e n0 nz=>?_,?_⟩
 ·rw [zbc true (P.ne p0 hp).symm,zb1]
 ·rw [zbT lz,zb1]
 ·rw [zbT lz] at nz;rw [zbc true nz, zbc false n0] at e;have e2 := C.o p b hp' e;have n1 : opp h p ≠ τ p0 := fun z => by rw [z, zn] at e2; cases e2
  have n2:opp h p ≠ p0:=λ z=>by rw [z,hn] at e2; cases e2
  rw [zbc true n1,zbc false n2];exact e2
 ·by_cases c1 : opp h (τ p0) = p0
  ·exact .inr c1
  ·refine .inl ?_;rw [zbc true (zl0 lz), zbc false c1];cases e : c (opp h (τ p0)) with
   | none=>rfl
   | some b=>
    have:=C.o _ _ (zdk lz) e;rw [zbT lz,zn] at this;cases this
def zmW (P:Prs h τ) (C:Chain h τ c p0 q) (hn:c q=none):Chain h τ (putC (putC c q false) (τ q) true) p0 (opp h (τ q)):=by
 have lq:=C.lq;have lz:=P.lt q lq;have zn:=zlp P C.t lq hn;have n0q:p0 ≠ q:=λ z=>by rw [<- z,C.c0] at hn; cases hn
 have n0z:p0 ≠ τ q:=λ z=>by rw [<- z,C.c0] at zn; cases zn
 have oq:opp h q ≠ q:=zl0 lq;have oz:opp h q ≠ τ q:=λ z=>by rw [<- z,C.cz] at zn; cases zn
 refine ⟨C.l0,zdk lz,zr5 P C.t lq hn,?_,?_,λ p b hp' e n0 nz=>?_,?_⟩
 ·rw [zbc true n0z,zbc false n0q]; exact C.c0
 ·rw [zbT lz,zb1]
 ·rw [zbT lz] at nz;rw [zbc true nz] at e;by_cases c1 : p = q
  ·subst c1;rw [zb1] at e;cases e;rw [zbc true oz,zbc false oq];exact C.cz
  ·rw [zbc false c1] at e;by_cases c2 : p = opp h q
   ·subst c2;rw [C.cz] at e;cases e;rw [zbT lq,zbc true (P.ne q lq).symm,zb1];rfl
   ·have e2 := C.o p b hp' e n0 c2;have n1 : opp h p ≠ τ q := fun z => by rw [z, zn] at e2; cases e2
    have n2:opp h p ≠ q:=λ z=>by rw [z,hn] at e2; cases e2
    rw [zbc true n1,zbc false n2];exact e2
 ·by_cases c0 : opp h (τ q) = p0
  ·exact .inr c0
  ·refine .inl ?_
   have n1:opp h (τ q) ≠ q:=λ z=>by
    have:=congrArg (opp h) z;rw [zbT lz] at this;exact oz this.symm
   rw [zbc true (zl0 lz),zbc false n1];cases e:c (opp h (τ q)) with
   | none=>rfl
   | some b=>
    have n2:opp h (τ q) ≠ opp h q:=λ z=>P.ne q lq (by rw [<- zbT lz,z,zbT lq]);have:=C.o _ _ (zdk lz) e c0 n2;rw [zbT lz,zn] at this;cases this
def zoI (C:Chain h τ c p0 q) (hn:c q ≠ none):Closed h τ c:=by
 have e:q=p0:=C.en.resolve_left hn;refine ⟨C.t,λ p b hp ep=>?_⟩;by_cases c0:p=p0
 ·rw [c0] at ep ⊢;rw [C.c0] at ep;cases ep;rw [<- e];exact C.cz
 ·by_cases cz : p = opp h q
  ·rw [cz] at ep ⊢;rw [C.cz] at ep;cases ep;rw [zbT C.lq,e];exact C.c0
  ·exact C.o p b hp ep c0 cz
noncomputable def zc5 (h:Nat) (c:Cr):Nat:=(List.range (2 * h)).countP λ p=>(c p).isNone
def zj9 {α:Type} {f g:α -> Bool}:∀ {l:List α} {x:α},x ∈ l -> (∀ y,g y=true -> f y=true) -> f x=true -> g x=false -> l.countP g < l.countP f
 | a :: l,x,hx,himp,h1,h2=>by
  have le:l.countP g <= l.countP f:=List.countP_mono_left λ y _=>himp y;rw [ybQ,ybQ];rcases yaD.mp hx with rfl | hx
  ·rw [h1,h2]; simp; omega
  ·have ih := zj9 hx himp h1 h2;cases e : g a with
   | false=>cases f a <;> simp <;> omega
   | true=>rw [himp a e]; simp; omega
def ze2 {τq:Nat} (hq:q < 2 * h) (hn:c q=none):zc5 h (putC (putC c q false) τq true) < zc5 h c:=by
 refine zj9 (x:=q) (yai.mpr hq) (λ y hy=>?_) (by rw [hn]; rfl) ?_
 ·unfold putC at hy
  split at hy
  ·cases hy
  ·split at hy
   ·cases hy
   ·exact hy
 ·unfold putC
  split
  ·rfl
  ·rw [if_pos rfl]; rfl
noncomputable def srcP (ls:List Int) (p:Nat):Nat:=(ls.getD p 0).toNat
noncomputable def plcE (ls:List Int) (e:Nat):Nat:=ls.idxOf (e:Int)
noncomputable def tauL (h:Nat) (ls:List Int) (p:Nat):Nat:=plcE ls (opp h (srcP ls p))
variable {ls:List Int}
def zeE (E:zaL ls) {p:Nat} (hp:p < ls.length):srcP ls p < ls.length /\ ls.getD p 0=(srcP ls p:Int) /\ plcE ls (srcP ls p)=p:=by
 have b:=zbl E (getD_mem' hp);have e:ls.getD p 0=(srcP ls p:Int):=by unfold srcP; omega
 refine ⟨by unfold srcP; omega,e,?_⟩;unfold plcE;rw [<- e];exact zdI (zfv E) hp
def zhy (E:zaL ls) {e:Nat} (he:e < ls.length):plcE ls e < ls.length /\ srcP ls (plcE ls e)=e:=by
 have q:=zjG (zlU E he);refine ⟨q.1,?_⟩;unfold srcP plcE;rw [q.2,yak]
def zox (E:zaL ls) (hl:ls.length=2 * h):Prs h (tauL h ls):=by
 refine ⟨λ p hp=>?_,λ p hp=>?_,λ p hp z=>?_⟩
 ·have s:=zeE E (p:=p) (1:);exact (by have:=(zhy E (e:=opp h (srcP ls p)) (by have:=zdk (h:=h) (p:=srcP ls p) (1:); omega)).1; unfold tauL; omega)
 ·have s:=zeE E (p:=p) (1:);have o:=zdk (h:=h) (p:=srcP ls p) (1:);have q:=zhy E (e:=opp h (srcP ls p)) (1:);unfold tauL;rw [q.2,zbT (1:),s.2.2]
 ·have s:=zeE E (p:=p) (1:);have o:=zdk (h:=h) (p:=srcP ls p) (1:);have q:=zhy E (e:=opp h (srcP ls p)) (1:);unfold tauL at z;have:=congrArg (srcP ls) z;rw [q.2] at this;exact zl0 (1:) this
structure Cross (h:Nat) (ls:List Int) (X:Nat -> Bool):Prop where
 t:∀ p,p < 2 * h -> X (tauL h ls p)=!X p
 o:∀ p,p < 2 * h -> X (opp h p)=!X p
def zpk {c:Cr} (C:Closed h (tauL h ls) c) (P:Prs h (tauL h ls)) (all:∀ p,p < h -> c p ≠ none):∃ X,Cross h ls X /\ ∀ p,p < 2 * h -> c p=some (X p):=by
 have tot:∀ p,p < 2 * h -> c p ≠ none:=λ p hp z=>by
  by_cases c1:p < h
  ·exact all p c1 z
  ·have hq : p - h < h := by omega
   cases e:c (p - h) with
   | none=>exact all _ hq e
   | some b=>
    have:=C.o _ _ (1:) e;rw [show opp h (p - h)=p by unfold opp; rw [if_neg (1:)]; omega,z] at this;cases this
 have val:∀ p,p < 2 * h -> c p=some ((c p).getD false):=λ p hp=>by
  cases e:c p with
  | none=>exact absurd e (tot p hp)
  | some b=>rfl
 refine ⟨λ p=>(c p).getD false,⟨λ p hp=>?_,λ p hp=>?_⟩,val⟩
 ·have:=C.t p _ hp (val p hp);rw [this]; rfl
 ·have:=C.o p _ hp (val p hp);rw [this]; rfl
section
variable {X:Nat -> Bool}
noncomputable def lowE (h:Nat) (ls:List Int) (X:Nat -> Bool) (r:Nat):Nat:=srcP ls (if X r then r + h else r) % h
noncomputable def uppE (h:Nat) (ls:List Int) (X:Nat -> Bool) (r:Nat):Nat:=srcP ls (if X r then r else r + h) % h
noncomputable def lowL (h:Nat) (ls:List Int) (X:Nat -> Bool):List Int:=(List.range h).map λ r=>(lowE h ls X r:Int)
noncomputable def uppL (h:Nat) (ls:List Int) (X:Nat -> Bool):List Int:=(List.range h).map λ r=>(uppE h ls X r:Int)
noncomputable def m1N (h:Nat) (ls:List Int) (X:Nat -> Bool):Nat:=zaI ((List.range h).filter λ e=>X (plcE ls e))
noncomputable def m2N (h:Nat) (X:Nat -> Bool):Nat:=zaI ((List.range h).filter X)
def zpd (e:Nat):(m1N h ls X).testBit e=(decide (e < h) && X (plcE ls e)):=by
 rw [m1N,zau];by_cases a:e < h <;> cases b:X (plcE ls e) <;> simp [a,b]
def zp8 (e:Nat):(m2N h X).testBit e=(decide (e < h) && X e):=by
 rw [m2N,zau];by_cases a:e < h <;> cases b:X e <;> simp [a,b]
def zkQ (m:Nat) (hm:∀ e,m.testBit e=true -> e < h):m < 2 ^ h:=by
 rw [<- zie m];exact mask_lt λ p hp=>hm p (za7.mp hp)
def zrH:m1N h ls X < 2 ^ h:=zkQ _ λ e he=>by rw [zpd,yal,decide_eq_true_eq] at he; exact he.1
def zrQ:m2N h X < 2 ^ h:=zkQ _ λ e he=>by rw [zp8,yal,decide_eq_true_eq] at he; exact he.1
def zjl (E:zaL ls) (hl:ls.length=2 * h) (C:Cross h ls X) (b:Bool) (f:Nat -> Nat) (hf:∀ r,r < h -> f r < 2 * h /\ X (f r)=b /\ f r % h=r):zaL ((List.range h).map λ r=>((srcP ls (f r) % h:Nat):Int)):=by
 by_cases h0:h=0
 ·subst h0; exact List.Perm.refl _
 have hpos:0 < h:=by omega
 have inj:∀ p q,p < 2 * h -> q < 2 * h -> X p=b -> X q=b -> srcP ls p % h=srcP ls q % h -> p=q:=λ p q hp hq xp xq e=>by
  have sp:=zeE E (p:=p) (1:);have sq:=zeE E (p:=q) (1:);by_cases z:srcP ls p=srcP ls q
  ·rw [<- sp.2.2,z,sq.2.2]
  ·have e2 : srcP ls p = opp h (srcP ls q) := (zld (1:) (1:) e).resolve_left z;have e3 : tauL h ls q = p := by unfold tauL; rw [<- e2, sp.2.2]
   have:=C.t q hq;rw [e3,xp,xq] at this;cases b <;> cases this
 have len:((List.range h).map λ r=>((srcP ls (f r) % h:Nat):Int)).length=h:=by simp
 unfold zaL;rw [len];refine (List.perm_ext_iff_of_nodup ?_ (zfp h)).mpr λ z=>?_
 ·rw [List.Nodup,yb3];refine List.Pairwise.imp_of_mem (λ {r r'} hr hr' hlt e=>?_) ybr;have a:=hf r (yai.mp hr);have a':=hf r' (yai.mp hr');have:=inj _ _ a.1 a'.1 a.2.1 a'.2.1 (1:);have:=congrArg (· % h) this;simp only [a.2.2,a'.2.2] at this;omega
 ·rw [yau, zaE, yau];constructor
  ·rintro ⟨r,hr,rfl⟩;exact ⟨_,yai.mpr (ybl _ hpos),rfl⟩
  ·rintro ⟨v, hv, rfl⟩;have hv := yai.mp hv;have q := zhy E (e := v) (1:);have qo := zhy E (e := v + h) (1:)
   obtain ⟨p,hp,xp,ep⟩:∃ p,p < 2 * h /\ X p=b /\ srcP ls p % h=v:=by
    by_cases c:X (plcE ls v)=b
    ·exact ⟨plcE ls v,by omega,c,by rw [q.2]; exact ya6 hv⟩
    ·have e3:tauL h ls (plcE ls v)=plcE ls (v + h):=by
      unfold tauL;rw [q.2,show opp h v=v + h by unfold opp; rw [if_neg (1:)]]
     have:=C.t (plcE ls v) (1:);rw [e3] at this;refine ⟨plcE ls (v + h),by omega,?_,by rw [qo.2,ybN]; exact ya6 hv⟩;rw [this];revert c;cases X (plcE ls v) <;> cases b <;> simp
   have hr:p % h < h:=ybl _ hpos;have a:=hf (p % h) hr
   have same:f (p % h)=p:=by
    rcases zld hp a.1 a.2.2 with z | e4
    ·exact z
    ·exfalso;have:=C.o p hp;rw [<- e4,a.2.1,xp] at this;cases b <;> cases this
   exact ⟨p % h,yai.mpr hr,by rw [same,ep]⟩
def zls (E:zaL ls) (hl:ls.length=2 * h) (C:Cross h ls X):zaL (lowL h ls X):=by
 refine zjl E hl C false (λ r=>if X r then r + h else r) λ r hr=>?_;have o:=C.o r (1:);rw [show opp h r=r + h by unfold opp; rw [if_neg (1:)]] at o;cases e:X r with
 | true=>rw [e] at o; simp only [if_true]; exact ⟨by omega,o,by rw [ybN]; exact ya6 hr⟩
 | false=>simp only [yaC,if_false]; exact ⟨by omega,e,ya6 hr⟩
def zlQ (E:zaL ls) (hl:ls.length=2 * h) (C:Cross h ls X):zaL (uppL h ls X):=by
 refine zjl E hl C true (λ r=>if X r then r else r + h) λ r hr=>?_;have o:=C.o r (1:);rw [show opp h r=r + h by unfold opp; rw [if_neg (1:)]] at o;cases e:X r with
 | false=>rw [e] at o; simp only [yaC,if_false]; exact ⟨by omega,o,by rw [ybN]; exact ya6 hr⟩
 | true=>simp only [if_true]; exact ⟨by omega,e,ya6 hr⟩
end
variable {h:Nat} {ls:List Int} {X:Nat -> Bool}
def zrd (m p n:Nat):inM m ((p:Int) - n)=(decide (n <= p) && m.testBit (p - n)):=by
 unfold inM;by_cases c:n <= p
 ·rw [decide_eq_true c,decide_eq_true (show (0:Int) <= (p:Int) - n by omega),show ((p:Int) - n).toNat=p - n by omega]
 ·rw [decide_eq_false c,decide_eq_false (show ¬ (0:Int) <= (p:Int) - n by omega)]; rfl
def zge (w m n p:Nat):(Dd.swap m n).src w p=if (decide (n <= p) && m.testBit (p - n)) then (p:Int) - n else if m.testBit p then (p:Int) + n else p:=by
 rw [<- zrd]; rfl
def zkE {m:Nat} (h1:1 <= h) (hm:m < 2 ^ h):(Dd.swap m h).ok (2 * h):=by
 refine ⟨h1,by omega,λ p hp=>?_⟩
 have hb:p < h:=by
  rcases ybx p h with z | z
  ·exact z
  ·rw [zdh hm z] at hp; cases hp
 exact ⟨by omega,zdh hm (1:)⟩
def zlH {m p:Nat} (hm:m < 2 ^ h) (hp:p < 2 * h):(Dd.swap m h).src (2 * h) p=((if m.testBit (p % h) then opp h p else p:Nat):Int):=by
 rw [zge,zgW hp];by_cases c:p < h
 ·rw [decide_eq_false (1:),ybS,if_pos c];unfold opp;rw [if_neg (show ¬ h <= p by omega)];cases m.testBit p <;> simp
 ·rw [decide_eq_true (1:),yb4,if_neg c,zdh hm (show h <= p by omega)];unfold opp;rw [if_pos (show h <= p by omega)];cases m.testBit (p - h) <;> simp <;> omega
def ziZ {a b:List Int} {p:Nat} (hp:p < a.length):(a ++ b).getD p 0=a.getD p 0:=by
 rw [yab,yab,ya4 hp]
def zgd {a b:List Int} {p:Nat} (hp:a.length <= p):(a ++ b).getD p 0=b.getD (p - a.length) 0:=by
 rw [yab,yab,ya8 hp]
def zet {k p:Nat} {a:List Int} (hp:p < a.length) (h0:0 <= a.getD p 0):(zaU k a).getD p 0=a.getD p 0 + k:=by
 have e:a.getD p 0=a[p]:=by rw [yab,yac hp]; rfl
 rw [e] at h0 ⊢;rw [zaU,yab,yaf,yac hp];show (if 0 <= a[p] then a[p] + (k:Int) else a[p])=_;rw [if_pos h0]
noncomputable def zkk (h m1 m2:Nat) (lo up:List Int):List Int:=zax (zax ((Dd.swap m1 h).led (2 * h)) (lo ++ zaU h up)) ((Dd.swap m2 h).led (2 * h))
def zmQ (E:zaL ls) (hl:ls.length=2 * h) (C:Cross h ls X):zkk h (m1N h ls X) (m2N h X) (lowL h ls X) (uppL h ls X)=ls:=by
 have ll:(lowL h ls X).length=h:=by simp [lowL]
 have lu:(uppL h ls X).length=h:=by simp [uppL]
 refine zcs (by rw [zkk,zbM,Dd.led_len,hl]) λ p hp=>?_;rw [zkk,zbM,Dd.led_len] at hp;have hpos:0 < h:=by omega
 have sp:=zeE E (p:=p) (1:);have hr:p % h < h:=ybl _ hpos
 -- the last exchange
 have e2:((Dd.swap (m2N h X) h).led (2 * h)).getD p 0=((if X p then p % h + h else p % h:Nat):Int):=by
  rw [Dd.led_getD _ hp,zlH zrQ hp,zp8,decide_eq_true hr,yb4]
  have key:(if X (p % h)=true then opp h p else p)=(if X p=true then p % h + h else p % h):=by
   have o:=C.o p hp;by_cases c:p < h
   ·rw [ya6 c,show opp h p=p + h by unfold opp; rw [if_neg (1:)]]
   ·have em : p % h = p - h := by rw [zgW hp, if_neg c]
    have eo:opp h p=p - h:=by unfold opp; rw [if_pos (1:)]
    rw [eo] at o;rw [em,eo,o];cases X p
    ·simp
    ·simp; omega
  rw [key]
 rw [zkk,zeT (by rw [Dd.led_len]; exact hp) (by rw [e2]; omega),e2,yak]
 -- zo0
 have e1:(lowL h ls X ++ zaU h (uppL h ls X)).getD (if X p then p % h + h else p % h) 0=((srcP ls p % h + (if X p then h else 0):Nat):Int):=by
  have same:∀ y,y < 2 * h -> X y=X p -> y % h=p % h -> y=p:=λ y hy xy e=>by
   rcases zld hp hy e with z | z
   ·exact z
   ·have:=C.o p hp;rw [<- z,xy] at this;revert this;cases X p <;> simp
  have or:=C.o (p % h) (1:);rw [show opp h (p % h)=p % h + h by unfold opp; rw [if_neg (1:)]] at or;cases xp:X p with
  | false=>
   simp only [yaC,if_false];rw [ziZ (by rw [ll]; exact hr),lowL,yab,yaf,yay hr];show ((lowE h ls X (p % h):Nat):Int)=_
   rw [lowE,ybV,show (if X (p % h)=true then p % h + h else p % h)=p by
    cases xr:X (p % h) with
    | true=>rw [xr] at or; simp only [if_true]; exact same _ (1:) (by rw [or,xp]; rfl) (by rw [ybN,ycW])
    | false=>simp only [yaC,if_false]; exact same _ (1:) (by rw [xr,xp]) (ycW _ _)]
  | true=>
   simp only [if_true]
   have eu:(uppL h ls X).getD (p % h) 0=((uppE h ls X (p % h):Nat):Int):=by
    rw [uppL,yab,yaf,yay hr]; rfl
   rw [zgd (by rw [ll]; omega),ll,ycm,zet (by rw [lu]; exact hr) (by rw [eu]; omega),eu,uppE]
   rw [show (if X (p % h)=true then p % h else p % h + h)=p by
    cases xr:X (p % h) with
    | true=>simp only [if_true]; exact same _ (1:) (by rw [xr,xp]) (ycW _ _)
    | false=>rw [xr] at or; simp only [yaC,if_false]; exact same _ (1:) (by rw [or,xp]; rfl) (by rw [ybN,ycW])]
   omega
 have hv:srcP ls p % h + (if X p then h else 0) < 2 * h:=by
  have:=ybl (srcP ls p) hpos
  split <;> omega
 rw [zeT (by rw [yao,zdV,ll,lu]; split <;> omega) (by rw [e1]; omega),e1,yak,Dd.led_getD _ hv,zlH zrH hv,sp.2.1];refine congrArg (λ n:Nat=>(n:Int)) ?_
 -- the first exchange
 have ep:(srcP ls p % h + (if X p then h else 0)) % h=srcP ls p % h:=by
  split
  ·rw [ybN,ycW]
  ·rw [ybV,ycW]
 rw [ep,zpd,decide_eq_true (ybl _ hpos),yb4];have t:=C.t p hp;unfold tauL at t;have s2:srcP ls p < 2 * h:=by omega
 rw [zgW s2];by_cases c:srcP ls p < h
 ·rw [if_pos c,sp.2.2];cases X p <;> simp [opp] <;> omega
 ·rw [if_neg c];rw [show opp h (srcP ls p) = srcP ls p - h by unfold opp; rw [if_pos (1:)]] at t;rw [t];cases X p with
  | false=>
   simp only [Bool.not_false,yaC,if_true,if_false,ybV];unfold opp;rw [if_neg (1:)];omega
  | true=>
   simp only [ycl,yaC,if_true,if_false];omega
inductive Pap where
 | nil
 | node (m1 m2:Nat) (lo:List Int) (pl:Pap) (up:List Int) (pu:Pap)
noncomputable def zmM:List Int -> Pap -> Prop
 | ls,.nil=>ls.length=1 /\ zaL ls
 | ls,.node m1 m2 lo pl up pu=>∃ h,1 <= h /\ ls.length=2 * h /\ m1 < 2 ^ h /\ m2 < 2 ^ h /\ lo.length=h /\ up.length=h /\ zaL lo /\ zaL up /\ zkk h m1 m2 lo up=ls /\ zmM lo pl /\ zmM up pu
noncomputable def zdA (h:Nat):Dd -> Dd -> Dd
 | .swap a n,.swap b _=>.swap (a ||| b * 2 ^ h) n
 | d,_=>d
noncomputable def rowP (w:Nat):Pap -> List Dd
 | .nil=>[]
 | .node m1 m2 _ pl _ pu=>if w / 2=1 then [.swap (m1 ^^^ m2) 1] else [.swap m1 (w / 2)] ++ List.zipWith (zdA (w / 2)) (rowP (w / 2) pl) (rowP (w / 2) pu) ++ [.swap m2 (w / 2)]
def zpq {a b c d:List Int} (ha:Ld h a) (hb:Ld h b) (hc:zaL c) (lc:c.length=h) (hd:zaL d) (ld:d.length=h):zax (a ++ zaU h b) (c ++ zaU h d)=zax a c ++ zaU h (zax b d):=by
 rw [zax,yae];congr 1
 ·rw [zax];apply yaM;intro e he;have q:=zbl hc he;rw [if_pos q.1,if_pos q.1,ziZ (by rw [ha.1]; omega)]
 ·rw [show zaU h d = d.map (fun e => if 0 <= e then e + (h : Int) else e) from rfl, yaX, show zaU h (zax b d) = (zax b d).map (fun e => if 0 <= e then e + (h : Int) else e) from rfl, zax, yaX];apply yaM;intro e he;have q := zbl hd he;show (if 0 <= (if 0 <= e then e + (h : Int) else e) then (a ++ zaU h b).getD (if 0 <= e then e + (h : Int) else e).toNat 0 else (if 0 <= e then e + (h : Int) else e)) = (if 0 <= (if 0 <= e then b.getD e.toNat 0 else e) then (if 0 <= e then b.getD e.toNat 0 else e) + (h : Int) else (if 0 <= e then b.getD e.toNat 0 else e));rw [if_pos q.1, if_pos (show (0 : Int) <= e + h by omega), zgd (by rw [ha.1]; omega), ha.1, show (e + (h : Int)).toNat - h = e.toNat by omega, if_pos q.1];have hl : e.toNat < b.length := by rw [hb.1]; omega
  have eg:b.getD e.toNat 0=b[e.toNat]:=by rw [yab,yac hl]; rfl
  rw [zaU,yab,yaf,yac hl,eg];rfl
def zpX (h:Nat):zaE (2 * h)=zaE h ++ zaU h (zaE h):=by
 refine zcs (by rw [yao,zdV,zbr,zbr]; omega) λ p hp=>?_;rw [zbr] at hp;rw [zbf hp];by_cases c:p < h
 ·rw [ziZ (by rw [zbr]; exact c),zbf c]
 ·rw [zgd (by rw [zbr]; omega),zbr,zet (by rw [zbr]; omega) (by rw [zbf (1:)]; omega),zbf (1:)];omega
def zdT {a b:Nat} (p:Nat) (ha:a < 2 ^ h):(a ||| b * 2 ^ h).testBit p=if p < h then a.testBit p else b.testBit (p - h):=by
 rw [ybf,ya9];by_cases c:p < h
 ·rw [if_pos c,decide_eq_false (1:),ybS,Bool.or_false]
 ·rw [if_neg c,zdh ha (1:),decide_eq_true (1:),yb4,yc3]
def zku {w a n:Nat} (ok:(Dd.swap a n).ok w):a < 2 ^ w:=zkQ _ λ e he=>by have:=(ok.2.2 e he).1; omega
def zje {a b n:Nat} (oa:(Dd.swap a n).ok h) (ob:(Dd.swap b n).ok h):(Dd.swap (a ||| b * 2 ^ h) n).ok (2 * h):=by
 refine ⟨oa.1,by have:=oa.2.1; omega,λ p hp=>?_⟩;have la:=zku oa;rw [zdT p la] at hp;rw [zdT (p + n) la];by_cases c:p < h
 ·rw [if_pos c] at hp;have q:=oa.2.2 p hp;rw [if_pos q.1];exact ⟨by omega,q.2⟩
 ·rw [if_neg c] at hp;have q:=ob.2.2 _ hp;rw [if_neg (1:),show p + n - h=p - h + n by omega];exact ⟨by omega,q.2⟩
def zm3 {a b n:Nat} (oa:(Dd.swap a n).ok h) (ob:(Dd.swap b n).ok h):(Dd.swap (a ||| b * 2 ^ h) n).led (2 * h)=(Dd.swap a n).led h ++ zaU h ((Dd.swap b n).led h):=by
 have la:=zku oa;refine zcs (by rw [yao,zdV,Dd.led_len,Dd.led_len,Dd.led_len]; omega) λ p hp=>?_;rw [Dd.led_len] at hp;rw [Dd.led_getD _ hp,zge,zdT _ la,zdT _ la];by_cases c:p < h
 ·rw [ziZ (by rw [Dd.led_len]; exact c),Dd.led_getD _ c,zge,if_pos c,if_pos (show p - n < h by omega)]
 ·have hp' : p - h < h := by omega
  have e0:0 <= ((Dd.swap b n).led h).getD (p - h) 0:=(zbl (zg3 ob) (getD_mem' (by rw [Dd.led_len]; exact hp'))).1;rw [zgd (by rw [Dd.led_len]; omega),Dd.led_len,zet (by rw [Dd.led_len]; exact hp') e0,Dd.led_getD _ hp',zge,if_neg c];by_cases c2:p - n < h
  ·have af:a.testBit (p - n)=false \/ ¬ n <= p:=by
    by_cases c3:n <= p
    ·cases e : a.testBit (p - n) with
     | false=>exact .inl rfl
     | true=>have:=(oa.2.2 _ e).1; omega
    ·exact .inr c3
   rw [if_pos c2]
   have z1:(decide (n <= p) && a.testBit (p - n))=false:=by
    rcases af with z | z
    ·rw [z,yc0]
    ·rw [decide_eq_false z,ybS]
   have n1:=oa.2.1;by_cases c4:n <= p - h
   ·omega
   ·rw [z1,decide_eq_false c4,ybS];cases b.testBit (p - h) <;> simp <;> omega
  ·rw [if_neg c2,show p - n - h=p - h - n by omega,decide_eq_true (show n <= p by omega),decide_eq_true (show n <= p - h by omega),yb4];cases b.testBit (p - h - n) <;> cases b.testBit (p - h) <;> simp <;> omega
def ziS {d:Dd}:∀ {ms ns:List Nat},d ∈ List.zipWith Dd.swap ms ns -> ∃ m n,d=.swap m n
 | [],_,h=>by simp at h
 | _ :: _,[],h=>by simp at h
 | m :: ms,n :: ns,h=>by
  rw [ycv] at h;rcases yaD.mp h with z | z
  ·exact ⟨m,n,z⟩
  ·exact ziS z
noncomputable def SwF (h:Nat) (ds:List Dd) (ns:List Nat):Prop:=∃ ms:List Nat,ms.length=ns.length /\ ds=List.zipWith Dd.swap ms ns /\ ∀ d ∈ ds,d.ok h
def zrm {ds:List Dd} {ns:List Nat} (S:SwF h ds ns):zaL (rowL h ds) /\ Ld h (rowL h ds):=by
 obtain ⟨ms,_,e,ok⟩:=S;have l:=ze9 ok;refine ⟨?_,l⟩
 have hev:∀ d ∈ ds,zaL (d.led h):=λ d hd=>by
  have:∃ m n,d=.swap m n:=by
   rw [e] at hd;exact ziS hd
  obtain ⟨m,n,rfl⟩:=this;exact zg3 (ok _ hd)
 have hu:=zlS ok;have h1:=ziU ok hev
 have rr:zf3 h (zf3 h ds)=ds:=by
  rw [zf3,zf3,List.map_reverse,ybn,yaX]
  conv=>rhs; rw [<- List.map_id ds]
  apply yaM;intro d hd
  have:∃ m n,d=.swap m n:=by
   rw [e] at hd;exact ziS hd
  obtain ⟨m,n,rfl⟩:=this;rfl
 have hev2:∀ d ∈ zf3 h ds,zaL (d.led h):=λ d hd=>by
  rw [zf3,ycK,yau] at hd;obtain ⟨e',he,rfl⟩:=hd;by_cases hf:e'.flatE=true
  ·rw [zj5 hf]; exact hev e' he
  ·cases e' with
   | turn n=>exact zo9 (ybl _ (by have:n < h:=ok _ he; omega))
   | swap m n=>exact zg3 (ok _ he)
   | _=>exact absurd rfl hf
 have h2:=ziU hu hev2;rw [rr] at h2;exact ziH l (ze9 hu) h1 h2
variable {h:Nat}
def zlD:∀ {ns as bs:List Nat},as.length=ns.length -> bs.length=ns.length -> (∀ d ∈ List.zipWith Dd.swap as ns,d.ok h) -> (∀ d ∈ List.zipWith Dd.swap bs ns,d.ok h) ->
    rowL (2 * h) (List.zipWith (zdA h) (List.zipWith Dd.swap as ns) (List.zipWith Dd.swap bs ns))=rowL h (List.zipWith Dd.swap as ns) ++ zaU h (rowL h (List.zipWith Dd.swap bs ns)) /\
    ∃ ms:List Nat,ms.length=ns.length /\ List.zipWith (zdA h) (List.zipWith Dd.swap as ns) (List.zipWith Dd.swap bs ns)=List.zipWith Dd.swap ms ns /\ ∀ d ∈ List.zipWith Dd.swap ms ns,d.ok (2 * h)
  | [],[],[],_,_,_,_=>⟨by show zaE (2 * h)=zaE h ++ zaU h (zaE h); exact zpX h,[],rfl,rfl,λ _ z=>(nomatch z)⟩
  | n :: ns,a :: as,b :: bs,h1,h2,h3,h4=>by
    simp only [ycv] at h3 h4 ⊢;have oa:=h3 _ yaT;have ob:=h4 _ yaT;have ta:∀ d ∈ List.zipWith Dd.swap as ns,d.ok h:=λ d hd=>h3 d (yaY _ hd);have tb:∀ d ∈ List.zipWith Dd.swap bs ns,d.ok h:=λ d hd=>h4 d (yaY _ hd);obtain ⟨ih,ms,m1,m2,m3⟩:=zlD (65:) (77:) ta tb;have ev:∀ (xs:List Nat),xs.length=ns.length -> (∀ d ∈ List.zipWith Dd.swap xs ns,d.ok h) -> zaL (rowL h (List.zipWith Dd.swap xs ns)) /\ Ld h (rowL h (List.zipWith Dd.swap xs ns)):=λ xs l o=>zrm ⟨xs,l,rfl,o⟩;have ea:=ev as (65:) ta;have eb:=ev bs (77:) tb;have ok:=zje oa ob;refine ⟨?_,(a ||| b * 2 ^ h) :: ms,by simp [m1],by rw [m2]; rfl,λ d hd=>?_⟩
    · show rowL (2 * h) (Dd.swap (a ||| b * 2 ^ h) n :: _)=_;rw [zcN ok (by rw [m2]; exact m3),ih,zcN oa ta,zcN ob tb,zm3 oa ob];exact zpq (Dd.led_ld oa) (Dd.led_ld ob) ea.1 ea.2.1 eb.1 eb.2.1
    · rw [ycv] at hd;rcases yaD.mp hd with rfl | z
      · exact ok
      · exact m3 d z
noncomputable def zgQ:Nat -> List Nat
 | 0=>[]
 | 1=>[1]
 | k + 2=>[2 ^ (k + 1)] ++ zgQ (k + 1) ++ [2 ^ (k + 1)]
def zqK {a b:List Nat} (c d:List Nat) (hl:a.length=b.length):List.zipWith Dd.swap (a ++ c) (b ++ d)=List.zipWith Dd.swap a b ++ List.zipWith Dd.swap c d:=List.zipWith_append hl
def zi4 {ls:List Int} (h:zaL ls) (hl:ls.length=1):ls=[0]:=by
 have:=h;unfold zaL at this;rw [hl] at this;exact List.perm_singleton.mp this
def zpE:∀ m1 < 2,∀ m2 < 2,(rowL 2 [Dd.swap (m1 ^^^ m2) 1]=zkk 1 m1 m2 [0] [0]):=by decide +kernel
def zk6 {m1 m2:Nat} (h1:m1 < 2) (h2:m2 < 2):(Dd.swap (m1 ^^^ m2) 1).ok 2:=zkE (h:=1) (1:) (Nat.xor_lt_two_pow (n:=1) (1:) (1:))
def ze0:∀ (k:Nat) (P:Pap) (ls:List Int),ls.length=2 ^ k -> zmM ls P -> SwF (2 ^ k) (rowP (2 ^ k) P) (zgQ k) /\ rowL (2 ^ k) (rowP (2 ^ k) P)=ls:=by
 intro k
 induction k with
 | zero=>
  intro P ls hl S;cases P with
  | nil=>
   refine ⟨⟨[],rfl,rfl,λ _ z=>(nomatch z)⟩,?_⟩;rw [zi4 S.2 S.1];rfl
  | node m1 m2 lo pl up pu=>
   obtain ⟨h,h1,h2,_⟩:=S;rw [hl] at h2;omega
 | succ k ih=>
  intro P ls hl S;cases P with
  | nil=>
   have h1:=S.1;rw [hl,ybq] at h1;have:=yaS k;omega
  | node m1 m2 lo pl up pu=>
   obtain ⟨h,h1,h2,b1,b2,l1,l2,e1,e2,ej,s1,s2⟩:=S;have hh:h=2 ^ k:=by rw [hl,ybq] at h2; omega
   subst hh;have ew:2 ^ (k + 1) / 2=2 ^ k:=by rw [ybq]; omega
   have e2w:2 ^ (k + 1)=2 * 2 ^ k:=by rw [ybq]; omega
   cases k with
   | zero=>
    have r:rowP (2 ^ (0 + 1)) (.node m1 m2 lo pl up pu)=[.swap (m1 ^^^ m2) 1]:=rfl;rw [r];refine ⟨⟨[m1 ^^^ m2],rfl,rfl,λ d hd=>?_⟩,?_⟩
    ·rw [yax.mp hd];exact zk6 b1 b2
    ·rw [<- ej,zi4 e1 l1,zi4 e2 l2];exact zpE m1 b1 m2 b2
   | succ k=>
    obtain ⟨⟨as,a1,a2,a3⟩,a4⟩:=ih pl lo l1 s1;obtain ⟨⟨bs,c1,c2,c3⟩,c4⟩:=ih pu up l2 s2
    have r:rowP (2 ^ (k + 1 + 1)) (.node m1 m2 lo pl up pu)=[.swap m1 (2 ^ (k + 1))] ++ List.zipWith (zdA (2 ^ (k + 1))) (rowP (2 ^ (k + 1)) pl) (rowP (2 ^ (k + 1)) pu) ++ [.swap m2 (2 ^ (k + 1))]:=by
     show (if 2 ^ (k + 1 + 1) / 2=1 then _ else _)=_;rw [ew,if_neg];have:=yaS k;rw [ybq]; omega
    rw [a2] at a3 a4;rw [c2] at c3 c4;obtain ⟨z1,ms,z2,z3,z4⟩:=zlD (h:=2 ^ (k + 1)) a1 c1 a3 c3;rw [a4,c4] at z1;have o1:=zkE (h:=2 ^ (k + 1)) (m:=m1) h1 b1;have o2:=zkE (h:=2 ^ (k + 1)) (m:=m2) h1 b2;rw [r,a2,c2,z3,e2w];rw [z3] at z1;refine ⟨⟨[m1] ++ ms ++ [m2],?_,?_,λ d hd=>?_⟩,?_⟩
    ·show ([m1] ++ ms ++ [m2]).length=([2 ^ (k + 1)] ++ zgQ (k + 1) ++ [2 ^ (k + 1)]).length;simp [z2]
    ·show _=List.zipWith Dd.swap ([m1] ++ ms ++ [m2]) ([2 ^ (k + 1)] ++ zgQ (k + 1) ++ [2 ^ (k + 1)]);rw [zqK _ _ (by simp [z2])];rfl
    ·rcases yaA.mp hd with z | z
     ·rcases yaA.mp z with z | z
      ·rw [yax.mp z]; exact o1
      ·exact z4 d z
     ·rw [yax.mp z]; exact o2
    ·rw [yaE, List.singleton_append, zcN o1 (fun d hd => (yaA.mp hd).elim (z4 d) (fun z => by rw [yax.mp z]; exact o2)), zeW, z1, <- ej, zkk]
     have ll:Ld (2 * 2 ^ (k + 1)) (lo ++ zaU (2 ^ (k + 1)) up):=by
      have:=zsn (n:=2 ^ (k + 1)) (w:=2 ^ (k + 1)) (l1 ▸ zfj e1) (l2 ▸ zfj e2);rw [show 2 ^ (k + 1) + 2 ^ (k + 1)=2 * 2 ^ (k + 1) by omega] at this;exact this
     rw [zcJ ll (Dd.led_ld o2)]
noncomputable def PapH (H:Hp):Addr -> Pap -> Prop
  | a,.nil=>H a=some (.tup [])
  | a,.node m1 m2 lo pl up pu=>∃ x y lx px ly py:Addr,H a=some (.tup [nV m1,nV m2,.ref x,.ref y]) /\ H x=some (.tup [.ref lx,.ref px]) /\ H lx=some (.tup (lo.map V.int)) /\ PapH H px pl /\
      H y=some (.tup [.ref ly,.ref py]) /\ H ly=some (.tup (up.map V.int)) /\ PapH H py pu
def PapH.same {H H':Hp} (s:Same H H'):∀ {P:Pap} {a:Addr},PapH H a P -> PapH H' a P
 | .nil,_,h=>s _ _ h
 | .node _ _ _ _ _ _,_,⟨x,y,lx,px,ly,py,h1,h2,h3,h4,h5,h6,h7⟩=>⟨x,y,lx,px,ly,py,s _ _ h1,s _ _ h2,s _ _ h3,PapH.same s h4,s _ _ h5,s _ _ h6,PapH.same s h7⟩
noncomputable def cV:Option Bool -> V
 | none=>.non
 | some b=>.bl b
noncomputable def crV (n:Nat) (c:Cr):List V:=(List.range n).map λ p=>cV (c p)
def zep (n:Nat) (c:Cr):(crV n c).length=n:=by simp [crV]
def znk {n p:Nat} (c:Cr) (hp:p < n):(crV n c)[p]?=some (cV (c p)):=by
 rw [crV,yaf,yay hp]; rfl
def znE {n p:Nat} (c:Cr) (b:Bool):(crV n c).set p (.bl b)=crV n (putC c p b):=by
 apply ybt;intro i;rw [List.getElem?_set];by_cases hi:i < n
 ·rw [znk _ hi, znk _ hi, zep];by_cases e : p = i
  ·subst e;rw [if_pos rfl,if_pos hi];unfold putC;rw [if_pos rfl]; rfl
  ·rw [if_neg e];unfold putC;rw [if_neg (λ z=>e z.symm)]
 ·rw [yaK (by rw [zep]; omega), yaK (by rw [zep]; omega), zep];by_cases e : p = i
  ·rw [if_pos e,if_neg (1:)]
  ·rw [if_neg e]
variable {ls:List Int}
noncomputable def zk1 (h:Nat) (ls:List Int) (c:Cr) (q:Nat):Cr:=putC (putC c q false) (tauL h ls q) true
noncomputable def runF (h:Nat) (ls:List Int):Nat -> Cr -> Nat -> Cr
 | 0,c,_=>c
 | n + 1,c,q=>if (c q).isNone then runF h ls n (zk1 h ls c q) (opp h (tauL h ls q)) else c
def zmo {c:Cr} {q:Nat} (hq:q < 2 * h) (hn:c q=none):0 < zc5 h c:=List.countP_pos_iff.mpr ⟨q,yai.mpr hq,by rw [hn]; rfl⟩
def zl5 (P:Prs h (tauL h ls)):∀ (n m:Nat) (c:Cr) (q:Nat),q < 2 * h -> zc5 h c <= n -> zc5 h c <= m -> runF h ls n c q=runF h ls m c q
 | 0,0,_,_,_,_,_=>rfl
 | 0,m + 1,c,q,hq,h1,_=>by
  show c=if (c q).isNone then _ else c
  cases e:c q with
  | none=>have:=zmo hq e; omega
  | some b=>rfl
 | n + 1,0,c,q,hq,_,h2=>by
  show (if (c q).isNone then _ else c)=c;cases e:c q with
  | none=>have:=zmo hq e; omega
  | some b=>rfl
 | n + 1,m + 1,c,q,hq,h1,h2=>by
  show (if (c q).isNone then _ else c)=if (c q).isNone then _ else c
  cases e:c q with
  | none=>
   have lt:zc5 h (zk1 h ls c q) < zc5 h c:=ze2 hq e;simp only [Option.isNone_none,if_true];exact zl5 P n m _ _ (zdk (P.lt q hq)) (1:) (1:)
  | some b=>rfl
noncomputable def runC (h:Nat) (ls:List Int) (c:Cr) (q:Nat):Cr:=runF h ls (zc5 h c) c q
def ziJ (P:Prs h (tauL h ls)) {c:Cr} {q:Nat} (hq:q < 2 * h) (hn:c q=none):runC h ls c q=runC h ls (zk1 h ls c q) (opp h (tauL h ls q)):=by
 have lt:zc5 h (zk1 h ls c q) < zc5 h c:=ze2 hq hn;unfold runC;obtain ⟨m,hm⟩:∃ m,zc5 h c=m + 1:=⟨zc5 h c - 1,by omega⟩
 rw [hm];show (if (c q).isNone then _ else c)=_;rw [hn];simp only [Option.isNone_none,if_true];exact zl5 P _ _ _ _ (zdk (P.lt q hq)) (1:) (yaj _)
def zij {c:Cr} {q:Nat} (hn:c q ≠ none):runC h ls c q=c:=by
 unfold runC;cases zc5 h c with
 | zero=>rfl
 | succ n=>
  show (if (c q).isNone then _ else c)=c;cases e:c q with
  | none=>exact absurd e hn
  | some b=>rfl
noncomputable def zbs (h:Nat) (ls:List Int):Nat -> Cr
 | 0=>λ _=>none
 | i + 1=>runC h ls (zbs h ls i) i
def zh7 (P:Prs h (tauL h ls)):∀ (n:Nat) (c:Cr) (p0 q:Nat),zc5 h c <= n -> Chain h (tauL h ls) c p0 q -> Closed h (tauL h ls) (runC h ls c q) /\ ∀ p,c p ≠ none -> runC h ls c q p ≠ none
 | n,c,p0,q,hn,C=>by
  cases e:c q with
  | some b=>rw [zij (by rw [e]; exact nofun)]; exact ⟨zoI C (by rw [e]; exact nofun),λ _ z=>z⟩
  | none=>
   have lt:zc5 h (zk1 h ls c q) < zc5 h c:=ze2 C.lq e;rw [ziJ P C.lq e];cases n with
   | zero=>omega
   | succ n=>
    obtain ⟨r1,r2⟩:=zh7 P n (zk1 h ls c q) p0 (opp h (tauL h ls q)) (1:) (zmW P C e);refine ⟨r1,λ p hp=>r2 p ?_⟩;unfold zk1 putC
    split
    ·exact nofun
    ·split
     ·exact nofun
     ·exact hp
def zjL (P:Prs h (tauL h ls)):∀ i,i <= h -> Closed h (tauL h ls) (zbs h ls i) /\ ∀ p,p < i -> zbs h ls i p ≠ none
 | 0,_=>⟨⟨λ _ _ _ z=>(nomatch z),λ _ _ _ z=>(nomatch z)⟩,λ p hp=>absurd hp (1:)⟩
 | i + 1,hi=>by
  obtain ⟨C,a⟩:=zjL P i (1:);show Closed h _ (runC h ls (zbs h ls i) i) /\ ∀ p,p < i + 1 -> runC h ls (zbs h ls i) i p ≠ none;cases e:zbs h ls i i with
  | some b=>
   rw [zij (by rw [e]; exact nofun)];refine ⟨C,λ p hp=>?_⟩;by_cases z:p=i
   ·rw [z,e]; exact nofun
   ·exact a p (1:)
  | none=>
   have ch:=zkA P C (p0:=i) (1:) e;rw [ziJ P (1:) e];obtain ⟨r1,r2⟩:=zh7 P _ _ i _ (yaj _) ch;refine ⟨r1,λ p hp=>r2 p ?_⟩;unfold putC
   split
   ·exact nofun
   ·split
    ·exact nofun
    ·rename_i n1 n2;exact a p (1:)
noncomputable def zas (h:Nat) (ls:List Int) (p:Nat):Bool:=(zbs h ls h p).getD false
def ziy (E:zaL ls) (hl:ls.length=2 * h):Cross h ls (zas h ls) /\ ∀ p,p < 2 * h -> zbs h ls h p=some (zas h ls p):=by
 have P:=zox E hl;obtain ⟨C,a⟩:=zjL P h (yaj _);obtain ⟨X,cx,ex⟩:=zpk C P a;have same:∀ p,p < 2 * h -> zas h ls p=X p:=λ p hp=>by unfold zas; rw [ex p hp]; rfl
 refine ⟨⟨λ p hp=>?_,λ p hp=>?_⟩,λ p hp=>by rw [same p hp]; exact ex p hp⟩
 ·rw [same _ (P.lt p hp),same p hp]; exact cx.t p hp
 ·rw [same _ (zdk hp),same p hp]; exact cx.o p hp
noncomputable def papF:Nat -> List Int -> Pap
 | 0,_=>.nil
 | k + 1,ls=>.node (m1N (2 ^ k) ls (zas (2 ^ k) ls)) (m2N (2 ^ k) (zas (2 ^ k) ls)) (lowL (2 ^ k) ls (zas (2 ^ k) ls)) (papF k (lowL (2 ^ k) ls (zas (2 ^ k) ls)))
   (uppL (2 ^ k) ls (zas (2 ^ k) ls)) (papF k (uppL (2 ^ k) ls (zas (2 ^ k) ls)))
def zeH:∀ (k:Nat) (ls:List Int),zaL ls -> ls.length=2 ^ k -> zmM ls (papF k ls)
 | 0,ls,E,hl=>⟨hl,E⟩
 | k + 1,ls,E,hl=>by
  have h2:ls.length=2 * 2 ^ k:=by rw [hl,ybq]; omega
  have C:=(ziy E h2).1;have e1:=zls E h2 C;have e2:=zlQ E h2 C;have l1:(lowL (2 ^ k) ls (zas (2 ^ k) ls)).length=2 ^ k:=by simp [lowL]
  have l2:(uppL (2 ^ k) ls (zas (2 ^ k) ls)).length=2 ^ k:=by simp [uppL]
  exact ⟨2 ^ k,yaS k,h2,zrH,zrQ,l1,l2,e1,e2,zmQ E h2 C,zeH k _ e1 l1,zeH k _ e2 l2⟩
noncomputable def rowE (k:Nat) (ls:List Int):List Dd:=rowP (2 ^ k) (papF k ls)
def zfn {k:Nat} {ls:List Int} (E:zaL ls) (hl:ls.length=2 ^ k):SwF (2 ^ k) (rowE k ls) (zgQ k) /\ rowL (2 ^ k) (rowE k ls)=ls:=ze0 k _ ls hl (zeH k ls E hl)
noncomputable def zsf:Sp:=λ vs H Q _=>∃ (p h:Nat),vs=[nV p,nV h] /\ Q (nV (opp h p)) H
noncomputable def zke:Sp:=λ vs H Q _=>∃ (a:Addr) (ls:List Int) (h:Nat),vs=[.ref a] /\ H a=some (.tup (ls.map V.int)) /\ zaL ls /\ ls.length=2 * h /\ 1 <= h /\ h <= 32 /\
 ∀ (l:Addr) (H':Hp),Same H H' -> H' l=some (.lst ((List.range (2 * h)).map λ p=>V.bl (zas h ls p))) -> Q (.ref l) H'
noncomputable def zb9:Nat -> Sp
 | 0=>λ _ _ _ _=>False
 | j + 1=>λ vs H Q _=>∃ (a:Addr) (ls:List Int) (k:Nat),vs=[.ref a] /\ H a=some (.tup (ls.map V.int)) /\ zaL ls /\ ls.length=2 ^ k /\ k <= j /\ k <= 6 /\ ∀ (t:Addr) (H':Hp),Same H H' -> PapH H' t (papF k ls) -> Q (.ref t) H'
noncomputable def zdb:Nat -> Sp
 | 0=>λ _ _ _ _=>False
 | j + 1=>λ vs H Q _=>∃ (a:Addr) (ls:List Int) (k:Nat),vs=[.ref a] /\ H a=some (.tup (ls.map V.int)) /\ zaL ls /\ ls.length=2 ^ k /\ k < j /\ k <= 6 /\ ∀ (x t:Addr) (H':Hp),Same H H' -> H' x=some (.tup [.ref a,.ref t]) -> PapH H' t (papF k ls) -> Q (.ref x) H'
noncomputable def zmg:Sp:=λ vs H Q _=>∃ (a:Addr) (ls:List Int) (k:Nat),vs=[.ref a] /\ H a=some (.tup (ls.map V.int)) /\ zaL ls /\ ls.length=2 ^ k /\ k <= 6 /\ ∀ (t:Addr) (H':Hp),Same H H' -> PapH H' t (papF k ls) -> Q (.ref t) H'
noncomputable def zbd:Nat -> Sp
  | 0=>λ _ _ _ _=>False
  | j + 1=>λ vs H Q _=>∃ (a:Addr) (ls:List Int) (P:Pap) (k:Nat),vs=[nV (2 ^ k),.ref a] /\ PapH H a P /\ zmM ls P /\ ls.length=2 ^ k /\ k <= j /\ k <= 6 /\
      ∀ (l:Addr) (L:List (Addr × Dd)) (H':Hp),H l=none -> Same H H' -> H' l=some (.lst (rowV L)) -> Rw H' (2 ^ k) L -> dds L=rowP (2 ^ k) P -> Q (.ref l) H'
noncomputable def zjy:Sp:=λ vs H Q _=>∃ (a b:Addr) (x y n h:Nat),vs=[.ref a,.ref b,nV h] /\ H a=some (.tup (Dd.swap x n).vals) /\ H b=some (.tup (Dd.swap y n).vals) /\ h <= 64 /\ y < 18446744073709551616 /\ ∀ (t:Addr) (H':Hp),Same H H' -> H' t=some (.tup (Dd.swap (x ||| y * 2 ^ h) n).vals) -> Q (.ref t) H'
noncomputable def zjR:Sp:=λ vs H Q _=>∃ (a:Addr) (ls:List Int) (k:Nat),vs=[.ref a] /\ H a=some (.tup (ls.map V.int)) /\ zaL ls /\ ls.length=2 ^ k /\ k <= 6 /\
 ∀ (l:Addr) (L:List (Addr × Dd)) (H':Hp),H l=none -> Same H H' -> H' l=some (.lst (rowV L)) -> Rw H' (2 ^ k) L -> dds L=rowE k ls -> Q (.ref l) H'
def zfi:∀ k,k <= 6 -> 2 ^ k ∈ zk7:=by
 intro k hk;rcases (show k=0 \/ k=1 \/ k=2 \/ k=3 \/ k=4 \/ k=5 \/ k=6 by omega) with rfl | rfl | rfl | rfl | rfl | rfl | rfl <;> decide
def zd3 {k:Nat} (hk:k <= 6):2 ^ k <= 64:=yaG (n:=2) (3:) hk
end L2
set_option maxHeartbeats 1000000
namespace L2
open PySem PyProof.Rows Bm
section
variable {X:Cx} {e st:Expr} {te:TE} {ts:TE} {pos p2:Pos}
end
section
variable {h n:Nat} {ls:List Int} {X:Nat -> Bool}
noncomputable def fstL (h:Nat) (ls:List Int) (X:Nat -> Bool) (n:Nat):List Nat:=((List.range n).filter λ p=>X p && decide (srcP ls p < h)).map (srcP ls)
def ziM:fstL h ls X (n + 1)=fstL h ls X n ++ if (X n && decide (srcP ls n < h))=true then [srcP ls n] else []:=by
 unfold fstL;rw [yar,yap,yae];congr 1;cases e:(X n && decide (srcP ls n < h)) <;> simp only [List.filter_cons,List.filter_nil,e] <;> rfl
def znm {e:Nat} (he:e ∈ fstL h ls X n):e < h:=by
 obtain ⟨p,hp,rfl⟩:=yau.mp he;have:=(yaq.mp hp).2;rw [yal,decide_eq_true_eq] at this;exact this.2
def zqz:(fstL h ls X n).length <= n:=by
 unfold fstL;rw [yaa];exact yaW (yaB _ _) (by rw [yah]; exact yaj _)
def zpD (E:zaL ls) (hl:ls.length=2 * h):zaI (fstL h ls X (2 * h))=m1N h ls X:=by
 apply ybc;intro e;rw [zau,zpd];by_cases a:e < h
 ·have q := zhy E (e := e) (1:);cases b : X (plcE ls e)
  ·rw [decide_eq_false]
   ·simp
   ·intro he;obtain ⟨p,hp,rfl⟩:=yau.mp he;obtain ⟨h1,h2⟩:=yaq.mp hp;have s:=zeE E (p:=p) (by have:=yai.mp h1; omega);rw [s.2.2] at b;rw [b] at h2;cases h2
  ·rw [decide_eq_true, decide_eq_true a]
   ·rfl
   ·exact yau.mpr ⟨plcE ls e,yaq.mpr ⟨yai.mpr (1:),by rw [b,q.2,decide_eq_true a]; rfl⟩,q.2⟩
 ·rw [decide_eq_false (λ he=>a (znm he)),decide_eq_false a];rfl
def zjm (E:zaL ls) {p:Nat} (hp:p < ls.length):(ls.map V.int)[p]?=some (nV (srcP ls p)):=by
 have sq:=zeE E hp;rw [yaf,yac hp];have:=sq.2.1;rw [yab,yac hp] at this;exact congrArg (λ z=>some (V.int z)) this
def zly {m p:Nat} (hp:p < m):((List.range m).map λ p=>V.bl (X p))[p]?=some (.bl (X p)):=by
 rw [yaf,yay hp];rfl
def zgi {f:Nat -> Nat}:((List.range (n + 1)).map λ r=>V.int (f r:Int))=((List.range n).map λ r=>V.int (f r:Int)) ++ [nV (f n)]:=by
 rw [yar,yae];rfl
end
def zsv {H:Hp} {h:Nat} {L M:List (Addr × Dd)} {as bs ns:List Nat} (hL:dds L=List.zipWith Dd.swap as ns) (hM:dds M=List.zipWith Dd.swap bs ns) {i:Nat} {u v:V} (hu:(rowV L)[i]?=some u) (hv:(rowV M)[i]?=some v)
  (rl : Rw H h L) (rm : Rw H h M) : ∃ (p q : Addr) (x y n : Nat), u = .ref p /\ v = .ref q /\ H p = some (.tup (Dd.swap x n).vals) /\ H q = some (.tup (Dd.swap y n).vals) /\ (Dd.swap x n).ok h /\ (Dd.swap y n).ok h /\
   (List.zipWith (zdA h) (dds L) (dds M))[i]?=some (Dd.swap (x ||| y * 2 ^ h) n):=by
 obtain ⟨q1,e1,rfl⟩:=zaB hu;obtain ⟨q2,e2,rfl⟩:=zaB hv;have d1:(dds L)[i]?=some q1.2:=by rw [dds,yaf,e1]; rfl
 have d2:(dds M)[i]?=some q2.2:=by rw [dds,yaf,e2]; rfl
 have g1:=d1;have g2:=d2;rw [hL,ycF] at g1;rw [hM,ycF] at g2;cases ea:as[i]? with
 | none=>rw [ea] at g1; cases g1
 | some x=>
  cases eb:bs[i]? with
  | none=>rw [eb] at g2; cases g2
  | some y=>
   cases en:ns[i]? with
   | none=>rw [ea,en] at g1; cases g1
   | some n=>
    rw [ea,en] at g1;rw [eb,en] at g2;have f1:=rl q1 (yat e1);have f2:=rm q2 (yat e2);have g1:q1.2=Dd.swap x n:=(Option.some.inj g1).symm;have g2:q2.2=Dd.swap y n:=(Option.some.inj g2).symm;rw [g1] at f1 d1;rw [g2] at f2 d2;refine ⟨q1.1,q2.1,x,y,n,rfl,rfl,f1.1,f2.1,f1.2,f2.2,?_⟩;rw [ycF,d1,d2];rfl
def zj6:∀ k,(zgQ k).length <= 2 * k
 | 0=>yaj _
 | 1=>by show 1 <= 2; decide
 | k + 2=>by
  have ih:=zj6 (k + 1);unfold zgQ;rw [yao,yao,ycC];omega
def zqD (x y h:Nat):Builtin.bitOr (x:Int) ((y:Int) * 2 ^ ((h:Int)).toNat)=((x ||| y * 2 ^ h:Nat):Int):=by
 rw [yak,show (y:Int) * 2 ^ h=((y * 2 ^ h:Nat):Int) by rw [Int.natCast_mul,Int.natCast_pow]; rfl];exact zbA _ _
open PySem.Spec
noncomputable def zqy:Nat -> Pap -> Prop
 | 0,.nil=>True
 | k + 1,.node m1 m2 lo pl up pu=>m1 < 2 ^ 2 ^ k /\ m2 < 2 ^ 2 ^ k /\ zaL lo /\ lo.length=2 ^ k /\ zaL up /\ up.length=2 ^ k /\ zqy k pl /\ zqy k pu
 | _,_=>False
noncomputable def znN:List Int -> Pap -> Bool
 | _,.nil=>true
 | ls,.node m1 m2 lo pl up pu=>decide (zkk lo.length m1 m2 lo up=ls) && (znN lo pl && znN up pu)
noncomputable def Four (H:Hp) (h:Nat) (t:Addr) (m1 m2:Nat) (lo up:List Int):Prop:=∃ x y a p b q:Addr,H t=some (.tup [nV m1,nV m2,.ref x,.ref y]) /\ H x=some (.tup [.ref a,.ref p]) /\ H a=some (.tup (lo.map V.int)) /\ H y=some (.tup [.ref b,.ref q]) /\ H b=some (.tup (up.map V.int)) /\
 m1 < 2 ^ h /\ m2 < 2 ^ h /\ zaL lo /\ lo.length=h /\ zaL up /\ up.length=h /\ 1 <= h /\ h <= 32
section
variable {h:Nat} {A B:List Int}
end
section
variable {X:Cx} {a b c:Expr} {ta:TA} {p p2 pos pos2:Pos}
end
noncomputable def Evs (H:Hp) (A:List (Addr × List Int)) (w:Nat):Prop:=∀ q ∈ A,H q.1=some (.tup (q.2.map V.int)) /\ zaL q.2 /\ q.2.length=w
section
variable {X:Cx} {i o:Expr} {ty td:TE} {pos:Pos}
end
section
variable {ty td:TE} {σ:St} {H:Hp} {Q:VK}
end
end L2
namespace PySem
open Sem (wp)
open AutoSeq1 (wpAny_loadPart')
section
variable {prog:Program} {w:World} {A:Around} {E:Value -> Shared -> Prop} {s:Shared}
end
section
variable {prog:Program} {w:World} {A:Around} {E:Value -> Shared -> Prop} {s:Shared}
end
end PySem
namespace L2
open PySem PySem.Spec PyProof.Rows Bm
section
variable {X:Cx} {a:Expr} {ta:TA} {p p1 p2 pos pos1 pos2:Pos}
end
section
variable {X:Cx} {e lw st:Expr} {te tl:TE} {ts:TE} {pos p2:Pos}
end
noncomputable def MxN (H:Hp) (l:Addr) (n:Nat) (g:Nat -> Nat -> Nat):Prop:=∃ as:List Addr,as.length=n /\ H l=some (.lst (as.map V.ref)) /\ ∀ i (h:i < as.length),H as[i]=some (.lst (((List.range n).map (g i)).map nV))
noncomputable def gT (n:Nat):Nat -> Nat -> Nat -> Nat
 | 0,r,c=>n * c + r
 | 1,r,c=>n * (n - 1 - c) + r
 | _,r,c=>n * r + (n - 1 - c)
noncomputable def zo8:Sp:=λ vs H Q _=>∃ (w:Nat) (a:Addr) (R:List (Addr × List (Addr × Dd))),vs=[nV w,.ref a] /\ H a=some (.lst (R.map λ q=>V.ref q.1)) /\ (∀ q ∈ R,H q.1=some (.lst (rowV q.2)) /\ Rw H w q.2 /\ q.2.length <= 100) /\ R.length <= 50 /\ 1 <= w /\ w <= 64 /\
 ∀ (l:Addr) (M:List (Addr × Dd)) (H':Hp),(dds M).reverse=zaH w (dds (R.flatMap λ q=>q.2)) -> Rw H' w M -> H l=none -> H' l=some (.lst (rowV M)) -> Same H H' -> Q (.ref l) H'
def zk9:∀ (R:List (Addr × List (Addr × Dd))),(∀ q ∈ R,q.2.length <= 100) -> (R.flatMap λ q=>q.2).length <= 100 * R.length
 | [],_=>by simp
 | q :: R,h=>by
  have h1:=zk9 R λ x hx=>h x (.tail _ hx);have h2:=h q (.head _);rw [List.flatMap_cons,yao,ybB];omega
def ziu {w:Nat} {d:Dd} (hd:d.ok w):rowL w [d]=d.led w:=zbI (Dd.led_ld hd)
noncomputable def ziF (ls:List Int):List Nat:=(List.range ls.length).filter λ j=>decide (ls.getD j 0=(j:Int))
noncomputable def zi5 (ls:List Int):List Nat:=(List.range ls.length).filter λ j=>decide (ls.getD j 0=-2)
noncomputable def zfg (ls:List Int):List Nat:=(List.range ls.length).filter λ j=>decide (0 <= ls.getD j 0)
noncomputable def zjn (ls:List Int):List Nat:=(List.range ls.length).filter λ j=>decide (0 <= ls.getD j 0 /\ ls.getD j 0 ≠ (j:Int))
def zeB {w:Nat} {ls:List Int} {p:Nat -> Bool} (h:ls.length=w):∀ x ∈ (List.range ls.length).filter p,x < w:=λ x hx=>by
 have:=yai.mp (yaq.mp hx).1;omega
def zgc {w:Nat} {ps:List Nat} (h:∀ x ∈ ps,x < w):zaI ps < 2 ^ w:=by
 refine ybg _ λ i hi=>?_;rw [zau,decide_eq_false_iff_not];exact λ z=>absurd (h i z) (1:)
def zgj {w m:Nat} (hm:m < 2 ^ w):zhn ((Dd.gather m).led w)=m:=by
 refine ybc λ p=>?_;rw [zpC];cases hb:m.testBit p with
 | true=>
  have q:=zaO hb
  have e:((Dd.gather m).led w).getD ((zac m).idxOf p) 0=(p:Int):=by
   rw [Dd.led_getD _ (yag q.1 (zay hm)),show (Dd.gather m).src w ((zac m).idxOf p)=if (zac m).idxOf p < (zac m).length then ((zac m).getD ((zac m).idxOf p) 0:Int) else -1 from rfl,if_pos q.1,q.2]
  rw [decide_eq_true_iff,<- e];exact getD_mem' (by rw [Dd.led_len]; exact yag q.1 (zay hm))
 | false=>
  rw [decide_eq_false_iff_not];intro z;obtain ⟨i,hi,e⟩:=ybC.mp z;rw [Dd.led_len] at hi;have e2:((Dd.gather m).led w).getD i 0=(p:Int):=by rw [yab,yac (by rw [Dd.led_len]; exact hi),e]; rfl
  rw [Dd.led_getD _ hi,show (Dd.gather m).src w i=if i < (zac m).length then ((zac m).getD i 0:Int) else -1 from rfl] at e2;by_cases hl:i < (zac m).length
  ·rw [if_pos hl] at e2
   have:(zac m).getD i 0 ∈ zac m:=by
    rw [yab,yac hl];exact ybp hl
   have e3:(zac m).getD i 0=p:=by omega
   rw [e3,za7] at this;rw [hb] at this;cases this
  ·rw [if_neg hl] at e2;omega
def zm6 {w m:Nat} (hm:m < 2 ^ w):zaI (zfg ((Dd.strew m).led w))=m:=by
 refine ybc λ p=>?_;rw [zau,zfg,Dd.led_len];by_cases hp:p < w
 ·have e2:((Dd.strew m).led w).getD p 0=if m.testBit p then (((zac m).idxOf p:Nat):Int) else -1:=by
   rw [Dd.led_getD _ hp];rfl
  cases hb:m.testBit p with
  | true=>
   rw [decide_eq_true_iff,yaq];refine ⟨yai.mpr hp,?_⟩;rw [e2,hb,if_pos rfl];exact decide_eq_true (ybG _)
  | false=>
   rw [decide_eq_false_iff_not,yaq];rintro ⟨_,z⟩;rw [e2,hb,if_neg (3:)] at z;cases z
 ·rw [ybT (yag hm (yaG (3:) (1:))),decide_eq_false_iff_not,yaq];rintro ⟨z,_⟩;exact hp (yai.mp z)
noncomputable def zow:Sp:=λ vs H Q _=>∃ (a:Addr) (ls:List Int) (w:Nat),vs=[.ref a] /\ H a=some (.tup (ls.map V.int)) /\ Ld w ls /\ 1 <= w /\ w <= 64 /\
 ∀ (l t1 t2 t3 t4:Addr) (H':Hp),H l=none -> Same H H' -> H' l=some (.lst [.ref t1,.ref t2,.ref t3,.ref t4]) -> H' t1=some (.tup (Dd.and (zaI (ziF ls))).vals) -> H' t2=some (.tup (Dd.or (zaI (zi5 ls))).vals) -> H' t3=some (.tup (Dd.gather (zhn ls)).vals) -> H' t4=some (.tup (Dd.strew (zaI (zfg ls))).vals) -> Q (.ref l) H'
noncomputable def znZ:Sp:=λ vs H Q _=>∃ (a:Addr) (ls:List Int) (w:Nat),vs=[.ref a] /\ H a=some (.tup (ls.map V.int)) /\ Ld w ls /\ 1 <= w /\ w <= 64 /\
 ∀ (l:Addr) (xs:List V) (H':Hp),H l=none -> Same H H' -> xs.length <= 2 -> H' l=some (.lst xs) -> Q (.ref l) H'
noncomputable def zl6:Sp:=λ vs H Q _=>∃ (a:Addr) (ls:List Int) (w:Nat),vs=[.ref a] /\ H a=some (.tup (ls.map V.int)) /\ Ld w ls /\ 1 <= w /\ w <= 64 /\
 ∀ (l t1 t2 t3 t4:Addr) (xs:List V) (H':Hp),H l=none -> Same H H' -> xs.length <= 3 -> H' l=some (.lst (.ref t1 :: .ref t2 :: .ref t3 :: .ref t4 :: xs)) -> H' t1=some (.tup (Dd.and (zaI (ziF ls))).vals) -> H' t2=some (.tup (Dd.or (zaI (zi5 ls))).vals) -> H' t3=some (.tup (Dd.gather (zhn ls)).vals) -> H' t4=some (.tup (Dd.strew (zaI (zfg ls))).vals) -> Q (.ref l) H'
noncomputable def zqa:Sp:=λ vs H Q _=>∃ (a:Addr) (ls:List Int) (w m:Nat),vs=[.ref a] /\ H a=some (.tup (ls.map V.int)) /\ 1 <= w /\ w <= 64 /\ m < 2 ^ w /\ (ls=(Dd.gather m).led w \/ ls=(Dd.strew m).led w) /\
 ∀ (t:Addr) (d:Dd) (H':Hp),Same H H' -> H' t=some (.tup d.vals) -> d.ok w -> d.led w=ls -> Q (.ref t) H'
noncomputable def zl8:Sp:=λ vs H Q _=>∃ (w:Nat) (lr a lw lt:Addr) (R:List (Addr × List (Addr × Dd))) (ls:List Int) (ws:List Nat),vs=[nV w,.ref lr,.ref a,.ref lw,.ref lt] /\ 1 <= w /\ w <= 64 /\ H lr=some (.lst (R.map λ q=>V.ref q.1)) /\
 (∀ q ∈ R,H q.1=some (.lst (rowV q.2)) /\ Rw H w q.2 /\ q.2.length <= 100 /\ rowL w (dds q.2)=ls) /\ R.length <= 10 /\ H a=some (.tup (ls.map V.int)) /\ H lw=some (.lst (ws.map nV)) /\ (∀ x ∈ ws,x < 2 ^ w) /\ ws.length <= 10 /\ H lt=some (.lst ((ws.map (ledN ls)).map nV)) /\ ∀ H',Same H H' -> Q (.bl true) H'
noncomputable def zkb:Sp:=λ vs H Q _=>∃ (w m n:Nat),vs=[nV w,nV m,nV n] /\ 1 <= w /\ w <= 64 /\ m < 2 ^ w /\ n < 2 ^ w /\ ∀ H',Same H H' -> Q (.bl true) H'
noncomputable def zlG:Sp:=λ vs H Q _=>∃ (k m:Nat) (lw:Addr) (ws:List Nat),vs=[nV (2 ^ k),nV m,.ref lw] /\ k <= 6 /\ m < 2 ^ 2 ^ k /\ H lw=some (.lst (ws.map nV)) /\ (∀ x ∈ ws,x < 2 ^ 2 ^ k) /\ ws.length <= 10 /\ ∀ H',Same H H' -> Q (.bl true) H'
def zsQ {w m y:Nat} {f g:Nat -> Dd} (hf:f=Dd.gather \/ f=Dd.strew) (hg:g=Dd.gather \/ g=Dd.strew):(f m).tog w (g y)=none ↔ ((f 0).nm ≠ (g 0).nm /\ m ≠ y):=by
 have n1:(Dd.gather 0).nm ≠ (Dd.strew 0).nm:=by decide
 rcases hf with rfl | rfl <;> rcases hg with rfl | rfl
 ·simp [Dd.tog]
 ·refine ⟨λ h=>⟨n1,λ e=>?_⟩,λ h=>if_neg h.2⟩;rw [show (Dd.gather m).tog w (.strew y)=_ from if_pos e] at h;cases h
 ·refine ⟨λ h=>⟨n1.symm,λ e=>?_⟩,λ h=>if_neg h.2⟩;rw [show (Dd.strew m).tog w (.gather y)=_ from if_pos e] at h;cases h
 ·simp [Dd.tog]
section
variable {X:Cx} {o i value:Expr} {td ty tv:TE} {pos pos':Pos}
end
section
variable {td ty tv:TE} {D:Ends} {σ:St} {H:Hp} {Q:VK}
end
noncomputable def Good (k:Nat) (ls:List Int) (P:Pap):Prop:=zqy k P /\ znN ls P=true /\ zmM ls P
noncomputable def Part (H:Hp) (k:Nat) (x:Addr) (ls:List Int) (P:Pap):Prop:=∃ lx px:Addr,H x=some (.tup [.ref lx,.ref px]) /\ H lx=some (.tup (ls.map V.int)) /\ PapH H px P /\ Good k ls P
end L2
namespace L2
open PySem PySem.Spec PyProof.Rows PySem.W
section
variable {P:Program} {w:World} {K:PySem.W.Frag} {mg:Str -> Option Value} {base:Heap} {N:List Str} {qual:Str} {scope:Scope} {f:Addr} {cd:Value} {A:Around} {outer:List Env} {s0 s s':Shared} {H0 H H':Hp} {E E':XK}
  {CX:CXT} {pins:List (Addr × Obj)} {σ:St} {B h':Heap} {hp:Heap}
end
noncomputable abbrev bmV:List Value:=[.type "ValueError",.type "Exception",.type "BaseException",.type "object"]
section
variable {P:Program} {w:World} {K:PySem.W.Frag} {mg:Str -> Option Value} {base:Heap} {N:List Str} {qual:Str} {scope:Scope} {f:Addr} {cd:Value} {A:Around} {outer:List Env} {s0:Shared} {H0:Hp} {E:XK}
end
section
variable {X:Cx} {k:Nat} {f:Addr} {fd:FuncData} {ps:List Str} {sp:Sp} {dvs:List V} {ds:List Value} {E:XK} {x:Str} {p pos:Pos} {e:Expr} {es:List Expr} {t:TA}
end
noncomputable def xcIn (K:PySem.W.Frag) (C D:Addr):Bool:=match K.lookup C with
 | some ⟨.type "type",_,.cls cd,sl⟩=>(match cd.mro,sl.toList with
  | .ref C' :: bm,[_,_,_,_,some (.builtin _),_]=>C' == C && !cd.hasDel && bm.contains (.type "BaseException") && (Value.ref C :: bm).contains (.ref D)
  | _,_=>false)
 | _=>false
noncomputable def isX (C a:Addr):Heap -> Prop:=λ h=>∃ o,h.get? a=some o /\ o.cls=.ref C /\ notCls o=true
section
variable {X:Cx} {pins:List (Addr × Obj)} {σ:St} {H H':Hp} {s:Shared}
end
section
variable {X:Cx} {pins:List (Addr × Obj)} {σ:St} {H1:Hp} {s1 s2:Shared} {E:XK} {e:Value} {D:Ends} {ie ic:Nat} {n c cl:Str} {Dc:Addr} {np cp vp ap hpos:Pos} {XE:Value -> Shared -> Prop}
end
section
variable {X:Cx} {iv ie ic:Nat} {v n c cl:Str} {Dc:Addr} {ep np cp vp ap hpos pos xp:Pos} {e:Expr} {t:XK -> TE}
end
open Builtin Builtin.ObjectAttr Builtin.Getset_descriptor
structure XCls (K:PySem.W.Frag) (C:Addr):Prop where
 ga:findIn K (.ref C) "__getattribute__"=some (some (.builtin "BaseException.__getattribute__"))
 gh:findIn K (.ref C) "__getattr__"=some none
 ca:findIn K (.ref C) "__class__"=some (some (.builtin "object.__class__"))
 mB:mroIn K C (.type "BaseException")=some true
 mO:mroIn K C (.type "object")=some true
section
variable {prog:Program} {w:World} {A:Around} {E:Value -> Shared -> Prop} {h:Heap} {g:Array GenState} {d:Drawn} {t:Nat} {os:OsState} {a C:Addr} {o:Obj} {K:PySem.W.Frag}
end
noncomputable def XTy (K:PySem.W.Frag) (H:Hp) (x:V) (t:Value):Prop:=TyOf K H x t \/ ∃ a C,x=.ref a /\ t=.ref C /\ H a=some (.ext (isX C a)) /\ XCls K C
section
variable {X:Cx} {K:PySem.W.Frag}
end
noncomputable def ztq (K:PySem.W.Frag) (C:Addr):Bool:=findIn K (.ref C) "__getattribute__" == some (some (.builtin "BaseException.__getattribute__")) && findIn K (.ref C) "__getattr__" == some none &&
 findIn K (.ref C) "__class__" == some (some (.builtin "object.__class__")) && mroIn K C (.type "BaseException") == some true && mroIn K C (.type "object") == some true
noncomputable def exOk (K:PySem.W.Frag) (cL cU cH cT cB:Addr):Bool:=xcIn K cL cL && ([cU,cH,cT].all λ c=>xcIn K c cL && ztq K c && ([cU,cH,cT,cB].all λ d=>PySem.W.kitOne K (.ref c) (.ref d) == some (c == d)) && PySem.W.kitOne K (.ref c) (.type "ValueError") == some true) &&
 ([cU,cH,cT,cB].all λ d=>PySem.W.kitOne K (.type "NoneType") (.ref d) == some false) && PySem.W.kitOne K (.type "NoneType") (.type "ValueError") == some false && excIn K cU bmV "ValueError.__new__" && excIn K cH bmV "ValueError.__new__" &&
 !(cU == cH) && !(cU == cT) && !(cU == cB) && !(cH == cT) && !(cH == cB) && !(cT == cB)
structure Exs (K:PySem.W.Frag) (mg:Str -> Option Value) (cL cU cH cT cB:Addr):Prop where
 mL:mg "LeadError"=some (.ref cL)
 mU:mg "Uneven"=some (.ref cU)
 mH:mg "Unhalved"=some (.ref cH)
 mT:mg "Lost"=some (.ref cT)
 mB:mg "BadRow"=some (.ref cB)
 ok:exOk K cL cU cH cT cB=true
namespace Exs
variable {K:PySem.W.Frag} {mg:Str -> Option Value} {cL cU cH cT cB:Addr} (x:Exs K mg cL cU cH cT cB)
include x
end Exs
section
variable {P:Program} {w:World} {K:PySem.W.Frag} {mg:Str -> Option Value} {base:Heap} {N:List Str} {qual:Str} {scope:Scope} {f:Addr} {cd:Value} {A:Around} {outer:List Env} {s0:Shared} {H0:Hp} {E:XK}
  {x:Str} {p pos:Pos} {e:Expr} {es:List Expr} {t:TA} {ps:List Str} {k:Nat} {sp:Sp}
end
end L2
namespace L2
open PySem PySem.Spec PyProof.Rows Bm
def zmz (ls:List Int):(ls.map V.int).all zbZ=true:=by
 rw [List.all_map];exact ybo.mpr λ _ _=>rfl
def zmJ (z:Int) (ls:List Int):((ls.map V.int).countP λ u=>eqV u (.int z))=ls.count z:=by
 rw [List.countP_map,List.count];apply List.countP_congr;intro x _;show (x == z)=true ↔ (x == z)=true;rfl
def zoa {K:PySem.W.Frag} {z:Int} {ls:List Int} {q:Addr} {H:Hp} {Q:VK} (hq:H q=some (.tup (ls.map V.int))) (h:Q (.int ((ls.count z:Nat):Int)) H):zop K (.ref q) [.int z] H Q:=by
 refine ⟨q,_,_,rfl,rfl,SqT.of hq,rfl,zmz _,?_⟩;rw [zmJ];exact h
end L2
namespace L2
open PySem PySem.Spec PyProof.Rows PySem.W
section
variable {prog:Program} {w:World} {A:Around} {R:Result -> Shared -> Prop} {I:Addr} {fp wr:List Addr} {G:Array GenState -> Array GenState -> Prop} {n:Nat} {P:Nat -> Value -> Prop} {St:Nat -> Shared -> Prop}
end
section
variable {prog:Program} {w:World} {A:Around} {E:Value -> Shared -> Prop} {s:Shared}
end
section
variable {prog:Program} {w:World} {A:Around} {E:Value -> Shared -> Prop} {s:Shared} {t:Addr}
end
section
variable {X:Cx}
end
end L2
namespace L2
open PySem PySem.Spec PyProof.Rows Bm
noncomputable def stU (ls:List Int) (i:Nat):Nat:=ls.countP λ e=>decide (0 <= e /\ e < (i:Int))
def zlC (ls:List Int):stU ls 0=0:=by
 unfold stU;rw [List.countP_eq_zero];intro e _ h;have:=of_decide_eq_true h;omega
def zc7 (i:Nat):∀ ls:List Int,stU ls (i + 1)=stU ls i + ls.count (i:Int)
 | []=>rfl
 | e :: ls=>by
  have ih:=zc7 i ls;unfold stU at ih ⊢;rw [ybQ,ybQ,ih,List.count_cons];by_cases h1:0 <= e /\ e < (i:Int)
  ·have h2 : 0 <= e /\ e < ((i + 1 : Nat) : Int) := by omega
   have h3:¬ e=(i:Int):=by omega
   simp only [h1,h2,h3,decide_true,if_true,beq_iff_eq,if_false,and_self];omega
  ·by_cases h3 : e = (i : Int)
   ·have h2 : 0 <= e /\ e < ((i + 1 : Nat) : Int) := by omega
    rw [if_pos (decide_eq_true h2),if_neg (by rw [decide_eq_true_iff]; exact h1),if_pos (beq_iff_eq.mpr h3)];omega
   ·have h2 : ¬ (0 <= e /\ e < ((i + 1 : Nat) : Int)) := by omega
    rw [if_neg (by rw [decide_eq_true_iff]; exact h2),if_neg (by rw [decide_eq_true_iff]; exact h1),if_neg (by rw [beq_iff_eq]; exact h3)];omega
def zoB (ls:List Int) (i:Nat):stU ls i <= ls.length:=List.countP_le_length
def zpn (ls:List Int) {i j:Nat} (h:i <= j):stU ls i <= stU ls j:=by
 induction h with
 | refl=>exact yaj _
 | step _ ih=>rw [Nat.succ_eq_add_one,zc7]; omega
def zfm (ls:List Int) (p:Nat):stU ls p + ls.count (p:Int) <= ls.length:=by rw [<- zc7]; exact zoB _ _
def zim (ls:List Int) {p q:Nat} (h:p < q):stU ls p + ls.count (p:Int) <= stU ls q:=by rw [<- zc7]; exact zpn ls h
noncomputable def plU (ls:List Int) (i:Nat):List Nat:=(List.range i).filter λ p=>decide (0 < ls.count (p:Int))
noncomputable def zeo (ls:List Int) (i:Nat):List (Nat × Nat × Nat):=(plU ls i).map λ p=>(p,stU ls p,ls.count (p:Int))
def zll (ls:List Int) (i:Nat):plU ls (i + 1)=plU ls i ++ (if 0 < ls.count (i:Int) then [i] else []):=by
 unfold plU;rw [yar,yap];congr 1;by_cases h:0 < ls.count (i:Int)
 ·rw [if_pos h,yaN (by exact decide_eq_true h)]; rfl
 ·rw [if_neg h,yaO (by rw [decide_eq_true_iff]; exact h)]; rfl
def zhC (ls:List Int) (i:Nat):zeo ls (i + 1)=zeo ls i ++ (if 0 < ls.count (i:Int) then [(i,stU ls i,ls.count (i:Int))] else []):=by
 unfold zeo;rw [zll,yae];congr 1
 split <;> rfl
def zcG {ls:List Int} {i p:Nat}:p ∈ plU ls i ↔ p < i /\ 0 < ls.count (p:Int):=by
 unfold plU;rw [yaq,yai,decide_eq_true_iff]
def zga (ls:List Int) (i:Nat):(zeo ls i).length <= i:=by
 unfold zeo plU;rw [yaa];have:=yaB (λ p:Nat=>decide (0 < ls.count (p:Int))) (List.range i);rw [yah] at this;exact this
noncomputable def zbb (es:List (Option Nat)):List Nat:=es.filterMap id
noncomputable def zer (es:List (Option Nat)):Nat:=es.countP λ o=>o.isNone
noncomputable def zbP (es:List (Option Nat)):List Nat:=(List.range es.length).filter λ p=>decide (p ∉ zbb es)
noncomputable def zdB:List (Option Nat) -> List Nat -> List Nat
 | [],_=>[]
 | some p :: r,sp=>p :: zdB r sp
 | none :: r,sp=>sp.getLastD 0 :: zdB r sp.dropLast
def ziK:∀ (es:List (Option Nat)) (sp:List Nat),(zdB es sp).length=es.length
 | [],_=>rfl
 | some _ :: r,sp=>by simp [zdB,ziK r sp]
 | none :: r,sp=>by simp [zdB,ziK r sp.dropLast]
def ziw:∀ {es:List (Option Nat)} {sp:List Nat} {j p:Nat},es[j]?=some (some p) -> (zdB es sp)[j]?=some p
 | some _ :: _,_,0,_,h=>by simp at h; simp [zdB,h]
 | some _ :: r,sp,j + 1,p,h=>by simp at h; simp [zdB]; exact ziw h
 | none :: r,sp,0,_,h=>by simp at h
 | none :: r,sp,j + 1,p,h=>by simp at h; simp [zdB]; exact ziw h
def zeV:∀ es:List (Option Nat),zer es + (zbb es).length=es.length
 | []=>rfl
 | some p :: r=>by
  have:=zeV r;unfold zer zbb at this ⊢;rw [yco (8:),show List.filterMap id (some p :: r)=p :: List.filterMap id r from rfl,ybB,ybB];omega
 | none :: r=>by
  have:=zeV r;unfold zer zbb at this ⊢;rw [ycp (0:),ycg rfl,ybB];omega
def zgs:∀ {es:List (Option Nat)} {sp:List Nat},zer es=sp.length -> (zdB es sp).Perm (zbb es ++ sp)
 | [],sp,h=>by
  have:sp=[]:=List.length_eq_zero_iff.mp h.symm;subst this;exact .refl _
 | some p :: r,sp,h=>by
  have h':zer r=sp.length:=by
   unfold zer at h ⊢;rw [yco (8:)] at h;exact h
  show (p :: zdB r sp).Perm (zbb (some p :: r) ++ sp);rw [show zbb (some p :: r)=p :: zbb r from rfl,List.cons_append];exact (zgs h').cons p
 | none :: r,sp,h=>by
  have h':zer r + 1=sp.length:=by
   unfold zer at h ⊢;rw [ycp (0:)] at h;exact h
  have hne:sp ≠ []:=λ z=>by rw [z] at h'; simp at h'
  have e:sp=sp.dropLast ++ [sp.getLastD 0]:=by
   have:=List.dropLast_concat_getLast hne;rw [yb9,List.getLast?_eq_some_getLast hne];exact this.symm
  show (sp.getLastD 0 :: zdB r sp.dropLast).Perm (zbb (none :: r) ++ sp);rw [show zbb (none :: r)=zbb r from ycg rfl];have ih:=zgs (es:=r) (sp:=sp.dropLast) (by rw [yb5]; omega);refine (ih.cons _).trans ?_
  conv=>rhs; rw [e]
  rw [<- yaE];exact ybX (l₁:=[sp.getLastD 0])
def zhZ {es:List (Option Nat)} (nd:(zbb es).Nodup) (lt:∀ p ∈ zbb es,p < es.length):(zbb es ++ zbP es).Perm (List.range es.length):=by
 rw [List.perm_iff_count];intro a;rw [List.count_append];have n1:=ycO.mp nd a;have n2:=ycO.mp (ybR (n:=es.length)) a;have n3:=ycO.mp ((ybR (n:=es.length)).filter λ p=>decide (p ∉ zbb es)) a;by_cases h1:a ∈ zbb es
 ·have h2:a ∉ zbP es:=λ z=>by
   have:=(yaq.mp z).2;exact (of_decide_eq_true this) h1
  have c1:=ycq.mpr h1;have c2:=ycr.mpr h2;have c3:=ycq.mpr (yai.mpr (lt a h1));omega
 ·have c1 := ycr.mpr h1;by_cases h2 : a < es.length
  ·have c2:=ycq.mpr (show a ∈ zbP es from yaq.mpr ⟨yai.mpr h2,decide_eq_true h1⟩);have c3:=ycq.mpr (yai.mpr h2);have n3:(zbP es).count a <= 1:=n3;omega
  ·have c2:(zbP es).count a=0:=ycr.mpr λ z=>h2 (yai.mp (yaq.mp z).1);have c3:(List.range es.length).count a=0:=ycr.mpr λ z=>h2 (yai.mp z);omega
def zjX {es:List (Option Nat)} (nd:(zbb es).Nodup) (lt:∀ p ∈ zbb es,p < es.length):zer es=(zbP es).length:=by
 have h1:=(zhZ nd lt).length_eq;have h2:=zeV es;rw [yao,yah] at h1;omega
noncomputable def filled (es:List (Option Nat)):List Int:=(zdB es (zbP es)).map λ (x:Nat)=>(x:Int)
def zla {es:List (Option Nat)} (nd:(zbb es).Nodup) (lt:∀ p ∈ zbb es,p < es.length):zaL (filled es):=
 zob ((zgs (zjX nd lt)).trans (zhZ nd lt))
def zmP (es:List (Option Nat)):(filled es).length=es.length:=by rw [filled,yaa,ziK]
def zm0 {es:List (Option Nat)} {j p:Nat} (h:es[j]?=some (some p)):(filled es).getD j 0=(p:Int):=by
 rw [filled,yab,yaf,ziw h];rfl
noncomputable def zaY (es:List (Option Nat)) (prs:List (Nat × Nat)):List (Option Nat):=prs.foldl (λ es q=>es.set q.1 (some q.2)) es
def zcR:∀ (prs:List (Nat × Nat)) (es:List (Option Nat)),(zaY es prs).length=es.length
 | [],_=>rfl
 | q :: prs,es=>by
  show (zaY (es.set q.1 (some q.2)) prs).length=_;rw [zcR prs,List.length_set]
def zgI (es:List (Option Nat)) (prs:List (Nat × Nat)) (q:Nat × Nat):zaY es (prs ++ [q])=(zaY es prs).set q.1 (some q.2):=by
 unfold zaY;rw [ya7];rfl
def zhx:∀ {prs:List (Nat × Nat)} {es:List (Option Nat)} {i:Nat},i ∉ prs.map (·.1) -> (zaY es prs)[i]?=es[i]?
 | [],_,_,_=>rfl
 | q :: prs,es,i,h=>by
  rw [ybv,yaD,not_or] at h;show (zaY (es.set q.1 (some q.2)) prs)[i]?=_;rw [zhx h.2,ybJ (ycG h.1)]
def zhN:∀ {prs:List (Nat × Nat)} {es:List (Option Nat)} {q:Nat × Nat},(prs.map (·.1)).Nodup -> (∀ r ∈ prs,r.1 < es.length) -> q ∈ prs -> (zaY es prs)[q.1]?=some (some q.2)
 | r :: prs,es,q,nd,lt,h=>by
  rw [ybv,ybK] at nd;show (zaY (es.set r.1 (some r.2)) prs)[q.1]?=_;rcases yaD.mp h with rfl | h
  ·rw [zhx nd.1,ycs (lt q (yaT ..))]
  ·exact zhN nd.2 (λ z hz=>by rw [List.length_set]; exact lt z (yaY _ hz)) h
def zjF:∀ {es:List (Option Nat)} {i v:Nat},es[i]?=some none -> (zbb (es.set i (some v))).Perm (v :: zbb es)
 | o :: r,0,v,h=>by
  simp at h;subst h;exact .refl _
 | o :: r,i + 1,v,h=>by
  have ih:=zjF (es:=r) (i:=i) (v:=v) (by simpa using h);cases o with
  | none=>exact ih
  | some p=>
   show (p :: zbb (r.set i (some v))).Perm (v :: p :: zbb r);exact (ih.cons p).trans (List.Perm.swap ..)
def zdC:∀ {prs:List (Nat × Nat)} {es:List (Option Nat)},(prs.map (·.1)).Nodup -> (∀ r ∈ prs,es[r.1]?=some none) -> (zbb (zaY es prs)).Perm (prs.map (·.2) ++ zbb es)
 | [],_,_,_=>.refl _
 | q :: prs,es,nd,h=>by
  rw [ybv,ybK] at nd
  have ih:=zdC (prs:=prs) (es:=es.set q.1 (some q.2)) nd.2 λ r hr=>by
   rw [ybJ (λ z=>nd.1 (by rw [z]; exact ybk hr))];exact h r (yaY _ hr)
  refine ih.trans ?_;rw [ybv,List.cons_append];exact ((zjF (h q (yaT ..))).append_left _).trans List.perm_middle
noncomputable def zbj (w:Nat):List (Option Nat):=List.replicate w none
def zlE {w i:Nat} (h:i < w):(zbj w)[i]?=some none:=by unfold zbj; rw [yck,if_pos h]
def zhP (w:Nat):zbb (zbj w)=[]:=by
 unfold zbb zbj
 induction w with
 | zero=>rfl
 | succ w ih=>rw [ybj,ycg rfl,ih]
def zlh {w:Nat} {prs:List (Nat × Nat)} (nd:(prs.map (·.1)).Nodup) (lt:∀ r ∈ prs,r.1 < w) (nd2:(prs.map (·.2)).Nodup) (lt2:∀ r ∈ prs,r.2 < w) :
  zaL (filled (zaY (zbj w) prs)) /\ (filled (zaY (zbj w) prs)).length=w /\ ∀ r ∈ prs,(filled (zaY (zbj w) prs)).getD r.1 0=(r.2:Int):=by
 have hl:(zaY (zbj w) prs).length=w:=by rw [zcR]; simp [zbj]
 have hp:=zdC (es:=zbj w) nd λ r hr=>zlE (lt r hr);rw [zhP,ybb] at hp;refine ⟨zla (hp.nodup_iff.mpr nd2) λ p h=>?_,by rw [zmP,hl],λ r hr=>zm0 (zhN nd (λ z hz=>by rw [show (zbj w).length=w by simp [zbj]]; exact lt z hz) hr)⟩;rw [hl];obtain ⟨r,hr,rfl⟩:=yau.mp (hp.mem_iff.mp h);exact lt2 r hr
noncomputable def prsS (ls:List Int) (i:Nat):List (Nat × Nat):=(plU ls i).map λ p=>(stU ls p,p)
def zoG {ls:List Int} {w:Nat} (hl:ls.length=w):((prsS ls w).map (·.1)).Nodup /\ (∀ r ∈ prsS ls w,r.1 < w) /\ ((prsS ls w).map (·.2)).Nodup /\ ∀ r ∈ prsS ls w,r.2 < w:=by
 have e2:(prsS ls w).map (·.2)=plU ls w:=by unfold prsS; rw [yaX]; exact List.map_id _
 have e1:(prsS ls w).map (·.1)=(plU ls w).map (stU ls):=by unfold prsS; rw [yaX]; rfl
 refine ⟨?_,λ r hr=>?_,?_,λ r hr=>?_⟩
 ·rw [e1,List.Nodup,yb3];have:(plU ls w).Pairwise (· < ·):=ycN _ ybr;refine (List.Pairwise.and_mem.mp this).imp λ {a b} h=>?_;have:=zim ls h.2.2;have:=(zcG.mp h.1).2;omega
 ·obtain ⟨p,hp,rfl⟩:=yau.mp hr;have:=zfm ls p;have:=(zcG.mp hp).2;show stU ls p < w;omega
 ·rw [e2];exact (ybR).filter _
 ·obtain ⟨p,hp,rfl⟩:=yau.mp hr;exact (zcG.mp hp).1
noncomputable def zcA (ls:List Int):List Int:=filled (zaY (zbj ls.length) (prsS ls ls.length))
def zfK (ls:List Int):zaL (zcA ls) /\ (zcA ls).length=ls.length /\ ∀ p,p < ls.length -> 0 < ls.count (p:Int) -> (zcA ls).getD (stU ls p) 0=(p:Int):=by
 obtain ⟨a,b,c,d⟩:=zoG (ls:=ls) rfl;obtain ⟨x,y,z⟩:=zlh a b c d;exact ⟨x,y,λ p hp hc=>z (stU ls p,p) (yau.mpr ⟨p,zcG.mpr ⟨hp,hc⟩,rfl⟩)⟩
noncomputable def zdE (ls:List Int) (p:Nat):List Nat:=(List.range ls.length).filter λ j=>decide (ls.getD j 0=(p:Int))
def zdO (f:Nat -> Int) (x:Int):∀ n,((List.range n).map f).count x=((List.range n).filter λ j=>decide (f j=x)).length
 | 0=>rfl
 | n + 1=>by
  rw [yar,yae,List.count_append,yap,yao,zdO f x n];congr 1;by_cases h:f n=x
  ·simp [h]
  ·simp [h]
def ziE (ls:List Int) (p:Nat):(zdE ls p).length=ls.count (p:Int):=by
 unfold zdE;rw [<- zdO (λ j=>ls.getD j 0) (p:Int) ls.length,<- zcz ls]
def zgf {ls:List Int} {p j:Nat}:j ∈ zdE ls p ↔ j < ls.length /\ ls.getD j 0=(p:Int):=by
 unfold zdE;rw [yaq,yai,decide_eq_true_iff]
noncomputable def zcm (ls:List Int) (p:Nat):List (Nat × Nat):=(zdE ls p).zipIdx.map λ q=>(q.1,stU ls p + q.2)
noncomputable def prsE (ls:List Int) (i:Nat):List (Nat × Nat):=(plU ls i).flatMap (zcm ls)
def zgT (ls:List Int) (p:Nat):(zcm ls p).map (·.1)=zdE ls p:=by
 unfold zcm;rw [yaX];exact List.zipIdx_map_fst 0 _
def zoC (ls:List Int) (p:Nat):(zcm ls p).map (·.2)=(List.range (ls.count (p:Int))).map (stU ls p + ·):=by
 unfold zcm;rw [yaX,<- ziE,ycM,<- List.zipIdx_map_snd 0 (zdE ls p),yaX];rfl
def zoJ {ls:List Int} {p:Nat} (h:ls.count (p:Int)=0):zcm ls p=[]:=by
 have:(zcm ls p).length=0:=by rw [<- yaa (f:=λ q:Nat × Nat=>q.1),zgT,ziE,h]
 exact List.length_eq_zero_iff.mp this
def zjQ (ls:List Int) (i:Nat):prsE ls (i + 1)=prsE ls i ++ zcm ls i:=by
 unfold prsE;rw [zll,yce];congr 1;by_cases h:0 < ls.count (i:Int)
 ·rw [if_pos h]; simp
 ·rw [if_neg h,zoJ (1:)]; rfl
def ziz (ls:List Int):∀ i,(prsE ls i).map (·.2)=List.range (stU ls i)
 | 0=>by rw [zlC]; rfl
 | i + 1=>by
  rw [zjQ,yae,ziz ls i,zoC,zc7,List.range_add]
def zi2 (ls:List Int):∀ i,((prsE ls i).map (·.1)).Nodup /\ ∀ j ∈ (prsE ls i).map (·.1),j < ls.length /\ ls.getD j 0 < (i:Int)
 | 0=>⟨List.nodup_nil,λ _ z=>nomatch z⟩
 | i + 1=>by
  obtain ⟨h1,h2⟩:=zi2 ls i;rw [zjQ,yae,zgT];refine ⟨List.nodup_append.mpr ⟨h1,(ybR).filter _,λ a ha b hb e=>?_⟩,λ j hj=>?_⟩
  ·subst e;have:=(h2 a ha).2;have:=(zgf.mp hb).2;omega
  ·rcases yaA.mp hj with z | z
   ·have:=h2 j z;exact ⟨this.1,by have:=this.2; omega⟩
   ·have:=zgf.mp z;exact ⟨this.1,by rw [this.2]; omega⟩
noncomputable def zhs (ls:List Int):List Int:=filled (zaY (zbj ls.length) (prsE ls ls.length))
def ziC (ls:List Int):zaL (zhs ls) /\ (zhs ls).length=ls.length /\ ∀ j p,j < ls.length -> p < ls.length -> ls.getD j 0=(p:Int) -> ∃ i,i < ls.count (p:Int) /\ (zhs ls).getD j 0=((stU ls p + i:Nat):Int):=by
 obtain ⟨h1,h2⟩:=zi2 ls ls.length;have h3:=ziz ls ls.length
 obtain ⟨x,y,z⟩:=zlh (w:=ls.length) h1 (λ r hr=>(h2 r.1 (ybk hr)).1) (by rw [h3]; exact ybR) λ r hr=>by
  have:r.2 ∈ (prsE ls ls.length).map (·.2):=ybk hr;rw [h3,yai] at this;exact yag this (zoB _ _)
 refine ⟨x,y,λ j p hj hp e=>?_⟩;have hm:j ∈ zdE ls p:=zgf.mpr ⟨hj,e⟩;obtain ⟨i,hi,hji⟩:=ybC.mp hm;have hc:i < ls.count (p:Int):=by rw [<- ziE]; exact hi
 refine ⟨i,hc,z (j,stU ls p + i) (List.mem_flatMap.mpr ⟨p,zcG.mpr ⟨hp,by omega⟩,yau.mpr ⟨(j,i),?_,rfl⟩⟩)⟩;rw [List.mem_zipIdx_iff_getElem?];rw [yac hi,hji]
noncomputable def copP (ls:List Int) (b:Nat):List Nat:=(plU ls ls.length).flatMap λ (p:Nat)=>(List.range (min b (ls.count (p:Int) - b))).map (stU ls p + ·)
noncomputable def copM (ls:List Int) (b:Nat):Nat:=zaI (copP ls b)
noncomputable def copR (ls:List Int) (k:Nat):List Dd:=(List.range k).map λ t=>Dd.copy (copM ls (2 ^ t)) ((2 ^ t:Nat):Int)
def ziN {ls:List Int} {b q:Nat}:q ∈ copP ls b ↔ ∃ p,p < ls.length /\ 0 < ls.count (p:Int) /\ ∃ i,i < b /\ i + b < ls.count (p:Int) /\ q=stU ls p + i:=by
 unfold copP;rw [List.mem_flatMap];constructor
 ·rintro ⟨p,hp,h⟩;obtain ⟨i,hi,rfl⟩:=yau.mp h;have hi:=yai.mp hi;exact ⟨p,(zcG.mp hp).1,(zcG.mp hp).2,i,by omega,by omega,rfl⟩
 ·rintro ⟨p,h1,h2,i,h3,h4,rfl⟩;exact ⟨p,zcG.mpr ⟨h1,h2⟩,yau.mpr ⟨i,yai.mpr (1:),rfl⟩⟩
def zgt {ls:List Int} {b q:Nat} (h:q ∈ copP ls b):q + b < ls.length:=by
 obtain ⟨p,_,_,i,_,h4,rfl⟩:=ziN.mp h;have:=zfm ls p;omega
def zrh {ls:List Int} {b w:Nat} (hl:ls.length=w):copM ls b < 2 ^ w:=by
 apply ybg;intro i hi;rw [copM,zau];exact decide_eq_false λ z=>by have:=zgt z; omega
def znT {ls:List Int} {k:Nat} (hl:ls.length=2 ^ k):∀ d ∈ copR ls k,d.ok (2 ^ k):=by
 intro d hd;obtain ⟨t,ht,rfl⟩:=yau.mp hd;have ht:=yai.mp ht;have h1:2 ^ t < 2 ^ k:=ycP (3:) ht;have h0:0 < 2 ^ t:=yaS t;refine ⟨by omega,by omega,by omega,zrh hl,λ p hp=>?_⟩;rw [copM,zau] at hp;have:=zgt (of_decide_eq_true hp);omega
def zqS {ls:List Int} {k t:Nat} (hl:ls.length=2 ^ k) {j:Nat} (hj:j < 2 ^ k):((Dd.copy (copM ls (2 ^ t)) ((2 ^ t:Nat):Int)).led (2 ^ k)).getD j 0=if 2 ^ t <= j /\ j - 2 ^ t ∈ copP ls (2 ^ t) then ((j - 2 ^ t:Nat):Int) else (j:Int):=by
 rw [Dd.led_getD _ hj];show (if inM (copM ls (2 ^ t)) ((j:Int) - ((2 ^ t:Nat):Int)) then (j:Int) - ((2 ^ t:Nat):Int) else (j:Int))=_;by_cases h1:2 ^ t <= j
 ·rw [show (j : Int) - ((2 ^ t : Nat) : Int) = ((j - 2 ^ t : Nat) : Int) by omega, ziX, copM, zau];by_cases h2 : j - 2 ^ t ∈ copP ls (2 ^ t)
  ·rw [if_pos (decide_eq_true h2),if_pos ⟨h1,h2⟩]
  ·rw [if_neg (by rw [decide_eq_true_iff]; exact h2),if_neg λ z=>h2 z.2]
 ·rw [if_neg (λ z=>by unfold inM at z; rw [yal,decide_eq_true_iff] at z; omega),if_neg λ z=>h1 z.1]
def zgZ {ls:List Int} {k:Nat} (hl:ls.length=2 ^ k):∀ t,t <= k -> ∀ p i,p < ls.length -> i < 2 ^ t -> i < ls.count (p:Int) -> (rowL (2 ^ k) ((List.range t).map λ t=>Dd.copy (copM ls (2 ^ t)) ((2 ^ t:Nat):Int))).getD (stU ls p + i) 0=((stU ls p:Nat):Int)
 | 0,_,p,i,hp,hi,hc=>by
  have:i=0:=by simpa using hi
  subst this;show (zaE (2 ^ k)).getD _ 0=_;have:=zfm ls p;rw [zbf (1:)];rfl
 | t + 1,ht,p,i,hp,hi,hc=>by
  have okt:∀ d ∈ (List.range t).map (λ t=>Dd.copy (copM ls (2 ^ t)) ((2 ^ t:Nat):Int)),d.ok (2 ^ k):=λ d hd=>by
   obtain ⟨s,hs,rfl⟩:=yau.mp hd;exact znT hl _ (yau.mpr ⟨s,yai.mpr (by have:=yai.mp hs; omega),rfl⟩)
  have okd:(Dd.copy (copM ls (2 ^ t)) ((2 ^ t:Nat):Int)).ok (2 ^ k):=znT hl _ (yau.mpr ⟨t,yai.mpr (1:),rfl⟩);have hend:=zfm ls p;have hj:stU ls p + i < 2 ^ k:=by omega
  rw [yar,yae,ybv,List.map_nil,zeW,zbK (Dd.led_ld okd) hj,zqS hl hj];by_cases h2:2 ^ t <= stU ls p + i /\ stU ls p + i - 2 ^ t ∈ copP ls (2 ^ t)
  ·rw [if_pos h2, if_pos (1:), yak];obtain ⟨p', hp', hc', i', h3, h4, e⟩ := ziN.mp h2.2
   have hpp:p'=p:=by
    rcases ycy p' p with z | z | z
    ·have:=zim ls z; omega
    ·exact z
    ·have:=zim ls z; omega
   subst hpp;rw [e];exact zgZ hl t (1:) p' i' hp' h3 (1:)
  ·rw [if_neg h2, if_pos (1:), yak]
   have hit:i < 2 ^ t:=by
    rcases ybx i (2 ^ t) with z | z
    ·exact z
    ·rw [ybq] at hi;exact absurd ⟨by omega,ziN.mpr ⟨p,hp,by omega,i - 2 ^ t,by omega,by omega,by omega⟩⟩ h2
   exact zgZ hl t (1:) p i hp hit hc
noncomputable def zc0 (ls:List Int):List Nat:=(List.range ls.length).filter λ j=>decide (ls.getD j 0 ≠ -1)
noncomputable def zce (ls:List Int):List Nat:=(List.range ls.length).filter λ j=>decide (ls.getD j 0=-2)
noncomputable def rowA (k:Nat) (ls:List Int):List Dd:=rowE k (zcA ls) ++ copR ls k ++ rowE k (zhs ls) ++ [.and (zaI (zc0 ls)),.or (zaI (zce ls))]
def zeX {w:Nat} {f:Nat -> Bool}:zaI ((List.range w).filter f) < 2 ^ w:=by
 apply ybg;intro i hi;rw [zau];exact decide_eq_false λ z=>by have:=yai.mp (yaq.mp z).1; omega
def zkX {k:Nat} {ls:List Int} (hL:Ld (2 ^ k) ls):(∀ d ∈ rowA k ls,d.ok (2 ^ k)) /\ rowL (2 ^ k) (rowA k ls)=ls:=by
 have hl:=hL.1;obtain ⟨sE,sL,sG⟩:=zfK ls;obtain ⟨eE,eL,eG⟩:=ziC ls;obtain ⟨⟨_,_,_,sO⟩,sR⟩:=zfn sE (sL.trans hl);obtain ⟨⟨_,_,_,eO⟩,eR⟩:=zfn eE (eL.trans hl);have cO:=znT hl;have aO:(Dd.and (zaI (zc0 ls))).ok (2 ^ k):=by show zaI _ < 2 ^ 2 ^ k; rw [zc0,hl]; exact zeX
 have oO:(Dd.or (zaI (zce ls))).ok (2 ^ k):=by show zaI _ < 2 ^ 2 ^ k; rw [zce,hl]; exact zeX
 have tO:∀ d ∈ [Dd.and (zaI (zc0 ls)),Dd.or (zaI (zce ls))],d.ok (2 ^ k):=λ d hd=>by
  rcases yaD.mp hd with rfl | hd
  ·exact aO
  ·rw [yax.mp hd]; exact oO
 have app:∀ {a b:List Dd},(∀ d ∈ a,d.ok (2 ^ k)) -> (∀ d ∈ b,d.ok (2 ^ k)) -> ∀ d ∈ a ++ b,d.ok (2 ^ k):=λ {a b} ha hb d hd=>(yaA.mp hd).elim (ha d) (hb d);have o12:=app sO cO;have o123:=app o12 eO;refine ⟨app o123 tO,?_⟩;have ldE:Ld (2 ^ k) (zhs ls):=(eL.trans hl) ▸ zfj eE;have ldC:Ld (2 ^ k) (rowL (2 ^ k) (copR ls k)):=ze9 cO;have ldS:Ld (2 ^ k) (zcA ls):=(sL.trans hl) ▸ zfj sE;have ld12:=zbv ldS ldC;have ld3:=zbv ld12 ldE;rw [rowA,zg8 o123 tO,zg8 o12 eO,zg8 sO cO,sR,eR,zcN aO (λ d hd=>by rw [yax.mp hd]; exact oO),show rowL (2 ^ k) [Dd.or (zaI (zce ls))]=(Dd.or (zaI (zce ls))).led (2 ^ k) by rw [show [Dd.or (zaI (zce ls))]=[] ++ [Dd.or (zaI (zce ls))] from rfl,zeW]; exact zbI (Dd.led_ld oO)];have ldO:=Dd.led_ld oO;have ldA:=Dd.led_ld aO;have ldT:=zbv ldA ldO;refine zcs (by rw [zbM,zbM,Dd.led_len,hl]) λ j hj=>?_;have hj:j < 2 ^ k:=by rw [zbM,zbM,Dd.led_len] at hj; exact hj
 have hjl:j < ls.length:=by rw [hl]; exact hj
 have bO:(zaI (zce ls)).testBit j=decide (ls.getD j 0=-2):=by
  rw [zau,zce];apply decide_eq_decide.mpr;rw [yaq,yai,decide_eq_true_iff];exact ⟨λ z=>z.2,λ z=>⟨hjl,z⟩⟩
 have bA:(zaI (zc0 ls)).testBit j=decide (ls.getD j 0 ≠ -1):=by
  rw [zau,zc0];apply decide_eq_decide.mpr;rw [yaq,yai,decide_eq_true_iff];exact ⟨λ z=>z.2,λ z=>⟨hjl,z⟩⟩
 have gO:((Dd.or (zaI (zce ls))).led (2 ^ k)).getD j 0=if ls.getD j 0=-2 then -2 else (j:Int):=by
  rw [Dd.led_getD _ hj];show (if (zaI (zce ls)).testBit j then (-2:Int) else (j:Int))=_;rw [bO];by_cases h:ls.getD j 0=-2
  ·rw [if_pos h,if_pos (decide_eq_true h)]
  ·rw [if_neg h,if_neg (by rw [decide_eq_true_iff]; exact h)]
 have gA:((Dd.and (zaI (zc0 ls))).led (2 ^ k)).getD j 0=if ls.getD j 0=-1 then -1 else (j:Int):=by
  rw [Dd.led_getD _ hj];show (if (zaI (zc0 ls)).testBit j then (j:Int) else (-1:Int))=_;rw [bA];by_cases h:ls.getD j 0=-1
  ·rw [if_pos h,if_neg (by rw [decide_eq_true_iff]; exact λ z=>z h)]
  ·rw [if_neg h,if_pos (decide_eq_true h)]
 have gT:(zax ((Dd.and (zaI (zc0 ls))).led (2 ^ k)) ((Dd.or (zaI (zce ls))).led (2 ^ k))).getD j 0=if ls.getD j 0=-2 then -2 else if ls.getD j 0=-1 then -1 else (j:Int):=by
  rw [zbK ldO hj,gO];by_cases h:ls.getD j 0=-2
  ·rw [if_pos h,if_neg (1:),if_pos h]
  ·rw [if_neg h,if_pos (1:),yak,gA,if_neg h]
 rw [zbK ldT hj,gT];have hb:=hL.2 (ls.getD j 0) (by rw [yab,yac hjl]; exact ybp hjl);by_cases h2:ls.getD j 0=-2
 ·rw [if_pos h2,if_neg (1:),h2]
 ·by_cases h1 : ls.getD j 0 = -1
  ·rw [if_neg h2,if_pos h1,if_neg (1:),h1]
  ·rw [if_neg h2, if_neg h1, if_pos (1:), yak];obtain ⟨p, hp⟩ : ∃ p : Nat, ls.getD j 0 = (p : Int) := ⟨(ls.getD j 0).toNat, by omega⟩
   have hpl:p < ls.length:=by rw [hl]; omega
   obtain ⟨i,hi,e⟩:=eG j p hjl hpl hp;have hend:=zfm ls p;have hc:(rowL (2 ^ k) (copR ls k)).getD (stU ls p + i) 0=((stU ls p:Nat):Int):=zgZ hl k (yaj _) p i hpl (1:) hi;rw [zbK ldE hj,e,if_pos (1:),yak,zbK ldC (1:),hc,if_pos (1:),yak,sG p hpl (1:),hp]
noncomputable abbrev Rq:=Addr × Nat × Nat × Nat
noncomputable def rqV (A:List Rq):List V:=A.map λ q=>V.ref q.1
noncomputable def Rns (H:Hp) (A:List Rq):Prop:=∀ q ∈ A,H q.1=some (.tup [nV q.2.1,nV q.2.2.1,nV q.2.2.2])
def Rns.same {H H':Hp} {A:List Rq} (h:Rns H A) (s:Same H H'):Rns H' A:=λ q hq=>s _ _ (h q hq)
def zir (A:List Rq):(rqV A).length=A.length:=yaa ..
noncomputable def oV:Option Nat -> V
 | none=>.non
 | some n=>nV n
noncomputable def zlV:Sp:=λ vs H Q _=>∃ (a:Addr) (ls:List Int) (w:Nat),vs=[.ref a] /\ H a=some (.tup (ls.map V.int)) /\ Ld w ls /\ w <= 64 /\ ∀ (l:Addr) (A:List Rq) (H':Hp),H l=none -> Same H H' -> H' l=some (.lst (rqV A)) -> Rns H' A -> A.map (·.2)=zeo ls w -> Q (.ref l) H'
noncomputable def ziD (F:List Int -> List Int):Sp:=λ vs H Q _=>∃ (a l:Addr) (ls:List Int) (A:List Rq) (w:Nat),vs=[.ref a,.ref l] /\ H a=some (.tup (ls.map V.int)) /\ Ld w ls /\ w <= 64 /\ H l=some (.lst (rqV A)) /\ Rns H A /\ A.map (·.2)=zeo ls w /\
 ∀ (t:Addr) (H':Hp),Same H H' -> H' t=some (.tup ((F ls).map V.int)) -> Q (.ref t) H'
noncomputable def zml:Sp:=λ vs H Q _=>∃ (l:Addr) (es:List (Option Nat)),vs=[.ref l] /\ H l=some (.lst (es.map oV)) /\ es.length <= 64 /\ zer es=(zbP es).length /\ ∀ (t:Addr) (H':Hp),Same H H' -> H' t=some (.tup ((filled es).map V.int)) -> Q (.ref t) H'
noncomputable def zmq:Sp:=λ vs H Q _=>∃ (l:Addr) (ls:List Int) (A:List Rq) (k:Nat),vs=[nV (2 ^ k),.ref l] /\ k <= 6 /\ Ld (2 ^ k) ls /\ H l=some (.lst (rqV A)) /\ Rns H A /\ A.map (·.2)=zeo ls (2 ^ k) /\
 ∀ (l':Addr) (L:List (Addr × Dd)) (H':Hp),H l'=none -> Same H H' -> H' l'=some (.lst (rowV L)) -> Dl H' L -> dds L=copR ls k -> Q (.ref l') H'
noncomputable def zqs:Sp:=λ vs H Q _=>∃ (l:Addr) (ls:List Int) (A:List Rq) (w b:Nat),vs=[.ref l,nV b] /\ w <= 64 /\ b <= 64 /\ Ld w ls /\ H l=some (.lst (rqV A)) /\ Rns H A /\ A.map (·.2)=zeo ls w /\ ∀ H',Same H H' -> Q (nV (copM ls b)) H'
noncomputable def zjv:Sp:=λ vs H Q _=>∃ (a:Addr) (ls:List Int) (w:Nat),vs=[.ref a] /\ H a=some (.tup (ls.map V.int)) /\ Ld w ls /\ w <= 64 /\ ∀ (l:Addr) (L:List (Addr × Dd)) (H':Hp),H l=none -> Same H H' -> H' l=some (.lst (rowV L)) -> Dl H' L -> dds L=[.and (zaI (zc0 ls)),.or (zaI (zce ls))] -> Q (.ref l) H'
noncomputable def zl3:Sp:=λ vs H Q _=>∃ (a:Addr) (ls:List Int) (k:Nat),vs=[.ref a] /\ H a=some (.tup (ls.map V.int)) /\ Ld (2 ^ k) ls /\ k <= 6 /\ ∀ (l:Addr) (L:List (Addr × Dd)) (H':Hp),H l=none -> Same H H' -> H' l=some (.lst (rowV L)) -> Rw H' (2 ^ k) L -> dds L=rowA k ls -> Q (.ref l) H'
def zk4 (p:Nat):∀ es:List (Option Nat),inV (nV p) (es.map oV)=decide (p ∈ zbb es)
 | []=>by simp [inV,zbb]
 | none :: r=>by
  have e:inV (nV p) ((none :: r).map oV)=(false || inV (nV p) (r.map oV)):=rfl;rw [e,yc3,zk4 p r];rfl
 | some q :: r=>by
  have e:inV (nV p) ((some q :: r).map oV)=(((q:Int) == (p:Int)) || inV (nV p) (r.map oV)):=rfl;rw [e,zk4 p r,show zbb (some q :: r)=q :: zbb r from rfl];by_cases h:q=p
  ·subst h; simp
  ·have h' : ¬ p = q := fun z => h z.symm;have h2 : ¬ ((q : Int) = (p : Int)) := by omega
   simp [h',h2]
def znD (es:List (Option Nat)):(es.map oV).all zbZ=true:=by
 rw [List.all_map];exact ybo.mpr λ o _=>by cases o <;> rfl
def zrE {K:PySem.W.Frag} {p:Nat} {l:Addr} {es:List (Option Nat)} {H:Hp} {Q:VK} (hl:H l=some (.lst (es.map oV))) (h:Q (.bl (!decide (p ∈ zbb es))) H):rIn K true (nV p) (.ref l) H Q:=by
 refine ⟨l,_,rfl,.inl (SqL.of hl),rfl,znD _,?_⟩;rw [if_pos rfl,zk4];exact h
def zp7 (es:List (Option Nat)) (i v:Nat):(es.map oV).set i (nV v)=(es.set i (some v)).map oV:=by rw [List.map_set]; rfl
def zpb (w:Nat):List.replicate w V.non=(zbj w).map oV:=by rw [zbj,List.map_replicate]; rfl
def zjE {w:Nat} {prs:List (Nat × Nat)} (nd:(prs.map (·.1)).Nodup) (lt:∀ r ∈ prs,r.1 < w) (nd2:(prs.map (·.2)).Nodup) (lt2:∀ r ∈ prs,r.2 < w) :
  (zaY (zbj w) prs).length=w /\ zer (zaY (zbj w) prs)=(zbP (zaY (zbj w) prs)).length:=by
 have hl:(zaY (zbj w) prs).length=w:=by rw [zcR]; simp [zbj]
 have hp:=zdC (es:=zbj w) nd λ r hr=>zlE (lt r hr);rw [zhP,ybb] at hp;refine ⟨hl,zjX (hp.nodup_iff.mpr nd2) λ p h=>?_⟩;rw [hl];obtain ⟨r,hr,rfl⟩:=yau.mp (hp.mem_iff.mp h);exact lt2 r hr
def zq7 {ls:List Int} {w:Nat} (hl:ls.length=w):((prsE ls w).map (·.1)).Nodup /\ (∀ r ∈ prsE ls w,r.1 < w) /\ ((prsE ls w).map (·.2)).Nodup /\ ∀ r ∈ prsE ls w,r.2 < w:=by
 subst hl;obtain ⟨h1,h2⟩:=zi2 ls ls.length;have h3:=ziz ls ls.length;refine ⟨h1,λ r hr=>(h2 r.1 (ybk hr)).1,by rw [h3]; exact ybR,λ r hr=>?_⟩;have:r.2 ∈ (prsE ls ls.length).map (·.2):=ybk hr;rw [h3,yai] at this;exact yag this (zoB _ _)
def zil {α β:Type} {A:List α} {j:Nat} {q:α} (f:α -> β) (h:A[j]?=some q):(A.take (j + 1)).map f=(A.take j).map f ++ [f q]:=by
 rw [yaz,h,yae];rfl
noncomputable abbrev rgI (lo:Int) (n:Nat):List V:=(List.range n).map λ (x:Nat)=>V.int (lo + x)
noncomputable def zl1 (ta:TA):TE:=λ σ H Q=>ta σ H λ vs H1=>∃ lo hi:Int,vs=[.int lo,.int hi] /\ (-100000 <= lo /\ lo <= 100000 /\ -100000 <= hi /\ hi <= 100000) /\ ∀ l,H1 l=none -> Q (.ref l) (upd H1 l (.lst (rgI lo (hi - lo).toNat)))
def zr1 {lo hi:Int}:Builtin.Range.rangeSize lo hi 1=(((hi - lo).toNat:Nat):Int):=by
 rw [rangeSize_one]; split <;> omega
section
variable {X:Cx} {a b:Expr} {ta:TA} {p p2 pos pos2:Pos}
def zfr (hc:X.calm=true) (hml:X.mg "list"=none) (hmr:X.mg "range"=none) (ha:PA X [a,b] ta) (hgl:Gl X "list":=by rfl) (hgr:Gl X "range":=by rfl)
  (hs:starEach [a,b] X.env=[(false,eval a X.env),(false,eval b X.env)]:=by rfl) (hs2:starEach [b] X.env=[(false,eval b X.env)]:=by rfl)
  (hs1:starEach [(.Call (.Name "range" p) [a,b] [] pos:Expr)] X.env=[(false,eval (.Call (.Name "range" p) [a,b] [] pos) X.env)]:=by rfl) :
  PE X (.Call (.Name "list" p2) [.Call (.Name "range" p) [a,b] [] pos] [] pos2) (zl1 ta):=by
 intro pins s σ H Q I h;refine wpAny_Call_Name_kw (zcH I hgl hml boot_list (yaL ?_ hs1 rfl));rw [hs1];refine ycj (Call_ (zcH I hgr hmr boot_range (yaL (thn (ha pos pins s σ H _ I h) λ us s1 ⟨vs,H1,I1,r1,q1⟩=>?_) (by rw [hs,hs2]) (by rw [hs2]; rfl))));obtain ⟨lo,hi,rfl,h1,q⟩:=q1;obtain ⟨u,v,rfl,⟨t,rfl⟩,⟨t',rfl⟩⟩:=r1.two;refine call_range_2 ?_;have I2:Inv X pins σ H1 { s1 with heap:=s1.heap.push { cls:=.type "range",data:=.fields #[.int lo t,.int hi t',.int 1 s1.toks] },toks:=s1.toks + 1 }:=I1.kept λ b o e=>yam _ e;refine ycx ?_;refine call_list_range (I.ok.hd hc) (IsRange.new ..) (small_one (1:) (1:) (1:) (1:)) zr1 (1:) λ h' tk acc' c' hk hS' hacc=>?_;have rv:=zks hacc;exact ⟨.ref _,_,I2.laid (t':=tk) (o:=.lst _) hk (yaj _) ⟨by rw [yaa,yah,sizeLine_eq]; omega,_,c',rv,by simpa using hS'⟩,rfl,q _ (I2.hok.fresh (yaj _))⟩
end
def znv {t:TA} {σ:St} {H:Hp} {Q:VK} (h:t σ H λ vs H1=>∃ lo hi:Int,vs=[.int lo,.int hi] /\ (-100000 <= lo /\ lo <= 100000 /\ -100000 <= hi /\ hi <= 100000) /\ ∀ l,H1 l=none -> Q (.ref l) (upd H1 l (.lst (rgI lo (hi - lo).toNat)))):zl1 t σ H Q:=h
noncomputable def zhB:Sp:=λ vs H Q _=>∃ k:Nat,vs=[nV (2 ^ k)] /\ k <= 6 /\ Q (nV (if k=0 then 2 else 5 * k)) H
def zlN {k:Nat} {ls:List Int} (hL:Ld (2 ^ k) ls) (hk:k <= 6):(rowA k ls).length=if k=0 then 2 else 5 * k:=by
 obtain ⟨sE,sL,_⟩:=zfK ls;obtain ⟨eE,eL,_⟩:=ziC ls;obtain ⟨⟨ms,h1,h2,_⟩,_⟩:=zfn sE (sL.trans hL.1);obtain ⟨⟨ms',h1',h2',_⟩,_⟩:=zfn eE (eL.trans hL.1);have a1:(rowE k (zcA ls)).length=(zgQ k).length:=by rw [h2,ybu,h1,ych]
 have a2:(rowE k (zhs ls)).length=(zgQ k).length:=by rw [h2',ybu,h1',ych]
 rw [rowA,yao,yao,yao,a1,a2,copR,yaa,yah];rcases (show k=0 \/ k=1 \/ k=2 \/ k=3 \/ k=4 \/ k=5 \/ k=6 by omega) with rfl | rfl | rfl | rfl | rfl | rfl | rfl <;> rfl
noncomputable def LdsW (H:Hp) (M:List (Addr × List Int)):Prop:=∀ q ∈ M,H q.1=some (.tup (q.2.map V.int))
noncomputable def Cp (H:Hp) (M:List (Addr × Nat)):Prop:=∀ q ∈ M,H q.1=some (.tup [.str "copy",nV q.2])
end L2
set_option maxHeartbeats 4000000
open L2 in
local macro_rules | `(tactic| walk_at "pv")=>`(tactic| exact ⟨rfl,by first | exact Or.inl rfl | exact Or.inr (.inl rfl) | exact Or.inr (.inr rfl),by decide,by decide⟩)
open L2 in
local macro_rules | `(tactic| walk_at "vis")=>`(tactic| first | exact .inl rfl | exact .inr rfl | assumption)
open L2 in
local macro_rules | `(tactic| walk_at "lk2")=>`(tactic| first | assumption | exact zai | (refine (?h:∀ o,upd _ _ o _=some (HO.lst _)) _; (case h=>assumption)))
open L2 in
local macro_rules | `(tactic| walk_at "lk")=>`(tactic| first | assumption | exact zai | exact SqL.of (by walk_at "lk2") | exact SqT.of (by walk_at "lk2") | (refine (?h:∀ o,upd _ _ o _=some (HO.lst _)) _; (case h=>assumption)))
open L2 in
local macro_rules | `(tactic| walk_at "side")=>`(tactic| first | omega | decide | exact ⟨by omega,by omega⟩ | exact ⟨by omega,by omega,by omega⟩ | exact .inl ⟨by omega,by omega⟩ | exact .inr ⟨by omega,by omega⟩)
open L2 in
local macro_rules | `(tactic| walk_at "sz")=>`(tactic| (refine small5 ?_; first | omega | (simp only [yaa,yao,ybB,ycV,yah,yaZ,Bm.bitsB]; omega)))
open L2 in
local macro_rules | `(tactic| walk_at "st")=>`(tactic| first
  | (with_reducible first | refine ztr ?_ | refine s_nx ?_ | refine s_rt ?_ | refine ztK ?_ | refine zqL ?_)
  | ((with_reducible refine ztx (v:=?v) ?e ?_); (case e=>exact rfl))
  | (with_reducible first | refine s_c ?_ | refine s_op ?_ | refine zrC ?_ | refine ztC ?_ | refine zti ?_)
  | ((with_reducible refine s_ri ?c ?_); (case c=>walk_at "side"))
  | (with_reducible first | refine zrb ?_)
  | ((with_reducible refine zpW ?c ?_); (case c=>walk_at "side"))
  | (with_reducible first | refine zrw ?_ | refine zr3 ?_)
  | ((with_reducible refine zrl ?e ?_); (case e=>decide +kernel))
  | ((with_reducible refine zq6 ?e ?_); (case e=>decide +kernel))
  | ((with_reducible refine ztc (xs:=?xs) ?hq ?e ?_); (case hq=>walk_at "lk"); (case e=>decide +kernel))
  | ((with_reducible refine ztt (xs:=?xs) ?hq ?e ?_); (case hq=>walk_at "lk"); (case e=>decide +kernel))
  | (with_reducible first | refine zte ?_ | refine s_if ?_ | refine zsj ?_ | refine s_b ?_ | refine ztG ?_ | refine ztz ?_ | refine s_or ?_ | refine ztJ ?_ | refine zs5 ?_ | refine zsy ?_ | refine zry ?_ | refine s_un ?_ | refine s_ru ?_ | refine s_cb ?_ | refine zs7 ?_ | refine ztj ?_ | refine ztn ?_ | refine zsS ?_ | refine zsT ?_ | refine zqB ?_ | refine zrG ?_ | refine zta ?_ | refine zsP ?_ | refine zsB ?_ | refine zrN ?_ | refine ztw ?_ | refine zsz ?_ | refine zoV ?_ | refine s_sl ?_ | refine zpL ?_ | refine zs9 ?_ | refine zr7 ?_ | refine zts ?_ | refine ztl ?_)
  | ((with_reducible refine zse (xs:=?xs) ?hq ?_); (case hq=>walk_at "lk"))
  | ((with_reducible refine zsb (xs:=?xs) ?hq ?_); (case hq=>walk_at "lk"))
  | ((with_reducible refine zd9 (xs:=?xs) (v:=?v) ?hq ?h0 ?e ?_); (case hq=>walk_at "lk"); (case h0=>decide); (case e=>exact rfl))
  | ((with_reducible refine zdn (xs:=?xs) (v:=?v) ?hq ?h0 ?e ?_); (case hq=>walk_at "lk"); (case h0=>decide); (case e=>exact rfl))
  | ((with_reducible refine zmE (xs:=?xs) (j:=?j) ?hp ?e ?_); (case hp=>walk_at "lk"); (case e=>exact rfl); (try rw [zoP]))
  | (with_reducible first | refine ztL ?_ | refine ztF ?_ | refine ztf ?_ | refine zrM ?_ | refine zsr ?_ | refine zpB ?_ | refine zp1 ?_)
  | ((with_reducible refine zph (xs:=?xs) ?hq ?_); (case hq=>walk_at "lk"))
  | (with_reducible first | refine zrS ?_ | refine zrO ?_)
  | ((with_reducible refine zsD (xs:=?xs) ?hq ?hl ?_); (case hq=>walk_at "lk"); (case hl=>exact rfl))
  | ((with_reducible refine zrR ?e ?_); (case e=>exact rfl))
  | ((with_reducible refine zsE ?e ?f ?_); (case e=>exact rfl); (case f=>exact rfl))
  | (with_reducible first | refine ztp ?_)
  | ((with_reducible refine ztE (xs:=?xs) ?hq ?_); (case hq=>walk_at "lk"))
  | ((with_reducible refine ztk (xs:=?xs) ?hp ?hz ?_); (case hp=>walk_at "lk"); (case hz=>walk_at "sz"); (try rw [zoP]))
  | (with_reducible first | refine zrr ?_ | refine zpg ?_ | refine zpU ?_ | refine zst ?_)
  | (with_reducible first | refine zrF ?_ | refine ztd ?_ | refine ztD ?_ | refine s_bm ?_ | refine iteT ?_ | refine iteF ?_))
open L2 in
local macro_rules | `(tactic| walk_at "go")=>`(tactic| repeat (walk_at "st"))
open L2 in
local macro_rules | `(tactic| walk_at "goI")=>`(tactic| repeat ((fail_if_success (with_reducible refine zry ?_)); (fail_if_success (with_reducible refine s_if ?_)); walk_at "st"))
namespace PySem.W.Fast
def tw12348759448314603179:=0
def tw4386990792750399083:=0
def tw13833610679754555688:=0
def tw11343322287866958653:=0
def tw11526046816789033375:=0
def tw4175714893969118694:=0
def tw13296384205356331590:=0
def tw5851818349067186693:=0
def tw4317890532667148931:=0
def tw17671207095095300960:=0
def tw10314688220566649139:=0
def tw2909176109211616662:=0
def tw650419022896645153:=0
def tw5554573731852257492:=0
def tw7434006093695117050:=0
def tw5784870655892655894:=0
def tw5484432186202330899:=0
def tw18211891318842250657:=0
def tw12869328089053523037:=0
def tw9530981672224437320:=0
def tw15105483012620090896:=0
def tw12178306457501375688:=0
def tw11925522256836298063:=0
def tw4326849886262914434:=0
def tw1175389738476506777:=0
def tw1790515429159338368:=0
def tw976582384032368908:=0
def tw18132256695539090104:=0
def tw6291439267279613501:=0
def tw14327068271971613951:=0
def tw15707377768916243702:=0
def tw14521567145084191703:=0
def tw2261637484286667420:=0
def tw14738486447671796454:=0
def tw10253678965402510642:=0
def tw3384422251700796781:=0
def tw16860371817484974339:=0
def tw8545131978551107898:=0
def tw13900774940500235142:=0
def tw9024436572219446366:=0
def tw11828727216870408662:=0
def tw11727691142775906902:=0
def tw11465195622923860454:=0
def tw19629950052070118:=0
def tw953422959731533491:=0
def tw7453607799474864893:=0
def tw4723483510416240014:=0
def tw7099183114884363645:=0
def tw7958625346095276799:=0
def tw4177863954522710996:=0
def tw9390118140715455318:=0
def tw16576547793867847526:=0
def tw9748725305907847766:=0
def tw11526538660912751566:=0
def tw948262979652698667:=0
def tw10113419175359455843:=0
def tw7529358403812098583:=0
def tw10758509723202871991:=0
def tw13474761113882679350:=0
def tw12176258270175301182:=0
def tw15438657707513660994:=0
def tw895282765482321563:=0
def tw10784370697808873261:=0
def tw2938687307889022808:=0
def tw9014910792839237259:=0
def tw3482736189064452935:=0
def tw15316890709481517832:=0
def tw8440992677204200117:=0
def tw8726082540817808118:=0
def tw13203972921655369750:=0
def tw6177564153994335535:=0
def tw17075520175189135880:=0
def tw8185335353543511015:=0
def tw17143490931886600714:=0
def tw9296286097405184290:=0
def tw5657038378345558478:=0
def tw5281460137697015328:=0
def tw5440553740403359326:=0
def tw1448920936936463034:=0
def tw15062554320034153552:=0
def tw8056218925318700599:=0
def tw14213183774229145584:=0
def tw8664081293317567674:=0
def tw12312603438536674473:=0
def tw15541950349751965048:=0
def tw18196775547058600409:=0
def tw14336958479049375031:=0
def tw14021051330257350493:=0
def tw9984655003729635807:=0
def tw17463628529940084212:=0
def tw2902757055958008041:=0
def tw14016874030701510820:=0
def tw6344396410692407818:=0
def tw10643618796414138894:=0
def tw15029926350843004713:=0
def tw9348688556426923010:=0
def tw10491391379805039743:=0
def tw1320115733449844927:=0
def tw351298280094349868:=0
end PySem.W.Fast
namespace Lw
local macro_rules | `(tactic| symm)=>`(tactic| walk_at "go")
open PySem PyProof.Rows L2 Bm
noncomputable def top (i:Nat):Stmt:=PySem.Challenge.pw_bitlead_k67_whole_gathered_by_any_rows.main.body.getD i (.Pass ⟨0,0,0,0⟩)
noncomputable abbrev zc6:Stmt:=top 88
noncomputable abbrev zem:Stmt:=top 89
noncomputable abbrev zeq:Stmt:=top 90
noncomputable abbrev zlM:Stmt:=top 23
noncomputable abbrev ziR:Stmt:=top 1
noncomputable abbrev zcV:Stmt:=top 2
noncomputable abbrev zbR:Stmt:=top 63
noncomputable abbrev zb8:Stmt:=top 64
noncomputable abbrev zev:Stmt:=top 18
noncomputable abbrev zbJ:Stmt:=top 66
noncomputable abbrev zc9:Stmt:=top 67
noncomputable abbrev zex:Stmt:=top 65
noncomputable abbrev zbL:Stmt:=top 62
noncomputable abbrev zgu:Stmt:=top 22
noncomputable abbrev zc4:Stmt:=top 75
noncomputable abbrev zqQ:Stmt:=top 4
noncomputable abbrev zgp:Stmt:=top 6
noncomputable abbrev zhj:Stmt:=top 3
noncomputable abbrev zgh:Stmt:=top 50
noncomputable abbrev znJ:Stmt:=top 5
noncomputable abbrev zcc:Stmt:=top 53
noncomputable abbrev zbW:Stmt:=top 55
noncomputable abbrev zcZ:Stmt:=top 56
noncomputable abbrev zcg:Stmt:=top 54
noncomputable abbrev zg5:Stmt:=top 52
noncomputable abbrev zbU:Stmt:=top 79
noncomputable abbrev zbS:Stmt:=top 78
noncomputable abbrev zfI:Stmt:=top 77
noncomputable abbrev zcx:Stmt:=top 80
noncomputable abbrev zdu:Stmt:=top 82
noncomputable abbrev zeu:Stmt:=top 81
noncomputable abbrev zkU:Stmt:=top 83
noncomputable abbrev zbw:Stmt:=top 93
noncomputable abbrev zii:Stmt:=top 10
noncomputable abbrev zdD:Stmt:=top 11
noncomputable abbrev zcp:Stmt:=top 8
noncomputable abbrev zc2:Stmt:=top 9
noncomputable abbrev zeG:Stmt:=top 24
noncomputable abbrev zcE:Stmt:=top 29
noncomputable abbrev zg4:Stmt:=top 25
noncomputable abbrev zb0:Stmt:=top 26
noncomputable abbrev zfJ:Stmt:=top 35
noncomputable abbrev zfC:Stmt:=top 86
noncomputable abbrev zlR:Stmt:=top 85
noncomputable abbrev zci:Stmt:=top 34
noncomputable abbrev zdK:Stmt:=top 33
noncomputable abbrev zbF:Stmt:=top 32
noncomputable abbrev zi1:Stmt:=top 31
noncomputable abbrev zc1:Stmt:=top 37
noncomputable abbrev zdZ:Stmt:=top 36
noncomputable abbrev zfu:Stmt:=top 30
noncomputable abbrev zgq:Stmt:=top 41
noncomputable abbrev zcY:Stmt:=top 44
noncomputable abbrev zez:Stmt:=top 42
noncomputable abbrev zeJ:Stmt:=top 43
noncomputable abbrev zcf:Stmt:=top 46
noncomputable abbrev zdH:Stmt:=top 45
noncomputable abbrev zcI:Stmt:=top 47
noncomputable abbrev zgO:Stmt:=top 39
noncomputable abbrev zey:Stmt:=top 40
noncomputable abbrev zd4:Stmt:=top 49
noncomputable abbrev zbp:Stmt:=top 71
noncomputable abbrev zbm:Stmt:=top 72
noncomputable abbrev zcD:Stmt:=top 70
noncomputable abbrev zfz:Stmt:=top 69
noncomputable abbrev zi3:Stmt:=top 58
noncomputable abbrev zgz:Stmt:=top 59
noncomputable abbrev zgr:Stmt:=top 61
noncomputable abbrev zik:Stmt:=top 60
noncomputable abbrev znK:Stmt:=top 57
noncomputable abbrev zfh:Stmt:=top 74
noncomputable abbrev zg0:Stmt:=top 91
noncomputable abbrev za1:Stmt:=top 92
noncomputable abbrev za0:Stmt:=top 94
noncomputable abbrev zkc:Stmt:=top 95
structure Blt (K:PySem.W.Frag) (mg:Str -> Option Value):Prop where
 b_abs:mg "abs"=none
 b_all:mg "all"=none
 b_bool:mg "bool"=none
 b_enumerate:mg "enumerate"=none
 b_int:mg "int"=none
 b_isinstance:mg "isinstance"=none
 b_len:mg "len"=none
 b_list:mg "list"=none
 b_min:mg "min"=none
 b_range:mg "range"=none
 b_reversed:mg "reversed"=none
 b_sorted:mg "sorted"=none
 b_tuple:mg "tuple"=none
 b_zip:mg "zip"=none
 g_HALVED_WIDTHS:∃ a:Addr,mg "HALVED_WIDTHS"=some (.ref a) /\ ∀ H,L2.SqT K H a [.int 1,.int 2,.int 4,.int 8,.int 16,.int 32,.int 64]
 g_NOUGHT:∃ t,mg "NOUGHT"=some (.int (-1) t)
 g_ONE:∃ t,mg "ONE"=some (.int (-2) t)
section
variable (P:Program) (w:World) (K:PySem.W.Frag) (mg:Str -> Option Value) (base:Heap)
noncomputable abbrev A0:Prop:=FnAt P w K mg base "_law_hand" ["_law_script"] 1 (zqc K)
noncomputable abbrev A1:Prop:=FnAt P w K mg base "_law_draw" ["_law_hand_here","_law_many"] 1 zqr
noncomputable abbrev A2:Prop:=FnAt P w K mg base "_law_word" ["_law_hand_here","_law_width"] 2 zqp
noncomputable abbrev A3:Prop:=FnAt P w K mg base "then" ["one","other"] 1 zqo
noncomputable abbrev A4:Prop:=FnAt P w K mg base "bit_at" ["word","place"] 1 zo5
noncomputable abbrev A5:Prop:=FnAt P w K mg base "places_in" ["mask"] 2 zlL
noncomputable abbrev A6:Prop:=FnAt P w K mg base "gather_leading" ["width","mask"] 3 zmb
noncomputable abbrev A7:Prop:=FnAt P w K mg base "strew_leading" ["width","mask"] 3 zjD
noncomputable abbrev A8:Prop:=FnAt P w K mg base "is_within" ["thing","least","most"] 1 zlt
noncomputable abbrev A9:Prop:=FnAt P w K mg base "place_or_nought" ["width","place"] 2 zs3
noncomputable abbrev A10:Prop:=FnAt P w K mg base "copy_source" ["mask","by","place"] 2 zj2
noncomputable abbrev A11:Prop:=FnAt P w K mg base "source_of" ["width","deed","place"] 3 zlA
noncomputable abbrev A12:Prop:=FnAt P w K mg base "deed_leading" ["width","deed"] 4 zms
noncomputable abbrev A13:Prop:=FnAt P w K mg base "staying" ["width"] 1 zjw
noncomputable abbrev A14:Prop:=FnAt P w K mg base "row_leading" ["width","row"] 5 (zoS K)
noncomputable abbrev A15:Prop:=FnAt P w K mg base "low" ["many"] 1 zpm
noncomputable abbrev A16:Prop:=FnAt P w K mg base "bits_in" ["mask"] 3 zma
noncomputable abbrev A17:Prop:=FnAt P w K mg base "mask_of" ["places"] 1 (zlj K)
noncomputable abbrev A18:Prop:=FnAt P w K mg base "strewn" ["word","mask"] 3 zn1
noncomputable abbrev A19:Prop:=FnAt P w K mg base "full" ["width"] 2 zpm
noncomputable abbrev A20:Prop:=FnAt P w K mg base "fits_with_one" ["width","name","part"] 3 zoz
noncomputable abbrev A21:Prop:=FnAt P w K mg base "goes_within" ["width","mask","by"] 3 zqf
noncomputable abbrev A22:Prop:=FnAt P w K mg base "swaps_apart" ["width","mask","by"] 4 znL
noncomputable abbrev A23:Prop:=FnAt P w K mg base "fits_with_two" ["width","name","mask","by"] 5 zoU
noncomputable abbrev A24:Prop:=FnAt P w K mg base "is_deed" ["width","thing"] 6 zl4
noncomputable abbrev A25:Prop:=FnAt P w K mg base "swaps_together" ["width","one","other"] 7 zhL
noncomputable abbrev A26:Prop:=FnAt P w K mg base "alike_together" ["width","one","other"] 8 zou
noncomputable abbrev A27:Prop:=FnAt P w K mg base "together" ["width","one","other"] 9 zrA
noncomputable abbrev A28:Prop:=FnAt P w K mg base "does_nothing" ["width","deed"] 5 zjk
noncomputable abbrev A29:Prop:=FnAt P w K mg base "put_behind" ["width","short","deed"] 10 zgN
noncomputable abbrev A30:Prop:=FnAt P w K mg base "shortened" ["width","row"] 11 zgk
noncomputable abbrev A31:Prop:=FnAt P w K mg base "bound" ["width","rows"] 12 zo8
noncomputable abbrev A32:Prop:=FnAt P w K mg base "_law_twice_right" ["_law_width","_law_mask","_law_other"] 13 zkb
noncomputable abbrev A33:Prop:=FnAt P w K mg base "steps" ["width"] 1 zoR
noncomputable abbrev A34:Prop:=FnAt P w K mg base "upper_ends" ["mask","by"] 3 zoT
noncomputable abbrev A35:Prop:=FnAt P w K mg base "gather_row" ["width","mask"] 4 zj0
noncomputable abbrev A36:Prop:=FnAt P w K mg base "strew_row" ["width","mask"] 4 zmp
noncomputable abbrev A37:Prop:=FnAt P w K mg base "kept_by" ["leading"] 2 zqn
noncomputable abbrev A38:Prop:=FnAt P w K mg base "check_halved" ["width"] 1 zmn
noncomputable abbrev A39:Prop:=FnAt P w K mg base "is_even" ["leading"] 1 zli
noncomputable abbrev A40:Prop:=FnAt P w K mg base "turned_back" ["leading"] 2 zh1
noncomputable abbrev A41:Prop:=FnAt P w K mg base "opposite" ["place","half"] 1 zsf
noncomputable abbrev A42:Prop:=FnAt P w K mg base "way_back" ["leading","mask","place"] 2 zr0
noncomputable abbrev A43:Prop:=FnAt P w K mg base "back" ["leading","mask"] 3 zqu
noncomputable abbrev A44:Prop:=FnAt P w K mg base "through_upper" ["leading"] 4 zke
noncomputable abbrev A46:Prop:=FnAt P w K mg base "paper_of" ["leading"] 18 (zb9 7)
noncomputable abbrev A47:Prop:=FnAt P w K mg base "halves" ["leading"] 19 zmg
noncomputable abbrev A48:Prop:=FnAt P w K mg base "beside_swap" ["one","other","half"] 1 zjy
noncomputable abbrev A49:Prop:=FnAt P w K mg base "swaps_by" ["width","paper"] 8 (zbd 7)
noncomputable abbrev A50:Prop:=FnAt P w K mg base "even_row" ["leading"] 20 zjR
noncomputable abbrev A51:Prop:=FnAt P w K mg base "runs_of" ["leading"] 1 zlV
noncomputable abbrev A52:Prop:=FnAt P w K mg base "filled_up" ["entries"] 1 zml
noncomputable abbrev A53:Prop:=FnAt P w K mg base "to_starts" ["leading","runs"] 2 (ziD zcA)
noncomputable abbrev A54:Prop:=FnAt P w K mg base "to_ends" ["leading","runs"] 2 (ziD zhs)
noncomputable abbrev A55:Prop:=FnAt P w K mg base "copied_places" ["runs","by"] 2 zqs
noncomputable abbrev A56:Prop:=FnAt P w K mg base "copies_for" ["width","runs"] 3 zmq
noncomputable abbrev A57:Prop:=FnAt P w K mg base "set_bits" ["leading"] 2 zjv
noncomputable abbrev A58:Prop:=FnAt P w K mg base "any_row" ["leading"] 21 zl3
noncomputable abbrev A59:Prop:=FnAt P w K mg base "deeds_for" ["width"] 2 zhB
noncomputable abbrev A60:Prop:=FnAt P w K mg base "gathered" ["word","mask"] 3 zqm
noncomputable abbrev A61:Prop:=FnAt P w K mg base "mask_deeds" ["leading"] 3 zow
noncomputable abbrev A62:Prop:=FnAt P w K mg base "pair_deeds" ["leading"] 2 znZ
noncomputable abbrev A63:Prop:=FnAt P w K mg base "likely_deeds" ["leading"] 4 zl6
noncomputable abbrev A64:Prop:=FnAt P w K mg base "one_deed" ["leading"] 7 zqa
noncomputable abbrev A65:Prop:=FnAt P w K mg base "turned" ["width","word","by"] 3 zmf
noncomputable abbrev A66:Prop:=FnAt P w K mg base "swapped" ["word","mask","by"] 1 zki
noncomputable abbrev A67:Prop:=FnAt P w K mg base "shifted" ["word","by"] 1 zj7
noncomputable abbrev A68:Prop:=FnAt P w K mg base "copied" ["word","mask","by"] 2 zlW
noncomputable abbrev A69:Prop:=FnAt P w K mg base "done" ["width","deed","word"] 4 zql
noncomputable abbrev A70:Prop:=FnAt P w K mg base "row_done" ["width","row","word"] 5 (zkp K)
noncomputable abbrev A71:Prop:=FnAt P w K mg base "_law_is" ["_law_found","_law_due"] 1 zom
noncomputable abbrev A72:Prop:=FnAt P w K mg base "_law_rows_right" ["_law_width","_law_rows","_law_leading","_law_words","_law_told"] 12 zl8
noncomputable abbrev A73:Prop:=FnAt P w K mg base "_law_mask_right" ["_law_width","_law_mask","_law_words"] 22 zlG
end
noncomputable def At (K:PySem.W.Frag) (n:Str) (st:Stmt):Prop:=∃ (f:Addr) (od an:Option Addr) (sl:Array (Option Value)) (oc kV dc pm cd ct:Value),PySem.W.nsIn K mainGlobals n=some (some (.ref f)) /\ K.lookup f=some ⟨oc,od,.func (PySem.W.fnOf n n (zes st) (zdJ st) (zaf st) .none kV dc pm an cd ct),sl⟩ /\ PySem.W.codeIn K cd n=true /\ PySem.W.keepIn K (.ref f)=true
def At.mk {K:PySem.W.Frag} {n:Str} {st:Stmt} {f:Addr} {od an:Option Addr} {sl:Array (Option Value)} {oc kV dc pm cd ct:Value} (e1:PySem.W.nsIn K mainGlobals n=some (some (.ref f))) (e2:K.lookup f=some ⟨oc,od,.func (PySem.W.fnOf n n (zes st) (zdJ st) (zaf st) .none kV dc pm an cd ct),sl⟩) (e3:PySem.W.codeIn K cd n=true) (e4:PySem.W.keepIn K (.ref f)=true):At K n st:=⟨f,od,an,sl,oc,kV,dc,pm,cd,ct,e1,e2,e3,e4⟩
def At.at {P:Program} {w:World} {K:PySem.W.Frag} {h base:Heap} {mg:Str -> Option Value} {n:Str} {st:Stmt} {ps:List Str} {k:Nat} {sp:Sp} (X:K.In h) (G:h.Ns mainGlobals mg) (a:At K n st) (hb:∀ f fd,Fun K n n st f fd -> zkD K fd ps []) (ok:∀ f fd,Fun K n n st f fd -> FnOk P w K mg base CX0 k f fd ps sp):FnAt P w K mg base n ps k sp:=by
 obtain ⟨f,od,an,sl,oc,kV,dc,pm,cd,ct,e1,e2,e3,e4⟩:=a;have F:=zqv (st:=st) e2 e3 e4;exact ⟨f,_,ycQ X G e1,e4,hb _ _ F,ok _ _ F⟩
section
variable {P:Program} {w:World} {K:PySem.W.Frag} {mg:Str -> Option Value} {base:Heap}
def zfP:FnScope ["_law_script"] ["_law_script"] (zaf zc6):=⟨rfl,rfl,rfl,by decide +kernel,rfl,by decide +kernel,by decide +kernel⟩
def zjd {a:Addr} {fd:FuncData} (B:Blt K mg)  (F:Fun K "_law_hand" "_law_hand" zc6 a fd):FnOk P w K mg base CX0 1 a fd ["_law_script"] (zqc K):=by
 refine F.ok zfP (λ vs H Q E h=>?_) (λ cdv A outer s H vs Q E hr h=>?_)
 ·obtain ⟨b,ns,rfl,_⟩:=h;rfl
 ·have nd := zfP.nd;have hu := hr.units;obtain ⟨b, ns, rfl, hS, k⟩ := h;obtain ⟨ms, ems, lms⟩ := ztv ns;refine ⟨_, ((7:) ((11:) ((32:) ((2:) (@zaW _ _ _ _ _ _ (zaf zc6) _ ["_law_script"] ["_law_cell"] [none] _ _ _ _ rfl (@zaJ _ K _ _ _ (@zpy _ _ _ _ _ _ _ _ _ _ (@k_sl _ K (0:)) (5:) (@zqN _) (@zqA _ _ _ (17:))) (0:)) (fun _ _ _ _ => (@zam _ _ 0 _ (show List.Nodup (["_law_cell"] : List Str) by decide +kernel) rfl (16:) (14:))) (fun _ _ _ _ => (@zba _)) (fun _ _ _ _ => ((35:) (@znu _) rfl B.b_abs boot_abs ((2:) (5:) (4:) (0:)) (3:) (3:) (0:) (0:))) (25:) (0:) (0:) (18:)) ((2:) (17:) ((2:) (17:) ((2:) (17:) (4:) (0:)) (0:)) (0:)) (0:))))), ?_⟩;symm;refine .inl ⟨b, _, rfl, hS, fun p1 hp1 => ?_⟩;have s1 := zak (o := .lst (cutV (ns.map V.int) none (some 63))) hp1;generalize hH1 : upd H p1 (.lst (cutV (ns.map V.int) none (some 63))) = H1 at s1 ⊢;have n1 : H1 p1 = some (.lst (ms.map V.int)) := by rw [<- hH1, zai, ems]
  refine zbQ (SqL.of n1) ?_;refine zbN (xs:=ms.map V.int) (λ i acc H'=>H'=H1 /\ i <= 63 /\ acc=(ms.take i).map λ z=>nV z.natAbs) ⟨rfl,by omega,rfl⟩ (λ i acc H' h=>?_) (λ i acc H' h=>by rw [h.1]; exact SqL.of n1) ?_ ?_
  ·obtain ⟨_,hi,rfl⟩:=h;rw [yaa,yaZ];exact yaw (small5 (1:))
  ·rintro i x acc H' hx ⟨rfl,hi,rfl⟩;obtain ⟨z,hz,rfl⟩:=zaB hx;have hil:i < ms.length:=(yad.mp hz).1;symm;refine ⟨rfl,by omega,?_⟩;rw [yaz,hz,show ((some z).toList:List Int)=[z] from rfl,yae,ybv,List.map_nil,zqW]
  ·rintro acc H' ⟨rfl, _, rfl⟩ p2 hp2;rw [yaa, yca];symm;refine ⟨yaw (small5 (8:)), fun p3 hp3 => ?_⟩;have e2 : H' p2 = none := hp2;have ne23 : p2 ≠ p3 := zaC zai hp3;refine k p3 _ (s1.free ((zak hp2).free hp3)) ?_ (Hand.of (q := p2) (cells := ms.map Int.natAbs) (a := 0) (b := 0) (c := 0) zai ?_ (by rw [yaa]; exact lms))
   ·exact s1.trans ((zak hp2).trans (zak hp3))
   ·rw [zaA ne23,zai,yaX];rfl
def zfN:FnScope ["_law_hand_here","_law_many","_law_cell","_law_once","_law_twice","_law_found"] ["_law_hand_here","_law_many"] (zaf zem):=⟨rfl,rfl,rfl,by decide +kernel,rfl,by decide +kernel,by decide +kernel⟩
def zkq {a:Addr} {fd:FuncData} (B:Blt K mg)  (F:Fun K "_law_draw" "_law_draw" zem a fd):FnOk P w K mg base CX0 1 a fd ["_law_hand_here","_law_many"] zqr:=by
 refine F.ok zfN (λ vs H Q E h=>?_) (λ cdv A outer s H vs Q E hr h=>?_)
 ·obtain ⟨p,n,rfl,_⟩:=h;rfl
 ·have nd := zfN.nd;have hu := hr.units;obtain ⟨p, n, rfl, hH, hn0, hn1, k⟩ := h;obtain ⟨q, cells, ca, cb, cc, h1, h2, h3⟩ := hH
  have npq:q ≠ p:=by
   intro e;rw [e,h1] at h2;cases cells with
   | nil=>cases h2
   | cons c r=>cases h2
  have hq:∀ o,upd H p o q=some (.lst (cells.map nV)):=λ o=>by rw [zaA npq]; exact h2
  have fin:∀ (r a b c:Nat),r < n -> Q (nV r) (upd H p (.lst [.ref q,nV a,nV b,nV c])):=λ r a b c hr=>k r _ hr (But.updL h1) ⟨q,cells,a,b,c,zai,hq _,h3⟩;refine ⟨_,((6:) ((60:) ((12:) (31:) (41:) (17:)) (82:) (0:) (0:) (0:)) ((6:) ((22:) ((21:) (29:) (41:) (17:) (19:)) ((6:) (@zat _ _ 2 _ _ _ _ nd rfl (16:) (17:) (0:) (14:)) ((6:) ((22:) ((21:) (@zoZ _) ((35:) (58:) rfl B.b_len boot_len ((2:) (41:) (4:) (0:)) (3:) (3:) (0:) (0:)) (17:) (19:)) ((7:) (@zat _ _ 2 _ _ _ _ nd rfl (16:) ((42:) (44:) (41:) ((12:) (@zcO _) (41:) ((35:) (58:) rfl B.b_len boot_len ((2:) (41:) (4:) (0:)) (3:) (3:) (0:) (0:))) (43:)) (0:) (14:))) (23:)) ((6:) ((60:) ((12:) (31:) (41:) (17:)) (82:) (0:) (0:) (0:)) ((6:) ((22:) (@PW.pt _ _ _ (@zpw _ _ _ _ _ _ _ ((21:) (@zpI _) (15:) ((12:) (@zsp _) (17:) (17:)) (19:)) (@zlK _ _ _ _ ((21:) (@zoZ _) (41:) ((35:) (58:) rfl B.b_len boot_len ((2:) (41:) (4:) (0:)) (3:) (3:) (0:) (0:)) (19:))))) ((6:) (@zat _ _ 3 _ _ _ _ nd rfl (16:) ((12:) (@zcO _) ((12:) (68:) ((12:) (31:) ((12:) (31:) ((12:) (@zcO _) (15:) (17:)) ((12:) (68:) (17:) (41:))) (17:)) (17:)) (17:)) (0:) (14:)) ((6:) (@zat _ _ 4 _ _ _ _ nd rfl (16:) ((12:) (@zcO _) ((12:) (31:) ((12:) (68:) (20:) ((12:) (31:) ((12:) (@zcO _) (20:) (17:)) (41:))) ((12:) (68:) (17:) (41:))) (17:)) (0:) (14:)) ((7:) ((11:) ((12:) (@zcO _) ((12:) (@zd5 _) (33:) (17:)) (13:)))))) (23:)) ((7:) ((60:) (15:) (82:) (0:) (0:) (0:))))))) (23:)) ((6:) (@zat _ _ 5 _ _ _ _ nd rfl (16:) ((12:) (@zcO _) (41:) (13:)) (0:) (14:)) ((6:) ((60:) ((12:) (@zd5 _) (41:) (13:)) (82:) (0:) (0:) (0:)) ((7:) ((11:) (46:))))))),?_⟩;symm;refine zbE (λ hc=>?_) (λ hc=>?_)
  ·symm;refine zck (fun hl => ?_) (fun hl => ?_)
   ·have hl' : 0 < cells.length := by simpa using hl
    symm
    have hidx:((ca:Int) % ((cells.map nV).length:Int)).toNat=ca % cells.length:=by
     rw [yaa,<- Int.natCast_emod,yak]
    have e0:(cells.map nV)[((ca:Int) % ((cells.map nV).length:Int)).toNat]?=some (nV (cells[ca % cells.length]'(ybl _ hl'))):=by
     rw [hidx,yaf,yac (ybl _ hl')];rfl
    refine zd9 (SqL.of (hq _)) (Int.emod_nonneg _ (by rw [yaa]; omega)) e0 ?_;symm;generalize (10:Int) ^ Int.toNat 18=big;refine ite2 (λ h18=>?_) (λ h18=>?_)
    ·symm;obtain ⟨r,hr1,er⟩:=modN _ hn0;rw [er];exact fin r (ca + 1) cb (cc + 1) hr1
    ·symm;refine ite2 (fun h19 => ?_) (fun h19 => ?_)
     ·symm;obtain ⟨r,hr1,er⟩:=modN _ hn0;rw [er];exact fin r (ca + 1) cb (cc + 1) hr1
     ·symm;exact fin ((cells[ca % cells.length]'(ybl _ hl')) % n) (ca + 1) ((cells[ca % cells.length]'(ybl _ hl')) / n) (cc + 1) (ybl _ hn0)
   ·skip
    symm;generalize (10:Int) ^ Int.toNat 18=big;refine ite2 (λ h18=>?_) (λ h18=>?_)
    ·symm;obtain ⟨r,hr1,er⟩:=modN _ hn0;rw [er];exact fin r (ca + 1) cb (cc + 1) hr1
    ·symm;refine ite2 (fun h19 => ?_) (fun h19 => ?_)
     ·symm;obtain ⟨r,hr1,er⟩:=modN _ hn0;rw [er];exact fin r (ca + 1) cb (cc + 1) hr1
     ·symm;exact fin (0 % n) (ca + 1) (0 / n) (cc + 1) (ybl _ hn0)
  ·symm;exact fin (cb % n) ca (cb / n) (cc + 1) (ybl _ hn0)
def zfL:FnScope ["_law_hand_here","_law_width","_law_whole","_law_way","_law_drawn","_law_k"] ["_law_hand_here","_law_width"] (zaf zeq):=⟨rfl,rfl,rfl,by decide +kernel,rfl,by decide +kernel,by decide +kernel⟩
def zj4 {a:Addr} {fd:FuncData} (B:Blt K mg) (g__law_draw:A1 P w K mg base) (F:Fun K "_law_word" "_law_word" zeq a fd):FnOk P w K mg base CX0 2 a fd ["_law_hand_here","_law_width"] zqp:=by
 refine F.ok zfL (λ vs H Q E h=>?_) (λ cdv A outer s H vs Q E hr h=>?_)
 ·obtain ⟨p,w,rfl,_⟩:=h;rfl
 ·have nd := zfL.nd;have hu := hr.units;obtain ⟨p, w, rfl, hH, hw1, hw2, k⟩ := h;have wholeLt : 2 ^ w - 1 < 2 ^ w := Nat.sub_lt (yaS w) (3:);have wl64 : 2 ^ w <= 2 ^ 64 := yaG (3:) hw2;refine ⟨_, ((6:) (@zat _ _ 2 _ _ _ _ nd rfl (16:) ((12:) (@zbk _) ((12:) (@zca _) (17:) (13:)) (17:)) (0:) (14:)) ((6:) (@zat _ _ 3 _ _ _ _ nd rfl (16:) ((9:) g__law_draw (10:) ((2:) (5:) ((2:) (17:) (4:) (0:)) (0:)) (0:) (3:) (0:) (0:)) (0:) (14:)) ((6:) ((22:) ((21:) (@zpI _) (20:) (17:) (19:)) ((7:) ((11:) ((42:) (44:) ((32:) ((2:) (17:) ((2:) (15:) (4:) (0:)) (0:))) (20:) (43:)))) (23:)) ((6:) ((22:) ((21:) (29:) (20:) (17:) (19:)) ((7:) ((11:) ((12:) (@zca _) (17:) ((9:) g__law_draw (10:) ((2:) (5:) ((2:) (13:) (4:) (0:)) (0:)) (0:) (3:) (0:) (0:))))) (23:)) ((6:) ((22:) ((21:) (29:) (20:) (17:) (19:)) ((7:) ((11:) ((12:) (@zdj _) ((12:) (@zca _) ((12:) (@zd5 _) (15:) (17:)) ((9:) g__law_draw (10:) ((2:) (5:) ((2:) (17:) (4:) (0:)) (0:)) (0:) (3:) (0:) (0:))) (15:)))) (23:)) ((6:) (@zat _ _ 4 _ _ _ _ nd rfl (16:) (17:) (0:) (14:)) ((6:) ((38:) yaJ rfl (88:) (@zam _ _ 5 _ nd rfl (16:) (14:)) ((7:) (@zat _ _ 4 _ _ _ _ nd rfl (16:) ((12:) (@zko _) ((12:) (@zca _) (33:) (17:)) ((9:) g__law_draw (10:) ((2:) (5:) ((2:) ((12:) (@zca _) (17:) (17:)) (4:) (0:)) (0:)) (0:) (3:) (0:) (0:))) (0:) (14:))) (18:)) ((7:) ((11:) ((12:) (@zdj _) ((12:) (@zhg _) (33:) ((9:) g__law_draw (10:) ((2:) (5:) ((2:) (17:) (4:) (0:)) (0:)) (0:) (3:) (0:) (0:))) (15:))))))))))), ?_⟩;symm;rw [zo4]
  have W64:2 ^ w - 1 < 18446744073709551616:=by
   have:(2:Nat) ^ 64=18446744073709551616:=by decide
   omega
  generalize 2 ^ w - 1=W at wholeLt W64 ⊢;refine ⟨p,8,rfl,hH,by decide,by decide,λ r H1 hr1 b1 h1=>?_⟩;symm;refine zck (λ hc=>?_) (λ hc=>?_)
  ·symm;refine ⟨yaw (small5 (8:)), fun p2 hp2 => ?_⟩;have h1' := h1.same (zak (o := .lst [V.int 0, nV W]) hp2);have b1' : But p H (upd H1 p2 (.lst [V.int 0, nV W])) := b1.trans (zak hp2).but;symm;rcases (show r = 0 \/ r = 1 by omega) with rfl | rfl
   ·exact zd9 (SqL.of zai) (3:) rfl (k 0 _ (yaS w) b1' h1')
   ·exact zd9 (SqL.of zai) (3:) rfl (k W _ wholeLt b1' h1')
  ·symm;refine zbE (fun hc2 => ?_) (fun hc2 => ?_)
   ·symm;refine ⟨p,w,rfl,h1,by omega,by omega,λ r2 H2 hr2 b2 h2=>?_⟩;symm;rw [show (1:Int) * 2 ^ ((r2:Int)).toNat=((2 ^ r2:Nat):Int) by rw [yak]; simp];exact k _ H2 (ycP (3:) hr2) (b1.trans b2) h2
   ·symm;refine zbE (fun hc3 => ?_) (fun hc3 => ?_)
    ·symm;refine ⟨p,2,rfl,h1,by decide,by decide,λ r2 H2 hr2 b2 h2=>?_⟩;symm;rw [show (W:Int) / 3 * 2 ^ ((r2:Int)).toNat=((W / 3 * 2 ^ r2:Nat):Int) by rw [yak]; simp,zaQ];exact k _ H2 (ya1 Nat.and_le_right wholeLt) (b1.trans b2) h2
    ·symm;refine zmc (n := 4) rfl (3:) ?_;refine zdS (fun i σ H' => But p H H' /\ Hand H' p /\ ∃ d v, d < 2 ^ (16 * i) /\ σ = [some (.ref p), some (nV w), some (nV W), some (nV r), some (nV d), v]) ⟨b1, h1, 0, none, by decide, rfl⟩ ?_ ?_
     ·rintro i σ H' hi ⟨b2, h2, d, v, hd, rfl⟩;have hd48 : d < 281474976710656 := yag hd (yaW (yaG (3:) (show 16 * i <= 48 by omega)) (3:));symm;refine ⟨p, 65536, rfl, h2, by decide, by decide, fun r2 H3 hr2 b3 h3 => ?_⟩;symm;refine ⟨b2.trans b3, h3, (d * 2 ^ 16 ||| r2), some (nV i), ?_, ?_⟩
      ·refine Nat.or_lt_two_pow ?_ (yag hr2 ?_)
       ·rw [show 16 * (i + 1)=16 * i + 16 by omega,Nat.pow_add];exact Nat.mul_lt_mul_of_pos_right hd (3:)
       ·exact yaW (show 65536 <= 2 ^ 16 by decide) (yaG (3:) (1:))
      ·have e:Builtin.bitOr ((d:Int) * 2 ^ (Int.toNat 16)) (r2:Int)=((d * 2 ^ 16 ||| r2:Nat):Int):=by
        rw [show (d:Int) * 2 ^ (Int.toNat 16)=((d * 2 ^ 16:Nat):Int) by simp,zbA]
       show [some (V.ref p),some (nV w),some (nV W),some (nV r),some (V.int (Builtin.bitOr ((d:Int) * 2 ^ (Int.toNat 16)) (r2:Int))),some (V.int (i:Int))]=_;rw [e]
     ·rintro σ H' ⟨b2,h2,d,v,hd,rfl⟩;symm;refine ⟨p,33,rfl,h2,by decide,by decide,λ r2 H3 hr2 b3 h3=>?_⟩;symm;rw [show (d:Int) / 2 ^ ((r2:Int)).toNat=((d / 2 ^ r2:Nat):Int) by rw [yak]; simp,zaQ];exact k _ H3 (ya1 Nat.and_le_right wholeLt) (b2.trans b3) h3
def zot:FnScope ["one","other"] ["one","other"] (zaf zlM):=⟨rfl,rfl,rfl,by decide +kernel,rfl,by decide +kernel,by decide +kernel⟩
def zri {a:Addr} {fd:FuncData} (B:Blt K mg)  (F:Fun K "then" "then" zlM a fd):FnOk P w K mg base CX0 1 a fd ["one","other"] zqo:=by
 refine F.ok zot (λ vs H Q E h=>?_) (λ cdv A outer s H vs Q E hr h=>?_)
 ·obtain ⟨b,c,ls,ms,w,rfl,_⟩:=h;rfl
 ·have nd := zot.nd;have hu := hr.units;obtain ⟨b, c, ls, ms, w, rfl, hb, hc, h1, h2, hw, k⟩ := h;refine ⟨_, ((7:) ((11:) ((59:) (61:) rfl B.b_tuple boot_tuple ((2:) (@zaW _ _ _ _ _ _ (zaf zlM) _ ["one", "other"] ["entry", "one"] [none, some 0] _ _ _ _ rfl (56:) (fun _ _ _ _ => (@zam _ _ 0 _ (show List.Nodup (["entry", "one"] : List Str) by decide +kernel) rfl (16:) (14:))) (fun _ _ _ _ => (@zba _)) (fun _ _ _ _ => ((55:) ((21:) (@zkH _) (5:) (17:) (19:)) ((42:) (44:) (13:) (5:) (43:)) (5:))) (25:) (0:) (0:) (18:)) (4:) (0:)) (3:) (3:) (0:) (0:)))), ?_⟩;symm;refine zjT (SqT.of hc) ?_;refine zlx (xs := ms.map V.int) (fun i acc H' => H' = H /\ i <= 64 /\ acc = ((zax ls ms).take i).map V.int) ⟨rfl, by omega, rfl⟩ (fun i acc H' h => ?_) (fun i acc H' h => by rw [h.1]; exact SqT.of hc) ?_ ?_
  ·obtain ⟨_,hi,rfl⟩:=h;rw [yaa,yaZ];exact yaw (small5 (1:))
  ·rintro i x acc H' hx ⟨rfl, hi, rfl⟩;obtain ⟨e, he, rfl⟩ := zaB hx;have hil : i < ms.length := (yad.mp he).1;have q := h2.2 e (yat he);have hi2 : i < w := by rw [<- h2.1]; exact hil
   have tk:∀ v:Int,v=(if 0 <= e then ls.getD e.toNat 0 else e) -> ((zax ls ms).take i).map V.int ++ [V.int v]=((zax ls ms).take (i + 1)).map V.int:=λ v hv=>by
    rw [yaz,zax,yaf,he,yae];simp [hv]
   symm;refine zck (λ h0=>?_) (λ h0=>?_)
   ·have hl : e.toNat < ls.length := by rw [h1.1]; omega
    symm;refine zdn (SqT.of hb) h0 (by rw [yaf,yac hl]; rfl) ?_;refine ⟨rfl,by omega,(tk _ ?_)⟩;rw [if_pos h0,yab,yac hl];rfl
   ·symm;exact ⟨rfl,by omega,tk _ (by rw [if_neg h0])⟩
  ·rintro acc H' ⟨rfl,_,rfl⟩ p hp;rw [yaa,yav (by rw [zax,yaa]; omega)];symm;refine ⟨p,_,rfl,.inl ⟨SqL.of zai,λ t ht=>?_⟩⟩;exact k t _ ((zak hp).trans (zak ht)) zai
def zji:FnScope ["word","place"] ["word","place"] (zaf ziR):=⟨rfl,rfl,rfl,by decide +kernel,rfl,by decide +kernel,by decide +kernel⟩
def zoH {a:Addr} {fd:FuncData} (B:Blt K mg)  (F:Fun K "bit_at" "bit_at" ziR a fd):FnOk P w K mg base CX0 1 a fd ["word","place"] zo5:=by
 refine F.ok zji (λ vs H Q E h=>?_) (λ cdv A outer s H vs Q E hr h=>?_)
 ·obtain ⟨n,k,rfl,_⟩:=h;rfl
 ·have nd:=zji.nd;have hu:=hr.units;obtain ⟨n,k,rfl,q⟩:=h;refine ⟨_,((7:) ((11:) ((12:) (@zdj _) ((12:) (@zhg _) (5:) (13:)) (17:)))),?_⟩;symm;rw [zoY];exact q
def zfM:FnScope ["mask"] ["mask"] (zaf zcV):=⟨rfl,rfl,rfl,by decide +kernel,rfl,by decide +kernel,by decide +kernel⟩
def zjH {a:Addr} {fd:FuncData} (B:Blt K mg) (g_bit_at:A4 P w K mg base) (F:Fun K "places_in" "places_in" zcV a fd):FnOk P w K mg base CX0 2 a fd ["mask"] zlL:=by
 refine F.ok zfM (λ vs H Q E h=>?_) (λ cdv A outer s H vs Q E hr h=>?_)
 ·obtain ⟨n,rfl,_⟩:=h;rfl
 ·have nd := zfM.nd;have hu := hr.units;obtain ⟨n, rfl, hn, q⟩ := h;have hb64 : zaz n <= 64 := zgY hn;refine ⟨_, ((7:) ((11:) (@zaW _ _ _ _ _ _ (zaf zcV) _ ["mask"] ["place", "mask"] [none, some 0] _ _ _ _ rfl (@zaT _ _ _ _ _ _ rfl B.b_range ((2:) (@znC _ K _ _ _ _ _ _ _ _ ycw yb0 yb1 (@zk3 _) (5:) (0:) (0:) (0:)) (4:) (0:)) (0:)) (fun _ _ _ _ => (@zam _ _ 0 _ (show List.Nodup (["place", "mask"] : List Str) by decide +kernel) rfl (16:) (14:))) (fun _ _ _ _ => ((48:) ((21:) (29:) ((9:) g_bit_at (10:) ((2:) (13:) ((2:) (5:) (4:) (0:)) (0:)) (0:) (3:) (0:) (0:)) (17:) (19:)))) (fun _ _ _ _ => (5:)) (25:) (0:) (0:) (18:)))), ?_⟩;symm;refine zed (n := zaz n) (by rw [zg7]) (1:) ?_;refine zaV (fun i acc H' => H' = H /\ i <= 64 /\ acc = ((List.range i).filter n.testBit).map nV) ⟨rfl, by omega, rfl⟩ (fun i acc H' h => ?_) ?_ ?_
  ·obtain ⟨_,hi,rfl⟩:=h;have:=yaB n.testBit (List.range i);rw [yah] at this;rw [yaa];exact yaw (small5 (1:))
  ·rintro i acc H' hi ⟨rfl, hi64, rfl⟩;symm;refine ⟨n, i, rfl, ?_⟩;symm;refine zbE (fun h => ?_) (fun h => ?_)
   ·have hb:n.testBit i=true:=by
     cases e:n.testBit i
     ·rw [e] at h; cases h
     ·rfl
    symm;refine ⟨rfl,by omega,?_⟩;rw [yar,yap];simp [hb]
   ·have hb:n.testBit i=false:=by
     cases e:n.testBit i
     ·rfl
     ·rw [e] at h; exact absurd rfl h
    refine ⟨rfl,by omega,?_⟩;rw [yar,yap];simp [hb]
  ·rintro acc H' ⟨rfl,_,rfl⟩ p hp;exact q p _ hp (zak hp) zai
def zcQ:FnScope ["width","mask","places"] ["width","mask"] (zaf zbR):=⟨rfl,rfl,rfl,by decide +kernel,rfl,by decide +kernel,by decide +kernel⟩
def zfo {a:Addr} {fd:FuncData} (B:Blt K mg) (g_places_in:A5 P w K mg base) (F:Fun K "gather_leading" "gather_leading" zbR a fd):FnOk P w K mg base CX0 3 a fd ["width","mask"] zmb:=by
 refine F.ok zcQ (λ vs H Q E h=>?_) (λ cdv A outer s H vs Q E hr h=>?_)
 ·obtain ⟨w,m,rfl,_⟩:=h;rfl
 ·have nd:=zcQ.nd;have hu:=hr.units;obtain ⟨w,m,rfl,hm,hw,k⟩:=h;have hl:=zay hm;refine ⟨_,((6:) (@zat _ _ 2 _ _ _ _ nd rfl (16:) ((9:) g_places_in (10:) ((2:) (13:) (4:) (0:)) (0:) (3:) (0:) (0:)) (0:) (14:)) ((7:) ((11:) ((59:) (61:) rfl B.b_tuple boot_tuple ((2:) ((12:) (31:) (15:) ((12:) (68:) ((32:) ((2:) (75:) (4:) (0:))) ((12:) (@zbk _) (5:) ((35:) (58:) rfl B.b_len boot_len ((2:) (15:) (4:) (0:)) (3:) (3:) (0:) (0:))))) (4:) (0:)) (3:) (3:) (0:) (0:))))),?_⟩;symm;refine ⟨m,rfl,lt64 hm hw,λ q H1 fq s1 n1=>?_⟩;symm;refine zaP (8:) λ a H2 f2 s2 n2=>?_;have n1':=s2 _ _ n1;symm;rw [yaa];refine zjo (n:=w - (zac m).length) n2 (1:) (1:) λ r H3 f3 s3 n3=>?_;have n1'':=s3 _ _ n1';refine zdN n1'' n3 (by rw [yaa,ybU]; omega) λ c H4 f4 s4 n4=>?_;symm;refine ziG n4 λ t H5 f5 s5 n5=>?_;exact k t H5 (s1.trans (s2.trans (s3.trans (s4.trans s5)))) (by rw [n5,zmu hm])
def zdg:FnScope ["width","mask","entries","place","to"] ["width","mask"] (zaf zb8):=⟨rfl,rfl,rfl,by decide +kernel,rfl,by decide +kernel,by decide +kernel⟩
def zf2 {a:Addr} {fd:FuncData} (B:Blt K mg) (g_places_in:A5 P w K mg base) (F:Fun K "strew_leading" "strew_leading" zb8 a fd):FnOk P w K mg base CX0 3 a fd ["width","mask"] zjD:=by
 refine F.ok zdg (λ vs H Q E h=>?_) (λ cdv A outer s H vs Q E hr h=>?_)
 ·obtain ⟨w,m,rfl,_⟩:=h;rfl
 ·have nd := zdg.nd;have hu := hr.units;obtain ⟨w, m, rfl, hm, hw, k⟩ := h;have hl := zay hm;refine ⟨_, ((6:) (@zat _ _ 2 _ _ _ _ nd rfl (16:) ((12:) (68:) ((32:) ((2:) (75:) (4:) (0:))) (5:)) (0:) (14:)) ((6:) ((38:) yaJ rfl (85:) (84:) ((7:) ((60:) (20:) (@zeZ _ _ _ _ _ _ _ (15:) (33:) (@zb3 _) (18:)) (0:) (0:) (0:))) (18:)) ((7:) ((11:) ((59:) (61:) rfl B.b_tuple boot_tuple ((2:) (15:) (4:) (0:)) (3:) (3:) (0:) (0:)))))), ?_⟩;symm;refine zaP (8:) fun a H2 f2 s2 n2 => ?_;symm;refine zjo (n := w) n2 rfl (1:) fun r H3 f3 s3 n3 => ?_;have s3 := s2.trans s3;have fr := s2.free f3;symm;refine ⟨m, rfl, lt64 hm hw, fun q H4 fq s4 n4 => ?_⟩
  have n3':H4 r=some (.lst ((zcq w m 0).map V.int)):=by
   rw [zkz,List.map_replicate];exact s4 _ _ n3
  have s4:=s3.trans s4;have nqr:q ≠ r:=λ e=>by rw [e] at fq; rw [n3] at fq; cases fq
  symm;refine ⟨q,_,rfl,.inl ⟨SqL.of n4,?_⟩⟩;refine zhi (λ i σ H'=>Same H H' /\ i <= 64 /\ H' q=some (.lst ((zac m).map nV)) /\ H' r=some (.lst ((zcq w m i).map V.int)) /\ ∃ v3 v4,σ=[some (nV w),some (nV m),some (.ref r),v3,v4]) ⟨s4,by omega,n4,n3',_,_,rfl⟩ (λ i σ H' h=>SqL.of h.2.2.1) ?_ ?_
  ·rintro i u T σ H' hu hT ⟨s5,hi,nq,nr,v3,v4,rfl⟩;obtain ⟨y,hy,rfl⟩:=zaB hu;have hil:i < (zac m).length:=(yad.mp hy).1;have hyw:y < w:=zhc hm (yat hy);have s6:=zak (o:=.tup [V.int (i:Int),nV y]) hT;have nT:upd H' T (.tup [V.int (i:Int),nV y]) T=some (.tup [V.int (i:Int),nV y]):=zai;generalize upd H' T (.tup [V.int (i:Int),nV y])=H6 at s6 nT ⊢;have nq6:=s6 _ _ nq;have nr6:=s6 _ _ nr;symm;refine zrx nr6 (by rw [yaa,zna]; exact hyw) ?_;refine ⟨(s5.trans s6).upd' fr,by omega,by rw [zaA nqr]; exact nq6,?_,_,_,rfl⟩;rw [zai,<- zkK hm hy,List.map_set]
  ·rintro σ H' ⟨s5,_,nq,nr,v3,v4,rfl⟩;rw [yaa,zmB] at nr;symm;refine ziG nr λ t H7 f7 s7 n7=>?_;exact k t H7 (s5.trans s7) n7
def zfR:FnScope ["thing","least","most"] ["thing","least","most"] (zaf zev):=⟨rfl,rfl,rfl,by decide +kernel,rfl,by decide +kernel,by decide +kernel⟩
def zjV {a:Addr} {fd:FuncData} (B:Blt K mg)  (F:Fun K "is_within" "is_within" zev a fd):FnOk P w K mg base CX0 1 a fd ["thing","least","most"] zlt:=by
 refine F.ok zfR (λ vs H Q E h=>?_) (λ cdv A outer s H vs Q E hr h=>?_)
 ·obtain ⟨i,lo,hi,rfl,_⟩:=h;rfl
 ·have nd := zfR.nd;have hu := hr.units;obtain ⟨i, lo, hi, rfl, k⟩ := h;refine ⟨_, ((6:) ((22:) (@PW.pt _ _ _ (@zpw _ _ _ _ _ _ _ ((50:) ((35:) (@zno _ K (0:)) rfl B.b_isinstance boot_isinstance ((2:) (5:) ((2:) (@zgH _ _ (.ty "bool") _ _ rfl B.b_bool boot_bool rfl (3:) (3:)) (4:) (0:)) (0:)) (3:) (3:) (0:) (0:)) (18:)) (@zlK _ _ _ _ (@zdl _ _ _ _ ((50:) ((35:) (@zno _ K (0:)) rfl B.b_isinstance boot_isinstance ((2:) (5:) ((2:) (@zgH _ _ (.ty "int") _ _ rfl B.b_int boot_int rfl (3:) (3:)) (4:) (0:)) (0:)) (3:) (3:) (0:) (0:)) (18:)))))) ((7:) ((11:) (36:))) (23:)) ((7:) ((11:) (@zpx _ _ _ _ _ _ _ _ _ _ _ _ (@zsM _) (@zsM _) (13:) (5:) (15:) (by with_unfolding_all rfl))))), ?_⟩;symm;refine zck (fun h1 => ?_) (fun h1 => ?_)
  ·symm;rw [decide_eq_true h1,yb4] at k;exact k
  ·symm;rw [decide_eq_false h1,ybS] at k;exact k
def zcw:FnScope ["width","place"] ["width","place"] (zaf zbJ):=⟨rfl,rfl,rfl,by decide +kernel,rfl,by decide +kernel,by decide +kernel⟩
def zeU {a:Addr} {fd:FuncData} (B:Blt K mg) (g_is_within:A8 P w K mg base) (F:Fun K "place_or_nought" "place_or_nought" zbJ a fd):FnOk P w K mg base CX0 2 a fd ["width","place"] zs3:=by
 refine F.ok zcw (λ vs H Q E h=>?_) (λ cdv A outer s H vs Q E hr h=>?_)
 ·obtain ⟨w,z,rfl,_⟩:=h;rfl
 ·have nd := zcw.nd;have hu := hr.units;obtain ⟨w, z, rfl, q⟩ := h;refine ⟨_, ((7:) ((11:) ((55:) ((50:) ((9:) g_is_within (10:) ((2:) (13:) ((2:) (17:) ((2:) ((12:) (@zbk _) (5:) (17:)) (4:) (0:)) (0:)) (0:)) (0:) (3:) (0:) (0:)) (18:)) (13:) (75:)))), ?_⟩;symm;refine ⟨z, 0, (w : Int) - 1, rfl, ?_⟩;symm;refine ite2 (fun h => ?_) (fun h => ?_)
  ·symm;rw [yal,decide_eq_true_iff,decide_eq_true_iff] at h;rw [pon,if_pos h] at q;exact q
  ·symm;rw [yal,decide_eq_true_iff,decide_eq_true_iff] at h;rw [pon,if_neg h] at q;exact q
def zee:FnScope ["mask","by","place","source"] ["mask","by","place"] (zaf zc9):=⟨rfl,rfl,rfl,by decide +kernel,rfl,by decide +kernel,by decide +kernel⟩
def zhl {a:Addr} {fd:FuncData} (B:Blt K mg) (g_bit_at:A4 P w K mg base) (F:Fun K "copy_source" "copy_source" zc9 a fd):FnOk P w K mg base CX0 2 a fd ["mask","by","place"] zj2:=by
 refine F.ok zee (λ vs H Q E h=>?_) (λ cdv A outer s H vs Q E hr h=>?_)
 ·obtain ⟨m,n,p,rfl,_⟩:=h;rfl
 ·have nd := zee.nd;have hu := hr.units;obtain ⟨m, n, p, rfl, q⟩ := h;refine ⟨_, ((6:) (@zat _ _ 3 _ _ _ _ nd rfl (16:) ((12:) (@zbk _) (15:) (13:)) (0:) (14:)) ((7:) ((11:) ((55:) (@PW.pt _ _ _ ((78:) ((21:) (@zkH _) (20:) (17:) (19:)) (@zds _ _ _ _ ((21:) (29:) ((9:) g_bit_at (10:) ((2:) (5:) ((2:) (20:) (4:) (0:)) (0:)) (0:) (3:) (0:) (0:)) (17:) (19:))))) (20:) (15:))))), ?_⟩;symm;refine zck (fun h => ?_) (fun h => ?_)
  ·obtain ⟨y, ey⟩ : ∃ y : Nat, (p : Int) - n = (y : Int) := ⟨((p : Int) - n).toNat, by omega⟩
   rw [ey] at q ⊢;rw [ziX] at q;symm;refine ⟨m,y,rfl,?_⟩;symm;refine zbE (λ h2=>?_) (λ h2=>?_)
   ·symm
    have:m.testBit y=true:=by
     cases e:m.testBit y
     ·rw [e] at h2; cases h2
     ·rfl
    rw [if_pos this] at q;exact q
   ·symm;have:¬ m.testBit y=true:=λ e=>h2 (by rw [e]; rfl);rw [if_neg this] at q;exact q
  ·symm;rw [if_neg (by unfold inM; rw [decide_eq_false (1:)]; exact yaI)] at q;exact q
def zfX:FnScope ["width","deed","place","name"] ["width","deed","place"] (zaf zex):=⟨rfl,rfl,rfl,by decide +kernel,rfl,by decide +kernel,by decide +kernel⟩
def zjB {a:Addr} {fd:FuncData} (B:Blt K mg) (g_bit_at:A4 P w K mg base) (g_place_or_nought:A9 P w K mg base) (g_copy_source:A10 P w K mg base) (F:Fun K "source_of" "source_of" zex a fd):FnOk P w K mg base CX0 3 a fd ["width","deed","place"] zlA:=by
 refine F.ok zfX (λ vs H Q E h=>?_) (λ cdv A outer s H vs Q E hr h=>?_)
 ·obtain ⟨w,p,b,d,rfl,_⟩:=h;rfl
 ·have nd := zfX.nd;have hu := hr.units;obtain ⟨w, p, b, d, rfl, hb, hd, hf, hp, hw, q⟩ := h;refine ⟨_, ((6:) (81:) ((6:) ((22:) (37:) ((7:) ((11:) ((55:) ((21:) (29:) ((9:) g_bit_at (10:) ((2:) (24:) ((2:) (15:) (4:) (0:)) (0:)) (0:) (3:) (0:) (0:)) (17:) (19:)) (15:) (75:)))) (23:)) ((6:) ((22:) (37:) ((7:) ((11:) ((55:) ((21:) (29:) ((9:) g_bit_at (10:) ((2:) (24:) ((2:) (15:) (4:) (0:)) (0:)) (0:) (3:) (0:) (0:)) (17:) (19:)) (@zbX _ _ _ _ B.g_ONE (0:) (3:)) (15:)))) (23:)) ((6:) ((22:) (37:) ((7:) ((11:) ((9:) g_place_or_nought (10:) ((2:) (5:) ((2:) ((12:) (@zbk _) (15:) (24:)) (4:) (0:)) (0:)) (0:) (3:) (0:) (0:)))) (23:)) ((6:) ((22:) (37:) ((7:) ((11:) ((9:) g_place_or_nought (10:) ((2:) (5:) ((2:) ((12:) (31:) (15:) (24:)) (4:) (0:)) (0:)) (0:) (3:) (0:) (0:)))) (23:)) ((6:) ((22:) (37:) ((7:) ((11:) ((12:) (@zcO _) ((12:) (@zbk _) (15:) (24:)) (5:)))) (23:)) ((6:) ((22:) (@PW.pt _ _ _ ((78:) (37:) (@zds _ _ _ _ ((21:) (29:) ((9:) g_bit_at (10:) ((2:) (24:) ((2:) (15:) (4:) (0:)) (0:)) (0:) (3:) (0:) (0:)) (17:) (19:))))) ((7:) ((11:) ((12:) (31:) (15:) (24:)))) (23:)) ((7:) ((11:) ((9:) g_copy_source (10:) ((2:) (24:) ((2:) (24:) ((2:) (15:) (4:) (0:)) (0:)) (0:)) (0:) (3:) (0:) (0:))))))))))), ?_⟩;cases d with
  | and m=>
   symm;refine ⟨m,p,rfl,?_⟩;symm;refine zbE (λ h2=>?_) (λ h2=>?_)
   ·symm
    have:m.testBit p=true:=by
     cases e:m.testBit p
     ·rw [e] at h2; cases h2
     ·rfl
    simp only [Dd.src] at q;rw [if_pos this] at q;exact q
   ·symm;have:¬ m.testBit p=true:=λ e=>h2 (by rw [e]; rfl);simp only [Dd.src] at q;rw [if_neg this] at q;exact q
  | or m=>
   symm;refine ⟨m,p,rfl,?_⟩;symm;refine zbE (λ h2=>?_) (λ h2=>?_)
   ·symm
    have:m.testBit p=true:=by
     cases e:m.testBit p
     ·rw [e] at h2; cases h2
     ·rfl
    simp only [Dd.src] at q;rw [if_pos this] at q;exact q
   ·symm;have:¬ m.testBit p=true:=λ e=>h2 (by rw [e]; rfl);simp only [Dd.src] at q;rw [if_neg this] at q;exact q
  | left n=>
   symm;refine ⟨w,(p:Int) - n,rfl,?_⟩
   have e:pon w ((p:Int) - n)=(Dd.left n).src w p:=by
    simp only [Dd.src,pon];by_cases h:n <= p
    ·rw [if_pos h,if_pos ⟨by omega,by omega⟩]
    ·rw [if_neg h,if_neg (1:)]
   rw [e];exact q
  | right n=>
   symm;refine ⟨w,(p:Int) + n,rfl,?_⟩
   have e:pon w ((p:Int) + n)=(Dd.right n).src w p:=by
    simp only [Dd.src,pon];by_cases h:p + n < w
    ·rw [if_pos h,if_pos ⟨by omega,by omega⟩]
    ·rw [if_neg h,if_neg (1:)]
   rw [e];exact q
  | turn n=>
   have hn:n < w:=hd;symm
   have e:((p:Int) - n) % (w:Int)=(Dd.turn n).src w p:=by
    simp only [Dd.src];by_cases h:n <= p
    ·rw [if_pos h];exact Int.emod_eq_of_lt (1:) (1:)
    ·rw [if_neg h,<- Int.add_emod_right];exact Int.emod_eq_of_lt (1:) (1:)
   rw [e];exact q
  | gather m=>cases hf
  | strew m=>cases hf
  | swap m n=>
   have e0:(Dd.swap m n).src w p=(if inM m ((p:Int) - n) then (p:Int) - n else if m.testBit p then (p:Int) + n else p):=rfl;rw [e0] at q;symm;refine ⟨m,p,rfl,?_⟩;symm;refine zbE (λ h2=>?_) (λ h2=>?_)
   ·symm
    have h3:m.testBit p=true:=by
     cases e:m.testBit p
     ·rw [e] at h2; cases h2
     ·rfl
    have h4:¬ inM m ((p:Int) - n)=true:=λ z=>by
     simp only [inM,yal,decide_eq_true_iff] at z;have:=(hd.2.2 _ z.2).2;rw [show ((p:Int) - n).toNat + n=p by omega,h3] at this;cases this
    rw [if_neg h4,if_pos h3] at q;exact q
   ·symm;have h3:¬ m.testBit p=true:=λ e=>h2 (by rw [e]; rfl);rw [if_neg h3] at q;exact ⟨m,n,p,rfl,q⟩
  | copy m n=>
   symm;exact ⟨m,n,p,rfl,q⟩
def zdM:FnScope ["width","deed"] ["width","deed"] (zaf zbL):=⟨rfl,rfl,rfl,by decide +kernel,rfl,by decide +kernel,by decide +kernel⟩
def zhd {a:Addr} {fd:FuncData} (B:Blt K mg) (g_gather_leading:A6 P w K mg base) (g_strew_leading:A7 P w K mg base) (g_source_of:A11 P w K mg base) (F:Fun K "deed_leading" "deed_leading" zbL a fd):FnOk P w K mg base CX0 4 a fd ["width","deed"] zms:=by
 refine F.ok zdM (λ vs H Q E h=>?_) (λ cdv A outer s H vs Q E hr h=>?_)
 ·obtain ⟨w,b,d,rfl,_⟩:=h;rfl
 ·have nd := zdM.nd;have hu := hr.units;obtain ⟨w, b, d, rfl, hb, hd, hw, k⟩ := h
  have tk:∀ i,i < w -> ((d.led w).take i).map V.int ++ [V.int (d.src w i)]=((d.led w).take (i + 1)).map V.int:=λ i hi=>by
   rw [yaz,Dd.led,yaf,yay hi,yae];rfl
  refine ⟨_,((6:) ((22:) ((21:) (29:) (24:) (@zaS _ _ _ _) (19:)) ((7:) ((11:) ((9:) g_gather_leading (10:) ((2:) (5:) ((2:) (24:) (4:) (0:)) (0:)) (0:) (3:) (0:) (0:)))) (23:)) ((6:) ((22:) ((21:) (29:) (24:) (@zaS _ _ _ _) (19:)) ((7:) ((11:) ((9:) g_strew_leading (10:) ((2:) (5:) ((2:) (24:) (4:) (0:)) (0:)) (0:) (3:) (0:) (0:)))) (23:)) ((7:) ((11:) ((59:) (61:) rfl B.b_tuple boot_tuple ((2:) (@zaW _ _ _ _ _ _ (zaf zbL) _ ["width","deed"] ["place","width","deed"] [none,some 0,some 1] _ _ _ _ rfl (@zaT _ _ _ _ _ _ rfl B.b_range ((2:) (5:) (4:) (0:)) (0:)) (λ _ _ _ _=>(@zam _ _ 0 _ (show List.Nodup (["place","width","deed"]:List Str) by decide +kernel) rfl (16:) (14:))) (λ _ _ _ _=>(@zba _)) (λ _ _ _ _=>((9:) g_source_of (10:) ((2:) (13:) ((2:) (15:) ((2:) (5:) (4:) (0:)) (0:)) (0:)) (0:) (3:) (0:) (0:))) (25:) (0:) (0:) (18:)) (4:) (0:)) (3:) (3:) (0:) (0:)))))),?_⟩;cases hf:d.flat with
  | false=>
   cases d with
   | gather m=>symm; exact ⟨w,m,rfl,hd,hw,k⟩
   | strew m=>symm; exact ⟨w,m,rfl,hd,hw,k⟩
   | _=>cases hf
  | true=>
   have nm:∃ s xs,d.vals=.str s :: xs /\ (shpd (.str s)=true) /\ (s == "gather")=false /\ (s == "strew")=false:=by
    cases d with
    | gather m=>cases hf
    | strew m=>cases hf
    | _=>exact ⟨_,_,rfl,by decide +kernel,by decide +kernel,by decide +kernel⟩
   obtain ⟨sn,xs,ev,hs0,hs1,hs2⟩:=nm;have hb':=hb;rw [ev] at hb';symm;refine zhY hs0 (25:) ?_;rw [hs1];symm;refine zhY hs0 (25:) ?_;rw [hs2];symm;refine zed (n:=w) rfl (1:) ?_;refine zaV (λ i acc H'=>H'=H /\ i <= 64 /\ acc=(((d.led w).take i).map V.int)) ⟨rfl,by omega,rfl⟩ (λ i acc H' h=>?_) ?_ ?_
   ·obtain ⟨_,hi,rfl⟩:=h;rw [yaa,yaZ];exact yaw (small5 (1:))
   ·rintro i acc H' hi ⟨rfl,hi2,rfl⟩;symm;refine ⟨w,i,b,d,rfl,hb,hd,hf,hi,hw,?_⟩;exact ⟨rfl,by omega,tk i hi⟩
   ·rintro acc H' ⟨rfl,_,rfl⟩ q hq;rw [yav (by simp [Dd.led])];symm;refine ziG zai λ t H5 f5 s5 n5=>?_;exact k t H5 ((zak hq).trans s5) n5
def zic:FnScope ["width"] ["width"] (zaf zgu):=⟨rfl,rfl,rfl,by decide +kernel,rfl,by decide +kernel,by decide +kernel⟩
def zmR {a:Addr} {fd:FuncData} (B:Blt K mg)  (F:Fun K "staying" "staying" zgu a fd):FnOk P w K mg base CX0 1 a fd ["width"] zjw:=by
 refine F.ok zic (λ vs H Q E h=>?_) (λ cdv A outer s H vs Q E hr h=>?_)
 ·obtain ⟨w,rfl,_⟩:=h;rfl
 ·have nd:=zic.nd;have hu:=hr.units;obtain ⟨w,rfl,hw,k⟩:=h;refine ⟨_,((7:) ((11:) (@zfw _ K _ _ _ _ _ _ rfl B.b_tuple B.b_range ((2:) (5:) (4:) (0:)) (0:) (0:) (0:) (0:) (0:)))),?_⟩;symm;refine ⟨w,rfl,by omega,λ l hl=>?_⟩;rw [zlP];exact k l _ (zak hl) zai
def zei:FnScope ["width","row","leading","deed"] ["width","row"] (zaf zc4):=⟨rfl,rfl,rfl,by decide +kernel,rfl,by decide +kernel,by decide +kernel⟩
def zhu {a:Addr} {fd:FuncData} (B:Blt K mg) (g_staying:A13 P w K mg base) (g_then:A3 P w K mg base) (g_deed_leading:A12 P w K mg base) (F:Fun K "row_leading" "row_leading" zc4 a fd):FnOk P w K mg base CX0 5 a fd ["width","row"] (zoS K):=by
 refine F.ok zei (λ vs H Q E h=>?_) (λ cdv A outer s H vs Q E hr h=>?_)
 ·obtain ⟨w,b,L,rfl,_⟩:=h;rfl
 ·have nd := zei.nd;have hu := hr.units;obtain ⟨w, b, L, rfl, hb, hR, hw, k⟩ := h;refine ⟨_, ((6:) (@zat _ _ 2 _ _ _ _ nd rfl (16:) ((9:) g_staying (10:) ((2:) (5:) (4:) (0:)) (0:) (3:) (0:) (0:)) (0:) (14:)) ((6:) ((38:) yaJ rfl (56:) (64:) ((7:) (@zat _ _ 2 _ _ _ _ nd rfl (16:) ((9:) g_then (10:) ((2:) (15:) ((2:) ((9:) g_deed_leading (10:) ((2:) (5:) ((2:) (20:) (4:) (0:)) (0:)) (0:) (3:) (0:) (0:)) (4:) (0:)) (0:)) (0:) (3:) (0:) (0:)) (0:) (14:))) (18:)) ((7:) ((11:) (15:))))), ?_⟩;symm;refine ⟨w, rfl, hw, fun t0 H0 s0 n0 => ?_⟩;symm;have hb0 : SqL K H0 b (rowV L) \/ SqT K H0 b (rowV L) := hb.elim (fun z => .inl (s0.seq z)) (fun z => .inr (s0.seqT z));refine zgg (xs := rowV L) hb0 (fun j σ H' => Same H0 H' /\ ∃ t v3, H' t = some (.tup ((rowL w (dds (L.take j))).map V.int)) /\ σ = [some (nV w), some (.ref b), some (.ref t), v3]) ⟨fun _ _ e => e, t0, _, n0, rfl⟩ (fun j σ H' h => ⟨fun z => (h.1).seq z, fun z => (h.1).seqT z⟩) ?_ ?_
  ·rintro j y σ H' hy ⟨s1,t,v3,nt,rfl⟩;obtain ⟨q,hq,rfl⟩:=zaB hy;obtain ⟨h1,h2⟩:=hR q (yat hq);have hok:∀ d ∈ dds (L.take j),d.ok w:=Rw.ok (H:=H) λ q hq=>hR q (ybD hq);symm;refine ⟨w,q.1,q.2,rfl,s1 _ _ (s0 _ _ h1),h2,hw,λ t2 H2 s2 n2=>?_⟩;symm;refine ⟨t,t2,_,_,w,rfl,s2 _ _ nt,n2,ze9 hok,q.2.led_ld h2,hw,λ t3 H3 s3 n3=>?_⟩;symm;refine ⟨s1.trans (s2.trans s3),t3,some (.ref q.1),?_,rfl⟩;rw [n3,yaz,hq,show dds (L.take j ++ (some q).toList)=dds (L.take j) ++ [q.2] by simp [dds]];rw [show rowL w (dds (L.take j) ++ [q.2])=zax (rowL w (dds (L.take j))) (q.2.led w) by unfold rowL; rw [ya7]; rfl]
  ·rintro σ H' ⟨s1,t,v3,nt,rfl⟩;rw [show (rowV L).length=L.length by simp [rowV],yav (yaj _)] at nt;symm;exact k t H' (s0.trans s1) nt
def zp6:FnScope ["many"] ["many"] (zaf zqQ):=⟨rfl,rfl,rfl,by decide +kernel,rfl,by decide +kernel,by decide +kernel⟩
def zr8 {a:Addr} {fd:FuncData} (B:Blt K mg)  (F:Fun K "low" "low" zqQ a fd):FnOk P w K mg base CX0 1 a fd ["many"] zpm:=by
 refine F.ok zp6 (λ vs H Q E h=>?_) (λ cdv A outer s H vs Q E hr h=>?_)
 ·obtain ⟨n,rfl,_⟩:=h;rfl
 ·have nd:=zp6.nd;have hu:=hr.units;obtain ⟨n,rfl,hn,q⟩:=h;refine ⟨_,((7:) ((11:) ((12:) (@zbk _) ((12:) (@zca _) (17:) (5:)) (17:)))),?_⟩;symm;rw [zo4];exact q
def zhI:FnScope ["mask"] ["mask"] (zaf zgp):=⟨rfl,rfl,rfl,by decide +kernel,rfl,by decide +kernel,by decide +kernel⟩
def zmL {a:Addr} {fd:FuncData} (B:Blt K mg) (g_places_in:A5 P w K mg base) (F:Fun K "bits_in" "bits_in" zgp a fd):FnOk P w K mg base CX0 3 a fd ["mask"] zma:=by
 refine F.ok zhI (λ vs H Q E h=>?_) (λ cdv A outer s H vs Q E hr h=>?_)
 ·obtain ⟨n,rfl,_⟩:=h;rfl
 ·have nd:=zhI.nd;have hu:=hr.units;obtain ⟨n,rfl,hn,q⟩:=h;refine ⟨_,((7:) ((11:) ((35:) (58:) rfl B.b_len boot_len ((2:) ((9:) g_places_in (10:) ((2:) (5:) (4:) (0:)) (0:) (3:) (0:) (0:)) (4:) (0:)) (3:) (3:) (0:) (0:)))),?_⟩;symm;refine ⟨n,rfl,hn,λ p H' hp s1 e=>?_⟩;symm;rw [yaa];exact q H' s1
def zh0:FnScope ["places","mask","place"] ["places"] (zaf zhj):=⟨rfl,rfl,rfl,by decide +kernel,rfl,by decide +kernel,by decide +kernel⟩
def zmZ {a:Addr} {fd:FuncData} (B:Blt K mg)  (F:Fun K "mask_of" "mask_of" zhj a fd):FnOk P w K mg base CX0 1 a fd ["places"] (zlj K):=by
 refine F.ok zh0 (λ vs H Q E h=>?_) (λ cdv A outer s H vs Q E hr h=>?_)
 ·obtain ⟨b,ps,rfl,_⟩:=h;rfl
 ·have nd := zh0.nd;have hu := hr.units;obtain ⟨b, ps, rfl, hA, hp, q⟩ := h;refine ⟨_, ((6:) (@zat _ _ 1 _ _ _ _ nd rfl (16:) (17:) (0:) (14:)) ((6:) ((38:) yaJ rfl (@zaJ _ K _ _ _ (5:) (0:)) (@zam _ _ 2 _ nd rfl (16:) (14:)) ((7:) (@zat _ _ 1 _ _ _ _ nd rfl (16:) ((12:) (@zko _) (13:) ((12:) (@zca _) (17:) (15:))) (0:) (14:))) (18:)) ((7:) ((11:) (13:))))), ?_⟩;symm;refine zgg hA (fun i σ H' => H' = H /\ ∃ v, σ = [some (.ref b), some (nV (zaI (ps.take i))), v]) ⟨rfl, none, rfl⟩ (fun i σ H' h => by rw [h.1]; exact ⟨id, id⟩) ?_ ?_
  ·rintro i x σ H' hx ⟨rfl,v,rfl⟩;obtain ⟨y,hy,rfl⟩:=zaB hx;have hy64:=hp y (yat hy);symm;refine ⟨rfl,some (nV y),?_⟩;rw [yaz,hy,show ((some y).toList:List Nat)=[y] from rfl,zmT,zsa];rfl
  ·rintro σ H' ⟨rfl,v,rfl⟩;symm;rw [yaa,yca];exact q
def zjt:FnScope ["word","mask"] ["word","mask"] (zaf zgh):=⟨rfl,rfl,rfl,by decide +kernel,rfl,by decide +kernel,by decide +kernel⟩
def znR {a:Addr} {fd:FuncData} (B:Blt K mg) (g_bit_at:A4 P w K mg base) (g_places_in:A5 P w K mg base) (g_mask_of:A17 P w K mg base) (F:Fun K "strewn" "strewn" zgh a fd):FnOk P w K mg base CX0 3 a fd ["word","mask"] zn1:=by
 refine F.ok zjt (λ vs H Q E h=>?_) (λ cdv A outer s H vs Q E hr h=>?_)
 ·obtain ⟨n,m,rfl,_⟩:=h;rfl
 ·have nd := zjt.nd;have hu := hr.units;obtain ⟨n, m, rfl, hm, k⟩ := h;have hl := zay hm;refine ⟨_, ((7:) ((11:) ((9:) g_mask_of (10:) ((2:) (@zaW _ _ _ _ _ _ (zaf zgh) _ ["word", "mask"] ["place", "to", "word"] [none, none, some 0] _ _ _ _ rfl (85:) (fun _ _ _ _ => (@za8 _ K _ _ _ _ 2 rfl ((45:) (@zam _ _ 0 _ (show List.Nodup (["place", "to", "word"] : List Str) by decide +kernel) rfl (16:) (14:)) ((45:) (@zam _ _ 1 _ (show List.Nodup (["place", "to", "word"] : List Str) by decide +kernel) rfl (16:) (14:)) (@za6 _) (0:)) (0:)) (0:) (0:) (0:))) (fun _ _ _ _ => ((48:) ((21:) (29:) ((9:) g_bit_at (10:) ((2:) (15:) ((2:) (5:) (4:) (0:)) (0:)) (0:) (3:) (0:) (0:)) (17:) (19:)))) (fun _ _ _ _ => (13:)) (25:) (0:) (0:) (18:)) (4:) (0:)) (0:) (3:) (0:) (0:)))), ?_⟩;symm;refine ⟨m, rfl, hm, fun q H1 fq s1 n1 => ?_⟩;symm;refine ⟨q, _, rfl, .inl ⟨SqL.of n1, ?_⟩⟩;refine zh8 (fun i acc H' => Same H1 H' /\ i <= 64 /\ acc = (zbD n m i).map nV) ⟨fun _ _ e => e, by omega, rfl⟩ (fun i acc H' h => ?_) (fun i acc H' h => SqL.of (h.1 _ _ n1)) ?_ ?_
  ·obtain ⟨_,hi,rfl⟩:=h;have:=zn3 n m i;rw [yaa];exact yaw (small5 (1:))
  ·rintro i u T acc H' hu hT ⟨s2, hi, rfl⟩;obtain ⟨y, hy, rfl⟩ := zaB hu;have hil : i < (zac m).length := (yad.mp hy).1;have eg : (zac m).getD i 0 = y := by rw [yab, hy]; rfl
   have s3:=s2.trans (zak (o:=.tup [V.int (i:Int),nV y]) hT);have nT:upd H' T (.tup [V.int (i:Int),nV y]) T=some (.tup [V.int (i:Int),nV y]):=zai;generalize upd H' T (.tup [V.int (i:Int),nV y])=H2 at s3 nT ⊢;symm;refine ⟨n,i,rfl,?_⟩;symm;refine zbE (λ h=>?_) (λ h=>?_)
   ·have hb:n.testBit i=true:=by
     cases e:n.testBit i
     ·rw [e] at h; cases h
     ·rfl
    symm;refine ⟨s3,by omega,?_⟩;rw [zgL,if_pos hb,eg,yae];rfl
   ·have hb:n.testBit i=false:=by
     cases e:n.testBit i
     ·rfl
     ·rw [e] at h; exact absurd rfl h
    refine ⟨s3,by omega,?_⟩;rw [zgL,if_neg (by rw [hb]; exact yaI),ybb]
  ·rintro acc H' ⟨s2,_,rfl⟩ p hp;rw [yaa];symm;refine ⟨p,_,rfl,.inl (SqL.of zai),λ x hx=>zkn hm hx,?_⟩;exact k _ (s1.trans (s2.trans (zak hp)))
def zoD:FnScope ["width"] ["width"] (zaf znJ):=⟨rfl,rfl,rfl,by decide +kernel,rfl,by decide +kernel,by decide +kernel⟩
def zrq {a:Addr} {fd:FuncData} (B:Blt K mg) (g_low:A15 P w K mg base) (F:Fun K "full" "full" znJ a fd):FnOk P w K mg base CX0 2 a fd ["width"] zpm:=by
 refine F.ok zoD (λ vs H Q E h=>?_) (λ cdv A outer s H vs Q E hr h=>?_)
 ·obtain ⟨n,rfl,_⟩:=h;rfl
 ·have nd:=zoD.nd;have hu:=hr.units;obtain ⟨n,rfl,hn,q⟩:=h;refine ⟨_,((7:) ((11:) ((9:) g_low (10:) ((2:) (5:) (4:) (0:)) (0:) (3:) (0:) (0:)))),?_⟩;symm;exact ⟨n,rfl,hn,q⟩
def zdm:FnScope ["width","name","part"] ["width","name","part"] (zaf zcc):=⟨rfl,rfl,rfl,by decide +kernel,rfl,by decide +kernel,by decide +kernel⟩
def zf5 {a:Addr} {fd:FuncData} (B:Blt K mg) (g_full:A19 P w K mg base) (g_is_within:A8 P w K mg base) (F:Fun K "fits_with_one" "fits_with_one" zcc a fd):FnOk P w K mg base CX0 3 a fd ["width","name","part"] zoz:=by
 refine F.ok zdm (λ vs H Q E h=>?_) (λ cdv A outer s H vs Q E hr h=>?_)
 ·obtain ⟨w,x,s,d,rfl,_⟩:=h;rfl
 ·have nd := zdm.nd;have hu := hr.units;obtain ⟨w, x, sn, d, rfl, hv, hw1, hw2, k⟩ := h;have mk : ∀ (c : Bool), c = (decide ((0 : Int) <= (x : Int)) && decide ((x : Int) <= ((2 ^ w - 1 : Nat) : Int))) -> (c = true ↔ x < 2 ^ w) := fun c hc => by rw [hc, zcL, zkP]
  refine ⟨_,((6:) ((22:) ((21:) (@k_in _ K (0:)) (13:) ((26:) ((27:) ((27:) ((27:) ((27:) (4:)))))) rfl) ((7:) ((11:) ((9:) g_is_within (10:) ((2:) (15:) ((2:) (17:) ((2:) ((9:) g_full (10:) ((2:) (5:) (4:) (0:)) (0:) (3:) (0:) (0:)) (4:) (0:)) (0:)) (0:)) (0:) (3:) (0:) (0:)))) (23:)) ((6:) ((22:) ((21:) (@k_in _ K (0:)) (13:) ((26:) ((27:) ((27:) (4:)))) rfl) ((7:) ((11:) ((9:) g_is_within (10:) ((2:) (15:) ((2:) (17:) ((2:) (5:) (4:) (0:)) (0:)) (0:)) (0:) (3:) (0:) (0:)))) (23:)) ((7:) ((11:) ((67:) ((57:) (29:) (13:) (@zaS _ _ _ _) (19:)) (@zid _ _ _ _ _ ((9:) g_is_within (10:) ((2:) (15:) ((2:) (17:) ((2:) ((12:) (@zbk _) (5:) (17:)) (4:) (0:)) (0:)) (0:)) (0:) (3:) (0:) (0:)))))))),?_⟩;cases d with
  | and m=>
   injection hv with e1 e2; injection e1 with e1; injection e2 with e2 _; injection e2 with e2; subst e1;obtain rfl:m=x:=by omega
   symm;refine zaw (8:) λ t1 H1 f1 s1 n1=>?_;symm;refine ⟨w,rfl,hw2,?_⟩;symm;exact ⟨m,0,_,rfl,k _ H1 (mk _ rfl) s1⟩
  | or m=>
   injection hv with e1 e2; injection e1 with e1; injection e2 with e2 _; injection e2 with e2; subst e1;obtain rfl:m=x:=by omega
   symm;refine zaw (8:) λ t1 H1 f1 s1 n1=>?_;symm;refine ⟨w,rfl,hw2,?_⟩;symm;exact ⟨m,0,_,rfl,k _ H1 (mk _ rfl) s1⟩
  | gather m=>
   injection hv with e1 e2; injection e1 with e1; injection e2 with e2 _; injection e2 with e2; subst e1;obtain rfl:m=x:=by omega
   symm;refine zaw (8:) λ t1 H1 f1 s1 n1=>?_;symm;refine ⟨w,rfl,hw2,?_⟩;symm;exact ⟨m,0,_,rfl,k _ H1 (mk _ rfl) s1⟩
  | strew m=>
   injection hv with e1 e2; injection e1 with e1; injection e2 with e2 _; injection e2 with e2; subst e1;obtain rfl:m=x:=by omega
   symm;refine zaw (8:) λ t1 H1 f1 s1 n1=>?_;symm;refine ⟨w,rfl,hw2,?_⟩;symm;exact ⟨m,0,_,rfl,k _ H1 (mk _ rfl) s1⟩
  | left m=>
   injection hv with e1 e2; injection e1 with e1; injection e2 with e2 _; injection e2 with e2; subst e1;obtain rfl:m=x:=by omega
   symm;refine zaw (8:) λ t1 H1 f1 s1 n1=>?_;symm;refine zaw (8:) λ t2 H2 f2 s2 n2=>?_;symm;exact ⟨m,0,w,rfl,k _ H2 zcL (s1.trans s2)⟩
  | right m=>
   injection hv with e1 e2; injection e1 with e1; injection e2 with e2 _; injection e2 with e2; subst e1;obtain rfl:m=x:=by omega
   symm;refine zaw (8:) λ t1 H1 f1 s1 n1=>?_;symm;refine zaw (8:) λ t2 H2 f2 s2 n2=>?_;symm;exact ⟨m,0,w,rfl,k _ H2 zcL (s1.trans s2)⟩
  | turn m=>
   injection hv with e1 e2; injection e1 with e1; injection e2 with e2 _; injection e2 with e2; subst e1;obtain rfl:m=x:=by omega
   symm;refine zaw (8:) λ t1 H1 f1 s1 n1=>?_;symm;refine zaw (8:) λ t2 H2 f2 s2 n2=>?_;symm;refine ⟨m,0,(w:Int) - 1,rfl,k _ H2 ?_ (s1.trans s2)⟩;simp only [yal,decide_eq_true_iff];show _ ↔ m < w;omega
  | swap m n=>injection hv with e1 e2; injection e2 with e2 e3; cases e3
  | copy m n=>injection hv with e1 e2; injection e2 with e2 e3; cases e3
def zea:FnScope ["width","mask","by"] ["width","mask","by"] (zaf zbW):=⟨rfl,rfl,rfl,by decide +kernel,rfl,by decide +kernel,by decide +kernel⟩
def zhm {a:Addr} {fd:FuncData} (B:Blt K mg) (g_places_in:A5 P w K mg base) (g_is_within:A8 P w K mg base) (F:Fun K "goes_within" "goes_within" zbW a fd):FnOk P w K mg base CX0 3 a fd ["width","mask","by"] zqf:=by
 refine F.ok zea (λ vs H Q E h=>?_) (λ cdv A outer s H vs Q E hr h=>?_)
 ·obtain ⟨w,m,n,rfl,_⟩:=h;rfl
 ·have nd := zea.nd;have hu := hr.units;obtain ⟨w, m, n, rfl, hm, k⟩ := h;have hl := zay hm;refine ⟨_, ((7:) ((11:) ((35:) (@zrB _ K rfl (0:)) rfl B.b_all boot_all ((2:) (@zaW _ _ _ _ _ _ (zaf zbW) _ ["width", "mask", "by"] ["place", "by", "width"] [none, some 2, some 0] _ _ _ _ rfl (@zaJ _ K _ _ _ ((9:) g_places_in (10:) ((2:) (13:) (4:) (0:)) (0:) (3:) (0:) (0:)) (0:)) (fun _ _ _ _ => (@zam _ _ 0 _ (show List.Nodup (["place", "by", "width"] : List Str) by decide +kernel) rfl (16:) (14:))) (fun _ _ _ _ => (@zba _)) (fun _ _ _ _ => ((9:) g_is_within (10:) ((2:) ((12:) (31:) (5:) (13:)) ((2:) (17:) ((2:) ((12:) (@zbk _) (15:) (17:)) (4:) (0:)) (0:)) (0:)) (0:) (3:) (0:) (0:))) (25:) (0:) (0:) (18:)) (4:) (0:)) (3:) (3:) (0:) (0:)))), ?_⟩;symm;refine ⟨m, rfl, hm, fun q H1 f1 s1 n1 => ?_⟩;symm;refine zbQ (SqL.of n1) ?_;refine zbN (xs := (zac m).map nV) (fun i acc H' => H' = H1 /\ i <= 64 /\ acc = (((zac m).take i).map fun (p : Nat) => decide ((0 : Int) <= (p : Int) + n) && decide ((p : Int) + n <= (w : Int) - 1)).map V.bl) ⟨rfl, by omega, rfl⟩ (fun i acc H' h => ?_) (fun i acc H' h => by rw [h.1]; exact SqL.of n1) ?_ ?_
  ·obtain ⟨_,hi,rfl⟩:=h;rw [yaa,yaa,yaZ];exact yaw (small5 (1:))
  ·rintro i x acc H' hx ⟨rfl,hi,rfl⟩;obtain ⟨y,hy,rfl⟩:=zaB hx;have hil:i < (zac m).length:=(yad.mp hy).1;symm;refine ⟨(y:Int) + n,0,(w:Int) - 1,rfl,?_⟩;refine ⟨rfl,by show i + 1 <= 64; omega,?_⟩;rw [yaz,hy,yae,yae];rfl
  ·rintro acc H' ⟨rfl,_,rfl⟩ r hr;rw [yaa,yav (yaj _)];symm;refine ⟨r,_,rfl,SqL.of zai,?_⟩;rw [show (λ bs:List Bool=>bs.all id) ((zac m).map λ (p:Nat)=>decide ((0:Int) <= (p:Int) + n) && decide ((p:Int) + n <= (w:Int) - 1))=zfA w m n by unfold zfA; simp];exact k _ (s1.trans (zak hr))
def zec:FnScope ["width","mask","by"] ["width","mask","by"] (zaf zcZ):=⟨rfl,rfl,rfl,by decide +kernel,rfl,by decide +kernel,by decide +kernel⟩
def zhr {a:Addr} {fd:FuncData} (B:Blt K mg) (g_goes_within:A21 P w K mg base) (F:Fun K "swaps_apart" "swaps_apart" zcZ a fd):FnOk P w K mg base CX0 4 a fd ["width","mask","by"] znL:=by
 refine F.ok zec (λ vs H Q E h=>?_) (λ cdv A outer s H vs Q E hr h=>?_)
 ·obtain ⟨w,m,n,rfl,_⟩:=h;rfl
 ·have nd := zec.nd;have hu := hr.units;obtain ⟨w, m, n, rfl, hm, hn, k⟩ := h;refine ⟨_, ((7:) ((11:) ((67:) ((9:) g_goes_within (10:) ((2:) (5:) ((2:) (13:) ((2:) (15:) (4:) (0:)) (0:)) (0:)) (0:) (3:) (0:) (0:)) (@zid _ _ _ _ _ ((57:) (29:) ((12:) (@zdj _) (13:) ((12:) (@zca _) (13:) (15:))) (17:) (19:)))))), ?_⟩;symm;refine ⟨w, m, n, rfl, hm, fun H1 s1 => ?_⟩;symm;refine ite2 (fun h => ?_) (fun h => ?_)
  ·symm;rw [zi6, zaQ]
   have e:((((m &&& m * 2 ^ n:Nat)):Int) == 0)=(zfA w m n && decide ((m &&& m * 2 ^ n)=0)):=by
    rw [h,yb4];apply ycU.mpr;rw [beq_iff_eq,decide_eq_true_iff];omega
   rw [e];exact k H1 s1
  ·have e:false=(zfA w m n && decide ((m &&& m * 2 ^ n)=0)):=by
    rw [Bool.eq_false_iff.mpr h];rfl
   symm;rw [e];exact k H1 s1
def zde:FnScope ["width","name","mask","by"] ["width","name","mask","by"] (zaf zcg):=⟨rfl,rfl,rfl,by decide +kernel,rfl,by decide +kernel,by decide +kernel⟩
def zf0 {a:Addr} {fd:FuncData} (B:Blt K mg) (g_full:A19 P w K mg base) (g_is_within:A8 P w K mg base) (g_goes_within:A21 P w K mg base) (g_swaps_apart:A22 P w K mg base) (F:Fun K "fits_with_two" "fits_with_two" zcg a fd):FnOk P w K mg base CX0 5 a fd ["width","name","mask","by"] zoU:=by
 refine F.ok zde (λ vs H Q E h=>?_) (λ cdv A outer s H vs Q E hr h=>?_)
 ·obtain ⟨w,m,n,s,d,rfl,_⟩:=h;rfl
 ·have nd := zde.nd;have hu := hr.units;obtain ⟨w, m, n, sn, d, rfl, hv, hw1, hw2, k⟩ := h;refine ⟨_, ((6:) ((22:) (@zdl _ _ _ _ ((50:) ((9:) g_is_within (10:) ((2:) (15:) ((2:) (17:) ((2:) ((9:) g_full (10:) ((2:) (5:) (4:) (0:)) (0:) (3:) (0:) (0:)) (4:) (0:)) (0:)) (0:)) (0:) (3:) (0:) (0:)) (18:))) ((7:) ((11:) (36:))) (23:)) ((6:) ((22:) ((21:) (29:) (13:) (@zaS _ _ _ _) (19:)) ((7:) ((11:) ((67:) ((9:) g_is_within (10:) ((2:) (20:) ((2:) (17:) ((2:) ((12:) (@zbk _) (5:) (17:)) (4:) (0:)) (0:)) (0:)) (0:) (3:) (0:) (0:)) (@zid _ _ _ _ _ ((9:) g_swaps_apart (10:) ((2:) (5:) ((2:) (15:) ((2:) (20:) (4:) (0:)) (0:)) (0:)) (0:) (3:) (0:) (0:)))))) (23:)) ((6:) ((22:) ((21:) (29:) (13:) (@zaS _ _ _ _) (19:)) ((7:) ((11:) ((67:) ((9:) g_is_within (10:) ((2:) (20:) ((2:) ((12:) (@zbk _) (17:) (5:)) ((2:) ((12:) (@zbk _) (5:) (17:)) (4:) (0:)) (0:)) (0:)) (0:) (3:) (0:) (0:)) ((67:) ((57:) (47:) (20:) (17:) (19:)) (@zid _ _ _ _ _ ((9:) g_goes_within (10:) ((2:) (5:) ((2:) (15:) ((2:) (20:) (4:) (0:)) (0:)) (0:)) (0:) (3:) (0:) (0:))))))) (23:)) ((7:) ((11:) (36:)))))), ?_⟩;symm;refine ⟨w, rfl, hw2, ?_⟩;symm;refine ⟨m, 0, _, rfl, ?_⟩;symm;by_cases hm : m < 2 ^ w
  ·have hm64 := lt64 hm hw2;rw [show (decide ((0 : Int) <= (m : Int)) && decide ((m : Int) <= ((2 ^ w - 1 : Nat) : Int))) = true from zcL.mpr (zkP.mpr hm)];symm;cases d with
   | swap m' n'=>
    injection hv with e1 e2; injection e2 with e2 e3; injection e3 with e3 _; injection e1 with e1; injection e2 with e2; injection e3 with e3; subst e1;obtain rfl:m'=m:=by omega
    subst e3;symm;refine ⟨(n':Int),1,(w:Int) - 1,rfl,?_⟩;symm;refine ite2 (λ h=>?_) (λ h=>?_)
    ·simp only [yal, decide_eq_true_iff] at h;symm;refine ⟨w, m', n', rfl, hm64, by omega, fun H1 s1 => ?_⟩;refine k _ H1 ?_ s1;rw [yal, decide_eq_true_iff, ziv, zjN];constructor
     ·exact λ ⟨a,b⟩=>⟨by omega,by omega,λ p hp=>⟨by have:=a p hp; omega,b p hp⟩⟩
     ·exact λ ⟨_,_,c⟩=>⟨λ p hp=>by have:=(c p hp).1; omega,λ p hp=>(c p hp).2⟩
    ·simp only [yal,decide_eq_true_iff] at h;symm;refine k false H ⟨λ z=>(by cases z),λ ⟨a,b,_⟩=>absurd ⟨by omega,by omega⟩ h⟩ λ _ _ e=>e
   | copy m' n'=>
    injection hv with e1 e2; injection e2 with e2 e3; injection e3 with e3 _; injection e1 with e1; injection e2 with e2; injection e3 with e3; subst e1;obtain rfl:m'=m:=by omega
    subst e3;symm;refine ⟨n',1 - (w:Int),(w:Int) - 1,rfl,?_⟩;symm;refine ite2 (λ h=>?_) (λ h=>?_)
    ·simp only [yal, decide_eq_true_iff] at h;symm;refine zju (fun h0 => ?_) (fun h0 => ?_)
     ·symm;refine ⟨w,m',n',rfl,hm64,λ H1 s1=>?_⟩;refine k _ H1 ?_ s1;rw [ziv];exact ⟨λ a=>⟨h0,by omega,by omega,hm,a⟩,λ a=>a.2.2.2.2⟩
     ·symm;exact k false H ⟨λ z=>(by cases z),λ a=>absurd h0 a.1⟩ λ _ _ e=>e
    ·simp only [yal,decide_eq_true_iff] at h;symm;exact k false H ⟨λ z=>(by cases z),λ a=>absurd ⟨by have:=a.2.1; omega,by have:=a.2.2.1; omega⟩ h⟩ λ _ _ e=>e
   | _=>injection hv with e1 e2; injection e2 with e2 e3; cases e3
  ·rw [show (decide ((0 : Int) <= (m : Int)) && decide ((m : Int) <= ((2 ^ w - 1 : Nat) : Int))) = false from Bool.eq_false_iff.mpr (fun z => hm (zkP.mp (zcL.mp z)))];symm;refine k false H ⟨fun z => (by cases z), fun a => absurd ?_ hm⟩ fun _ _ e => e;cases d with
   | swap m' n'=>
    injection hv with e1 e2; injection e2 with e2 e3; injection e2 with e2;have:=Dd.mask_lt a;have e:m'=m:=by omega
    rw [<- e]; exact this
   | copy m' n'=>
    injection hv with e1 e2; injection e2 with e2 e3; injection e2 with e2;have:=Dd.mask_lt a;have e:m'=m:=by omega
    rw [<- e]; exact this
   | _=>injection hv with e1 e2; injection e2 with e2 e3; cases e3
def zhK:FnScope ["width","thing"] ["width","thing"] (zaf zg5):=⟨rfl,rfl,rfl,by decide +kernel,rfl,by decide +kernel,by decide +kernel⟩
def zm2 {a:Addr} {fd:FuncData} (B:Blt K mg) (g_fits_with_one:A20 P w K mg base) (g_fits_with_two:A23 P w K mg base) (F:Fun K "is_deed" "is_deed" zg5 a fd):FnOk P w K mg base CX0 6 a fd ["width","thing"] zl4:=by
 refine F.ok zhK (λ vs H Q E h=>?_) (λ cdv A outer s H vs Q E hr h=>?_)
 ·obtain ⟨w,b,d,rfl,_⟩:=h;rfl
 ·have nd := zhK.nd;have hu := hr.units;obtain ⟨w, b, d, rfl, hb, hw1, hw2, k⟩ := h;refine ⟨_, ((6:) ((22:) (@zdl _ _ _ _ ((50:) ((35:) (@zno _ K (0:)) rfl B.b_isinstance boot_isinstance ((2:) (13:) ((2:) (@zgH _ _ (.ty "tuple") _ _ rfl B.b_tuple boot_tuple rfl (3:) (3:)) (4:) (0:)) (0:)) (3:) (3:) (0:) (0:)) (18:))) ((7:) ((11:) (36:))) (23:)) ((6:) ((22:) ((21:) (29:) ((35:) (58:) rfl B.b_len boot_len ((2:) (13:) (4:) (0:)) (3:) (3:) (0:) (0:)) (17:) (19:)) ((7:) ((11:) ((9:) g_fits_with_one (10:) ((2:) (5:) ((2:) (24:) ((2:) (24:) (4:) (0:)) (0:)) (0:)) (0:) (3:) (0:) (0:)))) (23:)) ((6:) ((22:) ((21:) (29:) ((35:) (58:) rfl B.b_len boot_len ((2:) (13:) (4:) (0:)) (3:) (3:) (0:) (0:)) (17:) (19:)) ((7:) ((11:) ((9:) g_fits_with_two (10:) ((2:) (5:) ((2:) (24:) ((2:) (24:) ((2:) (24:) (4:) (0:)) (0:)) (0:)) (0:)) (0:) (3:) (0:) (0:)))) (23:)) ((7:) ((11:) (36:)))))), ?_⟩
  have two:(∃ (s:Str) (x:Nat),d.vals=[.str s,nV x]) \/ (∃ (s:Str) (m:Nat) (n:Int),d.vals=[.str s,nV m,.int n]):=by
   cases d with
   | swap m n=>exact .inr ⟨_,m,n,rfl⟩
   | copy m n=>exact .inr ⟨_,m,n,rfl⟩
   | and m=>exact .inl ⟨_,m,rfl⟩
   | or m=>exact .inl ⟨_,m,rfl⟩
   | left m=>exact .inl ⟨_,m,rfl⟩
   | right m=>exact .inl ⟨_,m,rfl⟩
   | turn m=>exact .inl ⟨_,m,rfl⟩
   | gather m=>exact .inl ⟨_,m,rfl⟩
   | strew m=>exact .inl ⟨_,m,rfl⟩
  rcases two with ⟨s,x,hv⟩ | ⟨s,m,n,hv⟩
  ·rw [hv] at hb;symm;refine zcv rfl ?_;symm;exact ⟨w,x,s,d,rfl,hv,hw1,hw2,k⟩
  ·rw [hv] at hb;symm;refine zcd rfl ?_;symm;refine zcv rfl ?_;symm;exact ⟨w,m,n,s,d,rfl,hv,hw1,hw2,k⟩
def zcP:FnScope ["width","one","other","by"] ["width","one","other"] (zaf zbU):=⟨rfl,rfl,rfl,by decide +kernel,rfl,by decide +kernel,by decide +kernel⟩
def zfD {a:Addr} {fd:FuncData} (B:Blt K mg) (g_is_deed:A24 P w K mg base) (F:Fun K "swaps_together" "swaps_together" zbU a fd):FnOk P w K mg base CX0 7 a fd ["width","one","other"] zhL:=by
 refine F.ok zcP (λ vs H Q E h=>?_) (λ cdv A outer s H vs Q E hr h=>?_)
 ·obtain ⟨w,b,c,x,n,y,m,rfl,_⟩:=h;rfl
 ·have nd := zcP.nd;have hu := hr.units;obtain ⟨w, b, c, x, n, y, m, rfl, hb, hc, hd, he, hw1, hw2, k⟩ := h;have hb : H b = some (.tup [.str "swap", nV x, nV n]) := hb;have hc : H c = some (.tup [.str "swap", nV y, nV m]) := hc;have sw := zjx (w := w) (m := x ||| y) hd.1 hd.2.1;refine ⟨_, ((6:) (81:) ((6:) ((22:) (@PW.pt _ _ _ (@zpw _ _ _ _ _ _ _ ((21:) (47:) (51:) (20:) (19:)) (@zlK _ _ _ _ (@zdl _ _ _ _ ((50:) ((9:) g_is_deed (10:) ((2:) (5:) ((2:) ((26:) ((27:) ((2:) ((12:) (@zko _) (24:) (51:)) ((2:) (20:) (4:) (0:)) (0:)))) (4:) (0:)) (0:)) (0:) (3:) (0:) (0:)) (18:)))))) ((7:) ((11:) (53:))) (23:)) ((7:) ((11:) ((26:) ((27:) ((2:) ((12:) (@zh6 _) (24:) (51:)) ((2:) (20:) (4:) (0:)) (0:)))))))), ?_⟩;symm;refine zju (fun hne => ?_) (fun heq => ?_)
  ·symm;refine k _ _ (Same.refl H) ?_;show TogV H _ (if _ then _ else _);rw [if_neg (λ z=>hne (by rw [z.1]))];rfl
  ·have hmn : m = n := by omega
   subst hmn;symm;rw [zbA];refine zaw (8:) λ t1 H1 f1 s1 n1=>?_;symm;refine ⟨w,t1,.swap (x ||| y) m,rfl,n1,hw1,hw2,λ ok H2 hok s2=>?_⟩;have hb2:=s2 _ _ (s1 _ _ hb);have hc2:=s2 _ _ (s1 _ _ hc);cases ok with
   | false=>
    symm;refine k _ _ (s1.trans s2) ?_;show TogV H2 _ (if _ then _ else _);rw [if_neg (λ z=>absurd (hok.mpr (sw.mp z.2)) (3:))];rfl
   | true=>
    symm;rw [zb6];refine zaw (8:) λ t2 H3 f3 s3 n3=>?_;refine k _ _ (s1.trans (s2.trans s3)) ?_;show TogV H3 _ (if _ then _ else _);rw [if_pos ⟨rfl,sw.mpr (hok.mp rfl)⟩];exact ⟨t2,rfl,n3⟩
def zcK:FnScope ["width","one","other","name"] ["width","one","other"] (zaf zbS):=⟨rfl,rfl,rfl,by decide +kernel,rfl,by decide +kernel,by decide +kernel⟩
def zfF {a:Addr} {fd:FuncData} (B:Blt K mg) (g_strewn:A18 P w K mg base) (g_swaps_together:A25 P w K mg base) (F:Fun K "alike_together" "alike_together" zbS a fd):FnOk P w K mg base CX0 8 a fd ["width","one","other"] zou:=by
 refine F.ok zcK (λ vs H Q E h=>?_) (λ cdv A outer s H vs Q E hr h=>?_)
 ·obtain ⟨w,b,c,d,e,rfl,_⟩:=h;rfl
 ·have nd := zcK.nd;have hu := hr.units;obtain ⟨w, b, c, d, e, rfl, hb, hc, hd, he, hw1, hw2, hn, k⟩ := h;refine ⟨_, ((6:) (81:) ((6:) ((22:) (37:) ((7:) ((11:) ((26:) ((2:) (20:) ((2:) ((12:) (@zdj _) (24:) (51:)) (4:) (0:)) (0:))))) (23:)) ((6:) ((22:) (37:) ((7:) ((11:) ((26:) ((2:) (20:) ((2:) ((12:) (@zko _) (24:) (51:)) (4:) (0:)) (0:))))) (23:)) ((6:) ((22:) ((21:) (@k_in _ K (0:)) (20:) ((26:) ((27:) ((27:) (4:)))) rfl) ((7:) ((11:) ((26:) ((2:) (20:) ((2:) ((35:) (@zjP _ rfl) rfl B.b_min boot_min ((2:) ((12:) (31:) (24:) (51:)) ((2:) (5:) (4:) (0:)) (0:)) (3:) (3:) (0:) (0:)) (4:) (0:)) (0:))))) (23:)) ((6:) ((22:) (37:) ((7:) ((11:) ((26:) ((2:) (20:) ((2:) ((12:) (@zcO _) ((12:) (31:) (24:) (51:)) (5:)) (4:) (0:)) (0:))))) (23:)) ((6:) ((22:) (37:) ((7:) ((11:) ((9:) g_swaps_together (10:) ((2:) (5:) ((2:) (13:) ((2:) (15:) (4:) (0:)) (0:)) (0:)) (0:) (3:) (0:) (0:)))) (23:)) ((6:) ((22:) (37:) ((7:) ((11:) ((26:) ((2:) (20:) ((2:) ((9:) g_strewn (10:) ((2:) (51:) ((2:) (24:) (4:) (0:)) (0:)) (0:) (3:) (0:) (0:)) (4:) (0:)) (0:))))) (23:)) ((6:) ((22:) (37:) ((7:) ((11:) ((26:) ((2:) (20:) ((2:) ((9:) g_strewn (10:) ((2:) (24:) ((2:) (51:) (4:) (0:)) (0:)) (0:) (3:) (0:) (0:)) (4:) (0:)) (0:))))) (23:)) ((7:) ((11:) (53:))))))))))), ?_⟩;cases d with
  | and x=>
   cases e <;> first | (exfalso; revert hn; simp only [Dd.nm]; decide +kernel) | skip;rename_i y;have hb:H b=some (.tup [.str "and",nV x]):=hb;have hc:H c=some (.tup [.str "and",nV y]):=hc;symm;rw [zaQ];exact zaw (8:) λ t H1 f1 s1 n1=>k _ _ s1 ⟨t,rfl,n1⟩
  | or x=>
   cases e <;> first | (exfalso; revert hn; simp only [Dd.nm]; decide +kernel) | skip;rename_i y;have hb:H b=some (.tup [.str "or",nV x]):=hb;have hc:H c=some (.tup [.str "or",nV y]):=hc;symm;rw [zbA];exact zaw (8:) λ t H1 f1 s1 n1=>k _ _ s1 ⟨t,rfl,n1⟩
  | left x=>
   cases e <;> first | (exfalso; revert hn; simp only [Dd.nm]; decide +kernel) | skip;rename_i y;have hb:H b=some (.tup [.str "left",nV x]):=hb;have hc:H c=some (.tup [.str "left",nV y]):=hc;symm;refine zaw (8:) λ t0 H0 f0 s0 n0=>?_;have hb0:=s0 _ _ hb;have hc0:=s0 _ _ hc;symm;rw [show (if (w:Int) < (x:Int) + (y:Int) then (w:Int) else (x:Int) + (y:Int))=((min (x + y) w:Nat):Int) by split <;> omega];exact zaw (8:) λ t H1 f1 s1 n1=>k _ _ (s0.trans s1) ⟨t,rfl,n1⟩
  | right x=>
   cases e <;> first | (exfalso; revert hn; simp only [Dd.nm]; decide +kernel) | skip;rename_i y;have hb:H b=some (.tup [.str "right",nV x]):=hb;have hc:H c=some (.tup [.str "right",nV y]):=hc;symm;refine zaw (8:) λ t0 H0 f0 s0 n0=>?_;have hb0:=s0 _ _ hb;have hc0:=s0 _ _ hc;symm;rw [show (if (w:Int) < (x:Int) + (y:Int) then (w:Int) else (x:Int) + (y:Int))=((min (x + y) w:Nat):Int) by split <;> omega];exact zaw (8:) λ t H1 f1 s1 n1=>k _ _ (s0.trans s1) ⟨t,rfl,n1⟩
  | turn x=>
   cases e <;> first | (exfalso; revert hn; simp only [Dd.nm]; decide +kernel) | skip;rename_i y;have hb:H b=some (.tup [.str "turn",nV x]):=hb;have hc:H c=some (.tup [.str "turn",nV y]):=hc;symm;refine zaw (8:) λ t0 H0 f0 s0 n0=>?_;have hb0:=s0 _ _ hb;have hc0:=s0 _ _ hc;symm;rw [show ((x:Int) + (y:Int)) % (w:Int)=(((x + y) % w:Nat):Int) by simp];exact zaw (8:) λ t H1 f1 s1 n1=>k _ _ (s0.trans s1) ⟨t,rfl,n1⟩
  | gather x=>
   cases e <;> first | (exfalso; revert hn; simp only [Dd.nm]; decide +kernel) | skip;rename_i y;have hb:H b=some (.tup [.str "gather",nV x]):=hb;have hc:H c=some (.tup [.str "gather",nV y]):=hc;symm;refine zaw (8:) λ t0 H0 f0 s0 n0=>?_;have hb0:=s0 _ _ hb;have hc0:=s0 _ _ hc;symm;refine ⟨y,x,rfl,lt64 hd hw2,λ H1 s1=>?_⟩;symm;exact zaw (8:) λ t H2 f2 s2 n2=>k _ _ (s0.trans (s1.trans s2)) ⟨t,rfl,n2⟩
  | strew x=>
   cases e <;> first | (exfalso; revert hn; simp only [Dd.nm]; decide +kernel) | skip;rename_i y;have hb:H b=some (.tup [.str "strew",nV x]):=hb;have hc:H c=some (.tup [.str "strew",nV y]):=hc;symm;refine zaw (8:) λ t0 H0 f0 s0 n0=>?_;have hb0:=s0 _ _ hb;have hc0:=s0 _ _ hc;symm;refine ⟨x,y,rfl,lt64 he hw2,λ H1 s1=>?_⟩;symm;exact zaw (8:) λ t H2 f2 s2 n2=>k _ _ (s0.trans (s1.trans s2)) ⟨t,rfl,n2⟩
  | swap x n=>
   cases e <;> first | (exfalso; revert hn; simp only [Dd.nm]; decide +kernel) | skip;rename_i y m;have hb':H b=some (.tup [.str "swap",nV x,nV n]):=hb;symm;refine zaw (8:) λ t0 H0 f0 s0 n0=>?_;have hb0:=s0 _ _ hb';symm;exact ⟨w,b,c,x,n,y,m,rfl,s0 _ _ hb,s0 _ _ hc,hd,he,hw1,hw2,λ r H1 s1 h1=>k r H1 (s0.trans s1) h1⟩
  | copy x n=>
   cases e <;> first | (exfalso; revert hn; simp only [Dd.nm]; decide +kernel) | skip;have hb:H b=some (.tup [.str "copy",nV x,.int n]):=hb;symm;refine zaw (8:) λ t0 H0 f0 s0 n0=>?_;symm;exact k _ _ s0 rfl
def zhf:FnScope ["width","one","other"] ["width","one","other"] (zaf zfI):=⟨rfl,rfl,rfl,by decide +kernel,rfl,by decide +kernel,by decide +kernel⟩
def zkW {a:Addr} {fd:FuncData} (B:Blt K mg) (g_low:A15 P w K mg base) (g_bits_in:A16 P w K mg base) (g_alike_together:A26 P w K mg base) (F:Fun K "together" "together" zfI a fd):FnOk P w K mg base CX0 9 a fd ["width","one","other"] zrA:=by
 refine F.ok zhf (λ vs H Q E h=>?_) (λ cdv A outer s H vs Q E hr h=>?_)
 ·obtain ⟨w,b,c,d,e,rfl,_⟩:=h;rfl
 ·have nd := zhf.nd;have hu := hr.units;obtain ⟨w, b, c, d, e, rfl, hb, hc, hd, he, hw1, hw2, k⟩ := h;have hb' := hb;have hc' := hc;rw [d.vals_nm] at hb';rw [e.vals_nm] at hc';refine ⟨_, ((6:) ((22:) ((21:) (29:) (24:) (51:) (19:)) ((7:) ((11:) ((9:) g_alike_together (10:) ((2:) (5:) ((2:) (13:) ((2:) (15:) (4:) (0:)) (0:)) (0:)) (0:) (3:) (0:) (0:)))) (23:)) ((6:) ((22:) ((21:) (47:) (24:) (51:) (19:)) ((7:) ((11:) (53:))) (23:)) ((6:) ((22:) (90:) ((7:) ((11:) ((26:) ((27:) ((2:) (24:) (4:) (0:)))))) (23:)) ((6:) ((22:) (90:) ((7:) ((11:) ((26:) ((27:) ((2:) ((9:) g_low (10:) ((2:) ((9:) g_bits_in (10:) ((2:) (24:) (4:) (0:)) (0:) (3:) (0:) (0:)) (4:) (0:)) (0:) (3:) (0:) (0:)) (4:) (0:)))))) (23:)) ((7:) ((11:) (53:))))))), ?_⟩;symm;refine zqV ?_;symm;refine zck (fun h1 => ?_) (fun h1 => ?_)
  ·symm;exact ⟨w,b,c,d,e,rfl,hb,hc,hd,he,hw1,hw2,h1,k⟩
  ·symm;refine zju (fun hne => ?_) (fun heq => ?_)
   ·symm;refine k _ _ (Same.refl H) ?_;rw [Dd.tog_num h1 (1:)];rfl
   ·have hnum : d.num = e.num := by omega
    symm;refine ze5 (25:) ?_;symm;have gs:¬ (("gather":Str)="strew"):=by decide +kernel
    have second:∀ (H':Hp) (Q':VK),True:=λ _ _=>trivial;refine zck (λ c1=>?_) (λ c1=>?_)
    ·symm;refine ze5 (25:) ?_;symm;refine zck (fun c2 => ?_) (fun c2 => ?_)
     ·obtain ⟨m,rfl⟩:=Dd.nm_gather c1;obtain ⟨m2,rfl⟩:=Dd.nm_strew c2;have em:m=m2:=hnum;subst em;symm;refine zaw (8:) λ t H1 f1 s1 n1=>k _ _ s1 ?_;show TogV H1 _ (if _ then _ else _);rw [if_pos rfl];exact ⟨t,rfl,n1⟩
     ·symm;refine ze5 (25:) ?_;symm;refine zcd (decide_eq_false (λ z=>gs (c1.symm.trans z))) ?_;symm;refine k _ _ (Same.refl H) ?_;rw [Dd.tog_else h1 (λ z=>c2 z.2) (λ z=>gs (c1.symm.trans z.1))];rfl
    ·symm;refine ze5 (25:) ?_;symm;refine zck (fun c2 => ?_) (fun c2 => ?_)
     ·symm;refine ze5 (25:) ?_;symm;refine zck (fun c3 => ?_) (fun c3 => ?_)
      ·obtain ⟨m,rfl⟩:=Dd.nm_strew c2;obtain ⟨m2,rfl⟩:=Dd.nm_gather c3;have em:m=m2:=hnum;subst em;symm;refine ⟨m,rfl,lt64 hd hw2,λ H1 s1=>?_⟩;symm;have lw:=zay hd;refine ⟨_,rfl,by omega,?_⟩;symm;refine zaw (8:) λ t H2 f2 s2 n2=>k _ _ (s1.trans s2) ?_;show TogV H2 _ (if _ then _ else _);rw [if_pos rfl];exact ⟨t,rfl,n2⟩
      ·symm;refine k _ _ (Same.refl H) ?_;rw [Dd.tog_else h1 (λ z=>c1 z.1) (λ z=>c3 z.2)];rfl
     ·symm;refine k _ _ (Same.refl H) ?_;rw [Dd.tog_else h1 (λ z=>c1 z.1) (λ z=>c2 z.1)];rfl
def zdG:FnScope ["width","deed"] ["width","deed"] (zaf zcx):=⟨rfl,rfl,rfl,by decide +kernel,rfl,by decide +kernel,by decide +kernel⟩
def zgE {a:Addr} {fd:FuncData} (B:Blt K mg) (g_staying:A13 P w K mg base) (g_deed_leading:A12 P w K mg base) (F:Fun K "does_nothing" "does_nothing" zcx a fd):FnOk P w K mg base CX0 5 a fd ["width","deed"] zjk:=by
 refine F.ok zdG (λ vs H Q E h=>?_) (λ cdv A outer s H vs Q E hr h=>?_)
 ·obtain ⟨w,b,d,rfl,_⟩:=h;rfl
 ·have nd:=zdG.nd;have hu:=hr.units;obtain ⟨w,b,d,rfl,hb,hd,hw,k⟩:=h;refine ⟨_,((7:) ((11:) ((57:) (29:) ((9:) g_deed_leading (10:) ((2:) (5:) ((2:) (13:) (4:) (0:)) (0:)) (0:) (3:) (0:) (0:)) ((9:) g_staying (10:) ((2:) (5:) (4:) (0:)) (0:) (3:) (0:) (0:)) (19:)))),?_⟩;symm;refine ⟨w,b,d,rfl,hb,hd,hw,λ t H1 s1 n1=>?_⟩;symm;refine ⟨w,rfl,hw,λ t2 H2 s2 n2=>?_⟩;symm;refine zoF (SqT.of (s2 _ _ n1)) (SqT.of n2) ?_;exact k H2 (s1.trans s2)
def zeR:FnScope ["width","short","deed","both"] ["width","short","deed"] (zaf zdu):=⟨rfl,rfl,rfl,by decide +kernel,rfl,by decide +kernel,by decide +kernel⟩
def zi0 {a:Addr} {fd:FuncData} (B:Blt K mg) (g_together:A27 P w K mg base) (g_does_nothing:A28 P w K mg base) (F:Fun K "put_behind" "put_behind" zdu a fd):FnOk P w K mg base CX0 10 a fd ["width","short","deed"] zgN:=by
 refine F.ok zeR (λ vs H Q E h=>?_) (λ cdv A outer s H vs Q E hr h=>?_)
 ·obtain ⟨w,l,c,L,d,rfl,_⟩:=h;rfl
 ·have nd := zeR.nd;have hu := hr.units;obtain ⟨w, l, c, L, d, rfl, hl, hR, hc, hd, hw1, hw2, hz, k⟩ := h;refine ⟨_, ((7:) (@ziT _ _ _ _ _ _ yaJ (@zdl _ _ _ _ ((50:) ((9:) g_does_nothing (10:) ((2:) (5:) ((2:) (15:) (4:) (0:)) (0:)) (0:) (3:) (0:) (0:)) (18:))) ((6:) (@zat _ _ 3 _ _ _ _ nd rfl (16:) ((55:) ((21:) (@zoZ _) ((35:) (58:) rfl B.b_len boot_len ((2:) (13:) (4:) (0:)) (3:) (3:) (0:) (0:)) (17:) (19:)) ((9:) g_together (10:) ((2:) (5:) ((2:) ((42:) (44:) (13:) (@zoL _ _ _ _ _ _ (@zkd _) (17:)) (43:)) ((2:) (15:) (4:) (0:)) (0:)) (0:)) (0:) (3:) (0:) (0:)) (53:)) (0:) (14:)) ((6:) ((22:) ((21:) (@zlB _) (20:) (53:) (19:)) ((6:) (@zbV _ _ _ _ (@k_bm _ K _ _ _ _ _ _ _ _ _ _ _ ya3 yby ybz (@zdF _) (13:) ((2:) (15:) (4:) (0:)) (0:) (0:) (0:) (0:) (0:) (0:)) (0:)) ((7:) (@zq1 _ _))) (23:)) ((6:) (@zbV _ _ _ _ (94:) (0:)) ((7:) (@zat _ _ 2 _ _ _ _ nd rfl (16:) (20:) (0:) (14:)))))))), ?_⟩;symm;refine ⟨fun m σ H' => ∃ (M : List (Addr × Dd)) (c' : Addr) (e : Dd) (v3 : Option V), m = M.length /\ M.length <= 20000 /\ zcl w (dds M).reverse e = zcl w (dds L).reverse d /\ Rw H' w M /\ H' l = some (.lst (rowV M)) /\ H' c' = some (.tup e.vals) /\ e.ok w /\ za9 l H H' /\ σ = [some (nV w), some (.ref l), some (.ref c'), v3], ⟨_, L, c, d, none, rfl, hz, rfl, hR, hl, hc, hd, za9.refl _ _, rfl⟩, ?_⟩;rintro m σ H1 ⟨M, c', e, v3, rfl, hM, he, hR1, n1, nc, heo, k1, rfl⟩;have zl : (rowV M).length = M.length := by rw [rowV, yaa]
  symm;refine ⟨w,c',e,rfl,nc,heo,hw2,λ H2 s2=>?_⟩;have n2:=s2 _ _ n1;have nc2:=s2 _ _ nc;have hR2:=hR1.same s2;have k2:=k1.trans (s2.keepBut (l:=l));refine ⟨zcS w e,rfl,?_⟩;cases hi:zcS w e with
  | true=>
   rw [zbz hi] at he;exact k M H2 he hR2 n2 k2
  | false=>
   refine zcv rfl ?_;refine ⟨λ σ' H'=>∃ m',m' < M.length /\ ∃ (M:List (Addr × Dd)) (c':Addr) (e:Dd) (v3:Option V),m'=M.length /\ M.length <= 20000 /\ zcl w (dds M).reverse e=zcl w (dds L).reverse d /\ Rw H' w M /\ H' l=some (.lst (rowV M)) /\ H' c'=some (.tup e.vals) /\ e.ok w /\ za9 l H H' /\ σ'=[some (nV w),some (.ref l),some (.ref c'),v3],λ _ _ h=>h,?_⟩
   walk_at "goI"
   refine ztg (λ v H3=>Same H2 H3 /\ ((v=.non /\ ∀ q,M[M.length - 1]?=some q -> q.2.tog w e=none) \/ ∃ q f t3,M[M.length - 1]?=some q /\ q.2.tog w e=some f /\ v=.ref t3 /\ H3 t3=some (.tup f.vals))) (λ Q' hQ'=>?_) ?_
   ·symm;rw [zl];refine zck (fun hc2 => ?_) (fun hc2 => ?_)
    ·obtain ⟨q, hq⟩ : ∃ q, M[M.length - 1]? = some q := ⟨_, yac (1:)⟩
     obtain ⟨g3,g4⟩:=hR2 q (yat hq);symm;refine zoo (xs:=rowV M) (v:=.ref q.1) (SqL.of n2) (by rw [rowV,yaa,yaf,hq]; rfl) ?_;symm;refine ⟨w,q.1,c',q.2,e,rfl,g3,nc2,g4,heo,hw1,hw2,λ v H3 s3 hv=>hQ' _ _ ⟨s3,?_⟩⟩;cases ev:q.2.tog w e with
     | none=>
      rw [ev] at hv;exact .inl ⟨hv,λ q' hq'=>by rw [hq] at hq'; cases hq'; exact ev⟩
     | some f=>
      rw [ev] at hv;obtain ⟨t3,rfl,n3⟩:=hv;exact .inr ⟨q,f,t3,hq,ev,rfl,n3⟩
    ·symm;exact hQ' _ _ ⟨Same.refl _,.inl ⟨rfl,λ q hq=>by have:=(yad.mp hq).1; omega⟩⟩
   rintro v H3 ⟨s3,hv⟩;have n3:=s3 _ _ n2;have nc3:=s3 _ _ nc2;have hR3:=hR2.same s3;have k3:=k2.trans (s3.keepBut (l:=l));rcases hv with ⟨rfl,hno⟩ | ⟨q,f,t3,hq,hf,rfl,nt⟩
   ·symm;refine zcv (8:) ?_;symm;have hR4 : Rw H3 w (M ++ [(c', e)]) := hR3.app fun q hq => by rw [yax.mp hq]; exact ⟨nc3, heo⟩
    refine k (M ++ [(c',e)]) _ ?_ (hR4.updL n3) (by rw [zai,rowV,rowV,yae]; rfl) (k3.trans (za9.upd _ _ _));rw [<- he];show (dds (M ++ [(c',e)])).reverse=_;rw [dds,yae,ybE];show e :: (dds M).reverse=_;cases er:(dds M).reverse with
    | nil=>rw [zeQ hi]
    | cons x r=>
     have hx:(dds M)[M.length - 1]?=some x:=by
      have h0:(dds M).reverse[0]?=some x:=by rw [er]; rfl
      rw [List.getElem?_reverse (by have:=congrArg List.length er; simp at this; omega)] at h0;rw [show (dds M).length - 1 - 0=M.length - 1 by rw [dds,yaa]; rfl] at h0;exact h0
     rw [dds,yaf] at hx;obtain ⟨q,hq,rfl⟩:=Option.map_eq_some_iff.mp hx;rw [zdz hi (hno q hq)]
   ·symm;refine zcd (8:) ?_;symm;have ez : 0 < M.length := by have := (yad.mp hq).1; omega
    refine ⟨l,rowV M,.ref q.1,rfl,rfl,n3,by rw [rowV,yaa,yaf,hq]; rfl,?_⟩;symm
    have eM:M=M.take (M.length - 1) ++ [q]:=by
     have e1:=yaz (l:=M) (i:=M.length - 1);rw [hq,yav (1:)] at e1;exact e1
    have eR:(dds M).reverse=q.2 :: (dds (M.take (M.length - 1))).reverse:=by
     conv=>lhs; rw [eM,dds,yae,ybE]
     rfl
    rw [eR,zdv hi hf] at he;obtain ⟨g3,g4⟩:=hR3 q (yat hq);have zt:(M.take (M.length - 1)).length=M.length - 1:=by rw [yaZ]; omega
    refine ⟨_,?_,M.take (M.length - 1),t3,f,some (.ref t3),rfl,by omega,he,(hR3.take _).updL n3,by rw [zai,List.dropLast_eq_take,zl,rowV,rowV,List.map_take],?_,(Dd.tog_led g4 heo hf).1,k3.trans (za9.upd _ _ _),rfl⟩
    ·rw [zt]; omega
    ·rw [zaA (λ z=>by rw [z,n3] at nt; cases nt)]; exact nt
def zfW:FnScope ["width","row","short","deed"] ["width","row"] (zaf zeu):=⟨rfl,rfl,rfl,by decide +kernel,rfl,by decide +kernel,by decide +kernel⟩
def zjS {a:Addr} {fd:FuncData} (B:Blt K mg) (g_put_behind:A29 P w K mg base) (F:Fun K "shortened" "shortened" zeu a fd):FnOk P w K mg base CX0 11 a fd ["width","row"] zgk:=by
 refine F.ok zfW (λ vs H Q E h=>?_) (λ cdv A outer s H vs Q E hr h=>?_)
 ·obtain ⟨w,b,L,rfl,_⟩:=h;rfl
 ·have nd := zfW.nd;have hu := hr.units;obtain ⟨w, b, L, rfl, hb, hR, hw1, hw2, hL, k⟩ := h;refine ⟨_, ((6:) (70:) ((6:) ((38:) yaJ rfl (56:) (64:) ((7:) (@zbV _ _ _ _ ((9:) g_put_behind (10:) ((2:) (5:) ((2:) (15:) ((2:) (20:) (4:) (0:)) (0:)) (0:)) (0:) (3:) (0:) (0:)) (0:))) (18:)) ((7:) ((11:) (15:))))), ?_⟩;symm;refine zaP (8:) fun l H1 f1 s1 n1 => ?_;have hb1 := hb.same s1;have hR1 := hR.same s1
  have nlb:b ≠ l:=by
   obtain ⟨o,ho⟩:=hb.obj;exact zaC ho f1
  symm;refine zgg (xs:=rowV L) hb1.sqA (λ i σ H'=>Same H H' /\ za9 l H1 H' /\ i <= 10000 /\ ∃ M v3,(dds M).reverse=zaH w (dds (L.take i)) /\ M.length <= i /\ Rw H' w M /\ H' l=some (.lst (rowV M)) /\ σ=[some (nV w),some (.ref b),some (.ref l),v3]) ⟨s1,za9.refl _ _,by omega,[],none,rfl,yaj _,λ _ z=>(nomatch z),n1,rfl⟩ (λ i σ H' h=>?_) ?_ ?_
  ·obtain ⟨_,hk,_⟩:=h;exact ⟨λ z=>z.keepAt (λ o' e=>hk _ _ nlb e),λ z=>z.keepAt (λ o' e=>hk _ _ nlb e)⟩
  ·rintro i y σ H2 hy ⟨s2, k2, hi, M, v3, eM, zM, hM, nM, rfl⟩;obtain ⟨q, hq, rfl⟩ := zaB hy;have hil : i < L.length := (yad.mp hq).1;obtain ⟨g1, g2⟩ := hR q (yat hq);symm;refine ⟨w, l, q.1, M, q.2, rfl, nM, hM, s2 _ _ g1, g2, hw1, hw2, by omega, fun N H3 eN hN nN k3 => ?_⟩
   have e:(dds N).reverse=zaH w (dds (L.take (i + 1))):=by
    rw [eN,eM,yaz,hq];show _=zaH w (dds (L.take i ++ [q]));rw [dds,dds,yae];exact (zfU w _ q.2).symm
   refine ⟨k3.same s2 f1,k2.trans k3,by omega,N,_,e,?_,hN,nN,rfl⟩;have:=congrArg List.length eN;rw [ycX,dds,yaa] at this;have h2:=zi9 (w:=w) (dds M).reverse q.2;rw [ycX,dds,yaa] at h2;rw [this];exact yaW h2 (1:)
  ·rintro σ H2 ⟨s2,k2,_,M,v3,eM,zM,hM,nM,rfl⟩;rw [show (rowV L).length=L.length by simp [rowV],yav (yaj _)] at eM;symm;exact k l M H2 eM hM f1 nM s2
def zlm:FnScope ["width","rows","deeds","row"] ["width","rows"] (zaf zkU):=⟨rfl,rfl,rfl,by decide +kernel,rfl,by decide +kernel,by decide +kernel⟩
def zpA {a:Addr} {fd:FuncData} (B:Blt K mg) (g_shortened:A30 P w K mg base) (F:Fun K "bound" "bound" zkU a fd):FnOk P w K mg base CX0 12 a fd ["width","rows"] zo8:=by
 refine F.ok zlm (λ vs H Q E h=>?_) (λ cdv A outer s H vs Q E hr h=>?_)
 ·obtain ⟨w,a,R,rfl,_⟩:=h;rfl
 ·have nd := zlm.nd;have hu := hr.units;obtain ⟨w, a1, R, rfl, ha, hR, hz, hw1, hw2, k⟩ := h;refine ⟨_, ((6:) (70:) ((6:) ((38:) yaJ rfl (56:) (64:) ((7:) (@zbV _ _ _ _ (@k_bm _ K _ _ _ _ _ _ _ _ _ _ _ ya3 PySem.F.slot_list_extend PySem.F.type_list_extend (@zjf _) (15:) ((2:) (20:) (4:) (0:)) (0:) (0:) (0:) (0:) (0:) (0:)) (0:))) (18:)) ((7:) ((11:) ((9:) g_shortened (10:) ((2:) (5:) ((2:) (15:) (4:) (0:)) (0:)) (0:) (3:) (0:) (0:)))))), ?_⟩;symm;refine zaP (8:) fun ld H1 f1 s1 n1 => ?_;symm;refine zbY (xs := R.map fun q => V.ref q.1) (fun j σ H' => Same H H' /\ H' ld = some (.lst (rowV ((R.take j).flatMap fun q => q.2))) /\ ∃ v3, σ = [some (nV w), some (.ref a1), some (.ref ld), v3]) ⟨s1, n1, none, rfl⟩ (fun j σ H' h => SqL.of (h.1 _ _ ha)) ?_ ?_
  ·rintro j x σ H2 hx ⟨s2,n2,v3,rfl⟩;obtain ⟨q,hq,rfl⟩:=zaB hx;obtain ⟨hq1,hq2,hq3⟩:=hR q (yat hq);have zt:((R.take j).flatMap λ q=>q.2).length <= 5000:=yaW (zk9 _ λ x hx=>(hR x (ybD hx)).2.2) (by rw [yaZ]; omega);symm;refine zsF (K:=K) n2 (s2 _ _ hq1) (by rw [zbe,zbe]; omega) ?_;symm;refine ⟨Same.updF s2 f1,?_,_,rfl⟩;rw [zai,zb4,yaz,hq,yce];simp
  ·rintro σ H2 ⟨s2, n2, v3, rfl⟩;rw [yaa, yav (yaj _)] at n2
   have hRw:Rw H2 w (R.flatMap λ q=>q.2):=λ x hx=>by
    obtain ⟨q,hq,hx⟩:=List.mem_flatMap.mp hx;exact (hR q hq).2.1.same s2 x hx
   symm;refine ⟨w,ld,_,rfl,.inl n2,hRw,hw1,hw2,yaW (zk9 _ λ x hx=>(hR x hx).2.2) (1:),λ l M H3 eM hM f3 n3 s3=>?_⟩;exact k l M H3 eM hM (s2.free f3) n3 (s2.trans s3)
def zcb:FnScope ["_law_width","_law_mask","_law_other","_law_word_here","_law_also","_law_second","_law_one","_law_two","_law_both","_law_made"] ["_law_width","_law_mask","_law_other"] (zaf zbw):=⟨rfl,rfl,rfl,by decide +kernel,rfl,by decide +kernel,by decide +kernel⟩
def zen {a:Addr} {fd:FuncData} (B:Blt K mg) (g_then:A3 P w K mg base) (g_deed_leading:A12 P w K mg base) (g_row_leading:A14 P w K mg base) (g_together:A27 P w K mg base) (g_bound:A31 P w K mg base) (F:Fun K "_law_twice_right" "_law_twice_right" zbw a fd):FnOk P w K mg base CX0 13 a fd ["_law_width","_law_mask","_law_other"] zkb:=by
 refine F.ok zcb (λ vs H Q E h=>?_) (λ cdv A outer s H vs Q E hr h=>?_)
 ·obtain ⟨w,m,n,rfl,_⟩:=h;rfl
 ·have nd := zcb.nd;have hu := hr.units;obtain ⟨w, m, n, rfl, hw1, hw2, hm, hn, k⟩ := h;refine ⟨_, ((6:) ((38:) yaJ rfl (@zaJ _ K _ _ _ ((32:) ((2:) ((26:) ((27:) ((27:) (4:)))) ((2:) ((26:) ((27:) ((27:) (4:)))) ((2:) ((26:) ((27:) ((27:) (4:)))) ((2:) ((26:) ((27:) ((27:) (4:)))) (4:) (0:)) (0:)) (0:)) (0:))) (0:)) (84:) ((7:) ((38:) yaJ rfl (@zaJ _ K _ _ _ ((32:) ((2:) (13:) ((2:) (15:) (4:) (0:)) (0:))) (0:)) (@zam _ _ 5 _ nd rfl (16:) (14:)) ((6:) (@zo2 _ _ 6 7 _ _ _ _ _ _ _ _ _ _ _ rfl nd rfl rfl (3:) rfl rfl ((2:) ((26:) ((2:) (20:) ((2:) (13:) (4:) (0:)) (0:))) ((2:) ((26:) ((2:) (33:) ((2:) (46:) (4:) (0:)) (0:))) (4:) (0:)) (0:)) rfl (0:)) ((6:) (@zat _ _ 8 _ _ _ _ nd rfl (16:) ((9:) g_then (10:) ((2:) ((9:) g_deed_leading (10:) ((2:) (5:) ((2:) (66:) (4:) (0:)) (0:)) (0:) (3:) (0:) (0:)) ((2:) ((9:) g_deed_leading (10:) ((2:) (5:) ((2:) (@pv1 _ 7 _ _ (39:)) (4:) (0:)) (0:)) (0:) (3:) (0:) (0:)) (4:) (0:)) (0:)) (0:) (3:) (0:) (0:)) (0:) (14:)) ((6:) (@zat _ _ 9 _ _ _ _ nd rfl (16:) ((9:) g_together (10:) ((2:) (5:) ((2:) (66:) ((2:) (@pv1 _ 7 _ _ (39:)) (4:) (0:)) (0:)) (0:)) (0:) (3:) (0:) (0:)) (0:) (14:)) ((6:) ((22:) ((21:) (47:) ((57:) (@zlB _) (@pv1 _ 9 _ _ (39:)) (53:) (19:)) ((67:) ((57:) (47:) (20:) (33:) (19:)) (@zid _ _ _ _ _ ((57:) (47:) (13:) (46:) (19:)))) (19:)) ((7:) ((11:) (36:))) (23:)) ((6:) ((22:) (@PW.pt _ _ _ ((78:) ((21:) (@zoE _) (@pv1 _ 9 _ _ (39:)) (53:) (19:)) (@zds _ _ _ _ ((21:) (47:) ((9:) g_deed_leading (10:) ((2:) (5:) ((2:) (@pv1 _ 9 _ _ (39:)) (4:) (0:)) (0:)) (0:) (3:) (0:) (0:)) (@pv1 _ 8 _ _ (39:)) (19:))))) ((7:) ((11:) (36:))) (23:)) ((7:) ((22:) ((21:) (47:) ((9:) g_row_leading (10:) ((2:) (5:) ((2:) ((9:) g_bound (10:) ((2:) (5:) ((2:) ((32:) ((2:) ((32:) ((2:) (66:) (4:) (0:))) ((2:) ((32:) ((2:) (@pv1 _ 7 _ _ (39:)) (4:) (0:))) (4:) (0:)) (0:))) (4:) (0:)) (0:)) (0:) (3:) (0:) (0:)) (4:) (0:)) (0:)) (0:) (3:) (0:) (0:)) (@pv1 _ 8 _ _ (39:)) (19:)) ((7:) ((11:) (36:))) (23:)))))))) (18:))) (18:)) ((7:) ((11:) (36:)))), ?_⟩;symm;refine zaw (8:) fun a1 H1 f1 s1 n1 => ?_;symm;refine zaw (8:) fun a2 H2 f2 s2 n2 => ?_;symm;refine zaw (8:) fun a3 H3 f3 s3 n3 => ?_;symm;refine zaw (8:) fun a4 H4 f4 s4 n4 => ?_;symm;refine zaP (8:) fun al H5 f5 s5 n5 => ?_;have s35 := s4.trans s5;have s25 := s3.trans s35;have s15 := s2.trans s25;have n1 := s15 _ _ n1;have n2 := s25 _ _ n2;have n3 := s35 _ _ n3;have n4 := s5 _ _ n4;symm;refine zbY (xs := [.ref a1, .ref a2, .ref a3, .ref a4]) (fun j σ H' => Same H5 H' /\ ∃ v3 v4 v5 v6 v7 v8 v9, σ = [some (nV w), some (nV m), some (nV n), v3, v4, v5, v6, v7, v8, v9]) ⟨Same.refl _, none, none, none, none, none, none, none, rfl⟩ (fun j σ H' h => SqL.of (h.1 _ _ n5)) ?_ ?_
  ·rintro j x σ H6 hx ⟨s6, v3, v4, v5, v6, v7, v8, v9, rfl⟩
   obtain ⟨t,f,g,rfl,nt,hf,hg⟩:∃ (t:Addr) (f g:Nat -> Dd),x=.ref t /\ H6 t=some (.tup [.str (f 0).nm,.str (g 0).nm]) /\ (f=Dd.gather \/ f=Dd.strew) /\ (g=Dd.gather \/ g=Dd.strew):=by
    match j,hx with
    | 0,hx=>cases hx; exact ⟨a1,.gather,.gather,rfl,s6 _ _ n1,.inl rfl,.inl rfl⟩
    | 1,hx=>cases hx; exact ⟨a2,.strew,.strew,rfl,s6 _ _ n2,.inr rfl,.inr rfl⟩
    | 2,hx=>cases hx; exact ⟨a3,.gather,.strew,rfl,s6 _ _ n3,.inl rfl,.inr rfl⟩
    | 3,hx=>cases hx; exact ⟨a4,.strew,.gather,rfl,s6 _ _ n4,.inr rfl,.inl rfl⟩
   have fv:∀ x,(f x).vals=[.str (f 0).nm,nV x]:=λ x=>by rcases hf with rfl | rfl <;> rfl
   have gv:∀ x,(g x).vals=[.str (g 0).nm,nV x]:=λ x=>by rcases hg with rfl | rfl <;> rfl
   have fo:∀ x,x < 2 ^ w -> (f x).ok w:=λ x hx=>by rcases hf with rfl | rfl <;> exact hx
   have go:∀ x,x < 2 ^ w -> (g x).ok w:=λ x hx=>by rcases hg with rfl | rfl <;> exact hx
   symm;refine zaP (8:) λ sl H7 f7 s7 n7=>?_;symm;refine zbY (xs:=[nV m,nV n]) (λ j σ H'=>Same H7 H' /\ ∃ v5 v6 v7 v8 v9,σ=[some (nV w),some (nV m),some (nV n),some (.str (f 0).nm),some (.str (g 0).nm),v5,v6,v7,v8,v9]) ⟨Same.refl _,_,_,_,_,_,rfl⟩ (λ j σ H' h=>SqL.of (h.1 _ _ n7)) ?_ ?_
   ·rintro i x σ H8 hx ⟨s8, v5, v6, v7, v8, v9, rfl⟩
    obtain ⟨y,rfl,hy⟩:∃ y:Nat,x=nV y /\ y < 2 ^ w:=by
     match i,hx with
     | 0,hx=>cases hx; exact ⟨m,rfl,hm⟩
     | 1,hx=>cases hx; exact ⟨n,rfl,hn⟩
    symm;refine zaw (8:) λ t1 H9 f9 s9 n9=>?_;rw [<- fv m] at n9;symm;refine zaw (8:) λ t2 H10 f10 s10 n10=>?_;rw [<- gv y] at n10;have n9:=s10 _ _ n9;symm;have om:=fo m hm;have oy:=go y hy;refine ⟨w,t1,f m,rfl,n9,om,hw2,λ t11 H11 s11 n11=>?_⟩;symm;refine ⟨w,t2,g y,rfl,s11 _ _ n10,oy,hw2,λ t12 H12 s12 n12=>?_⟩;have n11:=s12 _ _ n11;symm;refine ⟨t11,t12,_,_,w,rfl,n11,n12,Dd.led_ld om,Dd.led_ld oy,hw2,λ t13 H13 s13 n13=>?_⟩;have s103:=s11.trans (s12.trans s13);symm;refine ⟨w,t1,t2,f m,g y,rfl,s103 _ _ n9,s103 _ _ n10,om,oy,hw1,hw2,λ v H14 s14 hv=>?_⟩;have s8e:=s9.trans (s10.trans s103);have tgn:(f m).tog w (g y)=none ↔ ((f 0).nm ≠ (g 0).nm /\ m ≠ y):=zsQ hf hg
    walk_at "goI"
    refine zp9 (λ σ' H'=>Same H14 H' /\ σ'=[some (nV w),some (nV m),some (nV n),some (.str (f 0).nm),some (.str (g 0).nm),some (nV y),some (.ref t1),some (.ref t2),some (.ref t13),some v]) (λ fin hfin=>?_) ?_
    ·walk_at "goI"
     refine zrp ?_;refine ⟨_,rfl,?_⟩;by_cases hfg:(f 0).nm=(g 0).nm
     ·rw [decide_eq_true hfg];cases ev : (f m).tog w (g y) with
      | none=>exact absurd hfg (tgn.mp ev).1
      | some z=>
       rw [ev] at hv;obtain ⟨t5,rfl,n5⟩:=hv;symm;refine zoO ⟨_,rfl,?_⟩;refine zcd (8:) ?_;symm;exact hfin _ _ ⟨Same.refl _,rfl⟩
     ·rw [decide_eq_false hfg];symm;by_cases hmy : m = y
      ·subst hmy;cases ev : (f m).tog w (g m) with
       | none=>exact absurd rfl (tgn.mp ev).2
       | some z=>
        rw [ev] at hv;obtain ⟨t5,rfl,n5⟩:=hv;refine zoO ⟨_,rfl,?_⟩;refine zcd (8:) ?_;symm;exact hfin _ _ ⟨Same.refl _,rfl⟩
      ·have ev := tgn.mpr ⟨hfg, hmy⟩;rw [ev] at hv;obtain rfl : v = .non := hv;have hmy' : ((m : Int) == (y : Int)) = false := by rw [beq_eq_false_iff_ne]; omega
       refine zoO ⟨_,rfl,?_⟩;refine zcd (by simp [hmy']) ?_;symm;exact hfin _ _ ⟨Same.refl _,rfl⟩
    rintro σ' H15 ⟨s15,rfl⟩
    walk_at "goI"
    refine zp9 (λ σ' H'=>Same H15 H' /\ σ'=[some (nV w),some (nV m),some (nV n),some (.str (f 0).nm),some (.str (g 0).nm),some (nV y),some (.ref t1),some (.ref t2),some (.ref t13),some v]) (λ fin hfin=>?_) ?_
    ·cases ev : (f m).tog w (g y) with
     | none=>
      rw [ev] at hv;obtain rfl:v=.non:=hv;symm;exact hfin _ _ ⟨Same.refl _,rfl⟩
     | some z=>
      rw [ev] at hv;obtain ⟨t5,rfl,n5⟩:=hv;obtain ⟨z1,z2⟩:=Dd.tog_led om oy ev;symm;refine zcv (8:) ?_;symm;refine ⟨w,t5,z,rfl,s15 _ _ n5,z1,hw2,λ t16 H16 s16 n16=>?_⟩;symm;rw [z2] at n16;refine zlo (SqT.of n16) (SqT.of (s16 _ _ (s15 _ _ (s14 _ _ n13)))) ?_;rw [decide_eq_true rfl];symm;exact hfin _ _ ⟨s16,rfl⟩
    rintro σ' H16 ⟨s16,rfl⟩;have s1016:=s103.trans (s14.trans (s15.trans s16));symm;refine zaP (8:) λ la HA fA sA nA=>?_;symm;refine zaP (8:) λ lb HB fB sB nB=>?_;symm;refine zaP (8:) λ lc HC fC sC nC=>?_;have s10C:=s1016.trans (sA.trans (sB.trans sC));symm;refine ⟨w,lc,[(la,[(t1,f m)]),(lb,[(t2,g y)])],rfl,nC,?_,by simp,hw1,hw2,λ ld N HD eN hN fD nD sD=>?_⟩
    ·intro q hq;simp only [yaD, yaV, or_false] at hq;rcases hq with rfl | rfl
     ·exact ⟨(sB.trans sC) _ _ nA,λ x hx=>by rw [yax.mp hx]; exact ⟨s10C _ _ n9,om⟩,by simp⟩
     ·exact ⟨sC _ _ nB,λ x hx=>by rw [yax.mp hx]; exact ⟨s10C _ _ n10,oy⟩,by simp⟩
    rw [show dds ([(la,[(t1,f m)]),(lb,[(t2,g y)])].flatMap λ q=>q.2)=[f m] ++ [g y] from rfl] at eN;have ok1:∀ d ∈ [f m],d.ok w:=λ d hd=>by rw [yax.mp hd]; exact om
    have ok2:∀ d ∈ [g y],d.ok w:=λ d hd=>by rw [yax.mp hd]; exact oy
    obtain ⟨sO,sL,sS,sZ⟩:=zew ([f m] ++ [g y]) λ d hd=>(yaA.mp hd).elim (ok1 d) (ok2 d)
    have eN':rowL w (dds N)=zax ((f m).led w) ((g y).led w):=by
     rw [show dds N=(zaH w ([f m] ++ [g y])).reverse by rw [<- eN,ybn],sL,zg8 ok1 ok2,ziu om,ziu oy]
    symm;refine ⟨w,ld,N,rfl,SqA.of nD,hN,hw2,λ t20 H20 s20 n20=>?_⟩;rw [eN'] at n20;have s1420:=s15.trans (s16.trans (sA.trans (sB.trans (sC.trans (sD.trans s20)))));symm;refine zlo (SqT.of n20) (SqT.of (s1420 _ _ (s14 _ _ n13))) ?_;rw [decide_eq_true rfl];symm;exact ⟨s8.trans (s8e.trans (s14.trans s1420)),_,_,_,_,_,rfl⟩
   ·rintro σ H8 ⟨s8,v5,v6,v7,v8,v9,rfl⟩;symm;exact ⟨s6.trans (s7.trans s8),_,_,_,_,_,_,_,rfl⟩
  ·rintro σ H6 ⟨s6,v3,v4,v5,v6,v7,v8,v9,rfl⟩;symm;exact k _ (s1.trans (s15.trans s6))
def zln:FnScope ["width"] ["width"] (zaf zii):=⟨rfl,rfl,rfl,by decide +kernel,rfl,by decide +kernel,by decide +kernel⟩
def zpK {a:Addr} {fd:FuncData} (B:Blt K mg)  (F:Fun K "steps" "steps" zii a fd):FnOk P w K mg base CX0 1 a fd ["width"] zoR:=by
 refine F.ok zln (λ vs H Q E h=>?_) (λ cdv A outer s H vs Q E hr h=>?_)
 ·obtain ⟨w,rfl,_⟩:=h;rfl
 ·have nd := zln.nd;have hu := hr.units;obtain ⟨w, rfl, hw1, hw2, k⟩ := h;have hb := ziW hw2;refine ⟨_, ((7:) ((11:) (@zaW _ _ _ _ _ _ (zaf zii) _ ["width"] ["figure"] [none] _ _ _ _ rfl (@zaT _ _ _ _ _ _ rfl B.b_range ((2:) (@znC _ K _ _ _ _ _ _ _ _ ycw yb0 yb1 (@zk3 _) ((12:) (@zbk _) (5:) (17:)) (0:) (0:) (0:)) (4:) (0:)) (0:)) (fun _ _ _ _ => (@zam _ _ 0 _ (show List.Nodup (["figure"] : List Str) by decide +kernel) rfl (16:) (14:))) (fun _ _ _ _ => (@zba _)) (fun _ _ _ _ => ((12:) (@zca _) (17:) (5:))) (25:) (0:) (0:) (18:)))), ?_⟩;symm;rw [show ((w : Int) - 1) = ((w - 1 : Nat) : Int) by omega, zg7];refine zed (n := zaz (w - 1)) rfl (1:) ?_;refine zaV (fun i acc H' => H' = H /\ i <= 6 /\ acc = (List.range i).map fun s => nV (2 ^ s)) ⟨rfl, by omega, rfl⟩ (fun i acc H' h => ?_) ?_ ?_
  ·obtain ⟨_,hi,rfl⟩:=h;rw [yaa,yah];exact yaw (small5 (1:))
  ·rintro i acc H' hi ⟨rfl,hi2,rfl⟩;symm;refine ⟨rfl,by omega,?_⟩;rw [yar,yae,show (1:Int) * 2 ^ ((i:Int)).toNat=((2 ^ i:Nat):Int) by rw [yak]; simp];rfl
  ·rintro acc H' ⟨rfl,_,rfl⟩ q hq;exact k q _ hq (zak hq) zai
def zeM:FnScope ["mask","by","ends","number","place","way"] ["mask","by"] (zaf zdD):=⟨rfl,rfl,rfl,by decide +kernel,rfl,by decide +kernel,by decide +kernel⟩
def ziI {a:Addr} {fd:FuncData} (B:Blt K mg) (g_places_in:A5 P w K mg base) (g_mask_of:A17 P w K mg base) (F:Fun K "upper_ends" "upper_ends" zdD a fd):FnOk P w K mg base CX0 3 a fd ["mask","by"] zoT:=by
 refine F.ok zeM (λ vs H Q E h=>?_) (λ cdv A outer s H vs Q E hr h=>?_)
 ·obtain ⟨m,sz,rfl,_⟩:=h;rfl
 ·have nd := zeM.nd;have hu := hr.units;obtain ⟨m, sz, rfl, hm, hs, k⟩ := h;have hl := zay hm;have hpos := yaS sz;refine ⟨_, ((6:) (70:) ((6:) ((38:) yaJ rfl (@zaZ _ K _ _ _ _ _ _ _ B.b_enumerate ((2:) ((9:) g_places_in (10:) ((2:) (5:) (4:) (0:)) (0:) (3:) (0:) (0:)) (4:) (0:)) (0:) (0:) (0:)) (84:) ((6:) (@zat _ _ 5 _ _ _ _ nd rfl (16:) ((12:) (@zbk _) (33:) (20:)) (0:) (14:)) ((7:) ((22:) ((21:) (47:) ((12:) (@zdj _) (46:) (13:)) (17:) (19:)) ((7:) (@zbV _ _ _ _ (@k_bm _ K _ _ _ _ _ _ _ _ _ _ _ ya3 yby ybz (@zdF _) (15:) ((2:) ((12:) (@zbk _) (33:) ((12:) (@zcO _) (46:) (13:))) (4:) (0:)) (0:) (0:) (0:) (0:) (0:) (0:)) (0:))) (23:)))) (18:)) ((7:) ((11:) ((9:) g_mask_of (10:) ((2:) (15:) (4:) (0:)) (0:) (3:) (0:) (0:)))))), ?_⟩;symm;refine zaP (8:) fun r H1 f1 s1 n1 => ?_;symm;refine ⟨m, rfl, hm, fun q H2 f2 s2 n2 => ?_⟩;have nqr : q ≠ r := fun e => by rw [e, n1] at f2; cases f2
  have n1:=s2 _ _ n1;have s2:=s1.trans s2;symm;refine ⟨q,_,rfl,.inl ⟨SqL.of n2,?_⟩⟩;refine zhi (λ i σ H'=>Same H H' /\ i <= 64 /\ H' q=some (.lst ((zac m).map nV)) /\ H' r=some (.lst ((movL m sz i).map nV)) /\ ∃ v3 v4 v5,σ=[some (nV m),some (nV (2 ^ sz)),some (.ref r),v3,v4,v5]) ⟨s2,by omega,n2,n1,_,_,_,rfl⟩ (λ i σ H' h=>SqL.of h.2.2.1) ?_ ?_
  ·rintro i u T σ H' hu hT ⟨s5, hi, nq, nr, v3, v4, v5, rfl⟩;obtain ⟨y, hy, rfl⟩ := zaB hu;have hil : i < (zac m).length := (yad.mp hy).1;have ey : plc m i = y := by show (zac m).getD i 0 = y; rw [yab, hy]; rfl
   have hge:=zhD hil;have ew:(y:Int) - (i:Int)=((wayN m i:Nat):Int):=by unfold wayN; omega
   have ep:=zoq (m:=m) sz hil;have s6:=zak (o:=.tup [V.int (i:Int),nV y]) hT;have nT:upd H' T (.tup [V.int (i:Int),nV y]) T=some (.tup [V.int (i:Int),nV y]):=zai;generalize upd H' T (.tup [V.int (i:Int),nV y])=H6 at s6 nT ⊢;have nq6:=s6 _ _ nq;have nr6:=s6 _ _ nr
   have hlen:((movL m sz i).map nV).length <= 64:=by
    rw [yaa,movL,yaa];have:=yaB (λ j=>(wayN m j).testBit sz) (List.range i);rw [yah] at this;omega
   have mv:movL m sz (i + 1)=movL m sz i ++ (if (wayN m i).testBit sz then [posN m sz i] else []):=by
    unfold movL;rw [yar,yap,yae];congr 1;cases hb:(wayN m i).testBit sz <;> simp [hb]
   symm;rw [ew,zqR];refine ite2 (λ hb=>?_) (λ hb=>?_)
   ·have hb : (wayN m i).testBit sz = true := by simpa using hb
    have e2:(y:Int) - ((wayN m i:Nat):Int) % ((2 ^ sz:Nat):Int)=((posN m sz i:Nat):Int):=by
     rw [ep,ey,<- Int.natCast_emod];have:wayN m i % 2 ^ sz <= wayN m i:=Nat.mod_le _ _;have:wayN m i <= y:=by unfold wayN; omega
     omega
    symm;rw [e2];refine ⟨(s5.trans s6).upd' f1,by show i + 1 <= 64; omega,by rw [zaA nqr]; exact nq6,?_,_,_,_,rfl⟩;rw [zai,mv,if_pos hb,yae];rfl
   ·have hb : ¬ (wayN m i).testBit sz = true := by simpa using hb
    symm;refine ⟨s5.trans s6,by show i + 1 <= 64; omega,nq6,?_,_,_,_,rfl⟩;rw [nr6,mv,if_neg hb,ybb]
  ·rintro σ H' ⟨s5,_,nq,nr,v3,v4,v5,rfl⟩;rw [yaa] at nr;symm;refine ⟨r,_,rfl,.inl (SqL.of nr),λ x hx=>?_,k H' s5⟩;simp only [movL,yau,yaq,yai] at hx;obtain ⟨j,⟨h1,_⟩,rfl⟩:=hx;exact ya1 (zhO sz h1) (zaM hm h1)
def zeO:FnScope ["width","mask","row"] ["width","mask"] (zaf zcp):=⟨rfl,rfl,rfl,by decide +kernel,rfl,by decide +kernel,by decide +kernel⟩
def ziB {a:Addr} {fd:FuncData} (B:Blt K mg) (g_low:A15 P w K mg base) (g_bits_in:A16 P w K mg base) (g_steps:A33 P w K mg base) (g_upper_ends:A34 P w K mg base) (F:Fun K "gather_row" "gather_row" zcp a fd):FnOk P w K mg base CX0 4 a fd ["width","mask"] zj0:=by
 refine F.ok zeO (λ vs H Q E h=>?_) (λ cdv A outer s H vs Q E hr h=>?_)
 ·obtain ⟨w,m,rfl,_⟩:=h;rfl
 ·have nd := zeO.nd;have hu := hr.units;obtain ⟨w, m, rfl, hw1, hw2, hm, k⟩ := h;have hb := ziW hw2;have hm64 := lt64 hm hw2;have hlp := zay hm;refine ⟨_, ((6:) (@zaR _ _ _ _ _ _ (zaf zcp) _ ["width", "mask", "row"] ["by", "mask"] [none, some 1] _ _ _ _ 2 _ _ _ nd rfl (16:) rfl (@zaJ _ K _ _ _ ((9:) g_steps (10:) ((2:) (5:) (4:) (0:)) (0:) (3:) (0:) (0:)) (0:)) (fun _ _ _ _ => (97:)) (fun _ _ _ _ => (@zba _)) (fun _ _ _ _ => ((26:) ((27:) ((2:) ((9:) g_upper_ends (10:) ((2:) (13:) ((2:) (5:) (4:) (0:)) (0:)) (0:) (3:) (0:) (0:)) ((2:) (@zoL _ _ _ _ _ _ (@zkd _) (5:)) (4:) (0:)) (0:))))) (25:) (0:) (0:) (18:) (0:) (14:)) ((7:) ((11:) ((12:) (31:) (15:) ((32:) ((2:) ((26:) ((27:) ((2:) ((9:) g_low (10:) ((2:) ((9:) g_bits_in (10:) ((2:) (13:) (4:) (0:)) (0:) (3:) (0:) (0:)) (4:) (0:)) (0:) (3:) (0:) (0:)) (4:) (0:)))) (4:) (0:))))))), ?_⟩;symm;refine ⟨w, rfl, hw1, hw2, fun q H1 f1 s1 n1 => ?_⟩;symm;refine zbQ (SqL.of n1) ?_;refine zbN (xs := (List.range (zaz (w - 1))).map fun s => nV (2 ^ s)) (fun i acc H' => Same H1 H' /\ i <= 6 /\ ∃ L : List (Addr × Dd), dds L = (List.range i).map (zd6 w m) /\ Rw H' w L /\ acc = rowV L) ⟨fun _ _ e => e, by omega, [], rfl, Rw.nil _ _, rfl⟩ (fun i acc H' h => ?_) (fun i acc H' h => SqL.of (h.1 _ _ n1)) ?_ ?_
  ·obtain ⟨_, hi, L, hd, _, rfl⟩ := h;have : L.length = i := by have := congrArg List.length hd; simpa [dds] using this
   rw [zbe];exact yaw (small5 (1:))
  ·rintro i x acc H' hx ⟨s2, hi, L, hd, hR, rfl⟩;obtain ⟨s', hs', rfl⟩ := zaB hx
   have hil:i < zaz (w - 1):=by
    have:=(yad.mp hs').1
    rwa [yah] at this
   have es:s'=i:=by
    rw [yay hil] at hs';exact (Option.some.inj hs').symm
   subst es;symm;refine ⟨m,s',rfl,hm64,by omega,λ H3 s3=>?_⟩;symm;refine zaw (8:) λ t H4 f4 s4 n4=>?_;refine ⟨s2.trans (s3.trans s4),by show s' + 1 <= 6; omega,L ++ [(t,zd6 w m s')],?_,(hR.same s3).snoc s4 (d:=zd6 w m s') n4 (zmd hm hil),?_⟩
   ·rw [zfl,hd,yar,yae];rfl
   ·rw [<- zb4];rfl
  ·rintro acc H2 ⟨s2, _, L, hd, hR, rfl⟩ r hr;rw [yaa, yah] at hd;have hLl : L.length = zaz (w - 1) := by have := congrArg List.length hd; simpa [dds] using this
   have s3:=zak (o:=.lst (rowV L)) hr;have n3:upd H2 r (.lst (rowV L)) r=some (.lst (rowV L)):=zai;generalize upd H2 r (.lst (rowV L))=H3 at s3 n3 ⊢;have hR:=hR.same s3;have s3:=s1.trans (s2.trans s3);symm;refine ⟨m,rfl,hm64,λ H4 s4=>?_⟩;symm;refine ⟨_,rfl,by omega,?_⟩;symm;refine zaw (8:) λ t H5 f5 s5 n5=>?_;symm;refine zaP (8:) λ a H6 f6 s6 n6=>?_;have S:=s4.trans (s5.trans s6);symm;refine zdN (S _ _ n3) n6 (by rw [zbe]; simp; omega) λ c H7 f7 s7 n7=>?_;refine k c (L ++ [(t,.and (2 ^ (zac m).length - 1))]) H7 ((s3.trans S).free f7) (s3.trans (S.trans s7)) ?_ ?_ ?_
   ·rw [zfl,hd];rfl
   ·exact (((hR.same s4).snoc s5 (d:=.and (2 ^ (zac m).length - 1)) n5 (zqt hm)).same s6).same s7
   ·rw [n7,<- zb4];rfl
def zfV:FnScope ["width","mask","row"] ["width","mask"] (zaf zc2):=⟨rfl,rfl,rfl,by decide +kernel,rfl,by decide +kernel,by decide +kernel⟩
def zjs {a:Addr} {fd:FuncData} (B:Blt K mg) (g_steps:A33 P w K mg base) (g_upper_ends:A34 P w K mg base) (F:Fun K "strew_row" "strew_row" zc2 a fd):FnOk P w K mg base CX0 4 a fd ["width","mask"] zmp:=by
 refine F.ok zfV (λ vs H Q E h=>?_) (λ cdv A outer s H vs Q E hr h=>?_)
 ·obtain ⟨w,m,rfl,_⟩:=h;rfl
 ·have nd := zfV.nd;have hu := hr.units;obtain ⟨w, m, rfl, hw1, hw2, hm, k⟩ := h;have hb := ziW hw2;have hm64 := lt64 hm hw2;refine ⟨_, ((6:) (@zaR _ _ _ _ _ _ (zaf zc2) _ ["width", "mask", "row"] ["by", "mask"] [none, some 1] _ _ _ _ 2 _ _ _ nd rfl (16:) rfl (@zpQ _ K _ _ _ _ _ B.b_reversed ((2:) ((9:) g_steps (10:) ((2:) (5:) (4:) (0:)) (0:) (3:) (0:) (0:)) (4:) (0:)) (0:) (0:) (0:)) (fun _ _ _ _ => (97:)) (fun _ _ _ _ => (@zba _)) (fun _ _ _ _ => ((26:) ((27:) ((2:) ((12:) (@zhg _) ((9:) g_upper_ends (10:) ((2:) (13:) ((2:) (5:) (4:) (0:)) (0:)) (0:) (3:) (0:) (0:)) (5:)) ((2:) (5:) (4:) (0:)) (0:))))) (25:) (0:) (0:) (18:) (0:) (14:)) ((7:) ((11:) ((12:) (31:) (15:) ((32:) ((2:) ((26:) ((27:) ((2:) (13:) (4:) (0:)))) (4:) (0:))))))), ?_⟩;symm;refine ⟨w, rfl, hw1, hw2, fun q H1 f1 s1 n1 => ?_⟩;symm;refine ⟨q, _, rfl, SqL.of n1, ?_⟩;refine zpz (xs := (List.range (zaz (w - 1))).map fun s => nV (2 ^ s)) (fun i acc H' => Same H1 H' /\ i <= 6 /\ ∃ L : List (Addr × Dd), dds L = (List.range i).map (fun i => strD m (zaz (w - 1) - 1 - i)) /\ Rw H' w L /\ acc = rowV L) ⟨fun _ _ e => e, by omega, [], rfl, Rw.nil _ _, rfl⟩ (fun i acc H' h => ?_) (fun i acc H' h => SqL.of (h.1 _ _ n1)) ?_ ?_
  ·obtain ⟨_, hi, L, hd, _, rfl⟩ := h;have : L.length = i := by have := congrArg List.length hd; simpa [dds] using this
   rw [zbe];exact yaw (small5 (1:))
  ·rintro i x acc H' hi0 hx ⟨s2, hi, L, hd, hR, rfl⟩;rw [yaa, yah] at hi0 hx;obtain ⟨s', hs', rfl⟩ := zaB hx
   have es:s'=zaz (w - 1) - 1 - i:=by
    rw [yay (1:)] at hs';exact (Option.some.inj hs').symm
   have hsl:s' < zaz (w - 1):=by omega
   symm;refine ⟨m,s',rfl,hm64,by omega,λ H3 s3=>?_⟩;symm
   try refine s_ri (ybG _) ?_
   rw [zi7];symm;refine zaw (8:) λ t H4 f4 s4 n4=>?_;refine ⟨s2.trans (s3.trans s4),by show i + 1 <= 6; omega,L ++ [(t,strD m s')],?_,(hR.same s3).snoc s4 (d:=strD m s') n4 (zo6 hm hsl),?_⟩
   ·rw [zfl,hd,yar,yae,es];rfl
   ·rw [<- zb4];rfl
  ·rintro acc H2 ⟨s2, _, L, hd, hR, rfl⟩ r hr;rw [yaa, yah] at hd;have hLl : L.length = zaz (w - 1) := by have := congrArg List.length hd; simpa [dds] using this
   have s3:=zak (o:=.lst (rowV L)) hr;have n3:upd H2 r (.lst (rowV L)) r=some (.lst (rowV L)):=zai;generalize upd H2 r (.lst (rowV L))=H3 at s3 n3 ⊢;have hR:=hR.same s3;have s3:=s1.trans (s2.trans s3);symm;refine zaw (8:) λ t H5 f5 s5 n5=>?_;symm;refine zaP (8:) λ a H6 f6 s6 n6=>?_;have S:=s5.trans s6;symm;refine zdN (S _ _ n3) n6 (by rw [zbe]; simp; omega) λ c H7 f7 s7 n7=>?_;refine k c (L ++ [(t,.and m)]) H7 ((s3.trans S).free f7) (s3.trans (S.trans s7)) ?_ ?_ ?_
   ·rw [zfl,hd];rfl
   ·exact ((hR.snoc s5 (d:=.and m) n5 hm).same s6).same s7
   ·rw [n7,<- zb4];rfl
def zh2:FnScope ["leading"] ["leading"] (zaf zeG):=⟨rfl,rfl,rfl,by decide +kernel,rfl,by decide +kernel,by decide +kernel⟩
def zmy {a:Addr} {fd:FuncData} (B:Blt K mg) (g_mask_of:A17 P w K mg base) (F:Fun K "kept_by" "kept_by" zeG a fd):FnOk P w K mg base CX0 2 a fd ["leading"] zqn:=by
 refine F.ok zh2 (λ vs H Q E h=>?_) (λ cdv A outer s H vs Q E hr h=>?_)
 ·obtain ⟨b,ls,w,rfl,_⟩:=h;rfl
 ·have nd := zh2.nd;have hu := hr.units;obtain ⟨b, ls, w, rfl, hb, hL, hw, k⟩ := h;have hlen : ls.length <= 64 := by rw [hL.1]; exact hw
  refine ⟨_,((7:) ((11:) ((9:) g_mask_of (10:) ((2:) (@zaW _ _ _ _ _ _ (zaf zeG) _ ["leading"] ["entry"] [none] _ _ _ _ rfl (@zaJ _ K _ _ _ (5:) (0:)) (λ _ _ _ _=>(@zam _ _ 0 _ (show List.Nodup (["entry"]:List Str) by decide +kernel) rfl (16:) (14:))) (λ _ _ _ _=>((48:) ((21:) (@zkH _) (5:) (17:) (19:)))) (λ _ _ _ _=>(5:)) (25:) (0:) (0:) (18:)) (4:) (0:)) (0:) (3:) (0:) (0:)))),?_⟩;symm;refine zjT (SqT.of hb) ?_;refine zlx (xs:=ls.map V.int) (λ i acc H'=>H'=H /\ acc=((ls.take i).filter λ e=>decide (0 <= e)).map V.int) ⟨rfl,rfl⟩ (λ i acc H' h=>?_) (λ i acc H' h=>by rw [h.1]; exact SqT.of hb) ?_ ?_
  ·obtain ⟨_,rfl⟩:=h;have:=yaB (λ e=>decide ((0:Int) <= e)) (ls.take i);rw [yaZ] at this;rw [yaa];exact yaw (small5 (1:))
  ·rintro i x acc H' hx ⟨rfl, rfl⟩;obtain ⟨e, he, rfl⟩ := zaB hx;symm;refine zck (fun h0 => ?_) (fun h0 => ?_)
   ·symm;refine ⟨rfl,?_⟩;rw [yaz,he,yap,yae];congr 1;show [V.int e]=List.map V.int (List.filter _ [e]);rw [yaN (by exact decide_eq_true (1:))];rfl
   ·refine ⟨rfl,?_⟩;rw [yaz,he,yap,yae];show _=_ ++ List.map V.int (List.filter _ [e]);rw [yaO (by rw [decide_eq_true_iff]; omega)];simp
  ·rintro acc H' ⟨rfl, rfl⟩ p hp;rw [yaa, yav (yaj _), zoM];symm;refine ⟨p, zkw ls, rfl, .inl (SqL.of zai), fun x hx => ?_, ?_⟩
   ·simp only [zkw,yau,yaq,decide_eq_true_iff] at hx;obtain ⟨e,⟨h1,h2⟩,rfl⟩:=hx;have:=(hL.2 e h1).2;omega
   ·exact k _ (zak hp)
def zdP:FnScope ["width"] ["width"] (zaf zcE):=⟨rfl,rfl,rfl,by decide +kernel,rfl,by decide +kernel,by decide +kernel⟩
def zg9 {a:Addr} {fd:FuncData} (B:Blt K mg)  (F:Fun K "check_halved" "check_halved" zcE a fd):FnOk P w K mg base CX0 1 a fd ["width"] zmn:=by
 refine F.ok zdP (λ vs H Q E h=>?_) (λ cdv A outer s H vs Q E hr h=>?_)
 ·obtain ⟨w,rfl,_⟩:=h;rfl
 ·have nd:=zdP.nd;have hu:=hr.units;obtain ⟨w,rfl,hw,k⟩:=h;obtain ⟨gt_HALVED_WIDTHS,gm_HALVED_WIDTHS,hT⟩:=B.g_HALVED_WIDTHS;have hT:∀ H,SqT K H gt_HALVED_WIDTHS (zk7.map nV):=hT;refine ⟨_,((7:) ((22:) ((21:) (@zkY _ K (0:)) (5:) (@znF _ _ (.ref gt_HALVED_WIDTHS) _ _ rfl gm_HALVED_WIDTHS rfl (3:)) rfl) ((7:) (@ze7 _ _ _ _)) (23:))),?_⟩;symm;refine zsm (hT _) hw ?_;symm;exact k
def zia:FnScope ["leading"] ["leading"] (zaf zg4):=⟨rfl,rfl,rfl,by decide +kernel,rfl,by decide +kernel,by decide +kernel⟩
def zmD {a:Addr} {fd:FuncData} (B:Blt K mg)  (F:Fun K "is_even" "is_even" zg4 a fd):FnOk P w K mg base CX0 1 a fd ["leading"] zli:=by
 refine F.ok zia (λ vs H Q E h=>?_) (λ cdv A outer s H vs Q E hr h=>?_)
 ·obtain ⟨b,ls,w,rfl,_⟩:=h;rfl
 ·have nd := zia.nd;have hu := hr.units;obtain ⟨b, ls, w, rfl, hb, hL, hw, k⟩ := h;have hlen : ls.length <= 64 := by rw [hL.1]; exact hw
  refine ⟨_,((7:) ((11:) ((57:) (29:) ((35:) (@zpP _ K (0:)) rfl B.b_sorted boot_sorted ((2:) (5:) (4:) (0:)) (3:) (3:) (0:) (0:)) (@zf1 _ K _ _ _ _ _ _ rfl B.b_list B.b_range ((2:) (54:) (4:) (0:)) (0:) (0:) (0:) (0:) (0:)) (19:)))),?_⟩;symm;refine ⟨b,ls,rfl,.inr (SqT.of hb),hlen,λ p ns hp pm sd=>?_⟩;have s1:=zak (o:=.lst (ns.map V.int)) hp;have n1:upd H p (.lst (ns.map V.int)) p=some (.lst (ns.map V.int)):=zai;generalize upd H p (.lst (ns.map V.int))=H1 at s1 n1 ⊢;have hb:=s1 _ _ hb;symm;rw [yaa];refine ⟨ls.length,rfl,by omega,λ l hl=>?_⟩;rw [zlP];have s2:=zak (o:=.lst ((zaE ls.length).map V.int)) hl;refine zs4 (SqL.of (s2 _ _ n1)) (SqL.of zai) ?_;rw [zkI pm sd];exact k _ (s1.trans s2)
def zef:FnScope ["leading"] ["leading"] (zaf zb0):=⟨rfl,rfl,rfl,by decide +kernel,rfl,by decide +kernel,by decide +kernel⟩
def zhq {a:Addr} {fd:FuncData} (B:Blt K mg) (g_is_even:A39 P w K mg base) (F:Fun K "turned_back" "turned_back" zb0 a fd):FnOk P w K mg base CX0 2 a fd ["leading"] zh1:=by
 refine F.ok zef (λ vs H Q E h=>?_) (λ cdv A outer s H vs Q E hr h=>?_)
 ·obtain ⟨b,ls,rfl,_⟩:=h;rfl
 ·have nd := zef.nd;have hu := hr.units;obtain ⟨b, ls, rfl, hb, hev, hlen, k⟩ := h;have hL := zfj hev;refine ⟨_, ((6:) ((22:) (95:) ((7:) (@ze7 _ _ _ _)) (23:)) ((7:) ((11:) ((59:) (61:) rfl B.b_tuple boot_tuple ((2:) (@zaW _ _ _ _ _ _ (zaf zb0) _ ["leading"] ["place", "leading"] [none, some 0] _ _ _ _ rfl (79:) (fun _ _ _ _ => (87:)) (fun _ _ _ _ => (@zba _)) (fun _ _ _ _ => (@k_bm _ K _ _ _ _ _ _ _ _ _ _ _ yci PySem.F.slot_tuple_index PySem.F.type_tuple_index (@zj3 _ K (0:)) (13:) ((2:) (5:) (4:) (0:)) (0:) (0:) (0:) (0:) (0:) (0:))) (25:) (0:) (0:) (18:)) (4:) (0:)) (3:) (3:) (0:) (0:))))), ?_⟩;symm;refine ⟨b, ls, ls.length, rfl, hb, hL, hlen, fun H1 s1 => ?_⟩;have hb := s1 _ _ hb;rw [show znj ls = true from decide_eq_true hev];symm;refine zed (n := ls.length) (by rw [yaa]) (1:) ?_;refine zaV (fun i acc H' => H' = H1 /\ i <= ls.length /\ acc = ((zj8 ls).take i).map V.int) ⟨rfl, by omega, rfl⟩ (fun i acc H' h => ?_) ?_ ?_
  ·obtain ⟨_,hi,rfl⟩:=h;rw [yaa,yaZ];exact yaw (small5 (1:))
  ·rintro i acc H' hi ⟨rfl,_,rfl⟩;have q:=zjG (zlU hev hi);symm;refine ⟨tyT hb,?_⟩;symm;refine zmj (SqT.of hb) q ?_;refine ⟨rfl,by omega,?_⟩;rw [yaz,yae];congr 1;rw [zj8,yaf,yay hi];rfl
  ·rintro acc H' ⟨rfl,_,rfl⟩ p hp;rw [yav (Nat.le_of_eq (zpv ls))];symm;refine ⟨p,_,rfl,.inl ⟨SqL.of zai,λ t ht=>?_⟩⟩;exact k t _ ((s1.trans (zak hp)).trans (zak ht)) zai
def zgm:FnScope ["place","half"] ["place","half"] (zaf zfJ):=⟨rfl,rfl,rfl,by decide +kernel,rfl,by decide +kernel,by decide +kernel⟩
def zkx {a:Addr} {fd:FuncData} (B:Blt K mg)  (F:Fun K "opposite" "opposite" zfJ a fd):FnOk P w K mg base CX0 1 a fd ["place","half"] zsf:=by
 refine F.ok zgm (λ vs H Q E h=>?_) (λ cdv A outer s H vs Q E hr h=>?_)
 ·obtain ⟨p,h,rfl,_⟩:=h;rfl
 ·have nd := zgm.nd;have hu := hr.units;obtain ⟨p, h, rfl, k⟩ := h;refine ⟨_, ((7:) ((11:) ((55:) ((21:) (@zkH _) (5:) (13:) (19:)) ((12:) (@zbk _) (5:) (13:)) ((12:) (31:) (5:) (13:))))), ?_⟩;symm;by_cases c : h <= p
  ·refine zck (λ h1=>?_) (λ h1=>absurd h1 (1:));symm;rw [show (p:Int) - (h:Int)=((opp h p:Nat):Int) by unfold opp; rw [if_pos c]; omega];exact k
  ·refine zck (λ h1=>absurd h1 (1:)) (λ h1=>?_);symm;rw [show (p:Int) + (h:Int)=((opp h p:Nat):Int) by unfold opp; rw [if_neg c]; omega];exact k
def zgx:FnScope ["leading","mask","place"] ["leading","mask","place"] (zaf zfC):=⟨rfl,rfl,rfl,by decide +kernel,rfl,by decide +kernel,by decide +kernel⟩
def zkN {a:Addr} {fd:FuncData} (B:Blt K mg) (g_bit_at:A4 P w K mg base) (F:Fun K "way_back" "way_back" zfC a fd):FnOk P w K mg base CX0 2 a fd ["leading","mask","place"] zr0:=by
 refine F.ok zgx (λ vs H Q E h=>?_) (λ cdv A outer s H vs Q E hr h=>?_)
 ·obtain ⟨b,ls,w,m,p,rfl,_⟩:=h;rfl
 ·have nd := zgx.nd;have hu := hr.units;obtain ⟨b, ls, w, m, p, rfl, hb, hL, hw, hp, hin, k⟩ := h;refine ⟨_, ((6:) ((22:) ((21:) (29:) ((9:) g_bit_at (10:) ((2:) (13:) ((2:) (15:) (4:) (0:)) (0:)) (0:) (3:) (0:) (0:)) (17:) (19:)) ((7:) ((11:) (75:))) (23:)) ((6:) ((22:) ((21:) (@zkY _ K (0:)) (15:) (5:) rfl) ((7:) (@ze7 _ _ _ _)) (23:)) ((7:) ((11:) (@k_bm _ K _ _ _ _ _ _ _ _ _ _ _ yci PySem.F.slot_tuple_index PySem.F.type_tuple_index (@zj3 _ K (0:)) (5:) ((2:) (15:) (4:) (0:)) (0:) (0:) (0:) (0:) (0:) (0:)))))), ?_⟩;symm;refine ⟨m, p, rfl, ?_⟩;symm;have e : wayB ls m p = if m.testBit p then ((ls.idxOf (p : Int) : Nat) : Int) else -1 := rfl
  cases c:m.testBit p with
  | false=>
   rw [e,c] at k;symm;refine zbE (λ _=>?_) (λ z=>absurd rfl z);symm;exact k
  | true=>
   rw [e,c] at k;symm;refine zbE (λ z=>by cases z) (λ _=>?_);symm;have hm:=hin c;refine zrK (SqT.of hb) ?_;rw [decide_eq_true hm];symm;refine ⟨tyT hb,?_⟩;symm;exact zmj (SqT.of hb) (zjG hm) k
def znz:FnScope ["leading","mask"] ["leading","mask"] (zaf zlR):=⟨rfl,rfl,rfl,by decide +kernel,rfl,by decide +kernel,by decide +kernel⟩
def zq5 {a:Addr} {fd:FuncData} (B:Blt K mg) (g_way_back:A42 P w K mg base) (F:Fun K "back" "back" zlR a fd):FnOk P w K mg base CX0 3 a fd ["leading","mask"] zqu:=by
 refine F.ok znz (λ vs H Q E h=>?_) (λ cdv A outer s H vs Q E hr h=>?_)
 ·obtain ⟨b,ls,w,m,rfl,_⟩:=h;rfl
 ·have nd := znz.nd;have hu := hr.units;obtain ⟨b, ls, w, m, rfl, hb, hL, hw, hin, k⟩ := h;refine ⟨_, ((7:) ((11:) ((59:) (61:) rfl B.b_tuple boot_tuple ((2:) (@zaW _ _ _ _ _ _ (zaf zlR) _ ["leading", "mask"] ["place", "leading", "mask"] [none, some 0, some 1] _ _ _ _ rfl (79:) (fun _ _ _ _ => (@zam _ _ 0 _ (show List.Nodup (["place", "leading", "mask"] : List Str) by decide +kernel) rfl (16:) (14:))) (fun _ _ _ _ => (@zba _)) (fun _ _ _ _ => ((9:) g_way_back (10:) ((2:) (13:) ((2:) (15:) ((2:) (5:) (4:) (0:)) (0:)) (0:)) (0:) (3:) (0:) (0:))) (25:) (0:) (0:) (18:)) (4:) (0:)) (3:) (3:) (0:) (0:)))), ?_⟩;symm;refine zed (n := ls.length) (by rw [yaa]) (by rw [hL.1]; omega) ?_;refine zaV (fun i acc H' => H' = H /\ i <= ls.length /\ acc = ((zmO ls m).take i).map V.int) ⟨rfl, by omega, rfl⟩ (fun i acc H' h => ?_) ?_ ?_
  ·obtain ⟨_,hi,rfl⟩:=h;rw [yaa,yaZ];exact yaw (small5 (by rw [hL.1] at hi; omega))
  ·rintro i acc H' hi ⟨rfl,_,rfl⟩;symm;refine ⟨b,ls,w,m,i,rfl,hb,hL,hw,by rw [<- hL.1]; exact hi,hin i (by rw [<- hL.1]; exact hi),?_⟩;refine ⟨rfl,by omega,?_⟩;rw [yaz,yae];congr 1;rw [zmO,yaf,yay hi];rfl
  ·rintro acc H' ⟨rfl,_,rfl⟩ p hp;rw [yav (by rw [zmO,yaa,yah]; exact yaj _)];symm;refine ⟨p,_,rfl,.inl ⟨SqL.of zai,λ t ht=>?_⟩⟩;exact k t _ ((zak hp).trans (zak ht)) zai
def zdi:FnScope ["leading","half","back","crossing","start","place","other"] ["leading"] (zaf zci):=⟨rfl,rfl,rfl,by decide +kernel,rfl,by decide +kernel,by decide +kernel⟩
def zf7 {a:Addr} {fd:FuncData} (B:Blt K mg) (g_turned_back:A40 P w K mg base) (g_opposite:A41 P w K mg base) (g_back:A43 P w K mg base) (F:Fun K "through_upper" "through_upper" zci a fd):FnOk P w K mg base CX0 4 a fd ["leading"] zke:=by
 refine F.ok zdi (λ vs H Q E h=>?_) (λ cdv A outer s H vs Q E hr h=>?_)
 ·obtain ⟨a,ls,h,rfl,_⟩:=h;rfl
 ·have nd := zdi.nd;have hu := hr.units;obtain ⟨a, ls, h, rfl, ha, hev, hl, h1, h32, k⟩ := h;have P := zox hev hl;have eh : ((ls.map V.int).length : Int) / 2 = (h : Int) := by rw [yaa, hl]; omega
  refine ⟨_,((6:) (@zat _ _ 1 _ _ _ _ nd rfl (16:) ((12:) (@zd5 _) (54:) (17:)) (0:) (14:)) ((6:) (@zat _ _ 2 _ _ _ _ nd rfl (16:) ((9:) g_turned_back (10:) ((2:) (5:) (4:) (0:)) (0:) (3:) (0:) (0:)) (0:) (14:)) ((6:) (@zat _ _ 3 _ _ _ _ nd rfl (16:) ((12:) (68:) ((32:) ((2:) (53:) (4:) (0:))) (54:)) (0:) (14:)) ((6:) ((38:) yaJ rfl (80:) (@zam _ _ 4 _ nd rfl (16:) (14:)) ((6:) (@zat _ _ 5 _ _ _ _ nd rfl (16:) (33:) (0:) (14:)) ((7:) (@ziT _ _ _ _ _ _ yaJ ((21:) (@zlB _) ((42:) (44:) (20:) (46:) (43:)) (53:) (19:)) ((6:) ((60:) (36:) (@zeZ _ _ _ _ _ _ _ (20:) (46:) (@zb3 _) (18:)) (0:) (0:) (0:)) ((6:) (@zat _ _ 6 _ _ _ _ nd rfl (16:) ((42:) (44:) (15:) ((9:) g_opposite (10:) ((2:) ((42:) (44:) (5:) (46:) (43:)) ((2:) (13:) (4:) (0:)) (0:)) (0:) (3:) (0:) (0:)) (43:)) (0:) (14:)) ((6:) ((60:) (36:) (@zeZ _ _ _ _ _ _ _ (20:) (66:) (@zb3 _) (18:)) (0:) (0:) (0:)) ((7:) (@zat _ _ 5 _ _ _ _ nd rfl (16:) ((9:) g_opposite (10:) ((2:) (66:) ((2:) (13:) (4:) (0:)) (0:)) (0:) (3:) (0:) (0:)) (0:) (14:))))))))) (18:)) ((7:) ((11:) (20:))))))),?_⟩;symm;refine ⟨a,ls,rfl,ha,hev,by omega,λ t H1 s1 n1=>?_⟩;rw [eh];have ha:=s1 _ _ ha;symm;refine zaP (8:) λ l0 H2 f2 s2 n2=>?_;have ha:=s2 _ _ ha;have n1:=s2 _ _ n1;symm;refine zjo n2 (n:=2 * h) (by rw [yaa,hl]) (1:) λ l H3 f3 s3 n3=>?_
  have n3:H3 l=some (.lst (crV (2 * h) (zbs h ls 0))):=by
   rw [n3]
   have e:crV (2 * h) (zbs h ls 0)=List.replicate (2 * h) V.non:=List.eq_replicate_iff.mpr ⟨zep _ _,λ b hb=>by
    obtain ⟨p,_,e⟩:=yau.mp hb;exact e.symm⟩
   rw [e]
  symm;refine zmc (n:=h) rfl (1:) ?_;refine zdS (λ i σ H'=>Same H2 H' /\ H' l=some (.lst (crV (2 * h) (zbs h ls i))) /\ ∃ v4 v5 v6,σ=[some (.ref a),some (nV h),some (.ref t),some (.ref l),v4,v5,v6]) ⟨s3,n3,_,_,_,rfl⟩ ?_ ?_
  ·rintro i σ H4 hi ⟨s4, n4, v4, v5, v6, rfl⟩;symm;refine ⟨fun m σ H' => Same H2 H' /\ ∃ (c : Cr) (q : Nat) (v6 : Option V), q < 2 * h /\ zc5 h c = m /\ runC h ls c q = zbs h ls (i + 1) /\ H' l = some (.lst (crV (2 * h) c)) /\ σ = [some (.ref a), some (nV h), some (.ref t), some (.ref l), some (nV i), some (nV q), v6], ⟨_, s4, zbs h ls i, i, v6, by omega, rfl, rfl, n4, rfl⟩, ?_⟩;rintro m σ H5 ⟨s5, c, q, v6, hq, rfl, hrun, n5, rfl⟩;have ha5 := s5 _ _ ha;have nt5 := s5 _ _ n1;symm;refine zd9 (xs := crV (2 * h) c) (v := cV (c q)) (SqL.of n5) (1:) (znk c hq) ?_;symm;cases ec : c q with
   | none=>
    refine zck (λ _=>?_) (λ z=>absurd rfl z);refine ⟨λ σ' H'=>∃ m',m' < zc5 h c /\ Same H2 H' /\ ∃ (c:Cr) (q:Nat) (v6:Option V),q < 2 * h /\ zc5 h c=m' /\ runC h ls c q=zbs h ls (i + 1) /\ H' l=some (.lst (crV (2 * h) c)) /\ σ'=[some (.ref a),some (nV h),some (.ref t),some (.ref l),some (nV i),some (nV q),v6],λ σ' H' h=>h,?_⟩;have sq:=zeE hev (p:=q) (1:);have oq:=zdk (h:=h) (p:=srcP ls q) (1:);have tq:=P.lt q hq;symm;refine zmE (j:=q) n5 (by rw [zep]; unfold ixN; simp; omega) ?_;rw [znE];have s6:Same H2 (upd H5 l (.lst (crV (2 * h) (putC c q false)))):=s5.updF f3;have n6:upd H5 l (.lst (crV (2 * h) (putC c q false))) l=some (.lst (crV (2 * h) (putC c q false))):=zai;generalize upd H5 l (.lst (crV (2 * h) (putC c q false)))=H6 at s6 n6 ⊢;have ha6:=s6 _ _ ha;have nt6:=s6 _ _ n1;symm;refine zdn (xs:=ls.map V.int) (v:=nV (srcP ls q)) (SqT.of ha6) (1:) ?_ ?_
    ·show (ls.map V.int)[q]?=_;rw [yaf,yac (1:)];have:=sq.2.1;rw [yab,yac (1:)] at this;exact congrArg (λ z=>some (V.int z)) this
    symm;refine ⟨srcP ls q,h,rfl,?_⟩;symm;refine zdn (xs:=(zj8 ls).map V.int) (v:=nV (tauL h ls q)) (SqT.of nt6) (1:) ?_ ?_
    ·show ((zj8 ls).map V.int)[opp h (srcP ls q)]?=_;rw [yaf,zj8,yaf,yay (1:)];rfl
    symm;refine zmE (j:=tauL h ls q) n6 (by rw [zep]; unfold ixN; simp; omega) ?_;rw [znE];have s7:Same H2 (upd H6 l (.lst (crV (2 * h) (putC (putC c q false) (tauL h ls q) true)))):=s6.updF f3;have n7:upd H6 l (.lst (crV (2 * h) (putC (putC c q false) (tauL h ls q) true))) l=some (.lst (crV (2 * h) (putC (putC c q false) (tauL h ls q) true))):=zai;generalize upd H6 l (.lst (crV (2 * h) (putC (putC c q false) (tauL h ls q) true)))=H7 at s7 n7 ⊢;symm;refine ⟨tauL h ls q,h,rfl,?_⟩;symm;exact ⟨_,ze2 hq ec,s7,_,opp h (tauL h ls q),_,zdk tq,rfl,by rw [<- hrun,ziJ P hq ec]; rfl,n7,rfl⟩
   | some b=>
    refine zck (λ z=>by cases z) (λ _=>?_);symm;rw [zij (by rw [ec]; simp)] at hrun;rw [hrun] at n5;exact ⟨s5,n5,_,_,_,rfl⟩
  ·rintro σ H4 ⟨s4,n4,v4,v5,v6,rfl⟩;symm;refine k l H4 ((s1.trans s2).trans s4) ?_;rw [n4];congr 2;unfold crV;apply yaM;intro p hp;rw [(ziy hev hl).2 p (yai.mp hp)];rfl
def ze1:FnScope ["leading"] ["leading"] (zaf zdK):=⟨rfl,rfl,rfl,by decide +kernel,rfl,by decide +kernel,by decide +kernel⟩
def za5 {a:Addr} {fd:FuncData} (B:Blt K mg) {j:Nat}  (g_paper_of:FnAt P w K mg base "paper_of" ["leading"] (2 * j + 4) (zb9 j)) (F:Fun K "with_paper" "with_paper" zdK a fd):FnOk P w K mg base CX0 (2 * j + 4 + 1) a fd ["leading"] (zdb (j + 1)):=by
 refine F.ok ze1 (λ vs H Q E h=>?_) (λ cdv A outer s H vs Q E hr h=>?_)
 ·obtain ⟨a,ls,k,rfl,_⟩:=h;rfl
 ·have nd := ze1.nd;have hu := hr.units;obtain ⟨a, ls, k, rfl, ha, hev, hl, hk, hk6, kk⟩ := h;obtain ⟨i, rfl⟩ : ∃ i, j = i + 1 := ⟨j - 1, by omega⟩
  refine ⟨_,((7:) ((11:) ((26:) ((2:) (5:) ((2:) ((9:) g_paper_of (62:) ((2:) (5:) (4:) (0:)) (0:) (3:) (0:) (0:)) (4:) (0:)) (0:))))),?_⟩;symm;refine ⟨a,ls,k,rfl,ha,hev,hl,by omega,hk6,λ t H1 s1 ht=>?_⟩;refine zaw (8:) λ x H2 f2 s2 n2=>?_;exact kk x t H2 (s1.trans s2) n2 (ht.same s2)
def zg6:FnScope ["leading","half","crossing","first","last","lower","upper"] ["leading"] (zaf zbF):=⟨rfl,rfl,rfl,by decide +kernel,rfl,by decide +kernel,by decide +kernel⟩
def zbh {a:Addr} {fd:FuncData} (B:Blt K mg) {j:Nat} (g_mask_of:A17 P w K mg base) (g_through_upper:A44 P w K mg base) (g_with_paper:FnAt P w K mg base "with_paper" ["leading"] (2 * j + 5) (zdb (j + 1))) (F:Fun K "paper_of" "paper_of" zbF a fd):FnOk P w K mg base CX0 (2 * j + 5 + 1) a fd ["leading"] (zb9 (j + 1)):=by
 refine F.ok zg6 (λ vs H Q E h=>?_) (λ cdv A outer s H vs Q E hr h=>?_)
 ·obtain ⟨a,ls,k,rfl,_⟩:=h;rfl
 ·have nd := zg6.nd;have hu := hr.units;obtain ⟨a, ls, k, rfl, ha, hev, hl, hk, hk6, kk⟩ := h;have h64 := zd3 hk6;refine ⟨_, ((6:) (@zat _ _ 1 _ _ _ _ nd rfl (Or.inr rfl) ((12:) (@zd5 _) (54:) (17:)) (0:) (14:)) ((6:) ((22:) ((21:) (29:) (13:) (17:) (19:)) ((7:) ((11:) ((26:) (4:)))) (23:)) ((6:) (@zat _ _ 2 _ _ _ _ nd rfl (Or.inr rfl) ((9:) g_through_upper (62:) ((2:) (5:) (4:) (0:)) (0:) (3:) (0:) (0:)) (0:) (14:)) ((6:) (@zat _ _ 3 _ _ _ _ nd rfl (16:) ((9:) g_mask_of (62:) ((2:) (@zaW _ _ _ _ _ _ (zaf zbF) _ ["leading", "half", "crossing", "first", "last", "lower", "upper"] ["place", "entry", "crossing", "half"] [none, none, some 2, some 1] _ _ _ _ rfl (63:) (fun _ _ _ _ => (@za8 _ K _ _ _ _ 2 rfl ((45:) (@zam _ _ 0 _ (show List.Nodup (["place", "entry", "crossing", "half"] : List Str) by decide +kernel) rfl (16:) (14:)) ((45:) (@zam _ _ 1 _ (show List.Nodup (["place", "entry", "crossing", "half"] : List Str) by decide +kernel) rfl (16:) (14:)) (@za6 _) (0:)) (0:)) (0:) (0:) (0:))) (fun _ _ _ _ => ((48:) (@PW.pt _ _ _ ((78:) (89:) (@zds _ _ _ _ ((21:) (@zpI _) (13:) (20:) (19:))))))) (fun _ _ _ _ => (13:)) (25:) (0:) (0:) (18:)) (4:) (0:)) (0:) (3:) (0:) (0:)) (0:) (14:)) ((6:) (@zat _ _ 4 _ _ _ _ nd rfl (16:) ((9:) g_mask_of (62:) ((2:) (@zaW _ _ _ _ _ _ (zaf zbF) _ ["leading", "half", "crossing", "first", "last", "lower", "upper"] ["place", "crossing"] [none, some 2] _ _ _ _ rfl (80:) (fun _ _ _ _ => (@zam _ _ 0 _ (show List.Nodup (["place", "crossing"] : List Str) by decide +kernel) rfl (16:) (14:))) (fun _ _ _ _ => ((48:) ((50:) ((42:) (44:) (13:) (5:) (43:)) (18:)))) (fun _ _ _ _ => (5:)) (25:) (0:) (0:) (18:)) (4:) (0:)) (0:) (3:) (0:) (0:)) (0:) (14:)) ((6:) (@zaR _ _ _ _ _ _ (zaf zbF) _ ["leading", "half", "crossing", "first", "last", "lower", "upper"] ["place", "leading", "crossing", "half"] [none, some 0, some 2, some 1] _ _ _ _ 5 _ _ _ nd rfl (16:) rfl (80:) (fun _ _ _ _ => (91:)) (fun _ _ _ _ => (@zba _)) (fun _ _ _ _ => ((12:) (@zcO _) ((42:) (44:) (13:) ((55:) (89:) ((12:) (31:) (5:) (20:)) (5:)) (43:)) (20:))) (25:) (0:) (0:) (18:) (0:) (14:)) ((6:) (@zaR _ _ _ _ _ _ (zaf zbF) _ ["leading", "half", "crossing", "first", "last", "lower", "upper"] ["place", "leading", "crossing", "half"] [none, some 0, some 2, some 1] _ _ _ _ 6 _ _ _ nd rfl (16:) rfl (80:) (fun _ _ _ _ => (91:)) (fun _ _ _ _ => (@zba _)) (fun _ _ _ _ => ((12:) (@zcO _) ((42:) (44:) (13:) ((55:) (89:) (5:) ((12:) (31:) (5:) (20:))) (43:)) (20:))) (25:) (0:) (0:) (18:) (0:) (14:)) ((7:) ((11:) ((26:) ((2:) (20:) ((2:) (33:) ((2:) ((9:) g_with_paper (62:) ((2:) ((59:) (61:) rfl B.b_tuple boot_tuple ((2:) (46:) (4:) (0:)) (3:) (3:) (0:) (0:)) (4:) (0:)) (0:) (3:) (0:) (0:)) ((2:) ((9:) g_with_paper (62:) ((2:) ((59:) (61:) rfl B.b_tuple boot_tuple ((2:) (66:) (4:) (0:)) (3:) (3:) (0:) (0:)) (4:) (0:)) (0:) (3:) (0:) (0:)) (4:) (0:)) (0:)) (0:)) (0:)))))))))))), ?_⟩;symm;cases k with
  | zero=>
   refine zbE (λ z=>?_) (λ z=>absurd (show _=(0:Int) by rw [yaa,hl]; rfl) z);symm;refine zaw (8:) λ t H1 f1 s1 n1=>?_;exact kk t H1 s1 n1
  | succ k=>
   obtain ⟨h,eh⟩:∃ h,h=2 ^ k:=⟨_,rfl⟩
   have h1:1 <= h:=by rw [eh]; exact yaS k
   have hl2:ls.length=2 * h:=by rw [hl,eh,ybq]; omega
   have h32:h <= 32:=by rw [ybq,<- eh] at h64; omega
   rw [show ((ls.map V.int).length:Int) / 2=(h:Int) by rw [yaa,hl2]; omega];refine zbE (λ z=>absurd z (1:)) (λ _=>?_);symm;refine ⟨a,ls,h,rfl,ha,hev,hl2,h1,h32,λ c H1 s1 n1=>?_⟩;have ha:=s1 _ _ ha;symm;refine ⟨a,ls.map V.int,rfl,.inr ⟨SqT.of ha,?_⟩⟩;refine zbn (λ i acc H'=>Same H1 H' /\ i <= 64 /\ acc=(fstL h ls (zas h ls) i).map nV) ⟨Same.refl _,by omega,rfl⟩ (λ i acc H' z=>?_) (λ i acc H' z=>SqT.of (z.1 _ _ ha)) ?_ ?_
   ·obtain ⟨_,hi,rfl⟩:=z;have:=zqz (h:=h) (ls:=ls) (X:=zas h ls) (n:=i);rw [yaa];exact yaw (small5 (1:))
   ·rintro i u T acc H' hu hT ⟨s2, hi, rfl⟩;have hi2 : i < ls.length := by have := (yad.mp hu).1; rw [yaa] at this; exact this
    rw [zjm hev hi2] at hu;cases hu;have s3:=s2.trans (zak (o:=.tup [V.int (i:Int),nV (srcP ls i)]) hT);have nT:upd H' T (.tup [V.int (i:Int),nV (srcP ls i)]) T=some (.tup [V.int (i:Int),nV (srcP ls i)]):=zai;generalize upd H' T (.tup [V.int (i:Int),nV (srcP ls i)])=H2 at s3 nT ⊢;symm;refine zd9 (v:=.bl (zas h ls i)) (SqL.of (s3 _ _ n1)) (1:) (zly (1:)) ?_;symm;cases hx:zas h ls i
    ·symm;exact ⟨s3,by omega,by rw [ziM,hx]; simp⟩
    ·symm;by_cases hs : srcP ls i < h
     ·refine zck (λ _=>?_) (λ z=>absurd (1:) z);symm;exact ⟨s3,by omega,by rw [ziM,hx,decide_eq_true hs]; simp⟩
     ·refine zck (λ z=>absurd z (1:)) (λ _=>?_);exact ⟨s3,by omega,by rw [ziM,hx,decide_eq_false hs]; simp⟩
   ·rintro acc H2 ⟨s2, _, rfl⟩ p hp;rw [show (ls.map V.int).length = 2 * h by rw [yaa, hl2]];have s3 := s2.trans (zak (o := .lst ((fstL h ls (zas h ls) (2 * h)).map nV)) hp);have n3 : upd H2 p (.lst ((fstL h ls (zas h ls) (2 * h)).map nV)) p = some (.lst ((fstL h ls (zas h ls) (2 * h)).map nV)) := zai;generalize upd H2 p (.lst ((fstL h ls (zas h ls) (2 * h)).map nV)) = H3 at s3 n3 ⊢;symm;refine ⟨p, _, rfl, .inl (SqL.of n3), fun q hq => by have := znm hq; omega, ?_⟩;rw [zpD hev hl2];have ha := s3 _ _ ha;have n1 := s3 _ _ n1;symm;refine zed (n := h) rfl (1:) ?_;refine zaV (fun i acc H' => H' = H3 /\ i <= 64 /\ acc = ((List.range i).filter (zas h ls)).map nV) ⟨rfl, by omega, rfl⟩ (fun i acc H' z => ?_) ?_ ?_
    ·obtain ⟨_,hi,rfl⟩:=z;have:=yaB (zas h ls) (List.range i);rw [yah] at this;rw [yaa];exact yaw (small5 (1:))
    ·rintro i acc H' hi ⟨rfl, _, rfl⟩;symm;refine zd9 (v := .bl (zas h ls i)) (SqL.of n1) (1:) (zly (1:)) ?_;symm;cases hx : zas h ls i
     ·symm;exact ⟨rfl,by omega,by rw [yar,yap,yae]; simp [hx]⟩
     ·symm;exact ⟨rfl,by omega,by rw [yar,yap,yae]; simp [hx]⟩
    ·rintro acc H4 ⟨rfl, _, rfl⟩ q hq;have s5 := s3.trans (zak (o := .lst (((List.range h).filter (zas h ls)).map nV)) hq);have n5 : upd H4 q (.lst (((List.range h).filter (zas h ls)).map nV)) q = some (.lst (((List.range h).filter (zas h ls)).map nV)) := zai;have ha := zak (o := .lst (((List.range h).filter (zas h ls)).map nV)) hq _ _ ha;have n1 := zak (o := .lst (((List.range h).filter (zas h ls)).map nV)) hq _ _ n1;generalize upd H4 q (.lst (((List.range h).filter (zas h ls)).map nV)) = H5 at s5 n5 ha n1 ⊢;symm;refine ⟨q, _, rfl, .inl (SqL.of n5), fun q hq => by have := yai.mp (yaq.mp hq).1; omega, ?_⟩;rw [show zaI ((List.range h).filter (zas h ls)) = m2N h (zas h ls) from rfl];symm;refine zed (n := h) rfl (1:) ?_;refine zaV (fun i acc H' => H' = H5 /\ i <= 64 /\ acc = (List.range i).map fun r => V.int (lowE h ls (zas h ls) r : Int)) ⟨rfl, by omega, rfl⟩ (fun i acc H' z => ?_) ?_ ?_
     ·obtain ⟨_,hi,rfl⟩:=z;rw [yaa,yah];exact yaw (small5 (1:))
     ·rintro i acc H' hi ⟨rfl, _, rfl⟩;symm;refine zd9 (v := .bl (zas h ls i)) (SqL.of n1) (1:) (zly (1:)) ?_;symm;cases hx : zas h ls i
      ·symm;refine zdn (v := nV (srcP ls (i))) (SqT.of ha) (1:) ?_ ?_
       ·rw [show Int.toNat ((i:Int))=i by omega];exact zjm hev (1:)
       symm;rw [show ((srcP ls (i):Nat):Int) % (h:Int)=((lowE h ls (zas h ls) i:Nat):Int) by unfold lowE; rw [hx]; simp];exact ⟨rfl,by omega,zgi.symm⟩
      ·symm;refine zdn (v := nV (srcP ls (i + h))) (SqT.of ha) (1:) ?_ ?_
       ·rw [show Int.toNat ((i:Int) + (h:Int))=i + h by omega];exact zjm hev (1:)
       symm;rw [show ((srcP ls (i + h):Nat):Int) % (h:Int)=((lowE h ls (zas h ls) i:Nat):Int) by unfold lowE; rw [hx]; simp];exact ⟨rfl,by omega,zgi.symm⟩
     ·rintro acc H6 ⟨rfl, _, rfl⟩ r hr;have s7 := s5.trans (zak (o := .lst ((List.range h).map fun r => V.int (lowE h ls (zas h ls) r : Int))) hr);have n7 : upd H6 r (.lst ((List.range h).map fun r => V.int (lowE h ls (zas h ls) r : Int))) r = some (.lst ((List.range h).map fun r => V.int (lowE h ls (zas h ls) r : Int))) := zai;have ha := zak (o := .lst ((List.range h).map fun r => V.int (lowE h ls (zas h ls) r : Int))) hr _ _ ha;have n1 := zak (o := .lst ((List.range h).map fun r => V.int (lowE h ls (zas h ls) r : Int))) hr _ _ n1;generalize upd H6 r (.lst ((List.range h).map fun r => V.int (lowE h ls (zas h ls) r : Int))) = H7 at s7 n7 ha n1 ⊢;symm;refine zed (n := h) rfl (1:) ?_;refine zaV (fun i acc H' => H' = H7 /\ i <= 64 /\ acc = (List.range i).map fun r => V.int (uppE h ls (zas h ls) r : Int)) ⟨rfl, by omega, rfl⟩ (fun i acc H' z => ?_) ?_ ?_
      ·obtain ⟨_,hi,rfl⟩:=z;rw [yaa,yah];exact yaw (small5 (1:))
      ·rintro i acc H' hi ⟨rfl, _, rfl⟩;symm;refine zd9 (v := .bl (zas h ls i)) (SqL.of n1) (1:) (zly (1:)) ?_;symm;cases hx : zas h ls i
       ·symm;refine zdn (v := nV (srcP ls (i + h))) (SqT.of ha) (1:) ?_ ?_
        ·rw [show Int.toNat ((i:Int) + (h:Int))=i + h by omega];exact zjm hev (1:)
        symm;rw [show ((srcP ls (i + h):Nat):Int) % (h:Int)=((uppE h ls (zas h ls) i:Nat):Int) by unfold uppE; rw [hx]; simp];exact ⟨rfl,by omega,zgi.symm⟩
       ·symm;refine zdn (v := nV (srcP ls (i))) (SqT.of ha) (1:) ?_ ?_
        ·rw [show Int.toNat ((i:Int))=i by omega];exact zjm hev (1:)
        symm;rw [show ((srcP ls (i):Nat):Int) % (h:Int)=((uppE h ls (zas h ls) i:Nat):Int) by unfold uppE; rw [hx]; simp];exact ⟨rfl,by omega,zgi.symm⟩
      ·rintro acc H8 ⟨rfl, _, rfl⟩ u hu;have s9 := s7.trans (zak (o := .lst ((List.range h).map fun r => V.int (uppE h ls (zas h ls) r : Int))) hu);have n9 : upd H8 u (.lst ((List.range h).map fun r => V.int (uppE h ls (zas h ls) r : Int))) u = some (.lst ((List.range h).map fun r => V.int (uppE h ls (zas h ls) r : Int))) := zai;have n7 := zak (o := .lst ((List.range h).map fun r => V.int (uppE h ls (zas h ls) r : Int))) hu _ _ n7;generalize upd H8 u (.lst ((List.range h).map fun r => V.int (uppE h ls (zas h ls) r : Int))) = H9 at s9 n9 n7 ⊢;have C := (ziy hev hl2).1;have e1 := zls hev hl2 C;have e2 := zlQ hev hl2 C;rw [show ((List.range h).map fun r => V.int (lowE h ls (zas h ls) r : Int)) = (lowL h ls (zas h ls)).map V.int by unfold lowL; rw [yaX]; rfl] at n7;rw [show ((List.range h).map fun r => V.int (uppE h ls (zas h ls) r : Int)) = (uppL h ls (zas h ls)).map V.int by unfold uppL; rw [yaX]; rfl] at n9;have l1 : (lowL h ls (zas h ls)).length = 2 ^ k := by rw [<- eh]; simp [lowL]
       have l2:(uppL h ls (zas h ls)).length=2 ^ k:=by rw [<- eh]; simp [uppL]
       symm;refine ⟨r,_,rfl,.inl ⟨SqL.of n7,λ t1 ht1=>?_⟩⟩;have sa:=zak (o:=.tup ((lowL h ls (zas h ls)).map V.int)) ht1;have na:upd H9 t1 (.tup ((lowL h ls (zas h ls)).map V.int)) t1=some (.tup ((lowL h ls (zas h ls)).map V.int)):=zai;generalize upd H9 t1 (.tup ((lowL h ls (zas h ls)).map V.int))=Ha at sa na ⊢;symm;refine ⟨t1,_,k,rfl,na,e1,l1,by omega,by omega,λ x1 p1 Hb sb nb pb=>?_⟩;symm;refine ⟨u,_,rfl,.inl ⟨SqL.of (sb _ _ (sa _ _ n9)),λ t2 ht2=>?_⟩⟩;have sc:=zak (o:=.tup ((uppL h ls (zas h ls)).map V.int)) ht2;have nc:upd Hb t2 (.tup ((uppL h ls (zas h ls)).map V.int)) t2=some (.tup ((uppL h ls (zas h ls)).map V.int)):=zai;generalize upd Hb t2 (.tup ((uppL h ls (zas h ls)).map V.int))=Hc at sc nc ⊢;symm;refine ⟨t2,_,k,rfl,nc,e2,l2,by omega,by omega,λ x2 p2 Hd sd nd2 pd=>?_⟩;refine zaw (8:) λ t He fe se ne=>?_;refine kk t He (((((s1.trans s9).trans sa).trans sb).trans sc).trans (sd.trans se)) ?_;have sce:=sc.trans (sd.trans se);subst eh;exact ⟨x1,x2,t1,p1,t2,p2,ne,sce _ _ nb,sce _ _ (sb _ _ na),pb.same sce,se _ _ nd2,(sd.trans se) _ _ nc,pd.same se⟩
def zj1:FnScope ["leading"] ["leading"] (zaf zi1):=⟨rfl,rfl,rfl,by decide +kernel,rfl,by decide +kernel,by decide +kernel⟩
def znW {a:Addr} {fd:FuncData} (B:Blt K mg) (g_is_even:A39 P w K mg base) (g_check_halved:A38 P w K mg base) (g_paper_of:A46 P w K mg base) (F:Fun K "halves" "halves" zi1 a fd):FnOk P w K mg base CX0 19 a fd ["leading"] zmg:=by
 refine F.ok zj1 (λ vs H Q E h=>?_) (λ cdv A outer s H vs Q E hr h=>?_)
 ·obtain ⟨a,ls,k,rfl,_⟩:=h;rfl
 ·have nd:=zj1.nd;have hu:=hr.units;obtain ⟨a,ls,k,rfl,ha,hev,hl,hk,kk⟩:=h;have h64:=zd3 hk;refine ⟨_,((6:) (98:) ((6:) ((22:) (95:) ((7:) (@ze7 _ _ _ _)) (23:)) ((7:) ((11:) ((9:) g_paper_of (10:) ((2:) (5:) (4:) (0:)) (0:) (3:) (0:) (0:)))))),?_⟩;symm;rw [yaa,hl];refine ⟨2 ^ k,rfl,zfi k hk,?_⟩;symm;refine ⟨a,ls,2 ^ k,rfl,ha,hl ▸ zfj hev,h64,λ H1 s1=>?_⟩;have ha:=s1 _ _ ha;rw [show znj ls=true from decide_eq_true hev];symm;refine ⟨a,ls,k,rfl,ha,hev,hl,hk,hk,λ t H2 s2 ht=>?_⟩;exact kk t H2 (s1.trans s2) ht
def zej:FnScope ["one","other","half"] ["one","other","half"] (zaf zc1):=⟨rfl,rfl,rfl,by decide +kernel,rfl,by decide +kernel,by decide +kernel⟩
def zhk {a:Addr} {fd:FuncData} (B:Blt K mg)  (F:Fun K "beside_swap" "beside_swap" zc1 a fd):FnOk P w K mg base CX0 1 a fd ["one","other","half"] zjy:=by
 refine F.ok zej (λ vs H Q E h=>?_) (λ cdv A outer s H vs Q E hr h=>?_)
 ·obtain ⟨a,b,x,y,n,h,rfl,_⟩:=h;rfl
 ·have nd:=zej.nd;have hu:=hr.units;obtain ⟨a,b,x,y,n,h,rfl,ha,hb,hh,hy,k⟩:=h;refine ⟨_,((7:) ((11:) ((26:) ((27:) ((2:) ((12:) (@zko _) (41:) ((12:) (@zca _) (24:) (15:))) ((2:) (41:) (4:) (0:)) (0:)))))),?_⟩;symm;rw [zqD];refine zaw (8:) λ t H1 f1 s1 n1=>?_;exact k t H1 s1 n1
def zgC:FnScope ["width","paper","half","lower","upper","within"] ["width","paper"] (zaf zdZ):=⟨rfl,rfl,rfl,by decide +kernel,rfl,by decide +kernel,by decide +kernel⟩
def zbi {a:Addr} {fd:FuncData} (B:Blt K mg) {j:Nat} (g_beside_swap:A48 P w K mg base) (g_swaps_by:FnAt P w K mg base "swaps_by" ["width","paper"] (j + 1) (zbd j)) (F:Fun K "swaps_by" "swaps_by" zdZ a fd):FnOk P w K mg base CX0 (j + 1 + 1) a fd ["width","paper"] (zbd (j + 1)):=by
 refine F.ok zgC (λ vs H Q E h=>?_) (λ cdv A outer s H vs Q E hr h=>?_)
 ·obtain ⟨a,ls,P,k,rfl,_⟩:=h;rfl
 ·have nd := zgC.nd;have hu := hr.units;obtain ⟨a, ls, P, k, rfl, ha, hS, hl, hk, hk6, kk⟩ := h;have h64 := zd3 hk6;refine ⟨_, ((6:) (@zat _ _ 2 _ _ _ _ nd rfl (Or.inr rfl) ((12:) (@zd5 _) (5:) (17:)) (0:) (14:)) ((6:) ((22:) ((21:) (29:) (15:) (17:) (19:)) ((7:) ((11:) ((32:) (4:)))) (23:)) ((6:) ((22:) ((21:) (29:) (15:) (17:) (19:)) ((7:) ((11:) ((32:) ((2:) ((26:) ((27:) ((2:) ((12:) (@zh6 _) (24:) (24:)) ((2:) (17:) (4:) (0:)) (0:)))) (4:) (0:))))) (23:)) ((6:) (@zat _ _ 3 _ _ _ _ nd rfl (16:) ((9:) g_swaps_by (62:) ((2:) (15:) ((2:) ((42:) (44:) (24:) (17:) (43:)) (4:) (0:)) (0:)) (0:) (3:) (0:) (0:)) (0:) (14:)) ((6:) (@zat _ _ 4 _ _ _ _ nd rfl (16:) ((9:) g_swaps_by (62:) ((2:) (15:) ((2:) ((42:) (44:) (24:) (17:) (43:)) (4:) (0:)) (0:)) (0:) (3:) (0:) (0:)) (0:) (14:)) ((6:) (@zaR _ _ _ _ _ _ (zaf zdZ) _ ["width", "paper", "half", "lower", "upper", "within"] ["one", "other", "half"] [none, none, some 2] _ _ _ _ 5 _ _ _ nd rfl (16:) rfl (96:) (fun _ _ _ _ => (@za8 _ K _ _ _ _ 2 rfl ((45:) (@zam _ _ 0 _ (show List.Nodup (["one", "other", "half"] : List Str) by decide +kernel) rfl (16:) (14:)) ((45:) (@zam _ _ 1 _ (show List.Nodup (["one", "other", "half"] : List Str) by decide +kernel) rfl (16:) (14:)) (@za6 _) (0:)) (0:)) (0:) (0:) (0:))) (fun _ _ _ _ => (@zba _)) (fun _ _ _ _ => ((9:) g_beside_swap (62:) ((2:) (5:) ((2:) (13:) ((2:) (15:) (4:) (0:)) (0:)) (0:)) (0:) (3:) (0:) (0:))) (25:) (0:) (0:) (18:) (0:) (14:)) ((7:) ((11:) ((12:) (31:) ((12:) (31:) ((32:) ((2:) ((26:) ((27:) ((2:) (24:) ((2:) (15:) (4:) (0:)) (0:)))) (4:) (0:))) (46:)) ((32:) ((2:) ((26:) ((27:) ((2:) (24:) ((2:) (15:) (4:) (0:)) (0:)))) (4:) (0:)))))))))))), ?_⟩;symm;cases k with
  | zero=>
   refine zbE (λ z=>?_) (λ z=>absurd rfl z);symm;refine zaP (8:) λ l H1 f1 s1 n1=>?_;cases P with
   | nil=>exact kk l [] H1 f1 s1 n1 (Rw.nil _ _) rfl
   | node m1 m2 lo pl up pu=>
    obtain ⟨h,h1,e,_⟩:=hS;rw [hl] at e;exact absurd e (1:)
  | succ k=>
   have ep:2 ^ (k + 1)=2 * 2 ^ k:=by rw [ybq]; omega
   have es:2 * 2 ^ k / 2=2 ^ k:=by omega
   have p1:1 <= 2 ^ k:=yaS k;cases P with
   | nil=>
    have:=hS.1;omega
   | node m1 m2 lo pl up pu=>
    obtain ⟨h,_,e,b1,b2,l1,l2,e1,e2,ej,s1,s2⟩:=hS;have hh:h=2 ^ k:=by omega
    subst hh;have rp:=ze0 (k + 1) (.node m1 m2 lo pl up pu) ls hl ⟨2 ^ k,by omega,e,b1,b2,l1,l2,e1,e2,ej,s1,s2⟩;have rl:=ze0 k pl lo l1 s1;have ru:=ze0 k pu up l2 s2;have hfl:=zj6 k;rw [show (((2 ^ (k + 1):Nat):Int)) / 2=((2 ^ k:Nat):Int) by omega];obtain ⟨x,y,lx,px,ly,py,ha,hx,hlx,hpx,hy,hly,hpy⟩:=ha;refine zbE (λ z=>absurd z (1:)) (λ _=>?_);symm;refine zbE (λ z=>?_) (λ z=>?_)
    ·have k0 : 2 ^ k = 1 := by omega
     symm;rw [zb6];refine zaw (8:) λ t H1 f1 s1 n1=>?_;refine zaP (8:) λ l H2 f2 s2 n2=>?_
     have er:rowP (2 ^ (k + 1)) (.node m1 m2 lo pl up pu)=[Dd.swap (m1 ^^^ m2) 1]:=by
      unfold rowP;rw [if_pos (1:)]
     refine kk l [(t,Dd.swap (m1 ^^^ m2) 1)] H2 (s1.free f2) (s1.trans s2) n2 (λ q hq=>?_) er.symm;rw [yax.mp hq];obtain ⟨_,_,_,ok⟩:=rp.1;rw [er] at ok;exact ⟨s2 _ _ n1,ok _ yaT⟩
    ·symm;obtain ⟨i, rfl⟩ : ∃ i, j = i + 1 := ⟨j - 1, by omega⟩
     refine ⟨px,lo,pl,k,rfl,hpx,s1,l1,by omega,by omega,λ lA A H1 fA sA nA rA dA=>?_⟩;have ha:=sA _ _ ha;have hy:=sA _ _ hy;symm;refine ⟨py,up,pu,k,rfl,hpy.same sA,s2,l2,by omega,by omega,λ lB B H2 fB sB nB rB dB=>?_⟩;have ha:=sB _ _ ha;have nA:=sB _ _ nA;have rA:=rA.same sB;obtain ⟨ma,la,ea,oa⟩:=rl.1;obtain ⟨mb,lb,eb,ob⟩:=ru.1;have lenA:A.length=(zgQ k).length:=by rw [<- zcC A,dA,ea,ybu,la,ych]
     have lenB:B.length=(zgQ k).length:=by rw [<- zcC B,dB,eb,ybu,lb,ych]
     symm;refine ⟨lA,lB,_,_,rfl,SqL.of nA,SqL.of nB,?_⟩;refine zmk (λ i acc H'=>Same H2 H' /\ ∃ W:List (Addr × Dd),acc=rowV W /\ Rw H' (2 ^ (k + 1)) W /\ W.length <= 64 /\ dds W=(List.zipWith (zdA (2 ^ k)) (dds A) (dds B)).take i) ⟨Same.refl _,[],rfl,Rw.nil _ _,by simp,rfl⟩ (λ i acc H' z=>?_) (λ i acc H' z=>⟨SqL.of (z.1 _ _ nA),SqL.of (z.1 _ _ nB)⟩) ?_ ?_
     ·obtain ⟨_,W,rfl,_,lw,_⟩:=z;rw [zbe];exact yaw (small5 (1:))
     ·rintro i u v T acc H' hu hv hT ⟨s3, W, rfl, rW, lW, dW⟩;have s4 := zak (o := .tup [u, v]) hT;have nT : upd H' T (.tup [u, v]) T = some (.tup [u, v]) := zai;generalize upd H' T (.tup [u, v]) = H4 at s4 nT ⊢;have sT := s3.trans s4;obtain ⟨p, q, xx, yy, n, rfl, rfl, hp, hq, op, oq, ez⟩ := zsv (dA.trans ea) (dB.trans eb) hu hv (rA.same sT) (rB.same sT);have ylt := zku oq;have yb : yy < 18446744073709551616 := yag ylt (yaG (n := 2) (3:) (show 2 ^ k <= 64 by omega));symm;refine ⟨p, q, xx, yy, n, 2 ^ k, rfl, hp, hq, by omega, yb, fun t H5 s5 n5 => ?_⟩;refine ⟨sT.trans s5, W ++ [(t, Dd.swap (xx ||| yy * 2 ^ 2 ^ k) n)], by unfold rowV; rw [yae]; rfl, Rw.snoc rW (s4.trans s5) n5 (by rw [ep]; exact zje op oq), ?_, ?_⟩
      ·have hi:=(yad.mp hu).1;rw [zbe] at hi;have:=congrArg List.length dW;rw [zcC,yaZ] at this;rw [yao,ycC];omega
      ·rw [yaz,ez,<- dW];unfold dds;rw [yae];rfl
     ·rintro acc H3 ⟨s3, W, rfl, rW, lW, dW⟩ q hq
      have dW:dds W=List.zipWith (zdA (2 ^ k)) (dds A) (dds B):=by
       rw [dW,zbe,zbe,lenA,lenB,ych,yav (by rw [ybu,zcC,zcC]; omega)]
      have s4:=zak (o:=.lst (rowV W)) hq;have n4:upd H3 q (.lst (rowV W)) q=some (.lst (rowV W)):=zai;generalize upd H3 q (.lst (rowV W))=H4 at s4 n4 ⊢;have ha:=s4 _ _ (s3 _ _ ha);have rW:=rW.same s4;symm;refine zaw (8:) λ t1 H5 f5 s5 n5=>?_;symm;refine zaP (8:) λ q1 H6 f6 s6 n6=>?_;symm;refine zdN n6 (s6 _ _ (s5 _ _ n4)) (by simp only [ybB,ycV,zbe]; omega) λ q2 H7 f7 s7 n7=>?_;have ha:=s7 _ _ (s6 _ _ (s5 _ _ ha));symm;refine zaw (8:) λ t2 H8 f8 s8 n8=>?_;symm;refine zaP (8:) λ q3 H9 f9 s9 n9=>?_;symm;refine zdN (s9 _ _ (s8 _ _ n7)) n9 (by simp only [yao,ybB,ycV,zbe]; omega) λ q4 Ha fa sa na=>?_
      have er:rowP (2 ^ (k + 1)) (.node m1 m2 lo pl up pu)=[Dd.swap m1 (2 ^ k)] ++ List.zipWith (zdA (2 ^ k)) (rowP (2 ^ k) pl) (rowP (2 ^ k) pu) ++ [Dd.swap m2 (2 ^ k)]:=by
       conv=>lhs; unfold rowP
       rw [ep,es,if_neg (1:)]
      obtain ⟨_,_,_,ok⟩:=rp.1;rw [er] at ok;have s45:Same H4 Ha:=s5.trans (s6.trans (s7.trans (s8.trans (s9.trans sa))));have sall:Same H Ha:=sA.trans (sB.trans (s3.trans (s4.trans s45)));refine kk q4 ((t1,Dd.swap m1 (2 ^ k)) :: W ++ [(t2,Dd.swap m2 (2 ^ k))]) Ha ((sA.trans (sB.trans (s3.trans (s4.trans (s5.trans (s6.trans (s7.trans (s8.trans s9)))))))).free fa) sall ?_ ?_ ?_
      ·rw [na];unfold rowV;rw [yae];rfl
      ·intro z hz;rcases yaA.mp hz with hz | hz
       ·rcases yaD.mp hz with rfl | hz
        ·exact ⟨sa _ _ (s9 _ _ (s8 _ _ (s7 _ _ (s6 _ _ n5)))),ok _ (8:)⟩
        ·exact (rW.same s45) z hz
       ·rw [yax.mp hz];exact ⟨sa _ _ (s9 _ _ n8),ok _ (8:)⟩
      ·rw [er,<- dA,<- dB,<- dW];unfold dds;rw [yae];rfl
def zgX:FnScope ["leading"] ["leading"] (zaf zfu):=⟨rfl,rfl,rfl,by decide +kernel,rfl,by decide +kernel,by decide +kernel⟩
def zkR {a:Addr} {fd:FuncData} (B:Blt K mg) (g_halves:A47 P w K mg base) (g_swaps_by:A49 P w K mg base) (F:Fun K "even_row" "even_row" zfu a fd):FnOk P w K mg base CX0 20 a fd ["leading"] zjR:=by
 refine F.ok zgX (λ vs H Q E h=>?_) (λ cdv A outer s H vs Q E hr h=>?_)
 ·obtain ⟨a,ls,k,rfl,_⟩:=h;rfl
 ·have nd:=zgX.nd;have hu:=hr.units;obtain ⟨a,ls,k,rfl,ha,hev,hl,hk,kk⟩:=h;have h64:=zd3 hk;refine ⟨_,((7:) ((11:) ((9:) g_swaps_by (10:) ((2:) (54:) ((2:) ((9:) g_halves (10:) ((2:) (5:) (4:) (0:)) (0:) (3:) (0:) (0:)) (4:) (0:)) (0:)) (0:) (3:) (0:) (0:)))),?_⟩;symm;refine ⟨a,ls,k,rfl,ha,hev,hl,hk,λ t H1 s1 ht=>?_⟩;symm;refine ⟨t,ls,papF k ls,k,by rw [yaa,hl]; rfl,ht,zeH k ls hev hl,hl,hk,hk,λ l L H2 f2 s2 n2 r2 d2=>?_⟩;exact kk l L H2 (s1.free f2) (s1.trans s2) n2 r2 d2
def zh5:FnScope ["leading","runs","start","place","many"] ["leading"] (zaf zgq):=⟨rfl,rfl,rfl,by decide +kernel,rfl,by decide +kernel,by decide +kernel⟩
def zmS {a:Addr} {fd:FuncData} (B:Blt K mg)  (F:Fun K "runs_of" "runs_of" zgq a fd):FnOk P w K mg base CX0 1 a fd ["leading"] zlV:=by
 refine F.ok zh5 (λ vs H Q E h=>?_) (λ cdv A outer s H vs Q E hr h=>?_)
 ·obtain ⟨b,ls,w,rfl,_⟩:=h;rfl
 ·have nd := zh5.nd;have hu := hr.units;obtain ⟨b, ls, w, rfl, hb, hL, hw, k⟩ := h;refine ⟨_, ((6:) (@zat _ _ 1 _ _ _ _ nd rfl (16:) ((32:) (4:)) (0:) (14:)) ((6:) (@zat _ _ 2 _ _ _ _ nd rfl (16:) (17:) (0:) (14:)) ((6:) ((38:) yaJ rfl (79:) (64:) ((6:) (@zat _ _ 4 _ _ _ _ nd rfl (16:) (@k_bm _ K _ _ _ _ _ _ _ _ _ _ _ yci PySem.F.slot_tuple_count PySem.F.type_tuple_count (@znU _ K (0:)) (5:) ((2:) (20:) (4:) (0:)) (0:) (0:) (0:) (0:) (0:) (0:)) (0:) (14:)) ((7:) ((22:) ((21:) (@zoZ _) (33:) (17:) (19:)) ((6:) (@zbV _ _ _ _ (@k_bm _ K _ _ _ _ _ _ _ _ _ _ _ ya3 yby ybz (@zdF _) (13:) ((2:) ((26:) ((2:) (20:) ((2:) (15:) ((2:) (33:) (4:) (0:)) (0:)) (0:))) (4:) (0:)) (0:) (0:) (0:) (0:) (0:) (0:)) (0:)) ((7:) (@zat _ _ 2 _ _ _ _ nd rfl (16:) ((12:) (31:) (15:) (33:)) (0:) (14:)))) (23:)))) (18:)) ((7:) ((11:) (13:)))))), ?_⟩;symm;refine zaP (8:) fun l H1 f1 s1 n1 => ?_;have b1 := s1 _ _ hb;symm;rw [yaa, hL.1];refine zmc (n := w) rfl (1:) ?_;refine zdS (fun i σ H' => Same H H' /\ i <= 64 /\ ∃ (A : List Rq) (v3 v4 : Option V), H' l = some (.lst (rqV A)) /\ Rns H' A /\ A.map (·.2) = zeo ls i /\ σ = [some (.ref b), some (.ref l), some (nV (stU ls i)), v3, v4]) ⟨s1, by omega, [], none, none, n1, (fun _ z => (nomatch z)), rfl, by rw [zlC]; rfl⟩ ?_ ?_
  ·rintro i σ H2 hi ⟨s2, hi64, A, v3, v4, n2, hA, eA, rfl⟩;have b2 := s2 _ _ hb;have zA : A.length <= 64 := by have := zga ls i; rw [<- eA, yaa] at this; omega
   symm;refine ⟨tyT b2,?_⟩;symm;refine zoa b2 ?_;symm;refine zck (λ hc=>?_) (λ hc=>?_)
   ·symm;refine zaw (8:) fun t H3 f3 s3 n3 => ?_;have n23 := s3 _ _ n2;have zV : (rqV A).length <= 64 := by rw [zir]; exact zA
    symm;have n4:upd H3 l (.lst (rqV A ++ [V.ref t])) l=some (.lst (rqV (A ++ [(t,i,stU ls i,ls.count (i:Int))]))):=by rw [zai]; simp [rqV]
    refine ⟨(s2.trans s3).updF f1,by omega,A ++ [(t,i,stU ls i,ls.count (i:Int))],some (nV i),some (nV (ls.count (i:Int))),n4,λ q hq=>?_,?_,?_⟩
    ·have hq':H3 q.1=some (.tup [nV q.2.1,nV q.2.2.1,nV q.2.2.2]):=by
      rcases yaA.mp hq with z | z
      ·exact s3 _ _ (hA q z)
      ·rw [yax.mp z]; exact n3
     rw [zaA (λ z=>by rw [z,s3 _ _ n2] at hq'; cases hq')];exact hq'
    ·rw [yae,eA,zhC,if_pos (1:)];rfl
    ·rw [zc7];rfl
   ·symm;exact ⟨s2,by omega,A,_,_,n2,hA,by rw [eA,zhC,if_neg (1:),ybb],by rw [zc7,show ls.count (i:Int)=0 by omega]; rfl⟩
  ·rintro σ H2 ⟨s2,_,A,v3,v4,n2,hA,eA,rfl⟩;symm;exact k l A H2 f1 s2 n2 hA eA
def zfT:FnScope ["entries","spare","told","entry"] ["entries"] (zaf zcY):=⟨rfl,rfl,rfl,by decide +kernel,rfl,by decide +kernel,by decide +kernel⟩
def zjC {a:Addr} {fd:FuncData} (B:Blt K mg)  (F:Fun K "filled_up" "filled_up" zcY a fd):FnOk P w K mg base CX0 1 a fd ["entries"] zml:=by
 refine F.ok zfT (λ vs H Q E h=>?_) (λ cdv A outer s H vs Q E hr h=>?_)
 ·obtain ⟨l,es,rfl,_⟩:=h;rfl
 ·have nd := zfT.nd;have hu := hr.units;obtain ⟨l, es, rfl, hl, hz, hn, k⟩ := h;refine ⟨_, ((6:) (@zaR _ _ _ _ _ _ (zaf zcY) _ ["entries", "spare", "told", "entry"] ["place", "entries"] [none, some 0] _ _ _ _ 1 _ _ _ nd rfl (16:) rfl (79:) (fun _ _ _ _ => (@zam _ _ 0 _ (show List.Nodup (["place", "entries"] : List Str) by decide +kernel) rfl (16:) (14:))) (fun _ _ _ _ => ((48:) ((21:) (@zkY _ K (0:)) (5:) (13:) rfl))) (fun _ _ _ _ => (5:)) (25:) (0:) (0:) (18:) (0:) (14:)) ((6:) (70:) ((6:) ((38:) yaJ rfl (@zaJ _ K _ _ _ (5:) (0:)) (64:) ((7:) (@zbV _ _ _ _ (@k_bm _ K _ _ _ _ _ _ _ _ _ _ _ ya3 yby ybz (@zdF _) (15:) ((2:) ((55:) ((21:) (@zlB _) (20:) (53:) (19:)) (94:) (20:)) (4:) (0:)) (0:) (0:) (0:) (0:) (0:) (0:)) (0:))) (18:)) ((7:) ((11:) ((59:) (61:) rfl B.b_tuple boot_tuple ((2:) (15:) (4:) (0:)) (3:) (3:) (0:) (0:))))))), ?_⟩;symm;rw [yaa];refine zed (n := es.length) rfl (1:) ?_;refine zaV (fun i acc H' => H' = H /\ i <= 64 /\ acc = ((List.range i).filter fun p => decide (p ∉ zbb es)).map nV) ⟨rfl, by omega, rfl⟩ (fun i acc H' h => ?_) ?_ ?_
  ·obtain ⟨_,hi,rfl⟩:=h;have:=yaB (λ p=>decide (p ∉ zbb es)) (List.range i);rw [yah] at this;rw [yaa];exact yaw (small5 (1:))
  ·rintro i acc H' hi ⟨rfl, _, rfl⟩;symm;refine zrE hl ?_;symm;by_cases hm : i ∈ zbb es
   ·rw [decide_eq_true hm];symm;refine ⟨rfl,by omega,?_⟩;rw [yar,yap,yaO (by rw [decide_eq_true_iff]; exact λ z=>z hm)];simp
   ·rw [decide_eq_false hm];symm;refine ⟨rfl,by omega,?_⟩;rw [yar,yap,yaN (by exact decide_eq_true hm),yae];rfl
  rintro acc H1 ⟨rfl,_,rfl⟩ sp hp;have s1:=zak (o:=.lst ((zbP es).map nV)) hp;have n1:upd H1 sp (.lst ((zbP es).map nV)) sp=some (.lst ((zbP es).map nV)):=zai;have eS:(List.range es.length).filter (λ p=>decide (p ∉ zbb es))=zbP es:=rfl;rw [eS];generalize hH2:upd H1 sp (.lst ((zbP es).map nV))=H2 at s1 n1 ⊢;symm;refine zaP (8:) λ l2 H3 f3 s3 n3=>?_;have hne:sp ≠ l2:=λ z=>by rw [z] at n1; rw [n1] at f3; cases f3
  have f13:H1 l2=none:=s1.free f3;have s13:=s1.trans s3;symm;refine zbY (xs:=es.map oV) (λ i σ H'=>Same H1 H' /\ i <= es.length /\ ∃ (sq tl:List Nat) (v3:Option V),H' sp=some (.lst (sq.map nV)) /\ H' l2=some (.lst (tl.map nV)) /\ tl ++ zdB (es.drop i) sq=zdB es (zbP es) /\ zer (es.drop i)=sq.length /\ tl.length=i /\ sq.length <= 64 /\ σ=[some (.ref l),some (.ref sp),some (.ref l2),v3]) ⟨s13,by omega,zbP es,[],none,s3 _ _ n1,n3,rfl,hn,rfl,by rw [<- hn]; have:=zeV es; omega,rfl⟩ (λ i σ H' h=>SqL.of (h.1 _ _ hl)) ?_ ?_
  ·rintro i x σ H4 hx ⟨s4, hi, sq, tl, v3, n4, m4, e4, z4, t4, q4, rfl⟩;obtain ⟨o, ho, rfl⟩ := zaB hx;have hil : i < es.length := (yad.mp ho).1;have hd : es.drop i = o :: es.drop (i + 1) := by rw [List.drop_eq_getElem_cons hil]; congr 1; exact Option.some.inj ((yac hil).symm.trans ho)
   rw [hd] at e4 z4;cases o with
   | some p=>
    symm;rw [show decide (oV (some p)=V.non)=false from decide_eq_false (λ z=>by cases z)];symm;have m5:upd H4 l2 (.lst (tl.map nV ++ [oV (some p)])) l2=some (.lst ((tl ++ [p]).map nV)):=by rw [zai,yae]; rfl
    refine ⟨s4.updF f13,by omega,sq,tl ++ [p],_,by rw [zaA hne]; exact n4,m5,by rw [yaE]; exact e4,?_,by rw [yao,t4]; rfl,q4,rfl⟩;unfold zer at z4 ⊢;rw [yco (8:)] at z4;exact z4
   | none=>
    symm;rw [show decide (oV none=V.non)=true from decide_eq_true rfl]
    have z5:zer (es.drop (i + 1)) + 1=sq.length:=by
     unfold zer at z4 ⊢;rw [ycp (0:)] at z4;exact z4
    have hne2:sq ≠ []:=λ z=>by rw [z] at z5; simp at z5
    have eq:sq=sq.dropLast ++ [sq.getLastD 0]:=by
     have:=List.dropLast_concat_getLast hne2;rw [yb9,List.getLast?_eq_some_getLast hne2];exact this.symm
    symm;refine ⟨sp,_,nV (sq.getLastD 0),rfl,rfl,n4,?_,?_⟩
    ·have hlt : sq.length - 1 < sq.length := by have := List.length_pos_iff.mpr hne2; omega
     rw [yaa,yaf,yb9,List.getLast?_eq_getElem?,yac hlt];rfl
    have m45:upd H4 sp (.lst (sq.map nV).dropLast) l2=some (.lst (tl.map nV)):=by rw [zaA (ycG hne)]; exact m4
    have n45:upd H4 sp (.lst (sq.map nV).dropLast) sp=some (.lst (sq.dropLast.map nV)):=by rw [zai,List.map_dropLast]
    have s45:Same H1 (upd H4 sp (.lst (sq.map nV).dropLast)):=s4.updF hp;generalize upd H4 sp (.lst (sq.map nV).dropLast)=H5 at m45 n45 s45 ⊢;symm;have m5:upd H5 l2 (.lst (tl.map nV ++ [nV (sq.getLastD 0)])) l2=some (.lst ((tl ++ [sq.getLastD 0]).map nV)):=by rw [zai,yae]; rfl
    exact ⟨s45.updF f13,by omega,sq.dropLast,tl ++ [sq.getLastD 0],_,by rw [zaA hne]; exact n45,m5,by rw [yaE]; exact e4,by rw [yb5]; omega,by rw [yao,t4]; rfl,by rw [yb5]; omega,rfl⟩
  ·rintro σ H4 ⟨s4, hi, sq, tl, v3, n4, m4, e4, z4, t4, q4, rfl⟩;rw [yaa] at e4 hi;symm;rw [List.drop_of_length_le (1:)] at e4;have e4 : tl = zdB es (zbP es) := by rw [<- e4]; simp [zdB]
   subst e4;have m4:H4 l2=some (.lst ((filled es).map V.int)):=by rw [m4,filled,yaX]; rfl
   refine ziG m4 λ t H5 f5 s5 n5=>?_;exact k t H5 (s4.trans s5) n5
def zfQ:FnScope ["leading","runs","entries","place","start","many"] ["leading","runs"] (zaf zez):=⟨rfl,rfl,rfl,by decide +kernel,rfl,by decide +kernel,by decide +kernel⟩
def zjU {a:Addr} {fd:FuncData} (B:Blt K mg) (g_filled_up:A52 P w K mg base) (F:Fun K "to_starts" "to_starts" zez a fd):FnOk P w K mg base CX0 2 a fd ["leading","runs"] (ziD zcA):=by
 refine F.ok zfQ (λ vs H Q E h=>?_) (λ cdv A outer s H vs Q E hr h=>?_)
 ·obtain ⟨a,l,ls,A,w,rfl,_⟩:=h;rfl
 ·have nd := zfQ.nd;have hu := hr.units;obtain ⟨a, l, ls, A, w, rfl, ha, hL, hw, hl, hA, eA, k⟩ := h;have hp := zoG hL.1
  have eP:A.map (λ q=>(q.2.2.1,q.2.1))=prsS ls w:=by
   have:A.map (λ q=>(q.2.2.1,q.2.1))=(A.map (·.2)).map λ r=>(r.2.1,r.1):=by rw [yaX]; rfl
   rw [this,eA,zeo,prsS,yaX];rfl
  have zA:A.length <= 64:=by have:=zga ls w; rw [<- eA,yaa] at this; omega
  refine ⟨_,((6:) (92:) ((6:) ((38:) yaJ rfl (56:) (@za8 _ K _ _ _ _ 3 rfl ((45:) (64:) (86:) (0:)) (0:) (0:) (0:)) ((7:) ((60:) (20:) (@zeZ _ _ _ _ _ _ _ (15:) (33:) (@zb3 _) (18:)) (0:) (0:) (0:))) (18:)) ((7:) ((11:) ((9:) g_filled_up (10:) ((2:) (15:) (4:) (0:)) (0:) (3:) (0:) (0:)))))),?_⟩;symm;refine zaP (8:) λ l1 H1 f1 s1 n1=>?_;have a1:=s1 _ _ ha;symm;rw [yaa,hL.1];refine zjo n1 rfl (1:) λ l2 H2 f2 s2 n2=>?_;rw [zpb] at n2;have s12:=s1.trans s2;symm;refine zbY (xs:=rqV A) (λ j σ H'=>Same H H' /\ ∃ v3 v4 v5:Option V,H' l2=some (.lst ((zaY (zbj w) ((A.take j).map λ q=>(q.2.2.1,q.2.1))).map oV)) /\ σ=[some (.ref a),some (.ref l),some (.ref l2),v3,v4,v5]) ⟨s12,none,none,none,n2,rfl⟩ (λ j σ H' h=>SqL.of (h.1 _ _ hl)) ?_ ?_
  ·rintro j x σ H3 hx ⟨s3, v3, v4, v5, n3, rfl⟩;obtain ⟨q, hq, rfl⟩ := zaB hx;have hq3 := s3 _ _ (hA q (yat hq));have hmem : (q.2.2.1, q.2.1) ∈ prsS ls w := by rw [<- eP]; exact yau.mpr ⟨q, yat hq, rfl⟩
   have hlt:=hp.2.1 _ hmem;symm;have hel:((zaY (zbj w) ((A.take j).map λ q=>(q.2.2.1,q.2.1))).map oV).length=w:=by rw [yaa,zcR]; simp [zbj]
   refine zmE (j:=q.2.2.1) n3 (by rw [hel]; unfold ixN; simp; omega) ?_;rw [zp7,show (zaY (zbj w) ((A.take j).map λ q=>(q.2.2.1,q.2.1))).set q.2.2.1 (some q.2.1)=zaY (zbj w) ((A.take (j + 1)).map λ q=>(q.2.2.1,q.2.1)) by rw [zil _ hq,zgI]];exact ⟨(s3.updF (s1.free f2)),_,_,_,zai,rfl⟩
  ·rintro σ H3 ⟨s3,v3,v4,v5,n3,rfl⟩;rw [zir,yca,eP] at n3;symm;have hes:=zjE (w:=w) hp.1 hp.2.1 hp.2.2.1 hp.2.2.2;refine ⟨l2,_,rfl,n3,by rw [hes.1]; exact hw,hes.2,λ t H4 s4 n4=>?_⟩;refine k t H4 (s3.trans s4) ?_;rw [n4,zcA,hL.1]
def zhQ:FnScope ["leading","runs","entries","place","start","many","ends","number","end"] ["leading","runs"] (zaf zeJ):=⟨rfl,rfl,rfl,by decide +kernel,rfl,by decide +kernel,by decide +kernel⟩
def zm9 {a:Addr} {fd:FuncData} (B:Blt K mg) (g_filled_up:A52 P w K mg base) (F:Fun K "to_ends" "to_ends" zeJ a fd):FnOk P w K mg base CX0 2 a fd ["leading","runs"] (ziD zhs):=by
 refine F.ok zhQ (λ vs H Q E h=>?_) (λ cdv A outer s H vs Q E hr h=>?_)
 ·obtain ⟨a,l,ls,A,w,rfl,_⟩:=h;rfl
 ·have nd := zhQ.nd;have hu := hr.units;obtain ⟨a, l, ls, A, w, rfl, ha, hL, hw, hl, hA, eA, k⟩ := h;have hp := zq7 hL.1
  have eP:A.flatMap (λ q=>zcm ls q.2.1)=prsE ls w:=by
   have:A.flatMap (λ q=>zcm ls q.2.1)=(A.map (·.2)).flatMap λ r=>zcm ls r.1:=by rw [ycL]
   rw [this,eA,zeo,prsE,ycL]
  have zA:A.length <= 64:=by have:=zga ls w; rw [<- eA,yaa] at this; omega
  have hrun:∀ q ∈ A,q.2.2.1=stU ls q.2.1 /\ q.2.2.2=ls.count (q.2.1:Int) /\ q.2.1 < w:=λ q hq=>by
   have:q.2 ∈ zeo ls w:=by rw [<- eA]; exact ybk hq
   obtain ⟨p,hp,e⟩:=yau.mp this;rw [<- e];exact ⟨rfl,rfl,(zcG.mp hp).1⟩
  refine ⟨_,((6:) (92:) ((6:) ((38:) yaJ rfl (56:) (@za8 _ K _ _ _ _ 3 rfl ((45:) (@zam _ _ 3 _ nd rfl (Or.inr rfl) (14:)) (86:) (0:)) (0:) (0:) (0:)) ((6:) (@zaR _ _ _ _ _ _ (zaf zeJ) _ ["leading","runs","entries","place","start","many","ends","number","end"] ["end","entry","place"] [none,none,some 3] _ _ _ _ 6 _ _ _ nd rfl (16:) rfl (63:) (λ _ _ _ _=>(@za8 _ K _ _ _ _ 2 rfl ((45:) (@zam _ _ 0 _ (show List.Nodup (["end","entry","place"]:List Str) by decide +kernel) rfl (16:) (14:)) ((45:) (@zam _ _ 1 _ (show List.Nodup (["end","entry","place"]:List Str) by decide +kernel) rfl (16:) (14:)) (@za6 _) (0:)) (0:)) (0:) (0:) (0:))) (λ _ _ _ _=>((48:) ((21:) (29:) (13:) (15:) (19:)))) (λ _ _ _ _=>(5:)) (25:) (0:) (0:) (18:) (0:) (14:)) ((7:) ((38:) yaJ rfl (@zaZ _ K _ _ _ _ _ _ _ B.b_enumerate ((2:) (66:) (4:) (0:)) (0:) (0:) (0:)) (@za8 _ K _ _ _ _ 2 rfl ((45:) (@zam _ _ 7 _ nd rfl (16:) (14:)) ((45:) (@zam _ _ 8 _ nd rfl (16:) (14:)) (@za6 _) (0:)) (0:)) (0:) (0:) (0:)) ((7:) ((60:) ((12:) (31:) (33:) (@pv1 _ 7 _ _ (39:))) (@zeZ _ _ _ _ _ _ _ (15:) (@pv1 _ 8 _ _ (39:)) (@zb3 _) (18:)) (0:) (0:) (0:))) (18:)))) (18:)) ((7:) ((11:) ((9:) g_filled_up (10:) ((2:) (15:) (4:) (0:)) (0:) (3:) (0:) (0:)))))),?_⟩;symm;refine zaP (8:) λ l1 H1 f1 s1 n1=>?_;have a1:=s1 _ _ ha;symm;rw [yaa,hL.1];refine zjo n1 rfl (1:) λ l2 H2 f2 s2 n2=>?_;rw [zpb] at n2;have s12:=s1.trans s2;have fl2:H l2=none:=s1.free f2;symm;refine zbY (xs:=rqV A) (λ j σ H'=>Same H H' /\ ∃ v3 v4 v5 v6 v7 v8:Option V,H' l2=some (.lst ((zaY (zbj w) ((A.take j).flatMap λ q=>zcm ls q.2.1)).map oV)) /\ σ=[some (.ref a),some (.ref l),some (.ref l2),v3,v4,v5,v6,v7,v8]) ⟨s12,none,none,none,none,none,none,n2,rfl⟩ (λ j σ H' h=>SqL.of (h.1 _ _ hl)) ?_ ?_
  ·rintro j x σ H3 hx ⟨s3, v3, v4, v5, v6, v7, v8, n3, rfl⟩;obtain ⟨q, hq, rfl⟩ := zaB hx;have hqm := yat hq;have hq3 := s3 _ _ (hA q hqm);obtain ⟨e1, e2, e3⟩ := hrun q hqm;have a3 := s3 _ _ ha;symm;refine ⟨a, _, rfl, .inr ⟨SqT.of a3, ?_⟩⟩;refine zbn (xs := ls.map V.int) (fun i acc H' => Same H3 H' /\ i <= 64 /\ acc = ((List.range i).filter fun j => decide (ls.getD j 0 = (q.2.1 : Int))).map nV) ⟨Same.refl _, by omega, rfl⟩ (fun i acc H' h => ?_) (fun i acc H' h => SqT.of (h.1 _ _ a3)) ?_ ?_
   ·obtain ⟨_,hi,rfl⟩:=h;have:=yaB (λ j=>decide (ls.getD j 0=(q.2.1:Int))) (List.range i);rw [yah] at this;rw [yaa];exact yaw (small5 (1:))
   ·rintro i u T acc H4 hu hT ⟨s4, hi4, rfl⟩;obtain ⟨e, he, rfl⟩ := zaB hu;have hil : i < ls.length := (yad.mp he).1;have hg : ls.getD i 0 = e := by rw [yab, he]; rfl
    have s5:=s4.trans (zak (o:=.tup [V.int (i:Int),V.int e]) hT);have nT:upd H4 T (.tup [V.int (i:Int),V.int e]) T=some (.tup [V.int (i:Int),V.int e]):=zai;generalize upd H4 T (.tup [V.int (i:Int),V.int e])=H5 at s5 nT ⊢;symm;by_cases hc:e=(q.2.1:Int)
    ·refine zcv (beq_iff_eq.mpr hc) ?_;symm;refine ⟨s5,by have:=hL.1; omega,?_⟩;rw [yar,yap,yaN (74:),yae];rfl
    ·refine zcd (beq_eq_false_iff_ne.mpr hc) ?_;symm;refine ⟨s5,by have:=hL.1; omega,?_⟩;rw [yar,yap,yaO (73:)];simp
   ·rintro acc H4 ⟨s4, _, rfl⟩ l3 hl3;rw [yaa];have eE : (List.range ls.length).filter (fun j => decide (ls.getD j 0 = (q.2.1 : Int))) = zdE ls q.2.1 := rfl;rw [eE];have s5 := zak (o := .lst ((zdE ls q.2.1).map nV)) hl3;have n5 : upd H4 l3 (.lst ((zdE ls q.2.1).map nV)) l3 = some (.lst ((zdE ls q.2.1).map nV)) := zai;have hne : l3 ≠ l2 := fun z => by rw [z, s4 _ _ n3] at hl3; cases hl3
    generalize upd H4 l3 (.lst ((zdE ls q.2.1).map nV))=H5 at s5 n5 ⊢;have s35:=s4.trans s5;have hel:(zdE ls q.2.1).length <= 64:=by have:=yaB (λ j=>decide (ls.getD j 0=(q.2.1:Int))) (List.range ls.length); rw [yah] at this; exact yaW this (by rw [hL.1]; exact hw)
    symm;refine ⟨l3,_,rfl,.inl ⟨SqL.of n5,?_⟩⟩;refine zhi (xs:=(zdE ls q.2.1).map nV) (λ i σ H'=>Same H H' /\ H' l3=some (.lst ((zdE ls q.2.1).map nV)) /\ ∃ v7 v8:Option V,H' l2=some (.lst ((zaY (zbj w) (((A.take j).flatMap λ q=>zcm ls q.2.1) ++ (zcm ls q.2.1).take i)).map oV)) /\ σ=[some (.ref a),some (.ref l),some (.ref l2),some (nV q.2.1),some (nV q.2.2.1),some (nV q.2.2.2),some (.ref l3),v7,v8]) ⟨s3.trans s35,n5,_,_,by rw [List.take_zero,ybb]; exact s35 _ _ n3,rfl⟩ (λ i σ H' h=>SqL.of h.2.1) ?_ ?_
    ·rintro i u T σ H6 hu hT ⟨s6, n6, v7, v8, m6, rfl⟩;obtain ⟨e, he, rfl⟩ := zaB hu;have s7 := zak (o := .tup [.int (i : Int), nV e]) hT;have nT : upd H6 T (.tup [.int (i : Int), nV e]) T = some (.tup [.int (i : Int), nV e]) := zai;generalize upd H6 T (.tup [.int (i : Int), nV e]) = H7 at s7 nT ⊢;have hme := zgf.mp (yat he);have m7 := s7 _ _ m6;symm;have hsl : ((zaY (zbj w) (((A.take j).flatMap fun q => zcm ls q.2.1) ++ (zcm ls q.2.1).take i)).map oV).length = w := by rw [yaa, zcR]; simp [zbj]
     refine zmE (j:=e) m7 (by rw [hsl]; unfold ixN; have:=hL.1; simp; omega) ?_
     have hR:(zcm ls q.2.1)[i]?=some (e,q.2.2.1 + i):=by
      unfold zcm;rw [yaf,List.getElem?_zipIdx,he,e1];simp
     have hv:V.int ((q.2.2.1:Int) + (i:Int))=nV (q.2.2.1 + i):=by show V.int _=V.int _; congr 1
     rw [hv,zp7,<- zgI (q:=(e,q.2.2.1 + i)),yaE,show (zcm ls q.2.1).take i ++ [(e,q.2.2.1 + i)]=(zcm ls q.2.1).take (i + 1) by rw [yaz,hR]; rfl];exact ⟨(s6.trans s7).updF fl2,by rw [zaA hne]; exact s7 _ _ n6,_,_,zai,rfl⟩
    ·rintro σ H6 ⟨s6,n6,v7,v8,m6,rfl⟩;have hfull:(zcm ls q.2.1).take ((zdE ls q.2.1).map nV).length=zcm ls q.2.1:=yav (by rw [yaa,<- zgT ls q.2.1,yaa]; exact yaj _);rw [hfull] at m6;refine ⟨s6,_,_,_,_,_,_,?_,rfl⟩;rw [m6,yaz,hq,yce];simp
  ·rintro σ H3 ⟨s3,v3,v4,v5,v6,v7,v8,n3,rfl⟩;rw [zir,yca,eP] at n3;symm;have hes:=zjE (w:=w) hp.1 hp.2.1 hp.2.2.1 hp.2.2.2;refine ⟨l2,_,rfl,n3,by rw [hes.1]; exact hw,hes.2,λ t H4 s4 n4=>?_⟩;refine k t H4 (s3.trans s4) ?_;rw [n4,zhs,hL.1]
def zdf:FnScope ["runs","by","places","place","start","many"] ["runs","by"] (zaf zcf):=⟨rfl,rfl,rfl,by decide +kernel,rfl,by decide +kernel,by decide +kernel⟩
def zf9 {a:Addr} {fd:FuncData} (B:Blt K mg) (g_mask_of:A17 P w K mg base) (F:Fun K "copied_places" "copied_places" zcf a fd):FnOk P w K mg base CX0 2 a fd ["runs","by"] zqs:=by
 refine F.ok zdf (λ vs H Q E h=>?_) (λ cdv A outer s H vs Q E hr h=>?_)
 ·obtain ⟨l,ls,A,w,bb,rfl,_⟩:=h;rfl
 ·have nd := zdf.nd;have hu := hr.units;obtain ⟨l, ls, A, w, bb, rfl, hw, hbb, hL, hl, hA, eA, k⟩ := h;have zA : A.length <= 64 := by have := zga ls w; rw [<- eA, yaa] at this; omega
  have hrun:∀ q ∈ A,q.2.2.1=stU ls q.2.1 /\ q.2.2.2=ls.count (q.2.1:Int) /\ q.2.1 < w:=λ q hq=>by
   have:q.2 ∈ zeo ls w:=by rw [<- eA]; exact ybk hq
   obtain ⟨p,hp,e⟩:=yau.mp this;rw [<- e];exact ⟨rfl,rfl,(zcG.mp hp).1⟩
  have eP:A.flatMap (λ q=>(List.range (min bb (q.2.2.2 - bb))).map (q.2.2.1 + ·))=copP ls bb:=by
   have:A.flatMap (λ q=>(List.range (min bb (q.2.2.2 - bb))).map (q.2.2.1 + ·))=(A.map (·.2)).flatMap λ r=>(List.range (min bb (r.2.2 - bb))).map (r.2.1 + ·):=by rw [ycL]
   rw [this,eA,zeo,copP,hL.1,ycL]
  refine ⟨_,((6:) (70:) ((6:) ((38:) yaJ rfl (@zaJ _ K _ _ _ (5:) (0:)) (@za8 _ K _ _ _ _ 3 rfl ((45:) (64:) (86:) (0:)) (0:) (0:) (0:)) ((7:) (@zbV _ _ _ _ (@k_bm _ K _ _ _ _ _ _ _ _ _ _ _ ya3 PySem.F.slot_list_extend PySem.F.type_list_extend (@zjf _) (15:) ((2:) (@zfr _ _ _ _ _ _ _ _ rfl B.b_list B.b_range ((2:) (33:) ((2:) ((12:) (31:) (33:) ((35:) (@zjP _ rfl) rfl B.b_min boot_min ((2:) (13:) ((2:) ((12:) (@zbk _) (46:) (13:)) (4:) (0:)) (0:)) (3:) (3:) (0:) (0:))) (4:) (0:)) (0:)) (0:) (0:) (0:) (0:) (0:)) (4:) (0:)) (0:) (0:) (0:) (0:) (0:) (0:)) (0:))) (18:)) ((7:) ((11:) ((9:) g_mask_of (10:) ((2:) (15:) (4:) (0:)) (0:) (3:) (0:) (0:)))))),?_⟩;symm;refine zaP (8:) λ l2 H1 f1 s1 n1=>?_;symm;refine zbY (xs:=rqV A) (λ j σ H'=>Same H H' /\ ∃ v3 v4 v5:Option V,H' l2=some (.lst (((A.take j).flatMap (λ q=>(List.range (min bb (q.2.2.2 - bb))).map (q.2.2.1 + ·))).map nV)) /\ ((A.take j).flatMap (λ q=>(List.range (min bb (q.2.2.2 - bb))).map (q.2.2.1 + ·))).length <= 64 * j /\ σ=[some (.ref l),some (nV bb),some (.ref l2),v3,v4,v5]) ⟨s1,none,none,none,n1,by simp,rfl⟩ (λ j σ H' h=>SqL.of (h.1 _ _ hl)) ?_ ?_
  ·rintro j x σ H3 hx ⟨s3, v3, v4, v5, n3, z3, rfl⟩;obtain ⟨q, hq, rfl⟩ := zaB hx;have hqm := yat hq;have hjl : j < A.length := (yad.mp hq).1;have hq3 := s3 _ _ (hA q hqm);obtain ⟨e1, e2, e3⟩ := hrun q hqm;have hend := zfm ls q.2.1;symm;refine znv ?_;symm;have hle : ls.length <= 64 := by rw [hL.1]; exact hw
   refine ⟨_,_,rfl,by split <;> omega,λ l4 hl4=>?_⟩;have hn:(((q.2.2.1:Int) + if (q.2.2.2:Int) - (bb:Int) < (bb:Int) then (q.2.2.2:Int) - (bb:Int) else (bb:Int)) - (q.2.2.1:Int)).toNat=min bb (q.2.2.2 - bb):=by split <;> omega
   rw [hn]
   have eR:rgI (q.2.2.1:Int) (min bb (q.2.2.2 - bb))=((List.range (min bb (q.2.2.2 - bb))).map (q.2.2.1 + ·)).map nV:=by
    rw [rgI,yaX];apply yaM;intro x _;show V.int _=V.int _;congr 1
   rw [eR];have s4:=zak (o:=.lst (((List.range (min bb (q.2.2.2 - bb))).map (q.2.2.1 + ·)).map nV)) hl4;have n4:upd H3 l4 (.lst (((List.range (min bb (q.2.2.2 - bb))).map (q.2.2.1 + ·)).map nV)) l4=some (.lst (((List.range (min bb (q.2.2.2 - bb))).map (q.2.2.1 + ·)).map nV)):=zai;generalize upd H3 l4 (.lst (((List.range (min bb (q.2.2.2 - bb))).map (q.2.2.1 + ·)).map nV))=H4 at s4 n4 ⊢;have hlen4:((List.range (min bb (q.2.2.2 - bb))).map (q.2.2.1 + ·)).length <= 64:=by rw [yaa,yah]; omega
   symm;refine zsF (K:=K) (s4 _ _ n3) n4 (by rw [yaa,yaa]; omega) ?_;symm
   have eF:(A.take (j + 1)).flatMap (λ q=>(List.range (min bb (q.2.2.2 - bb))).map (q.2.2.1 + ·))=(A.take j).flatMap (λ q=>(List.range (min bb (q.2.2.2 - bb))).map (q.2.2.1 + ·)) ++ (List.range (min bb (q.2.2.2 - bb))).map (q.2.2.1 + ·):=by
    rw [yaz,hq,yce];simp
   refine ⟨(s3.trans s4).updF f1,_,_,_,by rw [eF,yae]; exact zai,?_,rfl⟩;rw [eF,yao];omega
  ·rintro σ H3 ⟨s3,v3,v4,v5,n3,z3,rfl⟩;rw [zir,yca,eP] at n3;symm;refine ⟨l2,copP ls bb,rfl,.inl (SqL.of n3),λ x hx=>?_,k _ s3⟩;have:=zgt hx;have:=hL.1;omega
def zfe:FnScope ["width","runs","copies","by"] ["width","runs"] (zaf zdH):=⟨rfl,rfl,rfl,by decide +kernel,rfl,by decide +kernel,by decide +kernel⟩
def zif {a:Addr} {fd:FuncData} (B:Blt K mg) (g_copied_places:A55 P w K mg base) (F:Fun K "copies_for" "copies_for" zdH a fd):FnOk P w K mg base CX0 3 a fd ["width","runs"] zmq:=by
 refine F.ok zfe (λ vs H Q E h=>?_) (λ cdv A outer s H vs Q E hr h=>?_)
 ·obtain ⟨l,ls,A,kk,rfl,_⟩:=h;rfl
 ·have nd := zfe.nd;have hu := hr.units;obtain ⟨l, ls, A, kk, rfl, hk, hL, hl, hA, eA, k⟩ := h;have w64 := zd3 hk;refine ⟨_, ((6:) (70:) ((6:) (@zat _ _ 3 _ _ _ _ nd rfl (16:) (17:) (0:) (14:)) ((6:) (@ziT _ _ _ _ _ _ yaJ ((21:) (@zpI _) (20:) (5:) (19:)) ((6:) (@zbV _ _ _ _ (@k_bm _ K _ _ _ _ _ _ _ _ _ _ _ ya3 yby ybz (@zdF _) (15:) ((2:) ((26:) ((27:) ((2:) ((9:) g_copied_places (10:) ((2:) (13:) ((2:) (20:) (4:) (0:)) (0:)) (0:) (3:) (0:) (0:)) ((2:) (20:) (4:) (0:)) (0:)))) (4:) (0:)) (0:) (0:) (0:) (0:) (0:) (0:)) (0:)) ((7:) (@zat _ _ 3 _ _ _ _ nd rfl (16:) ((12:) (31:) (20:) (20:)) (0:) (14:))))) ((7:) ((11:) (15:)))))), ?_⟩;symm;refine zaP (8:) fun l2 H1 f1 s1 n1 => ?_;symm;refine ⟨fun m σ H' => Same H H' /\ ∃ (t : Nat) (L : List (Addr × Dd)), t <= kk /\ m = kk - t /\ H' l2 = some (.lst (rowV L)) /\ Dl H' L /\ dds L = copR ls t /\ σ = [some (nV (2 ^ kk)), some (.ref l), some (.ref l2), some (nV (2 ^ t))], ⟨kk, s1, 0, [], by omega, rfl, n1, Dl.nil _, rfl, rfl⟩, ?_⟩;rintro m σ H2 ⟨s2, t, L, ht, rfl, n2, hD, eD, rfl⟩;have zL : L.length = t := by rw [<- zcC, eD, copR, yaa, yah]
  symm;refine zck (λ h1=>?_) (λ h1=>?_)
  ·have htk:t < kk:=by
    rcases ybx t kk with z | z
    ·exact z
    ·obtain rfl : t = kk := by omega
     omega
   have ht6:2 ^ t <= 64:=yaW (yaG (n:=2) (3:) ht) w64;refine ⟨λ σ' H'=>∃ m',m' < kk - t /\ Same H H' /\ ∃ (t:Nat) (L:List (Addr × Dd)),t <= kk /\ m'=kk - t /\ H' l2=some (.lst (rowV L)) /\ Dl H' L /\ dds L=copR ls t /\ σ'=[some (nV (2 ^ kk)),some (.ref l),some (.ref l2),some (nV (2 ^ t))],λ σ' H' h=>h,?_⟩;symm;refine ⟨l,ls,A,2 ^ kk,2 ^ t,rfl,w64,ht6,hL,s2 _ _ hl,hA.same s2,eA,λ H3 s3=>?_⟩;symm;refine zaw (8:) λ c H4 f4 s4 n4=>?_;have n24:=s4 _ _ (s3 _ _ n2);have zV:(rowV L).length <= 64:=by rw [rowV,yaa]; omega
   symm;have n4':H4 c=some (.tup (Dd.copy (copM ls (2 ^ t)) ((2 ^ t:Nat):Int)).vals):=n4;have hD4:=(hD.same (s3.trans s4)).app (Dl.one n4');refine ⟨kk - (t + 1),by omega,(s2.trans (s3.trans s4)).updF f1,t + 1,L ++ [(c,Dd.copy (copM ls (2 ^ t)) ((2 ^ t:Nat):Int))],by omega,rfl,by rw [<- zb4]; exact zai,λ q hq=>?_,?_,?_⟩
   ·have hq':=hD4 q hq;rw [zaA (λ z=>by rw [z,n24] at hq'; cases hq')];exact hq'
   ·rw [dds_app',eD,copR,copR,yar,yae];rfl
   ·have e2 : ((2 ^ t : Nat) : Int) + ((2 ^ t : Nat) : Int) = ((2 ^ (t + 1) : Nat) : Int) := by rw [ybq]; omega
    rw [e2];rfl
  ·symm
   have htk:t=kk:=by
    rcases ybx t kk with z | z
    ·have:2 ^ t < 2 ^ kk:=ycP (3:) z;omega
    ·omega
   subst htk;exact k l2 L H2 f1 s2 n2 hD eD
def zgA:FnScope ["leading","kept","ones"] ["leading"] (zaf zcI):=⟨rfl,rfl,rfl,by decide +kernel,rfl,by decide +kernel,by decide +kernel⟩
def zky {a:Addr} {fd:FuncData} (B:Blt K mg) (g_mask_of:A17 P w K mg base) (F:Fun K "set_bits" "set_bits" zcI a fd):FnOk P w K mg base CX0 2 a fd ["leading"] zjv:=by
 refine F.ok zgA (λ vs H Q E h=>?_) (λ cdv A outer s H vs Q E hr h=>?_)
 ·obtain ⟨a,ls,w,rfl,_⟩:=h;rfl
 ·have nd := zgA.nd;have hu := hr.units;obtain ⟨a, ls, w, rfl, ha, hL, hw, k⟩ := h;have hle : ls.length <= 64 := by rw [hL.1]; exact hw
  refine ⟨_,((6:) (@zaR _ _ _ _ _ _ (zaf zcI) _ ["leading","kept","ones"] ["place","entry"] [none,none] _ _ _ _ 1 _ _ _ nd rfl (16:) rfl (63:) (λ _ _ _ _=>(72:)) (λ _ _ _ _=>((48:) ((21:) (47:) (13:) (75:) (19:)))) (λ _ _ _ _=>(5:)) (25:) (0:) (0:) (18:) (0:) (14:)) ((6:) (@zaR _ _ _ _ _ _ (zaf zcI) _ ["leading","kept","ones"] ["place","entry"] [none,none] _ _ _ _ 2 _ _ _ nd rfl (16:) rfl (63:) (λ _ _ _ _=>(72:)) (λ _ _ _ _=>((48:) ((21:) (29:) (13:) (@zbX _ _ _ _ B.g_ONE (0:) (3:)) (19:)))) (λ _ _ _ _=>(5:)) (25:) (0:) (0:) (18:) (0:) (14:)) ((7:) ((11:) ((32:) ((2:) ((26:) ((27:) ((2:) ((9:) g_mask_of (10:) ((2:) (13:) (4:) (0:)) (0:) (3:) (0:) (0:)) (4:) (0:)))) ((2:) ((26:) ((27:) ((2:) ((9:) g_mask_of (10:) ((2:) (15:) (4:) (0:)) (0:) (3:) (0:) (0:)) (4:) (0:)))) (4:) (0:)) (0:))))))),?_⟩;symm;refine ⟨a,_,rfl,.inr ⟨SqT.of ha,?_⟩⟩;refine zbn (xs:=ls.map V.int) (λ i acc H'=>Same H H' /\ i <= 64 /\ acc=((List.range i).filter λ j=>decide (ls.getD j 0 ≠ -1)).map nV) ⟨Same.refl _,by omega,rfl⟩ (λ i acc H' h=>?_) (λ i acc H' h=>SqT.of (h.1 _ _ ha)) ?_ ?_
  ·obtain ⟨_,hi,rfl⟩:=h;have:=yaB (λ j=>decide (ls.getD j 0 ≠ -1)) (List.range i);rw [yah] at this;rw [yaa];exact yaw (small5 (1:))
  ·rintro i u T acc H4 hu hT ⟨s4, hi4, rfl⟩;obtain ⟨e, he, rfl⟩ := zaB hu;have hil : i < ls.length := (yad.mp he).1;have hg : ls.getD i 0 = e := by rw [yab, he]; rfl
   have s5:=s4.trans (zak (o:=.tup [V.int (i:Int),V.int e]) hT);have nT:upd H4 T (.tup [V.int (i:Int),V.int e]) T=some (.tup [V.int (i:Int),V.int e]):=zai;generalize upd H4 T (.tup [V.int (i:Int),V.int e])=H5 at s5 nT ⊢;symm;by_cases hc:e=-1
   ·refine zcd (by rw [hc]; rfl) ?_;symm;refine ⟨s5,by omega,?_⟩;rw [yar,yap,yaO (by rw [hg,decide_eq_true_iff]; exact λ z=>z hc)];simp
   ·refine zcv (by rw [ycz,beq_eq_false_iff_ne]; exact hc) ?_;symm;refine ⟨s5,by omega,?_⟩;rw [yar,yap,yaN (74:),yae];rfl
  rintro acc H1 ⟨s1,_,rfl⟩ l1 hl1;rw [yaa];have eK:(List.range ls.length).filter (λ j=>decide (ls.getD j 0 ≠ -1))=zc0 ls:=rfl;rw [eK];have s2:=s1.trans (zak (o:=.lst ((zc0 ls).map nV)) hl1);have n2:upd H1 l1 (.lst ((zc0 ls).map nV)) l1=some (.lst ((zc0 ls).map nV)):=zai;generalize upd H1 l1 (.lst ((zc0 ls).map nV))=H2 at s2 n2 ⊢;have a2:=s2 _ _ ha;symm;refine ⟨a,_,rfl,.inr ⟨SqT.of a2,?_⟩⟩;refine zbn (xs:=ls.map V.int) (λ i acc H'=>Same H2 H' /\ i <= 64 /\ acc=((List.range i).filter λ j=>decide (ls.getD j 0=-2)).map nV) ⟨Same.refl _,by omega,rfl⟩ (λ i acc H' h=>?_) (λ i acc H' h=>SqT.of (h.1 _ _ a2)) ?_ ?_
  ·obtain ⟨_,hi,rfl⟩:=h;have:=yaB (λ j=>decide (ls.getD j 0=-2)) (List.range i);rw [yah] at this;rw [yaa];exact yaw (small5 (1:))
  ·rintro i u T acc H4 hu hT ⟨s4, hi4, rfl⟩;obtain ⟨e, he, rfl⟩ := zaB hu;have hil : i < ls.length := (yad.mp he).1;have hg : ls.getD i 0 = e := by rw [yab, he]; rfl
   have s5:=s4.trans (zak (o:=.tup [V.int (i:Int),V.int e]) hT);have nT:upd H4 T (.tup [V.int (i:Int),V.int e]) T=some (.tup [V.int (i:Int),V.int e]):=zai;generalize upd H4 T (.tup [V.int (i:Int),V.int e])=H5 at s5 nT ⊢;symm;by_cases hc:e=-2
   ·refine zcv (by rw [hc]; rfl) ?_;symm;refine ⟨s5,by omega,?_⟩;rw [yar,yap,yaN (74:),yae];rfl
   ·refine zcd (beq_eq_false_iff_ne.mpr hc) ?_;symm;refine ⟨s5,by omega,?_⟩;rw [yar,yap,yaO (73:)];simp
  rintro acc H3 ⟨s3,_,rfl⟩ l3 hl3;rw [yaa];have eO:(List.range ls.length).filter (λ j=>decide (ls.getD j 0=-2))=zce ls:=rfl;rw [eO];have s4:=s3.trans (zak (o:=.lst ((zce ls).map nV)) hl3);have n4:upd H3 l3 (.lst ((zce ls).map nV)) l3=some (.lst ((zce ls).map nV)):=zai;generalize upd H3 l3 (.lst ((zce ls).map nV))=H4 at s4 n4 ⊢;have kl:∀ x ∈ zc0 ls,x < 64:=λ x hx=>by have:=yai.mp (yaq.mp hx).1; omega
  have ol:∀ x ∈ zce ls,x < 64:=λ x hx=>by have:=yai.mp (yaq.mp hx).1; omega
  symm;refine ⟨l1,zc0 ls,rfl,.inl (SqL.of (s4 _ _ n2)),λ x hx=>by have:=kl x hx; omega,?_⟩;symm;refine zaw (8:) λ t5 H5 f5 s5 n5=>?_;symm;refine ⟨l3,zce ls,rfl,.inl (SqL.of (s5 _ _ n4)),λ x hx=>by have:=ol x hx; omega,?_⟩;symm;refine zaw (8:) λ t6 H6 f6 s6 n6=>?_;symm;refine zaP (8:) λ t7 H7 f7 s7 n7=>?_;have n5':H7 t5=some (.tup (Dd.and (zaI (zc0 ls))).vals):=s7 _ _ (s6 _ _ n5);have n6':H7 t6=some (.tup (Dd.or (zaI (zce ls))).vals):=s7 _ _ n6;have s07:=s2.trans (s4.trans (s5.trans (s6.trans s7)));exact k t7 [(t5,.and (zaI (zc0 ls))),(t6,.or (zaI (zce ls)))] H7 ((s2.trans (s4.trans (s5.trans s6))).free f7) s07 n7 ((Dl.one n5').app (Dl.one n6')) rfl
def zib:FnScope ["leading","runs","row"] ["leading"] (zaf zgO):=⟨rfl,rfl,rfl,by decide +kernel,rfl,by decide +kernel,by decide +kernel⟩
def znb {a:Addr} {fd:FuncData} (B:Blt K mg) (g_check_halved:A38 P w K mg base) (g_even_row:A50 P w K mg base) (g_runs_of:A51 P w K mg base) (g_to_starts:A53 P w K mg base) (g_to_ends:A54 P w K mg base) (g_copies_for:A56 P w K mg base) (g_set_bits:A57 P w K mg base) (F:Fun K "any_row" "any_row" zgO a fd):FnOk P w K mg base CX0 21 a fd ["leading"] zl3:=by
 refine F.ok zib (λ vs H Q E h=>?_) (λ cdv A outer s H vs Q E hr h=>?_)
 ·obtain ⟨a,ls,kk,rfl,_⟩:=h;rfl
 ·have nd := zib.nd;have hu := hr.units;obtain ⟨a, ls, kk, rfl, ha, hL, hk, k⟩ := h;have w64 := zd3 hk;have hO := (zkX hL).1;obtain ⟨sE, sL, _⟩ := zfK ls;obtain ⟨eE, eL, _⟩ := ziC ls;refine ⟨_, ((6:) (98:) ((6:) (@zat _ _ 1 _ _ _ _ nd rfl (16:) ((9:) g_runs_of (10:) ((2:) (5:) (4:) (0:)) (0:) (3:) (0:) (0:)) (0:) (14:)) ((6:) (@zat _ _ 2 _ _ _ _ nd rfl (16:) ((12:) (31:) ((9:) g_even_row (10:) ((2:) ((9:) g_to_starts (10:) ((2:) (5:) ((2:) (13:) (4:) (0:)) (0:)) (0:) (3:) (0:) (0:)) (4:) (0:)) (0:) (3:) (0:) (0:)) ((9:) g_copies_for (10:) ((2:) (54:) ((2:) (13:) (4:) (0:)) (0:)) (0:) (3:) (0:) (0:))) (0:) (14:)) ((7:) ((11:) ((12:) (31:) ((12:) (31:) (15:) ((9:) g_even_row (10:) ((2:) ((9:) g_to_ends (10:) ((2:) (5:) ((2:) (13:) (4:) (0:)) (0:)) (0:) (3:) (0:) (0:)) (4:) (0:)) (0:) (3:) (0:) (0:))) ((9:) g_set_bits (10:) ((2:) (5:) (4:) (0:)) (0:) (3:) (0:) (0:)))))))), ?_⟩;symm;rw [yaa, hL.1];refine ⟨2 ^ kk, rfl, zfi kk hk, ?_⟩;symm;refine ⟨a, ls, 2 ^ kk, rfl, ha, hL, w64, fun l A H1 f1 s1 n1 hA eA => ?_⟩;have a1 := s1 _ _ ha;symm;refine ⟨a, l, ls, A, 2 ^ kk, rfl, a1, hL, w64, n1, hA, eA, fun t2 H2 s2 n2 => ?_⟩;symm;refine ⟨t2, zcA ls, kk, rfl, n2, sE, sL.trans hL.1, hk, fun l3 L3 H3 f3 s3 n3 hR3 d3 => ?_⟩;have a3 := s3 _ _ (s2 _ _ a1);have n13 := s3 _ _ (s2 _ _ n1);symm;rw [yaa, hL.1];refine ⟨l, ls, A, kk, rfl, hk, hL, n13, hA.same (s2.trans s3), eA, fun l4 L4 H4 f4 s4 n4 hD4 d4 => ?_⟩
  have z3:L3.length <= 20:=by
   obtain ⟨⟨ms,h1,h2,_⟩,_⟩:=zfn sE (sL.trans hL.1);rw [<- zcC,d3,h2,ybu,h1,ych];rcases (show kk=0 \/ kk=1 \/ kk=2 \/ kk=3 \/ kk=4 \/ kk=5 \/ kk=6 by omega) with rfl | rfl | rfl | rfl | rfl | rfl | rfl <;> decide
  have z4:L4.length <= 6:=by rw [<- zcC,d4,copR,yaa,yah]; exact hk
  symm;refine zdN (s4 _ _ n3) n4 (by rw [rowV,rowV,yaa,yaa]; omega) λ l5 H5 f5 s5 n5=>?_;rw [zb4] at n5;have s35:=s4.trans s5;have hD5:Dl H5 (L3 ++ L4):=Dl.app (λ q hq=>s35 _ _ (hR3 q hq).1) (hD4.same s5);symm;refine ⟨a,l,ls,A,2 ^ kk,rfl,s35 _ _ a3,hL,w64,s35 _ _ n13,hA.same ((s2.trans s3).trans s35),eA,λ t6 H6 s6 n6=>?_⟩;symm;refine ⟨t6,zhs ls,kk,rfl,n6,eE,eL.trans hL.1,hk,λ l7 L7 H7 f7 s7 n7 hR7 d7=>?_⟩
  have z7:L7.length <= 20:=by
   obtain ⟨⟨ms,h1,h2,_⟩,_⟩:=zfn eE (eL.trans hL.1);rw [<- zcC,d7,h2,ybu,h1,ych];rcases (show kk=0 \/ kk=1 \/ kk=2 \/ kk=3 \/ kk=4 \/ kk=5 \/ kk=6 by omega) with rfl | rfl | rfl | rfl | rfl | rfl | rfl <;> decide
  have s57:=s6.trans s7;symm;refine zdN (s57 _ _ n5) n7 (by rw [rowV,rowV,yaa,yaa,yao]; omega) λ l8 H8 f8 s8 n8=>?_;rw [zb4] at n8;have s58:=s57.trans s8;have hD8:Dl H8 (L3 ++ L4 ++ L7):=Dl.app (hD5.same s58) (λ q hq=>s8 _ _ (hR7 q hq).1);symm;refine ⟨a,ls,2 ^ kk,rfl,s58 _ _ (s35 _ _ a3),hL,w64,λ l9 L9 H9 f9 s9 n9 hD9 d9=>?_⟩;have z9:L9.length=2:=by rw [<- zcC,d9]; rfl
  symm;refine zdN (s9 _ _ n8) n9 (by rw [rowV,rowV,yaa,yaa,yao,yao]; omega) λ l10 H10 f10 s10 n10=>?_;rw [zb4] at n10;have eD:dds (L3 ++ L4 ++ L7 ++ L9)=rowA kk ls:=by rw [dds_app',dds_app',dds_app',d3,d4,d7,d9]; rfl
  have hD10:Dl H10 (L3 ++ L4 ++ L7 ++ L9):=((hD8.same s9).app hD9).same s10;have s0:=s1.trans (s2.trans (s3.trans (s35.trans (s58.trans s9))));refine k l10 _ H10 (s0.free f10) (s0.trans s10) n10 (λ q hq=>⟨hD10 q hq,hO q.2 ?_⟩) eD;rw [<- eD];exact ybk hq
def zfO:FnScope ["width"] ["width"] (zaf zey):=⟨rfl,rfl,rfl,by decide +kernel,rfl,by decide +kernel,by decide +kernel⟩
def zjr {a:Addr} {fd:FuncData} (B:Blt K mg) (g_check_halved:A38 P w K mg base) (F:Fun K "deeds_for" "deeds_for" zey a fd):FnOk P w K mg base CX0 2 a fd ["width"] zhB:=by
 refine F.ok zfO (λ vs H Q E h=>?_) (λ cdv A outer s H vs Q E hr h=>?_)
 ·obtain ⟨kk,rfl,_⟩:=h;rfl
 ·have nd := zfO.nd;have hu := hr.units;obtain ⟨kk, rfl, hk, k⟩ := h;refine ⟨_, ((6:) (@zbV _ _ _ _ ((9:) g_check_halved (10:) ((2:) (5:) (4:) (0:)) (0:) (3:) (0:) (0:)) (0:)) ((6:) ((22:) ((21:) (29:) (5:) (17:) (19:)) ((7:) ((11:) (17:))) (23:)) ((7:) ((11:) ((12:) (68:) (17:) ((12:) (@zbk _) (@znC _ K _ _ _ _ _ _ _ _ ycw yb0 yb1 (@zk3 _) (5:) (0:) (0:) (0:)) (17:))))))), ?_⟩;symm;refine ⟨2 ^ kk, rfl, zfi kk hk, ?_⟩;rcases (show kk = 0 \/ kk = 1 \/ kk = 2 \/ kk = 3 \/ kk = 4 \/ kk = 5 \/ kk = 6 by omega) with rfl | rfl | rfl | rfl | rfl | rfl | rfl
  ·symm;refine zcv rfl ?_;symm;exact k
  all_goals symm
  all_goals refine zcd rfl ?_
  all_goals symm
  all_goals exact k
def zgo:FnScope ["word","mask"] ["word","mask"] (zaf zd4):=⟨rfl,rfl,rfl,by decide +kernel,rfl,by decide +kernel,by decide +kernel⟩
def zkC {a:Addr} {fd:FuncData} (B:Blt K mg) (g_bit_at:A4 P w K mg base) (g_places_in:A5 P w K mg base) (g_mask_of:A17 P w K mg base) (F:Fun K "gathered" "gathered" zd4 a fd):FnOk P w K mg base CX0 3 a fd ["word","mask"] zqm:=by
 refine F.ok zgo (λ vs H Q E h=>?_) (λ cdv A outer s H vs Q E hr h=>?_)
 ·obtain ⟨n,m,rfl,_⟩:=h;rfl
 ·have nd := zgo.nd;have hu := hr.units;obtain ⟨n, m, rfl, hm, k⟩ := h;have hl := zay hm;refine ⟨_, ((7:) ((11:) ((9:) g_mask_of (10:) ((2:) (@zaW _ _ _ _ _ _ (zaf zd4) _ ["word", "mask"] ["to", "place", "word"] [none, none, some 0] _ _ _ _ rfl (85:) (fun _ _ _ _ => (@za8 _ K _ _ _ _ 2 rfl ((45:) (@zam _ _ 0 _ (show List.Nodup (["to", "place", "word"] : List Str) by decide +kernel) rfl (16:) (14:)) ((45:) (@zam _ _ 1 _ (show List.Nodup (["to", "place", "word"] : List Str) by decide +kernel) rfl (16:) (14:)) (@za6 _) (0:)) (0:)) (0:) (0:) (0:))) (fun _ _ _ _ => ((48:) ((21:) (29:) ((9:) g_bit_at (10:) ((2:) (15:) ((2:) (13:) (4:) (0:)) (0:)) (0:) (3:) (0:) (0:)) (17:) (19:)))) (fun _ _ _ _ => (5:)) (25:) (0:) (0:) (18:)) (4:) (0:)) (0:) (3:) (0:) (0:)))), ?_⟩;symm;refine ⟨m, rfl, hm, fun q H1 fq s1 n1 => ?_⟩;symm;refine ⟨q, _, rfl, .inl ⟨SqL.of n1, ?_⟩⟩;refine zh8 (fun i acc H' => Same H1 H' /\ i <= 64 /\ acc = ((List.range i).filter fun j => n.testBit ((zac m).getD j 0)).map nV) ⟨fun _ _ e => e, by omega, rfl⟩ (fun i acc H' h => ?_) (fun i acc H' h => SqL.of (h.1 _ _ n1)) ?_ ?_
  ·obtain ⟨_,hi,rfl⟩:=h;have:=yaB (λ j=>n.testBit ((zac m).getD j 0)) (List.range i);rw [yah] at this;rw [yaa];exact yaw (small5 (1:))
  ·rintro i u T acc H' hu hT ⟨s2, hi, rfl⟩;obtain ⟨y, hy, rfl⟩ := zaB hu;have hil : i < (zac m).length := (yad.mp hy).1;have eg : (zac m).getD i 0 = y := by rw [yab, hy]; rfl
   have s3:=s2.trans (zak (o:=.tup [V.int (i:Int),nV y]) hT);have nT:upd H' T (.tup [V.int (i:Int),nV y]) T=some (.tup [V.int (i:Int),nV y]):=zai;generalize upd H' T (.tup [V.int (i:Int),nV y])=H2 at s3 nT ⊢;symm;refine ⟨n,y,rfl,?_⟩;symm;refine zbE (λ h=>?_) (λ h=>?_)
   ·have hb:n.testBit y=true:=by
     cases e:n.testBit y
     ·rw [e] at h; cases h
     ·rfl
    symm;refine ⟨s3,by omega,?_⟩;rw [yar,yap,yae,yaN (by rw [eg]; exact hb)];rfl
   ·have hb:n.testBit y=false:=by
     cases e:n.testBit y
     ·rfl
     ·rw [e] at h; exact absurd rfl h
    refine ⟨s3,by omega,?_⟩;rw [yar,yap,yaO (by rw [eg,hb]; exact yaI)];simp
  ·rintro acc H' ⟨s2, _, rfl⟩ p hp;rw [yaa];symm;refine ⟨p, _, rfl, .inl (SqL.of zai), fun x hx => ?_, ?_⟩
   ·have:=yai.mp (yaq.mp hx).1;omega
   ·rw [zlT];exact k _ (s1.trans (s2.trans (zak hp)))
def zeC:FnScope ["leading","stay","ones","filled"] ["leading"] (zaf zbp):=⟨rfl,rfl,rfl,by decide +kernel,rfl,by decide +kernel,by decide +kernel⟩
def ziY {a:Addr} {fd:FuncData} (B:Blt K mg) (g_mask_of:A17 P w K mg base) (g_kept_by:A37 P w K mg base) (F:Fun K "mask_deeds" "mask_deeds" zbp a fd):FnOk P w K mg base CX0 3 a fd ["leading"] zow:=by
 refine F.ok zeC (λ vs H Q E h=>?_) (λ cdv A outer s H vs Q E hr h=>?_)
 ·obtain ⟨a,ls,w,rfl,_⟩:=h;rfl
 ·have nd := zeC.nd;have hu := hr.units;obtain ⟨a, ls, w, rfl, ha, hL, hw1, hw2, k⟩ := h;have hle : ls.length <= 64 := by rw [hL.1]; exact hw2
  refine ⟨_,((6:) (@zaR _ _ _ _ _ _ (zaf zbp) _ ["leading","stay","ones","filled"] ["place","entry"] [none,none] _ _ _ _ 1 _ _ _ nd rfl (16:) rfl (63:) (λ _ _ _ _=>(72:)) (λ _ _ _ _=>((48:) ((21:) (29:) (13:) (5:) (19:)))) (λ _ _ _ _=>(5:)) (25:) (0:) (0:) (18:) (0:) (14:)) ((6:) (@zaR _ _ _ _ _ _ (zaf zbp) _ ["leading","stay","ones","filled"] ["place","entry"] [none,none] _ _ _ _ 2 _ _ _ nd rfl (16:) rfl (63:) (λ _ _ _ _=>(72:)) (λ _ _ _ _=>((48:) ((21:) (29:) (13:) (@zbX _ _ _ _ B.g_ONE (0:) (3:)) (19:)))) (λ _ _ _ _=>(5:)) (25:) (0:) (0:) (18:) (0:) (14:)) ((6:) (@zaR _ _ _ _ _ _ (zaf zbp) _ ["leading","stay","ones","filled"] ["place","entry"] [none,none] _ _ _ _ 3 _ _ _ nd rfl (16:) rfl (63:) (λ _ _ _ _=>(72:)) (λ _ _ _ _=>((48:) ((21:) (@zkH _) (13:) (17:) (19:)))) (λ _ _ _ _=>(5:)) (25:) (0:) (0:) (18:) (0:) (14:)) ((7:) ((11:) ((32:) ((2:) ((26:) ((27:) ((2:) ((9:) g_mask_of (10:) ((2:) (13:) (4:) (0:)) (0:) (3:) (0:) (0:)) (4:) (0:)))) ((2:) ((26:) ((27:) ((2:) ((9:) g_mask_of (10:) ((2:) (15:) (4:) (0:)) (0:) (3:) (0:) (0:)) (4:) (0:)))) ((2:) ((26:) ((27:) ((2:) ((9:) g_kept_by (10:) ((2:) (5:) (4:) (0:)) (0:) (3:) (0:) (0:)) (4:) (0:)))) ((2:) ((26:) ((27:) ((2:) ((9:) g_mask_of (10:) ((2:) (20:) (4:) (0:)) (0:) (3:) (0:) (0:)) (4:) (0:)))) (4:) (0:)) (0:)) (0:)) (0:)))))))),?_⟩;symm;refine ⟨a,_,rfl,.inr ⟨SqT.of ha,?_⟩⟩;refine zbn (xs:=ls.map V.int) (λ i acc H'=>Same H H' /\ i <= 64 /\ acc=((List.range i).filter λ j=>decide (ls.getD j 0=(j:Int))).map nV) ⟨Same.refl _,by omega,rfl⟩ (λ i acc H' h=>?_) (λ i acc H' h=>SqT.of (h.1 _ _ ha)) ?_ ?_
  ·obtain ⟨_,hi,rfl⟩:=h;have:=yaB (λ j:Nat=>decide (ls.getD j 0=(j:Int))) (List.range i);rw [yah] at this;rw [yaa];exact yaw (small5 (1:))
  ·rintro i u T acc Hq hu hT ⟨sq, hiq, rfl⟩;obtain ⟨e, he, rfl⟩ := zaB hu;have hil : i < ls.length := (yad.mp he).1;have hg : ls.getD i 0 = e := by rw [yab, he]; rfl
   have sr:=sq.trans (zak (o:=.tup [V.int (i:Int),V.int e]) hT);have nT:upd Hq T (.tup [V.int (i:Int),V.int e]) T=some (.tup [V.int (i:Int),V.int e]):=zai;generalize upd Hq T (.tup [V.int (i:Int),V.int e])=Hr at sr nT ⊢;symm;by_cases hc:e=(i:Int)
   ·refine zcv (beq_iff_eq.mpr hc) ?_;symm;refine ⟨sr,by omega,?_⟩;rw [yar,yap,yaN (74:),yae];rfl
   ·refine zcd (beq_eq_false_iff_ne.mpr hc) ?_;symm;refine ⟨sr,by omega,?_⟩;rw [yar,yap,yaO (73:)];simp
  rintro acc Hs1 ⟨ss1,_,rfl⟩ l1 hl1;rw [yaa];rw [show (List.range ls.length).filter (λ j:Nat=>decide (ls.getD j 0=(j:Int)))=ziF ls from rfl];have s1:=ss1.trans (zak (o:=.lst ((ziF ls).map nV)) hl1);have n1:upd Hs1 l1 (.lst ((ziF ls).map nV)) l1=some (.lst ((ziF ls).map nV)):=zai;generalize upd Hs1 l1 (.lst ((ziF ls).map nV))=H1 at s1 n1 ⊢;have a1:=s1 _ _ ha;symm;refine ⟨a,_,rfl,.inr ⟨SqT.of a1,?_⟩⟩;refine zbn (xs:=ls.map V.int) (λ i acc H'=>Same H1 H' /\ i <= 64 /\ acc=((List.range i).filter λ j=>decide (ls.getD j 0=-2)).map nV) ⟨Same.refl _,by omega,rfl⟩ (λ i acc H' h=>?_) (λ i acc H' h=>SqT.of (h.1 _ _ a1)) ?_ ?_
  ·obtain ⟨_,hi,rfl⟩:=h;have:=yaB (λ j:Nat=>decide (ls.getD j 0=-2)) (List.range i);rw [yah] at this;rw [yaa];exact yaw (small5 (1:))
  ·rintro i u T acc Hq hu hT ⟨sq, hiq, rfl⟩;obtain ⟨e, he, rfl⟩ := zaB hu;have hil : i < ls.length := (yad.mp he).1;have hg : ls.getD i 0 = e := by rw [yab, he]; rfl
   have sr:=sq.trans (zak (o:=.tup [V.int (i:Int),V.int e]) hT);have nT:upd Hq T (.tup [V.int (i:Int),V.int e]) T=some (.tup [V.int (i:Int),V.int e]):=zai;generalize upd Hq T (.tup [V.int (i:Int),V.int e])=Hr at sr nT ⊢;symm;by_cases hc:e=-2
   ·refine zcv (by rw [hc]; rfl) ?_;symm;refine ⟨sr,by omega,?_⟩;rw [yar,yap,yaN (74:),yae];rfl
   ·refine zcd (beq_eq_false_iff_ne.mpr hc) ?_;symm;refine ⟨sr,by omega,?_⟩;rw [yar,yap,yaO (73:)];simp
  rintro acc Hs2 ⟨ss2,_,rfl⟩ l2 hl2;rw [yaa];rw [show (List.range ls.length).filter (λ j:Nat=>decide (ls.getD j 0=-2))=zi5 ls from rfl];have s2:=ss2.trans (zak (o:=.lst ((zi5 ls).map nV)) hl2);have n2:upd Hs2 l2 (.lst ((zi5 ls).map nV)) l2=some (.lst ((zi5 ls).map nV)):=zai;generalize upd Hs2 l2 (.lst ((zi5 ls).map nV))=H2 at s2 n2 ⊢;have a2:=s2 _ _ a1;symm;refine ⟨a,_,rfl,.inr ⟨SqT.of a2,?_⟩⟩;refine zbn (xs:=ls.map V.int) (λ i acc H'=>Same H2 H' /\ i <= 64 /\ acc=((List.range i).filter λ j=>decide (0 <= ls.getD j 0)).map nV) ⟨Same.refl _,by omega,rfl⟩ (λ i acc H' h=>?_) (λ i acc H' h=>SqT.of (h.1 _ _ a2)) ?_ ?_
  ·obtain ⟨_,hi,rfl⟩:=h;have:=yaB (λ j:Nat=>decide (0 <= ls.getD j 0)) (List.range i);rw [yah] at this;rw [yaa];exact yaw (small5 (1:))
  ·rintro i u T acc Hq hu hT ⟨sq, hiq, rfl⟩;obtain ⟨e, he, rfl⟩ := zaB hu;have hil : i < ls.length := (yad.mp he).1;have hg : ls.getD i 0 = e := by rw [yab, he]; rfl
   have sr:=sq.trans (zak (o:=.tup [V.int (i:Int),V.int e]) hT);have nT:upd Hq T (.tup [V.int (i:Int),V.int e]) T=some (.tup [V.int (i:Int),V.int e]):=zai;generalize upd Hq T (.tup [V.int (i:Int),V.int e])=Hr at sr nT ⊢;symm;by_cases hc:0 <= e
   ·refine zcv (decide_eq_true hc) ?_;symm;refine ⟨sr,by omega,?_⟩;rw [yar,yap,yaN (74:),yae];rfl
   ·refine zcd (decide_eq_false hc) ?_;symm;refine ⟨sr,by omega,?_⟩;rw [yar,yap,yaO (73:)];simp
  rintro acc Hs3 ⟨ss3,_,rfl⟩ l3 hl3;rw [yaa];rw [show (List.range ls.length).filter (λ j:Nat=>decide (0 <= ls.getD j 0))=zfg ls from rfl];have s3:=ss3.trans (zak (o:=.lst ((zfg ls).map nV)) hl3);have n3:upd Hs3 l3 (.lst ((zfg ls).map nV)) l3=some (.lst ((zfg ls).map nV)):=zai;generalize upd Hs3 l3 (.lst ((zfg ls).map nV))=H3 at s3 n3 ⊢;have a3:=s3 _ _ a2;have n1:=s3 _ _ (s2 _ _ n1);have n2:=s3 _ _ n2;have s03:=s1.trans (s2.trans s3);symm;refine ⟨l1,ziF ls,rfl,.inl (SqL.of n1),λ x hx=>by have:=zeB hL.1 x hx; omega,?_⟩;symm;refine zaw (8:) λ t4 H4 f4 s4 n4=>?_;symm;refine ⟨l2,zi5 ls,rfl,.inl (SqL.of (s4 _ _ n2)),λ x hx=>by have:=zeB hL.1 x hx; omega,?_⟩;symm;refine zaw (8:) λ t5 H5 f5 s5 n5=>?_;symm;refine ⟨a,ls,w,rfl,s5 _ _ (s4 _ _ a3),hL,hw2,λ H6 s6=>?_⟩;symm;refine zaw (8:) λ t7 H7 f7 s7 n7=>?_;have s37:=s4.trans (s5.trans (s6.trans s7));symm;refine ⟨l3,zfg ls,rfl,.inl (SqL.of (s37 _ _ n3)),λ x hx=>by have:=zeB hL.1 x hx; omega,?_⟩;symm;refine zaw (8:) λ t8 H8 f8 s8 n8=>?_;have s38:=s37.trans s8;symm;refine zaP (8:) λ t9 H9 f9 s9 n9=>?_;exact k t9 t4 t5 t7 t8 H9 ((s03.trans s38).free f9) (s03.trans (s38.trans s9)) n9 ((s5.trans (s6.trans (s7.trans (s8.trans s9)))) _ _ n4) ((s6.trans (s7.trans (s8.trans s9))) _ _ n5) ((s8.trans s9) _ _ n7) (s9 _ _ n8)
def zeI:FnScope ["leading","changed","by","swap_mask","copy_mask"] ["leading"] (zaf zbm):=⟨rfl,rfl,rfl,by decide +kernel,rfl,by decide +kernel,by decide +kernel⟩
def zi8 {a:Addr} {fd:FuncData} (B:Blt K mg) (g_mask_of:A17 P w K mg base) (F:Fun K "pair_deeds" "pair_deeds" zbm a fd):FnOk P w K mg base CX0 2 a fd ["leading"] znZ:=by
 refine F.ok zeI (λ vs H Q E h=>?_) (λ cdv A outer s H vs Q E hr h=>?_)
 ·obtain ⟨a,ls,w,rfl,_⟩:=h;rfl
 ·have nd := zeI.nd;have hu := hr.units;obtain ⟨a, ls, w, rfl, ha, hL, hw1, hw2, k⟩ := h;have hle : ls.length <= 64 := by rw [hL.1]; exact hw2
  refine ⟨_,((6:) (@zaR _ _ _ _ _ _ (zaf zbm) _ ["leading","changed","by","swap_mask","copy_mask"] ["place","entry"] [none,none] _ _ _ _ 1 _ _ _ nd rfl (16:) rfl (63:) (λ _ _ _ _=>(72:)) (λ _ _ _ _=>((48:) (@PW.pt _ _ _ ((78:) ((21:) (@zkH _) (13:) (17:) (19:)) (@zds _ _ _ _ ((21:) (47:) (13:) (5:) (19:))))))) (λ _ _ _ _=>(5:)) (25:) (0:) (0:) (18:) (0:) (14:)) ((6:) ((22:) ((21:) (29:) ((35:) (58:) rfl B.b_len boot_len ((2:) (13:) (4:) (0:)) (3:) (3:) (0:) (0:)) (17:) (19:)) ((7:) ((11:) ((32:) (4:)))) (23:)) ((6:) (@zat _ _ 2 _ _ _ _ nd rfl (16:) ((12:) (@zbk _) ((42:) (44:) (5:) (24:) (43:)) (24:)) (0:) (14:)) ((6:) (@zat _ _ 3 _ _ _ _ nd rfl (16:) ((9:) g_mask_of (10:) ((2:) (@zaW _ _ _ _ _ _ (zaf zbm) _ ["leading","changed","by","swap_mask","copy_mask"] ["place","leading"] [none,some 0] _ _ _ _ rfl (56:) (λ _ _ _ _=>(87:)) (λ _ _ _ _=>((48:) ((21:) (@zoZ _) ((42:) (44:) (13:) (5:) (43:)) (5:) (19:)))) (λ _ _ _ _=>(5:)) (25:) (0:) (0:) (18:)) (4:) (0:)) (0:) (3:) (0:) (0:)) (0:) (14:)) ((6:) (@zat _ _ 4 _ _ _ _ nd rfl (16:) ((9:) g_mask_of (10:) ((2:) (@zaW _ _ _ _ _ _ (zaf zbm) _ ["leading","changed","by","swap_mask","copy_mask"] ["place","leading"] [none,some 0] _ _ _ _ rfl (56:) (λ _ _ _ _=>(87:)) (λ _ _ _ _=>(@zba _)) (λ _ _ _ _=>((42:) (44:) (13:) (5:) (43:))) (25:) (0:) (0:) (18:)) (4:) (0:)) (0:) (3:) (0:) (0:)) (0:) (14:)) ((7:) ((11:) ((32:) ((2:) ((26:) ((27:) ((2:) (20:) ((2:) (15:) (4:) (0:)) (0:)))) ((2:) ((26:) ((27:) ((2:) (33:) ((2:) (@zoL _ _ _ _ _ _ (@zkd _) (15:)) (4:) (0:)) (0:)))) (4:) (0:)) (0:)))))))))),?_⟩;symm;refine ⟨a,_,rfl,.inr ⟨SqT.of ha,?_⟩⟩;refine zbn (xs:=ls.map V.int) (λ i acc H'=>Same H H' /\ i <= 64 /\ acc=((List.range i).filter λ j=>decide (0 <= ls.getD j 0 /\ ls.getD j 0 ≠ (j:Int))).map nV) ⟨Same.refl _,by omega,rfl⟩ (λ i acc H' h=>?_) (λ i acc H' h=>SqT.of (h.1 _ _ ha)) ?_ ?_
  ·obtain ⟨_,hi,rfl⟩:=h;have:=yaB (λ j:Nat=>decide (0 <= ls.getD j 0 /\ ls.getD j 0 ≠ (j:Int))) (List.range i);rw [yah] at this;rw [yaa];exact yaw (small5 (1:))
  ·rintro i u T acc Hq hu hT ⟨sq, hiq, rfl⟩;obtain ⟨e, he, rfl⟩ := zaB hu;have hil : i < ls.length := (yad.mp he).1;have hg : ls.getD i 0 = e := by rw [yab, he]; rfl
   have sr:=sq.trans (zak (o:=.tup [V.int (i:Int),V.int e]) hT);have nT:upd Hq T (.tup [V.int (i:Int),V.int e]) T=some (.tup [V.int (i:Int),V.int e]):=zai;generalize upd Hq T (.tup [V.int (i:Int),V.int e])=Hr at sr nT ⊢;symm
   have neg:¬ (0 <= e /\ e ≠ (i:Int)) -> ((List.range i).filter λ j:Nat=>decide (0 <= ls.getD j 0 /\ ls.getD j 0 ≠ (j:Int))).map nV=((List.range (i + 1)).filter λ j:Nat=>decide (0 <= ls.getD j 0 /\ ls.getD j 0 ≠ (j:Int))).map nV:=λ hc=>by
    rw [yar,yap,yaO (73:)];simp
   by_cases h0:0 <= e
   ·refine zcv (decide_eq_true h0) ?_;symm;by_cases h1 : e = (i : Int)
    ·refine zcd (by rw [h1]; simp) ?_;symm;exact ⟨sr,by omega,neg λ z=>z.2 h1⟩
    ·refine zcv (by simp [h1]) ?_;symm;refine ⟨sr,by omega,?_⟩;rw [yar,yap,yaN (by rw [hg]; exact decide_eq_true ⟨h0,h1⟩),yae];rfl
   ·refine zcd (decide_eq_false h0) ?_;symm;exact ⟨sr,by omega,neg λ z=>h0 z.1⟩
  rintro acc Hs1 ⟨ss1,_,rfl⟩ l1 hl1;rw [yaa];rw [show (List.range ls.length).filter (λ j:Nat=>decide (0 <= ls.getD j 0 /\ ls.getD j 0 ≠ (j:Int)))=zjn ls from rfl];have s1:=ss1.trans (zak (o:=.lst ((zjn ls).map nV)) hl1);have n1:upd Hs1 l1 (.lst ((zjn ls).map nV)) l1=some (.lst ((zjn ls).map nV)):=zai;generalize upd Hs1 l1 (.lst ((zjn ls).map nV))=H1 at s1 n1 ⊢;have a1:=s1 _ _ ha
  have hc1:∀ x ∈ zjn ls,x < w /\ 0 <= ls.getD x 0 /\ ls.getD x 0 < (w:Int):=λ x hx=>by
   have h1:=zeB hL.1 x hx;have h2:=decide_eq_true_iff.mp (yaq.mp hx).2;have h3:=(hL.2 (ls.getD x 0) (getD_mem' (by rw [hL.1]; exact h1))).2;exact ⟨h1,h2.1,by omega⟩
  have hcl:(zjn ls).length <= 64:=by
   have:=yaB (λ j:Nat=>decide (0 <= ls.getD j 0 /\ ls.getD j 0 ≠ (j:Int))) (List.range ls.length);rw [yah] at this;exact yaW this hle
  generalize zjn ls=cs at n1 hc1 hcl ⊢;symm;refine zbE (λ h0=>?_) (λ h0=>?_)
  ·symm;refine zaP (8:) λ l2 H2 f2 s2 n2=>?_;exact k l2 _ H2 (s1.free f2) (s1.trans s2) (8:) n2
  symm
  have ix:∀ x,x < w -> (ls.map V.int)[((x:Nat):Int).toNat]?=some (.int (ls.getD x 0)):=λ x hx=>by
   have hx':x < ls.length:=by rw [hL.1]; exact hx
   rw [yak,yaf,yac hx',yab,yac hx'];rfl
  cases cs with
  | nil=>exact absurd rfl h0
  | cons c0 cs0=>
   have hc0:=hc1 c0 (.head _);refine zd9 (v:=nV c0) (SqL.of n1) (1:) rfl ?_;refine zdn (v:=.int (ls.getD c0 0)) (SqT.of a1) (ybG c0) (ix c0 hc0.1) ?_;symm;refine zbQ (SqL.of n1) ?_;refine zbN (xs:=(c0 :: cs0).map nV) (λ i acc H'=>H'=H1 /\ acc=(((c0 :: cs0).take i).filter λ j:Nat=>decide (ls.getD j 0 > (j:Int))).map nV) ⟨rfl,rfl⟩ (λ i acc H' h=>?_) (λ i acc H' h=>by rw [h.1]; exact SqL.of n1) ?_ ?_
   ·obtain ⟨_,rfl⟩:=h;have h1:=yaB (λ j:Nat=>decide (ls.getD j 0 > (j:Int))) ((c0 :: cs0).take i);have h2:=yb8 i (c0 :: cs0);rw [yaa];exact yaw (small5 (1:))
   ·rintro i x acc H' hx ⟨rfl, rfl⟩;obtain ⟨y, hy, rfl⟩ := zaB hx;have hc := hc1 y (yat hy);symm;refine zdn (v := .int (ls.getD y 0)) (SqT.of a1) (ybG y) (ix y hc.1) ?_;symm;refine zck (fun h0 => ?_) (fun h0 => ?_)
    ·symm;refine ⟨rfl,?_⟩;rw [yaz,hy,yap,yae];congr 1;show [nV y]=List.map nV (List.filter _ [y]);rw [yaN (by exact decide_eq_true (1:))];rfl
    ·refine ⟨rfl,?_⟩;rw [yaz,hy,yap,yae];show _=_ ++ List.map nV (List.filter _ [y]);rw [yaO (by rw [decide_eq_true_iff]; omega)];simp
   rintro acc Hx ⟨rfl,rfl⟩ p hp;rw [yaa,yav (yaj _)];generalize hM:(c0 :: cs0).filter (λ j:Nat=>decide (ls.getD j 0 > (j:Int)))=M
   have hM1:∀ x ∈ M,x < 64:=λ x hx=>by
    rw [<- hM] at hx;have:=(hc1 x (yaq.mp hx).1).1;omega
   have s2:=zak (o:=.lst (M.map nV)) hp;have n2:upd Hx p (.lst (M.map nV)) p=some (.lst (M.map nV)):=zai;generalize upd Hx p (.lst (M.map nV))=H2 at s2 n2 ⊢;symm;refine ⟨p,M,rfl,.inl (SqL.of n2),hM1,?_⟩;have n21:=s2 _ _ n1;symm;refine zbQ (SqL.of n21) ?_;refine zbN (xs:=(c0 :: cs0).map nV) (λ i acc H'=>H'=H2 /\ acc=(((c0 :: cs0).take i).map λ j:Nat=>(ls.getD j 0).toNat).map nV) ⟨rfl,rfl⟩ (λ i acc H' h=>?_) (λ i acc H' h=>by rw [h.1]; exact SqL.of n21) ?_ ?_
   ·obtain ⟨_,rfl⟩:=h;have h2:=yb8 i (c0 :: cs0);rw [yaa,yaa];exact yaw (small5 (1:))
   ·rintro i x acc H' hx ⟨rfl,rfl⟩;obtain ⟨y,hy,rfl⟩:=zaB hx;have hc:=hc1 y (yat hy);symm;refine zdn (v:=.int (ls.getD y 0)) (SqT.of (s2 _ _ a1)) (ybG y) (ix y hc.1) ?_;refine ⟨rfl,?_⟩;rw [yaz,hy,yae,yae,show ls.getD y 0=(((ls.getD y 0).toNat:Nat):Int) by omega];simp
   rintro acc Hy ⟨rfl,rfl⟩ p3 hp3;rw [yaa,yav (yaj _)];generalize hN:(c0 :: cs0).map (λ j:Nat=>(ls.getD j 0).toNat)=N
   have hN1:∀ x ∈ N,x < 64:=λ x hx=>by
    rw [<- hN] at hx;obtain ⟨j,hj,rfl⟩:=yau.mp hx;have:=hc1 j hj;omega
   have s3:=zak (o:=.lst (N.map nV)) hp3;have n3:upd Hy p3 (.lst (N.map nV)) p3=some (.lst (N.map nV)):=zai;generalize upd Hy p3 (.lst (N.map nV))=H3 at s3 n3 ⊢;symm;refine ⟨p3,N,rfl,.inl (SqL.of n3),hN1,?_⟩;symm;refine zaw (8:) λ t4 H4 f4 s4 n4=>?_;symm;refine zaw (8:) λ t5 H5 f5 s5 n5=>?_;symm;refine zaP (8:) λ t6 H6 f6 s6 n6=>?_;have s05:=s1.trans (s2.trans (s3.trans (s4.trans s5)));exact k t6 _ H6 (s05.free f6) (s05.trans s6) (8:) n6
def zdL:FnScope ["leading","turn"] ["leading"] (zaf zcD):=⟨rfl,rfl,rfl,by decide +kernel,rfl,by decide +kernel,by decide +kernel⟩
def zgU {a:Addr} {fd:FuncData} (B:Blt K mg) (g_mask_deeds:A61 P w K mg base) (g_pair_deeds:A62 P w K mg base) (F:Fun K "likely_deeds" "likely_deeds" zcD a fd):FnOk P w K mg base CX0 4 a fd ["leading"] zl6:=by
 refine F.ok zdL (λ vs H Q E h=>?_) (λ cdv A outer s H vs Q E hr h=>?_)
 ·obtain ⟨a,ls,w,rfl,_⟩:=h;rfl
 ·have nd := zdL.nd;have hu := hr.units;obtain ⟨a, ls, w, rfl, ha, hL, hw1, hw2, k⟩ := h;have hle : ls.length <= 64 := by rw [hL.1]; exact hw2
  refine ⟨_,((6:) (@zat _ _ 1 _ _ _ _ nd rfl (16:) ((26:) ((27:) ((2:) ((12:) (@zcO _) (@zoL _ _ _ _ _ _ (@zkd _) (41:)) (54:)) (4:) (0:)))) (0:) (14:)) ((7:) ((11:) ((12:) (31:) ((12:) (31:) ((9:) g_mask_deeds (10:) ((2:) (5:) (4:) (0:)) (0:) (3:) (0:) (0:)) ((32:) ((2:) (13:) (4:) (0:)))) ((9:) g_pair_deeds (10:) ((2:) (5:) (4:) (0:)) (0:) (3:) (0:) (0:)))))),?_⟩;symm;have h0:0 < ls.length:=by rw [hL.1]; exact hw1
  refine zdn (v:=.int (ls.getD 0 0)) (SqT.of ha) (1:) (by rw [yaf,show (0:Int).toNat=0 from rfl,yac h0,yab,yac h0]; rfl) ?_;symm;rw [yaa];symm;refine zaw (8:) λ t1 H1 f1 s1 n1=>?_;symm;refine ⟨a,ls,w,rfl,s1 _ _ ha,hL,hw1,hw2,λ l u1 u2 u3 u4 H2 f2 s2 n2 m1 m2 m3 m4=>?_⟩;symm;refine zaP (8:) λ t3 H3 f3 s3 n3=>?_;symm;refine zdN (s3 _ _ n2) n3 (8:) λ t4 H4 f4 s4 n4=>?_;have s14:=s1.trans (s2.trans (s3.trans s4));have s24:=s3.trans s4;symm;refine ⟨a,ls,w,rfl,s14 _ _ ha,hL,hw1,hw2,λ l5 xs H5 f5 s5 z5 n5=>?_⟩;symm;refine zdN (s5 _ _ n4) n5 (49:) λ t6 H6 f6 s6 n6=>?_;have s26:=s24.trans (s5.trans s6);exact k t6 u1 u2 u3 u4 _ H6 ((s14.trans s5).free f6) (s14.trans (s5.trans s6)) (49:) n6 (s26 _ _ m1) (s26 _ _ m2) (s26 _ _ m3) (s26 _ _ m4)
def zgK:FnScope ["leading","width","deed"] ["leading"] (zaf zfz):=⟨rfl,rfl,rfl,by decide +kernel,rfl,by decide +kernel,by decide +kernel⟩
def zkF {a:Addr} {fd:FuncData} (B:Blt K mg) (g_is_deed:A24 P w K mg base) (g_deed_leading:A12 P w K mg base) (g_likely_deeds:A63 P w K mg base) (F:Fun K "one_deed" "one_deed" zfz a fd):FnOk P w K mg base CX0 7 a fd ["leading"] zqa:=by
 refine F.ok zgK (λ vs H Q E h=>?_) (λ cdv A outer s H vs Q E hr h=>?_)
 ·obtain ⟨a,ls,w,m,rfl,_⟩:=h;rfl
 ·have nd := zgK.nd;have hu := hr.units;obtain ⟨a, ls, w, m, rfl, ha, hw1, hw2, hm, hg, k⟩ := h;have og : (Dd.gather m).ok w := hm;have os : (Dd.strew m).ok w := hm
  have hL:Ld w ls:=by
   rcases hg with rfl | rfl
   ·exact Dd.led_ld og
   ·exact Dd.led_ld os
  refine ⟨_,((6:) (@zat _ _ 1 _ _ _ _ nd rfl (16:) (54:) (0:) (14:)) ((6:) ((38:) yaJ rfl (@zaJ _ K _ _ _ ((9:) g_likely_deeds (10:) ((2:) (5:) (4:) (0:)) (0:) (3:) (0:) (0:)) (0:)) (@zam _ _ 2 _ nd rfl (16:) (14:)) ((7:) ((22:) (@PW.pt _ _ _ ((78:) ((50:) ((9:) g_is_deed (10:) ((2:) (13:) ((2:) (15:) (4:) (0:)) (0:)) (0:) (3:) (0:) (0:)) (18:)) (@zds _ _ _ _ ((21:) (29:) ((9:) g_deed_leading (10:) ((2:) (13:) ((2:) (15:) (4:) (0:)) (0:)) (0:) (3:) (0:) (0:)) (5:) (19:))))) ((7:) ((11:) (15:))) (23:))) (18:)) ((7:) ((11:) (53:))))),?_⟩;symm;refine ⟨a,ls,w,rfl,ha,hL,hw1,hw2,λ l u1 u2 u3 u4 xs H1 f1 s1 zx n1 m1 m2 m3 m4=>?_⟩;have a1:=s1 _ _ ha;have o1:(Dd.and (zaI (ziF ls))).ok w:=zgc (zeB hL.1);have o2:(Dd.or (zaI (zi5 ls))).ok w:=zgc (zeB hL.1)
  have o3:(Dd.gather (zhn ls)).ok w:=zgc λ x hx=>by
   simp only [zkw,yau,yaq,decide_eq_true_iff] at hx;obtain ⟨e,⟨h1,h2⟩,rfl⟩:=hx;have:=(hL.2 e h1).2;omega
  have o4:(Dd.strew (zaI (zfg ls))).ok w:=zgc (zeB hL.1)
  have hend:(Dd.gather (zhn ls)).led w=ls \/ (Dd.strew (zaI (zfg ls))).led w=ls:=by
   rcases hg with rfl | rfl
   ·exact .inl (by rw [zgj hm])
   ·exact .inr (by rw [zm6 hm])
  have pick:∀ i,i < 4 -> ∃ (t:Addr) (d:Dd),(V.ref u1 :: V.ref u2 :: V.ref u3 :: V.ref u4 :: xs)[i]?=some (.ref t) /\ H1 t=some (.tup d.vals) /\ d.ok w /\ (i=2 -> d=.gather (zhn ls)) /\ (i=3 -> d=.strew (zaI (zfg ls))):=λ i hi=>by
   match i,hi with
   | 0,_=>exact ⟨u1,_,rfl,m1,o1,by omega,by omega⟩
   | 1,_=>exact ⟨u2,_,rfl,m2,o2,by omega,by omega⟩
   | 2,_=>exact ⟨u3,_,rfl,m3,o3,λ _=>rfl,by omega⟩
   | 3,_=>exact ⟨u4,_,rfl,m4,o4,by omega,λ _=>rfl⟩
  symm;refine zbY (xs:=V.ref u1 :: V.ref u2 :: V.ref u3 :: V.ref u4 :: xs) (λ j σ H'=>Same H1 H' /\ (j <= 3 /\ (j=3 -> (Dd.gather (zhn ls)).led w ≠ ls)) /\ ∃ v2,σ=[some (.ref a),some (nV w),v2]) ⟨Same.refl _,⟨by omega,by omega⟩,none,by rw [yaa,hL.1]; rfl⟩ (λ j σ H' h=>SqL.of (h.1 _ _ n1)) ?_ ?_
  ·rintro j x σ H2 hx ⟨s2, ⟨hj, hj3⟩, v2, rfl⟩;obtain ⟨t, d, ht, mt, od, e2, e3⟩ := pick j (1:);rw [ht] at hx;cases hx;symm;refine ⟨w, t, d, rfl, s2 _ _ mt, hw1, hw2, fun b H3 hb s3 => ?_⟩;obtain rfl : b = true := hb.mpr od;symm;refine ⟨w, t, d, rfl, s3 _ _ (s2 _ _ mt), od, hw2, fun t4 H4 s4 n4 => ?_⟩;have s24 := s2.trans (s3.trans s4);symm;refine zoF (SqT.of n4) (SqT.of (s24 _ _ a1)) ?_;refine ⟨_, rfl, ?_⟩;by_cases he : d.led w = ls
   ·rw [decide_eq_true he];symm;exact k t d H4 (s1.trans s24) (s24 _ _ mt) od he
   ·rw [decide_eq_false he];symm;refine ⟨s24, ⟨?_, fun z => ?_⟩, _, rfl⟩
    ·by_cases z3 : j = 3
     ·rw [e3 z3] at he;exact (hend.elim (hj3 z3) he).elim
     ·omega
    ·rw [e2 (1:)] at he;exact he
  ·rintro σ H2 ⟨s2,⟨hj,_⟩,v2,rfl⟩;simp at hj
def zjz:FnScope ["width","word","by"] ["width","word","by"] (zaf zi3):=⟨rfl,rfl,rfl,by decide +kernel,rfl,by decide +kernel,by decide +kernel⟩
def zoN {a:Addr} {fd:FuncData} (B:Blt K mg) (g_full:A19 P w K mg base) (F:Fun K "turned" "turned" zi3 a fd):FnOk P w K mg base CX0 3 a fd ["width","word","by"] zmf:=by
 refine F.ok zjz (λ vs H Q E h=>?_) (λ cdv A outer s H vs Q E hr h=>?_)
 ·obtain ⟨w,x,n,rfl,_⟩:=h;rfl
 ·have nd:=zjz.nd;have hu:=hr.units;obtain ⟨w,x,n,rfl,hx,hn,hw,q⟩:=h;refine ⟨_,((7:) ((11:) ((12:) (@zko _) ((12:) (@zdj _) ((12:) (@zca _) (13:) (15:)) ((9:) g_full (10:) ((2:) (5:) (4:) (0:)) (0:) (3:) (0:) (0:))) ((12:) (@zhg _) (13:) ((12:) (@zbk _) (5:) (15:)))))),?_⟩;symm;refine ⟨w,rfl,hw,?_⟩;symm;rw [zi6,zaQ,show (w:Int) - (n:Int)=((w - n:Nat):Int) by omega,zi7,zbA];exact q
def zhF:FnScope ["word","mask","by","unlike"] ["word","mask","by"] (zaf zgz):=⟨rfl,rfl,rfl,by decide +kernel,rfl,by decide +kernel,by decide +kernel⟩
def zmt {a:Addr} {fd:FuncData} (B:Blt K mg)  (F:Fun K "swapped" "swapped" zgz a fd):FnOk P w K mg base CX0 1 a fd ["word","mask","by"] zki:=by
 refine F.ok zhF (λ vs H Q E h=>?_) (λ cdv A outer s H vs Q E hr h=>?_)
 ·obtain ⟨x,m,n,rfl,_⟩:=h;rfl
 ·have nd:=zhF.nd;have hu:=hr.units;obtain ⟨x,m,n,rfl,hx,hn,q⟩:=h;refine ⟨_,((6:) (@zat _ _ 3 _ _ _ _ nd rfl (16:) ((12:) (@zdj _) ((12:) (@zh6 _) (5:) ((12:) (@zhg _) (5:) (15:))) (13:)) (0:) (14:)) ((7:) ((11:) ((12:) (@zh6 _) ((12:) (@zh6 _) (5:) (20:)) ((12:) (@zca _) (20:) (15:)))))),?_⟩;symm;rw [zi7,zb6,zaQ];have hu:((x ^^^ x / 2 ^ n) &&& m) < 2 ^ 64:=zlw (Nat.xor_lt_two_pow hx (ya1 (Nat.div_le_self _ _) hx));rw [znG] at q;generalize ((x ^^^ x / 2 ^ n) &&& m)=u at hu q ⊢;symm;rw [zb6,zi6,zb6];exact q
def zhX:FnScope ["word","by"] ["word","by"] (zaf zgr):=⟨rfl,rfl,rfl,by decide +kernel,rfl,by decide +kernel,by decide +kernel⟩
def zmN {a:Addr} {fd:FuncData} (B:Blt K mg)  (F:Fun K "shifted" "shifted" zgr a fd):FnOk P w K mg base CX0 1 a fd ["word","by"] zj7:=by
 refine F.ok zhX (λ vs H Q E h=>?_) (λ cdv A outer s H vs Q E hr h=>?_)
 ·obtain ⟨x,n,rfl,_⟩:=h;rfl
 ·have nd := zhX.nd;have hu := hr.units;obtain ⟨x, n, rfl, hx, h1, h2, q⟩ := h;refine ⟨_, ((7:) ((11:) ((55:) ((21:) (@zkH _) (13:) (17:) (19:)) ((12:) (@zca _) (5:) (13:)) ((12:) (@zhg _) (5:) (@zoL _ _ _ _ _ _ (@zkd _) (13:)))))), ?_⟩;symm;refine zck (fun hc => ?_) (fun hc => ?_)
  ·symm;rw [zhe,if_pos (1:)] at q;rw [show (x:Int) * 2 ^ n.toNat=((x * 2 ^ n.toNat:Nat):Int) by simp];exact q
  ·symm;rw [zhe,if_neg (1:)] at q;rw [show (x:Int) / 2 ^ (-n).toNat=((x / 2 ^ (-n).toNat:Nat):Int) by simp];exact q
def zjO:FnScope ["word","mask","by","gone"] ["word","mask","by"] (zaf zik):=⟨rfl,rfl,rfl,by decide +kernel,rfl,by decide +kernel,by decide +kernel⟩
def zng {a:Addr} {fd:FuncData} (B:Blt K mg) (g_shifted:A67 P w K mg base) (F:Fun K "copied" "copied" zik a fd):FnOk P w K mg base CX0 2 a fd ["word","mask","by"] zlW:=by
 refine F.ok zjO (λ vs H Q E h=>?_) (λ cdv A outer s H vs Q E hr h=>?_)
 ·obtain ⟨x,m,n,rfl,_⟩:=h;rfl
 ·have nd:=zjO.nd;have hu:=hr.units;obtain ⟨x,m,n,rfl,hx,hm,h1,h2,q⟩:=h;refine ⟨_,((6:) (@zat _ _ 3 _ _ _ _ nd rfl (16:) ((12:) (@zdj _) (5:) ((9:) g_shifted (10:) ((2:) (13:) ((2:) (15:) (4:) (0:)) (0:)) (0:) (3:) (0:) (0:))) (0:) (14:)) ((7:) ((11:) ((12:) (@zko _) ((12:) (@zh6 _) (5:) (20:)) ((9:) g_shifted (10:) ((2:) ((12:) (@zdj _) (5:) (13:)) ((2:) (15:) (4:) (0:)) (0:)) (0:) (3:) (0:) (0:)))))),?_⟩;symm;refine ⟨m,n,rfl,hm,h1,h2,?_⟩;symm;rw [zaQ];refine ⟨x &&& m,n,rfl,zlw hx,h1,h2,?_⟩;symm;rw [zaQ,zb6,zbA];exact q
def zn9:FnScope ["width","deed","word","name"] ["width","deed","word"] (zaf znK):=⟨rfl,rfl,rfl,by decide +kernel,rfl,by decide +kernel,by decide +kernel⟩
def zq4 {a:Addr} {fd:FuncData} (B:Blt K mg) (g_full:A19 P w K mg base) (g_gathered:A60 P w K mg base) (g_strewn:A18 P w K mg base) (g_turned:A65 P w K mg base) (g_swapped:A66 P w K mg base) (g_copied:A68 P w K mg base) (F:Fun K "done" "done" znK a fd):FnOk P w K mg base CX0 4 a fd ["width","deed","word"] zql:=by
 refine F.ok zn9 (λ vs H Q E h=>?_) (λ cdv A outer s H vs Q E hr h=>?_)
 ·obtain ⟨w,x,b,d,rfl,_⟩:=h;rfl
 ·have nd := zn9.nd;have hu := hr.units;obtain ⟨w, x, b, d, rfl, hb, hd, hw, hx, k⟩ := h;have hx64 := lt64 hx hw;refine ⟨_, ((6:) (81:) ((6:) ((22:) (37:) ((7:) ((11:) ((12:) (@zdj _) (15:) (24:)))) (23:)) ((6:) ((22:) (37:) ((7:) ((11:) ((12:) (@zko _) (15:) (24:)))) (23:)) ((6:) ((22:) (37:) ((7:) ((11:) ((12:) (@zdj _) ((12:) (@zca _) (15:) (24:)) ((9:) g_full (10:) ((2:) (5:) (4:) (0:)) (0:) (3:) (0:) (0:))))) (23:)) ((6:) ((22:) (37:) ((7:) ((11:) ((12:) (@zhg _) (15:) (24:)))) (23:)) ((6:) ((22:) (37:) ((7:) ((11:) ((9:) g_turned (10:) ((2:) (5:) ((2:) (15:) ((2:) (24:) (4:) (0:)) (0:)) (0:)) (0:) (3:) (0:) (0:)))) (23:)) ((6:) ((22:) (37:) ((7:) ((11:) ((9:) g_swapped (10:) ((2:) (15:) ((2:) (24:) ((2:) (24:) (4:) (0:)) (0:)) (0:)) (0:) (3:) (0:) (0:)))) (23:)) ((6:) ((22:) (37:) ((7:) ((11:) ((9:) g_gathered (10:) ((2:) (15:) ((2:) (24:) (4:) (0:)) (0:)) (0:) (3:) (0:) (0:)))) (23:)) ((6:) ((22:) (37:) ((7:) ((11:) ((9:) g_strewn (10:) ((2:) (15:) ((2:) (24:) (4:) (0:)) (0:)) (0:) (3:) (0:) (0:)))) (23:)) ((7:) ((11:) ((9:) g_copied (10:) ((2:) (15:) ((2:) (24:) ((2:) (24:) (4:) (0:)) (0:)) (0:)) (0:) (3:) (0:) (0:))))))))))))), ?_⟩;cases d with
  | and m=>symm; rw [zaQ]; exact k H λ _ _ e=>e
  | or m=>symm; rw [zbA]; exact k H λ _ _ e=>e
  | left n=>
   have hn:n <= w:=hd;symm;refine ⟨w,rfl,hw,?_⟩;symm;rw [zi6,zaQ];exact k H λ _ _ e=>e
  | right n=>symm; rw [zi7]; exact k H λ _ _ e=>e
  | turn n=>
   have hn:n < w:=hd;symm;exact ⟨w,x,n,rfl,hx64,hn,hw,k H λ _ _ e=>e⟩
  | gather m=>symm; exact ⟨x,m,rfl,lt64 hd hw,k⟩
  | strew m=>symm; exact ⟨x,m,rfl,lt64 hd hw,k⟩
  | swap m n=>
   have hn:=hd.2.1;symm;exact ⟨x,m,n,rfl,hx64,by omega,k H λ _ _ e=>e⟩
  | copy m n=>
   obtain ⟨n0,n1,n2,hm,_⟩:=id hd;symm;exact ⟨x,m,n,rfl,hx64,lt64 hm hw,by omega,by omega,k H λ _ _ e=>e⟩
def zgS:FnScope ["width","row","word","deed"] ["width","row","word"] (zaf zfh):=⟨rfl,rfl,rfl,by decide +kernel,rfl,by decide +kernel,by decide +kernel⟩
def zk5 {a:Addr} {fd:FuncData} (B:Blt K mg) (g_done:A69 P w K mg base) (F:Fun K "row_done" "row_done" zfh a fd):FnOk P w K mg base CX0 5 a fd ["width","row","word"] (zkp K):=by
 refine F.ok zgS (λ vs H Q E h=>?_) (λ cdv A outer s H vs Q E hr h=>?_)
 ·obtain ⟨w,x,b,L,rfl,_⟩:=h;rfl
 ·have nd := zgS.nd;have hu := hr.units;obtain ⟨w, x, b, L, rfl, hb, hR, hw, hx, k⟩ := h;refine ⟨_, ((6:) ((38:) yaJ rfl (56:) (64:) ((7:) (@zat _ _ 2 _ _ _ _ nd rfl (16:) ((9:) g_done (10:) ((2:) (5:) ((2:) (20:) ((2:) (15:) (4:) (0:)) (0:)) (0:)) (0:) (3:) (0:) (0:)) (0:) (14:))) (18:)) ((7:) ((11:) (15:)))), ?_⟩;symm;refine zgg (xs := rowV L) hb (fun j σ H' => Same H H' /\ ∃ v3, σ = [some (nV w), some (.ref b), some (nV (rowN w (dds (L.take j)) x)), v3]) ⟨fun _ _ e => e, _, rfl⟩ (fun j σ H' h => ⟨fun z => (h.1).seq z, fun z => (h.1).seqT z⟩) ?_ ?_
  ·rintro j y σ H' hy ⟨s1,v3,rfl⟩;obtain ⟨q,hq,rfl⟩:=zaB hy;obtain ⟨h1,h2⟩:=hR q (yat hq);have hok:∀ d ∈ dds (L.take j),d.ok w:=Rw.ok (H:=H) λ q hq=>hR q (ybD hq);symm;refine ⟨w,_,q.1,q.2,rfl,s1 _ _ h1,h2,hw,znl _ _ hok hx,λ H2 s2=>?_⟩;symm;refine ⟨s1.trans s2,some (.ref q.1),?_⟩;rw [yaz,hq,show dds (L.take j ++ (some q).toList)=dds (L.take j) ++ [q.2] by simp [dds],zp5];rfl
  ·rintro σ H' ⟨s1,v3,rfl⟩;rw [show (rowV L).length=L.length by simp [rowV],yav (yaj _)];symm;exact k H' s1
def zhT:FnScope ["_law_found","_law_due"] ["_law_found","_law_due"] (zaf zg0):=⟨rfl,rfl,rfl,by decide +kernel,rfl,by decide +kernel,by decide +kernel⟩
def zmF {a:Addr} {fd:FuncData} (B:Blt K mg)  (F:Fun K "_law_is" "_law_is" zg0 a fd):FnOk P w K mg base CX0 1 a fd ["_law_found","_law_due"] zom:=by
 refine F.ok zhT (λ vs H Q E h=>?_) (λ cdv A outer s H vs Q E hr h=>?_)
 ·obtain ⟨i,j,rfl,_⟩:=h;rfl
 ·have nd:=zhT.nd;have hu:=hr.units;obtain ⟨i,j,rfl,q⟩:=h;refine ⟨_,((7:) ((11:) ((67:) ((35:) (@zno _ K (0:)) rfl B.b_isinstance boot_isinstance ((2:) (5:) ((2:) (@zgH _ _ (.ty "int") _ _ rfl B.b_int boot_int rfl (3:) (3:)) (4:) (0:)) (0:)) (3:) (3:) (0:) (0:)) ((67:) (@zrD _ _ _ _ ((35:) (@zno _ K (0:)) rfl B.b_isinstance boot_isinstance ((2:) (5:) ((2:) (@zgH _ _ (.ty "bool") _ _ rfl B.b_bool boot_bool rfl (3:) (3:)) (4:) (0:)) (0:)) (3:) (3:) (0:) (0:))) (@zid _ _ _ _ _ ((57:) (29:) (5:) (13:) (19:))))))),?_⟩;symm;exact q
def zcn:FnScope ["_law_width","_law_rows","_law_leading","_law_words","_law_told","_law_row"] ["_law_width","_law_rows","_law_leading","_law_words","_law_told"] (zaf za1):=⟨rfl,rfl,rfl,by decide +kernel,rfl,by decide +kernel,by decide +kernel⟩
def zeP {a:Addr} {fd:FuncData} (B:Blt K mg) (g_row_done:A70 P w K mg base) (g_row_leading:A14 P w K mg base) (g_shortened:A30 P w K mg base) (g__law_is:A71 P w K mg base) (F:Fun K "_law_rows_right" "_law_rows_right" za1 a fd):FnOk P w K mg base CX0 12 a fd ["_law_width","_law_rows","_law_leading","_law_words","_law_told"] zl8:=by
 refine F.ok zcn (λ vs H Q E h=>?_) (λ cdv A outer s H vs Q E hr h=>?_)
 ·obtain ⟨w,lr,a,lw,lt,R,ls,ws,rfl,_⟩:=h;rfl
 ·have nd := zcn.nd;have hu := hr.units;obtain ⟨w, lr, a, lw, lt, R, ls, ws, rfl, hw1, hw2, hlr, hR, zR, ha, hlw, hws, zw, hlt, k⟩ := h;refine ⟨_, ((6:) ((38:) yaJ rfl (@zaJ _ K _ _ _ ((12:) (31:) (13:) (@zaW _ _ _ _ _ _ (zaf za1) _ ["_law_width", "_law_rows", "_law_leading", "_law_words", "_law_told", "_law_row"] ["_law_row", "_law_width"] [none, some 0] _ _ _ _ rfl (56:) (fun _ _ _ _ => (@zam _ _ 0 _ (show List.Nodup (["_law_row", "_law_width"] : List Str) by decide +kernel) rfl (16:) (14:))) (fun _ _ _ _ => (@zba _)) (fun _ _ _ _ => ((9:) g_shortened (10:) ((2:) (13:) ((2:) (5:) (4:) (0:)) (0:)) (0:) (3:) (0:) (0:))) (25:) (0:) (0:) (18:))) (0:)) (@zam _ _ 5 _ nd rfl (Or.inr rfl) (14:)) ((6:) ((22:) ((21:) (47:) ((9:) g_row_leading (10:) ((2:) (5:) ((2:) (46:) (4:) (0:)) (0:)) (0:) (3:) (0:) (0:)) (15:) (19:)) ((7:) ((11:) (36:))) (23:)) ((7:) ((22:) (@zdl _ _ _ _ ((50:) ((35:) (@zrB _ K rfl (0:)) rfl B.b_all boot_all ((2:) (@zaW _ _ _ _ _ _ (zaf za1) _ ["_law_width", "_law_rows", "_law_leading", "_law_words", "_law_told", "_law_row"] ["_law_word_here", "_law_due", "_law_width", "_law_row"] [none, none, some 0, some 5] _ _ _ _ rfl (96:) (fun _ _ _ _ => (@za8 _ K _ _ _ _ 2 rfl ((45:) (@zam _ _ 0 _ (show List.Nodup (["_law_word_here", "_law_due", "_law_width", "_law_row"] : List Str) by decide +kernel) rfl (16:) (14:)) ((45:) (@zam _ _ 1 _ (show List.Nodup (["_law_word_here", "_law_due", "_law_width", "_law_row"] : List Str) by decide +kernel) rfl (16:) (14:)) (@za6 _) (0:)) (0:)) (0:) (0:) (0:))) (fun _ _ _ _ => (@zba _)) (fun _ _ _ _ => ((9:) g__law_is (10:) ((2:) ((9:) g_row_done (10:) ((2:) (15:) ((2:) (20:) ((2:) (5:) (4:) (0:)) (0:)) (0:)) (0:) (3:) (0:) (0:)) ((2:) (13:) (4:) (0:)) (0:)) (0:) (3:) (0:) (0:))) (25:) (0:) (0:) (18:)) (4:) (0:)) (3:) (3:) (0:) (0:)) (18:))) ((7:) ((11:) (36:))) (23:)))) (18:)) ((7:) ((11:) (36:)))), ?_⟩;symm;refine zbQ (SqL.of hlr) ?_;refine zbN (xs := R.map fun q => V.ref q.1) (fun i acc H' => Same H H' /\ i <= 10 /\ ∃ S : List (Addr × List (Addr × Dd)), S.length = i /\ acc = S.map (fun q => V.ref q.1) /\ ∀ q ∈ S, H' q.1 = some (.lst (rowV q.2)) /\ Rw H' w q.2 /\ q.2.length <= 100 /\ rowL w (dds q.2) = ls) ⟨Same.refl _, by omega, [], rfl, rfl, (fun _ z => (nomatch z))⟩ (fun i acc H' h => ?_) (fun i acc H' h => SqL.of (h.1 _ _ hlr)) ?_ ?_
  ·obtain ⟨_,hi,S,zS,rfl,_⟩:=h;rw [yaa];exact yaw (small5 (1:))
  ·rintro i x acc H1 hx ⟨s1, hi, S, zS, rfl, hS⟩;obtain ⟨q, hq, rfl⟩ := zaB hx;have hiz : i < R.length := (yad.mp hq).1;obtain ⟨q1, q2, q3, q4⟩ := hR q (yat hq);obtain ⟨sO, sL, sS, sZ⟩ := zew (dds q.2) q2.ok;symm;refine ⟨w, q.1, q.2, rfl, .inl (s1 _ _ q1), q2.same s1, hw1, hw2, by omega, fun l M H2 eM hM f2 n2 s2 => ?_⟩;have eM' : dds M = (zaH w (dds q.2)).reverse := by rw [<- eM, ybn]
   have zM:M.length <= 100:=by
    have h1:(dds M).length=M.length:=yaa ..;have h2:(dds q.2).length=q.2.length:=yaa ..;rw [<- h1,eM',ycX];omega
   refine ⟨s1.trans s2,by omega,S ++ [(l,M)],by rw [yao,zS]; rfl,by rw [yae]; rfl,λ r hr=>?_⟩;rcases yaA.mp hr with z | z
   ·obtain ⟨r1,r2,r3,r4⟩:=hS r z;exact ⟨s2 _ _ r1,r2.same s2,r3,r4⟩
   ·rw [yax.mp z];exact ⟨n2,hM,zM,by rw [eM',sL,q4]⟩
  rintro acc H1 ⟨s1,_,S,zS,rfl,hS⟩ l2 f2;have s2:=zak (o:=.lst (S.map λ q=>V.ref q.1)) f2;have n2:upd H1 l2 (.lst (S.map λ q=>V.ref q.1)) l2=some (.lst (S.map λ q=>V.ref q.1)):=zai;generalize upd H1 l2 (.lst (S.map λ q=>V.ref q.1))=H2 at s2 n2 ⊢;have s02:=s1.trans s2;rw [yaa] at zS;symm;refine zdN (s02 _ _ hlr) n2 (by rw [yaa,yaa]; omega) λ l3 H3 f3 s3 n3=>?_;rw [<- yae] at n3;have s03:=s02.trans s3
  have hT:∀ q ∈ R ++ S,H3 q.1=some (.lst (rowV q.2)) /\ Rw H3 w q.2 /\ rowL w (dds q.2)=ls:=λ q hq=>by
   rcases yaA.mp hq with z | z
   ·obtain ⟨r1,r2,r3,r4⟩:=hR q z;exact ⟨s03 _ _ r1,r2.same s03,r4⟩
   ·obtain ⟨r1,r2,r3,r4⟩:=hS q z;exact ⟨(s2.trans s3) _ _ r1,r2.same (s2.trans s3),r4⟩
  generalize R ++ S=T at n3 hT ⊢;symm;refine zbY (xs:=T.map λ q=>V.ref q.1) (λ j σ H'=>Same H3 H' /\ ∃ v5,σ=[some (nV w),some (.ref lr),some (.ref a),some (.ref lw),some (.ref lt),v5]) ⟨Same.refl _,none,rfl⟩ (λ j σ H' h=>SqL.of (h.1 _ _ n3)) ?_ ?_
  ·rintro j x σ H4 hx ⟨s4, v5, rfl⟩;obtain ⟨q, hq, rfl⟩ := zaB hx;obtain ⟨q1, q2, q4⟩ := hT q (yat hq);symm;refine ⟨w, q.1, q.2, rfl, SqA.of (s4 _ _ q1), q2.same s4, hw2, fun t5 H5 s5 n5 => ?_⟩;rw [q4] at n5;have s35 := s4.trans s5;have s05 := s03.trans s35;symm;refine zlo (SqT.of n5) (SqT.of (s05 _ _ ha)) ?_;rw [decide_eq_true rfl];have nw := s05 _ _ hlw;have nt := s05 _ _ hlt;symm;refine ⟨lw, lt, _, _, rfl, SqL.of nw, SqL.of nt, ?_⟩;refine zmk (fun i acc H' => Same H5 H' /\ i <= 10 /\ acc = (List.replicate i true).map V.bl) ⟨Same.refl _, by omega, rfl⟩ (fun i acc H' h => ?_) (fun i acc H' h => ⟨SqL.of (h.1 _ _ nw), SqL.of (h.1 _ _ nt)⟩) ?_ ?_
   ·obtain ⟨_,hi,rfl⟩:=h;rw [yaa,ybU];exact yaw (small5 (1:))
   ·rintro i x y T acc H6 hx hy hT ⟨s6,hi,rfl⟩;obtain ⟨u,hu,rfl⟩:=zaB hx;obtain ⟨y',hy',rfl⟩:=zaB hy;rw [yaf,hu] at hy';obtain rfl:ledN ls u=y':=Option.some.inj hy';have hiz:i < ws.length:=(yad.mp hu).1;have hu2:=hws u (yat hu);have sT:=zak (o:=.tup [nV u,nV (ledN ls u)]) hT;have nT:upd H6 T (.tup [nV u,nV (ledN ls u)]) T=some (.tup [nV u,nV (ledN ls u)]):=zai;have s7:=s6.trans sT;generalize upd H6 T (.tup [nV u,nV (ledN ls u)])=H7 at nT s7 ⊢;have s37:=s35.trans s7;symm;refine ⟨w,u,q.1,q.2,rfl,SqA.of (s37 _ _ q1),q2.same s37,hw2,hu2,λ H8 s8=>?_⟩;rw [<- zrf q2.ok hu2,q4];symm;refine ⟨_,_,rfl,?_⟩;rw [beq_self_eq_true];exact ⟨s7.trans s8,by omega,by rw [List.replicate_succ',yae]; rfl⟩
   rintro acc H6 ⟨s6,_,rfl⟩ l7 f7;have s7:=zak (o:=.lst ((List.replicate (min (ws.map nV).length ((ws.map (ledN ls)).map nV).length) true).map V.bl)) f7;symm;refine ⟨l7,_,rfl,SqL.of zai,?_⟩;rw [show (λ bs:List Bool=>bs.all id) (List.replicate (min (ws.map nV).length ((ws.map (ledN ls)).map nV).length) true)=true by show (List.replicate (min (ws.map nV).length ((ws.map (ledN ls)).map nV).length) true).all id=true; rw [ybo]; intro x hx; rw [(List.mem_replicate.mp hx).2]; rfl];symm;exact ⟨s35.trans (s6.trans s7),_,rfl⟩
  ·rintro σ H4 ⟨s4,v5,rfl⟩;symm;exact k _ (s03.trans s4)
def zco:FnScope ["_law_width","_law_mask","_law_words","_law_there","_law_here","_law_rows","_law_made"] ["_law_width","_law_mask","_law_words"] (zaf za0):=⟨rfl,rfl,rfl,by decide +kernel,rfl,by decide +kernel,by decide +kernel⟩
def zeY {a:Addr} {fd:FuncData} (B:Blt K mg) (g_gather_row:A35 P w K mg base) (g_strew_row:A36 P w K mg base) (g_kept_by:A37 P w K mg base) (g_any_row:A58 P w K mg base) (g_deeds_for:A59 P w K mg base) (g_gathered:A60 P w K mg base) (g_strewn:A18 P w K mg base) (g_deed_leading:A12 P w K mg base) (g_one_deed:A64 P w K mg base) (g_row_leading:A14 P w K mg base) (g_bound:A31 P w K mg base) (g_back:A43 P w K mg base) (g__law_rows_right:A72 P w K mg base) (F:Fun K "_law_mask_right" "_law_mask_right" za0 a fd):FnOk P w K mg base CX0 22 a fd ["_law_width","_law_mask","_law_words"] zlG:=by
 refine F.ok zco (λ vs H Q E h=>?_) (λ cdv A outer s H vs Q E hr h=>?_)
 ·obtain ⟨kk,m,lw,ws,rfl,_⟩:=h;rfl
 ·have nd := zco.nd;have hu := hr.units;obtain ⟨kk, m, lw, ws, rfl, hk, hm, hlw, hws, zw, k⟩ := h;have hw1 : 1 <= 2 ^ kk := ycY;have hw2 : 2 ^ kk <= 64 := yaW (yaG (3:) hk) (3:);generalize hwd : 2 ^ kk = w at hw1 hw2 hm hws;have hb6 := ziW hw2;have og : (Dd.gather m).ok w := hm;have os : (Dd.strew m).ok w := hm;have lg := Dd.led_ld og;have lS := Dd.led_ld os;have hm64 : m < 2 ^ 64 := yag hm (yaG (3:) hw2);refine ⟨_, ((6:) (@zo2 _ _ 3 4 _ _ _ _ _ _ _ _ _ _ _ rfl nd rfl rfl (3:) rfl rfl ((2:) ((9:) g_deed_leading (10:) ((2:) (5:) ((2:) ((26:) ((27:) ((2:) (13:) (4:) (0:)))) (4:) (0:)) (0:)) (0:) (3:) (0:) (0:)) ((2:) ((9:) g_deed_leading (10:) ((2:) (5:) ((2:) ((26:) ((27:) ((2:) (13:) (4:) (0:)))) (4:) (0:)) (0:)) (0:) (3:) (0:) (0:)) (4:) (0:)) (0:)) rfl (0:)) ((6:) ((22:) (@PW.pt _ _ _ (@zpw _ _ _ _ _ _ _ ((21:) (47:) ((9:) g_kept_by (10:) ((2:) (20:) (4:) (0:)) (0:) (3:) (0:) (0:)) (13:) (19:)) (@zlK _ _ _ _ ((21:) (47:) ((9:) g_back (10:) ((2:) (20:) ((2:) (13:) (4:) (0:)) (0:)) (0:) (3:) (0:) (0:)) (33:) (19:))))) ((7:) ((11:) (36:))) (23:)) ((6:) (@zat _ _ 5 _ _ _ _ nd rfl (16:) ((32:) ((2:) ((9:) g_gather_row (10:) ((2:) (5:) ((2:) (13:) (4:) (0:)) (0:)) (0:) (3:) (0:) (0:)) ((2:) ((9:) g_any_row (10:) ((2:) (20:) (4:) (0:)) (0:) (3:) (0:) (0:)) ((2:) ((32:) ((2:) ((9:) g_one_deed (10:) ((2:) (20:) (4:) (0:)) (0:) (3:) (0:) (0:)) (4:) (0:))) (4:) (0:)) (0:)) (0:))) (0:) (14:)) ((6:) ((22:) ((21:) (47:) ((35:) (58:) rfl B.b_len boot_len ((2:) ((42:) (44:) (46:) (17:) (43:)) (4:) (0:)) (3:) (3:) (0:) (0:)) ((9:) g_deeds_for (10:) ((2:) (5:) (4:) (0:)) (0:) (3:) (0:) (0:)) (19:)) ((7:) ((11:) (36:))) (23:)) ((6:) ((22:) (@zdl _ _ _ _ ((50:) ((9:) g__law_rows_right (10:) ((2:) (5:) ((2:) (46:) ((2:) (20:) ((2:) (15:) ((2:) (@zaW _ _ _ _ _ _ (zaf za0) _ ["_law_width", "_law_mask", "_law_words", "_law_there", "_law_here", "_law_rows", "_law_made"] ["_law_word_here", "_law_mask"] [none, some 1] _ _ _ _ rfl (@zaJ _ K _ _ _ (15:) (0:)) (fun _ _ _ _ => (93:)) (fun _ _ _ _ => (@zba _)) (fun _ _ _ _ => ((9:) g_gathered (10:) ((2:) (5:) ((2:) (13:) (4:) (0:)) (0:)) (0:) (3:) (0:) (0:))) (25:) (0:) (0:) (18:)) (4:) (0:)) (0:)) (0:)) (0:)) (0:)) (0:) (3:) (0:) (0:)) (18:))) ((7:) ((11:) (36:))) (23:)) ((6:) (@zat _ _ 5 _ _ _ _ nd rfl (16:) ((32:) ((2:) ((9:) g_strew_row (10:) ((2:) (5:) ((2:) (13:) (4:) (0:)) (0:)) (0:) (3:) (0:) (0:)) ((2:) ((9:) g_any_row (10:) ((2:) (33:) (4:) (0:)) (0:) (3:) (0:) (0:)) ((2:) ((32:) ((2:) ((9:) g_one_deed (10:) ((2:) (33:) (4:) (0:)) (0:) (3:) (0:) (0:)) (4:) (0:))) (4:) (0:)) (0:)) (0:))) (0:) (14:)) ((6:) ((22:) (@zdl _ _ _ _ ((50:) ((9:) g__law_rows_right (10:) ((2:) (5:) ((2:) (46:) ((2:) (33:) ((2:) (15:) ((2:) (@zaW _ _ _ _ _ _ (zaf za0) _ ["_law_width", "_law_mask", "_law_words", "_law_there", "_law_here", "_law_rows", "_law_made"] ["_law_word_here", "_law_mask"] [none, some 1] _ _ _ _ rfl (@zaJ _ K _ _ _ (15:) (0:)) (fun _ _ _ _ => (93:)) (fun _ _ _ _ => (@zba _)) (fun _ _ _ _ => ((9:) g_strewn (10:) ((2:) (5:) ((2:) (13:) (4:) (0:)) (0:)) (0:) (3:) (0:) (0:))) (25:) (0:) (0:) (18:)) (4:) (0:)) (0:)) (0:)) (0:)) (0:)) (0:) (3:) (0:) (0:)) (18:))) ((7:) ((11:) (36:))) (23:)) ((6:) (@zat _ _ 6 _ _ _ _ nd rfl (16:) ((9:) g_bound (10:) ((2:) (5:) ((2:) ((32:) ((2:) ((9:) g_gather_row (10:) ((2:) (5:) ((2:) (13:) (4:) (0:)) (0:)) (0:) (3:) (0:) (0:)) ((2:) ((9:) g_strew_row (10:) ((2:) (5:) ((2:) (13:) (4:) (0:)) (0:)) (0:) (3:) (0:) (0:)) (4:) (0:)) (0:))) (4:) (0:)) (0:)) (0:) (3:) (0:) (0:)) (0:) (14:)) ((7:) ((11:) ((57:) (29:) ((9:) g_row_leading (10:) ((2:) (5:) ((2:) (66:) (4:) (0:)) (0:)) (0:) (3:) (0:) (0:)) ((9:) g_deed_leading (10:) ((2:) (5:) ((2:) ((26:) ((27:) ((2:) (13:) (4:) (0:)))) (4:) (0:)) (0:)) (0:) (3:) (0:) (0:)) (19:)))))))))))), ?_⟩;symm;refine zaw (8:) fun t1 H1 f1 s1 n1 => ?_;symm;refine ⟨w, t1, .gather m, rfl, n1, og, hw2, fun tg H2 s2 n2 => ?_⟩;symm;refine zaw (8:) fun t3 H3 f3 s3 n3 => ?_;symm;refine ⟨w, t3, .strew m, rfl, n3, os, hw2, fun ts H4 s4 n4 => ?_⟩
  have s04:=s1.trans (s2.trans (s3.trans s4));have g4:=s4 _ _ (s3 _ _ n2);symm;refine ⟨tg,_,w,rfl,g4,lg,hw2,λ H5 s5=>?_⟩;rw [zgj hm];symm;refine zju (λ z=>absurd rfl z) (λ _=>?_);symm;refine ⟨tg,_,w,m,rfl,s5 _ _ g4,lg,hw2,λ p hp hb=>?_,λ t6 H6 s6 n6=>?_⟩
  ·have q := zaO hb
   have e:((Dd.gather m).led w).getD ((zac m).idxOf p) 0=(p:Int):=by
    rw [Dd.led_getD _ (yag q.1 (zay hm)),show (Dd.gather m).src w ((zac m).idxOf p)=if (zac m).idxOf p < (zac m).length then ((zac m).getD ((zac m).idxOf p) 0:Int) else -1 from rfl,if_pos q.1,q.2]
   rw [<- e];exact getD_mem' (by rw [Dd.led_len]; exact yag q.1 (zay hm))
  rw [zkS hm] at n6;have s46:=s5.trans s6;symm;refine zlo (SqT.of n6) (SqT.of (s46 _ _ n4)) ?_;rw [decide_eq_true rfl];have g6:=s46 _ _ g4;have h6:=s46 _ _ n4;have s06:=s04.trans s46;symm;refine ⟨w,m,rfl,hw1,hw2,hm,λ lg1 Lg1 Hg1 fg1 sg1 eg1 Rg1 mg1=>?_⟩;have zg1:Lg1.length <= 7:=by rw [<- yaa (f:=λ q:Addr × Dd=>q.2),show Lg1.map (λ q:Addr × Dd=>q.2)=dds Lg1 from rfl,eg1,zfG]; simp; omega
  have rg1:rowL w (dds Lg1)=(Dd.gather m).led w:=by rw [eg1,zmr hw1 hm]
  symm;refine ⟨tg,_,kk,rfl,sg1 _ _ g6,by rw [hwd]; exact lg,hk,λ lg2 Lg2 Hg2 fg2 sg2 mg2 Rg2 eg2=>?_⟩;rw [hwd] at Rg2;have zg2:=zlN (k:=kk) (ls:=(Dd.gather m).led w) (by rw [hwd]; exact lg) hk;rw [<- eg2,show (dds Lg2).length=Lg2.length from yaa ..] at zg2;have zg2':Lg2.length <= 100:=by rw [zg2]; split <;> omega
  have rg2:rowL w (dds Lg2)=(Dd.gather m).led w:=by
   have:=(zkX (k:=kk) (ls:=(Dd.gather m).led w) (by rw [hwd]; exact lg)).2;rw [eg2,<- hwd];rw [<- hwd] at this;exact this
  symm;refine ⟨tg,_,w,m,rfl,sg2 _ _ (sg1 _ _ g6),hw1,hw2,hm,.inl rfl,λ tg3 dg3 Hg3 sg3 ng3 og3 rg3=>?_⟩;symm;refine zaP (8:) λ lg4 Hg4 fg4 sg4 ng4=>?_;symm;refine zaP (8:) λ lg5 Hg5 fg5 sg5 ng5=>?_;have sg25:=sg3.trans (sg4.trans sg5);have sg15:=sg2.trans sg25;have sg05:=sg1.trans sg15;have mg25:=sg25 _ _ mg2;symm;refine ⟨kk,by rw [hwd]; rfl,hk,?_⟩;symm;refine zju (λ z=>absurd (by rw [zbe,zg2]) z) (λ _=>?_);have wg5:=sg05 _ _ (s06 _ _ hlw);symm;refine zbQ (SqL.of wg5) ?_;refine zbN (xs:=ws.map nV) (λ i acc H'=>Same Hg5 H' /\ i <= 10 /\ acc=((ws.take i).map λ x=>zlb x m).map nV) ⟨Same.refl _,by omega,rfl⟩ (λ i acc H' h=>?_) (λ i acc H' h=>SqL.of (h.1 _ _ wg5)) ?_ ?_
  ·obtain ⟨_,hi,rfl⟩:=h;have:=yb8 i ws;rw [yaa,yaa];exact yaw (small5 (1:))
  ·rintro i x acc H' hx ⟨s',hi,rfl⟩;obtain ⟨u,hu,rfl⟩:=zaB hx;have hiz:i < ws.length:=(yad.mp hu).1;symm;refine ⟨u,m,rfl,hm64,λ H'' s''=>?_⟩;refine ⟨s'.trans s'',by omega,?_⟩;rw [yaz,hu,yae,yae];rfl
  rintro acc Hg6 ⟨sg6,_,rfl⟩ lg7 fg7;rw [yaa,yav (yaj _),show ws.map (λ x=>zlb x m)=ws.map (ledN ((Dd.gather m).led w)) from yaM λ x hx=>(Dd.led_done og (hws x hx)).symm];have sg7:=sg6.trans (zak (o:=.lst ((ws.map (ledN ((Dd.gather m).led w))).map nV)) fg7);have ng7:upd Hg6 lg7 (.lst ((ws.map (ledN ((Dd.gather m).led w))).map nV)) lg7=some (.lst ((ws.map (ledN ((Dd.gather m).led w))).map nV)):=zai;generalize upd Hg6 lg7 (.lst ((ws.map (ledN ((Dd.gather m).led w))).map nV))=Hg7 at sg7 ng7 ⊢;symm;refine ⟨w,lg5,tg,lw,lg7,[(lg1,Lg1),(lg2,Lg2),(lg4,[(tg3,dg3)])],(Dd.gather m).led w,ws,rfl,hw1,hw2,sg7 _ _ ng5,?_,by simp,sg7 _ _ (sg05 _ _ g6),sg7 _ _ wg5,hws,zw,ng7,λ Hg8 sg8=>?_⟩
  ·intro q hq;simp only [yaD, yaV, or_false] at hq;rcases hq with rfl | rfl | rfl
   ·exact ⟨sg7 _ _ (sg15 _ _ mg1),(Rg1.same sg15).same sg7,by show Lg1.length <= 100; omega,rg1⟩
   ·exact ⟨sg7 _ _ (sg25 _ _ mg2),(Rg2.same sg25).same sg7,zg2',rg2⟩
   ·exact ⟨sg7 _ _ (sg5 _ _ ng4),λ x hx=>by rw [yax.mp hx]; exact ⟨(sg4.trans (sg5.trans sg7)) _ _ ng3,og3⟩,by simp,by show rowL w [dg3]=_; rw [ziu og3,rg3]⟩
  have sgG:=sg05.trans (sg7.trans sg8);have s0G:=s06.trans sgG;have hG:=sgG _ _ h6;symm;refine ⟨w,m,rfl,hw1,hw2,hm,λ ls1 Ls1 Hs1 fs1 ss1 es1 Rs1 ms1=>?_⟩;have zs1:Ls1.length <= 7:=by rw [<- yaa (f:=λ q:Addr × Dd=>q.2),show Ls1.map (λ q:Addr × Dd=>q.2)=dds Ls1 from rfl,es1,zh4]; simp; omega
  have rs1:rowL w (dds Ls1)=(Dd.strew m).led w:=by rw [es1,zne hw1 hm]
  symm;refine ⟨ts,_,kk,rfl,ss1 _ _ hG,by rw [hwd]; exact lS,hk,λ ls2 Ls2 Hs2 fs2 ss2 ms2 Rs2 es2=>?_⟩;rw [hwd] at Rs2;have zs2:=zlN (k:=kk) (ls:=(Dd.strew m).led w) (by rw [hwd]; exact lS) hk;rw [<- es2,show (dds Ls2).length=Ls2.length from yaa ..] at zs2;have zs2':Ls2.length <= 100:=by rw [zs2]; split <;> omega
  have rs2:rowL w (dds Ls2)=(Dd.strew m).led w:=by
   have:=(zkX (k:=kk) (ls:=(Dd.strew m).led w) (by rw [hwd]; exact lS)).2;rw [es2,<- hwd];rw [<- hwd] at this;exact this
  symm;refine ⟨ts,_,w,m,rfl,ss2 _ _ (ss1 _ _ hG),hw1,hw2,hm,.inr rfl,λ ts3 ds3 Hs3 ss3 ns3 os3 rs3=>?_⟩;symm;refine zaP (8:) λ ls4 Hs4 fs4 ss4 ns4=>?_;symm;refine zaP (8:) λ ls5 Hs5 fs5 ss5 ns5=>?_;have ss25:=ss3.trans (ss4.trans ss5);have ss15:=ss2.trans ss25;have ss05:=ss1.trans ss15;have ws5:=ss05 _ _ (s0G _ _ hlw);symm;refine zbQ (SqL.of ws5) ?_;refine zbN (xs:=ws.map nV) (λ i acc H'=>Same Hs5 H' /\ i <= 10 /\ acc=((ws.take i).map λ x=>za3 x m).map nV) ⟨Same.refl _,by omega,rfl⟩ (λ i acc H' h=>?_) (λ i acc H' h=>SqL.of (h.1 _ _ ws5)) ?_ ?_
  ·obtain ⟨_,hi,rfl⟩:=h;have:=yb8 i ws;rw [yaa,yaa];exact yaw (small5 (1:))
  ·rintro i x acc H' hx ⟨s',hi,rfl⟩;obtain ⟨u,hu,rfl⟩:=zaB hx;have hiz:i < ws.length:=(yad.mp hu).1;symm;refine ⟨u,m,rfl,hm64,λ H'' s''=>?_⟩;refine ⟨s'.trans s'',by omega,?_⟩;rw [yaz,hu,yae,yae];rfl
  rintro acc Hs6 ⟨ss6,_,rfl⟩ ls7 fs7;rw [yaa,yav (yaj _),show ws.map (λ x=>za3 x m)=ws.map (ledN ((Dd.strew m).led w)) from yaM λ x hx=>(Dd.led_done os (hws x hx)).symm];have ss7:=ss6.trans (zak (o:=.lst ((ws.map (ledN ((Dd.strew m).led w))).map nV)) fs7);have ns7:upd Hs6 ls7 (.lst ((ws.map (ledN ((Dd.strew m).led w))).map nV)) ls7=some (.lst ((ws.map (ledN ((Dd.strew m).led w))).map nV)):=zai;generalize upd Hs6 ls7 (.lst ((ws.map (ledN ((Dd.strew m).led w))).map nV))=Hs7 at ss7 ns7 ⊢;symm;refine ⟨w,ls5,ts,lw,ls7,[(ls1,Ls1),(ls2,Ls2),(ls4,[(ts3,ds3)])],(Dd.strew m).led w,ws,rfl,hw1,hw2,ss7 _ _ ns5,?_,by simp,ss7 _ _ (ss05 _ _ hG),ss7 _ _ ws5,hws,zw,ns7,λ Hs8 ss8=>?_⟩
  ·intro q hq;simp only [yaD, yaV, or_false] at hq;rcases hq with rfl | rfl | rfl
   ·exact ⟨ss7 _ _ (ss15 _ _ ms1),(Rs1.same ss15).same ss7,by show Ls1.length <= 100; omega,rs1⟩
   ·exact ⟨ss7 _ _ (ss25 _ _ ms2),(Rs2.same ss25).same ss7,zs2',rs2⟩
   ·exact ⟨ss7 _ _ (ss5 _ _ ns4),λ x hx=>by rw [yax.mp hx]; exact ⟨(ss4.trans (ss5.trans ss7)) _ _ ns3,os3⟩,by simp,by show rowL w [ds3]=_; rw [ziu os3,rs3]⟩
  have ssG:=ss05.trans (ss7.trans ss8);have s0S:=s0G.trans ssG;symm;refine ⟨w,m,rfl,hw1,hw2,hm,λ la LA HA fA sA eA RA mA=>?_⟩;symm;refine ⟨w,m,rfl,hw1,hw2,hm,λ lb LB HB fB sB eB RB mB=>?_⟩;have zA:LA.length <= 7:=by rw [<- yaa (f:=λ q:Addr × Dd=>q.2),show LA.map (λ q:Addr × Dd=>q.2)=dds LA from rfl,eA,zfG]; simp; omega
  have zB:LB.length <= 7:=by rw [<- yaa (f:=λ q:Addr × Dd=>q.2),show LB.map (λ q:Addr × Dd=>q.2)=dds LB from rfl,eB,zh4]; simp; omega
  symm;refine zaP (8:) λ lc HC fC sC nC=>?_;symm;refine ⟨w,lc,[(la,LA),(lb,LB)],rfl,nC,?_,by simp,hw1,hw2,λ ld N HD eN hN fD nD sD=>?_⟩
  ·intro q hq;simp only [yaD, yaV, or_false] at hq;rcases hq with rfl | rfl
   ·exact ⟨sC _ _ (sB _ _ mA),(RA.same sB).same sC,by show LA.length <= 100; omega⟩
   ·exact ⟨sC _ _ mB,RB.same sC,by show LB.length <= 100; omega⟩
  rw [show ([(la,LA),(lb,LB)].flatMap λ q=>q.2)=LA ++ LB by simp] at eN
  have okAB:∀ d ∈ dds (LA ++ LB),d.ok w:=λ d hd=>by
   rw [zfl] at hd;exact (yaA.mp hd).elim (RA.ok d) (RB.ok d)
  obtain ⟨sO,sL,sS,sZ⟩:=zew (dds (LA ++ LB)) okAB;have tg1:(Dd.gather m).tog w (.strew m)=some (.and m):=if_pos rfl
  have eN':rowL w (dds N)=(Dd.and m).led w:=by
   rw [show dds N=(zaH w (dds (LA ++ LB))).reverse by rw [<- eN,ybn],sL,zfl,zg8 RA.ok RB.ok,eA,eB,zmr hw1 hm,zne hw1 hm,(Dd.tog_led og os tg1).2]
  symm;refine ⟨w,ld,N,rfl,SqA.of nD,hN,hw2,λ t20 H20 s20 n20=>?_⟩;rw [eN'] at n20;symm;refine zaw (8:) λ t21 H21 f21 s21 n21=>?_;symm;refine ⟨w,t21,.and m,rfl,n21,(show (Dd.and m).ok w from hm),hw2,λ t22 H22 s22 n22=>?_⟩;symm;refine zoF (SqT.of (s22 _ _ (s21 _ _ n20))) (SqT.of n22) ?_;rw [decide_eq_true rfl];exact k _ (s0S.trans (sA.trans (sB.trans (sC.trans (sD.trans (s20.trans (s21.trans s22)))))))
def zqq:FnScope ["_law_script","_law_hand_here","_law_turn","_law_width","_law_mask","_law_other"] ["_law_script"] (zaf zkc):=⟨rfl,rfl,rfl,by decide +kernel,rfl,by decide +kernel,by decide +kernel⟩
def zs8 {a:Addr} {fd:FuncData} (B:Blt K mg) (g__law_hand:A0 P w K mg base) (g__law_draw:A1 P w K mg base) (g__law_word:A2 P w K mg base) (g__law_twice_right:A32 P w K mg base) (g__law_mask_right:A73 P w K mg base) (F:Fun K "law" "law" zkc a fd):FnOk P w K mg base CX0 23 a fd ["_law_script"] (zpJ K):=by
 refine F.ok zqq (λ vs H Q E h=>?_) (λ cdv A outer s H vs Q E hr h=>?_)
 ·obtain ⟨b,ns,rfl,_⟩:=h;rfl
 ·have nd := zqq.nd;have hu := hr.units;obtain ⟨b, ns, rfl, hS, hlen, k⟩ := h;refine ⟨_, ((6:) (@zat _ _ 1 _ _ _ _ nd rfl (Or.inr rfl) ((9:) g__law_hand (10:) ((2:) (5:) (4:) (0:)) (0:) (3:) (0:) (0:)) (0:) (14:)) ((6:) ((38:) yaJ rfl (88:) (@zam _ _ 2 _ nd rfl (16:) (14:)) ((6:) (@zat _ _ 3 _ _ _ _ nd rfl (Or.inr rfl) ((12:) (@zca _) (17:) ((9:) g__law_draw (10:) ((2:) (13:) ((2:) (17:) (4:) (0:)) (0:)) (0:) (3:) (0:) (0:))) (0:) (14:)) ((6:) (@zo2 _ _ 4 5 _ _ _ _ _ _ _ _ _ _ _ rfl nd rfl rfl (3:) rfl rfl ((2:) ((9:) g__law_word (10:) ((2:) (13:) ((2:) (20:) (4:) (0:)) (0:)) (0:) (3:) (0:) (0:)) ((2:) ((9:) g__law_word (10:) ((2:) (13:) ((2:) (20:) (4:) (0:)) (0:)) (0:) (3:) (0:) (0:)) (4:) (0:)) (0:)) rfl (0:)) ((6:) ((22:) (@zdl _ _ _ _ ((50:) ((9:) g__law_mask_right (10:) ((2:) (20:) ((2:) (33:) ((2:) (@zaW _ _ _ _ _ _ (zaf zkc) _ ["_law_script", "_law_hand_here", "_law_turn", "_law_width", "_law_mask", "_law_other"] ["_law_again", "_law_hand_here", "_law_width"] [none, some 1, some 3] _ _ _ _ rfl (88:) (fun _ _ _ _ => (@zam _ _ 0 _ (show List.Nodup (["_law_again", "_law_hand_here", "_law_width"] : List Str) by decide +kernel) rfl (16:) (14:))) (fun _ _ _ _ => (@zba _)) (fun _ _ _ _ => ((9:) g__law_word (10:) ((2:) (13:) ((2:) (15:) (4:) (0:)) (0:)) (0:) (3:) (0:) (0:))) (25:) (0:) (0:) (18:)) (4:) (0:)) (0:)) (0:)) (0:) (3:) (0:) (0:)) (18:))) ((7:) ((11:) (36:))) (23:)) ((7:) ((22:) (@zdl _ _ _ _ ((50:) ((9:) g__law_twice_right (10:) ((2:) (20:) ((2:) (33:) ((2:) (46:) (4:) (0:)) (0:)) (0:)) (0:) (3:) (0:) (0:)) (18:))) ((7:) ((11:) (36:))) (23:)))))) (18:)) ((7:) ((11:) (36:))))), ?_⟩;symm;refine ⟨b, ns, rfl, hS, fun p H1 fp s1 h1 => ?_⟩;symm;refine zmc (n := 5) rfl (3:) ?_;refine zdS (fun i σ H' => Hand H' p /\ ∃ v2 v3 v4 v5, σ = [some (.ref b), some (.ref p), v2, v3, v4, v5]) ⟨h1, none, none, none, none, rfl⟩ ?_ ?_
  ·rintro i σ H' hi ⟨h2, v2, v3, v4, v5, rfl⟩;symm;refine ⟨p, 7, rfl, h2, by decide, by decide, fun r H3 hr b3 h3 => ?_⟩;have hr6 : r <= 64 := by omega
   symm;rw [show (1:Int) * 2 ^ ((r:Int)).toNat=((2 ^ r:Nat):Int) by rw [yak,Int.one_mul,Int.natCast_pow]; rfl];have hw1:1 <= 2 ^ r:=ycY;have hw2:2 ^ r <= 64:=yaW (yaG (3:) (show r <= 6 by omega)) (3:);refine ⟨p,2 ^ r,rfl,h3,hw1,hw2,λ m H4 hm b4 h4=>?_⟩;symm;refine ⟨p,2 ^ r,rfl,h4,hw1,hw2,λ n H5 hn b5 h5=>?_⟩;symm;refine zed (n:=4) rfl (1:) ?_;refine zaV (λ i acc H'=>But p H5 H' /\ Hand H' p /\ ∃ ws:List Nat,ws.length=i /\ i <= 4 /\ (∀ x ∈ ws,x < 2 ^ 2 ^ r) /\ acc=ws.map nV) ⟨But.refl _ _,h5,[],rfl,by omega,λ _ z=>(nomatch z),rfl⟩ (λ i acc H' h=>?_) ?_ ?_
   ·obtain ⟨_,_,ws,hl,hi,_,rfl⟩:=h;rw [yaa];exact yaw (small5 (1:))
   ·rintro i acc H' hi ⟨b7, h7, ws, hl, hi2, hws, rfl⟩;symm;refine ⟨p, 2 ^ r, rfl, h7, hw1, hw2, fun x H8 hx b8 h8 => ?_⟩;refine ⟨b7.trans b8, h8, ws ++ [x], by rw [yao, hl]; rfl, by omega, fun y hy => ?_, by rw [yae]; rfl⟩;rcases yaA.mp hy with z | z
    ·exact hws y z
    ·rw [yax.mp z]; exact hx
   rintro acc H7 ⟨b7,h7,ws,zw,_,hws,rfl⟩ lw f7;have s8:=zak (o:=.lst (ws.map nV)) f7;have n8:upd H7 lw (.lst (ws.map nV)) lw=some (.lst (ws.map nV)):=zai;generalize upd H7 lw (.lst (ws.map nV))=H8 at s8 n8 ⊢;have h8:=h7.same s8;symm;refine ⟨r,m,lw,ws,rfl,by omega,hm,n8,hws,by omega,λ H9 s9=>?_⟩;symm;refine ⟨2 ^ r,m,n,rfl,hw1,hw2,hm,hn,λ H10 s10=>?_⟩;symm;exact ⟨h8.same (s9.trans s10),_,_,_,_,rfl⟩
  ·rintro σ H2 ⟨h2,v2,v3,v4,v5,rfl⟩;symm;exact k _
end
def all_mk {l:PySem.W.OpenLaw} {w:World} {K:PySem.W.Frag} {h:Heap} {mg:Str -> Option Value} {fa:Addr} (X:K.In h) (G:h.Ns mainGlobals mg) (hfa:mg "law"=some (.ref fa))
  {t_NOUGHT t_ONE:Tok}
  {ta_HALVED_WIDTHS:Addr} {to_HALVED_WIDTHS:Option Addr} {tn_HALVED_WIDTHS:Nat} {ts_HALVED_WIDTHS:Array (Option Value)} {t_HALVED_WIDTHS0 t_HALVED_WIDTHS1 t_HALVED_WIDTHS2 t_HALVED_WIDTHS3 t_HALVED_WIDTHS4 t_HALVED_WIDTHS5 t_HALVED_WIDTHS6:Tok}
  (a0:At K "_law_hand" zc6)
  (a1:At K "_law_draw" zem)
  (a2:At K "_law_word" zeq)
  (a3:At K "then" zlM)
  (a4:At K "bit_at" ziR)
  (a5:At K "places_in" zcV)
  (a6:At K "gather_leading" zbR)
  (a7:At K "strew_leading" zb8)
  (a8:At K "is_within" zev)
  (a9:At K "place_or_nought" zbJ)
  (a10:At K "copy_source" zc9)
  (a11:At K "source_of" zex)
  (a12:At K "deed_leading" zbL)
  (a13:At K "staying" zgu)
  (a14:At K "row_leading" zc4)
  (a15:At K "low" zqQ)
  (a16:At K "bits_in" zgp)
  (a17:At K "mask_of" zhj)
  (a18:At K "strewn" zgh)
  (a19:At K "full" znJ)
  (a20:At K "fits_with_one" zcc)
  (a21:At K "goes_within" zbW)
  (a22:At K "swaps_apart" zcZ)
  (a23:At K "fits_with_two" zcg)
  (a24:At K "is_deed" zg5)
  (a25:At K "swaps_together" zbU)
  (a26:At K "alike_together" zbS)
  (a27:At K "together" zfI)
  (a28:At K "does_nothing" zcx)
  (a29:At K "put_behind" zdu)
  (a30:At K "shortened" zeu)
  (a31:At K "bound" zkU)
  (a32:At K "_law_twice_right" zbw)
  (a33:At K "steps" zii)
  (a34:At K "upper_ends" zdD)
  (a35:At K "gather_row" zcp)
  (a36:At K "strew_row" zc2)
  (a37:At K "kept_by" zeG)
  (a38:At K "check_halved" zcE)
  (a39:At K "is_even" zg4)
  (a40:At K "turned_back" zb0)
  (a41:At K "opposite" zfJ)
  (a42:At K "way_back" zfC)
  (a43:At K "back" zlR)
  (a44:At K "through_upper" zci)
  (a45:At K "with_paper" zdK)
  (a46:At K "paper_of" zbF)
  (a47:At K "halves" zi1)
  (a48:At K "beside_swap" zc1)
  (a49:At K "swaps_by" zdZ)
  (a50:At K "even_row" zfu)
  (a51:At K "runs_of" zgq)
  (a52:At K "filled_up" zcY)
  (a53:At K "to_starts" zez)
  (a54:At K "to_ends" zeJ)
  (a55:At K "copied_places" zcf)
  (a56:At K "copies_for" zdH)
  (a57:At K "set_bits" zcI)
  (a58:At K "any_row" zgO)
  (a59:At K "deeds_for" zey)
  (a60:At K "gathered" zd4)
  (a61:At K "mask_deeds" zbp)
  (a62:At K "pair_deeds" zbm)
  (a63:At K "likely_deeds" zcD)
  (a64:At K "one_deed" zfz)
  (a65:At K "turned" zi3)
  (a66:At K "swapped" zgz)
  (a67:At K "shifted" zgr)
  (a68:At K "copied" zik)
  (a69:At K "done" znK)
  (a70:At K "row_done" zfh)
  (a71:At K "_law_is" zg0)
  (a72:At K "_law_rows_right" za1)
  (a73:At K "_law_mask_right" za0)
  (a74:At K "law" zkc)
  (z_abs:PySem.W.nsIn K mainGlobals "abs"=some none)
  (z_all:PySem.W.nsIn K mainGlobals "all"=some none)
  (z_bool:PySem.W.nsIn K mainGlobals "bool"=some none)
  (z_enumerate:PySem.W.nsIn K mainGlobals "enumerate"=some none)
  (z_int:PySem.W.nsIn K mainGlobals "int"=some none)
  (z_isinstance:PySem.W.nsIn K mainGlobals "isinstance"=some none)
  (z_len:PySem.W.nsIn K mainGlobals "len"=some none)
  (z_list:PySem.W.nsIn K mainGlobals "list"=some none)
  (z_min:PySem.W.nsIn K mainGlobals "min"=some none)
  (z_range:PySem.W.nsIn K mainGlobals "range"=some none)
  (z_reversed:PySem.W.nsIn K mainGlobals "reversed"=some none)
  (z_sorted:PySem.W.nsIn K mainGlobals "sorted"=some none)
  (z_tuple:PySem.W.nsIn K mainGlobals "tuple"=some none)
  (z_zip:PySem.W.nsIn K mainGlobals "zip"=some none)
  (y_NOUGHT:PySem.W.nsIn K mainGlobals "NOUGHT"=some (some (.int (-1) t_NOUGHT)))
  (y_ONE:PySem.W.nsIn K mainGlobals "ONE"=some (some (.int (-2) t_ONE)))
  (y_HALVED_WIDTHS:PySem.W.nsIn K mainGlobals "HALVED_WIDTHS"=some (some (.ref ta_HALVED_WIDTHS))) (x_HALVED_WIDTHS:K.lookup ta_HALVED_WIDTHS=some ⟨.type "tuple",to_HALVED_WIDTHS,.seq (List.toArray [Value.int 1 t_HALVED_WIDTHS0,Value.int 2 t_HALVED_WIDTHS1,Value.int 4 t_HALVED_WIDTHS2,Value.int 8 t_HALVED_WIDTHS3,Value.int 16 t_HALVED_WIDTHS4,Value.int 32 t_HALVED_WIDTHS5,Value.int 64 t_HALVED_WIDTHS6]) tn_HALVED_WIDTHS,ts_HALVED_WIDTHS⟩)
  : ∃ fd:FuncData,(∀ (s:Shared) (v:Value),BindsTo s fd ⟨[v],[]⟩ [("_law_script",v)]) /\ ∀ base:Heap,K.In base -> base.Ns mainGlobals mg -> FnOk l.prog w K mg base CX0 23 fa fd ["_law_script"] (zpJ K):=by
 obtain ⟨ff,od,an74,sl,oc,kV74,dc74,pm74,cd74,ct74,aa,ll,cc,kk⟩:=a74;have e:=hfa.symm.trans (ycQ X G aa);cases e;have B:Blt K mg:=⟨yaU X G z_abs,yaU X G z_all,yaU X G z_bool,yaU X G z_enumerate,yaU X G z_int,yaU X G z_isinstance,yaU X G z_len,yaU X G z_list,yaU X G z_min,yaU X G z_range,yaU X G z_reversed,yaU X G z_sorted,yaU X G z_tuple,yaU X G z_zip,⟨_,ycQ X G y_HALVED_WIDTHS,λ H=>.inr ⟨_,_,_,x_HALVED_WIDTHS,rfl,rfl,yaw (L2.small5 (show (7:Nat) <= 100000 by decide)),(.cons ⟨_,rfl⟩ (.cons ⟨_,rfl⟩ (.cons ⟨_,rfl⟩ (.cons ⟨_,rfl⟩ (.cons ⟨_,rfl⟩ (.cons ⟨_,rfl⟩ (.cons ⟨_,rfl⟩ .nil)))))))⟩⟩,⟨_,ycQ X G y_NOUGHT⟩,⟨_,ycQ X G y_ONE⟩⟩
 have F74:=zqv (st:=zkc) ll cc kk;refine ⟨PySem.W.fnOf "law" "law" (zes zkc) (zdJ zkc) (zaf zkc) .none kV74 dc74 pm74 an74 cd74 ct74,λ s v=>.of_eq rfl,λ base _ _=>?_⟩;have g__law_hand:A0 l.prog w K mg base:=a0.at X G (28:) λ _ _=>zjd B ;have g__law_draw:A1 l.prog w K mg base:=a1.at X G (30:) λ _ _=>zkq B ;have g__law_word:A2 l.prog w K mg base:=a2.at X G (30:) λ _ _=>zj4 B g__law_draw;have g_then:A3 l.prog w K mg base:=a3.at X G (30:) λ _ _=>zri B ;have g_bit_at:A4 l.prog w K mg base:=a4.at X G (30:) λ _ _=>zoH B ;have g_places_in:A5 l.prog w K mg base:=a5.at X G (28:) λ _ _=>zjH B g_bit_at;have g_gather_leading:A6 l.prog w K mg base:=a6.at X G (30:) λ _ _=>zfo B g_places_in;have g_strew_leading:A7 l.prog w K mg base:=a7.at X G (30:) λ _ _=>zf2 B g_places_in;have g_is_within:A8 l.prog w K mg base:=a8.at X G (40:) λ _ _=>zjV B ;have g_place_or_nought:A9 l.prog w K mg base:=a9.at X G (30:) λ _ _=>zeU B g_is_within;have g_copy_source:A10 l.prog w K mg base:=a10.at X G (40:) λ _ _=>zhl B g_bit_at;have g_source_of:A11 l.prog w K mg base:=a11.at X G (40:) λ _ _=>zjB B g_bit_at g_place_or_nought g_copy_source;have g_deed_leading:A12 l.prog w K mg base:=a12.at X G (30:) λ _ _=>zhd B g_gather_leading g_strew_leading g_source_of;have g_staying:A13 l.prog w K mg base:=a13.at X G (28:) λ _ _=>zmR B ;have g_row_leading:A14 l.prog w K mg base:=a14.at X G (30:) λ _ _=>zhu B g_staying g_then g_deed_leading;have g_low:A15 l.prog w K mg base:=a15.at X G (28:) λ _ _=>zr8 B ;have g_bits_in:A16 l.prog w K mg base:=a16.at X G (28:) λ _ _=>zmL B g_places_in;have g_mask_of:A17 l.prog w K mg base:=a17.at X G (28:) λ _ _=>zmZ B ;have g_strewn:A18 l.prog w K mg base:=a18.at X G (30:) λ _ _=>znR B g_bit_at g_places_in g_mask_of;have g_full:A19 l.prog w K mg base:=a19.at X G (28:) λ _ _=>zrq B g_low;have g_fits_with_one:A20 l.prog w K mg base:=a20.at X G (40:) λ _ _=>zf5 B g_full g_is_within;have g_goes_within:A21 l.prog w K mg base:=a21.at X G (40:) λ _ _=>zhm B g_places_in g_is_within;have g_swaps_apart:A22 l.prog w K mg base:=a22.at X G (40:) λ _ _=>zhr B g_goes_within;have g_fits_with_two:A23 l.prog w K mg base:=a23.at X G (λ _ _ F=>F.binds λ _ _ _ _ _ _ us hl=>match us,hl with | [_,_,_,_],_=>rfl) λ _ _=>zf0 B g_full g_is_within g_goes_within g_swaps_apart
 have g_is_deed:A24 l.prog w K mg base:=a24.at X G (30:) λ _ _=>zm2 B g_fits_with_one g_fits_with_two;have g_swaps_together:A25 l.prog w K mg base:=a25.at X G (40:) λ _ _=>zfD B g_is_deed;have g_alike_together:A26 l.prog w K mg base:=a26.at X G (40:) λ _ _=>zfF B g_strewn g_swaps_together;have g_together:A27 l.prog w K mg base:=a27.at X G (40:) λ _ _=>zkW B g_low g_bits_in g_alike_together;have g_does_nothing:A28 l.prog w K mg base:=a28.at X G (30:) λ _ _=>zgE B g_staying g_deed_leading;have g_put_behind:A29 l.prog w K mg base:=a29.at X G (40:) λ _ _=>zi0 B g_together g_does_nothing;have g_shortened:A30 l.prog w K mg base:=a30.at X G (30:) λ _ _=>zjS B g_put_behind;have g_bound:A31 l.prog w K mg base:=a31.at X G (30:) λ _ _=>zpA B g_shortened;have g__law_twice_right:A32 l.prog w K mg base:=a32.at X G (40:) λ _ _=>zen B g_then g_deed_leading g_row_leading g_together g_bound;have g_steps:A33 l.prog w K mg base:=a33.at X G (28:) λ _ _=>zpK B ;have g_upper_ends:A34 l.prog w K mg base:=a34.at X G (30:) λ _ _=>ziI B g_places_in g_mask_of;have g_gather_row:A35 l.prog w K mg base:=a35.at X G (30:) λ _ _=>ziB B g_low g_bits_in g_steps g_upper_ends;have g_strew_row:A36 l.prog w K mg base:=a36.at X G (30:) λ _ _=>zjs B g_steps g_upper_ends;have g_kept_by:A37 l.prog w K mg base:=a37.at X G (28:) λ _ _=>zmy B g_mask_of;have g_check_halved:A38 l.prog w K mg base:=a38.at X G (28:) λ _ _=>zg9 B ;have g_is_even:A39 l.prog w K mg base:=a39.at X G (28:) λ _ _=>zmD B ;have g_turned_back:A40 l.prog w K mg base:=a40.at X G (28:) λ _ _=>zhq B g_is_even;have g_opposite:A41 l.prog w K mg base:=a41.at X G (30:) λ _ _=>zkx B ;have g_way_back:A42 l.prog w K mg base:=a42.at X G (40:) λ _ _=>zkN B g_bit_at;have g_back:A43 l.prog w K mg base:=a43.at X G (30:) λ _ _=>zq5 B g_way_back;have g_through_upper:A44 l.prog w K mg base:=a44.at X G (28:) λ _ _=>zf7 B g_turned_back g_opposite g_back;have g0_paper_of:FnAt l.prog w K mg base "paper_of" ["leading"] (2 * 0 + 4) (zb9 0):=a46.at X G (28:) λ _ _ _=>⟨λ _ _ _ _ h=>h.elim,λ _ _ _ _ _ _ _ _ _ _ _ _ _ h=>h.elim⟩
 have g1_with_paper:FnAt l.prog w K mg base "with_paper" ["leading"] (2 * 0 + 5) (zdb (0 + 1)):=a45.at X G (28:) λ _ _=>za5 (j:=0) B  g0_paper_of;have g1_paper_of:FnAt l.prog w K mg base "paper_of" ["leading"] (2 * 1 + 4) (zb9 1):=a46.at X G (28:) λ _ _=>zbh (j:=0) B g_mask_of g_through_upper g1_with_paper;have g2_with_paper:FnAt l.prog w K mg base "with_paper" ["leading"] (2 * 1 + 5) (zdb (1 + 1)):=a45.at X G (28:) λ _ _=>za5 (j:=1) B  g1_paper_of;have g2_paper_of:FnAt l.prog w K mg base "paper_of" ["leading"] (2 * 2 + 4) (zb9 2):=a46.at X G (28:) λ _ _=>zbh (j:=1) B g_mask_of g_through_upper g2_with_paper;have g3_with_paper:FnAt l.prog w K mg base "with_paper" ["leading"] (2 * 2 + 5) (zdb (2 + 1)):=a45.at X G (28:) λ _ _=>za5 (j:=2) B  g2_paper_of;have g3_paper_of:FnAt l.prog w K mg base "paper_of" ["leading"] (2 * 3 + 4) (zb9 3):=a46.at X G (28:) λ _ _=>zbh (j:=2) B g_mask_of g_through_upper g3_with_paper;have g4_with_paper:FnAt l.prog w K mg base "with_paper" ["leading"] (2 * 3 + 5) (zdb (3 + 1)):=a45.at X G (28:) λ _ _=>za5 (j:=3) B  g3_paper_of;have g4_paper_of:FnAt l.prog w K mg base "paper_of" ["leading"] (2 * 4 + 4) (zb9 4):=a46.at X G (28:) λ _ _=>zbh (j:=3) B g_mask_of g_through_upper g4_with_paper;have g5_with_paper:FnAt l.prog w K mg base "with_paper" ["leading"] (2 * 4 + 5) (zdb (4 + 1)):=a45.at X G (28:) λ _ _=>za5 (j:=4) B  g4_paper_of;have g5_paper_of:FnAt l.prog w K mg base "paper_of" ["leading"] (2 * 5 + 4) (zb9 5):=a46.at X G (28:) λ _ _=>zbh (j:=4) B g_mask_of g_through_upper g5_with_paper;have g6_with_paper:FnAt l.prog w K mg base "with_paper" ["leading"] (2 * 5 + 5) (zdb (5 + 1)):=a45.at X G (28:) λ _ _=>za5 (j:=5) B  g5_paper_of;have g6_paper_of:FnAt l.prog w K mg base "paper_of" ["leading"] (2 * 6 + 4) (zb9 6):=a46.at X G (28:) λ _ _=>zbh (j:=5) B g_mask_of g_through_upper g6_with_paper;have g7_with_paper:FnAt l.prog w K mg base "with_paper" ["leading"] (2 * 6 + 5) (zdb (6 + 1)):=a45.at X G (28:) λ _ _=>za5 (j:=6) B  g6_paper_of;have g_paper_of:FnAt l.prog w K mg base "paper_of" ["leading"] (2 * 7 + 4) (zb9 7):=a46.at X G (28:) λ _ _=>zbh (j:=6) B g_mask_of g_through_upper g7_with_paper;have g_halves:A47 l.prog w K mg base:=a47.at X G (28:) λ _ _=>znW B g_is_even g_check_halved g_paper_of;have g_beside_swap:A48 l.prog w K mg base:=a48.at X G (40:) λ _ _=>zhk B ;have g0_swaps_by:FnAt l.prog w K mg base "swaps_by" ["width","paper"] (0 + 1) (zbd 0):=a49.at X G (30:) λ _ _ _=>⟨λ _ _ _ _ h=>h.elim,λ _ _ _ _ _ _ _ _ _ _ _ _ _ h=>h.elim⟩
 have g1_swaps_by:FnAt l.prog w K mg base "swaps_by" ["width","paper"] (1 + 1) (zbd 1):=a49.at X G (30:) λ _ _=>zbi (j:=0) B g_beside_swap g0_swaps_by;have g2_swaps_by:FnAt l.prog w K mg base "swaps_by" ["width","paper"] (2 + 1) (zbd 2):=a49.at X G (30:) λ _ _=>zbi (j:=1) B g_beside_swap g1_swaps_by;have g3_swaps_by:FnAt l.prog w K mg base "swaps_by" ["width","paper"] (3 + 1) (zbd 3):=a49.at X G (30:) λ _ _=>zbi (j:=2) B g_beside_swap g2_swaps_by;have g4_swaps_by:FnAt l.prog w K mg base "swaps_by" ["width","paper"] (4 + 1) (zbd 4):=a49.at X G (30:) λ _ _=>zbi (j:=3) B g_beside_swap g3_swaps_by;have g5_swaps_by:FnAt l.prog w K mg base "swaps_by" ["width","paper"] (5 + 1) (zbd 5):=a49.at X G (30:) λ _ _=>zbi (j:=4) B g_beside_swap g4_swaps_by;have g6_swaps_by:FnAt l.prog w K mg base "swaps_by" ["width","paper"] (6 + 1) (zbd 6):=a49.at X G (30:) λ _ _=>zbi (j:=5) B g_beside_swap g5_swaps_by;have g_swaps_by:FnAt l.prog w K mg base "swaps_by" ["width","paper"] (7 + 1) (zbd 7):=a49.at X G (30:) λ _ _=>zbi (j:=6) B g_beside_swap g6_swaps_by;have g_even_row:A50 l.prog w K mg base:=a50.at X G (28:) λ _ _=>zkR B g_halves g_swaps_by;have g_runs_of:A51 l.prog w K mg base:=a51.at X G (28:) λ _ _=>zmS B ;have g_filled_up:A52 l.prog w K mg base:=a52.at X G (28:) λ _ _=>zjC B ;have g_to_starts:A53 l.prog w K mg base:=a53.at X G (30:) λ _ _=>zjU B g_filled_up;have g_to_ends:A54 l.prog w K mg base:=a54.at X G (30:) λ _ _=>zm9 B g_filled_up;have g_copied_places:A55 l.prog w K mg base:=a55.at X G (30:) λ _ _=>zf9 B g_mask_of;have g_copies_for:A56 l.prog w K mg base:=a56.at X G (30:) λ _ _=>zif B g_copied_places;have g_set_bits:A57 l.prog w K mg base:=a57.at X G (28:) λ _ _=>zky B g_mask_of;have g_any_row:A58 l.prog w K mg base:=a58.at X G (28:) λ _ _=>znb B g_check_halved g_even_row g_runs_of g_to_starts g_to_ends g_copies_for g_set_bits;have g_deeds_for:A59 l.prog w K mg base:=a59.at X G (28:) λ _ _=>zjr B g_check_halved;have g_gathered:A60 l.prog w K mg base:=a60.at X G (30:) λ _ _=>zkC B g_bit_at g_places_in g_mask_of;have g_mask_deeds:A61 l.prog w K mg base:=a61.at X G (28:) λ _ _=>ziY B g_mask_of g_kept_by;have g_pair_deeds:A62 l.prog w K mg base:=a62.at X G (28:) λ _ _=>zi8 B g_mask_of;have g_likely_deeds:A63 l.prog w K mg base:=a63.at X G (28:) λ _ _=>zgU B g_mask_deeds g_pair_deeds;have g_one_deed:A64 l.prog w K mg base:=a64.at X G (28:) λ _ _=>zkF B g_is_deed g_deed_leading g_likely_deeds;have g_turned:A65 l.prog w K mg base:=a65.at X G (40:) λ _ _=>zoN B g_full;have g_swapped:A66 l.prog w K mg base:=a66.at X G (40:) λ _ _=>zmt B ;have g_shifted:A67 l.prog w K mg base:=a67.at X G (30:) λ _ _=>zmN B ;have g_copied:A68 l.prog w K mg base:=a68.at X G (40:) λ _ _=>zng B g_shifted;have g_done:A69 l.prog w K mg base:=a69.at X G (40:) λ _ _=>zq4 B g_full g_gathered g_strewn g_turned g_swapped g_copied;have g_row_done:A70 l.prog w K mg base:=a70.at X G (40:) λ _ _=>zk5 B g_done;have g__law_is:A71 l.prog w K mg base:=a71.at X G (30:) λ _ _=>zmF B ;have g__law_rows_right:A72 l.prog w K mg base:=a72.at X G (λ _ _ F=>F.binds λ _ _ _ _ _ _ us hl=>match us,hl with | [_,_,_,_,_],_=>rfl) λ _ _=>zeP B g_row_done g_row_leading g_shortened g__law_is
 have g__law_mask_right:A73 l.prog w K mg base:=a73.at X G (40:) λ _ _=>zeY B g_gather_row g_strew_row g_kept_by g_any_row g_deeds_for g_gathered g_strewn g_deed_leading g_one_deed g_row_leading g_bound g_back g__law_rows_right;exact zs8 B g__law_hand g__law_draw g__law_word g__law_twice_right g__law_mask_right F74
def walk {l:PySem.W.OpenLaw} {q:Program} {loose:List Str} {XP:(Str -> Option Value) -> Heap -> Prop} {YP:World -> Heap -> Prop} {d:DefRec} {K:Params -> PySem.W.Frag} (hn:l.most=some 63) (hdf:d.params.defaults=[])
  (hY:∀ (w:World) (h:Heap),YP w h -> (K w.params).In h)
  (F : ∀ (w : World) (mg : Str -> Option Value) (fa : Addr) (h : Heap), (K w.params).In h -> h.Ns mainGlobals mg -> mg d.name = some (.ref fa) ->
   ∃ fd:FuncData,(∀ (s:Shared) (u:Value),BindsTo s fd ⟨[u],[]⟩ [("_law_script",u)]) /\ ∀ base:Heap,(K w.params).In base -> base.Ns mainGlobals mg -> FnOk l.prog w (K w.params) mg base CX0 23 fa fd ["_law_script"] (zpJ (K w.params))) :
  PySem.W.WalkO q loose XP YP l.row.toRowW d [] (λ f vs=>PySem.call f vs):=
 L2.walk_of (n:=63) (k:=23) (x:="_law_script") (CX:=λ _=>CX0) (sp:=λ w=>zpJ (K w.params)) hn (3:) hdf ⟨rfl,by decide,by decide⟩ hY F (λ _ _ a ns hl _ hS=>⟨a,ns,rfl,hS,hl,λ _=>rfl⟩) λ _ _ _ _ _ z=>z
end Lw
local macro_rules | `(tactic| walk_at "at")=>`(tactic| (refine' Lw.At.mk ?xn ?xl ?xc ?xk; (case xn=>k_is); (case xl=>k_is); (case xc=>k_is); (case xk=>k_is)))
open PySem PySem.W PyProof.Rows
set_option maxRecDepth 100000 in
set_option maxHeartbeats 0 in
theorem PySem.Challenge.cw_bitlead_k67_whole_gathered_by_any_rows_holds : PySem.Challenge.rw_bitlead_k67_whole_gathered_by_any_rows.Holds := by
 w_on; o_law; k_head; (case hw=>w_witness2)
 k_fill
 refine Lw.walk (l:=PySem.Challenge.rw_bitlead_k67_whole_gathered_by_any_rows) rfl rfl (λ w h Y=>PySem.W.kIn_of Y) ?F
 case F=>
  intro w mg fa h KX G hmg;refine' Lw.all_mk KX G hmg ?a0 ?a1 ?a2 ?a3 ?a4 ?a5 ?a6 ?a7 ?a8 ?a9 ?a10 ?a11 ?a12 ?a13 ?a14 ?a15 ?a16 ?a17 ?a18 ?a19 ?a20 ?a21 ?a22 ?a23 ?a24 ?a25 ?a26 ?a27 ?a28 ?a29 ?a30 ?a31 ?a32 ?a33 ?a34 ?a35 ?a36 ?a37 ?a38 ?a39 ?a40 ?a41 ?a42 ?a43 ?a44 ?a45 ?a46 ?a47 ?a48 ?a49 ?a50 ?a51 ?a52 ?a53 ?a54 ?a55 ?a56 ?a57 ?a58 ?a59 ?a60 ?a61 ?a62 ?a63 ?a64 ?a65 ?a66 ?a67 ?a68 ?a69 ?a70 ?a71 ?a72 ?a73 ?a74 ?z_abs ?z_all ?z_bool ?z_enumerate ?z_int ?z_isinstance ?z_len ?z_list ?z_min ?z_range ?z_reversed ?z_sorted ?z_tuple ?z_zip ?y_NOUGHT ?y_ONE ?y_HALVED_WIDTHS ?x_HALVED_WIDTHS
  (case a0=>walk_at "at")
  (case a1=>walk_at "at")
  (case a2=>walk_at "at")
  (case a3=>walk_at "at")
  (case a4=>walk_at "at")
  (case a5=>walk_at "at")
  (case a6=>walk_at "at")
  (case a7=>walk_at "at")
  (case a8=>walk_at "at")
  (case a9=>walk_at "at")
  (case a10=>walk_at "at")
  (case a11=>walk_at "at")
  (case a12=>walk_at "at")
  (case a13=>walk_at "at")
  (case a14=>walk_at "at")
  (case a15=>walk_at "at")
  (case a16=>walk_at "at")
  (case a17=>walk_at "at")
  (case a18=>walk_at "at")
  (case a19=>walk_at "at")
  (case a20=>walk_at "at")
  (case a21=>walk_at "at")
  (case a22=>walk_at "at")
  (case a23=>walk_at "at")
  (case a24=>walk_at "at")
  (case a25=>walk_at "at")
  (case a26=>walk_at "at")
  (case a27=>walk_at "at")
  (case a28=>walk_at "at")
  (case a29=>walk_at "at")
  (case a30=>walk_at "at")
  (case a31=>walk_at "at")
  (case a32=>walk_at "at")
  (case a33=>walk_at "at")
  (case a34=>walk_at "at")
  (case a35=>walk_at "at")
  (case a36=>walk_at "at")
  (case a37=>walk_at "at")
  (case a38=>walk_at "at")
  (case a39=>walk_at "at")
  (case a40=>walk_at "at")
  (case a41=>walk_at "at")
  (case a42=>walk_at "at")
  (case a43=>walk_at "at")
  (case a44=>walk_at "at")
  (case a45=>walk_at "at")
  (case a46=>walk_at "at")
  (case a47=>walk_at "at")
  (case a48=>walk_at "at")
  (case a49=>walk_at "at")
  (case a50=>walk_at "at")
  (case a51=>walk_at "at")
  (case a52=>walk_at "at")
  (case a53=>walk_at "at")
  (case a54=>walk_at "at")
  (case a55=>walk_at "at")
  (case a56=>walk_at "at")
  (case a57=>walk_at "at")
  (case a58=>walk_at "at")
  (case a59=>walk_at "at")
  (case a60=>walk_at "at")
  (case a61=>walk_at "at")
  (case a62=>walk_at "at")
  (case a63=>walk_at "at")
  (case a64=>walk_at "at")
  (case a65=>walk_at "at")
  (case a66=>walk_at "at")
  (case a67=>walk_at "at")
  (case a68=>walk_at "at")
  (case a69=>walk_at "at")
  (case a70=>walk_at "at")
  (case a71=>walk_at "at")
  (case a72=>walk_at "at")
  (case a73=>walk_at "at")
  (case a74=>walk_at "at")
  (case z_abs=>k_is)
  (case z_all=>k_is)
  (case z_bool=>k_is)
  (case z_enumerate=>k_is)
  (case z_int=>k_is)
  (case z_isinstance=>k_is)
  (case z_len=>k_is)
  (case z_list=>k_is)
  (case z_min=>k_is)
  (case z_range=>k_is)
  (case z_reversed=>k_is)
  (case z_sorted=>k_is)
  (case z_tuple=>k_is)
  (case z_zip=>k_is)
  (case y_NOUGHT=>k_is)
  (case y_ONE=>k_is)
  (case y_HALVED_WIDTHS=>k_is)
  (case x_HALVED_WIDTHS=>k_is)
