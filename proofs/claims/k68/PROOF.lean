import PyProof.Rows.All
import Wide.All
import OpenK.AllK
import Wide.FinOn
import Lean
import PyProof.EqAt
import PyProof.EqKinds
import PyProof.TupleCall
import PySem.Challenge.RW_bitlead_k68_whole_fewest_beside_all_rows
local macro_rules|`(tactic|omega)=>`(tactic|first|lia|omega (config:={}))
set_option Elab.async false
set_option linter.all false
set_option maxRecDepth 100000
set_option hygiene false in
local macro_rules
 | `((51:))=>`(by walk_at "pv")
 | `((0:))=>`(by rfl)
 | `((3:))=>`(by decide)
 | `((2:))=>`(@zaa _ _ _ _ _)
 | `((27:))=>`(@zav _ _ _ _ _ _ _ (@k_ix _ K (0:)) (@pv1 _ 1 _ _ (51:)) (@zae _ _ _ _) (λ _ _=>rfl))
 | `((1:))=>`(by omega)
 | `((10:))=>`(@zai _ _ _ _ _ _ _ _ _ _)
 | `((7:))=>`(@pv1 _ 0 _ _ (51:))
 | `((32:))=>`(λ _ _ F=>F.binds λ _ _ _ _ _ _ us hl=>match us,hl with | [_,_],_=>rfl)
 | `((12:))=>`(@pv1 _ 2 _ _ (51:))
 | `((15:))=>`(by walk_at "vis")
 | `((14:))=>`(@zar _ _ _ _ _ _ _ _)
 | `((9:))=>`(@zae _ _ _ _)
 | `((16:))=>`(@pv1 _ 1 _ _ (51:))
 | `((6:))=>`(@zac _ _ _ _ _)
 | `((18:))=>`(@zam _ _ (3:) (3:))
 | `((19:))=>`(@zaj _ _ _ _ _ _ _ _)
 | `((41:))=>`(λ _ _ F=>F.binds λ _ _ _ _ _ _ us hl=>match us,hl with | [_,_,_],_=>rfl)
 | `((11:))=>`(hr.mono (3:))
 | `((20:))=>`(by decide +kernel)
 | `((21:))=>`(@pv1 _ 3 _ _ (51:))
 | `((42:))=>`(λ _ _ F=>F.binds λ _ _ _ _ _ _ us hl=>match us,hl with | [_],_=>rfl)
 | `((40:))=>`(@zav _ _ _ _ _ _ _ (@k_ix _ K (0:)) (7:) (9:) (λ _ _=>rfl))
 | `((89:))=>`(@zaM _ _ _ _ _ (@zas _ _ 0 _ (show List.Nodup (["place","entry"]:List Str) by decide +kernel) rfl (Or.inl rfl) (15:)) (@zaM _ _ _ _ _ (@zas _ _ 1 _ (show List.Nodup (["place","entry"]:List Str) by decide +kernel) rfl (Or.inl rfl) (15:)) (@zcS _) (0:)) (0:))
 | `((22:))=>`(@zaE _ _ _ _ _ _ _ _)
 | `((44:))=>`(@zav _ _ _ _ _ _ _ (@k_ix _ K (0:)) (12:) (9:) (λ _ _=>rfl))
 | `((4:))=>`(@zab _)
 | `((17:))=>`(Or.inl rfl)
 | `((13:))=>`(@zak _ _ _ _)
 | `((25:))=>`(@k_eq _ K hu (0:))
 | `((24:))=>`(by intro _; rfl)
 | `((8:))=>`(@zaf _ _ _)
 | `((5:))=>`(by simp)
 | `((29:))=>`(@zau _ _ _ _ _ _ _ _ _)
 | `((26:))=>`(@zaD _ _ _ _ _ _)
 | `((30:))=>`(by simpa using hz)
 | `((33:))=>`(@pv1 _ 4 _ _ (51:))
 | `((28:))=>`(@zaG _ _ _ _ _)
 | `((37:))=>`(@zbd _ _ _ _ _ _ _ _)
 | `((34:))=>`(by simp; omega)
 | `((31:))=>`(@zbA _ K (0:))
 | `((81:))=>`(@zat _ _ 2 _ _ _ _ nd rfl (17:) ((10:) g_searched (11:) ((2:) ((29:) (@zb9 _ K (0:)) rfl B.b_len boot_len ((2:) (7:) (4:) (0:)) (3:) (3:) (0:) (0:)) ((2:) (16:) ((2:) (7:) (4:) (0:)) (0:)) (0:)) (0:) (3:) (0:) (0:)) (0:) (15:))
 | `((71:))=>`(@zce _ K _ _ _ _ _ _ _ B.b_enumerate ((2:) (7:) (4:) (0:)) (0:) (0:) (0:))
 | `((65:))=>`(by intro z; have z':@Eq Nat _ _:=z; omega)
 | `((35:))=>`(@zaV _ _ _ _)
 | `((39:))=>`(@zb9 _ K (0:))
 | `((45:))=>`(by simpa using hq)
 | `((57:))=>`(@zaF _ K _ _ _ (16:) (0:))
 | `((46:))=>`(@pv1 _ 5 _ _ (51:))
 | `((23:))=>`(@zap _)
 | `((82:))=>`(@zce _ K _ _ _ _ _ _ _ B.b_enumerate ((2:) ((10:) g_places_in (11:) ((2:) (16:) (4:) (0:)) (0:) (3:) (0:) (0:)) (4:) (0:)) (0:) (0:) (0:))
 | `((38:))=>`(@za5 _ _ _ _)
 | `((47:))=>`(@zav _ _ _ _ _ _ _)
 | `((52:))=>`(@k_ne _ K hu (0:))
 | `((72:))=>`(@zhL _ _ _ _ _ _ _ (7:) (9:) (@zeb _) (24:))
 | `((54:))=>`(@zcm _ _ _ _ _ _ _ _)
 | `((73:))=>`(@zcX _ K _ _ _ _ 2 rfl (89:) (0:) (0:) (0:))
 | `((55:))=>`(@zdt _ _ _ _ _ _ _)
 | `((83:))=>`(@zat _ _ 1 _ _ _ _ nd rfl (17:) ((29:) (39:) rfl B.b_len boot_len ((2:) (7:) (4:) (0:)) (3:) (3:) (0:) (0:)) (0:) (15:))
 | `((84:))=>`(@zas _ _ 0 _ (show List.Nodup (["_law_k","_law_hand_here","_law_width"]:List Str) by decide +kernel) rfl (17:) (15:))
 | `((68:))=>`(@zas _ _ 5 _ nd rfl (17:) (15:))
 | `((74:))=>`(by rw [hg,decide_eq_true_iff]; exact hc)
 | `((48:))=>`(λ _ _=>rfl)
 | `((49:))=>`(@k_ix _ K (0:))
 | `((78:))=>`(@zat _ _ 2 _ _ _ _ nd rfl (17:) ((38:) (4:)) (0:) (15:))
 | `((58:))=>`(@zbU _ _ _ _ _ _ _ _)
 | `((66:))=>`(by rw [xob,ea,eb]; rfl)
 | `((85:))=>`(@zaF _ K _ _ _ ((10:) g_reach (11:) ((2:) (12:) ((2:) (21:) (4:) (0:)) (0:)) (0:) (3:) (0:) (0:)) (0:))
 | `((86:))=>`(@zas _ _ 0 _ (show List.Nodup (["place","leading"]:List Str) by decide +kernel) rfl (17:) (15:))
 | `((87:))=>`(@PW.pt _ _ _ ((55:) ((19:) (25:) (27:) (35:) (18:)) (@zcz _ _ _ _ ((19:) (25:) (44:) (35:) (18:)))))
 | `((59:))=>`(@zhn _ _ _ _ _ _ _)
 | `((43:))=>`(@zbS _ _ _)
 | `((50:))=>`(@zfA _ _ _ _)
 | `((75:))=>`(@zdb _ _ _ _ B.g_NOUGHT (0:) (3:))
 | `((88:))=>`(@zbj _ K _ _ _ _ _ _ rfl B.b_tuple B.b_range ((2:) (7:) (4:) (0:)) (0:) (0:) (0:) (0:) (0:))
 | `((56:))=>`(@za8 _ _ _ _ _ _)
 | `((79:))=>`(@zat _ _ 3 _ _ _ _ nd rfl (17:) (27:) (0:) (15:))
 | `((62:))=>`(by simpa using hi)
 | `((76:))=>`(@zas _ _ 4 _ nd rfl (17:) (15:))
 | `((77:))=>`(@zas _ _ 3 _ nd rfl (17:) (15:))
 | `((63:))=>`(@pv1 _ 6 _ _ (51:))
 | `((69:))=>`(by exact λ _ _=>rfl)
 | `((64:))=>`(by simpa using e)
 | `((67:))=>`(by simpa using hl)
 | `((60:))=>`(@zhX _ K (0:))
 | `((70:))=>`(@zc2 _ _ _ _ _ _ _ _ _)
 | `((80:))=>`(by rw [hg]; exact decide_eq_true hc)
 | `((53:))=>`(@zbZ _ _ _ _)
 | `((61:))=>`(@zaM _ _ _ _ _)
 | `((36:))=>`(@zaX _)
def yaa:=@List.length_map
def yab:=@List.getElem?_eq_getElem
def yac:=@List.getD_eq_getElem?_getD
def yad:=@Bool.and_eq_true
def yae:=@PySem.Heap.get?_push_of_some
def yaf:=@List.mem_map
def yag:=@Nat.le_refl
def yah:=@List.mem_singleton
def yai:=@PySem.Heap.lt_size
def yaj:=@List.getElem?_eq_some_iff
def yak:=@Nat.lt_of_lt_of_le
def yal:=@List.map_append
def yam:=@List.length_append
def yan:=@List.getElem?_map
def yao:=@PySem.Heap.get?_push_size
def yap:=@List.size_toArray
def yaq:=@List.take_of_length_le
def yar:=@List.mem_of_getElem?
def yas:=@List.mem_append
def yat:=@List.mem_range
def yau:=@List.mem_cons_of_mem
def yav:=@List.mem_cons
def yaw:=@Int.toNat_natCast
def yax:=@Nat.ne_of_lt
def yay:=@List.mem_append_right
def yaz:=@List.filter_append
def yaA:=@List.mem_append_left
def yaB:=@List.mem_filter
def yaC:=@List.mem_cons_self
def yaD:=@Bool.false_ne_true
def yaE:=@Nat.le_of_lt
def yaF:=@Bool.false_eq_true
def yaG:=@List.take_add_one
def yaH:=@List.append_assoc
def yaI:=@List.getElem?_eq_none
def yaJ:=@PySem.PassesOwn.never
def yaK:=@List.length_range
def yaL:=@Nat.pow_le_pow_right
def yaM:=@Array.length_toList
def yaN:=@List.pairwise_append
def yaO:=@List.getElem?_append_left
def yaP:=@List.map_cons
def yaQ:=@List.range_succ
def yaR:=@PySem.W.mg_none_of
def yaS:=@List.getElem?_range
def yaT:=@List.getElem?_append_right
def yaU:=@List.length_filter_le
def yaV:=@List.length_take
def yaW:=@List.getElem_mem
def yaX:=@PyProof.Rows.callWith_type1
def yaY:=@Nat.zero_le
def yaZ:=@List.map_congr_left
def ya0:=@Array.toList_append
def ya1:=@List.all_eq_true
def ya2:=@List.not_mem_nil
def ya3:=@List.pairwise_map
def ya4:=@Nat.lt_of_le_of_lt
def ya5:=@Nat.le_trans
def ya6:=@List.map_map
def ya7:=@List.filter_cons_of_pos
def ya8:=@List.filter_cons_of_neg
def ya9:=@PySem.F.plainAttrs_list
def yba:=@List.pairwise_iff_getElem
def ybb:=@List.mem_iff_getElem
def ybc:=@Int.natCast_nonneg
def ybd:=@List.length_reverse
def ybe:=@List.take_append_drop
def ybf:=@List.ext_getElem?
def ybg:=@Int.mul_le_mul_of_nonneg_right
def ybh:=@PySem.W.kia_one
def ybi:=@PySem.Paired.length
def ybj:=@List.lookup_cons
def ybk:=@Int.toNat_of_nonneg
def ybl:=@Bool.not_eq_true'
def ybm:=@Int.le_of_lt
def ybn:=@Nat.lt_irrefl
def ybo:=@List.append_nil
def ybp:=@List.length_eq_zero_iff
def ybq:=@List.length_cons
def ybr:=@Array.perm_iff_toList_perm
def ybs:=@PySem.mem_of_lookup
def ybt:=@List.reverse_cons
def ybu:=@List.replicate_succ
def ybv:=@PySem.Heap.SameBut.update
def ybw:=@List.reverse_append
def ybx:=@Int.emod_eq_of_lt
def yby:=@Array.getElem?_toList
def ybz:=@Nat.two_pow_pos
def ybA:=@PySem.Calls.spliced_cons
def ybB:=@List.getElem?_replicate
def ybC:=@Nat.ne_of_gt
def ybD:=@Nat.add_le_add_left
def ybE:=@PySem.F.slot_tuple_iterator_next
def ybF:=@PySem.Heap.size_update
def ybG:=@PySem.Heap.get?_update_self
def ybH:=@Nat.lt_or_ge
def ybI:=@Int.le_trans
def ybJ:=@Nat.lt_pow_two_of_testBit
def ybK:=@List.extract_eq_take_drop
def ybL:=@Int.le_refl
def ybM:=@List.mem_of_mem_take
def ybN:=@Nat.eq_of_testBit_eq
def ybO:=@PyProof.Rows.slot_tuple_getitem
def ybP:=@Bool.or_eq_true
def ybQ:=@Nat.lt_succ_of_lt
def ybR:=@List.foldl_append
def ybS:=@PySem.Heap.get?_push_ne
def ybT:=@PySem.F.slot_list_append
def ybU:=@PySem.F.type_list_append
def ybV:=@PySem.Calls.callWith_builtin
def ybW:=@List.pairwise_lt_range
def ybX:=@PySem.F.slot_dict_keyiterator_next
def ybY:=@List.dropLast_concat_getLast
def ybZ:=@Nat.min_eq_left
def yb0:=@List.find?_cons
def yb1:=@PySem.Calls.spliced_nil
def yb2:=@List.flatten_cons
def yb3:=@Bool.eq_false_iff
def yb4:=@PySem.Around.under_plainId
def yb5:=@Array.toList_extract
def yb6:=@Array.toList_reverse
def yb7:=@Nat.testBit_or
def yb8:=@List.drop_eq_getElem_cons
def yb9:=@PySem.Calls.call_function_entry
def yca:=@List.mem_reverse
def ycb:=@List.getElem_of_mem
def ycc:=@Option.isSome_iff_exists
def ycd:=@Nat.mod_lt
def yce:=@PySem.F.slot_list_extend
def ycf:=@PySem.F.type_list_extend
def ycg:=@PySem.F.slot_dict_keyiterator_iter
def ych:=@List.nodup_cons
def yci:=@PySem.Obj.data_mapFields
def ycj:=@Int.emod_nonneg
def yck:=@Nat.testBit_mul_two_pow
def ycl:=@Nat.add_sub_cancel
def ycm:=@List.getElem?_take
def ycn:=@Option.map_some
def yco:=@Bool.not_true
def ycp:=@Int.add_emod_right
def ycq:=@PySem.Heap.get?_update_other
def ycr:=@Nat.testBit_lt_two_pow
def ycs:=@List.Perm.append_right
def yct:=@List.drop_eq_nil_of_le
def ycu:=@List.filter_eq_nil_iff
def ycv:=@List.nodup_append
def ycw:=@Array.toList_push
def ycx:=@Bool.false_and
def ycy:=@PySem.Heap.size_push
def ycz:=@PyProof.Rows.IntsAre.length
def ycA:=@List.length_replicate
def ycB:=@PySem.F.slot_dict_get
def ycC:=@List.Perm.append_left
def ycD:=@List.perm_append_comm
def ycE:=@PySem.F.slot_tuple_mul
def ycF:=@Nat.mod_eq_of_lt
def ycG:=@List.mem_flatMap
def ycH:=@List.getElem?_set_ne
def ycI:=@PySem.Calls.evalArgs_plain
def ycJ:=@List.Pairwise.filter
def ycK:=@List.reverse_reverse
def ycL:=@List.any_cons
def ycM:=@Bool.true_and
def ycN:=@PySem.W.mg_of
def ycO:=@List.filterMap_cons
def ycP:=@PySem.F.slot_int_rmul
def ycQ:=@Nat.testBit_and
def ycR:=@List.flatMap_append
def ycS:=@PySem.Heap.get?_update_ne
def ycT:=@Nat.mul_comm
def ycU:=@List.map_nil
def ycV:=@Int.emod_lt_of_pos
def ycW:=@Int.ofNat_lt
def ycX:=@Ne.symm
namespace L2
open PySem PySem.Spec PyProof.Rows
noncomputable abbrev Key:=Sum Int Str
noncomputable def zkz:Key -> Value -> Bool
 | .inl k,v=>Value.isInt k v
 | .inr x,v=>Value.isStrOf x v
noncomputable def keyH (w:World):Key -> Int
 | .inl k=>hashInt k
 | .inr x=>hashStr w x
def zaS:∀ {k:Key} {v:Value},zkz k v=true -> (∃ i t,k=Sum.inl i /\ v=Value.int i t) \/ (∃ x t,k=Sum.inr x /\ v=Value.str x t)
 | .inl i,v,h=>by
  obtain ⟨t,e⟩:=Value.isInt_shape (k:=i) (v:=v) h;exact .inl ⟨i,t,rfl,e⟩
 | .inr x,v,h=>by
  obtain ⟨t,e⟩:=Value.isStrOf_shape (x:=x) (v:=v) h;exact .inr ⟨x,t,rfl,e⟩
def zk3 (i:Int) (t:Tok):zkz (.inl i) (.int i t)=true:=by simp [zkz,Value.isInt]
def zmu (x:Str) (t:Tok):zkz (.inr x) (.str x t)=true:=by simp [zkz,Value.isStrOf]
def zqo (a b:Int):decide ((Sum.inl a:Key)=Sum.inl b)=(a == b):=by
 by_cases e:a=b
 ·subst e; simp
 ·have h:¬ (Sum.inl a:Key)=Sum.inl b:=λ q=>e (Sum.inl.inj q);rw [decide_eq_false h];exact (beq_eq_false_iff_ne.mpr e).symm
def zqS (a b:Str):decide ((Sum.inr a:Key)=Sum.inr b)=decide (a=b):=by
 by_cases e:a=b
 ·subst e; simp
 ·have h:¬ (Sum.inr a:Key)=Sum.inr b:=λ q=>e (Sum.inr.inj q);rw [decide_eq_false h,decide_eq_false e]
def zqE (a:Int) (b:Str):decide ((Sum.inl a:Key)=Sum.inr b)=false:=decide_eq_false (λ q=>nomatch q)
def zpK (a:Str) (b:Int):decide ((Sum.inr a:Key)=Sum.inl b)=false:=decide_eq_false (λ q=>nomatch q)
noncomputable def zaN (prog:Program) (w:World):PySem.KeyKind prog w Key where
 is:=zkz
 hash:=keyH w
 inj:=λ v a b ha hb=>by
  rcases zaS ha with ⟨i,t,rfl,rfl⟩ | ⟨x,t,rfl,rfl⟩
  ·rcases zaS hb with ⟨j, u, rfl, e⟩ | ⟨y, u, rfl, e⟩
   ·injection e with e1 _; rw [e1]
   ·exact nomatch e
  ·rcases zaS hb with ⟨j, u, rfl, e⟩ | ⟨y, u, rfl, e⟩
   ·exact nomatch e
   ·injection e with e1 _; rw [e1]
 byValue:=λ k v h=>by
  rcases zaS h with ⟨i,t,rfl,rfl⟩ | ⟨x,t,rfl,rfl⟩ <;> rfl
 pyHash:=λ hv h=>by
  rcases zaS hv with ⟨i,t,rfl,rfl⟩ | ⟨x,t,rfl,rfl⟩
  ·exact wpAny_pyHash_int h
  ·exact wpAny_pyHash_str h
 eqBool:=λ hu hv h=>by
  rcases zaS hu with ⟨i,t,rfl,rfl⟩ | ⟨x,t,rfl,rfl⟩
  ·rcases zaS hv with ⟨j, u, rfl, rfl⟩ | ⟨y, u, rfl, rfl⟩
   ·rw [zqo] at h; exact wpAny_eqBool_int h
   ·rw [zqE] at h; exact SeqAt.EqAt.int_str i t y u _ _ _ _ h
  ·rcases zaS hv with ⟨j, u, rfl, rfl⟩ | ⟨y, u, rfl, rfl⟩
   ·rw [zpK] at h; exact SeqAt.EqAt.str_int x t j u _ _ _ _ h
   ·rw [zqS] at h; exact wpAny_eqBool_str h
 «strs»:=λ k x t v h=>by
  rcases zaS h with ⟨i,u,rfl,e⟩ | ⟨y,u,rfl,e⟩
  ·exact nomatch e
  ·injection e with e1 _;subst e1;cases v <;> rfl
def ziI (prog:Program) (w:World) (i:Int) (t:Tok):(zaN prog w).is (.inl i) (.int i t)=true:=zk3 i t
def ziz (prog:Program) (w:World) (x:Str) (t:Tok):(zaN prog w).is (.inr x) (.str x t)=true:=zmu x t
inductive V where
 | non | bl (b:Bool) | int (i:Int) | str (x:Str) | byt (b:Array UInt8) | flt (b:UInt64) | ref (a:Addr) | ty (n:String)
 deriving DecidableEq
noncomputable def RelV:V -> Value -> Prop
 | .non,u=>u=Value.none
 | .bl b,u=>u=Value.bool b
 | .int i,u=>∃ t,u=Value.int i t
 | .str x,u=>∃ t,u=Value.str x t
 | .byt b,u=>∃ t,u=Value.bytes b t
 | .flt b,u=>∃ t,u=Value.float b t
 | .ref a,u=>u=Value.ref a
 | .ty n,u=>u=Value.type n
noncomputable abbrev Vals:List V -> List Value -> Prop:=Paired RelV
def Vals.length {xs:List V} {us:List Value} (r:Vals xs us):xs.length=us.length:=ybi r
def Vals.get:∀ {xs:List V} {us:List Value} {i:Nat} {x:V},Vals xs us -> xs[i]?=some x -> ∃ u,us[i]?=some u /\ RelV x u
 | _,_,_,_,.nil,e=>by simp at e
 | _,_,0,_,.cons r _,e=>by simp at e; subst e; exact ⟨_,rfl,r⟩
 | _,_,i + 1,x,.cons _ t,e=>by
  obtain ⟨u,h1,h2⟩:=Vals.get (i:=i) (x:=x) t (64:);exact ⟨u,by simpa using h1,h2⟩
def Vals.set {x:V} {u:Value} (r:RelV x u):∀ {xs:List V} {us:List Value} (i:Nat),Vals xs us -> Vals (xs.set i x) (us.set i u)
 | _,_,_,.nil=>.nil
 | _,_,0,.cons _ t=>.cons r t
 | _,_,i + 1,.cons q t=>.cons q (Vals.set r i t)
def Vals.append:∀ {xs ys:List V} {us ws:List Value},Vals xs us -> Vals ys ws -> Vals (xs ++ ys) (us ++ ws)
 | _,_,_,_,.nil,s=>s
 | _,_,_,_,.cons r t,s=>.cons r (Vals.append t s)
def Vals.take:∀ {xs:List V} {us:List Value} (n:Nat),Vals xs us -> Vals (xs.take n) (us.take n)
 | _,_,0,_=>.nil
 | _,_,_ + 1,.nil=>.nil
 | _,_,n + 1,.cons r t=>.cons r (Vals.take n t)
def Vals.drop:∀ {xs:List V} {us:List Value} (n:Nat),Vals xs us -> Vals (xs.drop n) (us.drop n)
 | _,_,0,r=>r
 | _,_,_ + 1,.nil=>.nil
 | _,_,n + 1,.cons _ t=>Vals.drop n t
noncomputable def RelO:Option V -> Option Value -> Prop
 | some v,some u=>RelV v u
 | none,none=>True
 | _,_=>False
noncomputable def KV {κ:Type}:List (κ × V) -> List (κ × Value) -> Prop:=Paired λ (p:κ × V) (q:κ × Value)=>p.1=q.1 /\ RelV p.2 q.2
noncomputable def kV:Key -> V
 | .inl i=>.int i
 | .inr x=>.str x
inductive HO where
 /-- a list -/
 | lst (xs:List V)
 /-- a tuple (never changes) -/
 | tup (xs:List V)
 /-- a dict whose keys are ints and texts; one whose keys are tuples of ints and texts (the empty one is both) -/
 | dK (kvs:List (Key × V)) | dT (kvs:List (List Key × V))
 /-- a set of ints: its members,its size -/
 | set (S:Int -> Bool) (n:Nat)
 /-- an instance of the class at C,its dict at dx,its attributes -/
 | ins (C dx:Addr) (fs:List (Str × V))
 /-- the dict of the instance at x -/
 | own (x:Addr)
 /-- the dict of an exception -/
 | xd (fs:List (Str × V))
 /-- a bound method,f of x -/
 | met (f x:Addr)
 /-- a range object lo,lo + 1,.. below hi -/
 | rng (lo hi:Int)
 /-- a thing that is known to the object (the script; a dict while a loop walks it): read,never written while it is so -/
 | frz (o:Obj) (u:HO)
 /-- a code object's table -/
 | tbl (ps:Array Value)
 /-- any other thing,by what is true of its one object (a def of one's own: SetO a S n:=HO.ext λ h=>..) -/
 | ext (φ:Heap -> Prop)
noncomputable abbrev Hp:=Addr -> Option HO
noncomputable def upd (H:Hp) (a:Addr) (o:HO):Hp:=λ b=>if b=a then some o else H b
def zah {H:Hp} {a:Addr} {o:HO}:upd H a o a=some o:=by unfold upd; rw [if_pos rfl]
def zan {H:Hp} {a b:Addr} {o:HO} (h:b ≠ a):upd H a o b=H b:=by unfold upd; rw [if_neg h]
def zlE {H:Hp} {a:Addr} {o u:HO}:upd (upd H a o) a u=upd H a u:=by
 funext b; unfold upd; split <;> rfl
def zbY {H:Hp} {a b:Addr} {o u:HO} (h:H a=some o) (h':H b=some u) (d:o ≠ u):a ≠ b:=by
 intro e; subst e; rw [h] at h'; exact d (Option.some.inj h')
def zao {H:Hp} {a b:Addr} {o:HO} (h:H a=some o) (h':H b=none):a ≠ b:=by
 intro e; subst e; rw [h] at h'; cases h'
noncomputable def zbm (h:Heap) (a:Addr) (items:Array Value):Prop:=∃ o,h.get? a=some o /\ o.cls=.type "tuple" /\ o.dict=none /\ ∃ n,o.data=.seq items n
def zbm.tup {h:Heap} {a:Addr} {items:Array Value} (x:zbm h a items):IsTup h a items:=by
 obtain ⟨o,e,c,_,n⟩:=x;exact ⟨o,e,c,n⟩
def zbm.lt {h:Heap} {a:Addr} {items:Array Value} (x:zbm h a items):a < h.objs.size:=x.tup.lt
def zbm.new (h:Heap) (items:Array Value):zbm (h.push { cls:=.type "tuple",data:=.seq items }) h.objs.size items:=⟨_,yao _ rfl,rfl,rfl,_,rfl⟩
section
variable (P:Program) (w:World)
noncomputable def zaT (H:Hp) (h:Heap) (a:Addr):HO -> Prop
  | .lst xs=>xs.length <= sizeLine /\ ∃ (its:List Value) (n:Nat),Vals xs its /\ h.get? a=some { cls:=.type "list",data:=.seq its.toArray n }
  | .tup xs=>xs.length <= sizeLine /\ ∃ its:List Value,Vals xs its /\ zbm h a its.toArray
  | .dK kvs=>kvs.length <= sizeLine /\ (a == sysModules)=false /\ ∃ vs,KV kvs vs /\ h.DictOf (zaN P w) a vs
  | .dT kvs=>kvs.length <= sizeLine /\ (a == sysModules)=false /\ ∃ xs:List (List Key × Addr × Value),
      Paired (λ (p:List Key × V) (q:List Key × Addr × Value)=>p.1=q.1 /\ H q.2.1=some (.tup (p.1.map kV)) /\ RelV p.2 q.2.2) kvs xs /\
      ∃ o es ep,h.get? a=some o /\ o.ExactDict /\ o.data=.dict es ep /\ es.toList=xs.map (entryOfKey (tupleKind (zaN P w))) /\ (xs.map (·.1)).Nodup
  | .set S n=>h.SetOf (intKind P w) a S n
  | .ins C dx fs=>H dx=some (.own a) /\ fs.length <= 1000 /\ dx ≠ a /\ h.get? a=some (PySem.W.instObj C dx) /\
      ∃ mA,h.Ns1 dx mA /\ (∀ f,RelO (fs.lookup f) (mA f)) /\ PySem.Within mA (fs.map (·.1))
  | .own _=>∃ o,h.get? a=some o
  | .xd fs=>∃ mA,h.Ns1 a mA /\ ∀ f,RelO (fs.lookup f) (mA f)
  | .rng lo hi=>∃ t u v,h.get? a=some { cls:=.type "range",data:=.fields #[.int lo t,.int hi u,.int 1 v] }
  | .frz o u=>h.get? a=some o /\ zaT H h a u
  | .tbl ps=>h.get? a=some { cls:=.none,data:=.fields ps }
  | .met f x=>h.get? a=some (PySem.W.methodObj (.ref f) (.ref x))
  | .ext φ=>φ h /\ (∃ o,h.get? a=some o) /\ ∀ h1 h2:Heap,φ h1 -> (∀ o,h1.get? a=some o -> h2.get? a=some o) -> φ h2
noncomputable def HOk (H:Hp) (h:Heap):Prop:=∀ a o,H a=some o -> zaT P w H h a o
end
section
variable {P:Program} {w:World} {H H':Hp} {h h':Heap} {a:Addr} {o:HO}
def zaT.lt (x:zaT P w H h a o):a < h.objs.size:=by
 cases o with
 | lst xs=>obtain ⟨_,_,_,_,e⟩:=x; exact yai e
 | tup xs=>obtain ⟨_,_,_,p⟩:=x; exact p.lt
 | dK kvs=>obtain ⟨_,_,_,_,o,_,_,e,_⟩:=x; exact yai e
 | dT kvs=>obtain ⟨_,_,_,_,o,_,_,e,_⟩:=x; exact yai e
 | set S n=>obtain ⟨o,_,_,_,e,_⟩:=x; exact yai e
 | ins C dx fs=>obtain ⟨_,_,_,e,_⟩:=x; exact yai e
 | own y=>obtain ⟨_,e⟩:=x; exact yai e
 | xd fs=>obtain ⟨_,⟨_,_,_,e,_⟩,_⟩:=x; exact yai e
 | rng lo hi=>obtain ⟨_,_,_,e⟩:=x; exact yai e
 | frz ob u=>obtain ⟨e,_⟩:=x; exact yai e
 | tbl ps=>exact yai (show h.get? a=some _ from x)
 | met f y=>exact yai (show h.get? a=some _ from x)
 | ext φ=>obtain ⟨_,⟨_,e⟩,_⟩:=x; exact yai e
def Paired.mapP {α β:Type} {F G:α -> β -> Prop}:∀ {l₁:List α} {l₂:List β},Paired F l₁ l₂ -> (∀ a b,F a b -> G a b) -> Paired G l₁ l₂
 | _,_,.nil,_=>.nil
 | _,_,.cons r t,f=>.cons (f _ _ r) (Paired.mapP t f)
def zaT.stay (x:zaT P w H h a o) (k:∀ b u,(b=a \/ H b=some (.own a)) -> h.get? b=some u -> h'.get? b=some u)
  (ho:∀ b,H b=some (.own a) -> H' b=some (.own a)) (ht:∀ b xs,H b=some (.tup xs) -> H' b=some (.tup xs)):zaT P w H' h' a o:=by
 induction o with
 | lst xs=>obtain ⟨z,its,n,r,e⟩:=x; exact ⟨z,its,n,r,k _ _ (.inl rfl) e⟩
 | tup xs=>obtain ⟨z,its,r,ob,e,c⟩:=x; exact ⟨z,its,r,ob,k _ _ (.inl rfl) e,c⟩
 | dK kvs=>obtain ⟨z,y,vs,r,ob,es,ep,e,c⟩:=x; exact ⟨z,y,vs,r,ob,es,ep,k _ _ (.inl rfl) e,c⟩
 | dT kvs=>
  obtain ⟨z,y,xs,r,ob,es,ep,e,c⟩:=x;exact ⟨z,y,xs,Paired.mapP r λ p q z=>⟨z.1,ht _ _ z.2.1,z.2.2⟩,ob,es,ep,k _ _ (.inl rfl) e,c⟩
 | set S n=>obtain ⟨ob,es,ep,t,e,c⟩:=x; exact ⟨ob,es,ep,t,k _ _ (.inl rfl) e,c⟩
 | ins C dx fs=>
  obtain ⟨d,z,ne,e,mA,⟨od,es,ep,e2,c⟩,r⟩:=x;exact ⟨ho _ d,z,ne,k _ _ (.inl rfl) e,mA,⟨od,es,ep,k _ _ (.inr d) e2,c⟩,r⟩
 | own y=>obtain ⟨ob,e⟩:=x; exact ⟨ob,k _ _ (.inl rfl) e⟩
 | xd fs=>obtain ⟨mA,⟨od,es,ep,e,c⟩,r⟩:=x; exact ⟨mA,⟨od,es,ep,k _ _ (.inl rfl) e,c⟩,r⟩
 | rng lo hi=>obtain ⟨t,u,v,e⟩:=x; exact ⟨t,u,v,k _ _ (.inl rfl) e⟩
 | frz ob u ih=>obtain ⟨e,q⟩:=x; exact ⟨k _ _ (.inl rfl) e,ih q⟩
 | tbl ps=>
  have e:h.get? a=some { cls:=.none,data:=.fields ps }:=x;show h'.get? a=some { cls:=.none,data:=.fields ps };exact k a _ (.inl rfl) e
 | met f y=>
  have e:h.get? a=some (PySem.W.methodObj (.ref f) (.ref y)):=x;show h'.get? a=some (PySem.W.methodObj (.ref f) (.ref y));exact k a _ (.inl rfl) e
 | ext φ=>obtain ⟨p,⟨o,e⟩,st⟩:=x; exact ⟨st _ _ p λ o q=>k _ _ (.inl rfl) q,⟨o,k _ _ (.inl rfl) e⟩,st⟩
def HOk.lt (x:HOk P w H h) (e:H a=some o):a < h.objs.size:=(x a o e).lt
def HOk.fresh (x:HOk P w H h) (e:h.objs.size <= a):H a=none:=by
 cases q:H a with
 | none=>rfl
 | some u=>exact absurd (yak (x.lt q) e) (ybn _)
def HOk.kept (x:HOk P w H h) (k:∀ b u,h.get? b=some u -> h'.get? b=some u):HOk P w H h':=λ a o e=>
 (x a o e).stay (λ b u _ q=>k b u q) (λ _ q=>q) λ _ _ q=>q
def HOk.laid (x:HOk P w H h) (k:∀ b u,h.get? b=some u -> h'.get? b=some u) (hp:h.objs.size <= a) (new:zaT P w (upd H a o) h' a o):HOk P w (upd H a o) h':=λ b u e=>by
 have hn:=x.fresh hp;by_cases hb:b=a
 ·subst hb; rw [zah] at e; cases e; exact new
 ·rw [zan hb] at e;exact (x b u e).stay (λ c v _ q=>k c v q) (λ c q=>by rw [zan (zao q hn)]; exact q) λ c xs q=>by rw [zan (zao q hn)]; exact q
end
noncomputable def Rd (H:Hp) (a:Addr) (u:HO):Prop:=H a=some u \/ ∃ o,H a=some (.frz o u)
def Rd.ok {P:Program} {w:World} {H:Hp} {h:Heap} {a:Addr} {u:HO} (r:Rd H a u) (x:HOk P w H h):zaT P w H h a u:=by
 rcases r with r | ⟨o,r⟩
 ·exact x a u r
 ·obtain ⟨_,q⟩:=x a _ r;exact q
noncomputable def Mut:Option HO -> Prop
 | some (.lst _)=>True
 | some (.dK _)=>True
 | some (.dT _)=>True
 | some (.set _ _)=>True
 | some (.ins _ _ _)=>True
 | some (.ext _)=>True
 | _=>False
section
variable {P:Program} {w:World} {H:Hp} {h h':Heap} {x e:Addr} {o':HO}
def HOk.write (ok:HOk P w H h) (mu:Mut (H x)) (he:e=x \/ H e=some (.own x)) (k:∀ b u,b ≠ e -> h.get? b=some u -> h'.get? b=some u) (heo:∃ u,h'.get? e=some u)
  (new:zaT P w (upd H x o') h' x o'):HOk P w (upd H x o') h':=λ b u q=>by
 have nown:∀ c y,H c=some (.own y) -> c ≠ x:=λ c y r z=>by subst z; rw [r] at mu; exact mu
 have ntup:∀ c xs,H c=some (.tup xs) -> c ≠ x:=λ c xs r z=>by subst z; rw [r] at mu; exact mu
 by_cases hb:b=x
 ·subst hb; rw [zah] at q; cases q; exact new
 ·rw [zan hb] at q;by_cases hbe : b = e
  ·have q':H b=some (.own x):=by
    rcases he with z | z
    ·exact absurd (hbe.trans z) hb
    ·rw [hbe]; exact z
   rw [q] at q'; cases q';obtain ⟨v,hv⟩:=heo;exact ⟨v,by rw [hbe]; exact hv⟩
  ·refine (ok b u q).stay (fun c v hc r => k c v ?_ r) (fun c r => by rw [zan (nown c b r)]; exact r) fun c xs r => by rw [zan (ntup c xs r)]; exact r
   rcases hc with rfl | hc
   ·exact hbe
   ·rintro rfl;rcases he with z | z
    ·exact nown c b hc z
    ·rw [hc] at z; cases z; exact hb rfl
end
structure Un (fs ex:List Addr) (H H':Hp) (h h':Heap):Prop where
 keep:∀ b o,h.get? b=some o -> H b=none -> b ∉ fs -> b ∉ ex -> h'.get? b=some o
 slot:∀ b o,h.get? b=some o -> H b=none -> b ∈ fs -> b ∉ ex -> ∃ sl,h'.get? b=some { o with slots:=sl }
 free:∀ b o,h.get? b=some o -> H b=none -> b ∉ ex -> H' b=none
 there:∀ b o,h.get? b=some o -> b ∉ ex -> ∃ o',h'.get? b=some o'
 tups:∀ b xs,H b=some (.tup xs) -> H' b=some (.tup xs)
 frzs:∀ b o u,H b=some (.frz o u) -> H' b=some (.frz o u)
 tbls:∀ b ps,H b=some (.tbl ps) -> ∃ more,H' b=some (.tbl (ps ++ more))
section
variable {fs fs' ex ex':List Addr} {H H1 H2:Hp} {h h1 h2 h':Heap} {a x e:Addr} {o:HO}
def Un.any (u:Un fs ex H H1 h h1) {b:Addr} {ob:Obj} (q:h.get? b=some ob) (n:H b=none) (hx:b ∉ ex):∃ sl,h1.get? b=some { ob with slots:=sl }:=by
 by_cases hb:b ∈ fs
 ·exact u.slot b ob q n hb hx
 ·exact ⟨ob.slots,u.keep b ob q n hb hx⟩
def Un.kept (k:∀ b u,h.get? b=some u -> h'.get? b=some u):Un fs ex H H h h':=
 ⟨λ b ob q _ _ _=>k b ob q,λ b ob q _ _ _=>⟨ob.slots,k b ob q⟩,λ _ _ _ n _=>n,λ b ob q _=>⟨ob,k b ob q⟩,λ _ _ q=>q,λ _ _ _ q=>q,λ _ ps q=>⟨#[],by rw [q]; simp⟩⟩
def Un.refl:Un fs ex H H h h:=Un.kept λ _ _ q=>q
def Un.laid (k:∀ b u,h.get? b=some u -> h'.get? b=some u) (hp:h.objs.size <= a) (hn:H a=none):Un fs ex H (upd H a o) h h' where
 keep:=λ b u q _ _ _=>k b u q
 slot:=λ b u q _ _ _=>⟨u.slots,k b u q⟩
 free:=λ b u q n _=>by rw [zan (yax (yak (yai q) hp))]; exact n
 there:=λ b u q _=>⟨u,k b u q⟩
 tups:=λ b xs q=>by rw [zan (zao q hn)]; exact q
 frzs:=λ b u xs q=>by rw [zan (zao q hn)]; exact q
 tbls:=λ b ps q=>⟨#[],by rw [zan (zao q hn),q]; simp⟩
def Un.write (mu:Mut (H x)) (he:e=x \/ H e=some (.own x)) (k:∀ b u,b ≠ e -> h.get? b=some u -> h'.get? b=some u) (heo:∃ u,h'.get? e=some u):Un fs ex H (upd H x o) h h':=by
 have hx:∀ b,H b=none -> b ≠ x:=λ b n z=>by subst z; rw [n] at mu; exact mu
 have hb:∀ b,H b=none -> b ≠ e:=λ b n z=>by
  subst z;rcases he with r | r
  ·exact hx b n r
  ·rw [n] at r; cases r
 have hm:∀ b u,H b=some u -> ¬ Mut (some u) -> b ≠ x:=λ b u q nm z=>by subst z; rw [q] at mu; exact nm mu
 refine ⟨λ b u q n _ _=>k b u (hb b n) q,λ b u q n _ _=>⟨u.slots,k b u (hb b n) q⟩,λ b u q n _=>by rw [zan (hx b n)]; exact n,λ b u q _=>?_,
  λ b xs q=>by rw [zan (hm b _ q λ z=>z)]; exact q,λ b u xs q=>by rw [zan (hm b _ q λ z=>z)]; exact q,λ b ps q=>⟨#[],by rw [zan (hm b _ q λ z=>z),q]; simp⟩⟩
 by_cases hbe:b=e
 ·subst hbe; exact heo
 ·exact ⟨u,k b u hbe q⟩
end
noncomputable def trk (h:Heap) (H:Hp):List Addr:=(List.range h.objs.size).filter λ a=>(H a).isSome
noncomputable def hidT (h:Heap) (H:Hp):Heap:=PySem.W.hideAll h (trk h H)
def zly (h:Heap) (H:Hp):(hidT h H).objs.size=h.objs.size:=PySem.W.hideAll_size _ _
def zmR {h:Heap} {H:Hp} {b:Addr} {o:Obj} (e:h.get? b=some o) (n:H b=none):(hidT h H).get? b=some o:=
 PySem.W.hideAll_get _ e λ hm=>by
  have q:(H b).isSome=true:=(yaB.mp hm).2;rw [n] at q; simp at q
def zpa {h:Heap} {H:Hp} {b:Addr} {o:Obj} (e:(hidT h H).get? b=some o):h.get? b=some o /\ H b=none:=by
 have e':h.get? b=some o:=PySem.W.of_hideAll (trk h H) e;refine ⟨e',?_⟩;cases q:H b with
 | none=>rfl
 | some x=>
  have hm:b ∈ trk h H:=yaB.mpr ⟨yat.mpr (yai e'),by simp [q]⟩;have z:(hidT h H).get? b=none:=PySem.W.hideAll_none (trk h H) hm;rw [z] at e; cases e
noncomputable def zog (g h:Heap) (L:Addr):List (Addr × Obj):=(List.range h.objs.size).filterMap λ a=>if a=L \/ (g.get? a).isSome=true then none else (h.get? a).map λ o=>(a,o)
noncomputable def rest (g h:Heap) (L d:Addr):List (Addr × Obj):=(zog g h L).filter λ p=>decide (p.1 ≠ d)
structure Mod (K:PySem.W.Frag) (mg:Str -> Option Value) (base:Heap):Prop where
 kin:K.In base
 glob:base.Ns mainGlobals mg
 blt:∃ mb,base.Ns builtinsNs mb /\ ∀ x:Str,x ≠ "__name__" -> mb x=bootBuiltins x
 nolimit:base.NoLimit
structure Cx where
 prog:Program
 w:World
 K:PySem.W.Frag
 mg:Str -> Option Value
 base:Heap
 A:Around
 N:List Str
 s₀:Shared
 H₀:Hp
 env:Env
 outer:List Env
 stack:List Env
 ex:List Addr
 fn:Str -> Bool
 calm:Bool
 pn:List (Addr × Obj)
 xe:Value -> Shared -> Prop
noncomputable def frs (l:List Env):List Addr:=l.filterMap (·.frame)
noncomputable abbrev Cx.fs (X:Cx):List Addr:=frs X.outer
noncomputable def Vis (sc:Scope) (x:Str):Prop:=sc.names.lookup x=some .local \/ sc.names.lookup x=some .cell \/ sc.names.lookup x=some .free
noncomputable def Loc (sc:Scope) (x:Str):Prop:=sc.names.lookup x=some .local \/ sc.names.lookup x=some .cell
noncomputable def Look (env:Env) (h:Heap) (m:Str -> Option Value) (x:Str) (u:Value):Prop:=
 (env.kindOf x=some .local /\ m x=some u) \/ ((env.kindOf x=some .cell \/ env.kindOf x=some .free) /\ ∃ c,env.cells.lookup x=some c /\ h.IsCell c (some u))
structure Cx.Ok (X:Cx):Prop where
 mod:Mod X.K X.mg X.base
 kind:X.env.scope.kind=.function
 glob:X.env.globals=mainGlobals
 blt:X.env.builtins=builtinsNs
 above:X.s₀.heap.objs.size <= X.env.locals
 inj:∀ x y c,X.env.cells.lookup x=some c -> X.env.cells.lookup y=some c -> x=y
 has:∀ x,(X.env.kindOf x=some .cell \/ X.env.kindOf x=some .free) -> ∃ c,X.env.cells.lookup x=some c
 cab:∀ x c,X.fn x=true -> X.env.cells.lookup x=some c -> X.s₀.heap.objs.size <= c
 hd:X.calm=true -> X.A.handled=none
 frames:X.A.frames=some X.stack
 stk:X.stack=X.outer \/ (X.stack=X.env :: X.outer /\ X.env.frame=some X.env.locals)
 exf:∀ b ∈ X.ex,b ≠ X.env.locals /\ ∀ x c,X.env.cells.lookup x=some c -> c ≠ b
 bs:∀ b o,X.base.get? b=some o -> X.s₀.heap.get? b=some o /\ X.H₀ b=none
 bsz:X.base.objs.size <= X.s₀.heap.objs.size
 noex:∀ b o,X.base.get? b=some o -> b ∉ X.ex
 exfs:∀ b ∈ X.ex,b ∉ X.fs
 funs:X.s₀.heap.FunFrames X.base X.outer
 frf:∀ b ∈ X.fs,X.H₀ b=none
structure Inv (X:Cx) (pins:List (Addr × Obj)) (σ:List (Option V)) (H:Hp) (s:Shared):Prop where
 ok:X.Ok
 os:s.os=X.s₀.os
 bare:AllBare s.gens
 base:Un X.fs X.ex X.H₀ H X.s₀.heap s.heap
 loc:∃ m,s.heap.Ns X.env.locals m /\ ∀ (i:Nat) (x:Str) (v:V),X.N[i]?=some x -> σ[i]?=some (some v) -> Vis X.env.scope x -> ∃ u,RelV v u /\ Look X.env s.heap m x u
 cell:∀ x c,X.env.cells.lookup x=some c -> ∃ v,s.heap.IsCell c v
 free:H X.env.locals=none
 freeC:∀ x c,X.env.cells.lookup x=some c -> H c=none
 pin:∀ p ∈ X.pn ++ pins,s.heap.get? p.1=some p.2 /\ H p.1=none /\ p.1 ≠ X.env.locals /\ p.1 ∉ X.fs /\ ∀ v,p.2.data ≠ .cell v
 hok:HOk X.prog X.w H s.heap
 len:σ.length=X.N.length
section
variable {X:Cx} {pins:List (Addr × Obj)} {σ:List (Option V)} {H H':Hp} {s:Shared} {h':Heap}
def Cx.Ok.nofr (ok:X.Ok) {b:Addr} {o:Obj} (e:X.base.get? b=some o):b ∉ X.fs:=λ hb=>by
 have:=(ok.funs.mem hb).1;rw [e] at this; cases this
def Inv.bs (I:Inv X pins σ H s):∀ b o,X.base.get? b=some o -> s.heap.get? b=some o /\ H b=none:=λ b o e=>
 ⟨I.base.keep b o (I.ok.bs b o e).1 (I.ok.bs b o e).2 (I.ok.nofr e) (I.ok.noex b o e),I.base.free b o (I.ok.bs b o e).1 (I.ok.bs b o e).2 (I.ok.noex b o e)⟩
def Inv.bk (I:Inv X pins σ H s):∀ b o,X.base.get? b=some o -> s.heap.get? b=some o:=λ b o e=>(I.bs b o e).1
def Inv.mod (I:Inv X pins σ H s):Mod X.K X.mg X.base:=I.ok.mod
def Inv.kIn (I:Inv X pins σ H s):X.K.In s.heap:=I.ok.mod.kin.keeps I.bk
def Inv.lt (I:Inv X pins σ H s):X.env.locals < s.heap.objs.size:=let ⟨_,hn,_⟩:=I.loc; hn.lt
def Inv.sz (I:Inv X pins σ H s):X.s₀.heap.objs.size <= s.heap.objs.size:=ya5 I.ok.above (yaE I.lt)
def Inv.nofs (I:Inv X pins σ H s) {a:Addr} (h:s.heap.objs.size <= a):a ∉ X.fs:=λ hb=>by
 obtain ⟨_,o,ho,_⟩:=I.ok.funs.mem hb;exact absurd (yak (yai ho) (ya5 I.sz h)) (ybn _)
def Inv.cne (I:Inv X pins σ H s):∀ x c,X.env.cells.lookup x=some c -> c ≠ X.env.locals:=λ x c e z=>by
 obtain ⟨v,o,ho,hd⟩:=I.cell x c e;obtain ⟨m,⟨o',es,ep,ho',hd',_⟩,_⟩:=I.loc;rw [z,ho'] at ho; cases ho; rw [hd'] at hd; cases hd
def Inv.funs (I:Inv X pins σ H s):s.heap.FunFrames X.base X.outer:=by
 have all:∀ (l:List Env),(∀ b ∈ frs l,b ∈ X.fs) -> X.s₀.heap.FunFrames X.base l -> s.heap.FunFrames X.base l:=by
  intro l
  induction l with
  | nil=>intro _ _; trivial
  | cons env r ih=>
   intro hs hl;obtain ⟨hk,⟨L,o,hf,hn,ho,hd⟩,hr⟩:=hl;have hL:L ∈ X.fs:=hs L (by unfold frs; rw [ycO,hf]; exact yaC);obtain ⟨sl,e⟩:=I.base.slot L o ho (I.ok.frf L hL) hL λ z=>I.ok.exfs L z hL;exact ⟨hk,⟨L,_,hf,hn,e,hd⟩,ih (λ b hb=>hs b (by unfold frs; rw [ycO,hf]; exact yau _ hb)) hr⟩
 exact all X.outer (λ _ hb=>hb) I.ok.funs
def Inv.stack (I:Inv X pins σ H s):s.heap.FunFrames X.base X.stack:=by
 rcases I.ok.stk with e | ⟨e,hf⟩
 ·rw [e]; exact I.funs
 ·rw [e];obtain ⟨m,hn,_⟩:=I.loc;refine .cons (by rw [I.ok.kind]; decide) hf hn ?_ I.funs;exact Heap.get?_none_of_le (ya5 I.ok.bsz I.ok.above)
def Inv.stkSub (I:Inv X pins σ H s):∀ b ∈ frs X.stack,b ∈ X.env.locals :: X.fs:=λ b hb=>by
 rcases I.ok.stk with e | ⟨e,hf⟩
 ·rw [e] at hb; exact yau _ hb
 ·rw [e] at hb;unfold frs at hb;rw [ycO,hf] at hb;exact hb
def Inv.stkFree (I:Inv X pins σ H s):∀ b ∈ frs X.stack,H b=none:=λ b hb=>by
 rcases yav.mp (I.stkSub b hb) with e | hb
 ·rw [e]; exact I.free
 ·obtain ⟨_,o,ho,_⟩:=I.ok.funs.mem hb;exact I.base.free b o ho (I.ok.frf b hb) λ z=>I.ok.exfs b z hb
def Inv.step {g':Array GenState} {t':Nat} {d':Drawn} {ch:List Addr} (I:Inv X pins σ H s)
  (hch:∀ b ∈ ch,(b ∈ X.ex \/ X.s₀.heap.objs.size <= b) /\ b ≠ X.env.locals /\ (∀ x c,X.env.cells.lookup x=some c -> c ≠ b) /\ ∀ p ∈ X.pn ++ pins,p.1 ≠ b)
  (keep:∀ b o,b ≠ X.env.locals -> b ∉ X.fs -> b ∉ ch -> s.heap.get? b=some o -> H b=none -> h'.get? b=some o)
  (slot:∀ b o,b ≠ X.env.locals -> b ∈ X.fs -> b ∉ ch -> s.heap.get? b=some o -> H b=none -> ∃ sl,h'.get? b=some { o with slots:=sl }) (free:∀ b o,b ∉ ch -> s.heap.get? b=some o -> H b=none -> H' b=none)
  (there:∀ b o,b ∉ ch -> s.heap.get? b=some o -> ∃ o',h'.get? b=some o')
  (tups:∀ b xs,H b=some (.tup xs) -> H' b=some (.tup xs)) (frzs:∀ b o u,H b=some (.frz o u) -> H' b=some (.frz o u)) (tbls:∀ b ps,H b=some (.tbl ps) -> ∃ more,H' b=some (.tbl (ps ++ more)))
  (ns:∀ m,s.heap.Ns X.env.locals m -> h'.Ns X.env.locals m) (hok:HOk X.prog X.w H' h') (hg:AllBare g') :
  Inv X pins σ H' { s with heap:=h',gens:=g',drawn:=d',toks:=t' }:=by
 have neL:∀ b o,X.s₀.heap.get? b=some o -> b ≠ X.env.locals:=λ b o e=>yax (yak (yai e) I.ok.above)
 have neC:∀ b o,X.s₀.heap.get? b=some o -> b ∉ X.ex -> b ∉ ch:=λ b o e hx hb=>by
  rcases (hch b hb).1 with z | z
  ·exact hx z
  ·exact absurd (yak (yai e) z) (ybn _)
 have cellK:∀ x c,X.env.cells.lookup x=some c -> ∀ v,s.heap.IsCell c v -> h'.IsCell c v:=λ x c e v ⟨o,ho,hd⟩=>by
  have nch:c ∉ ch:=λ z=>(hch c z).2.2.1 x c e rfl;by_cases hc:c ∈ X.fs
  ·obtain ⟨sl,q⟩:=slot c o (I.cne x c e) hc nch ho (I.freeC x c e);exact ⟨_,q,hd⟩
  ·exact ⟨o,keep c o (I.cne x c e) hc nch ho (I.freeC x c e),hd⟩
 refine ⟨I.ok,I.os,hg,⟨λ b o e n hb hx=>?_,λ b o e n hb hx=>?_,λ b o e n hx=>?_,λ b o e hx=>?_,λ b xs e=>tups b xs (I.base.tups b xs e),λ b o xs e=>frzs b o xs (I.base.frzs b o xs e),λ b ps e=>?_⟩,?_,λ x c e=>?_,?_,λ x c e=>?_,λ p hp=>?_,hok,I.len⟩
 ·exact keep b o (neL b o e) hb (neC b o e hx) (I.base.keep b o e n hb hx) (I.base.free b o e n hx)
 ·obtain ⟨sl,e1⟩:=I.base.slot b o e n hb hx;obtain ⟨sl',e2⟩:=slot b _ (neL b o e) hb (neC b o e hx) e1 (I.base.free b o e n hx);exact ⟨sl',e2⟩
 ·obtain ⟨o',e1⟩:=I.base.there b o e hx;exact free b o' (neC b o e hx) e1 (I.base.free b o e n hx)
 ·obtain ⟨o',e1⟩:=I.base.there b o e hx;exact there b o' (neC b o e hx) e1
 ·obtain ⟨m1,e1⟩:=I.base.tbls b ps e;obtain ⟨m2,e2⟩:=tbls b _ e1;exact ⟨m1 ++ m2,by rw [e2,Array.append_assoc]⟩
 ·obtain ⟨m, hn, hl⟩ := I.loc;refine ⟨m, ns m hn, fun i x v e1 e2 e3 => ?_⟩;obtain ⟨u, r, l⟩ := hl i x v e1 e2 e3;refine ⟨u, r, ?_⟩;rcases l with l | ⟨k, c, e, z⟩
  ·exact .inl l
  ·exact .inr ⟨k,c,e,cellK x c e _ z⟩
 ·obtain ⟨v,z⟩:=I.cell x c e;exact ⟨v,cellK x c e v z⟩
 ·obtain ⟨m,⟨o,_,_,ho,_⟩,_⟩:=I.loc;exact free _ o (λ z=>(hch _ z).2.1 rfl) ho I.free
 ·obtain ⟨v,o,ho,hd⟩:=I.cell x c e;exact free c o (λ z=>(hch c z).2.2.1 x c e rfl) ho (I.freeC x c e)
 ·obtain ⟨e,n,ne,nf,d⟩:=I.pin p hp;have nch:p.1 ∉ ch:=λ z=>(hch p.1 z).2.2.2 p hp rfl;exact ⟨keep p.1 p.2 ne nf nch e n,free p.1 p.2 nch e n,ne,nf,d⟩
def Inv.un {t':Nat} (I:Inv X pins σ H s) (u:Un X.fs [] H H' s.heap h') (hok:HOk X.prog X.w H' h'):Inv X pins σ H' { s with heap:=h',toks:=t' }:=by
 obtain ⟨m,⟨o,es,ep,ho,r⟩,_⟩:=id I.loc;obtain ⟨sl,hL⟩:=u.any ho I.free (5:)
 exact I.step (g':=s.gens) (d':=s.drawn) (ch:=[]) (λ _ z=>nomatch z) (λ b o _ hb _ e n=>u.keep b o e n hb (5:)) (λ b o _ hb _ e n=>u.slot b o e n hb (5:)) (λ b o _ e n=>u.free b o e n (5:)) (λ b o _ e=>u.there b o e (5:)) u.tups u.frzs u.tbls (λ m' hm=>by
  obtain ⟨o',es',ep',ho',r'⟩:=hm;rw [ho] at ho'; cases ho';exact ⟨_,es',ep',hL,r'⟩) hok I.bare
def Inv.call {g':Array GenState} {t':Nat} {d':Drawn} {ch:List Addr} (I:Inv X pins σ H s) (u:Un (frs X.stack) ch H H' s.heap h') (hok:HOk X.prog X.w H' h') (hg:AllBare g')
  (hch:∀ b ∈ ch,(b ∈ X.ex \/ X.s₀.heap.objs.size <= b) /\ b ≠ X.env.locals /\ (∀ x c,X.env.cells.lookup x=some c -> c ≠ b) /\ ∀ p ∈ X.pn ++ pins,p.1 ≠ b) :
  Inv X pins σ H' { s with heap:=h',gens:=g',drawn:=d',toks:=t' }:=by
 obtain ⟨m,⟨o,es,ep,ho,r⟩,_⟩:=id I.loc;obtain ⟨sl,hL⟩:=u.any ho I.free λ z=>(hch _ z).2.1 rfl
 exact I.step (ch:=ch) hch (λ b o hL hb hc e n=>u.keep b o e n (λ z=>(yav.mp (I.stkSub b z)).elim hL hb) hc) (λ b o _ _ hc e n=>u.any e n hc) (λ b o hc e n=>u.free b o e n hc) (λ b o hc e=>u.there b o e hc) u.tups u.frzs u.tbls (λ m' hm=>by
  obtain ⟨o',es',ep',ho',r'⟩:=hm;rw [ho] at ho'; cases ho';exact ⟨_,es',ep',hL,r'⟩) hok hg
def Inv.turned {t':Nat} {it:Addr} (I:Inv X pins σ H s) (k:∀ b o,b ≠ it -> s.heap.get? b=some o -> h'.get? b=some o) (hn:H it=none) (hL:it ≠ X.env.locals)
  (h1:it ∈ X.ex \/ X.s₀.heap.objs.size <= it) (h2:∀ x c,X.env.cells.lookup x=some c -> c ≠ it) (h3:∀ p ∈ X.pn ++ pins,p.1 ≠ it):Inv X pins σ H { s with heap:=h',toks:=t' }:=by
 have nit:∀ b u,H b=some u -> b ≠ it:=λ b u e z=>by rw [z,hn] at e; cases e
 refine I.step (g':=s.gens) (d':=s.drawn) (ch:=[it]) (λ b hb=>?_) (λ b o _ _ hc e _=>k b o (λ z=>hc (by simp [z])) e) (λ b o _ _ hc e _=>⟨o.slots,k b o (λ z=>hc (by simp [z])) e⟩) (λ _ _ _ _ n=>n)
  (λ b o hc e=>⟨o,k b o (λ z=>hc (by simp [z])) e⟩) (λ _ _ e=>e) (λ _ _ _ e=>e) (λ b ps e=>⟨#[],by rw [e]; simp⟩) (λ m hm=>?_) (λ b u e=>?_) I.bare
 ·have e : b = it := by simpa using hb
  subst e;exact ⟨h1,hL,h2,h3⟩
 ·obtain ⟨o,es,ep,ho,r⟩:=hm;exact ⟨o,es,ep,k _ o (ycX hL) ho,r⟩
 ·refine (I.hok b u e).stay (fun c v hc q => k c v ?_ q) (fun _ q => q) fun _ _ q => q;rcases hc with z | z
  ·rw [z]; exact nit b u e
  ·exact nit c _ z
def Inv.tok (I:Inv X pins σ H s) (t:Nat):Inv X pins σ H { s with toks:=t }:=I.un (h':=s.heap) (t':=t) Un.refl I.hok
def Inv.kept {t':Nat} (I:Inv X pins σ H s) (k:∀ b u,s.heap.get? b=some u -> h'.get? b=some u):Inv X pins σ H { s with heap:=h',toks:=t' }:=I.un (Un.kept k) (I.hok.kept k)
def Inv.laid {a:Addr} {o:HO} {t':Nat} (I:Inv X pins σ H s) (k:∀ b u,s.heap.get? b=some u -> h'.get? b=some u) (hp:s.heap.objs.size <= a) (new:zaT X.prog X.w (upd H a o) h' a o) :
  Inv X pins σ (upd H a o) { s with heap:=h',toks:=t' }:=I.un (Un.laid k hp (I.hok.fresh hp)) (I.hok.laid k hp new)
def Inv.write {x e:Addr} {o:HO} {t':Nat} (I:Inv X pins σ H s) (mu:Mut (H x)) (he:e=x \/ H e=some (.own x)) (k:∀ b u,b ≠ e -> s.heap.get? b=some u -> h'.get? b=some u) (heo:∃ u,h'.get? e=some u)
  (new:zaT X.prog X.w (upd H x o) h' x o):Inv X pins σ (upd H x o) { s with heap:=h',toks:=t' }:=I.un (Un.write mu he k heo) (I.hok.write mu he k heo new)
def Inv.weak {σ':List (Option V)} (I:Inv X pins σ H s) (hl:σ'.length=σ.length) (w:∀ (i:Nat) v,σ'[i]?=some (some v) -> σ[i]?=some (some v)):Inv X pins σ' H s:=
 ⟨I.ok,I.os,I.bare,I.base,let ⟨m,hn,hl'⟩:=I.loc; ⟨m,hn,λ i x v e1 e2 e3=>hl' i x v e1 (w i v e2) e3⟩,I.cell,I.free,I.freeC,I.pin,I.hok,hl.trans I.len⟩
def Inv.pins_of {pins':List (Addr × Obj)} (I:Inv X pins σ H s) (h:∀ p ∈ pins',s.heap.get? p.1=some p.2 /\ H p.1=none /\ p.1 ≠ X.env.locals /\ p.1 ∉ X.fs /\ ∀ v,p.2.data ≠ .cell v):Inv X pins' σ H s:=
 ⟨I.ok,I.os,I.bare,I.base,I.loc,I.cell,I.free,I.freeC,λ p hp=>(yas.mp hp).elim (λ z=>I.pin p (yaA _ z)) (h p),I.hok,I.len⟩
def zjK {N:List Str} (hN:N.Nodup) {i j:Nat} {x:Str} (a:N[i]?=some x) (b:N[j]?=some x):i=j:=by
 obtain ⟨h1,e1⟩:=yaj.mp a;obtain ⟨h2,e2⟩:=yaj.mp b;exact (List.getElem_inj hN).mp (e1.trans e2.symm)
def zmi {M:Model} {A:Around} {E:Value -> Shared -> Prop} {i:Nat} {x:Str} {v:V} {u:Value} {Q:Unit -> Shared -> Prop} (I:Inv X pins σ H s) (hN:X.N.Nodup) (hi:X.N[i]?=some x) (hx:Loc X.env.scope x) (r:RelV v u)
  (h:∀ s',Inv X pins (σ.set i (some v)) H s' -> (∃ a,Heap.SameBut a s.heap s'.heap /\ (a=X.env.locals \/ X.env.cells.lookup x=some a)) -> Q () s') (hf:X.fn x=true \/ X.env.scope.names.lookup x=some .local:=by first | exact .inl rfl | exact .inr rfl | assumption):wpAny M A (storeName X.env x u) Q E s:=by
 obtain ⟨m,hn,hl⟩:=id I.loc;have hcls:(X.env.scope.kind == .class || (X.env.scope.kind == .module && X.env.locals != X.env.globals))=false:=by rw [I.ok.kind]; rfl
 have hiσ:i < σ.length:=by rw [I.len]; exact (yaj.mp hi).1
 have cne:=I.cne
 have tracked:∀ {a:Addr} {h':Heap},(∃ o,s.heap.get? a=some o /\ H a=none) -> Heap.SameBut a s.heap h' -> HOk X.prog X.w H h':=λ {a h'} ha hs b ob e=>by
  obtain ⟨_,_,hfree⟩:=ha;refine (I.hok b ob e).stay (λ c w' hc q=>(hs.2 c ?_).trans q) (λ _ q=>q) λ _ _ q=>q;rintro rfl;rcases hc with rfl | hc
  ·rw [hfree] at e; cases e
  ·rw [hfree] at hc; cases hc
 rcases hx with hk | hk
 ·refine wpAny_storeName_local hk hn (fun h' hn' hs => ?_) hcls;obtain ⟨oL, _, _, hoL, _⟩ := id hn;refine h _ ⟨I.ok, I.os, I.bare, ⟨fun b o e n hb hx => ?_, fun b o e n hb hx => ?_, I.base.free, fun b o e hx => ?_, I.base.tups, I.base.frzs, I.base.tbls⟩, ⟨_, hn', fun j y v' e1 e2 e3 => ?_⟩, fun y c e => ?_, I.free, I.freeC, fun p hp => ?_, tracked ⟨oL, hoL, I.free⟩ hs, by simpa using I.len⟩ ⟨_, hs, .inl rfl⟩
  ·exact (hs.2 b (yax (yak (yai e) I.ok.above))).trans (I.base.keep b o e n hb hx)
  ·obtain ⟨sl,e1⟩:=I.base.slot b o e n hb hx;exact ⟨sl,(hs.2 b (yax (yak (yai e) I.ok.above))).trans e1⟩
  ·obtain ⟨o',e1⟩:=I.base.there b o e hx;exact ⟨o',(hs.2 b (yax (yak (yai e) I.ok.above))).trans e1⟩
  ·by_cases hj : j = i
   ·subst hj;rw [hi] at e1; cases e1;rw [List.getElem?_set_self hiσ] at e2;cases e2;exact ⟨u,r,.inl ⟨hk,by simp⟩⟩
   ·rw [ycH (ycX hj)] at e2;obtain ⟨u', r', q⟩ := hl j y v' e1 e2 e3;refine ⟨u', r', ?_⟩;rcases q with ⟨k, e⟩ | ⟨k, c, e, z⟩
    ·refine .inl ⟨k,?_⟩;have:y ≠ x:=λ e=>hj (zjK hN e1 (e ▸ hi));simp [this,e]
    ·exact .inr ⟨k,c,e,z.sameBut hs (cne y c e)⟩
  ·obtain ⟨w',z⟩:=I.cell y c e;exact ⟨w',z.sameBut hs (cne y c e)⟩
  ·obtain ⟨e,n,ne,nf,d⟩:=I.pin p hp;exact ⟨(hs.2 p.1 ne).trans e,n,ne,nf,d⟩
 ·have hfn:X.fn x=true:=by
   rcases hf with z | z
   ·exact z
   ·rw [z] at hk; cases hk
  obtain ⟨c,hc⟩:=I.ok.has x (.inl hk);obtain ⟨w',z⟩:=I.cell x c hc;refine wpAny_storeName_cell I.ok.kind hk hc z (λ h' hc' hs=>?_);obtain ⟨oc,hoc,hocd⟩:=id z;refine h { s with heap:=h' } ⟨I.ok,I.os,I.bare,⟨λ b o e n hb hx=>?_,λ b o e n hb hx=>?_,I.base.free,λ b o e hx=>?_,I.base.tups,I.base.frzs,I.base.tbls⟩,⟨m,hn.sameBut hs (ycX (cne x c hc)),λ j y v' e1 e2 e3=>?_⟩,λ y c' e=>?_,I.free,I.freeC,λ p hp=>?_,tracked ⟨oc,hoc,I.freeC x c hc⟩ hs,by simpa using I.len⟩ ⟨c,hs,.inr hc⟩
  ·exact (hs.2 b (yax (yak (yai e) (I.ok.cab x c hfn hc)))).trans (I.base.keep b o e n hb hx)
  ·obtain ⟨sl,e1⟩:=I.base.slot b o e n hb hx;exact ⟨sl,(hs.2 b (yax (yak (yai e) (I.ok.cab x c hfn hc)))).trans e1⟩
  ·obtain ⟨o',e1⟩:=I.base.there b o e hx;exact ⟨o',(hs.2 b (yax (yak (yai e) (I.ok.cab x c hfn hc)))).trans e1⟩
  ·by_cases hj : j = i
   ·subst hj;rw [hi] at e1; cases e1;rw [List.getElem?_set_self hiσ] at e2;cases e2;exact ⟨u,r,.inr ⟨.inl hk,c,hc,hc'⟩⟩
   ·rw [ycH (ycX hj)] at e2;obtain ⟨u', r', q⟩ := hl j y v' e1 e2 e3;refine ⟨u', r', ?_⟩;rcases q with q | ⟨k, c', e, z'⟩
    ·exact .inl q
    ·refine .inr ⟨k,c',e,z'.sameBut hs ?_⟩;rintro rfl;exact hj (zjK hN e1 (I.ok.inj _ _ _ e hc ▸ hi))
  ·by_cases hcc : c' = c
   ·subst hcc; exact ⟨_,hc'⟩
   ·obtain ⟨w2,z2⟩:=I.cell y c' e;exact ⟨w2,z2.sameBut hs hcc⟩
  ·obtain ⟨e,n,ne,nf,d⟩:=I.pin p hp;refine ⟨(hs.2 p.1 ?_).trans e,n,ne,nf,d⟩;intro q;rw [q,hoc] at e;have q':oc=p.2:=Option.some.inj e;exact d w' (by rw [<- q']; exact hocd)
def zd3 {M:Model} {A:Around} {E:Value -> Shared -> Prop} {i:Nat} {x:Str} {v:V} {u:Value} {Q:Unit -> Shared -> Prop} (I:Inv X pins σ H s) (hN:X.N.Nodup) (hi:X.N[i]?=some x) (hx:Loc X.env.scope x) (r:RelV v u)
  (h:∀ s',Inv X pins (σ.set i (some v)) H s' -> Q () s') (hf:X.fn x=true \/ X.env.scope.names.lookup x=some .local:=by first | exact .inl rfl | exact .inr rfl | assumption):wpAny M A (storeName X.env x u) Q E s:=
 zmi I hN hi hx r (λ s' I' _=>h s' I') hf
end
noncomputable abbrev XK:=Value -> Option Addr -> Hp -> Prop
noncomputable abbrev St:=List (Option V)
noncomputable abbrev VK:=V -> Hp -> Prop
noncomputable abbrev TE:=St -> Hp -> VK -> Prop
noncomputable abbrev TT:=St -> Hp -> (Bool -> Hp -> Prop) -> Prop
noncomputable abbrev TA:=St -> Hp -> (List V -> Hp -> Prop) -> Prop
structure Ends where
 nx:St -> Hp -> Prop
 rt:VK
 bk:St -> Hp -> Prop:=λ _ _=>False
 ct:St -> Hp -> Prop:=λ _ _=>False
noncomputable abbrev TS:=Ends -> St -> Hp -> Prop
noncomputable def EP (X:Cx) (pins:List (Addr × Obj)) (σ:St) (Q:VK) (u:Value) (s':Shared):Prop:=∃ v H',Inv X pins σ H' s' /\ RelV v u /\ Q v H'
noncomputable def TP (X:Cx) (pins:List (Addr × Obj)) (σ:St) (Q:Bool -> Hp -> Prop) (b:Bool) (s':Shared):Prop:=∃ H',Inv X pins σ H' s' /\ Q b H'
noncomputable def AP (X:Cx) (pins:List (Addr × Obj)) (σ:St) (Q:List V -> Hp -> Prop) (us:List Value) (s':Shared):Prop:=∃ vs H',Inv X pins σ H' s' /\ Vals vs us /\ Q vs H'
noncomputable def SP (X:Cx) (pins:List (Addr × Obj)) (D:Ends) (f:Flow) (s':Shared):Prop:=
 match f with
 | .next=>∃ σ' H',Inv X pins σ' H' s' /\ D.nx σ' H'
 | .brk=>∃ σ' H',Inv X pins σ' H' s' /\ D.bk σ' H'
 | .cont=>∃ σ' H',Inv X pins σ' H' s' /\ D.ct σ' H'
 | .ret u=>∃ v σ' H',Inv X pins σ' H' s' /\ RelV v u /\ D.rt v H'
noncomputable def PE (X:Cx) (e:Expr) (t:TE):Prop:=
 ∀ (pins:List (Addr × Obj)) (s:Shared) (σ:St) (H:Hp) (Q:VK),Inv X pins σ H s -> t σ H Q -> wpAny (model X.prog X.w) X.A (eval e X.env) (EP X pins σ Q) X.xe s
noncomputable def PT (X:Cx) (e:Expr) (t:TT):Prop:=
 ∀ (pins:List (Addr × Obj)) (s:Shared) (σ:St) (H:Hp) (Q:Bool -> Hp -> Prop),Inv X pins σ H s -> t σ H Q -> wpAny (model X.prog X.w) X.A (isTrue e X.env (eval e X.env)) (TP X pins σ Q) X.xe s
noncomputable def PW (X:Cx) (e:Expr) (t:TT):Prop:=
 ∀ (whole:Sem Value) (pins:List (Addr × Obj)) (s:Shared) (σ:St) (H:Hp) (Q:Bool -> Hp -> Prop),Inv X pins σ H s -> t σ H Q -> wpAny (model X.prog X.w) X.A (isTrue e X.env whole) (TP X pins σ Q) X.xe s
def PW.pt {X:Cx} {e:Expr} {t:TT} (h:PW X e t):PT X e t:=h _
noncomputable def PA (X:Cx) (es:List Expr) (t:TA):Prop:=
 ∀ (pos:Pos) (pins:List (Addr × Obj)) (s:Shared) (σ:St) (H:Hp) (Q:List V -> Hp -> Prop),Inv X pins σ H s -> t σ H Q -> wpAny (model X.prog X.w) X.A (spliced (backTo pos (starEach es X.env))) (AP X pins σ Q) X.xe s
noncomputable def PS (X:Cx) (st:Stmt) (t:TS):Prop:=
 ∀ (pins:List (Addr × Obj)) (s:Shared) (σ:St) (H:Hp) (D:Ends),Inv X pins σ H s -> t D σ H -> wpAny (model X.prog X.w) X.A (exec st X.env) (SP X pins D) X.xe s
noncomputable def PSs (X:Cx) (st:List Stmt) (t:TS):Prop:=
 ∀ (pins:List (Addr × Obj)) (s:Shared) (σ:St) (H:Hp) (D:Ends),Inv X pins σ H s -> t D σ H -> wpAny (model X.prog X.w) X.A (execs st X.env) (SP X pins D) X.xe s
def thn {α:Type} {t:Sem α} {Q Q':α -> Shared -> Prop} {M:Model} {A:Around} {E:Value -> Shared -> Prop} {s:Shared} (h:wpAny M A t Q E s) (hQ:∀ a s,Q a s -> Q' a s):wpAny M A t Q' E s:=wpAny_mono h hQ λ _ _ x=>x
section
variable {X:Cx}
noncomputable def tVar (i:Nat):TE:=λ σ H Q=>∃ v,σ[i]?=some (some v) /\ Q v H
noncomputable def tC (v:V):TE:=λ _ H Q=>Q v H
def zpG {i:Nat} {x:Str} {pos:Pos} (hN:X.N[i]?=some x) (hv:Vis X.env.scope x) (hd:(x == ("__debug__":Str))=false:=by decide) (hcd:(x == ("__classdict__":Str))=false:=by decide):PE X (.Name x pos) (tVar i):=by
 intro pins s σ H Q I h;obtain ⟨v,e,h⟩:=h;obtain ⟨m,hn,hl⟩:=I.loc;obtain ⟨u,r,l⟩:=hl i x v hN e hv;have fin:EP X pins σ Q u s:=⟨v,H,I,r,h⟩
 rcases l with ⟨hk,hm⟩ | ⟨hk,c,hc,hcell⟩
 ·exact wpAny_Name (wpAny_loadName_local I.ok.kind hk hn hm fin) hd
 ·rcases hk with hk | hk
  ·exact wpAny_Name (wpAny_loadName_cell I.ok.kind hk hc hcell fin) hd
  ·exact wpAny_Name (wpAny_loadName_free I.ok.kind hk hc hcell fin hcd) hd
def zae {i j pos}:PE X (.Constant (.int i) j pos) (tC (.int i)):=λ _ _ _ H _ I h=>wpAny_Constant_int ⟨.int i,H,I.tok _,⟨_,rfl⟩,h⟩
def zfA {b j pos}:PE X (.Constant (.bool b) j pos) (tC (.bl b)):=λ _ _ _ H _ I h=>Constant_bool ⟨.bl b,H,I,rfl,h⟩
def zbS {j pos}:PE X (.Constant .none j pos) (tC .non):=λ _ _ _ H _ I h=>Constant_none ⟨.non,H,I,rfl,h⟩
def zaV {x j pos}:PE X (.Constant (.str x) j pos) (tC (.str x)):=λ _ _ _ H _ I h=>Calls.Constant_str ⟨.str x,H,I.tok _,⟨_,rfl⟩,h⟩
noncomputable def Gl (X:Cx) (x:Str):Prop:=X.env.kindOf x=some .globalImplicit
def zmk {E:Value -> Shared -> Prop} {pins:List (Addr × Obj)} {s:Shared} {σ:St} {H:Hp} {x:Str} {u:Value} {pos:Pos} {Q:Value -> Shared -> Prop} (I:Inv X pins σ H s) (hg:Gl X x) (hm:X.mg x=some u) (h:Q u s)
  (hd:(x == ("__debug__":Str))=false:=by decide):wpAny (model X.prog X.w) X.A (eval (.Name x pos) X.env) Q E s:=
 Calls.Name_function_global I.ok.kind hg (Calls.loadGlobal_global (by rw [I.ok.glob]; exact I.mod.glob.keeps I.bk) hm h) hd
def zdv {E:Value -> Shared -> Prop} {pins:List (Addr × Obj)} {s:Shared} {σ:St} {H:Hp} {x:Str} {u:Value} {pos:Pos} {Q:Value -> Shared -> Prop} (I:Inv X pins σ H s) (hg:Gl X x) (hm:X.mg x=none) (hv:bootBuiltins x=some u) (h:Q u s)
  (hn:x ≠ "__name__":=by decide) (hd:(x == ("__debug__":Str))=false:=by decide):wpAny (model X.prog X.w) X.A (eval (.Name x pos) X.env) Q E s:=by
 obtain ⟨mb,h1,h2⟩:=I.mod.blt;exact Calls.Name_function_global I.ok.kind hg (Calls.loadGlobal_builtin (by rw [I.ok.glob]; exact I.mod.glob.keeps I.bk) hm (by rw [I.ok.blt]; exact h1.keeps I.bk) ((h2 x hn).trans hv) h) hd
def zmc {x:Str} {v:V} {u:Value} {pos:Pos} (hg:Gl X x) (hm:X.mg x=some u) (r:RelV v u) (hd:(x == ("__debug__":Str))=false:=by decide):PE X (.Name x pos) (tC v):=
 λ _ _ _ H _ I h=>zmk I hg hm ⟨v,H,I,r,h⟩ hd
def ziC {x:Str} {v:V} {u:Value} {pos:Pos} (hg:Gl X x) (hm:X.mg x=none) (hv:bootBuiltins x=some u) (r:RelV v u) (hn:x ≠ "__name__":=by decide) (hd:(x == ("__debug__":Str))=false:=by decide):PE X (.Name x pos) (tC v):=
 λ _ _ _ H _ I h=>zdv I hg hm hv ⟨v,H,I,r,h⟩ hn hd
variable {a b:Expr} {ta tb:TE} {pos:Pos}
noncomputable def PC (X:Cx) (op:CmpOp) (a b:Expr) (t:TE):Prop:=
 ∀ (pins:List (Addr × Obj)) (s:Shared) (σ:St) (H:Hp) (Q:VK),Inv X pins σ H s -> t σ H Q ->
  wpAny (model X.prog X.w) X.A (eval a X.env) (λ v s₁=>wpAny (model X.prog X.w) X.A (eval b X.env) (λ u s₂=>wpAny (model X.prog X.w) X.A (compareOp op v u) (EP X pins σ Q) X.xe s₂) X.xe s₁) X.xe s
noncomputable def tB (t:TE):TT:=λ σ H Q=>t σ H λ x H1=>∃ c,x=.bl c /\ Q c H1
def zmh {op:CmpOp} {t:TE} (h:PC X op a b t) (h1:behindInMarks op b=false:=by first | exact nobehind _ (3:) (3:) | rfl):PT X (.Compare a [op] [b] pos) (tB t):=by
 intro pins s σ H Q I hw;refine wpAny_isTrue_Compare1 (thn (h pins s σ H _ I hw) λ v s1 h1=>thn h1 λ u s2 h2=>thn h2 λ c s3 ⟨x,H1,I1,r1,q1⟩=>?_) h1;obtain ⟨d,rfl,q⟩:=q1;cases r1;exact wpAny_truthy_bool ⟨H1,I1,q⟩
def zdw {e:Expr} {t:TE} (h:PE X e t) (he:∀ whole,isTrue e X.env whole=(do let v <- whole; standAt e.pos; holding [v] (truthy v)):=by intro _; rfl):PT X e (tB t):=by
 intro pins s σ H Q I hw;refine isTrue_plain (thn (h pins s σ H _ I hw) λ v s1 ⟨x,H1,I1,r1,q1⟩=>?_) (he _);obtain ⟨d,rfl,q⟩:=q1;cases r1;exact wpAny_truthy_bool ⟨H1,I1,q⟩
variable {tA tB':TT} {rest:List Expr}
noncomputable def tAnd (t u:TT):TT:=λ σ H Q=>t σ H λ c H1=>if c=true then u σ H1 Q else Q false H1
noncomputable def tOr (t u:TT):TT:=λ σ H Q=>t σ H λ c H1=>if c=true then Q true H1 else u σ H1 Q
noncomputable def tNot (t:TT):TT:=λ σ H Q=>t σ H λ c H1=>Q (!c) H1
def zcz (ha:PT X a tA):PW X (.BoolOp .And [a] pos) tA:=by
 intro wh pins s σ H Q I h;refine isTrue_and (thn (ha pins s σ H Q I h) λ c s1 e=>?_);cases c with
 | true=>exact isTrue_and_nil e
 | false=>exact e
def zff (ha:PT X a tA):PW X (.BoolOp .Or [a] pos) tA:=by
 intro wh pins s σ H Q I h;refine isTrue_or (thn (ha pins s σ H Q I h) λ c s1 e=>?_);cases c with
 | false=>exact isTrue_or_nil e
 | true=>exact e
def zdt (ha:PT X a tA) (hb:PW X (.BoolOp .And (b :: rest) pos) tB'):PW X (.BoolOp .And (a :: b :: rest) pos) (tAnd tA tB'):=by
 intro wh pins s σ H Q I h;refine isTrue_and (thn (ha pins s σ H _ I h) λ c s1 ⟨H1,I1,q1⟩=>?_);cases c with
 | true=>exact hb wh pins s1 σ H1 Q I1 q1
 | false=>exact ⟨H1,I1,q1⟩
def zhn (ha:PT X a tA) (hb:PW X (.BoolOp .Or (b :: rest) pos) tB'):PW X (.BoolOp .Or (a :: b :: rest) pos) (tOr tA tB'):=by
 intro wh pins s σ H Q I h;refine isTrue_or (thn (ha pins s σ H _ I h) λ c s1 ⟨H1,I1,q1⟩=>?_);cases c with
 | true=>exact ⟨H1,I1,q1⟩
 | false=>exact hb wh pins s1 σ H1 Q I1 q1
def zgi (ha:PT X a tA):PT X (.UnaryOp .Not a pos) (tNot tA):=by
 intro pins s σ H Q I h;exact isTrue_not (ha pins s σ H (λ c H1=>Q (!c) H1) I h)
noncomputable def zqU (ta tb:TE):TE:=λ σ H Q=>ta σ H λ x H1=>∃ c,x=.bl c /\ if c=true then tb σ H1 Q else Q (.bl false) H1
def zjP {op} {t:TE} (h:PE X a t):PE X (.BoolOp op [a] pos) t:=λ pins s σ H Q I hw=>BoolOp_one (h pins s σ H Q I hw)
def zha (ha:PE X a ta) (hb:PE X (.BoolOp .And (b :: rest) pos) tb):PE X (.BoolOp .And (a :: b :: rest) pos) (zqU ta tb):=by
 intro pins s σ H Q I h;refine BoolOp_and (thn (ha pins s σ H _ I h) λ v s1 ⟨x,H1,I1,r1,q1⟩=>?_);obtain ⟨c,rfl,q1⟩:=q1;cases r1;refine wpAny_truthy_bool ?_;cases c with
 | true=>exact hb pins s1 σ H1 Q I1 q1
 | false=>exact ⟨.bl false,H1,I1,rfl,q1⟩
noncomputable def tIf (t:TT) (ta tb:TE):TE:=λ σ H Q=>t σ H λ c H1=>if c=true then ta σ H1 Q else tb σ H1 Q
def zbU {c:Expr} (hc:PT X c tA) (ha:PE X a ta) (hb:PE X b tb):PE X (.IfExp c a b pos) (tIf tA ta tb):=by
 intro pins s σ H Q I h;refine wpAny_IfExp (thn (hc pins s σ H _ I h) λ d s1 ⟨H1,I1,q1⟩=>?_);cases d with
 | true=>exact ha pins s1 σ H1 Q I1 q1
 | false=>exact hb pins s1 σ H1 Q I1 q1
end
noncomputable def SqL (K:PySem.W.Frag) (H:Hp) (a:Addr) (xs:List V):Prop:=
 Rd H a (.lst xs) \/
  ∃ (o:Obj) (its:Array Value) (n:Nat),K.lookup a=some o /\ o.cls=.type "list" /\ o.dict=none /\ o.data=.seq its n /\ its.size <= sizeLine /\ Vals xs its.toList
noncomputable def SqT (K:PySem.W.Frag) (H:Hp) (a:Addr) (xs:List V):Prop:=
 Rd H a (.tup xs) \/
  ∃ (o:Obj) (its:Array Value) (n:Nat),K.lookup a=some o /\ o.cls=.type "tuple" /\ o.data=.seq its n /\ its.size <= sizeLine /\ Vals xs its.toList
noncomputable def absV:Value -> Option V
 | .none=>some .non
 | .bool b=>some (.bl b)
 | .int i _=>some (.int i)
 | .str x _=>some (.str x)
 | .bytes b _=>some (.byt b)
 | .float b _=>some (.flt b)
 | .ref a=>some (.ref a)
 | .type n=>some (.ty n)
 | _=>none
def RelV.abs {x:V} {u:Value} (r:RelV x u):absV u=some x:=by
 cases x with
 | non=>cases r; rfl
 | bl _=>cases r; rfl
 | int _=>obtain ⟨t,rfl⟩:=r; rfl
 | str _=>obtain ⟨t,rfl⟩:=r; rfl
 | byt _=>obtain ⟨t,rfl⟩:=r; rfl
 | flt _=>obtain ⟨t,rfl⟩:=r; rfl
 | ref _=>cases r; rfl
 | ty _=>cases r; rfl
def RelV.inj {x y:V} {u:Value} (r:RelV x u) (q:RelV y u):x=y:=Option.some.inj (r.abs.symm.trans q.abs)
def Vals.inj:∀ {xs ys:List V} {us:List Value},Vals xs us -> Vals ys us -> xs=ys
 | _,_,_,.nil,.nil=>rfl
 | _,_,_,.cons r t,.cons r' t'=>by rw [r.inj r',Vals.inj t t']
section
variable {X:Cx} {pins:List (Addr × Obj)} {σ:St} {H:Hp} {s:Shared} {a:Addr} {xs ys:List V}
def SqL.of {K:PySem.W.Frag} (h:H a=some (.lst xs)):SqL K H a xs:=.inl (.inl h)
def SqT.of {K:PySem.W.Frag} (h:H a=some (.tup xs)):SqT K H a xs:=.inl (.inl h)
def Inv.list (I:Inv X pins σ H s) (h:SqL X.K H a xs):∃ its:List Value,Vals xs its /\ PlainL s.heap a its.toArray /\ xs.length <= sizeLine:=by
 rcases h with h | ⟨o,its,n,hk,hc,hd,hs,hz,r⟩
 ·obtain ⟨z,its,n,r,e⟩:=h.ok I.hok;exact ⟨its,r,⟨_,n,e,rfl,rfl,rfl⟩,z⟩
 ·refine ⟨its.toList,r,⟨o,n,I.kIn a o hk,hc,hd,by simpa using hs⟩,?_⟩;have e:=r.length;simp only [yaM] at e;omega
def Inv.tuple (I:Inv X pins σ H s) (h:SqT X.K H a xs):∃ its:List Value,Vals xs its /\ IsTup s.heap a its.toArray /\ xs.length <= sizeLine:=by
 rcases h with h | ⟨o,its,n,hk,hc,hs,hz,r⟩
 ·obtain ⟨z,its,r,p⟩:=h.ok I.hok;exact ⟨its,r,p.tup,z⟩
 ·refine ⟨its.toList,r,⟨o,I.kIn a o hk,hc,n,by simpa using hs⟩,?_⟩;have e:=r.length;simp only [yaM] at e;omega
def Inv.list_inj (I:Inv X pins σ H s) (h:SqL X.K H a xs) (h':SqL X.K H a ys):xs=ys:=by
 obtain ⟨its,r,⟨o,n,e,_,_,d⟩,_⟩:=I.list h;obtain ⟨its',r',⟨o',n',e',_,_,d'⟩,_⟩:=I.list h';rw [e] at e'; cases e';rw [d] at d';injection d' with d1 _;have:its=its':=by simpa using congrArg Array.toList d1
 subst this;exact r.inj r'
def Inv.tuple_inj (I:Inv X pins σ H s) (h:SqT X.K H a xs) (h':SqT X.K H a ys):xs=ys:=by
 obtain ⟨its,r,⟨o,e,_,n,d⟩,_⟩:=I.tuple h;obtain ⟨its',r',⟨o',e',_,n',d'⟩,_⟩:=I.tuple h';rw [e] at e'; cases e';rw [d] at d';injection d' with d1 _;have:its=its':=by simpa using congrArg Array.toList d1
 subst this;exact r.inj r'
end
noncomputable abbrev Cx.wish (X:Cx) (E:Value -> Shared -> Prop):Cx:={ X with xe:=E }
noncomputable abbrev Cx.nox (X:Cx):Cx:=X.wish λ _ _=>False
def Cx.Ok.wish {X:Cx} (ok:X.Ok) (E:Value -> Shared -> Prop):(X.wish E).Ok:=
 ⟨ok.mod,ok.kind,ok.glob,ok.blt,ok.above,ok.inj,ok.has,ok.cab,ok.hd,ok.frames,ok.stk,ok.exf,ok.bs,ok.bsz,ok.noex,ok.exfs,ok.funs,ok.frf⟩
def Cx.Ok.unwish {X:Cx} {E:Value -> Shared -> Prop} (ok:(X.wish E).Ok):X.Ok:=
 ⟨ok.mod,ok.kind,ok.glob,ok.blt,ok.above,ok.inj,ok.has,ok.cab,ok.hd,ok.frames,ok.stk,ok.exf,ok.bs,ok.bsz,ok.noex,ok.exfs,ok.funs,ok.frf⟩
section
variable {X:Cx} {pins:List (Addr × Obj)} {σ:St} {H:Hp} {s:Shared} {E:Value -> Shared -> Prop}
def Inv.wish (I:Inv X pins σ H s) (E:Value -> Shared -> Prop):Inv (X.wish E) pins σ H s:=⟨I.ok.wish E,I.os,I.bare,I.base,I.loc,I.cell,I.free,I.freeC,I.pin,I.hok,I.len⟩
def Inv.unwish (I:Inv (X.wish E) pins σ H s):Inv X pins σ H s:=⟨I.ok.unwish,I.os,I.bare,I.base,I.loc,I.cell,I.free,I.freeC,I.pin,I.hok,I.len⟩
def SP.unwish {D:Ends} {f:Flow} {s':Shared} (h:SP (X.wish E) pins D f s'):SP X pins D f s':=by
 cases f with
 | next=>obtain ⟨σ',H',I,q⟩:=h; exact ⟨σ',H',I.unwish,q⟩
 | brk=>obtain ⟨σ',H',I,q⟩:=h; exact ⟨σ',H',I.unwish,q⟩
 | cont=>obtain ⟨σ',H',I,q⟩:=h; exact ⟨σ',H',I.unwish,q⟩
 | ret u=>obtain ⟨v,σ',H',I,r,q⟩:=h; exact ⟨v,σ',H',I.unwish,r,q⟩
def PSs.nox {st:List Stmt} {t:TS} (h:PSs X.nox st t):PSs X st t:=λ pins s σ H D I hw=>
 wpAny_mono (h pins s σ H D (I.wish _) hw) (λ _ _ q=>q.unwish) λ _ _ z=>False.elim z
end
section
variable {X:Cx} {st:Stmt} {rest:List Stmt} {t u:TS} {e:Expr} {te:TE} {pos:Pos}
noncomputable def zpL:TS:=λ D σ H=>D.nx σ H
noncomputable def tSeq (t u:TS):TS:=λ D σ H=>t { D with nx:=u D } σ H
def zap:PSs X [] zpL:=λ _ _ σ H _ I h=>wpAny_execs_nil ⟨σ,H,I,h⟩
def zac (h1:PS X st t) (h2:PSs X rest u):PSs X (st :: rest) (tSeq t u):=by
 intro pins s σ H D I h;refine wpAny_execs_cons (thn (h1 pins s σ H { D with nx:=u D } I h) λ f s1 q=>?_);cases f with
 | next=>
  obtain ⟨σ',H',I',q⟩:=q;exact h2 pins s1 σ' H' D I' q
 | ret v=>exact q
 | brk=>exact q
 | cont=>exact q
def zaf (h1:PS X st t):PSs X [st] t:=by
 intro pins s σ H D I h;refine wpAny_execs_cons (thn (h1 pins s σ H D I h) λ f s1 q=>?_);cases f with
 | next=>exact wpAny_execs_nil q
 | ret v=>exact q
 | brk=>exact q
 | cont=>exact q
def Inv.quiet {pins:List (Addr × Obj)} {σ:St} {H:Hp} {s:Shared} (I:Inv X pins σ H s):interactive X.env=false:=by simp [interactive,I.ok.kind]
noncomputable def zpS (te:TE):TS:=λ D σ H=>te σ H λ _ H1=>D.nx σ H1
def zbZ (he:PE X e te) (hs:swapsWith e none pos.line X.env=pure false:=by rfl):PS X (.Expr e pos) (zpS te):=by
 intro pins s σ H D I h;exact wpAny_Expr_any (thn (he pins s σ H _ I h) λ v s1 ⟨x,H1,I1,r1,q1⟩=>⟨σ,H1,I1,q1⟩) I.quiet hs
noncomputable def tRet (te:TE):TS:=λ D σ H=>te σ H D.rt
def zak (he:PE X e te):PS X (.Return (some e) pos) (tRet te):=by
 intro pins s σ H D I h;exact wpAny_Return_some (thn (he pins s σ H _ I h) λ v s1 ⟨x,H1,I1,r1,q1⟩=>⟨x,σ,H1,I1,r1,q1⟩)
noncomputable def zrA:TS:=λ D _ H=>D.rt .non H
def zo1:PS X (.Return none pos) zrA:=λ _ _ σ H _ I h=>wpAny_Return_none ⟨.non,σ,H,I,rfl,h⟩
noncomputable def tIfS (c:TT) (t u:TS):TS:=λ D σ H=>c σ H λ b H1=>if b=true then t D σ H1 else u D σ H1
def zaE {c:Expr} {a b:List Stmt} {tc:TT} (hc:PT X c tc) (ha:PSs X a t) (hb:PSs X b u):PS X (.If c a b pos) (tIfS tc t u):=by
 intro pins s σ H D I h;refine wpAny_If (thn (hc pins s σ H _ I h) λ d s1 ⟨H1,I1,q1⟩=>?_);cases d with
 | true=>exact ha pins s1 σ H1 D I1 q1
 | false=>exact hb pins s1 σ H1 D I1 q1
end
noncomputable abbrev TG:=V -> St -> Hp -> (St -> Hp -> Prop) -> Prop
noncomputable abbrev TGs:=List V -> St -> Hp -> (St -> Hp -> Prop) -> Prop
noncomputable def PG (X:Cx) (target:Expr) (t:TG):Prop:=
 ∀ (pins:List (Addr × Obj)) (s:Shared) (σ:St) (H:Hp) (v:V) (u:Value) (Q:St -> Hp -> Prop),Inv X pins σ H s -> RelV v u -> t v σ H Q ->
  wpAny (model X.prog X.w) X.A (assign target X.env u) (λ _ s'=>∃ σ' H',Inv X pins σ' H' s' /\ Q σ' H') X.xe s
noncomputable def PGs (X:Cx) (ts:List Expr) (t:TGs):Prop:=
 ∀ (pins:List (Addr × Obj)) (s:Shared) (σ:St) (H:Hp) (vs:List V) (us:List Value) (Q:St -> Hp -> Prop),Inv X pins σ H s -> Vals vs us -> t vs σ H Q ->
  wpAny (model X.prog X.w) X.A (assignInOrder ((assignEach ts X.env).map (·.2)) us) (λ _ s'=>∃ σ' H',Inv X pins σ' H' s' /\ Q σ' H') X.xe s
noncomputable abbrev TSet:=V -> V -> V -> Hp -> (Hp -> Prop) -> Prop
noncomputable def PSet (X:Cx) (t:TSet):Prop:=
 ∀ (pins:List (Addr × Obj)) (s:Shared) (σ:St) (H:Hp) (o i v:V) (ov iv u:Value) (Q:Hp -> Prop),Inv X pins σ H s -> RelV o ov -> RelV i iv -> RelV v u -> t o i v H Q ->
  wpAny (model X.prog X.w) X.A (setItem ov iv u) (λ _ s'=>∃ H',Inv X pins σ H' s' /\ Q H') X.xe s
section
variable {X:Cx} {pos:Pos}
noncomputable def zo7 (i:Nat):TG:=λ v σ H Q=>Q (σ.set i (some v)) H
def zas {i:Nat} {x:Str} (hN:X.N.Nodup) (hi:X.N[i]?=some x) (hx:Loc X.env.scope x) (hf:X.fn x=true \/ X.env.scope.names.lookup x=some .local:=by first | exact .inl rfl | exact .inr rfl | assumption):PG X (.Name x pos) (zo7 i):=by
 intro pins s σ H v u Q I r h;exact wpAny_assign_Name (zd3 I hN hi hx r (λ s' I'=>⟨_,H,I',h⟩) hf)
noncomputable def gNil:TGs:=λ vs σ H Q=>vs=[] /\ Q σ H
noncomputable def zpU (t:TG) (u:TGs):TGs:=λ vs σ H Q=>∃ v r,vs=v :: r /\ t v σ H λ σ' H'=>u r σ' H' Q
def zcS:PGs X [] gNil:=by
 intro pins s σ H vs us Q I r h;obtain ⟨e,h⟩:=h;subst e;cases r;exact assignInOrder_nil ⟨σ,H,I,h⟩
def zaM {e:Expr} {es:List Expr} {t:TG} {u:TGs} (h1:PG X e t) (h2:PGs X es u)
  (hs:(assignEach (e :: es) X.env).map (·.2)=assign e X.env :: (assignEach es X.env).map (·.2):=by rfl):PGs X (e :: es) (zpU t u):=by
 intro pins s σ H vs us Q I r h;obtain ⟨v,vr,e1,h⟩:=h;subst e1;cases r with
 | cons r rr=>
  rw [hs];refine assignInOrder_cons (thn (h1 pins s σ H _ _ _ I r h) λ _ s1 ⟨σ1,H1,I1,q1⟩=>?_);exact h2 pins s1 σ1 H1 _ _ Q I1 rr q1
noncomputable def gTup (K:PySem.W.Frag) (n:Nat) (t:TGs):TG:=λ v σ H Q=>∃ a xs,v=.ref a /\ SqT K H a xs /\ xs.length=n /\ t xs σ H Q
def zqW {es:List Expr} {k:Nat} {t:TGs} {n:Nat} (hc:X.calm=true) (h:PGs X es t)
  (hn:(assignEach es X.env).length=n:=by rfl) (hst:(assignEach es X.env).findIdx? (·.1)=none:=by rfl):PG X (.Tuple es k pos) (gTup X.K n t):=by
 intro pins s σ H v u Q I r hw;obtain ⟨a,xs,e1,hq,hl,hw⟩:=hw;subst e1;cases r;obtain ⟨its,rv,ht,hz⟩:=I.tuple hq;refine assign_Tuple_tuple (I.ok.hd hc) ht (by simp [hn,<- hl,rv.length]) hst λ h' hx=>?_;have I1:Inv X pins σ H { s with heap:=h' }:=I.kept (t':=s.toks) λ b o e=>hx b o (yax (yai e)) e;exact h pins _ σ H xs _ Q I1 (by simpa using rv) hw
noncomputable def gSub (to ti:TE) (t:TSet):TG:=λ v σ H Q=>to σ H λ o H1=>ti σ H1 λ i H2=>t o i v H2 λ H3=>Q σ H3
def zhL {o i:Expr} {to ti:TE} {t:TSet} (ho:PE X o to) (hi:PE X i ti) (hs:PSet X t)
  (ha : ∀ v, assign (.Subscript o i pos) X.env v = (do
   let ov <- holding [v] (eval o X.env)
   let iv <- holding [v,ov] (eval i X.env)
   standAt pos
   holding [v,ov,iv] (setItem ov iv v)
   release [v,ov,iv] []):=by intro _; rfl):PG X (.Subscript o i pos) (gSub to ti t):=by
 intro pins s σ H v u Q I r h;rw [ha];refine wpAny_bind (wpAny_holding (thn (ho pins s σ H _ I h) λ ov s1 ⟨x,H1,I1,r1,q1⟩=>?_));refine wpAny_bind (wpAny_holding (thn (hi pins s1 σ H1 _ I1 q1) λ iv s2 ⟨y,H2,I2,r2,q2⟩=>?_));refine wpAny_bind (wpAny_standAt (wpAny_bind (wpAny_holding (thn (hs pins s2 σ H2 x y v ov iv u _ I2 r1 r2 r q2) λ _ s3 ⟨H3,I3,q3⟩=>?_))));exact wpAny_release ⟨σ,H3,I3,q3⟩
noncomputable def tAsg (te:TE) (g:TG):TS:=λ D σ H=>te σ H λ x H1=>g x σ H1 D.nx
def zh1 {tg e:Expr} {te:TE} {g:TG} (he:PE X e te) (hg:PG X tg g) (hs:swapsWithSole [tg] e pos.line X.env=pure false:=by rfl) (hw:swappedStores [tg] e X.env=pure none:=by rfl)
  (h1:(assignEach [tg] X.env).map (·.2)=[assign tg X.env]:=by rfl):PS X (.Assign [tg] e pos) (tAsg te g):=by
 intro pins s σ H D I h;refine wpAny_Assign_stores (thn (he pins s σ H _ I h) λ v s1 ⟨x,H1,I1,r1,q1⟩=>?_) hs hw;rw [h1];exact thn (hg pins s1 σ H1 x v _ I1 r1 q1) λ _ s2 q=>q
def zat {i:Nat} {x:Str} {e:Expr} {te:TE} {pos':Pos} (hN:X.N.Nodup) (hi:X.N[i]?=some x) (hx:Loc X.env.scope x) (he:PE X e te) (hs:swapsWith e (some (.Name x pos')) pos.line X.env=pure false:=by rfl) (hf:X.fn x=true \/ X.env.scope.names.lookup x=some .local:=by first | exact .inl rfl | exact .inr rfl | assumption) :
  PS X (.Assign [.Name x pos'] e pos) (tAsg te (zo7 i)):=by
 intro pins s σ H D I h;refine wpAny_Assign_Name (thn (he pins s σ H _ I h) λ v s1 ⟨y,H1,I1,r1,q1⟩=>?_) hs;exact zd3 I1 hN hi hx r1 (λ s2 I2=>⟨_,H1,I2,q1⟩) hf
noncomputable def tPar (i j:Nat) (ta:TA):TS:=λ D σ H=>ta σ H λ vs H1=>∃ v w,vs=[v,w] /\ D.nx ((σ.set i (some v)).set j (some w)) H1
def zqF {i j:Nat} {x y:Str} {a b:Expr} {ta:TA} {px py pt:Pos} {kt k2 pt2} (hc:X.calm=true) (hN:X.N.Nodup) (hi:X.N[i]?=some x) (hj:X.N[j]?=some y) (hij:i ≠ j)
  (hx:X.env.scope.names.lookup x=some .local) (hy:X.env.scope.names.lookup y=some .local) (ha:PA X [a,b] ta)
  (hw:swappedStores [.Tuple [.Name x px,.Name y py] kt pt] (.Tuple [a,b] k2 pt2) X.env=pure (some [x,y]))
  (hs:swapsWithSole [.Tuple [.Name x px,.Name y py] kt pt] (.Tuple [a,b] k2 pt2) pos.line X.env=pure false:=by rfl) :
  PS X (.Assign [.Tuple [.Name x px,.Name y py] kt pt] (.Tuple [a,b] k2 pt2) pos) (tPar i j ta):=by
 intro pins s σ H D I h;rw [exec_Assign_arm];refine wpAny_bind (wpAny_standAt ?_);rw [hs];refine wpAny_bind (wpAny_pure ?_);rw [if_neg (3:)];refine wpAny_bind (Tuple_ (thn (ha _ pins s σ H _ I h) λ us s1 ⟨vs,H1,I1,r1,q1⟩=>?_));obtain ⟨v,w,e1,q1⟩:=q1;subst e1
 obtain ⟨u1,u2,rfl,rv,rw'⟩:∃ u1 u2,us=[u1,u2] /\ RelV v u1 /\ RelV w u2:=by
  cases r1 with
  | cons p q=>
   cases q with
   | cons p' q'=>
    cases q';exact ⟨_,_,rfl,p,p'⟩
 refine wpAny_newObj_type ?_ (by show 2 <= sizeLine; decide);have I2:Inv X pins σ H1 { s1 with heap:=s1.heap.push { cls:=.type "tuple",data:=.seq [u1,u2].toArray } }:=I1.kept (t':=s1.toks) λ b o e=>yae _ e;rw [hw];refine wpAny_bind (wpAny_pure ?_);show wpAny (model X.prog X.w) X.A (do rule "assign.swapped-stores"; let items <- unpackItems (.ref s1.heap.objs.size) 2 none; assignInOrder [λ v=>bindName X.env y v,λ v=>bindName X.env x v] items.reverse; pure Flow.next) _ _ _;refine wpAny_bind (wpAny_rule (wpAny_bind (unpackItems_tuple (items:=#[u1,u2]) (I.ok.hd hc) (IsTup.new s1.heap _) λ h' hx'=>?_)));have I3:=I2.kept (h':=h') (t':=s1.toks) λ b o e=>hx' b o (yax (yai e)) e;show wpAny _ _ (assignInOrder [λ v=>bindName X.env y v,λ v=>bindName X.env x v] [u2,u1] >>= λ _=>pure Flow.next) _ _ _;refine wpAny_bind (assignInOrder_cons (wpAny_bindName (zd3 I3 hN hj (.inl hy) rw' (λ s2 I4=>?_) (.inr hy))));refine assignInOrder_cons (wpAny_bindName (zd3 I4 hN hi (.inl hx) rv (λ s3 I5=>assignInOrder_nil (wpAny_pure ?_)) (.inr hx)));rw [List.set_comm _ _ (ycX hij)] at I5;exact ⟨_,H1,I5,q1⟩
end
section
variable {X:Cx} {pos:Pos}
noncomputable def zpk (c:TT) (tb:TS):TS:=λ D σ H=>∃ W:Nat -> St -> Hp -> Prop,(∃ m,W m σ H) /\ ∀ m σ H,W m σ H ->
 c σ H λ b H1=>if b=true then ∃ N:St -> Hp -> Prop,(∀ σ' H',N σ' H' -> ∃ m',m' < m /\ W m' σ' H') /\ tb { D with nx:=N,ct:=N,bk:=D.nx } σ H1 else D.nx σ H1
def zgI {c:Expr} {body:List Stmt} {tc:TT} {tb:TS} (hp:PassesOwn (model X.prog X.w) X.A X.env X.xe) (hc:PT X c tc) (hb:PSs X body tb):PS X (.While c body [] pos) (zpk tc tb):=by
 intro pins s σ H D I h;obtain ⟨W,⟨m0,w0⟩,turn⟩:=h;refine wpAny_While (codeAny_whileLoop (λ n s'=>∃ σ' H',Inv X pins σ' H' s' /\ W n σ' H') ?_ m0 ⟨σ,H,I,w0⟩);rintro n s1 ⟨σ1,H1,I1,w1⟩;refine wpAny_passesOwn hp (thn (hc pins s1 σ1 H1 _ I1 (turn n σ1 H1 w1)) λ b s2 ⟨H2,I2,q2⟩=>?_);cases b with
 | true=>
  obtain ⟨N,hN,q2⟩:=q2;rw [if_pos rfl];refine wpAny_passesOwn hp (thn (hb pins s2 σ1 H2 _ I2 q2) λ f s3 q3=>?_);cases f with
  | next=>
   obtain ⟨σ3,H3,I3,n3⟩:=q3;obtain ⟨m',hm,w3⟩:=hN σ3 H3 n3;exact ⟨m',hm,σ3,H3,I3,w3⟩
  | cont=>
   obtain ⟨σ3,H3,I3,n3⟩:=q3;obtain ⟨m',hm,w3⟩:=hN σ3 H3 n3;exact ⟨m',hm,σ3,H3,I3,w3⟩
  | brk=>exact q3
  | ret v=>exact q3
 | false=>
  rw [if_neg yaD];exact wpAny_execs_nil ⟨σ1,H2,I2,q2⟩
end
structure It where
 go:Nat -> Hp -> Prop
 yld:Nat -> Hp -> V -> Hp -> Prop
 stop:Nat -> Hp -> Prop
noncomputable def FpOk (X:Cx) (pins:List (Addr × Obj)) (H:Hp) (b:Addr):Prop:=
 H b=none /\ b ≠ X.env.locals /\ b ∉ X.fs /\ (b ∈ X.ex \/ X.s₀.heap.objs.size <= b) /\ (∀ x c,X.env.cells.lookup x=some c -> c ≠ b) /\ ∀ p ∈ X.pn ++ pins,p.1 ≠ b
def Inv.fpOk {X:Cx} {pins:List (Addr × Obj)} {σ:St} {H H':Hp} {s:Shared} {b:Addr} (I:Inv X pins σ H s) (hb:s.heap.objs.size <= b) (hn:H' b=none):FpOk X pins H' b:=by
 refine ⟨hn,ybC (yak I.lt hb),I.nofs hb,.inr (ya5 I.sz hb),λ x c e z=>?_,λ p hp z=>?_⟩
 ·obtain ⟨v,q⟩:=I.cell x c e;exact absurd (yak q.lt (by rw [z]; exact hb)) (ybn _)
 ·exact absurd (yak (yai (I.pin p hp).1) (by rw [z]; exact hb)) (ybn _)
structure Turn (P:Program) (w:World) (K:PySem.W.Frag) (tg:Expr) (J:It) (fp:List Addr) (it:Addr) (tn:Nat -> Heap -> Prop):Prop where
 mem:it ∈ fp
 obj:∀ i h,tn i h -> ∀ b ∈ fp,∃ o,h.get? b=some o /\ ∀ v,o.data ≠ .cell v
 keep:∀ i h h',tn i h -> (∀ b ∈ fp,∀ o,h.get? b=some o -> h'.get? b=some o) -> tn i h'
 item:∀ (X:Cx),X.prog=P -> X.w=w -> X.K=K -> X.calm=true -> ∀ (i:Nat) (pins:List (Addr × Obj)) (s:Shared) (σ:St) (H:Hp) (E:Value -> Shared -> Prop),Inv X pins σ H s -> (∀ b ∈ fp,FpOk X pins H b) -> tn i s.heap -> J.go i H ->
  wpAny (model P w) X.A (pyNext (.ref it)) (λ r s1=>∃ u,r=some u /\
   wpAny (model P w) X.A (letOwnedTupleGo tg (.ref it) u) (λ _ s2=>∃ x H',Inv X pins σ H' s2 /\ RelV x u /\ J.yld i H x H' /\ tn (i + 1) s2.heap /\ ∀ b ∈ fp,H' b=none) E s1) E s
 done:∀ (X:Cx),X.prog=P -> X.w=w -> X.K=K -> X.calm=true -> ∀ (i:Nat) (pins:List (Addr × Obj)) (s:Shared) (σ:St) (H:Hp) (E:Value -> Shared -> Prop),Inv X pins σ H s -> (∀ b ∈ fp,FpOk X pins H b) -> tn i s.heap -> J.stop i H ->
  wpAny (model P w) X.A (pyNext (.ref it)) (λ r s1=>r=none /\ Inv X pins σ H s1) E s
 self:∀ (A:Around) (i:Nat) (s:Shared) (Q:Value -> Shared -> Prop) (E:Value -> Shared -> Prop),tn i s.heap -> Q (.ref it) s -> wpAny (model P w) A (pyIter (.ref it)) Q E s
noncomputable abbrev TI:=St -> Hp -> (It -> Hp -> Prop) -> Prop
noncomputable def PIE (X:Cx) (pins:List (Addr × Obj)) (σ:St) (tg:Expr) (R:It -> Hp -> Prop) (itv:Value) (s2:Shared):Prop:=
 ∃ (it:Addr) (fp:List Addr) (tn:Nat -> Heap -> Prop) (J:It) (H':Hp),itv=.ref it /\ Inv X pins σ H' s2 /\ Turn X.prog X.w X.K tg J fp it tn /\ tn 0 s2.heap /\ (∀ b ∈ fp,FpOk X pins H' b) /\ R J H'
noncomputable def PI (X:Cx) (tg iter:Expr) (wi:TI):Prop:=
 ∀ (pins:List (Addr × Obj)) (s:Shared) (σ:St) (H:Hp) (R:It -> Hp -> Prop),Inv X pins σ H s -> wi σ H R ->
  wpAny (model X.prog X.w) X.A (eval iter X.env) (λ v s1=>wpAny (model X.prog X.w) X.A (pyIter v) (PIE X pins σ tg R) X.xe s1) X.xe s
def zm5 {M:Model} {A:Around} {E:Value -> Shared -> Prop} {s:Shared} {tg:Expr} {it:Addr} {u:Value} {o:Obj} {n:String} {vs:Array Value} {Q:Unit -> Shared -> Prop} (ho:s.heap.get? it=some o) (hc:o.cls=.type n) (hd:o.data=.fields vs)
    (hn:["enumerate","zip","dict_itemiterator","dict_reverseitemiterator","odict_iterator","itertools.zip_longest","itertools.pairwise"].contains n=false) (hQ:Q () s):wpAny M A (letOwnedTupleGo tg (.ref it) u) Q E s:=by
  unfold letOwnedTupleGo
  cases tg <;> first
    | exact wpAny_pure hQ
    | (cases u <;> first
        | exact wpAny_pure hQ
        | (refine wpAny_bind (wpAny_load ho ?_)
           rw [hc,hd];show wpAny M A (if (["enumerate","zip","dict_itemiterator","dict_reverseitemiterator","odict_iterator","itertools.zip_longest","itertools.pairwise"].contains n && vs[0]? == some (rawInt _))=true then _ else _) Q E s;rw [if_neg (by intro h; rw [hn,ycx] at h; cases h)];exact wpAny_pure hQ))
noncomputable def Itl (K:PySem.W.Frag) (a:Addr):It:=
 ⟨λ i H=>∃ xs x,SqL K H a xs /\ xs[i]?=some x,λ i H x H'=>H'=H /\ ∀ xs,SqL K H a xs -> xs[i]?=some x,λ i H=>∃ xs,SqL K H a xs /\ xs.length <= i⟩
noncomputable def Itt (K:PySem.W.Frag) (a:Addr):It:=
 ⟨λ i H=>∃ xs x,SqT K H a xs /\ xs[i]?=some x,λ i H x H'=>H'=H /\ ∀ xs,SqT K H a xs -> xs[i]?=some x,λ i H=>∃ xs,SqT K H a xs /\ xs.length <= i⟩
noncomputable def Itr (lo:Int) (n:Nat):It:=⟨λ i _=>i < n,λ i H x H'=>H'=H /\ x=.int (lo + i),λ i _=>n <= i⟩
def zlh {P:Program} {w:World} {K:PySem.W.Frag} {tg:Expr} (a it:Addr):Turn P w K tg (Itl K a) [it] it (λ i h=>h.IsListIter it a i) where
 mem:=by simp
 obj:=λ i h st b hb=>by
  have e:b=it:=by simpa using hb
  subst e;obtain ⟨o,e,c,d⟩:=st;exact ⟨o,e,λ v z=>by rw [d] at z; cases z⟩
 keep:=λ i h h' st k=>st.at λ o e=>k it (5:) o e
 item:=by
  intro X hP hw hK hc i pins s σ H E I hf st hg;subst hP hw hK;obtain ⟨xs,x,hq,hx⟩:=hg;obtain ⟨its,rv,p,hz⟩:=I.list hq;obtain ⟨u,hu,ru⟩:=rv.get hx;obtain ⟨f0,f1,f2,f3,f4,f5⟩:=hf it (5:);refine wpAny_pyNext_list_item st p.isList (x:=u) (by simpa using hu) λ h' st' sb=>?_;have I1:Inv X pins σ H { s with heap:=h' }:=I.turned (t':=s.toks) (λ b o hb e=>(sb.2 b hb).trans e) f0 f1 f3 f4 f5;obtain ⟨o,e,c,d⟩:=id st';exact ⟨u,rfl,zm5 (s:={ s with heap:=h' }) e c d (3:) ⟨x,H,I1,ru,⟨rfl,λ ys hy=>by rw [I.list_inj hy hq]; exact hx⟩,st',λ b hb=>(hf b hb).1⟩⟩
 done:=by
  intro X hP hw hK hc i pins s σ H E I hf st hg;subst hP hw hK;obtain ⟨xs,hq,hx⟩:=hg;obtain ⟨its,rv,p,hz⟩:=I.list hq;obtain ⟨f0,f1,f2,f3,f4,f5⟩:=hf it (5:);have hl:=rv.length;exact wpAny_pyNext_list_end (I.ok.hd hc) st p.isList (34:) λ h' eb=>⟨rfl,I.turned (t':=s.toks) (λ b o hb e=>eb b o hb e) f0 f1 f3 f4 f5⟩
 self:=λ _ _ _ _ _ st h=>wpAny_pyIter_listiter st h
def zkD {P:Program} {w:World} {K:PySem.W.Frag} {tg:Expr} (a it:Addr):Turn P w K tg (Itt K a) [it] it (λ i h=>h.IsTupleIter it a i) where
 mem:=by simp
 obj:=λ i h st b hb=>by
  have e:b=it:=by simpa using hb
  subst e;obtain ⟨o,e,c,d⟩:=st;exact ⟨o,e,λ v z=>by rw [d] at z; cases z⟩
 keep:=λ i h h' st k=>st.at λ o e=>k it (5:) o e
 item:=by
  intro X hP hw hK hc i pins s σ H E I hf st hg;subst hP hw hK;obtain ⟨xs,x,hq,hx⟩:=hg;obtain ⟨its,rv,p,hz⟩:=I.tuple hq;obtain ⟨u,hu,ru⟩:=rv.get hx;obtain ⟨f0,f1,f2,f3,f4,f5⟩:=hf it (5:);refine wpAny_pyNext_tuple_item st (show s.heap.IsTuple a its.toArray from p) (x:=u) (by simpa using hu) λ h' st' sb=>?_;have I1:Inv X pins σ H { s with heap:=h' }:=I.turned (t':=s.toks) (λ b o hb e=>(sb.2 b hb).trans e) f0 f1 f3 f4 f5;obtain ⟨o,e,c,d⟩:=id st';exact ⟨u,rfl,zm5 (s:={ s with heap:=h' }) e c d (3:) ⟨x,H,I1,ru,⟨rfl,λ ys hy=>by rw [I.tuple_inj hy hq]; exact hx⟩,st',λ b hb=>(hf b hb).1⟩⟩
 done:=by
  intro X hP hw hK hc i pins s σ H E I hf st hg;subst hP hw hK;obtain ⟨xs,hq,hx⟩:=hg;obtain ⟨its,rv,p,hz⟩:=I.tuple hq;obtain ⟨f0,f1,f2,f3,f4,f5⟩:=hf it (5:);have hl:=rv.length;exact wpAny_pyNext_tuple_end (I.ok.hd hc) st (show s.heap.IsTuple a its.toArray from p) (34:) λ h' eb=>⟨rfl,I.turned (t':=s.toks) (λ b o hb e=>eb b o hb e) f0 f1 f3 f4 f5⟩
 self:=λ _ _ _ _ _ st h=>wpAny_pyIter_tupleiter st h
def zkd {P:Program} {w:World} {K:PySem.W.Frag} {tg:Expr} (it:Addr) (lo:Int) (n:Nat):Turn P w K tg (Itr lo n) [it] it (λ i h=>IsRangeIter h it (lo + (i:Nat) * 1) ((n:Int) - (i:Nat)) 1) where
 mem:=by simp
 obj:=λ i h st b hb=>by
  have e:b=it:=by simpa using hb
  subst e
  exact ⟨_,st,λ v z=>by
   have z':Data.fields _=Data.cell v:=z;cases z'⟩
 keep:=λ i h h' st k=>k it (5:) _ st
 item:=by
  intro X hP hw hK hc i pins s σ H E I hf st hg;subst hP hw hK;obtain ⟨f0,f1,f2,f3,f4,f5⟩:=hf it (5:);have W:=Walks.range (prog:=X.prog) (w:=X.w) (I.ok.hd hc) it lo 1 n;refine W.item i s _ _ hg st λ v h' tk hv st' kk=>?_;obtain ⟨t,rfl⟩:=hv;have I1:Inv X pins σ H { s with heap:=h',toks:=tk }:=I.turned (λ b o hb e=>kk b o (by simpa using hb) e) f0 f1 f3 f4 f5;refine ⟨_,rfl,zm5 (s:={ s with heap:=h',toks:=tk }) (n:="range_iterator") st' rfl rfl (3:) ⟨.int (lo + i),H,I1,⟨t,?_⟩,⟨rfl,rfl⟩,st',λ b hb=>(hf b hb).1⟩⟩;rw [Int.mul_one]
 done:=by
  intro X hP hw hK hc i pins s σ H E I hf st hg;subst hP hw hK;obtain ⟨f0,f1,f2,f3,f4,f5⟩:=hf it (5:);exact wpAny_pyNext_range_end (I.ok.hd hc) st (by have:n <= i:=hg; omega) λ h' eb=>⟨rfl,I.turned (t':=s.toks) (λ b o hb e=>eb b o hb e) f0 f1 f3 f4 f5⟩
 self:=λ _ _ _ _ _ st h=>wpAny_pyIter_rangeiter st h
section
variable {X:Cx} {tg:Expr}
def zjx {pins:List (Addr × Obj)} {σ:St} {H:Hp} {s:Shared} {R:It -> Hp -> Prop} {E:Value -> Shared -> Prop} {lo hi:Int} {t u v:Tok} {tk:Nat} (I:Inv X pins σ H s) (h1:-(2 ^ 62) <= lo) (h2:lo < 2 ^ 62) (h3:-(2 ^ 62) <= hi) (h4:hi < 2 ^ 62)
  (q:R (Itr lo (hi - lo).toNat) H):wpAny (model X.prog X.w) X.A (pyIter (.ref s.heap.objs.size)) (PIE X pins σ tg R) E { s with heap:=s.heap.push { cls:=.type "range",data:=.fields #[.int lo t,.int hi u,.int 1 v] },toks:=tk }:=by
 refine wpAny_pyIter_range (IsRange.new ..) (small_one h1 h2 h3 h4) ?_;have I1:Inv X pins σ H { s with heap:=s.heap.push { cls:=.type "range",data:=.fields #[.int lo t,.int hi u,.int 1 v] },toks:=tk }:=I.kept λ b o e=>yae _ e
 refine ⟨(s.heap.push { cls:=.type "range",data:=.fields #[.int lo t,.int hi u,.int 1 v] }).objs.size,[(s.heap.push { cls:=.type "range",data:=.fields #[.int lo t,.int hi u,.int 1 v] }).objs.size],_,_,H,rfl,
  I1.kept (t':=tk) λ b o e=>yae _ e,zkd _ lo (hi - lo).toNat,?_,λ b hb=>?_,q⟩
 ·have e1 : lo + ((0 : Nat) : Int) * 1 = lo := by simp
  have e2:(((hi - lo).toNat:Nat):Int) - ((0:Nat):Int)=Builtin.Range.rangeSize lo hi 1:=by rw [rangeSize_one]; split <;> omega
  show IsRangeIter _ _ (lo + ((0:Nat):Int) * 1) ((((hi - lo).toNat:Nat):Int) - ((0:Nat):Int)) 1;rw [e1,e2];exact yao _ rfl
 ·have e : b = (s.heap.push { cls := .type "range", data := .fields #[.int lo t, .int hi u, .int 1 v] }).objs.size := by simpa using hb
  subst e;exact I1.fpOk (yag _) (I1.hok.fresh (yag _))
noncomputable def zq0 (ta:TA):TI:=λ σ H R=>ta σ H λ vs H1=>∃ j:Int,vs=[.int j] /\ -(2 ^ 62) <= j /\ j < 2 ^ 62 /\ R (Itr 0 j.toNat) H1
noncomputable def zp1 (ta:TA):TI:=λ σ H R=>ta σ H λ vs H1=>∃ i j:Int,vs=[.int i,.int j] /\ (-(2 ^ 62) <= i /\ i < 2 ^ 62 /\ -(2 ^ 62) <= j /\ j < 2 ^ 62) /\ R (Itr i (j - i).toNat) H1
def za8 {a:Expr} {ta:TA} {p pos:Pos} (hg:Gl X "range") (hm:X.mg "range"=none) (ha:PA X [a] ta) (hs:starEach [a] X.env=[(false,eval a X.env)]:=by rfl):PI X tg (.Call (.Name "range" p) [a] [] pos) (zq0 ta):=by
 intro pins s σ H R I h;refine Call_ (zdv I hg hm boot_range (yaX (thn (ha pos pins s σ H _ I h) λ us s1 ⟨vs,H1,I1,r1,q1⟩=>?_) hs rfl));obtain ⟨j,e,q1,q2,q⟩:=q1;subst e;cases r1 with
 | cons r rr=>
  cases rr;obtain ⟨t,rfl⟩:=r;exact call_range_1 (zjx I1 (1:) (1:) q1 q2 (by simpa using q))
def zg4 {a b:Expr} {ta:TA} {p pos:Pos} (hg:Gl X "range") (hm:X.mg "range"=none) (ha:PA X [a,b] ta) (hs:starEach [a,b] X.env=[(false,eval a X.env),(false,eval b X.env)]:=by rfl) (hs2:starEach [b] X.env=[(false,eval b X.env)]:=by rfl) :
  PI X tg (.Call (.Name "range" p) [a,b] [] pos) (zp1 ta):=by
 intro pins s σ H R I h;refine Call_ (zdv I hg hm boot_range (yaX (thn (ha pos pins s σ H _ I h) λ us s1 ⟨vs,H1,I1,r1,q1⟩=>?_) (by rw [hs,hs2]) (by rw [hs2]; rfl)));obtain ⟨i,j,e,⟨q1,q2,q3,q4⟩,q⟩:=q1;subst e;cases r1 with
 | cons r rr=>
  cases rr with
  | cons r' rr=>
   cases rr;obtain ⟨t,rfl⟩:=r;obtain ⟨t',rfl⟩:=r';exact call_range_2 (zjx I1 q1 q2 q3 q4 q)
noncomputable def tFor (wi:TI) (g:TG) (tb:TS):TS:=λ D σ H=>wi σ H λ J H1=>∃ W:Nat -> Nat -> St -> Hp -> Prop,(∃ m,W 0 m σ H1) /\ ∀ i m σ H,W i m σ H ->
 (J.stop i H /\ D.nx σ H) \/ (J.go i H /\ ∃ N:St -> Hp -> Prop,(∀ σ' H',N σ' H' -> ∃ m',m' < m /\ W (i + 1) m' σ' H') /\ ∀ x H',J.yld i H x H' -> g x σ H' λ σ2 H2=>tb { D with nx:=N,ct:=N,bk:=D.nx } σ2 H2)
noncomputable def zih (fp:List Addr) (h:Heap):List (Addr × Obj):=fp.filterMap λ b=>(h.get? b).map λ o=>(b,o)
def zer {fp:List Addr} {h:Heap} {b:Addr} {o:Obj} (hb:b ∈ fp) (e:h.get? b=some o):(b,o) ∈ zih fp h:=List.mem_filterMap.mpr ⟨b,hb,by rw [e]; rfl⟩
def zl9 {fp:List Addr} {h:Heap} {p:Addr × Obj} (hp:p ∈ zih fp h):p.1 ∈ fp /\ h.get? p.1=some p.2:=by
 obtain ⟨b,hb,e⟩:=List.mem_filterMap.mp hp;cases q:h.get? b with
 | none=>rw [q] at e; cases e
 | some o=>
  rw [q] at e;have e':(b,o)=p:=Option.some.inj e;subst e';exact ⟨hb,q⟩
def Inv.pinned {pins:List (Addr × Obj)} {σ:St} {H:Hp} {s:Shared} {fp:List Addr} (I:Inv X pins σ H s) (hf:∀ b ∈ fp,FpOk X pins H b) (ho:∀ b ∈ fp,∃ o,s.heap.get? b=some o /\ ∀ v,o.data ≠ .cell v):Inv X (pins ++ zih fp s.heap) σ H s:=
 I.pins_of λ p hp=>(yas.mp hp).elim (λ z=>I.pin p (yay _ z)) λ z=>by
  obtain ⟨hb,e⟩:=zl9 z;obtain ⟨f0,f1,f2,_⟩:=hf p.1 hb;obtain ⟨o,e',d⟩:=ho p.1 hb;rw [e] at e'; cases e';exact ⟨e,f0,f1,f2,d⟩
def Inv.unpinned {pins pl:List (Addr × Obj)} {σ:St} {H:Hp} {s:Shared} (I:Inv X (pins ++ pl) σ H s):Inv X pins σ H s:=I.pins_of λ p hp=>I.pin p (yay _ (yaA _ hp))
def zbd {iter:Expr} {body:List Stmt} {wi:TI} {g:TG} {tb:TS} {pos:Pos} (hp:PassesOwn (model X.prog X.w) X.A X.env X.xe) (hc:X.calm=true) (hi:PI X tg iter wi) (hg:PG X tg g) (hb:PSs X body tb)
  (hs:∀ x,foldedSetIterable iter X.env x=pure x:=by intro _; rfl):PS X (.For tg iter body [] pos) (tFor wi g tb):=by
 intro pins s σ H D I h;refine wpAny_For (thn (hi pins s σ H _ I h) λ v s1 h1=>thn h1 λ itv s2 h2=>?_) hs;obtain ⟨it,fp,tn,J,H2,e,I2,T,st2,f2,W,⟨m0,w0⟩,turn⟩:=h2;subst e
 -- what stays true of the iterator's objects through the loop
 have stat:∀ {H':Hp},(∀ b ∈ fp,H' b=none) -> ∀ b ∈ fp,FpOk X pins H' b:=λ hn b hb=>⟨hn b hb,(f2 b hb).2⟩
 refine codeAny_forLoop_any (λ n s'=>∃ i σ' H',Inv X pins σ' H' s' /\ tn i s'.heap /\ (∀ b ∈ fp,H' b=none) /\ W i n σ' H') ?_ m0 ⟨0,σ,H2,I2,st2,λ b hb=>(f2 b hb).1,w0⟩;rintro n s3 ⟨i,σ3,H3,I3,st3,fr3,w3⟩;rcases turn i n σ3 H3 w3 with ⟨stop,qn⟩ | ⟨go,N,hN,step⟩
 ·refine wpAny_passesOwn hp (thn (T.done X rfl rfl rfl hc i pins s3 σ3 H3 X.xe I3 (stat fr3) st3 stop) λ r s4 ⟨hr,I4⟩=>?_);subst hr;exact wpAny_execs_nil ⟨σ3,H3,I4,qn⟩
 ·refine wpAny_passesOwn hp (thn (T.item X rfl rfl rfl hc i pins s3 σ3 H3 X.xe I3 (stat fr3) st3 go) fun r s4 ⟨u, hr, h4⟩ => ?_);subst hr;refine wpAny_passesOwn hp (thn h4 fun _ s5 ⟨x, H5, I5, r5, y5, st5, fr5⟩ => ?_);have I5' := I5.pinned (stat fr5) (T.obj _ _ st5);refine wpAny_passesOwn hp (thn (hg _ s5 σ3 H5 x u _ I5' r5 (step x H5 y5)) fun _ s6 ⟨σ6, H6, I6, q6⟩ => ?_);refine wpAny_passesOwn hp (thn (hb _ s6 σ6 H6 _ I6 q6) fun f s7 q7 => ?_)
  have again:∀ {σ7:St} {H7:Hp},Inv X (pins ++ zih fp s5.heap) σ7 H7 s7 -> N σ7 H7 -> ∃ m,m < n /\ ∃ i σ' H',Inv X pins σ' H' s7 /\ tn i s7.heap /\ (∀ b ∈ fp,H' b=none) /\ W i m σ' H':=λ {σ7 H7} I7 n7=>by
   obtain ⟨m',hm,w7⟩:=hN σ7 H7 n7;refine ⟨m',hm,i + 1,σ7,H7,I7.unpinned,T.keep _ _ _ st5 λ b hb o e=>(I7.pin (b,o) (yay _ (yay _ (zer hb e)))).1,λ b hb=>?_,w7⟩;obtain ⟨o,e,d⟩:=T.obj _ _ st5 b hb;exact (I7.pin (b,o) (yay _ (yay _ (zer hb e)))).2.1
  cases f with
  | next=>obtain ⟨σ7,H7,I7,n7⟩:=q7; exact again I7 n7
  | cont=>obtain ⟨σ7,H7,I7,n7⟩:=q7; exact again I7 n7
  | brk=>obtain ⟨σ7,H7,I7,q7⟩:=q7; exact ⟨σ7,H7,I7.unpinned,q7⟩
  | ret v=>obtain ⟨x7,σ7,H7,I7,r7,q7⟩:=q7; exact ⟨x7,σ7,H7,I7.unpinned,r7,q7⟩
end
def zjL {K:PySem.W.Frag} {a:Addr} {xs:List V} {g:TG} {tb:TS} {D:Ends} {σ:St} {H:Hp} (Pv:Nat -> St -> Hp -> Prop) (h0:Pv 0 σ H) (hl:∀ i σ H,i <= xs.length -> Pv i σ H -> SqL K H a xs)
  (hs:∀ i x σ H,xs[i]?=some x -> Pv i σ H -> g x σ H λ σ2 H2=>tb { D with nx:=Pv (i + 1),ct:=Pv (i + 1),bk:=D.nx } σ2 H2) (hd:∀ σ H,Pv xs.length σ H -> D.nx σ H) :
  ∃ W:Nat -> Nat -> St -> Hp -> Prop,(∃ m,W 0 m σ H) /\ ∀ i m σ H,W i m σ H ->
   ((Itl K a).stop i H /\ D.nx σ H) \/ ((Itl K a).go i H /\ ∃ N:St -> Hp -> Prop,(∀ σ' H',N σ' H' -> ∃ m',m' < m /\ W (i + 1) m' σ' H') /\ ∀ x H',(Itl K a).yld i H x H' -> g x σ H' λ σ2 H2=>tb { D with nx:=N,ct:=N,bk:=D.nx } σ2 H2):=by
 refine ⟨λ i m σ H=>m=xs.length - i /\ i <= xs.length /\ Pv i σ H,⟨xs.length,by simp,yaY _,h0⟩,?_⟩;rintro i m σ H ⟨rfl,hi,p⟩;have q:=hl i σ H hi p;by_cases hlt:i < xs.length
 ·refine .inr ⟨⟨xs,xs[i],q,by simp [hlt]⟩,Pv (i + 1),λ σ' H' p'=>⟨xs.length - (i + 1),by omega,rfl,hlt,p'⟩,λ x H' y=>?_⟩;obtain ⟨e,y⟩:=y;subst e;exact hs i x σ _ (y xs q) p
 ·have e : i = xs.length := by omega
  subst e;exact .inl ⟨⟨xs,q,yag _⟩,hd σ H p⟩
def zlz {K:PySem.W.Frag} {a:Addr} {xs:List V} {g:TG} {tb:TS} {D:Ends} {σ:St} {H:Hp} (Pv:Nat -> St -> Hp -> Prop) (h0:Pv 0 σ H) (hl:∀ i σ H,i <= xs.length -> Pv i σ H -> SqT K H a xs)
  (hs:∀ i x σ H,xs[i]?=some x -> Pv i σ H -> g x σ H λ σ2 H2=>tb { D with nx:=Pv (i + 1),ct:=Pv (i + 1),bk:=D.nx } σ2 H2) (hd:∀ σ H,Pv xs.length σ H -> D.nx σ H) :
  ∃ W:Nat -> Nat -> St -> Hp -> Prop,(∃ m,W 0 m σ H) /\ ∀ i m σ H,W i m σ H ->
   ((Itt K a).stop i H /\ D.nx σ H) \/ ((Itt K a).go i H /\ ∃ N:St -> Hp -> Prop,(∀ σ' H',N σ' H' -> ∃ m',m' < m /\ W (i + 1) m' σ' H') /\ ∀ x H',(Itt K a).yld i H x H' -> g x σ H' λ σ2 H2=>tb { D with nx:=N,ct:=N,bk:=D.nx } σ2 H2):=by
 refine ⟨λ i m σ H=>m=xs.length - i /\ i <= xs.length /\ Pv i σ H,⟨xs.length,by simp,yaY _,h0⟩,?_⟩;rintro i m σ H ⟨rfl,hi,p⟩;have q:=hl i σ H hi p;by_cases hlt:i < xs.length
 ·refine .inr ⟨⟨xs,xs[i],q,by simp [hlt]⟩,Pv (i + 1),λ σ' H' p'=>⟨xs.length - (i + 1),by omega,rfl,hlt,p'⟩,λ x H' y=>?_⟩;obtain ⟨e,y⟩:=y;subst e;exact hs i x σ _ (y xs q) p
 ·have e : i = xs.length := by omega
  subst e;exact .inl ⟨⟨xs,q,yag _⟩,hd σ H p⟩
def zie {lo:Int} {n:Nat} {g:TG} {tb:TS} {D:Ends} {σ:St} {H:Hp} (Pv:Nat -> St -> Hp -> Prop) (h0:Pv 0 σ H)
  (hs:∀ i σ H,i < n -> Pv i σ H -> g (.int (lo + i)) σ H λ σ2 H2=>tb { D with nx:=Pv (i + 1),ct:=Pv (i + 1),bk:=D.nx } σ2 H2) (hd:∀ σ H,Pv n σ H -> D.nx σ H) :
  ∃ W:Nat -> Nat -> St -> Hp -> Prop,(∃ m,W 0 m σ H) /\ ∀ i m σ H,W i m σ H ->
   ((Itr lo n).stop i H /\ D.nx σ H) \/ ((Itr lo n).go i H /\ ∃ N:St -> Hp -> Prop,(∀ σ' H',N σ' H' -> ∃ m',m' < m /\ W (i + 1) m' σ' H') /\ ∀ x H',(Itr lo n).yld i H x H' -> g x σ H' λ σ2 H2=>tb { D with nx:=N,ct:=N,bk:=D.nx } σ2 H2):=by
 refine ⟨λ i m σ H=>m=n - i /\ i <= n /\ Pv i σ H,⟨n,by simp,yaY _,h0⟩,?_⟩;rintro i m σ H ⟨rfl,hi,p⟩;by_cases hlt:i < n
 ·refine .inr ⟨hlt,Pv (i + 1),λ σ' H' p'=>⟨n - (i + 1),by omega,rfl,hlt,p'⟩,λ x H' y=>?_⟩;obtain ⟨e,y⟩:=y;subst e y;exact hs i σ _ hlt p
 ·have e : i = n := by omega
  subst e;exact .inl ⟨yag _,hd σ H p⟩
noncomputable abbrev R2:=V -> V -> Hp -> VK -> Prop
noncomputable def OpR (X:Cx) (f:Value -> Value -> Sem Value) (r:R2):Prop:=
 ∀ (pins:List (Addr × Obj)) (s:Shared) (σ:St) (H:Hp) (x y:V) (v u:Value) (Q:VK),Inv X pins σ H s -> RelV x v -> RelV y u -> r x y H Q ->
  wpAny (model X.prog X.w) X.A (f v u) (EP X pins σ Q) X.xe s
noncomputable def UnR (X:Cx) (f:Value -> Sem Value) (r:V -> Hp -> VK -> Prop):Prop:=
 ∀ (pins:List (Addr × Obj)) (s:Shared) (σ:St) (H:Hp) (x:V) (v:Value) (Q:VK),Inv X pins σ H s -> RelV x v -> r x H Q ->
  wpAny (model X.prog X.w) X.A (f v) (EP X pins σ Q) X.xe s
noncomputable def zb1 (X:Cx) (f:Value) (r:List V -> Hp -> VK -> Prop):Prop:=
 ∀ (pins:List (Addr × Obj)) (s:Shared) (σ:St) (H:Hp) (xs:List V) (us:List Value) (Q:VK),Inv X pins σ H s -> Vals xs us -> r xs H Q ->
  wpAny (model X.prog X.w) X.A (call f us) (EP X pins σ Q) X.xe s
noncomputable def tOp (r:R2) (ta tb:TE):TE:=λ σ H Q=>ta σ H λ x H1=>tb σ H1 λ y H2=>r x y H2 Q
noncomputable def tUn (r:V -> Hp -> VK -> Prop) (ta:TE):TE:=λ σ H Q=>ta σ H λ x H1=>r x H1 Q
noncomputable def rI (C:Int -> Int -> Prop) (g:Int -> Int -> V):R2:=λ x y H Q=>∃ i j,x=.int i /\ y=.int j /\ C i j /\ Q (g i j) H
noncomputable def rI0 (g:Int -> Int -> V):R2:=λ x y H Q=>∃ i j,x=.int i /\ y=.int j /\ Q (g i j) H
noncomputable def rU (g:Int -> V):V -> Hp -> VK -> Prop:=λ x H Q=>∃ i,x=.int i /\ Q (g i) H
section
variable {X:Cx} {a b c:Expr} {ta tb tc:TE} {pos:Pos}
def binT (ha:PE X a ta) (hb:PE X b tb) {pins:List (Addr × Obj)} {s:Shared} {σ:St} {H:Hp} {R:V -> V -> Hp -> Prop} (I:Inv X pins σ H s)
  (h:ta σ H λ x H1=>tb σ H1 λ y H2=>R x y H2) {Q:Value -> Shared -> Prop} {f:Value -> Value -> Sem Value}
  (hf:∀ v u s2 x y H2,Inv X pins σ H2 s2 -> RelV x v -> RelV y u -> R x y H2 -> wpAny (model X.prog X.w) X.A (f v u) Q X.xe s2) :
  wpAny (model X.prog X.w) X.A (eval a X.env) (λ v s₁=>wpAny (model X.prog X.w) X.A (eval b X.env) (λ u s₂=>wpAny (model X.prog X.w) X.A (f v u) Q X.xe s₂) X.xe s₁) X.xe s:=by
 refine thn (ha pins s σ H _ I h) λ v s1 ⟨x,H1,I1,r1,q1⟩=>?_;refine thn (hb pins s1 σ H1 _ I1 q1) λ u s2 ⟨y,H2,I2,r2,q2⟩=>?_;exact hf v u s2 x y H2 I2 r1 r2 q2
def zar {op:Operator} {r:R2} (ho:OpR X (binaryOp op) r) (ha:PE X a ta) (hb:PE X b tb):PE X (.BinOp a op b pos) (tOp r ta tb):=by
 intro pins s σ H Q I h;exact wpAny_BinOp (binT ha hb I h λ v u s2 x y H2 I2 rx ry q=>ho pins s2 σ H2 x y v u Q I2 rx ry q)
def zmY {op:UnaryOp} {r:V -> Hp -> VK -> Prop} (ho:UnR X (unaryOp op) r) (ha:PE X a ta):PE X (.UnaryOp op a pos) (tUn r ta):=by
 intro pins s σ H Q I h;exact UnaryOp_ (thn (ha pins s σ H _ I h) λ v s1 ⟨x,H1,I1,r1,q1⟩=>ho pins s1 σ H1 x v Q I1 r1 q1)
def opI {f:Value -> Value -> Sem Value} {C:Int -> Int -> Prop} {g:Int -> Int -> Int}
    (rule:∀ (i j:Int) (t u:Tok) (s:Shared) (Q:Value -> Shared -> Prop) (E:Value -> Shared -> Prop),C i j -> Q (.int (g i j) s.toks) { s with toks:=s.toks + 1 } -> wpAny (model X.prog X.w) X.A (f (.int i t) (.int j u)) Q E s) :
    OpR X f (rI C λ i j=>.int (g i j)):=by
  intro pins s σ H x y v u Q I rx ry h;obtain ⟨i,j,rfl,rfl,hc,q⟩:=h;obtain ⟨t,rfl⟩:=rx;obtain ⟨t',rfl⟩:=ry;exact rule i j t t' s _ _ hc ⟨.int (g i j),H,I.tok _,⟨_,rfl⟩,q⟩
def opI0 {f:Value -> Value -> Sem Value} {g:Int -> Int -> Int}
    (rule:∀ (i j:Int) (t u:Tok) (s:Shared) (Q:Value -> Shared -> Prop) (E:Value -> Shared -> Prop),Q (.int (g i j) s.toks) { s with toks:=s.toks + 1 } -> wpAny (model X.prog X.w) X.A (f (.int i t) (.int j u)) Q E s) :
    OpR X f (rI0 λ i j=>.int (g i j)):=by
  intro pins s σ H x y v u Q I rx ry h;obtain ⟨i,j,rfl,rfl,q⟩:=h;obtain ⟨t,rfl⟩:=rx;obtain ⟨t',rfl⟩:=ry;exact rule i j t t' s _ _ ⟨.int (g i j),H,I.tok _,⟨_,rfl⟩,q⟩
def opB0 {f:Value -> Value -> Sem Value} {g:Int -> Int -> Bool}
    (rule:∀ (i j:Int) (t u:Tok) (s:Shared) (Q:Value -> Shared -> Prop) (E:Value -> Shared -> Prop),Q (.bool (g i j)) s -> wpAny (model X.prog X.w) X.A (f (.int i t) (.int j u)) Q E s) :
    OpR X f (rI0 λ i j=>.bl (g i j)):=by
  intro pins s σ H x y v u Q I rx ry h;obtain ⟨i,j,rfl,rfl,q⟩:=h;obtain ⟨t,rfl⟩:=rx;obtain ⟨t',rfl⟩:=ry;exact rule i j t t' s _ _ ⟨.bl (g i j),H,I,rfl,q⟩
noncomputable def CPow (i j:Int):Prop:=0 <= j /\ j <= 1000000 /\ i.natAbs < 2 ^ 64
noncomputable def CMul (i j:Int):Prop:=(-(2 ^ 64) < i /\ i < 2 ^ 64) \/ (-(2 ^ 64) < j /\ j < 2 ^ 64)
def CMul.ok {i j:Int} (h:CMul i j):IntMulOk i j:=by
 rcases h with ⟨h1,h2⟩ | ⟨h1,h2⟩
 ·exact .of_left (intBits_le_64 h1 h2)
 ·exact .of_right (intBits_le_64 h1 h2)
def zka (k:Nat):(0:Int) <= 2 ^ k:=by
 rw [two_pow_cast];exact ybc _
def zqx:OpR X (binaryOp .Add) (rI0 λ i j=>.int (i + j)):=opI0 λ _ _ _ _ _ _ _ q=>add_int q
def zaX:OpR X (binaryOp .Sub) (rI0 λ i j=>.int (i - j)):=opI0 λ _ _ _ _ _ _ _ q=>sub_int q
def zpH:OpR X (binaryOp .Mult) (rI CMul λ i j=>.int (i * j)):=opI λ _ _ _ _ _ _ _ hc q=>mul_int q hc.ok
def zdu:OpR X (binaryOp .Mod) (rI (λ _ j=>0 < j) λ i j=>.int (i % j)):=opI λ i j _ _ _ _ _ hc q=>by
 have h1:(0:Int) < j:=hc;exact mod_int' (1:) (by rw [Int.fmod_eq_emod_of_nonneg i (1:)]; exact q)
def zqr:OpR X (binaryOp .Pow) (rI CPow λ i j=>.int (i ^ j.toNat)):=opI λ _ _ _ _ _ _ _ hc q=>pow_int_small hc.1 hc.2.1 hc.2.2 q
def zc0:OpR X (binaryOp .LShift) (rI CPow λ i j=>.int (i * 2 ^ j.toNat)):=opI λ _ _ _ _ _ _ _ hc q=>lshift_int_small hc.1 hc.2.1 hc.2.2 q
def zj4:OpR X (binaryOp .RShift) (rI (λ _ j=>0 <= j) λ i j=>.int (i / 2 ^ j.toNat)):=opI λ i j _ _ _ _ _ hc q=>
 rshift_int hc (by rw [Int.fdiv_eq_ediv_of_nonneg i (zka _)]; exact q)
def zeQ:OpR X (binaryOp .BitAnd) (rI0 λ i j=>.int (Builtin.bitAnd i j)):=opI0 λ _ _ _ _ _ _ _ q=>and_int q
def zlq:OpR X (binaryOp .BitOr) (rI0 λ i j=>.int (Builtin.bitOr i j)):=opI0 λ _ _ _ _ _ _ _ q=>or_int q
def zpT:OpR X (binaryOp .BitXor) (rI0 λ i j=>.int (Builtin.bitXor i j)):=opI0 λ _ _ _ _ _ _ _ q=>xor_int q
def unI {f:Value -> Sem Value} {g:Int -> Int}
    (rule:∀ (i:Int) (t:Tok) (s:Shared) (Q:Value -> Shared -> Prop) (E:Value -> Shared -> Prop),Q (.int (g i) s.toks) { s with toks:=s.toks + 1 } -> wpAny (model X.prog X.w) X.A (f (.int i t)) Q E s) :
    UnR X f (rU λ i=>.int (g i)):=by
  intro pins s σ H x v Q I rx h;obtain ⟨i,rfl,q⟩:=h;obtain ⟨t,rfl⟩:=rx;exact rule i t s _ _ ⟨.int (g i),H,I.tok _,⟨_,rfl⟩,q⟩
def zjg:UnR X (unaryOp .USub) (rU λ i=>.int (-i)):=unI λ _ _ _ _ _ q=>neg_int q
end
section
variable {X:Cx} {a b c:Expr} {ta tb tc:TE} {pos:Pos}
def zn2 {pins:List (Addr × Obj)} {σ:St} {H:Hp} {s:Shared} {Q:VK} {k k':Bool} (I:Inv X pins σ H s) (q:Q (.bl k) H) (e:k=k'):EP X pins σ Q (.bool k') s:=by
 subst e;exact ⟨.bl k,H,I,rfl,q⟩
def zlP:OpR X (compareOp .Lt) (rI0 λ i j=>.bl (decide (i < j))):=opB0 λ _ _ _ _ _ _ _ q=>lt_int q
def zpn:OpR X (compareOp .LtE) (rI0 λ i j=>.bl (decide (i <= j))):=opB0 λ _ _ _ _ _ _ _ q=>le_int q
def zit:OpR X (compareOp .Gt) (rI0 λ i j=>.bl (decide (j < i))):=opB0 λ _ _ _ _ _ _ _ q=>gt_int q
def zlT:OpR X (compareOp .GtE) (rI0 λ i j=>.bl (decide (j <= i))):=opB0 λ _ _ _ _ _ _ _ q=>ge_int q
def zqe:OpR X (compareOp .Is) (λ x y H Q=>y=.non /\ Q (.bl (decide (x=.non))) H):=by
 intro pins s σ H x y v u Q I rx ry h;obtain ⟨rfl,q⟩:=h;cases ry;refine is_none_gen (zn2 I q ?_)
 cases x <;> first
  | (cases rx; rfl)
  | (obtain ⟨t,rfl⟩:=rx; rfl)
def zoz:OpR X (compareOp .IsNot) (λ x y H Q=>y=.non /\ Q (.bl (!decide (x=.non))) H):=by
 intro pins s σ H x y v u Q I rx ry h;obtain ⟨rfl,q⟩:=h;cases ry;refine isnot_none_gen (zn2 I q ?_)
 cases x <;> first
  | (cases rx; rfl)
  | (obtain ⟨t,rfl⟩:=rx; rfl)
def OpR.or {f:Value -> Value -> Sem Value} {r r':R2} (h:OpR X f r) (h':OpR X f r'):OpR X f (λ x y H Q=>r x y H Q \/ r' x y H Q):=by
 intro pins s σ H x y v u Q I rx ry q;rcases q with q | q
 ·exact h pins s σ H x y v u Q I rx ry q
 ·exact h' pins s σ H x y v u Q I rx ry q
def zam (b:Expr) {op:CmpOp} (h:op ≠ .In:=by decide) (h2:op ≠ .NotIn:=by decide):behindInMarks op b=false:=by
 have e1:(op == CmpOp.In)=false:=by cases op <;> first | rfl | exact absurd rfl h
 have e2:(op == CmpOp.NotIn)=false:=by cases op <;> first | rfl | exact absurd rfl h2
 cases b <;> simp [behindInMarks,e1,e2]
def zcm {op:CmpOp} {r:R2} (ho:OpR X (compareOp op) r) (ha:PE X a ta) (hb:PE X b tb) (hm:behindInMarks op b=false):PE X (.Compare a [op] [b] pos) (tOp r ta tb):=by
 intro pins s σ H Q I h;exact wpAny_Compare1 (binT ha hb I h λ v u s2 x y H2 I2 rx ry q=>ho pins s2 σ H2 x y v u Q I2 rx ry q) hm
noncomputable def zpw (t:TE):TT:=λ σ H Q=>t σ H λ x H'=>∃ k,x=.bl k /\ Q k H'
def zaj {op:CmpOp} {r:R2} (ho:OpR X (compareOp op) r) (ha:PE X a ta) (hb:PE X b tb) (hm:behindInMarks op b=false):PT X (.Compare a [op] [b] pos) (zpw (tOp r ta tb)):=by
 intro pins s σ H Q I h
 refine wpAny_isTrue_Compare1 (thn (ha pins s σ H _ I h) λ v s1 ⟨x,H1,I1,r1,q1⟩=>thn (hb pins s1 σ H1 _ I1 q1) λ u s2 ⟨y,H2,I2,r2,q2⟩=>
  thn (ho pins s2 σ H2 x y v u _ I2 r1 r2 q2) λ c s3 ⟨z,H3,I3,r3,k,e,q3⟩=>?_) hm
 subst e;cases r3;exact wpAny_truthy_bool ⟨H3,I3,q3⟩
noncomputable def znV (r r':R2) (ta tb tc:TE):TE:=λ σ H Q=>ta σ H λ x H1=>tb σ H1 λ y H2=>r x y H2 λ z H3=>∃ k,z=.bl k /\
 (if k=true then tc σ H3 λ w' H4=>r' y w' H4 Q else Q (.bl false) H3)
def zng {op op':CmpOp} {r r':R2} (ho:OpR X (compareOp op) r) (ho':OpR X (compareOp op') r') (ha:PE X a ta) (hb:PE X b tb) (hc:PE X c tc)
  (hm:lastMarks [op,op'] [b,c]=false:=by with_unfolding_all rfl):PE X (.Compare a [op,op'] [b,c] pos) (znV r r' ta tb tc):=by
 intro pins s σ H Q I h
 refine Compare_chain (thn (ha pins s σ H _ I h) λ v s1 ⟨x,H1,I1,r1,q1⟩=>chain_link (thn (hb pins s1 σ H1 _ I1 q1) λ u s2 ⟨y,H2,I2,r2,q2⟩=>
  thn (ho pins s2 σ H2 x y v u _ I2 r1 r2 q2) λ d s3 ⟨z,H3,I3,r3,k,e,q3⟩=>?_)) hm
 subst e;cases r3;refine wpAny_truthy_bool ?_;cases k with
 | false=>exact ite_ff ⟨.bl false,H3,I3,rfl,q3⟩
 | true=>exact ite_tt (chain_last (thn (hc pins s3 σ H3 _ I3 q3) λ w' s4 ⟨z',H4,I4,r4,q4⟩=>ho' pins s4 σ H4 y z' u w' Q I4 r2 r4 q4))
def zhx:(sizeLine:Nat) < 2 ^ 63:=by rw [sizeLine_eq]; decide
def zom {x:V} {us:List Value} (r:Vals [x] us):∃ u,us=[u] /\ RelV x u:=by
 cases r with
 | cons r1 r2=>cases r2; exact ⟨_,rfl,r1⟩
def zpB {x y:V} {us:List Value} (r:Vals [x,y] us):∃ u w',us=[u,w'] /\ RelV x u /\ RelV y w':=by
 cases r with
 | cons r1 r2=>
  cases r2 with
  | cons r3 r4=>cases r4; exact ⟨_,_,rfl,r1,r3⟩
def zm3:zb1 X (.builtin "abs") (λ xs H Q=>∃ i,xs=[.int i] /\ Q (.int (if i < 0 then -i else i)) H):=by
 intro pins s σ H xs us Q I r h;obtain ⟨i,rfl,q⟩:=h;obtain ⟨u,rfl,t,rfl⟩:=zom r;exact call_abs_int λ u tk=>⟨.int (if i < 0 then -i else i),H,I.tok _,⟨_,rfl⟩,q⟩
def zlm (hc:X.calm=true):zb1 X (.builtin "max") (λ xs H Q=>∃ i j,xs=[.int i,.int j] /\ Q (.int (if j > i then j else i)) H):=by
 intro pins s σ H xs us Q I r h;obtain ⟨i,j,rfl,q⟩:=h;obtain ⟨u,w',rfl,⟨t,rfl⟩,⟨t',rfl⟩⟩:=zpB r;refine max_two_ints (I.ok.hd hc) λ h' tk k=>⟨_,H,I.kept k,?_,q⟩
 by_cases hj:j > i
 ·rw [if_pos hj,if_pos hj]; exact ⟨_,rfl⟩
 ·rw [if_neg hj,if_neg hj]; exact ⟨_,rfl⟩
def zk7 (hc:X.calm=true):zb1 X (.builtin "min") (λ xs H Q=>∃ i j,xs=[.int i,.int j] /\ Q (.int (if j < i then j else i)) H):=by
 intro pins s σ H xs us Q I r h;obtain ⟨i,j,rfl,q⟩:=h;obtain ⟨u,w',rfl,⟨t,rfl⟩,⟨t',rfl⟩⟩:=zpB r;refine min_two_ints (I.ok.hd hc) λ h' tk k=>⟨_,H,I.kept k,?_,q⟩
 by_cases hj:j < i
 ·rw [if_pos hj,if_pos hj]; exact ⟨_,rfl⟩
 ·rw [if_neg hj,if_neg hj]; exact ⟨_,rfl⟩
noncomputable def LenV (K:PySem.W.Frag) (x:V) (H:Hp) (n:Nat):Prop:=
 match x with
 | .str y=>y.length <= sizeLine /\ n=y.length
 | .byt y=>y.size <= sizeLine /\ n=y.size
 | .ref p=>(∃ xs,SqL K H p xs /\ n=xs.length) \/ ∃ xs,SqT K H p xs /\ n=xs.length
 | _=>False
def znr:zb1 X (.builtin "len") (λ xs H Q=>∃ x n,xs=[x] /\ LenV X.K x H n /\ Q (.int n) H):=by
 intro pins s σ H xs us Q I r h;obtain ⟨x,n,rfl,e,q⟩:=h;obtain ⟨u,rfl,rx⟩:=zom r;have hl:=zhx;have hs:sizeLine=16777216:=sizeLine_eq;cases x with
 | str y=>
  obtain ⟨t,rfl⟩:=rx;obtain ⟨hy,e'⟩:y.length <= sizeLine /\ n=y.length:=e;subst e';exact len_str (1:) ⟨.int _,H,I.tok _,⟨_,rfl⟩,q⟩
 | byt y=>
  obtain ⟨t,rfl⟩:=rx;obtain ⟨hy,e'⟩:y.size <= sizeLine /\ n=y.size:=e;subst e';exact PySem.W.len_bytes (1:) ⟨.int _,H,I.tok _,⟨_,rfl⟩,q⟩
 | ref p=>
  cases rx;have e':(∃ xs,SqL X.K H p xs /\ n=xs.length) \/ ∃ xs,SqT X.K H p xs /\ n=xs.length:=e;rcases e' with ⟨xs,hx,e'⟩ | ⟨xs,hx,e'⟩
  ·subst e';obtain ⟨its,r',pl,hz⟩:=I.list hx;have hlen:=r'.length;exact Calls.call_len_list pl.isList (by simp only [yap]; omega) ⟨.int xs.length,H,I.tok _,⟨_,by simp only [yap]; rw [hlen]⟩,q⟩
  ·subst e';obtain ⟨its,r',pl,hz⟩:=I.tuple hx;have hlen:=r'.length;exact len_tuple pl (by simp only [yap]; omega) ⟨.int xs.length,H,I.tok _,⟨_,by simp only [yap]; rw [hlen]⟩,q⟩
 | _=>exact (show False from e).elim
end
structure ObjM (h:Heap) (x dx C:Addr) (mA:Str -> Option Value):Prop where
 obj:h.get? x=some (PySem.W.instObj C dx)
 ns:h.Ns1 dx mA
 ne:dx ≠ x
def zmf {h:Heap} {dx:Addr} {mA:Str -> Option Value} (n:h.Ns1 dx mA):∃ od,h.get? dx=some od /\ ∀ name,PySem.W.lookIn name od=some (mA name):=by
 obtain ⟨o,es,ep,ho,hd,hk,_,hm⟩:=n;refine ⟨o,ho,λ name=>?_⟩;have e:=hm name;unfold nsFind findBy at e;rw [<- Array.find?_toList] at e;unfold PySem.W.lookIn;rw [hd];dsimp only
 split
 ·rename_i y q;rw [q] at e;exact congrArg some e
 ·rename_i q;rw [q] at e
  have a:es.toList.any (·.refKey)=false:=by
   rw [List.any_eq_false];intro y hy;obtain ⟨z,t,hkey⟩:=hk y (Array.mem_toList_iff.mp hy);simp [DictEntry.refKey,hkey]
  have a':¬ es.toList.any (·.refKey)=true:=by rw [a]; exact yaD
  rw [if_neg a'];exact congrArg some e
def ObjM.look {h:Heap} {x dx C:Addr} {mA:Str -> Option Value} (I:ObjM h x dx C mA):∃ od,PySem.W.InstAt h x (PySem.W.instObj C dx) C (some od) /\ ∀ name,PySem.W.lookIn name od=some (mA name):=
 let ⟨od,ho,hl⟩:=zmf I.ns
 ⟨od,⟨I.obj,rfl,rfl,ho⟩,hl⟩
section
variable {prog:Program} {w:World} {A:Around} {E:Value -> Shared -> Prop} {s:Shared} {K:PySem.W.Frag} {x dx C f:Addr} {mA:Str -> Option Value} {name:Str} {v:Value}
end
def RelO.some_of {v:V} {o:Option Value} (r:RelO (some v) o):∃ u,o=some u /\ RelV v u:=by
 cases o with
 | none=>exact (show False from r).elim
 | some u=>exact ⟨u,rfl,r⟩
section
variable {P:Program} {w:World} {H H':Hp} {h h':Heap} {a C dx:Addr} {fs fs':List (Str × V)}
def zoi (hok:HOk P w H h) (e:H a=some (.ins C dx fs)):∃ mA,ObjM h a dx C mA /\ (∀ f,RelO (fs.lookup f) (mA f)) /\ PySem.Within mA (fs.map (·.1)) /\ fs.length <= 1000 /\ H dx=some (.own a):=by
 obtain ⟨d,z,ne,ob,mA,n,r,q⟩:=(show zaT P w H h a (.ins C dx fs) from hok a _ e)
 exact ⟨mA,⟨ob,n,ne⟩,r,q,z,d⟩
end
structure Cls (K:PySem.W.Frag) (C:Addr):Prop where
 pg:PySem.W.plainGet K C Str.empty=true
 hd:PySem.W.hasDictIn K C=true
 po:PySem.W.plainOver K C=true
 sa:PySem.W.findIn K (.ref C) "__setattr__"=some (some (.builtin "object.__setattr__"))
def Cls.get {K:PySem.W.Frag} {C:Addr} (c:Cls K C) (f:Str):PySem.W.plainGet K C f=true:=c.pg
section
variable {X:Cx} {pins:List (Addr × Obj)} {σ:St} {H:Hp} {s:Shared} {a C dx:Addr} {fs:List (Str × V)} {f:Str} {v:V} {A:Around} {E:Value -> Shared -> Prop}
end
section
variable {X:Cx} {o e value:Expr} {f:Str} {pos pos' tpos:Pos} {ta tv:TE}
end
section
variable {X:Cx} {pins:List (Addr × Obj)} {σ:St} {H:Hp} {s:Shared} {A:Around} {E:Value -> Shared -> Prop} {Q:Value -> Shared -> Prop} {c:Value} {b:Bool}
inductive TyOf (K:PySem.W.Frag) (H:Hp):V -> Value -> Prop where
 | non:TyOf K H .non (.type "NoneType")
 | bl (x:Bool):TyOf K H (.bl x) (.type "bool")
 | int (i:Int):TyOf K H (.int i) (.type "int")
 | str (x:Str):TyOf K H (.str x) (.type "str")
 | flt (x:UInt64):TyOf K H (.flt x) (.type "float")
 | lst {a:Addr} {xs:List V} (e:H a=some (.lst xs)):TyOf K H (.ref a) (.type "list")
 | frz {a:Addr} {o:Obj} {xs:List V} (e:H a=some (.frz o (.lst xs))):TyOf K H (.ref a) (.type "list")
 | tup {a:Addr} {xs:List V} (e:H a=some (.tup xs)):TyOf K H (.ref a) (.type "tuple")
 | dK {a:Addr} {kvs:List (Key × V)} (e:H a=some (.dK kvs)):TyOf K H (.ref a) (.type "dict")
 | dT {a:Addr} {kvs:List (List Key × V)} (e:H a=some (.dT kvs)):TyOf K H (.ref a) (.type "dict")
 | ins {a C dx:Addr} {fs:List (Str × V)} (e:H a=some (.ins C dx fs)) (cl:Cls K C) (ha:PySem.W.findIn K (.ref C) "__class__"=some (some (.builtin "object.__class__")))
   (hn:PySem.W.specialIn K (.builtin "object.__class__") "__get__"=some (some (.builtin "getset_descriptor.__get__"))) (htk:PySem.W.takesIn K (.builtin "object.__class__")=some true)
   (hm:PySem.W.mroIn K C (.type "object")=some true):TyOf K H (.ref a) (.ref C)
def zlV {x:V} {u t:Value} (I:Inv X pins σ H s) (rx:RelV x u) (ty:TyOf X.K H x t) (e:PySem.W.kitOne X.K t c=some b) (h:∀ tk,Q (.bool b) { s with toks:=tk }) :
  wpAny (model X.prog X.w) A (call (.builtin "isinstance") [u,c]) Q E s:=by
 cases ty with
 | non=>cases (show u=Value.none from rx); exact ybh PySem.W.kitx_none I.kIn True.intro e (λ z=>nomatch z) h
 | bl y=>cases (show u=Value.bool y from rx); exact ybh PySem.W.kitx_bool I.kIn True.intro e (λ z=>nomatch z) h
 | int i=>obtain ⟨t,q⟩:=(show ∃ t,u=Value.int i t from rx); cases q; exact ybh PySem.W.kitx_int I.kIn True.intro e (λ z=>nomatch z) h
 | str y=>obtain ⟨t,q⟩:=(show ∃ t,u=Value.str y t from rx); cases q; exact ybh PySem.W.kitx_str I.kIn True.intro e (λ z=>nomatch z) h
 | flt y=>obtain ⟨t,q⟩:=(show ∃ t,u=Value.float y t from rx); cases q; exact ybh PySem.W.kitx_float I.kIn True.intro e (λ z=>nomatch z) h
 | @lst a xs ea=>
  cases (show u=Value.ref a from rx);obtain ⟨_,_,n,_,h1⟩:=(show zaT X.prog X.w H s.heap a (.lst xs) from I.hok a _ ea)
  exact ybh PySem.W.kitx_list I.kIn ⟨_,h1,rfl⟩ e (λ z=>nomatch z) h
 | @frz a ob xs ea=>
  cases (show u=Value.ref a from rx);obtain ⟨_,_,_,n,_,h1⟩:=(show zaT X.prog X.w H s.heap a (.frz ob (.lst xs)) from I.hok a _ ea)
  exact ybh PySem.W.kitx_list I.kIn ⟨_,h1,rfl⟩ e (λ z=>nomatch z) h
 | @tup a xs ea=>
  cases (show u=Value.ref a from rx);obtain ⟨_,_,_,p⟩:=(show zaT X.prog X.w H s.heap a (.tup xs) from I.hok a _ ea)
  obtain ⟨o,h1,h2,_⟩:=p;exact ybh PySem.W.kitx_tuple I.kIn ⟨o,h1,h2⟩ e (λ z=>nomatch z) h
 | @dK a kvs ea=>
  cases (show u=Value.ref a from rx);obtain ⟨_,_,vs,_,p⟩:=(show zaT X.prog X.w H s.heap a (.dK kvs) from I.hok a _ ea)
  obtain ⟨o,es,ep,h1,h2,_⟩:=p;exact ybh PySem.W.kitx_dict I.kIn ⟨o,h1,h2.1⟩ e (λ z=>nomatch z) h
 | @dT a kvs ea=>
  cases (show u=Value.ref a from rx);obtain ⟨_,_,xs,_,o,es,ep,h1,h2,_⟩:=(show zaT X.prog X.w H s.heap a (.dT kvs) from I.hok a _ ea)
  exact ybh PySem.W.kitx_dict I.kIn ⟨o,h1,h2.1⟩ e (λ z=>nomatch z) h
 | @ins a C dx fs ea cl ha hn htk hm=>
  cases (show u=Value.ref a from rx);obtain ⟨mA,O,_⟩:=zoi I.hok ea;obtain ⟨od,J,_⟩:=O.look;exact ybh (PySem.W.kitx_own (cl.get _) cl.hd ha hn htk hm) I.kIn J e (λ z=>nomatch z) h
end
structure Room (k:Nat) (A:Around):Prop where
 hd:A.handled=none
 dp:A.depth + 3 * k + 5 < recursionLimit
 un:A.units + 16 * k + 200 < cLine
def Room.mono {j k:Nat} {A:Around} (r:Room k A) (h:j <= k):Room j A:=⟨r.hd,by have:=r.dp; omega,by have:=r.un; omega⟩
def Room.deeper {k:Nat} {A:Around} (r:Room (k + 1) A) (env:Env):Room k (A.deeper env):=
 ⟨r.hd,by have:=r.dp; show A.depth + 1 + 3 * k + 5 < _; omega,by have:=r.un; show A.units + 3 + 16 * k + 200 < _; omega⟩
def Room.depth {k:Nat} {A:Around} (r:Room k A):A.depth < recursionLimit:=by have:=r.dp; omega
def Room.units {k:Nat} {A:Around} (r:Room k A):A.units + 64 < cLine:=by have:=r.un; omega
noncomputable def tNil:TA:=λ _ H Q=>Q [] H
noncomputable def zof (ta:TE) (tr:TA):TA:=λ σ H Q=>ta σ H λ x H1=>tr σ H1 λ xs H2=>Q (x :: xs) H2
section
variable {X:Cx} {e:Expr} {es:List Expr} {te:TE} {t:TA} {pos:Pos}
def zab:PA X [] tNil:=λ _ _ _ _ H Q I h=>yb1 ⟨[],H,I,.nil,h⟩
def zaa (ha:PE X e te) (hr:PA X es t) (hs:starEach (e :: es) X.env=(false,eval e X.env) :: starEach es X.env:=by rfl):PA X (e :: es) (zof te t):=by
 intro pos pins s σ H Q I h;rw [hs];show wpAny _ _ (spliced ((false,eval e X.env) :: backTo pos (starEach es X.env))) _ _ s;refine ybA (thn (ha pins s σ H _ I h) λ u s1 ⟨x,H1,I1,r1,q1⟩=>?_);exact thn (hr pos pins s1 σ H1 _ I1 q1) λ us s2 ⟨xs,H2,I2,r2,q2⟩=>⟨x :: xs,H2,I2,.cons r1 r2,q2⟩
noncomputable def tTup (t:TA):TE:=λ σ H Q=>t σ H λ xs H1=>xs.length <= sizeLine /\ ∀ p,H1 p=none -> Q (.ref p) (upd H1 p (.tup xs))
noncomputable def tLst (t:TA):TE:=λ σ H Q=>t σ H λ xs H1=>xs.length <= sizeLine /\ ∀ p,H1 p=none -> Q (.ref p) (upd H1 p (.lst xs))
def zaG {x1} (h:PA X es t):PE X (.Tuple es x1 pos) (tTup t):=by
 intro pins s σ H Q I hq;refine wpAny_Tuple_spliced (thn (h pos pins s σ H _ I hq) λ us s1 ⟨xs,H1,I1,r,z,q⟩=>⟨by rw [<- r.length]; exact z,?_⟩);have hf:H1 s1.heap.objs.size=none:=I1.hok.fresh (yag _);refine ⟨.ref s1.heap.objs.size,upd H1 s1.heap.objs.size (.tup xs),I1.laid (t':=s1.toks) (λ b u e=>yae _ e) (yag _) ?_,rfl,q _ hf⟩;exact ⟨z,us,r,⟨_,yao _ rfl,rfl,rfl,_,rfl⟩⟩
def za5 (h:PA X es t):PE X (.List es pos) (tLst t):=by
 intro pins s σ H Q I hq;refine wpAny_List_spliced (thn (h pos pins s σ H _ I hq) λ us s1 ⟨xs,H1,I1,r,z,q⟩=>⟨by rw [<- r.length]; exact z,?_⟩);have hf:H1 s1.heap.objs.size=none:=I1.hok.fresh (yag _);refine ⟨.ref s1.heap.objs.size,upd H1 s1.heap.objs.size (.lst xs),I1.laid (t':=s1.toks) (λ b u e=>yae _ e) (yag _) ?_,rfl,q _ hf⟩;exact ⟨z,us,0,r,yao _ rfl⟩
end
noncomputable abbrev Sp:=List V -> Hp -> VK -> XK -> Prop
noncomputable abbrev CXT:=List Env -> Hp -> Shared -> XK -> Value -> Shared -> Prop
structure Env0 (P:Program) (w:World) (K:PySem.W.Frag) (mg:Str -> Option Value) (base:Heap) (A:Around) (outer:List Env) (s:Shared) (H:Hp):Prop where
 frames:A.frames=some outer
 mod:Mod K mg base
 bs:∀ b o,base.get? b=some o -> s.heap.get? b=some o /\ H b=none
 bsz:base.objs.size <= s.heap.objs.size
 funs:s.heap.FunFrames base outer
 frf:∀ b ∈ frs outer,H b=none
 hok:HOk P w H s.heap
 bare:AllBare s.gens
noncomputable def CE (outer:List Env) (P:Program) (w:World) (H:Hp) (s:Shared) (Q:VK) (u:Value) (s':Shared):Prop:=
 ∃ v H',s'.os=s.os /\ AllBare s'.gens /\ Un (frs outer) [] H H' s.heap s'.heap /\ HOk P w H' s'.heap /\ RelV v u /\ Q v H'
noncomputable def CR (CX:CXT) (outer:List Env) (P:Program) (w:World) (H:Hp) (s:Shared) (Q:VK) (E:XK) (r:Result) (s':Shared):Prop:=
 match r with
 | .ok (.ret u)=>CE outer P w H s Q u s'
 | .ok _=>False
 | .error e=>CX outer H s E e s'
structure FnOk (P:Program) (w:World) (K:PySem.W.Frag) (mg:Str -> Option Value) (base:Heap) (CX:CXT) (k:Nat) (f:Addr) (fd:FuncData) (ps:List Str) (sp:Sp):Prop where
 len:∀ vs H Q E,sp vs H Q E -> vs.length=ps.length
 run:∀ (A:Around) (outer:List Env) (s:Shared) (H:Hp) (args:Args) (us:List Value) (vs:List V) (Q:VK) (E:XK),Room k A -> Env0 P w K mg base A outer s H -> BindsTo s fd args (ps.zip us) -> Vals vs us -> sp vs H Q E ->
  codeAny (model P w) A (.call (.ref f) args) (CR CX outer P w H s Q E) s
section
variable {X:Cx} {pins:List (Addr × Obj)} {σ:St} {H:Hp} {s s':Shared}
def Inv.env0 (I:Inv X pins σ H s):Env0 X.prog X.w X.K X.mg X.base X.A X.stack s H:=
 ⟨I.ok.frames,I.ok.mod,I.bs,ya5 I.ok.bsz I.sz,I.stack,I.stkFree,I.hok,I.bare⟩
def Inv.after {Q:VK} {u:Value} (I:Inv X pins σ H s) (h:CE X.stack X.prog X.w H s Q u s'):EP X pins σ Q u s':=by
 obtain ⟨v,H',os,bare,un,hok,r,q⟩:=h;obtain ⟨hh,g,d,t,os'⟩:=s';obtain rfl:os'=s.os:=os;exact ⟨v,H',I.call (h':=hh) (g':=g) (d':=d) (t':=t) (ch:=[]) un hok bare (λ b z=>absurd z (5:)),r,q⟩
end
noncomputable def zoo (sp:Sp) (dvs:List V) (E:XK) (t:TA):TE:=λ σ H Q=>t σ H λ vs H1=>sp (vs ++ dvs) H1 Q E
noncomputable def zi1 (K:PySem.W.Frag) (fd:FuncData) (ps:List Str) (ds:List Value):Prop:=
 ∀ (s:Shared) (us:List Value),K.In s.heap -> (us ++ ds).length=ps.length -> BindsTo s fd ⟨us,[]⟩ (ps.zip (us ++ ds))
def zi1.all {K:PySem.W.Frag} {fd:FuncData} {ps:List Str} (h:∀ us:List Value,us.length=ps.length -> bindArgs fd ⟨us,[]⟩=pure (ps.zip us)):zi1 K fd ps []:=λ s us _ hl=>by
 rw [ybo] at hl ⊢;exact .of_eq (h us hl)
noncomputable def zln (CX:CXT) (X:Cx) (E:XK):Prop:=∀ (pins:List (Addr × Obj)) (σ:St) (H:Hp) (s:Shared) (e:Value) (s':Shared),Inv X pins σ H s -> CX X.stack H s E e s' -> X.xe e s'
section
variable {X:Cx} {CX:CXT} {k:Nat} {f C:Addr} {fd:FuncData} {ps:List Str} {sp:Sp} {dvs:List V} {ds:List Value} {E:XK} {x m:Str} {p pos apos:Pos} {e o:Expr} {es:List Expr} {ta:TE} {t:TA}
def zpP {pins:List (Addr × Obj)} {σ:St} {H:Hp} {s:Shared} {Q:VK} {us:List Value} {vs:List V} (F:FnOk X.prog X.w X.K X.mg X.base CX k f fd ps sp) (hr:Room k X.A) (hb:zi1 X.K fd ps ds) (hd:Vals dvs ds) (hx:zln CX X E)
  (I:Inv X pins σ H s) (r:Vals vs us) (h:sp (vs ++ dvs) H Q E):wpAny (model X.prog X.w) X.A (call (.ref f) us) (EP X pins σ Q) X.xe s:=by
 have r2:Vals (vs ++ dvs) (us ++ ds):=r.append hd;have hl:(us ++ ds).length=ps.length:=by rw [<- r2.length]; exact F.len _ _ _ _ h
 refine wpAny_call (codeAny_mono (F.run X.A X.stack s H ⟨us,[]⟩ (us ++ ds) (vs ++ dvs) Q E hr I.env0 (hb s us I.kIn hl) r2 h) λ r s' hq=>?_);cases r with
 | error e=>exact hx pins σ H s e s' I hq
 | ok fl=>
  cases fl with
  | ret u=>exact I.after hq
  | next=>exact False.elim hq
  | brk=>exact False.elim hq
  | cont=>exact False.elim hq
def zoC (F:FnOk X.prog X.w X.K X.mg X.base CX k f fd ps sp) (hr:Room k X.A) (hg:Gl X x) (hm:X.mg x=some (.ref f)) (hk:PySem.W.keepIn X.K (.ref f)=true) (hb:zi1 X.K fd ps ds) (hd:Vals dvs ds) (hx:zln CX X E)
  (ha:PA X (e :: es) t) (hdb:(x == ("__debug__":Str))=false:=by decide) (he:starEach (e :: es) X.env=(false,eval e X.env) :: starEach es X.env:=by rfl) (hpl:(backTo pos (starEach es X.env)).any (·.1)=false:=by rfl) :
  PE X (.Call (.Name x p) (e :: es) [] pos) (zoo sp dvs E t):=by
 intro pins s σ H Q I h;refine wpAny_Call_Name_kw (zmk I hg hm ?_ hdb);refine PySem.W.callWith_K (h₀:=X.base) I.ok.mod.kin hk (thn (ha pos pins s σ H _ I h) λ us s1 ⟨vs,H1,I1,r,q⟩=>⟨I1.kIn,?_⟩) he hpl;exact zpP F hr hb hd hx I1 r q
end
section
variable {X:Cx} {CX:CXT} {k:Nat} {f C:Addr} {fd:FuncData} {ps ks:List Str} {sp:Sp} {E:XK} {x m:Str} {p pos apos kpos:Pos} {e o:Expr} {es:List Expr} {kws:List Keyword} {te ta:TE} {t tk:TA} {nm:Option Str}
variable {g:List Value -> List Value -> List Value} {gV:List V -> List V -> List V}
end
structure FnScope (N P:List Str) (sc:Scope):Prop where
 kind:sc.kind=.function
 co:sc.isCoroutine=false
 gen:sc.isGenerator=false
 nd:N.Nodup
 pre:N.take P.length=P
 par:∀ x ∈ P,sc.names.lookup x=some .local \/ sc.names.lookup x=some .cell
 nofree:∀ y ∈ sc.names,y.2 ≠ .free
def zir {kindOf:Str -> Option NameKind} {x:Str}:∀ {binds:List (Str × Value)} {m:Str -> Option Value},(∀ v,(x,v) ∉ binds) -> bindL kindOf binds m x=m x
 | [],_,_=>rfl
 | (n,v) :: r,m,h=>by
  unfold bindL;rw [zir λ w hw=>h w (yau _ hw)]
  split
  ·have : x ≠ n := by rintro rfl; exact h v yaC
   simp [this]
  ·rfl
def zhT {kindOf:Str -> Option NameKind} {x:Str}:∀ {binds:List (Str × Value)} {m:Str -> Option Value},(∀ v,(x,v) ∉ binds) -> bindC kindOf binds m x=m x
 | [],_,_=>rfl
 | (n,v) :: r,m,h=>by
  unfold bindC;rw [zhT λ w hw=>h w (yau _ hw)]
  split
  ·rfl
  ·have : x ≠ n := by rintro rfl; exact h v yaC
   simp [this]
def zig {kindOf:Str -> Option NameKind} {x:Str} {v:Value}:∀ {P:List Str} {vs:List Value} {i:Nat} {m:Str -> Option Value},P.Nodup -> P[i]?=some x -> vs[i]?=some v -> kindOf x=some .local ->
    bindL kindOf (P.zip vs) m x=some v
  | [],_,_,_,_,h,_,_=>by simp at h
  | _ :: _,[],_,_,_,_,h,_=>by simp at h
  | p :: P,w :: vs,0,m,nd,h1,h2,hk=>by
    simp at h1 h2; subst h1; subst h2;show bindL kindOf ((p,w) :: P.zip vs) m p=_;unfold bindL;rw [zir λ v hv=>(ych.mp nd).1 (List.of_mem_zip hv).1,if_pos hk];simp
  | p :: P,w :: vs,i + 1,m,nd,h1,h2,hk=>by
    show bindL kindOf ((p,w) :: P.zip vs) m x=_;unfold bindL;exact zig (i:=i) (ych.mp nd).2 (by simpa using h1) (by simpa using h2) hk
def zhG {kindOf:Str -> Option NameKind} {x:Str} {v:Value}:∀ {P:List Str} {vs:List Value} {i:Nat} {m:Str -> Option Value},P.Nodup -> P[i]?=some x -> vs[i]?=some v -> kindOf x ≠ some .local ->
    bindC kindOf (P.zip vs) m x=some v
  | [],_,_,_,_,h,_,_=>by simp at h
  | _ :: _,[],_,_,_,_,h,_=>by simp at h
  | p :: P,w :: vs,0,m,nd,h1,h2,hk=>by
    simp at h1 h2; subst h1; subst h2;show bindC kindOf ((p,w) :: P.zip vs) m p=_;unfold bindC;rw [zhT λ v hv=>(ych.mp nd).1 (List.of_mem_zip hv).1,if_neg hk];simp
  | p :: P,w :: vs,i + 1,m,nd,h1,h2,hk=>by
    show bindC kindOf ((p,w) :: P.zip vs) m x=_;unfold bindC;exact zhG (i:=i) (ych.mp nd).2 (by simpa using h1) (by simpa using h2) hk
noncomputable def start (N:List Str) (vs:List V):St:=vs.map some ++ List.replicate (N.length - vs.length) none
noncomputable def cxOf (CX:CXT) (P:Program) (w:World) (K:PySem.W.Frag) (mg:Str -> Option Value) (base:Heap) (N:List Str) (qual:Str) (scope:Scope) (f:Addr) (cd:Value) (A:Around) (outer:List Env) (s:Shared) (H:Hp) (E:XK):Cx where
 prog:=P
 w:=w
 K:=K
 mg:=mg
 base:=base
 A:=A.deeper (envOfC qual scope s.heap.objs.size f cd)
 N:=N
 s₀:=s
 H₀:=H
 env:=envOfC qual scope s.heap.objs.size f cd
 outer:=outer
 stack:=envOfC qual scope s.heap.objs.size f cd :: outer
 ex:=[]
 calm:=true
 fn:=λ _=>true
 pn:=[]
 xe:=λ e s'=>wpAny (model P w) (A.deeper (envOfC qual scope s.heap.objs.size f cd)) (leaving (envOfC qual scope s.heap.objs.size f cd) e) (λ _ s''=>CX outer H s E e s'') (λ e' s''=>CX outer H s E e' s'') s'
def zjc {sc:Scope} {n:Nat} {x:Str} (h:sc.names.lookup x=some .cell):∃ c,(cellsFrom n sc.names []).lookup x=some c:=by
 have q:=PySem.W.cellsFrom_some sc.names n [] (.inl h);exact ycc.mp q
def zmr {CX:CXT} {P:Program} {w:World} {K:PySem.W.Frag} {mg:Str -> Option Value} {base:Heap} {N ps:List Str} {qual:Str} {scope:Scope} {f:Addr} {cd:Value} {A:Around} {outer:List Env} {s s1:Shared} {H:Hp} {E:XK} {us:List Value} {vs:List V}
    (S:FnScope N ps scope) (hd:A.handled=none) (e0:Env0 P w K mg base A outer s H) (hl:vs.length=ps.length) (r:Vals vs us)
    (x:InCallC s s.heap.objs.size (bindL (envOfC qual scope s.heap.objs.size f cd).kindOf (ps.zip us) λ _=>none) (cellsFrom (s.heap.objs.size + 1) scope.names []) (bindC (envOfC qual scope s.heap.objs.size f cd).kindOf (ps.zip us) λ _=>none) s1) :
    Inv (cxOf CX P w K mg base N qual scope f cd A outer s H E) [] (start N vs) H s1:=by
  have hpl:ps.length <= N.length:=by have:=congrArg List.length S.pre; rw [yaV] at this; omega
  obtain ⟨h1,tk,rfl,hk⟩:=x.done;have noA:∀ b:Addr,b ∉ (cxOf CX P w K mg base N qual scope f cd A outer s H E).ex:=λ b z=>absurd (show b ∈ ([]:List Addr) from z) (5:)
  refine ⟨⟨e0.mod,S.kind,rfl,rfl,yag _,λ y z c h1 h2=>?_,λ y hy=>?_,λ y c _ h=>?_,λ _=>hd,Around.frames_deeper e0.frames,.inr ⟨rfl,rfl⟩,λ b z=>absurd z (noA b),e0.bs,e0.bsz,λ b _ _=>noA b,λ b z=>absurd z (noA b),e0.funs,e0.frf⟩,
    rfl,e0.bare,Un.kept hk,⟨_,x.toInCall.ns,λ i y v h1 h2 h3=>?_⟩,λ y c h=>⟨_,x.cell y c h⟩,e0.hok.fresh (yag _),λ y c h=>?_,λ p hp=>absurd (show p ∈ ([]:List (Addr × Obj)) from hp) (5:),e0.hok.kept hk,?_⟩
  · exact name_of_addr x.apart (ybs h1) (ybs h2)
  · have hy : scope.names.lookup y = some .cell \/ scope.names.lookup y = some .free := hy;rcases hy with hy | hy
    · exact zjc hy
    · exact absurd rfl (S.nofree _ (ybs hy))
  · exact yaE (x.above y c (ybs h))
  · have hi:i < vs.length:=by
      unfold start at h2;by_cases hi:i < vs.length
      · exact hi
      · rw [yaT (62:)] at h2;rw [ybB] at h2
        split at h2 <;> cases h2
    have ha:vs[i]?=some v:=by
      unfold start at h2;rw [yaO (62:),yan] at h2;cases e:vs[i]? with
      | none=>rw [e] at h2; cases h2
      | some a=>rw [e] at h2; cases h2; rfl
    obtain ⟨u,hu,rv⟩:=r.get ha
    have hp:ps[i]?=some y:=by
      rw [<- S.pre,List.getElem?_take_of_lt (1:)]; exact h1
    have ndP:ps.Nodup:=by rw [<- S.pre]; exact S.nd.sublist (List.take_sublist _ _)
    refine ⟨u,rv,?_⟩;rcases S.par y (yar hp) with k | k
    · exact .inl ⟨k,zig ndP hp hu k⟩
    · obtain ⟨c,e⟩:=zjc (n:=s.heap.objs.size + 1) k;refine .inr ⟨.inl k,c,e,?_⟩;have q:=x.cell y c e;rw [zhG ndP hp hu (by show scope.names.lookup y ≠ _; rw [k]; decide)] at q;exact q
  · exact e0.hok.fresh (yaE (x.above y c (ybs h)))
  · unfold start;show _=N.length;rw [yam,yaa,ycA];omega
def zri {CX:CXT} {P:Program} {w:World} {K:PySem.W.Frag} {mg:Str -> Option Value} {base:Heap} {k:Nat} {f:Addr} {name qual:Str} {params:Arguments} {body:List Stmt} {scope:Scope} {dV kV doc pm cdv ct oc:Value} {an od:Option Addr}
    {osl:Array (Option Value)} {N ps:List Str} {sp:Sp} (lk:K.lookup f=some ⟨oc,od,.func (PySem.W.fnOf name qual params body scope dV kV doc pm an cdv ct),osl⟩) (hcd:PySem.W.codeIn K cdv qual=true) (S:FnScope N ps scope)
    (len:∀ vs H Q E,sp vs H Q E -> vs.length=ps.length)
    (hbody:∀ (A:Around) (outer:List Env) (s:Shared) (H:Hp) (vs:List V) (Q:VK) (E:XK),Room k (A.deeper (envOfC qual scope s.heap.objs.size f cdv)) -> sp vs H Q E ->
      ∃ t,PSs (cxOf CX P w K mg base N qual scope f cdv A outer s H E) body t /\ t { nx:=λ _ H'=>Q .non H',rt:=Q } (start N vs) H) :
    FnOk P w K mg base CX (k + 1) f (PySem.W.fnOf name qual params body scope dV kV doc pm an cdv ct) ps sp:=by
  refine ⟨len,λ A outer s H args us vs Q E hr e0 hb r hsp=>?_⟩;have hl:=len _ _ _ _ hsp;have KX:K.In s.heap:=e0.mod.kin.keeps λ b o e=>(e0.bs b o e).1;have lim:s.heap.NoLimit:=e0.mod.nolimit.keeps λ b o e=>(e0.bs b o e).1
  have hkind:∀ y ∈ ps.zip us,scope.names.lookup y.1=some .local \/ (scope.names.lookup y.1=some .cell /\ ((cellsFrom (s.heap.objs.size + 1) scope.names []).lookup y.1).isSome=true):=λ ⟨n,v⟩ hy=>by
    rcases S.par n (List.of_mem_zip hy).1 with q | q
    · exact .inl q
    · exact .inr ⟨q,PySem.W.cellsFrom_some _ _ _ (.inl q)⟩
  refine codeAny_call_function hr.depth (KX _ _ lk) rfl S.co S.gen rfl (PySem.W.codeRec_of KX hcd) (hb _ _ _ _ ?_);refine wpAny_newFunctionEnv_cells S.kind hkind λ env he s1 x=>?_;subst he;refine ⟨lim.keeps x.toInCall.keep,codeAny_func ?_⟩;obtain ⟨t,ht,hq⟩:=hbody A outer s H vs Q E (hr.deeper _) hsp;have I:Inv (cxOf CX P w K mg base N qual scope f cdv A outer s H E) [] (start N vs) H s1:=zmr S hr.hd e0 hl r x;refine wpAny_mono (ht [] s1 (start N vs) H _ I hq) (λ fl s' hs=>?_) λ e s' hs=>hs
  have fin:∀ {σ':St} {H':Hp} {v:V} {u:Value},Inv (cxOf CX P w K mg base N qual scope f cdv A outer s H E) [] σ' H' s' -> RelV v u -> Q v H' -> CE outer P w H s Q u s':=
    λ {σ' H' v u} J rv q=>⟨v,H',J.os,J.bare,J.base,J.hok,rv,q⟩
  cases fl with
  | ret u=>
    obtain ⟨v,σ',H',J,rv,q⟩:=hs;exact fin J rv q
  | next=>
    obtain ⟨σ',H',J,q⟩:=hs;exact fin (v:=V.non) (u:=Value.none) J rfl q
  | brk=>
    obtain ⟨_,_,_,q⟩:=hs;exact False.elim q
  | cont=>
    obtain ⟨_,_,_,q⟩:=hs;exact False.elim q
section
variable {X:Cx} {x:Str} {p pos:Pos} {e:Expr} {es:List Expr} {t:TA} {id T:String} {r:List V -> Hp -> VK -> Prop}
noncomputable def tCB (r:List V -> Hp -> VK -> Prop) (t:TA):TE:=λ σ H Q=>t σ H λ vs H1=>r vs H1 Q
def zau (hc:zb1 X (.builtin id) r) (hg:Gl X x) (hm:X.mg x=none) (hv:bootBuiltins x=some (.builtin id)) (ha:PA X (e :: es) t) (hn:x ≠ "__name__":=by decide) (hdb:(x == ("__debug__":Str))=false:=by decide)
  (he:starEach (e :: es) X.env=(false,eval e X.env) :: starEach es X.env:=by rfl) (hpl:(backTo pos (starEach es X.env)).any (·.1)=false:=by rfl):PE X (.Call (.Name x p) (e :: es) [] pos) (tCB r t):=by
 intro pins s σ H Q I h;refine wpAny_Call_Name_kw (zdv I hg hm hv ?_ hn hdb);exact PyProof.Rows.callWith_builtin1 (thn (ha pos pins s σ H _ I h) λ us s1 ⟨vs,H1,I1,r1,q1⟩=>hc pins s1 σ H1 vs us Q I1 r1 q1) he hpl
def zc2 (hc:zb1 X (.type T) r) (hg:Gl X x) (hm:X.mg x=none) (hv:bootBuiltins x=some (.type T)) (ha:PA X (e :: es) t) (hn:x ≠ "__name__":=by decide) (hdb:(x == ("__debug__":Str))=false:=by decide)
  (he:starEach (e :: es) X.env=(false,eval e X.env) :: starEach es X.env:=by rfl) (hpl:(backTo pos (starEach es X.env)).any (·.1)=false:=by rfl):PE X (.Call (.Name x p) (e :: es) [] pos) (tCB r t):=by
 intro pins s σ H Q I h;refine wpAny_Call_Name_kw (zdv I hg hm hv ?_ hn hdb);exact yaX (thn (ha pos pins s σ H _ I h) λ us s1 ⟨vs,H1,I1,r1,q1⟩=>hc pins s1 σ H1 vs us Q I1 r1 q1) he hpl
end
end L2
namespace HT
open PySem PyProof.Rows
section
open PySem.SeqAt
open PySem.AutoSeq1 (wpAny_loadPart')
open PySem.MeetsSeq PySem.MeetsSeq2 PySem.MeetsSeq3
end
section
variable {prog:Program} {w:World} {A:Around} {E:Value -> Shared -> Prop} {s:Shared}
def cat_tup {t b:Addr} {vs ws:List Value} {Q:Value -> Shared -> Prop} (ht:IsTup s.heap t vs.toArray) (hb:IsTup s.heap b ws.toArray) (hv:vs ≠ [])
  (h1:ws=[] -> Q (.ref t) s) (h2:ws ≠ [] -> Q (.ref s.heap.objs.size) { s with heap:=s.heap.push { cls:=.type "tuple",data:=.seq (vs ++ ws).toArray } })
  (hsz:vs.length + ws.length <= sizeLine):wpAny (model prog w) A (binaryOp .Add (.ref t) (.ref b)) Q E s:=by
 obtain ⟨⟨cls,dd,data,sl⟩,ho,hc,n,hd⟩:=id ht;obtain ⟨⟨cls2,dd2,data2,sl2⟩,ho2,hc2,n2,hd2⟩:=id hb;simp only at hc hd hc2 hd2;subst hc hd hc2 hd2;have e:vs.toArray ++ ws.toArray=(vs ++ ws).toArray:=by simp
 by_cases hw:ws=[]
 ·exact concat_meets ⟨_,ho,rfl⟩ ⟨_,ho2,rfl⟩ noFill_tuple_add seq_tuple_add PySem.F.slot_tuple_add PySem.F.entry_tuple_add (PySem.F.args_tuple_add_2 _ _)
   (tuple_addW1 t b vs.toArray ws.toArray n n2 dd dd2 sl sl2 (by simpa using hv) (by simp [hw])) ⟨ho,ho2,h1 hw⟩
 ·refine concat_meets ⟨_,ho,rfl⟩ ⟨_,ho2,rfl⟩ noFill_tuple_add seq_tuple_add PySem.F.slot_tuple_add PySem.F.entry_tuple_add (PySem.F.args_tuple_add_2 _ _)
   (tuple_addW2 t b vs.toArray ws.toArray n n2 dd dd2 sl sl2 (by simpa using hv) (by simpa using hw) (by rw [yap,yap]; exact hsz)) ⟨ho,ho2,?_⟩
  rw [e];exact h2 hw
noncomputable def sIx (n d:Nat):Option Int -> Nat
 | none=>d
 | some v=>if v < 0 then (v + (n:Int)).toNat else min v.toNat n
def sIx_nat (n d k:Nat):sIx n d (some (k:Int))=min k n:=by
 show (if (k:Int) < 0 then ((k:Int) + (n:Int)).toNat else min (k:Int).toNat n)=min k n;rw [if_neg (1:),yaw]
def zpx (n d:Nat) (hd:d <= n) (o:Option Int):sIx n d o <= n:=by
 cases o with
 | none=>exact hd
 | some v=>
  show (if v < 0 then (v + (n:Int)).toNat else min v.toNat n) <= n;by_cases hv:v < 0
  ·rw [if_pos hv]; omega
  ·rw [if_neg hv]; exact Nat.min_le_right _ _
def zlL (v:Int) (n d:Nat):(if v < 0 then max (v + (n:Int)) 0 else min v (n:Int))=((sIx n d (some v):Nat):Int):=by
 show (if v < 0 then max (v + (n:Int)) 0 else min v (n:Int))=(((if v < 0 then (v + (n:Int)).toNat else min v.toNat n):Nat):Int);by_cases hv:v < 0
 ·simp only [if_pos hv]; omega
 ·simp only [if_neg hv]; omega
def zkJ (lo hi:Option Int) (n:Nat):Builtin.Slice.sliceAdjust lo hi 1 (n:Int)=(((sIx n 0 lo:Nat):Int),((sIx n n hi:Nat):Int)):=by
 have h1:¬ ((1:Int) < 0):=by omega
 unfold Builtin.Slice.sliceAdjust;simp only [h1,if_false];refine Prod.ext ?_ ?_
 ·cases lo with
  | none=>rfl
  | some v=>exact zlL v n 0
 ·cases hi with
  | none=>rfl
  | some v=>exact zlL v n n
def zkt (i j:Nat):Builtin.Slice.slicePlaces (i:Int) (j:Int) 1=j - i:=by
 unfold Builtin.Slice.slicePlaces;have h1:(1:Int) > 0:=by omega
 simp only [h1,if_true,Int.ediv_one]
 split <;> omega
def zgs {v:Value} {o:Option Int} {Q:Option Int -> Shared -> Prop} (p:IsPart v o) (h:Q o s):wpAny (model prog w) A (Builtin.Slice.slicePartIndex v) Q E s:=by
 cases p with
 | none=>exact slicePart_none h
 | int i t=>exact slicePart_int h
def ze3 {sl:Addr} {vl vu:Value} {lo hi:Option Int} {n:Nat} {Q:Int × Int × Nat -> Shared -> Prop} (hs:s.heap.IsSliceOf sl vl vu .none) (pl:IsPart vl lo) (pu:IsPart vu hi)
  (h:Q (((sIx n 0 lo:Nat):Int),1,sIx n n hi - sIx n 0 lo) s):wpAny (model prog w) A (Builtin.Slice.sliceApplied (.ref sl) (pure (n:Int))) Q E s:=by
 obtain ⟨os,hos,hcs,hds⟩:=id hs;unfold Builtin.Slice.sliceApplied Builtin.Slice.sliceFields;refine wpAny_bind (wpAny_bind (wpAny_field hos hds (x:=vl) rfl (wpAny_bind (wpAny_field hos hds (x:=vu) rfl (wpAny_bind (wpAny_field hos hds (x:=.none) rfl (wpAny_pure ?_)))))));refine wpAny_bind (slicePart_none ?_);show wpAny _ _ (if ((1:Int) == 0)=true then _ else _) _ _ s;rw [if_neg (3:)];refine wpAny_bind (zgs pl (wpAny_bind (zgs pu (wpAny_bind (wpAny_pure ?_)))));show wpAny _ _ (match Builtin.Slice.sliceAdjust lo hi 1 (n:Int) with | (lo,hi)=>pure (lo,(1:Int),Builtin.Slice.slicePlaces lo hi 1)) _ _ s
 rw [zkJ lo hi n];show wpAny _ _ (pure (((sIx n 0 lo:Nat):Int),(1:Int),Builtin.Slice.slicePlaces ((sIx n 0 lo:Nat):Int) ((sIx n n hi:Nat):Int) 1)) _ _ s;rw [zkt];exact wpAny_pure h
def zmS (xs:Array Value) (i k:Nat):((List.range k).filterMap λ (m:Nat)=>xs[((i:Int) + (m:Int) * 1).toNat]?).toArray=((xs.toList.drop i).take k).toArray:=by
 have e:(λ (m:Nat)=>xs[((i:Int) + (m:Int) * 1).toNat]?)=λ m=>xs[i + m]?:=by
  funext m
  have:((i:Int) + (m:Int) * 1).toNat=i + m:=by omega
  rw [this]
 rw [e];have:=pick_run xs i k;rw [List.filterMap_map] at this;have e2:((λ x=>xs[x]?) ∘ λ x=>i + x)=λ m=>xs[i + m]?:=rfl;rw [e2] at this;rw [this]
def getItem_tuple_cut {t sl:Addr} {items:Array Value} {vl vu:Value} {lo hi:Option Int} {Q:Value -> Shared -> Prop} (ht:IsTup s.heap t items) (hs:s.heap.IsSliceOf sl vl vu .none) (pl:IsPart vl lo) (pu:IsPart vu hi)
  (hw:¬ (sIx items.size 0 lo=0 /\ sIx items.size items.size hi=items.size))
  (h:Q (.ref s.heap.objs.size) { s with heap:=s.heap.push { cls:=.type "tuple",data:=.seq ((items.toList.drop (sIx items.size 0 lo)).take (sIx items.size items.size hi - sIx items.size 0 lo)).toArray } })
  (hsz:items.size <= sizeLine):wpAny (model prog w) A (getItem (.ref t) (.ref sl)) Q E s:=by
 have htake:sizeOk (.seq ((items.toList.drop (sIx items.size 0 lo)).take (sIx items.size items.size hi - sIx items.size 0 lo)).toArray):=by
  show ((items.toList.drop (sIx items.size 0 lo)).take (sIx items.size items.size hi - sIx items.size 0 lo)).toArray.size <= sizeLine;rw [yap,yaV,List.length_drop,yaM];omega
 have hj:sIx items.size items.size hi <= items.size:=zpx _ _ (yag _) hi;obtain ⟨os,hos,hcs,hds⟩:=id hs;have hTs:s.TypeIs (.ref sl) "slice":=⟨os,hos,hcs⟩
 unfold getItem
 try with_reducible refine wpAny_holding ?_
 first | refine wpAny_bind (wpAny_pure ?_) | skip
 refine wpAny_bind (wpAny_sequenceKey ht.typeIs (3:) ?_)
 refine wpAny_bind (wpAny_callSpecial?_slot (name:=Str.ofString "__getitem__") ht.typeIs ybO
  (wpAny_call_entry ybO ht.typeIs entry_tuple_getitem ?_ (args_tuple_getitem _ _)))
 show wpAny _ _ (Builtin.Tuple.tupleItemsOf (.ref t) >>= _) _ _ s;refine wpAny_bind (tupleItemsOf_ ht ?_);refine wpAny_bind (wpAny_typeOf hTs ?_);rw [if_pos (3:)];refine wpAny_bind (ze3 hs pl pu ?_)
 have hno:¬ ((((sIx items.size 0 lo:Nat):Int) == 0 && (1:Int) == 1 && (sIx items.size items.size hi - sIx items.size 0 lo) == items.size)=true):=by
  intro q;rw [yad,yad] at q;have q1:((sIx items.size 0 lo:Nat):Int)=0:=eq_of_beq q.1.1;have q2:sIx items.size items.size hi - sIx items.size 0 lo=items.size:=eq_of_beq q.2;exact hw ⟨by omega,by omega⟩
 show wpAny _ _ (if (((sIx items.size 0 lo:Nat):Int) == 0 && (1:Int) == 1 && (sIx items.size items.size hi - sIx items.size 0 lo) == items.size)=true then _ else _) _ _ s;rw [if_neg hno,zmS]
 first
  | exact wpAny_bind (m:=Builtin.Tuple.tupleExact _) (wpAny_newObj_type (wpAny_pure ⟨_,rfl,wpAny_pure h⟩) htake)
  | exact wpAny_bind (m:=Builtin.Tuple.tupleExact _) (wpAny_newObj_type (wpAny_bind (wpAny_pure (wpAny_pure ⟨_,rfl,wpAny_pure h⟩))) htake)
  | exact wpAny_bind (wpAny_bind (m:=Builtin.Tuple.tupleExact _) (wpAny_newObj_type (wpAny_pure (wpAny_pure ⟨_,rfl,wpAny_pure h⟩)) htake))
  | exact wpAny_bind (wpAny_bind (m:=Builtin.Tuple.tupleExact _) (wpAny_newObj_type (wpAny_pure ⟨_,rfl,wpAny_pure h⟩) htake))
end
end HT
namespace L2
open PySem PySem.Spec PyProof.Rows
noncomputable abbrev TO:=St -> Hp -> (Option Int -> Hp -> Prop) -> Prop
noncomputable def PO (X:Cx) (e:Option Expr) (t:TO):Prop:=
 ∀ (pins:List (Addr × Obj)) (s:Shared) (σ:St) (H:Hp) (Q:Option Int -> Hp -> Prop),Inv X pins σ H s -> t σ H Q ->
  wpAny (model X.prog X.w) X.A (evalPart e X.env) (λ u s'=>∃ o H',Inv X pins σ H' s' /\ IsPart u o /\ Q o H') X.xe s
noncomputable def zlx:TO:=λ _ H Q=>Q none H
noncomputable def zqL (t:TE):TO:=λ σ H Q=>t σ H λ x H1=>∃ i,x=.int i /\ Q (some i) H1
section
variable {X:Cx} {e:Expr} {te:TE} {lo hi:Option Expr} {tl th:TO} {pos p2:Pos}
def zmn:PO X none zlx:=by
 intro pins s σ H Q I h;rw [evalPart_none];exact wpAny_pure ⟨none,H,I,.none,h⟩
def zmp (h:PE X e te):PO X (some e) (zqL te):=by
 intro pins s σ H Q I hw;rw [evalPart_some];refine thn (h pins s σ H _ I hw) λ u s1 ⟨x,H1,I1,r1,q1⟩=>?_;obtain ⟨i,rfl,q⟩:=q1;obtain ⟨t,rfl⟩:=r1;exact ⟨some i,H1,I1,.int i t,q⟩
noncomputable def SlR (X:Cx) (r:V -> Option Int -> Option Int -> Hp -> VK -> Prop):Prop:=
 ∀ (pins:List (Addr × Obj)) (s:Shared) (σ:St) (H:Hp) (x:V) (v vl vu:Value) (lo hi:Option Int) (sl:Addr) (Q:VK),Inv X pins σ H s -> RelV x v -> s.heap.IsSliceOf sl vl vu .none -> IsPart vl lo -> IsPart vu hi -> r x lo hi H Q ->
  ∃ T id,typeLookup (.type T) "__getitem__"=pure (some (.builtin id)) /\ s.TypeIs v T /\ wpAny (model X.prog X.w) X.A (getItem v (.ref sl)) (EP X pins σ Q) X.xe s
def SlR.or {r r':V -> Option Int -> Option Int -> Hp -> VK -> Prop} (h:SlR X r) (h':SlR X r'):SlR X (λ x lo hi H Q=>r x lo hi H Q \/ r' x lo hi H Q):=by
 intro pins s σ H x v vl vu lo hi sl Q I rx hs pl pu q;rcases q with q | q
 ·exact h pins s σ H x v vl vu lo hi sl Q I rx hs pl pu q
 ·exact h' pins s σ H x v vl vu lo hi sl Q I rx hs pl pu q
noncomputable def tSl (r:V -> Option Int -> Option Int -> Hp -> VK -> Prop) (te:TE) (tl th:TO):TE:=λ σ H Q=>te σ H λ x H1=>tl σ H1 λ l H2=>th σ H2 λ u H3=>r x l u H3 Q
def zjU {r:V -> Option Int -> Option Int -> Hp -> VK -> Prop} (hr:SlR X r) (he:PE X e te) (hl:PO X lo tl) (hu:PO X hi th):PE X (.Subscript e (.Slice lo hi none p2) pos) (tSl r te tl th):=by
 intro pins s σ H Q I h;refine Subscript_ (thn (he pins s σ H _ I h) λ v s1 ⟨x,H1,I1,r1,q1⟩=>?_);refine wpAny_Slice (thn (hl pins s1 σ H1 _ I1 q1) λ vl s2 ⟨l,H2,I2,pl,q2⟩=>thn (hu pins s2 σ H2 _ I2 q2) λ vu s3 ⟨u,H3,I3,pu,q3⟩=>?_);rw [evalPart_none];refine wpAny_pure ?_;have I4:Inv X pins σ H3 { s3 with heap:=s3.heap.push { cls:=.type "slice",data:=.fields #[vl,vu,.none] } }:=I3.kept (t':=s3.toks) λ b ob q=>yae _ q;obtain ⟨T,id,hT,ht,hg⟩:=hr pins { s3 with heap:=s3.heap.push { cls:=.type "slice",data:=.fields #[vl,vu,.none] } } σ H3 x v vl vu l u s3.heap.objs.size Q I4 r1 (Heap.IsSliceOf.new ..) pl pu q3;show wpAny (model X.prog X.w) X.A (subscriptTail e (.Slice lo hi none p2) v (.ref s3.heap.objs.size)) (EP X pins σ Q) X.xe { s3 with heap:=s3.heap.push { cls:=.type "slice",data:=.fields #[vl,vu,.none] } };exact tail_any (ops:=[.ref s3.heap.objs.size,v]) ht hT hg (by with_unfolding_all rfl)
noncomputable def cutV (xs:List V) (lo hi:Option Int):List V:=(xs.drop (HT.sIx xs.length 0 lo)).take (HT.sIx xs.length xs.length hi - HT.sIx xs.length 0 lo)
def zfo (xs:List V) (lo hi:Option Int):(cutV xs lo hi).length <= xs.length:=by
 unfold cutV;rw [yaV,List.length_drop];omega
noncomputable def rSlT (K:PySem.W.Frag):V -> Option Int -> Option Int -> Hp -> VK -> Prop:=λ x lo hi H Q=>∃ a xs,x=.ref a /\ SqT K H a xs /\
 ¬ (HT.sIx xs.length 0 lo=0 /\ HT.sIx xs.length xs.length hi=xs.length) /\ ∀ p,H p=none -> Q (.ref p) (upd H p (.tup (cutV xs lo hi)))
def zq1:SlR X (rSlT X.K):=by
 intro pins s σ H x v vl vu lo hi sl Q I rx hs pl pu h;obtain ⟨a,xs,rfl,hx,hw,q⟩:=h;cases rx;obtain ⟨its,r,ht,hz⟩:=I.tuple hx;have hlen:its.toArray.size=xs.length:=by rw [yap]; exact r.length.symm
 refine ⟨"tuple",_,ybO.lookup,ht.typeIs,?_⟩;refine HT.getItem_tuple_cut ht hs pl pu (by rw [hlen]; exact hw) ?_ (by rw [hlen]; exact hz);rw [hlen];refine ⟨.ref s.heap.objs.size,_,I.laid (t':=s.toks) (o:=.tup (cutV xs lo hi)) (λ b ob q=>yae _ q) (yag _) ?_,rfl,q _ (I.hok.fresh (yag _))⟩;exact ⟨ya5 (zfo xs lo hi) hz,_,(r.drop (HT.sIx xs.length 0 lo)).take (HT.sIx xs.length xs.length hi - HT.sIx xs.length 0 lo),zbm.new _ _⟩
noncomputable def zqg (K:PySem.W.Frag):R2:=λ x y H Q=>∃ a b xs ys,x=.ref a /\ y=.ref b /\ SqT K H a xs /\ SqT K H b ys /\ xs ≠ [] /\ xs.length + ys.length <= sizeLine /\
 (ys=[] -> Q (.ref a) H) /\ (ys ≠ [] -> ∀ p,H p=none -> Q (.ref p) (upd H p (.tup (xs ++ ys))))
def Vals.nil_iff {xs:List V} {us:List Value} (r:Vals xs us):us=[] ↔ xs=[]:=by
 cases r with
 | nil=>simp
 | cons _ _=>simp
def zoy:OpR X (binaryOp .Add) (zqg X.K):=by
 intro pins s σ H x y v u Q I rx ry h;obtain ⟨a,b,xs,ys,rfl,rfl,ha,hb,hx,hz,q1,q2⟩:=h;cases rx;cases ry;obtain ⟨its,r1,p1,_⟩:=I.tuple ha;obtain ⟨its2,r2,p2,_⟩:=I.tuple hb;refine HT.cat_tup p1 p2 (λ z=>hx (r1.nil_iff.mp z)) (λ z=>⟨.ref a,H,I,rfl,q1 (r2.nil_iff.mp z)⟩) (λ z=>?_) (by rw [<- r1.length,<- r2.length]; exact hz);refine ⟨.ref s.heap.objs.size,_,I.laid (t':=s.toks) (o:=.tup (xs ++ ys)) (λ b ob q=>yae _ q) (yag _) ?_,rfl,q2 (λ w=>z (r2.nil_iff.mpr w)) _ (I.hok.fresh (yag _))⟩;exact ⟨by rw [yam]; exact hz,_,r1.append r2,zbm.new _ _⟩
end
noncomputable def ixN (n:Nat) (i:Int):Option Nat:=if 0 <= i then (if i < n then some i.toNat else none) else if -(n:Int) <= i then some (i + n).toNat else none
noncomputable def atI {α:Type} (xs:List α) (i:Int):Option α:=(ixN xs.length i).bind λ j=>xs[j]?
def zl0 {n:Nat} {i:Int} {j:Nat} (h:ixN n i=some j):seqIndex? i n=some j /\ j < n /\ -(n:Int) <= i /\ i < n:=by
 unfold ixN at h;by_cases h0:0 <= i
 ·rw [if_pos h0] at h;by_cases h1 : i < n
  ·rw [if_pos h1] at h;have e:i.toNat=j:=Option.some.inj h;exact ⟨by rw [seqIndex_of h0 h1,e],by omega,by omega,h1⟩
  ·rw [if_neg h1] at h; cases h
 ·rw [if_neg h0] at h;by_cases h1 : -(n : Int) <= i
  ·rw [if_pos h1] at h;have e:(i + n).toNat=j:=Option.some.inj h;exact ⟨by rw [seqIndex_neg (1:) h1,e],by omega,h1,by omega⟩
  ·rw [if_neg h1] at h; cases h
def ziJ {α:Type} {xs:List α} {i:Int} {v:α} (h:atI xs i=some v):∃ j,seqIndex? i xs.length=some j /\ xs[j]?=some v /\ j < xs.length /\ -(xs.length:Int) <= i /\ i < xs.length:=by
 unfold atI at h;cases e:ixN xs.length i with
 | none=>rw [e] at h; cases h
 | some j=>
  rw [e] at h;obtain ⟨h1,h2,h3,h4⟩:=zl0 e;exact ⟨j,h1,h,h2,h3,h4⟩
def zlw {α:Type} {xs:List α} {j:Nat} {v:α} (h:xs[j]?=some v):atI xs (j:Int)=some v:=by
 have hj:j < xs.length:=(yaj.mp h).1
 have e:ixN xs.length (j:Int)=some j:=by
  unfold ixN;rw [if_pos (1:),if_pos (1:)]; simp
 unfold atI; rw [e]; exact h
noncomputable def zos (b:Expr):Prop:=∀ o i,subscripted b false o i=operate [o,i] (getItem o i)
noncomputable def IxR (X:Cx) (r:R2):Prop:=
 ∀ (value slice:Expr) (pins:List (Addr × Obj)) (s:Shared) (σ:St) (H:Hp) (x y:V) (v u:Value) (Q:VK),Inv X pins σ H s -> RelV x v -> RelV y u -> r x y H Q ->
  subscripted slice false v u=operate [v,u] (getItem v u) -> wpAny (model X.prog X.w) X.A (subscriptTail value slice v u) (EP X pins σ Q) X.xe s
noncomputable def MtR (X:Cx) (id:String) (r:V -> List V -> Hp -> VK -> Prop):Prop:=
 ∀ (pins:List (Addr × Obj)) (s:Shared) (σ:St) (H:Hp) (x:V) (xs:List V) (v:Value) (us:List Value) (Q:VK),Inv X pins σ H s -> RelV x v -> Vals xs us -> r x xs H Q ->
  wpAny (model X.prog X.w) X.A (call (.builtin id) (v :: us)) (EP X pins σ Q) X.xe s
section
variable {X:Cx} {a b:Expr} {ta tb:TE} {pos:Pos}
def IxR.or {r r':R2} (h:IxR X r) (h':IxR X r'):IxR X (λ x y H Q=>r x y H Q \/ r' x y H Q):=by
 intro value slice pins s σ H x y v u Q I rx ry q hs;rcases q with q | q
 ·exact h value slice pins s σ H x y v u Q I rx ry q hs
 ·exact h' value slice pins s σ H x y v u Q I rx ry q hs
def zav {r:R2} (hr:IxR X r) (ha:PE X a ta) (hb:PE X b tb) (hs:zos b):PE X (.Subscript a b pos) (tOp r ta tb):=by
 intro pins s σ H Q I h;exact Subscript_ (binT ha hb I h λ v u s2 x y H2 I2 rx ry q=>hr a b pins s2 σ H2 x y v u Q I2 rx ry q (hs _ _))
noncomputable def rIxL (K:PySem.W.Frag):R2:=λ x y H Q=>∃ p xs i v,x=.ref p /\ y=.int i /\ SqL K H p xs /\ atI xs i=some v /\ Q v H
noncomputable def rIxT (K:PySem.W.Frag):R2:=λ x y H Q=>∃ p xs i v,x=.ref p /\ y=.int i /\ SqT K H p xs /\ atI xs i=some v /\ Q v H
noncomputable def rIxS:R2:=λ x y H Q=>∃ z i c,x=.str z /\ y=.int i /\ z.length <= sizeLine /\ atI z.cps.toList i=some c /\ Q (.str ⟨#[c]⟩) H
def zov:IxR X (rIxL X.K):=by
 intro value slice pins s σ H x y v u Q I rx ry h hs;obtain ⟨p,xs,i,z,rfl,rfl,hq,he,q⟩:=h;cases rx;obtain ⟨t,rfl⟩:=ry;obtain ⟨its,r,pl,hz⟩:=I.list hq;obtain ⟨j,h1,h2,h3,h4,h5⟩:=ziJ he;obtain ⟨w,ew,rw'⟩:=r.get h2;have hl:=r.length;have hn:=zhx;have fin:EP X pins σ Q w s:=⟨z,H,I,rw',q⟩
 by_cases h0:0 <= i
 ·have hj:i.toNat=j:=by
   rw [seqIndex_of h0 h5] at h1;exact Option.some.inj h1
  exact item_listR pl.isList h0 (1:) (by rw [hj]; simpa using ew) fin hs
 ·have hj:(i + (its.toArray.size:Int)).toNat=j:=by
   rw [seqIndex_neg (1:) h4] at h1;rw [yap,<- hl];exact Option.some.inj h1
  exact subscriptTail_builtinR (x:=w) pl.isList.typeIs slot_list_getitem.lookup
   (wpAny_getItem_list_neg (Q:=λ r s'=>r=w /\ EP X pins σ Q r s') pl.isList (1:) (by rw [yap] <;> omega) (1:) (by rw [hj]; simpa using ew) ⟨rfl,fin⟩) hs
def zqN:IxR X (rIxT X.K):=by
 intro value slice pins s σ H x y v u Q I rx ry h hs;obtain ⟨p,xs,i,z,rfl,rfl,hq,he,q⟩:=h;cases rx;obtain ⟨t,rfl⟩:=ry;obtain ⟨its,r,pl,hz⟩:=I.tuple hq;obtain ⟨j,h1,h2,h3,h4,h5⟩:=ziJ he;obtain ⟨w,ew,rw'⟩:=r.get h2;have hl:=r.length;have hn:=zhx;have fin:EP X pins σ Q w s:=⟨z,H,I,rw',q⟩
 exact subscriptTail_builtinR (x:=w) pl.typeIs slot_tuple_getitem.lookup
  (getItem_tuple (j:=j) (Q:=λ r s'=>r=w /\ EP X pins σ Q r s') pl (1:) (1:) (by rw [yap,<- hl]; exact h1) (by simpa using ew) ⟨rfl,fin⟩) hs
def zpg:IxR X rIxS:=by
 intro value slice pins s σ H x y v u Q I rx ry h hs;obtain ⟨z,i,c,rfl,rfl,hz,he,q⟩:=h;obtain ⟨t,rfl⟩:=rx;obtain ⟨t',rfl⟩:=ry;obtain ⟨j,h1,h2,h3,h4,h5⟩:=ziJ he;have hl:z.cps.toList.length=z.length:=by simp [Str.length]
 rw [hl] at h1 h4 h5;have hn:=zhx
 exact tail_any (typeIs_str s z t) slot_str_getitem.lookup (getItem_str (c:=c) (by
  have e1:decide (i < -(2 ^ 63:Int))=false:=decide_eq_false (1:);have e2:decide (i >= 2 ^ 63)=false:=decide_eq_false (1:);rw [e1,e2,Bool.or_false]) (by rw [h1]; simpa using h2) ⟨.str ⟨#[c]⟩,H,I.tok _,⟨_,rfl⟩,q⟩) hs
noncomputable def rIx (K:PySem.W.Frag):R2:=λ x y H Q=>rIxL K x y H Q \/ rIxT K x y H Q \/ rIxS x y H Q
def zp6:IxR X (rIx X.K):=zov.or (zqN.or zpg)
def zks (its:List Value) (n j:Nat) (u:Value):Obj.mapSeq (·.setIfInBounds j u) { cls:=.type "list",data:=.seq its.toArray n }={ cls:=.type "list",data:=.seq (its.set j u).toArray n }:=by
 simp [Obj.mapSeq]
def Inv.lst {pins:List (Addr × Obj)} {σ:St} {H:Hp} {s:Shared} {p:Addr} {xs:List V} (I:Inv X pins σ H s) (h:H p=some (.lst xs)) :
  ∃ (its:List Value) (n:Nat),Vals xs its /\ s.heap.get? p=some { cls:=.type "list",data:=.seq its.toArray n } /\ xs.length <= sizeLine:=by
 obtain ⟨z,its,n,r,e⟩:=I.hok p _ h;exact ⟨its,n,r,e,z⟩
def Inv.lstUpd {pins:List (Addr × Obj)} {σ:St} {H:Hp} {s:Shared} {p:Addr} {xs ys:List V} {its its':List Value} {n n':Nat} {f:Obj -> Obj} (I:Inv X pins σ H s) (h:H p=some (.lst xs))
  (ho:s.heap.get? p=some { cls:=.type "list",data:=.seq its.toArray n }) (hf:f { cls:=.type "list",data:=.seq its.toArray n }={ cls:=.type "list",data:=.seq its'.toArray n' }) (r:Vals ys its') (hz:ys.length <= sizeLine) (t:Nat) :
  Inv X pins σ (upd H p (.lst ys)) { s with heap:=s.heap.update p f,toks:=t }:=by
 have e:(s.heap.update p f).get? p=some { cls:=.type "list",data:=.seq its'.toArray n' }:=by
  rw [ybG f ho (by rw [hf] <;> rfl),hf]
 refine I.write (x:=p) (e:=p) (by rw [h]; trivial) (.inl rfl) (λ b u hb q=>(ycq _ _ (ycX hb)).trans q) ⟨_,e⟩ ?_;exact ⟨hz,its',n',r,e⟩
noncomputable def zoA:V -> V -> V -> Hp -> (Hp -> Prop) -> Prop:=λ o i v H Q=>∃ p xs k j,o=.ref p /\ i=.int k /\ H p=some (.lst xs) /\ ixN xs.length k=some j /\ Q (upd H p (.lst (xs.set j v)))
def zeb:PSet X zoA:=by
 intro pins s σ H o i v ov iv u Q I ro ri rv h;obtain ⟨p,xs,k,j,rfl,rfl,hp,hj,q⟩:=h;cases ro;obtain ⟨t,rfl⟩:=ri;obtain ⟨its,n,r,ho,hz⟩:=I.lst hp;obtain ⟨h1,h2,h3,h4⟩:=zl0 hj;have hl:=r.length;have hn:=zhx
 have I':Inv X pins σ (upd H p (.lst (xs.set j v))) { s with heap:=s.heap.update p (Obj.mapSeq (·.setIfInBounds j u)) }:=
  I.lstUpd hp ho (zks its n j u) (r.set rv j) (by rw [List.length_set]; exact hz) s.toks
 by_cases h0:0 <= k
 ·have hk:k.toNat=j:=by
   rw [seqIndex_of h0 h4] at h1;exact Option.some.inj h1
  exact PySem.W.ki_setAt ho h0 (1:) (by rw [yap,<- hl]; exact h4) (by rw [hk]; exact ⟨_,I',q⟩)
 ·have hk:(k + (its.toArray.size:Int)).toNat=j:=by
   rw [seqIndex_neg (1:) h3] at h1;rw [yap,<- hl];exact Option.some.inj h1
  exact PySem.W.ki_setBack ho (1:) (by rw [yap,<- hl]; exact h3) (1:) (by rw [hk]; exact ⟨_,I',q⟩)
def zil (lo hi:Option Int) (n:Nat):(sliceBounds lo hi none n).1=((HT.sIx n 0 lo:Nat):Int) /\ (sliceBounds lo hi none n).2.1=((HT.sIx n n hi:Nat):Int) /\ (sliceBounds lo hi none n).2.2=1:=by
 refine ⟨?_,?_,rfl⟩
 ·cases lo with
  | none=>simp [sliceBounds,HT.sIx]
  | some i=>
   simp only [sliceBounds,HT.sIx,Option.getD_none,show (1:Int) > 0 by decide,if_true];by_cases h:i < 0
   ·simp only [h,if_true] <;> omega
   ·simp only [h,if_false] <;> omega
 ·cases hi with
  | none=>simp [sliceBounds,HT.sIx]
  | some i=>
   simp only [sliceBounds,HT.sIx,Option.getD_none,show (1:Int) > 0 by decide,if_true];by_cases h:i < 0
   ·simp only [h,if_true] <;> omega
   ·simp only [h,if_false] <;> omega
def zgP (its:List Value) (lo hi:Option Int):slicePick its.toArray lo hi none=((its.drop (HT.sIx its.length 0 lo)).take (HT.sIx its.length its.length hi - HT.sIx its.length 0 lo)).toArray:=by
 obtain ⟨h1,h2,h3⟩:=zil lo hi its.toArray.size;unfold slicePick;rw [h1,h2,h3];simp only [sliceRange_one,pick_run,yap] <;> rfl
noncomputable def rSlL (K:PySem.W.Frag):V -> Option Int -> Option Int -> Hp -> VK -> Prop:=λ x lo hi H Q=>∃ a xs,x=.ref a /\ SqL K H a xs /\ ∀ p,H p=none -> Q (.ref p) (upd H p (.lst (cutV xs lo hi)))
def zoq:SlR X (rSlL X.K):=by
 intro pins s σ H x v vl vu lo hi sl Q I rx hs pl pu h;obtain ⟨a,xs,rfl,hx,q⟩:=h;cases rx;obtain ⟨its,r,ht,hz⟩:=I.list hx;have hlen:=r.length;refine ⟨"list",_,slot_list_getitem.lookup,ht.isList.typeIs,?_⟩;refine wpAny_getItem_list_slice ht.isList hs pl pu .none (5:) ?_ (by rw [yap] <;> omega);rw [zgP,<- hlen];refine ⟨.ref s.heap.objs.size,_,I.laid (t':=s.toks) (o:=.lst (cutV xs lo hi)) (λ b ob q=>yae _ q) (yag _) ?_,rfl,q _ (I.hok.fresh (yag _))⟩;exact ⟨ya5 (zfo xs lo hi) hz,_,0,(r.drop (HT.sIx xs.length 0 lo)).take (HT.sIx xs.length xs.length hi - HT.sIx xs.length 0 lo),yao _ rfl⟩
noncomputable def zcP:V -> Bool
 | .non=>true
 | .bl _=>true
 | .int _=>true
 | .str _=>true
 | _=>false
noncomputable def eqV:V -> V -> Bool
 | .non,.non=>true
 | .bl a,.bl b=>a == b
 | .bl a,.int b=>(if a then 1 else 0) == b
 | .int a,.bl b=>a == (if b then 1 else 0)
 | .int a,.int b=>a == b
 | .str a,.str b=>a == b
 | _,_=>false
def zpX {A:Around} {s:Shared} {y x:V} {u v:Value} (ry:RelV y u) (rx:RelV x v) (fy:zcP y=true) (fx:zcP x=true):SeqAt.EqAt A s u v (eqV y x):=by
 cases y with
 | non=>
  cases ry;cases x with
  | non=>cases rx; exact SeqAt.EqAt.same _
  | bl b=>cases rx; exact SeqAt.EqAt.none_bool b
  | int b=>obtain ⟨t,rfl⟩:=rx; exact SeqAt.EqAt.none_int b t
  | str b=>obtain ⟨t,rfl⟩:=rx; exact SeqAt.EqAt.none_str b t
  | _=>exact absurd (show false=true from fx) yaD
 | bl a=>
  cases ry;cases x with
  | non=>cases rx; exact SeqAt.EqAt.bool_none a
  | bl b=>cases rx; exact SeqAt.EqAt.bool_bool a b
  | int b=>obtain ⟨t,rfl⟩:=rx; exact SeqAt.EqAt.bool_int a b t
  | str b=>obtain ⟨t,rfl⟩:=rx; exact SeqAt.EqAt.bool_str a b t
  | _=>exact absurd (show false=true from fx) yaD
 | int a=>
  obtain ⟨t',rfl⟩:=ry;cases x with
  | non=>cases rx; exact SeqAt.EqAt.int_none a t'
  | bl b=>cases rx; exact SeqAt.EqAt.int_bool a t' b
  | int b=>obtain ⟨t,rfl⟩:=rx; exact SeqAt.EqAt.int_int a t' b t
  | str b=>obtain ⟨t,rfl⟩:=rx; exact SeqAt.EqAt.int_str a t' b t
  | _=>exact absurd (show false=true from fx) yaD
 | str a=>
  obtain ⟨t',rfl⟩:=ry;cases x with
  | non=>cases rx; exact SeqAt.EqAt.str_none a t'
  | bl b=>cases rx; exact SeqAt.EqAt.str_bool a t' b
  | int b=>obtain ⟨t,rfl⟩:=rx; exact SeqAt.EqAt.str_int a t' b t
  | str b=>obtain ⟨t,rfl⟩:=rx; exact SeqAt.EqAt.str_str a t' b t
  | _=>exact absurd (show false=true from fx) yaD
 | _=>exact absurd (show false=true from fy) yaD
noncomputable def eqU (x:V) (u:Value):Bool:=match u with
 | .none=>eqV .non x
 | .bool b=>eqV (.bl b) x
 | .int i _=>eqV (.int i) x
 | .str z _=>eqV (.str z) x
 | _=>false
def znF {x y:V} {u:Value} (r:RelV y u) (f:zcP y=true):eqU x u=eqV y x:=by
 cases y with
 | non=>cases r; rfl
 | bl b=>cases r; rfl
 | int i=>obtain ⟨t,rfl⟩:=r; rfl
 | str z=>obtain ⟨t,rfl⟩:=r; rfl
 | _=>exact absurd (show false=true from f) yaD
def zfn {x:V}:∀ {xs:List V} {us:List Value},Vals xs us -> xs.all zcP=true -> us.any (eqU x)=xs.any λ y=>eqV y x
 | _,_,.nil,_=>rfl
 | y :: xs,u :: us,.cons r t,f=>by
  rw [List.all_cons,yad] at f;rw [ycL,ycL,znF r f.1,zfn t f.2]
def zec {A:Around} {s:Shared} {x:V} {v:Value} (rx:RelV x v) (fx:zcP x=true):∀ {xs:List V} {us:List Value},Vals xs us -> xs.all zcP=true -> ∀ u ∈ us,SeqAt.EqAt A s u v (eqU x u)
 | _,_,.nil,_=>λ u hu=>by cases hu
 | y :: xs,u :: us,.cons r t,f=>λ u' hu=>by
  rw [List.all_cons,yad] at f;rcases yav.mp hu with rfl | hu
  ·rw [znF r f.1]; exact zpX r rx f.1 fx
  ·exact zec rx fx t f.2 u' hu
noncomputable def inV (x:V) (xs:List V):Bool:=xs.any λ y=>eqV y x
noncomputable def rIn (K:PySem.W.Frag) (neg:Bool):R2:=λ x y H Q=>∃ p xs,y=.ref p /\ (SqL K H p xs \/ SqT K H p xs) /\ zcP x=true /\ xs.all zcP=true /\ Q (.bl (if neg then !inV x xs else inV x xs)) H
def zkY:OpR X (compareOp .In) (rIn X.K false):=by
 intro pins s σ H x y v u Q I rx ry h;obtain ⟨p,xs,rfl,hq,fx,fs,q⟩:=h;cases ry;rcases hq with hq | hq
 ·obtain ⟨its,r,pl,hz⟩:=I.list hq;refine SeqAt.in_listAt (eqU x) pl.isList (λ w hw=>zec rx fx r fs w (by simpa using hw)) ⟨.bl _,H,I,rfl,?_⟩;rw [show its.toArray.any (eqU x)=its.any (eqU x) by simp,zfn r fs];exact q
 ·obtain ⟨its,r,pl,hz⟩:=I.tuple hq;refine SeqAt.in_tupleAt (eqU x) pl (λ w hw=>zec rx fx r fs w (by simpa using hw)) ⟨.bl _,H,I,rfl,?_⟩;rw [show its.toArray.any (eqU x)=its.any (eqU x) by simp,zfn r fs];exact q
def zg6:OpR X (compareOp .NotIn) (rIn X.K true):=by
 intro pins s σ H x y v u Q I rx ry h;obtain ⟨p,xs,rfl,hq,fx,fs,q⟩:=h;cases ry;rcases hq with hq | hq
 ·obtain ⟨its,r,pl,hz⟩:=I.list hq;refine SeqAt.notIn_listAt (eqU x) pl.isList (λ w hw=>zec rx fx r fs w (by simpa using hw)) ⟨.bl _,H,I,rfl,?_⟩;rw [show its.toArray.any (eqU x)=its.any (eqU x) by simp,zfn r fs];exact q
 ·obtain ⟨its,r,pl,hz⟩:=I.tuple hq;refine SeqAt.notIn_tupleAt (eqU x) pl (λ w hw=>zec rx fx r fs w (by simpa using hw)) ⟨.bl _,H,I,rfl,?_⟩;rw [show its.toArray.any (eqU x)=its.any (eqU x) by simp,zfn r fs];exact q
def zgR:zb1 X (.type "tuple") (λ xs H Q=>∃ p ys,xs=[.ref p] /\ ((SqL X.K H p ys /\ ∀ l,H l=none -> Q (.ref l) (upd H l (.tup ys))) \/ (SqT X.K H p ys /\ Q (.ref p) H))):=by
 intro pins s σ H xs us Q I r h;obtain ⟨p,ys,rfl,h⟩:=h;obtain ⟨u,rfl,rx⟩:=zom r;cases rx;rcases h with ⟨hq,q⟩ | ⟨hq,q⟩
 ·obtain ⟨its, r', pl, hz⟩ := I.list hq;have hlen := r'.length;refine call_tuple_list pl.isList (fun h' kp => ?_) (by simp only [yap] <;> omega);have I1 : Inv X pins σ H { s with heap := h' } := I.kept (t' := s.toks) kp
  have I2:Inv X pins σ (upd H h'.objs.size (.tup ys)) { s with heap:=h'.push { cls:=.type "tuple",data:=.seq its.toArray } }:=
   I1.laid (t':=s.toks) (λ b o e=>yae _ e) (yag _) (show zaT X.prog X.w _ _ _ (.tup ys) from ⟨hz,its,r',zbm.new _ _⟩)
  exact ⟨.ref h'.objs.size,_,I2,rfl,q _ (I1.hok.fresh (yag _))⟩
 ·obtain ⟨its,r',pl,hz⟩:=I.tuple hq;exact call_tuple_same pl ⟨.ref p,H,I,rfl,q⟩
noncomputable def tyV (K:PySem.W.Frag) (T:String) (x:V) (H:Hp):Prop:=match x with
  | .str _=>T="str"
  | .int _=>T="int"
  | .ref p=>(T="list" /\ ∃ xs,SqL K H p xs) \/ (T="tuple" /\ ((∃ o,K.lookup p=some o /\ o.cls=.type "tuple" /\ o.dict=none) \/ ∃ xs,H p=some (.tup xs))) \/
      (T="dict" /\ ((∃ kvs,H p=some (.dK kvs)) \/ ∃ kvs,H p=some (.dT kvs))) \/ (T="set" /\ ∃ S n,H p=some (.set S n))
  | _=>False
def zn4 {pins:List (Addr × Obj)} {σ:St} {H:Hp} {s:Shared} {T:String} {x:V} {v:Value} (I:Inv X pins σ H s) (r:RelV x v) (ty:tyV X.K T x H) :
  s.TypeIs v T /\ ∀ a,v=.ref a -> ∃ ob,s.heap.get? a=some ob /\ ob.dict=none:=by
 cases x with
 | str z=>
  obtain ⟨t,rfl⟩:=r;cases (show T="str" from ty);exact ⟨typeIs_str s z t,λ _ e=>nomatch e⟩
 | int i=>
  obtain ⟨t,rfl⟩:=r;cases (show T="int" from ty);exact ⟨typeIs_int s i t,λ _ e=>nomatch e⟩
 | ref p=>
  cases r;rcases ty with ⟨rfl,xs,hq⟩ | ⟨rfl,⟨o,hk,hc,hd⟩ | ⟨xs,hx⟩⟩ | ⟨rfl,hk⟩ | ⟨rfl,S,n,hk⟩
  ·obtain ⟨its,_,pl,_⟩:=I.list hq;refine ⟨pl.isList.typeIs,λ a e=>?_⟩;cases e;obtain ⟨o,n,e,c,hd,_⟩:=pl;exact ⟨o,e,hd⟩
  ·refine ⟨⟨o,I.kIn p o hk,hc⟩,λ a e=>?_⟩;cases e;exact ⟨o,I.kIn _ o hk,hd⟩
  ·obtain ⟨_,_,_,o,e,c,hd,_⟩:=I.hok p _ hx;refine ⟨⟨o,e,c⟩,λ a e2=>?_⟩;cases e2;exact ⟨o,e,hd⟩
  ·have z:∃ o,s.heap.get? p=some o /\ o.ExactDict:=by
    rcases hk with ⟨kvs,hk⟩ | ⟨kvs,hk⟩
    ·obtain ⟨_,_,_,_,o,_,_,e,ex,_⟩:=I.hok p _ hk;exact ⟨o,e,ex⟩
    ·obtain ⟨_,_,_,_,o,_,_,e,ex,_⟩:=I.hok p _ hk;exact ⟨o,e,ex⟩
   obtain ⟨o,e,ex⟩:=z;refine ⟨⟨o,e,ex.1⟩,λ a e2=>?_⟩;cases e2;exact ⟨o,e,ex.2.1⟩
  ·obtain ⟨o,_,_,_,e,ex,_⟩:=I.hok p _ hk;refine ⟨⟨o,e,ex.1⟩,λ a e2=>?_⟩;cases e2;exact ⟨o,e,ex.2.1⟩
 | _=>exact False.elim ty
noncomputable def tBM0 (K:PySem.W.Frag) (T:String) (r:V -> List V -> Hp -> VK -> Prop) (to:TE):TE:=λ σ H Q=>to σ H λ x H1=>tyV K T x H1 /\ r x [] H1 Q
noncomputable def tBM (K:PySem.W.Frag) (T:String) (r:V -> List V -> Hp -> VK -> Prop) (to:TE) (t:TA):TE:=λ σ H Q=>to σ H λ x H1=>tyV K T x H1 /\ t σ H1 λ xs H2=>r x xs H2 Q
variable {o e:Expr} {es:List Expr} {to:TE} {t:TA} {name:Str} {apos cpos:Pos} {T id:String} {r:V -> List V -> Hp -> VK -> Prop}
def zpl (pa:PlainAttrs T) (slot:Slot T name id) (hty:typeOf (.builtin id)=pure (.type "method_descriptor")) (hm:MtR X id r) (ho:PE X o to)
  (hbase:attributeBase o name X.env (eval o X.env)=eval o X.env:=by rfl) (hline:(apos.endLine == cpos.line)=true:=by rfl):PE X (.Call (.Attribute o name apos) [] [] cpos) (tBM0 X.K T r to):=by
 intro pins s σ H Q I h;refine wpAny_Call_method0_late hbase hline (thn (ho pins s σ H _ I h) λ v s1 ⟨x,H1,I1,r1,ty,q1⟩=>?_);obtain ⟨h1,h2⟩:=zn4 I1 r1 ty;exact ⟨T,id,pa,slot,hty,h1,h2,ybV rfl (PySem.evalArgs_none (hm pins s1 σ H1 x [] v [] Q I1 r1 .nil q1))⟩
def zrw (pa:PlainAttrs T) (slot:Slot T name id) (hty:typeOf (.builtin id)=pure (.type "method_descriptor")) (hm:MtR X id r) (ho:PE X o to) (ha:PA X (e :: es) t)
  (hbase:attributeBase o name X.env (eval o X.env)=eval o X.env:=by rfl)
  (hfew : ((backTo cpos (starEach (e :: es) X.env)).all (fun x => !x.1) && (backToKw cpos (keywordEach [] X.env)).all (fun x => x.1.isSome)
   && decide ((e :: es).length + ([]:List Keyword).length + (if ([]:List Keyword).isEmpty then 0 else 1) < 30))=true:=by rfl)
  (hline:(apos.endLine == cpos.line)=true:=by rfl) (hs:starEach (e :: es) X.env=(false,eval e X.env) :: starEach es X.env:=by rfl) (hplain:(backTo cpos (starEach es X.env)).any (·.1)=false:=by rfl) :
  PE X (.Call (.Attribute o name apos) (e :: es) [] cpos) (tBM X.K T r to t):=by
 intro pins s σ H Q I h;refine wpAny_Call_method_late hbase hfew hline rfl (thn (ho pins s σ H _ I h) λ v s1 ⟨x,H1,I1,r1,ty,q1⟩=>?_);obtain ⟨h1,h2⟩:=zn4 I1 r1 ty;refine ⟨T,id,pa,slot,hty,h1,h2,?_⟩;have hA:=ha cpos pins s1 σ H1 _ I1 q1;rw [hs] at hA ⊢;refine ybV (by show (false || (backTo cpos (starEach es X.env)).any (·.1))=false; rw [hplain] <;> rfl) (ycI ?_);exact thn hA λ us s2 ⟨vs,H2,I2,r2,q2⟩=>hm pins s2 σ H2 x vs v us Q I2 r1 r2 q2
end
noncomputable def MtM (X:Cx) (id:String) (r:V -> List V -> Hp -> VK -> Prop):Prop:=
 ∀ (pins:List (Addr × Obj)) (s:Shared) (σ:St) (H:Hp) (x:V) (xs:List V) (v:Value) (us:List Value) (Q:VK),Inv X pins σ H s -> RelV x v -> Vals xs us -> r x xs H Q ->
  wpAny (model X.prog X.w) X.A (call (.builtin id) (v :: us)) (EP X pins σ Q) X.xe s
def Vals.one:∀ {x:V} {us:List Value},Vals [x] us -> ∃ u,us=[u] /\ RelV x u
 | _,_,.cons r .nil=>⟨_,rfl,r⟩
def Vals.two:∀ {x y:V} {us:List Value},Vals [x,y] us -> ∃ u v,us=[u,v] /\ RelV x u /\ RelV y v
 | _,_,_,.cons r (.cons q .nil)=>⟨_,_,rfl,r,q⟩
def Vals.zero:∀ {us:List Value},Vals [] us -> us=[]
 | _,.nil=>rfl
def Vals.dropLast {xs:List V} {us:List Value} (h:Vals xs us):Vals xs.dropLast us.dropLast:=by
 induction h with
 | nil=>exact .nil
 | cons r t ih=>
  cases t with
  | nil=>exact .nil
  | cons q t'=>exact .cons r ih
def Vals.reverse {xs:List V} {us:List Value} (h:Vals xs us):Vals xs.reverse us.reverse:=by
 induction h with
 | nil=>exact .nil
 | cons r t ih=>rw [ybt,ybt]; exact Vals.append ih (.cons r .nil)
def Vals.rep {xs:List V} {us:List Value} (h:Vals xs us):∀ k:Nat,Vals (List.replicate k xs).flatten (List.replicate k us).flatten
 | 0=>.nil
 | k + 1=>by
  rw [ybu,ybu,yb2,yb2];exact Vals.append h (Vals.rep h k)
def zki {α:Type} (l:List α):l.eraseIdx (l.length - 1)=l.dropLast:=by
 induction l with
 | nil=>rfl
 | cons a r ih=>
  cases r with
  | nil=>rfl
  | cons b r=>
   have e:(a :: b :: r).length - 1=((b :: r).length - 1) + 1:=by
    have h1:(a :: b :: r).length=r.length + 2:=rfl;have h2:(b :: r).length=r.length + 1:=rfl;omega
   rw [e,List.eraseIdx_cons_succ,ih]
   all_goals rfl
def zfM (its:List Value):∀ (k:Nat) (acc:List Value),
  List.foldl (λ x1 x2=>x1 ++ x2) acc.toArray (List.replicate k its.toArray)=(acc ++ (List.replicate k its).flatten).toArray
 | 0,acc=>by simp
 | k + 1,acc=>by
  have e:acc.toArray ++ its.toArray=(acc ++ its).toArray:=by simp
  have e2:(acc ++ its) ++ (List.replicate k its).flatten=acc ++ (List.replicate (k + 1) its).flatten:=by
   rw [ybu,yb2,yaH]
  rw [<- e2,<- zfM its k (acc ++ its),<- e,ybu,List.foldl_cons]
section
variable {X:Cx} {pins:List (Addr × Obj)} {σ:St} {H:Hp} {s:Shared} {l b:Addr} {xs ys zs:List V}
def Inv.lset {its its':List Value} {n:Nat} {f:Array Value -> Array Value} {t':Nat} (I:Inv X pins σ H s) (hH:H l=some (.lst xs))
  (e:s.heap.get? l=some { cls:=.type "list",data:=.seq its.toArray n }) (hf:f its.toArray=its'.toArray) (hv:Vals ys its') (hz:ys.length <= sizeLine) :
  Inv X pins σ (upd H l (.lst ys)) { s with heap:=s.heap.update l (Obj.mapSeq f),toks:=t' }:=by
 have q:=PySem.IsL.update e f;rw [hf] at q;refine I.write (x:=l) (e:=l) (by rw [hH]; exact trivial) (.inl rfl) (λ b' u hb hu=>(ycq s.heap (Obj.mapSeq f) (ycX hb)).trans hu) ⟨_,q⟩ ?_;exact ⟨hz,its',_,hv,q⟩
def Inv.lnew {its:List Value} {t':Nat} (I:Inv X pins σ H s) (hv:Vals ys its) (hz:ys.length <= sizeLine) :
  Inv X pins σ (upd H s.heap.objs.size (.lst ys)) { s with heap:=s.heap.push { cls:=.type "list",data:=.seq its.toArray },toks:=t' }:=
 I.laid (λ _ _ q=>yae _ q) (yag _) ⟨hz,its,0,hv,yao _ rfl⟩
def Inv.fresh (I:Inv X pins σ H s):H s.heap.objs.size=none:=I.hok.fresh (yag _)
def Inv.lstM (I:Inv X pins σ H s) (hH:H l=some (.lst xs)):xs.length <= sizeLine /\ ∃ (its:List Value) (n:Nat),Vals xs its /\ xs.length=its.length /\ s.heap.get? l=some { cls:=.type "list",data:=.seq its.toArray n }:=by
 obtain ⟨z,its,n,r,e⟩:=I.hok l _ hH;exact ⟨z,its,n,r,r.length,e⟩
def zjt {n:Nat} (h:n <= sizeLine):Builtin.List.listTooLong n=false:=by
 unfold Builtin.List.listTooLong;exact decide_eq_false (1:)
end
section
variable {X:Cx}
noncomputable def zlr:V -> List V -> Hp -> VK -> Prop:=λ x vs H Q=>∃ l xs y,x=.ref l /\ vs=[y] /\ H l=some (.lst xs) /\ xs.length < sizeLine /\ Q .non (upd H l (.lst (xs ++ [y])))
def zdV:MtM X "list.append" zlr:=by
 intro pins s σ H x vs v us Q I rx rv h;obtain ⟨l,xs,y,rfl,rfl,hH,hz,q⟩:=h;cases rx;obtain ⟨u,rfl,ru⟩:=rv.one;obtain ⟨z,its,n,r,hl,e⟩:=I.lstM hH;refine call_meets F.slot_list_append ⟨_,e,rfl⟩ F.entry_list_append (F.args_list_append_2 _ _) (PySem.list_append l its.toArray n u (by rw [yap]; omega)) ⟨e,?_⟩;refine ⟨.non,_,I.lset (its':=its ++ [u]) hH e (5:) (r.append (.cons ru .nil)) ?_,rfl,q⟩;rw [yam,List.length_singleton];omega
noncomputable def zlt:V -> List V -> Hp -> VK -> Prop:=λ x vs H Q=>∃ l b xs zs,x=.ref l /\ vs=[.ref b] /\ H l=some (.lst xs) /\ H b=some (.lst zs) /\ xs.length + zs.length <= sizeLine /\ Q .non (upd H l (.lst (xs ++ zs)))
def zfN:MtM X "list.extend" zlt:=by
 intro pins s σ H x vs v us Q I rx rv h;obtain ⟨l,b,xs,zs,rfl,rfl,hH,hB,hz,q⟩:=h;cases rx;obtain ⟨u,rfl,ru⟩:=rv.one;cases ru;obtain ⟨z,its,n,r,hl,e⟩:=I.lstM hH;obtain ⟨z2,its2,n2,r2,hl2,e2⟩:=I.lstM hB;have hsz:its.toArray.size + its2.toArray.size <= sizeLine:=by rw [yap,yap]; omega
 have hlong:¬ (!its.toArray.isEmpty && Builtin.List.listTooLong (its.toArray.size + its2.toArray.size))=true:=by
  rw [zjt hsz,Bool.and_false];exact yaD
 refine call_meets F.slot_list_extend ⟨_,e,rfl⟩ F.entry_list_extend (F.args_list_extend_2 _ _)
  (AutoSeq1.list_extend_list_list_0 l its.toArray n b its2.toArray n2 hlong (by rw [yap]; omega) (1:)) ⟨e,e2,?_⟩
 refine ⟨.non,_,I.lset (its':=its ++ its2) hH e (5:) (r.append r2) ?_,rfl,q⟩;rw [yam];omega
noncomputable def rPop:V -> List V -> Hp -> VK -> Prop:=λ x vs H Q=>∃ l xs y,x=.ref l /\ vs=[] /\ H l=some (.lst xs) /\ xs[xs.length - 1]?=some y /\ Q y (upd H l (.lst xs.dropLast))
def zqq:MtM X "list.pop" rPop:=by
 intro pins s σ H x vs v us Q I rx rv h;obtain ⟨l,xs,y,rfl,rfl,hH,hy,q⟩:=h;cases rx;have hus:=rv.zero;subst hus;obtain ⟨z,its,n,r,hl,e⟩:=I.lstM hH;obtain ⟨u,hu,ru⟩:=r.get hy
 have hy':its.toArray[its.toArray.size - 1]?=some u:=by
  show its.toArray[its.length - 1]?=some u;rw [<- yby,<- hl];exact hu
 refine call_meets F.slot_list_pop ⟨_,e,rfl⟩ F.entry_list_pop (F.args_list_pop_1 _) (MeetsSeq.list_pop_last l its.toArray n u hy' (by rw [yap]; omega)) ⟨e,?_⟩;refine ⟨y,_,I.lset (its':=its.dropLast) hH e ?_ r.dropLast ?_,ru,q⟩
 ·show its.toArray.eraseIdxIfInBounds (its.toArray.size - 1)=its.dropLast.toArray;rw [yap,List.eraseIdxIfInBounds_toArray,zki]
 ·rw [List.length_dropLast];omega
noncomputable def rCat:R2:=λ x y H Q=>∃ l b xs zs,x=.ref l /\ y=.ref b /\ H l=some (.lst xs) /\ H b=some (.lst zs) /\ xs.length + zs.length <= sizeLine /\ ∀ p,H p=none -> Q (.ref p) (upd H p (.lst (xs ++ zs)))
def zp8:OpR X (binaryOp .Add) rCat:=by
 intro pins s σ H x y v u Q I rx ry h;obtain ⟨l,b,xs,zs,rfl,rfl,hH,hB,hz,q⟩:=h;cases rx;cases ry;obtain ⟨z,its,n,r,hl,e⟩:=I.lstM hH;obtain ⟨z2,its2,n2,r2,hl2,e2⟩:=I.lstM hB;refine PySem.P.add_list e e2 ?_ (by rw [yap,yap]; omega);have ea:its.toArray ++ its2.toArray=(its ++ its2).toArray:=by simp
 rw [ea];exact ⟨.ref _,_,I.lnew (t':=s.toks) (r.append r2) (by rw [yam]; omega),rfl,q _ I.fresh⟩
noncomputable def rRep:R2:=λ x y H Q=>∃ l k xs,x=.ref l /\ y=.int k /\ H l=some (.lst xs) /\ -(2 ^ 63) <= k /\ k < 2 ^ 63 /\ xs.length * k.toNat <= sizeLine /\
 ∀ p,H p=none -> Q (.ref p) (upd H p (.lst (List.replicate k.toNat xs).flatten))
def zl1 {α:Type} (xs:List α) (k:Nat):(List.replicate k xs).flatten.length=k * xs.length:=by
 induction k with
 | zero=>simp
 | succ k ih=>rw [ybu,yb2,yam,ih,Nat.succ_mul,Nat.add_comm]
def zqn:OpR X (binaryOp .Mult) rRep:=by
 intro pins s σ H x y v u Q I rx ry h;obtain ⟨l,k,xs,rfl,rfl,hH,h1,h2,hz,q⟩:=h;cases rx;obtain ⟨t,rfl⟩:=ry;obtain ⟨z,its,n,r,hl,e⟩:=I.lstM hH;have hlen:its.toArray.size * k.toNat <= sizeLine:=by rw [yap,<- hl]; exact hz
 have hcap:¬ its.toArray.size * k.toNat > (2 ^ 63 - 1) / 8:=by
  have:(sizeLine:Nat) <= (2 ^ 63 - 1) / 8:=by decide
  omega
 have hfit:¬ (!Builtin.List.listFitsIndex k)=true:=by
  rw [fitsIndex_both h1 h2];exact yaD
 have hlong:¬ Builtin.List.listTooLong (its.toArray.size * k.toNat)=true:=by
  rw [zjt hlen];exact yaD
 have hnew:List.foldl (λ x1 x2=>x1 ++ x2) #[] (List.replicate (if its.toArray.isEmpty=true then 0 else k.toNat) its.toArray)=(List.replicate k.toNat its).flatten.toArray:=by
  have f0:∀ m:Nat,List.foldl (λ x1 x2=>x1 ++ x2) #[] (List.replicate m its.toArray)=(List.replicate m its).flatten.toArray:=λ m=>by
   have:=zfM its m [];rw [List.nil_append] at this;exact this
  rw [f0];cases its with
  | nil=>simp
  | cons a r'=>rw [if_neg (5:)]
 refine wpAny_binaryOp_repeat_ref (T:="list") (U:="int") (3:) ⟨_,e,rfl⟩ (λ s'=>typeIs_int s' k t) noFill_list_mul F.fills_int_mul ycP repeat_list F.slot_int_index.lookup
  (call_meets ycP (typeIs_int s k t) F.entry_int_rmul (F.args_int_rmul_2 _ _) (int___rmul___int_list k t l its.toArray n)
   ⟨e,rfl,⟨_,e,rfl⟩,call_meets F.slot_list_mul ⟨_,e,rfl⟩ F.entry_list_mul (F.args_list_mul_2 _ _) (AutoListH.list___mul___list_int_3 l its.toArray n k t hfit hcap hlong) ⟨e,?_⟩⟩)
 rw [hnew];exact ⟨.ref _,_,I.lnew (t':=s.toks) (r.rep k.toNat) (by rw [zl1,ycT]; exact hz),rfl,q _ I.fresh⟩
end
section
variable {prog:Program} {w:World} {A:Around} {E:Value -> Shared -> Prop} {s:Shared}
end
section
variable {X:Cx}
end
end L2
namespace Att
open PySem PySem.W PySem.Calls PyProof.Rows
def zfH {P:Params} {h:Heap}:∀ (ns:List Int) (vs:List Value),WellAll P h vs (ns.map WData.int) -> IntsAre vs ns:=by
 intro ns
 induction ns with
 | nil=>
  intro vs w;rw [ycU] at w;cases w;exact .nil
 | cons n ns ih=>
  intro vs w;rw [yaP] at w;cases w with
  | cons a b=>
   cases a;exact .cons _ _ (ih _ b)
def zmI {l:OpenLaw} {n:Nat} (hn:l.most=some n) {P:Params} {h:Heap} {args:List WData} {vals:List Value}
    (hpre:l.row.toRowW.claim.pre args=true) (hwl:WellAll P h vals args) :
    ∃ a vs ns,vals=[Value.ref a] /\ args=[WData.list (ns.map WData.int)] /\ h.get? a=some { cls:=.type "list",data:=.seq vs.toArray } /\ IntsAre vs ns /\ ns.length <= n:=by
  have hsh:WShape.hasAll [] args [.list .int]=true:=(pre_splitW hpre).1;have hc:l.pre.holds [] { args:=args }=true:=(pre_splitW hpre).2;obtain ⟨d,r,rfl,h1,h2⟩:=hasAllW_cons hsh;obtain rfl:=hasAllW_nil h2;obtain ⟨xs,rfl,h3⟩:=hasW_list h1;obtain ⟨ns,rfl⟩:=items_int h3
  have hlen:ns.length <= n:=by
    unfold OpenLaw.pre at hc
    have h4:(WTm.not (.lt (.lit (.int (n:Int))) (.len (.arg 0)))).holds [] { args:=[.list (ns.map .int)] }=true:=by
      have h4:=(holds_andW hc).1;rw [hn] at h4;exact h4
    have h5:=condW_of h4 (w_not (w_lt w_lit (w_len_list (w_arg rfl))));rw [yaa] at h5;refine Nat.le_of_not_lt λ q=>?_;have q':(n:Int) < ((ns.length:Nat):Int):=by omega
    first
      | (rw [decide_eq_true q'] at h5; exact absurd h5 (3:))
      | (simp at h5; omega)
  cases hwl with
  | cons w1 w2=>
    cases w2;cases w1 with
    | list ho hall=>exact ⟨_,_,ns,rfl,rfl,ho,zfH ns _ hall,hlen⟩
def zl5 (l:OpenLaw) (args:List WData):l.row.toRowW.claim.post args (.bool true) args=true:=
 postW_of (r:=l.row.toRowW) (X:=(true == true))
  (show WShape.has [] (.bool true) .bool=true by first | rfl | decide | simp [WShape.has,WShape.arms,WShape.armsAll])
  (show (WTm.eq .res (.lit (.bool true))).value [] { args:=args,res:=some (.bool true),after:=args }=some (.bool (true == true)) from w_eq_bool (w_res rfl) w_lit) rfl
def attach_call {l:OpenLaw} {n:Nat} {q:Program} {loose:List Str} {XP:(Str -> Option Value) -> Heap -> Prop} {YP:World -> Heap -> Prop} {d:DefRec}
    (hn:l.most=some n) (hdf:d.params.defaults=[])
    (call:∀ (w:World) (s₀ s₁:Shared) (mg mb:Str -> Option Value) (fa:Addr) (o:Obj) (pm cd doc:Value) (a:Addr) (vs:List Value) (ns:List Int),
      Ground q loose [] XP w s₀ mg mb s₁.heap -> YP w s₁.heap ->
      s₁.heap.get? fa=some o -> o.data=.func (docDef d.name d.params d.body d.scope pm cd doc) -> s₁.heap.CodeRec cd d.name -> mg d.name=some (.ref fa) ->
      s₁.heap.get? a=some { cls:=.type "list",data:=.seq vs.toArray } -> IntsAre vs ns -> ns.length <= n -> s₁.gens=#[] ->
      codeAny (model l.prog w) callerA (.call (.ref fa) ⟨[.ref a],[]⟩) (λ r s'=>r=.ok (.ret (.bool true)) /\ OldK s₁.heap s'.heap /\ s'.os=s₁.os /\ AllBare s'.gens) s₁) :
    WalkO q loose XP YP l.row.toRowW d [] (λ f vs=>PySem.call f vs):=by
  intro w s₀ s₁ mg mb G Y fa o pm cd doc dV kV ho hd hcd hD hmg hg args vals as hpre hlay hrd hwl hlo;obtain rfl:dV=.none:=Dflts.none hD hdf;obtain rfl:kV=.none:=Dflts.noKw hD;obtain ⟨a,vs,ns,rfl,rfl,hobj,hints,hlen⟩:=zmI hn hpre hwl;refine enter_call (codeAny_mono (call w s₀ s₁ mg mb fa o pm cd doc a vs ns G Y ho (fd_plain hd) hcd hmg hobj hints hlen hg) λ r s' hq=>?_);obtain ⟨rfl,h2,h3,h4⟩:=hq;exact ⟨.inl ⟨.bool true,.bool true,[],rfl,λ _=>rfl,.bool true,zl5 l _,λ _=>⟨List.Pairwise.nil,λ _ hm=>(nomatch hm)⟩⟩,h2,h3,h4⟩
section
variable {prog:Program} {w:World} {A:Around} {E:Value -> Shared -> Prop} {s:Shared} {K:Frag}
end
end Att
namespace L2
open PySem PySem.Spec PyProof.Rows
def zhj:∀ {vs:List Value} {ns:List Int},IntsAre vs ns -> Vals (ns.map V.int) vs
 | _,_,.nil=>.nil
 | _,_,.cons n t h=>.cons ⟨t,rfl⟩ (zhj h)
noncomputable def Only (H:Hp):Prop:=∀ b,H b=none \/ ∃ o xs,H b=some (.frz o (.lst xs))
def zm7 {P:Program} {w:World} {K:PySem.W.Frag} {mg mb:Str -> Option Value} {CX:CXT} {k:Nat} {fa a:Addr} {fd:FuncData} {x:Str} {sp:Sp} {s₁:Shared} {vs:List Value} {ns:List Int}
    (KX:K.In s₁.heap) (hns:s₁.heap.Ns mainGlobals mg) (hb:s₁.heap.Ns builtinsNs mb) (hbb:∀ x:Str,x ≠ "__name__" -> mb x=bootBuiltins x) (hlim:s₁.heap.NoLimit) (hg:s₁.gens=#[])
    (ha:s₁.heap.get? a=some { cls:=.type "list",data:=.seq vs.toArray }) (hi:IntsAre vs ns) (hl:ns.length <= sizeLine) (hr:Room k callerA)
    (F:∀ base:Heap,K.In base -> base.Ns mainGlobals mg -> FnOk P w K mg base CX k fa fd [x] sp) (hbind:∀ (s:Shared) (u:Value),BindsTo s fd ⟨[u],[]⟩ [(x,u)])
    (hsp:∀ H:Hp,Only H -> SqL K H a (ns.map V.int) -> sp [.ref a] H (λ v _=>v=.bl true) λ _ _ _=>False)
    (hCX:∀ H e s',CX [] H s₁ (λ _ _ _=>False) e s' -> False) :
    codeAny (model P w) callerA (.call (.ref fa) ⟨[.ref a],[]⟩) (λ r s'=>r=.ok (.ret (.bool true)) /\ OldK s₁.heap s'.heap /\ s'.os=s₁.os /\ AllBare s'.gens) s₁:=by
  have rv:=zhj hi;have lenV:=hi.length
  -- from an abstract heap in which nothing but the script may be tracked
  have core:∀ H:Hp,Only H -> SqL K H a (ns.map V.int) -> HOk P w H s₁.heap -> (∀ b,H b ≠ none -> b=a) -> (H a ≠ none -> K.lookup a=none) ->
      codeAny (model P w) callerA (.call (.ref fa) ⟨[.ref a],[]⟩) (λ r s'=>r=.ok (.ret (.bool true)) /\ OldK s₁.heap s'.heap /\ s'.os=s₁.os /\ AllBare s'.gens) s₁:=by
    intro H hO hS hok hA hK;have base_of:∀ {b:Addr} {o:Obj},s₁.heap.get? b=some o -> H b=none -> (hidT s₁.heap H).get? b=some o:=λ e n=>zmR e n
    have noA:∀ {b:Addr} {o:Obj} {es:Array DictEntry} {ep:Nat},s₁.heap.get? b=some o -> o.data=.dict es ep -> H b=none:=λ {b o es ep} e d=>by
      cases q:H b with
      | none=>rfl
      | some u=>
        have e':b=a:=hA b (by rw [q]; simp);subst e';rw [ha] at e; cases e;have d':Data.seq vs.toArray _=Data.dict es ep:=d;cases d'
    have nsK:∀ {b:Addr} {m:Str -> Option Value},s₁.heap.Ns b m -> (hidT s₁.heap H).Ns b m:=λ {b m} ⟨o,es,ep,e,d,r⟩=>⟨o,es,ep,base_of e (noA e d),d,r⟩
    have hKb:K.In (hidT s₁.heap H):=λ b o e=>base_of (KX b o e) (by
      cases q:H b with
      | none=>rfl
      | some u=>
        have e':b=a:=hA b (by rw [q]; simp);subst e';rw [hK (by rw [q]; simp)] at e; cases e)
    have hM:Mod K mg (hidT s₁.heap H):=⟨hKb,nsK hns,⟨mb,nsK hb,hbb⟩,let ⟨mc,h1,h2⟩:=hlim; ⟨mc,nsK h1,h2⟩⟩
    have e0:Env0 P w K mg (hidT s₁.heap H) callerA [] s₁ H:=⟨rfl,hM,λ b o e=>zpa e,Nat.le_of_eq (zly _ _),trivial,λ b hb=>absurd (show b ∈ ([]:List Addr) from hb) (5:),hok,.of_eq hg⟩
    refine codeAny_mono ((F _ hKb (nsK hns)).run callerA [] s₁ H ⟨[.ref a],[]⟩ [.ref a] [.ref a] _ _ hr e0 (hbind s₁ (.ref a)) (.cons rfl .nil) (hsp H hO hS)) λ r s' h=>?_;cases r with
    | error e=>exact (hCX H e s' h).elim
    | ok fl=>
      cases fl with
      | next=>exact False.elim h
      | brk=>exact False.elim h
      | cont=>exact False.elim h
      | ret u=>
        obtain ⟨v,H',os,bare,un,hok',r',q⟩:=h;have q':v=.bl true:=q;subst q';obtain rfl:u=Value.bool true:=r';refine ⟨rfl,OldK.of_keep λ b o e=>?_,os,bare⟩;cases q:H b with
        | none=>exact un.keep b o e q (by intro z; exact absurd (show b ∈ ([]:List Addr) from z) (5:)) (5:)
        | some u=>
          rcases hO b with z | ⟨ob,xs,z⟩
          · rw [q] at z; cases z
          · have z2:=un.frzs b ob _ z;obtain ⟨e1,_⟩:=hok b _ z;obtain ⟨e2,_⟩:=hok' b _ z2;rw [e] at e1; cases e1;exact e2
  cases hk:K.lookup a with
  | some o=>
    -- the script is one of the module's own objects
    have e:=KX a o hk;rw [ha] at e;cases e;refine core (λ _=>none) (λ _=>.inl rfl) (.inr ⟨_,vs.toArray,_,hk,rfl,rfl,rfl,by rw [yap,lenV]; exact hl,by simpa using rv⟩) (λ b u z=>by have z':(none:Option HO)=some u:=z; cases z') (λ b z=>absurd rfl z) λ z=>absurd rfl z
  | none=>
    refine core (λ b=>if b=a then some (.frz { cls:=.type "list",data:=.seq vs.toArray } (.lst (ns.map V.int))) else none) (λ b=>?_) (.inl (.inr ⟨{ cls:=.type "list",data:=.seq vs.toArray },if_pos rfl⟩)) (λ b u z=>?_) (λ b z=>?_) λ _=>hk
    · by_cases hb : b = a
      · exact .inr ⟨_,_,if_pos hb⟩
      · exact .inl (if_neg hb)
    · by_cases hb : b = a
      · have z':=(if_pos hb).symm.trans z;cases z';subst hb;exact ⟨ha,by rw [yaa]; exact hl,vs,_,rv,ha⟩
      · have z':=(if_neg hb).symm.trans z;cases z'
    · by_cases hb : b = a
      · exact hb
      · exact absurd (if_neg hb) z
def walk_of {l:PySem.W.OpenLaw} {n k:Nat} {q:Program} {loose:List Str} {XP:(Str -> Option Value) -> Heap -> Prop} {YP:World -> Heap -> Prop} {d:DefRec} {K:Params -> PySem.W.Frag} {CX:World -> CXT} {sp:World -> Sp} {x:Str}
    (hn:l.most=some n) (hn2:n <= sizeLine) (hdf:d.params.defaults=[]) (hr:Room k callerA)
    (hY:∀ (w:World) (h:Heap),YP w h -> (K w.params).In h)
    (F:∀ (w:World) (mg:Str -> Option Value) (fa:Addr) (h:Heap),(K w.params).In h -> h.Ns mainGlobals mg -> mg d.name=some (.ref fa) ->
      ∃ fd:FuncData,(∀ (s:Shared) (u:Value),BindsTo s fd ⟨[u],[]⟩ [(x,u)]) /\
        ∀ base:Heap,(K w.params).In base -> base.Ns mainGlobals mg -> FnOk l.prog w (K w.params) mg base (CX w) k fa fd [x] (sp w))
    (hsp:∀ (w:World) (H:Hp) (a:Addr) (ns:List Int),ns.length <= n -> Only H -> SqL (K w.params) H a (ns.map V.int) -> sp w [.ref a] H (λ v _=>v=.bl true) λ _ _ _=>False)
    (hCX:∀ (w:World) (H:Hp) (s:Shared) (e:Value) (s':Shared),CX w [] H s (λ _ _ _=>False) e s' -> False) :
    PySem.W.WalkO q loose XP YP l.row.toRowW d [] (λ f vs=>PySem.call f vs):=by
  refine Att.attach_call hn hdf λ w s₀ s₁ mg mb fa o pm cd doc a vs ns G Y ho hd hcd hmg hobj hints hlen hg=>?_;have KX:=hY w _ Y;obtain ⟨fd,hb,hF⟩:=F w mg fa _ KX G.T.g hmg;exact zm7 KX G.T.g G.T.b G.T.builtins G.T.nolimit hg hobj hints (ya5 hlen hn2) hr hF hb (λ H hO hS=>hsp w H a ns hlen hO hS) λ H e s'=>hCX w H s₁ e s'
noncomputable def zdL (s:Stmt):Arguments:=match s with
 | .FunctionDef _ a _ _ _ _ _ _ _ _=>a
 | _=>{ posonlyargs:=[],args:=[],vararg:=none,kwonlyargs:=[],kw_defaults:=[],kwarg:=none,defaults:=[] }
noncomputable def zcN (s:Stmt):List Stmt:=match s with
 | .FunctionDef _ _ b _ _ _ _ _ _ _=>b
 | _=>[]
noncomputable def zag (s:Stmt):Scope:=match s with
 | .FunctionDef _ _ _ _ _ _ sc _ _ _=>sc
 | _=>{ kind:=.function,names:=[],isGenerator:=false,isCoroutine:=false }
noncomputable abbrev CX0:CXT:=λ _ _ _ _ _ _=>False
noncomputable abbrev E0:XK:=λ _ _ _=>False
def zrc {X:Cx}:zln CX0 X E0:=λ _ _ _ _ _ _ _ h=>h.elim
structure Fun (K:PySem.W.Frag) (x qual:Str) (st:Stmt) (f:Addr) (fd:FuncData):Prop where
 ex:∃ (oc:Value) (od:Option Addr) (kV doc pm:Value) (an:Option Addr) (cdv ct:Value) (osl:Array (Option Value)),
  fd=PySem.W.fnOf x qual (zdL st) (zcN st) (zag st) .none kV doc pm an cdv ct /\ K.lookup f=some ⟨oc,od,.func fd,osl⟩ /\ PySem.W.codeIn K cdv qual=true
 kp:PySem.W.keepIn K (.ref f)=true
section
variable {P:Program} {w:World} {K:PySem.W.Frag} {mg:Str -> Option Value} {base:Heap}
def Fun.ok {x qual:Str} {st:Stmt} {f:Addr} {fd:FuncData} {N ps:List Str} {k:Nat} {sp:Sp} (F:Fun K x qual st f fd) (S:FnScope N ps (zag st)) (len:∀ vs H Q E,sp vs H Q E -> vs.length=ps.length)
  (hbody : ∀ (cdv : Value) (A : Around) (outer : List Env) (s : Shared) (H : Hp) (vs : List V) (Q : VK) (E : XK), Room k (A.deeper (envOfC qual (zag st) s.heap.objs.size f cdv)) -> sp vs H Q E ->
   ∃ t,PSs (cxOf CX0 P w K mg base N qual (zag st) f cdv A outer s H E).nox (zcN st) t /\ t { nx:=λ _ H'=>Q .non H',rt:=Q } (start N vs) H):FnOk P w K mg base CX0 (k + 1) f fd ps sp:=by
 obtain ⟨oc,od,kV,doc,pm,an,cdv,ct,osl,rfl,lk,hcd⟩:=F.ex;refine zri lk hcd S len λ A outer s H vs Q E hr hsp=>?_;obtain ⟨t,h,q⟩:=hbody cdv A outer s H vs Q E hr hsp;exact ⟨t,h.nox,q⟩
def Fun.binds {x qual:Str} {st:Stmt} {f:Addr} {fd:FuncData} {ps:List Str} (F:Fun K x qual st f fd)
  (h:∀ (kV doc pm:Value) (an:Option Addr) (cdv ct:Value) (us:List Value),us.length=ps.length -> bindArgs (PySem.W.fnOf x qual (zdL st) (zcN st) (zag st) .none kV doc pm an cdv ct) ⟨us,[]⟩=pure (ps.zip us)):zi1 K fd ps []:=by
 obtain ⟨oc,od,kV,doc,pm,an,cdv,ct,osl,rfl,lk,hcd⟩:=F.ex;exact .all (h kV doc pm an cdv ct)
def znS {x qual:Str} {st:Stmt} {f:Addr} {oc:Value} {od an:Option Addr} {osl:Array (Option Value)} {kV doc pm cdv ct:Value} (l:K.lookup f=some ⟨oc,od,.func (PySem.W.fnOf x qual (zdL st) (zcN st) (zag st) .none kV doc pm an cdv ct),osl⟩)
  (c:PySem.W.codeIn K cdv qual=true) (k:PySem.W.keepIn K (.ref f)=true):Fun K x qual st f (PySem.W.fnOf x qual (zdL st) (zcN st) (zag st) .none kV doc pm an cdv ct):=⟨⟨oc,od,kV,doc,pm,an,cdv,ct,osl,rfl,l,c⟩,k⟩
end
section
variable {X:Cx}
def pv (i:Nat) {x:Str} {pos:Pos} (hN:X.N[i]?=some x:=by rfl) (hv:Vis X.env.scope x:=by first | exact Or.inl rfl | exact Or.inr (Or.inl rfl) | exact Or.inr (Or.inr rfl)) (hd:(x == ("__debug__":Str))=false:=by decide)
  (hcd:(x == ("__classdict__":Str))=false:=by decide):PE X (.Name x pos) (tVar i):=zpG hN hv hd hcd
end
def iteF {A B:Prop} (h:B):if false=true then A else B:=by
 rw [if_neg yaD];exact h
def iteT {A B:Prop} (h:A):if true=true then A else B:=by
 rw [if_pos rfl];exact h
def ite2 {c A B:Prop} [Decidable c] (h1:c -> A) (h2:¬ c -> B):if c then A else B:=by
 by_cases h:c
 ·rw [if_pos h];exact h1 h
 ·rw [if_neg h];exact h2 h
noncomputable def Same (H H':Hp):Prop:=∀ b o,H b=some o -> H' b=some o
def Same.refl (H:Hp):Same H H:=λ _ _ h=>h
def Same.trans {H H1 H2:Hp} (a:Same H H1) (b:Same H1 H2):Same H H2:=λ c o h=>b c o (a c o h)
def Same.free {H H':Hp} (e:Same H H') {l:Addr} (h:H' l=Option.none):H l=Option.none:=by
 cases q:H l with
 | none=>rfl
 | some o=>
  rw [e l o q] at h;cases h
def Same.seq {K:PySem.W.Frag} {H H':Hp} {a:Addr} {xs:List V} (e:Same H H') (h:SqL K H a xs):SqL K H' a xs:=by
 rcases h with (h | ⟨o,h⟩) | h
 ·exact .inl (.inl (e _ _ h))
 ·exact .inl (.inr ⟨o,e _ _ h⟩)
 ·exact .inr h
noncomputable def zbV (cells:List (Str × Addr)):List (Str × NameKind) -> List (Str × Addr) -> List (Str × Addr)
 | [],cs=>cs
 | (n,k) :: r,cs=>if k == .free then (match cells.lookup n with | some a=>zbV cells r ((n,a) :: cs) | none=>zbV cells r cs) else zbV cells r cs
noncomputable abbrev clOf (env:Env) (scope:Scope):List (Str × Addr):=zbV env.cells scope.names []
def zgW {env:Env}:∀ (names:List (Str × NameKind)) (cs:List (Str × Addr)),(∀ p ∈ names,p.2=.free -> ∃ c,env.cells.lookup p.1=some c) ->
    (forIn names cs λ x r=>(if (x.2 == NameKind.free)=true then (do let a <- cellOf env x.1; pure (ForInStep.yield ((x.1,a) :: r))) else pure (ForInStep.yield r)):Sem (List (Str × Addr)))=pure (zbV env.cells names cs)
  | [],cs,_=>by simp [zbV]
  | (n,k) :: r,cs,h=>by
    have hr:∀ p ∈ r,p.2=.free -> ∃ c,env.cells.lookup p.1=some c:=λ p hp=>h p (yau _ hp);rw [List.forIn_cons];by_cases hk:k=.free
    · subst hk;obtain ⟨c,e⟩:=h (n,.free) yaC rfl;have ih:=zgW r ((n,c) :: cs) hr;simp only [beq_self_eq_true,if_true,cellOf,e,pure_bind,zbV];exact ih
    · have hb : (k == NameKind.free) = false := by simpa using hk
      have ih:=zgW r cs hr;simp only [hb,yaF,if_false,pure_bind,zbV];exact ih
def zd8 {scope:Scope} {env:Env} (h:∀ p ∈ scope.names,p.2=.free -> ∃ c,env.cells.lookup p.1=some c):closureFor scope env=pure (clOf env scope):=by
 have e:=zgW (env:=env) scope.names [] h;unfold closureFor;simp only [bind_pure];exact e
def zc9 {cells:List (Str × Addr)}:∀ (names:List (Str × NameKind)) (cs:List (Str × Addr)),(∀ p ∈ cs,cells.lookup p.1=some p.2) -> ∀ p ∈ zbV cells names cs,cells.lookup p.1=some p.2
 | [],_,h=>h
 | (n,k) :: r,cs,h=>by
  unfold zbV
  split
  ·cases e : cells.lookup n with
   | none=>exact zc9 r cs h
   | some a=>
    refine zc9 r _ λ p hp=>?_;rcases yav.mp hp with rfl | hp
    ·exact e
    ·exact h p hp
  ·exact zc9 r cs h
def zde {cells:List (Str × Addr)} {x:Str}:∀ (names:List (Str × NameKind)) (cs:List (Str × Addr)),(cs.lookup x).isSome=true -> ((zbV cells names cs).lookup x).isSome=true
 | [],_,h=>h
 | (n,k) :: r,cs,h=>by
  unfold zbV
  split
  ·cases e : cells.lookup n with
   | none=>exact zde r cs h
   | some a=>
    refine zde r _ ?_;rw [ybj]
    split
    ·rfl
    ·exact h
  ·exact zde r cs h
def zc4 {cells:List (Str × Addr)} {x:Str} {c:Addr} (e:cells.lookup x=some c):∀ (names:List (Str × NameKind)) (cs:List (Str × Addr)),(x,NameKind.free) ∈ names -> ((zbV cells names cs).lookup x).isSome=true
 | [],_,h=>nomatch h
 | (n,k) :: r,cs,h=>by
  unfold zbV;rcases yav.mp h with h | h
  ·cases h;rw [if_pos (0:),e];exact zde r _ (5:)
  ·split
   ·cases e' : cells.lookup n with
    | none=>exact zc4 e r cs h
    | some a=>exact zc4 e r _ h
   ·exact zc4 e r cs h
def zbT {env:Env} {scope:Scope} {x:Str} {c:Addr} (h:(clOf env scope).lookup x=some c):env.cells.lookup x=some c:=
 zc9 scope.names [] (λ _ z=>nomatch z) (x,c) (ybs h)
def zj6 {env:Env} {scope:Scope} {x:Str} {c:Addr} (e:env.cells.lookup x=some c) (h:(x,NameKind.free) ∈ scope.names):(clOf env scope).lookup x=some c:=by
 obtain ⟨d,q⟩:=ycc.mp (zc4 e scope.names [] h);have:=zbT (scope:=scope) q;rw [e] at this;cases this;exact q
def zbK {env:Env}:∀ {names:List (Str × NameKind)} {x:Str},names.lookup x=some .free ->
    (names.map λ (n,k)=>if (k == NameKind.free && env.scope.kind == .function && env.kindOf n == some .cell) then (n,NameKind.cell) else (n,k)).lookup x=some .cell \/
    (names.map λ (n,k)=>if (k == NameKind.free && env.scope.kind == .function && env.kindOf n == some .cell) then (n,NameKind.cell) else (n,k)).lookup x=some .free
  | [],_,h=>by simp at h
  | (n,k) :: r,x,h=>by
    have ih:=@zbK env r x;show List.lookup x ((if (k == NameKind.free && env.scope.kind == .function && env.kindOf n == some .cell)=true then (n,NameKind.cell) else (n,k)) :: _)=_ \/ List.lookup x ((if (k == NameKind.free && env.scope.kind == .function && env.kindOf n == some .cell)=true then (n,NameKind.cell) else (n,k)) :: _)=_;cases hx:x == n with
    | true=>
      simp only [ybj,hx] at h;cases h;by_cases hc:(NameKind.free == NameKind.free && env.scope.kind == .function && env.kindOf n == some .cell)=true
      · rw [if_pos hc]; simp [ybj,hx]
      · rw [if_neg hc]; simp [ybj,hx]
    | false=>
      simp only [ybj,hx] at h;by_cases hc:(k == NameKind.free && env.scope.kind == .function && env.kindOf n == some .cell)=true
      · rw [if_pos hc]; simp only [ybj,hx]; exact ih h
      · rw [if_neg hc]; simp only [ybj,hx]; exact ih h
def zbH {env:Env}:∀ {names:List (Str × NameKind)} {x:Str},(∀ y ∈ names,y.2 ≠ .cell) ->
    ((names.map λ (n,k)=>if (k == NameKind.free && env.scope.kind == .function && env.kindOf n == some .cell) then (n,NameKind.cell) else (n,k)).lookup x=some .cell \/
    (names.map λ (n,k)=>if (k == NameKind.free && env.scope.kind == .function && env.kindOf n == some .cell) then (n,NameKind.cell) else (n,k)).lookup x=some .free) -> (x,NameKind.free) ∈ names
  | [],_,_,h=>by simp at h
  | (n,k) :: r,x,hc,h=>by
    have ih:=@zbH env r x λ y hy=>hc y (yau _ hy);have hk:k ≠ .cell:=hc (n,k) yaC
    have h':List.lookup x ((if (k == NameKind.free && env.scope.kind == .function && env.kindOf n == some .cell)=true then (n,NameKind.cell) else (n,k)) :: (r.map λ (n,k)=>if (k == NameKind.free && env.scope.kind == .function && env.kindOf n == some .cell) then (n,NameKind.cell) else (n,k)))=some .cell \/
      List.lookup x ((if (k == NameKind.free && env.scope.kind == .function && env.kindOf n == some .cell)=true then (n,NameKind.cell) else (n,k)) :: (r.map λ (n,k)=>if (k == NameKind.free && env.scope.kind == .function && env.kindOf n == some .cell) then (n,NameKind.cell) else (n,k)))=some .free:=h
    by_cases hq:(k == NameKind.free && env.scope.kind == .function && env.kindOf n == some .cell)=true
    · rw [if_pos hq] at h'
      have hf:k=.free:=by
        have:=hq;simp only [yad] at this;simpa using this.1.1
      cases hx:x == n with
      | true=>
        have:x=n:=by simpa using hx
        subst this;rw [hf];exact yaC
      | false=>
        simp only [ybj,hx] at h';exact yau _ (ih h')
    · rw [if_neg hq] at h';cases hx : x == n with
      | true=>
        simp only [ybj,hx,Option.some.injEq] at h';have:x=n:=by simpa using hx
        subst this;rcases h' with z | z
        · exact absurd z hk
        · rw [z]; exact yaC
      | false=>
        simp only [ybj,hx] at h';exact yau _ (ih h')
noncomputable def zg9 (N:List Str) (sc scope:Scope):List Str -> List (Option Nat) -> Bool
 | [],[]=>true
 | _ :: N',none :: src=>zg9 N sc scope N' src
 | x :: N',some j :: src=>decide (N[j]?=some x) && (decide (sc.names.lookup x=some .cell) || decide (sc.names.lookup x=some .free)) && decide (scope.names.lookup x=some .free) && zg9 N sc scope N' src
 | _,_=>false
noncomputable def zjf (N:List Str) (sc scope:Scope) (N':List Str) (src:List (Option Nat)):Bool:=
 scope.names.all (λ y=>decide (y.2 ≠ .cell)) && decide (scope.kind=.function) && scope.names.all (λ y=>decide (y.2=.local -> scope.names.lookup y.1=some .local)) &&
 scope.names.all (λ y=>decide (y.2=.free -> sc.names.lookup y.1=some .cell \/ sc.names.lookup y.1=some .free)) && decide (src.length=N'.length) && zg9 N sc scope N' src
structure CompOk (N:List Str) (sc scope:Scope) (N':List Str) (src:List (Option Nat)):Prop where
 cell:∀ y ∈ scope.names,y.2 ≠ .cell
 kind:scope.kind=.function
 names:∀ y ∈ scope.names,y.2=.local -> scope.names.lookup y.1=some .local
 free:∀ y ∈ scope.names,y.2=.free -> sc.names.lookup y.1=some .cell \/ sc.names.lookup y.1=some .free
 len:src.length=N'.length
 cap:∀ (i j:Nat) (x:Str),src[i]?=some (some j) -> N'[i]?=some x -> N[j]?=some x /\ (sc.names.lookup x=some .cell \/ sc.names.lookup x=some .free) /\ scope.names.lookup x=some .free
def zgQ {N:List Str} {sc scope:Scope}:∀ {N':List Str} {src:List (Option Nat)},zg9 N sc scope N' src=true -> ∀ (i j:Nat) (x:Str),src[i]?=some (some j) -> N'[i]?=some x ->
    N[j]?=some x /\ (sc.names.lookup x=some .cell \/ sc.names.lookup x=some .free) /\ scope.names.lookup x=some .free
  | [],[],_,i,j,x,h,_=>by simp at h
  | [],_ :: _,h,_,_,_,_,_=>by simp [zg9] at h
  | _ :: _,[],h,_,_,_,_,_=>by simp [zg9] at h
  | y :: N',none :: src,h,i,j,x,h1,h2=>by
    cases i with
    | zero=>simp at h1
    | succ i=>exact zgQ (N':=N') (src:=src) (by simpa [zg9] using h) i j x (by simpa using h1) (by simpa using h2)
  | y :: N',some k :: src,h,i,j,x,h1,h2=>by
    simp only [zg9,yad,ybP,decide_eq_true_eq] at h;cases i with
    | zero=>
      simp at h1 h2;subst h1 h2;exact ⟨h.1.1.1,h.1.1.2,h.1.2⟩
    | succ i=>exact zgQ (N':=N') (src:=src) h.2 i j x (by simpa using h1) (by simpa using h2)
def zik {N:List Str} {sc scope:Scope} {N':List Str} {src:List (Option Nat)} (h:zjf N sc scope N' src=true):CompOk N sc scope N' src:=by
 simp only [zjf,yad,ya1,decide_eq_true_eq] at h;exact ⟨h.1.1.1.1.1,h.1.1.1.1.2,h.1.1.1.2,h.1.1.2,h.1.2,zgQ h.2⟩
noncomputable def zaR (X:Cx) (scope:Scope) (N':List Str) (C:Addr) (s:Shared) (H:Hp) (fp:List Addr):Cx where
 prog:=X.prog
 w:=X.w
 K:=X.K
 mg:=X.mg
 base:=X.base
 A:=X.A
 N:=N'
 s₀:=s
 H₀:=H
 env:=compEnvC scope (clOf X.env scope) C X.env
 outer:=X.stack
 stack:=X.stack
 ex:=fp
 fn:=λ _=>false
 calm:=X.calm
 pn:=[]
 xe:=λ _ _=>False
noncomputable def capt (src:List (Option Nat)) (σ:St):St:=src.map λ o=>o.bind λ j=>(σ[j]?).getD none
noncomputable def Ext (σ σ':St):Prop:=σ.length=σ'.length /\ ∀ (i:Nat) v,σ[i]?=some (some v) -> σ'[i]?=some (some v)
noncomputable def PTs (X:Cx) (ifs:List Expr) (t:TT):Prop:=
 ∀ (pins:List (Addr × Obj)) (s:Shared) (σ:St) (H:Hp) (Q:Bool -> Hp -> Prop),Inv X pins σ H s -> t σ H Q ->
  wpAny (model X.prog X.w) X.A (forIn ifs true λ c r=>if r=true then do let ok <- isTrue c X.env (eval c X.env); pure (ForInStep.yield ok) else pure (ForInStep.yield r)) (TP X pins σ Q) X.xe s
noncomputable def zqP:TT:=λ _ H Q=>Q true H
def zbC {X:Cx}:PTs X [] zqP:=λ _ _ _ H _ I h=>wpAny_tests_nil ⟨H,I,h⟩
def zb3 {X:Cx} {c:Expr} {t:TT} (h:PT X c t):PTs X [c] t:=λ pins s σ H Q I hw=>wpAny_tests_one (h pins s σ H Q I hw)
noncomputable def zcF (J:It) (src:List (Option Nat)) (σ:St) (g:TG) (tc:TT) (te:TE) (Q:VK) (H1:Hp):Prop:=
 ∃ W:Nat -> Nat -> List V -> Hp -> Prop,(∃ m,W 0 m [] H1) /\ ∀ i m acc H,W i m acc H -> acc.length <= sizeLine /\
  ((J.stop i H /\ ∀ p,H p=none -> Q (.ref p) (upd H p (.lst acc))) \/
  (J.go i H /\ ∃ (N1 : V -> Hp -> Prop) (N2 : Hp -> Prop), (∀ y H4, N1 y H4 -> ∃ m', m' < m /\ W (i + 1) m' (acc ++ [y]) H4) /\ (∀ H3, N2 H3 -> ∃ m', m' < m /\ W (i + 1) m' acc H3) /\
   ∀ x H',J.yld i H x H' -> g x (capt src σ) H' λ σ2 H2=>Ext (capt src σ) σ2 /\ tc σ2 H2 λ b H3=>if b=true then te σ2 H3 N1 else N2 H3))
noncomputable def zne (src:List (Option Nat)) (wi:TI) (g:TG) (tc:TT) (te:TE):TE:=λ σ H Q=>wi σ H λ J H1=>zcF J src σ g tc te Q H1
section
variable {prog:Program} {w:World} {A:Around} {R:Result -> Shared -> Prop} {s:Shared}
def zhf {elt target iter:Expr} {ifs:List Expr} {scope:Scope} {pos:Pos} {it acc:Value} {env:Env} (I:Nat -> Shared -> Prop)
  (turn : ∀ n s, I n s -> wpAny (model prog w) A (pyNext it) (fun r s₁ => match r with
   | none=>R (.ok .next) s₁
   | some v=>wpAny (model prog w) A (letOwnedTupleGo target it v) (λ _ s₁'=>wpAny (model prog w) A (assign target env v) (λ _ s₂=>
     wpAny (model prog w) A (forIn ifs true λ c r=>if r=true then do let ok <- isTrue c env (eval c env); pure (ForInStep.yield ok) else pure (ForInStep.yield r)) (λ ok s₃=>
      if ok=true then wpAny (model prog w) A (eval elt env) (λ x s₄=>
       wpAny (model prog w) A (call (.builtin "list.append") [acc,x]) (λ _ s₅=>∃ m,m < n /\ I m s₅) (λ _ _=>False) s₄) (λ _ _=>False) s₃
      else ∃ m,m < n /\ I m s₃) (λ _ _=>False) s₂) (λ _ _=>False) s₁') (λ _ _=>False) s₁) (λ _ _=>False) s)
  (n:Nat) (h:I n s) :
  codeAny (model prog w) A (.compLoop (.ListComp elt [⟨target,iter,ifs,0⟩] scope pos) 0 it acc env) R s:=by
 refine codeAny_loop rfl I (λ n s hI=>?_) n h;show wpAny _ A ((compTurn (.ListComp elt [⟨target,iter,ifs,0⟩] scope pos) 0 it acc env).onRaise (λ x=>do noteFrame x env; theTreesLotGoes x)) _ _ s;refine wpAny_noted ?_;rw [compTurn_list];refine wpAny_bind (wpAny_standAt (wpAny_bind (wpAny_mono (turn n s hI) (λ r s₁ h₁=>?_) λ _ _ h'=>False.elim h')));cases r with
 | none=>exact wpAny_pure h₁
 | some v=>
  refine wpAny_bind (wpAny_mono h₁ (λ _ s₁' h₁'=>?_) λ _ _ h'=>False.elim h');refine wpAny_bind (wpAny_mono h₁' (λ _ s₂ h₂=>wpAny_bind (wpAny_mono h₂ (λ ok s₃ h₃=>?_) λ _ _ h'=>False.elim h')) λ _ _ h'=>False.elim h');cases ok with
  | false=>exact wpAny_pure ⟨rfl,h₃⟩
  | true=>
   exact wpAny_bind (wpAny_bind (wpAny_mono h₃ (λ x s₄ h₄=>wpAny_bind (wpAny_mono h₄ (λ _ s₅ h₅=>wpAny_pure (wpAny_pure ⟨rfl,h₅⟩)) λ _ _ h'=>False.elim h')) λ _ _ h'=>False.elim h'))
end
section
variable {X:Cx} {tg iter elt:Expr} {ifs:List Expr} {scope sc:Scope} {pos:Pos} {N N':List Str} {src:List (Option Nat)} {wi:TI} {g:TG} {tc:TT} {te:TE}
def Inv.lst_made {pins:List (Addr × Obj)} {σ:St} {H:Hp} {h:Heap} {D:Addr} {acc:List V} {its:List Value} (P:Program) (w:World) (hok:HOk P w H h) (hn:H D=none) (hz:acc.length <= sizeLine) (r:Vals acc its) (e:h.PlainList D its.toArray) :
  HOk P w (upd H D (.lst acc)) h:=λ b u q=>by
 by_cases hb:b=D
 ·subst hb;rw [zah] at q;cases q;obtain ⟨n,e⟩:=e;exact ⟨hz,its,n,r,e⟩
 ·rw [zan hb] at q;exact (hok b u q).stay (λ c v _ q=>q) (λ c q=>by rw [zan (zao q hn)]; exact q) λ c xs q=>by rw [zan (zao q hn)]; exact q
def zhQ (hc:X.calm=true) (hN:X.N=N) (hsc:X.env.scope=sc) (ok:CompOk N sc scope N' src)
    (hg:∀ C s H fp,PG (zaR X scope N' C s H fp) tg g) (ht:∀ C s H fp,PTs (zaR X scope N' C s H fp) ifs tc) (he:∀ C s H fp,PE (zaR X scope N' C s H fp) elt te)
    {pins:List (Addr × Obj)} {σ:St} {H2:Hp} {s₂:Shared} {J:It} {it:Addr} {fp:List Addr} {tn:Nat -> Heap -> Prop} (I2:Inv X pins σ H2 s₂) (T:Turn X.prog X.w X.K tg J fp it tn) (st2:tn 0 s₂.heap) (f2:∀ b ∈ fp,FpOk X pins H2 b)
    {Q:VK} (hw:zcF J src σ g tc te Q H2) {E:Value -> Shared -> Prop} {RR:Value -> Addr -> Result -> Shared -> Prop}
    (fin:∀ D C s' acc H' oC m,Inv X pins σ (upd H' D (.lst acc)) s' -> Q (.ref D) (upd H' D (.lst acc)) -> s'.heap.get? C=some oC -> s'.heap.Ns C m -> (∀ v,oC.data ≠ .cell v) -> FpOk X pins (upd H' D (.lst acc)) C -> RR (.ref D) C (.ok .next) s') :
    wpAny (model X.prog X.w) X.A (newList []) (λ acc s₃=>wpAny (model X.prog X.w) X.A (newFunctionEnv scope X.env.globals (clOf X.env scope) [] X.env.qual none .none (some X.env)) (λ cenv s₄=>
      codeAny (model X.prog X.w) X.A (.compStart (.ListComp elt [⟨tg,iter,ifs,0⟩] scope pos) 0 (.ref it) acc { cenv with scope:=relabel scope X.env }) (RR acc cenv.locals) s₄) E s₃) E s₂:=by
  subst hN hsc;refine wpAny_newObj_type (wpAny_newFunctionEnv ok.cell (by intro y hy; simp at hy) (λ h₁ hns₁ hsb₁=>?_) ok.kind);dsimp only at hns₁ hsb₁ ⊢;generalize hHp:s₂.heap.push { cls:=.type "list",dict:=none,data:=.seq ([]:List Value).toArray }=Hp2 at hns₁ hsb₁ ⊢;have hC:Hp2.objs.size=s₂.heap.objs.size + 1:=by rw [<- hHp,ycy]
  have hDC:s₂.heap.objs.size ≠ Hp2.objs.size:=by rw [hC]; exact yax (Nat.lt_succ_self _)
  have hCle:s₂.heap.objs.size <= Hp2.objs.size:=by rw [hC]; exact Nat.le_succ _
  have below:∀ b,b < s₂.heap.objs.size -> b ≠ Hp2.objs.size /\ b ≠ s₂.heap.objs.size:=λ b hb=>⟨by rw [hC]; exact yax (ybQ hb),yax hb⟩
  have old:∀ b o,s₂.heap.get? b=some o -> h₁.get? b=some o:=λ b o e=>hsb₁.extBut b o (below b (yai e)).1 (yae _ (hHp ▸ yae _ e));have hacc:h₁.PlainList s₂.heap.objs.size #[]:=⟨_,hsb₁.extBut _ _ hDC (yae _ (hHp ▸ yao _ rfl))⟩
  have hst₁:tn 0 h₁:=T.keep _ _ _ st2 λ b _ o e=>old b o e
  have fpl:∀ b ∈ fp,b < s₂.heap.objs.size:=λ b hb=>by
    obtain ⟨o,e,_⟩:=T.obj 0 _ st2 b hb;exact yai e
  generalize hCd:Hp2.objs.size=C at hns₁ hsb₁ hC hDC hCle below ⊢;generalize hDd:s₂.heap.objs.size=D at hC hDC hCle below hacc fpl ⊢;have freshH:∀ a,D <= a -> H2 a=none:=λ a ha=>I2.hok.fresh (by rw [hDd]; exact ha)
  have cellLt:∀ x c,X.env.cells.lookup x=some c -> c < D:=λ x c e=>by
    obtain ⟨v,o,ho,_⟩:=I2.cell x c e;rw [<- hDd];exact yai ho
  -- the block's context is right
  have oky:(zaR X scope N' C s₂ H2 fp).Ok:=by
    refine ⟨I2.ok.mod,?_,I2.ok.glob,I2.ok.blt,?_,λ x y c h1 h2=>I2.ok.inj x y c (zbT h1) (zbT h2),λ x hx=>?_,λ x c z=>absurd z (by simp [zaR]),I2.ok.hd,I2.ok.frames,.inl rfl,λ b hb=>?_,I2.bs,ya5 I2.ok.bsz I2.sz,λ b o e hb=>?_,λ b hb z=>?_,I2.stack,I2.stkFree⟩
    · exact ok.kind
    · show s₂.heap.objs.size <= C;rw [hDd]; exact hCle
    · have hm:=zbH (env:=X.env) (x:=x) ok.cell hx;obtain ⟨c,e⟩:=I2.ok.has x (ok.free _ hm rfl);exact ⟨c,zj6 e hm⟩
    · exact ⟨(below b (fpl b hb)).1,λ x c e=>(f2 b hb).2.2.2.2.1 x c (zbT e)⟩
    · have q := I2.ok.bs b o e;rcases (f2 b hb).2.2.2.1 with z | z
      · exact I2.ok.noex b o e z
      · exact absurd (yak (yai q.1) z) (ybn _)
    · rcases yav.mp (I2.stkSub b z) with e | e
      · exact (f2 b hb).2.1 e
      · exact (f2 b hb).2.2.1 e
  have stkLt:∀ b ∈ frs X.stack,b < D:=λ b hb=>by
    obtain ⟨_,o,ho,_⟩:=I2.stack.mem hb;rw [<- hDd];exact yai ho
  have fpo:∀ {H':Hp} {pl:List (Addr × Obj)},(∀ b ∈ fp,H' b=none) -> (∀ p ∈ pl,p.1 ∉ fp) -> ∀ b ∈ fp,FpOk (zaR X scope N' C s₂ H2 fp) pl H' b:=λ {H' pl} hn hp b hb=>
    ⟨hn b hb,(below b (fpl b hb)).1,λ z=>(oky.exfs b hb) z,.inl hb,λ x c e=>(f2 b hb).2.2.2.2.1 x c (zbT e),λ p hp' z=>by
      have hp':p ∈ pl:=by simpa [zaR] using hp'
      exact hp p hp' (by rw [z]; exact hb)⟩
  have Dfp:D ∉ fp:=λ z=>ybn _ (fpl D z)
  -- the start
  have Iy:∀ tk,Inv (zaR X scope N' C s₂ H2 fp) [] (capt src σ) H2 { s₂ with heap:=h₁,toks:=tk }:=λ tk=>by
    refine ⟨oky,rfl,I2.bare,Un.kept old,⟨_,hns₁,λ i x v h1 h2 _=>?_⟩,λ x c e=>?_,freshH _ hCle,λ x c e=>I2.freeC x c (zbT e),λ p hp=>absurd hp (by simp [zaR]),I2.hok.kept old,?_⟩
    · have h2:(src[i]?).map (λ o=>o.bind λ j=>(σ[j]?).getD none)=some (some v):=by
        rw [<- h2]; simp [capt]
      cases e:src[i]? with
      | none=>rw [e] at h2; cases h2
      | some o=>
        rw [e] at h2;cases o with
        | none=>cases h2
        | some j=>
          have h2:(σ[j]?).getD none=some v:=Option.some.inj h2
          have h3:σ[j]?=some (some v):=by
            cases q:σ[j]? with
            | none=>rw [q] at h2; cases h2
            | some y=>rw [q] at h2; cases h2; rfl
          obtain ⟨a1,a2,a3⟩:=ok.cap i j x e h1;obtain ⟨m,hn,hl⟩:=I2.loc;obtain ⟨u,ru,lu⟩:=hl j x v a1 h3 (.inr a2);refine ⟨u,ru,?_⟩;rcases lu with ⟨k,_⟩ | ⟨k,c,ec,hcell⟩
          · have k:X.env.scope.names.lookup x=some .local:=k;rcases a2 with z | z <;> rw [k] at z <;> cases z
          · refine .inr ⟨zbK a3,c,zj6 ec (ybs a3),?_⟩;obtain ⟨o,ho,hd⟩:=hcell;exact ⟨o,old c o ho,hd⟩
    · obtain ⟨v,o,ho,hd⟩:=I2.cell x c (zbT e);exact ⟨v,o,old c o ho,hd⟩
    · show (capt src σ).length=N'.length;rw [capt,yaa]; exact ok.len
  obtain ⟨W,⟨m0,w0⟩,turn⟩:=hw
  have loop:∀ tk,codeAny (model X.prog X.w) X.A (.compLoop (.ListComp elt [⟨tg,iter,ifs,0⟩] scope pos) 0 (.ref it) (.ref D) (compEnvC scope (clOf X.env scope) C X.env)) (RR (.ref D) C) { s₂ with heap:=h₁,toks:=tk }:=by
    intro tk
    refine zhf (λ n s'=>∃ i H' acc its,Inv (zaR X scope N' C s₂ H2 fp) [] (capt src σ) H' s' /\ tn i s'.heap /\ (∀ b ∈ fp,H' b=none) /\ H' D=none /\ s'.heap.PlainList D (List.toArray its) /\ Vals acc its /\ W i n acc H') ?_ m0
      ⟨0,H2,[],[],Iy tk,hst₁,λ b hb=>(f2 b hb).1,freshH _ (yag _),hacc,.nil,w0⟩
    rintro n s3 ⟨i,H3,acc,its,I3,st3,fr3,hD3,pl3,v3,w3⟩;obtain ⟨hz,turn⟩:=turn i n acc H3 w3;obtain ⟨nD,eD⟩:=pl3;have Dfs:D ∉ frs X.stack:=λ z=>ybn _ (stkLt D z)
    have I3D:Inv (zaR X scope N' C s₂ H2 fp) [(D,{ cls:=.type "list",data:=.seq its.toArray nD })] (capt src σ) H3 s3:=I3.pins_of λ p hp=>by
      have hp:p=(D,{ cls:=.type "list",data:=.seq its.toArray nD }):=by simpa [zaR] using hp
      subst hp;exact ⟨eD,hD3,hDC,Dfs,λ v z=>nomatch z⟩
    have pD:∀ p ∈ [(D,({ cls:=.type "list",data:=.seq its.toArray nD }:Obj))],p.1 ∉ fp:=λ p hp=>by
      have hp:p=(D,{ cls:=.type "list",data:=.seq its.toArray nD }):=by simpa using hp
      subst hp;exact Dfp
    rcases turn with ⟨stop,qn⟩ | ⟨go,N1,N2,hN1,hN2,step⟩
    · refine thn (T.done (zaR X scope N' C s₂ H2 fp) rfl rfl rfl hc i _ s3 _ H3 _ I3D (fpo fr3 pD) st3 stop) fun r s4 ⟨hr, I4⟩ => ?_;subst hr;obtain ⟨eD4, hD4, _⟩ := I4.pin (D, { cls := .type "list", data := .seq its.toArray nD }) (by simp [zaR]);have hok4 : HOk X.prog X.w (upd H3 D (.lst acc)) s4.heap := Inv.lst_made (pins := []) (σ := []) _ _ I4.hok hD3 hz v3 ⟨nD, eD4⟩
      have un:Un (frs X.stack) fp H2 (upd H3 D (.lst acc)) s₂.heap s4.heap:=by
        have u:Un (frs X.stack) fp H2 H3 s₂.heap s4.heap:=I4.base;have ne:∀ b o,s₂.heap.get? b=some o -> b ≠ D:=λ b o e=>yax (hDd ▸ yai e);refine ⟨u.keep,u.slot,λ b o e n hx=>?_,u.there,λ b xs e=>?_,λ b o x e=>?_,λ b ps e=>?_⟩
        · rw [zan (ne b o e)]; exact u.free b o e n hx
        · have q:=u.tups b xs e;rw [zan (zao q hD3)]; exact q
        · have q:=u.frzs b o x e;rw [zan (zao q hD3)]; exact q
        · obtain ⟨more,q⟩:=u.tbls b ps e;exact ⟨more,by rw [zan (zao q hD3)]; exact q⟩
      have chk:∀ b ∈ fp,(b ∈ X.ex \/ X.s₀.heap.objs.size <= b) /\ b ≠ X.env.locals /\ (∀ x c,X.env.cells.lookup x=some c -> c ≠ b) /\ ∀ p ∈ X.pn ++ pins,p.1 ≠ b:=λ b hb=>by
        obtain ⟨_,f1,_,f3,f4,f5⟩:=f2 b hb;exact ⟨f3,f1,f4,f5⟩
      have IX:Inv X pins σ (upd H3 D (.lst acc)) s4:=by
        have hos:s4.os=s₂.os:=I4.os;have hb4:=I4.bare;obtain ⟨hh,gg,dd,tt,os'⟩:=s4;obtain rfl:os'=s₂.os:=hos;exact I2.call (h':=hh) (g':=gg) (d':=dd) (t':=tt) (ch:=fp) un hok4 hb4 chk
      obtain ⟨mC,hnC,_⟩:=I4.loc;have hnC:s4.heap.Ns C mC:=hnC;obtain ⟨oC,es,ep,eC,dC,rC⟩:=id hnC
      have fC:FpOk X pins (upd H3 D (.lst acc)) C:=by
        refine ⟨by rw [zan hDC.symm]; exact I4.free,ybC (yak I2.lt (by rw [hDd]; exact hCle)),I2.nofs (by rw [hDd]; exact hCle),.inr (ya5 I2.sz (by rw [hDd]; exact hCle)),λ x c e z=>?_,λ p hp z=>?_⟩
        · have:=cellLt x c e;rw [z] at this;exact ybn _ (yak this hCle)
        · have:=yai (I2.pin p hp).1;rw [z,hDd] at this;exact ybn _ (yak this hCle)
      exact fin D C s4 acc H3 oC mC IX (qn D hD3) eC hnC (λ v z=>by rw [dC] at z; cases z) fC
    · refine thn (T.item (zaR X scope N' C s₂ H2 fp) rfl rfl rfl hc i _ s3 _ H3 _ I3D (fpo fr3 pD) st3 go) fun r s4 ⟨u, hr, h4⟩ => ?_;subst hr;refine thn h4 fun _ s5 ⟨x, H5, I5, r5, y5, st5, fr5⟩ => ?_;have I5' := I5.pinned (fpo fr5 pD) (T.obj _ _ st5);refine thn (hg C s₂ H2 fp _ s5 _ H5 x u _ I5' r5 (step x H5 y5)) fun _ s6 ⟨σ6, H6, I6, ex6, q6⟩ => ?_;refine thn (ht C s₂ H2 fp _ s6 σ6 H6 _ I6 q6) fun b s7 ⟨H7, I7, q7⟩ => ?_
      -- back to the start of a turn
      have back:∀ {s8:Shared} {H8:Hp},Inv (zaR X scope N' C s₂ H2 fp) ([(D,({ cls:=.type "list",data:=.seq its.toArray nD }:Obj))] ++ zih fp s5.heap) σ6 H8 s8 ->
          Inv (zaR X scope N' C s₂ H2 fp) [] (capt src σ) H8 s8 /\ tn (i + 1) s8.heap /\ (∀ b ∈ fp,H8 b=none) /\ H8 D=none /\ s8.heap.get? D=some { cls:=.type "list",data:=.seq its.toArray nD }:=λ {s8 H8} I8=>by
        have pf:∀ b ∈ fp,∀ o,s5.heap.get? b=some o -> s8.heap.get? b=some o /\ H8 b=none:=λ b hb o e=>by
          have q:=I8.pin (b,o) (yay _ (yay _ (zer hb e)));exact ⟨q.1,q.2.1⟩
        have qD:=I8.pin (D,{ cls:=.type "list",data:=.seq its.toArray nD }) (yay _ (yaA _ yaC));refine ⟨(I8.pins_of (pins':=[]) λ p hp=>absurd hp (by simp [zaR])).weak ex6.1 ex6.2,T.keep _ _ _ st5 λ b hb o e=>(pf b hb o e).1,λ b hb=>?_,qD.2.1,qD.1⟩;obtain ⟨o,e,_⟩:=T.obj _ _ st5 b hb;exact (pf b hb o e).2
      cases b with
      | false=>
        obtain ⟨m',hm,w7⟩:=hN2 H7 (by simpa using q7);obtain ⟨J8,st8,fr8,hD8,eD8⟩:=back I7;exact (by simpa using (⟨m',hm,i + 1,H7,acc,its,J8,st8,fr8,hD8,⟨nD,eD8⟩,v3,w7⟩:∃ m,m < n /\ ∃ i H' acc its,Inv (zaR X scope N' C s₂ H2 fp) [] (capt src σ) H' s7 /\ tn i s7.heap /\ (∀ b ∈ fp,H' b=none) /\ H' D=none /\ s7.heap.PlainList D (List.toArray its) /\ Vals acc its /\ W i m acc H'))
      | true=>
        have q7:te σ6 H7 N1:=by simpa using q7
        show wpAny _ _ _ _ _ _;refine thn (he C s₂ H2 fp _ s7 σ6 H7 _ I7 q7) λ u8 s8 ⟨y,H8,I8,r8,n8⟩=>?_;obtain ⟨m',hm,w8⟩:=hN1 y H8 n8;obtain ⟨J8,st8,fr8,hD8,eD8⟩:=back I8
        have hl8:its.toArray.size <= sizeLine:=by
          have:=v3.length;simp only [yap];omega
        refine wpAny_list_append_plain (l:=D) (items:=its.toArray) ⟨nD,eD8⟩ (λ h' pl9 sb9=>?_) hl8;have kp:∀ b o,b ≠ D -> s8.heap.get? b=some o -> h'.get? b=some o:=λ b o hb e=>(sb9.2 b hb).trans e
        have J9:Inv (zaR X scope N' C s₂ H2 fp) [] (capt src σ) H8 { s8 with heap:=h' }:=J8.turned (t':=s8.toks) kp hD8 hDC (.inr (show s₂.heap.objs.size <= D from Nat.le_of_eq hDd))
          (λ x c e z=>ybn D (by have:=cellLt x c (zbT e); rw [z] at this; exact this)) (λ p hp=>absurd hp (by simp [zaR]))
        refine ⟨m',hm,i + 1,H8,acc ++ [y],its ++ [u8],J9,T.keep _ _ _ st8 λ b hb o e=>kp b o (λ z=>Dfp (z ▸ hb)) e,fr8,hD8,?_,v3.append (.cons r8 .nil),w8⟩;have e9:its.toArray.push u8=(its ++ [u8]).toArray:=by simp
        rw [<- e9]; exact pl9
  exact codeAny_compStart_list (loop _) (T.self _ 0 _ _ _ hst₁ (loop _))
def zaZ (hc:X.calm=true) (hi:PI X tg iter wi) (hg:∀ C s H fp,PG (zaR X scope N' C s H fp) tg g) (ht:∀ C s H fp,PTs (zaR X scope N' C s H fp) ifs tc) (he:∀ C s H fp,PE (zaR X scope N' C s H fp) elt te)
  (ok:zjf N sc scope N' src=true) (hN:X.N=N:=by rfl) (hsc:X.env.scope=sc:=by rfl) (hs:∀ x,foldedSetIterable iter X.env x=pure x:=by intro _; rfl) :
  PE X (.ListComp elt [⟨tg,iter,ifs,0⟩] scope pos) (zne src wi g tc te):=by
 intro pins s σ H Q I h;have ok:=zik ok;rw [eval_ListComp];have hclos:closureFor scope X.env=pure (clOf X.env scope):=zd8 λ p hp hf=>I.ok.has p.1 (by subst hsc; exact ok.free p hp hf);refine wpAny_comprehension_free (use:=none) rfl hs hclos ok.kind ok.names (thn (hi pins s σ H _ I h) λ xv s₁ h₁=>thn h₁ λ itv s₂ h₂=>?_);obtain ⟨it,fp,tn,J,H2,e,I2,T,st2,f2,hw⟩:=h₂;subst e;refine zhQ hc hN hsc ok hg ht he I2 T st2 f2 hw (RR:=λ acc C=>compPost (model X.prog X.w) X.A X.xe none (EP X pins σ Q) acc C) ?_;intro D C s' acc H' oC m IX q eC hn nc f;obtain ⟨f0,f1,f2',f3,f4,f5⟩:=f;refine ⟨m,hn,λ h' sb=>⟨.ref D,upd H' D (.lst acc),?_,rfl,q⟩⟩;exact IX.turned (t':=s'.toks) (λ b o hb e=>(sb.2 b hb).trans e) f0 f1 f3 f4 f5
noncomputable def zjb (src:List (Option Nat)) (wi:TI) (g:TG) (tc:TT) (te:TE) (j:Nat):TS:=λ D σ H=>zne src wi g tc te σ H λ x H1=>D.nx (σ.set j (some x)) H1
def zb7 {j:Nat} {y:Str} {py spos:Pos} (hnd:X.N.Nodup) (hj:X.N[j]?=some y) (hy:Loc X.env.scope y)
  (hc:X.calm=true) (hi:PI X tg iter wi) (hg:∀ C s H fp,PG (zaR X scope N' C s H fp) tg g) (ht:∀ C s H fp,PTs (zaR X scope N' C s H fp) ifs tc) (he:∀ C s H fp,PE (zaR X scope N' C s H fp) elt te)
  (ok:zjf N sc scope N' src=true) (hN:X.N=N:=by rfl) (hsc:X.env.scope=sc:=by rfl) (hs:∀ x,foldedSetIterable iter X.env x=pure x:=by intro _; rfl)
  (hsw:swapsWith (.ListComp elt [⟨tg,iter,ifs,0⟩] scope pos) (some (.Name y py)) spos.line X.env=pure true:=by rfl)
  (hf:X.fn y=true \/ X.env.scope.names.lookup y=some .local:=by first | exact .inl rfl | exact .inr rfl | assumption) :
  PS X (.Assign [.Name y py] (.ListComp elt [⟨tg,iter,ifs,0⟩] scope pos) spos) (zjb src wi g tc te j):=by
 intro pins s σ H D I h;have ok:=zik ok;rw [exec_Assign_Name_used _ _ _ _ hsw];refine wpAny_bind (wpAny_standAt (wpAny_bind ?_));show wpAny _ _ (do let _ <- comprehension (.ListComp elt [⟨tg,iter,ifs,0⟩] scope pos) scope X.env _ (newList []) false (eval iter X.env) (some (assign (.Name y py) X.env))) _ _ s;have hclos:closureFor scope X.env=pure (clOf X.env scope):=zd8 λ p hp hf=>I.ok.has p.1 (by subst hsc; exact ok.free p hp hf)
 refine wpAny_bind (wpAny_mono (wpAny_comprehension_free (use:=some (assign (.Name y py) X.env)) (Q:=λ _ s'=>SP X pins D .next s') rfl hs hclos ok.kind ok.names
  (thn (hi pins s σ H _ I h) λ xv s₁ h₁=>thn h₁ λ itv s₂ h₂=>?_)) (λ _ s' hq=>wpAny_pure (wpAny_pure hq)) λ _ _ e=>e)
 obtain ⟨it,fp,tn,J,H2,e,I2,T,st2,f2,hw⟩:=h₂;subst e;refine zhQ hc hN hsc ok hg ht he I2 T st2 f2 hw (RR:=λ acc C=>compPost (model X.prog X.w) X.A X.xe (some (assign (.Name y py) X.env)) (λ _ s'=>SP X pins D .next s') acc C) ?_;intro D' C s' acc H' oC m IX q eC hn nc f;obtain ⟨f0,f1,f2',f3,f4,f5⟩:=f;show wpAny _ _ (assign (.Name y py) X.env (.ref D')) _ _ s'
 have IC:Inv X (pins ++ [(C,oC)]) σ (upd H' D' (.lst acc)) s':=IX.pins_of λ p hp=>(yas.mp hp).elim (λ z=>IX.pin p (yay _ z)) λ z=>by
  have z:p=(C,oC):=by simpa using z
  subst z;exact ⟨eC,f0,f1,f2',nc⟩
 refine wpAny_assign_Name (zd3 IC hnd hj hy (show RelV (.ref D') (.ref D') from rfl) (λ s2 I2'=>?_) hf);have qC:=I2'.pin (C,oC) (yay _ (yay _ yaC));obtain ⟨oC',es,ep,eC',r⟩:=hn;rw [eC] at eC';cases eC';refine ⟨m,⟨oC,es,ep,qC.1,r⟩,λ h' sb=>⟨σ.set j (some (.ref D')),upd H' D' (.lst acc),?_,q⟩⟩;exact I2'.unpinned.turned (t':=s2.toks) (λ b o hb e=>(sb.2 b hb).trans e) f0 f1 f3 f4 f5
end
def ziZ {σ:St} {i:Nat} {v:V} (h:σ[i]?=some none):Ext σ (σ.set i (some v)):=by
 refine ⟨by simp,λ k u e=>?_⟩;by_cases hk:i=k
 ·subst hk; rw [h] at e; cases e
 ·rw [ycH hk]; exact e
def zgb {lo:Int} {n:Nat} {src:List (Option Nat)} {σ:St} {g:TG} {tc:TT} {te:TE} {Q:VK} {H:Hp} (Pv:Nat -> List V -> Hp -> Prop) (h0:Pv 0 [] H) (len:∀ i acc H,Pv i acc H -> acc.length <= sizeLine)
  (step:∀ i acc H,i < n -> Pv i acc H -> g (.int (lo + i)) (capt src σ) H λ σ2 H2=>Ext (capt src σ) σ2 /\ tc σ2 H2 λ b H3=>if b=true then te σ2 H3 (λ y H4=>Pv (i + 1) (acc ++ [y]) H4) else Pv (i + 1) acc H3)
  (done:∀ acc H,Pv n acc H -> ∀ p,H p=none -> Q (.ref p) (upd H p (.lst acc))):zcF (Itr lo n) src σ g tc te Q H:=by
 refine ⟨λ i m acc H=>m=n - i /\ i <= n /\ Pv i acc H,⟨n,by simp,yaY _,h0⟩,?_⟩;rintro i m acc H ⟨rfl,hi,p⟩;refine ⟨len i acc H p,?_⟩;by_cases hlt:i < n
 ·refine .inr ⟨hlt,λ y H4=>Pv (i + 1) (acc ++ [y]) H4,λ H3=>Pv (i + 1) acc H3,λ y H4 q=>⟨n - (i + 1),by omega,rfl,hlt,q⟩,λ H3 q=>⟨n - (i + 1),by omega,rfl,hlt,q⟩,λ x H' y=>?_⟩;obtain ⟨e,y⟩:=y;subst e y;exact step i acc _ hlt p
 ·have e : i = n := by omega
  subst e;exact .inl ⟨yag _,done acc H p⟩
def zbL {K:PySem.W.Frag} {a:Addr} {xs:List V} {src:List (Option Nat)} {σ:St} {g:TG} {tc:TT} {te:TE} {Q:VK} {H:Hp} (Pv:Nat -> List V -> Hp -> Prop) (h0:Pv 0 [] H) (len:∀ i acc H,Pv i acc H -> acc.length <= sizeLine)
  (hl:∀ i acc H,Pv i acc H -> SqL K H a xs)
  (step:∀ i x acc H,xs[i]?=some x -> Pv i acc H -> g x (capt src σ) H λ σ2 H2=>Ext (capt src σ) σ2 /\ tc σ2 H2 λ b H3=>if b=true then te σ2 H3 (λ y H4=>Pv (i + 1) (acc ++ [y]) H4) else Pv (i + 1) acc H3)
  (done:∀ acc H,Pv xs.length acc H -> ∀ p,H p=none -> Q (.ref p) (upd H p (.lst acc))):zcF (Itl K a) src σ g tc te Q H:=by
 refine ⟨λ i m acc H=>m=xs.length - i /\ i <= xs.length /\ Pv i acc H,⟨xs.length,by simp,yaY _,h0⟩,?_⟩;rintro i m acc H ⟨rfl,hi,p⟩;refine ⟨len i acc H p,?_⟩;by_cases hlt:i < xs.length
 ·refine .inr ⟨⟨xs,xs[i],hl i acc H p,by simp [hlt]⟩,λ y H4=>Pv (i + 1) (acc ++ [y]) H4,λ H3=>Pv (i + 1) acc H3,λ y H4 q=>⟨xs.length - (i + 1),by omega,rfl,hlt,q⟩,λ H3 q=>⟨xs.length - (i + 1),by omega,rfl,hlt,q⟩,λ x H' y=>?_⟩;obtain ⟨e,y⟩:=y;subst e;exact step i x acc _ (y xs (hl i acc _ p)) p
 ·have e : i = xs.length := by omega
  subst e;exact .inl ⟨⟨xs,hl _ acc H p,yag _⟩,done acc H p⟩
def zjp {K:PySem.W.Frag} {a:Addr} {xs:List V} {src:List (Option Nat)} {σ:St} {g:TG} {tc:TT} {te:TE} {Q:VK} {H:Hp} (Pv:Nat -> List V -> Hp -> Prop) (h0:Pv 0 [] H) (len:∀ i acc H,Pv i acc H -> acc.length <= sizeLine)
  (hl:∀ i acc H,Pv i acc H -> SqT K H a xs)
  (step:∀ i x acc H,xs[i]?=some x -> Pv i acc H -> g x (capt src σ) H λ σ2 H2=>Ext (capt src σ) σ2 /\ tc σ2 H2 λ b H3=>if b=true then te σ2 H3 (λ y H4=>Pv (i + 1) (acc ++ [y]) H4) else Pv (i + 1) acc H3)
  (done:∀ acc H,Pv xs.length acc H -> ∀ p,H p=none -> Q (.ref p) (upd H p (.lst acc))):zcF (Itt K a) src σ g tc te Q H:=by
 refine ⟨λ i m acc H=>m=xs.length - i /\ i <= xs.length /\ Pv i acc H,⟨xs.length,by simp,yaY _,h0⟩,?_⟩;rintro i m acc H ⟨rfl,hi,p⟩;refine ⟨len i acc H p,?_⟩;by_cases hlt:i < xs.length
 ·refine .inr ⟨⟨xs,xs[i],hl i acc H p,by simp [hlt]⟩,λ y H4=>Pv (i + 1) (acc ++ [y]) H4,λ H3=>Pv (i + 1) acc H3,λ y H4 q=>⟨xs.length - (i + 1),by omega,rfl,hlt,q⟩,λ H3 q=>⟨xs.length - (i + 1),by omega,rfl,hlt,q⟩,λ x H' y=>?_⟩;obtain ⟨e,y⟩:=y;subst e;exact step i x acc _ (y xs (hl i acc _ p)) p
 ·have e : i = xs.length := by omega
  subst e;exact .inl ⟨⟨xs,hl _ acc H p,yag _⟩,done acc H p⟩
def Ext.trans {a b c:St} (h:Ext a b) (k:Ext b c):Ext a c:=⟨h.1.trans k.1,λ i v e=>k.2 i v (h.2 i v e)⟩
noncomputable def FnAt (P:Program) (w:World) (K:PySem.W.Frag) (mg:Str -> Option Value) (base:Heap) (x:Str) (ps:List Str) (k:Nat) (sp:Sp):Prop:=
 ∃ f fd,mg x=some (.ref f) /\ PySem.W.keepIn K (.ref f)=true /\ zi1 K fd ps [] /\ FnOk P w K mg base CX0 k f fd ps sp
section
variable {X:Cx} {x:Str} {p pos:Pos} {e:Expr} {es:List Expr} {t:TA} {ps:List Str} {k:Nat} {sp:Sp}
def zai (h:FnAt X.prog X.w X.K X.mg X.base x ps k sp) (hr:Room k X.A) (ha:PA X (e :: es) t) (hg:Gl X x:=by rfl) (hdb:(x == ("__debug__":Str))=false:=by decide)
  (he:starEach (e :: es) X.env=(false,eval e X.env) :: starEach es X.env:=by rfl) (hpl:(backTo pos (starEach es X.env)).any (·.1)=false:=by rfl):PE X (.Call (.Name x p) (e :: es) [] pos) (zoo sp [] E0 t):=by
 obtain ⟨f,fd,hm,hk,hb,F⟩:=h;exact zoC F hr hg hm hk hb .nil zrc ha hdb he hpl
end
noncomputable def iSeq (K:PySem.W.Frag) (tl:TE):TI:=λ σ H R=>tl σ H λ x H1=>∃ a,x=.ref a /\ (((∃ xs,SqL K H1 a xs) /\ R (Itl K a) H1) \/ ((∃ xs,SqT K H1 a xs) /\ R (Itt K a) H1))
section
variable {X:Cx} {tg:Expr}
def zpf {l:Expr} {tl:TE} (hl:PE X l tl):PI X tg l (iSeq X.K tl):=by
 intro pins s σ H R I h;refine thn (hl pins s σ H _ I h) λ v s1 ⟨x,H1,I1,r1,q1⟩=>?_;obtain ⟨a,e,q1⟩:=q1;subst e;cases r1;rcases q1 with ⟨⟨xs,hq⟩,q⟩ | ⟨⟨xs,hq⟩,q⟩
 ·obtain ⟨its, rv, p, hz⟩ := I1.list hq;refine wpAny_pyIter_list p.isList ?_;refine ⟨s1.heap.objs.size, [s1.heap.objs.size], _, _, H1, rfl, I1.kept (t' := s1.toks) fun b o e => yae _ e, zlh a _, ⟨_, yao _ rfl, rfl, rfl⟩, fun b hb => ?_, q⟩;have e : b = s1.heap.objs.size := by simpa using hb
  subst e;exact I1.fpOk (yag _) (I1.hok.fresh (yag _))
 ·obtain ⟨its, rv, p, hz⟩ := I1.tuple hq;refine wpAny_pyIter_tuple (show s1.heap.IsTuple a its.toArray from p) ?_;refine ⟨s1.heap.objs.size, [s1.heap.objs.size], _, _, H1, rfl, I1.kept (t' := s1.toks) fun b o e => yae _ e, zkD a _, ⟨_, yao _ rfl, rfl, rfl⟩, fun b hb => ?_, q⟩;have e : b = s1.heap.objs.size := by simpa using hb
  subst e;exact I1.fpOk (yag _) (I1.hok.fresh (yag _))
end
section
variable {X:Cx} {pins:List (Addr × Obj)} {σ:St} {H:Hp} {s:Shared} {h':Heap} {ch:List Addr}
def Inv.turnL {t':Nat} (I:Inv X pins σ H s) (hf:∀ b ∈ ch,FpOk X pins H b) (k:∀ b o,b ∉ ch -> s.heap.get? b=some o -> h'.get? b=some o):Inv X pins σ H { s with heap:=h',toks:=t' }:=by
 have nit:∀ b u,H b=some u -> b ∉ ch:=λ b u e z=>by rw [(hf b z).1] at e; cases e
 refine I.step (g':=s.gens) (d':=s.drawn) (ch:=ch) (λ b hb=>?_) (λ b o _ _ hc e _=>k b o hc e) (λ b o _ _ hc e _=>⟨o.slots,k b o hc e⟩) (λ _ _ _ _ n=>n)
  (λ b o hc e=>⟨o,k b o hc e⟩) (λ _ _ e=>e) (λ _ _ _ e=>e) (λ b ps e=>⟨#[],by rw [e]; simp⟩) (λ m hm=>?_) (λ b u e=>?_) I.bare
 ·obtain ⟨_,f1,_,f3,f4,f5⟩:=hf b hb;exact ⟨f3,f1,f4,f5⟩
 ·obtain ⟨o,es,ep,ho,r⟩:=hm;exact ⟨o,es,ep,k _ o (λ z=>(hf _ z).2.1 rfl) ho,r⟩
 ·refine (I.hok b u e).stay (fun c v hc q => k c v ?_ q) (fun _ q => q) fun _ _ q => q;rcases hc with rfl | hc
  ·exact nit _ _ e
  ·exact nit _ _ hc
def Inv.turnTup {T:Addr} {xs:List V} {its:List Value} {t':Nat} (I:Inv X pins σ H s) (hf:∀ b ∈ ch,FpOk X pins H b) (k:∀ b o,b ∉ ch -> s.heap.get? b=some o -> h'.get? b=some o)
  (hT:s.heap.objs.size <= T) (ht:zbm h' T its.toArray) (r:Vals xs its) (hz:xs.length <= sizeLine):Inv X pins σ (upd H T (.tup xs)) { s with heap:=h',toks:=t' }:=by
 have J:Inv X pins σ H { s with heap:=h',toks:=t' }:=I.turnL hf k;have hn:H T=none:=I.hok.fresh hT;have ne:∀ b o,s.heap.get? b=some o -> b ≠ T:=λ b o e=>yax (yak (yai e) hT);refine ⟨J.ok,J.os,J.bare,?_,J.loc,J.cell,?_,λ x c e=>?_,λ p hp=>?_,λ b u q=>?_,J.len⟩
 ·have u := J.base;refine ⟨u.keep, u.slot, fun b o e n hx => ?_, u.there, fun b ys e => ?_, fun b o x e => ?_, fun b ps e => ?_⟩
  ·rw [zan (yax (yak (yai e) (ya5 I.sz hT)))];exact u.free b o e n hx
  ·have q:=u.tups b ys e;rw [zan (zao q hn)]; exact q
  ·have q:=u.frzs b o x e;rw [zan (zao q hn)]; exact q
  ·obtain ⟨more,q⟩:=u.tbls b ps e;exact ⟨more,by rw [zan (zao q hn)]; exact q⟩
 ·rw [zan (yax (yak I.lt hT))]; exact I.free
 ·obtain ⟨v,o,ho,_⟩:=I.cell x c e;rw [zan (ne c o ho)]; exact I.freeC x c e
 ·obtain ⟨e,n,r⟩:=J.pin p hp;refine ⟨e,?_,r⟩;rw [zan (ne _ _ (I.pin p hp).1)]; exact n
 ·by_cases hb : b = T
  ·subst hb;rw [zah] at q;cases q;exact ⟨hz,its,r,ht⟩
  ·rw [zan hb] at q;exact (J.hok b u q).stay (λ c v _ q=>q) (λ c q=>by rw [zan (zao q hn)]; exact q) λ c xs q=>by rw [zan (zao q hn)]; exact q
end
mutual
noncomputable def DatV (K:PySem.W.Frag) (H:Hp):PyData -> V -> Prop
 | .none,v=>v=.non
 | .bool b,v=>v=.bl b
 | .int i,v=>v=.int i
 | .str x,v=>v=.str x
 | .list ds,v=>∃ a xs,v=.ref a /\ SqL K H a xs /\ DatVs K H ds xs
 | .tuple ds,v=>∃ a xs,v=.ref a /\ SqT K H a xs /\ DatVs K H ds xs
 | .dict _,_=>False
noncomputable def DatVs (K:PySem.W.Frag) (H:Hp):List PyData -> List V -> Prop
 | [],xs=>xs=[]
 | d :: ds,xs=>∃ y ys,xs=y :: ys /\ DatV K H d y /\ DatVs K H ds ys
end
section
variable {X:Cx} {pins:List (Addr × Obj)} {σ:St} {H:Hp} {s:Shared}
mutual
def DatV.reads (I:Inv X pins σ H s):∀ (d:PyData) {x:V} {u:Value},DatV X.K H d x -> RelV x u -> ∃ as,Reads s.heap u d as
 | .none,x,u,h,r=>by
  rw [DatV] at h; subst h; cases r; exact ⟨_,.none⟩
 | .bool b,x,u,h,r=>by
  rw [DatV] at h; subst h; cases r; exact ⟨_,.bool b⟩
 | .int i,x,u,h,r=>by
  rw [DatV] at h; subst h; obtain ⟨t,rfl⟩:=r; exact ⟨_,.int i t⟩
 | .str z,x,u,h,r=>by
  rw [DatV] at h; subst h; obtain ⟨t,rfl⟩:=r; exact ⟨_,.str z t⟩
 | .list ds,x,u,h,r=>by
  rw [DatV] at h;obtain ⟨a,xs,rfl,hq,hd⟩:=h;cases r;obtain ⟨its,rv,⟨o,n,e,c,_,d⟩,hz⟩:=I.list hq;obtain ⟨as,ra⟩:=DatVs.reads I ds hd rv;exact ⟨_,.list e c d (by simpa using ra)⟩
 | .tuple ds,x,u,h,r=>by
  rw [DatV] at h;obtain ⟨a,xs,rfl,hq,hd⟩:=h;cases r;obtain ⟨its,rv,⟨o,e,c,n,d⟩,hz⟩:=I.tuple hq;obtain ⟨as,ra⟩:=DatVs.reads I ds hd rv;exact ⟨_,.tuple e c d (by simpa using ra)⟩
 | .dict _,x,u,h,r=>by
  rw [DatV] at h; exact h.elim
def DatVs.reads (I:Inv X pins σ H s):∀ (ds:List PyData) {xs:List V} {us:List Value},DatVs X.K H ds xs -> Vals xs us -> ∃ as,ReadsAll s.heap us ds as
 | [],xs,us,h,r=>by
  rw [DatVs] at h; subst h; cases r; exact ⟨_,.nil⟩
 | d :: ds,xs,us,h,r=>by
  rw [DatVs] at h;obtain ⟨y,ys,rfl,h1,h2⟩:=h;cases r with
  | cons r1 r2=>
   obtain ⟨as,a1⟩:=DatV.reads I d h1 r1;obtain ⟨bs,a2⟩:=DatVs.reads I ds h2 r2;exact ⟨_,.cons a1 a2⟩
end
end
def DatV.int (K:PySem.W.Frag) (H:Hp) (i:Int):DatV K H (.int i) (.int i):=by rw [DatV]
def DatV.bool (K:PySem.W.Frag) (H:Hp) (i:Bool):DatV K H (.bool i) (.bl i):=by rw [DatV]
def DatV.none (K:PySem.W.Frag) (H:Hp):DatV K H .none .non:=by rw [DatV]
def DatV.str (K:PySem.W.Frag) (H:Hp) (i:Str):DatV K H (.str i) (.str i):=by rw [DatV]
def DatV.list {K:PySem.W.Frag} {H:Hp} {a:Addr} {xs:List V} {ds:List PyData} (h:SqL K H a xs) (k:DatVs K H ds xs):DatV K H (.list ds) (.ref a):=by rw [DatV]; exact ⟨a,xs,rfl,h,k⟩
def DatV.tuple {K:PySem.W.Frag} {H:Hp} {a:Addr} {xs:List V} {ds:List PyData} (h:SqT K H a xs) (k:DatVs K H ds xs):DatV K H (.tuple ds) (.ref a):=by rw [DatV]; exact ⟨a,xs,rfl,h,k⟩
def DatVs.nil {K:PySem.W.Frag} {H:Hp}:DatVs K H [] []:=by rw [DatVs]
def DatVs.cons {K:PySem.W.Frag} {H:Hp} {d:PyData} {ds:List PyData} {x:V} {xs:List V} (h:DatV K H d x) (k:DatVs K H ds xs):DatVs K H (d :: ds) (x :: xs):=by rw [DatVs]; exact ⟨x,xs,rfl,h,k⟩
def DatVs.ints (K:PySem.W.Frag) (H:Hp):∀ ns:List Int,DatVs K H (ns.map .int) (ns.map V.int)
 | []=>.nil
 | n :: ns=>.cons (.int K H n) (DatVs.ints K H ns)
noncomputable abbrev shpd:=SeqAt.shaped
def zlB (ns:List Int):shpd (.list (ns.map PyData.int))=true:=PySem.W.ke_shaped_ints ns
def zca (ns:List Int):shpd (.tuple (ns.map PyData.int))=true:=by
 have h:=PySem.W.ke_shaped_ints ns;simpa [SeqAt.shaped,PyData.canLay0,PyData.depth] using h
def zdF:∀ ns ms:List Int,PyData.eqvAll (ns.map .int) (ms.map .int)=decide (ns=ms)
 | [],[]=>by simp [PyData.eqvAll]
 | [],_ :: _=>by simp [PyData.eqvAll]
 | _ :: _,[]=>by simp [PyData.eqvAll]
 | a :: r,b :: t=>by
  simp only [yaP,PyData.eqvAll,PyData.eqv,zdF r t];by_cases h:a=b <;> by_cases h':r=t <;> simp [h,h']
noncomputable def rEqU (K:PySem.W.Frag):R2:=λ x y H Q=>∃ d e,DatV K H d x /\ DatV K H e y /\ shpd d=true /\ shpd e=true /\ Q (.bl (PyData.eqv d e)) H
noncomputable def rNeU (K:PySem.W.Frag):R2:=λ x y H Q=>∃ d e,DatV K H d x /\ DatV K H e y /\ shpd d=true /\ shpd e=true /\ Q (.bl (!PyData.eqv d e)) H
section
variable {X:Cx}
def zqA (hu:X.A.units + 64 < cLine):OpR X (compareOp .Eq) (rEqU X.K):=by
 intro pins s σ H x y v u Q I rx ry h;obtain ⟨d,e,hd,he,sd,se,q⟩:=h;obtain ⟨as,ra⟩:=DatV.reads I d hd rx;obtain ⟨bs,rb⟩:=DatV.reads I e he ry;exact eq_dataH ra rb sd se hu ⟨.bl _,H,I,rfl,q⟩
def zqC (hu:X.A.units + 64 < cLine):OpR X (compareOp .NotEq) (rNeU X.K):=by
 intro pins s σ H x y v u Q I rx ry h;obtain ⟨d,e,hd,he,sd,se,q⟩:=h;obtain ⟨as,ra⟩:=DatV.reads I d hd rx;obtain ⟨bs,rb⟩:=DatV.reads I e he ry;exact ne_dataH ra rb sd se hu ⟨.bl _,H,I,rfl,q⟩
noncomputable def znA (K:PySem.W.Frag):R2:=λ x y H Q=>rI0 (λ i j=>.int (i + j)) x y H Q \/ (rCat x y H Q \/ zqg K x y H Q)
def zo2:OpR X (binaryOp .Add) (znA X.K):=zqx.or (zp8.or zoy)
noncomputable def zpv:R2:=λ x y H Q=>rI CMul (λ i j=>.int (i * j)) x y H Q \/ rRep x y H Q
def zoW:OpR X (binaryOp .Mult) zpv:=zpH.or zqn
noncomputable def rIsU:R2:=λ x y H Q=>(y=.non /\ Q (.bl (decide (x=.non))) H) \/ (∃ a b,x=.bl a /\ y=.bl b /\ Q (.bl (a == b)) H)
def zqh:OpR X (compareOp .Is) (λ x y H Q=>∃ a b,x=.bl a /\ y=.bl b /\ Q (.bl (a == b)) H):=by
 intro pins s σ H x y v u Q I rx ry h;obtain ⟨a,b,rfl,rfl,q⟩:=h;cases rx;cases ry;exact is_bool ⟨.bl _,H,I,rfl,q⟩
def znQ:OpR X (compareOp .Is) rIsU:=zqe.or zqh
noncomputable def zpE:R2:=λ x y H Q=>(y=.non /\ Q (.bl (!decide (x=.non))) H) \/ (∃ a b,x=.bl a /\ y=.bl b /\ Q (.bl (a != b)) H)
def zoD:OpR X (compareOp .IsNot) (λ x y H Q=>∃ a b,x=.bl a /\ y=.bl b /\ Q (.bl (a != b)) H):=by
 intro pins s σ H x y v u Q I rx ry h;obtain ⟨a,b,rfl,rfl,q⟩:=h;cases rx;cases ry;exact isnot_bool ⟨.bl _,H,I,rfl,q⟩
def zk5:OpR X (compareOp .IsNot) zpE:=zoz.or zoD
def slU:SlR X (λ x lo hi H Q=>rSlL X.K x lo hi H Q \/ rSlT X.K x lo hi H Q):=zoq.or zq1
noncomputable def zpV:V -> List V -> Hp -> VK -> Prop:=λ x xs H Q=>∃ i,x=.int i /\ xs=[] /\ Q (.int (Builtin.Int.intBits i)) H
def zod:MtR X "int.bit_length" zpV:=by
 intro pins s σ H x xs v us Q I rx rv h;obtain ⟨i,rfl,rfl,q⟩:=h;obtain ⟨t,rfl⟩:=rx;have hus:=rv.zero;subst hus;exact call_int_bit_length ⟨.int _,H,I.tok _,⟨_,rfl⟩,q⟩
def zmF (bs:List Bool):(List.range bs.length).all (λ i=>bs[i]?.getD false)=bs.all id:=by
 rw [Bool.eq_iff_iff];simp only [ya1,yat,id];constructor
 ·intro h b hb;obtain ⟨i,hi,e⟩:=ybb.mp hb;have:=h i hi;simp only [yab hi,Option.getD_some,e] at this;exact this
 ·intro h i hi;simp only [yab hi,Option.getD_some];exact h _ (yaW hi)
noncomputable def zqk (K:PySem.W.Frag) (g:List Bool -> Bool):List V -> Hp -> VK -> Prop:=λ xs H Q=>∃ a bs,xs=[.ref a] /\ SqL K H a (bs.map V.bl) /\ Q (.bl (g bs)) H
def zgt:∀ {bs:List Bool} {us:List Value},Vals (bs.map V.bl) us -> us=bs.map Value.bool
 | [],_,.nil=>rfl
 | b :: bs,_,.cons r t=>by
  have e:_=Value.bool b:=r;rw [e,zgt t];rfl
def zmD (hc:X.calm=true):zb1 X (.builtin "all") (zqk X.K λ bs=>bs.all id):=by
 intro pins s σ H xs us Q I r h;obtain ⟨a,bs,rfl,hq,q⟩:=h;obtain ⟨u,rfl,ru⟩:=r.one;cases ru;obtain ⟨its,rv,pl,hz⟩:=I.list hq;have ei:=zgt rv;subst ei;have hh:X.A.in1.handled=none:=I.ok.hd hc;have al:a < s.heap.objs.size:=by obtain ⟨o,n,e,_⟩:=pl; exact yai e
 refine call_all_walk (wpAny_pyIter_list pl.isList ?_);refine ⟨s.heap.objs.size,_,_,_,_,_,λ i=>bs[i]?.getD false,rfl,Walks.list hh s.heap.objs.size a (yax al) (bs.map Value.bool).toArray,⟨⟨_,yao _ rfl,rfl,rfl⟩,pl.isList.push _⟩,?_,λ h' tk hk=>?_⟩
 ·intro i v s' Q' E' hv hQ;have hv : (bs.map Value.bool)[i]? = some v := by simpa using hv
  rw [yan] at hv;cases e:bs[i]? with
  | none=>rw [e] at hv; cases hv
  | some b=>
   rw [e] at hv;cases hv;simp only [e,Option.getD_some] at hQ;exact wpAny_truthy_bool hQ
 ·have I2:Inv X pins σ H { s with heap:=h',toks:=tk }:=I.kept λ b o e=>hk b o (by
   intro z;have z:b=s.heap.objs.size:=by simpa using z
   exact absurd (yai e) (by rw [z]; exact ybn _)) (yae _ e)
  refine ⟨.bl _,H,I2,rfl,?_⟩;have e:(bs.map Value.bool).toArray.size=bs.length:=by simp
  rw [e,zmF];exact q
noncomputable def rIsi (K:PySem.W.Frag):List V -> Hp -> VK -> Prop:=λ xs H Q=>∃ x T t b,xs=[x,.ty T] /\ TyOf K H x t /\ PySem.W.kitOne K t (.type T)=some b /\ Q (.bl b) H
def znB:zb1 X (.builtin "isinstance") (rIsi X.K):=by
 intro pins s σ H xs us Q I r h;obtain ⟨x,T,t,b,rfl,ty,e,q⟩:=h;obtain ⟨u,v,rfl,ru,rv⟩:=r.two;cases rv;exact zlV I ru ty e λ tk=>⟨.bl b,H,I.tok tk,rfl,q⟩
noncomputable def rLen (K:PySem.W.Frag):List V -> Hp -> VK -> Prop:=λ xs H Q=>∃ x n,xs=[x] /\ LenV K x H n /\ Q (.int n) H
def zlS:zb1 X (.builtin "len") (rLen X.K):=znr
noncomputable def rAbs:List V -> Hp -> VK -> Prop:=λ xs H Q=>∃ i,xs=[.int i] /\ Q (.int (if i < 0 then -i else i)) H
def zmv:zb1 X (.builtin "abs") rAbs:=zm3
noncomputable def zmx (K:PySem.W.Frag):List V -> Hp -> VK -> Prop:=λ xs H Q=>∃ p ys,xs=[.ref p] /\ ((SqL K H p ys /\ ∀ l,H l=none -> Q (.ref l) (upd H l (.tup ys))) \/ (SqT K H p ys /\ Q (.ref p) H))
def zlN:zb1 X (.type "tuple") (zmx X.K):=zgR
noncomputable def zqm:List V -> Hp -> VK -> Prop:=λ xs H Q=>∃ i j,xs=[.int i,.int j] /\ Q (.int (if j > i then j else i)) H
def zhO (hc:X.calm=true):zb1 X (.builtin "max") zqm:=zlm hc
noncomputable def zpz:List V -> Hp -> VK -> Prop:=λ xs H Q=>∃ i j,xs=[.int i,.int j] /\ Q (.int (if j < i then j else i)) H
def zhr (hc:X.calm=true):zb1 X (.builtin "min") zpz:=zk7 hc
def zdb {x:Str} {i:Int} {pos:Pos} (h:∃ t,X.mg x=some (.int i t)) (hg:Gl X x:=by rfl) (hd:(x == ("__debug__":Str))=false:=by decide):PE X (.Name x pos) (tC (.int i)):=by
 obtain ⟨t,e⟩:=h;exact zmc hg e ⟨t,rfl⟩ hd
end
noncomputable abbrev NewL (xs:List V) (H:Hp) (Q:VK):Prop:=xs.length <= sizeLine /\ ∀ p,H p=none -> Q (.ref p) (upd H p (.lst xs))
noncomputable abbrev NewT (xs:List V) (H:Hp) (Q:VK):Prop:=xs.length <= sizeLine /\ ∀ p,H p=none -> Q (.ref p) (upd H p (.tup xs))
section
variable {D:Ends} {σ:St} {H:Hp} {Q:VK}
def zrz {t u:TS} (h:t { D with nx:=u D } σ H):tSeq t u D σ H:=h
def zqT (h:D.nx σ H):zpL D σ H:=h
def s_nx {f:St -> Hp -> Prop} {r:VK} {b c:St -> Hp -> Prop} (h:f σ H):Ends.nx { nx:=f,rt:=r,bk:=b,ct:=c } σ H:=h
def s_rt {f:St -> Hp -> Prop} {r:VK} {b c:St -> Hp -> Prop} {v:V} (h:r v H):Ends.rt { nx:=f,rt:=r,bk:=b,ct:=c } v H:=h
def zrh {te:TE} {g:TG} (h:te σ H λ x H1=>g x σ H1 D.nx):tAsg te g D σ H:=h
def zq9 {te:TE} (h:te σ H D.rt):tRet te D σ H:=h
def zqK {te:TE} (h:te σ H λ _ H1=>D.nx σ H1):zpS te D σ H:=h
def s_if {c:TT} {t u:TS} (h:c σ H λ b H1=>if b=true then t D σ H1 else u D σ H1):tIfS c t u D σ H:=h
def zoh {i:Nat} {v:V} {K:St -> Hp -> Prop} (h:K (σ.set i (some v)) H):zo7 i v σ H K:=h
def zqt {K:St -> Hp -> Prop} (h:K σ H):gNil [] σ H K:=⟨rfl,h⟩
def zpc {t:TG} {u:TGs} {v:V} {r:List V} {K:St -> Hp -> Prop} (h:t v σ H λ σ' H'=>u r σ' H' K):zpU t u (v :: r) σ H K:=⟨v,r,rfl,h⟩
def zqf {to ti:TE} {t:TSet} {v:V} {K:St -> Hp -> Prop} (h:to σ H λ o H1=>ti σ H1 λ i H2=>t o i v H2 λ H3=>K σ H3):gSub to ti t v σ H K:=h
def zrn {i:Nat} {v:V} (e:σ[i]?=some (some v)) (h:Q v H):tVar i σ H Q:=⟨v,e,h⟩
def s_c {v:V} (h:Q v H):tC v σ H Q:=h
def s_op {r:R2} {ta tb:TE} (h:ta σ H λ x H1=>tb σ H1 λ y H2=>r x y H2 Q):tOp r ta tb σ H Q:=h
def s_un {r:V -> Hp -> VK -> Prop} {ta:TE} (h:ta σ H λ x H1=>r x H1 Q):tUn r ta σ H Q:=h
def s_cb {r:List V -> Hp -> VK -> Prop} {t:TA} (h:t σ H λ vs H1=>r vs H1 Q):tCB r t σ H Q:=h
def zpI {sp:Sp} {E:XK} {t:TA} (h:t σ H λ vs H1=>sp (vs ++ []) H1 Q E):zoo sp [] E t σ H Q:=h
def zrg {K:List V -> Hp -> Prop} (h:K [] H):tNil σ H K:=h
def zqH {ta:TE} {tr:TA} {K:List V -> Hp -> Prop} (h:ta σ H λ x H1=>tr σ H1 λ xs H2=>K (x :: xs) H2):zof ta tr σ H K:=h
def zrr {t:TA} (h:t σ H λ xs H1=>NewL xs H1 Q):tLst t σ H Q:=h
def zrJ {t:TA} (h:t σ H λ xs H1=>NewT xs H1 Q):tTup t σ H Q:=h
def zqG {t:TE} {K:Bool -> Hp -> Prop} (h:t σ H λ x H'=>∃ k,x=.bl k /\ K k H'):zpw t σ H K:=h
def s_b {t:TE} {K:Bool -> Hp -> Prop} (h:t σ H λ x H'=>∃ k,x=.bl k /\ K k H'):tB t σ H K:=h
def zrk {b:Bool} {K:Bool -> Prop} (h:K b):∃ k,V.bl b=.bl k /\ K k:=⟨b,rfl,h⟩
def zrl {t u:TT} {K:Bool -> Hp -> Prop} (h:t σ H λ c H1=>if c=true then u σ H1 K else K false H1):tAnd t u σ H K:=h
def s_or {t u:TT} {K:Bool -> Hp -> Prop} (h:t σ H λ c H1=>if c=true then K true H1 else u σ H1 K):tOr t u σ H K:=h
def zrF {t:TT} {K:Bool -> Hp -> Prop} (h:t σ H λ c H1=>K (!c) H1):tNot t σ H K:=h
def zpJ {ta tb:TE} (h:ta σ H λ x H1=>∃ c,x=.bl c /\ if c=true then tb σ H1 Q else Q (.bl false) H1):zqU ta tb σ H Q:=h
def zpO {t:TT} {ta tb:TE} (h:t σ H λ c H1=>if c=true then ta σ H1 Q else tb σ H1 Q):tIf t ta tb σ H Q:=h
def zoN {r r':R2} {ta tb tc:TE} (h:ta σ H λ x H1=>tb σ H1 λ y H2=>r x y H2 λ z H3=>∃ k,z=.bl k /\ if k=true then tc σ H3 λ u H4=>r' y u H4 Q else Q (.bl false) H3):znV r r' ta tb tc σ H Q:=by
  exact h
def zqI {K:Bool -> Hp -> Prop} (h:K true H):zqP σ H K:=h
def s_ri {C:Int -> Int -> Prop} {g:Int -> Int -> V} {i j:Int} (c:C i j) (h:Q (g i j) H):rI C g (.int i) (.int j) H Q:=⟨i,j,rfl,rfl,c,h⟩
def zq7 {g:Int -> Int -> V} {i j:Int} (h:Q (g i j) H):rI0 g (.int i) (.int j) H Q:=⟨i,j,rfl,rfl,h⟩
def s_ru {g:Int -> V} {i:Int} (h:Q (g i) H):rU g (.int i) H Q:=⟨i,rfl,h⟩
def zoQ {K:PySem.W.Frag} {i j:Int} (h:Q (.int (i + j)) H):znA K (.int i) (.int j) H Q:=.inl ⟨i,j,rfl,rfl,h⟩
def zqw {K:PySem.W.Frag} {i j:Int} (h:Q (.bl (i == j)) H):rEqU K (.int i) (.int j) H Q:=⟨.int i,.int j,.int K H i,.int K H j,rfl,rfl,h⟩
def zpy {K:PySem.W.Frag} {i j:Int} (h:Q (.bl (!(i == j))) H):rNeU K (.int i) (.int j) H Q:=⟨.int i,.int j,.int K H i,.int K H j,rfl,rfl,h⟩
def zpA {K:PySem.W.Frag} {i j:Bool} (h:Q (.bl (i == j)) H):rEqU K (.bl i) (.bl j) H Q:=⟨.bool i,.bool j,.bool K H i,.bool K H j,rfl,rfl,h⟩
def zhK {K:PySem.W.Frag} {p:Addr} {i:Int} {xs:List V} {v:V} (hq:SqL K H p xs) (h0:0 <= i) (e:xs[i.toNat]?=some v) (h:Q v H):rIx K (.ref p) (.int i) H Q:=by
 have e':atI xs i=some v:=by
  have:=zlw e
  rwa [ybk h0] at this
 exact .inl ⟨p,xs,i,v,rfl,rfl,hq,e',h⟩
def zgo {K:PySem.W.Frag} {p:Addr} {i:Int} {xs:List V} {v:V} (hq:SqT K H p xs) (h0:0 <= i) (e:xs[i.toNat]?=some v) (h:Q v H):rIx K (.ref p) (.int i) H Q:=by
 have e':atI xs i=some v:=by
  have:=zlw e
  rwa [ybk h0] at this
 exact .inr (.inl ⟨p,xs,i,v,rfl,rfl,hq,e',h⟩)
def zqa {t:TA} {R:It -> Hp -> Prop} (h:t σ H λ vs H1=>∃ j:Int,vs=[.int j] /\ -(2 ^ 62) <= j /\ j < 2 ^ 62 /\ R (Itr 0 j.toNat) H1):zq0 t σ H R:=h
def zqQ {K:PySem.W.Frag} {t:TE} {R:It -> Hp -> Prop} (h:t σ H λ x H1=>∃ a,x=.ref a /\ (((∃ xs,SqL K H1 a xs) /\ R (Itl K a) H1) \/ ((∃ xs,SqT K H1 a xs) /\ R (Itt K a) H1))):iSeq K t σ H R:=h
def zry {K:PySem.W.Frag} {T:String} {r:V -> List V -> Hp -> VK -> Prop} {t:TE} (h:t σ H λ x H1=>tyV K T x H1 /\ r x [] H1 Q):tBM0 K T r t σ H Q:=h
def s_bm {K:PySem.W.Frag} {T:String} {r:V -> List V -> Hp -> VK -> Prop} {t:TE} {ta:TA} (h:t σ H λ x H1=>tyV K T x H1 /\ ta σ H1 λ xs H2=>r x xs H2 Q):tBM K T r t ta σ H Q:=h
end
section
variable {σ:St} {H:Hp} {Q:VK}
def zpN {K:PySem.W.Frag} {a:Addr} {xs:List V} (hq:SqL K H a xs) (h:Q (.int xs.length) H):rLen K [.ref a] H Q:=⟨_,_,rfl,.inl ⟨xs,hq,rfl⟩,h⟩
def zq3 {K:PySem.W.Frag} {a:Addr} {xs:List V} (hq:SqT K H a xs) (h:Q (.int xs.length) H):rLen K [.ref a] H Q:=⟨_,_,rfl,.inr ⟨xs,hq,rfl⟩,h⟩
def zq6 {i:Int} (h:Q (.int (if i < 0 then -i else i)) H):rAbs [.int i] H Q:=⟨i,rfl,h⟩
def zrs {i j:Int} (h:Q (.int (if j > i then j else i)) H):zqm [.int i,.int j] H Q:=⟨i,j,rfl,h⟩
def zrI {i j:Int} (h:Q (.int (if j < i then j else i)) H):zpz [.int i,.int j] H Q:=⟨i,j,rfl,h⟩
def zrj {x:V} (h:Q (.bl (decide (x=.non))) H):rIsU x .non H Q:=.inl ⟨rfl,h⟩
def zpY {x:V} (h:Q (.bl (!decide (x=.non))) H):zpE x .non H Q:=.inl ⟨rfl,h⟩
def zqD {p:Addr} {xs:List V} {y:V} (hp:H p=some (.lst xs)) (hz:xs.length < sizeLine) (h:Q .non (upd H p (.lst (xs ++ [y])))):zlr (.ref p) [y] H Q:=⟨p,xs,y,rfl,rfl,hp,hz,h⟩
def zqu {i:Int} (h:Q (.int (Builtin.Int.intBits i)) H):zpV (.int i) [] H Q:=⟨i,rfl,rfl,h⟩
def znu {K:PySem.W.Frag} {a:Addr} {xs:List V} (hq:H a=some (.tup xs)) (h:Q (.bl true) H):rIsi K [.ref a,.ty "tuple"] H Q:=⟨_,"tuple",_,true,rfl,TyOf.tup hq,rfl,h⟩
def s_sl {r:V -> Option Int -> Option Int -> Hp -> VK -> Prop} {te:TE} {tl th:TO} (h:te σ H λ x H1=>tl σ H1 λ l H2=>th σ H2 λ u H3=>r x l u H3 Q):tSl r te tl th σ H Q:=h
def znz {K:Option Int -> Hp -> Prop} (h:K none H):zlx σ H K:=h
def zp2 {t:TE} {K:Option Int -> Hp -> Prop} (h:t σ H λ x H1=>∃ i,x=.int i /\ K (some i) H1):zqL t σ H K:=h
def zqR {j:Int} {K:Int -> Prop} (h:K j):∃ i,V.int j=.int i /\ K i:=⟨j,rfl,h⟩
def zpj {K:PySem.W.Frag} {n:Nat} {t:TGs} {a:Addr} {xs:List V} {K':St -> Hp -> Prop} (hq:SqT K H a xs) (hl:xs.length=n) (h:t xs σ H K'):gTup K n t (.ref a) σ H K':=⟨a,xs,rfl,hq,hl,h⟩
def zpu {p:Addr} {xs:List V} {k:Int} {j:Nat} {v:V} {K:Hp -> Prop} (hp:H p=some (.lst xs)) (e:ixN xs.length k=some j) (h:K (upd H p (.lst (xs.set j v)))):zoA (.ref p) (.int k) v H K:=⟨p,xs,k,j,rfl,rfl,hp,e,h⟩
end
def zrG {K:PySem.W.Frag} {i:Int} {H:Hp} {P:Prop} (h:P):tyV K "int" (.int i) H /\ P:=⟨rfl,h⟩
def zro {K:PySem.W.Frag} {p:Addr} {xs:List V} {H:Hp} {P:Prop} (hq:SqL K H p xs) (h:P):tyV K "list" (.ref p) H /\ P:=⟨.inl ⟨rfl,xs,hq⟩,h⟩
def zbk {n:Nat} {src:List (Option Nat)} {σ:St} {g:TG} {tc:TT} {te:TE} {Q:VK} {H:Hp} (Pv:Nat -> List V -> Hp -> Prop) (h0:Pv 0 [] H) (len:∀ i acc H,Pv i acc H -> acc.length <= sizeLine)
  (step:∀ i acc H,i < n -> Pv i acc H -> g (.int (i:Nat)) (capt src σ) H λ σ2 H2=>Ext (capt src σ) σ2 /\ tc σ2 H2 λ b H3=>if b=true then te σ2 H3 (λ y H4=>Pv (i + 1) (acc ++ [y]) H4) else Pv (i + 1) acc H3)
  (done:∀ acc H,Pv n acc H -> ∀ p,H p=none -> Q (.ref p) (upd H p (.lst acc))):zcF (Itr 0 n) src σ g tc te Q H:=
 zgb Pv h0 len (λ i acc H hi p=>by rw [Int.zero_add]; exact step i acc H hi p) done
def small5 {n:Nat} (h:n <= 100000):n < sizeLine:=ya4 h (3:)
def zcH {c A B:Prop} [Decidable c] (h1:c -> A) (h2:¬ c -> B):if decide c=true then A else B:=by
 by_cases h:c
 ·rw [if_pos (decide_eq_true h)]; exact h1 h
 ·rw [if_neg (by rw [decide_eq_false h]; exact yaD)]; exact h2 h
def zaY {i j:Int} {A B:Prop} (h1:i=j -> A) (h2:¬ i=j -> B):if (i == j)=true then A else B:=by
 by_cases h:i=j
 ·rw [if_pos (by simpa using h)]; exact h1 h
 ·rw [if_neg (by simpa using h)]; exact h2 h
def zfx {i j:Int} {A B:Prop} (h1:¬ i=j -> A) (h2:i=j -> B):if (!(i == j))=true then A else B:=by
 by_cases h:i=j
 ·rw [if_neg (by simp [h])]; exact h2 h
 ·rw [if_pos (by simp [h])]; exact h1 h
def zqj {A B:Prop} (h:B):if (!true)=true then A else B:=iteF h
def zp0 {A B:Prop} (h:A):if (!false)=true then A else B:=iteT h
def zpr {σ:St} {i:Nat} {v:V} {P:Prop} (h:σ[i]?=some none) (p:P):Ext σ (σ.set i (some v)) /\ P:=⟨ziZ h,p⟩
def zql {σ:St} {i j:Nat} {v u:V} {P:Prop} (h:σ[i]?=some none) (k:(σ.set i (some v))[j]?=some none) (p:P):Ext σ ((σ.set i (some v)).set j (some u)) /\ P:=⟨(ziZ h).trans (ziZ k),p⟩
section
variable {X:Cx} {K:PySem.W.Frag} {tg l a b e o:Expr} {es:List Expr} {tl ta tb to:TE} {tA:TA}
def k_eq (hu:X.A.units + 64 < cLine) (hK:X.K=K:=by rfl):OpR X (compareOp .Eq) (rEqU K):=hK ▸ zqA hu
def k_ne (hu:X.A.units + 64 < cLine) (hK:X.K=K:=by rfl):OpR X (compareOp .NotEq) (rNeU K):=hK ▸ zqC hu
def zbA (hK:X.K=K:=by rfl):OpR X (binaryOp .Add) (znA K):=hK ▸ zo2
def k_ix (hK:X.K=K:=by rfl):IxR X (rIx K):=hK ▸ zp6
noncomputable def rSlU (K:PySem.W.Frag):V -> Option Int -> Option Int -> Hp -> VK -> Prop:=λ x lo hi H Q=>rSlL K x lo hi H Q \/ rSlT K x lo hi H Q
def k_sl (hK:X.K=K:=by rfl):SlR X (rSlU K):=hK ▸ slU
def k_in (hK:X.K=K:=by rfl):OpR X (compareOp .In) (rIn K false):=hK ▸ zkY
def zo5 (hK:X.K=K:=by rfl):OpR X (compareOp .NotIn) (rIn K true):=hK ▸ zg6
def zaF (hl:PE X l tl) (hK:X.K=K:=by rfl):PI X tg l (iSeq K tl):=hK ▸ zpf hl
def zb9 (hK:X.K=K:=by rfl):zb1 X (.builtin "len") (rLen K):=hK ▸ zlS
def zld (hK:X.K=K:=by rfl):zb1 X (.type "tuple") (zmx K):=hK ▸ zlN
def zq5 (hc:X.calm=true) (hK:X.K=K:=by rfl):zb1 X (.builtin "all") (zqk K λ bs=>bs.all id):=hK ▸ zmD hc
def zoZ (hK:X.K=K:=by rfl):zb1 X (.builtin "isinstance") (rIsi K):=hK ▸ znB
def zcX {pos:Pos} {k:Nat} {t:TGs} {n:Nat} (hc:X.calm=true) (h:PGs X es t) (hn:(assignEach es X.env).length=n:=by rfl) (hst:(assignEach es X.env).findIdx? (·.1)=none:=by rfl) (hK:X.K=K:=by rfl):PG X (.Tuple es k pos) (gTup K n t):=hK ▸ zqW hc h hn hst
def zqv {name:Str} {apos cpos:Pos} {T id:String} {r:V -> List V -> Hp -> VK -> Prop} (pa:PlainAttrs T) (slot:Slot T name id) (hty:typeOf (.builtin id)=pure (.type "method_descriptor")) (hm:MtR X id r) (ho:PE X o to)
  (hbase:attributeBase o name X.env (eval o X.env)=eval o X.env:=by rfl) (hline:(apos.endLine == cpos.line)=true:=by rfl) (hK:X.K=K:=by rfl):PE X (.Call (.Attribute o name apos) [] [] cpos) (tBM0 K T r to):=hK ▸ zpl pa slot hty hm ho hbase hline
def k_bm {name:Str} {apos cpos:Pos} {T id:String} {r:V -> List V -> Hp -> VK -> Prop} (pa:PlainAttrs T) (slot:Slot T name id) (hty:typeOf (.builtin id)=pure (.type "method_descriptor")) (hm:MtR X id r) (ho:PE X o to) (ha:PA X (e :: es) tA)
  (hbase:attributeBase o name X.env (eval o X.env)=eval o X.env:=by rfl)
  (hfew : ((backTo cpos (starEach (e :: es) X.env)).all (fun x => !x.1) && (backToKw cpos (keywordEach [] X.env)).all (fun x => x.1.isSome)
   && decide ((e :: es).length + ([]:List Keyword).length + (if ([]:List Keyword).isEmpty then 0 else 1) < 30))=true:=by rfl)
  (hline:(apos.endLine == cpos.line)=true:=by rfl) (hs:starEach (e :: es) X.env=(false,eval e X.env) :: starEach es X.env:=by rfl) (hplain:(backTo cpos (starEach es X.env)).any (·.1)=false:=by rfl) (hK:X.K=K:=by rfl) :
  PE X (.Call (.Attribute o name apos) (e :: es) [] cpos) (tBM K T r to tA):=hK ▸ zrw pa slot hty hm ho ha hbase hfew hline hs hplain
end
noncomputable abbrev ForW (J:It) (g:TG) (tb:TS) (D:Ends) (σ:St) (H1:Hp):Prop:=∃ W:Nat -> Nat -> St -> Hp -> Prop,(∃ m,W 0 m σ H1) /\ ∀ i m σ H,W i m σ H ->
 (J.stop i H /\ D.nx σ H) \/ (J.go i H /\ ∃ N:St -> Hp -> Prop,(∀ σ' H',N σ' H' -> ∃ m',m' < m /\ W (i + 1) m' σ' H') /\ ∀ x H',J.yld i H x H' -> g x σ H' λ σ2 H2=>tb { D with nx:=N,ct:=N,bk:=D.nx } σ2 H2)
def zdf {n:Nat} {g:TG} {tb:TS} {D:Ends} {σ:St} {H:Hp} (Pv:Nat -> St -> Hp -> Prop) (h0:Pv 0 σ H)
  (hs:∀ i σ H,i < n -> Pv i σ H -> g (.int (i:Nat)) σ H λ σ2 H2=>tb { D with nx:=Pv (i + 1),ct:=Pv (i + 1),bk:=D.nx } σ2 H2) (hd:∀ σ H,Pv n σ H -> D.nx σ H):ForW (Itr 0 n) g tb D σ H:=
 zie Pv h0 (λ i σ H hi p=>by rw [Int.zero_add]; exact hs i σ H hi p) hd
def zrC {wi:TI} {g:TG} {tb:TS} {D:Ends} {σ:St} {H:Hp} (h:wi σ H λ J H1=>ForW J g tb D σ H1):tFor wi g tb D σ H:=h
def zjJ {j:Int} {n:Nat} {g:TG} {tb:TS} {D:Ends} {σ:St} {H:Hp} (e:j=(n:Int)) (hn:n <= 1000000) (h:ForW (Itr 0 n) g tb D σ H):∃ i:Int,[V.int j]=[V.int i] /\ -(2 ^ 62) <= i /\ i < 2 ^ 62 /\ ForW (Itr 0 i.toNat) g tb D σ H:=by
 subst e;exact ⟨n,rfl,by omega,by omega,by simpa using h⟩
def zf6 {j:Int} {n:Nat} {src:List (Option Nat)} {g:TG} {tc:TT} {te:TE} {Q:VK} {σ:St} {H:Hp} (e:j=(n:Int)) (hn:n <= 1000000) (h:zcF (Itr 0 n) src σ g tc te Q H):∃ i:Int,[V.int j]=[V.int i] /\ -(2 ^ 62) <= i /\ i < 2 ^ 62 /\ zcF (Itr 0 i.toNat) src σ g tc te Q H:=by
 subst e;exact ⟨n,rfl,by omega,by omega,by simpa using h⟩
def zpR {src:List (Option Nat)} {wi:TI} {g:TG} {tc:TT} {te:TE} {σ:St} {H:Hp} {Q:VK} (h:wi σ H λ J H1=>zcF J src σ g tc te Q H1):zne src wi g tc te σ H Q:=h
def zlp {src:List (Option Nat)} {wi:TI} {g:TG} {tc:TT} {te:TE} {j:Nat} {D:Ends} {σ:St} {H:Hp} (h:zne src wi g tc te σ H λ x H1=>D.nx (σ.set j (some x)) H1):zjb src wi g tc te j D σ H:=h
def ze9 {K:PySem.W.Frag} {a:Addr} {xs:List V} {g:TG} {tb:TS} {D:Ends} {σ:St} {H:Hp} (hA:SqL K H a xs \/ SqT K H a xs) (Pv:Nat -> St -> Hp -> Prop) (h0:Pv 0 σ H)
  (hs:∀ i σ H',Pv i σ H' -> (SqL K H a xs -> SqL K H' a xs) /\ (SqT K H a xs -> SqT K H' a xs))
  (step:∀ i x σ H',xs[i]?=some x -> Pv i σ H' -> g x σ H' λ σ2 H2=>tb { D with nx:=Pv (i + 1),ct:=Pv (i + 1),bk:=D.nx } σ2 H2) (done:∀ σ H',Pv xs.length σ H' -> D.nx σ H') :
  ∃ b,V.ref a=.ref b /\ (((∃ xs,SqL K H b xs) /\ ForW (Itl K b) g tb D σ H) \/ ((∃ xs,SqT K H b xs) /\ ForW (Itt K b) g tb D σ H)):=by
 refine ⟨a,rfl,?_⟩;rcases hA with hA | hA
 ·exact .inl ⟨⟨xs,hA⟩,zjL Pv h0 (λ i σ H' _ p=>(hs i σ H' p).1 hA) step done⟩
 ·exact .inr ⟨⟨xs,hA⟩,zlz Pv h0 (λ i σ H' _ p=>(hs i σ H' p).2 hA) step done⟩
def zbF {K:PySem.W.Frag} {a:Addr} {xs:List V} {src:List (Option Nat)} {σ:St} {g:TG} {tc:TT} {te:TE} {Q:VK} {H:Hp} (hA:SqL K H a xs)
  (h:zcF (Itl K a) src σ g tc te Q H):∃ b,V.ref a=.ref b /\ (((∃ xs,SqL K H b xs) /\ zcF (Itl K b) src σ g tc te Q H) \/ ((∃ xs,SqT K H b xs) /\ zcF (Itt K b) src σ g tc te Q H)):=⟨a,rfl,.inl ⟨⟨xs,hA⟩,h⟩⟩
def zal {H:Hp} {p:Addr} {o:HO} (h:H p=none):Same H (upd H p o):=λ b u e=>by rw [zan (zao e h)]; exact e
def Same.seqT {K:PySem.W.Frag} {H H':Hp} {a:Addr} {xs:List V} (e:Same H H') (h:SqT K H a xs):SqT K H' a xs:=by
 rcases h with (h | ⟨o,h⟩) | h
 ·exact .inl (.inl (e _ _ h))
 ·exact .inl (.inr ⟨o,e _ _ h⟩)
 ·exact .inr h
structure But (p:Addr) (H H':Hp):Prop where
 keep:∀ b o,b ≠ p -> H b=some o -> H' b=some o
 fst:∀ q r,H p=some (.lst (.ref q :: r)) -> ∃ r',H' p=some (.lst (.ref q :: r'))
def But.refl (p:Addr) (H:Hp):But p H H:=⟨λ _ _ _ h=>h,λ _ r h=>⟨r,h⟩⟩
def But.trans {p:Addr} {H H1 H2:Hp} (a:But p H H1) (b:But p H1 H2):But p H H2:=⟨λ c o n h=>b.keep c o n (a.keep c o n h),λ q r h=>by
 obtain ⟨r1,h1⟩:=a.fst q r h;exact b.fst q r1 h1⟩
def Same.but {p:Addr} {H H':Hp} (s:Same H H'):But p H H':=⟨λ b o _ h=>s b o h,λ q r h=>⟨r,s _ _ h⟩⟩
def But.updL {p q:Addr} {H:Hp} {r r':List V} (h:H p=some (.lst (.ref q :: r))):But p H (upd H p (.lst (.ref q :: r'))):=⟨λ b u n e=>by rw [zan n]; exact e,λ q' r2 e=>by
 rw [h] at e;cases e;exact ⟨r',zah⟩⟩
def Same.upd' {q:Addr} {H0 H:Hp} {o:HO} (b:Same H0 H) (hq:H0 q=none):Same H0 (L2.upd H q o):=λ c u h=>by rw [zan (zao h hq)]; exact b c u h
end L2
namespace PySem
namespace F
def lri_no_len:typeLookup (.type "list_reverseiterator") "__len__"=pure none:=by rw [typeLookup_type,builtinLookup_eq_fast]; kernel_rfl
def lri_hint:typeLookup (.type "list_reverseiterator") "__length_hint__"=pure (some (.builtin "list_reverseiterator.__length_hint__")):=by rw [typeLookup_type,builtinLookup_eq_fast]; kernel_rfl
end F
section
variable {prog:Program} {w:World} {A:Around} {E:Value -> Shared -> Prop} {s:Shared}
def zfU {I l:Addr} {k:Int} {Q:Bool -> Shared -> Prop} (hit:s.heap.IsRevIter I l k) (h:Q false s):wpAny (model prog w) A (Builtin.List.listLengthHint (.ref I)) Q E s:=by
 unfold Builtin.List.listLengthHint;refine wpAny_bind (wpAny_specialOf hit.typeIs F.lri_no_len ?_);show wpAny _ A (specialOf (Value.ref I) (Str.ofString "__length_hint__") >>= _) _ _ _;refine wpAny_bind (wpAny_specialOf hit.typeIs F.lri_hint ?_)
 wp_delta
 refine wpAny_bind (wpAny_isInstance (T:="list_reverseiterator") (b:=true) hit.typeIs (by rw [isSubtype_type]; kernel_rfl) ?_);exact wpAny_pure h
def ze4 {R:Result -> Shared -> Prop} {I l:Addr} {items:Array Value} (hh:A.handled=none) (hit:s.heap.IsRevIter I l ((items.size:Int) - 1)) (hl:s.heap.IsList l items) (hne:l ≠ I) (hlen:items.size <= sizeLine)
  (S:Addr) (res:Value) (c₀:Nat) (hS:s.heap.get? S=some { cls:=.type "list",data:=.seq #[] c₀ }) (hSI:S ≠ I) (hSl:S ≠ l)
  (hR : ∀ h' tk acc' c', (∀ b o, b ≠ S -> b ≠ I -> s.heap.get? b = some o -> h'.get? b = some o) -> h'.get? S = some { cls := .type "list", dict := none, data := .seq acc' c', slots := #[] } ->
   ItemsOf (λ i v=>items[items.size - 1 - i]?=some v) acc' items.size -> R (.ok (.ret res)) { s with heap:=h',toks:=tk }) :
  wpAny (model prog w) A.in1 (Builtin.List.listExtendWith (.ref S) (.ref I) res)
   (λ fin s'=>match fin with | .done f=>R (.ok f) s' | .again c'=>c'.quiet=true /\ codeAny (model prog w) A c' R s') (λ e s'=>R (.error e) s') s:=by
 have W:=(Walks.listRev (prog:=prog) (w:=w) (A:=A.in1) hh I l hne items).toS
 have hSf:S ∉ [I,l]:=λ hm=>by
  rcases yav.mp hm with e | hm
  ·exact hSI e
  ·exact hSl (yah.mp hm)
 unfold Builtin.List.listExtendWith;refine wpAny_bind (wpAny_typeOf (T:="list_reverseiterator") hit.typeIs ?_);have h1:Builtin.List.listSameRef (.ref S) (.ref I)=false:=by simp [Builtin.List.listSameRef,hSI]
 have h2:(Value.type "list_reverseiterator" == Value.type "list")=false:=by decide
 have h3:(Value.type "list_reverseiterator" == Value.type "tuple")=false:=by decide
 simp only [h1,h2,h3,Bool.or_false,yaF,if_false];refine wpAny_bind (wpAny_pyIter_revIter hit ?_);refine wpAny_bind (wpAny_holding (zfU hit ?_));refine wpAny_ite_split (λ hab=>absurd hab (20:)) (λ _=>?_)
 have hit0:s.heap.IsRevIter I l ((items.size:Int) - 1 - ((0:Nat):Int)):=by
  rw [show (items.size:Int) - 1 - ((0:Nat):Int)=(items.size:Int) - 1 by omega]; exact hit
 refine wpAny_pure ⟨plainId_quiet F.plain_extend_loop _,codeAny_extend_loopS W hlen S hSf res items.size 0 _ _ _ rfl (yaY _) ⟨yaY _,hit0,hl⟩ hS (ItemsOf.nil _) λ s' acc' c' hm hS' hacc=>?_⟩;rw [Moved.eq_with hm];refine hR s'.heap s'.toks acc' c' (λ b o hb hI e=>hm.heap b o (λ hmem=>?_) e) hS' hacc;rcases yav.mp hmem with e' | hmem
 ·exact hb e'
 ·exact hI (yah.mp hmem)
def zdC {R:Result -> Shared -> Prop} {I l:Addr} {items:Array Value} (hh:A.handled=none) (hit:s.heap.IsRevIter I l ((items.size:Int) - 1)) (hl:s.heap.IsList l items) (hne:l ≠ I) (hlen:items.size <= sizeLine)
  (S:Addr) (hS:s.heap.get? S=some { cls:=.type "list",data:=.seq #[] }) (hSI:S ≠ I) (hSl:S ≠ l)
  (hR : ∀ h' tk acc' c', (∀ b o, b ≠ S -> b ≠ I -> s.heap.get? b = some o -> h'.get? b = some o) -> h'.get? S = some { cls := .type "list", dict := none, data := .seq acc' c', slots := #[] } ->
   ItemsOf (λ i v=>items[items.size - 1 - i]?=some v) acc' items.size -> R (.ok (.ret .none)) { s with heap:=h',toks:=tk }) :
  wpAny (model prog w) A.in1 (Builtin.«list.__init__» ⟨[.ref S,.ref I],[]⟩)
   (λ fin s'=>match fin with | .done f=>R (.ok f) s' | .again c'=>c'.quiet=true /\ codeAny (model prog w) A c' R s') (λ e s'=>R (.error e) s') s:=by
 show wpAny _ _ (do let old <- Builtin.List.listItems (.ref S); Builtin.List.listUpdate (.ref S) (λ _=>#[]); letGo old.toList.reverse; Builtin.List.listExtendWith (.ref S) (.ref I) .none) _ _ s;refine wpAny_bind ?_;unfold Builtin.List.listItems;refine wpAny_bind (wpAny_seqItems hS rfl (wpAny_pure ?_));show wpAny _ _ (updateSeq S (λ _=>#[]) >>= λ _=>letGo (#[]:Array Value).toList.reverse >>= λ _=>Builtin.List.listExtendWith (.ref S) (.ref I) .none) _ _ s;refine wpAny_bind (wpAny_updateSeq hS rfl ?_);have hS₂:=ybG (Obj.mapSeq (λ _=>(#[]:Array Value))) hS rfl
 have oth:∀ b o,b ≠ S -> s.heap.get? b=some o -> (s.heap.update S (Obj.mapSeq (λ _=>(#[]:Array Value)))).get? b=some o:=
  λ b o hb e=>(ycq _ _ (ycX hb)).trans e
 refine wpAny_bind (wpAny_letGo ?_);refine ze4 hh (hit.at λ o e=>oth I o (ycX hSI) e) (hl.at λ o e=>oth l o (ycX hSl) e) hne hlen S .none _ hS₂ hSI hSl λ h' tk acc' c' hk hS' hacc=>?_;exact hR h' tk acc' c' (λ b o hb hI e=>hk b o hb hI (oth b o hb e)) hS' hacc
def zgD {Q:Value -> Shared -> Prop} {I l:Addr} {items:Array Value} (hh:A.handled=none) (hit:s.heap.IsRevIter I l ((items.size:Int) - 1)) (hl:s.heap.IsList l items) (hne:l ≠ I) (hlen:items.size <= sizeLine)
  (hQ : ∀ h' tk acc' c', (∀ b o, b ≠ I -> s.heap.get? b = some o -> h'.get? b = some o) ->
   h'.get? s.heap.objs.size=some { cls:=.type "list",dict:=none,data:=.seq acc' c',slots:=#[] } -> ItemsOf (λ i v=>items[items.size - 1 - i]?=some v) acc' items.size -> Q (.ref s.heap.objs.size) { s with heap:=h',toks:=tk }) :
  wpAny (model prog w) A (call (.type "list") [.ref I]) Q E s:=by
 have hIl:I < s.heap.objs.size:=by obtain ⟨o,e,_⟩:=hit; exact yai e
 have hll:l < s.heap.objs.size:=by obtain ⟨o,e,_⟩:=hl; exact yai e
 refine callType_codes (Q₁:=λ obj s₁=>obj=.ref s.heap.objs.size /\ s₁={ s with heap:=s.heap.push { cls:=.type "list",data:=.seq #[] } }) F.called_list (F.typeCall_list_1 _) F.entry_list_init
  (code_list_new _ ⟨rfl,rfl⟩) λ obj s₁ h₁=>?_
 obtain ⟨rfl,rfl⟩:=h₁;have hS:(s.heap.push { cls:=.type "list",data:=.seq #[] }).get? s.heap.objs.size=some { cls:=.type "list",data:=.seq #[] }:=yao _ rfl;refine ⟨⟨_,hS,rfl⟩,F.args_list_init_2 _ _,zdC (A:=A.in1) hh (hit.at λ o e=>yae _ e) (hl.push _) hne hlen _ hS (ybC hIl) (ybC hll) λ h' tk acc' c' hk hS' hacc=>?_⟩;exact ⟨rfl,hQ h' tk acc' c' (λ b o hb e=>hk b o (yax (yai e)) hb (yae _ e)) hS' hacc⟩
end
end PySem
namespace L2
open PySem PySem.Spec PyProof.Rows
section
variable {X:Cx} {pins:List (Addr × Obj)} {σ:St} {H:Hp} {s:Shared} {h':Heap} {ch:List Addr}
def Inv.turnLst {T:Addr} {xs:List V} {its:List Value} {t':Nat} (I:Inv X pins σ H s) (hf:∀ b ∈ ch,FpOk X pins H b) (k:∀ b o,b ∉ ch -> s.heap.get? b=some o -> h'.get? b=some o)
  (hT:s.heap.objs.size <= T) (ht:∃ n,h'.get? T=some { cls:=.type "list",data:=.seq its.toArray n }) (r:Vals xs its) (hz:xs.length <= sizeLine):Inv X pins σ (upd H T (.lst xs)) { s with heap:=h',toks:=t' }:=by
 have J:Inv X pins σ H { s with heap:=h',toks:=t' }:=I.turnL hf k;have hn:H T=none:=I.hok.fresh hT;have ne:∀ b o,s.heap.get? b=some o -> b ≠ T:=λ b o e=>yax (yak (yai e) hT);refine ⟨J.ok,J.os,J.bare,?_,J.loc,J.cell,?_,λ x c e=>?_,λ p hp=>?_,λ b u q=>?_,J.len⟩
 ·have u := J.base;refine ⟨u.keep, u.slot, fun b o e n hx => ?_, u.there, fun b ys e => ?_, fun b o x e => ?_, fun b ps e => ?_⟩
  ·rw [zan (yax (yak (yai e) (ya5 I.sz hT)))];exact u.free b o e n hx
  ·have q:=u.tups b ys e;rw [zan (zao q hn)]; exact q
  ·have q:=u.frzs b o x e;rw [zan (zao q hn)]; exact q
  ·obtain ⟨more,q⟩:=u.tbls b ps e;exact ⟨more,by rw [zan (zao q hn)]; exact q⟩
 ·rw [zan (yax (yak I.lt hT))]; exact I.free
 ·obtain ⟨v,o,ho,_⟩:=I.cell x c e;rw [zan (ne c o ho)]; exact I.freeC x c e
 ·obtain ⟨e,n,r⟩:=J.pin p hp;refine ⟨e,?_,r⟩;rw [zan (ne _ _ (I.pin p hp).1)]; exact n
 ·by_cases hb : b = T
  ·subst hb;rw [zah] at q;cases q;obtain ⟨n,ht⟩:=ht;exact ⟨hz,its,n,r,ht⟩
  ·rw [zan hb] at q;exact (J.hok b u q).stay (λ c v _ q=>q) (λ c q=>by rw [zan (zao q hn)]; exact q) λ c xs q=>by rw [zan (zao q hn)]; exact q
end
section
variable {X:Cx} {K:PySem.W.Frag} {a:Expr} {ta:TA} {p p2 pos pos2:Pos}
noncomputable def zpi (K:PySem.W.Frag) (ta:TA):TE:=λ σ H Q=>ta σ H λ vs H1=>∃ a xs,vs=[.ref a] /\ SqL K H1 a xs /\ ∀ l,H1 l=none -> Q (.ref l) (upd H1 l (.lst xs.reverse))
def zk1 {xs:List V} {its:List Value} {acc:Array Value} (r:Vals xs its) (h:ItemsOf (λ i v=>its.toArray[its.toArray.size - 1 - i]?=some v) acc its.toArray.size):acc.toList=its.reverse:=by
 obtain ⟨h1,h2⟩:=h;have h1':acc.toList.length=its.length:=by simpa using h1
 apply ybf;intro i;by_cases hi:i < its.length
 ·have hi' : i < acc.size := by rw [<- yaM, h1']; exact hi
  have q:=h2 i acc[i] (by simp [hi']);simp only [yap,List.getElem?_toArray] at q;rw [List.getElem?_reverse hi];rw [q];simp [hi']
 ·rw [yaI (1:),yaI (by rw [ybd]; omega)]
def zdR (hc:X.calm=true) (hml:X.mg "list"=none) (hmr:X.mg "reversed"=none) (ha:PA X [a] ta) (hgl:Gl X "list":=by rfl) (hgr:Gl X "reversed":=by rfl) (hK:X.K=K:=by rfl)
  (hs:starEach [a] X.env=[(false,eval a X.env)]:=by rfl)
  (hs1:starEach [(.Call (.Name "reversed" p) [a] [] pos:Expr)] X.env=[(false,eval (.Call (.Name "reversed" p) [a] [] pos) X.env)]:=by rfl) :
  PE X (.Call (.Name "list" p2) [.Call (.Name "reversed" p) [a] [] pos] [] pos2) (zpi K ta):=by
 subst hK;intro pins s σ H Q I h;refine wpAny_Call_Name_kw (zdv I hgl hml boot_list ?_);refine yaX ?_ hs1 rfl;rw [hs1];show wpAny _ _ (spliced ((false,eval (.Call (.Name "reversed" p) [a] [] pos) X.env) :: backTo pos2 [])) _ _ s;refine ybA ?_;refine Call_ (zdv I hgr hmr boot_reversed (yaX (thn (ha pos pins s σ H _ I h) λ us s1 ⟨vs,H1,I1,r1,q1⟩=>?_) hs rfl));obtain ⟨a,xs,e,hq,q⟩:=q1;subst e;cases r1 with
 | cons r rr=>
  cases rr;cases r;obtain ⟨its,rv,pl,hz⟩:=I1.list hq;have hlen:=rv.length;refine call_reversed_list pl.isList ?_;have I2:Inv X pins σ H1 { s1 with heap:=s1.heap.push (revObj a ((its.toArray.size:Int) - 1)) }:=I1.kept (t':=s1.toks) λ b o e=>yae _ e;have al:a < s1.heap.objs.size:=by obtain ⟨o,n,e,_⟩:=pl; exact yai e
  refine yb1 ?_;refine zgD (A:=X.A) (I.ok.hd hc) (I:=s1.heap.objs.size) (l:=a) (items:=its.toArray) ⟨_,yao _ rfl,rfl,rfl⟩ (pl.isList.push _) (yax al) (by rw [yap]; omega) λ h' tk acc' c' hk hS' hacc=>?_;have ea:=zk1 rv hacc;refine ⟨.ref _,_,I2.turnLst (ch:=[s1.heap.objs.size]) (xs:=xs.reverse) (its:=its.reverse) (t':=tk) (λ b hb=>?_) (λ b o hb e=>hk b o (λ z=>hb (by simp [z])) e) (yag _) ⟨c',by rw [<- ea]; simpa using hS'⟩ rv.reverse (by rw [ybd]; exact hz),rfl,q _ (I2.hok.fresh (yag _))⟩;have e:b=s1.heap.objs.size:=by simpa using hb
  subst e;exact I1.fpOk (yag _) (I1.hok.fresh (yag _))
end
section
variable {σ:St} {H:Hp} {Q:VK}
def zqz {K:PySem.W.Frag} {t:TA} (h:t σ H λ vs H1=>∃ a xs,vs=[.ref a] /\ SqL K H1 a xs /\ ∀ l,H1 l=none -> Q (.ref l) (upd H1 l (.lst xs.reverse))):zpi K t σ H Q:=h
end
def zkG {prog:Program} {w:World} {A:Around} {e it l:Addr} (hei:e ≠ it) (hle:l ≠ e) (hli:l ≠ it) {items:Array Value} {i:Nat} {s:Shared} {Q:Option Value -> Shared -> Prop} {E:Value -> Shared -> Prop} (hi:i < items.size)
  (hst:(∃ old,IsEnum s.heap e it i old) /\ s.heap.IsListIter it l i /\ s.heap.IsList l items)
  (hQ : ∀ T vals h' tk, (∃ t x, items[i]? = some x /\ vals = #[.int i t, x]) -> s.heap.objs.size <= T -> zbm h' T vals ->
   ((∃ x,IsEnumOut h' e it ((i:Int) + 1) x T) /\ h'.IsListIter it l (i + 1) /\ h'.IsList l items /\ T ≠ e /\ T ≠ it) ->
   (∀ b o,b ∉ [e,it] -> s.heap.get? b=some o -> h'.get? b=some o) -> Q (some (.ref T)) { s with heap:=h',toks:=tk }) :
  wpAny (model prog w) A (pyNext (.ref e)) Q E s:=by
 obtain ⟨⟨old,he⟩,hit,hl⟩:=hst;have hx:items[i]?=some items[i]:=Array.getElem?_eq_getElem hi;have l1:e < s.heap.objs.size:=yai he;have l2:it < s.heap.objs.size:=by obtain ⟨_,x,_⟩:=hit; exact yai x
 refine wpAny_pyNext_enum_item he hit hl hx hei λ h' ho hit' hT hsz hk=>?_;refine hQ s.heap.objs.size #[.int i s.toks,items[i]] h' (s.toks + 1) ⟨_,_,hx,rfl⟩ (yag _) ⟨_,hT,rfl,rfl,_,rfl⟩ ⟨⟨_,ho⟩,hit',?_,ybC l1,ybC l2⟩ ?_
 ·exact hl.at λ o x=>hk l o hle hli x
 ·exact λ b o hb x=>hk b o (λ z=>hb (by simp [z])) (λ z=>hb (by simp [z])) x
def zix {prog:Program} {w:World} {A:Around} {it:Addr} {fp:List Addr} {n:Nat} {P:Nat -> Value -> Prop} {St:Nat -> Heap -> Prop} (D:Draws prog w A.in1 it fp n P St) {e:Addr} (hei:e ≠ it) (hef:e ∉ fp) {i:Nat} {s:Shared} {Q:Option Value -> Shared -> Prop} {E:Value -> Shared -> Prop} (hi:i < n)
  (hst:(∃ old,IsEnum s.heap e it i old) /\ St i s.heap)
  (hQ : ∀ T vals h' tk, (∃ t x, P i x /\ vals = #[.int i t, x]) -> s.heap.objs.size <= T -> zbm h' T vals ->
   ((∃ x,IsEnumOut h' e it ((i:Int) + 1) x T) /\ St (i + 1) h' /\ T ≠ e /\ T ≠ it) ->
   (∀ b o,b ∉ [e,it] -> s.heap.get? b=some o -> h'.get? b=some o) -> Q (some (.ref T)) { s with heap:=h',toks:=tk }) :
  wpAny (model prog w) A (pyNext (.ref e)) Q E s:=by
 obtain ⟨⟨old,he⟩,hs⟩:=hst;have l1:e < s.heap.objs.size:=yai he;have l2:it < s.heap.objs.size:=by obtain ⟨_,y⟩:=D.live _ _ hs; exact yai y
 refine wpAny_pyNext_enum_itemD D he hs hi hei hef λ x h' tk hP ho hs' hT hsz hk=>?_;refine hQ s.heap.objs.size #[.int i tk,x] h' (tk + 1) ⟨_,_,hP,rfl⟩ (yag _) ⟨_,hT,rfl,rfl,_,rfl⟩ ⟨⟨_,ho⟩,hs',ybC l1,ybC l2⟩ ?_;exact λ b o hb y=>hk b o (λ z=>hb (by simp [z])) (λ z=>hb (by simp [z])) y
end L2
namespace PySem
open Sem (wp)
open AutoSeq1 (wpAny_loadPart')
section
variable {prog:Program} {w:World} {A:Around} {E:Value -> Shared -> Prop} {s:Shared}
def zdA {Q:List Value -> Shared -> Prop} {r:Addr} {a b c:Int} {t u v:Tok} {n:Nat} (hh:A.handled=none) (hr:IsRange s.heap r a b c t u v) (hsmall:Builtin.Range.small a b c=true)
    (hn:Builtin.Range.rangeSize a b c=n) (hlen:n <= 2 ^ 24)
    (hQ:∀ (h':Heap) (tk:Nat) (acc:Array Value),(∀ b o,s.heap.get? b=some o -> h'.get? b=some o) -> ItemsOf (λ i v=>∃ t,v=.int (a + i * c) t) acc n -> Q acc.toList { s with heap:=h',toks:=tk }) :
    wpAny (model prog w) A (collect (.ref r)) Q E s:=by
  have hS:(s.heap.push { cls:=.type "list",dict:=none,data:=.seq ([]:List Value).toArray }).get? s.heap.objs.size=some { cls:=.type "list",data:=.seq #[] }:=yao _ rfl
  have step:∀ R:Result -> Shared -> Prop,(∀ h' tk acc' c',(∀ b o,b ≠ s.heap.objs.size -> (s.heap.push { cls:=.type "list",dict:=none,data:=.seq ([]:List Value).toArray }).get? b=some o -> h'.get? b=some o) ->
      h'.get? s.heap.objs.size=some { cls:=.type "list",dict:=none,data:=.seq acc' c',slots:=#[] } -> ItemsOf (λ i v=>∃ t,v=.int (a + i * c) t) acc' n -> R (.ok (.ret (.ref s.heap.objs.size))) { s with heap:=h',toks:=tk }) ->
      codeAny (model prog w) A (.builtin "list.__iadd__" ⟨[.ref s.heap.objs.size,.ref r],[]⟩) R { s with heap:=s.heap.push { cls:=.type "list",dict:=none,data:=.seq ([]:List Value).toArray } }:=λ R hR=>by
    refine codeAny_builtin F.entry_list_iadd ?_;rw [yb4 F.plain_list_iadd _];exact wpAny_extend_range (R:=R) (s:={ s with heap:=s.heap.push { cls:=.type "list",dict:=none,data:=.seq ([]:List Value).toArray } }) hh (yae _ hr) hsmall hn hlen s.heap.objs.size (.ref s.heap.objs.size) _ hS hR
  unfold collect;refine wpAny_bind (wpAny_runValue (codeAny_builtin F.entry_proto_collect ?_));rw [yb4 F.plain_proto_collect _];show wpAny _ A.in1 (newList [] >>= λ l=>again (.builtin "list.__iadd__" ⟨[l,.ref r],[]⟩)) _ _ s;refine wpAny_bind (wpAny_newObj_type ?_);refine wpAny_pure ⟨plainId_quiet F.plain_list_iadd _,step _ λ h' tk acc' c' hk hS' hacc=>?_⟩;show wpAny _ A (load s.heap.objs.size >>= _) _ _ _;refine wpAny_bind (wpAny_load hS' ?_);exact wpAny_pure (hQ h' tk acc' (λ b o e=>hk b o (yax (yai e)) (yae _ e)) hacc)
end
def zcK (r:Addr) (a b c:Int) (t u v:Tok) (n:Nat) (hsmall:Builtin.Range.small a b c=true) (hn:Builtin.Range.rangeSize a b c=n) (hlen:n <= 2 ^ 24) :
  Meets (Builtin.«tuple.__new__» ⟨[.type "tuple",.ref r],[]⟩)
   (fun A R s => A.handled = none /\ IsRange s.heap r a b c t u v /\ ∀ (h' : Heap) (tk : Nat) (acc : Array Value), (∀ b o, s.heap.get? b = some o -> h'.get? b = some o) -> ItemsOf (fun i v => ∃ t, v = .int (a + i * c) t) acc n ->
    R (.ok (.ret (.ref h'.objs.size))) { s with heap:=h'.push { cls:=.type "tuple",data:=.seq acc },toks:=tk }):=
 .of_wp λ prog w A R s h=>by
  obtain ⟨hh,hr,h⟩:=h;have hsub:=sub_tuple_self;have hinit:=init_tuple_lookup;have hmh:=madeHere_tuple;have hT:s.TypeIs (.ref r) "range":=⟨_,hr,rfl⟩
  have hh1:A.in1.handled=none:=hh
  wp_walk using wpAny_typeOf hT,zdA hh1 hr hsmall hn hlen
  intro h' tk acc hk hacc;show wpAny _ _ (Builtin.Tuple.tupleExact acc.toList.toArray >>= λ v=>ret v) _ _ _;unfold Builtin.Tuple.tupleExact;refine wpAny_bind (wpAny_newObj_type ?_ (show acc.toList.toArray.size <= sizeLine by simp only [Array.toArray_toList]; rw [hacc.1,sizeLine_eq]; omega));refine wpAny_pure ⟨_,rfl,?_⟩;have e:acc.toList.toArray=acc:=by simp
  rw [e];exact h h' tk acc hk hacc
section
variable {prog:Program} {w:World} {A:Around} {E:Value -> Shared -> Prop} {s:Shared}
def ze2 {Q:Value -> Shared -> Prop} {r:Addr} {a b c:Int} {t u v:Tok} {n:Nat} (hh:A.handled=none) (hr:IsRange s.heap r a b c t u v) (hsmall:Builtin.Range.small a b c=true)
  (hn:Builtin.Range.rangeSize a b c=n) (hlen:n <= 2 ^ 24)
  (h:∀ (h':Heap) (tk:Nat) (acc:Array Value),(∀ b o,s.heap.get? b=some o -> h'.get? b=some o) -> ItemsOf (λ i v=>∃ t,v=.int (a + i * c) t) acc n -> Q (.ref h'.objs.size) { s with heap:=h'.push { cls:=.type "tuple",data:=.seq acc },toks:=tk }) :
  wpAny (model prog w) A (call (.type "tuple") [.ref r]) Q E s:=by
 refine callType_new F.called_tuple (3:) (F.typeCall_tuple_1 _) (F.newCall_tuple_1 _) (λ obj=>F.args_object_init_2 obj _) F.entry_tuple_new
  (zcK r a b c t u v n hsmall hn hlen) ⟨hh,hr,λ h' tk acc hk hacc=>⟨⟨_,yao _ rfl,rfl⟩,?_⟩⟩
 exact h h' tk acc hk hacc
def zct {it l:Addr} {i:Nat} {items} {x:Value} {Q:Value -> Shared -> Prop} (hit:s.heap.IsTupleIter it l i)
  (hl:s.heap.IsTuple l items) (hx:items[i]?=some x)
  (hQ:∀ h',h'.IsTupleIter it l (i + 1) -> Heap.SameBut it s.heap h' -> Q x { s with heap:=h' }) :
  wpAny (model prog w) A (Builtin.SmallTypes.nextOf (.ref it)) Q E s:=by
 obtain ⟨o,ho,hc,hd⟩:=id hit;obtain ⟨ol,hol,_,nl,hdl⟩:=hl;unfold Builtin.SmallTypes.nextOf
 refine wpAny_bind (wpAny_callSpecial?_slot (name:=Str.ofString "__next__") hit.typeIs ybE
  (wpAny_call_entry ybE hit.typeIs F.entry_tuple_iterator_next ?_ (F.args_tuple_iterator_next_1 _)))
 show wpAny _ _ (field (.ref it) 0 >>= _) _ _ s;refine wpAny_bind (wpAny_field ho hd (x:=.ref l) rfl ?_);show wpAny _ _ (if (Value.ref l == Value.none)=true then _ else _) _ _ s;rw [if_neg (show ¬ ((Value.ref l == Value.none)=true) from yaD)];show wpAny _ _ (field (.ref it) 1 >>= _) _ _ s;refine wpAny_bind (wpAny_field ho hd (x:=.int i 0) rfl ?_);show wpAny _ _ (seqItems? (.ref l) >>= _) _ _ s;refine wpAny_bind (wpAny_seqItems hol hdl ?_);simp only [yaw,hx];refine wpAny_bind (wpAny_setField ho hd (5:) (wpAny_pure ⟨x,rfl,wpAny_pure (hQ _ ?_ (ybv ..))⟩))
 exact ⟨_,ybG _ ho (Obj.isFreed_of_fields (yci hd _)),(Obj.cls_mapFields ..).trans hc,by
  rw [yci hd]; simp [rawInt]⟩
def zcG {it l:Addr} {i:Nat} {items} {Q:Value -> Shared -> Prop} (hh:A.handled=none)
  (hit:s.heap.IsTupleIter it l i) (hl:s.heap.IsTuple l items) (hx:items[i]?=none)
  (hE:∀ h' e,Heap.ExtBut it s.heap h' -> (∃ o,h'.get? e=some o /\ o.cls=.type "StopIteration") -> E (.ref e) { s with heap:=h' }) :
  wpAny (model prog w) A (Builtin.SmallTypes.nextOf (.ref it)) Q E s:=by
 obtain ⟨o,ho,hc,hd⟩:=id hit;obtain ⟨ol,hol,_,nl,hdl⟩:=hl;unfold Builtin.SmallTypes.nextOf
 refine wpAny_bind (wpAny_callSpecial?_slot (name:=Str.ofString "__next__") hit.typeIs ybE
  (wpAny_call_entry ybE hit.typeIs F.entry_tuple_iterator_next ?_ (F.args_tuple_iterator_next_1 _)))
 show wpAny _ _ (field (.ref it) 0 >>= _) _ _ s;refine wpAny_bind (wpAny_field ho hd (x:=.ref l) rfl ?_);show wpAny _ _ (if (Value.ref l == Value.none)=true then _ else _) _ _ s;rw [if_neg (show ¬ ((Value.ref l == Value.none)=true) from yaD)];show wpAny _ _ (field (.ref it) 1 >>= _) _ _ s;refine wpAny_bind (wpAny_field ho hd (x:=.int i 0) rfl ?_);show wpAny _ _ (seqItems? (.ref l) >>= _) _ _ s;refine wpAny_bind (wpAny_seqItems hol hdl ?_);simp only [yaw,hx];refine wpAny_bind (wpAny_rule (wpAny_bind (wpAny_setField ho hd (5:) ?_)));show wpAny _ _ (newExc (.type "StopIteration") [] >>= _) _ _ _;refine wpAny_bind ?_;simp only [newExc,newTuple];refine wpAny_bind (wpAny_newObj_type ?_ (by size_fits));refine wpAny_bind (m:=firstArgMember _ _) (wpAny_of_eq (a:=Value.none) (by first | rfl | (simp only [firstArgMember]; rfl)) ?_);refine wpAny_newObj_type ?_ (by size_fits);simp only [raiseNew];refine wpAny_bind (wpAny_handled ?_)
 first | rw [show A.in1.handled=none from hh] | rw [hh]
 refine wpAny_bind (wpAny_pure (wpAny_throw ?_));exact hE _ _ (((ybv ..).extBut.push _).push _) ⟨_,yao _ rfl,rfl⟩
end
def Draws.tuple {prog:Program} {w:World} {A:Around} (hh:A.handled=none) (it l:Addr) (hne:l ≠ it) (items:Array Value) :
  Draws prog w A it [it,l] items.size (λ i v=>items[i]?=some v) (λ i h=>h.IsTupleIter it l i /\ h.IsTuple l items) where
 live:=λ _ _ st=>let ⟨o,ho,_⟩:=st.1; ⟨o,ho⟩
 frame:=λ _ _ _ st hk=>⟨st.1.at λ o e=>hk it (5:) o e,st.2.at λ o e=>hk l (5:) o e⟩
 item:=λ i s Q E hi st hQ=>by
  refine zct st.1 st.2 (x:=items[i]) (by simp [hi]) λ h' hit' hs'=>?_;exact hQ _ h' s.toks (by simp [hi]) ⟨hit',st.2.at λ o e=>hs'.extBut _ o hne e⟩ hs'
 done:=λ s Q E st hE=>zcG hh st.1 st.2 (5:) hE
def zdk (l:Addr) (items:Array Value) (n:Nat) (dct:Option Addr) (sl:Array (Option Value)) :
  Meets (Builtin.«enumerate.__new__» ⟨[.type "enumerate",.ref l],[]⟩) (λ _ R s=>s.heap.get? l=some { cls:=.type "tuple",dict:=dct,data:=.seq items n,slots:=sl } /\
   R (.ok (.ret (.ref (s.heap.push { cls:=.type "tuple_iterator",data:=.fields #[.ref l,.int 0 0] }).objs.size)))
    { s with heap:=(s.heap.push { cls:=.type "tuple_iterator",data:=.fields #[.ref l,.int 0 0] }).push { cls:=.type "enumerate",data:=.fields #[.none,.bool false,.ref s.heap.objs.size,rawInt 0,.none,.none] } }):=
 .of_wp λ prog w A R s h=>by
  obtain ⟨hp,g,d,tk,os⟩:=s; obtain ⟨hl,h⟩:=h;have hsub:=sub_enumerate;have hL:Heap.IsTuple (Shared.heap ⟨hp,g,d,tk,os⟩) l items:=⟨_,hl,rfl,n,rfl⟩
  wp_walk using wpAny_loadPart' hl
  refine wpAny_stack_any λ st=>wpAny_pure ?_
  split
  ·rename_i c _ _ _ _ _;cases (c == Value.type "enumerate")
   ·wp_walk using wpAny_loadPart' hl, wpAny_pyIter_tuple hL
    exact ⟨_,rfl,h⟩
   ·wp_walk using wpAny_loadPart' hl, wpAny_pyIter_tuple hL
    exact ⟨_,rfl,h⟩
  ·wp_walk using wpAny_loadPart' hl, wpAny_pyIter_tuple hL
   exact ⟨_,rfl,h⟩
section
variable {prog:Program} {w:World} {A:Around} {E:Value -> Shared -> Prop} {s:Shared}
def zdj {l:Addr} {items:Array Value} {Q:Value -> Shared -> Prop} (hL:s.heap.IsTuple l items)
    (h:∀ h',IsEnum h' (s.heap.objs.size + 1) s.heap.objs.size 0 .none -> h'.IsTupleIter s.heap.objs.size l 0 -> h'.objs.size=s.heap.objs.size + 2 ->
      (∀ b o,s.heap.get? b=some o -> h'.get? b=some o) -> Q (.ref (s.heap.objs.size + 1)) { s with heap:=h' }) :
    wpAny (model prog w) A (call (.type "enumerate") [.ref l]) Q E s:=by
  obtain ⟨⟨c,dct,dt,sl⟩,hl,hc,n,hd⟩:=hL
  replace hc:c=.type "tuple":=hc
  replace hd:dt=.seq items n:=hd
  subst hc hd
  refine callType_new F.called_enumerate (3:) (F.typeCall_enumerate_1 _) (F.newCall_enumerate_1 _) (λ obj=>F.args_object_init_2 obj _) F.entry_enumerate_new
    (zdk l items n dct sl) ⟨hl,?_⟩
  have hz:(s.heap.push { cls:=.type "tuple_iterator",data:=.fields #[.ref l,.int 0 0] }).objs.size=s.heap.objs.size + 1:=ycy ..;show _ /\ _;rw [hz]
  have he:IsEnum ((s.heap.push { cls:=.type "tuple_iterator",data:=.fields #[.ref l,.int 0 0] }).push
      { cls:=.type "enumerate",data:=.fields #[.none,.bool false,.ref s.heap.objs.size,rawInt 0,.none,.none] }) (s.heap.objs.size + 1) s.heap.objs.size 0 .none:=by
    have:=yao (s.heap.push { cls:=.type "tuple_iterator",data:=.fields #[.ref l,.int 0 0] })
      (o:={ cls:=.type "enumerate",data:=.fields #[.none,.bool false,.ref s.heap.objs.size,rawInt 0,.none,.none] }) rfl
    rw [hz] at this; exact this
  refine ⟨⟨_,he,rfl⟩,h _ he ⟨_,yae _ (yao _ rfl),rfl,rfl⟩ (by rw [ycy,hz]) λ b o x=>yae _ (yae _ x)⟩
end
end PySem
namespace L2
open PySem PySem.Spec PyProof.Rows
section
variable {X:Cx} {K:PySem.W.Frag} {a:Expr} {ta:TA} {p p2 pos pos2:Pos}
def ziF {acc:Array Value} {n:Nat} (h:ItemsOf (λ i v=>∃ t,v=Value.int ((0:Int) + i * 1) t) acc n):Vals ((List.range n).map λ (x:Nat)=>V.int (x:Int)) acc.toList:=by
 obtain ⟨h1,h2⟩:=h
 have key:∀ (k:Nat) (l:List Value) (j:Nat),l.length=k -> (∀ i v,l[i]?=some v -> ∃ t,v=Value.int ((j + i:Nat):Int) t) -> Vals ((List.range' j k).map λ (x:Nat)=>V.int (x:Int)) l:=by
  intro k
  induction k with
  | zero=>
   intro l j hl _;cases l with
   | nil=>exact .nil
   | cons _ _=>simp at hl
  | succ k ih=>
   intro l j hl hv;cases l with
   | nil=>simp at hl
   | cons x r=>
    rw [List.range'_succ,yaP];refine .cons (hv 0 x rfl) (ih r (j + 1) (67:) λ i v e=>?_);obtain ⟨t,q⟩:=hv (i + 1) v (64:);exact ⟨t,by rw [q]; congr 1; omega⟩
 rw [List.range_eq_range'];refine key n acc.toList 0 (by simpa using h1) λ i v e=>?_;obtain ⟨t,q⟩:=h2 i v (64:);exact ⟨t,by rw [q]; congr 1; omega⟩
noncomputable def zkT (ta:TA):TE:=λ σ H Q=>ta σ H λ vs H1=>∃ n:Nat,vs=[.int n] /\ n <= 1000000 /\ ∀ l,H1 l=none -> Q (.ref l) (upd H1 l (.tup ((List.range n).map λ (x:Nat)=>V.int (x:Int))))
def zpb {n:Nat} (h:n <= 1000000):Builtin.Range.small 0 (n:Int) 1=true:=small_one (1:) (1:) (1:) (1:)
def zqc {n:Nat}:Builtin.Range.rangeSize 0 (n:Int) 1=(n:Nat):=by
 rw [rangeSize_one]; split <;> omega
def zbj (hc:X.calm=true) (hml:X.mg "tuple"=none) (hmr:X.mg "range"=none) (ha:PA X [a] ta) (hgl:Gl X "tuple":=by rfl) (hgr:Gl X "range":=by rfl) (hK:X.K=K:=by rfl)
  (hs:starEach [a] X.env=[(false,eval a X.env)]:=by rfl)
  (hs1:starEach [(.Call (.Name "range" p) [a] [] pos:Expr)] X.env=[(false,eval (.Call (.Name "range" p) [a] [] pos) X.env)]:=by rfl) :
  PE X (.Call (.Name "tuple" p2) [.Call (.Name "range" p) [a] [] pos] [] pos2) (zkT ta):=by
 intro pins s σ H Q I h;refine wpAny_Call_Name_kw (zdv I hgl hml boot_tuple ?_);refine yaX ?_ hs1 rfl;rw [hs1];show wpAny _ _ (spliced ((false,eval (.Call (.Name "range" p) [a] [] pos) X.env) :: backTo pos2 [])) _ _ s;refine ybA ?_;refine Call_ (zdv I hgr hmr boot_range (yaX (thn (ha pos pins s σ H _ I h) λ us s1 ⟨vs,H1,I1,r1,q1⟩=>?_) hs rfl));obtain ⟨n,e,hn,q⟩:=q1;subst e;cases r1 with
 | cons r rr=>
  cases rr;obtain ⟨t,rfl⟩:=r;refine call_range_1 ?_;have I2:Inv X pins σ H1 { s1 with heap:=s1.heap.push { cls:=.type "range",data:=.fields #[.int 0 s1.toks,.int n t,.int 1 (s1.toks + 1)] },toks:=s1.toks + 1 + 1 }:=I1.kept λ b o e=>yae _ e;refine yb1 ?_;refine ze2 (I.ok.hd hc) (IsRange.new ..) (zpb hn) zqc (1:) λ h' tk acc' hk hacc=>?_;have rv:=ziF hacc;have I3:Inv X pins σ H1 { s1 with heap:=h',toks:=tk }:=I2.kept (h':=h') (t':=tk) hk;exact ⟨.ref _,_,I3.laid (t':=tk) (o:=.tup _) (λ b o e=>yae _ e) (yag _) ⟨by rw [yaa,yaK,sizeLine_eq]; omega,_,rv,by simpa using zbm.new _ _⟩,rfl,q _ (I3.hok.fresh (yag _))⟩
end
section
variable {σ:St} {H:Hp} {Q:VK}
def zm2 {t:TA} (h:t σ H λ vs H1=>∃ n:Nat,vs=[.int n] /\ n <= 1000000 /\ ∀ l,H1 l=none -> Q (.ref l) (upd H1 l (.tup ((List.range n).map λ (x:Nat)=>V.int (x:Int))))):zkT t σ H Q:=h
end
noncomputable def IteL (K:PySem.W.Frag) (a:Addr) (xs:List V):It:=
 ⟨λ i H=>i < xs.length /\ SqL K H a xs,λ i H x H'=>∃ T u,x=.ref T /\ H T=none /\ H'=upd H T (.tup [.int (i:Int),u]) /\ xs[i]?=some u,λ i H=>i=xs.length /\ SqL K H a xs⟩
def zkF {P:Program} {w:World} {K:PySem.W.Frag} {elts:List Expr} {kk:Nat} {tpos:Pos} (a e it:Addr) (hei:e ≠ it) (hae:a ≠ e) (hai:a ≠ it) (xs:List V) :
  Turn P w K (.Tuple elts kk tpos) (IteL K a xs) [e,it] e (λ i h=>(∃ old,IsEnum h e it i old) /\ h.IsListIter it a i):=by
 refine ⟨by simp,?_,?_,?_,?_,?_⟩
 ·rintro i h ⟨⟨old, he⟩, h1⟩ c hc;simp only [yav, ya2, or_false] at hc;rcases hc with rfl | rfl
  ·exact ⟨_,he,λ v q=>nomatch q⟩
  ·obtain ⟨o,e,c,d⟩:=h1; exact ⟨o,e,λ v q=>by rw [d] at q; cases q⟩
 ·rintro i h h' ⟨⟨old,he⟩,h1⟩ k;exact ⟨⟨old,k e (5:) _ he⟩,h1.at λ o q=>k it (5:) o q⟩
 ·intro X hP hw hK hc i pins s σ H E I hf st hg;subst hP hw hK;obtain ⟨hi, hqa⟩ := hg;obtain ⟨he, h1⟩ := st;obtain ⟨ia, ra, pa, za⟩ := I.list hqa;have la := ra.length;have W := WalksT.enumerate (prog := X.prog) (w := X.w) (A := X.A) (I.ok.hd hc) e it a hei hae hai ia.toArray;refine zkG (items := ia.toArray) hei hae hai (by simpa [<- la] using hi) ⟨he, h1, pa.isList⟩ fun T vals h' tk hP hfr hT hm hk => ?_;obtain ⟨t, u, eu, rfl⟩ := hP;refine ⟨_, rfl, W.go elts kk tpos i T _ _ _ hm fun h2 st2 hk2 => ?_⟩;have eu' : ia[i]? = some u := by simpa using eu
  obtain ⟨u',hu',ru⟩:=ra.get (yab hi);rw [eu'] at hu'; cases hu';have hTw:T ∉ [e,it]:=W.apart i T _ hm
  have hT2:zbm h2 T [Value.int (i:Int) t,u].toArray:=by
   obtain ⟨o,e,c,n,d⟩:=hT;exact ⟨o,hk2 T o hTw e,c,n,d⟩
  refine ⟨.ref T,upd H T (.tup [.int (i:Int),xs[i]]),I.turnTup (ch:=[e,it]) (t':=tk) (λ c hc=>hf c hc) (λ c o hc q=>hk2 c o hc (hk c o hc q)) hfr hT2 (.cons ⟨t,rfl⟩ (.cons ru .nil)) (by show 2 <= sizeLine; decide),rfl,
   ⟨T,_,rfl,I.hok.fresh hfr,rfl,yab hi⟩,⟨st2.1,st2.2.1⟩,λ c hc=>?_⟩
  have hcl:c < s.heap.objs.size:=by
   simp only [yav,ya2,or_false] at hc;obtain ⟨old,he⟩:=he;rcases hc with rfl | rfl
   ·exact yai he
   ·obtain ⟨o,e,_⟩:=h1; exact yai e
  rw [zan (yax (yak hcl hfr))];exact (hf c hc).1
 ·intro X hP hw hK hc i pins s σ H E I hf st hg;subst hP hw hK;obtain ⟨hi, hqa⟩ := hg;obtain ⟨he, h1⟩ := st;obtain ⟨ia, ra, pa, za⟩ := I.list hqa;have la := ra.length;have W := WalksT.enumerate (prog := X.prog) (w := X.w) (A := X.A) (I.ok.hd hc) e it a hei hae hai ia.toArray;have hi' : i = ia.toArray.size := by simpa [<- la] using hi
  refine W.done s _ _ (hi' ▸ ⟨he,h1,pa.isList⟩) λ h' tk hk=>⟨rfl,I.turnL (ch:=[e,it]) (λ c hc=>hf c hc) hk⟩
 ·rintro A i s Q E ⟨⟨old,he⟩,_⟩ h;exact wpAny_pyIter_enum he h
noncomputable def IteT (K:PySem.W.Frag) (a:Addr) (xs:List V):It:=
 ⟨λ i H=>i < xs.length /\ SqT K H a xs,λ i H x H'=>∃ T u,x=.ref T /\ H T=none /\ H'=upd H T (.tup [.int (i:Int),u]) /\ xs[i]?=some u,λ i H=>i=xs.length /\ SqT K H a xs⟩
def zkg {P:Program} {w:World} {K:PySem.W.Frag} {elts:List Expr} {kk:Nat} {tpos:Pos} (a e it:Addr) (hei:e ≠ it) (hae:a ≠ e) (hai:a ≠ it) (xs:List V) :
  Turn P w K (.Tuple elts kk tpos) (IteT K a xs) [e,it] e (λ i h=>(∃ old,IsEnum h e it i old) /\ h.IsTupleIter it a i):=by
 refine ⟨by simp,?_,?_,?_,?_,?_⟩
 ·rintro i h ⟨⟨old, he⟩, h1⟩ c hc;simp only [yav, ya2, or_false] at hc;rcases hc with rfl | rfl
  ·exact ⟨_,he,λ v q=>nomatch q⟩
  ·obtain ⟨o,e,c,d⟩:=h1; exact ⟨o,e,λ v q=>by rw [d] at q; cases q⟩
 ·rintro i h h' ⟨⟨old,he⟩,h1⟩ k;exact ⟨⟨old,k e (5:) _ he⟩,h1.at λ o q=>k it (5:) o q⟩
 ·intro X hP hw hK hc i pins s σ H E I hf st hg;subst hP hw hK;obtain ⟨hi, hqa⟩ := hg;obtain ⟨he, h1⟩ := st;obtain ⟨ia, ra, pa, za⟩ := I.tuple hqa;have la := ra.length;have W := WalksT.enumerateD (prog := X.prog) (w := X.w) (A := X.A) (Draws.tuple (A := X.A.in1) (I.ok.hd hc) it a hai ia.toArray) e hei (fun z => (yav.mp z).elim (fun q => hei q) (fun q => hae (yah.mp q).symm)) (5:);refine zix (Draws.tuple (A := X.A.in1) (I.ok.hd hc) it a hai ia.toArray) hei (fun z => (yav.mp z).elim (fun q => hei q) (fun q => hae (yah.mp q).symm)) (by simpa [<- la] using hi) ⟨he, h1, (show s.heap.IsTuple a ia.toArray from pa)⟩ fun T vals h' tk hP hfr hT hm hk => ?_;obtain ⟨t, u, eu, rfl⟩ := hP;refine ⟨_, rfl, W.go elts kk tpos i T _ _ _ hm fun h2 st2 hk2 => ?_⟩;have eu' : ia[i]? = some u := by simpa using eu
  obtain ⟨u',hu',ru⟩:=ra.get (yab hi);rw [eu'] at hu'; cases hu';have hTw:T ∉ [e,it]:=W.apart i T _ hm
  have hT2:zbm h2 T [Value.int (i:Int) t,u].toArray:=by
   obtain ⟨o,e,c,n,d⟩:=hT;exact ⟨o,hk2 T o hTw e,c,n,d⟩
  refine ⟨.ref T,upd H T (.tup [.int (i:Int),xs[i]]),I.turnTup (ch:=[e,it]) (t':=tk) (λ c hc=>hf c hc) (λ c o hc q=>hk2 c o hc (hk c o hc q)) hfr hT2 (.cons ⟨t,rfl⟩ (.cons ru .nil)) (by show 2 <= sizeLine; decide),rfl,
   ⟨T,_,rfl,I.hok.fresh hfr,rfl,yab hi⟩,⟨st2.1,st2.2.1⟩,λ c hc=>?_⟩
  have hcl:c < s.heap.objs.size:=by
   simp only [yav,ya2,or_false] at hc;obtain ⟨old,he⟩:=he;rcases hc with rfl | rfl
   ·exact yai he
   ·obtain ⟨o,e,_⟩:=h1; exact yai e
  rw [zan (yax (yak hcl hfr))];exact (hf c hc).1
 ·intro X hP hw hK hc i pins s σ H E I hf st hg;subst hP hw hK;obtain ⟨hi, hqa⟩ := hg;obtain ⟨he, h1⟩ := st;obtain ⟨ia, ra, pa, za⟩ := I.tuple hqa;have la := ra.length;have W := WalksT.enumerateD (prog := X.prog) (w := X.w) (A := X.A) (Draws.tuple (A := X.A.in1) (I.ok.hd hc) it a hai ia.toArray) e hei (fun z => (yav.mp z).elim (fun q => hei q) (fun q => hae (yah.mp q).symm)) (5:);have hi' : i = ia.toArray.size := by simpa [<- la] using hi
  refine W.done s _ _ (hi' ▸ ⟨he,h1,(show s.heap.IsTuple a ia.toArray from pa)⟩) λ h' tk hk=>⟨rfl,I.turnL (ch:=[e,it]) (λ c hc=>hf c hc) hk⟩
 ·rintro A i s Q E ⟨⟨old,he⟩,_⟩ h;exact wpAny_pyIter_enum he h
noncomputable def zq2 (K:PySem.W.Frag) (ta:TA):TI:=λ σ H R=>ta σ H λ vs H1=>∃ a xs,vs=[.ref a] /\ ((SqL K H1 a xs /\ R (IteL K a xs) H1) \/ (SqT K H1 a xs /\ R (IteT K a xs) H1))
def zce {X:Cx} {K:PySem.W.Frag} {elts:List Expr} {kk:Nat} {tpos:Pos} {a:Expr} {ta:TA} {p pos:Pos} (hm:X.mg "enumerate"=none) (ha:PA X [a] ta) (hg:Gl X "enumerate":=by rfl) (hs:starEach [a] X.env=[(false,eval a X.env)]:=by rfl) (hK:X.K=K:=by rfl) :
  PI X (.Tuple elts kk tpos) (.Call (.Name "enumerate" p) [a] [] pos) (zq2 K ta):=by
 subst hK;intro pins s σ H R I h;refine Call_ (zdv I hg hm boot_enumerate (yaX (thn (ha pos pins s σ H _ I h) λ us s1 ⟨vs,H1,I1,r1,q1⟩=>?_) hs rfl));obtain ⟨a,xs,e,q⟩:=q1;subst e;cases r1 with
 | cons r rr=>
  cases rr;cases r
  have fpo:∀ c ∈ [s1.heap.objs.size + 1,s1.heap.objs.size],FpOk X pins H1 c:=λ c hc=>by
   have hc':s1.heap.objs.size <= c:=by
    simp only [yav,ya2,or_false] at hc;show @LE.le Nat _ s1.heap.objs.size c;rcases hc with z | z <;> (have z':@Eq Nat c _:=z; omega)
   exact I1.fpOk hc' (I1.hok.fresh hc')
  rcases q with ⟨hqa,q⟩ | ⟨hqa,q⟩
  ·obtain ⟨ia, ra, pa, za⟩ := I1.list hqa;have al : @LT.lt Nat _ a s1.heap.objs.size := by obtain ⟨o, n, e, _⟩ := pa; exact yai e
   refine call_enumerate_list pa.isList λ h' he h1 hsz hk=>?_;have I2:Inv X pins σ H1 { s1 with heap:=h' }:=I1.kept (t':=s1.toks) hk;refine wpAny_pyIter_enum he ?_;exact ⟨s1.heap.objs.size + 1,[s1.heap.objs.size + 1,s1.heap.objs.size],_,_,H1,rfl,I2,zkF a _ _ (65:) (65:) (65:) xs,⟨⟨_,he⟩,h1⟩,fpo,q⟩
  ·obtain ⟨ia, ra, pa, za⟩ := I1.tuple hqa;have al : @LT.lt Nat _ a s1.heap.objs.size := by obtain ⟨o, e, _⟩ := pa; exact yai e
   refine zdj (show s1.heap.IsTuple a ia.toArray from pa) λ h' he h1 hsz hk=>?_;have I2:Inv X pins σ H1 { s1 with heap:=h' }:=I1.kept (t':=s1.toks) hk;refine wpAny_pyIter_enum he ?_;exact ⟨s1.heap.objs.size + 1,[s1.heap.objs.size + 1,s1.heap.objs.size],_,_,H1,rfl,I2,zkg a _ _ (65:) (65:) (65:) xs,⟨⟨_,he⟩,h1⟩,fpo,q⟩
def zp5 {σ:St} {H:Hp} {K:PySem.W.Frag} {t:TA} {R:It -> Hp -> Prop} (h:t σ H λ vs H1=>∃ a xs,vs=[.ref a] /\ ((SqL K H1 a xs /\ R (IteL K a xs) H1) \/ (SqT K H1 a xs /\ R (IteT K a xs) H1))):zq2 K t σ H R:=h
end L2
namespace PySem
section
variable {prog:Program} {w:World} {A:Around} {E:Value -> Shared -> Prop} {s:Shared}
end
end PySem
namespace L2
open PySem PySem.Spec PyProof.Rows
def zkn {K:PySem.W.Frag} {a:Addr} {xs:List V} {src:List (Option Nat)} {σ:St} {g:TG} {tc:TT} {te:TE} {Q:VK} {H:Hp} (Pv:Nat -> List V -> Hp -> Prop) (h0:Pv 0 [] H) (len:∀ i acc H,Pv i acc H -> acc.length <= sizeLine)
  (hl:∀ i acc H,Pv i acc H -> SqL K H a xs)
  (step:∀ i u T acc H,xs[i]?=some u -> H T=none -> Pv i acc H -> g (.ref T) (capt src σ) (upd H T (.tup [.int (i:Int),u])) λ σ2 H2=>Ext (capt src σ) σ2 /\ tc σ2 H2 λ b H3=>if b=true then te σ2 H3 (λ y H4=>Pv (i + 1) (acc ++ [y]) H4) else Pv (i + 1) acc H3)
  (done:∀ acc H,Pv xs.length acc H -> ∀ p,H p=none -> Q (.ref p) (upd H p (.lst acc))):zcF (IteL K a xs) src σ g tc te Q H:=by
 refine ⟨λ i m acc H=>m=xs.length - i /\ i <= xs.length /\ Pv i acc H,⟨xs.length,by simp,yaY _,h0⟩,?_⟩;rintro i m acc H ⟨rfl,hi,p⟩;refine ⟨len i acc H p,?_⟩;by_cases hlt:i < xs.length
 ·refine .inr ⟨⟨hlt,hl i acc H p⟩,λ y H4=>Pv (i + 1) (acc ++ [y]) H4,λ H3=>Pv (i + 1) acc H3,λ y H4 q=>⟨xs.length - (i + 1),by omega,rfl,hlt,q⟩,λ H3 q=>⟨xs.length - (i + 1),by omega,rfl,hlt,q⟩,λ x H' y=>?_⟩;obtain ⟨T,u,rfl,hT,rfl,hu⟩:=y;exact step i u T acc H hu hT p
 ·have e : i = xs.length := by omega
  subst e;exact .inl ⟨⟨rfl,hl _ acc H p⟩,done acc H p⟩
def zhD {K:PySem.W.Frag} {a:Addr} {xs:List V} {src:List (Option Nat)} {σ:St} {g:TG} {tc:TT} {te:TE} {Q:VK} {H:Hp} (hA:SqT K H a xs)
  (h:zcF (Itt K a) src σ g tc te Q H):∃ b,V.ref a=.ref b /\ (((∃ xs,SqL K H b xs) /\ zcF (Itl K b) src σ g tc te Q H) \/ ((∃ xs,SqT K H b xs) /\ zcF (Itt K b) src σ g tc te Q H)):=⟨a,rfl,.inr ⟨⟨xs,hA⟩,h⟩⟩
end L2
namespace PySem
open Sem (wp)
open Builtin
def zez:fillsNumberSlot (.type "tuple") "mul"=pure false:=
 fillsNumberSlot_seq (id:="tuple.__mul__") (r:=some (.builtin "tuple.__rmul__")) ycE.lookup (20:) F.slot_tuple_rmul.lookup (20:)
def zg2:seqRepeat? (.type "tuple")=pure (some (.builtin "tuple.__mul__")):=by
 unfold seqRepeat?;rw [seqSlot_of (T:="tuple") (name:="__mul__") (id:="tuple.__mul__") ycE.lookup (20:),seqSlot_of (T:="tuple") (name:="__rmul__") (id:="tuple.__rmul__") F.slot_tuple_rmul.lookup (20:)];rfl
def zfp (a:Int) (t:Tok) (l:Addr) (items:Array Value) (n:Nat) {dd} {sl} :
  Meets (Builtin.«int.__rmul__» ⟨[.int a t,.ref l],[]⟩) (λ _ R s=>s.heap.get? l=some { cls:=.type "tuple",dict:=dd,data:=.seq items n,slots:=sl } /\ R (.ok (.ret Value.notImplemented)) s):=
 .of_wp λ prog w A R s h=>by obtain ⟨hp,g,d,tk,os⟩:=s; obtain ⟨hl,h⟩:=h; wp_walk; exact ⟨_,rfl,h⟩
def ziR (l:Addr) (items:Array Value) (n:Nat) (x:Int) (u:Tok) {dd} {sl} (h0:items.isEmpty=false) (h1:1 < x) (h2:x < 2 ^ 63) (hz:items.size * x.toNat <= sizeLine) :
  Meets (Builtin.«tuple.__mul__» ⟨[.ref l,.int x u],[]⟩) (λ _ R s=>s.heap.get? l=some { cls:=.type "tuple",dict:=dd,data:=.seq items n,slots:=sl } /\ R (.ok (.ret (Value.ref s.heap.objs.size))) { s with heap:=s.heap.push { cls:=Value.type "tuple",data:=Data.seq (List.foldl (λ x1 x2=>x1 ++ x2) #[] (List.replicate x.toNat items)) },toks:=s.toks }):=
 .of_wp λ prog w A R s h=>by
  obtain ⟨hp,g,d,tk,os⟩:=s; obtain ⟨hl,h⟩:=h
  have hm:(items.size:Int) * x=((items.size * x.toNat:Nat):Int):=by
   rw [Int.natCast_mul,ybk (1:)]
  have hcap:(sizeLine:Nat) <= (2 ^ 63 - 1) / 8:=by decide
  have hc0:¬(decide (x < -2 ^ 63) || decide (x >= 2 ^ 63))=true:=by
   rw [decide_eq_false (1:),decide_eq_false (1:)]; decide
  have hc1:¬(items.isEmpty || x == 1)=true:=by
   rw [h0,beq_eq_false_iff_ne.mpr (1:)]; decide
  have hc2:¬(decide (x <= 0) || items.isEmpty)=true:=by
   rw [h0,decide_eq_false (1:)]; decide
  have hc3:¬ (items.size:Int) * x > (2 ^ 63 - 1) / 8:=by
   rw [hm]; omega
  have hc4:¬ Builtin.Tuple.tupleTooMany ((items.size:Int) * x)=true:=by
   rw [hm];unfold Builtin.Tuple.tupleTooMany;rw [decide_eq_false (1:)];decide
  wp_walk
  rw [if_neg hc0]
  wp_walk using wpAny_loadPart' hl
  rw [if_neg hc1]
  wp_walk
  rw [if_neg hc2]
  wp_walk
  rw [if_neg hc3]
  wp_walk
  rw [if_neg hc4]
  wp_walk
  rw [if_neg (by
   have e:=ycT items.size x.toNat;rw [AutoListH.size_joined]; simp only [Array.size_empty]; omega)]
  wp_walk
  exact ⟨_,rfl,h⟩
def zi2 (l:Addr) (items:Array Value) (n:Nat) (u:Tok) {dd} {sl} :
  Meets (Builtin.«tuple.__mul__» ⟨[.ref l,.int 1 u],[]⟩) (λ _ R s=>s.heap.get? l=some { cls:=.type "tuple",dict:=dd,data:=.seq items n,slots:=sl } /\ R (.ok (.ret (Value.ref l))) s):=
 .of_wp λ prog w A R s h=>by
  obtain ⟨hp,g,d,tk,os⟩:=s; obtain ⟨hl,h⟩:=h
  wp_walk
  exact ⟨_,rfl,h⟩
end PySem
namespace L2
open PySem PySem.Spec PyProof.Rows
section
variable {X:Cx}
noncomputable def zqM (K:PySem.W.Frag):R2:=λ x y H Q=>∃ a k xs,x=.ref a /\ y=.int k /\ SqT K H a xs /\ 1 <= k /\ k < 2 ^ 63 /\ xs ≠ [] /\ xs.length * k.toNat <= sizeLine /\
 (k=1 -> Q (.ref a) H) /\ (k ≠ 1 -> ∀ p,H p=none -> Q (.ref p) (upd H p (.tup (List.replicate k.toNat xs).flatten)))
def zow:OpR X (binaryOp .Mult) (zqM X.K):=by
 intro pins s σ H x y v u Q I rx ry h;obtain ⟨a,k,xs,rfl,rfl,ha,h1,h2,hx,hz,q1,q2⟩:=h;cases rx;obtain ⟨t,rfl⟩:=ry;obtain ⟨its,r,p1,_⟩:=I.tuple ha;obtain ⟨⟨cls,dd,data,sl⟩,ho,hc,n,hd⟩:=id p1;simp only at hc hd;subst hc hd
 refine wpAny_binaryOp_repeat_ref (T:="tuple") (U:="int") (3:) ⟨_,ho,rfl⟩ (λ s'=>typeIs_int s' k t) zez F.fills_int_mul ycP zg2 F.slot_int_index.lookup
  (call_meets ycP (typeIs_int s k t) F.entry_int_rmul (F.args_int_rmul_2 _ _) (zfp k t a its.toArray n) ⟨ho,rfl,⟨_,ho,rfl⟩,?_⟩)
 by_cases e:k=1
 ·subst e;exact call_meets ycE ⟨_,ho,rfl⟩ F.entry_tuple_mul (F.args_tuple_mul_2 _ _) (zi2 a its.toArray n t) ⟨ho,.ref a,H,I,rfl,q1 rfl⟩
 ·refine call_meets ycE ⟨_, ho, rfl⟩ F.entry_tuple_mul (F.args_tuple_mul_2 _ _) (ziR a its.toArray n k t ?_ (1:) h2 (by rw [yap, <- r.length]; exact hz)) ⟨ho, ?_⟩
  ·cases its with
   | nil=>exact absurd (r.nil_iff.mp rfl) hx
   | cons _ _=>rfl
  ·have f0:List.foldl (λ x1 x2=>x1 ++ x2) #[] (List.replicate k.toNat its.toArray)=(List.replicate k.toNat its).flatten.toArray:=by
    have:=zfM its k.toNat [];rw [List.nil_append] at this;exact this
   rw [f0];refine ⟨.ref s.heap.objs.size,_,I.laid (t':=s.toks) (o:=.tup (List.replicate k.toNat xs).flatten) (λ b ob q=>yae _ q) (yag _) ?_,rfl,q2 e _ (I.hok.fresh (yag _))⟩;exact ⟨by rw [zl1,ycT]; exact hz,_,r.rep k.toNat,zbm.new _ _⟩
noncomputable def zoT (K:PySem.W.Frag):R2:=λ x y H Q=>zpv x y H Q \/ zqM K x y H Q
def zhX {K:PySem.W.Frag} (hK:X.K=K:=by rfl):OpR X (binaryOp .Mult) (zoT K):=hK ▸ zoW.or zow
end
def znc {K:PySem.W.Frag} {i j:Int} {H:Hp} {Q:VK} (c:CMul i j) (h:Q (.int (i * j)) H):zoT K (.int i) (.int j) H Q:=.inl (.inl ⟨i,j,rfl,rfl,c,h⟩)
open PySem.W
section
variable {prog:Program} {w:World} {A:Around} {E:Value -> Shared -> Prop} {s:Shared} {t:Addr}
end
section
variable {X:Cx}
def zgm:∀ {ns:List Int} {us:List Value},Vals (ns.map V.int) us -> IntsAre us ns
 | [],_,.nil=>.nil
 | n :: ns,_,.cons r t=>by
  obtain ⟨k,rfl⟩:=r;exact .cons n k (zgm t)
end
end L2
namespace L2
open PySem PySem.Spec PyProof.Rows
section
variable {X:Cx} {pos:Pos}
end
def zpD {i j:Nat} {ta:TA} {D:Ends} {σ:St} {H:Hp} (h:ta σ H λ vs H1=>∃ v w,vs=[v,w] /\ D.nx ((σ.set i (some v)).set j (some w)) H1):tPar i j ta D σ H:=h
def zrB {u v:V} {P:V -> V -> Prop} (h:P u v):∃ u' v',[u,v]=[u',v'] /\ P u' v':=⟨u,v,rfl,h⟩
def zgu {K:PySem.W.Frag} {a b:Str} {H:Hp} {Q:VK} (ha:shpd (.str a)=true) (hb:shpd (.str b)=true) (h:Q (.bl (a == b)) H):rEqU K (.str a) (.str b) H Q:=⟨.str a,.str b,.str K H a,.str K H b,ha,hb,h⟩
end L2
namespace Bm
def ziT (n k:Nat):(n / 2 ^ k) &&& 1=(n.testBit k).toNat:=by
 rw [Nat.and_one_is_mod,Nat.testBit_eq_decide_div_mod_eq];have h:n / 2 ^ k % 2 < 2:=ycd _ (3:);by_cases e:n / 2 ^ k % 2=1
 ·simp [e]
 ·have : n / 2 ^ k % 2 = 0 := by omega
  simp [this]
def zke:∀ (a b:Nat),(a ||| b)=(a ^^^ b) + (a &&& b):=by
 intro a
 induction a using Nat.strongRecOn with
 | ind a ih=>
  intro b;by_cases h:a=0
  ·subst h; simp
  ·have i := ih (a / 2) (1:) (b / 2);have e1 := Nat.or_div_two (a := a) (b := b);have e2 := Nat.xor_div_two (a := a) (b := b);have e3 := Nat.and_div_two (a := a) (b := b)
   have m1:(a ||| b) % 2=(a ^^^ b) % 2 + (a &&& b) % 2:=by
    have ha:a % 2=0 \/ a % 2=1:=by omega
    have hb:b % 2=0 \/ b % 2=1:=by omega
    have o:=Nat.or_mod_two_pow (a:=a) (b:=b) (n:=1);have x:=Nat.xor_mod_two_pow (a:=a) (b:=b) (n:=1);have n:=Nat.and_mod_two_pow (a:=a) (b:=b) (n:=1);simp only [Nat.pow_one] at o x n;rw [o,x,n];rcases ha with ha | ha <;> rcases hb with hb | hb <;> simp [ha,hb]
   omega
noncomputable def zaP (ps:List Nat):Nat:=ps.foldl (λ m p=>m ||| 2 ^ p) 0
def zdY (k:Nat):∀ (ps:List Nat) (m:Nat),(ps.foldl (λ m p=>m ||| 2 ^ p) m).testBit k=(m.testBit k || decide (k ∈ ps))
 | [],m=>by simp
 | p :: ps,m=>by
  rw [List.foldl_cons,zdY k ps,yb7,Nat.testBit_two_pow];by_cases h:p=k
  ·subst h; simp
  ·have h':¬ k=p:=λ e=>h e.symm;simp [h,h']
def zay (ps:List Nat) (k:Nat):(zaP ps).testBit k=decide (k ∈ ps):=by
 unfold zaP;rw [zdY];simp
def zkf (ps:List Nat) (p:Nat):zaP (ps ++ [p])=zaP ps ||| 2 ^ p:=by
 simp [zaP,ybR]
noncomputable def bitsB (n w:Nat):List Bool:=(List.range w).map n.testBit
noncomputable def zcc (n:Nat):Nat:=if n=0 then 0 else n.log2 + 1
def zhN (n:Nat):n < 2 ^ zcc n:=by
 unfold zcc
 split
 ·rename_i h; subst h; decide
 ·exact Nat.lt_log2_self
def zho {n w:Nat} (h:n < 2 ^ w):zcc n <= w:=by
 unfold zcc
 split
 ·exact yaY _
 ·rename_i h0;exact (Nat.log2_lt h0).mpr h
def zej {n k:Nat} (h:zcc n <= k):n.testBit k=false:=
 ycr (yak (zhN n) (yaL (3:) h))
noncomputable def zad (n:Nat):List Nat:=(List.range (zcc n)).filter n.testBit
def zcE {p:Nat -> Bool} {a b:Nat} (h:a <= b) (hp:∀ i,a <= i -> p i=false):(List.range b).filter p=(List.range a).filter p:=by
  induction b with
  | zero => have : a = 0 := by omega
            subst this; rfl
  | succ b ih=>
    by_cases e:a=b + 1
    · subst e; rfl
    · rw [yaQ,yaz,ih (1:)];simp [hp b (1:)]
def za7 {n w:Nat} (h:n < 2 ^ w):zad n=(List.range w).filter n.testBit:=by
 unfold zad;exact (zcE (zho h) λ i hi=>zej hi).symm
def za2 {n k:Nat}:k ∈ zad n ↔ n.testBit k=true:=by
 unfold zad;rw [yaB,yat];constructor
 ·exact λ h=>h.2
 ·intro h;refine ⟨?_, h⟩;by_cases hk : k < zcc n
  ·exact hk
  ·rw [zej (1:)] at h; cases h
end Bm
namespace L2
open PySem PySem.Spec PyProof.Rows Bm
noncomputable abbrev nV (n:Nat):V:=V.int (n:Int)
noncomputable def SqA (K:PySem.W.Frag) (H:Hp) (a:Addr) (xs:List V):Prop:=SqL K H a xs \/ SqT K H a xs
def zbh (a b:Nat):Builtin.bitAnd (a:Int) (b:Int)=((a &&& b:Nat):Int):=by
 simp [Builtin.bitAnd]
def zgd (a:Nat):Builtin.bitNot (a:Int)=-((a:Int) + 1):=by
 simp [Builtin.bitNot]; omega
def zcR (a b:Nat):Builtin.bitOr (a:Int) (b:Int)=((a ||| b:Nat):Int):=by
 have h1:decide (0 <= Builtin.bitNot (a:Int))=false:=by rw [zgd]; apply decide_eq_false; omega
 have h2:decide (0 <= Builtin.bitNot (b:Int))=false:=by rw [zgd]; apply decide_eq_false; omega
 have n1:(Builtin.bitNot (Builtin.bitNot (a:Int))).toNat=a:=by simp [Builtin.bitNot]; omega
 have n2:(Builtin.bitNot (Builtin.bitNot (b:Int))).toNat=b:=by simp [Builtin.bitNot]; omega
 unfold Builtin.bitOr Builtin.bitAnd;rw [h1,h2];dsimp only;rw [n1,n2];simp [Builtin.bitNot];omega
def zkk (a b:Nat):Builtin.bitXor (a:Int) (b:Int)=((a ^^^ b:Nat):Int):=by
 unfold Builtin.bitXor;rw [zcR,zbh];have h:=zke a b;omega
def ziN (n:Nat):Builtin.Int.intBits (n:Int)=zcc n:=by
 unfold Builtin.Int.intBits zcc;by_cases h:n=0
 ·subst h; rfl
 ·have:((n:Int) == 0)=false:=by
   apply beq_eq_false_iff_ne.mpr;omega
  rw [this,if_neg h];simp
def modN {n:Nat} (x:Int) (h:0 < n):∃ r:Nat,r < n /\ x % (n:Int)=(r:Int):=by
 have h1:=ycj x (show (n:Int) ≠ 0 by omega);have h2:=ycV x (show (0:Int) < n by omega);exact ⟨(x % (n:Int)).toNat,by omega,by omega⟩
def zaI {α β:Type} {f:α -> β} {xs:List α} {i:Nat} {y:β} (h:(xs.map f)[i]?=some y):∃ x,xs[i]?=some x /\ y=f x:=by
 rw [yan] at h;cases e:xs[i]? with
 | none=>rw [e] at h; cases h
 | some x=>rw [e] at h; cases h; exact ⟨x,rfl,rfl⟩
def zfu (n k:Nat):Builtin.bitAnd ((n:Int) / 2 ^ ((k:Int)).toNat) 1=((n.testBit k).toNat:Int):=by
 rw [yaw];have e:((n:Int) / 2 ^ k)=((n / 2 ^ k:Nat):Int):=by simp
 rw [e];have:=zbh (n / 2 ^ k) 1;rw [ziT] at this;exact this
def zme (n:Nat):(1:Int) * 2 ^ ((n:Int)).toNat - 1=((2 ^ n - 1:Nat):Int):=by
 rw [yaw];have h:1 <= 2 ^ n:=Nat.one_le_two_pow;rw [Int.natCast_sub h];simp
def zlG (m y:Nat):Builtin.bitOr (m:Int) ((1:Int) * 2 ^ ((y:Int)).toNat)=((m ||| 2 ^ y:Nat):Int):=by
 rw [yaw];have e:(1:Int) * 2 ^ y=((2 ^ y:Nat):Int):=by simp
 rw [e,zcR]
def zre (ns:List Int):∃ ms:List Int,cutV (ns.map V.int) none (some 63)=ms.map V.int /\ ms.length <= 63:=by
 refine ⟨(ns.drop (HT.sIx (ns.map V.int).length 0 none)).take (HT.sIx (ns.map V.int).length (ns.map V.int).length (some 63) - HT.sIx (ns.map V.int).length 0 none),?_,?_⟩
 ·unfold cutV;rw [List.map_take,List.map_drop]
 ·rw [yaV];have h:HT.sIx (ns.map V.int).length (ns.map V.int).length (some 63)=min 63 (ns.map V.int).length:=HT.sIx_nat _ _ 63;rw [h];omega
def zoY (z:Int):(if z < 0 then -z else z)=(z.natAbs:Int):=by
 split <;> omega
noncomputable def zmj:Sp:=λ vs H Q _=>∃ n k:Nat,vs=[nV n,nV k] /\ Q (nV (n.testBit k).toNat) H
noncomputable def zjX:Sp:=λ vs H Q _=>∃ n:Nat,vs=[nV n] /\ n < 2 ^ 64 /\ ∀ p H',H p=none -> Same H H' -> H' p=some (.lst ((zad n).map nV)) -> Q (.ref p) H'
noncomputable def zj3 (K:PySem.W.Frag):Sp:=λ vs H Q _=>∃ (a:Addr) (ps:List Nat),vs=[.ref a] /\ SqA K H a (ps.map nV) /\ (∀ p ∈ ps,p < 64) /\ Q (nV (zaP ps)) H
noncomputable def zmT:Sp:=λ vs H Q _=>∃ n:Nat,vs=[nV n] /\ n <= 64 /\ Q (nV (2 ^ n - 1)) H
noncomputable def zj0:Sp:=λ vs H Q _=>∃ n:Nat,vs=[nV n] /\ n < 2 ^ 64 /\ ∀ H',Same H H' -> Q (nV (zad n).length) H'
noncomputable def Hand (H:Hp) (p:Addr):Prop:=∃ (q:Addr) (cells:List Nat) (a b c:Nat),H p=some (.lst [.ref q,nV a,nV b,nV c]) /\ H q=some (.lst (cells.map nV)) /\ cells.length <= 63
def Hand.of {H:Hp} {p q:Addr} {cells:List Nat} {a b c:Nat} (h1:H p=some (.lst [.ref q,nV a,nV b,nV c])) (h2:H q=some (.lst (cells.map nV))) (h3:cells.length <= 63):Hand H p:=⟨q,cells,a,b,c,h1,h2,h3⟩
def Hand.same {H H':Hp} {p:Addr} (h:Hand H p) (s:Same H H'):Hand H' p:=by
 obtain ⟨q,cells,a,b,c,h1,h2,h3⟩:=h;exact ⟨q,cells,a,b,c,s _ _ h1,s _ _ h2,h3⟩
def But.free {H H':Hp} {p l:Addr} (b:But p H H') (hp:Hand H' p) (h:H' l=none):H l=none /\ l ≠ p:=by
 have ne:l ≠ p:=by
  rintro rfl;obtain ⟨q,cells,a,b,c,e1,_⟩:=hp;rw [h] at e1;cases e1
 refine ⟨?_,ne⟩;cases e:H l with
 | none=>rfl
 | some o=>
  rw [b.keep l o ne e] at h;cases h
noncomputable def zn1 (K:PySem.W.Frag):Sp:=λ vs H Q _=>∃ (a:Addr) (ns:List Int),vs=[.ref a] /\ SqL K H a (ns.map V.int) /\ ∀ p H',H p=none -> Same H H' -> Hand H' p -> Q (.ref p) H'
noncomputable def znN:Sp:=λ vs H Q _=>∃ (p:Addr) (n:Nat),vs=[.ref p,nV n] /\ Hand H p /\ 0 < n /\ n < 1073741824 /\ ∀ (r:Nat) (H':Hp),r < n -> But p H H' -> Hand H' p -> Q (nV r) H'
noncomputable def zn7:Sp:=λ vs H Q _=>∃ (p:Addr) (w:Nat),vs=[.ref p,nV w] /\ Hand H p /\ 1 <= w /\ w <= 64 /\ ∀ (r:Nat) (H':Hp),r < 2 ^ w -> But p H H' -> Hand H' p -> Q (nV r) H'
noncomputable def znn (K:PySem.W.Frag):Sp:=λ vs H Q _=>∃ (a:Addr) (ns:List Int),vs=[.ref a] /\ SqL K H a (ns.map V.int) /\ ns.length <= 63 /\ ∀ H',Q (.bl true) H'
noncomputable def Ld (w:Nat) (ls:List Int):Prop:=ls.length=w /\ ∀ e ∈ ls,-2 <= e /\ e < (w:Int)
noncomputable def zaJ (w:Nat):List Int:=(List.range w).map λ (x:Nat)=>(x:Int)
noncomputable def zaA (ls ms:List Int):List Int:=ms.map λ e=>if 0 <= e then ls.getD e.toNat 0 else e
def zgB (w:Nat):((List.range w).map λ (x:Nat)=>V.int (x:Int))=(zaJ w).map V.int:=by
 unfold zaJ;rw [ya6];rfl
def ziP (w:Nat):Ld w (zaJ w):=by
 refine ⟨by simp [zaJ],λ e he=>?_⟩;simp only [zaJ,yaf,yat] at he;obtain ⟨x,hx,rfl⟩:=he;omega
def zmg {w:Nat} {ls ms:List Int} (h1:Ld w ls) (h2:Ld w ms):Ld w (zaA ls ms):=by
 refine ⟨by rw [zaA,yaa]; exact h2.1,λ e he=>?_⟩;simp only [zaA,yaf] at he;obtain ⟨x,hx,rfl⟩:=he;have q:=h2.2 x hx
 split
 ·rename_i h0;have hl : x.toNat < ls.length := by rw [h1.1]; omega
  rw [yac,yab hl];exact h1.2 _ (yaW hl)
 ·exact q
noncomputable def zhp:Sp:=λ vs H Q _=>∃ w:Nat,vs=[nV w] /\ w <= 64 /\ ∀ t H',Same H H' -> H' t=some (.tup ((zaJ w).map V.int)) -> Q (.ref t) H'
noncomputable def znW:Sp:=λ vs H Q _=>∃ (a b:Addr) (ls ms:List Int) (w:Nat),vs=[.ref a,.ref b] /\ H a=some (.tup (ls.map V.int)) /\ H b=some (.tup (ms.map V.int)) /\ Ld w ls /\ Ld w ms /\ w <= 64 /\
 ∀ t H',Same H H' -> H' t=some (.tup ((zaA ls ms).map V.int)) -> Q (.ref t) H'
def Hand.ne {H:Hp} {p l:Addr} (h:Hand H p) (e:H l=none):l ≠ p:=by
 rintro rfl;obtain ⟨q,cells,a,b,c,e1,_⟩:=h;rw [e] at e1;cases e1
def zgh {w:Nat} {ls:List Int} (h:Ld w ls):zaA (zaJ w) ls=ls:=by
 have:∀ e ∈ ls,(if 0 <= e then (zaJ w).getD e.toNat 0 else e)=e:=λ e he=>by
  have q:=h.2 e he;by_cases z:0 <= e
  ·rw [if_pos z,yac,zaJ,yan,yaS (1:)];simp;omega
  ·rw [if_neg z]
 rw [zaA,yaZ this,List.map_id']
def zgr {w:Nat} {ls:List Int} (h:Ld w ls):zaA ls (zaJ w)=ls:=by
 apply ybf;intro i;rw [zaA,zaJ,ya6,yan];by_cases hi:i < w
 ·rw [yaS hi];have hl : i < ls.length := by rw [h.1]; exact hi
  simp [yab hl]
 ·rw [yaI (by rw [yaK]; omega),yaI (by rw [h.1]; omega)];rfl
def zmM {w:Nat} {ls ms:List Int} (h:Ld w ms) {i:Nat} (hi:i < w):(zaA ls ms).getD i 0=(if 0 <= ms.getD i 0 then ls.getD (ms.getD i 0).toNat 0 else ms.getD i 0):=by
 have hl:i < ms.length:=by rw [h.1]; exact hi
 rw [yac,zaA,yan,yac,yab hl];rfl
def zkx {w:Nat} {a b c:List Int} (hb:Ld w b) (hc:Ld w c):zaA (zaA a b) c=zaA a (zaA b c):=by
 rw [show zaA a (zaA b c)=(c.map λ e=>if 0 <= e then b.getD e.toNat 0 else e).map λ e=>if 0 <= e then a.getD e.toNat 0 else e from rfl,ya6];rw [show zaA (zaA a b) c=c.map λ e=>if 0 <= e then (zaA a b).getD e.toNat 0 else e from rfl];apply yaZ;intro e he;have q:=hc.2 e he;by_cases z:0 <= e
 ·show _=(if 0 <= (if 0 <= e then b.getD e.toNat 0 else e) then a.getD (if 0 <= e then b.getD e.toNat 0 else e).toNat 0 else (if 0 <= e then b.getD e.toNat 0 else e));rw [if_pos z,if_pos z,zmM hb (1:)]
 ·show _=(if 0 <= (if 0 <= e then b.getD e.toNat 0 else e) then a.getD (if 0 <= e then b.getD e.toNat 0 else e).toNat 0 else (if 0 <= e then b.getD e.toNat 0 else e));rw [if_neg z,if_neg z,if_neg z]
def zqJ {K:PySem.W.Frag} {a b:Addr} {xs ys:List Int} {H:Hp} {Q:VK} (ha:SqT K H a (xs.map V.int)) (hb:SqT K H b (ys.map V.int)) (h:Q (.bl (!decide (xs=ys))) H):rNeU K (.ref a) (.ref b) H Q:=by
 refine ⟨.tuple (xs.map .int),.tuple (ys.map .int),DatV.tuple ha (DatVs.ints K H xs),DatV.tuple hb (DatVs.ints K H ys),zca _,zca _,?_⟩;rw [show PyData.eqv (.tuple (xs.map .int)) (.tuple (ys.map .int))=decide (xs=ys) by rw [PyData.eqv,zdF]];exact h
def zml {K:PySem.W.Frag} {a b:Addr} {xs ys:List Int} {H:Hp} {Q:VK} (ha:SqT K H a (xs.map V.int)) (hb:SqT K H b (ys.map V.int)) (h:Q (.bl (decide (xs=ys))) H):rEqU K (.ref a) (.ref b) H Q:=by
 refine ⟨.tuple (xs.map .int),.tuple (ys.map .int),DatV.tuple ha (DatVs.ints K H xs),DatV.tuple hb (DatVs.ints K H ys),zca _,zca _,?_⟩;rw [show PyData.eqv (.tuple (xs.map .int)) (.tuple (ys.map .int))=decide (xs=ys) by rw [PyData.eqv,zdF]];exact h
def Hand.neT {H:Hp} {p t:Addr} {xs:List V} (h:Hand H p) (e:H t=some (.tup xs)):t ≠ p:=by
 rintro rfl;obtain ⟨q,cells,a,b,c,e1,_⟩:=h;rw [e] at e1;cases e1
noncomputable def zbf (n m i:Nat):List Nat:=((List.range i).filter n.testBit).map λ j=>(zad m).getD j 0
noncomputable def za0 (n m:Nat):Nat:=zaP (zbf n m (zad m).length)
noncomputable def zlX:Sp:=λ vs H Q _=>∃ n m:Nat,vs=[nV n,nV m] /\ m < 2 ^ 64 /\ ∀ H',Same H H' -> Q (nV (za0 n m)) H'
def zaH {m w:Nat} (h:m < 2 ^ w):(zad m).length <= w:=by
 rw [za7 h];have:=yaU m.testBit (List.range w);rw [yaK] at this;exact this
def zdW {m w x:Nat} (h:m < 2 ^ w) (hx:x ∈ zad m):x < w:=by
 rw [za7 h] at hx;exact yat.mp (yaB.mp hx).1
def zcs {m w j:Nat} (h:m < 2 ^ w) (hj:j < (zad m).length):(zad m).getD j 0 < w:=by
 rw [yac,yab hj];exact zdW h (yaW hj)
def zfd {m i j:Nat} (hij:i < j) (hj:j < (zad m).length):(zad m).getD i 0 < (zad m).getD j 0:=by
 have hp:(zad m).Pairwise (· < ·):=ycJ _ ybW;rw [yac,yab (Nat.lt_trans hij hj),yac,yab hj];exact yba.mp hp i j _ _ hij
def mask_lt {ps:List Nat} {w:Nat} (h:∀ p ∈ ps,p < w):zaP ps < 2 ^ w:=by
 apply ybJ;intro i hi;rw [zay];apply decide_eq_false;intro z;have:=h i z;omega
def zfq (n m i:Nat):zbf n m (i + 1)=zbf n m i ++ (if n.testBit i=true then [(zad m).getD i 0] else []):=by
 show ((List.range (i + 1)).filter n.testBit).map (λ j=>(zad m).getD j 0)=_;rw [yaQ,yaz,yal];show zbf n m i ++ _=_;congr 1;cases hb:n.testBit i <;> simp [hb]
def zhg {n m x w:Nat} (h:m < 2 ^ w) (hx:x ∈ zbf n m (zad m).length):x < w:=by
 simp only [zbf,yaf,yaB,yat] at hx;obtain ⟨j,⟨hj,_⟩,rfl⟩:=hx;exact zcs h hj
def zkW (n m i:Nat):(zbf n m i).length <= i:=by
 rw [zbf,yaa];have:=yaU n.testBit (List.range i);rw [yaK] at this;exact this
def lt64 {m w:Nat} (h:m < 2 ^ w) (hw:w <= 64):m < 2 ^ 64:=yak h (yaL (3:) hw)
def zes {m i j:Nat} (hi:i < (zad m).length) (hj:j < (zad m).length) (e:(zad m).getD i 0=(zad m).getD j 0):i=j:=by
 rcases Nat.lt_trichotomy i j with h | h | h
 ·have:=zfd h hj; omega
 ·exact h
 ·have:=zfd h hi; omega
def zed {m x:Nat}:m.testBit x=true ↔ ∃ j,j < (zad m).length /\ (zad m).getD j 0=x:=by
 rw [<- za2,ybb];constructor
 ·rintro ⟨j,hj,e⟩;exact ⟨j,hj,by rw [yac,yab hj]; exact e⟩
 ·rintro ⟨j,hj,e⟩;exact ⟨j,hj,by rw [yac,yab hj] at e; exact e⟩
def zhE (n m k:Nat):(za0 n m).testBit k=true ↔ ∃ j,j < (zad m).length /\ n.testBit j=true /\ (zad m).getD j 0=k:=by
 rw [za0,zay,decide_eq_true_iff];simp only [zbf,yaf,yaB,yat];constructor
 ·rintro ⟨j,⟨h1,h2⟩,e⟩; exact ⟨j,h1,h2,e⟩
 ·rintro ⟨j,h1,h2,e⟩; exact ⟨j,⟨h1,h2⟩,e⟩
def znv (n m k:Nat) (hk:k < (zad m).length):(za0 n m).testBit ((zad m).getD k 0)=n.testBit k:=by
 apply Bool.eq_iff_iff.mpr;rw [zhE];constructor
 ·rintro ⟨j,h1,h2,e⟩;rw [<- zes h1 hk e]; exact h2
 ·exact λ h=>⟨k,hk,h,rfl⟩
end L2
namespace L2
open PySem PySem.Spec PyProof.Rows
section
variable {X:Cx}
end
def zaD {X:Cx} {x:Str} {j pos} {es:List Expr} {t:TA} (hr:PA X es t):PA X (.Constant (.str x) j pos :: es) (zof (tC (.str x)) t):=zaa zaV hr rfl
noncomputable def zrE (i j:Int):Prop:=0 < j /\ j < 18446744073709551616
def zgM {X:Cx}:OpR X (binaryOp .FloorDiv) (rI zrE λ i j=>.int (i / j)):=opI λ i j _ _ _ _ _ hc q=>by
 have h1:(0:Int) < j:=hc.1;have h2:j < 18446744073709551616:=hc.2;refine floordiv_int (1:) (by rw [Int.fdiv_eq_ediv_of_nonneg i (1:)]; exact q) (.inl (PyProof.noPylong_of_log2 ?_));have h3:j.natAbs < 2 ^ 64:=by omega
 have h4:j.natAbs ≠ 0:=by omega
 have:=(Nat.log2_lt h4).mpr h3;omega
def zoE {K:PySem.W.Frag} {a b:Str} {H:Hp} {Q:VK} (e:(shpd (.str a) && shpd (.str b) && (a == b))=true) (h:Q (.bl true) H):rEqU K (.str a) (.str b) H Q:=by
 rw [yad,yad] at e;refine zgu e.1.1 e.1.2 ?_;rw [e.2];exact h
def zpd {K:PySem.W.Frag} {a b:Str} {H:Hp} {Q:VK} (e:(shpd (.str a) && shpd (.str b) && !(a == b))=true) (h:Q (.bl false) H):rEqU K (.str a) (.str b) H Q:=by
 rw [yad,yad,ybl] at e;refine zgu e.1.1 e.1.2 ?_;rw [e.2];exact h
def zrt {K:PySem.W.Frag} {x:V} {p:Addr} {xs:List V} {H:Hp} {Q:VK} (hq:SqT K H p xs) (e:(zcP x && xs.all zcP && inV x xs)=true) (h:Q (.bl true) H):rIn K false x (.ref p) H Q:=by
 rw [yad,yad] at e;refine ⟨p,xs,rfl,.inr hq,e.1.1,e.1.2,?_⟩;rw [if_neg (3:),e.2];exact h
def zrb {K:PySem.W.Frag} {x:V} {p:Addr} {xs:List V} {H:Hp} {Q:VK} (hq:SqT K H p xs) (e:(zcP x && xs.all zcP && !inV x xs)=true) (h:Q (.bl false) H):rIn K false x (.ref p) H Q:=by
 rw [yad,yad,ybl] at e;refine ⟨p,xs,rfl,.inr hq,e.1.1,e.1.2,?_⟩;rw [if_neg (3:),e.2];exact h
def zqY {K:PySem.W.Frag} {x:V} {p:Addr} {xs:List V} {H:Hp} {Q:VK} (hq:SqT K H p xs) (e:(zcP x && xs.all zcP && inV x xs)=true) (h:Q (.bl false) H):rIn K true x (.ref p) H Q:=by
 rw [yad,yad] at e;refine ⟨p,xs,rfl,.inr hq,e.1.1,e.1.2,?_⟩;rw [if_pos rfl,e.2];exact h
def zpt {K:PySem.W.Frag} {x:V} {p:Addr} {xs:List V} {H:Hp} {Q:VK} (hq:SqT K H p xs) (e:(zcP x && xs.all zcP && !inV x xs)=true) (h:Q (.bl true) H):rIn K true x (.ref p) H Q:=by
 rw [yad,yad,ybl] at e;refine ⟨p,xs,rfl,.inr hq,e.1.1,e.1.2,?_⟩;rw [if_pos rfl,e.2];exact h
def zbe {xs:List V} {H:Hp} {Q:VK} (hz:xs.length <= 100000) (h:∀ p H',H p=none -> Same H H' -> H' p=some (.lst xs) -> Q (.ref p) H'):NewL xs H Q:=⟨yaE (small5 hz),λ p hp=>h p _ hp (zal hp) zah⟩
def zaq {xs:List V} {H:Hp} {Q:VK} (hz:xs.length <= 100000) (h:∀ p H',H p=none -> Same H H' -> H' p=some (.tup xs) -> Q (.ref p) H'):NewT xs H Q:=⟨yaE (small5 hz),λ p hp=>h p _ hp (zal hp) zah⟩
open Bm
inductive Dd where
 | and (m:Nat) | or (m:Nat) | left (n:Nat) | right (n:Nat) | turn (n:Nat) | gather (m:Nat) | strew (m:Nat) | swap (m n:Nat) | copy (m:Nat) (n:Int)
 deriving DecidableEq
noncomputable def Dd.vals:Dd -> List V
 | .and m=>[.str "and",nV m]
 | .or m=>[.str "or",nV m]
 | .left n=>[.str "left",nV n]
 | .right n=>[.str "right",nV n]
 | .turn n=>[.str "turn",nV n]
 | .gather m=>[.str "gather",nV m]
 | .strew m=>[.str "strew",nV m]
 | .swap m n=>[.str "swap",nV m,nV n]
 | .copy m n=>[.str "copy",nV m,.int n]
noncomputable def inM (m:Nat) (z:Int):Bool:=decide (0 <= z) && m.testBit z.toNat
noncomputable def Dd.ok (w:Nat):Dd -> Prop
 | .and m=>m < 2 ^ w
 | .or m=>m < 2 ^ w
 | .left n=>n <= w
 | .right n=>n <= w
 | .turn n=>n < w
 | .gather m=>m < 2 ^ w
 | .strew m=>m < 2 ^ w
 | .swap m n=>1 <= n /\ n < w /\ ∀ p,m.testBit p=true -> p + n < w /\ m.testBit (p + n)=false
 | .copy m n=>n ≠ 0 /\ -(w:Int) < n /\ n < w /\ m < 2 ^ w /\ ∀ p,m.testBit p=true -> 0 <= (p:Int) + n /\ (p:Int) + n < w
noncomputable def Dd.src (w:Nat) (p:Nat):Dd -> Int
 | .and m=>if m.testBit p then (p:Int) else -1
 | .or m=>if m.testBit p then -2 else (p:Int)
 | .left n=>if n <= p then (p:Int) - n else -1
 | .right n=>if p + n < w then (p:Int) + n else -1
 | .turn n=>if n <= p then (p:Int) - n else (p:Int) - n + w
 | .gather m=>if p < (zad m).length then ((zad m).getD p 0:Int) else -1
 | .strew m=>if m.testBit p then ((zad m).idxOf p:Int) else -1
 | .swap m n=>if inM m ((p:Int) - n) then (p:Int) - n else if m.testBit p then (p:Int) + n else p
 | .copy m n=>if inM m ((p:Int) - n) then (p:Int) - n else p
noncomputable def Dd.led (w:Nat) (d:Dd):List Int:=(List.range w).map λ p=>d.src w p
def zkQ (m k:Nat):inM m (k:Int)=m.testBit k:=by
 unfold inM; simp
def zhl {x w i:Nat} (h:x < 2 ^ w) (hi:w <= i):x.testBit i=false:=ycr (yak h (yaL (3:) hi))
def zaW {m p:Nat} (h:m.testBit p=true):(zad m).idxOf p < (zad m).length /\ (zad m).getD ((zad m).idxOf p) 0=p:=by
 have hm:p ∈ zad m:=za2.mpr h;have hl:=List.idxOf_lt_length_iff.mpr hm;refine ⟨hl,?_⟩;rw [yac,yab hl];exact List.getElem_idxOf hl
def Dd.src_ld {w:Nat} {d:Dd} (h:d.ok w) {p:Nat} (hp:p < w):-2 <= d.src w p /\ d.src w p < (w:Int):=by
 cases d with
 | and m=>simp only [Dd.src]; split <;> omega
 | or m=>simp only [Dd.src]; split <;> omega
 | left n=>simp only [Dd.src]; split <;> omega
 | right n=>simp only [Dd.src]; split <;> omega
 | turn n=>simp only [Dd.src,Dd.ok] at h ⊢; split <;> omega
 | gather m=>
  simp only [Dd.src,Dd.ok] at h ⊢
  split
  ·rename_i k; have:=zcs h k; omega
  ·omega
 | strew m=>
  simp only [Dd.src,Dd.ok] at h ⊢
  split
  ·rename_i k; have:=(zaW k).1; have:=zaH h; omega
  ·omega
 | swap m n=>
  simp only [Dd.src,Dd.ok] at h ⊢
  split
  ·rename_i k; simp only [inM,yad,decide_eq_true_iff] at k; omega
  ·split
   ·rename_i k; have:=(h.2.2 p k).1; omega
   ·omega
 | copy m n=>
  simp only [Dd.src,Dd.ok] at h ⊢
  split
  ·rename_i k;simp only [inM, yad, decide_eq_true_iff] at k
   have:((p:Int) - n).toNat < w:=by
    by_cases z:((p:Int) - n).toNat < w
    ·exact z
    ·rw [zhl h.2.2.2.1 (1:)] at k; exact absurd k.2 yaD
   omega
  ·omega
def Dd.led_ld {w:Nat} {d:Dd} (h:d.ok w):Ld w (d.led w):=by
 refine ⟨by simp [Dd.led],λ e he=>?_⟩;simp only [Dd.led,yaf,yat] at he;obtain ⟨p,hp,rfl⟩:=he;exact d.src_ld h hp
def zo6 (x n:Nat):(x:Int) * 2 ^ ((n:Int)).toNat=((x * 2 ^ n:Nat):Int):=by rw [yaw]; simp
def zm0 {lo hi q:Nat} (h:lo <= hi):(2 ^ hi - 2 ^ lo).testBit q=(decide (lo <= q) && decide (q < hi)):=by
 obtain ⟨d,rfl⟩:∃ d,hi=lo + d:=⟨hi - lo,by omega⟩
 have e:2 ^ (lo + d) - 2 ^ lo=(2 ^ d - 1) * 2 ^ lo:=by
  rw [Nat.pow_add,Nat.sub_mul,Nat.one_mul,ycT]
 rw [e,yck,Nat.testBit_two_pow_sub_one];by_cases h1:lo <= q
 ·have:decide (q - lo < d)=decide (q < lo + d):=decide_eq_decide.mpr (1:);simp [h1,this]
 ·simp [h1]
noncomputable def zgw:Sp:=λ vs H Q _=>∃ (p:Addr) (w n:Nat),vs=[.ref p,nV w,nV n] /\ Hand H p /\ 1 <= n /\ n < w /\ w <= 64 /\ ∀ (m:Nat) (H':Hp),(Dd.swap m n).ok w -> But p H H' -> Hand H' p -> Q (nV m) H'
noncomputable def zgl:Sp:=λ vs H Q _=>∃ (p:Addr) (w:Nat) (n:Int),vs=[.ref p,nV w,.int n] /\ Hand H p /\ n ≠ 0 /\ -(w:Int) < n /\ n < w /\ w <= 64 /\ ∀ (m:Nat) (H':Hp),(Dd.copy m n).ok w -> But p H H' -> Hand H' p -> Q (nV m) H'
noncomputable def znR:Sp:=λ vs H Q _=>∃ (p:Addr) (w:Nat),vs=[.ref p,nV w] /\ Hand H p /\ 1 <= w /\ w <= 64 /\ ∀ (t:Addr) (d:Dd) (H':Hp),d.ok w -> But p H H' -> Hand H' p -> H' t=some (.tup d.vals) -> Q (.ref t) H'
noncomputable def Dd.mask:Dd -> Nat
 | .and m=>m | .or m=>m | .left _=>0 | .right _=>0 | .turn _=>0 | .gather m=>m | .strew m=>m | .swap m _=>m | .copy m _=>m
def Dd.mask_lt {w:Nat} {d:Dd} (h:d.ok w):d.mask < 2 ^ w:=by
 cases d with
 | and m=>exact h
 | or m=>exact h
 | left n=>exact ybz w
 | right n=>exact ybz w
 | turn n=>exact ybz w
 | gather m=>exact h
 | strew m=>exact h
 | swap m n=>
  apply ybJ;intro i hi;show m.testBit i=false;cases z:m.testBit i
  ·rfl
  ·have:=(h.2.2 i z).1; omega
 | copy m n=>exact h.2.2.2.1
def zlQ {K:PySem.W.Frag} {a:Addr} {xs:List V} {g:TG} {tb:TS} {D:Ends} {σ:St} {H:Hp} (Pv:Nat -> St -> Hp -> Prop) (h0:Pv 0 σ H) (hl:∀ i σ H,Pv i σ H -> SqL K H a xs)
  (hs:∀ i u T σ H,xs[i]?=some u -> H T=none -> Pv i σ H -> g (.ref T) σ (upd H T (.tup [.int (i:Int),u])) λ σ2 H2=>tb { D with nx:=Pv (i + 1),ct:=Pv (i + 1),bk:=D.nx } σ2 H2) (hd:∀ σ H,Pv xs.length σ H -> D.nx σ H) :
  ForW (IteL K a xs) g tb D σ H:=by
 refine ⟨λ i m σ H=>m=xs.length - i /\ i <= xs.length /\ Pv i σ H,⟨xs.length,by simp,yaY _,h0⟩,?_⟩;rintro i m σ H ⟨rfl,hi,p⟩;by_cases hlt:i < xs.length
 ·refine .inr ⟨⟨hlt,hl i σ H p⟩,Pv (i + 1),λ σ' H' p'=>⟨xs.length - (i + 1),by omega,rfl,hlt,p'⟩,λ x H' y=>?_⟩;obtain ⟨T,u,rfl,hT,rfl,hu⟩:=y;exact hs i u T σ H hu hT p
 ·have e : i = xs.length := by omega
  subst e;exact .inl ⟨⟨rfl,hl _ σ H p⟩,hd σ H p⟩
def znH {K:PySem.W.Frag} {a:Addr} {x:V} {k:Int} {n:Nat} {H:Hp} {Q:VK} (ha:H a=some (.lst [x])) (e:k=(n:Int)) (h2:n <= 100000) (h:∀ t H',H t=none -> Same H H' -> H' t=some (.lst (List.replicate n x)) -> Q (.ref t) H'):zoT K (.ref a) (.int k) H Q:=by
 subst e;refine .inl (.inr ⟨a,_,_,rfl,rfl,ha,by omega,by omega,?_,λ p hp=>?_⟩)
 ·rw [yaw];show 1 * n <= sizeLine;rw [Nat.one_mul];exact yaE (small5 h2)
 ·have e:(List.replicate ((n:Int)).toNat [x]).flatten=List.replicate n x:=by
   rw [yaw];clear h2 h
   induction n with
   | zero=>rfl
   | succ n ih=>rw [ybu,yb2,ih,ybu]; rfl
  rw [e];exact h p _ hp (zal hp) zah
def zjy {K:PySem.W.Frag} {a b:Addr} {xs ys:List V} {H:Hp} {Q:VK} (ha:H a=some (.lst xs)) (hb:H b=some (.lst ys)) (hz:xs.length + ys.length <= 100000) (h:∀ t H',H t=none -> Same H H' -> H' t=some (.lst (xs ++ ys)) -> Q (.ref t) H'):znA K (.ref a) (.ref b) H Q:=
 .inr (.inl ⟨a,b,_,_,rfl,rfl,ha,hb,yaE (small5 hz),λ p hp=>h p _ hp (zal hp) zah⟩)
def zqO {p:Addr} {xs:List V} {j:Nat} {v:V} {H:Hp} {K:Hp -> Prop} (hp:H p=some (.lst xs)) (hj:j < xs.length) (h:K (upd H p (.lst (xs.set j v)))):zoA (.ref p) (.int (j:Int)) v H K:=
 zpu hp (by unfold ixN; rw [if_pos (1:),if_pos (1:)]; simp) h
def zgF {K:PySem.W.Frag} {a:Addr} {xs:List V} {H:Hp} {Q:VK} (ha:H a=some (.lst xs)) (h:∀ t H',H t=none -> Same H H' -> H' t=some (.tup xs) -> Q (.ref t) H'):zmx K [.ref a] H Q:=
 ⟨a,xs,rfl,.inl ⟨SqL.of ha,λ t ht=>h t _ ht (zal ht) zah⟩⟩
def znx (xs:List V) (k:Nat) (h:k <= xs.length):cutV xs none (some (k:Int))=xs.take k:=by
 unfold cutV;rw [HT.sIx_nat];show (xs.drop 0).take (min k xs.length - 0)=_;rw [List.drop_zero,Nat.sub_zero,ybZ h]
noncomputable def pon (w:Nat) (z:Int):Int:=if 0 <= z /\ z <= (w:Int) - 1 then z else -1
noncomputable def zp3:Sp:=λ vs H Q _=>∃ (w:Nat) (z:Int),vs=[nV w,.int z] /\ Q (.int (pon w z)) H
noncomputable def zg5:Sp:=λ vs H Q _=>∃ (m:Nat) (n:Int) (p:Nat),vs=[nV m,.int n,nV p] /\ Q (.int (if inM m ((p:Int) - n) then (p:Int) - n else p)) H
noncomputable def Dd.flat:Dd -> Bool
 | .gather _=>false
 | .strew _=>false
 | _=>true
noncomputable def zjd:Sp:=λ vs H Q _=>∃ (w p:Nat) (a:Addr) (d:Dd),vs=[nV w,.ref a,nV p] /\ H a=some (.tup d.vals) /\ d.ok w /\ d.flat=true /\ p < w /\ w <= 64 /\ Q (.int (d.src w p)) H
noncomputable def zjM:Sp:=λ vs H Q _=>∃ (w m:Nat),vs=[nV w,nV m] /\ m < 2 ^ w /\ w <= 64 /\ ∀ t H',Same H H' -> H' t=some (.tup (((Dd.gather m).led w).map V.int)) -> Q (.ref t) H'
noncomputable def zii:Sp:=λ vs H Q _=>∃ (w m:Nat),vs=[nV w,nV m] /\ m < 2 ^ w /\ w <= 64 /\ ∀ t H',Same H H' -> H' t=some (.tup (((Dd.strew m).led w).map V.int)) -> Q (.ref t) H'
noncomputable def zjV:Sp:=λ vs H Q _=>∃ (w:Nat) (a:Addr) (d:Dd),vs=[nV w,.ref a] /\ H a=some (.tup d.vals) /\ d.ok w /\ w <= 64 /\ ∀ t H',Same H H' -> H' t=some (.tup ((d.led w).map V.int)) -> Q (.ref t) H'
def zkv {m w:Nat} (h:m < 2 ^ w):((Dd.gather m).led w).map V.int=(zad m).map nV ++ (List.replicate (w - (zad m).length) (V.int (-1))):=by
 have hl:=zaH h;apply ybf;intro i;rw [Dd.led,ya6,yan];by_cases hi:i < w
 ·rw [yaS hi];show some (V.int ((Dd.gather m).src w i)) = _;simp only [Dd.src];by_cases hp : i < (zad m).length
  ·rw [if_pos hp,yaO (by rw [yaa]; exact hp),yan,yab hp,yac,yab hp];rfl
  ·rw [if_neg hp,yaT (by rw [yaa]; omega),ybB,yaa,if_pos (1:)]
 ·rw [yaI (by rw [yaK]; omega),yaI (by rw [yam,yaa,ycA]; omega)];rfl
noncomputable def zbQ (w m i:Nat):List Int:=(List.range w).map λ p=>if (zad m).idxOf p < i /\ m.testBit p=true then ((zad m).idxOf p:Int) else -1
def zi3 (w m:Nat):zbQ w m 0=List.replicate w (-1):=by
 rw [zbQ,yaZ (g:=λ _=>(-1:Int)) (λ p _=>by rw [if_neg (1:)])];rw [List.map_const',yaK]
def ziO {w m i y:Nat} (h:m < 2 ^ w) (hi:(zad m)[i]?=some y):(zbQ w m i).set y (i:Int)=zbQ w m (i + 1):=by
 have hil:i < (zad m).length:=(yaj.mp hi).1;have eg:(zad m).getD i 0=y:=by rw [yac,hi]; rfl
 have hy:m.testBit y=true:=zed.mpr ⟨i,hil,eg⟩;have hyw:y < w:=zdW h (za2.mpr hy)
 have ei:(zad m).idxOf y=i:=by
  obtain ⟨h1,h2⟩:=zaW hy;exact zes h1 hil (h2.trans eg.symm)
 apply ybf;intro p;rw [List.getElem?_set];by_cases e:y=p
 ·subst e;rw [if_pos rfl,if_pos (by simp [zbQ]; exact hyw),zbQ,yan,yaS hyw];show some (i:Int)=some (if (zad m).idxOf y < i + 1 /\ m.testBit y=true then ((zad m).idxOf y:Int) else -1);rw [if_pos ⟨by omega,hy⟩,ei]
 ·rw [if_neg e, zbQ, zbQ, yan, yan];by_cases hp : p < w
  ·rw [yaS hp];show some (if (zad m).idxOf p < i /\ m.testBit p = true then ((zad m).idxOf p : Int) else -1) = some (if (zad m).idxOf p < i + 1 /\ m.testBit p = true then ((zad m).idxOf p : Int) else -1)
   have:((zad m).idxOf p < i /\ m.testBit p=true) ↔ ((zad m).idxOf p < i + 1 /\ m.testBit p=true):=by
    constructor
    ·exact λ ⟨a,b⟩=>⟨by omega,b⟩
    ·rintro ⟨a, b⟩;refine ⟨?_, b⟩
     have:(zad m).idxOf p ≠ i:=λ z=>by
      have:=(zaW b).2;rw [z,eg] at this;exact e this
     omega
   by_cases c:(zad m).idxOf p < i /\ m.testBit p=true
   ·rw [if_pos c,if_pos (this.mp c)]
   ·rw [if_neg c,if_neg (λ z=>c (this.mpr z))]
  ·rw [yaI (by rw [yaK]; omega)];rfl
def zkb {w m:Nat}:zbQ w m (zad m).length=(Dd.strew m).led w:=by
 rw [zbQ,Dd.led];apply yaZ;intro p hp;simp only [Dd.src];by_cases c:m.testBit p=true
 ·rw [if_pos c,if_pos ⟨(zaW c).1,c⟩]
 ·rw [if_neg c,if_neg (λ z=>c z.2)]
def zkp (w m i:Nat):(zbQ w m i).length=w:=by simp [zbQ]
noncomputable def rowV (L:List (Addr × Dd)):List V:=L.map λ q=>V.ref q.1
noncomputable def Rw (H:Hp) (w:Nat) (L:List (Addr × Dd)):Prop:=∀ q ∈ L,H q.1=some (.tup q.2.vals) /\ q.2.ok w
def Rw.same {H H':Hp} {w:Nat} {L:List (Addr × Dd)} (h:Rw H w L) (s:Same H H'):Rw H' w L:=λ q hq=>⟨s _ _ (h q hq).1,(h q hq).2⟩
def Rw.but {H H':Hp} {p:Addr} {w:Nat} {L:List (Addr × Dd)} (h:Rw H w L) (hh:Hand H p) (b:But p H H'):Rw H' w L:=λ q hq=>⟨b.keep _ _ (hh.neT (h q hq).1) (h q hq).1,(h q hq).2⟩
noncomputable def dds (L:List (Addr × Dd)):List Dd:=L.map λ q=>q.2
noncomputable def rowL (w:Nat) (ds:List Dd):List Int:=ds.foldl (λ l d=>zaA l (d.led w)) (zaJ w)
def zim {w:Nat}:∀ (ds:List Dd) (l:List Int),(∀ d ∈ ds,d.ok w) -> Ld w l -> Ld w (ds.foldl (λ l d=>zaA l (d.led w)) l)
 | [],_,_,h=>h
 | d :: ds,l,hd,h=>zim ds _ (λ e he=>hd e (.tail _ he)) (zmg h (d.led_ld (hd d (.head _))))
def zif {w:Nat} {ds:List Dd} (h:∀ d ∈ ds,d.ok w):Ld w (rowL w ds):=zim ds _ h (ziP w)
def Rw.app {H:Hp} {w:Nat} {L M:List (Addr × Dd)} (h:Rw H w L) (h':Rw H w M):Rw H w (L ++ M):=λ q hq=>(yas.mp hq).elim (h q) (h' q)
def Rw.take {H:Hp} {w:Nat} {L:List (Addr × Dd)} (h:Rw H w L) (k:Nat):Rw H w (L.take k):=λ q hq=>h q (ybM hq)
def za6 {A B:Prop} {c:Bool} (e:c=false) (h:B):if c=true then A else B:=by subst e; exact iteF h
def zbc {A B:Prop} {c:Bool} (e:c=true) (h:A):if c=true then A else B:=by subst e; exact iteT h
def Rw.ok {H:Hp} {w:Nat} {L:List (Addr × Dd)} (h:Rw H w L):∀ d ∈ dds L,d.ok w:=λ d hd=>by
 obtain ⟨q,hq,rfl⟩:=yaf.mp hd;exact (h q hq).2
noncomputable def zmd (K:PySem.W.Frag):Sp:=λ vs H Q _=>∃ (w:Nat) (a:Addr) (L:List (Addr × Dd)),vs=[nV w,.ref a] /\ SqA K H a (rowV L) /\ Rw H w L /\ w <= 64 /\ ∀ t H',Same H H' -> H' t=some (.tup ((rowL w (dds L)).map V.int)) -> Q (.ref t) H'
noncomputable def zjN:Sp:=λ vs H Q _=>∃ (p:Addr) (w:Nat),vs=[.ref p,nV w] /\ Hand H p /\ 1 <= w /\ w <= 64 /\ ∀ (l:Addr) (L:List (Addr × Dd)) (H':Hp),L.length <= 20 -> Rw H' w L -> H l=none -> But p H H' -> Hand H' p -> H' l=some (.lst (rowV L)) -> Q (.ref l) H'
noncomputable def ziv (ls:List Int):List Nat:=(ls.filter λ e=>decide (0 <= e)).map Int.toNat
noncomputable def zeu (ls:List Int):Nat:=zaP (ziv ls)
def zlf (ls:List Int):(ls.filter λ e=>decide (0 <= e)).map V.int=(ziv ls).map nV:=by
 rw [ziv,ya6];apply yaZ;intro e he;have:=(yaB.mp he).2;rw [decide_eq_true_iff] at this;show V.int e=V.int ((e.toNat:Nat):Int);rw [ybk this]
def zmQ (ls:List Int) (p:Nat):(zeu ls).testBit p=decide ((p:Int) ∈ ls):=by
 rw [zeu,zay];apply decide_eq_decide.mpr;simp only [ziv,yaf,yaB,decide_eq_true_iff];constructor
 ·rintro ⟨e,⟨h1,h2⟩,rfl⟩;rw [ybk h2]; exact h1
 ·exact λ h=>⟨p,⟨h,by omega⟩,by omega⟩
noncomputable def zn8:Sp:=λ vs H Q _=>∃ (a:Addr) (ls:List Int) (w:Nat),vs=[.ref a] /\ H a=some (.tup (ls.map V.int)) /\ Ld w ls /\ w <= 64 /\ ∀ H',Same H H' -> Q (nV (zeu ls)) H'
def zqi {K:PySem.W.Frag} {i j:Bool} {H:Hp} {Q:VK} (h:Q (.bl (!(i == j))) H):rNeU K (.bl i) (.bl j) H Q:=⟨.bool i,.bool j,.bool K H i,.bool K H j,rfl,rfl,h⟩
def zoG {K:PySem.W.Frag} {a b:Addr} {xs ys:List V} {H:Hp} {Q:VK} (ha:H a=some (.lst xs)) (hb:H b=some (.lst ys)) (hz:xs.length + ys.length <= 100000) (h:Q .non (upd H a (.lst (xs ++ ys)))):zlt (.ref a) [.ref b] H Q:=⟨a,b,xs,ys,rfl,rfl,ha,hb,yaE (small5 hz),h⟩
def zdc {K:PySem.W.Frag} {a:Addr} {xs:List V} {g:TG} {tb:TS} {D:Ends} {σ:St} {H:Hp} (Pv:Nat -> St -> Hp -> Prop) (h0:Pv 0 σ H) (hl:∀ i σ H',Pv i σ H' -> SqL K H' a xs)
  (step:∀ i x σ H',xs[i]?=some x -> Pv i σ H' -> g x σ H' λ σ2 H2=>tb { D with nx:=Pv (i + 1),ct:=Pv (i + 1),bk:=D.nx } σ2 H2) (done:∀ σ H',Pv xs.length σ H' -> D.nx σ H') :
  ∃ b,V.ref a=.ref b /\ (((∃ xs,SqL K H b xs) /\ ForW (Itl K b) g tb D σ H) \/ ((∃ xs,SqT K H b xs) /\ ForW (Itt K b) g tb D σ H)):=
 ⟨a,rfl,.inl ⟨⟨xs,hl 0 σ H h0⟩,zjL Pv h0 (λ i σ H' _ p=>hl i σ H' p) step done⟩⟩
noncomputable def zhC:Sp:=λ vs H Q _=>∃ (w:Nat) (a:Addr) (d:Dd),vs=[nV w,.ref a] /\ H a=some (.tup d.vals) /\ d.ok w /\ w <= 64 /\ ∀ H',Same H H' -> Q (.bl (decide (d.led w=zaJ w))) H'
def zru {t:TT} {ta tb:TE} {σ:St} {H:Hp} {Q:VK} (P:V -> Hp -> Prop)
  (h:∀ Q':VK,(∀ v H2,P v H2 -> Q' v H2) -> t σ H λ c H1=>if c=true then ta σ H1 Q' else tb σ H1 Q') (hq:∀ v H2,P v H2 -> Q v H2):tIf t ta tb σ H Q:=h Q hq
def zlA {K:PySem.W.Frag} {p:Addr} {xs:List V} {v:V} {H:Hp} {Q:VK} (hq:SqL K H p xs) (e:xs[xs.length - 1]?=some v) (h:Q v H):rIx K (.ref p) (.int (-1)) H Q:=by
 have hl:xs.length - 1 < xs.length:=(yaj.mp e).1
 have e':atI xs (-1)=some v:=by
  unfold atI ixN;rw [if_neg (3:),if_pos (1:),show ((-1:Int) + (xs.length:Int)).toNat=xs.length - 1 by omega];exact e
 exact .inl ⟨p,xs,-1,v,rfl,rfl,hq,e',h⟩
section
variable {X:Cx} {K:PySem.W.Frag}
end
noncomputable def SqIt:Bool -> Heap -> Addr -> Addr -> Nat -> Prop
 | true,h,it,l,i=>h.IsListIter it l i
 | false,h,it,l,i=>h.IsTupleIter it l i
noncomputable def SqOb:Bool -> Heap -> Addr -> Array Value -> Prop
 | true,h,l,xs=>h.IsList l xs
 | false,h,l,xs=>h.IsTuple l xs
section
variable {prog:Program} {w:World} {A:Around} {E:Value -> Shared -> Prop} {s:Shared}
variable {z TI TO i1 i2:Addr} {f1 f2:List Addr} {n1 n2 k:Nat} {P1 P2:Nat -> Value -> Prop} {S1 S2:Nat -> Heap -> Prop} {a b:Value}
end
section
variable {prog:Program} {w:World} {A:Around} {E:Value -> Shared -> Prop} {s:Shared}
end
noncomputable def SqB:Bool -> PySem.W.Frag -> Hp -> Addr -> List V -> Prop
 | true,K,H,a,xs=>SqL K H a xs
 | false,K,H,a,xs=>SqT K H a xs
inductive Alike (H:Hp):Nat -> V -> V -> Prop where
 | non (n:Nat):Alike H n .non .non
 | bl (n:Nat) (b:Bool):Alike H n (.bl b) (.bl b)
 | int (n:Nat) (i:Int):Alike H n (.int i) (.int i)
 | str (n:Nat) (s:Str) (h:shpd (.str s)=true):Alike H n (.str s) (.str s)
 | lst {n:Nat} {a b:Addr} {xs ys:List V} (ha:H a=some (.lst xs)) (hb:H b=some (.lst ys)) (hl:xs.length=ys.length) (hz:xs.length <= 10000) (hi:∀ (i:Nat) (x y:V),xs[i]?=some x -> ys[i]?=some y -> Alike H n x y):Alike H (n + 1) (.ref a) (.ref b)
 | tup {n:Nat} {a b:Addr} {xs ys:List V} (ha:H a=some (.tup xs)) (hb:H b=some (.tup ys)) (hl:xs.length=ys.length) (hz:xs.length <= 10000) (hi:∀ (i:Nat) (x y:V),xs[i]?=some x -> ys[i]?=some y -> Alike H n x y):Alike H (n + 1) (.ref a) (.ref b)
section
variable {K:PySem.W.Frag} {H:Hp} {Q:VK}
end
noncomputable def zc1 (w m:Nat) (n:Int):Bool:=(zad m).all λ (p:Nat)=>decide ((0:Int) <= (p:Int) + n) && decide ((p:Int) + n <= (w:Int) - 1)
def zek {w m:Nat} {n:Int}:zc1 w m n=true ↔ ∀ p,m.testBit p=true -> 0 <= (p:Int) + n /\ (p:Int) + n < w:=by
 unfold zc1;rw [ya1];constructor
 ·intro h p hp;have:=h p (za2.mpr hp);simp only [yad,decide_eq_true_iff] at this;omega
 ·intro h p hp;have:=h p (za2.mp hp);simp only [yad,decide_eq_true_iff];omega
def zfl {m n:Nat}:(m &&& m * 2 ^ n)=0 ↔ ∀ p,m.testBit p=true -> m.testBit (p + n)=false:=by
 constructor
 ·intro h p hp;have : (m &&& m * 2 ^ n).testBit (p + n) = false := by rw [h, Nat.zero_testBit]
  rw [ycQ,yck,ycl,hp,decide_eq_true (Nat.le_add_left n p)] at this;simpa using this
 ·intro h;apply ybN;intro i;rw [Nat.zero_testBit, ycQ, yck];by_cases c : n <= i
  ·cases z : m.testBit (i - n)
   ·simp
   ·have:=h _ z;rw [show i - n + n=i by omega] at this;rw [this]; rfl
  ·simp [c]
noncomputable def znY:Sp:=λ vs H Q _=>∃ (w m:Nat) (n:Int),vs=[nV w,nV m,.int n] /\ m < 2 ^ 64 /\ ∀ H',Same H H' -> Q (.bl (zc1 w m n)) H'
noncomputable def zmy:Sp:=λ vs H Q _=>∃ (w m n:Nat),vs=[nV w,nV m,nV n] /\ m < 2 ^ 64 /\ n < 64 /\ ∀ H',Same H H' -> Q (.bl (zc1 w m n && decide ((m &&& m * 2 ^ n)=0))) H'
section
variable {K:PySem.W.Frag} {H:Hp} {Q:VK} {x y:V} {d:PyData}
end
noncomputable def Dd.dat:Dd -> PyData
 | .and m=>.tuple [.str "and",.int m]
 | .or m=>.tuple [.str "or",.int m]
 | .left n=>.tuple [.str "left",.int n]
 | .right n=>.tuple [.str "right",.int n]
 | .turn n=>.tuple [.str "turn",.int n]
 | .gather m=>.tuple [.str "gather",.int m]
 | .strew m=>.tuple [.str "strew",.int m]
 | .swap m n=>.tuple [.str "swap",.int m,.int n]
 | .copy m n=>.tuple [.str "copy",.int m,.int n]
def zrx {K:PySem.W.Frag} {H:Hp} {a:Addr} {s:Str} {i:Int} (h:H a=some (.tup [.str s,.int i])):DatV K H (.tuple [.str s,.int i]) (.ref a):=DatV.tuple (SqT.of h) (.cons (.str K H s) (.cons (.int K H i) .nil))
def zqb {K:PySem.W.Frag} {H:Hp} {a:Addr} {s:Str} {i j:Int} (h:H a=some (.tup [.str s,.int i,.int j])):DatV K H (.tuple [.str s,.int i,.int j]) (.ref a):=DatV.tuple (SqT.of h) (.cons (.str K H s) (.cons (.int K H i) (.cons (.int K H j) .nil)))
def Dd.datv {K:PySem.W.Frag} {H:Hp} {a:Addr} {d:Dd} (h:H a=some (.tup d.vals)):DatV K H d.dat (.ref a):=by
 cases d
 case swap m n=>exact zqb h
 case copy m n=>exact zqb h
 all_goals exact zrx h
def Dd.dat_ok (d:Dd):d.dat.canLay0=true /\ d.dat.depth <= 1:=by
 cases d <;> (simp only [Dd.dat,PyData.canLay0,PyData.canLayAll0,PyData.depth,PyData.depthAll]; exact ⟨by decide +kernel,by decide⟩)
def zkN:∀ ds:List Dd,PyData.canLayAll0 (ds.map Dd.dat)=true /\ PyData.depthAll (ds.map Dd.dat) <= 1
 | []=>by simp [PyData.canLayAll0,PyData.depthAll]
 | d :: ds=>by
  have h:=zkN ds;have k:=d.dat_ok;rw [yaP,PyData.canLayAll0,PyData.depthAll,h.1,k.1];exact ⟨rfl,by omega⟩
def zij (ds:List Dd):shpd (.list (ds.map Dd.dat))=true:=by
 have h:=zkN ds;show (PyData.canLay0 (.list (ds.map Dd.dat)) && decide (PyData.depth (.list (ds.map Dd.dat)) <= 64))=true;rw [PyData.canLay0,PyData.depth,h.1,decide_eq_true (1:)];rfl
def zhH {K:PySem.W.Frag} {H:Hp}:∀ {L:List (Addr × Dd)},(∀ q ∈ L,H q.1=some (.tup q.2.vals)) -> DatVs K H ((dds L).map Dd.dat) (rowV L)
 | [],_=>.nil
 | q :: L,h=>.cons (Dd.datv (h q (.head _))) (zhH λ r hr=>h r (.tail _ hr))
def zlo {K:PySem.W.Frag} {H:Hp} {w:Nat} {a:Addr} {L:List (Addr × Dd)} (h:H a=some (.lst (rowV L))) (hR:Rw H w L):DatV K H (.list ((dds L).map Dd.dat)) (.ref a):=DatV.list (SqL.of h) (zhH λ q hq=>(hR q hq).1)
def SqT.keepAt {K:PySem.W.Frag} {H H':Hp} {a:Addr} {xs:List V} (h:SqT K H a xs) (k:∀ o,H a=some o -> H' a=some o):SqT K H' a xs:=by
 rcases h with (h | ⟨o,h⟩) | h
 ·exact .inl (.inl (k _ h))
 ·exact .inl (.inr ⟨o,k _ h⟩)
 ·exact .inr h
def SqL.keepAt {K:PySem.W.Frag} {H H':Hp} {a:Addr} {xs:List V} (h:SqL K H a xs) (k:∀ o,H a=some o -> H' a=some o):SqL K H' a xs:=by
 rcases h with (h | ⟨o,h⟩) | h
 ·exact .inl (.inl (k _ h))
 ·exact .inl (.inr ⟨o,k _ h⟩)
 ·exact .inr h
noncomputable def SqH (H:Hp) (a:Addr) (xs:List V):Prop:=H a=some (.lst xs) \/ H a=some (.tup xs)
def SqH.same {H H':Hp} {a:Addr} {xs:List V} (h:SqH H a xs) (s:Same H H'):SqH H' a xs:=h.elim (λ z=>.inl (s _ _ z)) (λ z=>.inr (s _ _ z))
def SqH.sqA {K:PySem.W.Frag} {H:Hp} {a:Addr} {xs:List V} (h:SqH H a xs):SqL K H a xs \/ SqT K H a xs:=h.elim (λ z=>.inl (SqL.of z)) (λ z=>.inr (SqT.of z))
def SqH.obj {H:Hp} {a:Addr} {xs:List V} (h:SqH H a xs):∃ o,H a=some o:=h.elim (λ z=>⟨_,z⟩) (λ z=>⟨_,z⟩)
end L2
namespace Bm
end Bm
namespace L2
open PySem PySem.Spec PyProof.Rows Bm
section
variable {X:Cx} {K:PySem.W.Frag}
variable {a b:Expr} {ta:TA} {p p2 pos pos2:Pos}
end
section
variable {σ:St} {H:Hp} {Q:VK}
end
noncomputable def zo0 (k:Nat) (ls:List Int):List Int:=ls.map λ e=>if 0 <= e then e + (k:Int) else e
def zjF {α:Type} {P:List α -> Prop} (h0:P []) (h1:∀ l a,P l -> P (l ++ [a])) (l:List α):P l:=by
 have key:∀ m:List α,P m.reverse:=λ m=>by
  induction m with
  | nil=>exact h0
  | cons a m ih=>rw [ybt]; exact h1 _ _ ih
 have:=key l.reverse
 rwa [ycK] at this
noncomputable def LdE (ls:List Int):Prop:=Ld ls.length ls
noncomputable def Lds (H:Hp) (A:List (Addr × List Int)):Prop:=∀ q ∈ A,H q.1=some (.tup (q.2.map V.int)) /\ LdE q.2
def zc5 {K:PySem.W.Frag} {a:Addr} {xs:List V} {src:List (Option Nat)} {σ:St} {g:TG} {tc:TT} {te:TE} {Q:VK} {H:Hp} (Pv:Nat -> List V -> Hp -> Prop) (h0:Pv 0 [] H) (len:∀ i acc H,Pv i acc H -> acc.length <= sizeLine) (hl:∀ i acc H,Pv i acc H -> SqT K H a xs)
  (step:∀ i u T acc H,xs[i]?=some u -> H T=none -> Pv i acc H -> g (.ref T) (capt src σ) (upd H T (.tup [.int (i:Int),u])) λ σ2 H2=>Ext (capt src σ) σ2 /\ tc σ2 H2 λ b H3=>if b=true then te σ2 H3 (λ y H4=>Pv (i + 1) (acc ++ [y]) H4) else Pv (i + 1) acc H3)
  (done:∀ acc H,Pv xs.length acc H -> ∀ p,H p=none -> Q (.ref p) (upd H p (.lst acc))):zcF (IteT K a xs) src σ g tc te Q H:=by
 refine ⟨λ i m acc H=>m=xs.length - i /\ i <= xs.length /\ Pv i acc H,⟨xs.length,by simp,yaY _,h0⟩,?_⟩;rintro i m acc H ⟨rfl,hi,p⟩;refine ⟨len i acc H p,?_⟩;by_cases hlt:i < xs.length
 ·refine .inr ⟨⟨hlt,hl i acc H p⟩,λ y H4=>Pv (i + 1) (acc ++ [y]) H4,λ H3=>Pv (i + 1) acc H3,λ y H4 q=>⟨xs.length - (i + 1),by omega,rfl,hlt,q⟩,λ H3 q=>⟨xs.length - (i + 1),by omega,rfl,hlt,q⟩,λ x H' y=>?_⟩;obtain ⟨T,u,rfl,hT,rfl,hu⟩:=y;exact step i u T acc H hu hT p
 ·have e : i = xs.length := by omega
  subst e;exact .inl ⟨⟨rfl,hl _ acc H p⟩,done acc H p⟩
section
variable {X:Cx}
end
noncomputable def Rws (H:Hp) (w:Nat) (T:List (Addr × List (Addr × Dd))):Prop:=∀ q ∈ T,SqH H q.1 (rowV q.2) /\ Rw H w q.2
noncomputable def zmW (w m n:Nat):Bool:=zc1 w m n && decide ((m &&& m * 2 ^ n)=0)
def zhB {w m n:Nat} (h1:1 <= n) (h2:n < w):zmW w m n=true ↔ (Dd.swap m n).ok w:=by
 unfold zmW;rw [yad,decide_eq_true_iff,zek,zfl];constructor
 ·rintro ⟨a,b⟩;exact ⟨h1,h2,λ p hp=>⟨by have:=(a p hp).2; omega,b p hp⟩⟩
 ·rintro ⟨_,_,c⟩;exact ⟨λ p hp=>by have:=(c p hp).1; omega,λ p hp=>(c p hp).2⟩
noncomputable def Dd.tog (w:Nat):Dd -> Dd -> Option Dd
 | .and a,.and b=>some (.and (a &&& b))
 | .or a,.or b=>some (.or (a ||| b))
 | .left a,.left b=>some (.left (min (a + b) w))
 | .right a,.right b=>some (.right (min (a + b) w))
 | .turn a,.turn b=>some (.turn ((a + b) % w))
 | .swap a n,.swap b m=>if m=n /\ zmW w (a ||| b) n=true then some (.swap (a ^^^ b) n) else none
 | .gather a,.gather b=>some (.gather (za0 b a))
 | .strew a,.strew b=>some (.strew (za0 a b))
 | .gather a,.strew b=>if a=b then some (.and a) else none
 | .strew a,.gather b=>if a=b then some (.and (2 ^ (zad a).length - 1)) else none
 | _,_=>none
noncomputable def aft (w:Nat) (d:Dd) (z:Int):Int:=if 0 <= z then (d.led w).getD z.toNat 0 else z
def zb0 {w:Nat} {d e f:Dd} (h:∀ p,p < w -> f.src w p=aft w d (e.src w p)):f.led w=zaA (d.led w) (e.led w):=by
 unfold zaA;rw [show e.led w=(List.range w).map λ p=>e.src w p from rfl,ya6];apply yaZ;intro p hp;exact h p (yat.mp hp)
def led_getD {w:Nat} (d:Dd) {q:Nat} (h:q < w):(d.led w).getD q 0=d.src w q:=by
 rw [Dd.led,yac,yan,yaS h]; rfl
def zcV {w q:Nat} (d:Dd) (h:q < w):aft w d (q:Int)=d.src w q:=by rw [aft,if_pos (1:),yaw,led_getD d h]
def zex {w:Nat} {z:Int} (d:Dd) (h:z < 0):aft w d z=z:=by rw [aft,if_neg (1:)]
def zeJ:∀ (ps:List Nat) (w:Nat),ps.Pairwise (· < ·) -> (∀ p ∈ ps,p < w) -> (List.range w).filter (λ k=>decide (k ∈ ps))=ps:=by
 intro ps;refine zjF (P:=λ ps=>∀ w,ps.Pairwise (· < ·) -> (∀ p ∈ ps,p < w) -> (List.range w).filter (λ k=>decide (k ∈ ps))=ps) (λ w _ _=>by simp) (λ ps p ih w hp hw=>?_) ps;have hpw:p < w:=hw p (5:);rw [yaN] at hp;have hlt:∀ x ∈ ps,x < p:=λ x hx=>hp.2.2 x hx p (5:)
 have e1:(List.range w).filter (λ k=>decide (k ∈ ps ++ [p]))=(List.range (p + 1)).filter (λ k=>decide (k ∈ ps ++ [p])):=by
  refine zcE (1:) λ i hi=>decide_eq_false λ z=>?_;rcases yas.mp z with y | y
  ·have:=hlt i y; omega
  ·rw [yah.mp y] at hi; omega
 rw [e1,yaQ,yaz];congr 1
 ·rw [<- ih p hp.1 hlt];apply List.filter_congr;intro k hk;have := yat.mp hk;apply decide_eq_decide.mpr;rw [ih p hp.1 hlt];constructor
  ·intro z;rcases yas.mp z with y | y
   ·exact y
   ·rw [yah.mp y] at this; omega
  ·exact λ z=>yaA _ z
 ·simp
def zdH {ps:List Nat} (h:ps.Pairwise (· < ·)):zad (zaP ps)=ps:=by
 obtain ⟨w,hw⟩:∃ w,∀ p ∈ ps,p < w:=by
  refine zjF (P:=λ ps=>∃ w,∀ p ∈ ps,p < w) ⟨0,λ _ z=>(nomatch z)⟩ (λ ps p ih=>?_) ps;obtain ⟨w,hw⟩:=ih;refine ⟨w + p + 1,λ q hq=>?_⟩;rcases yas.mp hq with z | z
  ·have:=hw q z; omega
  ·rw [yah.mp z]; omega
 rw [za7 (mask_lt hw)];rw [show (zaP ps).testBit=λ k=>decide (k ∈ ps) from funext λ k=>zay ps k];exact zeJ ps w h hw
def zeP (n m:Nat):zad (za0 n m)=zbf n m (zad m).length:=by
 rw [za0];apply zdH;unfold zbf;rw [ya3];have hp:((List.range (zad m).length).filter n.testBit).Pairwise (· < ·):=ycJ _ ybW;refine hp.imp_of_mem ?_;intro a b ha hb hab;exact zfd hab (yat.mp (yaB.mp hb).1)
def zjZ {n m w:Nat} (h:m < 2 ^ w):za0 n m < 2 ^ w:=mask_lt λ x hx=>zhg h hx
def zgz (b l:Nat):∃ r,zad b=(List.range l).filter b.testBit ++ r /\ ∀ x ∈ r,l <= x:=by
 have hb:b < 2 ^ (l + zcc b):=yak (zhN b) (yaL (3:) (1:));refine ⟨((List.range (zcc b)).map (l + ·)).filter b.testBit,?_,λ x hx=>?_⟩
 ·rw [za7 hb,List.range_add,yaz]
 ·obtain ⟨y,_,rfl⟩:=yaf.mp (yaB.mp hx).1;omega
def zp7 {w a b:Nat} (ha:a < 2 ^ w) (hb:b < 2 ^ w) (p:Nat):(Dd.gather (za0 b a)).src w p=if 0 <= (Dd.gather b).src w p then ((Dd.gather a).led w).getD ((Dd.gather b).src w p).toNat 0 else (Dd.gather b).src w p:=by
 obtain ⟨r,e,hr⟩:=zgz b (zad a).length;have hs:=zeP b a;have hlen:(zbf b a (zad a).length).length=((List.range (zad a).length).filter b.testBit).length:=by rw [zbf,yaa]
 show (if p < (zad (za0 b a)).length then ((zad (za0 b a)).getD p 0:Int) else -1)=_;show _=if 0 <= (if p < (zad b).length then ((zad b).getD p 0:Int) else -1) then ((Dd.gather a).led w).getD (if p < (zad b).length then ((zad b).getD p 0:Int) else -1).toNat 0 else (if p < (zad b).length then ((zad b).getD p 0:Int) else -1)
 rw [hs];by_cases c1:p < ((List.range (zad a).length).filter b.testBit).length
 ·have c2 : p < (zad b).length := by rw [e, yam]; omega
  have g1:(zad b).getD p 0=((List.range (zad a).length).filter b.testBit).getD p 0:=by
   rw [e,yac,yaO c1,<- yac]
  have g2:((List.range (zad a).length).filter b.testBit).getD p 0 < (zad a).length:=by
   rw [yac,yab c1];exact yat.mp (yaB.mp (yaW c1)).1
  have g3:(zbf b a (zad a).length).getD p 0=(zad a).getD (((List.range (zad a).length).filter b.testBit).getD p 0) 0:=by
   rw [zbf,yac,yan,yab c1,yac (l:=(List.range _).filter _),yab c1]; rfl
  have lw:=zaH ha;rw [if_pos (by rw [hlen]; exact c1),if_pos c2,if_pos (1:),yaw,g1,led_getD _ (1:),g3];show _=if _ then _ else _
  rw [if_pos g2]
 ·rw [if_neg (by rw [hlen]; exact c1)];by_cases c2 : p < (zad b).length
  ·have g1:(zad a).length <= (zad b).getD p 0:=by
    have c3:p - ((List.range (zad a).length).filter b.testBit).length < r.length:=by
     rw [e,yam] at c2; omega
    rw [e,yac,yaT (1:),yab c3];exact hr _ (yaW c3)
   have g2:=zcs hb c2;rw [if_pos c2,if_pos (1:),yaw,led_getD _ g2];show _=if _ then _ else _
   rw [if_neg (1:)]
  ·rw [if_neg c2,if_neg (1:)]
def zda {m j:Nat} (h:j < (zad m).length):(zad m).idxOf ((zad m).getD j 0)=j:=by
 have hb:m.testBit ((zad m).getD j 0)=true:=zed.mpr ⟨j,h,rfl⟩;obtain ⟨h1,h2⟩:=zaW hb;exact zes h1 h h2
def zqd {w a b:Nat} (ha:a < 2 ^ w) (hb:b < 2 ^ w) (p:Nat):(Dd.strew (za0 a b)).src w p=if 0 <= (Dd.strew b).src w p then ((Dd.strew a).led w).getD ((Dd.strew b).src w p).toNat 0 else (Dd.strew b).src w p:=by
 show (if (za0 a b).testBit p then ((zad (za0 a b)).idxOf p:Int) else -1)=if 0 <= (if b.testBit p then ((zad b).idxOf p:Int) else -1) then ((Dd.strew a).led w).getD (if b.testBit p then ((zad b).idxOf p:Int) else -1).toNat 0 else (if b.testBit p then ((zad b).idxOf p:Int) else -1)
 by_cases c:b.testBit p=true
 ·obtain ⟨h1, h2⟩ := zaW c;have lw := zaH hb;generalize hj : (zad b).idxOf p = j at h1 h2;rw [if_pos c, if_pos (show (0 : Int) <= (j : Int) by omega), yaw, led_getD _ (1:), show (Dd.strew a).src w j = (if a.testBit j then ((zad a).idxOf j : Int) else -1) from rfl];have hbit : (za0 a b).testBit p = a.testBit j := by rw [<- h2]; exact znv a b j h1
  by_cases d:a.testBit j=true
  ·rw [if_pos d, if_pos (show (za0 a b).testBit p = true by rw [hbit]; exact d)];congr 1;have hs := zeP a b;obtain ⟨g1, g2⟩ := zaW d
   -- the place of p among the strewn ones is that of j among a's
   have key:(zad (za0 a b)).getD ((zad a).idxOf j) 0=p /\ (zad a).idxOf j < (zad (za0 a b)).length:=by
    obtain ⟨r,e,hr⟩:=zgz a (zad b).length;have hmem:j ∈ (List.range (zad b).length).filter a.testBit:=yaB.mpr ⟨yat.mpr h1,d⟩;obtain ⟨i,hi,ei⟩:=ybb.mp hmem;have gi:(zad a).getD i 0=j:=by rw [e,yac,yaO hi,yab hi]; exact ei
    have ii:(zad a).idxOf j=i:=by
     have:=zda (m:=a) (j:=i) (by rw [e,yam]; omega)
     rwa [gi] at this
    have c1:(zad a).idxOf j < ((List.range (zad b).length).filter a.testBit).length:=by rw [ii]; exact hi
    have q1:((List.range (zad b).length).filter a.testBit).getD ((zad a).idxOf j) 0=j:=by rw [ii,yac,yab hi]; exact ei
    refine ⟨?_,by rw [hs,zbf,yaa]; exact c1⟩;rw [hs,zbf,yac,yan];rw [yac,yab c1] at q1;rw [yab c1];show (zad b).getD (((List.range (zad b).length).filter a.testBit)[(zad a).idxOf j]) 0=p;rw [show ((List.range (zad b).length).filter a.testBit)[(zad a).idxOf j]=j from q1];exact h2
   have:=zda key.2;rw [key.1] at this;omega
  ·rw [if_neg d,if_neg (show ¬ (za0 a b).testBit p=true by rw [hbit]; exact d)]
 ·have:¬ (za0 a b).testBit p=true:=λ z=>by
   obtain ⟨j,h1,_,h3⟩:=(zhE a b p).mp z;exact c (zed.mpr ⟨j,h1,h3⟩)
  rw [if_neg c,if_neg this,if_neg (show ¬ (0:Int) <= -1 by omega)]
noncomputable def swT (m n q:Nat):Nat:=if n <= q /\ m.testBit (q - n)=true then q - n else if m.testBit q=true then q + n else q
def zfg {m n q:Nat} (h:n <= q) (k:m.testBit (q - n)=true):swT m n q=q - n:=if_pos ⟨h,k⟩
def zfi {m n q:Nat} (h:¬ (n <= q /\ m.testBit (q - n)=true)) (k:m.testBit q=true):swT m n q=q + n:=by rw [swT,if_neg h,if_pos k]
def zdx {m n q:Nat} (h:¬ (n <= q /\ m.testBit (q - n)=true)) (k:m.testBit q=false):swT m n q=q:=by rw [swT,if_neg h,if_neg (by rw [k]; decide)]
def zl7 (m n w q:Nat):(Dd.swap m n).src w q=(swT m n q:Int):=by
 show (if inM m ((q:Int) - n) then (q:Int) - n else if m.testBit q then (q:Int) + n else q)=_;by_cases c:n <= q /\ m.testBit (q - n)=true
 ·have:inM m ((q:Int) - n)=true:=by
   unfold inM;rw [decide_eq_true (1:),show ((q:Int) - n).toNat=q - n by omega,c.2]; rfl
  rw [if_pos this,zfg c.1 c.2]; omega
 ·have:¬ inM m ((q:Int) - n)=true:=λ z=>by
   unfold inM at z;rw [yad,decide_eq_true_iff] at z;rw [show ((q:Int) - n).toNat=q - n by omega] at z;exact c ⟨by omega,z.2⟩
  rw [if_neg this];cases e:m.testBit q
  ·rw [zdx c e]; rfl
  ·rw [zfi c e]; simp
def zk6 {w a b n:Nat} (ha:(Dd.swap a n).ok w) (hb:(Dd.swap b n).ok w) (hab:(Dd.swap (a ||| b) n).ok w) {p:Nat} (hp:p < w) :
  (Dd.swap (a ^^^ b) n).src w p=if 0 <= (Dd.swap b n).src w p then ((Dd.swap a n).led w).getD ((Dd.swap b n).src w p).toNat 0 else (Dd.swap b n).src w p:=by
 obtain ⟨h1,h2,h3⟩:=hab;have orb:∀ q,(a ||| b).testBit q=(a.testBit q || b.testBit q):=λ q=>yb7 ..;have xob:∀ q,(a ^^^ b).testBit q=(a.testBit q ^^ b.testBit q):=λ q=>Nat.testBit_xor ..
 have apart:∀ q,(a.testBit q || b.testBit q)=true -> a.testBit (q + n)=false /\ b.testBit (q + n)=false:=λ q hq=>by
  have:=(h3 q (by rw [orb]; exact hq)).2;rw [orb,Bool.or_eq_false_iff] at this;exact this
 have up:∀ q,(a.testBit q || b.testBit q)=true -> q + n < w:=λ q hq=>(h3 q (by rw [orb]; exact hq)).1
 -- what stands n below a place of either is of neither
 have below:∀ q,(a.testBit q || b.testBit q)=true -> ∀ m:Nat,(m=a \/ m=b \/ m=a ^^^ b) -> ¬ (n <= q /\ m.testBit (q - n)=true):=λ q hq m hm z=>by
  have hz:(a.testBit (q - n) || b.testBit (q - n))=true:=by
   rcases hm with rfl | rfl | rfl
   ·rw [z.2]; rfl
   ·rw [z.2]; simp
   ·have:=z.2;rw [xob] at this;cases ea:a.testBit (q - n) <;> cases eb:b.testBit (q - n) <;> simp_all
  have:=apart _ hz;rw [show q - n + n=q by omega] at this;rw [this.1,this.2] at hq;cases hq
 have key:swT (a ^^^ b) n p=swT a n (swT b n p) /\ swT b n p < w:=by
  by_cases c1:n <= p /\ (a.testBit (p - n) || b.testBit (p - n))=true
  ·obtain ⟨cn, cm⟩ := c1;have ap := apart (p - n) cm;rw [show p - n + n = p by omega] at ap;have bl := below (p - n) cm;cases ea : a.testBit (p - n) <;> cases eb : b.testBit (p - n)
   ·rw [ea,eb] at cm; cases cm
   ·rw [zfg (m:=b) cn eb,zfg (m:=a ^^^ b) cn (66:),zdx (m:=a) (bl a (.inl rfl)) ea];exact ⟨rfl,by omega⟩
   ·have nb : ¬ (n <= p /\ b.testBit (p - n) = true) := fun z => by rw [eb] at z; exact absurd z.2 (3:)
    rw [zdx (m:=b) nb ap.2,zfg (m:=a ^^^ b) cn (66:),zfg (m:=a) cn ea];exact ⟨rfl,hp⟩
   ·have nx : ¬ (n <= p /\ (a ^^^ b).testBit (p - n) = true) := fun z => by rw [xob, ea, eb] at z; exact absurd z.2 (3:)
    rw [zfg (m:=b) cn eb,zdx (m:=a ^^^ b) nx (by rw [xob,ap.1,ap.2]; rfl),zfi (m:=a) (bl a (.inl rfl)) ea];exact ⟨by omega,by omega⟩
  ·have lb : ¬ (n <= p /\ b.testBit (p - n) = true) := fun z => c1 ⟨z.1, by rw [z.2]; simp⟩;have la : ¬ (n <= p /\ a.testBit (p - n) = true) := fun z => c1 ⟨z.1, by rw [z.2]; simp⟩
   have lx:¬ (n <= p /\ (a ^^^ b).testBit (p - n)=true):=λ z=>by
    have:=z.2;rw [xob] at this;cases ea:a.testBit (p - n) <;> cases eb:b.testBit (p - n)
    ·rw [ea,eb] at this; cases this
    ·exact lb ⟨z.1,eb⟩
    ·exact la ⟨z.1,ea⟩
    ·exact lb ⟨z.1,eb⟩
   cases ea:a.testBit p <;> cases eb:b.testBit p
   ·rw [zdx (m:=b) lb eb,zdx (m:=a ^^^ b) lx (66:),zdx (m:=a) la ea];exact ⟨rfl,hp⟩
   ·have hu:=up p (by rw [eb]; simp);have ap:=apart p (by rw [eb]; simp);rw [zfi (m:=b) lb eb,zfi (m:=a ^^^ b) lx (66:),zdx (m:=a) (λ z=>by rw [ycl,ea] at z; exact absurd z.2 (3:)) ap.1];exact ⟨rfl,hu⟩
   ·rw [zdx (m:=b) lb eb,zfi (m:=a ^^^ b) lx (66:),zfi (m:=a) la ea];exact ⟨rfl,hp⟩
   ·have hu:=up p (by rw [eb]; simp);rw [zfi (m:=b) lb eb,zdx (m:=a ^^^ b) lx (66:),zfg (m:=a) (1:) (by rw [ycl]; exact ea)];exact ⟨by omega,hu⟩
 rw [zl7,zl7,if_pos (1:),yaw,led_getD _ key.2,zl7,key.1]
def Dd.tog_led {w:Nat} {d e f:Dd} (hd:d.ok w) (he:e.ok w) (h:d.tog w e=some f):f.ok w /\ f.led w=zaA (d.led w) (e.led w):=by
 cases d with
 | and a=>
  cases e <;> simp only [Dd.tog,reduceCtorEq,Option.some.injEq] at h;rename_i b;subst h;refine ⟨ya4 Nat.and_le_left hd,zb0 λ p hp=>?_⟩;simp only [Dd.src,ycQ];by_cases eb:b.testBit p=true
  ·rw [if_pos eb,zcV _ hp];simp only [Dd.src,eb,Bool.and_true]
  ·rw [if_neg eb,zex _ (1:),if_neg (by simp [eb])]
 | or a=>
  cases e <;> simp only [Dd.tog,reduceCtorEq,Option.some.injEq] at h;rename_i b;subst h;refine ⟨Nat.or_lt_two_pow hd he,zb0 λ p hp=>?_⟩;simp only [Dd.src,yb7];by_cases eb:b.testBit p=true
  ·rw [if_pos eb,zex _ (1:),if_pos (by simp [eb])]
  ·rw [if_neg eb,zcV _ hp];simp only [Dd.src,eb,Bool.or_false]
 | left a=>
  cases e <;> simp only [Dd.tog,reduceCtorEq,Option.some.injEq] at h;rename_i b;subst h;refine ⟨Nat.min_le_right _ _,zb0 λ p hp=>?_⟩;simp only [Dd.src];by_cases c:b <= p
  ·rw [if_pos c, show (p : Int) - (b : Int) = ((p - b : Nat) : Int) by omega, zcV _ (1:)];simp only [Dd.src];by_cases c2 : a + b <= p
   ·rw [if_pos (1:),if_pos (1:)]; omega
   ·rw [if_neg (1:),if_neg (1:)]
  ·rw [if_neg c,zex _ (1:),if_neg (1:)]
 | right a=>
  cases e <;> simp only [Dd.tog,reduceCtorEq,Option.some.injEq] at h;rename_i b;subst h;refine ⟨Nat.min_le_right _ _,zb0 λ p hp=>?_⟩;simp only [Dd.src];by_cases c:p + b < w
  ·rw [if_pos c, show (p : Int) + (b : Int) = ((p + b : Nat) : Int) by omega, zcV _ c];simp only [Dd.src];by_cases c2 : p + b + a < w
   ·rw [if_pos (1:),if_pos c2]; omega
   ·rw [if_neg (1:),if_neg c2]
  ·rw [if_neg c,zex _ (1:),if_neg (1:)]
 | turn a=>
  cases e <;> simp only [Dd.tog,reduceCtorEq,Option.some.injEq] at h;rename_i b;subst h;have ha:a < w:=hd;have hb:b < w:=he;refine ⟨ycd _ (1:),zb0 λ p hp=>?_⟩
  have em:(a + b) % w=if a + b < w then a + b else a + b - w:=by
   split
   ·exact ycF ‹_›
   ·rw [Nat.mod_eq_sub_mod (1:),ycF (1:)]
  simp only [Dd.src];by_cases c:b <= p
  ·rw [if_pos c, show (p : Int) - (b : Int) = ((p - b : Nat) : Int) by omega, zcV _ (1:)];simp only [Dd.src];rw [em]
   split <;> split <;> split <;> omega
  ·rw [if_neg c, show (p : Int) - (b : Int) + (w : Int) = ((p + w - b : Nat) : Int) by omega, zcV _ (1:)];simp only [Dd.src];rw [em]
   split <;> split <;> split <;> omega
 | swap a n=>
  cases e <;> simp only [Dd.tog,reduceCtorEq] at h;rename_i b m;by_cases c:m=n /\ zmW w (a ||| b) n=true
  ·rw [if_pos c] at h;cases h;obtain ⟨rfl, c2⟩ := c;have hab := (zhB hd.1 hd.2.1).mp c2;refine ⟨⟨hd.1, hd.2.1, fun p hp => ?_⟩, zb0 fun p hp => zk6 hd he hab hp⟩;rw [Nat.testBit_xor] at hp
   have hor:(a ||| b).testBit p=true:=by
    rw [yb7];cases ea:a.testBit p <;> cases eb:b.testBit p <;> simp_all
   have:=hab.2.2 p hor;refine ⟨this.1,?_⟩;have h2:=this.2;rw [yb7,Bool.or_eq_false_iff] at h2;rw [Nat.testBit_xor,h2.1,h2.2]; rfl
  ·rw [if_neg c] at h; cases h
 | gather a=>
  cases e <;> simp only [Dd.tog,reduceCtorEq,Option.some.injEq] at h
  ·rename_i b;subst h;exact ⟨zjZ hd,zb0 λ p hp=>zp7 hd he p⟩
  ·rename_i b;by_cases c : a = b
   ·rw [if_pos c] at h;cases h;subst c;refine ⟨hd, zb0 fun p hp => ?_⟩;simp only [Dd.src];by_cases c : a.testBit p = true
    ·obtain ⟨h1,h2⟩:=zaW c;have lw:=zaH hd;rw [if_pos c,if_pos c,zcV _ (1:)];simp only [Dd.src];rw [if_pos h1,h2]
    ·rw [if_neg c,if_neg c,zex _ (1:)]
   ·rw [if_neg c] at h; cases h
 | strew a=>
  cases e <;> simp only [Dd.tog,reduceCtorEq,Option.some.injEq] at h
  ·rename_i b;by_cases c : a = b
   ·rw [if_pos c] at h;cases h;subst c;have lw := zaH hd;refine ⟨yak (Nat.sub_lt (ybz _) (3:)) (yaL (3:) lw), zb0 fun p hp => ?_⟩;simp only [Dd.src, Nat.testBit_two_pow_sub_one];by_cases c : p < (zad a).length
    ·have hb:a.testBit ((zad a).getD p 0)=true:=zed.mpr ⟨p,c,rfl⟩;have g:=zcs hd c;rw [if_pos (decide_eq_true c),if_pos c,zcV _ g];simp only [Dd.src];rw [if_pos hb,zda c]
    ·rw [if_neg (by rw [decide_eq_false c]; decide),if_neg c,zex _ (1:)]
   ·rw [if_neg c] at h; cases h
  ·rename_i b;subst h;exact ⟨zjZ he,zb0 λ p hp=>zqd hd he p⟩
 | copy a n=>cases e <;> simp only [Dd.tog,reduceCtorEq] at h
noncomputable def Dd.nm:Dd -> Str
 | .and _=>"and" | .or _=>"or" | .left _=>"left" | .right _=>"right" | .turn _=>"turn" | .gather _=>"gather" | .strew _=>"strew" | .swap _ _=>"swap" | .copy _ _=>"copy"
noncomputable def Dd.num:Dd -> Nat
 | .and m=>m | .or m=>m | .left m=>m | .right m=>m | .turn m=>m | .gather m=>m | .strew m=>m | .swap m _=>m | .copy m _=>m
noncomputable def Dd.rest:Dd -> List V
 | .swap _ n=>[nV n] | .copy _ n=>[.int n] | _=>[]
def Dd.vals_nm (d:Dd):d.vals=.str d.nm :: nV d.num :: d.rest:=by cases d <;> rfl
def Dd.nm_shpd (d:Dd):shpd (.str d.nm)=true:=by cases d <;> (simp only [Dd.nm]; decide +kernel)
def Dd.nm_gather {d:Dd} (h:d.nm="gather"):∃ m,d=.gather m:=by
 cases d <;> first | exact ⟨_,rfl⟩ | exact absurd h (by simp only [Dd.nm]; decide +kernel)
def Dd.nm_strew {d:Dd} (h:d.nm="strew"):∃ m,d=.strew m:=by
 cases d <;> first | exact ⟨_,rfl⟩ | exact absurd h (by simp only [Dd.nm]; decide +kernel)
def Dd.tog_num {w:Nat} {d e:Dd} (h:d.nm ≠ e.nm) (k:d.num ≠ e.num):d.tog w e=none:=by
 cases d <;> cases e <;> first | rfl | exact absurd rfl h | (show (if _ then _ else _)=_; exact if_neg k)
def Dd.tog_else {w:Nat} {d e:Dd} (h:d.nm ≠ e.nm) (k1:¬ (d.nm="gather" /\ e.nm="strew")) (k2:¬ (d.nm="strew" /\ e.nm="gather")):d.tog w e=none:=by
 cases d <;> cases e <;> first | rfl | exact absurd rfl h | exact absurd ⟨rfl,rfl⟩ k1 | exact absurd ⟨rfl,rfl⟩ k2
noncomputable def TogV (H:Hp) (r:V):Option Dd -> Prop
 | none=>r=.non
 | some f=>∃ t,r=.ref t /\ H t=some (.tup f.vals)
noncomputable def zpm:Sp:=λ vs H Q _=>∃ (w:Nat) (a b:Addr) (d e:Dd),vs=[nV w,.ref a,.ref b] /\ H a=some (.tup d.vals) /\ H b=some (.tup e.vals) /\ d.ok w /\ e.ok w /\ 1 <= w /\ w <= 64 /\ ∀ r H',Same H H' -> TogV H' r (d.tog w e) -> Q r H'
noncomputable def zlI:Sp:=λ vs H Q _=>∃ (w:Nat) (a b:Addr) (d e:Dd),vs=[nV w,.ref a,.ref b] /\ H a=some (.tup d.vals) /\ H b=some (.tup e.vals) /\ d.ok w /\ e.ok w /\ 1 <= w /\ w <= 64 /\ d.nm=e.nm /\ ∀ r H',Same H H' -> TogV H' r (d.tog w e) -> Q r H'
noncomputable def zf7:Sp:=λ vs H Q _=>∃ (w:Nat) (a b:Addr) (x n y m:Nat),vs=[nV w,.ref a,.ref b] /\ H a=some (.tup (Dd.swap x n).vals) /\ H b=some (.tup (Dd.swap y m).vals) /\ (Dd.swap x n).ok w /\ (Dd.swap y m).ok w /\ 1 <= w /\ w <= 64 /\ ∀ r H',Same H H' -> TogV H' r ((Dd.swap x n).tog w (Dd.swap y m)) -> Q r H'
def zoI {K:PySem.W.Frag} {d e:Dd} {H:Hp} {Q:VK} (h:Q (.bl (decide (d.nm=e.nm))) H):rEqU K (.str d.nm) (.str e.nm) H Q:=by
 refine zgu d.nm_shpd e.nm_shpd ?_;rw [show (d.nm == e.nm)=decide (d.nm=e.nm) by by_cases c:d.nm=e.nm <;> simp [c]];exact h
def zd6 {K:PySem.W.Frag} {d:Dd} {s:Str} {H:Hp} {Q:VK} (hs:shpd (.str s)=true) (h:Q (.bl (decide (d.nm=s))) H):rEqU K (.str d.nm) (.str s) H Q:=by
 refine zgu d.nm_shpd hs ?_;rw [show (d.nm == s)=decide (d.nm=s) by by_cases c:d.nm=s <;> simp [c]];exact h
section
variable {X:Cx} {K:PySem.W.Frag}
end
inductive AlikeI (H:Hp):Nat -> V -> V -> Prop where
 | non (n:Nat):AlikeI H n .non .non
 | int (n:Nat) (i:Int):AlikeI H n (.int i) (.int i)
 | str (n:Nat) (s:Str) (h:shpd (.str s)=true):AlikeI H n (.str s) (.str s)
 | lst {n:Nat} {a b:Addr} {xs ys:List V} (ha:H a=some (.lst xs)) (hb:H b=some (.lst ys)) (hl:xs.length=ys.length) (hz:xs.length <= 10000) (hi:∀ (i:Nat) (x y:V),xs[i]?=some x -> ys[i]?=some y -> AlikeI H n x y):AlikeI H (n + 1) (.ref a) (.ref b)
 | tup {n:Nat} {a b:Addr} {xs ys:List V} (ha:H a=some (.tup xs)) (hb:H b=some (.tup ys)) (hl:xs.length=ys.length) (hz:xs.length <= 10000) (hi:∀ (i:Nat) (x y:V),xs[i]?=some x -> ys[i]?=some y -> AlikeI H n x y):AlikeI H (n + 1) (.ref a) (.ref b)
section
variable {X:Cx}
end
end L2
namespace HT
open PySem PySem.Spec PyProof.Rows
section
variable {prog:Program} {w:World} {A:Around} {E:Value -> Shared -> Prop} {s:Shared}
end
end HT
namespace L2
open PySem PySem.Spec PyProof.Rows Bm
section
variable {X:Cx}
end
noncomputable def SqHB:Bool -> Hp -> Addr -> List V -> Prop
 | true,H,a,xs=>H a=some (.lst xs)
 | false,H,a,xs=>H a=some (.tup xs)
noncomputable def zb6 (w:Nat) (d:Dd):Bool:=decide (d.led w=zaJ w)
noncomputable def znh (w:Nat) (q:Dd × Dd):Bool:=(q.1.tog w q.2).isNone
noncomputable def zcg (w:Nat) (ds:List Dd):Bool:=!((ds.map (zb6 w)).any id) && ((ds.zip ds.tail).map (znh w)).all id
def zhP {w:Nat} {ds:List Dd}:zcg w ds=true ↔ (∀ d ∈ ds,d.led w ≠ zaJ w) /\ ∀ i d e,ds[i]?=some d -> ds[i + 1]?=some e -> d.tog w e=none:=by
 unfold zcg;rw [yad,ybl,List.any_eq_false,ya1];constructor
 ·rintro ⟨h1, h2⟩;refine ⟨fun d hd z => h1 (zb6 w d) (yaf.mpr ⟨d, hd, rfl⟩) (by simp [zb6, z]), fun i d e hd he => ?_⟩
  have hm:(d,e) ∈ ds.zip ds.tail:=by
   refine yar (i:=i) ?_;rw [List.getElem?_zip_eq_some];exact ⟨hd,by rw [List.getElem?_tail]; exact he⟩
  have:=h2 (znh w (d,e)) (yaf.mpr ⟨_,hm,rfl⟩);simpa [znh] using this
 ·rintro ⟨h1, h2⟩;refine ⟨fun b hb => ?_, fun b hb => ?_⟩
  ·obtain ⟨d,hd,rfl⟩:=yaf.mp hb;simpa [zb6] using h1 d hd
  ·obtain ⟨⟨d,e⟩,hq,rfl⟩:=yaf.mp hb;obtain ⟨i,hi⟩:=List.getElem?_of_mem hq;rw [List.getElem?_zip_eq_some,List.getElem?_tail] at hi;simpa [znh] using h2 i d e hi.1 hi.2
def zkq {w:Nat} {ds:List Dd} (h:zcg w ds=true) (k:Nat):zcg w (ds.take k)=true:=by
 rw [zhP] at h ⊢;refine ⟨λ d hd=>h.1 d (ybM hd),λ i d e hd he=>?_⟩;rw [ycm] at hd he
 split at hd
 ·split at he
  ·exact h.2 i d e hd he
  ·cases he
 ·cases hd
def zkm {w k:Nat} {ds:List Dd} {d:Dd} (h:zcg w (ds.take k)=true) (hd:ds[k]?=some d) (h1:d.led w ≠ zaJ w) (h2:∀ e,0 < k -> ds[k - 1]?=some e -> e.tog w d=none):zcg w (ds.take (k + 1))=true:=by
 rw [zhP] at h ⊢;constructor
 ·intro e he;rw [yaG, hd] at he;rcases yas.mp he with z | z
  ·exact h.1 e z
  ·obtain rfl : e = d := by simpa using z
   exact h1
 ·intro i a b ha hb;rw [ycm] at ha hb
  split at hb
  ·rename_i hi;rw [if_pos (1:)] at ha;by_cases e : i + 1 = k
   ·subst e;rw [hd] at hb;cases hb;exact h2 a (1:) (by simpa using ha)
   ·exact h.2 i a b (by rw [ycm,if_pos (1:)]; exact ha) (by rw [ycm,if_pos (1:)]; exact hb)
  ·cases hb
noncomputable def LR (H:Hp) (p l l2:Addr) (w:Nat) (L2 L:List (Addr × Dd)) (H':Hp):Prop:=But p H H' /\ Hand H' p /\ H' l2=some (.lst (rowV L2)) /\ Rw H' w L2 /\ Rw H' w L /\ H' l=some (.lst (rowV L))
def Rw.updL {H:Hp} {w:Nat} {l:Addr} {xs ys:List V} {L:List (Addr × Dd)} (h:Rw H w L) (hl:H l=some (.lst xs)):Rw (upd H l (.lst ys)) w L:=λ q hq=>by
 refine ⟨?_,(h q hq).2⟩;rw [zan (λ e=>?_)]
 ·exact (h q hq).1
 ·have:=(h q hq).1;rw [e,hl] at this;cases this
def Same.updF {H H':Hp} {t:Addr} {o:HO} (s:Same H H') (h:H t=none):Same H (upd H' t o):=λ b u e=>by rw [zan (zao e h)]; exact s b u e
def Same.freeS {H H':Hp} {t:Addr} (s:Same H H') (h:H' t=none):H t=none:=by
 cases e:H t with
 | none=>rfl
 | some o=>rw [s _ _ e] at h; cases h
end L2
namespace L2
open PySem PySem.Spec PyProof.Rows
section
variable {κ:Type} [DecidableEq κ]
noncomputable def valV (kvs:List (κ × V)) (k:κ):Option V:=(kvs.find? λ kv=>decide (kv.1=k)).map (·.2)
noncomputable def putK (kvs:List (κ × V)) (k:κ) (v:V):List (κ × V):=
 if (kvs.any λ kv=>decide (kv.1=k))=true then kvs.map (λ kv=>if kv.1=k then (kv.1,v) else kv) else kvs ++ [(k,v)]
noncomputable def dropK (kvs:List (κ × V)) (k:κ):List (κ × V):=kvs.filter λ kv=>decide (kv.1 ≠ k)
def zaU {p:κ × V} {r:List (κ × V)} {k:κ} (e:p.1=k):valV (p :: r) k=some p.2:=by simp [valV,yb0,e]
def zaK {p:κ × V} {r:List (κ × V)} {k:κ} (e:¬ p.1=k):valV (p :: r) k=valV r k:=by simp [valV,yb0,e]
def zd7 (k:κ):∀ kvs:List (κ × V),(kvs.any λ kv=>decide (kv.1=k))=(valV kvs k).isSome
 | []=>rfl
 | p :: r=>by
  rw [ycL];by_cases e:p.1=k
  ·simp only [zaU e,decide_eq_true e,Bool.true_or,Option.isSome_some]
  ·rw [zaK e,decide_eq_false e,Bool.false_or]; exact zd7 k r
def zjQ (k j:κ) (y:V):∀ kvs:List (κ × V),valV (kvs.map λ kv=>if kv.1=k then (kv.1,y) else kv) j=(valV kvs j).map λ x=>if j=k then y else x
 | []=>rfl
 | p :: r=>by
  have ih:=zjQ k j y r;rw [yaP];by_cases h:p.1=k
  ·rw [if_pos h];by_cases e : p.1 = j
   ·rw [zaU (p:=(p.1,y)) e,zaU e,ycn,if_pos (e.symm.trans h)]
   ·rw [zaK (p:=(p.1,y)) e,zaK e,ih]
  ·rw [if_neg h];by_cases e : p.1 = j
   ·rw [zaU (p:=p) e,zaU e,ycn,if_neg (λ z=>h (e.trans z))]
   ·rw [zaK (p:=p) e,zaK e,ih]
def zhb (k j:κ) (y:V):∀ kvs:List (κ × V),valV kvs k=none -> valV (kvs ++ [(k,y)]) j=if j=k then some y else valV kvs j
 | [],_=>by
  by_cases e:k=j
  ·rw [if_pos e.symm]; exact zaU (p:=(k,y)) e
  ·rw [if_neg (λ z=>e z.symm)]; exact zaK (p:=(k,y)) e
 | p :: r,hn=>by
  rw [List.cons_append];have hk:¬ p.1=k:=λ z=>by rw [zaU z] at hn; cases hn
  rw [zaK hk] at hn;have ih:=zhb k j y r hn;by_cases e:p.1=j
  ·rw [zaU e,zaU e,if_neg (λ z=>hk (e.trans z))]
  ·rw [zaK e,zaK e,ih]
def zgK (kvs:List (κ × V)) (k j:κ) (y:V):valV (putK kvs k y) j=if j=k then some y else valV kvs j:=by
 unfold putK;by_cases a:(kvs.any λ kv=>decide (kv.1=k))=true
 ·rw [if_pos a, zjQ];rw [zd7] at a;by_cases e : j = k
  ·obtain ⟨x,hx⟩:=ycc.mp a;rw [if_pos e,e,hx,ycn,if_pos rfl]
  ·rw [if_neg e];cases valV kvs j with
   | none=>rfl
   | some x=>rw [ycn,if_neg e]
 ·rw [if_neg a];refine zhb k j y kvs ?_;rw [zd7] at a;cases q : valV kvs k with
  | none=>rfl
  | some x=>rw [q] at a; exact (a rfl).elim
def zcl (kvs:List (κ × V)) (k:κ) (v:V):(putK kvs k v).length <= kvs.length + 1:=by
 unfold putK
 split
 ·rw [yaa]; omega
 ·rw [yam,ybq,List.length_nil]; omega
def zjH {kvs:List (κ × V)} {k:κ} (v:V) (h:valV kvs k=none):putK kvs k v=kvs ++ [(k,v)]:=by
 unfold putK;rw [zd7,h];exact if_neg (3:)
def RelO.isSome_eq {o:Option V} {u:Option Value} (r:RelO o u):o.isSome=u.isSome:=by
 cases o with
 | none=>cases u with
  | none=>rfl
  | some _=>exact (show False from r).elim
 | some _=>cases u with
  | none=>exact (show False from r).elim
  | some _=>rfl
def RelO.getD {o:Option V} {u:Option Value} {d:V} {d':Value} (r:RelO o u) (rd:RelV d d'):RelV (o.getD d) (u.getD d'):=by
 cases o with
 | none=>cases u with
  | none=>exact rd
  | some _=>exact (show False from r).elim
 | some _=>cases u with
  | none=>exact (show False from r).elim
  | some _=>exact r
def KV.val {kvs:List (κ × V)} {vs:List (κ × Value)} (r:KV kvs vs) (k:κ):RelO (valV kvs k) (valueAt vs k):=by
 unfold KV at r
 induction r with
 | nil=>exact True.intro
 | @cons p q ps qs h t ih=>
  obtain ⟨h1,h2⟩:=h;by_cases e:p.1=k
  ·have e' : q.1 = k := h1.symm.trans e;have b : valueAt (q :: qs) k = some q.2 := by simp [valueAt, yb0, e']
   rw [zaU e,b]; exact h2
  ·have e' : ¬ q.1 = k := fun z => e (h1.trans z);have b : valueAt (q :: qs) k = valueAt qs k := by simp [valueAt, yb0, e']
   rw [zaK e,b]; exact ih
def KV.any {kvs:List (κ × V)} {vs:List (κ × Value)} (r:KV kvs vs) (k:κ):(kvs.any λ kv=>decide (kv.1=k))=vs.any λ kv=>decide (kv.1=k):=by
 unfold KV at r
 induction r with
 | nil=>rfl
 | cons h t ih=>rw [ycL,ycL,ih,h.1]
def KV.repl {kvs:List (κ × V)} {vs:List (κ × Value)} (r:KV kvs vs) (k:κ) {y:V} {u:Value} (ry:RelV y u) :
  KV (kvs.map λ kv=>if kv.1=k then (kv.1,y) else kv) (vs.map λ kv=>if kv.1=k then (kv.1,u) else kv):=by
 unfold KV at r ⊢
 induction r with
 | nil=>exact .nil
 | @cons p q ps qs h t ih=>
  rw [yaP,yaP];refine .cons ?_ ih;obtain ⟨h1,h2⟩:=h;by_cases e:p.1=k
  ·rw [if_pos e,if_pos (h1.symm.trans e)]; exact ⟨h1,ry⟩
  ·rw [if_neg e,if_neg (λ z=>e (h1.trans z))]; exact ⟨h1,h2⟩
def KV.put {kvs:List (κ × V)} {vs:List (κ × Value)} (r:KV kvs vs) (k:κ) {y:V} {u:Value} (ry:RelV y u):KV (putK kvs k y) (stored vs k u):=by
 unfold putK stored;rw [r.any k];by_cases e:(vs.any λ kv=>decide (kv.1=k))=true
 ·rw [if_pos e,if_pos e]; exact r.repl k ry
 ·rw [if_neg e,if_neg e]; exact Paired.snoc r ⟨rfl,ry⟩
def KV.length {kvs:List (κ × V)} {vs:List (κ × Value)} (r:KV kvs vs):kvs.length=vs.length:=ybi r
end
def zkC {P:Program} {w:World} {k:Key} {u:Value} (r:RelV (kV k) u):(zaN P w).is k u=true:=by
 cases k with
 | inl i=>obtain ⟨t,e⟩:=(show ∃ t,u=Value.int i t from r); subst e; exact ziI P w i t
 | inr x=>obtain ⟨t,e⟩:=(show ∃ t,u=Value.str x t from r); subst e; exact ziz P w x t
def zhw {P:Program} {w:World}:∀ {ks:List Key} {us:List Value},Vals (ks.map kV) us -> ItemsAre (zaN P w) ks us
 | [],_,r=>by rw [ycU] at r; cases r; exact .nil
 | k :: ks,_,r=>by
  rw [yaP] at r;cases r with
  | cons h t=>exact .cons (zkC h) (zhw t)
noncomputable abbrev KT (H:Hp):List (List Key × V) -> List (List Key × Addr × Value) -> Prop:=Paired λ p q=>p.1=q.1 /\ H q.2.1=some (.tup (p.1.map kV)) /\ RelV p.2 q.2.2
def KT.val {H:Hp} {kvs:List (List Key × V)} {xs:List (List Key × Addr × Value)} (r:KT H kvs xs) (k:List Key):RelO (valV kvs k) ((atKey xs k).map (·.2)):=by
 induction r with
 | nil=>exact True.intro
 | @cons p q ps qs h t ih=>
  obtain ⟨h1,_,h2⟩:=h;by_cases e:p.1=k
  ·have e' : q.1 = k := h1.symm.trans e;have b : atKey (q :: qs) k = some q.2 := by simp [atKey, yb0, e']
   rw [zaU e,b]; exact h2
  ·have e' : ¬ q.1 = k := fun z => e (h1.trans z);have b : atKey (q :: qs) k = atKey qs k := by simp [atKey, yb0, e']
   rw [zaK e,b]; exact ih
def KT.repl {H:Hp} {kvs:List (List Key × V)} {xs:List (List Key × Addr × Value)} (r:KT H kvs xs) (k:List Key) {y:V} {u:Value} (ry:RelV y u) :
  KT H (kvs.map λ kv=>if kv.1=k then (kv.1,y) else kv) (xs.map (putAt k u)):=by
 induction r with
 | nil=>exact .nil
 | @cons p q ps qs h t ih=>
  rw [yaP,yaP];refine .cons ?_ ih;obtain ⟨h1,h2,h3⟩:=h;unfold putAt;by_cases e:p.1=k
  ·rw [if_pos e,if_pos (h1.symm.trans e)]; exact ⟨h1,h2,ry⟩
  ·rw [if_neg e,if_neg (λ z=>e (h1.trans z))]; exact ⟨h1,h2,h3⟩
def KT.put {H:Hp} {kvs:List (List Key × V)} {xs:List (List Key × Addr × Value)} (r:KT H kvs xs) (k:List Key) {b:Addr} {y:V} {u:Value} (hb:H b=some (.tup (k.map kV))) (ry:RelV y u) :
  KT H (putK kvs k y) (storedH xs k b u):=by
 have e:(kvs.any λ kv=>decide (kv.1=k))=(atKey xs k).isSome:=by
  rw [zd7,(r.val k).isSome_eq,Option.isSome_map]
 unfold putK storedH;rw [e];by_cases q:(atKey xs k).isSome=true
 ·rw [if_pos q,if_pos q]; exact r.repl k ry
 ·rw [if_neg q,if_neg q]; exact Paired.snoc r ⟨rfl,hb,ry⟩
def KT.keeps {H H':Hp} {kvs:List (List Key × V)} {xs:List (List Key × Addr × Value)} (r:KT H kvs xs) (ht:∀ b ys,H b=some (.tup ys) -> H' b=some (.tup ys)):KT H' kvs xs:=
 Paired.mapP r λ _ _ z=>⟨z.1,ht _ _ z.2.1,z.2.2⟩
section
variable {P:Program} {w:World} {H:Hp} {h:Heap} {a:Addr}
def zpq {u:HO} (ok:HOk P w H h) (e:Rd H a u):zaT P w H h a u:=e.ok ok
def zi8 {kvs:List (Key × V)} (ok:HOk P w H h) (e:Rd H a (.dK kvs)):kvs.length <= sizeLine /\ (a == sysModules)=false /\ ∃ vs,KV kvs vs /\ h.DictOf (zaN P w) a vs:=
 show zaT P w H h a (.dK kvs) from zpq ok e
def zrd {kvs:List (Key × V)} (ok:HOk P w H h) (e:H a=some (.dK kvs)):kvs.length <= sizeLine /\ (a == sysModules)=false /\ ∃ vs,KV kvs vs /\ h.DictOf (zaN P w) a vs:=zi8 ok (.inl e)
def zeO {ks:List Key} (ok:HOk P w H h) (e:H a=some (.tup (ks.map kV))):(tupleKind (zaN P w)).is h ks a:=by
 obtain ⟨_,its,r,o,h1,h2,_,n,h3⟩:=(show zaT P w H h a (.tup (ks.map kV)) from ok a _ e)
 exact ⟨o,its.toArray,n,h1,h2,h3,by simpa using zhw r⟩
def zhR {kvs:List (List Key × V)} (ok:HOk P w H h) (e:Rd H a (.dT kvs)):kvs.length <= sizeLine /\ (a == sysModules)=false /\
    ∃ xs,KT H kvs xs /\ h.DictOfH (tupleKind (zaN P w)) a xs:=by
  obtain ⟨z,y,xs,r,o,es,ep,h1,h2,h3,h4,h5⟩:=(show zaT P w H h a (.dT kvs) from zpq ok e)
  refine ⟨z,y,xs,r,o,es,ep,h1,h2,h3,h4,λ x hx=>?_,h5⟩
  have all:∀ {l:List (List Key × V)} {m:List (List Key × Addr × Value)},KT H l m -> ∀ x ∈ m,(tupleKind (zaN P w)).is h x.1 x.2.1:=by
    intro l m q
    induction q with
    | nil=>intro x hx; exact nomatch hx
    | @cons p q ps qs hq t ih=>
      intro x hx;rcases yav.mp hx with e | hx
      · subst e;exact zeO ok (by rw [<- hq.1]; exact hq.2.1)
      · exact ih x hx
  exact all r x hx
def zoK {kvs:List (List Key × V)} (ok:HOk P w H h) (e:H a=some (.dT kvs)):kvs.length <= sizeLine /\ (a == sysModules)=false /\
    ∃ xs,KT H kvs xs /\ h.DictOfH (tupleKind (zaN P w)) a xs:=zhR ok (.inl e)
end
noncomputable def DGet (H:Hp) (a:Addr) (y:V) (r:Option V):Prop:=
 (∃ kvs k,Rd H a (.dK kvs) /\ y=kV k /\ r=valV kvs k) \/ ∃ kvs k b,Rd H a (.dT kvs) /\ y=.ref b /\ H b=some (.tup (k.map kV)) /\ r=valV kvs k
noncomputable def DPut (H:Hp) (a:Addr) (y v:V) (H':Hp):Prop:=
 (∃ kvs k,H a=some (.dK kvs) /\ y=kV k /\ kvs.length < sizeLine /\ H'=upd H a (.dK (putK kvs k v))) \/
 ∃ kvs k b,H a=some (.dT kvs) /\ y=.ref b /\ H b=some (.tup (k.map kV)) /\ kvs.length < sizeLine /\ H'=upd H a (.dT (putK kvs k v))
def DPut.t {H:Hp} {a b:Addr} {kvs:List (List Key × V)} {k:List Key} {v:V} (e:H a=some (.dT kvs)) (eb:H b=some (.tup (k.map kV))) (hl:kvs.length < sizeLine) :
  DPut H a (.ref b) v (upd H a (.dT (putK kvs k v))):=.inr ⟨kvs,k,b,e,rfl,eb,hl,rfl⟩
section
variable {X:Cx} {pins:List (Addr × Obj)} {σ:St} {H:Hp} {s:Shared} {a:Addr} {y v:V} {u r:Value} {o:Option V} {A:Around} {E:Value -> Shared -> Prop}
def Inv.big (I:Inv X pins σ H s):sysModules < s.heap.objs.size:=by
 have h:mainGlobals < s.heap.objs.size:=(I.mod.glob.keeps I.bk).lt;exact Nat.lt_trans (3:) h
def zlk {Q:Value -> Shared -> Prop} (hu:A.units + 1 < cLine) (I:Inv X pins σ H s) (g:DGet H a y (some v)) (ry:RelV y u) (h:∀ w' s',Inv X pins σ H s' -> RelV v w' -> Q w' s') :
  wpAny (model X.prog X.w) A (getItem (.ref a) u) Q E s:=by
 rcases g with ⟨kvs,k,e,ey,l⟩ | ⟨kvs,k,b,e,ey,eb,l⟩
 ·subst ey;obtain ⟨z,hd,vs,rel,dd⟩:=zi8 I.hok e;obtain ⟨w',hw,rw'⟩:=RelO.some_of (v:=v) (o:=valueAt vs k) (by rw [l]; exact rel.val k);exact wpAny_getItem_of (zkC ry) dd.mapOf hw (h w' _ (I.tok _) rw')
 ·subst ey;cases (show u=Value.ref b from ry);obtain ⟨z,hd,xs,rel,dd⟩:=zhR I.hok e;obtain ⟨w',hw,rw'⟩:=RelO.some_of (v:=v) (o:=(atKey xs k).map (·.2)) (by rw [l]; exact rel.val k);obtain ⟨p,hp,hp2⟩:=Option.map_eq_some_iff.mp hw;refine wpAny_getItem_heap (tupleKind_room_in1 hu) (zeO I.hok eb) dd hp ?_;rw [hp2];exact h w' _ (I.tok _) rw'
def d_in {Q:Value -> Shared -> Prop} (hu:A.units + 1 < cLine) (I:Inv X pins σ H s) (g:DGet H a y o) (ry:RelV y u) (h:∀ s',Inv X pins σ H s' -> Q (.bool o.isSome) s') :
  wpAny (model X.prog X.w) A (compareOp .In u (.ref a)) Q E s:=by
 rcases g with ⟨kvs,k,e,ey,l⟩ | ⟨kvs,k,b,e,ey,eb,l⟩
 ·subst ey;obtain ⟨z,hd,vs,rel,dd⟩:=zi8 I.hok e;refine wpAny_in_of (zkC ry) hd dd.mapOf ?_;rw [<- (rel.val k).isSome_eq,<- l];exact h _ (I.tok _)
 ·subst ey;cases (show u=Value.ref b from ry);obtain ⟨z,hd,xs,rel,dd⟩:=zhR I.hok e;refine wpAny_in_heap (tupleKind_room_in1 hu) (zeO I.hok eb) hd dd ?_;have q:=(rel.val k).isSome_eq;rw [Option.isSome_map] at q;rw [<- q,<- l];exact h _ (I.tok _)
def zkO {Q:Value -> Shared -> Prop} (hu:A.units + 1 < cLine) (I:Inv X pins σ H s) (g:DGet H a y o) (ry:RelV y u) (h:∀ s',Inv X pins σ H s' -> Q (.bool (!o.isSome)) s') :
  wpAny (model X.prog X.w) A (compareOp .NotIn u (.ref a)) Q E s:=by
 rcases g with ⟨kvs,k,e,ey,l⟩ | ⟨kvs,k,b,e,ey,eb,l⟩
 ·subst ey;obtain ⟨z,hd,vs,rel,dd⟩:=zi8 I.hok e;refine wpAny_notIn_of (zkC ry) hd dd.mapOf ?_;rw [<- (rel.val k).isSome_eq,<- l];exact h _ (I.tok _)
 ·subst ey;cases (show u=Value.ref b from ry);obtain ⟨z,hd,xs,rel,dd⟩:=zhR I.hok e;refine wpAny_notIn_heap (tupleKind_room_in1 hu) (zeO I.hok eb) hd dd ?_;have q:=(rel.val k).isSome_eq;rw [Option.isSome_map] at q;rw [<- q,<- l];exact h _ (I.tok _)
def zgH {h':Heap} {t':Nat} {ob:HO} (I:Inv X pins σ H s) (mu:Mut (H a)) (hs:Heap.SameBut a s.heap h') (he:∃ q,h'.get? a=some q) (new:zaT X.prog X.w (upd H a ob) h' a ob) :
  Inv X pins σ (upd H a ob) { s with heap:=h',toks:=t' }:=
 I.write (x:=a) (e:=a) mu (.inl rfl) (λ b q hb z=>(hs.2 b hb).trans z) he new
def zpW {P:Program} {w:World} {H':Hp} {h':Heap} {kvs:List (Key × V)} {vs:List (Key × Value)} (z:kvs.length <= sizeLine) (hd:(a == sysModules)=false) (rel:KV kvs vs) (dd:h'.DictOf (zaN P w) a vs) :
  zaT P w H' h' a (.dK kvs):=⟨z,hd,vs,rel,dd⟩
def zli {H':Hp} {Q:Unit -> Shared -> Prop} (hu:A.units + 1 < cLine) (I:Inv X pins σ H s) (g:DPut H a y v H') (ry:RelV y u) (rv:RelV v r) (h:∀ s',Inv X pins σ H' s' -> Q () s') :
  wpAny (model X.prog X.w) A (setItem (.ref a) u r) Q E s:=by
 rcases g with ⟨kvs,k,e,ey,l,eH⟩ | ⟨kvs,k,b,e,ey,eb,l,eH⟩
 ·subst ey eH;obtain ⟨z, hd, vs, rel, dd⟩ := zrd I.hok e;have hz : vs.length <= sizeLine := by rw [<- rel.length]; exact z
  have hl:(putK kvs k v).length <= sizeLine:=by have:=zcl kvs k v; omega
  refine wpAny_setItem_pairs (hsz:=hz) (zkC ry) dd λ h' dd' hs=>h _ ?_;have he:∃ q,h'.get? a=some q:=let ⟨q,_,_,hq,_⟩:=dd'; ⟨q,hq⟩;exact zgH I (by rw [e]; exact True.intro) hs he (zpW hl hd (rel.put k rv) dd')
 ·subst ey eH;cases (show u = Value.ref b from ry);obtain ⟨z, hd, xs, rel, dd⟩ := zoK I.hok e;have hz : xs.length <= sizeLine := by rw [<- ybi rel]; exact z
  have hl:(putK kvs k v).length <= sizeLine:=by have:=zcl kvs k v; omega
  refine wpAny_setItem_heap (hsz:=hz) (tupleKind_room_in1 hu) (zeO I.hok eb) dd λ h' dd' hs=>h _ ?_;obtain ⟨q,es,ep,hq,h2,h3,h4,_,h5⟩:=dd';refine zgH I (by rw [e]; exact True.intro) hs ⟨q,hq⟩ ⟨hl,hd,_,(rel.put k eb rv).keeps λ c ys ec=>?_,q,es,ep,hq,h2,h3,h4,h5⟩;rw [zan (zbY ec e (λ z=>nomatch z))];exact ec
end
section
variable {X:Cx} {pins:List (Addr × Obj)} {σ:St} {H:Hp} {s:Shared} {a:Addr} {kvs:List (Key × V)} {k:Key} {u:Value} {A:Around} {E:Value -> Shared -> Prop}
end
noncomputable def NoSl (i:Expr):Prop:=∀ ov iv,subscripted i false ov iv=operate [ov,iv] (getItem ov iv)
def zol {prog:Program} {w:World} {A:Around} {E:Value -> Shared -> Prop} {s:Shared} {env:Env} {value slice:Expr} {pos:Pos} {T id:String} {Q:Value -> Shared -> Prop}
    (hl:typeLookup (.type T) "__getitem__"=pure (some (.builtin id))) (hs:NoSl slice)
    (h:wpAny (model prog w) A (eval value env) (λ o s₁=>wpAny (model prog w) A (eval slice env) (λ i s₂=>s₂.TypeIs o T /\ wpAny (model prog w) A (getItem o i) Q E s₂) E s₁) E s) :
    wpAny (model prog w) A (eval (.Subscript value slice pos) env) Q E s:=by
  refine Subscript_ (wpAny_mono h (λ o s₁ h₁=>wpAny_mono h₁ (λ i s₂ h₂=>?_) λ _ _ x=>x) λ _ _ x=>x);obtain ⟨hT,h₂⟩:=h₂;unfold subscriptTail;refine wpAny_bind ?_;rw [getitemInPython_of_ne hT.not_modules];refine wpAny_bind (wpAny_specialOf hT hl ?_)
  have fin:wpAny (model prog w) A (subscripted slice false o i) (λ r s₃=>wpAny (model prog w) A (letTemporaryGo value o r >>= λ _=>pure r) Q E s₃) E s₂:=by
    rw [hs o i];exact wpAny_operating (wpAny_mono h₂ (λ r s₃ h₃=>wpAny_bind (wpAny_letTemporaryGo (wpAny_pure h₃))) λ _ _ x=>x)
  first
    | exact wpAny_pure (wpAny_bind fin)
    | exact wpAny_bind (wpAny_pure (wpAny_bind fin))
    | exact wpAny_bind fin
def ziD {X:Cx} {pins:List (Addr × Obj)} {σ:St} {H:Hp} {s:Shared} {a:Addr} {y:V} {o:Option V} (I:Inv X pins σ H s) (g:DGet H a y o):s.TypeIs (.ref a) "dict":=by
 rcases g with ⟨kvs,k,e,_,_⟩ | ⟨kvs,k,b,e,_,_,_⟩
 ·obtain ⟨_,_,vs,_,dd⟩:=zi8 I.hok e;exact dd.typeIs
 ·obtain ⟨_,_,xs,_,dd⟩:=zhR I.hok e;exact dd.typeIs
noncomputable def zoj (td ty:TE):TE:=λ σ H Q=>td σ H λ x H1=>ty σ H1 λ y H2=>∃ a v,x=.ref a /\ DGet H2 a y (some v) /\ Q v H2
noncomputable def tDIn (ty td:TE):TE:=λ σ H Q=>ty σ H λ y H1=>td σ H1 λ x H2=>∃ a o,x=.ref a /\ DGet H2 a y o /\ Q (.bl o.isSome) H2
noncomputable def ziA (ty td:TE):TE:=λ σ H Q=>ty σ H λ y H1=>td σ H1 λ x H2=>∃ a o,x=.ref a /\ DGet H2 a y o /\ Q (.bl (!o.isSome)) H2
noncomputable def zox (td ty tv:TE):TS:=λ D σ H=>tv σ H λ v H1=>td σ H1 λ x H2=>ty σ H2 λ y H3=>∃ a H4,x=.ref a /\ DPut H3 a y v H4 /\ D.nx σ H4
section
variable {X:Cx} {o i e value:Expr} {pos pos' tpos:Pos} {td ty tv:TE}
def zoa (hu:X.A.units + 1 < cLine) (ho:PE X o td) (hi:PE X i ty) (hs:NoSl i):PE X (.Subscript o i pos) (zoj td ty):=by
 intro pins s σ H Q I h;refine zol PySem.F.slot_dict_getitem.lookup hs (thn (ho pins s σ H _ I h) λ u s1 ⟨x,H1,I1,rx,q1⟩=>thn (hi pins s1 σ H1 _ I1 q1) λ iv s2 ⟨y,H2,I2,ry,a,v,ex,g,q2⟩=>?_);subst ex;obtain rfl:u=Value.ref a:=rx;exact ⟨ziD I2 g,zlk hu I2 g ry λ w' s3 I3 rw'=>⟨v,H2,I3,rw',q2⟩⟩
def zp9 (hu:X.A.units + 1 < cLine) (hi:PE X i ty) (ho:PE X o td):PC X .In i o (tDIn ty td):=by
 intro pins s σ H Q I h;refine thn (hi pins s σ H _ I h) λ iv s1 ⟨y,H1,I1,ry,q1⟩=>thn (ho pins s1 σ H1 _ I1 q1) λ u s2 ⟨x,H2,I2,rx,a,ov,ex,g,q2⟩=>?_;subst ex;obtain rfl:u=Value.ref a:=rx;exact d_in hu I2 g ry λ s3 I3=>⟨.bl ov.isSome,H2,I3,rfl,q2⟩
def zkV (hu:X.A.units + 1 < cLine) (hi:PE X i ty) (ho:PE X o td):PC X .NotIn i o (ziA ty td):=by
 intro pins s σ H Q I h;refine thn (hi pins s σ H _ I h) λ iv s1 ⟨y,H1,I1,ry,q1⟩=>thn (ho pins s1 σ H1 _ I1 q1) λ u s2 ⟨x,H2,I2,rx,a,ov,ex,g,q2⟩=>?_;subst ex;obtain rfl:u=Value.ref a:=rx;exact zkO hu I2 g ry λ s3 I3=>⟨.bl (!ov.isSome),H2,I3,rfl,q2⟩
def zoe (hu:X.A.units + 1 < cLine) (ho:PE X o td) (hi:PE X i ty) (hv:PE X value tv) (hs:swapsWith value (some (.Subscript o i pos')) pos.line X.env=pure false) :
  PS X (.Assign [.Subscript o i pos'] value pos) (zox td ty tv):=by
 intro pins s σ H D I h;refine wpAny_Assign_Subscript (thn (hv pins s σ H _ I h) λ r s1 ⟨v,H1,I1,rv,q1⟩=>thn (ho pins s1 σ H1 _ I1 q1) λ u s2 ⟨x,H2,I2,rx,q2⟩=>thn (hi pins s2 σ H2 _ I2 q2) λ iv s3 ⟨y,H3,I3,ry,a,H4,ex,g,q3⟩=>?_) hs;subst ex;obtain rfl:u=Value.ref a:=rx;exact zli hu I3 g ry rv λ s4 I4=>⟨σ,H4,I4,q3⟩
end
def zjE {P:Program} {w:World} {H:Hp} (h:Heap) (hb:sysModules < h.objs.size):zaT P w H (h.push { cls:=.type "dict",data:=.dict #[] }) h.objs.size (.dT []):=
 ⟨yaY _,beq_eq_false_iff_ne.mpr (ycX (yax hb)),[],.nil,_,#[],0,yao _ rfl,⟨rfl,rfl,rfl⟩,rfl,rfl,List.nodup_nil⟩
noncomputable def znD:TE:=λ _ H Q=>∀ p,H p=none -> Q (.ref p) (upd H p (.dT []))
section
variable {X:Cx} {pos:Pos}
def zm6:PE X (.Dict [] [] pos) znD:=λ pins s σ H Q I h=>
 wpAny_Dict_empty ⟨.ref s.heap.objs.size,_,I.laid (a:=s.heap.objs.size) (o:=.dT []) (t':=s.toks) (λ _ _ q=>yae _ q) (yag _) (zjE s.heap I.big),rfl,h _ (I.hok.fresh (yag _))⟩
end
noncomputable def znJ:List (TE × TE) -> St -> Hp -> (List (V × V) -> Hp -> Prop) -> Prop
 | [],_,H,Q=>Q [] H
 | (tk,tv) :: r,σ,H,Q=>tk σ H λ x H1=>tv σ H1 λ y H2=>znJ r σ H2 λ ps H3=>Q ((x,y) :: ps) H3
noncomputable abbrev VV:List (V × V) -> List (Value × Value) -> Prop:=Paired λ p q=>RelV p.1 q.1 /\ RelV p.2 q.2
noncomputable def PPs (X:Cx) (pos:Pos) (keys:List (Option Expr)) (values:List Expr) (trs:List (TE × TE)):Prop:=
 ∀ (pins:List (Addr × Obj)) (s:Shared) (σ:St) (H:Hp) (Q:List (V × V) -> Hp -> Prop),Inv X pins σ H s -> znJ trs σ H Q ->
  wpAny (model X.prog X.w) X.A (evalPairs (pairTrees keys values X.env pos)) (λ vs s'=>∃ ps H',Inv X pins σ H' s' /\ VV ps vs /\ Q ps H') X.xe s
def zor {X:Cx} {pos:Pos}:PPs X pos [] [] []:=λ pins s σ H Q I h=>pairTrees_nil_walk ⟨[],H,I,.nil,h⟩
def znj {X:Cx} {pos:Pos} {k v:Expr} {ks:List (Option Expr)} {vs:List Expr} {tk tv:TE} {trs:List (TE × TE)} (hk:PE X k tk) (hv:PE X v tv) (hr:PPs X pos ks vs trs) :
  PPs X pos (some k :: ks) (v :: vs) ((tk,tv) :: trs):=λ pins s σ H Q I h=>
 pairTrees_cons_walk (thn (hk pins s σ H _ I h) λ u s1 ⟨x,H1,I1,rx,q1⟩=>thn (hv pins s1 σ H1 _ I1 q1) λ w2 s2 ⟨y,H2,I2,ry,q2⟩=>
  thn (hr pins s2 σ H2 _ I2 q2) λ ws s3 ⟨ps,H3,I3,rel,q3⟩=>⟨(x,y) :: ps,H3,I3,.cons ⟨rx,ry⟩ rel,q3⟩)
structure M2 (X:Cx) (o:Expr) (m:Str) (apos:Pos) (e f:Expr) (cpos:Pos):Prop where
 base:attributeBase o m X.env (eval o X.env)=eval o X.env
 few:((backTo cpos (starEach [e,f] X.env)).all (λ x=>!x.1) && (backToKw cpos (keywordEach [] X.env)).all (λ x=>x.1.isSome)
  && decide (([e,f]:List Expr).length + ([]:List Keyword).length + (if ([]:List Keyword).isEmpty then 0 else 1) < 30))=true
 line:(apos.endLine == cpos.line)=true
 trees:backTo cpos (starEach [e,f] X.env)=[(false,eval e X.env),(false,eval f X.env)]
noncomputable def IsD (H:Hp) (a:Addr):Prop:=(∃ kvs,Rd H a (.dK kvs)) \/ ∃ kvs,Rd H a (.dT kvs)
def znL {X:Cx} {pins:List (Addr × Obj)} {σ:St} {H:Hp} {s:Shared} {a:Addr} (I:Inv X pins σ H s) (d:IsD H a) :
  s.TypeIs (.ref a) "dict" /\ (∀ b,Value.ref a=.ref b -> ∃ ob,s.heap.get? b=some ob /\ ob.dict=none) /\ (a == sysModules)=false:=by
 rcases d with ⟨kvs,e⟩ | ⟨kvs,e⟩
 ·obtain ⟨_,hd,vs,_,dd⟩:=zi8 I.hok e;refine ⟨dd.typeIs,λ b q=>?_,hd⟩;cases q;obtain ⟨ob,_,_,h1,h2,_⟩:=dd;exact ⟨ob,h1,h2.2.1⟩
 ·obtain ⟨_,hd,xs,_,dd⟩:=zhR I.hok e;refine ⟨dd.typeIs,λ b q=>?_,hd⟩;cases q;obtain ⟨ob,_,_,h1,h2,_⟩:=dd;exact ⟨ob,h1,h2.2.1⟩
section
variable {X:Cx} {pins:List (Addr × Obj)} {σ:St} {H:Hp} {s:Shared} {a:Addr} {y d:V} {u r:Value} {o:Option V} {A:Around} {E:Value -> Shared -> Prop}
def zps {Q:Value -> Shared -> Prop} (hu:A.units + 1 < cLine) (I:Inv X pins σ H s) (g:DGet H a y o) (ry:RelV y u) (rd:RelV d r) (h:∀ w' s',Inv X pins σ H s' -> RelV (o.getD d) w' -> Q w' s') :
  wpAny (model X.prog X.w) A (call (.builtin "dict.get") [.ref a,u,r]) Q E s:=by
 rcases g with ⟨kvs,k,e,ey,l⟩ | ⟨kvs,k,b,e,ey,eb,l⟩
 ·subst ey;obtain ⟨z,hd,vs,rel,dd⟩:=zi8 I.hok e;refine call_meetsIn ycB dd.typeIs PySem.F.entry_dict_get (PySem.F.args_dict_get_3 _ _ _) (meets_dict_get_default (zaN X.prog X.w) a (zkC ry) hd r) ⟨_,dd.mapOf,h _ _ (I.tok _) ?_⟩;rw [l];exact (rel.val k).getD rd
 ·subst ey;cases (show u=Value.ref b from ry);obtain ⟨z,hd,xs,rel,dd⟩:=zhR I.hok e;refine call_meetsIn ycB dd.typeIs PySem.F.entry_dict_get (PySem.F.args_dict_get_3 _ _ _) (meetsH_dict_get_default (tupleKind (zaN X.prog X.w)) a b hd r) ⟨tupleKind_room_in1 hu,k,xs,zeO I.hok eb,dd,h _ _ (I.tok _) ?_⟩;rw [l];exact (rel.val k).getD rd
end
noncomputable def zmz (td ty tx:TE):TE:=λ σ H Q=>td σ H λ x H1=>∃ a,x=.ref a /\ IsD H1 a /\ ty σ H1 λ y H2=>tx σ H2 λ z H3=>∃ o,DGet H3 a y o /\ Q (o.getD z) H3
section
variable {X:Cx} {o e f:Expr} {apos cpos:Pos} {td ty tx:TE}
def zns (hu:X.A.units + 1 < cLine) (ho:PE X o td) (he:PE X e ty) (hf:PE X f tx) (m:M2 X o "get" apos e f cpos):PE X (.Call (.Attribute o "get" apos) [e,f] [] cpos) (zmz td ty tx):=by
 intro pins s σ H Q I h;refine wpAny_Call_method m.base m.few m.line PySem.F.plainAttrs_dict ycB PySem.F.type_dict_get (thn (ho pins s σ H _ I h) λ u s1 ⟨x,H1,I1,rx,a,ex,d,q1⟩=>?_);subst ex;obtain rfl:u=Value.ref a:=rx;obtain ⟨t1,t2,_⟩:=znL I1 d;refine ⟨t1,t2,?_⟩;rw [m.trees]
 refine ybV rfl (ycI (ybA (thn (he pins s1 σ H1 _ I1 q1) λ iv s2 ⟨y,H2,I2,ry,q2⟩=>
  ybA (thn (hf pins s2 σ H2 _ I2 q2) λ fv s3 ⟨z,H3,I3,rz,ov,g,q3⟩=>yb1 ?_))))
 exact zps hu I3 g ry rz λ w' s4 I4 rw'=>⟨_,H3,I4,rw',q3⟩
end
section
variable {X:Cx} {pins:List (Addr × Obj)} {σ:St} {H:Hp} {s:Shared} {a:Addr} {kvs:List (Key × V)} {A:Around} {E:Value -> Shared -> Prop}
end
section
variable {X:Cx} {pins:List (Addr × Obj)} {σ:St} {H:Hp} {s:Shared} {a:Addr} {y:V} {u:Value} {A:Around} {E:Value -> Shared -> Prop}
end
open Bm
def pv1 {X:Cx} (i:Nat) {x:Str} {pos:Pos} (h:X.N[i]?=some x /\ Vis X.env.scope x /\ (x == ("__debug__":Str))=false /\ (x == ("__classdict__":Str))=false):PE X (.Name x pos) (tVar i):=pv i h.1 h.2.1 h.2.2.1 h.2.2.2
noncomputable def zbO (w:Nat):List Dd -> Dd -> List Dd
 | [],d=>if zb6 w d=true then [] else [d]
 | e :: r,d=>if zb6 w d=true then e :: r else match e.tog w d with
  | none=>d :: e :: r
  | some f=>zbO w r f
def zba {w:Nat} {d:Dd} (h:zb6 w d=true):∀ rs,zbO w rs d=rs
 | []=>by rw [zbO,if_pos h]
 | e :: r=>by rw [zbO,if_pos h]
def zef {w:Nat} {d:Dd} (h:zb6 w d=false):zbO w [] d=[d]:=by rw [zbO,if_neg (by rw [h]; decide)]
def zcW {w:Nat} {d e:Dd} {r:List Dd} (h:zb6 w d=false) (t:e.tog w d=none):zbO w (e :: r) d=d :: e :: r:=by rw [zbO,if_neg (by rw [h]; decide),t]
def zcJ {w:Nat} {d e f:Dd} {r:List Dd} (h:zb6 w d=false) (t:e.tog w d=some f):zbO w (e :: r) d=zbO w r f:=by rw [zbO,if_neg (by rw [h]; decide),t]
def zlg {w:Nat}:∀ (rs:List Dd) (d:Dd),(∀ x ∈ rs,x.ok w) -> d.ok w -> ∀ x ∈ zbO w rs d,x.ok w
 | [],d,_,hd=>by
  cases h:zb6 w d with
  | true=>rw [zba h]; intro x hx; cases hx
  | false=>rw [zef h]; intro x hx; rw [yah.mp hx]; exact hd
 | e :: r,d,hr,hd=>by
  cases h:zb6 w d with
  | true=>rw [zba h]; exact hr
  | false=>
   cases t:e.tog w d with
   | none=>
    rw [zcW h t];intro x hx;rcases yav.mp hx with z | z
    ·rw [z]; exact hd
    ·exact hr x z
   | some f=>rw [zcJ h t]; exact zlg r f (λ x hx=>hr x (.tail _ hx)) (Dd.tog_led (hr e (.head _)) hd t).1
def zc6 (w:Nat) (ds:List Dd) (d:Dd):rowL w (ds ++ [d])=zaA (rowL w ds) (d.led w):=by
 show List.foldl _ _ _=_;rw [ybR];rfl
def zjh {w:Nat}:∀ (rs:List Dd) (d:Dd),(∀ x ∈ rs,x.ok w) -> d.ok w -> rowL w (zbO w rs d).reverse=zaA (rowL w rs.reverse) (d.led w)
 | [],d,_,hd=>by
  cases h:zb6 w d with
  | true=>
   rw [zba h,show d.led w=zaJ w from of_decide_eq_true h];exact (zgr (ziP w)).symm
  | false=>rw [zef h]; exact zc6 w [] d
 | e :: r,d,hr,hd=>by
  have hrr:∀ x ∈ (e :: r).reverse,x.ok w:=λ x hx=>hr x (yca.mp hx);have hr1:∀ x ∈ r.reverse,x.ok w:=λ x hx=>hr x (.tail _ (yca.mp hx));cases h:zb6 w d with
  | true=>
   rw [zba h,show d.led w=zaJ w from of_decide_eq_true h];exact (zgr (zif hrr)).symm
  | false=>
   cases t:e.tog w d with
   | none=>rw [zcW h t,ybt,zc6]
   | some f=>
    have g:=Dd.tog_led (hr e (.head _)) hd t;rw [zcJ h t,zjh r f (λ x hx=>hr x (.tail _ hx)) g.1,g.2,ybt,zc6,zkx (e.led_ld (hr e (.head _))) (d.led_ld hd)]
def zgE {w:Nat}:∀ (rs:List Dd) (d:Dd),(zbO w rs d).length <= rs.length + 1
 | [],d=>by
  cases h:zb6 w d with
  | true=>rw [zba h]; simp
  | false=>rw [zef h]; simp
 | e :: r,d=>by
  cases h:zb6 w d with
  | true=>rw [zba h]; simp
  | false=>
   cases t:e.tog w d with
   | none=>rw [zcW h t]; simp
   | some f=>rw [zcJ h t]; have:=zgE (w:=w) r f; simp; omega
def zgf {w:Nat} {ds:List Dd} {d:Dd} (h:zcg w ds=true) (h1:d.led w ≠ zaJ w) (h2:∀ e,ds[ds.length - 1]?=some e -> e.tog w d=none):zcg w (ds ++ [d])=true:=by
 have:=zkm (ds:=ds ++ [d]) (k:=ds.length) (d:=d) (by rw [List.take_left]; exact h) (5:) h1 (λ e h0 he=>h2 e (by rw [yaO (1:)] at he; exact he));rw [yaq (5:)] at this;exact this
def zgn {w:Nat}:∀ (rs:List Dd) (d:Dd),zcg w rs.reverse=true -> zcg w (zbO w rs d).reverse=true
 | [],d,hs=>by
  cases h:zb6 w d with
  | true=>rw [zba h]; exact hs
  | false=>
   rw [zef h];exact zgf (ds:=[]) rfl (of_decide_eq_false h) (λ e he=>by simp at he)
 | e :: r,d,hs=>by
  cases h:zb6 w d with
  | true=>rw [zba h]; exact hs
  | false=>
   cases t:e.tog w d with
   | none=>
    rw [zcW h t,ybt];refine zgf hs (of_decide_eq_false h) λ x hx=>?_;rw [ybt] at hx;simp at hx;rw [<- hx];exact t
   | some f=>
    rw [zcJ h t];refine zgn r f ?_;have:=zkq hs r.reverse.length;rw [ybt,List.take_left] at this;exact this
noncomputable def zaC (w:Nat) (ds:List Dd):List Dd:=ds.foldl (zbO w) []
def zeU (w:Nat) (ds:List Dd) (d:Dd):zaC w (ds ++ [d])=zbO w (zaC w ds) d:=by
 unfold zaC;rw [ybR];rfl
def zfR {w:Nat} (ds:List Dd) (hok:∀ d ∈ ds,d.ok w):(∀ d ∈ zaC w ds,d.ok w) /\ rowL w (zaC w ds).reverse=rowL w ds /\ zcg w (zaC w ds).reverse=true /\ (zaC w ds).length <= ds.length:=by
 have key:∀ n,n <= ds.length -> (∀ d ∈ zaC w (ds.take n),d.ok w) /\ rowL w (zaC w (ds.take n)).reverse=rowL w (ds.take n) /\ zcg w (zaC w (ds.take n)).reverse=true /\ (zaC w (ds.take n)).length <= n:=by
  intro n
  induction n with
  | zero=>intro _; exact ⟨λ d hd=>(nomatch hd),rfl,rfl,yag _⟩
  | succ n ih=>
   intro hn;obtain ⟨a1,a2,a3,a4⟩:=ih (1:);obtain ⟨d,hd⟩:∃ d,ds[n]?=some d:=⟨_,yab (1:)⟩
   have hdo:=hok d (yar hd);rw [yaG,hd];show (∀ x ∈ zaC w (ds.take n ++ [d]),x.ok w) /\ rowL w (zaC w (ds.take n ++ [d])).reverse=rowL w (ds.take n ++ [d]) /\ zcg w (zaC w (ds.take n ++ [d])).reverse=true /\ (zaC w (ds.take n ++ [d])).length <= n + 1;rw [zeU,zc6,zjh _ d a1 hdo,a2];have:=zgE (w:=w) (zaC w (ds.take n)) d;exact ⟨zlg _ d a1 hdo,rfl,zgn _ d a3,by omega⟩
 have:=key ds.length (yag _);rw [yaq (yag _)] at this;exact this
noncomputable def zaw (l:Addr) (H H':Hp):Prop:=∀ b o,b ≠ l -> H b=some o -> H' b=some o
def zaw.refl (l:Addr) (H:Hp):zaw l H H:=λ _ _ _ h=>h
def zaw.trans {l:Addr} {H H1 H2:Hp} (a:zaw l H H1) (b:zaw l H1 H2):zaw l H H2:=λ c o n h=>b c o n (a c o n h)
def Same.keepBut {l:Addr} {H H':Hp} (s:Same H H'):zaw l H H':=λ b o _ h=>s b o h
def zaw.upd (l:Addr) (H:Hp) (o:HO):zaw l H (L2.upd H l o):=λ b u n h=>by rw [zan n]; exact h
def zaw.same {l:Addr} {H H0 H':Hp} (k:zaw l H0 H') (s:Same H H0) (h:H l=none):Same H H':=λ b o e=>k b o (zao e h) (s b o e)
noncomputable def zfI:Sp:=λ vs H Q _=>∃ (w:Nat) (l a:Addr) (L:List (Addr × Dd)) (d:Dd),vs=[nV w,.ref l,.ref a] /\ H l=some (.lst (rowV L)) /\ Rw H w L /\ H a=some (.tup d.vals) /\ d.ok w /\ 1 <= w /\ w <= 64 /\ L.length <= 20000 /\
 ∀ (M:List (Addr × Dd)) (H':Hp),(dds M).reverse=zbO w (dds L).reverse d -> Rw H' w M -> H' l=some (.lst (rowV M)) -> zaw l H H' -> Q .non H'
noncomputable def zfD:Sp:=λ vs H Q _=>∃ (w:Nat) (a:Addr) (L:List (Addr × Dd)),vs=[nV w,.ref a] /\ SqH H a (rowV L) /\ Rw H w L /\ 1 <= w /\ w <= 64 /\ L.length <= 10000 /\
 ∀ (l:Addr) (M:List (Addr × Dd)) (H':Hp),(dds M).reverse=zaC w (dds L) -> Rw H' w M -> H l=none -> H' l=some (.lst (rowV M)) -> Same H H' -> Q (.ref l) H'
inductive Nt (H:Hp):V -> Prop where
 | non:Nt H .non
 | bl (b:Bool):Nt H (.bl b)
 | int (i:Int):Nt H (.int i)
 | str (s:Str):Nt H (.str s)
 | lst {a:Addr} {xs:List V} (e:H a=some (.lst xs)):Nt H (.ref a)
noncomputable def Kd (H:Hp) (v:V):Prop:=Nt H v \/ ∃ a xs,v=.ref a /\ H a=some (.tup xs)
def Nt.same {H H':Hp} {v:V} (h:Nt H v) (s:Same H H'):Nt H' v:=by
 cases h with
 | non=>exact .non
 | bl b=>exact .bl b
 | int i=>exact .int i
 | str x=>exact .str x
 | lst e=>exact .lst (s _ _ e)
def Kd.same {H H':Hp} {v:V} (h:Kd H v) (s:Same H H'):Kd H' v:=h.elim (λ z=>.inl (z.same s)) (λ ⟨a,xs,e,z⟩=>.inr ⟨a,xs,e,s _ _ z⟩)
noncomputable def zje:V -> Bool
 | .int _=>true
 | _=>false
noncomputable def znt:V -> Bool
 | .bl _=>true
 | _=>false
def zkM {K:PySem.W.Frag} {v:V} {H:Hp} {Q:VK} (hv:Nt H v) (h:Q (.bl false) H):rIsi K [v,.ty "tuple"] H Q:=by
 cases hv with
 | non=>exact ⟨_,"tuple",_,false,rfl,TyOf.non,rfl,h⟩
 | bl b=>exact ⟨_,"tuple",_,false,rfl,TyOf.bl b,rfl,h⟩
 | int i=>exact ⟨_,"tuple",_,false,rfl,TyOf.int i,rfl,h⟩
 | str x=>exact ⟨_,"tuple",_,false,rfl,TyOf.str x,rfl,h⟩
 | lst e=>exact ⟨_,"tuple",_,false,rfl,TyOf.lst e,rfl,h⟩
def zlM {K:PySem.W.Frag} {v:V} {H:Hp} {Q:VK} (hv:Kd H v) (h:Q (.bl (znt v)) H):rIsi K [v,.ty "bool"] H Q:=by
 rcases hv with hv | ⟨a,xs,rfl,e⟩
 ·cases hv with
  | non=>exact ⟨_,"bool",_,false,rfl,TyOf.non,rfl,h⟩
  | bl b=>exact ⟨_,"bool",_,true,rfl,TyOf.bl b,rfl,h⟩
  | int i=>exact ⟨_,"bool",_,false,rfl,TyOf.int i,rfl,h⟩
  | str x=>exact ⟨_,"bool",_,false,rfl,TyOf.str x,rfl,h⟩
  | lst e=>exact ⟨_,"bool",_,false,rfl,TyOf.lst e,rfl,h⟩
 ·exact ⟨_,"bool",_,false,rfl,TyOf.tup e,rfl,h⟩
def zko {K:PySem.W.Frag} {v:V} {H:Hp} {Q:VK} (hv:Kd H v) (h:Q (.bl (zje v || znt v)) H):rIsi K [v,.ty "int"] H Q:=by
 rcases hv with hv | ⟨a,xs,rfl,e⟩
 ·cases hv with
  | non=>exact ⟨_,"int",_,false,rfl,TyOf.non,rfl,h⟩
  | bl b=>exact ⟨_,"int",_,true,rfl,TyOf.bl b,rfl,h⟩
  | int i=>exact ⟨_,"int",_,true,rfl,TyOf.int i,rfl,h⟩
  | str x=>exact ⟨_,"int",_,false,rfl,TyOf.str x,rfl,h⟩
  | lst e=>exact ⟨_,"int",_,false,rfl,TyOf.lst e,rfl,h⟩
 ·exact ⟨_,"int",_,false,rfl,TyOf.tup e,rfl,h⟩
noncomputable def zaz (v:V) (lo hi:Int):Bool:=match v with
 | .int i=>decide (lo <= i) && decide (i <= hi)
 | _=>false
noncomputable def zrq (xs:List V):Bool:=decide (1 <= xs.length) && decide (xs.length <= 64) && xs.all λ v=>zaz v (-2) ((xs.length:Int) - 1)
noncomputable def zrK (H:Hp) (v:V) (r:Bool):Prop:=(∃ a xs,v=.ref a /\ H a=some (.tup xs) /\ (∀ x ∈ xs,Kd H x) /\ xs.length <= 10000 /\ r=zrq xs) \/ (Nt H v /\ r=false)
noncomputable def zhq:Sp:=λ vs H Q _=>∃ (v:V) (lo hi:Int),vs=[v,.int lo,.int hi] /\ Kd H v /\ Q (.bl (zaz v lo hi)) H
noncomputable def ToldP (p:Addr) (H:Hp) (v:V):Prop:=v ≠ .ref p /\ ((∃ a xs,v=.ref a /\ H a=some (.tup xs) /\ (∀ x ∈ xs,Kd H x /\ x ≠ .ref p) /\ xs.length <= 10000) \/ Nt H v)
inductive Kx (H:Hp):V -> Prop where
 | non:Kx H .non
 | bl (b:Bool):Kx H (.bl b)
 | int (i:Int):Kx H (.int i)
 | str (s:Str) (h:shpd (.str s)=true):Kx H (.str s)
 | lst {a:Addr} (is:List Int) (e:H a=some (.lst (is.map V.int))):Kx H (.ref a)
 | tup {a:Addr} (is:List Int) (hl:is.length <= 1) (e:H a=some (.tup (is.map V.int))):Kx H (.ref a)
def Kx.kd {H:Hp} {v:V} (h:Kx H v):Kd H v:=by
 cases h with
 | non=>exact .inl .non
 | bl b=>exact .inl (.bl b)
 | int i=>exact .inl (.int i)
 | str x _=>exact .inl (.str x)
 | lst is e=>exact .inl (.lst e)
 | tup is _ e=>exact .inr ⟨_,_,rfl,e⟩
def Kx.same {H H':Hp} {v:V} (h:Kx H v) (s:Same H H'):Kx H' v:=by
 cases h with
 | non=>exact .non
 | bl b=>exact .bl b
 | int i=>exact .int i
 | str x h=>exact .str x h
 | lst is e=>exact .lst is (s _ _ e)
 | tup is l e=>exact .tup is l (s _ _ e)
noncomputable def eqS (s:Str):V -> Bool
 | .str t=>s == t
 | _=>false
noncomputable def inS (ss:List Str) (v:V):Bool:=ss.any λ s=>eqS s v
def zms:∀ is:List Int,PyData.depthAll (is.map .int) <= 1
 | []=>by simp [PyData.depthAll]
 | i :: is=>by
  have:=zms is;simp only [yaP,PyData.depthAll,PyData.depth];omega
def Kx.dat {K:PySem.W.Frag} {H:Hp} {v:V} (h:Kx H v):∃ d:PyData,DatV K H d v /\ shpd d=true /\ d.depth <= 8 /\ (∀ s:Str,PyData.eqv (.str s) d=eqS s v) /\ ∀ s:Str,PyData.eqv d (.str s)=eqS s v:=by
 cases h with
 | non=>exact ⟨.none,.none K H,rfl,by simp [PyData.depth],λ s=>by simp [PyData.eqv,eqS],λ s=>by simp [PyData.eqv,eqS]⟩
 | bl b=>exact ⟨.bool b,.bool K H b,rfl,by simp [PyData.depth],λ s=>by simp [PyData.eqv,eqS],λ s=>by simp [PyData.eqv,eqS]⟩
 | int i=>exact ⟨.int i,.int K H i,rfl,by simp [PyData.depth],λ s=>by simp [PyData.eqv,eqS],λ s=>by simp [PyData.eqv,eqS]⟩
 | str x h=>exact ⟨.str x,.str K H x,h,by simp [PyData.depth],λ s=>by simp [PyData.eqv,eqS],λ s=>by
   simp only [PyData.eqv,eqS];by_cases c:s=x
   ·subst c; rfl
   ·rw [beq_eq_false_iff_ne.mpr c,beq_eq_false_iff_ne.mpr λ z=>c z.symm]⟩
 | lst is e=>exact ⟨.list (is.map .int),.list (SqL.of e) (DatVs.ints K H is),zlB is,by have:=zms is; simp only [PyData.depth]; omega,λ s=>by simp [PyData.eqv,eqS],λ s=>by simp [PyData.eqv,eqS]⟩
 | tup is _ e=>exact ⟨.tuple (is.map .int),.tuple (SqT.of e) (DatVs.ints K H is),zca is,by have:=zms is; simp only [PyData.depth]; omega,λ s=>by simp [PyData.eqv,eqS],λ s=>by simp [PyData.eqv,eqS]⟩
section
variable {X:Cx} {K:PySem.W.Frag}
noncomputable def rInX (K:PySem.W.Frag):R2:=λ x y H Q=>∃ (d:PyData) (xs:List PyData),DatV K H d x /\ DatV K H (.tuple xs) y /\ shpd d=true /\ d.depth <= 8 /\ PyData.canLayAll0 xs=true /\ Q (.bl (xs.any λ e=>PyData.eqv e d)) H
def zpF (hu:X.A.units + 64 < cLine):OpR X (compareOp .In) (rInX X.K):=by
 intro pins s σ H x y v u Q I rx ry h;obtain ⟨d,xs,hx,hy,h1,h2,h3,q⟩:=h;obtain ⟨as,ra⟩:=DatV.reads I d hx rx;obtain ⟨bs,rb⟩:=DatV.reads I _ hy ry;exact SeqAt.in_tuple_reads rb ra h3 (SeqAt.canLay_of_shaped h1) (1:) ⟨.bl _,H,I,rfl,q⟩
def zpo (hu:X.A.units + 64 < cLine) (hK:X.K=K:=by rfl):OpR X (compareOp .In) (rInX K):=hK ▸ zpF hu
end
def datv_ss' (K:PySem.W.Frag) (H:Hp):∀ ss:List Str,DatVs K H (ss.map PyData.str) (ss.map V.str)
 | []=>.nil
 | s :: ss=>.cons (.str K H s) (datv_ss' K H ss)
def ziy (ss:List Str) (d:PyData) (v:V) (h:∀ s:Str,PyData.eqv (.str s) d=eqS s v):((ss.map PyData.str).any λ e=>PyData.eqv e d)=inS ss v:=by
 rw [List.any_map];unfold inS;congr 1
 funext s
 exact h s
def zqy {K:PySem.W.Frag} {v:V} {t:Addr} {ss:List Str} {H:Hp} {Q:VK} (hv:Kx H v) (ht:H t=some (.tup (ss.map V.str))) (hs:PyData.canLayAll0 (ss.map PyData.str)=true) (h:Q (.bl (inS ss v)) H):rInX K v (.ref t) H Q:=by
 obtain ⟨d,hd,h1,h2,h3,_⟩:=hv.dat (K:=K);exact ⟨d,ss.map PyData.str,hd,.tuple (SqT.of ht) (datv_ss' K H ss),h1,h2,hs,by rw [ziy ss d v h3]; exact h⟩
def zoU {K:PySem.W.Frag} {v:V} {s:Str} {H:Hp} {Q:VK} (hv:Kx H v) (hs:shpd (.str s)=true) (h:Q (.bl (eqS s v)) H):rEqU K v (.str s) H Q:=by
 obtain ⟨d,hd,h1,_,_,h4⟩:=hv.dat (K:=K);exact ⟨d,.str s,hd,.str K H s,h1,hs,by rw [h4]; exact h⟩
noncomputable def zaO (w:Nat) (a b:V):Bool:=if inS ["and","or","gather","strew"] a then zaz b 0 ((2 ^ w - 1:Nat):Int) else if inS ["left","right"] a then zaz b 0 (w:Int) else eqS "turn" a && zaz b 0 ((w:Int) - 1)
noncomputable def natV:V -> Nat
 | .int i=>i.toNat
 | _=>0
noncomputable def intV:V -> Int
 | .int i=>i
 | _=>0
noncomputable def zbo (w:Nat) (a m n:V):Bool:=zaz m 0 ((2 ^ w - 1:Nat):Int) && (if eqS "swap" a then zaz n 1 ((w:Int) - 1) && (zc1 w (natV m) (intV n) && decide ((natV m &&& natV m * 2 ^ natV n)=0)) else if eqS "copy" a then zaz n (1 - (w:Int)) ((w:Int) - 1) && (intV n != 0) && zc1 w (natV m) (intV n) else false)
noncomputable def zdm (w:Nat):List V -> Bool
 | [a,b]=>zaO w a b
 | [a,m,n]=>zbo w a m n
 | _=>false
noncomputable def Tu (H:Hp) (a:Addr) (xs:List V):Prop:=H a=some (.tup xs) /\ (∀ x ∈ xs,Kd H x) /\ xs.length <= 1000 /\ ∀ x r,xs=x :: r -> r ≠ [] -> Kx H x
noncomputable def zji (w:Nat) (H:Hp) (v:V) (r:Bool):Prop:=(∃ a xs,v=.ref a /\ Tu H a xs /\ r=zdm w xs) \/ (Nt H v /\ r=false)
noncomputable def Th (H:Hp) (v:V):Prop:=(∃ a xs,v=.ref a /\ Tu H a xs) \/ Nt H v
noncomputable def zjC:Sp:=λ vs H Q _=>∃ (w:Nat) (a b:V),vs=[nV w,a,b] /\ Kx H a /\ Kd H b /\ 1 <= w /\ w <= 64 /\ ∀ H',Same H H' -> Q (.bl (zaO w a b)) H'
noncomputable def zjm:Sp:=λ vs H Q _=>∃ (w:Nat) (a m n:V),vs=[nV w,a,m,n] /\ Kx H a /\ Kd H m /\ Kd H n /\ 1 <= w /\ w <= 64 /\ ∀ H',Same H H' -> Q (.bl (zbo w a m n)) H'
noncomputable def zh9:Sp:=λ vs H Q _=>∃ (w:Nat) (v:V) (r:Bool),vs=[nV w,v] /\ zji w H v r /\ 1 <= w /\ w <= 64 /\ ∀ H',Same H H' -> Q (.bl r) H'
def zgX {ss:List Str} {s:Str}:inS ss (.str s)=true ↔ s ∈ ss:=by
 unfold inS eqS;rw [List.any_eq_true];constructor
 ·rintro ⟨x,hx,e⟩;have:=eq_of_beq e;subst this; exact hx
 ·intro h;exact ⟨s,h,beq_self_eq_true s⟩
def zon (a s:Str):eqS a (.str s)=decide (s=a):=by
 unfold eqS;by_cases c:s=a
 ·subst c; simp
 ·rw [decide_eq_false c]; exact beq_eq_false_iff_ne.mpr λ z=>c z.symm
def zcp {x:Int} {w:Nat}:zaz (.int x) 0 ((2 ^ w - 1:Nat):Int)=(decide (0 <= x) && decide (x < (2 ^ w:Nat))):=by
 have:=ybz w;show (decide (0 <= x) && decide (x <= ((2 ^ w - 1:Nat):Int)))=_;congr 1;apply decide_eq_decide.mpr;omega
def zfL {w:Nat} {s:Str} {x:Int} (h:inS ["left","right","turn"] (.str s)=true):zdm w [.str s,.int x]=(decide (0 <= x) && decide (x <= (w:Int) - (if eqS "turn" (.str s)=true then 1 else 0))):=by
 rw [zgX] at h;simp only [yav,ya2,or_false] at h;show zaO w (.str s) (.int x)=_;rcases h with rfl | rfl | rfl
 ·rw [zaO,if_neg (20:),if_pos (20:),if_neg (20:),Int.sub_zero]; rfl
 ·rw [zaO,if_neg (20:),if_pos (20:),if_neg (20:),Int.sub_zero]; rfl
 ·rw [zaO,if_neg (20:),if_neg (20:),if_pos (20:),show eqS "turn" (.str "turn")=true by decide +kernel]; rfl
def ziw {w:Nat} {s:Str} {x:Int} (h:inS ["left","right","turn"] (.str s)=false):zdm w [.str s,.int x]=(inS ["and","or","gather","strew"] (.str s) && (decide (0 <= x) && decide (x < (2 ^ w:Nat)))):=by
 show zaO w (.str s) (.int x)=_
 have e1:inS ["left","right"] (.str s)=false:=by
  apply yb3.mpr;intro z;rw [zgX] at z;exact yb3.mp h (zgX.mpr (by simp only [yav,ya2,or_false] at z ⊢; exact z.elim .inl λ y=>.inr (.inl y)))
 have e2:eqS "turn" (.str s)=false:=by
  apply yb3.mpr;intro z;rw [zon,decide_eq_true_iff] at z;exact yb3.mp h (zgX.mpr (by simp only [yav,ya2,or_false]; exact .inr (.inr z)))
 rw [zaO,e1,e2,zcp];cases inS ["and","or","gather","strew"] (.str s) <;> simp
def zhV {w:Nat} {s:Str} {x:Int} {n:V} (h:(decide (0 <= x) && decide (x < (2 ^ w:Nat)))=false):zdm w [.str s,.int x,n]=false:=by
 show zbo w (.str s) (.int x) n=false;rw [zbo,zcp,h,ycx]
def zeI {w m:Nat} {n:Int} (h:m < 2 ^ w):zdm w [.str "swap",nV m,.int n]=(decide (1 <= n) && decide (n <= (w:Int) - 1) && (zc1 w m n && decide ((m &&& m * 2 ^ n.toNat)=0))):=by
 show zbo w (.str "swap") (nV m) (.int n)=_
 rw [zbo,show zaz (nV m) 0 ((2 ^ w - 1:Nat):Int)=true by
  rw [show nV m=.int (m:Int) from rfl,zcp,decide_eq_true (show (0:Int) <= (m:Int) by omega),decide_eq_true (show (m:Int) < ((2 ^ w:Nat):Int) from ycW.mpr h)]; rfl,ycM,if_pos (20:)]
 rfl
def zf8 {w m:Nat} {n:Int} (h:m < 2 ^ w):zdm w [.str "copy",nV m,.int n]=(decide (1 - (w:Int) <= n) && decide (n <= (w:Int) - 1) && (n != 0) && zc1 w m n):=by
 show zbo w (.str "copy") (nV m) (.int n)=_
 rw [zbo,show zaz (nV m) 0 ((2 ^ w - 1:Nat):Int)=true by
  rw [show nV m=.int (m:Int) from rfl,zcp,decide_eq_true (show (0:Int) <= (m:Int) by omega),decide_eq_true (show (m:Int) < ((2 ^ w:Nat):Int) from ycW.mpr h)]; rfl,ycM,if_neg (20:),if_pos (20:)]
 rfl
noncomputable def KxP (p:Addr) (H:Hp) (v:V):Prop:=Kx H v /\ v ≠ .ref p
def Dd.kx {H:Hp} (d:Dd):(∀ x ∈ d.vals,Kx H x):=by
 intro x hx;cases d <;> simp only [Dd.vals,yav,ya2,or_false] at hx
 all_goals rcases hx with rfl | rfl | rfl
 all_goals first | exact .str _ (20:) | exact .int _
def within_nat' {x:Nat} {lo hi:Int} (h1:lo <= (x:Int)) (h2:(x:Int) <= hi):zaz (nV x) lo hi=true:=by
 show (decide _ && decide _)=true;rw [decide_eq_true h1,decide_eq_true h2]; rfl
def zcw {x w:Nat} (h:x < 2 ^ w):zaz (nV x) 0 ((2 ^ w - 1:Nat):Int)=true:=within_nat' (1:) (1:)
def Dd.deedV_ok {w:Nat} {d:Dd} (h:d.ok w):zdm w d.vals=true:=by
 cases d with
 | and m=>show zaO w (.str "and") (nV m)=true; rw [zaO,if_pos (20:),zcw h]
 | or m=>show zaO w (.str "or") (nV m)=true; rw [zaO,if_pos (20:),zcw h]
 | gather m=>show zaO w (.str "gather") (nV m)=true; rw [zaO,if_pos (20:),zcw h]
 | strew m=>show zaO w (.str "strew") (nV m)=true; rw [zaO,if_pos (20:),zcw h]
 | left n=>
  have h':n <= w:=h;show zaO w (.str "left") (nV n)=true; rw [zaO,if_neg (20:),if_pos (20:),within_nat' (1:) (1:)]
 | right n=>
  have h':n <= w:=h;show zaO w (.str "right") (nV n)=true; rw [zaO,if_neg (20:),if_pos (20:),within_nat' (1:) (1:)]
 | turn n=>
  have h':n < w:=h;show zaO w (.str "turn") (nV n)=true; rw [zaO,if_neg (20:),if_neg (20:),within_nat' (1:) (1:)];decide +kernel
 | swap m n=>
  have hm:m < 2 ^ w:=Dd.mask_lt (d:=.swap m n) h;obtain ⟨h1,h2,hp⟩:=h;rw [show (Dd.swap m n).vals=[.str "swap",nV m,.int (n:Int)] from rfl,zeI hm,decide_eq_true (show (1:Int) <= (n:Int) by omega),decide_eq_true (show (n:Int) <= (w:Int) - 1 by omega),zek.mpr (λ p hq=>by have:=(hp p hq).1; omega),yaw,decide_eq_true (zfl.mpr λ p hq=>(hp p hq).2)];rfl
 | copy m n=>
  obtain ⟨h0,h1,h2,hm,hp⟩:=h;rw [show (Dd.copy m n).vals=[.str "copy",nV m,.int n] from rfl,zf8 hm,decide_eq_true (show 1 - (w:Int) <= n by omega),decide_eq_true (show n <= (w:Int) - 1 by omega),zek.mpr hp,show (n != 0)=true from bne_iff_ne.mpr h0];rfl
noncomputable def ThP (p:Addr) (H:Hp) (v:V):Prop:=v ≠ .ref p /\ ((∃ a xs,v=.ref a /\ H a=some (.tup xs) /\ (∀ x ∈ xs,KxP p H x) /\ xs.length <= 1000) \/ Nt H v)
noncomputable def RowIs (w:Nat) (H:Hp) (v:V) (r:Bool):Prop:=(∃ (a:Addr) (xs:List V) (f:Nat -> Bool),v=.ref a /\ SqH H a xs /\ (∀ i x,xs[i]?=some x -> zji w H x (f i)) /\ xs.length <= 1000 /\ r=(List.range xs.length).all f) \/ (zcP v=true /\ r=false)
noncomputable abbrev En:=Nat × List Int
noncomputable def nmE:List Str:=["and","or","left","right","turn","swap","gather","strew","copy"]
noncomputable def nmK (k:Nat):Str:=nmE.getD k "and"
noncomputable def dec (e:En):List V:=.str (nmK e.1) :: e.2.map V.int
noncomputable def zdn (w k i:Nat):List En:=(List.range i).flatMap λ (x:Nat)=>(k,[(x:Int)]) :: (List.range (2 * w - 1)).map λ (j:Nat)=>(k,[(x:Int),(1 - (w:Int)) + (j:Int)])
noncomputable def zf2 (w:Nat) (e:En):Bool:=match e.2 with
 | [b]=>if e.1=0 \/ e.1=1 \/ e.1=6 \/ e.1=7 then zaz (.int b) 0 ((2 ^ w - 1:Nat):Int) else if e.1=2 \/ e.1=3 then zaz (.int b) 0 (w:Int) else decide (e.1=4) && zaz (.int b) 0 ((w:Int) - 1)
 | [m,n]=>zaz (.int m) 0 ((2 ^ w - 1:Nat):Int) && (if e.1=5 then zaz (.int n) 1 ((w:Int) - 1) && (zc1 w m.toNat n && decide ((m.toNat &&& m.toNat * 2 ^ n.toNat)=0)) else if e.1=8 then zaz (.int n) (1 - (w:Int)) ((w:Int) - 1) && (n != 0) && zc1 w m.toNat n else false)
 | _=>false
def zlY (w k:Nat) (is:List Int) (h:k < 9):zdm w (dec (k,is))=zf2 w (k,is):=by
 have hk:k=0 \/ k=1 \/ k=2 \/ k=3 \/ k=4 \/ k=5 \/ k=6 \/ k=7 \/ k=8:=by omega
 match is with
 | []=>rfl
 | [b]=>
  show zaO w (.str (nmK k)) (.int b)=zf2 w (k,[b]);have a1:inS ["and","or","gather","strew"] (.str (nmK k))=decide (k=0 \/ k=1 \/ k=6 \/ k=7):=by rcases hk with rfl | rfl | rfl | rfl | rfl | rfl | rfl | rfl | rfl <;> decide +kernel
  have a2:inS ["left","right"] (.str (nmK k))=decide (k=2 \/ k=3):=by rcases hk with rfl | rfl | rfl | rfl | rfl | rfl | rfl | rfl | rfl <;> decide +kernel
  have a3:eqS "turn" (.str (nmK k))=decide (k=4):=by rcases hk with rfl | rfl | rfl | rfl | rfl | rfl | rfl | rfl | rfl <;> decide +kernel
  rw [zaO,a1,a2,a3];simp only [decide_eq_true_eq,zf2]
 | [m,n]=>
  show zbo w (.str (nmK k)) (.int m) (.int n)=zf2 w (k,[m,n]);have a1:eqS "swap" (.str (nmK k))=decide (k=5):=by rcases hk with rfl | rfl | rfl | rfl | rfl | rfl | rfl | rfl | rfl <;> decide +kernel
  have a2:eqS "copy" (.str (nmK k))=decide (k=8):=by rcases hk with rfl | rfl | rfl | rfl | rfl | rfl | rfl | rfl | rfl <;> decide +kernel
  rw [zbo,a1,a2];simp only [decide_eq_true_eq,zf2,natV,intV];rfl
 | _ :: _ :: _ :: _=>rfl
noncomputable def allF (w n:Nat):List En:=(List.range n).flatMap λ k=>(zdn w k (2 ^ w)).filter (zf2 w)
noncomputable def oneF (k n:Nat):List En:=(List.range n).map λ (x:Nat)=>(k,[(x:Int)])
noncomputable def zrD (w m:Nat):List En:=((List.range (w - 1)).filter λ (j:Nat)=>zc1 w m (1 + (j:Int)) && decide (m &&& m * 2 ^ (1 + j)=0)).map λ (j:Nat)=>(5,[(m:Int),1 + (j:Int)])
noncomputable def zrp (w m:Nat):List En:=((List.range (2 * w - 1)).filter λ (j:Nat)=>((1 - (w:Int)) + (j:Int) != 0) && zc1 w m ((1 - (w:Int)) + (j:Int))).map λ (j:Nat)=>(8,[(m:Int),(1 - (w:Int)) + (j:Int)])
noncomputable def lawF (w:Nat):List En:=oneF 0 (2 ^ w) ++ oneF 1 (2 ^ w) ++ oneF 2 (w + 1) ++ oneF 3 (w + 1) ++ oneF 4 w ++ (List.range (2 ^ w)).flatMap (zrD w) ++ oneF 6 (2 ^ w) ++ oneF 7 (2 ^ w) ++ (List.range (2 ^ w)).flatMap (zrp w)
def zle (w:Nat) (h1:1 <= w) (h4:w <= 4):allF w 9=lawF w:=by
 have:w=1 \/ w=2 \/ w=3 \/ w=4:=by omega
 rcases this with rfl | rfl | rfl | rfl
 ·decide +kernel
 ·decide +kernel
 ·decide +kernel
 ·decide +kernel
def znX {ta:TA} {σ:St} {H:Hp} {R:It -> Hp -> Prop} (h:ta σ H λ vs H1=>∃ i j:Int,vs=[.int i,.int j] /\ (-(2 ^ 62) <= i /\ i < 2 ^ 62 /\ -(2 ^ 62) <= j /\ j < 2 ^ 62) /\ R (Itr i (j - i).toNat) H1):zp1 ta σ H R:=h
def zmU {K:PySem.W.Frag} {a:Addr} {xs:List V} {g:TG} {tb:TS} {D:Ends} {σ:St} {H:Hp} (hT:∀ H,SqT K H a xs) (Pv:Nat -> St -> Hp -> Prop) (h0:Pv 0 σ H)
  (step:∀ i x σ H',xs[i]?=some x -> Pv i σ H' -> g x σ H' λ σ2 H2=>tb { D with nx:=Pv (i + 1),ct:=Pv (i + 1),bk:=D.nx } σ2 H2) (done:∀ σ H',Pv xs.length σ H' -> D.nx σ H') :
  ∃ b,V.ref a=.ref b /\ (((∃ xs,SqL K H b xs) /\ ForW (Itl K b) g tb D σ H) \/ ((∃ xs,SqT K H b xs) /\ ForW (Itt K b) g tb D σ H)):=
 ⟨a,rfl,.inr ⟨⟨xs,hT H⟩,zlz Pv h0 (λ _ _ H' _ _=>hT H') step done⟩⟩
noncomputable def TL (H:Hp) (L:List (Addr × En)):Prop:=∀ q ∈ L,H q.1=some (.tup (dec q.2))
noncomputable def tlV (L:List (Addr × En)):List V:=L.map λ q=>.ref q.1
noncomputable def ens (L:List (Addr × En)):List En:=L.map Prod.snd
def zcO (L:List (Addr × En)):(tlV L).length=L.length:=by rw [tlV,yaa]
def TL.same {H H':Hp} {L:List (Addr × En)} (h:TL H L) (s:Same H H'):TL H' L:=λ q hq=>s _ _ (h q hq)
def TL.updL {H:Hp} {l:Addr} {xs ys:List V} {L:List (Addr × En)} (h:TL H L) (hl:H l=some (.lst xs)):TL (upd H l (.lst ys)) L:=λ q hq=>by
 have e:=h q hq;rw [zan (λ z=>by rw [z,hl] at e; cases e)];exact e
def TL.app {H:Hp} {L M:List (Addr × En)} (h:TL H L) (g:TL H M):TL H (L ++ M):=λ q hq=>(yas.mp hq).elim (h q) (g q)
def TL.one {H:Hp} {t:Addr} {e:En} (n:H t=some (.tup (dec e))):TL H [(t,e)]:=λ q hq=>by rw [yah.mp hq]; exact n
def TL.nil (H:Hp):TL H []:=λ _ z=>(nomatch z)
def ziW (L M:List (Addr × En)):tlV (L ++ M)=tlV L ++ tlV M:=yal
def zey (L M:List (Addr × En)):ens (L ++ M)=ens L ++ ens M:=yal
noncomputable def Gr (H H':Hp) (l:Addr) (L:List (Addr × En)):Prop:=Same H H' /\ H' l=some (.lst (tlV L)) /\ TL H' L
def Gr.same {H H' H'':Hp} {l:Addr} {L:List (Addr × En)} (g:Gr H H' l L) (s:Same H' H''):Gr H H'' l L:=⟨g.1.trans s,s _ _ g.2.1,g.2.2.same s⟩
def Gr.put {H H':Hp} {l:Addr} {L M:List (Addr × En)} (g:Gr H H' l L) (hl:H l=none) (m:TL H' M):Gr H (upd H' l (.lst (tlV L ++ tlV M))) l (L ++ M):=
 ⟨g.1.updF hl,by rw [ziW]; exact zah,(g.2.2.updL g.2.1).app (m.updL g.2.1)⟩
noncomputable def zls:Sp:=λ vs H Q _=>∃ (w k:Nat),vs=[nV w,.str (nmK k)] /\ k < 9 /\ 1 <= w /\ w <= 4 /\ ∀ (l:Addr) (L:List (Addr × En)) (H':Hp),H l=none -> Gr H H' l L -> ens L=zdn w k (2 ^ w) -> L.length <= 128 -> Q (.ref l) H'
noncomputable def znP:Sp:=λ vs H Q _=>∃ (w:Nat),vs=[nV w] /\ 1 <= w /\ w <= 4 /\ ∀ (l:Addr) (L:List (Addr × En)) (H':Hp),H l=none -> Gr H H' l L -> ens L=allF w 9 -> L.length <= 1200 -> Q (.ref l) H'
def ziV (w k i:Nat):zdn w k (i + 1)=zdn w k i ++ ((k,[(i:Int)]) :: (List.range (2 * w - 1)).map λ (j:Nat)=>(k,[(i:Int),(1 - (w:Int)) + (j:Int)])):=by
 unfold zdn;rw [yaQ,ycR];simp
def zkR (w n:Nat):allF w (n + 1)=allF w n ++ (zdn w n (2 ^ w)).filter (zf2 w):=by
 unfold allF;rw [yaQ,ycR];simp
def zoM {i:Nat} {x:V} (h:(nmE.map V.str)[i]?=some x):x=.str (nmK i) /\ i < 9:=by
 obtain ⟨s,hs,rfl⟩:=zaI h;have hi:i < nmE.length:=(yaj.mp hs).1;refine ⟨?_,hi⟩;unfold nmK;rw [yac,hs];rfl
def zmO (k:Nat):shpd (.str (nmK k))=true:=by
 by_cases h:k < 9
 ·have hk : k = 0 \/ k = 1 \/ k = 2 \/ k = 3 \/ k = 4 \/ k = 5 \/ k = 6 \/ k = 7 \/ k = 8 := by omega
  rcases hk with rfl | rfl | rfl | rfl | rfl | rfl | rfl | rfl | rfl <;> decide +kernel
 ·rw [show nmK k="and" by unfold nmK; rw [yac,yaI (by show 9 <= k; omega)]; rfl];decide +kernel
def zn0 {H:Hp} (e:En):∀ x ∈ dec e,Kx H x:=λ x hx=>by
 rcases yav.mp hx with rfl | hx
 ·exact .str _ (zmO _)
 ·obtain ⟨i,_,rfl⟩:=yaf.mp hx;exact .int i
def En.deed {H:Hp} {w:Nat} {a:Addr} {e:En} (h:H a=some (.tup (dec e))) (hk:e.1 < 9) (hl:e.2.length <= 10):zji w H (.ref a) (zf2 w e):=
 .inl ⟨a,dec e,rfl,⟨h,λ x hx=>(zn0 e x hx).kd,by rw [dec,ybq,yaa]; omega,λ x r e' _=>zn0 e x (by rw [e']; exact yaC)⟩,(zlY w e.1 e.2 hk).symm⟩
def zkS {w k i:Nat} {e:En} (h:e ∈ zdn w k i):e.1=k /\ e.2.length <= 2:=by
 unfold zdn at h;simp only [ycG,yav,yaf] at h;obtain ⟨x,_,rfl | ⟨j,_,rfl⟩⟩:=h <;> simp
noncomputable def Dl (H:Hp) (L:List (Addr × Dd)):Prop:=∀ q ∈ L,H q.1=some (.tup q.2.vals)
noncomputable def On (H:Hp) (L:List (Addr × Nat)):Prop:=∀ q ∈ L,H q.1=some (.tup [nV q.2])
noncomputable def onV (L:List (Addr × Nat)):List V:=L.map λ q=>.ref q.1
noncomputable def onN (L:List (Addr × Nat)):List Nat:=L.map Prod.snd
noncomputable def onD (ns:List Nat):List PyData:=ns.map λ (n:Nat)=>.tuple [.int (n:Int)]
end L2
namespace Srt
open PySem PyProof.Rows
noncomputable def gallop':Bool -> Keyed -> Array Keyed -> Nat -> Nat -> Nat -> StateT SortSt Sem (Option Nat):=sortPriv% PySem.Builtin.gallop
section
variable {prog:Program} {w:World} {A:Around} {E:Value -> Shared -> Prop} {s:Shared}
noncomputable def zqZ (left:Bool) (k a:Int):Prop:=if left=true then a < k else a <= k
instance (left:Bool) (k a:Int):Decidable (zqZ left k a):=by unfold zqZ; infer_instance
end
end Srt
namespace Srt
open PySem PyProof.Rows
noncomputable abbrev kf (x:Keyed):Int:=numOf x.1
noncomputable def Sr (l:List Keyed):Prop:=l.Pairwise λ x y=>kf x <= kf y
structure MI (T L A B:List Keyed):Prop where
 perm:(L ++ (A ++ B)).Perm T
 sa:Sr (L ++ A)
 sb:Sr (L ++ B)
structure MH (T R A B:List Keyed):Prop where
 perm:((A ++ B) ++ R).Perm T
 sa:Sr (A ++ R)
 sb:Sr (B ++ R)
end Srt
namespace Srt
open PySem PyProof.Rows
end Srt
namespace Srt
open PySem PyProof.Rows
noncomputable def Good (T:List Keyed) (r:Array Keyed):Prop:=r.toList.Perm T /\ Sr r.toList
variable {a b out:Array Keyed} {ia ib:Nat}
section
variable {prog:Program} {w:World} {A:Around} {E:Value -> Shared -> Prop} {s:Shared} {st:SortSt} {mg k k1 ac bc n0:Nat}
end
end Srt
namespace Srt
open PySem PyProof.Rows
noncomputable abbrev HiSt:=Option (Array Keyed) × Nat × Nat × Array Keyed × Nat × Nat × Nat
noncomputable abbrev zmG (a b out:Array Keyed) (na nb:Nat):Array Keyed:=a.extract 0 na ++ b.extract 0 nb ++ out.reverse
noncomputable abbrev zmE (a b out:Array Keyed) (na nb:Nat):Array Keyed:=b.extract 0 nb ++ a.extract 0 na ++ out.reverse
noncomputable def hi3 (a b out:Array Keyed) (na nb mg k k1:Nat):StateT SortSt Sem (ForInStep HiSt):=do
 let x <- elem' a (na - 1)
 if na - 1 == 0 then pure (.done (some (zmG a b (out.push x) (na - 1) nb),na - 1,nb,out.push x,mg,k,k1))
 else if k < 7 && k1 < 7 then pure (.done (none,na - 1,nb,out.push x,mg,k,k1))
 else pure (.yield (none,na - 1,nb,out.push x,mg,k,k1))
noncomputable def hi2 (a b out:Array Keyed) (na nb mg k bc:Nat):StateT SortSt Sem (ForInStep HiSt):=do
 let y <- elem' b (nb - 1)
 if nb - 1 == 1 then pure (.done (some (zmE a b (out.push y) na (nb - 1)),na,nb - 1,out.push y,mg,k,bc))
 else do
  let z <- elem' a (na - 1)
  let r <- gallop' true z b 0 (nb - 1) (nb - 1 - 1)
  match r with
  | some at_=>
   if nb - 1 - at_ > 0 then
    if at_ == 1 then pure (.done (some (zmE a b (out.push y ++ (b.extract at_ (nb - 1)).reverse) na at_),na,at_,out.push y ++ (b.extract at_ (nb - 1)).reverse,mg,k,nb - 1 - at_))
    else if at_ == 0 then pure (.done (some (zmG a b (out.push y ++ (b.extract at_ (nb - 1)).reverse) na at_),na,at_,out.push y ++ (b.extract at_ (nb - 1)).reverse,mg,k,nb - 1 - at_))
    else hi3 a b (out.push y ++ (b.extract at_ (nb - 1)).reverse) na at_ mg k (nb - 1 - at_)
   else hi3 a b (out.push y) na (nb - 1) mg k (nb - 1 - at_)
  | _=>pure (.done (some (zmG a b (out.push y) na (nb - 1)),na,nb - 1,out.push y,mg,k,bc))
variable {a b out:Array Keyed} {na nb:Nat}
section
variable {prog:Program} {w:World} {A:Around} {E:Value -> Shared -> Prop} {s:Shared} {st:SortSt} {mg k k1 ac bc n0:Nat}
end
end Srt
namespace Srt
open PySem PyProof.Rows
noncomputable def laid (xs:Array Keyed) (at_:Nat) (ys:List Keyed):Array Keyed:=ys.zipIdx.foldl (λ a (p,j)=>a.setIfInBounds (at_ + j) p) xs
section
variable {prog:Program} {w:World} {A:Around} {E:Value -> Shared -> Prop} {s:Shared} {st:SortSt}
end
end Srt
namespace Srt
open PySem PyProof.Rows
noncomputable def rise (lo a nrem:Nat):StateT SortSt Sem (Option (Option Nat) × Nat):=
 forIn [a:nrem] ((none,a):Option (Option Nat) × Nat) λ _ c=>do
  match <- ltAt' (lo + c.2) (lo + c.2 - 1) with
  | some b=>if b then pure (.done (none,c.2)) else pure (.yield (none,c.2 + 1))
  | _=>pure (.done (some none,c.2))
noncomputable def fall (lo a nrem:Nat):StateT SortSt Sem (Option (Option Nat) × Nat × Nat):=
 forIn [a:nrem] ((none,a,0):Option (Option Nat) × Nat × Nat) λ _ c=>do
  match <- ltAt' (lo + c.2.1) (lo + c.2.1 - 1) with
  | some b=>
   if b then
    if c.2.2 > 0 then do
     reverseSlice' (lo + c.2.1 - (c.2.2 + 1)) (lo + c.2.1)
     pure (.yield (none,c.2.1 + 1,0))
    else pure (.yield (none,c.2.1 + 1,0))
   else do
    match <- ltAt' (lo + c.2.1 - 1) (lo + c.2.1) with
    | some g=>if g then pure (.done (none,c.2.1,c.2.2)) else pure (.yield (none,c.2.1 + 1,c.2.2 + 1))
    | _=>pure (.done (some none,c.2.1,c.2.2))
  | _=>pure (.done (some none,c.2.1,c.2.2))
noncomputable def turnAbout (lo n nrem:Nat):StateT SortSt Sem (Option Nat):=do
 reverseSlice' lo (lo + n)
 let c <- rise lo n nrem
 match c.1 with
 | some r=>pure r
 | none=>pure (some c.2)
noncomputable def falling (lo n nrem:Nat):StateT SortSt Sem (Option Nat):=do
 liftM (rule "list.sort.descending-run")
 let c <- fall lo (n + 1) nrem
 match c.1 with
 | some r=>pure r
 | none=>if c.2.2 > 0 then (reverseSlice' (lo + c.2.1 - (c.2.2 + 1)) (lo + c.2.1) >>= λ _=>turnAbout lo c.2.1 nrem) else turnAbout lo c.2.1 nrem
def countRun_parts (lo nrem:Nat):countRun' lo nrem=(do
  let c <- rise lo 1 nrem
  match c.1 with
  | some r=>pure r
  | none=>
   if c.2 == nrem then pure (some c.2)
   else if c.2 > 1 then do
    match <- ltAt' lo (lo + c.2 - 1) with
    | some b=>if b then pure (some c.2) else do
      reverseSlice' lo (lo + c.2)
      falling lo c.2 nrem
    | _=>pure none
   else falling lo c.2 nrem):=by
 kernel_rfl
structure SB (a₀:Array Keyed) (lo:Nat) (p:Array (Nat × Nat × Nat)) (f:Nat -> Int) (st:SortSt):Prop where
 perm:(arrOf st).Perm a₀
 kind:kindOf st=oneType'
 failed:failedOf st=none
 pend:pendingOf st=p
 low:∀ i,i < lo -> K (arrOf st) i=f i
variable {a₀:Array Keyed} {lo:Nat} {p:Array (Nat × Nat × Nat)} {f:Nat -> Int} {st:SortSt}
noncomputable def Up (lo:Nat) (xs:Array Keyed) (m:Nat):Prop:=∀ i j,i <= j -> j < m -> K xs (lo + i) <= K xs (lo + j)
noncomputable def Dn (lo:Nat) (xs:Array Keyed) (m:Nat):Prop:=∀ i j,i <= j -> j < m -> K xs (lo + j) <= K xs (lo + i)
section
variable {prog:Program} {w:World} {A:Around} {E:Value -> Shared -> Prop} {s:Shared}
end
end Srt
namespace Srt
open PySem PyProof.Rows
noncomputable def olderOnes (pw:Nat):StateT SortSt Sem (ForInStep (Option Unit × Unit)):=do
 let st <- get
 match (if (pendingOf st).size > 1 then (pendingOf st)[(pendingOf st).size - 2]? else none) with
 | some (_,_,older)=>if older <= pw then pure (.done (none,())) else do
   let b <- mergeAt' ((pendingOf st).size - 2)
   if !b then pure (.done (some (),())) else pure (.yield (none,()))
 | _=>pure (.done (none,()))
noncomputable def noted (sz lo n:Nat):StateT SortSt Sem (ForInStep (Option Unit × Nat)):=do
 let st <- get
 match (pendingOf st).back? with
 | some (s1,n1,_)=>do
  let c <- forIn [0:sz] ((none,()):Option Unit × Unit) λ _ _=>olderOnes (power' sz (2 * s1 + n1) (2 * s1 + n1 + n1 + n) sz)
  match c.1 with
  | some r=>pure (.done (some r,lo))
  | none=>do
   modify λ s=>setPending s ((pendingOf s).modify ((pendingOf s).size - 1) λ x=>(x.1,x.2.1,power' sz (2 * s1 + n1) (2 * s1 + n1 + n1 + n) sz))
   modify λ s=>setPending s ((pendingOf s).push (lo,n,0))
   pure (.yield (none,lo + n))
 | _=>do
  modify λ s=>setPending s ((pendingOf s).push (lo,n,0))
  pure (.yield (none,lo + n))
noncomputable def runStep (sz mr lo:Nat):StateT SortSt Sem (ForInStep (Option Unit × Nat)):=
 if lo >= sz then pure (.done (none,lo)) else do
  match <- countRun' lo (sz - lo) with
  | some found=>
   if found < mr then do
    liftM (rule "list.sort.binary-insertion")
    let b <- binarySort' lo (min (sz - lo) mr) found
    if !b then pure (.done (some (),lo)) else noted sz lo (min (sz - lo) mr)
   else noted sz lo found
  | _=>pure (.done (some (),lo))
noncomputable def whichTwo (p:Array (Nat × Nat × Nat)):Nat:=
 if Option.any (λ x=>decide (x < p[p.size - 2 + 1]?.elim 0 λ x=>x.2.1)) (if p.size - 2 > 0 then p[p.size - 2 - 1]?.map (λ x=>x.2.1) else none)=true then p.size - 2 - 1 else p.size - 2
noncomputable def lastStep:StateT SortSt Sem (ForInStep (Option Unit × Unit)):=do
 let st <- get
 if (pendingOf st).size <= 1 then pure (.done (none,())) else do
  let b <- mergeAt' (whichTwo (pendingOf st))
  if !b then pure (.done (some (),())) else pure (.yield (none,()))
def sortRuns_parts:sortRuns'=(do
  let st <- get
  let c <- forIn [0:(arrOf st).size] ((none,0):Option Unit × Nat) λ _ c=>runStep (arrOf st).size (minRun' (arrOf st).size (arrOf st).size 0) c.2
  match c.1 with
  | some r=>pure r
  | none=>do
   let d <- forIn [0:(arrOf st).size] ((none,()):Option Unit × Unit) λ _ _=>lastStep
   match d.1 with
   | some r=>pure r
   | none=>pure ()):=by
 kernel_rfl
def wpS_set {σ:Type} {M:Model} {A:Around} {E:Value -> Shared -> Prop} {s:Shared} {x:σ} {Q:PUnit -> σ -> Prop} {st:σ} (h:Q ⟨⟩ x):wpS M A E s (set x:StateT σ Sem PUnit) Q st:=by
 unfold wpS; rw [StateT.run_set]; exact wpAny_pure ⟨rfl,h⟩
section
variable {prog:Program} {w:World} {A:Around} {E:Value -> Shared -> Prop} {s:Shared} {a₀:Array Keyed}
end
end Srt
namespace Srt
open PySem PyProof.Rows
section
variable {prog:Program} {w:World} {A:Around} {E:Value -> Shared -> Prop} {s:Shared}
end
end Srt
namespace L2
open PySem PySem.Spec PyProof.Rows
section
variable {X:Cx}
end
end L2
namespace PySem.SeqAt
open PySem PySem.Spec PyProof.Rows
end PySem.SeqAt
namespace L2
open PySem PySem.Spec PyProof.Rows Bm
section
variable {X:Cx}
end
noncomputable abbrev zhS (ls:List Int):Prop:=ls.Perm (zaJ ls.length)
def getD_mem' {ls:List Int} {k:Nat} (hk:k < ls.length):ls.getD k 0 ∈ ls:=by
 rw [yac,yab hk]; exact yaW hk
def Dd.led_len (w:Nat) (d:Dd):(d.led w).length=w:=by simp [Dd.led]
def Dd.led_getD {w p:Nat} (d:Dd) (hp:p < w):(d.led w).getD p 0=d.src w p:=by
 rw [Dd.led,yac,yan,yaS hp]; rfl
end L2
namespace L2
open PySem PySem.Spec PyProof.Rows
section
variable {X:Cx} {tg iter elt:Expr} {ifs:List Expr} {scope sc:Scope} {pos:Pos} {N N':List Str} {src:List (Option Nat)} {wi:TI} {g:TG} {tc:TT} {te:TE}
end
open Bm
noncomputable abbrev Mat:=Nat -> Nat -> Bool
noncomputable def rowB (n:Nat) (f:Mat) (i:Nat):List Bool:=(List.range n).map λ j=>f i j
noncomputable def bV (l:List Bool):List V:=l.map λ b=>nV b.toNat
noncomputable def Mx (H:Hp) (l:Addr) (n:Nat) (f:Mat):Prop:=∃ as:List Addr,as.length=n /\ H l=some (.lst (as.map V.ref)) /\ ∀ i (h:i < as.length),H as[i]=some (.lst (bV (rowB n f i)))
noncomputable abbrev Cr:=Nat -> Option Bool
variable {h:Nat} {τ:Nat -> Nat} {c:Cr} {p0 q:Nat}
variable {ls:List Int}
section
variable {X:Nat -> Bool}
end
variable {h:Nat} {ls:List Int} {X:Nat -> Bool}
noncomputable def zpZ (h m1 m2:Nat) (lo up:List Int):List Int:=zaA (zaA ((Dd.swap m1 h).led (2 * h)) (lo ++ zo0 h up)) ((Dd.swap m2 h).led (2 * h))
inductive Pap where
 | nil
 | node (m1 m2:Nat) (lo:List Int) (pl:Pap) (up:List Int) (pu:Pap)
noncomputable def zoH:List Int -> Pap -> Prop
 | ls,.nil=>ls.length=1 /\ zhS ls
 | ls,.node m1 m2 lo pl up pu=>∃ h,1 <= h /\ ls.length=2 * h /\ m1 < 2 ^ h /\ m2 < 2 ^ h /\ lo.length=h /\ up.length=h /\ zhS lo /\ zhS up /\ zpZ h m1 m2 lo up=ls /\ zoH lo pl /\ zoH up pu
variable {h:Nat}
noncomputable def PapH (H:Hp):Addr -> Pap -> Prop
  | a,.nil=>H a=some (.tup [])
  | a,.node m1 m2 lo pl up pu=>∃ x y lx px ly py:Addr,H a=some (.tup [nV m1,nV m2,.ref x,.ref y]) /\ H x=some (.tup [.ref lx,.ref px]) /\ H lx=some (.tup (lo.map V.int)) /\ PapH H px pl /\
      H y=some (.tup [.ref ly,.ref py]) /\ H ly=some (.tup (up.map V.int)) /\ PapH H py pu
variable {ls:List Int}
end L2
set_option maxHeartbeats 1000000
namespace L2
open PySem PyProof.Rows Bm
section
variable {X:Cx} {e st:Expr} {te:TE} {ts:TE} {pos p2:Pos}
end
section
variable {h n:Nat} {ls:List Int} {X:Nat -> Bool}
end
open PySem.Spec
noncomputable def zok:Nat -> Pap -> Prop
 | 0,.nil=>True
 | k + 1,.node m1 m2 lo pl up pu=>m1 < 2 ^ 2 ^ k /\ m2 < 2 ^ 2 ^ k /\ zhS lo /\ lo.length=2 ^ k /\ zhS up /\ up.length=2 ^ k /\ zok k pl /\ zok k pu
 | _,_=>False
noncomputable def zlO:List Int -> Pap -> Bool
 | _,.nil=>true
 | ls,.node m1 m2 lo pl up pu=>decide (zpZ lo.length m1 m2 lo up=ls) && (zlO lo pl && zlO up pu)
noncomputable def Four (H:Hp) (h:Nat) (t:Addr) (m1 m2:Nat) (lo up:List Int):Prop:=∃ x y a p b q:Addr,H t=some (.tup [nV m1,nV m2,.ref x,.ref y]) /\ H x=some (.tup [.ref a,.ref p]) /\ H a=some (.tup (lo.map V.int)) /\ H y=some (.tup [.ref b,.ref q]) /\ H b=some (.tup (up.map V.int)) /\
 m1 < 2 ^ h /\ m2 < 2 ^ h /\ zhS lo /\ lo.length=h /\ zhS up /\ up.length=h /\ 1 <= h /\ h <= 32
section
variable {h:Nat} {A B:List Int}
end
section
variable {X:Cx} {a b c:Expr} {ta:TA} {p p2 pos pos2:Pos}
end
noncomputable def Evs (H:Hp) (A:List (Addr × List Int)) (w:Nat):Prop:=∀ q ∈ A,H q.1=some (.tup (q.2.map V.int)) /\ zhS q.2 /\ q.2.length=w
section
variable {X:Cx} {i o:Expr} {ty td:TE} {pos:Pos}
def zph (hu:X.A.units + 64 < cLine) (hi:PE X i ty) (ho:PE X o td) (h1:behindInMarks .In o=false:=by rfl):PT X (.Compare i [.In] [o] pos) (tB (tDIn ty td)):=zmh (zp9 (ya4 (ybD (3:) _) hu) hi ho) h1
def zhu (hu:X.A.units + 64 < cLine) (hi:PE X i ty) (ho:PE X o td) (h1:behindInMarks .NotIn o=false:=by rfl):PT X (.Compare i [.NotIn] [o] pos) (tB (ziA ty td)):=zmh (zkV (ya4 (ybD (3:) _) hu) hi ho) h1
def zhW (hu:X.A.units + 64 < cLine) (ho:PE X o td) (hi:PE X i ty) (hs:NoSl i:=by exact λ _ _=>rfl):PE X (.Subscript o i pos) (zoj td ty):=zoa (ya4 (ybD (3:) _) hu) ho hi hs
end
section
variable {ty td:TE} {σ:St} {H:Hp} {Q:VK}
def zpC (h:ty σ H λ y H1=>td σ H1 λ x H2=>∃ a o,x=.ref a /\ DGet H2 a y o /\ Q (.bl o.isSome) H2):tDIn ty td σ H Q:=h
def zio (h:ty σ H λ y H1=>td σ H1 λ x H2=>∃ a o,x=.ref a /\ DGet H2 a y o /\ Q (.bl (!o.isSome)) H2):ziA ty td σ H Q:=h
def zfy (h:td σ H λ x H1=>ty σ H1 λ y H2=>∃ a v,x=.ref a /\ DGet H2 a y (some v) /\ Q v H2):zoj td ty σ H Q:=h
end
end L2
namespace PySem
open Sem (wp)
open AutoSeq1 (wpAny_loadPart')
section
variable {prog:Program} {w:World} {A:Around} {E:Value -> Shared -> Prop} {s:Shared}
end
section
variable {prog:Program} {w:World} {A:Around} {E:Value -> Shared -> Prop} {s:Shared}
end
end PySem
namespace L2
open PySem PySem.Spec PyProof.Rows Bm
section
variable {X:Cx} {a:Expr} {ta:TA} {p p1 p2 pos pos1 pos2:Pos}
end
section
variable {X:Cx} {e lw st:Expr} {te tl:TE} {ts:TE} {pos p2:Pos}
end
noncomputable def MxN (H:Hp) (l:Addr) (n:Nat) (g:Nat -> Nat -> Nat):Prop:=∃ as:List Addr,as.length=n /\ H l=some (.lst (as.map V.ref)) /\ ∀ i (h:i < as.length),H as[i]=some (.lst (((List.range n).map (g i)).map nV))
noncomputable def zeE (ls:List Int):List Nat:=(List.range ls.length).filter λ j=>decide (ls.getD j 0=(j:Int))
noncomputable def zeA (ls:List Int):List Nat:=(List.range ls.length).filter λ j=>decide (ls.getD j 0=-2)
noncomputable def za9 (ls:List Int):List Nat:=(List.range ls.length).filter λ j=>decide (0 <= ls.getD j 0)
noncomputable def zbv (ls:List Int):List Nat:=(List.range ls.length).filter λ j=>decide (0 <= ls.getD j 0 /\ ls.getD j 0 ≠ (j:Int))
def zdB {w:Nat} {ls:List Int} {p:Nat -> Bool} (h:ls.length=w):∀ x ∈ (List.range ls.length).filter p,x < w:=λ x hx=>by
 have:=yat.mp (yaB.mp hx).1;omega
def zeg {w:Nat} {ps:List Nat} (h:∀ x ∈ ps,x < w):zaP ps < 2 ^ w:=by
 refine ybJ _ λ i hi=>?_;rw [zay,decide_eq_false_iff_not];exact λ z=>absurd (h i z) (1:)
def ziM {w m:Nat} (hm:m < 2 ^ w):zeu ((Dd.gather m).led w)=m:=by
 refine ybN λ p=>?_;rw [zmQ];cases hb:m.testBit p with
 | true=>
  have q:=zaW hb
  have e:((Dd.gather m).led w).getD ((zad m).idxOf p) 0=(p:Int):=by
   rw [Dd.led_getD _ (yak q.1 (zaH hm)),show (Dd.gather m).src w ((zad m).idxOf p)=if (zad m).idxOf p < (zad m).length then ((zad m).getD ((zad m).idxOf p) 0:Int) else -1 from rfl,if_pos q.1,q.2]
  rw [decide_eq_true_iff,<- e];exact getD_mem' (by rw [Dd.led_len]; exact yak q.1 (zaH hm))
 | false=>
  rw [decide_eq_false_iff_not];intro z;obtain ⟨i,hi,e⟩:=ybb.mp z;rw [Dd.led_len] at hi;have e2:((Dd.gather m).led w).getD i 0=(p:Int):=by rw [yac,yab (by rw [Dd.led_len]; exact hi),e]; rfl
  rw [Dd.led_getD _ hi,show (Dd.gather m).src w i=if i < (zad m).length then ((zad m).getD i 0:Int) else -1 from rfl] at e2;by_cases hl:i < (zad m).length
  ·rw [if_pos hl] at e2
   have:(zad m).getD i 0 ∈ zad m:=by
    rw [yac,yab hl];exact yaW hl
   have e3:(zad m).getD i 0=p:=by omega
   rw [e3,za2] at this;rw [hb] at this;cases this
  ·rw [if_neg hl] at e2;omega
def zkl {w m:Nat} (hm:m < 2 ^ w):zaP (za9 ((Dd.strew m).led w))=m:=by
 refine ybN λ p=>?_;rw [zay,za9,Dd.led_len];by_cases hp:p < w
 ·have e2:((Dd.strew m).led w).getD p 0=if m.testBit p then (((zad m).idxOf p:Nat):Int) else -1:=by
   rw [Dd.led_getD _ hp];rfl
  cases hb:m.testBit p with
  | true=>
   rw [decide_eq_true_iff,yaB];refine ⟨yat.mpr hp,?_⟩;rw [e2,hb,if_pos rfl];exact decide_eq_true (ybc _)
  | false=>
   rw [decide_eq_false_iff_not,yaB];rintro ⟨_,z⟩;rw [e2,hb,if_neg (3:)] at z;cases z
 ·rw [ycr (yak hm (yaL (3:) (1:))),decide_eq_false_iff_not,yaB];rintro ⟨z,_⟩;exact hp (yat.mp z)
noncomputable def zll:Sp:=λ vs H Q _=>∃ (a:Addr) (ls:List Int) (w:Nat),vs=[.ref a] /\ H a=some (.tup (ls.map V.int)) /\ Ld w ls /\ 1 <= w /\ w <= 64 /\
 ∀ (l t1 t2 t3 t4:Addr) (H':Hp),H l=none -> Same H H' -> H' l=some (.lst [.ref t1,.ref t2,.ref t3,.ref t4]) -> H' t1=some (.tup (Dd.and (zaP (zeE ls))).vals) -> H' t2=some (.tup (Dd.or (zaP (zeA ls))).vals) -> H' t3=some (.tup (Dd.gather (zeu ls)).vals) -> H' t4=some (.tup (Dd.strew (zaP (za9 ls))).vals) -> Q (.ref l) H'
section
variable {X:Cx} {o i value:Expr} {td ty tv:TE} {pos pos':Pos}
def zju (hu:X.A.units + 64 < cLine) (ho:PE X o td) (hi:PE X i ty) (hv:PE X value tv) (hs:swapsWith value (some (.Subscript o i pos')) pos.line X.env=pure false:=by rfl) :
  PS X (.Assign [.Subscript o i pos'] value pos) (zox td ty tv):=zoe (ya4 (ybD (3:) _) hu) ho hi hv hs
end
section
variable {td ty tv:TE} {D:Ends} {σ:St} {H:Hp} {Q:VK}
def zn5 (h:tv σ H λ v H1=>td σ H1 λ x H2=>ty σ H2 λ y H3=>∃ a H4,x=.ref a /\ DPut H3 a y v H4 /\ D.nx σ H4):zox td ty tv D σ H:=h
end
noncomputable def Good (k:Nat) (ls:List Int) (P:Pap):Prop:=zok k P /\ zlO ls P=true /\ zoH ls P
noncomputable def Part (H:Hp) (k:Nat) (x:Addr) (ls:List Int) (P:Pap):Prop:=∃ lx px:Addr,H x=some (.tup [.ref lx,.ref px]) /\ H lx=some (.tup (ls.map V.int)) /\ PapH H px P /\ Good k ls P
end L2
namespace Dit
open PySem PyProof.Rows
section
variable {prog:Program} {w:World} {A:Around} {E:Value -> Shared -> Prop} {s:Shared} {it d:Addr} {i ep:Nat} {es:Array DictEntry} {od:Obj}
def seen {m:Sem Fin} {Q:Option Value -> Shared -> Prop} (hit:s.heap.IsKeyIter it d i es.size ep) (h:wpAny (model prog w) A.in1 (Builtin.«dict_keyiterator.__next__» ⟨[.ref it],[]⟩) (λ f s'=>∃ v,f=.done (.ret v) /\ Q (some v) s') (λ e s'=>s'.TypeIs e "StopIteration" /\ Q none s') s) :
  wpAny (model prog w) A (pyNext (.ref it)) Q E s:=by
 unfold pyNext;refine wpAny_bind (wpAny_attempt (wpAny_callSpecial?_slot (name:=Str.ofString "__next__") hit.typeIs ybX (wpAny_call_entry ybX hit.typeIs F.entry_dict_keyiterator_next ?_ (F.args_dict_keyiterator_next_1 _))));refine wpAny_mono h (λ f s' z=>?_) λ e s' z=>?_
 ·obtain ⟨v,e,q⟩:=z;exact ⟨v,e,wpAny_pure q⟩
 ·refine wpAny_bind (wpAny_isInstance (T:="StopIteration") (b:=true) z.1 isSubtype_stop ?_);exact wpAny_pure z.2
def step_item {Q:Fin -> Shared -> Prop} (hit:s.heap.IsKeyIter it d i es.size ep) (hod:s.heap.get? d=some od) (hdd:od.data=.dict es ep) (hi:i < es.size)
  (h:∀ h',h'.IsKeyIter it d (i + 1) es.size ep -> Heap.SameBut it s.heap h' -> Q (.done (.ret es[i].key)) { s with heap:=h' }):wpAny (model prog w) A (Builtin.«dict_keyiterator.__next__» ⟨[.ref it],[]⟩) Q E s:=by
 obtain ⟨o,ho,hc,hd⟩:=id hit;have hown:Builtin.Dict_items.ownsTuple "dict_keyiterator"=false:=by decide
 have h':(s.heap.update it (Obj.mapFields (·.setIfInBounds 1 (rawInt ((i:Int) + 1))))).IsKeyIter it d (i + 1) es.size ep:=
  ⟨_,ybG _ ho (Obj.isFreed_of_fields (yci hd _)),(Obj.cls_mapFields ..).trans hc,by rw [yci hd]; simp [rawInt]⟩
 refine wpAny_bind (wpAny_pure (wpAny_bind (wpAny_bind ?_)))
 first | refine wpAny_bind (wpAny_typeNameOfWhole_keyiter hit.typeIs (wpAny_pure (wpAny_bind (wpAny_fieldsOf ho hd ?_)))) | refine wpAny_bind (wpAny_typeNameOf_keyiter hit.typeIs (wpAny_pure (wpAny_bind (wpAny_fieldsOf ho hd ?_))))
 simp only [hown,yaF,if_false];show wpAny _ _ (if (Value.ref d == Value.none)=true then _ else _) _ _ s;rw [if_neg (show ¬ ((Value.ref d == Value.none)=true) from yaD)];refine wpAny_bind (wpAny_pure (wpAny_bind (wpAny_dictEntries hod hdd ?_)));rw [if_neg (5:)];refine wpAny_bind (wpAny_pure (wpAny_bind (wpAny_dictEpoch hod hdd ?_)));rw [if_neg (5:)];refine wpAny_pure ?_;simp only [show ¬ ((i:Int) < 0) from by omega,if_false,yaw,Array.getElem?_eq_getElem hi];refine wpAny_bind ?_
 first | refine wpAny_bind (wpAny_typeNameOfWhole_keyiter hit.typeIs (wpAny_pure (wpAny_bind (wpAny_isOneOf_keyiter hit.typeIs ?_)))) | refine wpAny_bind (wpAny_typeNameOf_keyiter hit.typeIs (wpAny_pure (wpAny_bind (wpAny_isOneOf_keyiter hit.typeIs ?_))))
 refine wpAny_bind (m:=setField (.ref it) 1 (rawInt ((i:Int) + 1))) (wpAny_setField ho hd (5:) ?_);refine wpAny_bind (wpAny_holding (wpAny_bind (wpAny_isOneOf_keyiter (s:={ s with heap:=s.heap.update it (Obj.mapFields (·.setIfInBounds 1 (rawInt ((i:Int) + 1)))) }) h'.typeIs ?_)));show wpAny _ _ (pure es[i].key) _ _ _;exact wpAny_pure (wpAny_pure (h _ h' (ybv ..)))
def step_end {Q:Fin -> Shared -> Prop} (hh:A.handled=none) (hit:s.heap.IsKeyIter it d i es.size ep) (hod:s.heap.get? d=some od) (hdd:od.data=.dict es ep) (hi:es.size <= i)
  (h:∀ h' e,Heap.ExtBut it s.heap h' -> Shared.TypeIs { s with heap:=h' } e "StopIteration" -> E e { s with heap:=h' }):wpAny (model prog w) A (Builtin.«dict_keyiterator.__next__» ⟨[.ref it],[]⟩) Q E s:=by
 obtain ⟨o,ho,hc,hd⟩:=id hit;have hown:Builtin.Dict_items.ownsTuple "dict_keyiterator"=false:=by decide
 refine wpAny_bind (wpAny_pure (wpAny_bind (wpAny_bind ?_)))
 first | refine wpAny_bind (wpAny_typeNameOfWhole_keyiter hit.typeIs (wpAny_pure (wpAny_bind (wpAny_fieldsOf ho hd ?_)))) | refine wpAny_bind (wpAny_typeNameOf_keyiter hit.typeIs (wpAny_pure (wpAny_bind (wpAny_fieldsOf ho hd ?_))))
 simp only [hown,yaF,if_false];show wpAny _ _ (if (Value.ref d == Value.none)=true then _ else _) _ _ s;rw [if_neg (show ¬ ((Value.ref d == Value.none)=true) from yaD)];refine wpAny_bind (wpAny_pure (wpAny_bind (wpAny_dictEntries hod hdd ?_)));rw [if_neg (5:)];refine wpAny_bind (wpAny_pure (wpAny_bind (wpAny_dictEpoch hod hdd ?_)));rw [if_neg (5:)];refine wpAny_pure ?_;simp only [show ¬ ((i:Int) < 0) from by omega,if_false,yaw,Array.getElem?_eq_none hi];refine wpAny_bind ?_
 first | refine wpAny_bind (wpAny_typeNameOfWhole_keyiter hit.typeIs (wpAny_pure ?_)) | refine wpAny_bind (wpAny_typeNameOf_keyiter hit.typeIs (wpAny_pure ?_))
 refine wpAny_bind (m:=setField (.ref it) 0 .none) (wpAny_setField ho hd (5:) ?_);refine wpAny_bind ?_;simp only [newExc,newTuple];refine wpAny_bind (wpAny_newObj_type ?_ (by size_fits));refine wpAny_bind (m:=firstArgMember _ _) (wpAny_of_eq (a:=Value.none) (by first | rfl | (simp only [firstArgMember]; rfl)) ?_);refine wpAny_newObj_type ?_ (by size_fits);simp only [raiseNew];refine wpAny_bind (wpAny_handled ?_);rw [hh];refine wpAny_bind (wpAny_pure (wpAny_throw ?_));exact h _ _ (((ybv ..).extBut.push _).push _) ⟨_,yao _ rfl,rfl⟩
def iter_dict {Q:Value -> Shared -> Prop} (hd:(d == sysModules)=false) (ho:s.heap.get? d=some od) (hex:od.ExactDict) (hdd:od.data=.dict es ep)
  (hQ:Q (.ref s.heap.objs.size) { s with heap:=s.heap.push { cls:=.type "dict_keyiterator",data:=.fields #[.ref d,.int 0 0,.int es.size 0,.int ep 0] } }):wpAny (model prog w) A (pyIter (.ref d)) Q E s:=by
 have hT:s.TypeIs (.ref d) "dict":=⟨od,ho,hex.1⟩
 refine wpAny_pyIter_slot hT F.slot_dict_iter (wpAny_call_entry F.slot_dict_iter hT F.entry_dict_iter ?_ (F.args_dict_iter_1 _));unfold Builtin.«dict.__iter__» Builtin.Dict.dictSlotNone Builtin.Dict.showsAll;refine wpAny_bind (wpAny_bind (wpAny_notOrdered_dict hT (wpAny_pure ?_)));refine wpAny_bind (m:=if (d == sysModules)=true then _ else _) ?_;rw [if_neg (by rw [hd]; exact yaD)];refine wpAny_pure (wpAny_bind (wpAny_dictEntries ho hdd (wpAny_bind (wpAny_dictEpoch ho hdd (wpAny_bind (wpAny_newObj_type (wpAny_pure ⟨_,rfl,"dict_keyiterator",_,⟨_,yao _ rfl,rfl⟩,ybX.lookup,?_⟩)))))));simpa [rawInt] using hQ
end
end Dit
namespace L2
open PySem PySem.Spec PyProof.Rows
noncomputable def Frz (H:Hp) (a:Addr) (o:Obj) (kvs:List (List Key × V)):Prop:=H a=some (.frz o (.dT kvs))
noncomputable def Itd (a:Addr) (o:Obj) (kvs:List (List Key × V)):It:=
 ⟨λ i H=>Frz H a o kvs /\ i < kvs.length,λ i H x H'=>H'=H /\ ∃ k b,(kvs.map (·.1))[i]?=some k /\ x=.ref b /\ H b=some (.tup (k.map kV)),λ i H=>Frz H a o kvs /\ kvs.length <= i⟩
def zn3 {H:Hp}:∀ {kvs:List (List Key × V)} {xs:List (List Key × Addr × Value)} {i:Nat} {q:List Key × Addr × Value},Paired (λ (p:List Key × V) (q:List Key × Addr × Value)=>p.1=q.1 /\ H q.2.1=some (.tup (p.1.map kV)) /\ RelV p.2 q.2.2) kvs xs -> xs[i]?=some q -> (kvs.map (·.1))[i]?=some q.1 /\ H q.2.1=some (.tup (q.1.map kV))
 | _,_,_,_,.nil,e=>by simp at e
 | _,_,0,_,.cons r _,e=>by
  simp at e; subst e;exact ⟨by simp [r.1],by rw [<- r.1]; exact r.2.1⟩
 | _,_,i + 1,_,.cons _ t,e=>by
  have:=zn3 (i:=i) t (64:);exact ⟨by simpa using this.1,this.2⟩
def zhd {P:Program} {w:World} {K:PySem.W.Frag} {tg:Expr} {o:Obj} {es:Array DictEntry} {ep:Nat} (hdd:o.data=.dict es ep) (a:Addr) (kvs:List (List Key × V)) (it:Addr) (hne:a ≠ it) :
  Turn P w K tg (Itd a o kvs) [it] it (λ i h=>h.IsKeyIter it a i es.size ep) where
 mem:=by simp
 obj:=λ i h st b hb=>by
  have e:b=it:=by simpa using hb
  subst e;obtain ⟨o,ho,_,hd⟩:=st;exact ⟨o,ho,λ v z=>by rw [hd] at z; cases z⟩
 keep:=λ i h h' st k=>by
  obtain ⟨o,ho,hc,hd⟩:=st;exact ⟨o,k it (5:) _ ho,hc,hd⟩
 item:=by
  intro X hP hw hK hc i pins s σ H E I hf st hg;subst hP hw hK;obtain ⟨hF,hi⟩:=hg;obtain ⟨f0,f1,f2,f3,f4,f5⟩:=hf it (5:);obtain ⟨g1,g2⟩:=(show zaT X.prog X.w H s.heap a (.frz o (.dT kvs)) from I.hok a _ hF)
  obtain ⟨_,_,xs,rel,o',es',ep',h1,h2,h3,h4,h5⟩:=g2;have eo:o'=o:=by rw [g1] at h1; exact (Option.some.inj h1).symm
  subst eo;rw [hdd] at h3;cases h3;have hl:es.size=xs.length:=by rw [<- yaM,h4,yaa]
  have hx:kvs.length=xs.length:=ybi rel;have hi':i < es.size:=by omega
  have hq:xs[i]?=some xs[i]:=yab (1:);obtain ⟨q1,q2⟩:=zn3 rel hq
  have ek:es[i].key=.ref xs[i].2.1:=by
   have:es.toList[i]?=some (entryOfKey (tupleKind (zaN X.prog X.w)) xs[i]):=by rw [h4,yan,hq]; rfl
   rw [yby,getElem?_pos es i hi'] at this;rw [Option.some.inj this];rfl
  refine Dit.seen (m:=pure (.done (.ret .none))) st (Dit.step_item st g1 hdd hi' λ h' st' sb=>⟨_,rfl,?_⟩);have I1:Inv X pins σ H { s with heap:=h' }:=I.turned (t':=s.toks) (λ b o hb e=>(sb.2 b hb).trans e) f0 f1 f3 f4 f5;obtain ⟨o2,e2,c2,d2⟩:=id st';refine ⟨_,rfl,zm5 (s:={ s with heap:=h' }) e2 c2 d2 (3:) ⟨.ref xs[i].2.1,H,I1,ek,⟨rfl,_,_,q1,rfl,q2⟩,st',λ b hb=>(hf b hb).1⟩⟩
 done:=by
  intro X hP hw hK hc i pins s σ H E I hf st hg;subst hP hw hK;obtain ⟨hF,hi⟩:=hg;obtain ⟨f0,f1,f2,f3,f4,f5⟩:=hf it (5:);obtain ⟨g1,g2⟩:=(show zaT X.prog X.w H s.heap a (.frz o (.dT kvs)) from I.hok a _ hF)
  obtain ⟨_,_,xs,rel,o',es',ep',h1,h2,h3,h4,h5⟩:=g2;have eo:o'=o:=by rw [g1] at h1; exact (Option.some.inj h1).symm
  subst eo;rw [hdd] at h3;cases h3;have hl:es.size=xs.length:=by rw [<- yaM,h4,yaa]
  have hx:kvs.length=xs.length:=ybi rel;refine Dit.seen (m:=pure (.done (.ret .none))) st (Dit.step_end (I.ok.hd hc) st g1 hdd (1:) λ h' e eb hT=>⟨hT,rfl,I.turned (t':=s.toks) (λ b o hb e=>eb b o hb e) f0 f1 f3 f4 f5⟩)
 self:=λ _ i s Q E st h=>by
  have hT:s.TypeIs (.ref it) "dict_keyiterator":=st.typeIs;refine wpAny_pyIter_slot hT ycg (wpAny_call_entry ycg hT PySem.F.entry_dict_keyiterator_iter ?_ (PySem.F.args_dict_keyiterator_iter_1 _));exact wpAny_pure ⟨_,rfl,"dict_keyiterator",_,hT,PySem.F.slot_dict_keyiterator_next.lookup,h⟩
def zhJ {P:Program} {w:World} {H:Hp} {h:Heap} {a:Addr} {o:Obj} {kvs:List (List Key × V)} (ok:zaT P w H h a (.dT kvs)) (e:H a=some (.dT kvs)) (ho:h.get? a=some o):zaT P w (upd H a (.frz o (.dT kvs))) h a (.frz o (.dT kvs)):=by
  obtain ⟨z1,z2,xs,rel,r⟩:=ok
  have up:∀ {l:List (List Key × V)} {m:List (List Key × Addr × Value)},Paired (λ (p:List Key × V) (q:List Key × Addr × Value)=>p.1=q.1 /\ H q.2.1=some (.tup (p.1.map kV)) /\ RelV p.2 q.2.2) l m ->
      Paired (λ (p:List Key × V) (q:List Key × Addr × Value)=>p.1=q.1 /\ upd H a (.frz o (.dT kvs)) q.2.1=some (.tup (p.1.map kV)) /\ RelV p.2 q.2.2) l m:=λ q=>by
    induction q with
    | nil=>exact .nil
    | cons hq _ ih=>
      refine .cons ⟨hq.1,?_,hq.2.2⟩ ih;rw [zan (zbY hq.2.1 e nofun)];exact hq.2.1
  exact ⟨ho,z1,z2,xs,up rel,r⟩
section
variable {X:Cx} {tg:Expr}
noncomputable def znM (tl:TE):TI:=λ σ H R=>tl σ H λ x H1=>∃ (a:Addr) (kvs:List (List Key × V)),x=.ref a /\ ((H1 a=some (.dT kvs) /\ ∀ o,R (Itd a o kvs) (upd H1 a (.frz o (.dT kvs)))) \/ ∃ o,Frz H1 a o kvs /\ R (Itd a o kvs) H1)
def zj1 {l:Expr} {tl:TE} (hl:PE X l tl):PI X tg l (znM tl):=by
 intro pins s σ H R I h;refine thn (hl pins s σ H _ I h) λ v s1 ⟨x,H1,I1,r1,q1⟩=>?_;obtain ⟨a,kvs,e,q⟩:=q1;subst e;cases r1;rcases q with ⟨e,q⟩ | ⟨o,e,q⟩
 ·have ok := (show zaT X.prog X.w H1 s1.heap a (.dT kvs) from I1.hok a _ e)
  obtain ⟨z1,z2,xs,rel,o,es,ep,h1,h2,h3,h4,h5⟩:=id ok;refine Dit.iter_dict z2 h1 h2 h3 ?_;have ha:=yai h1;have h1':(s1.heap.push { cls:=.type "dict_keyiterator",data:=.fields #[.ref a,.int 0 0,.int es.size 0,.int ep 0] }).get? a=some o:=yae _ h1
  have J:Inv X pins σ (upd H1 a (.frz o (.dT kvs))) { s1 with heap:=s1.heap.push { cls:=.type "dict_keyiterator",data:=.fields #[.ref a,.int 0 0,.int es.size 0,.int ep 0] } }:=by
   have I2:=I1.kept (t':=s1.toks) (h':=s1.heap.push { cls:=.type "dict_keyiterator",data:=.fields #[.ref a,.int 0 0,.int es.size 0,.int ep 0] }) λ b o e=>yae _ e;have ok2:=(show zaT X.prog X.w H1 _ a (.dT kvs) from I2.hok a _ e)
   exact I2.write (t':=s1.toks) (x:=a) (e:=a) (by rw [e]; trivial) (.inl rfl) (λ b u _ z=>z) ⟨o,h1'⟩ (zhJ ok2 e h1')
  refine ⟨s1.heap.objs.size,[s1.heap.objs.size],_,_,_,rfl,J,zhd h3 a kvs _ (yax ha),⟨_,yao _ rfl,rfl,rfl⟩,λ b hb=>?_,q o⟩;have eb:b=s1.heap.objs.size:=by simpa using hb
  subst eb;exact I1.fpOk (yag _) (by rw [zan (ybC ha)]; exact I1.hok.fresh (yag _))
 ·obtain ⟨g1, z1, z2, xs, rel, o', es, ep, h1, h2, h3, h4, h5⟩ := (show zaT X.prog X.w H1 s1.heap a (.frz o (.dT kvs)) from I1.hok a _ e)
  have eo:o'=o:=by rw [g1] at h1; exact (Option.some.inj h1).symm
  subst eo;refine Dit.iter_dict z2 h1 h2 h3 ?_;have ha:=yai h1;refine ⟨s1.heap.objs.size,[s1.heap.objs.size],_,_,H1,rfl,I1.kept (t':=s1.toks) λ b o e=>yae _ e,zhd h3 a kvs _ (yax ha),⟨_,yao _ rfl,rfl,rfl⟩,λ b hb=>?_,q⟩;have eb:b=s1.heap.objs.size:=by simpa using hb
  subst eb;exact I1.fpOk (yag _) (I1.hok.fresh (yag _))
end
def zmP {a:Addr} {o:Obj} {kvs:List (List Key × V)} {g:TG} {tb:TS} {D:Ends} {σ:St} {H:Hp} (Pv:Nat -> St -> Hp -> Prop) (h0:Pv 0 σ H) (hl:∀ i σ H',Pv i σ H' -> Frz H' a o kvs)
  (step:∀ i k b σ H',(kvs.map (·.1))[i]?=some k -> H' b=some (.tup (k.map kV)) -> Pv i σ H' -> g (.ref b) σ H' λ σ2 H2=>tb { D with nx:=Pv (i + 1),ct:=Pv (i + 1),bk:=D.nx } σ2 H2) (done:∀ σ H',Pv kvs.length σ H' -> D.nx σ H'):ForW (Itd a o kvs) g tb D σ H:=by
 refine ⟨λ i m σ H=>m=kvs.length - i /\ i <= kvs.length /\ Pv i σ H,⟨kvs.length,by simp,yaY _,h0⟩,?_⟩;rintro i m σ H ⟨rfl,hi,p⟩;by_cases hlt:i < kvs.length
 ·refine .inr ⟨⟨hl i σ H p,hlt⟩,Pv (i + 1),λ σ' H' p'=>⟨kvs.length - (i + 1),by omega,rfl,hlt,p'⟩,λ x H' y=>?_⟩;obtain ⟨e,k,b,y1,rfl,y3⟩:=y;subst e;exact step i k b σ _ y1 y3 p
 ·have e : i = kvs.length := by omega
  subst e;exact .inl ⟨⟨hl _ σ H p,yag _⟩,done σ H p⟩
def zmC {a:Addr} {o:Obj} {kvs:List (List Key × V)} {src:List (Option Nat)} {σ:St} {g:TG} {tc:TT} {te:TE} {Q:VK} {H:Hp} (Pv:Nat -> List V -> Hp -> Prop) (h0:Pv 0 [] H) (len:∀ i acc H,Pv i acc H -> acc.length <= sizeLine) (hl:∀ i acc H,Pv i acc H -> Frz H a o kvs)
  (step:∀ i k b acc H,(kvs.map (·.1))[i]?=some k -> H b=some (.tup (k.map kV)) -> Pv i acc H -> g (.ref b) (capt src σ) H λ σ2 H2=>Ext (capt src σ) σ2 /\ tc σ2 H2 λ b H3=>if b=true then te σ2 H3 (λ y H4=>Pv (i + 1) (acc ++ [y]) H4) else Pv (i + 1) acc H3)
  (done:∀ acc H,Pv kvs.length acc H -> ∀ p,H p=none -> Q (.ref p) (upd H p (.lst acc))):zcF (Itd a o kvs) src σ g tc te Q H:=by
 refine ⟨λ i m acc H=>m=kvs.length - i /\ i <= kvs.length /\ Pv i acc H,⟨kvs.length,by simp,yaY _,h0⟩,?_⟩;rintro i m acc H ⟨rfl,hi,p⟩;refine ⟨len i acc H p,?_⟩;by_cases hlt:i < kvs.length
 ·refine .inr ⟨⟨hl i acc H p,hlt⟩,λ y H4=>Pv (i + 1) (acc ++ [y]) H4,λ H3=>Pv (i + 1) acc H3,λ y H4 q=>⟨kvs.length - (i + 1),by omega,rfl,hlt,q⟩,λ H3 q=>⟨kvs.length - (i + 1),by omega,rfl,hlt,q⟩,λ x H' y=>?_⟩;obtain ⟨e,k,b,y1,rfl,y3⟩:=y;subst e;exact step i k b acc _ y1 y3 p
 ·have e : i = kvs.length := by omega
  subst e;exact .inl ⟨⟨hl _ acc H p,yag _⟩,done acc H p⟩
open Bm
noncomputable def Rn (S:List (List Int)) (w:Nat):Nat -> List Int -> Prop
 | 0,x=>x=zaJ w
 | n + 1,x=>∃ y s,Rn S w n y /\ s ∈ S /\ x=zaA y s
noncomputable def Dst (S:List (List Int)) (w n:Nat) (x:List Int):Prop:=Rn S w n x /\ ∀ m,m < n -> ¬ Rn S w m x
section
variable {S T:List (List Int)} {w n m:Nat} {x y s:List Int}
def Rn.least:∀ {n:Nat} {x:List Int},Rn S w n x -> ∃ m,m <= n /\ Dst S w m x:=λ {n x}=>by
 induction n using Nat.strongRecOn with
 | _ n ih=>
  intro h;by_cases c:∃ m,m < n /\ Rn S w m x
  ·obtain ⟨m,hm,z⟩:=c;obtain ⟨k,hk,d⟩:=ih m hm z;exact ⟨k,by omega,d⟩
  ·exact ⟨n,yag _,h,λ m hm z=>c ⟨m,hm,z⟩⟩
def Dst.one (a:Dst S w n x) (b:Dst S w m x):n=m:=by
 rcases Nat.lt_trichotomy n m with c | c | c
 ·exact absurd a.1 (b.2 n c)
 ·exact c
 ·exact absurd b.1 (a.2 m c)
def Dst.zero:Dst S w 0 x ↔ x=zaJ w:=⟨λ h=>h.1,λ h=>⟨h,λ m hm=>absurd hm (Nat.not_lt_zero _)⟩⟩
def Dst.last (h:Dst S w (n + 1) x):∃ y s,Dst S w n y /\ s ∈ S /\ x=zaA y s:=by
 obtain ⟨⟨y,s,h1,h2,h3⟩,h4⟩:=h;refine ⟨y,s,⟨h1,λ m hm z=>h4 (m + 1) (1:) ⟨y,s,z,h2,h3⟩⟩,h2,h3⟩
def Dst.next (h:Dst S w n y) (hs:s ∈ S) (hx:x=zaA y s) (hn:∀ m,m <= n -> ¬ Dst S w m x):Dst S w (n + 1) x:=by
 refine ⟨⟨y,s,h.1,hs,hx⟩,λ m hm z=>?_⟩;obtain ⟨k,hk,d⟩:=z.least;exact hn k (1:) d
def Dst.none_beyond (h:∀ x,¬ Dst S w n x):∀ m,n <= m -> ∀ x,¬ Dst S w m x:=λ m hm=>by
 induction m with
 | zero=>
  have:n=0:=by omega
  subst this;exact h
 | succ m ih=>
  intro x d;by_cases c:n=m + 1
  ·subst c; exact h x d
  ·obtain ⟨y,s,dy,_⟩:=d.last;exact ih (1:) y dy
def Rn.ld (hS:∀ s ∈ S,Ld w s):∀ {n:Nat} {x:List Int},Rn S w n x -> Ld w x
 | 0,_,h=>by
  have h:_=zaJ w:=h;rw [h]; exact ziP w
 | n + 1,x,⟨y,s,h1,h2,h3⟩=>by rw [h3]; exact zmg (Rn.ld hS h1) (hS s h2)
end
structure Ring (S:List (List Int)) (w n:Nat) (F:List (List Int × Nat)) (E:List (List Int)):Prop where
 all:∀ x m,(x,m) ∈ F ↔ m <= n /\ Dst S w m x
 edge:∀ x,x ∈ E ↔ Dst S w n x
 once:(F.map (·.1)).Nodup
 few:E.Nodup
def Ring.start (S:List (List Int)) (w:Nat):Ring S w 0 [(zaJ w,0)] [zaJ w] where
 all:=λ x m=>by
  rw [yah,Prod.mk.injEq];constructor
  ·rintro ⟨rfl,rfl⟩; exact ⟨yag _,Dst.zero.mpr rfl⟩
  ·rintro ⟨h1, h2⟩;have : m = 0 := by omega
   subst this;exact ⟨Dst.zero.mp h2,rfl⟩
 edge:=λ x=>by rw [yah]; exact Dst.zero.symm
 once:=by simp
 few:=by simp
structure Amid (S:List (List Int)) (w n:Nat) (F:List (List Int × Nat)) (D:List Int -> List Int -> Prop) (F':List (List Int × Nat)) (G:List (List Int)):Prop where
 is:F'=F ++ G.map λ x=>(x,n + 1)
 new:∀ x ∈ G,Dst S w (n + 1) x
 had:∀ y s,D y s -> (∃ m,m <= n /\ Dst S w m (zaA y s)) \/ zaA y s ∈ G
 once:(F'.map (·.1)).Nodup
def Amid.start {S:List (List Int)} {w n:Nat} {F:List (List Int × Nat)} {E:List (List Int)} (R:Ring S w n F E):Amid S w n F (λ _ _=>False) F []:=
 ⟨by simp,λ _ h=>absurd h ya2,λ _ _ h=>h.elim,R.once⟩
section
variable {S:List (List Int)} {w n:Nat} {F F':List (List Int × Nat)} {E G:List (List Int)} {D:List Int -> List Int -> Prop} {y s:List Int}
def Amid.keys (R:Ring S w n F E) (A:Amid S w n F D F' G) (x:List Int):x ∈ F'.map (·.1) ↔ (∃ m,m <= n /\ Dst S w m x) \/ x ∈ G:=by
 rw [A.is,yal,yas,ya6];constructor
 ·rintro (h | h)
  ·obtain ⟨q,hq,rfl⟩:=yaf.mp h;have:=(R.all q.1 q.2).mp hq;exact .inl ⟨q.2,this⟩
  ·obtain ⟨z,hz,rfl⟩:=yaf.mp h;exact .inr hz
 ·rintro (⟨m, h⟩ | h)
  ·exact .inl (yaf.mpr ⟨(x,m),(R.all x m).mpr h,rfl⟩)
  ·exact .inr (yaf.mpr ⟨x,h,rfl⟩)
def Amid.old (R:Ring S w n F E) (A:Amid S w n F D F' G) (h:zaA y s ∈ F'.map (·.1)):Amid S w n F (λ a b=>D a b \/ (a=y /\ b=s)) F' G:=
 ⟨A.is,A.new,λ a b z=>z.elim (A.had a b) λ z=>by rw [z.1,z.2]; exact (A.keys R _).mp h,A.once⟩
def Amid.add (R:Ring S w n F E) (A:Amid S w n F D F' G) (hy:y ∈ E) (hs:s ∈ S) (h:zaA y s ∉ F'.map (·.1)):Amid S w n F (λ a b=>D a b \/ (a=y /\ b=s)) (F' ++ [(zaA y s,n + 1)]) (G ++ [zaA y s]) where
 is:=by rw [A.is,yal,yaH]; rfl
 new:=λ x hx=>by
  rcases yas.mp hx with z | z
  ·exact A.new x z
  ·rw [yah.mp z];exact ((R.edge y).mp hy).next hs rfl λ m hm d=>h ((A.keys R _).mpr (.inl ⟨m,hm,d⟩))
 had:=λ a b z=>by
  rcases z with z | ⟨rfl,rfl⟩
  ·exact (A.had a b z).imp id λ q=>yaA _ q
  ·exact .inr (yay _ (yah.mpr rfl))
 once:=by
  rw [yal];refine ycv.mpr ⟨A.once,by simp,λ a ha b hb z=>?_⟩;have:b=zaA y s:=yah.mp hb;rw [z,this] at ha;exact h ha
def Amid.done (R:Ring S w n F E) (A:Amid S w n F D F' G) (h:∀ y s,y ∈ E -> s ∈ S -> D y s):Ring S w (n + 1) F' G:=by
 have new:∀ x,Dst S w (n + 1) x -> x ∈ G:=λ x d=>by
  obtain ⟨y,s,dy,hs,rfl⟩:=d.last;rcases A.had y s (h y s ((R.edge y).mpr dy) hs) with ⟨m,hm,z⟩ | z
  ·have:=d.one z; omega
  ·exact z
 have nod:=A.once;rw [A.is,yal,ya6] at nod;refine ⟨λ x m=>?_,λ x=>⟨A.new x,new x⟩,A.once,?_⟩
 ·rw [A.is, yas, R.all, yaf];constructor
  ·rintro (⟨h1, h2⟩ | ⟨z, hz, e⟩)
   ·exact ⟨by omega,h2⟩
   ·cases e;exact ⟨yag _,A.new _ hz⟩
  ·rintro ⟨h1, h2⟩;by_cases c : m <= n
   ·exact .inl ⟨c,h2⟩
   ·have : m = n + 1 := by omega
    subst this;exact .inr ⟨x,new x h2,rfl⟩
 ·have := (ycv.mp nod).2.1
  have e:(List.map ((λ (q:List Int × Nat)=>q.1) ∘ λ x=>(x,n + 1)) G)=G:=by
   conv=>rhs; rw [<- List.map_id G]
   rfl
  rw [e] at this;exact this
def Ring.end (R:Ring S w n F []) (x:List Int) (m:Nat):(x,m) ∈ F ↔ Dst S w m x:=by
 rw [R.all];have:=Dst.none_beyond (S:=S) (w:=w) (n:=n) λ x d=>absurd ((R.edge x).mpr d) ya2;refine ⟨λ h=>h.2,λ h=>⟨?_,h⟩⟩;rcases ybH m n with c | c
 ·omega
 ·exact absurd h (this m c x)
end
def zjY:∀ (N:Nat) (l:List Nat),l.Nodup -> (∀ x ∈ l,x < N) -> l.length <= N
 | 0,l,_,h=>by
  cases l with
  | nil=>exact yag _
  | cons a l=>exact absurd (h a (.head _)) (Nat.not_lt_zero _)
 | N + 1,l,hd,h=>by
  have:=zjY N (l.erase N) (hd.erase N) λ x hx=>by
   have h1:=(List.Nodup.mem_erase_iff hd).mp hx;have:=h x h1.2;have:=h1.1;omega
  by_cases c:N ∈ l
  ·rw [List.length_erase_of_mem c] at this;omega
  ·rw [List.erase_of_not_mem c] at this;omega
noncomputable def zdl (b:Nat):List Int -> Nat
 | []=>0
 | e :: r=>(e + 2).toNat + b * zdl b r
def zkX (b:Nat):∀ ls:List Int,(∀ e ∈ ls,-2 <= e /\ e + 2 < (b:Int)) -> zdl b ls < b ^ ls.length
 | [],_=>by simp [zdl]
 | e :: r,h=>by
  have h1:=h e (.head _);have ih:=zkX b r λ x hx=>h x (.tail _ hx);rw [zdl,ybq,Nat.pow_succ]
  have:b * zdl b r + b <= b ^ r.length * b:=by
   rw [ycT (b ^ r.length) b,<- Nat.mul_succ];exact Nat.mul_le_mul_left b ih
  omega
def zjl (b:Nat):∀ {x y:List Int},x.length=y.length -> (∀ e ∈ x,-2 <= e /\ e + 2 < (b:Int)) -> (∀ e ∈ y,-2 <= e /\ e + 2 < (b:Int)) -> zdl b x=zdl b y -> x=y
 | [],[],_,_,_,_=>rfl
 | [],_ :: _,h,_,_,_=>by cases h
 | _ :: _,[],h,_,_,_=>by cases h
 | e :: x,f :: y,hl,hx,hy,h=>by
  have h1:=hx e (.head _);have h2:=hy f (.head _);rw [zdl,zdl] at h;have m1:((e + 2).toNat + b * zdl b x) % b=(e + 2).toNat:=by rw [Nat.add_mul_mod_self_left,ycF (1:)]
  have m2:((f + 2).toNat + b * zdl b y) % b=(f + 2).toNat:=by rw [Nat.add_mul_mod_self_left,ycF (1:)]
  have ef:(e + 2).toNat=(f + 2).toNat:=by rw [<- m1,<- m2,h]
  have e2:b * zdl b x=b * zdl b y:=by omega
  have e3:zdl b x=zdl b y:=Nat.eq_of_mul_eq_mul_left (1:) e2;rw [zjl b (67:) (λ z hz=>hx z (.tail _ hz)) (λ z hz=>hy z (.tail _ hz)) e3];congr 1;omega
def zei {w:Nat} {l:List (List Int)} (hn:l.Nodup) (h:∀ x ∈ l,Ld w x):l.length <= (w + 2) ^ w:=by
 have bd:∀ x ∈ l,∀ e ∈ x,-2 <= e /\ e + 2 < ((w + 2:Nat):Int):=λ x hx e he=>by
  have:=(h x hx).2 e he;omega
 have hm:(l.map (zdl (w + 2))).Nodup:=by
  refine ya3.mpr (hn.imp_of_mem λ {x y} hx hy ne z=>ne ?_);exact zjl (w + 2) (by rw [(h x hx).1,(h y hy).1]) (bd x hx) (bd y hy) z
 have:=zjY ((w + 2) ^ w) _ hm λ c hc=>by
  obtain ⟨x,hx,rfl⟩:=yaf.mp hc;have:=zkX (w + 2) x (bd x hx);rw [(h x hx).1] at this;exact this
 rw [yaa] at this;exact this
def Ring.len {S:List (List Int)} {w n:Nat} {F:List (List Int × Nat)} {E:List (List Int)} (R:Ring S w n F E) (hS:∀ s ∈ S,Ld w s):F.length <= (w + 2) ^ w:=by
 have:=zei (w:=w) R.once λ x hx=>by
  obtain ⟨q,hq,rfl⟩:=yaf.mp hx;exact ((R.all q.1 q.2).mp hq).2.1.ld hS
 rw [yaa] at this;exact this
def Amid.len {S:List (List Int)} {w n:Nat} {F F':List (List Int × Nat)} {E G:List (List Int)} {D:List Int -> List Int -> Prop} (R:Ring S w n F E) (A:Amid S w n F D F' G) (hS:∀ s ∈ S,Ld w s):F'.length <= (w + 2) ^ w:=by
 have:=zei (w:=w) A.once λ x hx=>by
  rcases (A.keys R x).mp hx with ⟨m,_,d⟩ | z
  ·exact d.1.ld hS
  ·exact (A.new x z).1.ld hS
 rw [yaa] at this;exact this
noncomputable def zlK (tk tv:TE):TE:=λ σ H Q=>∀ p,H p=none -> tk σ (upd H p (.dT [])) λ x H1=>tv σ H1 λ y H2=>∃ (ks:List Key) (b:Addr),x=.ref b /\ H2 b=some (.tup (ks.map kV)) /\ H2 p=some (.dT []) /\ Q (.ref p) (upd H2 p (.dT [(ks,y)]))
def zhF {X:Cx} {pos:Pos} {k v:Expr} {tk tv:TE} (hu:X.A.units + 64 < cLine) (hk:PE X k tk) (hv:PE X v tv):PE X (.Dict [some k] [v] pos) (zlK tk tv):=by
 intro pins s σ H Q I q;have hn:=I.hok.fresh (yag s.heap.objs.size);have I1:=I.laid (a:=s.heap.objs.size) (o:=.dT []) (h':=s.heap.push { cls:=.type "dict",data:=.dict #[] }) (t':=s.toks) (λ _ _ q=>yae _ q) (yag _) (zjE s.heap I.big);have lp:(pairTrees [some k] [v] X.env pos).length=1:=pairTrees_length _ _ _ _ rfl rfl;rw [arm_eval_Dict,zip_pairTrees [some k] [v] X.env pos rfl rfl,dictDisplay_pairs (pairTrees [some k] [v] X.env pos) (λ z=>by rw [z] at lp; cases lp) (by rw [lp]; decide)];refine wpAny_bind (wpAny_standAt (wpAny_bind ?_));unfold subDict;refine wpAny_bind (wpAny_alloc (wpAny_bind (wpAny_holding ?_)));rw [if_pos (by rw [lp]; decide)];have h1:PPs X pos [some k] [v] [(tk,tv)]:=znj hk hv zor
 refine wpAny_bind (thn (h1 pins _ σ _ (λ ps H2=>match ps with
  | [(x,y)]=>∃ (ks:List Key) (b:Addr),x=.ref b /\ H2 b=some (.tup (ks.map kV)) /\ H2 s.heap.objs.size=some (.dT []) /\ Q (.ref s.heap.objs.size) (upd H2 s.heap.objs.size (.dT [(ks,y)]))
  | _=>False) I1 (q _ hn)) λ vs s2 z=>?_)
 obtain ⟨ps,H2,I2,rel,z⟩:=z
 match ps,rel,z with
 | [(x,y)],.cons (b:=(u,r)) rr .nil,z=>
  obtain ⟨ks,b,rfl,eb,e,q2⟩:=z;cases (show u=Value.ref b from rr.1);refine wpAny_holding ?_;rw [List.forIn_cons];obtain ⟨z1,hd,xs,rel0,dd⟩:=zoK I2.hok e;cases rel0;refine wpAny_bind (wpAny_bind (wpAny_bind (wpAny_dictSet_heap (knd:=tupleKind (zaN X.prog X.w)) (show X.A.units < cLine by omega) (zeO I2.hok eb) dd (λ h' dd' hs=>wpAny_pure ?_) (yaY _))));show wpAny _ _ (forIn [] PUnit.unit _) _ _ _;rw [List.forIn_nil];refine wpAny_pure (wpAny_pure (wpAny_pure (wpAny_pure ⟨.ref s.heap.objs.size,_,?_,rfl,q2⟩)));obtain ⟨qo,es,ep,hq,h2,h3,h4,_,h5⟩:=dd';refine zgH I2 (by rw [e]; exact True.intro) hs ⟨qo,hq⟩ ⟨(show 1 <= sizeLine by decide),hd,_,?_,qo,es,ep,hq,h2,h3,h4,h5⟩;refine .cons ⟨rfl,?_,rr.2⟩ .nil;rw [zan (zbY eb e (λ z=>nomatch z))];exact eb
 | [],_,z=>exact z.elim
 | _ :: _ :: _,_,z=>exact z.elim
end L2
namespace Srk
open PySem PyProof.Rows
class KeyC where
 κ:Keyed -> Int
 G:Keyed -> Prop
 kd:SortKind
class LtC [KeyC] (prog:Program) (w:World) (A:Around) (E:Value -> Shared -> Prop) (s:Shared):Prop where
 lt:∀ {st:SortSt} {x y:Keyed} {Q:Option Bool -> SortSt -> Prop},kindOf st=KeyC.kd -> KeyC.G x -> KeyC.G y -> Q (some (decide (KeyC.κ x < KeyC.κ y))) st -> wpS (model prog w) A E s (lt' x y) Q st
noncomputable def Kk [KeyC] (xs:Array Keyed) (i:Nat):Int:=match xs[i]? with
 | some p=>KeyC.κ p
 | none=>0
section
variable [KeyC]
def zcq {xs ys:Array Keyed} {i j:Nat} (h:xs[i]?=ys[j]?):Kk xs i=Kk ys j:=by unfold Kk; rw [h]
def zkA {xs:Array Keyed} {i:Nat} (hi:i < xs.size):Kk xs i=KeyC.κ xs[i]:=by unfold Kk; rw [getElem?_pos xs i hi]
noncomputable def zbP (xs:Array Keyed) (n:Nat):Prop:=∀ i j,i <= j -> j < n -> Kk xs i <= Kk xs j
end
end Srk
namespace Srk
open PySem PyProof.Rows
variable [KeyC]
noncomputable def gallop'Q:Bool -> Keyed -> Array Keyed -> Nat -> Nat -> Nat -> StateT SortSt Sem (Option Nat):=sortPriv% PySem.Builtin.gallop
noncomputable def beyond'Q (left:Bool) (key:Keyed) (arr:Array Keyed) (base i:Nat):StateT SortSt Sem (Option Bool):=do
  let x <- elem' arr (base + i)
  if left then lt' x key else return (<- lt' key x).map (!·)
noncomputable def zjw (left:Bool) (key:Keyed) (arr:Array Keyed) (base n lo0 hi0:Nat):StateT SortSt Sem (Option Nat):=do
 let mut lo:=lo0
 let mut hi:=hi0
 for _ in [0:n] do
  if lo >= hi then break
  let m:=lo + (hi - lo) / 2
  let some more <- beyond'Q left key arr base m | return none
  if more then lo:=m + 1 else hi:=m
 return some hi
noncomputable def zqV (left:Bool) (key:Keyed) (arr:Array Keyed) (base n hint:Nat):StateT SortSt Sem (Option Nat):=do
 let mut lastofs:=0
 let mut ofs:=1
 let maxofs:=n - hint
 for _ in [0:n] do
  if ofs >= maxofs then break
  let some more <- beyond'Q left key arr base (hint + ofs) | return none
  if !more then break
  lastofs:=ofs
  ofs:=2 * ofs + 1
 zjw left key arr base n (hint + lastofs + 1) (hint + min ofs maxofs)
noncomputable def zmA (left:Bool) (key:Keyed) (arr:Array Keyed) (base n hint:Nat):StateT SortSt Sem (Option Nat):=do
 let mut lastofs:=0
 let mut ofs:=1
 let maxofs:=hint + 1
 for _ in [0:n] do
  if ofs >= maxofs then break
  let some found <- beyond'Q left key arr base (hint - ofs) | return none
  if found then break
  lastofs:=ofs
  ofs:=2 * ofs + 1
 zjw left key arr base n (hint + 1 - min ofs maxofs) (hint - lastofs)
def gallop'_eqQ (left:Bool) (key:Keyed) (arr:Array Keyed) (base n hint:Nat):gallop'Q left key arr base n hint=(do
 let some right <- beyond'Q left key arr base hint | return none
 if right then zqV left key arr base n hint else zmA left key arr base n hint):=rfl
noncomputable def mergeLo'Q:Array Keyed -> Array Keyed -> StateT SortSt Sem (Array Keyed):=sortPriv% PySem.Builtin.mergeLo
noncomputable def mergeHi'Q:Array Keyed -> Array Keyed -> StateT SortSt Sem (Array Keyed):=sortPriv% PySem.Builtin.mergeHi
noncomputable def setMinGallop'Q:Nat -> StateT SortSt Sem Unit:=sortPriv% PySem.Builtin.setMinGallop
noncomputable abbrev zaQ (st:SortSt) (g:Nat):SortSt:=SortSt.mk' (kindOf st) (arrOf st) (pendingOf st) g (failedOf st)
def setMinGallop'_eqQ (g:Nat):setMinGallop'Q g=modify (λ s=>zaQ s g):=rfl
section
variable {prog:Program} {w:World} {A:Around} {E:Value -> Shared -> Prop} {s:Shared} [LtC prog w A E s]
noncomputable def zcj (xs:Array Keyed):Prop:=∀ (i:Nat) (x:Keyed),xs[i]?=some x -> KeyC.G x
def zfG {st:SortSt} {x y:Keyed} {Q:Option Bool -> SortSt -> Prop} (hk:kindOf st=KeyC.kd) (hx:KeyC.G x) (hy:KeyC.G y)
  (h:Q (some (decide (KeyC.κ x < KeyC.κ y))) st):wpS (model prog w) A E s (lt' x y) Q st:=LtC.lt hk hx hy h
def zax {st:SortSt} {xs:Array Keyed} {i:Nat} {Q:Keyed -> SortSt -> Prop} (hi:i < xs.size) (h:∀ x,xs[i]?=some x -> Q x st) :
  wpS (model prog w) A E s (elem' xs i) Q st:=by
 have e:xs[i]?=some xs[i]:=getElem?_pos _ i hi;rw [elem'_eq,e];exact wpS_pure (h _ e)
def zbn {xs:Array Keyed} {i:Nat} {x:Keyed} (h:xs[i]?=some x):Kk xs i=KeyC.κ x:=by unfold Kk; rw [h]
noncomputable def zaB (left:Bool) (k a:Int):Prop:=if left=true then a < k else a <= k
instance (left:Bool) (k a:Int):Decidable (zaB left k a):=by unfold zaB; infer_instance
def zaB.mono {left:Bool} {k a b:Int} (h:zaB left k b) (hab:a <= b):zaB left k a:=by
 unfold zaB at *
 split at h
 ·rename_i e; rw [if_pos e]; omega
 ·rename_i e; rw [if_neg e]; omega
def zcr {st:SortSt} {left:Bool} {key:Keyed} {arr:Array Keyed} {base i:Nat} {Q:Option Bool -> SortSt -> Prop} (hk:kindOf st=KeyC.kd) (hkey:KeyC.G key) (ha:zcj arr)
  (hi:base + i < arr.size) (h:Q (some (decide (zaB left (KeyC.κ key) (Kk arr (base + i))))) st) :
  wpS (model prog w) A E s (beyond'Q left key arr base i) Q st:=by
 unfold beyond'Q;refine wpS_bind (zax hi λ x ex=>?_);rw [zbn ex] at h;by_cases hl:left=true
 ·rw [if_pos hl];refine zfG hk (ha _ _ ex) hkey ?_;unfold zaB at h;simpa only [if_pos hl] using h
 ·rw [if_neg hl];refine wpS_bind (zfG hk hkey (ha _ _ ex) (wpS_pure ?_));unfold zaB at h
  have e:(!decide (KeyC.κ key < KeyC.κ x))=decide (KeyC.κ x <= KeyC.κ key):=by
   by_cases hh:KeyC.κ key < KeyC.κ x
   ·rw [decide_eq_true hh,decide_eq_false (1:)]; rfl
   ·rw [decide_eq_false hh,decide_eq_true (1:)]; rfl
  simp only [if_neg hl] at h;simpa only [ycn,e] using h
def zf9 {st:SortSt} {left:Bool} {key:Keyed} {arr:Array Keyed} {base n lo hi:Nat} {Q:Option Nat -> SortSt -> Prop} (hk:kindOf st=KeyC.kd) (hkey:KeyC.G key) (ha:zcj arr)
    (hn:base + n <= arr.size) (mono:∀ i j,i <= j -> j < n -> Kk arr (base + i) <= Kk arr (base + j)) (hlh:lo <= hi) (hhn:hi <= n)
    (hlo:∀ i,i < lo -> zaB left (KeyC.κ key) (Kk arr (base + i))) (hhi:∀ i,hi <= i -> i < n -> ¬ zaB left (KeyC.κ key) (Kk arr (base + i)))
    (h:∀ k,k <= n -> (∀ i,i < k -> zaB left (KeyC.κ key) (Kk arr (base + i))) -> (∀ i,k <= i -> i < n -> ¬ zaB left (KeyC.κ key) (Kk arr (base + i))) -> Q (some k) st) :
    wpS (model prog w) A E s (zjw left key arr base n lo hi) Q st:=by
  unfold zjw;dsimp only
  refine wpS_bind (wpS_mono (wpS_forRange (I:=λ x c st'=>st'=st /\ ∃ l r,c=(none,l,r) /\ l <= r /\ r <= n /\ r - l <= n - x /\
      (∀ i,i < l -> zaB left (KeyC.κ key) (Kk arr (base + i))) /\ (∀ i,r <= i -> i < n -> ¬ zaB left (KeyC.κ key) (Kk arr (base + i))))
    (Q:=λ c st'=>st'=st /\ ∃ l r,c=(none,l,r) /\ r <= n /\
      (∀ i,i < r -> zaB left (KeyC.κ key) (Kk arr (base + i))) /\ (∀ i,r <= i -> i < n -> ¬ zaB left (KeyC.κ key) (Kk arr (base + i)))) ?step ?fin ?init) ?post)
  case init=>exact ⟨rfl,lo,hi,rfl,hlh,hhn,by omega,hlo,hhi⟩
  case fin=>
    rintro c st' ⟨rfl,l,r,rfl,h1,h2,h3,h4,h5⟩;have:l=r:=by omega
    subst this;exact ⟨rfl,l,l,rfl,h2,h4,h5⟩
  case step=>
    rintro x c st' _ hx ⟨rfl,l,r,rfl,h1,h2,h3,h4,h5⟩;dsimp only;by_cases hge:l >= r
    · rw [if_pos hge];have : l = r := by omega
      subst this;exact wpS_pure ⟨rfl,l,l,rfl,h2,h4,h5⟩
    · rw [if_neg hge];refine wpS_bind (zcr hk hkey ha (1:) ?_);by_cases hl : zaB left (KeyC.κ key) (Kk arr (base + (l + (r - l) / 2)))
      · simp only [hl,decide_true,if_true];exact wpS_pure ⟨rfl,_,r,rfl,by omega,h2,by omega,λ i hi=>hl.mono (mono _ _ (1:) (1:)),h5⟩
      · simp only [hl,decide_false,yaF,if_false];exact wpS_pure ⟨rfl,l,_,rfl,by omega,by omega,by omega,h4,λ i hi hin z=>hl (z.mono (mono _ _ (1:) (1:)))⟩
  case post=>
    rintro c st' ⟨rfl,l,r,rfl,h2,h4,h5⟩;exact wpS_pure (h r h2 h4 h5)
def zbi {st:SortSt} {left:Bool} {key:Keyed} {arr:Array Keyed} {base n hint:Nat} {Q:Option Nat -> SortSt -> Prop} (hk:kindOf st=KeyC.kd) (hkey:KeyC.G key) (ha:zcj arr)
  (hn:base + n <= arr.size) (hh:hint < n) (mono:∀ i j,i <= j -> j < n -> Kk arr (base + i) <= Kk arr (base + j))
  (h:∀ k,k <= n -> (∀ i,i < k -> zaB left (KeyC.κ key) (Kk arr (base + i))) -> (∀ i,k <= i -> i < n -> ¬ zaB left (KeyC.κ key) (Kk arr (base + i))) -> Q (some k) st) :
  wpS (model prog w) A E s (gallop'Q left key arr base n hint) Q st:=by
 rw [gallop'_eqQ];refine wpS_bind (zcr hk hkey ha (1:) ?_);dsimp only;by_cases hr:zaB left (KeyC.κ key) (Kk arr (base + hint))
 ·simp only [hr, decide_true, if_true];unfold zqV;dsimp only
  refine wpS_bind (wpS_mono (wpS_forRange (I:=λ x c st'=>st'=st /\ ∃ l r,c=(none,l,r) /\ l < r /\ x + 1 <= r /\ hint + l < n /\ zaB left (KeyC.κ key) (Kk arr (base + (hint + l))))
   (Q:=λ c st'=>st'=st /\ ∃ l r,c=(none,l,r) /\ l < r /\ hint + l < n /\ zaB left (KeyC.κ key) (Kk arr (base + (hint + l))) /\ (r >= n - hint \/ ¬ zaB left (KeyC.κ key) (Kk arr (base + (hint + r))))) ?step ?fin ?init) ?post)
  case init=>exact ⟨rfl,0,1,rfl,by omega,by omega,by omega,hr⟩
  case fin=>
   rintro c st' ⟨rfl,l,r,rfl,h1,h2,h3,h4⟩;exact ⟨rfl,l,r,rfl,h1,h3,h4,.inl (1:)⟩
  case step=>
   rintro x c st' _ hx ⟨rfl,l,r,rfl,h1,h2,h3,h4⟩;dsimp only;by_cases hge:r >= n - hint
   ·rw [if_pos hge];exact wpS_pure ⟨rfl,l,r,rfl,h1,h3,h4,.inl hge⟩
   ·rw [if_neg hge];refine wpS_bind (zcr hk hkey ha (1:) ?_);by_cases hl : zaB left (KeyC.κ key) (Kk arr (base + (hint + r)))
    ·simp only [hl,decide_true,yco,yaF,if_false];exact wpS_pure ⟨rfl,r,_,rfl,by omega,by omega,by omega,hl⟩
    ·simp only [hl,decide_false,Bool.not_false,if_true];exact wpS_pure ⟨rfl,l,r,rfl,h1,h3,h4,.inr hl⟩
  case post=>
   rintro c st' ⟨rfl,l,r,rfl,h1,h3,h4,h5⟩;dsimp only;refine zf9 (lo:=hint + l + 1) (hi:=hint + min r (n - hint)) hk hkey ha hn mono (1:) (1:) (λ i hi=>h4.mono (mono _ _ (1:) (1:))) (λ i hi hin z=>?_) h;rcases h5 with h5 | h5
   ·omega
   ·by_cases hq : r <= n - hint
    ·rw [ybZ hq] at hi;exact h5 (z.mono (mono _ _ (1:) (1:)))
    ·omega
 ·simp only [hr, decide_false, yaF, if_false];unfold zmA;dsimp only
  refine wpS_bind (wpS_mono (wpS_forRange (I:=λ x c st'=>st'=st /\ ∃ l r,c=(none,l,r) /\ l < r /\ x + 1 <= r /\ l <= hint /\ ¬ zaB left (KeyC.κ key) (Kk arr (base + (hint - l))))
   (Q:=λ c st'=>st'=st /\ ∃ l r,c=(none,l,r) /\ l < r /\ l <= hint /\ ¬ zaB left (KeyC.κ key) (Kk arr (base + (hint - l))) /\ (r >= hint + 1 \/ zaB left (KeyC.κ key) (Kk arr (base + (hint - r))))) ?step ?fin ?init) ?post)
  case init=>exact ⟨rfl,0,1,rfl,by omega,by omega,by omega,hr⟩
  case fin=>
   rintro c st' ⟨rfl,l,r,rfl,h1,h2,h3,h4⟩;exact ⟨rfl,l,r,rfl,h1,h3,h4,.inl (1:)⟩
  case step=>
   rintro x c st' _ hx ⟨rfl,l,r,rfl,h1,h2,h3,h4⟩;dsimp only;by_cases hge:r >= hint + 1
   ·rw [if_pos hge];exact wpS_pure ⟨rfl,l,r,rfl,h1,h3,h4,.inl hge⟩
   ·rw [if_neg hge];refine wpS_bind (zcr hk hkey ha (1:) ?_);by_cases hl : zaB left (KeyC.κ key) (Kk arr (base + (hint - r)))
    ·simp only [hl,decide_true,if_true];exact wpS_pure ⟨rfl,l,r,rfl,h1,h3,h4,.inr hl⟩
    ·simp only [hl,decide_false,yaF,if_false];exact wpS_pure ⟨rfl,r,_,rfl,by omega,by omega,by omega,hl⟩
  case post=>
   rintro c st' ⟨rfl,l,r,rfl,h1,h3,h4,h5⟩;dsimp only;refine zf9 (lo:=hint + 1 - min r (hint + 1)) (hi:=hint - l) hk hkey ha hn mono (1:) (1:) (λ i hi=>?_) (λ i hi hin z=>h4 (z.mono (mono _ _ (1:) (1:)))) h;rcases h5 with h5 | h5
   ·omega
   ·by_cases hq : r <= hint + 1
    ·rw [ybZ hq] at hi;exact h5.mono (mono _ _ (1:) (1:))
    ·omega
end
end Srk
namespace Srk
open PySem PyProof.Rows
variable [KeyC]
noncomputable abbrev kfQ (x:Keyed):Int:=KeyC.κ x
noncomputable def SrQ (l:List Keyed):Prop:=l.Pairwise λ x y=>kfQ x <= kfQ y
structure MIQ (T L A B:List Keyed):Prop where
 perm:(L ++ (A ++ B)).Perm T
 sa:SrQ (L ++ A)
 sb:SrQ (L ++ B)
def MIQ.symm {T L A B:List Keyed} (h:MIQ T L A B):MIQ T L B A:=⟨((ycC L ycD).trans h.perm),h.sb,h.sa⟩
def MIQ.take {T L A B:List Keyed} (h:MIQ T L A B) (k:Nat) (hk:∀ x ∈ A.take k,∀ y ∈ B,kfQ x <= kfQ y):MIQ T (L ++ A.take k) (A.drop k) B:=by
 refine ⟨?_,?_,?_⟩
 ·have e : L ++ A.take k ++ (A.drop k ++ B) = L ++ (A ++ B) := by rw [yaH, <- yaH (A.take k), ybe]
  rw [e]; exact h.perm
 ·rw [yaH,ybe]; exact h.sa
 ·have h1 := yaN.mp h.sa;have h2 := yaN.mp h.sb;rw [SrQ, yaH, yaN];refine ⟨h1.1, yaN.mpr ⟨h1.2.1.sublist (List.take_sublist _ _), h2.2.1, hk⟩, fun x hx y hy => ?_⟩;rcases yas.mp hy with hy | hy
  ·exact h1.2.2 x hx y (ybM hy)
  ·exact h2.2.2 x hx y hy
def MIQ.one {T L A B:List Keyed} {x:Keyed} (h:MIQ T L (x :: A) B) (hk:∀ y ∈ B,kfQ x <= kfQ y):MIQ T (L ++ [x]) A B:=
 h.take 1 λ z hz y hy=>by
  have:z=x:=by simpa using hz
  subst this; exact hk y hy
def MIQ.last {T L B:List Keyed} {z:Keyed} (h:MIQ T L [z] B) (hz:∀ y ∈ B,kfQ y <= kfQ z):(L ++ B ++ [z]).Perm T /\ SrQ (L ++ B ++ [z]):=by
 have h':=h.symm;refine ⟨by rw [yaH]; exact h'.perm,?_⟩;rw [SrQ,yaN];refine ⟨h.sb,List.pairwise_singleton _ _,λ x hx y hy=>?_⟩;have:y=z:=by simpa using hy
 subst this;rcases yas.mp hx with hx | hx
 ·exact (yaN.mp h.sa).2.2 x hx y (5:)
 ·exact hz x hx
structure MHQ (T R A B:List Keyed):Prop where
 perm:((A ++ B) ++ R).Perm T
 sa:SrQ (A ++ R)
 sb:SrQ (B ++ R)
def MHQ.symm {T R A B:List Keyed} (h:MHQ T R A B):MHQ T R B A:=⟨((ycs R ycD).trans h.perm),h.sb,h.sa⟩
def MHQ.take {T R A B:List Keyed} (h:MHQ T R A B) (k:Nat) (hk:∀ x ∈ A.drop k,∀ y ∈ B,kfQ y <= kfQ x):MHQ T (A.drop k ++ R) (A.take k) B:=by
 refine ⟨?_,?_,?_⟩
 ·have e:(A.take k ++ B ++ (A.drop k ++ R)).Perm (A ++ B ++ R):=by
   have p1:(A.take k ++ B ++ A.drop k).Perm (A.take k ++ A.drop k ++ B):=by
    rw [yaH,yaH]; exact ycC _ ycD
   rw [ybe] at p1;rw [<- yaH];exact ycs R p1
  exact e.trans h.perm
 ·rw [<- yaH,ybe]; exact h.sa
 ·have h1 := yaN.mp h.sa;have h2 := yaN.mp h.sb;rw [SrQ, yaN];refine ⟨h2.1, yaN.mpr ⟨h1.1.sublist (List.drop_sublist _ _), h1.2.1, fun x hx y hy => h1.2.2 x (List.mem_of_mem_drop hx) y hy⟩, fun x hx y hy => ?_⟩;rcases yas.mp hy with hy | hy
  ·exact hk y hy x hx
  ·exact h2.2.2 x hx y hy
def MHQ.one {T R A B:List Keyed} {x:Keyed} (h:MHQ T R (A ++ [x]) B) (hk:∀ y ∈ B,kfQ y <= kfQ x):MHQ T (x :: R) A B:=by
  have e1:(A ++ [x]).drop A.length=[x]:=by simp
  have e2:(A ++ [x]).take A.length=A:=by simp
  have := h.take A.length (by rw [e1]; intro z hz y hy; have : z = x := by simpa using hz
                              subst this; exact hk y hy)
  rw [e1,e2] at this;exact this
def MHQ.first {T R A:List Keyed} {z:Keyed} (h:MHQ T R A [z]) (hz:∀ y ∈ A,kfQ z <= kfQ y):([z] ++ A ++ R).Perm T /\ SrQ ([z] ++ A ++ R):=by
 have h':=h.symm;refine ⟨h'.perm,?_⟩;rw [SrQ,yaH,yaN];refine ⟨List.pairwise_singleton _ _,h.sa,λ x hx y hy=>?_⟩;have:x=z:=by simpa using hx
 subst this;rcases yas.mp hy with hy | hy
 ·exact hz y hy
 ·exact (yaN.mp h.sb).2.2 x (5:) y hy
def zgL {xs:Array Keyed} {i:Nat} {x:Keyed} (h:xs[i]?=some x):xs.toList.drop i=x :: xs.toList.drop (i + 1):=by
 have hi:i < xs.size:=by
  rcases ybH i xs.size with h1 | h1
  ·exact h1
  ·rw [getElem?_neg xs i (1:)] at h; cases h
 rw [getElem?_pos xs i hi] at h;have e:=Option.some.inj h;rw [yb8 (62:)];simp [e]
def zgU {xs:Array Keyed} {i:Nat} {x:Keyed} (h:xs[i]?=some x):xs.toList.take (i + 1)=xs.toList.take i ++ [x]:=by
 have hi:i < xs.size:=by
  rcases ybH i xs.size with h1 | h1
  ·exact h1
  ·rw [getElem?_neg xs i (1:)] at h; cases h
 rw [getElem?_pos xs i hi] at h;have e:=Option.some.inj h;rw [List.take_succ_eq_append_getElem (62:)];simp [e]
def zbJ {xs:Array Keyed} {i:Nat} {x:Keyed} (h:x ∈ xs.toList.drop i):∃ j,i <= j /\ j < xs.size /\ kfQ x=Kk xs j:=by
 obtain ⟨k,hk,e⟩:=ycb h;have hk':i + k < xs.size:=by simp at hk; omega
 refine ⟨i + k,by omega,hk',?_⟩;rw [List.getElem_drop] at e;rw [zbn (getElem?_pos xs (i + k) hk'),<- e];simp
def zbE {xs:Array Keyed} {i:Nat} {x:Keyed} (h:x ∈ xs.toList.take i):∃ j,j < i /\ j < xs.size /\ kfQ x=Kk xs j:=by
 obtain ⟨k,hk,e⟩:=ycb h;have hk':k < i /\ k < xs.size:=by simp at hk; omega
 refine ⟨k,by omega,hk'.2,?_⟩;rw [List.getElem_take] at e;rw [zbn (getElem?_pos xs k hk'.2),<- e];simp
def zdP {xs:Array Keyed} {i k:Nat} {x:Keyed} (h:x ∈ (xs.toList.drop i).take k):∃ j,j < k /\ i + j < xs.size /\ kfQ x=Kk xs (i + j):=by
 obtain ⟨m,hm,e⟩:=ycb h;have hm':m < k /\ i + m < xs.size:=by simp at hm; omega
 refine ⟨m,hm'.1,hm'.2,?_⟩;rw [List.getElem_take,List.getElem_drop] at e;rw [zbn (getElem?_pos xs (i + m) hm'.2),<- e];simp
def zcL {xs:Array Keyed} {i k:Nat} {x:Keyed} (h:x ∈ (xs.toList.take i).drop k):∃ j,k <= j /\ j < i /\ j < xs.size /\ kfQ x=Kk xs j:=by
 obtain ⟨m,hm,e⟩:=ycb h;have hm':k + m < i /\ k + m < xs.size:=by simp at hm; omega
 refine ⟨k + m,by omega,hm'.1,hm'.2,?_⟩;rw [List.getElem_drop,List.getElem_take] at e;rw [zbn (getElem?_pos xs (k + m) hm'.2),<- e];simp
def zdd {xs:Array Keyed} {i k:Nat}:(xs.extract i (i + k)).toList=(xs.toList.drop i).take k:=by
 rw [yb5,ybK];congr 1; omega
def zc8 {xs:Array Keyed} {i:Nat}:(xs.extract i xs.size).toList=xs.toList.drop i:=by
 rw [yb5,ybK];exact yaq (5:)
def zdh {xs:Array Keyed} {i:Nat}:(xs.extract 0 i).toList=xs.toList.take i:=by
 rw [yb5,ybK];simp
def zdZ {xs:Array Keyed} {i k:Nat}:(xs.extract k i).toList=(xs.toList.take i).drop k:=by
 rw [yb5,ybK,List.drop_take]
def zj2 {xs:Array Keyed} (h:zbP xs xs.size):SrQ xs.toList:=by
 rw [SrQ,yba];intro i j hi hj hij;have h1:=h i j (1:) (by simpa using hj);rw [zkA (62:),zkA (by simpa using hj)] at h1;simpa using h1
end Srk
namespace Srk
open PySem PyProof.Rows
variable [KeyC]
noncomputable abbrev zel:=Option (Array Keyed) × Array Keyed × Nat × Nat × Nat × Nat × Nat
noncomputable abbrev zbX (a b out:Array Keyed) (ia ib:Nat):Array Keyed:=out ++ a.extract ia a.size ++ b.extract ib b.size
noncomputable abbrev zev (a b out:Array Keyed) (ia ib:Nat):Array Keyed:=out ++ b.extract ib b.size ++ a.extract ia a.size
noncomputable def lo3Q (a b out:Array Keyed) (ia ib mg k k1:Nat):StateT SortSt Sem (ForInStep zel):=do
 let x <- elem' a ia
 if ia + 1 + 1 == a.size then pure (.done (some (zev a b (out.push x) (ia + 1) ib),out.push x,ia + 1,ib,mg,k,k1))
 else if k < 7 && k1 < 7 then pure (.done (none,out.push x,ia + 1,ib,mg,k,k1))
 else pure (.yield (none,out.push x,ia + 1,ib,mg,k,k1))
noncomputable def lo2Q (a b out:Array Keyed) (ia ib mg k bc:Nat):StateT SortSt Sem (ForInStep zel):=do
 let y <- elem' b ib
 if ib + 1 == b.size then pure (.done (some (zbX a b (out.push y) ia (ib + 1)),out.push y,ia,ib + 1,mg,k,bc))
 else do
  let z <- elem' a ia
  let r <- gallop'Q true z b (ib + 1) (b.size - (ib + 1)) 0
  match r with
  | some k1=>
   if k1 > 0 then
    if ib + 1 + k1 == b.size then pure (.done (some (zbX a b (out.push y ++ b.extract (ib + 1) (ib + 1 + k1)) ia (ib + 1 + k1)),out.push y ++ b.extract (ib + 1) (ib + 1 + k1),ia,ib + 1 + k1,mg,k,k1))
    else lo3Q a b (out.push y ++ b.extract (ib + 1) (ib + 1 + k1)) ia (ib + 1 + k1) mg k k1
   else lo3Q a b (out.push y) ia (ib + 1) mg k k1
  | _=>pure (.done (some (zbX a b (out.push y) ia (ib + 1)),out.push y,ia,ib + 1,mg,k,bc))
noncomputable def lo1Q (a b out:Array Keyed) (ia ib mg ac bc:Nat):StateT SortSt Sem (ForInStep zel):=do
 setMinGallop'Q mg
 let y <- elem' b ib
 let r <- gallop'Q false y a ia (a.size - ia) 0
 match r with
 | some k=>
  if k > 0 then
   if ia + k + 1 == a.size then pure (.done (some (zev a b (out ++ a.extract ia (ia + k)) (ia + k) ib),out ++ a.extract ia (ia + k),ia + k,ib,mg,k,bc))
   else if ia + k == a.size then pure (.done (some (zbX a b (out ++ a.extract ia (ia + k)) (ia + k) ib),out ++ a.extract ia (ia + k),ia + k,ib,mg,k,bc))
   else lo2Q a b (out ++ a.extract ia (ia + k)) (ia + k) ib mg k bc
  else lo2Q a b out ia ib mg k bc
 | _=>pure (.done (some (zbX a b out ia ib),out,ia,ib,mg,ac,bc))
noncomputable abbrev zk2:=Option (Array Keyed) × Array Keyed × Nat × Nat × Nat × Nat
noncomputable def loBQ (a b:Array Keyed) (mg:Nat) (out:Array Keyed) (ia ib ac bc:Nat):StateT SortSt Sem (ForInStep zk2):=do
 let r <- lt' (<- elem' b ib) (<- elem' a ia)
 match r with
 | some bWins=>
  if bWins then do
   let y <- elem' b ib
   if ib + 1 == b.size then pure (.done (some (zbX a b (out.push y) ia (ib + 1)),out.push y,ia,ib + 1,0,bc + 1))
   else if bc + 1 >= mg then pure (.done (none,out.push y,ia,ib + 1,0,bc + 1))
   else pure (.yield (none,out.push y,ia,ib + 1,0,bc + 1))
  else do
   let x <- elem' a ia
   if ia + 1 + 1 == a.size then pure (.done (some (zev a b (out.push x) (ia + 1) ib),out.push x,ia + 1,ib,ac + 1,0))
   else if ac + 1 >= mg then pure (.done (none,out.push x,ia + 1,ib,ac + 1,0))
   else pure (.yield (none,out.push x,ia + 1,ib,ac + 1,0))
 | _=>pure (.done (some (zbX a b out ia ib),out,ia,ib,ac,bc))
noncomputable def zi4 (a b:Array Keyed) (out:Array Keyed) (ia ib mg:Nat):StateT SortSt Sem (ForInStep (Option (Array Keyed) × Array Keyed × Nat × Nat × Nat)):=do
 let c <- forIn [0:a.size + b.size] ((none,out,ia,ib,0,0):zk2) λ _ c=>loBQ a b mg c.2.1 c.2.2.1 c.2.2.2.1 c.2.2.2.2.1 c.2.2.2.2.2
 match c.1 with
 | some r=>pure (.done (some r,c.2.1,c.2.2.1,c.2.2.2.1,mg))
 | none=>do
  liftM (rule "list.sort.gallop")
  let d <- forIn [0:a.size + b.size] ((none,c.2.1,c.2.2.1,c.2.2.2.1,mg + 1,c.2.2.2.2.1,c.2.2.2.2.2):zel) λ _ d=>
   if d.2.2.2.2.1 > 1 then lo1Q a b d.2.1 d.2.2.1 d.2.2.2.1 (d.2.2.2.2.1 - 1) d.2.2.2.2.2.1 d.2.2.2.2.2.2 else lo1Q a b d.2.1 d.2.2.1 d.2.2.2.1 d.2.2.2.2.1 d.2.2.2.2.2.1 d.2.2.2.2.2.2
  match d.1 with
  | some r=>pure (.done (some r,d.2.1,d.2.2.1,d.2.2.2.1,d.2.2.2.2.1))
  | none=>do
   setMinGallop'Q (d.2.2.2.2.1 + 1)
   pure (.yield (none,d.2.1,d.2.2.1,d.2.2.2.1,d.2.2.2.2.1 + 1))
def zfV (a b:Array Keyed):mergeLo'Q a b=(do
 liftM (rule "list.sort.merge-lo")
 let y <- elem' b 0
 if 1 == b.size then pure (zbX a b #[y] 0 1)
 else if 0 + 1 == a.size then pure (zev a b #[y] 0 1)
 else do
  let st <- get
  let c <- forIn [0:a.size + b.size] ((none,#[y],0,1,gallopOf st):Option (Array Keyed) × Array Keyed × Nat × Nat × Nat) λ _ c=>zi4 a b c.2.1 c.2.2.1 c.2.2.2.1 c.2.2.2.2
  match c.1 with
  | some r=>pure r
  | none=>unsupported "internal:list.sort.merge-bound"):=by
 kernel_rfl
end Srk
namespace Srk
open PySem PyProof.Rows
variable [KeyC]
structure CmQ (a b:Array Keyed):Prop where
 ia:zcj a
 ib:zcj b
 sa:zbP a a.size
 sb:zbP b b.size
 pa:0 < a.size
 pb:0 < b.size
 last:∀ j,j < b.size -> Kk b j <= Kk a (a.size - 1)
 first:∀ j,j < a.size -> Kk b 0 <= Kk a j
noncomputable def zcQ (T:List Keyed) (r:Array Keyed):Prop:=r.toList.Perm T /\ SrQ r.toList
noncomputable abbrev totQ (a b:Array Keyed):List Keyed:=a.toList ++ b.toList
noncomputable abbrev MLQ (a b out:Array Keyed) (ia ib:Nat):Prop:=MIQ (totQ a b) out.toList (a.toList.drop ia) (b.toList.drop ib)
variable {a b out:Array Keyed} {ia ib:Nat}
def zcd (h:MLQ a b out ia ib) (hz:ib=b.size \/ ia=a.size):zcQ (totQ a b) (zbX a b out ia ib):=by
 have e:(zbX a b out ia ib).toList=out.toList ++ a.toList.drop ia ++ b.toList.drop ib:=by
  rw [ya0,ya0,zc8,zc8]
 unfold zcQ;rw [e];refine ⟨by rw [yaH]; exact h.perm,?_⟩;rcases hz with hz | hz
 ·have e2:b.toList.drop ib=[]:=yct (by simp [hz]);rw [e2,ybo]; exact h.sa
 ·have e2:a.toList.drop ia=[]:=yct (by simp [hz]);rw [e2,ybo]; exact h.sb
def zc7 (C:CmQ a b) (h:MLQ a b out ia ib) (hz:ia + 1=a.size):zcQ (totQ a b) (zev a b out ia ib):=by
 have e:(zev a b out ia ib).toList=out.toList ++ b.toList.drop ib ++ a.toList.drop ia:=by
  rw [ya0,ya0,zc8,zc8]
 have ha:a[ia]?=some a[ia]:=getElem?_pos a ia (1:)
 have e2:a.toList.drop ia=[a[ia]]:=by
  rw [zgL ha,yct (34:)]
 unfold zcQ;rw [e,e2];have h':=h;unfold MLQ at h';rw [e2] at h';refine h'.last λ y hy=>?_;obtain ⟨j,_,h2,h3⟩:=zbJ hy;rw [h3,show kfQ a[ia]=Kk a ia from (zbn ha).symm,show ia=a.size - 1 by omega];exact C.last j h2
def ziu (h:MLQ a b out ia ib) {y:Keyed} (hy:b[ib]?=some y) (hle:∀ j,ia <= j -> j < a.size -> kfQ y <= Kk a j):MLQ a b (out.push y) ia (ib + 1):=by
 have h':=h.symm;rw [zgL hy] at h'
 have:=(h'.one λ z hz=>by
  obtain ⟨j,h1,h2,h3⟩:=zbJ hz;rw [h3]; exact hle j h1 h2).symm
 unfold MLQ;rw [ycw]; exact this
def zmw (h:MLQ a b out ia ib) {x:Keyed} (hx:a[ia]?=some x) (hle:∀ j,ib <= j -> j < b.size -> kfQ x <= Kk b j):MLQ a b (out.push x) (ia + 1) ib:=by
 have h':=h;unfold MLQ at h';rw [zgL hx] at h'
 have:=h'.one λ z hz=>by
  obtain ⟨j,h1,h2,h3⟩:=zbJ hz;rw [h3]; exact hle j h1 h2
 unfold MLQ;rw [ycw]; exact this
def zoF (h:MLQ a b out ia ib) {k:Nat} (hle:∀ i,i < k -> ∀ j,ib <= j -> j < b.size -> ia + i < a.size -> Kk a (ia + i) <= Kk b j):MLQ a b (out ++ a.extract ia (ia + k)) (ia + k) ib:=by
 have:=h.take k λ x hx y hy=>by
  obtain ⟨i,h1,h2,h3⟩:=zdP hx;obtain ⟨j,g1,g2,g3⟩:=zbJ hy;rw [h3,g3]; exact hle i h1 j g1 g2 h2
 unfold MLQ;rw [ya0,zdd];rw [List.drop_drop] at this;exact this
def zo4 (h:MLQ a b out ia ib) {k:Nat} (hle:∀ i,i < k -> ∀ j,ia <= j -> j < a.size -> ib + i < b.size -> Kk b (ib + i) <= Kk a j):MLQ a b (out ++ b.extract ib (ib + k)) ia (ib + k):=by
 have:=(h.symm.take k λ x hx y hy=>by
  obtain ⟨i,h1,h2,h3⟩:=zdP hx;obtain ⟨j,g1,g2,g3⟩:=zbJ hy;rw [h3,g3]; exact hle i h1 j g1 g2 h2).symm
 unfold MLQ;rw [ya0,zdd];rw [List.drop_drop] at this;exact this
structure LIQ (a b out:Array Keyed) (ia ib:Nat):Prop where
 ml:MLQ a b out ia ib
 ha:ia + 1 < a.size
 hb:ib < b.size
noncomputable def GPQ (a b:Array Keyed) (n0:Nat) (c:Option (Array Keyed)) (out:Array Keyed) (ia ib:Nat):Prop:=
 match c with
 | some r=>zcQ (totQ a b) r
 | none=>LIQ a b out ia ib /\ n0 <= ia + ib
section
variable {prog:Program} {w:World} {A:Around} {E:Value -> Shared -> Prop} {s:Shared} [LtC prog w A E s] {st:SortSt} {mg k k1 ac bc n0:Nat}
def zjA (C:CmQ a b) (h:LIQ a b out ia ib) (hn:n0 <= ia + ib) (hle:∀ j,ib <= j -> j < b.size -> Kk a ia <= Kk b j) {Q:ForInStep zel -> SortSt -> Prop}
    (h1:∀ d:zel,GPQ a b n0 d.1 d.2.1 d.2.2.1 d.2.2.2.1 -> Q (.done d) st) (h2:∀ d:zel,d.1=none -> GPQ a b n0 d.1 d.2.1 d.2.2.1 d.2.2.2.1 -> Q (.yield d) st) :
    wpS (model prog w) A E s (lo3Q a b out ia ib mg k k1) Q st:=by
  unfold lo3Q;have ha:=h.ha;have hb:=h.hb;refine wpS_bind (zax (1:) λ x hx=>?_);have m:=zmw h.ml hx λ j h1 h2=>by rw [show kfQ x=Kk a ia from (zbn hx).symm]; exact hle j h1 h2
  by_cases hz:ia + 1 + 1=a.size
  · rw [if_pos (30:)];exact wpS_pure (h1 _ (zc7 C m hz))
  · rw [if_neg (30:)];have g : GPQ a b n0 none (out.push x) (ia + 1) ib := ⟨⟨m, by omega, h.hb⟩, by omega⟩
    split
    · exact wpS_pure (h1 _ g)
    · exact wpS_pure (h2 _ rfl g)
def zjs (C:CmQ a b) (hk:kindOf st=KeyC.kd) (h:LIQ a b out ia ib) (hn:n0 <= ia + ib) (hle:∀ j,ia <= j -> j < a.size -> Kk b ib <= Kk a j) {Q:ForInStep zel -> SortSt -> Prop}
    (h1:∀ d:zel,GPQ a b n0 d.1 d.2.1 d.2.2.1 d.2.2.2.1 -> Q (.done d) st) (h2:∀ d:zel,d.1=none -> GPQ a b n0 d.1 d.2.1 d.2.2.1 d.2.2.2.1 -> Q (.yield d) st) :
    wpS (model prog w) A E s (lo2Q a b out ia ib mg k bc) Q st:=by
  unfold lo2Q;have ha:=h.ha;have hb:=h.hb;refine wpS_bind (zax (1:) λ y hy=>?_);have m:=ziu h.ml hy λ j h1 h2=>by rw [show kfQ y=Kk b ib from (zbn hy).symm]; exact hle j h1 h2
  by_cases hz:ib + 1=b.size
  · rw [if_pos (30:)];exact wpS_pure (h1 _ (zcd m (.inl hz)))
  · rw [if_neg (30:)];refine wpS_bind (zax (1:) fun z hz' => ?_);refine wpS_bind (zbi hk (C.ia _ _ hz') C.ib (1:) (1:) (fun i j hij hj => C.sb _ _ (1:) (1:)) fun k2 hk2 p1 p2 => ?_);dsimp only;have hzk : KeyC.κ z = Kk a ia := (zbn hz').symm;have ah : ∀ i, zaB true (KeyC.κ z) (Kk b (ib + 1 + i)) ↔ Kk b (ib + 1 + i) < Kk a ia := fun i => by unfold zaB; rw [if_pos rfl, hzk]
    have m2:MLQ a b (out.push y ++ b.extract (ib + 1) (ib + 1 + k2)) ia (ib + 1 + k2):=zo4 m λ i hi j h1 h2 h3=>by
      have:=(ah i).mp (p1 i hi);exact ybI (ybm this) (C.sa _ _ h1 h2)
    have nx:∀ j,ib + 1 + k2 <= j -> j < b.size -> Kk a ia <= Kk b j:=λ j h1 h2=>by
      have:=mt (ah (j - (ib + 1))).mpr (p2 (j - (ib + 1)) (1:) (1:));rw [show ib + 1 + (j - (ib + 1))=j by omega] at this;omega
    by_cases hk0:k2 > 0
    · rw [if_pos hk0];by_cases hq : ib + 1 + k2 = b.size
      · rw [if_pos (45:)];exact wpS_pure (h1 _ (zcd m2 (.inl hq)))
      · rw [if_neg (45:)];exact zjA C ⟨m2,h.ha,by omega⟩ (1:) nx h1 h2
    · rw [if_neg hk0];have : k2 = 0 := by omega
      subst this;exact zjA C ⟨m,h.ha,by omega⟩ (1:) nx h1 h2
def znd (C:CmQ a b) (hk:kindOf st=KeyC.kd) (h:LIQ a b out ia ib) (hn:n0 <= ia + ib) {Q:ForInStep zel -> SortSt -> Prop}
    (h1:∀ d:zel,GPQ a b n0 d.1 d.2.1 d.2.2.1 d.2.2.2.1 -> Q (.done d) (zaQ st mg)) (h2:∀ d:zel,d.1=none -> GPQ a b n0 d.1 d.2.1 d.2.2.1 d.2.2.2.1 -> Q (.yield d) (zaQ st mg)) :
    wpS (model prog w) A E s (lo1Q a b out ia ib mg ac bc) Q st:=by
  unfold lo1Q;have ha:=h.ha;have hb:=h.hb;rw [setMinGallop'_eqQ];refine wpS_bind (wpS_modify ?_);refine wpS_bind (zax (1:) λ y hy=>?_);refine wpS_bind (zbi (st:=zaQ st mg) hk (C.ib _ _ hy) C.ia (1:) (1:) (λ i j hij hj=>C.sa _ _ (1:) (1:)) λ k2 hk2 p1 p2=>?_);dsimp only;have hyk:KeyC.κ y=Kk b ib:=(zbn hy).symm;have ah:∀ i,zaB false (KeyC.κ y) (Kk a (ia + i)) ↔ Kk a (ia + i) <= Kk b ib:=λ i=>by unfold zaB; rw [if_neg (3:),hyk]
  have m2:MLQ a b (out ++ a.extract ia (ia + k2)) (ia + k2) ib:=zoF h.ml λ i hi j h1 h2 h3=>ybI ((ah i).mp (p1 i hi)) (C.sb _ _ h1 h2)
  have nx:∀ j,ia + k2 <= j -> j < a.size -> Kk b ib <= Kk a j:=λ j h1 h2=>by
    have:=mt (ah (j - ia)).mpr (p2 (j - ia) (1:) (1:));rw [show ia + (j - ia)=j by omega] at this;omega
  by_cases hk0:k2 > 0
  · rw [if_pos hk0];by_cases hq : ia + k2 + 1 = a.size
    · rw [if_pos (45:)];exact wpS_pure (h1 _ (zc7 C m2 hq))
    · rw [if_neg (45:)];by_cases hq2 : ia + k2 = a.size
      · rw [if_pos (by simpa using hq2)];exact wpS_pure (h1 _ (zcd m2 (.inr hq2)))
      · rw [if_neg (by simpa using hq2)];exact zjs (st:=zaQ st mg) C hk ⟨m2,by omega,h.hb⟩ (1:) nx h1 h2
  · rw [if_neg hk0];have : k2 = 0 := by omega
    subst this;exact zjs (st:=zaQ st mg) C hk h (1:) nx h1 h2
def zm9 (C:CmQ a b) (hk:kindOf st=KeyC.kd) (h:LIQ a b out ia ib) (hn:n0 <= ia + ib + 1) {Q:ForInStep zk2 -> SortSt -> Prop}
    (h1:∀ d:zk2,GPQ a b n0 d.1 d.2.1 d.2.2.1 d.2.2.2.1 -> Q (.done d) st) (h2:∀ d:zk2,d.1=none -> GPQ a b n0 d.1 d.2.1 d.2.2.1 d.2.2.2.1 -> Q (.yield d) st) :
    wpS (model prog w) A E s (loBQ a b mg out ia ib ac bc) Q st:=by
  unfold loBQ;have ha:=h.ha;have hb:=h.hb;refine wpS_bind (zax (1:) λ y hy=>?_);refine wpS_bind (zax (1:) λ x hx=>?_);refine wpS_bind (zfG hk (C.ib _ _ hy) (C.ia _ _ hx) ?_);dsimp only;have ey:KeyC.κ y=Kk b ib:=(zbn hy).symm;have ex:KeyC.κ x=Kk a ia:=(zbn hx).symm;by_cases hl:KeyC.κ y < KeyC.κ x
  · rw [if_pos (67:)];refine wpS_bind (zax (1:) fun y' hy' => ?_);obtain rfl : y = y' := by rw [hy] at hy'; exact Option.some.inj hy'
    have m:=ziu h.ml hy λ j g1 g2=>by
      have:=C.sa _ _ g1 g2;show KeyC.κ y <= _;omega
    by_cases hz:ib + 1=b.size
    · rw [if_pos (30:)];exact wpS_pure (h1 _ (zcd m (.inl hz)))
    · rw [if_neg (30:)];have g : GPQ a b n0 none (out.push y) ia (ib + 1) := ⟨⟨m, h.ha, by omega⟩, by omega⟩
      split
      · exact wpS_pure (h1 _ g)
      · exact wpS_pure (h2 _ rfl g)
  · rw [if_neg (67:)];refine wpS_bind (zax (1:) fun x' hx' => ?_);obtain rfl : x = x' := by rw [hx] at hx'; exact Option.some.inj hx'
    have m:=zmw h.ml hx λ j g1 g2=>by
      have:=C.sb _ _ g1 g2;show KeyC.κ x <= _;omega
    by_cases hz:ia + 1 + 1=a.size
    · rw [if_pos (30:)];exact wpS_pure (h1 _ (zc7 C m hz))
    · rw [if_neg (30:)];have g : GPQ a b n0 none (out.push x) (ia + 1) ib := ⟨⟨m, by omega, h.hb⟩, by omega⟩
      split
      · exact wpS_pure (h1 _ g)
      · exact wpS_pure (h2 _ rfl g)
noncomputable abbrev GsQ (st st':SortSt):Prop:=∃ g,st'=zaQ st g
def ziL (C:CmQ a b) (hk:kindOf st=KeyC.kd) (h:LIQ a b out ia ib) {Q:ForInStep (Option (Array Keyed) × Array Keyed × Nat × Nat × Nat) -> SortSt -> Prop}
    (h1:∀ d st',GsQ st st' -> (∃ r,d.1=some r /\ zcQ (totQ a b) r) -> Q (.done d) st') (h2:∀ d st',GsQ st st' -> d.1=none -> LIQ a b d.2.1 d.2.2.1 d.2.2.2.1 -> ia + ib + 1 <= d.2.2.1 + d.2.2.2.1 -> Q (.yield d) st') :
    wpS (model prog w) A E s (zi4 a b out ia ib mg) Q st:=by
  unfold zi4;have pa:=C.pa;refine wpS_bind (wpS_mono (wpS_forRange (I:=λ x c st'=>st'=st /\ c.1=none /\ GPQ a b (ia + ib + x) c.1 c.2.1 c.2.2.1 c.2.2.2.1) (Q:=λ c st'=>st'=st /\ GPQ a b (ia + ib + 1) c.1 c.2.1 c.2.2.1 c.2.2.2.1) ?step ?fin ?init) ?post)
  case init=>exact ⟨rfl,rfl,h,by show ia + ib + 0 <= ia + ib; omega⟩
  case fin=>
    rintro ⟨c1,c2⟩ st' ⟨rfl,z,g⟩;obtain rfl:c1=none:=z;refine ⟨rfl,g.1,?_⟩;have:=g.2;omega
  case step=>
    rintro x ⟨c1,c2⟩ st' _ hx ⟨rfl,z,g⟩;obtain rfl:c1=none:=z;have g1:=g.1;have g2:=g.2;refine zm9 (n0:=ia + ib + x + 1) C hk g1 (1:) (λ d hd=>⟨rfl,?_⟩) (λ d hz hd=>⟨rfl,hz,hd⟩);obtain ⟨d1,d2⟩:=d;cases d1 with
    | some r=>exact hd
    | none=>exact ⟨hd.1,by have:=hd.2; omega⟩
  case post=>
    rintro ⟨c1,c2⟩ st' ⟨rfl,g⟩;cases c1 with
    | some r=>exact wpS_pure (h1 _ _ ⟨gallopOf st',rfl⟩ ⟨r,rfl,g⟩)
    | none=>
      dsimp only;refine wpS_bind (wpS_lift (wpAny_rule ⟨rfl,?_⟩));refine wpS_bind (wpS_mono (wpS_forRange (I:=λ x c st''=>GsQ st' st'' /\ c.1=none /\ GPQ a b (ia + ib + 1) c.1 c.2.1 c.2.2.1 c.2.2.2.1) (Q:=λ c st''=>GsQ st' st'' /\ GPQ a b (ia + ib + 1) c.1 c.2.1 c.2.2.1 c.2.2.2.1) ?step2 ?fin2 ⟨⟨gallopOf st',rfl⟩,rfl,g⟩) ?post2)
      case fin2=>
        rintro c st'' ⟨gs,z,g⟩;exact ⟨gs,g⟩
      case step2=>
        rintro x ⟨d1,d2⟩ st'' _ hx ⟨⟨gg,rfl⟩,z,g⟩;obtain rfl:d1=none:=z;dsimp only
        have one:∀ m,wpS (model prog w) A E s (lo1Q a b d2.1 d2.2.1 d2.2.2.1 m d2.2.2.2.2.1 d2.2.2.2.2.2) (λ r st''=>match r with | .done c=>GsQ st' st'' /\ GPQ a b (ia + ib + 1) c.1 c.2.1 c.2.2.1 c.2.2.2.1 | .yield c=>GsQ st' st'' /\ c.1=none /\ GPQ a b (ia + ib + 1) c.1 c.2.1 c.2.2.1 c.2.2.2.1) (zaQ st' gg):=λ m=>
          znd (st:=zaQ st' gg) (out:=d2.1) (ia:=d2.2.1) (ib:=d2.2.2.1) (n0:=ia + ib + 1) C hk g.1 g.2 (λ d hd=>⟨⟨m,rfl⟩,hd⟩) (λ d hz hd=>⟨⟨m,rfl⟩,hz,hd⟩)
        split
        · exact wpS_mono (one _) λ r _ hr=>by cases r <;> exact hr
        · exact wpS_mono (one _) λ r _ hr=>by cases r <;> exact hr
      case post2=>
        rintro ⟨d1,d2⟩ st'' ⟨⟨gg,rfl⟩,g⟩;cases d1 with
        | some r=>exact wpS_pure (h1 _ _ ⟨gg,rfl⟩ ⟨r,rfl,g⟩)
        | none=>
          dsimp only;rw [setMinGallop'_eqQ];exact wpS_bind (wpS_modify (wpS_pure (h2 _ _ ⟨_,rfl⟩ rfl g.1 g.2)))
def zhZ (C:CmQ a b) (hk:kindOf st=KeyC.kd) {Q:Array Keyed -> SortSt -> Prop} (h:∀ r st',GsQ st st' -> zcQ (totQ a b) r -> Q r st') :
  wpS (model prog w) A E s (mergeLo'Q a b) Q st:=by
 rw [zfV];have pa:=C.pa;have pb:=C.pb;refine wpS_bind (wpS_lift (wpAny_rule ⟨rfl,?_⟩));refine wpS_bind (zax (1:) λ y hy=>?_);have m0:MLQ a b #[] 0 0:=⟨List.Perm.refl _,zj2 C.sa,zj2 C.sb⟩
 have m:MLQ a b #[y] 0 1:=ziu m0 hy λ j _ h2=>by
  rw [show kfQ y=Kk b 0 from (zbn hy).symm]; exact C.first j h2
 by_cases hz:1=b.size
 ·rw [if_pos (30:)];exact wpS_pure (h _ _ ⟨gallopOf st,rfl⟩ (zcd m (.inl hz)))
 ·rw [if_neg (30:)];by_cases hq : 0 + 1 = a.size
  ·rw [if_pos (45:)];exact wpS_pure (h _ _ ⟨gallopOf st,rfl⟩ (zc7 C m hq))
  ·rw [if_neg (45:)];refine wpS_bind (wpS_get ?_);refine wpS_bind (wpS_mono (wpS_forRange (I := fun x c st' => GsQ st st' /\ c.1 = none /\ LIQ a b c.2.1 c.2.2.1 c.2.2.2.1 /\ x <= c.2.2.1 + c.2.2.2.1) (Q := fun c st' => GsQ st st' /\ ∃ r, c.1 = some r /\ zcQ (totQ a b) r) ?step ?fin ⟨⟨gallopOf st, rfl⟩, rfl, ⟨m, by show 0 + 1 < a.size; omega, by show 1 < b.size; omega⟩, by omega⟩) ?post)
   case fin=>
    rintro c st' ⟨_,_,l,hx⟩;have:=l.ha;have:=l.hb;omega
   case step=>
    rintro x c st' _ hx ⟨⟨g,rfl⟩,z,l,hn⟩;refine ziL (st:=zaQ st g) C hk l (λ d st'' gs hd=>?_) (λ d st'' gs hz l2 hn2=>?_)
    ·obtain ⟨g2,rfl⟩:=gs;exact ⟨⟨g2,rfl⟩,hd⟩
    ·obtain ⟨g2,rfl⟩:=gs;exact ⟨⟨g2,rfl⟩,hz,l2,by omega⟩
   case post=>
    rintro ⟨c1,c2⟩ st' ⟨gs,r,hr,g⟩;obtain rfl:c1=some r:=hr;exact wpS_pure (h r st' gs g)
end
end Srk
namespace Srk
open PySem PyProof.Rows
variable [KeyC]
noncomputable abbrev zen:=Option (Array Keyed) × Nat × Nat × Array Keyed × Nat × Nat × Nat
noncomputable abbrev zma:=Option (Array Keyed) × Nat × Nat × Array Keyed × Nat × Nat
noncomputable abbrev zb2 (a b out:Array Keyed) (na nb:Nat):Array Keyed:=a.extract 0 na ++ b.extract 0 nb ++ out.reverse
noncomputable abbrev zdg (a b out:Array Keyed) (na nb:Nat):Array Keyed:=b.extract 0 nb ++ a.extract 0 na ++ out.reverse
noncomputable def hi3Q (a b out:Array Keyed) (na nb mg k k1:Nat):StateT SortSt Sem (ForInStep zen):=do
 let x <- elem' a (na - 1)
 if na - 1 == 0 then pure (.done (some (zb2 a b (out.push x) (na - 1) nb),na - 1,nb,out.push x,mg,k,k1))
 else if k < 7 && k1 < 7 then pure (.done (none,na - 1,nb,out.push x,mg,k,k1))
 else pure (.yield (none,na - 1,nb,out.push x,mg,k,k1))
noncomputable def hi2Q (a b out:Array Keyed) (na nb mg k bc:Nat):StateT SortSt Sem (ForInStep zen):=do
 let y <- elem' b (nb - 1)
 if nb - 1 == 1 then pure (.done (some (zdg a b (out.push y) na (nb - 1)),na,nb - 1,out.push y,mg,k,bc))
 else do
  let z <- elem' a (na - 1)
  let r <- gallop'Q true z b 0 (nb - 1) (nb - 1 - 1)
  match r with
  | some at_=>
   if nb - 1 - at_ > 0 then
    if at_ == 1 then pure (.done (some (zdg a b (out.push y ++ (b.extract at_ (nb - 1)).reverse) na at_),na,at_,out.push y ++ (b.extract at_ (nb - 1)).reverse,mg,k,nb - 1 - at_))
    else if at_ == 0 then pure (.done (some (zb2 a b (out.push y ++ (b.extract at_ (nb - 1)).reverse) na at_),na,at_,out.push y ++ (b.extract at_ (nb - 1)).reverse,mg,k,nb - 1 - at_))
    else hi3Q a b (out.push y ++ (b.extract at_ (nb - 1)).reverse) na at_ mg k (nb - 1 - at_)
   else hi3Q a b (out.push y) na (nb - 1) mg k (nb - 1 - at_)
  | _=>pure (.done (some (zb2 a b (out.push y) na (nb - 1)),na,nb - 1,out.push y,mg,k,bc))
noncomputable def hi1Q (a b out:Array Keyed) (na nb mg ac bc:Nat):StateT SortSt Sem (ForInStep zen):=do
 setMinGallop'Q mg
 let y <- elem' b (nb - 1)
 let r <- gallop'Q false y a 0 na (na - 1)
 match r with
 | some at_=>
  if na - at_ > 0 then
   if at_ == 0 then pure (.done (some (zb2 a b (out ++ (a.extract at_ na).reverse) at_ nb),at_,nb,out ++ (a.extract at_ na).reverse,mg,na - at_,bc))
   else hi2Q a b (out ++ (a.extract at_ na).reverse) at_ nb mg (na - at_) bc
  else hi2Q a b out na nb mg (na - at_) bc
 | _=>pure (.done (some (zb2 a b out na nb),na,nb,out,mg,ac,bc))
noncomputable def hiBQ (a b:Array Keyed) (mg na nb:Nat) (out:Array Keyed) (ac bc:Nat):StateT SortSt Sem (ForInStep zma):=do
 let r <- lt' (<- elem' b (nb - 1)) (<- elem' a (na - 1))
 match r with
 | some aWins=>
  if aWins then do
   let x <- elem' a (na - 1)
   if na - 1 == 0 then pure (.done (some (zb2 a b (out.push x) (na - 1) nb),na - 1,nb,out.push x,ac + 1,0))
   else if ac + 1 >= mg then pure (.done (none,na - 1,nb,out.push x,ac + 1,0))
   else pure (.yield (none,na - 1,nb,out.push x,ac + 1,0))
  else do
   let y <- elem' b (nb - 1)
   if nb - 1 == 1 then pure (.done (some (zdg a b (out.push y) na (nb - 1)),na,nb - 1,out.push y,0,bc + 1))
   else if bc + 1 >= mg then pure (.done (none,na,nb - 1,out.push y,0,bc + 1))
   else pure (.yield (none,na,nb - 1,out.push y,0,bc + 1))
 | _=>pure (.done (some (zb2 a b out na nb),na,nb,out,ac,bc))
noncomputable def zi7 (a b:Array Keyed) (na nb:Nat) (out:Array Keyed) (mg:Nat):StateT SortSt Sem (ForInStep (Option (Array Keyed) × Nat × Nat × Array Keyed × Nat)):=do
 let c <- forIn [0:a.size + b.size] ((none,na,nb,out,0,0):zma) λ _ c=>hiBQ a b mg c.2.1 c.2.2.1 c.2.2.2.1 c.2.2.2.2.1 c.2.2.2.2.2
 match c.1 with
 | some r=>pure (.done (some r,c.2.1,c.2.2.1,c.2.2.2.1,mg))
 | none=>do
  liftM (rule "list.sort.gallop")
  let d <- forIn [0:a.size + b.size] ((none,c.2.1,c.2.2.1,c.2.2.2.1,mg + 1,c.2.2.2.2.1,c.2.2.2.2.2):zen) λ _ d=>
   if d.2.2.2.2.1 > 1 then hi1Q a b d.2.2.2.1 d.2.1 d.2.2.1 (d.2.2.2.2.1 - 1) d.2.2.2.2.2.1 d.2.2.2.2.2.2 else hi1Q a b d.2.2.2.1 d.2.1 d.2.2.1 d.2.2.2.2.1 d.2.2.2.2.2.1 d.2.2.2.2.2.2
  match d.1 with
  | some r=>pure (.done (some r,d.2.1,d.2.2.1,d.2.2.2.1,d.2.2.2.2.1))
  | none=>do
   setMinGallop'Q (d.2.2.2.2.1 + 1)
   pure (.yield (none,d.2.1,d.2.2.1,d.2.2.2.1,d.2.2.2.2.1 + 1))
def zfX (a b:Array Keyed):mergeHi'Q a b=(do
 liftM (rule "list.sort.merge-hi")
 let x <- elem' a (a.size - 1)
 if a.size - 1 == 0 then pure (zb2 a b #[x] (a.size - 1) b.size)
 else if b.size == 1 then pure (zdg a b #[x] (a.size - 1) b.size)
 else do
  let st <- get
  let c <- forIn [0:a.size + b.size] ((none,a.size - 1,b.size,#[x],gallopOf st):Option (Array Keyed) × Nat × Nat × Array Keyed × Nat) λ _ c=>zi7 a b c.2.1 c.2.2.1 c.2.2.2.1 c.2.2.2.2
  match c.1 with
  | some r=>pure r
  | none=>unsupported "internal:list.sort.merge-bound"):=by
 kernel_rfl
noncomputable abbrev MRQ (a b out:Array Keyed) (na nb:Nat):Prop:=MHQ (totQ a b) out.toList.reverse (a.toList.take na) (b.toList.take nb)
variable {a b out:Array Keyed} {na nb:Nat}
def zbB (h:MRQ a b out na nb) (hz:na=0 \/ nb=0):zcQ (totQ a b) (zb2 a b out na nb):=by
 have e:(zb2 a b out na nb).toList=a.toList.take na ++ b.toList.take nb ++ out.toList.reverse:=by
  rw [ya0,ya0,zdh,zdh,yb6]
 unfold zcQ;rw [e];refine ⟨h.perm,?_⟩;rcases hz with rfl | rfl
 ·rw [List.take_zero,List.nil_append]; exact h.sb
 ·rw [List.take_zero,ybo]; exact h.sa
def zco (C:CmQ a b) (h:MRQ a b out na 1):zcQ (totQ a b) (zdg a b out na 1):=by
 have pb:=C.pb;have hb:b[0]?=some b[0]:=getElem?_pos b 0 (1:);have e2:b.toList.take 1=[b[0]]:=by rw [zgU hb]; rfl
 have e:(zdg a b out na 1).toList=[b[0]] ++ a.toList.take na ++ out.toList.reverse:=by
  rw [ya0,ya0,zdh,zdh,yb6,e2]
 unfold zcQ;rw [e];have h':=h;unfold MRQ at h';rw [e2] at h';refine h'.first λ y hy=>?_;obtain ⟨j,h1,h2,h3⟩:=zbE hy;rw [h3,show kfQ b[0]=Kk b 0 from (zbn hb).symm];exact C.first j h2
def zgZ (h:MRQ a b out na nb) (h1:1 <= na) {x:Keyed} (hx:a[na - 1]?=some x) (hle:∀ j,j < nb -> j < b.size -> Kk b j <= kfQ x):MRQ a b (out.push x) (na - 1) nb:=by
 have h':=h;unfold MRQ at h';rw [show na=na - 1 + 1 by omega,zgU hx] at h'
 have:=h'.one λ z hz=>by
  obtain ⟨j,h1,h2,h3⟩:=zbE hz;rw [h3]; exact hle j h1 h2
 unfold MRQ;rw [ycw,ybw]; exact this
def zjI (h:MRQ a b out na nb) (h1:1 <= nb) {y:Keyed} (hy:b[nb - 1]?=some y) (hle:∀ j,j < na -> j < a.size -> Kk a j <= kfQ y):MRQ a b (out.push y) na (nb - 1):=by
 have h':=h.symm;rw [show nb=nb - 1 + 1 by omega,zgU hy] at h'
 have:=(h'.one λ z hz=>by
  obtain ⟨j,h1,h2,h3⟩:=zbE hz;rw [h3]; exact hle j h1 h2).symm
 unfold MRQ;rw [ycw,ybw]; exact this
def zm4 (h:MRQ a b out na nb) {k:Nat} (hk:k <= na) (hle:∀ i,k <= i -> i < na -> i < a.size -> ∀ j,j < nb -> j < b.size -> Kk b j <= Kk a i):MRQ a b (out ++ (a.extract k na).reverse) k nb:=by
 have:=h.take k λ x hx y hy=>by
  obtain ⟨i,h1,h2,h2',h3⟩:=zcL hx;obtain ⟨j,g1,g2,g3⟩:=zbE hy;rw [h3,g3]; exact hle i h1 h2 h2' j g1 g2
 unfold MRQ;rw [ya0,yb6,zdZ,ybw,ycK];rw [List.take_take,ybZ hk] at this;exact this
def zmX (h:MRQ a b out na nb) {k:Nat} (hk:k <= nb) (hle:∀ i,k <= i -> i < nb -> i < b.size -> ∀ j,j < na -> j < a.size -> Kk a j <= Kk b i):MRQ a b (out ++ (b.extract k nb).reverse) na k:=by
 have:=(h.symm.take k λ x hx y hy=>by
  obtain ⟨i,h1,h2,h2',h3⟩:=zcL hx;obtain ⟨j,g1,g2,g3⟩:=zbE hy;rw [h3,g3]; exact hle i h1 h2 h2' j g1 g2).symm
 unfold MRQ;rw [ya0,yb6,zdZ,ybw,ycK];rw [List.take_take,ybZ hk] at this;exact this
structure HIQ (a b out:Array Keyed) (na nb:Nat):Prop where
 mr:MRQ a b out na nb
 h1:1 <= na
 h2:2 <= nb
 ha:na <= a.size
 hb:nb <= b.size
noncomputable def HPQ (a b:Array Keyed) (n0:Nat) (c:Option (Array Keyed)) (na nb:Nat) (out:Array Keyed):Prop:=
 match c with
 | some r=>zcQ (totQ a b) r
 | none=>HIQ a b out na nb /\ na + nb <= n0
section
variable {prog:Program} {w:World} {A:Around} {E:Value -> Shared -> Prop} {s:Shared} [LtC prog w A E s] {st:SortSt} {mg k k1 ac bc n0:Nat}
def zjR (C:CmQ a b) (h:HIQ a b out na nb) (hn:na + nb <= n0) (hle:∀ j,j < nb -> j < b.size -> Kk b j <= Kk a (na - 1)) {Q:ForInStep zen -> SortSt -> Prop}
    (h1:∀ d:zen,HPQ a b n0 d.1 d.2.1 d.2.2.1 d.2.2.2.1 -> Q (.done d) st) (h2:∀ d:zen,d.1=none -> HPQ a b n0 d.1 d.2.1 d.2.2.1 d.2.2.2.1 -> Q (.yield d) st) :
    wpS (model prog w) A E s (hi3Q a b out na nb mg k k1) Q st:=by
  unfold hi3Q;obtain ⟨mr,q1,q2,ha,hb⟩:=h;refine wpS_bind (zax (1:) λ x hx=>?_);have m:=zgZ mr q1 hx λ j h1 h2=>by rw [show kfQ x=Kk a (na - 1) from (zbn hx).symm]; exact hle j h1 h2
  by_cases hz:na - 1=0
  · rw [if_pos (30:)];exact wpS_pure (h1 _ (zbB m (.inl hz)))
  · rw [if_neg (30:)];have g : HPQ a b n0 none (na - 1) nb (out.push x) := ⟨⟨m, by omega, q2, by omega, hb⟩, by omega⟩
    split
    · exact wpS_pure (h1 _ g)
    · exact wpS_pure (h2 _ rfl g)
def zjB (C:CmQ a b) (hk:kindOf st=KeyC.kd) (h:HIQ a b out na nb) (hn:na + nb <= n0) (hle:∀ j,j < na -> j < a.size -> Kk a j <= Kk b (nb - 1)) {Q:ForInStep zen -> SortSt -> Prop}
    (h1:∀ d:zen,HPQ a b n0 d.1 d.2.1 d.2.2.1 d.2.2.2.1 -> Q (.done d) st) (h2:∀ d:zen,d.1=none -> HPQ a b n0 d.1 d.2.1 d.2.2.1 d.2.2.2.1 -> Q (.yield d) st) :
    wpS (model prog w) A E s (hi2Q a b out na nb mg k bc) Q st:=by
  unfold hi2Q;obtain ⟨mr,q1,q2,ha,hb⟩:=h;refine wpS_bind (zax (1:) λ y hy=>?_);have m:=zjI mr (1:) hy λ j h1 h2=>by rw [show kfQ y=Kk b (nb - 1) from (zbn hy).symm]; exact hle j h1 h2
  by_cases hz:nb - 1=1
  · rw [if_pos (30:)];refine wpS_pure (h1 _ ?_);dsimp only;rw [hz] at m ⊢;exact zco C m
  · rw [if_neg (30:)];refine wpS_bind (zax (1:) fun z hz' => ?_);refine wpS_bind (zbi hk (C.ia _ _ hz') C.ib (1:) (1:) (fun i j hij hj => C.sb _ _ (1:) (1:)) fun k2 hk2 p1 p2 => ?_);dsimp only;have hzk : KeyC.κ z = Kk a (na - 1) := (zbn hz').symm;have ah : ∀ i, zaB true (KeyC.κ z) (Kk b (0 + i)) ↔ Kk b i < Kk a (na - 1) := fun i => by unfold zaB; rw [if_pos rfl, hzk, Nat.zero_add]
    have m2:MRQ a b (out.push y ++ (b.extract k2 (nb - 1)).reverse) na k2:=zmX m hk2 λ i h1 h2 h2' j g1 g2=>by
      have:=mt (ah i).mpr (p2 i h1 h2);have:=C.sa j (na - 1) (1:) (1:);omega
    have nx:∀ j,j < k2 -> j < b.size -> Kk b j <= Kk a (na - 1):=λ j h1 h2=>ybm ((ah j).mp (p1 j h1));by_cases hk0:nb - 1 - k2 > 0
    · rw [if_pos hk0];by_cases hq : k2 = 1
      · rw [if_pos (45:)];subst hq;exact wpS_pure (h1 _ (zco C m2))
      · rw [if_neg (45:)];by_cases hq2 : k2 = 0
        · rw [if_pos (by simpa using hq2)];exact wpS_pure (h1 _ (zbB m2 (.inr hq2)))
        · rw [if_neg (by simpa using hq2)];exact zjR C ⟨m2,q1,by omega,ha,by omega⟩ (1:) nx h1 h2
    · rw [if_neg hk0];have e : k2 = nb - 1 := by omega
      subst e;exact zjR C ⟨m,q1,by omega,ha,by omega⟩ (1:) nx h1 h2
def znf (C:CmQ a b) (hk:kindOf st=KeyC.kd) (h:HIQ a b out na nb) (hn:na + nb <= n0) {Q:ForInStep zen -> SortSt -> Prop}
    (h1:∀ d:zen,HPQ a b n0 d.1 d.2.1 d.2.2.1 d.2.2.2.1 -> Q (.done d) (zaQ st mg)) (h2:∀ d:zen,d.1=none -> HPQ a b n0 d.1 d.2.1 d.2.2.1 d.2.2.2.1 -> Q (.yield d) (zaQ st mg)) :
    wpS (model prog w) A E s (hi1Q a b out na nb mg ac bc) Q st:=by
  unfold hi1Q;have h0:=h;obtain ⟨mr,q1,q2,ha,hb⟩:=h;rw [setMinGallop'_eqQ];refine wpS_bind (wpS_modify ?_);refine wpS_bind (zax (1:) λ y hy=>?_);refine wpS_bind (zbi (st:=zaQ st mg) hk (C.ib _ _ hy) C.ia (1:) (1:) (λ i j hij hj=>C.sa _ _ (1:) (1:)) λ k2 hk2 p1 p2=>?_);dsimp only;have hyk:KeyC.κ y=Kk b (nb - 1):=(zbn hy).symm;have ah:∀ i,zaB false (KeyC.κ y) (Kk a (0 + i)) ↔ Kk a i <= Kk b (nb - 1):=λ i=>by unfold zaB; rw [if_neg (3:),hyk,Nat.zero_add]
  have m2:MRQ a b (out ++ (a.extract k2 na).reverse) k2 nb:=zm4 mr hk2 λ i h1 h2 h2' j g1 g2=>by
    have:=mt (ah i).mpr (p2 i h1 h2);have:=C.sb j (nb - 1) (1:) (1:);omega
  have nx:∀ j,j < k2 -> j < a.size -> Kk a j <= Kk b (nb - 1):=λ j h1 h2=>(ah j).mp (p1 j h1);by_cases hk0:na - k2 > 0
  · rw [if_pos hk0];by_cases hq : k2 = 0
    · rw [if_pos (45:)];exact wpS_pure (h1 _ (zbB m2 (.inl hq)))
    · rw [if_neg (45:)];exact zjB (st:=zaQ st mg) C hk ⟨m2,by omega,q2,by omega,hb⟩ (1:) nx h1 h2
  · rw [if_neg hk0];have : k2 = na := by omega
    subst this;exact zjB (st:=zaQ st mg) C hk h0 (1:) nx h1 h2
def zni (C:CmQ a b) (hk:kindOf st=KeyC.kd) (h:HIQ a b out na nb) (hn:na + nb <= n0 + 1) {Q:ForInStep zma -> SortSt -> Prop}
    (h1:∀ d:zma,HPQ a b n0 d.1 d.2.1 d.2.2.1 d.2.2.2.1 -> Q (.done d) st) (h2:∀ d:zma,d.1=none -> HPQ a b n0 d.1 d.2.1 d.2.2.1 d.2.2.2.1 -> Q (.yield d) st) :
    wpS (model prog w) A E s (hiBQ a b mg na nb out ac bc) Q st:=by
  unfold hiBQ;obtain ⟨mr,q1,q2,ha,hb⟩:=h;refine wpS_bind (zax (1:) λ y hy=>?_);refine wpS_bind (zax (1:) λ x hx=>?_);refine wpS_bind (zfG hk (C.ib _ _ hy) (C.ia _ _ hx) ?_);dsimp only;have ey:KeyC.κ y=Kk b (nb - 1):=(zbn hy).symm;have ex:KeyC.κ x=Kk a (na - 1):=(zbn hx).symm;by_cases hl:KeyC.κ y < KeyC.κ x
  · rw [if_pos (67:)];refine wpS_bind (zax (1:) fun x' hx' => ?_);obtain rfl : x = x' := by rw [hx] at hx'; exact Option.some.inj hx'
    have m:=zgZ mr q1 hx λ j g1 g2=>by
      have:=C.sb j (nb - 1) (1:) (1:);show _ <= KeyC.κ x;omega
    by_cases hz:na - 1=0
    · rw [if_pos (30:)];exact wpS_pure (h1 _ (zbB m (.inl hz)))
    · rw [if_neg (30:)];have g : HPQ a b n0 none (na - 1) nb (out.push x) := ⟨⟨m, by omega, q2, by omega, hb⟩, by omega⟩
      split
      · exact wpS_pure (h1 _ g)
      · exact wpS_pure (h2 _ rfl g)
  · rw [if_neg (67:)];refine wpS_bind (zax (1:) fun y' hy' => ?_);obtain rfl : y = y' := by rw [hy] at hy'; exact Option.some.inj hy'
    have m:=zjI mr (1:) hy λ j g1 g2=>by
      have:=C.sa j (na - 1) (1:) (1:);show _ <= KeyC.κ y;omega
    by_cases hz:nb - 1=1
    · rw [if_pos (30:)];refine wpS_pure (h1 _ ?_);dsimp only;rw [hz] at m ⊢;exact zco C m
    · rw [if_neg (30:)];have g : HPQ a b n0 none na (nb - 1) (out.push y) := ⟨⟨m, q1, by omega, ha, by omega⟩, by omega⟩
      split
      · exact wpS_pure (h1 _ g)
      · exact wpS_pure (h2 _ rfl g)
def ziB (C:CmQ a b) (hk:kindOf st=KeyC.kd) (h:HIQ a b out na nb) {Q:ForInStep (Option (Array Keyed) × Nat × Nat × Array Keyed × Nat) -> SortSt -> Prop}
    (h1:∀ d st',GsQ st st' -> (∃ r,d.1=some r /\ zcQ (totQ a b) r) -> Q (.done d) st') (h2:∀ d st',GsQ st st' -> d.1=none -> HIQ a b d.2.2.2.1 d.2.1 d.2.2.1 -> d.2.1 + d.2.2.1 + 1 <= na + nb -> Q (.yield d) st') :
    wpS (model prog w) A E s (zi7 a b na nb out mg) Q st:=by
  unfold zi7;have pa:=C.pa;have p1:=h.h1;have p2:=h.h2;have p3:=h.ha;have p4:=h.hb;refine wpS_bind (wpS_mono (wpS_forRange (I:=λ x c st'=>st'=st /\ c.1=none /\ HPQ a b (na + nb - x) c.1 c.2.1 c.2.2.1 c.2.2.2.1) (Q:=λ c st'=>st'=st /\ HPQ a b (na + nb - 1) c.1 c.2.1 c.2.2.1 c.2.2.2.1) ?step ?fin ?init) ?post)
  case init=>exact ⟨rfl,rfl,h,by show na + nb <= na + nb - 0; omega⟩
  case fin=>
    rintro ⟨c1,c2⟩ st' ⟨rfl,z,g⟩;obtain rfl:c1=none:=z;refine ⟨rfl,g.1,?_⟩;have:=g.2;omega
  case step=>
    rintro x ⟨c1,c2⟩ st' _ hx ⟨rfl,z,g⟩;obtain rfl:c1=none:=z;have g1:=g.1;have g2:=g.2;have g3:=g1.h1;refine zni (n0:=na + nb - x - 1) C hk g1 (1:) (λ d hd=>⟨rfl,?_⟩) (λ d hz hd=>⟨rfl,hz,?_⟩)
    · obtain ⟨d1, d2⟩ := d;cases d1 with
      | some r=>exact hd
      | none=>exact ⟨hd.1,by have:=hd.2; omega⟩
    · rw [show na + nb - (x + 1)=na + nb - x - 1 by omega]; exact hd
  case post=>
    rintro ⟨c1,c2⟩ st' ⟨rfl,g⟩;cases c1 with
    | some r=>exact wpS_pure (h1 _ _ ⟨gallopOf st',rfl⟩ ⟨r,rfl,g⟩)
    | none=>
      dsimp only;refine wpS_bind (wpS_lift (wpAny_rule ⟨rfl,?_⟩));refine wpS_bind (wpS_mono (wpS_forRange (I:=λ x c st''=>GsQ st' st'' /\ c.1=none /\ HPQ a b (na + nb - 1) c.1 c.2.1 c.2.2.1 c.2.2.2.1) (Q:=λ c st''=>GsQ st' st'' /\ HPQ a b (na + nb - 1) c.1 c.2.1 c.2.2.1 c.2.2.2.1) ?step2 ?fin2 ⟨⟨gallopOf st',rfl⟩,rfl,g⟩) ?post2)
      case fin2=>
        rintro c st'' ⟨gs,z,g⟩;exact ⟨gs,g⟩
      case step2=>
        rintro x ⟨d1,d2⟩ st'' _ hx ⟨⟨gg,rfl⟩,z,g⟩;obtain rfl:d1=none:=z;dsimp only
        have one:∀ m,wpS (model prog w) A E s (hi1Q a b d2.2.2.1 d2.1 d2.2.1 m d2.2.2.2.2.1 d2.2.2.2.2.2) (λ r st''=>match r with | .done c=>GsQ st' st'' /\ HPQ a b (na + nb - 1) c.1 c.2.1 c.2.2.1 c.2.2.2.1 | .yield c=>GsQ st' st'' /\ c.1=none /\ HPQ a b (na + nb - 1) c.1 c.2.1 c.2.2.1 c.2.2.2.1) (zaQ st' gg):=λ m=>
          znf (st:=zaQ st' gg) (out:=d2.2.2.1) (na:=d2.1) (nb:=d2.2.1) (n0:=na + nb - 1) C hk g.1 g.2 (λ d hd=>⟨⟨m,rfl⟩,hd⟩) (λ d hz hd=>⟨⟨m,rfl⟩,hz,hd⟩)
        split
        · exact wpS_mono (one _) λ r _ hr=>by cases r <;> exact hr
        · exact wpS_mono (one _) λ r _ hr=>by cases r <;> exact hr
      case post2=>
        rintro ⟨d1,d2⟩ st'' ⟨⟨gg,rfl⟩,g⟩;cases d1 with
        | some r=>exact wpS_pure (h1 _ _ ⟨gg,rfl⟩ ⟨r,rfl,g⟩)
        | none=>
          dsimp only;rw [setMinGallop'_eqQ];have:=g.2;exact wpS_bind (wpS_modify (wpS_pure (h2 _ _ ⟨_,rfl⟩ rfl g.1 (by dsimp only at *; omega))))
def zhY (C:CmQ a b) (hk:kindOf st=KeyC.kd) {Q:Array Keyed -> SortSt -> Prop} (h:∀ r st',GsQ st st' -> zcQ (totQ a b) r -> Q r st') :
  wpS (model prog w) A E s (mergeHi'Q a b) Q st:=by
 rw [zfX];have pa:=C.pa;have pb:=C.pb;refine wpS_bind (wpS_lift (wpAny_rule ⟨rfl,?_⟩));refine wpS_bind (zax (1:) λ x hx=>?_)
 have m0:MRQ a b #[] a.size b.size:=by
  unfold MRQ;have e1:a.toList.take a.size=a.toList:=yaq (5:);have e2:b.toList.take b.size=b.toList:=yaq (5:);rw [e1,e2];exact ⟨by show (totQ a b ++ []).Perm _; rw [ybo],by show SrQ (a.toList ++ []); rw [ybo]; exact zj2 C.sa,by show SrQ (b.toList ++ []); rw [ybo]; exact zj2 C.sb⟩
 have m:MRQ a b #[x] (a.size - 1) b.size:=zgZ m0 (1:) hx λ j h2 _=>by
  rw [show kfQ x=Kk a (a.size - 1) from (zbn hx).symm]; exact C.last j h2
 by_cases hz:a.size - 1=0
 ·rw [if_pos (30:)];exact wpS_pure (h _ _ ⟨gallopOf st,rfl⟩ (zbB m (.inl hz)))
 ·rw [if_neg (30:)];by_cases hq : b.size = 1
  ·rw [if_pos (45:)];refine wpS_pure (h _ _ ⟨gallopOf st,rfl⟩ ?_);rw [hq] at m ⊢;exact zco C m
  ·rw [if_neg (45:)];refine wpS_bind (wpS_get ?_);refine wpS_bind (wpS_mono (wpS_forRange (I := fun x c st' => GsQ st st' /\ c.1 = none /\ HIQ a b c.2.2.2.1 c.2.1 c.2.2.1 /\ c.2.1 + c.2.2.1 + x <= a.size + b.size) (Q := fun c st' => GsQ st st' /\ ∃ r, c.1 = some r /\ zcQ (totQ a b) r) ?step ?fin ?init) ?post)
   case init=>exact ⟨⟨gallopOf st,rfl⟩,rfl,⟨m,by show 1 <= a.size - 1; omega,by show 2 <= b.size; omega,by show a.size - 1 <= _; omega,yag _⟩,by show a.size - 1 + b.size + 0 <= _; omega⟩
   case fin=>
    rintro c st' ⟨_,_,l,hx⟩;have:=l.h1;have:=l.h2;omega
   case step=>
    rintro x c st' _ hx ⟨⟨g,rfl⟩,z,l,hn⟩;refine ziB (st:=zaQ st g) C hk l (λ d st'' gs hd=>?_) (λ d st'' gs hz l2 hn2=>?_)
    ·obtain ⟨g2,rfl⟩:=gs;exact ⟨⟨g2,rfl⟩,hd⟩
    ·obtain ⟨g2,rfl⟩:=gs;exact ⟨⟨g2,rfl⟩,hz,l2,by omega⟩
   case post=>
    rintro ⟨c1,c2⟩ st' ⟨gs,r,hr,g⟩;obtain rfl:c1=some r:=hr;exact wpS_pure (h r st' gs g)
end
end Srk
namespace Srk
open PySem PyProof.Rows
variable [KeyC]
noncomputable def zd9 (xs:Array Keyed) (at_:Nat) (ys:List Keyed):Array Keyed:=ys.zipIdx.foldl (λ a (p,j)=>a.setIfInBounds (at_ + j) p) xs
noncomputable def zi9 (at_:Nat) (m:Array Keyed):StateT SortSt Sem Bool:=do
 modify λ s=>setArr s (zd9 (arrOf s) at_ m.toList)
 pure (failedOf (<- get)).isNone
noncomputable def zgC (a:Array Keyed) (sa na sb nb:Nat):StateT SortSt Sem Bool:=do
 let y <- elem' a sb
 let r <- gallop'Q false y a sa na 0
 match r with
 | some k=>
  if na - k == 0 then pure true
  else do
   let x <- elem' a (sa + k + (na - k) - 1)
   let q <- gallop'Q true x a sb nb (nb - 1)
   match q with
   | some nb2=>
    if nb2 == 0 then pure true
    else if na - k <= nb2 then mergeLo'Q (a.extract (sa + k) sb) (a.extract sb (sb + nb2)) >>= zi9 (sa + k)
    else mergeHi'Q (a.extract (sa + k) sb) (a.extract sb (sb + nb2)) >>= zi9 (sa + k)
   | _=>pure false
 | _=>pure false
def zi6 (i:Nat):mergeAt' i=(do
   let st <- get
   match (pendingOf st)[i]?,(pendingOf st)[i + 1]? with
    | some (sa,na,p),some (sb,nb,_)=>do
       set (setPending st (((pendingOf st).setIfInBounds i (sa,na + nb,p)).eraseIdxIfInBounds (i + 1)))
       zgC (arrOf st) sa na sb nb
    | _,_=>unsupported "internal:list.sort.pending"):=by
  kernel_rfl
def zfE (ys:List Keyed):∀ (xs:Array Keyed) (k n i:Nat),k + n + ys.length <= xs.size ->
    ((ys.zipIdx n).foldl (λ a (p,j)=>a.setIfInBounds (k + j) p) xs)[i]?=if k + n <= i /\ i < k + n + ys.length then ys[i - (k + n)]? else xs[i]?:=by
  induction ys with
  | nil=>intro xs k n i _; rw [if_neg (5:)]; rfl
  | cons y ys ih=>
    intro xs k n i h;rw [ybq] at h;rw [List.zipIdx_cons,List.foldl_cons,ih _ _ _ _ (34:)];by_cases h1:i=k + n
    · subst h1;rw [if_neg (1:),if_pos (5:)];simp only [Nat.sub_self,List.getElem?_cons_zero];rw [Array.getElem?_setIfInBounds_self_of_lt (1:)]
    · by_cases h2 : k + (n + 1) <= i /\ i < k + (n + 1) + ys.length
      · rw [if_pos h2,if_pos (34:),show i - (k + n)=i - (k + (n + 1)) + 1 by omega,List.getElem?_cons_succ]
      · rw [if_neg h2,if_neg (34:),Array.getElem?_setIfInBounds_ne (1:)]
def zkH {xs:Array Keyed} {k:Nat} {ys:List Keyed} (h:k + ys.length <= xs.size):(zd9 xs k ys).toList=xs.toList.take k ++ ys ++ xs.toList.drop (k + ys.length):=by
 apply ybf;intro i;have e:=zfE ys xs k 0 i (1:);have e':(zd9 xs k ys).toList[i]?=(zd9 xs k ys)[i]?:=by simp
 rw [e'];unfold zd9;rw [show (ys.zipIdx)=ys.zipIdx 0 from rfl,e];by_cases h1:i < k
 ·rw [if_neg (1:),yaH,yaO (34:),List.getElem?_take_of_lt h1];simp
 ·by_cases h2 : i < k + ys.length
  ·rw [if_pos (1:),yaH,yaT (34:),yaO (34:)];congr 1;simp; omega
  ·rw [if_neg (1:),yaH,yaT (34:),yaT (34:),List.getElem?_drop];rw [show xs[i]?=xs.toList[i]? by simp];congr 1;simp; omega
def zgc {xs:Array Keyed} {i j k:Nat} (hj:j <= xs.size) (h:i + k < j):Kk (xs.extract i j) k=Kk xs (i + k):=by
 refine zcq ?_;rw [Array.getElem?_extract];rw [if_pos (1:)]
def zc3 {xs:Array Keyed} (h:zcj xs) (i j:Nat):zcj (xs.extract i j):=by
 intro k x hx;rw [Array.getElem?_extract] at hx
 split at hx
 ·exact h _ _ hx
 ·cases hx
section
variable {prog:Program} {w:World} {A:Around} {E:Value -> Shared -> Prop} {s:Shared} [LtC prog w A E s] {st:SortSt}
end
end Srk
namespace Srk
open PySem PyProof.Rows
variable [KeyC]
noncomputable def AllG (a₀:Array Keyed):Prop:=∀ p ∈ a₀.toList,KeyC.G p
def zd4 {xs:Array Keyed} {i j:Nat} (hj:j <= xs.size) (k:Nat):Kk (mirror xs i j ((j - i) / 2)) k=if i <= k /\ k < j then Kk xs (i + j - 1 - k) else Kk xs k:=by
 by_cases h:i <= k /\ k < j
 ·rw [if_pos h]; exact zcq (by rw [getElem?_mirror_all hj,if_pos h])
 ·rw [if_neg h]; exact zcq (by rw [getElem?_mirror_all hj,if_neg h])
def zlC {xs:Array Keyed} {src d:Nat} (hs:src < xs.size) (hd:d <= src) (k:Nat):Kk (bubble xs src d) k=if k=src - d then Kk xs src else if src - d < k /\ k <= src then Kk xs (k - 1) else Kk xs k:=by
 by_cases h:k=src - d
 ·rw [if_pos h]; exact zcq (by rw [getElem?_bubble hs d hd,if_pos h])
 ·rw [if_neg h];by_cases h2 : src - d < k /\ k <= src
  ·rw [if_pos h2]; exact zcq (by rw [getElem?_bubble hs d hd,if_neg h,if_pos h2])
  ·rw [if_neg h2]; exact zcq (by rw [getElem?_bubble hs d hd,if_neg h,if_neg h2])
structure SBQ (a₀:Array Keyed) (lo:Nat) (p:Array (Nat × Nat × Nat)) (f:Nat -> Int) (st:SortSt):Prop where
 perm:(arrOf st).Perm a₀
 kind:kindOf st=KeyC.kd
 failed:failedOf st=none
 pend:pendingOf st=p
 low:∀ i,i < lo -> Kk (arrOf st) i=f i
variable {a₀:Array Keyed} {lo:Nat} {p:Array (Nat × Nat × Nat)} {f:Nat -> Int} {st:SortSt}
def SBQ.size (h:SBQ a₀ lo p f st):(arrOf st).size=a₀.size:=h.perm.size_eq
def SBQ.put (h:SBQ a₀ lo p f st) {xs:Array Keyed} (hp:xs.Perm (arrOf st)) (hl:∀ i,i < lo -> Kk xs i=Kk (arrOf st) i):SBQ a₀ lo p f (setArr st xs):=
 ⟨hp.trans h.perm,h.kind,h.failed,h.pend,λ i hi=>(hl i hi).trans (h.low i hi)⟩
def zg7 {xs:Array Keyed} (h0:AllG a₀) (hp:xs.Perm a₀):zcj xs:=by
 intro i x hx
 have hi:i < xs.size:=by
  rcases ybH i xs.size with h1 | h1
  ·exact h1
  ·rw [getElem?_neg xs i (1:)] at hx; cases hx
 rw [getElem?_pos xs i hi] at hx;have e:=Option.some.inj hx;exact h0 _ ((ybr.mp hp).mem_iff.mp (by rw [<- e]; simp))
noncomputable def UpQ (lo:Nat) (xs:Array Keyed) (m:Nat):Prop:=∀ i j,i <= j -> j < m -> Kk xs (lo + i) <= Kk xs (lo + j)
noncomputable def DnQ (lo:Nat) (xs:Array Keyed) (m:Nat):Prop:=∀ i j,i <= j -> j < m -> Kk xs (lo + j) <= Kk xs (lo + i)
def UpQ.one {xs:Array Keyed}:UpQ lo xs 1:=λ i j h1 h2=>by
 have:i=j:=by omega
 subst this; exact ybL _
def UpQ.more {xs:Array Keyed} {m:Nat} (h:UpQ lo xs m) (h1:1 <= m) (hl:Kk xs (lo + (m - 1)) <= Kk xs (lo + m)):UpQ lo xs (m + 1):=λ i j hij hj=>by
 by_cases c:j < m
 ·exact h i j hij c
 ·have : j = m := by omega
  subst this;by_cases c2:i=j
  ·subst c2; exact ybL _
  ·exact ybI (h i (j - 1) (1:) (1:)) hl
def DnQ.more {xs:Array Keyed} {m:Nat} (h:DnQ lo xs m) (h1:1 <= m) (hl:Kk xs (lo + m) <= Kk xs (lo + (m - 1))):DnQ lo xs (m + 1):=λ i j hij hj=>by
 by_cases c:j < m
 ·exact h i j hij c
 ·have : j = m := by omega
  subst this;by_cases c2:i=j
  ·subst c2; exact ybL _
  ·exact ybI hl (h i (j - 1) (1:) (1:))
section
variable {prog:Program} {w:World} {A:Around} {E:Value -> Shared -> Prop} {s:Shared} [LtC prog w A E s]
def zdT {i j:Nat} {Q:Option Bool -> SortSt -> Prop} (hB:SBQ a₀ lo p f st) (h0:AllG a₀) (hi:i < a₀.size) (hj:j < a₀.size)
  (h:Q (some (decide (Kk (arrOf st) i < Kk (arrOf st) j))) st):wpS (model prog w) A E s (ltAt' i j) Q st:=by
 have hs:=hB.size;have ai:=zg7 h0 hB.perm;have e1:(arrOf st)[i]?=some (arrOf st)[i]:=getElem?_pos _ i (1:);have e2:(arrOf st)[j]?=some (arrOf st)[j]:=getElem?_pos _ j (1:);rw [ltAt'_eq];refine wpS_bind (wpS_get (wpS_bind (zax (1:) λ x hx=>wpS_bind (zax (1:) λ y hy=>zfG hB.kind (ai _ _ hx) (ai _ _ hy) ?_))));rw [zbn hx,zbn hy] at h;exact h
def zh5 {m nrem:Nat} {Q:Option (Option Nat) × Nat -> SortSt -> Prop} (h0:AllG a₀) (hn:lo + nrem <= a₀.size) (h1:1 <= m) (hmn:m <= nrem) (hB:SBQ a₀ lo p f st) (hu:UpQ lo (arrOf st) m)
  (h:∀ n,m <= n -> n <= nrem -> UpQ lo (arrOf st) n -> (n=nrem \/ Kk (arrOf st) (lo + n) < Kk (arrOf st) (lo + (n - 1))) -> Q (none,n) st) :
  wpS (model prog w) A E s (Srt.rise lo m nrem) Q st:=by
 unfold Srt.rise;refine wpS_forRange (I:=λ x c st'=>st'=st /\ c=(none,x) /\ UpQ lo (arrOf st) x) ?step ?fin ⟨rfl,rfl,hu⟩
 case fin=>
  rintro c st' ⟨rfl,rfl,hu'⟩;rw [show max m nrem=nrem by omega] at hu' ⊢;exact h nrem hmn (yag _) hu' (.inl rfl)
 case step=>
  rintro x c st' h2 h3 ⟨rfl,rfl,hu'⟩;dsimp only;refine wpS_bind (zdT hB h0 (1:) (1:) ?_);rw [show lo + x - 1=lo + (x - 1) by omega];by_cases hl:Kk (arrOf st') (lo + x) < Kk (arrOf st') (lo + (x - 1))
  ·simp only [hl,decide_true,if_true];exact wpS_pure (h x h2 (1:) hu' (.inr hl))
  ·simp only [hl,decide_false,yaF,if_false];exact wpS_pure ⟨rfl,rfl,hu'.more (1:) (1:)⟩
def ziK {xs:Array Keyed} {i j:Nat} (hj:j <= xs.size) (heq:∀ k,i <= k -> k < j -> Kk xs k=Kk xs (j - 1)) (k:Nat):Kk (mirror xs i j ((j - i) / 2)) k=Kk xs k:=by
 rw [zd4 hj]
 split
 ·rw [heq (i + j - 1 - k) (1:) (1:),heq k (1:) (1:)]
 ·rfl
def zdq {n nrem:Nat} {Q:Option Nat -> SortSt -> Prop} (h0:AllG a₀) (hn:lo + nrem <= a₀.size) (h1:1 <= n) (hnn:n <= nrem) (hB:SBQ a₀ lo p f st) (hd:DnQ lo (arrOf st) n)
  (h:∀ m st',SBQ a₀ lo p f st' -> 1 <= m -> m <= nrem -> UpQ lo (arrOf st') m -> Q (some m) st') :
  wpS (model prog w) A E s (Srt.turnAbout lo n nrem) Q st:=by
 unfold Srt.turnAbout;have hsz:lo + n <= (arrOf st).size:=by rw [hB.size]; omega
 refine wpS_bind (wpS_reverse ?_);have hB':SBQ a₀ lo p f (setArr st (mirror (arrOf st) lo (lo + n) ((lo + n - lo) / 2))):=hB.put (mirror_perm _ _ _ _) λ i hi=>by rw [zd4 hsz,if_neg (1:)]
 refine wpS_bind (zh5 h0 hn h1 hnn hB' ?_ λ m hm1 hm2 hsm _=>wpS_pure (h m _ hB' (1:) hm2 hsm));intro i j hij hj;show Kk (mirror (arrOf st) lo (lo + n) ((lo + n - lo) / 2)) (lo + i) <= Kk (mirror (arrOf st) lo (lo + n) ((lo + n - lo) / 2)) (lo + j);rw [zd4 hsz,zd4 hsz,if_pos (1:),if_pos (1:),show lo + (lo + n) - 1 - (lo + i)=lo + (n - 1 - i) by omega,show lo + (lo + n) - 1 - (lo + j)=lo + (n - 1 - j) by omega];exact hd _ _ (1:) (1:)
def zlu {n nrem:Nat} {Q:Option (Option Nat) × Nat × Nat -> SortSt -> Prop} (h0:AllG a₀) (hn:lo + nrem <= a₀.size) (h1:1 <= n) (hnn:n <= nrem) (hB:SBQ a₀ lo p f st) (hd:DnQ lo (arrOf st) n)
  (h:∀ m q st',SBQ a₀ lo p f st' -> n <= m -> m <= nrem -> DnQ lo (arrOf st') m -> q + 1 <= m -> (∀ i,lo + m - (q + 1) <= i -> i < lo + m -> Kk (arrOf st') i=Kk (arrOf st') (lo + m - 1)) -> Q (none,m,q) st') :
  wpS (model prog w) A E s (Srt.fall lo n nrem) Q st:=by
 unfold Srt.fall;refine wpS_forRange (I:=λ x c st'=>∃ q,c=(none,x,q) /\ SBQ a₀ lo p f st' /\ DnQ lo (arrOf st') x /\ q + 1 <= x /\ (∀ i,lo + x - (q + 1) <= i -> i < lo + x -> Kk (arrOf st') i=Kk (arrOf st') (lo + x - 1))) ?step ?fin ⟨0,rfl,hB,hd,by omega,λ i _ _=>by congr 1; omega⟩
 case fin=>
  rintro c st' ⟨q,rfl,hB',hd',hq,he⟩;rw [show max n nrem=nrem by omega] at hd' hq he ⊢;exact h nrem q st' hB' hnn (yag _) hd' hq he
 case step=>
  rintro x c st' h2 h3 ⟨q,rfl,hB',hd',hq,he⟩;dsimp only;have hsz:lo + x <= (arrOf st').size:=by rw [hB'.size]; omega
  have ex:lo + x - 1=lo + (x - 1):=by omega
  refine wpS_bind (zdT hB' h0 (1:) (1:) ?_);by_cases hl:Kk (arrOf st') (lo + x) < Kk (arrOf st') (lo + x - 1)
  ·simp only [hl, decide_true, if_true];rw [ex] at hl;have d1 := hd'.more (1:) (ybm hl);by_cases hq0 : q > 0
   ·rw [if_pos hq0];have sm:=ziK hsz he;refine wpS_bind (wpS_reverse (wpS_pure ⟨0,rfl,hB'.put (mirror_perm _ _ _ _) λ i _=>sm i,λ i j hij hj=>?_,by omega,λ i _ _=>by congr 1; omega⟩));show Kk (mirror (arrOf st') _ _ _) _ <= Kk (mirror (arrOf st') _ _ _) _;rw [sm,sm]; exact d1 i j hij hj
   ·rw [if_neg hq0];exact wpS_pure ⟨0,rfl,hB',d1,by omega,λ i _ _=>by congr 1; omega⟩
  ·simp only [hl, decide_false, yaF, if_false];refine wpS_bind (zdT hB' h0 (1:) (1:) ?_);by_cases hg : Kk (arrOf st') (lo + x - 1) < Kk (arrOf st') (lo + x)
   ·simp only [hg,decide_true,if_true];exact wpS_pure (h x q st' hB' h2 (1:) hd' hq he)
   ·simp only [hg, decide_false, yaF, if_false];have eqx : Kk (arrOf st') (lo + x) = Kk (arrOf st') (lo + x - 1) := by omega
    refine wpS_pure ⟨q + 1,rfl,hB',hd'.more (1:) (by rw [<- ex]; omega),by omega,λ i g1 g2=>?_⟩;rw [show lo + (x + 1) - 1=lo + x by omega];by_cases c:i=lo + x
    ·rw [c]
    ·rw [eqx]; exact he i (1:) (1:)
def ze0 {n nrem:Nat} {Q:Option Nat -> SortSt -> Prop} (h0:AllG a₀) (hn:lo + nrem <= a₀.size) (hnn:n + 1 <= nrem) (hB:SBQ a₀ lo p f st) (hd:DnQ lo (arrOf st) (n + 1))
  (h:∀ m st',SBQ a₀ lo p f st' -> 1 <= m -> m <= nrem -> UpQ lo (arrOf st') m -> Q (some m) st') :
  wpS (model prog w) A E s (Srt.falling lo n nrem) Q st:=by
 unfold Srt.falling;refine wpS_bind (wpS_lift (wpAny_rule ⟨rfl,?_⟩));refine wpS_bind (zlu h0 hn (1:) hnn hB hd λ m q st' hB' hm1 hm2 hd' hq he=>?_);dsimp only;have hsz:lo + m <= (arrOf st').size:=by rw [hB'.size]; omega
 by_cases hq0:q > 0
 ·rw [if_pos hq0];have sm:=ziK hsz he;refine wpS_bind (wpS_reverse (zdq h0 hn (1:) hm2 (hB'.put (mirror_perm _ _ _ _) λ i _=>sm i) (λ i j hij hj=>?_) h));show Kk (mirror (arrOf st') _ _ _) _ <= Kk (mirror (arrOf st') _ _ _) _;rw [sm,sm]; exact hd' i j hij hj
 ·rw [if_neg hq0];exact zdq h0 hn (1:) hm2 hB' hd' h
def zf3 {nrem:Nat} {Q:Option Nat -> SortSt -> Prop} (h0:AllG a₀) (hn:lo + nrem <= a₀.size) (h1:1 <= nrem) (hB:SBQ a₀ lo p f st)
  (h:∀ m st',SBQ a₀ lo p f st' -> 1 <= m -> m <= nrem -> UpQ lo (arrOf st') m -> Q (some m) st') :
  wpS (model prog w) A E s (countRun' lo nrem) Q st:=by
 rw [Srt.countRun_parts];refine wpS_bind (zh5 h0 hn (yag 1) h1 hB UpQ.one λ n hn1 hn2 hu hor=>?_);dsimp only;by_cases hnn:n=nrem
 ·rw [if_pos (by simpa using hnn)];exact wpS_pure (h n st hB hn1 hn2 hu)
 ·rw [if_neg (by simpa using hnn)];have hlt := hor.resolve_left hnn;have hsz : lo + n <= (arrOf st).size := by rw [hB.size]; omega
  by_cases hgt:n > 1
  ·rw [if_pos hgt];refine wpS_bind (zdT hB h0 (1:) (1:) ?_);rw [show lo + n - 1 = lo + (n - 1) by omega];by_cases hr : Kk (arrOf st) lo < Kk (arrOf st) (lo + (n - 1))
   ·simp only [hr,decide_true,if_true];exact wpS_pure (h n st hB hn1 hn2 hu)
   ·simp only [hr, decide_false, yaF, if_false]
    have hall:∀ k,lo <= k -> k < lo + n -> Kk (arrOf st) k=Kk (arrOf st) (lo + n - 1):=by
     intro k g1 g2;have a1:=hu 0 (k - lo) (1:) (1:);have a2:=hu (k - lo) (n - 1) (1:) (1:);rw [show lo + (k - lo)=k by omega] at a1 a2;rw [show lo + n - 1=lo + (n - 1) by omega];simp only [Nat.add_zero] at a1;omega
    have sm:=ziK hsz hall;refine wpS_bind (wpS_reverse (ze0 h0 hn (1:) (hB.put (mirror_perm _ _ _ _) λ i _=>sm i) (λ i j hij hj=>?_) h));show Kk (mirror (arrOf st) _ _ _) _ <= Kk (mirror (arrOf st) _ _ _) _;rw [sm,sm];by_cases c:j < n
    ·rw [hall (lo + i) (1:) (1:),hall (lo + j) (1:) (1:)]; exact ybL _
    ·have : j = n := by omega
     subst this;by_cases c2:i=j
     ·subst c2; exact ybL _
     ·rw [hall (lo + i) (1:) (1:),show lo + j - 1=lo + (j - 1) by omega]; exact ybm hlt
  ·rw [if_neg hgt];have : n = 1 := by omega
   subst this;refine ze0 h0 hn (1:) hB (λ i j hij hj=>?_) h;by_cases c:i=j
   ·subst c; exact ybL _
   ·have e1 : i = 0 := by omega
    have e2:j=1:=by omega
    subst e1; subst e2;exact ybm hlt
def ze6 {n ok:Nat} {Q:Bool -> SortSt -> Prop} (h0:AllG a₀) (hn:lo + n <= a₀.size) (hok:ok <= n) (hB:SBQ a₀ lo p f st) (hu:UpQ lo (arrOf st) ok)
    (h:∀ st',SBQ a₀ lo p f st' -> UpQ lo (arrOf st') n -> Q true st'):wpS (model prog w) A E s (binarySort' lo n ok) Q st:=by
  rw [binarySort'_eq];refine wpS_bind (wpS_mono (wpS_forRange (I:=λ k c st'=>c=(none,()) /\ SBQ a₀ lo p f st' /\ UpQ lo (arrOf st') (min k n)) (Q:=λ c st'=>c=(none,()) /\ SBQ a₀ lo p f st' /\ UpQ lo (arrOf st') n) ?step ?fin ?init) ?post)
  case post=>
    rintro c st' ⟨rfl,hB',hu'⟩;exact wpS_pure (h st' hB' hu')
  case init=>
    refine ⟨rfl,hB,λ i j hij hj=>?_⟩;by_cases c:ok=0
    · have : i = j := by omega
      subst this; exact ybL _
    · exact hu i j hij (1:)
  case fin=>
    rintro c st' ⟨hc,hB',hu'⟩;rw [show min (max (max ok 1) n) n=n by omega] at hu';exact ⟨hc,hB',hu'⟩
  case step=>
    rintro k c st' g1 g2 ⟨rfl,hB',hu'⟩;rw [show min k n=k by omega] at hu'
    refine wpS_bind (wpS_mono (wpS_forRange (I:=λ x c st''=>st''=st' /\ ∃ l r,c=(none,l,r) /\ l <= r /\ r <= k /\ r - l <= k - x /\
        (∀ i,i < l -> Kk (arrOf st') (lo + i) <= Kk (arrOf st') (lo + k)) /\ (∀ i,r <= i -> i < k -> Kk (arrOf st') (lo + k) < Kk (arrOf st') (lo + i)))
      (Q:=λ c st''=>st''=st' /\ ∃ l r,c=(none,l,r) /\ l <= k /\
        (∀ i,i < l -> Kk (arrOf st') (lo + i) <= Kk (arrOf st') (lo + k)) /\ (∀ i,l <= i -> i < k -> Kk (arrOf st') (lo + k) < Kk (arrOf st') (lo + i))) ?istep ?ifin ?iinit) ?ipost)
    case iinit=>exact ⟨rfl,0,k,rfl,by omega,by omega,by omega,λ i hi=>by omega,λ i h1 h2=>by omega⟩
    case ifin=>
      rintro c st'' ⟨rfl,l,r,rfl,q1,q2,q3,q4,q5⟩;have:l=r:=by omega
      subst this;exact ⟨rfl,l,l,rfl,q2,q4,q5⟩
    case istep=>
      rintro x c st'' _ hx ⟨rfl,l,r,rfl,q1,q2,q3,q4,q5⟩;dsimp only;by_cases hge:l >= r
      · rw [if_pos hge];have : l = r := by omega
        subst this;exact wpS_pure ⟨rfl,l,l,rfl,q2,q4,q5⟩
      · rw [if_neg hge];refine wpS_bind (zdT hB' h0 (1:) (1:) ?_);by_cases hl : Kk (arrOf st'') (lo + k) < Kk (arrOf st'') (lo + (l + r) / 2)
        · simp only [hl,decide_true,if_true];exact wpS_pure ⟨rfl,l,_,rfl,by omega,by omega,by omega,q4,λ i g3 g4=>Int.lt_of_lt_of_le hl (hu' _ _ g3 g4)⟩
        · simp only [hl,decide_false,yaF,if_false];exact wpS_pure ⟨rfl,_,r,rfl,by omega,by omega,by omega,λ i g3=>ybI (hu' i ((l + r) / 2) (1:) (1:)) (Int.not_lt.mp hl),q5⟩
    case ipost=>
      rintro c st'' ⟨rfl,l,r,rfl,q1,q4,q5⟩;show wpS _ _ _ _ (do moveDown' (lo + k) (lo + l); pure (ForInStep.yield (none,()))) _ _;rw [moveDown'_eq];have hks:lo + k < (arrOf st'').size:=by rw [hB'.size]; omega
      have kb:∀ i,Kk (bubble (arrOf st'') (lo + k) (lo + k - (lo + l))) i=if i=lo + l then Kk (arrOf st'') (lo + k) else if lo + l < i /\ i <= lo + k then Kk (arrOf st'') (i - 1) else Kk (arrOf st'') i:=λ i=>by
        rw [zlC hks (1:),show lo + k - (lo + k - (lo + l))=lo + l by omega]
      refine wpS_bind (wpS_modify (wpS_pure ⟨rfl,hB'.put (bubble_perm _ _ _) λ i hi=>by rw [kb,if_neg (1:),if_neg (1:)],?_⟩));rw [show min (k + 1) n=k + 1 by omega];intro i j hij hj;show Kk (bubble (arrOf st'') (lo + k) (lo + k - (lo + l))) (lo + i) <= Kk (bubble (arrOf st'') (lo + k) (lo + k - (lo + l))) (lo + j);rw [kb,kb]
      repeat' split
      all_goals first
        | (exfalso; omega)
        | exact ybL _
        | (rw [show lo + i - 1=lo + (i - 1) by omega,show lo + j - 1=lo + (j - 1) by omega]; exact hu' _ _ (1:) (1:))
        | (rw [show lo + j - 1=lo + (j - 1) by omega]; exact ybm (q5 _ (1:) (1:)))
        | (rw [show lo + j - 1=lo + (j - 1) by omega]; exact hu' _ _ (1:) (1:))
        | exact q4 _ (1:)
        | exact hu' _ _ (1:) (1:)
end
end Srk
namespace Srk
open PySem PyProof.Rows
variable [KeyC]
section
variable {prog:Program} {w:World} {A:Around} {E:Value -> Shared -> Prop} {s:Shared} [LtC prog w A E s] {st:SortSt}
def zhh {a:Array Keyed} {lo n e:Nat} (hk:kindOf st=KeyC.kd) (hf:failedOf st=none) (ha:arrOf st=a) (hi:zcj a) (h1:lo < n) (h2:n < e) (h3:e <= a.size)
  (s1:∀ i j,lo <= i -> i <= j -> j < n -> Kk a i <= Kk a j) (s2:∀ i j,n <= i -> i <= j -> j < e -> Kk a i <= Kk a j) {Q:Bool -> SortSt -> Prop}
  (h:∀ st',pendingOf st'=pendingOf st -> failedOf st'=none -> kindOf st'=KeyC.kd -> (arrOf st').Perm a -> (∀ i,i < lo \/ e <= i -> Kk (arrOf st') i=Kk a i) -> (∀ i j,lo <= i -> i <= j -> j < e -> Kk (arrOf st') i <= Kk (arrOf st') j) -> Q true st') :
  wpS (model prog w) A E s (zgC a lo (n - lo) n (e - n)) Q st:=by
 unfold zgC
 have inOrder:Kk a (n - 1) <= Kk a n -> Q true st:=λ hle=>by
  refine h st rfl hf hk (by rw [ha]) (λ i _=>by rw [ha]) ?_;rw [ha];intro i j g1 hij hj;by_cases c1:j < n
  ·exact s1 i j g1 hij c1
  ·by_cases c2 : n <= i
   ·exact s2 i j c2 hij hj
   ·exact ybI (s1 i (n - 1) g1 (1:) (1:)) (ybI hle (s2 n j (1:) (1:) hj))
 refine wpS_bind (zax (1:) λ y hy=>?_);refine wpS_bind (zbi hk (hi _ _ hy) hi (1:) (1:) (λ i j hij hj=>s1 _ _ (1:) (1:) (1:)) λ k hk1 p1 p2=>?_);dsimp only;have hyk:KeyC.κ y=Kk a n:=(zbn hy).symm;have ah:∀ i,zaB false (KeyC.κ y) (Kk a (lo + i)) ↔ Kk a (lo + i) <= Kk a n:=λ i=>by unfold zaB; rw [if_neg (3:),hyk]
 by_cases hz:n - lo - k=0
 ·rw [if_pos (30:)];have:=(ah (n - 1 - lo)).mp (p1 (n - 1 - lo) (1:));rw [show lo + (n - 1 - lo)=n - 1 by omega] at this;exact wpS_pure (inOrder this)
 ·rw [if_neg (30:)];have e0 : lo + k + (n - lo - k) - 1 = n - 1 := by omega
  refine wpS_bind (zax (1:) λ x hx=>?_);refine wpS_bind (zbi hk (hi _ _ hx) hi (1:) (1:) (λ i j hij hj=>s2 _ _ (1:) (1:) (1:)) λ k2 hk2 r1 r2=>?_);dsimp only;have hxk:KeyC.κ x=Kk a (n - 1):=by rw [<- e0]; exact (zbn hx).symm
  have ah2:∀ i,zaB true (KeyC.κ x) (Kk a (n + i)) ↔ Kk a (n + i) < Kk a (n - 1):=λ i=>by unfold zaB; rw [if_pos rfl,hxk]
  by_cases hz2:k2=0
  ·rw [if_pos (by simpa using hz2)];refine wpS_pure (inOrder ?_);have:=mt (ah2 0).mpr (r2 0 (1:) (1:));simp only [Nat.add_zero] at this;omega
  ·rw [if_neg (by simpa using hz2)];have zX : (a.extract (lo + k) n).size = n - lo - k := by simp; omega
   have zY:(a.extract n (n + k2)).size=k2:=by simp; omega
   have kX:∀ i,i < n - lo - k -> Kk (a.extract (lo + k) n) i=Kk a (lo + k + i):=λ i hi=>zgc (1:) (1:);have kY:∀ i,i < k2 -> Kk (a.extract n (n + k2)) i=Kk a (n + i):=λ i hi=>zgc (1:) (1:)
   have up:∀ i,lo + k <= i -> i < n -> Kk a n < Kk a i:=λ i q1 q2=>by
    have:=mt (ah (i - lo)).mpr (p2 (i - lo) (1:) (1:));rw [show lo + (i - lo)=i by omega] at this;omega
   have C:CmQ (a.extract (lo + k) n) (a.extract n (n + k2)):=by
    refine ⟨zc3 hi _ _,zc3 hi _ _,?_,?_,by omega,by omega,?_,?_⟩
    ·rw [zX]; intro i j hij hj;rw [kX i (1:),kX j hj]; exact s1 _ _ (1:) (1:) (1:)
    ·rw [zY]; intro i j hij hj;rw [kY i (1:),kY j hj]; exact s2 _ _ (1:) (1:) (1:)
    ·rw [zX,zY]; intro j hj;rw [kY j hj,kX _ (1:),show lo + k + (n - lo - k - 1)=n - 1 by omega];exact ybm ((ah2 j).mp (r1 j hj))
    ·rw [zX]; intro j hj;rw [kY 0 (1:),kX j hj];exact ybm (up _ (1:) (1:))
   have fin:∀ r st',GsQ st st' -> zcQ (totQ (a.extract (lo + k) n) (a.extract n (n + k2))) r -> wpS (model prog w) A E s (zi9 (lo + k) r) Q st':=by
    rintro r st' ⟨g,rfl⟩ ⟨gp,gs⟩;unfold zi9;refine wpS_bind (wpS_modify (wpS_bind (wpS_get ?_)));have ef:(failedOf st).isNone=true:=by rw [hf]; rfl
    show wpS _ _ _ _ (pure (failedOf st).isNone) Q _;rw [ef]
    have hl:r.toList.length=n - lo - k + k2:=by
     rw [gp.length_eq]; simp only [totQ,yam,yaM,zX,zY]
    have arr:arrOf (setArr (zaQ st g) (zd9 (arrOf (zaQ st g)) (lo + k) r.toList))=zd9 a (lo + k) r.toList:=by
     show zd9 (arrOf st) (lo + k) r.toList=_;rw [ha]
    have out:∀ i,i < lo + k \/ n + k2 <= i -> Kk (zd9 a (lo + k) r.toList) i=Kk a i:=λ i hi'=>zcq (by
     have e:=zfE r.toList a (lo + k) 0 i (1:);unfold zd9;rw [show (r.toList.zipIdx)=r.toList.zipIdx 0 from rfl,e,if_neg (1:)])
    have inn:∀ i,lo + k <= i -> i < n + k2 -> ∃ hh:i - (lo + k) < r.toList.length,Kk (zd9 a (lo + k) r.toList) i=kfQ r.toList[i - (lo + k)]:=λ i g1 g2=>by
     have hh:i - (lo + k) < r.toList.length:=by omega
     refine ⟨hh,?_⟩;have e:=zfE r.toList a (lo + k) 0 i (1:)
     have e2:(zd9 a (lo + k) r.toList)[i]?=some r.toList[i - (lo + k)]:=by
      unfold zd9;rw [show (r.toList.zipIdx)=r.toList.zipIdx 0 from rfl,e,if_pos (1:),Nat.add_zero,yab hh]
     exact zbn e2
    have src:∀ i,lo + k <= i -> i < n + k2 -> ∃ q,((lo + k <= q /\ q < n) \/ (n <= q /\ q < n + k2)) /\ Kk (zd9 a (lo + k) r.toList) i=Kk a q:=λ i g1 g2=>by
     obtain ⟨hh,ek⟩:=inn i g1 g2;have hm:r.toList[i - (lo + k)] ∈ totQ (a.extract (lo + k) n) (a.extract n (n + k2)):=gp.mem_iff.mp (yaW hh);rcases yas.mp hm with hm | hm
     ·rw [zdZ] at hm;obtain ⟨q,q1,q2,q3,q4⟩:=zcL hm;exact ⟨q,.inl ⟨q1,q2⟩,by rw [ek,q4]⟩
     ·rw [zdd] at hm;obtain ⟨q,q1,q2,q3⟩:=zdP hm;exact ⟨n + q,.inr ⟨by omega,by omega⟩,by rw [ek,q3]⟩
    refine wpS_pure (h _ rfl hf hk ?_ ?_ ?_)
    ·rw [arr, ybr, zkH (1:), hl, show lo + k + (n - lo - k + k2) = n + k2 by omega]
     have whole:a.toList=a.toList.take (lo + k) ++ ((a.toList.take n).drop (lo + k) ++ (a.toList.drop n).take k2) ++ a.toList.drop (n + k2):=by
      have e:a.toList.take (lo + k) ++ (a.toList.take n).drop (lo + k)=a.toList.take n:=by
       have:=ybe (lo + k) (a.toList.take n)
       rwa [List.take_take,ybZ (1:)] at this
      rw [<- yaH,e,yaH,<- List.drop_drop,ybe,ybe]
     have gp':r.toList.Perm ((a.toList.take n).drop (lo + k) ++ (a.toList.drop n).take k2):=by rw [<- zdZ,<- zdd]; exact gp
     refine List.Perm.trans (ycs _ (ycC _ gp')) ?_;rw [<- whole]
    ·intro i hi';rw [arr]; exact out i (1:)
    ·rw [arr];intro i j g1 hij hj;by_cases ci : i < lo + k
     ·rw [out i (.inl ci)]
      have hin:Kk a i <= Kk a n:=by
       have:=(ah (i - lo)).mp (p1 (i - lo) (1:))
       rwa [show lo + (i - lo)=i by omega] at this
      by_cases cj:j < lo + k
      ·rw [out j (.inl cj)]; exact s1 i j g1 hij (1:)
      ·by_cases cj2 : j < n + k2
       ·obtain ⟨q, hq, ek⟩ := src j (1:) cj2;rw [ek];rcases hq with hq | hq
        ·exact s1 i q g1 (1:) hq.2
        ·exact ybI hin (s2 n q (1:) hq.1 (1:))
       ·rw [out j (.inr (1:))];exact ybI hin (s2 n j (1:) (1:) hj)
     ·by_cases ci2 : i < n + k2
      ·by_cases cj2 : j < n + k2
       ·obtain ⟨h4, e4⟩ := inn i (1:) ci2;obtain ⟨h5, e5⟩ := inn j (1:) cj2;rw [e4, e5];rcases ybH (i - (lo + k)) (j - (lo + k)) with c | c
        ·exact yba.mp gs _ _ h4 h5 c
        ·have : i = j := by omega
         subst this; exact ybL _
       ·obtain ⟨q, hq, ek⟩ := src i (1:) ci2;rw [ek, out j (.inr (1:))];rcases hq with hq | hq
        ·have q2:=mt (ah2 (j - n)).mpr (r2 (j - n) (1:) (1:));rw [show n + (j - n)=j by omega] at q2;exact ybI (s1 q (n - 1) (1:) (1:) (1:)) (1:)
        ·exact s2 q j hq.1 (1:) hj
      ·rw [out i (.inr (1:)),out j (.inr (1:))];exact s2 i j (1:) hij hj
   split
   ·exact wpS_bind (zhZ C hk λ r st' gs gd=>fin r st' gs gd)
   ·exact wpS_bind (zhY C hk λ r st' gs gd=>fin r st' gs gd)
end
noncomputable def Runs (xs:Array Keyed):Nat -> List (Nat × Nat × Nat) -> Nat -> Prop
 | s,[],e=>s=e
 | s,(a,n,_) :: t,e=>a=s /\ 1 <= n /\ (∀ i j,s <= i -> i <= j -> j < s + n -> Kk xs i <= Kk xs j) /\ Runs xs (s + n) t e
def Runs.le {xs:Array Keyed}:∀ {l:List (Nat × Nat × Nat)} {s e:Nat},Runs xs s l e -> s + l.length <= e
 | [],s,e,h=>by cases h; simp
 | (a,n,p) :: t,s,e,h=>by
  obtain ⟨h1,h2,h3,h4⟩:=h;have:=Runs.le h4;simp only [ybq];omega
def Runs.append {xs:Array Keyed}:∀ {l r:List (Nat × Nat × Nat)} {s e:Nat},Runs xs s (l ++ r) e ↔ ∃ m,Runs xs s l m /\ Runs xs m r e
 | [],r,s,e=>⟨λ h=>⟨s,rfl,h⟩,λ ⟨m,h1,h2⟩=>by cases h1; exact h2⟩
 | (a,n,p) :: t,r,s,e=>⟨λ ⟨h1,h2,h3,h4⟩=>by
   obtain ⟨m,q1,q2⟩:=Runs.append.mp h4;exact ⟨m,⟨h1,h2,h3,q1⟩,q2⟩,λ ⟨m,⟨h1,h2,h3,h4⟩,q⟩=>⟨h1,h2,h3,Runs.append.mpr ⟨m,h4,q⟩⟩⟩
def Runs.congr {xs ys:Array Keyed}:∀ {l:List (Nat × Nat × Nat)} {s e:Nat},Runs xs s l e -> (∀ i,s <= i -> i < e -> Kk ys i=Kk xs i) -> Runs ys s l e
 | [],s,e,h,_=>h
 | (a,n,p) :: t,s,e,⟨h1,h2,h3,h4⟩,k=>by
  have:=Runs.le h4;refine ⟨h1,h2,λ i j g1 g2 g3=>?_,h4.congr λ i q1 q2=>k i (1:) q2⟩;rw [k i g1 (1:),k j (1:) (1:)];exact h3 i j g1 g2 g3
structure PI (a₀:Array Keyed) (hi:Nat) (st:SortSt):Prop where
 perm:(arrOf st).Perm a₀
 kind:kindOf st=KeyC.kd
 failed:failedOf st=none
 runs:Runs (arrOf st) 0 (pendingOf st).toList hi
section
variable {prog:Program} {w:World} {A:Around} {E:Value -> Shared -> Prop} {s:Shared} [LtC prog w A E s] {st:SortSt} {a₀:Array Keyed}
def znq {α:Type} {l:List α} {i:Nat} {x y:α} (h1:l[i]?=some x) (h2:l[i + 1]?=some y):l=l.take i ++ x :: y :: l.drop (i + 2):=by
 have e1:l.drop i=x :: l.drop (i + 1):=by
  obtain ⟨hi,e⟩:=yaj.mp h1;rw [<- e]; exact yb8 hi
 have e2:l.drop (i + 1)=y :: l.drop (i + 2):=by
  obtain ⟨hi,e⟩:=yaj.mp h2;rw [<- e]; exact yb8 hi
 rw [<- e2,<- e1,ybe]
def zfc {i hi:Nat} {Q:Bool -> SortSt -> Prop} (h0:AllG a₀) (hP:PI a₀ hi st) (hhi:hi <= a₀.size) (hi2Q:i + 1 < (pendingOf st).size)
  (h:∀ st',PI a₀ hi st' -> (pendingOf st').size + 1=(pendingOf st).size -> (∀ j,hi <= j -> Kk (arrOf st') j=Kk (arrOf st) j) -> Q true st') :
  wpS (model prog w) A E s (mergeAt' i) Q st:=by
 rw [zi6];refine wpS_bind (wpS_get ?_);have e1:(pendingOf st)[i]?=some (pendingOf st)[i]:=getElem?_pos _ i (1:);have e2:(pendingOf st)[i + 1]?=some (pendingOf st)[i + 1]:=getElem?_pos _ (i + 1) hi2Q;generalize (pendingOf st)[i]=x at e1;generalize (pendingOf st)[i + 1]=y at e2;obtain ⟨sa,na,p⟩:=x;obtain ⟨sb,nb,q⟩:=y;rw [e1,e2];dsimp only;have e1':(pendingOf st).toList[i]?=some (sa,na,p):=by rw [yby]; exact e1
 have e2':(pendingOf st).toList[i + 1]?=some (sb,nb,q):=by rw [yby]; exact e2
 have sp:=znq e1' e2';have R:=hP.runs;rw [sp] at R;obtain ⟨m,R1,R2⟩:=Runs.append.mp R;obtain ⟨rfl,n1,u1,rfl,n2,u2,R3⟩:=R2;have l1:=R1.le;have l3:=R3.le;have hz:(arrOf st).size=a₀.size:=hP.perm.size_eq;refine wpS_bind (Srt.wpS_set ?_)
 have el:(((pendingOf st).setIfInBounds i (sa,na + nb,p)).eraseIdxIfInBounds (i + 1)).toList=(pendingOf st).toList.take i ++ (sa,na + nb,p) :: (pendingOf st).toList.drop (i + 2):=by
  have hl:(pendingOf st).toList.length=(pendingOf st).size:=yaM;have ht:((pendingOf st).toList.take i).length=i:=by rw [yaV]; omega
  have es:((pendingOf st).setIfInBounds i (sa,na + nb,p)).toList=(pendingOf st).toList.take i ++ (sa,na + nb,p) :: (sa + na,nb,q) :: (pendingOf st).toList.drop (i + 2):=by
   rw [Array.toList_setIfInBounds]
   conv=>lhs; rw [sp]
   rw [List.set_append_right _ _ (1:),ht];simp
  rw [Array.eraseIdxIfInBounds,dif_pos (34:),Array.toList_eraseIdx,es,List.eraseIdx_append_of_length_le (1:),ht,show i + 1 - i=1 by omega];rfl
 have tw:=zhh (st:=setPending st (((pendingOf st).setIfInBounds i (sa,na + nb,p)).eraseIdxIfInBounds (i + 1))) (prog:=prog) (w:=w) (A:=A) (E:=E) (s:=s) (a:=arrOf st) (lo:=sa) (n:=sa + na) (e:=sa + na + nb) hP.kind hP.failed rfl
  (fun i x hx => h0 _ ((ybr.mp hP.perm).mem_iff.mp (by
   have hi':i < (arrOf st).size:=by
    rcases ybH i (arrOf st).size with h1 | h1
    ·exact h1
    ·rw [getElem?_neg (arrOf st) i (1:)] at hx; cases hx
   rw [getElem?_pos (arrOf st) i hi'] at hx;rw [<- Option.some.inj hx]; simp))) (1:) (1:) (1:) u1 u2
  (Q:=Q) (λ st' p1 p2 p3 p4 p5 p6=>h st' ⟨p4.trans hP.perm,p3,p2,?_⟩ ?_ (λ j hj=>p5 j (.inr (1:))))
 ·rw [show sa + na - sa=na by omega,show sa + na + nb - (sa + na)=nb by omega] at tw;exact tw
 ·rw [p1];show Runs (arrOf st') 0 (((pendingOf st).setIfInBounds i (sa,na + nb,p)).eraseIdxIfInBounds (i + 1)).toList hi;rw [el];refine Runs.append.mpr ⟨sa,R1.congr λ j _ g2=>p5 j (.inl g2),rfl,by omega,λ j k g1 g2 g3=>p6 j k g1 g2 (1:),?_⟩;rw [show sa + (na + nb)=sa + na + nb by omega];exact R3.congr λ j g1 _=>p5 j (.inr g1)
 ·rw [p1];show (((pendingOf st).setIfInBounds i (sa,na + nb,p)).eraseIdxIfInBounds (i + 1)).size + 1=_;rw [<- yaM,el];have hl:(pendingOf st).toList.length=(pendingOf st).size:=yaM;simp only [yam,yaV,ybq,List.length_drop];omega
def Runs.pow {xs:Array Keyed}:∀ {l l':List (Nat × Nat × Nat)} {s e:Nat},Runs xs s l e -> l'.map (λ x=>(x.1,x.2.1))=l.map (λ x=>(x.1,x.2.1)) -> Runs xs s l' e
 | [],[],s,e,h,_=>h
 | [],_ :: _,s,e,h,q=>by simp at q
 | _ :: _,[],s,e,h,q=>by simp at q
 | (a,n,p) :: t,(a',n',p') :: t',s,e,⟨h1,h2,h3,h4⟩,q=>by
  simp only [yaP,List.cons.injEq,Prod.mk.injEq] at q;obtain ⟨⟨q1,q2⟩,q3⟩:=q;subst q1 q2;exact ⟨h1,h2,h3,h4.pow q3⟩
def zmq {hi pw:Nat} {f:Nat -> Int} {Q:ForInStep (Option Unit × Unit) -> SortSt -> Prop} (h0:AllG a₀) (hP:PI a₀ hi st) (hf:∀ j,hi <= j -> Kk (arrOf st) j=f j) (hhi:hi <= a₀.size)
  (hd:∀ st',PI a₀ hi st' -> (∀ j,hi <= j -> Kk (arrOf st') j=f j) -> Q (.done (none,())) st') (hy:∀ st',PI a₀ hi st' -> (∀ j,hi <= j -> Kk (arrOf st') j=f j) -> Q (.yield (none,())) st'):wpS (model prog w) A E s (Srt.olderOnes pw) Q st:=by
 unfold Srt.olderOnes;refine wpS_bind (wpS_get ?_);by_cases c:(pendingOf st).size > 1
 ·rw [if_pos c];have e1 : (pendingOf st)[(pendingOf st).size - 2]? = some (pendingOf st)[(pendingOf st).size - 2] := getElem?_pos _ _ (1:);rw [e1];generalize (pendingOf st)[(pendingOf st).size - 2] = x;obtain ⟨x1, x2, x3⟩ := x;dsimp only;by_cases c2 : x3 <= pw
  ·rw [if_pos c2]; exact wpS_pure (hd st hP hf)
  ·rw [if_neg c2];refine wpS_bind (zfc h0 hP hhi (1:) λ st' hP' _ hk'=>?_);simp only [yco,yaF,if_false];exact wpS_pure (hy st' hP' λ j hj=>(hk' j hj).trans (hf j hj))
 ·rw [if_neg c]; exact wpS_pure (hd st hP hf)
def PI.push {st:SortSt} {lo n:Nat} {l:List (Nat × Nat × Nat)} (hP:PI a₀ lo st) (hn:1 <= n) (hu:UpQ lo (arrOf st) n) {p:Array (Nat × Nat × Nat)} (hp:p.toList=l ++ [(lo,n,0)]) (hl:l.map (λ x=>(x.1,x.2.1))=(pendingOf st).toList.map (λ x=>(x.1,x.2.1))):PI a₀ (lo + n) (setPending st p):=by
 refine ⟨hP.perm,hP.kind,hP.failed,?_⟩;show Runs (arrOf st) 0 p.toList (lo + n);rw [hp];refine Runs.append.mpr ⟨lo,hP.runs.pow hl,rfl,hn,λ i j g1 g2 g3=>?_,rfl⟩;have:=hu (i - lo) (j - lo) (1:) (1:)
 rwa [show lo + (i - lo)=i by omega,show lo + (j - lo)=j by omega] at this
def zge {sz lo n:Nat} {Q:ForInStep (Option Unit × Nat) -> SortSt -> Prop} (h0:AllG a₀) (hP:PI a₀ lo st) (hlo:lo + n <= a₀.size) (hn:1 <= n) (hu:UpQ lo (arrOf st) n)
  (h:∀ st',PI a₀ (lo + n) st' -> Q (.yield (none,lo + n)) st'):wpS (model prog w) A E s (Srt.noted sz lo n) Q st:=by
 unfold Srt.noted;refine wpS_bind (wpS_get ?_);cases hb:(pendingOf st).back? with
 | none=>
  dsimp only;exact wpS_bind (wpS_modify (wpS_pure (h _ (hP.push hn hu (l:=(pendingOf st).toList) (5:) rfl))))
 | some x=>
  obtain ⟨x1,x2,x3⟩:=x;dsimp only;generalize power' sz (2 * x1 + x2) (2 * x1 + x2 + x2 + n) sz=pw;refine wpS_bind (wpS_mono (wpS_forRange (I:=λ _ c st'=>c=(none,()) /\ PI a₀ lo st' /\ ∀ j,lo <= j -> Kk (arrOf st') j=Kk (arrOf st) j) (Q:=λ c st'=>c=(none,()) /\ PI a₀ lo st' /\ ∀ j,lo <= j -> Kk (arrOf st') j=Kk (arrOf st) j) ?_ (λ _ _ hh=>hh) ⟨rfl,hP,λ _ _=>rfl⟩) ?_)
  ·rintro x c st' _ _ ⟨rfl,hP',hk'⟩;exact zmq h0 hP' hk' (1:) (λ st2 h1 h2=>⟨rfl,h1,h2⟩) λ st2 h1 h2=>⟨rfl,h1,h2⟩
  ·rintro c st' ⟨rfl, hP', hk'⟩;dsimp only;refine wpS_bind (wpS_modify (wpS_bind (wpS_modify (wpS_pure (h _ ?_)))));refine hP'.push (p := ((pendingOf st').modify ((pendingOf st').size - 1) fun x => (x.1, x.2.1, pw)).push (lo, n, 0)) (l := ((pendingOf st').modify ((pendingOf st').size - 1) fun x => (x.1, x.2.1, pw)).toList) hn (fun i j g1 g2 => ?_) (5:) ?_
   ·rw [hk' _ (1:),hk' _ (1:)]; exact hu i j g1 g2
   ·rw [Array.toList_modify];apply ybf;intro i;rw [yan, yan, List.getElem?_modify];cases (pendingOf st').toList[i]? with
    | none=>rfl
    | some y=>
     by_cases c:(pendingOf st').size - 1=i <;> simp [c]
def zgJ {Q:Unit -> SortSt -> Prop} (h0:AllG a₀) (hp:(arrOf st).Perm a₀) (hk:kindOf st=KeyC.kd) (hf:failedOf st=none) (he:pendingOf st=#[])
  (h:∀ st',(arrOf st').Perm a₀ -> failedOf st'=none -> zbP (arrOf st') a₀.size -> Q () st'):wpS (model prog w) A E s sortRuns' Q st:=by
 rw [Srt.sortRuns_parts];refine wpS_bind (wpS_get ?_);have hs:(arrOf st).size=a₀.size:=hp.size_eq;simp only [hs];generalize minRun' a₀.size a₀.size 0=mr
 refine wpS_bind (wpS_mono (wpS_forRange
  (I:=λ x c st'=>∃ lo,c=(none,lo) /\ x <= lo /\ lo <= a₀.size /\ PI a₀ lo st')
  (Q:=λ c st'=>c=(none,a₀.size) /\ PI a₀ a₀.size st') ?step ?fin ⟨0,rfl,yag _,yaY _,⟨hp,hk,hf,by rw [he]; rfl⟩⟩) ?post)
 case fin=>
  rintro c st' ⟨lo,rfl,g1,g2,hP⟩;have:lo=a₀.size:=by omega
  subst this;exact ⟨rfl,hP⟩
 case step=>
  rintro x c st' _ hx ⟨lo,rfl,g1,g2,hP⟩;dsimp only;unfold Srt.runStep;by_cases c:lo >= a₀.size
  ·rw [if_pos c];have : lo = a₀.size := by omega
   subst this;exact wpS_pure ⟨rfl,hP⟩
  ·rw [if_neg c];have hB : SBQ a₀ lo (pendingOf st') (Kk (arrOf st')) st' := ⟨hP.perm, hP.kind, hP.failed, rfl, fun i _ => rfl⟩
   have back:∀ st2,SBQ a₀ lo (pendingOf st') (Kk (arrOf st')) st2 -> PI a₀ lo st2:=λ st2 q=>⟨q.perm,q.kind,q.failed,by rw [q.pend]; exact hP.runs.congr λ i _ g=>q.low i g⟩
   refine wpS_bind (zf3 h0 (1:) (1:) hB λ m st2 hB2 hm1 hm2 hs2=>?_);dsimp only;by_cases hlt:m < mr
   ·rw [if_pos hlt];refine wpS_bind (wpS_lift (wpAny_rule ⟨rfl,?_⟩));refine wpS_bind (ze6 h0 (1:) (1:) hB2 hs2 λ st3 hB3 hs3=>?_);simp only [yco,yaF,if_false];exact zge h0 (back st3 hB3) (1:) (1:) hs3 λ st4 hP4=>⟨_,rfl,by omega,by omega,hP4⟩
   ·rw [if_neg hlt];exact zge h0 (back st2 hB2) (1:) hm1 hs2 λ st4 hP4=>⟨_,rfl,by omega,by omega,hP4⟩
 case post=>
  rintro c st' ⟨rfl,hP⟩;dsimp only
  refine wpS_bind (wpS_mono (wpS_forRange (I:=λ x c st''=>c=(none,()) /\ PI a₀ a₀.size st'' /\ ((pendingOf st'').size <= 1 \/ (pendingOf st'').size + x <= a₀.size))
   (Q:=λ c st''=>c=(none,()) /\ PI a₀ a₀.size st'' /\ (pendingOf st'').size <= 1) ?step2 ?fin2 ⟨rfl,hP,.inr (by have:=hP.runs.le; simpa using this)⟩) ?post2)
  case fin2=>
   rintro c st'' ⟨hc,hP',hz⟩;exact ⟨hc,hP',by omega⟩
  case step2=>
   rintro x c st'' _ hx ⟨rfl,hP',hz⟩;unfold Srt.lastStep;refine wpS_bind (wpS_get ?_);by_cases c:(pendingOf st'').size <= 1
   ·rw [if_pos c]; exact wpS_pure ⟨rfl,hP',c⟩
   ·rw [if_neg c]
    have hw:Srt.whichTwo (pendingOf st'') + 1 < (pendingOf st'').size:=by
     unfold Srt.whichTwo
     repeat' split
     all_goals omega
    refine wpS_bind (zfc h0 hP' (yag _) hw λ st3 hP3 hz3 _=>?_);simp only [yco,yaF,if_false];exact wpS_pure ⟨rfl,hP3,.inr (1:)⟩
  case post2=>
   rintro c st'' ⟨rfl,hP',hz⟩;refine wpS_pure (h _ hP'.perm hP'.failed ?_);have R:=hP'.runs;have hl:(pendingOf st'').toList.length <= 1:=by simpa using hz
   match hm:(pendingOf st'').toList,R,hl with
   | [],R,_=>
    have:0=a₀.size:=R;intro i j _ hj; omega
   | [(a,n,p)],R,_=>
    obtain ⟨h1,h2,h3,h4⟩:=R;have h4:0 + n=a₀.size:=h4;intro i j g1 g2;exact h3 i j (yaY _) g1 (1:)
   | _ :: _ :: _,_,hl=>simp at hl
end
end Srk
namespace Srk
open PySem PyProof.Rows
noncomputable abbrev za1 (h:Heap) (a:Addr) (vs:List Value):Heap:=((h.update a (Obj.mapSeq λ _=>#[])).push (seqObj "tuple" vs.toArray 0)).push (seqObj "list" #[] 0)
section
variable {prog:Program} {w:World} {A:Around} {E:Value -> Shared -> Prop} {s:Shared}
def zgv [C:KeyC] {a:Addr} {vs:List Value} {n:Nat} {P:Fin -> Shared -> Prop} (ho:s.heap.get? a=some (seqObj "list" vs.toArray n)) (hz:vs.length <= sizeLine)
  [hL:LtC prog w A E { s with heap:=za1 s.heap a vs }] (hG:AllG (pairsOf vs)) (hkk:2 <= vs.length -> wpAny (model prog w) A (keyKind' vs.toArray) (λ κ s'=>s'={ s with heap:=za1 s.heap a vs } /\ κ=C.kd) E { s with heap:=za1 s.heap a vs })
  (h:∀ xs:Array Keyed,xs.Perm (pairsOf vs) -> zbP xs (pairsOf vs).size -> P (.done (.ret .none)) { s with heap:=sortedHeap s.heap a vs (xs.map (·.2)) }) :
  wpAny (model prog w) A (Builtin.«list.sort» ⟨[.ref a],[]⟩) P E s:=by
 rw [list_sort_plain];have ha:a < s.heap.objs.size:=yai ho;refine wpAny_bind (listItems_at ho rfl ?_);refine wpAny_bind (listUpdate_at ho rfl ?_ (by rw [yap]; omega) (yaY _));obtain ⟨e1,ho1⟩:∃ e1,(s.heap.update a (Obj.mapSeq λ _=>#[])).get? a=some (seqObj "list" #[] e1):=⟨_,get?_update_seq ho (λ _=>#[])⟩
 refine wpAny_bind (seqEpoch_at ho1 rfl ?_);refine wpAny_bind (wpAny_newTuple ?_ (by show vs.length <= _; omega));refine wpAny_bind (wpAny_newList ?_);refine wpAny_holding ?_
 have ho6:(za1 s.heap a vs).get? a=some (seqObj "list" #[] e1):=by
  rw [ybS _ _ _ (by rw [size_push',ybF]; exact yax (ybQ ha)),ybS _ _ _ (by rw [ybF]; exact yax ha)];exact ho1
 show wpAny (model prog w) A _ P E { s with heap:=za1 s.heap a vs };dsimp only;have hsz:vs.toArray.size=vs.length:=by simp
 by_cases h2:vs.toArray.size < 2
 ·rw [if_pos h2, if_pos h2];refine wpAny_bind (wpAny_pure ?_);rw [StateT.run_pure];refine wpAny_bind (wpAny_pure ?_);dsimp only;refine wpAny_bind (seqEpoch_at ho6 rfl ?_);refine wpAny_bind (listUpdate_at ho6 rfl ?_ (hsz2 := by rw [Array.size_map]; show (pairsOf vs).size <= _; rw [pairsOf_size]; omega));simp only [bne_self_eq_false, yaF, if_false];refine wpAny_pure (h (vs.toArray.zip vs.toArray) (Array.Perm.refl _) ?_);intro i j hij hj;have : i = j := by rw [pairsOf_size] at hj; omega
  subst this; exact ybL _
 ·rw [if_neg h2, if_neg h2];refine wpAny_bind (wpAny_mono (hkk (1:)) ?_ fun _ _ e => e);rintro κ s' ⟨rfl, rfl⟩
  refine wpAny_bind (wpAny_mono (zgJ (prog:=prog) (w:=w) (A:=A) (E:=E) (a₀:=pairsOf vs) (st:=SortSt.mk' C.kd (vs.toArray.zip vs.toArray) #[] 7 none)
   (Q:=λ _ st'=>(arrOf st').Perm (pairsOf vs) /\ failedOf st'=none /\ zbP (arrOf st') (pairsOf vs).size)
   hG (Array.Perm.refl _) rfl rfl rfl λ st' a1 a2 a3=>⟨a1,a2,a3⟩) ?_ λ _ _ e=>e)
  rintro ⟨⟨⟩,st'⟩ s' ⟨rfl,hp,hf,hs⟩;dsimp only;have hz':((arrOf st').map (·.2)).size=vs.length:=by rw [Array.size_map,hp.size_eq,pairsOf_size]
  refine wpAny_bind (seqEpoch_at ho6 rfl (wpAny_bind (listUpdate_at ho6 rfl ?_ (hsz2:=by show ((arrOf st').map (·.2)).size <= _; rw [hz']; omega))));rw [hf];simp only [bne_self_eq_false,yaF,if_false];exact wpAny_pure (h _ hp hs)
end
noncomputable def codeZ:List Int -> Int
 | []=>0
 | x :: t=>(x + 2) * 66 ^ t.length + codeZ t
noncomputable def InB (ls:List Int):Prop:=∀ e ∈ ls,-2 <= e /\ e < 64
def zdX:∀ {ls:List Int},InB ls -> 0 <= codeZ ls /\ codeZ ls < 66 ^ ls.length
 | [],_=>⟨ybL _,by simp [codeZ]⟩
 | x :: t,h=>by
  have ht:=zdX (ls:=t) λ e he=>h e (yau _ he);have hx:=h x (yaC ..);have hp:(0:Int) < 66 ^ t.length:=Int.pow_pos (3:);have hm:(x + 2) * 66 ^ t.length <= 65 * 66 ^ t.length:=ybg (1:) (ybm hp);have hm0:0 <= (x + 2) * 66 ^ t.length:=Int.mul_nonneg (1:) (ybm hp);simp only [codeZ,ybq,Int.pow_succ];omega
def zf5 {x y:Int} {t u:List Int} (hl:t.length=u.length) (ht:InB t) (hu:InB u):codeZ (x :: t) < codeZ (y :: u) ↔ x < y \/ (x=y /\ codeZ t < codeZ u):=by
 have a:=zdX ht;have b:=zdX hu;simp only [codeZ];rw [hl] at a ⊢;have hp:(0:Int) < 66 ^ u.length:=Int.pow_pos (3:);generalize (66:Int) ^ u.length=p at *;rcases Int.lt_trichotomy x y with c | c | c
 ·have:(x + 2) * p + p <= (y + 2) * p:=by
   have:=ybg (show x + 2 + 1 <= y + 2 by omega) (ybm hp)
   rwa [Int.add_mul (x + 2) 1 p,Int.one_mul] at this
  exact ⟨λ _=>.inl c,λ _=>by omega⟩
 ·subst c;exact ⟨λ h=>.inr ⟨rfl,by omega⟩,λ h=>by rcases h with h | h <;> omega⟩
 ·have:(y + 2) * p + p <= (x + 2) * p:=by
   have:=ybg (show y + 2 + 1 <= x + 2 by omega) (ybm hp)
   rwa [Int.add_mul (y + 2) 1 p,Int.one_mul] at this
  exact ⟨λ h=>by omega,λ h=>by omega⟩
noncomputable def TupAt (h:Heap) (wd:Nat) (b:Addr) (ls:List Int):Prop:=∃ o xs n,h.get? b=some o /\ o.cls=.type "tuple" /\ o.data=.seq xs n /\ IntsAre xs.toList ls /\ ls.length=wd /\ InB ls
noncomputable def codeAt (h:Heap) (v:Value):Int:=match v with
 | .ref b=>match h.get? b with
  | some o=>match o.data with
   | .seq xs _=>codeZ (xs.toList.map numOf)
   | _=>0
  | none=>0
 | _=>0
def code_at {h:Heap} {wd:Nat} {b:Addr} {ls:List Int} (x:TupAt h wd b ls):codeAt h (.ref b)=codeZ ls:=by
 obtain ⟨o,xs,n,h1,h2,h3,h4,_⟩:=x;unfold codeAt;simp only [h1,h3,h4.nums]
def TupAt.keep {h h':Heap} {wd:Nat} {b:Addr} {ls:List Int} (x:TupAt h wd b ls) (k:∀ o,h.get? b=some o -> h'.get? b=some o):TupAt h' wd b ls:=
 let ⟨o,xs,n,h1,r⟩:=x; ⟨o,xs,n,k o h1,r⟩
noncomputable abbrev keyT (h:Heap) (wd:Nat):KeyC:=⟨λ x=>codeAt h x.1,λ x=>∃ b ls,x.1=.ref b /\ TupAt h wd b ls,tuples' true⟩
section
variable {prog:Program} {w:World} {A:Around} {E:Value -> Shared -> Prop} {s:Shared}
def zh3 {a b:Int} {t u:Tok} {Q:Bool -> Shared -> Prop} (h:Q (decide (a < b)) s):wpAny (model prog w) A (oneLt' false (.int a t) (.int b u)) Q E s:=by
 rw [oneLt'_eq];simp only [yaF,if_false];exact wpAny_bind (richCompare_gives (op:=.Lt) (typeIs_int s _ t) (typeIs_int s _ u) F.slot_int_lt F.entry_int_lt (F.args_int_lt_2 _ _) (gives_int_lt _ _ t u) (λ x=>nomatch x) (wpAny_truthy_bool h))
def zj5 {Q:Bool -> Shared -> Prop}:∀ {xs ys:List Value} {ls ms:List Int} (i:Nat),IntsAre xs ls -> IntsAre ys ms -> ls.length=ms.length -> InB ls -> InB ms -> Q (decide (codeZ ls < codeZ ms)) s -> PySem.W.KatLex prog w A true false Q (xs.zip ys) i s
 | _,_,_,_,i,.nil,.nil,_,_,_,h=>by
  refine PySem.W.kat_nil ?_;have e:decide (codeZ [] < codeZ [])=false:=by decide
  rwa [e] at h
 | _,_,_,_,i,.cons (ns:=ls) a t h1,.cons (ns:=ms) b u h2,hl,ha,hb,h=>by
  have hl':ls.length=ms.length:=by simpa using hl
  have ha':InB ls:=λ e he=>ha e (yau _ he);have hb':InB ms:=λ e he=>hb e (yau _ he);have st:=zf5 (x:=a) (y:=b) hl' ha' hb';rw [List.zip_cons_cons];refine PySem.W.kat_cons (wpAny_eqBool_int ?_);by_cases c:a=b
  ·subst c;rw [show (a == a) = true by simp];refine PySem.W.kat_yes (zj5 (i + 1) h1 h2 hl' ha' hb' ?_)
   have e:decide (codeZ (a :: ls) < codeZ (a :: ms))=decide (codeZ ls < codeZ ms):=by
    rw [decide_eq_decide,st]; exact ⟨λ z=>by rcases z with z | z; exact absurd z (Int.lt_irrefl _); exact z.2,λ z=>.inr ⟨rfl,z⟩⟩
   rwa [e] at h
  ·rw [show (a == b) = false by simpa using c];refine PySem.W.kat_no ?_
   have e:decide (codeZ (a :: ls) < codeZ (b :: ms))=decide (a < b):=by
    rw [decide_eq_decide,st]; exact ⟨λ z=>by rcases z with z | z; exact z; exact absurd z.1 c,λ z=>.inl z⟩
   rw [e] at h;cases (i == 0) with
   | true=>exact oneLt_int h
   | false=>exact zh3 h
def ltT (wd:Nat):@LtC (keyT s.heap wd) prog w A E s:=by
 letI:=keyT s.heap wd
 refine ⟨λ {st x y Q} hk hx hy h=>?_⟩;obtain ⟨b,ls,e1,t1⟩:=hx;obtain ⟨c,ms,e2,t2⟩:=hy;have k1:KeyC.κ x=codeZ ls:=by show codeAt s.heap x.1=_; rw [e1]; exact code_at t1
 have k2:KeyC.κ y=codeZ ms:=by show codeAt s.heap y.1=_; rw [e2]; exact code_at t2
 rw [k1,k2] at h;obtain ⟨o,xs,n,g1,g2,g3,g4,g5,g6⟩:=t1;obtain ⟨o',xs',n',q1,q2,q3,q4,q5,q6⟩:=t2;rw [lt'_eq];refine wpS_bind (wpS_get ?_);rw [hk,e1,e2]
 have hz:decide (xs.size < xs'.size)=false:=by
  have a1:=ycz g4;have a2:=ycz q4;simp only [yaM] at a1 a2;simp; omega
 refine wpS_bind (wpS_lift (wpAny_attempt (PySem.W.kat_lt g1 g3 q1 q3 ?_)));rw [hz];exact zj5 0 g4 q4 (1:) g6 q6 ⟨rfl,wpS_pure h⟩
end
end Srk
namespace Srk
open PySem PyProof.Rows Srt
def zlD {h:Heap} {wd:Nat} (hw:1 <= wd):∀ {as:List Addr},(∀ b ∈ as,∃ ls,TupAt h wd b ls) -> ∃ fs:List Value,fs.length=as.length /\ PySem.W.KatTups h (as.map Value.ref) fs /\ ∀ v ∈ fs,∃ n t,v=.int n t
 | [],_=>⟨[],rfl,PySem.W.KatTups.nil,λ _ h=>nomatch h⟩
 | b :: as,hA=>by
  obtain ⟨fs,h1,h2,h3⟩:=zlD hw λ c hc=>hA c (yau _ hc);obtain ⟨ls,o,xs,n,g1,g2,g3,g4,g5,g6⟩:=hA b (yaC ..);have hl:=ycz g4;simp only [yaM] at hl;have h0:xs[0]?=some xs[0]:=getElem?_pos xs 0 (1:);refine ⟨xs[0] :: fs,by simp [h1],PySem.W.KatTups.cons g1 g2 g3 h0 h2,λ v hv=>?_⟩;rcases yav.mp hv with rfl | hv
  ·exact g4.all _ (5:)
  ·exact h3 v hv
def znb {h:Heap} {as:List Addr} {xs:Array Keyed} (hp:xs.Perm (pairsOf (as.map Value.ref))) (hs:@zbP (keyT h wd) xs (pairsOf (as.map Value.ref)).size) :
  ∃ as':List Addr,as'.Perm as /\ (xs.map (·.2))=(as'.map Value.ref).toArray /\ as'.Pairwise λ b c=>codeAt h (.ref b) <= codeAt h (.ref c):=by
 letI:=keyT h wd
 have hl:xs.toList.Perm ((as.map Value.ref).zip (as.map Value.ref)):=by rw [<- pairsOf_toList]; exact ybr.mp hp
 let un:Keyed -> Addr:=λ p=>match p.1 with | .ref b=>b | _=>0
 have hmem:∀ p,p ∈ xs.toList -> p.1=.ref (un p) /\ p.2=.ref (un p):=λ p hp'=>by
  obtain ⟨e1,e2⟩:=mem_zip_self (hl.mem_iff.mp hp');obtain ⟨b,_,eb⟩:=yaf.mp e2;have:un p=b:=by show (match p.1 with | .ref b=>b | _=>0)=b; rw [<- eb]
  rw [this,<- e1,eb]; exact ⟨rfl,rfl⟩
 refine ⟨xs.toList.map un,?_,?_,?_⟩
 ·have h1 := hl.map un
  have e2:((as.map Value.ref).zip (as.map Value.ref)).map un=as:=by
   rw [List.zip_map',ya6]
   conv=>rhs; rw [<- List.map_id as]
   exact yaZ λ b _=>rfl
  rwa [e2] at h1
 ·apply Array.toList_inj.mp;rw [Array.toList_map,ya6];exact yaZ λ p hp'=>(hmem p hp').2
 ·rw [ya3,yba];intro i j hi hj hij;have h1:=hs i j (yaE hij) (by rw [<- hp.size_eq]; simpa using hj);rw [zkA (62:),zkA (by simpa using hj)] at h1;have e1:=(hmem xs.toList[i] (yaW hi)).1;have e2:=(hmem xs.toList[j] (yaW hj)).1;rw [<- e1,<- e2];have h2:codeAt h xs[i].1 <= codeAt h xs[j].1:=h1;simpa using h2
section
variable {prog:Program} {w:World} {A:Around} {E:Value -> Shared -> Prop} {s:Shared} {wd:Nat} {as:List Addr}
def zl2 {a:Addr} {n:Nat} {P:Fin -> Shared -> Prop} (hw:1 <= wd) (ho:s.heap.get? a=some (seqObj "list" (as.map Value.ref).toArray n)) (hz:as.length <= sizeLine) (hA:∀ b ∈ as,∃ ls,TupAt s.heap wd b ls)
  (h:∀ as':List Addr,as'.Perm as -> (as'.Pairwise λ b c=>codeAt s.heap (.ref b) <= codeAt s.heap (.ref c)) -> P (.done (.ret .none)) { s with heap:=sortedHeap s.heap a (as.map Value.ref) (as'.map Value.ref).toArray }) :
  wpAny (model prog w) A (Builtin.«list.sort» ⟨[.ref a],[]⟩) P E s:=by
 have ha:a < s.heap.objs.size:=yai ho
 have kp:∀ b,(∃ ls,TupAt s.heap wd b ls) -> ∀ o,s.heap.get? b=some o -> (za1 s.heap a (as.map Value.ref)).get? b=some o:=λ b ⟨ls,o,xs,n,g1,g2,_⟩ o' e=>by
  have hb:=yai e
  have hne:b ≠ a:=λ z=>by
   subst z;rw [ho] at g1;cases g1;exact absurd (show Value.type "list"=Value.type "tuple" from g2) (3:)
  rw [ybS _ _ _ (by rw [size_push',ybF]; exact yax (ybQ hb)),ybS _ _ _ (by rw [ybF]; exact yax hb),ycS _ _ _ _ hne];exact e
 have hA':∀ b ∈ as,∃ ls,TupAt (za1 s.heap a (as.map Value.ref)) wd b ls:=λ b hb=>by
  obtain ⟨ls,t⟩:=hA b hb;exact ⟨ls,t.keep (kp b ⟨ls,t⟩)⟩
 have sm:∀ b ∈ as,codeAt (za1 s.heap a (as.map Value.ref)) (.ref b)=codeAt s.heap (.ref b):=λ b hb=>by
  obtain ⟨ls,t⟩:=hA b hb;rw [code_at t,code_at (t.keep (kp b ⟨ls,t⟩))]
 refine zgv (C:=keyT (za1 s.heap a (as.map Value.ref)) wd) ho (30:) (hL:=ltT (s:={ s with heap:=za1 s.heap a (as.map Value.ref) }) wd) (λ p hp=>?_) (λ h2=>?_) λ xs hp hs=>?_
 ·rw [pairsOf_toList] at hp;obtain ⟨b,hb,e⟩:=yaf.mp (mem_zip_self hp).2;obtain ⟨ls,t⟩:=hA' b hb;exact ⟨b,ls,e.symm,t⟩
 ·obtain ⟨fs,f1,f2,f3⟩:=zlD hw hA';refine PySem.W.kat_kind (T:=.type "int") f2 (by rw [f1]; simp at h2; omega) (λ v hv=>?_) (3:) ⟨rfl,rfl⟩;obtain ⟨m,t,rfl⟩:=f3 v hv;exact .now
 ·obtain ⟨as', a1, a2, a3⟩ := znb hp hs;rw [a2];refine h as' a1 (a3.imp_of_mem fun {b c} hb hc z => ?_)
  rwa [sm b (a1.mem_iff.mp hb),sm c (a1.mem_iff.mp hc)] at z
def sorted_tail {p:Addr} {Q:Shared -> Prop} (hp:p=s.heap.objs.size) (hw:1 <= wd) (hz:as.length <= sizeLine) (hA:∀ b ∈ as,∃ ls,TupAt s.heap wd b ls)
  (h:∀ (h':Heap) (as':List Addr) (e:Nat),as'.Perm as -> (as'.Pairwise λ b c=>codeAt s.heap (.ref b) <= codeAt s.heap (.ref c)) -> h'.get? p=some (seqObj "list" (as'.map Value.ref).toArray e) -> (∀ c o,s.heap.get? c=some o -> h'.get? c=some o) -> Q { s with heap:=h' }) :
  wpAny (model prog w) A (Builtin.«list.sort» ⟨[.ref p],[]⟩) (λ f s'=>f=.done (.ret .none) /\ Q s') E { s with heap:=s.heap.push (seqObj "list" (as.map Value.ref).toArray 0) }:=by
 subst hp;have hoL:(s.heap.push (seqObj "list" (as.map Value.ref).toArray 0)).get? s.heap.objs.size=some (seqObj "list" (as.map Value.ref).toArray 0):=yao _ rfl;have kp:∀ b o,s.heap.get? b=some o -> (s.heap.push (seqObj "list" (as.map Value.ref).toArray 0)).get? b=some o:=λ b o e=>yae _ e
 have sm:∀ b ∈ as,codeAt (s.heap.push (seqObj "list" (as.map Value.ref).toArray 0)) (.ref b)=codeAt s.heap (.ref b):=λ b hb=>by
  obtain ⟨ls,t⟩:=hA b hb;rw [code_at t,code_at (t.keep (kp b))]
 refine zl2 hw hoL hz (λ b hb=>let ⟨ls,t⟩:=hA b hb; ⟨ls,t.keep (kp b)⟩) λ as' a1 a2=>⟨rfl,?_⟩
 obtain ⟨e,he⟩:=sortedHeap_at (out:=(as'.map Value.ref).toArray) hoL;refine h _ as' e a1 (a2.imp_of_mem λ {b c} hb hc z=>?_) he λ c o z=>?_
 ·rwa [sm b (a1.mem_iff.mp hb),sm c (a1.mem_iff.mp hc)] at z
 ·have z2:=yai z;rw [sortedHeap_old (yax z2) (by rw [ycy]; exact ybQ z2)];exact kp c o z
def ziq {l:Addr} {o:Obj} {T:String} {n:Nat} {vs:List Value} {Q:List Value -> Shared -> Prop} (ho:s.heap.get? l=some o) (hc:o.cls=.type T) (hT:T="list" \/ T="tuple") (hd:o.data=.seq vs.toArray n) (hz:vs.length <= sizeLine)
  (h:Q vs { s with heap:=(s.heap.push (seqObj "list" #[] 0)).update s.heap.objs.size (Obj.mapSeq (· ++ vs.toArray)) }) :
  wpAny (model prog w) A (collect (.ref l)) Q E s:=by
 unfold collect;refine wpAny_bind (wpAny_runValue (codeAny_builtin entry_proto_collect' ?_));show wpAny _ _ (do again (.builtin "list.__iadd__" ⟨[<- newList [],.ref l],[]⟩)) _ _ s;refine wpAny_bind (wpAny_newList (wpAny_pure ⟨Code.quiet_builtin _ (20:),codeAny_builtin entry_list_iadd' ?_⟩));show wpAny _ _ (Builtin.List.listExtendWith (.ref s.heap.objs.size) (.ref l) (.ref s.heap.objs.size)) _ _ { s with heap:=s.heap.push (seqObj "list" #[] 0) };unfold Builtin.List.listExtendWith;have ho':(s.heap.push (seqObj "list" #[] 0)).get? l=some o:=yae _ ho;refine wpAny_bind (wpAny_typeOf (T:=T) ⟨o,ho',hc⟩ ?_);have b1:(Value.type "list" == Value.type "list")=true:=rfl;have b2:(Value.type "tuple" == Value.type "tuple")=true:=rfl;rw [if_pos (by rcases hT with rfl | rfl <;> simp [b1,b2])];have hne:¬ ((!(#[]:Array Value).isEmpty && Builtin.List.listTooLong ((#[]:Array Value).size + vs.toArray.size))=true):=by simp
 refine wpAny_bind (listItems_at ho' hd (wpAny_bind (listItems_at (xs:=#[]) (n:=0) (yao _ rfl) rfl ?_)));rw [if_neg hne];refine wpAny_bind (listUpdate_at (xs:=#[]) (n:=0) (yao _ rfl) rfl (wpAny_pure ?_) (yaY _) (by show (#[] ++ vs.toArray).size <= sizeLine + 1; simp only [Array.size_append,yap,List.length_nil]; omega))
 show wpAny (model prog w) A (do
   let o <- load s.heap.objs.size
   match o.data with
   | .seq xs _=>pure xs.toList
   | _=>unsupported "internal:collect") Q E { s with heap:=(s.heap.push (seqObj "list" #[] 0)).update s.heap.objs.size (Obj.mapSeq (· ++ vs.toArray)) }
 refine wpAny_bind (wpAny_load (get?_update_seq (yao _ rfl) _) ?_);have ev:((#[]:Array Value) ++ vs.toArray).toList=vs:=by simp
 show wpAny _ _ (pure ((#[]:Array Value) ++ vs.toArray).toList) Q E _;rw [ev];exact wpAny_pure h
end
end Srk
namespace Dit
open PySem PyProof.Rows
section
variable {prog:Program} {w:World} {A:Around} {E:Value -> Shared -> Prop} {s:Shared} {it d v:Addr} {i ep:Nat} {es:Array DictEntry} {od:Obj}
def zla (hh:A.handled=none) (I:Addr) (hne:d ≠ I) (hdd:od.data=.dict es ep) :
  Walks prog w A I [I,d] [I] es.size (λ i v=>(es[i]?).map (·.key)=some v) (λ i h=>h.IsKeyIter I d i es.size ep /\ h.get? d=some od) where
 sub:=λ b hb=>by simp at hb; simp [hb]
 frame:=λ _ _ _ st hk=>⟨st.1.at λ o e=>hk I (5:) o e,hk d (5:) _ st.2⟩
 item:=λ i s Q E hi st hQ=>by
  refine seen (m:=pure (.done (.ret .none))) st.1 (step_item st.1 st.2 hdd hi λ h' st' sb=>⟨_,rfl,?_⟩);exact hQ _ h' s.toks (by rw [getElem?_pos es i hi]; rfl) ⟨st',(sb.2 d hne).trans st.2⟩ λ b o hb e=>sb.extBut b o (λ h=>hb (by simp [h])) e
 done:=λ s Q E st hQ=>seen (m:=pure (.done (.ret .none))) st.1 (step_end hh st.1 st.2 hdd (yag _) λ h' e eb hT=>⟨hT,hQ h' s.toks λ b o hb e=>eb b o (λ h=>hb (by simp [h])) e⟩)
 self:=λ _ _ _ _ st hQ=>wpAny_pyIter_keyiter st.1 hQ
def zno (lo:(d == sysModules)=false) (hex:od.ExactDict) (hdd:od.data=.dict es ep):PySem.W.KdlSrc prog w "dict" d d es.size (λ i v=>(es[i]?).map (·.key)=some v) (λ h=>h.get? d=some od) where
 type:=λ _ hm=>⟨od,hm,hex.1⟩
 there:=λ _ hm=>⟨yai hm,yai hm⟩
 keep:=λ _ _ hm hk=>hk d (.inl rfl) _ hm
 notList:=by decide
 notTuple:=by decide
 hint:=λ _ _ _ _ hm hq=>PySem.W.kdl_hint_dict ⟨od,hm,hex.1⟩ hq
 iter:=λ _ _ hh hm=>⟨_,_,(λ _ _ hq=>iter_dict lo hm hex hdd hq),zla hh _ (yax (yai hm)) hdd,⟨⟨_,yao _ rfl,rfl,rfl⟩,yae _ hm⟩⟩
def collect_dict {Q:List Value -> Shared -> Prop} (hh:A.handled=none) (lo:(d == sysModules)=false) (ho:s.heap.get? d=some od) (hex:od.ExactDict) (hdd:od.data=.dict es ep) (hz:es.size <= sizeLine)
  (h:∀ (h':Heap) (tk:Nat),(∀ c o,s.heap.get? c=some o -> h'.get? c=some o) -> s.heap.objs.size <= h'.objs.size -> Q (es.toList.map (·.key)) { s with heap:=h',toks:=tk }) :
  wpAny (model prog w) A (collect (.ref d)) Q E s:=by
 have ha:=yai ho;unfold collect;refine wpAny_bind (wpAny_runValue (codeAny_builtin entry_proto_collect' ?_));rw [yb4 F.plain_proto_collect _];show wpAny _ A.in1 (do again (.builtin "list.__iadd__" ⟨[<- newList [],.ref d],[]⟩)) _ _ s;refine wpAny_bind (wpAny_newList (wpAny_pure ⟨Code.quiet_builtin _ (20:),codeAny_builtin entry_list_iadd' ?_⟩));rw [yb4 F.plain_list_iadd _];show wpAny _ A.in1 (Builtin.List.listExtendWith (.ref s.heap.objs.size) (.ref d) (.ref s.heap.objs.size)) _ _ { s with heap:=s.heap.push (seqObj "list" #[] 0) }
 refine PySem.W.kdl_extend (s:={ s with heap:=s.heap.push (seqObj "list" #[] 0) }) (R:=λ r s'=>match r with
   | .ok (.ret v)=>wpAny (model prog w) A (match v with
     | .ref a=>do
      let o <- load a
      match o.data with
      | .seq xs _=>pure xs.toList
      | _=>unsupported "internal:collect"
     | _=>unsupported "internal:collect") Q E s'
   | .ok _=>False
   | .error e=>E e s') (zno lo hex hdd) hh (yae _ ho) s.heap.objs.size (ybC ha) (ybC ha) _ 0 (yao _ rfl) (λ h' tk acc' c' hk hS' hacc=>?_) hz
 show wpAny _ A (load s.heap.objs.size >>= _) _ _ { s with heap:=h',toks:=tk };refine wpAny_bind (wpAny_load hS' (wpAny_pure ?_))
 have e:acc'.toList=es.toList.map (·.key):=by
  refine ybf λ i=>?_;rw [yan,yby,yby];rcases ybH i acc'.size with c | c
  ·have c2:acc'[i]?=some acc'[i]:=getElem?_pos acc' i c;rw [c2,<- hacc.2 i _ c2]
  ·have:=hacc.1;rw [getElem?_neg acc' i (1:),getElem?_neg es i (1:)]; rfl
 show Q acc'.toList _;rw [e];exact h h' tk (λ c o z=>hk c o (yax (yai z)) (yae _ z)) (yaE (yai hS'))
end
end Dit
namespace L2
open PySem PySem.Spec PyProof.Rows
noncomputable abbrev kI (ls:List Int):List Key:=ls.map Sum.inl
def kI_V (ls:List Int):(kI ls).map kV=ls.map V.int:=by rw [ya6]; rfl
def zmb {a b:List Int} (h:kI a=kI b):a=b:=(List.map_inj_right (λ _ _ z=>Sum.inl.inj z)).mp h
noncomputable def zfv (H:Hp) (kvs:List (List Key × V)) (bs:List Addr):Prop:=Paired (λ (p:List Key × V) (b:Addr)=>H b=some (.tup (p.1.map kV))) kvs bs
def ziE {H:Hp}:∀ {kvs:List (List Key × V)} {xs:List (List Key × Addr × Value)},Paired (λ (p:List Key × V) (q:List Key × Addr × Value)=>p.1=q.1 /\ H q.2.1=some (.tup (p.1.map kV)) /\ RelV p.2 q.2.2) kvs xs -> zfv H kvs (xs.map (·.2.1))
 | _,_,.nil=>.nil
 | _,_,.cons r t=>.cons r.2.1 (ziE t)
def zfv.mem {H:Hp}:∀ {kvs:List (List Key × V)} {bs:List Addr},zfv H kvs bs -> ∀ b ∈ bs,∃ kv ∈ kvs,H b=some (.tup (kv.1.map kV))
 | _,_,.nil,b,h=>by simp at h
 | _,_,.cons (a:=kv) r t,b,h=>by
  rcases yav.mp h with rfl | h
  ·exact ⟨kv,yaC ..,r⟩
  ·obtain ⟨q,h1,h2⟩:=zfv.mem t b h;exact ⟨q,yau _ h1,h2⟩
def zfv.length {H:Hp} {kvs:List (List Key × V)} {bs:List Addr} (h:zfv H kvs bs):kvs.length=bs.length:=ybi h
def zfw:∀ (bs:List Addr),Vals (bs.map V.ref) (bs.map Value.ref)
 | []=>.nil
 | b :: bs=>.cons rfl (zfw bs)
def zg8:∀ {bs:List Addr} {us:List Value},Vals (bs.map V.ref) us -> us=bs.map Value.ref
 | [],_,.nil=>rfl
 | b :: bs,_,.cons r t=>by cases (show _=Value.ref b from r); rw [yaP,zg8 t]
def zfb {P:Program} {w:World} {H:Hp} {h:Heap} {b:Addr} {ls:List Int} {wd:Nat} (ok:HOk P w H h) (e:H b=some (.tup (ls.map V.int))) (hl:ls.length=wd) (hb:Srk.InB ls):Srk.TupAt h wd b ls:=by
 obtain ⟨z,its,rv,o,ho,hc,_,n,hd⟩:=(show zaT P w H h b (.tup (ls.map V.int)) from ok b _ e)
 exact ⟨o,_,n,ho,hc,hd,by simpa using zgm rv,hl,hb⟩
noncomputable def AllT (wd:Nat) (kvs:List (List Key × V)):Prop:=∀ kv ∈ kvs,∃ ls:List Int,kv.1=kI ls /\ ls.length=wd /\ Srk.InB ls
noncomputable def zpp (H:Hp) (bs:List Addr):Prop:=bs.Pairwise λ b c=>∀ lb lc:List Int,H b=some (.tup (lb.map V.int)) -> H c=some (.tup (lc.map V.int)) -> Srk.InB lb -> Srk.InB lc -> Srk.codeZ lb <= Srk.codeZ lc
section
variable {X:Cx}
noncomputable def zpQ:List V -> Hp -> VK -> Prop:=λ xs H Q=>∃ (a:Addr) (kvs:List (List Key × V)) (wd:Nat),xs=[.ref a] /\ Rd H a (.dT kvs) /\ 1 <= wd /\ AllT wd kvs /\
 ∀ (p:Addr) (bs bs':List Addr),H p=none -> zfv H kvs bs -> bs'.Perm bs -> zpp H bs' -> Q (.ref p) (upd H p (.lst (bs'.map V.ref)))
def znp {P:Program} {w:World} {H:Hp} {h:Heap} {bs:List Addr} (ok:HOk P w H h) (hp:bs.Pairwise λ b c=>Srk.codeAt h (.ref b) <= Srk.codeAt h (.ref c)):zpp H bs:=
 hp.imp λ {b c} z lb lc e1 e2 i1 i2=>by
  rwa [Srk.code_at (zfb ok e1 rfl i1),Srk.code_at (zfb ok e2 rfl i2)] at z
def zkL (hc:X.calm=true):zb1 X (.builtin "sorted") zpQ:=by
 intro pins s σ H xs us Q I r h;obtain ⟨a,kvs,wd,rfl,hq,hw,hT,q⟩:=h;obtain ⟨u,rfl,ru⟩:=r.one;cases ru;obtain ⟨z1,z2,xs,rel,o,es,ep,h1,h2,h3,h4,h5⟩:=(show zaT X.prog X.w H s.heap a (.dT kvs) from hq.ok I.hok)
 have hl:es.size=xs.length:=by rw [<- yaM,h4,yaa]
 have hx:kvs.length=xs.length:=ybi rel
 have hA:∀ b ∈ xs.map (·.2.1),∃ ls,Srk.TupAt s.heap wd b ls:=λ b hb=>by
  obtain ⟨kv,m1,m2⟩:=(ziE rel).mem b hb;obtain ⟨ls,e,e2,e3⟩:=hT kv m1;rw [e,kI_V] at m2;exact ⟨ls,zfb I.hok m2 e2 e3⟩
 refine yb9 kind_sorted plain_sorted entry_sorted (args_sorted1 _) ?_;unfold Builtin.«sorted»;refine wpAny_bind (m:=checkCount "sorted" 1 1 _) (wpAny_pure (wpAny_bind (Dit.collect_dict (by simpa using I.ok.hd hc) z2 h1 h2 h3 (1:) λ h' tk hk hsz=>wpAny_bind ?_)));have ek:es.toList.map (·.key)=(xs.map (·.2.1)).map Value.ref:=by rw [h4,ya6,ya6]; rfl
 rw [ek];refine wpAny_newList ?_ (by simp only [yaa]; omega)
 have sm:∀ b ∈ xs.map (·.2.1),Srk.codeAt h' (.ref b)=Srk.codeAt s.heap (.ref b):=λ b hb=>by
  obtain ⟨ls,t⟩:=hA b hb;rw [Srk.code_at t,Srk.code_at (t.keep λ o e=>hk b o e)]
 refine wpAny_bind (wpAny_holding (wpAny_call_entry slot_list_sort ⟨_,yao _ rfl,rfl⟩ entry_list_sort (wpAny_mono (Srk.sorted_tail (s:={ s with heap:=h',toks:=tk }) (Q:=λ s2=>EP X pins σ Q (.ref h'.objs.size) s2) rfl hw (by simp only [yaa]; omega) (λ b hb=>let ⟨ls,t⟩:=hA b hb; ⟨ls,t.keep λ o e=>hk b o e⟩) (λ h2 as' e a1 a2 a3 a4=>?_)) (λ f s' z=>by
  obtain ⟨rfl,q⟩:=z;exact ⟨_,rfl,wpAny_pure ⟨_,rfl,q⟩⟩) λ _ _ e=>e) (args_list_sort _)))
 have hln:=a1.length_eq;simp only [yaa] at hln;refine ⟨.ref h'.objs.size,_,I.laid (t':=tk) (o:=.lst (as'.map V.ref)) (λ b u z=>a4 b u (hk b u z)) hsz ⟨by simp only [yaa]; omega,as'.map Value.ref,e,zfw _,a3⟩,rfl,q _ (xs.map (·.2.1)) as' (I.hok.fresh hsz) (ziE rel) a1 ?_⟩;exact znp I.hok (a2.imp_of_mem λ {b c} hb hc z=>by rwa [sm b (a1.mem_iff.mp hb),sm c (a1.mem_iff.mp hc)] at z)
end
open Bm
section
variable {X:Cx}
noncomputable def tFrz (t:TE):TE:=λ σ H Q=>t σ H λ x H1=>∃ (a:Addr) (kvs:List (List Key × V)),x=.ref a /\ H1 a=some (.dT kvs) /\ ∀ o,Q x (upd H1 a (.frz o (.dT kvs)))
def ziQ {e:Expr} {t:TE} (h:PE X e t):PE X e (tFrz t):=by
 intro pins s σ H Q I q;refine thn (h pins s σ H _ I q) λ v s1 ⟨x,H1,I1,r1,a,kvs,ex,e1,q1⟩=>?_;subst ex;have ok:=(show zaT X.prog X.w H1 s1.heap a (.dT kvs) from I1.hok a _ e1)
 obtain ⟨z1,z2,xs,rel,o,es,ep,h1,h2,h3,h4,h5⟩:=id ok;exact ⟨_,_,I1.write (t':=s1.toks) (x:=a) (e:=a) (by rw [e1]; trivial) (.inl rfl) (λ b u _ z=>z) ⟨o,h1⟩ (zhJ ok e1 h1),r1,q1 o⟩
end
section
variable {σ:St} {H:Hp} {Q:VK} {tk tv td ty:TE} {tl:TE} {R:It -> Hp -> Prop}
def zny (h:tl σ H λ x H1=>∃ (a:Addr) (kvs:List (List Key × V)),x=.ref a /\ H1 a=some (.dT kvs) /\ ∀ o,Q x (upd H1 a (.frz o (.dT kvs)))):tFrz tl σ H Q:=h
def zjj (h:∀ p,H p=none -> tk σ (upd H p (.dT [])) λ x H1=>tv σ H1 λ y H2=>∃ (ks:List Key) (b:Addr),x=.ref b /\ H2 b=some (.tup (ks.map kV)) /\ H2 p=some (.dT []) /\ Q (.ref p) (upd H2 p (.dT [(ks,y)]))):zlK tk tv σ H Q:=h
def zoL (h:∀ p,H p=none -> Q (.ref p) (upd H p (.dT []))):znD σ H Q:=h
def zlJ (h:tl σ H λ x H1=>∃ (a:Addr) (kvs:List (List Key × V)),x=.ref a /\ ((H1 a=some (.dT kvs) /\ ∀ o,R (Itd a o kvs) (upd H1 a (.frz o (.dT kvs)))) \/ ∃ o,Frz H1 a o kvs /\ R (Itd a o kvs) H1)):znM tl σ H R:=h
end
def DGet.r {H:Hp} {a b:Addr} {kvs:List (List Key × V)} {ls:List Int} (e:Rd H a (.dT kvs)) (eb:H b=some (.tup (ls.map V.int))):DGet H a (.ref b) (valV kvs (kI ls)):=.inr ⟨kvs,kI ls,b,e,rfl,by rw [kI_V]; exact eb,rfl⟩
def Frz.rd {H:Hp} {a:Addr} {o:Obj} {kvs:List (List Key × V)} (h:Frz H a o kvs):Rd H a (.dT kvs):=.inr ⟨o,h⟩
noncomputable def steps (w:Nat) (L:List (Addr × Dd)):List (List Int):=L.map λ e=>e.2.led w
def zbI {w:Nat} {L:List (Addr × Dd)} {s:List Int}:s ∈ steps w L ↔ ∃ e ∈ L,s=e.2.led w:=by
 unfold steps; rw [yaf]; exact ⟨λ ⟨e,h1,h2⟩=>⟨e,h1,h2.symm⟩,λ ⟨e,h1,h2⟩=>⟨e,h1,h2.symm⟩⟩
def zcu {H:Hp} {w:Nat} {L:List (Addr × Dd)} (h:Rw H w L):∀ s ∈ steps w L,Ld w s:=λ s hs=>by
 obtain ⟨e,he,rfl⟩:=zbI.mp hs;exact Dd.led_ld (h e he).2
noncomputable def Mb (w:Nat) (L:List (Addr × Dd)) (kvs:List (List Key × V)):Prop:=(∀ k v,valV kvs k=some v -> ∃ e ∈ L,k=kI (e.2.led w) /\ v=.ref e.1) /\ (∀ e ∈ L,kI (e.2.led w) ∈ kvs.map (·.1)) /\ ∀ kv ∈ kvs,∃ e ∈ L,kv.1=kI (e.2.led w)
def zfa {κ:Type} [DecidableEq κ]:∀ {kvs:List (κ × V)} {k:κ},k ∈ kvs.map (·.1) -> ∃ v,valV kvs k=some v
 | [],k,h=>by simp at h
 | p :: r,k,h=>by
  by_cases c:p.1=k
  ·exact ⟨p.2,zaU c⟩
  ·rw [yaP] at h;obtain ⟨v,hv⟩:=zfa (kvs:=r) (k:=k) (by rcases yav.mp h with z | z; exact absurd z.symm c; exact z);exact ⟨v,by rw [zaK c]; exact hv⟩
def zgN {κ:Type} [DecidableEq κ]:∀ {kvs:List (κ × V)} {k:κ} {v:V},valV kvs k=some v -> (k,v) ∈ kvs
 | [],k,v,h=>by cases h
 | p :: r,k,v,h=>by
  by_cases c:p.1=k
  ·rw [zaU c] at h; cases h; rw [<- c]; exact yaC ..
  ·rw [zaK c] at h; exact yau _ (zgN h)
def zhm {κ:Type} [DecidableEq κ] {kvs:List (κ × V)} {k j:κ} {v:V}:j ∈ (putK kvs k v).map (·.1) ↔ j=k \/ j ∈ kvs.map (·.1):=by
 constructor
 ·intro h;obtain ⟨x, hx⟩ := zfa h;rw [zgK] at hx;by_cases c : j = k
  ·exact .inl c
  ·rw [if_neg c] at hx;exact .inr (yaf.mpr ⟨_,zgN hx,rfl⟩)
 ·intro h
  have:∃ x,valV (putK kvs k v) j=some x:=by
   rw [zgK];by_cases c:j=k
   ·exact ⟨v,by rw [if_pos c]⟩
   ·rw [if_neg c];exact zfa (h.resolve_left c)
  obtain ⟨x,hx⟩:=this;exact yaf.mpr ⟨_,zgN hx,rfl⟩
def Mb.nil (w:Nat):Mb w [] []:=⟨λ k v h=>(nomatch (show (none:Option V)=some v from h)),λ e h=>absurd h ya2,λ e h=>absurd h ya2⟩
def Mb.put {w:Nat} {L:List (Addr × Dd)} {kvs:List (List Key × V)} {e:Addr × Dd} (h:Mb w L kvs):Mb w (L ++ [e]) (putK kvs (kI (e.2.led w)) (.ref e.1)):=by
 have hk:∀ f ∈ L ++ [e],kI (f.2.led w) ∈ (putK kvs (kI (e.2.led w)) (.ref e.1)).map (·.1):=λ f hf=>zhm.mpr (by
  rcases yas.mp hf with z | z
  ·exact .inr (h.2.1 f z)
  ·rw [yah.mp z]; exact .inl rfl)
 refine ⟨λ k v hv=>?_,hk,λ kv hkv=>?_⟩
 ·rw [zgK] at hv;by_cases c : k = kI (e.2.led w)
  ·rw [if_pos c] at hv; cases hv;exact ⟨e,yay _ (yah.mpr rfl),c,rfl⟩
  ·rw [if_neg c] at hv;obtain ⟨f,h1,h2⟩:=h.1 k v hv;exact ⟨f,yaA _ h1,h2⟩
 ·rcases zhm.mp (yaf.mpr ⟨kv, hkv, rfl⟩) with z | z
  ·exact ⟨e,yay _ (yah.mpr rfl),z⟩
  ·obtain ⟨q,hq,e2⟩:=yaf.mp z;obtain ⟨f,h1,h2⟩:=h.2.2 q hq;exact ⟨f,yaA _ h1,by rw [<- e2]; exact h2⟩
noncomputable def Ent (H:Hp) (w:Nat) (L:List (Addr × Dd)) (G:List (List Int × Nat)) (q:List Int × Nat) (b:Addr):Prop:=
 ∃ r,H b=some (.tup (nV q.2 :: r)) /\ (q.2=0 \/ ∃ (a:Addr) (ys:List Int) (e:Addr × Dd) (m:Nat),r=[.ref a,.ref e.1] /\ q.2=m + 1 /\ H a=some (.tup (ys.map V.int)) /\ e ∈ L /\ q.1=zaA ys (e.2.led w) /\ (ys,m) ∈ G)
noncomputable def FndG (H:Hp) (w:Nat) (L:List (Addr × Dd)) (G F:List (List Int × Nat)) (kvs:List (List Key × V)):Prop:=Paired (λ (q:List Int × Nat) (kv:List Key × V)=>kv.1=kI q.1 /\ ∃ b,kv.2=.ref b /\ Ent H w L G q b) F kvs
noncomputable abbrev Fnd (H:Hp) (w:Nat) (L:List (Addr × Dd)) (F:List (List Int × Nat)) (kvs:List (List Key × V)):Prop:=FndG H w L F F kvs
def Ent.mono {H H':Hp} {w:Nat} {L:List (Addr × Dd)} {G G':List (List Int × Nat)} {q:List Int × Nat} {b:Addr} (h:Ent H w L G q b) (hT:∀ b xs,H b=some (.tup xs) -> H' b=some (.tup xs)) (hG:∀ x ∈ G,x ∈ G'):Ent H' w L G' q b:=by
 obtain ⟨r,h1,h2⟩:=h;refine ⟨r,hT _ _ h1,h2.imp id ?_⟩;rintro ⟨a,ys,e,m,z1,z2,z3,z4,z5,z6⟩;exact ⟨a,ys,e,m,z1,z2,hT _ _ z3,z4,z5,hG _ z6⟩
def FndG.mono {H H':Hp} {w:Nat} {L:List (Addr × Dd)} {G G':List (List Int × Nat)} (hT:∀ b xs,H b=some (.tup xs) -> H' b=some (.tup xs)) (hG:∀ x ∈ G,x ∈ G'):∀ {F:List (List Int × Nat)} {kvs:List (List Key × V)},FndG H w L G F kvs -> FndG H' w L G' F kvs
 | _,_,.nil=>.nil
 | _,_,.cons h t=>.cons ⟨h.1,let ⟨b,e,z⟩:=h.2; ⟨b,e,z.mono hT hG⟩⟩ (FndG.mono hT hG t)
def FndG.snoc {H:Hp} {w:Nat} {L:List (Addr × Dd)} {G:List (List Int × Nat)} {q:List Int × Nat} {b:Addr} (hb:Ent H w L G q b):∀ {F:List (List Int × Nat)} {kvs:List (List Key × V)},FndG H w L G F kvs -> FndG H w L G (F ++ [q]) (kvs ++ [(kI q.1,.ref b)])
 | _,_,.nil=>.cons ⟨rfl,b,rfl,hb⟩ .nil
 | _,_,.cons h t=>.cons h (FndG.snoc hb t)
def FndG.val {H:Hp} {w:Nat} {L:List (Addr × Dd)} {G:List (List Int × Nat)} {ls:List Int}:∀ {F:List (List Int × Nat)} {kvs:List (List Key × V)},FndG H w L G F kvs -> (ls ∉ F.map (·.1) /\ valV kvs (kI ls)=none) \/ ∃ n b,(ls,n) ∈ F /\ valV kvs (kI ls)=some (.ref b) /\ Ent H w L G (ls,n) b
 | _,_,.nil=>.inl ⟨by simp,rfl⟩
 | _,_,.cons (a:=q) (b:=kv) h t=>by
  obtain ⟨h1,b,h2,h3⟩:=h;by_cases c:q.1=ls
  ·subst c;exact .inr ⟨q.2,b,yaC ..,by rw [zaU h1,h2],h3⟩
  ·have c2 : ¬ kv.1 = kI ls := fun z => c (zmb (h1.symm.trans z));rcases FndG.val (ls := ls) t with ⟨z1, z2⟩ | ⟨n, b', z1, z2, z3⟩
   ·refine .inl ⟨fun m => ?_, by rw [zaK c2]; exact z2⟩;rw [yaP] at m;rcases yav.mp m with m | m
    ·exact c m.symm
    ·exact z1 m
   ·exact .inr ⟨n,b',yau _ z1,by rw [zaK c2]; exact z2,z3⟩
def FndG.length {H:Hp} {w:Nat} {L:List (Addr × Dd)} {G F:List (List Int × Nat)} {kvs:List (List Key × V)} (h:FndG H w L G F kvs):F.length=kvs.length:=ybi h
noncomputable def Lda (H:Hp) (E:List (List Int)) (es:List Addr):Prop:=Paired (λ (x:List Int) (a:Addr)=>H a=some (.tup (x.map V.int))) E es
def Lda.mono {H H':Hp} (hT:∀ b xs,H b=some (.tup xs) -> H' b=some (.tup xs)):∀ {E:List (List Int)} {es:List Addr},Lda H E es -> Lda H' E es
 | _,_,.nil=>.nil
 | _,_,.cons h t=>.cons (hT _ _ h) (Lda.mono hT t)
def Lda.snoc {H:Hp} {x:List Int} {a:Addr} (h:H a=some (.tup (x.map V.int))):∀ {E:List (List Int)} {es:List Addr},Lda H E es -> Lda H (E ++ [x]) (es ++ [a])
 | _,_,.nil=>.cons h .nil
 | _,_,.cons z t=>.cons z (Lda.snoc h t)
def Lda.get {H:Hp}:∀ {E:List (List Int)} {es:List Addr} {i:Nat} {a:Addr},Lda H E es -> es[i]?=some a -> ∃ x,E[i]?=some x /\ H a=some (.tup (x.map V.int))
 | _,_,_,_,.nil,e=>by simp at e
 | _,_,0,_,.cons h _,e=>by simp at e; subst e; exact ⟨_,rfl,h⟩
 | _,_,i + 1,_,.cons _ t,e=>by
  have:=Lda.get (i:=i) t (64:);simpa using this
def Lda.length {H:Hp} {E:List (List Int)} {es:List Addr} (h:Lda H E es):E.length=es.length:=ybi h
def Amid.weak {S:List (List Int)} {w n:Nat} {F F':List (List Int × Nat)} {D D':List Int -> List Int -> Prop} {G:List (List Int)} (h:Amid S w n F D F' G) (k:∀ y s,D' y s -> D y s):Amid S w n F D' F' G:=⟨h.is,h.new,λ y s z=>h.had y s (k y s z),h.once⟩
noncomputable def zh8:Sp:=λ vs H Q _=>∃ (f l b:Addr) (kvs:List (List Key × V)) (ls:List Int) (n:Nat) (r:List V),vs=[.ref f,.ref l] /\ Rd H f (.dT kvs) /\ H l=some (.tup (ls.map V.int)) /\ valV kvs (kI ls)=some (.ref b) /\ H b=some (.tup (nV n :: r)) /\ Q (nV n) H
noncomputable def zhk (K:PySem.W.Frag) (H:Hp) (m:Addr) (L:List (Addr × Dd)):Prop:=SqL K H m (rowV L) \/ SqT K H m (rowV L)
noncomputable def zjW (K:PySem.W.Frag):Sp:=λ vs H Q _=>∃ (w:Nat) (m:Addr) (L:List (Addr × Dd)),vs=[nV w,.ref m] /\ zhk K H m L /\ Rw H w L /\ w <= 64 /\ L.length <= 1000 /\ ∀ (d:Addr) (o:Obj) (kvs:List (List Key × V)) (H':Hp),Same H H' -> Frz H' d o kvs -> Mb w L kvs -> Q (.ref d) H'
noncomputable def znE:Sp:=λ vs H Q _=>∃ (f g m:Addr) (o:Obj) (w n:Nat) (L:List (Addr × Dd)) (kvs mk:List (List Key × V)) (F:List (List Int × Nat)) (E:List (List Int)) (es:List Addr),vs=[.ref f,.ref g,.ref m] /\ H f=some (.dT kvs) /\ H g=some (.lst (es.map V.ref)) /\ Frz H m o mk /\ Mb w L mk /\ Rw H w L /\ w <= 4 /\ Ring (steps w L) w n F E /\ Fnd H w L F kvs /\ Lda H E es /\
 ∀ (g':Addr) (es':List Addr) (H':Hp) (kvs':List (List Key × V)) (F':List (List Int × Nat)) (E':List (List Int)),zaw f H H' -> H' f=some (.dT kvs') -> Ring (steps w L) w (n + 1) F' E' -> Fnd H' w L F' kvs' -> Lda H' E' es' -> H' g'=some (.lst (es'.map V.ref)) -> F'.length=F.length + E'.length -> Q (.ref g') H'
noncomputable def KnD (F:List (List Int × Nat)):List (List Key × V):=F.map λ q=>(kI q.1,nV q.2)
structure Knw (w:Nat) (L:List (Addr × Dd)) (F:List (List Int × Nat)):Prop where
 all:∀ x m,(x,m) ∈ F ↔ Dst (steps w L) w m x
 once:(F.map (·.1)).Nodup
 few:F.length <= 1296
def SqL.afterD {K:PySem.W.Frag} {H H':Hp} {d m:Addr} {kvs:List (List Key × V)} {xs:List V} (h:SqL K (upd H d (.dT kvs)) m xs) (s:Same H H'):SqL K H' m xs:=by
 rcases h with h | h
 ·rcases h with h | ⟨o, h⟩
  ·by_cases c : m = d
   ·subst c; rw [zah] at h; cases h
   ·rw [zan c] at h; exact .inl (.inl (s _ _ h))
  ·by_cases c : m = d
   ·subst c; rw [zah] at h; cases h
   ·rw [zan c] at h; exact .inl (.inr ⟨o,s _ _ h⟩)
 ·exact .inr h
def SqT.afterD {K:PySem.W.Frag} {H H':Hp} {d m:Addr} {kvs:List (List Key × V)} {xs:List V} (h:SqT K (upd H d (.dT kvs)) m xs) (s:Same H H'):SqT K H' m xs:=by
 rcases h with h | h
 ·rcases h with h | ⟨o, h⟩
  ·by_cases c : m = d
   ·subst c; rw [zah] at h; cases h
   ·rw [zan c] at h; exact .inl (.inl (s _ _ h))
  ·by_cases c : m = d
   ·subst c; rw [zah] at h; cases h
   ·rw [zan c] at h; exact .inl (.inr ⟨o,s _ _ h⟩)
 ·exact .inr h
def zg1:∀ {F:List (List Int × Nat)} {x:List Int} {a b:Nat},(F.map (·.1)).Nodup -> (x,a) ∈ F -> (x,b) ∈ F -> a=b
 | [],_,_,_,_,h,_=>by simp at h
 | q :: F,x,a,b,hn,h1,h2=>by
  rw [yaP,ych] at hn;rcases yav.mp h1 with e1 | m1
  ·rcases yav.mp h2 with e2 | m2
   ·rw [<- e1] at e2; exact (Prod.mk.inj e2).2.symm
   ·exact absurd (yaf.mpr ⟨_,m2,by rw [<- e1]⟩) hn.1
  ·rcases yav.mp h2 with e2 | m2
   ·exact absurd (yaf.mpr ⟨_,m1,by rw [<- e2]⟩) hn.1
   ·exact zg1 hn.2 m1 m2
noncomputable def Dij (E:List (List Int)) (S:List (List Int)) (ks:List (List Key)) (i j:Nat):List Int -> List Int -> Prop:=λ y s=>(∃ k,k < i /\ E[k]?=some y /\ s ∈ S) \/ (E[i]?=some y /\ ∃ k,k < j /\ ks[k]?=some (kI s))
def Dij.next {E S:List (List Int)} {ks:List (List Key)} {i j:Nat} {y s x t:List Int} (hx:E[i]?=some x) (ht:ks[j]?=some (kI t)) (h:Dij E S ks i (j + 1) y s):Dij E S ks i j y s \/ (y=x /\ s=t):=by
 rcases h with h | ⟨h1,k,h2,h3⟩
 ·exact .inl (.inl h)
 ·by_cases c : k = j
  ·subst c;rw [hx] at h1; rw [ht] at h3;exact .inr ⟨(Option.some.inj h1).symm,(zmb (Option.some.inj h3)).symm⟩
  ·exact .inl (.inr ⟨h1,k,by omega,h3⟩)
def Dij.turn {E S:List (List Int)} {ks:List (List Key)} {i:Nat} {y s:List Int} (hS:∀ s ∈ S,kI s ∈ ks) (h:Dij E S ks (i + 1) 0 y s):Dij E S ks i ks.length y s:=by
 rcases h with ⟨k,h1,h2,h3⟩ | ⟨_,k,h2,_⟩
 ·by_cases c : k = i
  ·subst c;obtain ⟨q,hq,e⟩:=ybb.mp (hS s h3);exact .inr ⟨h2,q,hq,by rw [yab hq,e]⟩
  ·exact .inl ⟨k,by omega,h2,h3⟩
 ·omega
def Dij.all {E S:List (List Int)} {ks:List (List Key)} {y s:List Int} (hy:y ∈ E) (hs:s ∈ S):Dij E S ks E.length 0 y s:=by
 obtain ⟨q,hq,e⟩:=ybb.mp hy;exact .inl ⟨q,hq,by rw [yab hq,e],hs⟩
def Mb.steps {w:Nat} {L:List (Addr × Dd)} {mk:List (List Key × V)} (h:Mb w L mk):∀ s ∈ steps w L,kI s ∈ mk.map (·.1):=λ s hs=>by
 obtain ⟨e,he,rfl⟩:=zbI.mp hs;exact h.2.1 e he
def Mb.key {w:Nat} {L:List (Addr × Dd)} {mk:List (List Key × V)} (h:Mb w L mk) {j:Nat} {kk:List Key} (hk:(mk.map (·.1))[j]?=some kk):∃ e ∈ L,kk=kI (e.2.led w) /\ valV mk (kI (e.2.led w))=some (.ref e.1):=by
 have hm:kk ∈ mk.map (·.1):=yar hk;obtain ⟨v,hv⟩:=zfa hm;obtain ⟨e,h1,h2,h3⟩:=h.1 kk v hv;exact ⟨e,h1,h2,by rw [<- h2,hv,h3]⟩
def zaw.tup {f:Addr} {H H':Hp} {kvs:List (List Key × V)} (h:zaw f H H') (hf:H f=some (.dT kvs)):∀ b xs,H b=some (.tup xs) -> H' b=some (.tup xs):=λ b xs e=>h b _ (zbY e hf nofun) e
def zdN {w:Nat} (h:w <= 4):(w + 2) ^ w <= 1296:=by
 match w,h with
 | 0,_=>decide
 | 1,_=>decide
 | 2,_=>decide
 | 3,_=>decide
 | 4,_=>decide
def Dst.down {S:List (List Int)} {w:Nat}:∀ {n:Nat} {x:List Int},Dst S w n x -> ∀ k,k <= n -> ∃ y,Dst S w k y
 | 0,x,h,k,hk=>by
  have:k=0:=by omega
  subst this; exact ⟨x,h⟩
 | n + 1,x,h,k,hk=>by
  by_cases c:k=n + 1
  ·subst c; exact ⟨x,h⟩
  ·obtain ⟨y,s,hy,_⟩:=h.last;exact hy.down k (1:)
def Dst.few {S:List (List Int)} {w n:Nat} {x:List Int} (h:Dst S w n x) (hS:∀ s ∈ S,Ld w s):n + 1 <= (w + 2) ^ w:=by
 have ch:∀ k,∃ y,k <= n -> Dst S w k y:=λ k=>by
  by_cases c:k <= n
  ·obtain ⟨y,hy⟩:=h.down k c; exact ⟨y,λ _=>hy⟩
  ·exact ⟨[],λ z=>absurd z c⟩
 have hd:∀ k,k <= n -> Dst S w k (Classical.choose (ch k)):=λ k hk=>Classical.choose_spec (ch k) hk
 have:=zei (w:=w) (l:=(List.range (n + 1)).map λ k=>Classical.choose (ch k)) (by
  refine ya3.mpr ((List.nodup_range (n:=n + 1)).imp_of_mem λ {a b} ha hb ne z=>ne ?_);have h1:=hd a (by have:=yat.mp ha; omega);have h2:=hd b (by have:=yat.mp hb; omega);rw [z] at h1;exact h1.one h2) (λ y hy=>by
  obtain ⟨k,hk,rfl⟩:=yaf.mp hy;exact (hd k (by have:=yat.mp hk; omega)).1.ld hS)
 simpa using this
noncomputable def Ldl (H:Hp) (E:List (List Int)) (es:List Addr):Prop:=Paired (λ (x:List Int) (a:Addr)=>H a=some (.lst (x.map V.int))) E es
def KnD.val {ls:List Int}:∀ {F:List (List Int × Nat)},(ls ∉ F.map (·.1) /\ valV (KnD F) (kI ls)=none) \/ ∃ n,(ls,n) ∈ F /\ valV (KnD F) (kI ls)=some (nV n)
 | []=>.inl ⟨by simp,rfl⟩
 | q :: F=>by
  by_cases c:q.1=ls
  ·subst c;exact .inr ⟨q.2,yaC ..,zaU rfl⟩
  ·have c2 : ¬ ((kI q.1, nV q.2) : List Key × V).1 = kI ls := fun z => c (zmb z);rcases KnD.val (ls := ls) (F := F) with ⟨z1, z2⟩ | ⟨n, z1, z2⟩
   ·refine .inl ⟨fun m => ?_, (zaK c2).trans z2⟩;rw [yaP] at m;rcases yav.mp m with m | m
    ·exact c m.symm
    ·exact z1 m
   ·exact .inr ⟨n,yau _ z1,(zaK c2).trans z2⟩
def KnD.length (F:List (List Int × Nat)):(KnD F).length=F.length:=by simp [KnD]
section
variable {X:Cx} {K:PySem.W.Frag}
end
end L2
namespace Srk
open PySem PyProof.Rows Srt
section
variable {prog:Program} {w:World} {A:Around} {E:Value -> Shared -> Prop} {s:Shared}
def TupAt.typeIs {wd:Nat} {b:Addr} {ls:List Int} (x:TupAt s.heap wd b ls):s.TypeIs (.ref b) "tuple":=let ⟨o,_,_,h1,h2,_⟩:=x; ⟨o,h1,h2⟩
def zg0 {wd:Nat} {a b:Addr} {ls ms:List Int} {P:Fin -> Shared -> Prop} (hx:TupAt s.heap wd a ls) (hy:TupAt s.heap wd b ms) (h:P (.done (.ret (.bool (decide (codeZ ls < codeZ ms))))) s) :
  wpAny (model prog w) A (Builtin.«tuple.__lt__» ⟨[.ref a,.ref b],[]⟩) P E s:=by
 have hTb:=hy.typeIs;obtain ⟨oa,xs,na,hoa,_,hda,hia,hla,hba⟩:=hx;obtain ⟨ob,ys,nb,hob,_,hdb,hib,hlb,hbb⟩:=hy
 have sz:xs.size=ys.size:=by
  have a1:=ycz hia;have a2:=ycz hib;simp only [yaM] at a1 a2;omega
 show wpAny _ _ (isInstance (.ref b) (.type "tuple") >>= _) _ _ s;refine wpAny_bind (wpAny_isInstance hTb isSubtype_tuple_tuple ?_);simp only [yco,yaF,if_false];refine wpAny_bind (wpAny_tupleItemsOf hoa hda ?_);refine wpAny_bind (wpAny_tupleItemsOf hob hdb ?_);refine wpAny_bind ?_
 refine wpAny_forIn_list _
  (λ rest r s'=>r.1=none /\ s'=s /\ ∃ ls' ms' xs' ys',rest=List.zip xs' ys' /\ IntsAre xs' ls' /\ IntsAre ys' ms' /\ ls'.length=ms'.length /\ InB ls' /\ InB ms' /\ decide (codeZ ls' < codeZ ms')=decide (codeZ ls < codeZ ms))
  _ ?_ ?_ _ _ ⟨rfl,rfl,ls,ms,xs.toList,ys.toList,rfl,hia,hib,by omega,hba,hbb,rfl⟩
 ·rintro ⟨u, v⟩ rest r s' ⟨hr, rfl, ls', ms', xs', ys', hz, hx', hy', hl', hB1, hB2, hdec⟩;cases hx' with
  | nil=>simp at hz
  | @cons p t us2 ls2 hx''=>
   cases hy' with
   | nil=>simp at hz
   | @cons q t2 vs2 ms2 hy''=>
    simp only [List.zip_cons_cons,List.cons.injEq,Prod.mk.injEq] at hz;obtain ⟨⟨rfl,rfl⟩,rfl⟩:=hz;have hl2:ls2.length=ms2.length:=by simpa using hl'
    have i1:InB ls2:=λ e he=>hB1 e (yau _ he);have i2:InB ms2:=λ e he=>hB2 e (yau _ he);have st:=zf5 (x:=p) (y:=q) hl2 i1 i2;refine wpAny_bind (wpAny_eqBool_int ?_);by_cases hk:p=q
    ·subst hk;rw [show (p == p)=true by simp];simp only [yco,yaF,if_false];refine wpAny_pure ⟨rfl,rfl,ls2,ms2,_,_,rfl,hx'',hy'',hl2,i1,i2,?_⟩;rw [<- hdec,decide_eq_decide,st];exact ⟨λ z=>.inr ⟨rfl,z⟩,λ z=>by rcases z with z | z; exact absurd z (Int.lt_irrefl _); exact z.2⟩
    ·rw [show (p == q) = false by simpa using hk];simp only [Bool.not_false, if_true]
     have hf:decide (codeZ ls < codeZ ms)=decide (p < q):=by
      rw [<- hdec,decide_eq_decide,st];exact ⟨λ z=>by rcases z with z | z; exact z; exact absurd z.1 hk,λ z=>.inl z⟩
     rw [hf] at h;refine wpAny_bind (wpAny_rule (wpAny_bind (richCompare_gives (op:=.Lt) (typeIs_int s' _ _) (typeIs_int s' _ _) F.slot_int_lt F.entry_int_lt (F.args_int_lt_2 _ _) (gives_int_lt _ _ _ _) (λ x=>nomatch x) ?_)));exact wpAny_pure (wpAny_pure h)
 ·rintro ⟨r1, r2⟩ s' ⟨hr, rfl, ls', ms', xs', ys', hz, hx', hy', hl', hB1, hB2, hdec⟩;simp only at hr;subst hr;refine wpAny_pure ?_
  have hfin:decide (xs.size < ys.size)=decide (codeZ ls < codeZ ms):=by
   rw [<- hdec];cases hx' with
   | nil=>
    cases hy' with
    | nil=>simp [sz]
    | cons _ _ _=>simp at hl'
   | cons _ _ _=>
    cases hy' with
    | nil=>simp at hl'
    | cons _ _ _=>simp at hz
  show P (.done (.ret (.bool (decide (xs.size < ys.size))))) s';rw [hfin]; exact h
def zkw {us:List Value} {ls:List Int} (h:IntsAre us ls):ItemsAre (intKind prog w) ls us:=by
 induction h with
 | nil=>exact .nil
 | cons k t _ ih=>exact .cons (by simp [intKind,Value.isInt]) ih
def zn9 {wd:Nat} {a b:Addr} {ls ms:List Int} {Q:Bool -> Shared -> Prop} (hu:A.units < cLine) (hx:TupAt s.heap wd a ls) (hy:TupAt s.heap wd b ms) (h:Q (decide (codeZ ls < codeZ ms)) s):wpAny (model prog w) A (oneLt' false (.ref a) (.ref b)) Q E s:=by
 rw [oneLt'_eq];simp only [yaF,if_false];exact wpAny_bind (wpAny_richCompare_same_room (op:=.Lt) hx.typeIs hy.typeIs F.slot_tuple_lt (wpAny_call_entry F.slot_tuple_lt hx.typeIs F.entry_tuple_lt (zg0 hx hy ⟨_,rfl,(λ e=>nomatch e),wpAny_truthy_bool h⟩) (F.args_tuple_lt_2 _ _)) hu)
def zo3 {wd:Nat} {a b:Addr} {ls ms:List Int} {Q:Bool -> Shared -> Prop} (hu:A.units < cLine) (hx:TupAt s.heap wd a ls) (hy:TupAt s.heap wd b ms) (h:Q (decide (ls=ms)) s):wpAny (model prog w) A (eqBool (.ref a) (.ref b)) Q E s:=by
 have key:∀ {a:Addr} {ls:List Int},TupAt s.heap wd a ls -> IsTupleKey (intKind prog w) s.heap ls a:=λ {a ls} ⟨o,xs,n,h1,h2,h3,h4,_⟩=>⟨o,xs,n,h1,h2,h3,zkw h4⟩
 exact wpAny_eqBool_tuple hu (key hx) (key hy) h
end
noncomputable def PairAt (h:Heap) (wd:Nat) (p:Addr) (n:Int) (b:Addr) (ls:List Int):Prop:=(∃ o t m,h.get? p=some o /\ o.cls=.type "tuple" /\ o.data=.seq #[.int n t,.ref b] m) /\ TupAt h wd b ls
noncomputable def zaL (wd:Nat) (h:Heap) (v:Value):Int:=match v with
 | .ref p=>match h.get? p with
  | some o=>match o.data with
   | .seq xs _=>match xs.toList with
    | [.int n _,u]=>n * 66 ^ wd + codeAt h u
    | _=>0
   | _=>0
  | none=>0
 | _=>0
noncomputable def pcode (wd:Nat) (n:Int) (ls:List Int):Int:=n * 66 ^ wd + codeZ ls
def pcode_at {h:Heap} {wd:Nat} {p b:Addr} {n:Int} {ls:List Int} (x:PairAt h wd p n b ls):zaL wd h (.ref p)=pcode wd n ls:=by
 obtain ⟨⟨o,t,m,h1,h2,h3⟩,y⟩:=x;unfold zaL pcode;simp only [h1,h3,code_at y]
def PairAt.keep {h h':Heap} {wd:Nat} {p b:Addr} {n:Int} {ls:List Int} (x:PairAt h wd p n b ls) (k:∀ c o,h.get? c=some o -> o.cls=.type "tuple" -> h'.get? c=some o):PairAt h' wd p n b ls:=by
 obtain ⟨⟨o,t,m,h1,h2,h3⟩,⟨o',xs,n',g1,g2,r⟩⟩:=x;exact ⟨⟨o,t,m,k _ _ h1 h2,h2,h3⟩,o',xs,n',k _ _ g1 g2,g2,r⟩
def zmZ {wd:Nat} {n m:Int} {ls ms:List Int} (h1:ls.length=wd) (h2:ms.length=wd) (i1:InB ls) (i2:InB ms):pcode wd n ls < pcode wd m ms ↔ n < m \/ (n=m /\ codeZ ls < codeZ ms):=by
 have a:=zdX i1;have b:=zdX i2;unfold pcode;rw [h1] at a; rw [h2] at b;have hp:(0:Int) < 66 ^ wd:=Int.pow_pos (3:);generalize (66:Int) ^ wd=p at *;rcases Int.lt_trichotomy n m with c | c | c
 ·have:n * p + p <= m * p:=by
   have:=ybg (show n + 1 <= m by omega) (ybm hp)
   rwa [Int.add_mul n 1 p,Int.one_mul] at this
  exact ⟨λ _=>.inl c,λ _=>by omega⟩
 ·subst c;exact ⟨λ h=>.inr ⟨rfl,by omega⟩,λ h=>by rcases h with h | h <;> omega⟩
 ·have:m * p + p <= n * p:=by
   have:=ybg (show m + 1 <= n by omega) (ybm hp)
   rwa [Int.add_mul m 1 p,Int.one_mul] at this
  exact ⟨λ h=>by omega,λ h=>by omega⟩
noncomputable abbrev keyP (h:Heap) (wd:Nat):KeyC:=⟨λ x=>zaL wd h x.1,λ x=>∃ p n b ls,x.1=.ref p /\ PairAt h wd p n b ls,tuples' true⟩
section
variable {prog:Program} {w:World} {A:Around} {E:Value -> Shared -> Prop} {s:Shared}
def ltP (hu:A.units < cLine) (wd:Nat):@LtC (keyP s.heap wd) prog w A E s:=by
 letI:=keyP s.heap wd
 refine ⟨λ {st x y Q} hk hx hy h=>?_⟩;obtain ⟨p,n,b,ls,e1,t1⟩:=hx;obtain ⟨q,m,c,ms,e2,t2⟩:=hy;have k1:KeyC.κ x=pcode wd n ls:=by show zaL wd s.heap x.1=_; rw [e1]; exact pcode_at t1
 have k2:KeyC.κ y=pcode wd m ms:=by show zaL wd s.heap y.1=_; rw [e2]; exact pcode_at t2
 rw [k1,k2] at h;obtain ⟨⟨o,t,mm,g1,g2,g3⟩,y1⟩:=t1;obtain ⟨⟨o',t',mm',q1,q2,q3⟩,y2⟩:=t2;have lw1:ls.length=wd:=let ⟨_,_,_,_,_,_,_,z,_⟩:=y1; z;have lw2:ms.length=wd:=let ⟨_,_,_,_,_,_,_,z,_⟩:=y2; z;have ib1:InB ls:=let ⟨_,_,_,_,_,_,_,_,z⟩:=y1; z;have ib2:InB ms:=let ⟨_,_,_,_,_,_,_,_,z⟩:=y2; z;have st':=zmZ (n:=n) (m:=m) lw1 lw2 ib1 ib2;rw [lt'_eq];refine wpS_bind (wpS_get ?_);rw [hk,e1,e2];refine wpS_bind (wpS_lift (wpAny_attempt (PySem.W.kat_lt g1 g3 q1 q3 ?_)));have hz:decide ((#[Value.int n t,Value.ref b]:Array Value).size < (#[Value.int m t',Value.ref c]:Array Value).size)=false:=by simp
 rw [hz];show PySem.W.KatLex prog w A true false _ [(Value.int n t,Value.int m t'),(Value.ref b,Value.ref c)] 0 s;refine PySem.W.kat_cons (wpAny_eqBool_int ?_);by_cases hnm:n=m
 ·subst hnm;rw [show (n == n) = true by simp];refine PySem.W.kat_yes (PySem.W.kat_cons (zo3 hu y1 y2 ?_));by_cases hlm : ls = ms
  ·subst hlm;rw [decide_eq_true rfl];refine PySem.W.kat_yes (PySem.W.kat_nil ⟨rfl, wpS_pure ?_⟩);have e : decide (pcode wd n ls < pcode wd n ls) = false := by simp
   rwa [e] at h
  ·rw [decide_eq_false hlm];refine PySem.W.kat_no ?_
   have e:decide (pcode wd n ls < pcode wd n ms)=decide (codeZ ls < codeZ ms):=by
    rw [decide_eq_decide,st'];exact ⟨λ z=>by rcases z with z | z; exact absurd z (Int.lt_irrefl _); exact z.2,λ z=>.inr ⟨rfl,z⟩⟩
   rw [e] at h;exact zn9 hu y1 y2 ⟨rfl,wpS_pure h⟩
 ·rw [show (n == m) = false by simpa using hnm];refine PySem.W.kat_no ?_
  have e:decide (pcode wd n ls < pcode wd m ms)=decide (n < m):=by
   rw [decide_eq_decide,st'];exact ⟨λ z=>by rcases z with z | z; exact z; exact absurd z.1 hnm,λ z=>.inl z⟩
  rw [e] at h;exact oneLt_int ⟨rfl,wpS_pure h⟩
end
end Srk
namespace Srk
open PySem PyProof.Rows Srt
def zjD {h:Heap} {wd:Nat}:∀ {as:List Addr},(∀ b ∈ as,∃ n c ls,PairAt h wd b n c ls) -> ∃ fs:List Value,fs.length=as.length /\ PySem.W.KatTups h (as.map Value.ref) fs /\ ∀ v ∈ fs,∃ n t,v=.int n t
 | [],_=>⟨[],rfl,PySem.W.KatTups.nil,λ _ h=>nomatch h⟩
 | b :: as,hA=>by
  obtain ⟨fs,h1,h2,h3⟩:=zjD λ c hc=>hA c (yau _ hc);obtain ⟨n,c,ls,⟨o,t,m,g1,g2,g3⟩,_⟩:=hA b (yaC ..);refine ⟨.int n t :: fs,by simp [h1],PySem.W.KatTups.cons g1 g2 g3 (5:) h2,λ v hv=>?_⟩;rcases yav.mp hv with rfl | hv
  ·exact ⟨n,t,rfl⟩
  ·exact h3 v hv
def zl6 {h:Heap} {as:List Addr} {xs:Array Keyed} (hp:xs.Perm (pairsOf (as.map Value.ref))) (hs:@zbP (keyP h wd) xs (pairsOf (as.map Value.ref)).size) :
  ∃ as':List Addr,as'.Perm as /\ (xs.map (·.2))=(as'.map Value.ref).toArray /\ as'.Pairwise λ b c=>zaL wd h (.ref b) <= zaL wd h (.ref c):=by
 letI:=keyP h wd
 have hl:xs.toList.Perm ((as.map Value.ref).zip (as.map Value.ref)):=by rw [<- pairsOf_toList]; exact ybr.mp hp
 let un:Keyed -> Addr:=λ p=>match p.1 with | .ref b=>b | _=>0
 have hmem:∀ p,p ∈ xs.toList -> p.1=.ref (un p) /\ p.2=.ref (un p):=λ p hp'=>by
  obtain ⟨e1,e2⟩:=mem_zip_self (hl.mem_iff.mp hp');obtain ⟨b,_,eb⟩:=yaf.mp e2;have:un p=b:=by show (match p.1 with | .ref b=>b | _=>0)=b; rw [<- eb]
  rw [this,<- e1,eb]; exact ⟨rfl,rfl⟩
 refine ⟨xs.toList.map un,?_,?_,?_⟩
 ·have h1 := hl.map un
  have e2:((as.map Value.ref).zip (as.map Value.ref)).map un=as:=by
   rw [List.zip_map',ya6]
   conv=>rhs; rw [<- List.map_id as]
   exact yaZ λ b _=>rfl
  rwa [e2] at h1
 ·apply Array.toList_inj.mp;rw [Array.toList_map,ya6];exact yaZ λ p hp'=>(hmem p hp').2
 ·rw [ya3,yba];intro i j hi hj hij;have h1:=hs i j (yaE hij) (by rw [<- hp.size_eq]; simpa using hj);rw [zkA (62:),zkA (by simpa using hj)] at h1;have e1:=(hmem xs.toList[i] (yaW hi)).1;have e2:=(hmem xs.toList[j] (yaW hj)).1;rw [<- e1,<- e2];have h2:zaL wd h xs[i].1 <= zaL wd h xs[j].1:=h1;simpa using h2
section
variable {prog:Program} {w:World} {A:Around} {E:Value -> Shared -> Prop} {s:Shared} {wd:Nat} {as:List Addr}
def zj8 {a:Addr} {n:Nat} {P:Fin -> Shared -> Prop} (hu:A.units < cLine) (ho:s.heap.get? a=some (seqObj "list" (as.map Value.ref).toArray n)) (hz:as.length <= sizeLine) (hA:∀ b ∈ as,∃ n c ls,PairAt s.heap wd b n c ls)
  (h:∀ as':List Addr,as'.Perm as -> (as'.Pairwise λ b c=>zaL wd s.heap (.ref b) <= zaL wd s.heap (.ref c)) -> P (.done (.ret .none)) { s with heap:=sortedHeap s.heap a (as.map Value.ref) (as'.map Value.ref).toArray }) :
  wpAny (model prog w) A (Builtin.«list.sort» ⟨[.ref a],[]⟩) P E s:=by
 have ha:a < s.heap.objs.size:=yai ho
 have kp:∀ c o,s.heap.get? c=some o -> o.cls=.type "tuple" -> (za1 s.heap a (as.map Value.ref)).get? c=some o:=λ b o' e g2=>by
  have hb:=yai e
  have hne:b ≠ a:=λ z=>by
   subst z;rw [ho] at e;cases e;exact absurd (show Value.type "list"=Value.type "tuple" from g2) (3:)
  rw [ybS _ _ _ (by rw [size_push',ybF]; exact yax (ybQ hb)),ybS _ _ _ (by rw [ybF]; exact yax hb),ycS _ _ _ _ hne];exact e
 have hA':∀ b ∈ as,∃ n c ls,PairAt (za1 s.heap a (as.map Value.ref)) wd b n c ls:=λ b hb=>by
  obtain ⟨n,c,ls,t⟩:=hA b hb;exact ⟨n,c,ls,t.keep kp⟩
 have sm:∀ b ∈ as,zaL wd (za1 s.heap a (as.map Value.ref)) (.ref b)=zaL wd s.heap (.ref b):=λ b hb=>by
  obtain ⟨n,c,ls,t⟩:=hA b hb;rw [pcode_at t,pcode_at (t.keep kp)]
 refine zgv (C:=keyP (za1 s.heap a (as.map Value.ref)) wd) ho (30:) (hL:=ltP (s:={ s with heap:=za1 s.heap a (as.map Value.ref) }) hu wd) (λ p hp=>?_) (λ h2=>?_) λ xs hp hs=>?_
 ·rw [pairsOf_toList] at hp;obtain ⟨b,hb,e⟩:=yaf.mp (mem_zip_self hp).2;obtain ⟨n,c,ls,t⟩:=hA' b hb;exact ⟨b,n,c,ls,e.symm,t⟩
 ·obtain ⟨fs,f1,f2,f3⟩:=zjD hA';refine PySem.W.kat_kind (T:=.type "int") f2 (by rw [f1]; simp at h2; omega) (λ v hv=>?_) (3:) ⟨rfl,rfl⟩;obtain ⟨m,t,rfl⟩:=f3 v hv;exact .now
 ·obtain ⟨as', a1, a2, a3⟩ := zl6 hp hs;rw [a2];refine h as' a1 (a3.imp_of_mem fun {b c} hb hc z => ?_)
  rwa [sm b (a1.mem_iff.mp hb),sm c (a1.mem_iff.mp hc)] at z
def zh6 {p:Addr} {Q:Shared -> Prop} (hp:p=s.heap.objs.size) (hu:A.units < cLine) (hz:as.length <= sizeLine) (hA:∀ b ∈ as,∃ n c ls,PairAt s.heap wd b n c ls)
  (h:∀ (h':Heap) (as':List Addr) (e:Nat),as'.Perm as -> (as'.Pairwise λ b c=>zaL wd s.heap (.ref b) <= zaL wd s.heap (.ref c)) -> h'.get? p=some (seqObj "list" (as'.map Value.ref).toArray e) -> (∀ c o,s.heap.get? c=some o -> h'.get? c=some o) -> Q { s with heap:=h' }) :
  wpAny (model prog w) A (Builtin.«list.sort» ⟨[.ref p],[]⟩) (λ f s'=>f=.done (.ret .none) /\ Q s') E { s with heap:=s.heap.push (seqObj "list" (as.map Value.ref).toArray 0) }:=by
 subst hp;have hoL:(s.heap.push (seqObj "list" (as.map Value.ref).toArray 0)).get? s.heap.objs.size=some (seqObj "list" (as.map Value.ref).toArray 0):=yao _ rfl;have kp:∀ b o,s.heap.get? b=some o -> (s.heap.push (seqObj "list" (as.map Value.ref).toArray 0)).get? b=some o:=λ b o e=>yae _ e
 have sm:∀ b ∈ as,zaL wd (s.heap.push (seqObj "list" (as.map Value.ref).toArray 0)) (.ref b)=zaL wd s.heap (.ref b):=λ b hb=>by
  obtain ⟨n,c,ls,t⟩:=hA b hb;rw [pcode_at t,pcode_at (t.keep λ c o e _=>kp c o e)]
 refine zj8 hu hoL hz (λ b hb=>let ⟨n,c,ls,t⟩:=hA b hb; ⟨n,c,ls,t.keep λ c o e _=>kp c o e⟩) λ as' a1 a2=>⟨rfl,?_⟩
 obtain ⟨e,he⟩:=sortedHeap_at (out:=(as'.map Value.ref).toArray) hoL;refine h _ as' e a1 (a2.imp_of_mem λ {b c} hb hc z=>?_) he λ c o z=>?_
 ·rwa [sm b (a1.mem_iff.mp hb),sm c (a1.mem_iff.mp hc)] at z
 ·have z2:=yai z;rw [sortedHeap_old (yax z2) (by rw [ycy]; exact ybQ z2)];exact kp c o z
def sorted_listP {l:Addr} {o:Obj} {T:String} {n:Nat} {Q:Value -> Shared -> Prop} (ho:s.heap.get? l=some o) (hc:o.cls=.type T) (hT:T="list" \/ T="tuple") (hd:o.data=.seq (as.map Value.ref).toArray n) (hu:A.units + 8 < cLine) (hz:as.length <= sizeLine) (hA:∀ b ∈ as,∃ n c ls,PairAt s.heap wd b n c ls)
  (h:∀ (h':Heap) (p:Addr) (as':List Addr) (e:Nat),s.heap.objs.size <= p -> as'.Perm as -> (as'.Pairwise λ b c=>zaL wd s.heap (.ref b) <= zaL wd s.heap (.ref c)) -> h'.get? p=some (seqObj "list" (as'.map Value.ref).toArray e) -> (∀ c o,s.heap.get? c=some o -> h'.get? c=some o) -> Q (.ref p) { s with heap:=h' }) :
  wpAny (model prog w) A (call (.builtin "sorted") [.ref l]) Q E s:=by
 refine yb9 kind_sorted plain_sorted entry_sorted (args_sorted1 _) ?_;unfold Builtin.«sorted»;refine wpAny_bind (m:=checkCount "sorted" 1 1 _) (wpAny_pure (wpAny_bind (ziq ho hc hT hd (30:) (wpAny_bind (wpAny_newList ?_ (30:))))))
 have k0:∀ c o,s.heap.get? c=some o -> ((s.heap.push (seqObj "list" #[] 0)).update s.heap.objs.size (Obj.mapSeq (· ++ (as.map Value.ref).toArray))).get? c=some o:=λ c o z=>by
  have z2:=yai z;rw [ycS _ _ _ _ (yax z2)];exact yae _ z
 have sm:∀ b ∈ as,zaL wd ((s.heap.push (seqObj "list" #[] 0)).update s.heap.objs.size (Obj.mapSeq (· ++ (as.map Value.ref).toArray))) (.ref b)=zaL wd s.heap (.ref b):=λ b hb=>by
  obtain ⟨n,c,ls,t⟩:=hA b hb;rw [pcode_at t,pcode_at (t.keep λ c o e _=>k0 c o e)]
 have hsz:((s.heap.push (seqObj "list" #[] 0)).update s.heap.objs.size (Obj.mapSeq (· ++ (as.map Value.ref).toArray))).objs.size=s.heap.objs.size + 1:=by
  rw [ybF,size_push']
 refine wpAny_bind (wpAny_holding (wpAny_call_entry slot_list_sort ⟨_,yao _ rfl,rfl⟩ entry_list_sort (wpAny_mono (zh6 (s:={ s with heap:=(s.heap.push (seqObj "list" #[] 0)).update s.heap.objs.size (Obj.mapSeq (· ++ (as.map Value.ref).toArray)) }) rfl (by simp only [Around.in1_units]; omega) hz (λ b hb=>let ⟨n,c,ls,t⟩:=hA b hb; ⟨n,c,ls,t.keep λ c o e _=>k0 c o e⟩) (λ h' as' e a1 a2 a3 a4=>h h' _ as' e (by dsimp only; rw [hsz]; exact Nat.le_succ _) a1 (a2.imp_of_mem λ {b c} hb hc z=>by rwa [sm b (a1.mem_iff.mp hb),sm c (a1.mem_iff.mp hc)] at z) a3 λ c o z=>a4 c o (k0 c o z))) (λ f s' z=>by
  obtain ⟨rfl,q⟩:=z;exact ⟨_,rfl,wpAny_pure ⟨_,rfl,q⟩⟩) λ _ _ e=>e) (args_list_sort _)))
end
end Srk
namespace L2
open PySem PySem.Spec PyProof.Rows
noncomputable def Prs2 (H:Hp) (G:List (Nat × List Int)) (ps:List Addr):Prop:=Paired (λ (q:Nat × List Int) (p:Addr)=>∃ b,H p=some (.tup [nV q.1,.ref b]) /\ H b=some (.tup (q.2.map V.int))) G ps
def zlH {P:Program} {w:World} {H:Hp} {h:Heap} {p b:Addr} {n:Nat} {ls:List Int} {wd:Nat} (ok:HOk P w H h) (e:H p=some (.tup [nV n,.ref b])) (e2:H b=some (.tup (ls.map V.int))) (hl:ls.length=wd) (hb:Srk.InB ls):Srk.PairAt h wd p n b ls:=by
 obtain ⟨z,its,rv,o,ho,hc,_,m,hd⟩:=(show zaT P w H h p (.tup [nV n,.ref b]) from ok p _ e)
 refine ⟨?_,zfb ok e2 hl hb⟩
 match its,rv with
 | [u,v],.cons r1 (.cons r2 .nil)=>
  obtain ⟨t,rfl⟩:=r1;cases (show v=Value.ref b from r2);exact ⟨o,t,m,ho,hc,hd⟩
def Prs2.get {H:Hp}:∀ {G:List (Nat × List Int)} {ps:List Addr} {i:Nat} {p:Addr},Prs2 H G ps -> ps[i]?=some p -> ∃ q,G[i]?=some q /\ ∃ b,H p=some (.tup [nV q.1,.ref b]) /\ H b=some (.tup (q.2.map V.int))
 | _,_,_,_,.nil,e=>by simp at e
 | _,_,0,_,.cons h _,e=>by simp at e; subst e; exact ⟨_,rfl,h⟩
 | _,_,i + 1,_,.cons _ t,e=>by
  have:=Prs2.get (i:=i) t (64:);simpa using this
def Prs2.mono {H H':Hp} (hT:∀ b xs,H b=some (.tup xs) -> H' b=some (.tup xs)):∀ {G:List (Nat × List Int)} {ps:List Addr},Prs2 H G ps -> Prs2 H' G ps
 | _,_,.nil=>.nil
 | _,_,.cons h t=>.cons (let ⟨b,h1,h2⟩:=h; ⟨b,hT _ _ h1,hT _ _ h2⟩) (Prs2.mono hT t)
def Prs2.snoc {H:Hp} {q:Nat × List Int} {p:Addr} (h:∃ b,H p=some (.tup [nV q.1,.ref b]) /\ H b=some (.tup (q.2.map V.int))):∀ {G:List (Nat × List Int)} {ps:List Addr},Prs2 H G ps -> Prs2 H (G ++ [q]) (ps ++ [p])
 | _,_,.nil=>.cons h .nil
 | _,_,.cons z t=>.cons z (Prs2.snoc h t)
def Prs2.length {H:Hp} {G:List (Nat × List Int)} {ps:List Addr} (h:Prs2 H G ps):G.length=ps.length:=ybi h
def Prs2.perm {H:Hp}:∀ {ps ps':List Addr},ps'.Perm ps -> ∀ {G:List (Nat × List Int)},Prs2 H G ps -> ∃ G',G'.Perm G /\ Prs2 H G' ps':=by
 intro ps ps' hp
 induction hp with
 | nil=>intro G h; cases h; exact ⟨[],.nil,.nil⟩
 | cons p _ ih=>
  intro G h;cases h with
  | cons hq ht=>
   obtain ⟨G',g1,g2⟩:=ih ht;exact ⟨_ :: G',g1.cons _,.cons hq g2⟩
 | swap p q l=>
  intro G h;cases h with
  | cons h1 ht=>
   cases ht with
   | cons h2 ht=>exact ⟨_ :: _ :: _,List.Perm.swap ..,.cons h2 (.cons h1 ht)⟩
 | trans _ _ ih1 ih2=>
  intro G h;obtain ⟨G1,g1,g2⟩:=ih2 h;obtain ⟨G2,g3,g4⟩:=ih1 g2;exact ⟨G2,g3.trans g1,g4⟩
noncomputable def OrdP (wd:Nat) (G:List (Nat × List Int)):Prop:=G.Pairwise λ a b=>Srk.pcode wd a.1 a.2 <= Srk.pcode wd b.1 b.2
section
variable {X:Cx}
noncomputable def zot:List V -> Hp -> VK -> Prop:=λ xs H Q=>∃ (a:Addr) (ps:List Addr) (G:List (Nat × List Int)) (wd:Nat),xs=[.ref a] /\ Rd H a (.lst (ps.map V.ref)) /\ Prs2 H G ps /\ (∀ q ∈ G,q.2.length=wd /\ Srk.InB q.2) /\
 ∀ (p:Addr) (ps':List Addr) (G':List (Nat × List Int)),H p=none -> G'.Perm G -> OrdP wd G' -> Prs2 H G' ps' -> Q (.ref p) (upd H p (.lst (ps'.map V.ref)))
def ziU (hu:X.A.units + 64 < cLine):zb1 X (.builtin "sorted") zot:=by
 intro pins s σ H xs us Q I r h;obtain ⟨a,ps,G,wd,rfl,hq,hP,hT,q⟩:=h;obtain ⟨u,rfl,ru⟩:=r.one;cases ru;obtain ⟨z,its,n,rv,e⟩:=(show zaT X.prog X.w H s.heap a (.lst (ps.map V.ref)) from hq.ok I.hok)
 have:=zg8 rv;subst this;simp only [yaa] at z
 have at':∀ {G:List (Nat × List Int)} {ps:List Addr},Prs2 H G ps -> (∀ q ∈ G,q.2.length=wd /\ Srk.InB q.2) -> ∀ {i:Nat} {p:Addr},ps[i]?=some p -> ∃ q b,G[i]?=some q /\ Srk.PairAt s.heap wd p q.1 b q.2:=λ {G ps} hP hT {i p} hp=>by
  obtain ⟨q,h1,b,h2,h3⟩:=hP.get hp;have:=hT q (yar h1);exact ⟨q,b,h1,zlH I.hok h2 h3 this.1 this.2⟩
 refine Srk.sorted_listP (wd:=wd) (as:=ps) e rfl (.inl rfl) rfl (1:) z (λ b hb=>?_) λ h' p ps' ep hp a1 a2 a3 a4=>?_
 ·obtain ⟨i,hi,e1⟩:=ybb.mp hb;obtain ⟨q,c,_,h2⟩:=at' hP hT (i:=i) (p:=b) (by rw [yab hi,e1]);exact ⟨_,c,_,h2⟩
 ·have hln := a1.length_eq;obtain ⟨G', g1, g2⟩ := hP.perm a1;have hT' : ∀ q ∈ G', q.2.length = wd /\ Srk.InB q.2 := fun q hq => hT q (g1.mem_iff.mp hq);refine ⟨.ref p, _, I.laid (t' := s.toks) (o := .lst (ps'.map V.ref)) a4 hp ⟨by simp only [yaa]; omega, ps'.map Value.ref, ep, zfw _, a3⟩, rfl, q p ps' G' (I.hok.fresh hp) g1 ?_ g2⟩;refine yba.mpr fun i j hi hj hij => ?_;have li : i < ps'.length := by have := g2.length; omega
  have lj:j < ps'.length:=by have:=g2.length; omega
  have hh:=yba.mp a2 i j li lj hij;obtain ⟨qi,bi,e1,e2⟩:=at' g2 hT' (i:=i) (yab li);obtain ⟨qj,bj,e3,e4⟩:=at' g2 hT' (i:=j) (yab lj);rw [yab hi] at e1;rw [yab hj] at e3;rw [Srk.pcode_at e2,Srk.pcode_at e4] at hh;rw [Option.some.inj e1,Option.some.inj e3];exact hh
end
end L2
namespace Dit
open PySem PyProof.Rows
noncomputable abbrev noneHash:Int:=0xFCA86420
section
variable {prog:Program} {w:World} {A:Around} {E:Value -> Shared -> Prop} {s:Shared} {d:Addr} {ep:Nat} {es:Array DictEntry} {od:Obj}
def zl3 {Q:Option Nat -> Shared -> Prop} (ho:s.heap.get? d=some od) (hdd:od.data=.dict es ep) (hh:∀ e ∈ es.toList,e.hash ≠ noneHash) (h:Q none s):wpAny (model prog w) A (dictFind d .none noneHash) Q E s:=by
 unfold dictFind
 try with_reducible refine wpAny_holding ?_
 refine wpAny_bind (wpAny_dictEntries ho hdd ?_)
 have hp:placesWithHash es.size (λ i=>es[i]?.map (·.hash)) noneHash=[]:=by
  unfold placesWithHash;rw [ycu];intro i hi;have hi':i < es.size:=by simpa using hi
  have:=hh es[i] (5:);show ¬ ((es[i]?.map (·.hash)) == some noneHash)=true;rw [getElem?_pos es i hi'];simpa using this
 simp only [hp,List.filterMap_nil];rw [if_pos (by simp [carriedByValue])];unfold dictWalkPlain;rw [List.forIn_nil];exact wpAny_bind (wpAny_pure (wpAny_pure h))
def notIn_none {Q:Value -> Shared -> Prop} (hu:A.units + 1 < cLine) (hd:(d == sysModules)=false) (ho:s.heap.get? d=some od) (hex:od.ExactDict) (hdd:od.data=.dict es ep) (hh:∀ e ∈ es.toList,e.hash ≠ noneHash)
  (h:∀ tk,Q (.bool true) { s with toks:=tk }):wpAny (model prog w) A (compareOp .NotIn .none (.ref d)) Q E s:=by
 have hT:s.TypeIs (.ref d) "dict":=⟨od,ho,hex.1⟩
 show wpAny _ _ (do return .bool (!(<- contains (.ref d) .none))) Q E s;refine wpAny_bind ?_;unfold contains
 try with_reducible refine wpAny_holding ?_
 refine wpAny_bind (wpAny_specialOf hT slot_dict_contains.lookup ?_);show wpAny _ _ (if (some (Value.builtin "dict.__contains__") == some Value.none)=true then _ else _) _ E s;rw [if_neg (by rw [beq_builtin_none]; exact yaD)]
 refine wpAny_bind (wpAny_callSpecialUnlessNone?_slot (name:=Str.ofString "__contains__") hT slot_dict_contains
  (wpAny_call_entry slot_dict_contains hT entry_dict_contains ?_ (args_dict_contains _ _)))
 show wpAny _ _ (dictGet d .none >>= _) _ _ s;refine wpAny_bind ?_;unfold dictGet
 try with_reducible refine wpAny_holding ?_
 refine wpAny_bind ?_;show wpAny _ _ (pyHashByItsType .none) _ _ s;refine PySem.W.pyHash_slot (T:="NoneType") rfl F.slot_NoneType_hash F.entry_NoneType_hash (F.args_NoneType_hash_1 _) (beq_builtin_none _) (.inl rfl) (wpAny_bind (wpAny_pure (wpAny_bind (wpAny_mkInt (wpAny_pure ⟨_,_,rfl,?_⟩)))));show wpAny _ _ (dictFind d .none (reduceHash 0xFCA86420) >>= _) _ _ _;rw [show reduceHash 0xFCA86420=noneHash by decide +kernel];refine wpAny_bind (zl3 ho hdd hh ?_);refine wpAny_pure ?_;show wpAny _ _ (Builtin.Dict.pendingKey? d .none >>= _) _ _ _;exact wpAny_bind (wpAny_pendingKey_other hd (wpAny_pure ⟨_,rfl,wpAny_truthy_bool (wpAny_pure (h _))⟩))
end
end Dit
namespace L2
open PySem PySem.Spec PyProof.Rows Bm
noncomputable def zmL (ls:List Int):Int:=reduceHash (Builtin.Tuple.tupleHashOf (ls.map hashInt))
noncomputable def NoN (ls:List Int):Prop:=zmL ls ≠ Dit.noneHash
noncomputable def zk0 (k:Nat):Nat -> List (List Int)
 | 0=>[[]]
 | n + 1=>(List.range k).flatMap λ (e:Nat)=>(zk0 k n).map λ l=>((e:Int) - 2) :: l
def zgq {k:Nat}:∀ {ls:List Int},(∀ e ∈ ls,-2 <= e /\ e + 2 < (k:Int)) -> ls ∈ zk0 k ls.length
 | [],_=>yah.mpr rfl
 | e :: ls,h=>by
  have h1:=h e (.head _);refine ycG.mpr ⟨(e + 2).toNat,yat.mpr (1:),yaf.mpr ⟨ls,zgq λ x hx=>h x (.tail _ hx),?_⟩⟩;congr 1; omega
noncomputable def zja (w:Nat):Bool:=(zk0 (w + 2) w).all λ ls=>zmL ls != Dit.noneHash
def zmN:zja 1=true:=by decide +kernel
def znm:zja 2=true:=by decide +kernel
def znl:zja 3=true:=by decide +kernel
def zou {w:Nat} (h1:1 <= w) (h3:w <= 3) {ls:List Int} (h:Ld w ls):NoN ls:=by
 have hm:=zgq (k:=w + 2) (ls:=ls) λ e he=>by have:=h.2 e he; omega
 rw [h.1] at hm
 have:zja w=true:=by
  match w,h1,h3 with
  | 1,_,_=>exact zmN
  | 2,_,_=>exact znm
  | 3,_,_=>exact znl
 have:=ya1.mp this ls hm;simpa [NoN] using this
section
variable {X:Cx} {i o:Expr} {ty td:TE} {pos:Pos}
noncomputable def zgV (ty td:TE):TE:=λ σ H Q=>ty σ H λ y H1=>td σ H1 λ x H2=>∃ a,x=.ref a /\ ((∃ o,DGet H2 a y o /\ Q (.bl (!o.isSome)) H2) \/ ∃ kvs,y=.non /\ Rd H2 a (.dT kvs) /\ (∀ kv ∈ kvs,∃ ls,kv.1=kI ls /\ NoN ls) /\ Q (.bl true) H2)
def znT {H:Hp}:∀ {kvs:List (List Key × V)} {xs:List (List Key × Addr × Value)},Paired (λ (p:List Key × V) (q:List Key × Addr × Value)=>p.1=q.1 /\ H q.2.1=some (.tup (p.1.map kV)) /\ RelV p.2 q.2.2) kvs xs -> ∀ q ∈ xs,∃ kv ∈ kvs,kv.1=q.1
 | _,_,.nil,q,h=>by simp at h
 | _,_,.cons (a:=p) r t,q,h=>by
  rcases yav.mp h with rfl | h
  ·exact ⟨p,yaC ..,r.1⟩
  ·obtain ⟨kv,h1,h2⟩:=znT t q h;exact ⟨kv,yau _ h1,h2⟩
def zkc (hu:X.A.units + 1 < cLine) (hi:PE X i ty) (ho:PE X o td):PC X .NotIn i o (zgV ty td):=by
 intro pins s σ H Q I h;refine thn (hi pins s σ H _ I h) λ iv s1 ⟨y,H1,I1,ry,q1⟩=>thn (ho pins s1 σ H1 _ I1 q1) λ u s2 ⟨x,H2,I2,rx,a,ex,q2⟩=>?_;subst ex;obtain rfl:u=Value.ref a:=rx;rcases q2 with ⟨ov,g,q2⟩ | ⟨kvs,rfl,hr,hN,q2⟩
 ·exact zkO hu I2 g ry λ s3 I3=>⟨.bl (!ov.isSome),H2,I3,rfl,q2⟩
 ·cases (show iv = Value.none from ry);obtain ⟨z1, z2, xs, rel, o, es, ep, h1, h2, h3, h4, h5⟩ := (show zaT X.prog X.w H2 s2.heap a (.dT kvs) from hr.ok I2.hok)
  refine Dit.notIn_none hu z2 h1 h2 h3 (λ e he=>?_) λ tk=>⟨.bl true,H2,I2.tok _,rfl,q2⟩
  rw [h4] at he;obtain ⟨q,hq,rfl⟩:=yaf.mp he;obtain ⟨kv,k1,k2⟩:=znT rel q hq;obtain ⟨ls,k3,k4⟩:=hN kv k1;show tupleKeyHash (zaN X.prog X.w) q.1 ≠ _;rw [<- k2,k3]
  have e:tupleKeyHash (zaN X.prog X.w) (kI ls)=zmL ls:=by
   unfold tupleKeyHash zmL;rw [ya6]; rfl
  rw [e]; exact k4
def zkh (hu:X.A.units + 64 < cLine) (hi:PE X i ty) (ho:PE X o td) (h1:behindInMarks .NotIn o=false:=by rfl):PT X (.Compare i [.NotIn] [o] pos) (tB (zgV ty td)):=zmh (zkc (ya4 (ybD (3:) _) hu) hi ho) h1
end
def zkI {ty td:TE} {σ:St} {H:Hp} {Q:VK} (h:ty σ H λ y H1=>td σ H1 λ x H2=>∃ a,x=.ref a /\ ((∃ o,DGet H2 a y o /\ Q (.bl (!o.isSome)) H2) \/ ∃ kvs,y=.non /\ Rd H2 a (.dT kvs) /\ (∀ kv ∈ kvs,∃ ls,kv.1=kI ls /\ NoN ls) /\ Q (.bl true) H2)):zgV ty td σ H Q:=h
def FndG.keysN {H:Hp} {w:Nat} {L:List (Addr × Dd)} {G:List (List Int × Nat)}:∀ {F:List (List Int × Nat)} {kvs:List (List Key × V)},FndG H w L G F kvs -> (∀ q ∈ F,NoN q.1) -> ∀ kv ∈ kvs,∃ ls,kv.1=kI ls /\ NoN ls
 | _,_,.nil,_,kv,h=>by simp at h
 | _,_,.cons (a:=q) r t,hN,kv,h=>by
  rcases yav.mp h with rfl | h
  ·exact ⟨q.1,r.1,hN q (yaC ..)⟩
  ·exact FndG.keysN t (λ x hx=>hN x (yau _ hx)) kv h
def FndG.keys {H:Hp} {w:Nat} {L:List (Addr × Dd)} {G:List (List Int × Nat)}:∀ {F:List (List Int × Nat)} {kvs:List (List Key × V)},FndG H w L G F kvs -> kvs.map (·.1)=F.map λ q=>kI q.1
 | _,_,.nil=>rfl
 | _,_,.cons (a:=q) r t=>by rw [yaP,yaP,r.1,FndG.keys t]
noncomputable def zfK (K:PySem.W.Frag):Sp:=λ vs H Q _=>∃ (w:Nat) (m:Addr) (v:V) (L:List (Addr × Dd)) (W:List Int -> Prop),vs=[nV w,.ref m,v] /\ zhk K H m L /\ Rw H w L /\ 1 <= w /\ w <= 3 /\ L.length <= 1000 /\ ((v=.non /\ ∀ x,¬ W x) \/ ∃ l ls,v=.ref l /\ H l=some (.tup (ls.map V.int)) /\ ∀ x,W x ↔ x=ls) /\
 ∀ (f:Addr) (o:Obj) (kvs:List (List Key × V)) (H':Hp) (F:List (List Int × Nat)) (n:Nat) (E:List (List Int)),Same H H' -> Frz H' f o kvs -> Fnd H' w L F kvs -> Ring (steps w L) w n F E -> (E=[] \/ ∃ x,W x /\ x ∈ F.map (·.1)) -> Q (.ref f) H'
structure Rch (w:Nat) (L:List (Addr × Dd)) (G:List (Nat × List Int)):Prop where
 all:∀ n x,(n,x) ∈ G ↔ Dst (steps w L) w n x
 once:G.Nodup
 ord:OrdP w G
 few:G.length <= 1296
noncomputable def zlv (K:PySem.W.Frag):Sp:=λ vs H Q _=>∃ (w:Nat) (m:Addr) (L:List (Addr × Dd)),vs=[nV w,.ref m] /\ zhk K H m L /\ Rw H w L /\ 1 <= w /\ w <= 3 /\ L.length <= 1000 /\ ∀ (r:Addr) (ps:List Addr) (G:List (Nat × List Int)) (H':Hp),H r=none -> Same H H' -> Rch w L G -> Prs2 H' G ps -> H' r=some (.lst (ps.map V.ref)) -> Q (.ref r) H'
noncomputable def zhi (K:PySem.W.Frag):Sp:=λ vs H Q _=>∃ (w:Nat) (m l:Addr) (L:List (Addr × Dd)) (ls:List Int),vs=[.ref l,.ref m] /\ zhk K H m L /\ Rw H w L /\ 1 <= w /\ w <= 3 /\ L.length <= 1000 /\ H l=some (.tup (ls.map V.int)) /\ Ld w ls /\
 (∀ H',Same H H' -> (∀ n,¬ Dst (steps w L) w n ls) -> Q .non H') /\ ∀ (H':Hp) (n:Nat),Same H H' -> Dst (steps w L) w n ls -> Q (nV n) H'
noncomputable def cnv (e:En):Dd:=match e.1,e.2 with
 | 0,[m]=>.and m.toNat | 1,[m]=>.or m.toNat | 2,[m]=>.left m.toNat | 3,[m]=>.right m.toNat | 4,[m]=>.turn m.toNat
 | 5,[m,n]=>.swap m.toNat n.toNat | 6,[m]=>.gather m.toNat | 7,[m]=>.strew m.toNat | 8,[m,n]=>.copy m.toNat n | _,_=>.and 0
noncomputable def okD (w:Nat):Dd -> Bool
 | .and m=>decide (m < 2 ^ w) | .or m=>decide (m < 2 ^ w) | .left n=>decide (n <= w) | .right n=>decide (n <= w) | .turn n=>decide (n < w) | .gather m=>decide (m < 2 ^ w) | .strew m=>decide (m < 2 ^ w)
 | .swap m n=>decide (1 <= n) && decide (n < w) && decide (m < 2 ^ w) && (List.range w).all λ p=>!m.testBit p || (decide (p + n < w) && !m.testBit (p + n))
 | .copy m n=>decide (n ≠ 0) && decide (-(w:Int) < n) && decide (n < w) && decide (m < 2 ^ w) && (List.range w).all λ p=>!m.testBit p || (decide (0 <= (p:Int) + n) && decide ((p:Int) + n < w))
def zn6 {w:Nat}:∀ {d:Dd},okD w d=true -> d.ok w
 | .and m,h=>(of_decide_eq_true (p:=m < 2 ^ w) h)
 | .or m,h=>(of_decide_eq_true (p:=m < 2 ^ w) h)
 | .left m,h=>(of_decide_eq_true (p:=m <= w) h)
 | .right m,h=>(of_decide_eq_true (p:=m <= w) h)
 | .turn m,h=>(of_decide_eq_true (p:=m < w) h)
 | .gather m,h=>(of_decide_eq_true (p:=m < 2 ^ w) h)
 | .strew m,h=>(of_decide_eq_true (p:=m < 2 ^ w) h)
 | .swap m n,h=>by
  simp only [okD,yad,decide_eq_true_eq,ya1,yat,ybP,ybl] at h;obtain ⟨⟨⟨h1,h2⟩,h3⟩,h4⟩:=h;refine ⟨h1,h2,λ p hp=>?_⟩;by_cases c:p < w
  ·rcases h4 p c with z | z
   ·rw [hp] at z; cases z
   ·exact z
  ·rw [zhl h3 (1:)] at hp; cases hp
 | .copy m n,h=>by
  simp only [okD,yad,decide_eq_true_eq,ya1,yat,ybP,ybl] at h;obtain ⟨⟨⟨⟨h1,h2⟩,h3⟩,h4⟩,h5⟩:=h;refine ⟨h1,h2,h3,h4,λ p hp=>?_⟩;by_cases c:p < w
  ·rcases h5 p c with z | z
   ·rw [hp] at z; cases z
   ·exact z
  ·rw [zhl h4 (1:)] at hp; cases hp
noncomputable def shD (e:En):Bool:=match e.1,e.2 with
 | 0,[m]=>decide (0 <= m) | 1,[m]=>decide (0 <= m) | 2,[m]=>decide (0 <= m) | 3,[m]=>decide (0 <= m) | 4,[m]=>decide (0 <= m)
 | 5,[m,n]=>decide (0 <= m) && decide (0 <= n) | 6,[m]=>decide (0 <= m) | 7,[m]=>decide (0 <= m) | 8,[m,_]=>decide (0 <= m) | _,_=>false
def zpe {e:En} (h:shD e=true):dec e=(cnv e).vals:=by
 obtain ⟨k,is⟩:=e;have one:∀ (m:Int),0 <= m -> V.int m=nV m.toNat:=λ m hm=>by show V.int m=V.int (m.toNat:Int); rw [ybk hm]
 unfold shD at h
 split at h <;> first
  | (rename_i hk hi; simp only at hk hi; subst hk; subst hi; simp only [yad,decide_eq_true_eq] at h; simp only [dec,cnv,Dd.vals,yaP,ycU]; first | (rw [one _ h]; rfl) | (rw [one _ h.1,one _ h.2]; rfl))
  | cases h
noncomputable def zm1 (w:Nat):Bool:=(lawF w).all λ e=>okD w (cnv e) && shD e
def zoS:zm1 1=true:=by decide +kernel
def zop:zm1 2=true:=by decide +kernel
def zoR:zm1 3=true:=by decide +kernel
def zqB {w:Nat} (h1:1 <= w) (h3:w <= 3):∀ e ∈ lawF w,(cnv e).ok w /\ dec e=(cnv e).vals:=λ e he=>by
 have:zm1 w=true:=by
  match w,h1,h3 with
  | 1,_,_=>exact zoS
  | 2,_,_=>exact zop
  | 3,_,_=>exact zoR
 have:=ya1.mp this e he;rw [yad] at this;exact ⟨zn6 this.1,zpe this.2⟩
def zoP {w:Nat} (h1:1 <= w) (h3:w <= 3):(lawF w).length <= 100:=by
 match w,h1,h3 with
 | 1,_,_=>decide +kernel
 | 2,_,_=>decide +kernel
 | 3,_,_=>decide +kernel
noncomputable def asDd (L:List (Addr × En)):List (Addr × Dd):=L.map λ q=>(q.1,cnv q.2)
def zjr (L:List (Addr × En)):rowV (asDd L)=tlV L:=by simp [asDd,rowV,tlV]
def zl4 {H:Hp} {w:Nat} {L:List (Addr × En)} (h1:1 <= w) (h3:w <= 3) (hL:TL H L) (e:ens L=lawF w):Rw H w (asDd L) /\ (asDd L).length <= 100:=by
 refine ⟨λ q hq=>?_,?_⟩
 ·obtain ⟨x,hx,rfl⟩:=yaf.mp hq;have:=zqB h1 h3 x.2 (by rw [<- e]; exact yaf.mpr ⟨x,hx,rfl⟩);exact ⟨by rw [<- this.2]; exact hL x hx,this.1⟩
 ·have:=congrArg List.length e;rw [ens,yaa] at this;rw [asDd,yaa,this];exact zoP h1 h3
end L2
namespace PySem
open PyProof.Rows
section
variable {prog:Program} {w:World} {A:Around} {E:Value -> Shared -> Prop} {s:Shared}
end
end PySem
namespace L2
open PySem PySem.Spec PyProof.Rows Bm
section
variable {X:Cx} {K:PySem.W.Frag} {a:Expr} {ta:TA} {p p2 pos pos2:Pos}
end
end L2
namespace Stx
open PySem PyProof.Rows
noncomputable abbrev Up (xs:Array Nat):Prop:=xs.toList.Pairwise (· < ·)
noncomputable def Dead (t:SetTable) (j:Nat):Prop:=(t.place[SetTable.below t.place j]? == some j)=false
structure Gd (b:Bool) (t:SetTable):Prop where
 up:Up t.place
 led:b=false -> t.led=true
end Stx
namespace Stx
open PySem PyProof.Rows
structure Els (l:List (Int × Value)) (ns:List Int):Prop where
 shape:∀ e ∈ l,∃ k t,e=(hashInt k,Value.int k t)
 once:(l.map λ e=>numOf e.2).Nodup
 mem:∀ k,k ∈ l.map (λ e=>numOf e.2) ↔ k ∈ ns
noncomputable def SetI (b:Bool) (h:Heap) (a:Addr) (ns:List Int):Prop:=∃ (o:Obj) (es:Array (Int × Value)) (ep:Nat) (t:SetTable),h.get? a=some o /\ o.ExactSet /\ o.data=.set es ep t /\ Els es.toList ns /\ t.fits es.size=true /\ Gd b t /\ es.size <= ns.length
section
variable {prog:Program} {w:World} {A:Around} {E:Value -> Shared -> Prop} {s:Shared} {a:Addr} {b:Bool} {ns:List Int}
end
end Stx
namespace Stx
open PySem PyProof.Rows
section
variable {prog:Program} {w:World} {A:Around} {E:Value -> Shared -> Prop} {s:Shared} {a:Addr} {b:Bool} {ns:List Int}
end
end Stx
namespace Stx
open PySem PyProof.Rows
section
variable {prog:Program} {w:World} {A:Around} {E:Value -> Shared -> Prop} {s:Shared} {a:Addr} {b:Bool} {ns:List Int}
end
end Stx
namespace Stx
open PySem PyProof.Rows
section
variable {prog:Program} {w:World} {A:Around} {E:Value -> Shared -> Prop} {s:Shared} {a:Addr} {b:Bool} {ns:List Int}
end
end Stx
namespace Stx
open PySem PyProof.Rows
section
variable {prog:Program} {w:World} {A:Around} {E:Value -> Shared -> Prop} {s:Shared} {a it:Addr} {b:Bool} {ns:List Int}
end
end Stx
namespace Stx
open PySem PyProof.Rows
section
variable {prog:Program} {w:World} {A:Around} {E:Value -> Shared -> Prop} {s:Shared} {a it:Addr} {b:Bool} {ns:List Int}
end
end Stx
namespace Stx
open PySem PyProof.Rows Srt
section
variable {prog:Program} {w:World} {A:Around} {E:Value -> Shared -> Prop} {s:Shared} {a it:Addr} {b:Bool} {ns:List Int}
end
end Stx
namespace Stx
open PySem PyProof.Rows Srt
section
variable {prog:Program} {w:World} {A:Around} {E:Value -> Shared -> Prop} {s:Shared} {a it:Addr} {b:Bool} {ns:List Int}
end
end Stx
namespace L2
open PySem PySem.Spec PyProof.Rows
section
variable {X:Cx}
end
open Bm
def zeW {w:Nat} {c:Dd} {ls:List Int} (hl:ls.length=w) (h:∀ p,p < w -> c.src w p=ls.getD p 0):c.led w=ls:=by
 refine ybf λ i=>?_;rw [Dd.led,yan];rcases ybH i w with c1 | c1
 ·rw [yaS c1,yab (1:)];show some (c.src w i)=_;rw [h i c1,yac,yab (1:)]; rfl
 ·rw [yaI (34:),yaI (1:)]; rfl
def zeq {w:Nat} {c:Dd} {f:Nat -> Int} (h:∀ p,p < w -> c.src w p=f p):c.led w=(List.range w).map f:=yaZ λ p hp=>h p (yat.mp hp)
def zd0 {ls:List Int} {w p:Nat} {f:Nat -> Bool} (hl:ls.length=w):p ∈ (List.range ls.length).filter f ↔ p < w /\ f p=true:=by
 rw [yaB,yat,hl]
def zi0 (n:Nat) (f:Nat -> Bool):((List.range n).filter f).Pairwise (· < ·):=ycJ _ ybW
def zjo {ls:List Int} {w p:Nat} (hl:ls.length=w):p ∈ zeE ls ↔ p < w /\ ls.getD p 0=(p:Int):=by rw [zeE,zd0 hl,decide_eq_true_iff]
def zjn {ls:List Int} {w p:Nat} (hl:ls.length=w):p ∈ zeA ls ↔ p < w /\ ls.getD p 0=-2:=by rw [zeA,zd0 hl,decide_eq_true_iff]
def zmJ {ls:List Int} {w p:Nat} (hl:ls.length=w):p ∈ za9 ls ↔ p < w /\ 0 <= ls.getD p 0:=by rw [za9,zd0 hl,decide_eq_true_iff]
def zeh {ls:List Int} {w p:Nat} (hl:ls.length=w):p ∈ zbv ls ↔ p < w /\ 0 <= ls.getD p 0 /\ ls.getD p 0 ≠ (p:Int):=by rw [zbv,zd0 hl,decide_eq_true_iff]
noncomputable def zby (ls:List Int):List Int:=ls.filter λ e=>decide (0 <= e)
noncomputable def F1 (w:Nat) (ls:List Int):Prop:=∀ p,p < w -> ls.getD p 0=(p:Int) \/ ls.getD p 0=-1
noncomputable def F2 (w:Nat) (ls:List Int):Prop:=∀ p,p < w -> ls.getD p 0=(p:Int) \/ ls.getD p 0=-2
noncomputable def F3 (w:Nat) (ls:List Int):Prop:=ls=zby ls ++ List.replicate (w - (zby ls).length) (-1) /\ (zby ls).Pairwise (· < ·)
noncomputable def F4 (w:Nat) (ls:List Int):Prop:=zby ls=(List.range (zby ls).length).map (λ i:Nat=>(i:Int)) /\ (-2:Int) ∉ ls
noncomputable def G1 (w:Nat) (ls:List Int) (n:Int):Prop:=ls=(List.range w).map λ p:Nat=>if 0 <= (p:Int) - n /\ (p:Int) - n < w then (p:Int) - n else -1
noncomputable def G2 (w:Nat) (ls:List Int) (n:Int):Prop:=ls=(List.range w).map λ p:Nat=>((p:Int) - n) % (w:Int)
noncomputable def G3 (w:Nat) (ls:List Int) (n:Int):Prop:=∀ p,p < w -> (ls.getD p 0=(p:Int) \/ ls.getD p 0=(p:Int) - n) /\ 0 <= ls.getD p 0
noncomputable def SwP (ls:List Int) (n:Int) (p:Nat):Prop:=ls.getD p 0=(p:Int) \/ ((ls.getD p 0=(p:Int) + n \/ ls.getD p 0=(p:Int) - n) /\ 0 <= ls.getD p 0 /\ ls.getD (ls.getD p 0).toNat 0=(p:Int))
noncomputable def G4 (w:Nat) (ls:List Int) (n:Int):Prop:=0 < n /\ ∀ p,p < w -> SwP ls n p
noncomputable def Fits (w:Nat) (ls:List Int):Prop:=F1 w ls \/ F2 w ls \/ F3 w ls \/ F4 w ls \/ ∃ n:Int,1 - (w:Int) <= n /\ n < w /\ (G1 w ls n \/ G2 w ls n \/ G3 w ls n \/ G4 w ls n)
def Ld.at {w p:Nat} {ls:List Int} (h:Ld w ls) (hp:p < w):-2 <= ls.getD p 0 /\ ls.getD p 0 < (w:Int):=h.2 _ (getD_mem' (by rw [h.1]; exact hp))
def ziH {w:Nat} {ls:List Int} (hl:ls.length=w) (h:F1 w ls):(Dd.and (zaP (zeE ls))).ok w /\ (Dd.and (zaP (zeE ls))).led w=ls:=by
 refine ⟨zeg (zdB hl),zeW hl λ p hp=>?_⟩;show (if (zaP (zeE ls)).testBit p then (p:Int) else -1)=_;rw [zay];by_cases c:ls.getD p 0=(p:Int)
 ·rw [if_pos (decide_eq_true ((zjo hl).mpr ⟨hp,c⟩)),c]
 ·rw [if_neg (by rw [decide_eq_true_iff,zjo hl]; exact λ z=>c z.2)];exact ((h p hp).resolve_left c).symm
def znK {w:Nat} {ls:List Int} (hl:ls.length=w) (h:F2 w ls):(Dd.or (zaP (zeA ls))).ok w /\ (Dd.or (zaP (zeA ls))).led w=ls:=by
 refine ⟨zeg (zdB hl),zeW hl λ p hp=>?_⟩;show (if (zaP (zeA ls)).testBit p then -2 else (p:Int))=_;rw [zay];by_cases c:ls.getD p 0=-2
 ·rw [if_pos (decide_eq_true ((zjn hl).mpr ⟨hp,c⟩)),c]
 ·rw [if_neg (by rw [decide_eq_true_iff,zjn hl]; exact λ z=>c z.2)];exact ((h p hp).resolve_right c).symm
def zfJ (ls:List Int) (f:Int -> Bool):ls.filter f=((List.range ls.length).filter λ j=>f (ls.getD j 0)).map λ j=>ls.getD j 0:=by
 have e:ls=(List.range ls.length).map λ j=>ls.getD j 0:=by
  refine ybf λ i=>?_;rw [yan];rcases ybH i ls.length with c | c
  ·rw [yaS c,yab c];show _=some (ls.getD i 0);rw [yac,yab c]; rfl
  ·rw [yaI c,yaI (by simpa using c)]; rfl
 conv=>lhs; rw [e,List.filter_map]
 rfl
def gather_led' {w:Nat} {ls:List Int} (hL:Ld w ls) (h:F3 w ls):(Dd.gather (zeu ls)).ok w /\ (Dd.gather (zeu ls)).led w=ls:=by
 obtain ⟨h1,h2⟩:=h
 have hk:∀ e ∈ zby ls,0 <= e /\ e < (w:Int):=λ e he=>by
  obtain ⟨z1,z2⟩:=yaB.mp he;exact ⟨decide_eq_true_iff.mp z2,(hL.2 e z1).2⟩
 have up:(ziv ls).Pairwise (· < ·):=by
  show ((zby ls).map Int.toNat).Pairwise (· < ·);refine ya3.mpr (h2.imp_of_mem λ {x y} hx hy z=>?_);have:=(hk x hx).1;have:=(hk y hy).1;omega
 have hlt:zeu ls < 2 ^ w:=zeg λ x hx=>by
  obtain ⟨e,he,rfl⟩:=yaf.mp hx;have:=hk e he;omega
 refine ⟨hlt,zeW hL.1 λ p hp=>?_⟩;have ep:zad (zeu ls)=(zby ls).map Int.toNat:=zdH up;show (if p < (zad (zeu ls)).length then ((zad (zeu ls)).getD p 0:Int) else -1)=_;rw [ep,yaa];have e2:ls.getD p 0=(zby ls ++ List.replicate (w - (zby ls).length) (-1)).getD p 0:=by rw [<- h1]
 rw [e2,yac,yac,yan];by_cases c:p < (zby ls).length
 ·rw [if_pos c,yaO c,yab c];have:=(hk _ (yaW c)).1;show (((zby ls)[p].toNat:Nat):Int)=(zby ls)[p];omega
 ·rw [if_neg c,yaT (1:),ybB,if_pos (1:)];rfl
def strew_led' {w:Nat} {ls:List Int} (hL:Ld w ls) (h:F4 w ls):(Dd.strew (zaP (za9 ls))).ok w /\ (Dd.strew (zaP (za9 ls))).led w=ls:=by
 obtain ⟨h1,h2⟩:=h;refine ⟨zeg (zdB hL.1),zeW hL.1 λ p hp=>?_⟩;have ep:zad (zaP (za9 ls))=za9 ls:=zdH (zi0 _ _);have ek:zby ls=(za9 ls).map λ j=>ls.getD j 0:=zfJ ls _;show (if (zaP (za9 ls)).testBit p then ((zad (zaP (za9 ls))).idxOf p:Int) else -1)=_;rw [zay,ep];by_cases c:p ∈ za9 ls
 ·rw [if_pos (decide_eq_true c)];have hi := List.idxOf_lt_length_iff.mpr c;have hk : (zby ls).length = (za9 ls).length := by rw [ek, yaa]
  have e1:(zby ls)[(za9 ls).idxOf p]?=some (ls.getD p 0):=by
   rw [ek,yan,yab hi,List.getElem_idxOf hi]; rfl
  rw [h1,yan,yaS (1:)] at e1;exact Option.some.inj e1
 ·rw [if_neg (by rw [decide_eq_true_iff]; exact c)];have n1:¬ 0 <= ls.getD p 0:=λ z=>c ((zmJ hL.1).mpr ⟨hp,z⟩);have n2:ls.getD p 0 ≠ -2:=λ z=>h2 (z ▸ getD_mem' (by rw [hL.1]; exact hp));have:=hL.at hp;omega
def zl8 {w:Nat} {ls:List Int} (hw:1 <= w) (hL:Ld w ls) (h:Fits w ls):∃ d:Dd,d.ok w /\ d.led w=ls:=by
 rcases h with h | h | h | h | ⟨n,n1,n2,h⟩
 ·exact ⟨_,ziH hL.1 h⟩
 ·exact ⟨_,znK hL.1 h⟩
 ·exact ⟨_,gather_led' hL h⟩
 ·exact ⟨_,strew_led' hL h⟩
 rcases h with h | h | h | ⟨h0,h⟩
 ·by_cases c : 0 <= n
  ·refine ⟨.left n.toNat, by show n.toNat <= w; omega, ?_⟩;rw [h];refine zeq fun p hp => ?_;show (if n.toNat <= p then (p : Int) - n.toNat else -1) = _;by_cases c2 : n.toNat <= p
   ·rw [if_pos c2,if_pos (1:)]; omega
   ·rw [if_neg c2,if_neg (1:)]
  ·refine ⟨.right (-n).toNat, by show (-n).toNat <= w; omega, ?_⟩;rw [h];refine zeq fun p hp => ?_;show (if p + (-n).toNat < w then (p : Int) + (-n).toNat else -1) = _;by_cases c2 : p + (-n).toNat < w
   ·rw [if_pos c2,if_pos (1:)]; omega
   ·rw [if_neg c2,if_neg (1:)]
 ·refine ⟨.turn (n % (w : Int)).toNat, ?_, ?_⟩
  ·have:=ycV n (show (0:Int) < w by omega);have:=ycj n (show (w:Int) ≠ 0 by omega);show (n % (w:Int)).toNat < w;omega
  ·rw [h];refine zeq fun p hp => ?_;have z1 := ycV n (show (0 : Int) < w by omega);have z2 := ycj n (show (w : Int) ≠ 0 by omega);have z3 : ((p : Int) - n) % (w : Int) = ((p : Int) - n % (w : Int)) % (w : Int) := by rw [Int.sub_emod (p : Int) n, Int.sub_emod (p : Int) (n % (w : Int))]; simp
   rw [z3];show (if (n % (w:Int)).toNat <= p then (p:Int) - (n % (w:Int)).toNat else (p:Int) - (n % (w:Int)).toNat + w)=_;generalize n % (w:Int)=k at z1 z2;by_cases c2:k.toNat <= p
   ·rw [if_pos c2,ybx (1:) (1:)]; omega
   ·rw [if_neg c2,<- ycp,ybx (1:) (1:)]; omega
 ·by_cases c : n = 0
  ·refine ⟨_,ziH hL.1 λ p hp=>.inl ?_⟩;have:=h p hp;omega
  ·have mb:∀ q:Nat,(zaP ((List.range w).filter λ q:Nat=>decide (0 <= (q:Int) + n /\ (q:Int) + n < w /\ ls.getD ((q:Int) + n).toNat 0=(q:Int)))).testBit q=true ↔ q < w /\ 0 <= (q:Int) + n /\ (q:Int) + n < w /\ ls.getD ((q:Int) + n).toNat 0=(q:Int):=λ q=>by
    rw [zay,decide_eq_true_iff,yaB,yat,decide_eq_true_iff]
   refine ⟨.copy (zaP ((List.range w).filter λ q:Nat=>decide (0 <= (q:Int) + n /\ (q:Int) + n < w /\ ls.getD ((q:Int) + n).toNat 0=(q:Int)))) n,⟨c,by omega,n2,zeg λ x hx=>yat.mp (yaB.mp hx).1,λ p hp=>?_⟩,zeW hL.1 λ p hp=>?_⟩
   ·have:=(mb p).mp hp;exact ⟨this.2.1,this.2.2.1⟩
   ·have hv := h p hp;have hb := hL.at hp;show (if inM _ ((p : Int) - n) then (p : Int) - n else (p : Int)) = _;by_cases c2 : ls.getD p 0 = (p : Int) - n
    ·rw [if_pos ?_,c2];unfold inM;rw [yad,decide_eq_true_iff];refine ⟨by omega,(mb _).mpr ⟨by omega,by omega,by omega,?_⟩⟩;rw [show ((((p:Int) - n).toNat:Int) + n).toNat=p by omega];omega
    ·rw [if_neg ?_]
     ·have:=hv.1.resolve_right c2;omega
     ·intro z;unfold inM at z;rw [yad,decide_eq_true_iff] at z;have:=((mb _).mp z.2).2.2.2;rw [show ((((p:Int) - n).toNat:Int) + n).toNat=p by omega] at this;exact c2 (1:)
 ·have mb:∀ q:Nat,(zaP ((List.range w).filter λ q:Nat=>decide (ls.getD q 0=(q:Int) + n))).testBit q=true ↔ q < w /\ ls.getD q 0=(q:Int) + n:=λ q=>by
   rw [zay,decide_eq_true_iff,yaB,yat,decide_eq_true_iff]
  refine ⟨.swap (zaP ((List.range w).filter λ q:Nat=>decide (ls.getD q 0=(q:Int) + n))) n.toNat,⟨by omega,by omega,λ p hp=>?_⟩,zeW hL.1 λ p hp=>?_⟩
  ·obtain ⟨z1, z2⟩ := (mb p).mp hp;have hb := hL.at z1;have hs := h p z1
   have z3:ls.getD (p + n.toNat) 0=(p:Int):=by
    rcases hs with y | y
    ·omega
    ·have := y.2.2
     rwa [z2,show ((p:Int) + n).toNat=p + n.toNat by omega] at this
   refine ⟨by omega,?_⟩;rw [<- Bool.not_eq_true,mb];intro y;omega
  ·have hs := h p hp;have hb := hL.at hp;show (if inM _ ((p : Int) - n.toNat) then (p : Int) - n.toNat else if (zaP _).testBit p then (p : Int) + n.toNat else (p : Int)) = _;by_cases c : ls.getD p 0 = (p : Int)
   ·rw [if_neg ?_, if_neg ?_, c]
    ·rw [mb]; intro y; omega
    ·intro z;unfold inM at z;rw [yad, decide_eq_true_iff, mb] at z;have hs2 := h _ z.2.1;rcases hs2 with y | y
     ·omega
     ·have y3:=y.2.2;rw [z.2.2,show ((((p:Int) - n.toNat).toNat:Int) + n).toNat=p by omega] at y3;omega
   ·obtain ⟨y1, y2, y3⟩ := hs.resolve_left c;rcases y1 with y1 | y1
    ·rw [if_neg ?_, if_pos ((mb p).mpr ⟨hp, y1⟩)]
     ·omega
     ·intro z;unfold inM at z;rw [yad, decide_eq_true_iff, mb] at z;have hs2 := h _ z.2.1;rcases hs2 with y | y
      ·omega
      ·have y4:=y.2.2;rw [z.2.2,show ((((p:Int) - n.toNat).toNat:Int) + n).toNat=p by omega] at y4;omega
    ·rw [if_pos ?_, y1]
     ·omega
     ·unfold inM;rw [yad,decide_eq_true_iff,mb];refine ⟨by omega,by omega,?_⟩;rw [show ((p:Int) - n.toNat).toNat=(ls.getD p 0).toNat by omega,y3];omega
def zfs {w:Nat} {ls:List Int} {d:Dd} (hd:d.ok w) (he:d.led w=ls):Fits w ls:=by
 have hl:ls.length=w:=by rw [<- he,Dd.led_len]
 have g:∀ p,p < w -> ls.getD p 0=d.src w p:=λ p hp=>by rw [<- he,Dd.led_getD _ hp]
 cases d with
 | and m=>
  refine .inl λ p hp=>?_;rw [g p hp];show (if m.testBit p then (p:Int) else -1)=_ \/ (if m.testBit p then (p:Int) else -1)=_;cases m.testBit p
  ·exact .inr rfl
  ·exact .inl rfl
 | or m=>
  refine .inr (.inl λ p hp=>?_);rw [g p hp];show (if m.testBit p then -2 else (p:Int))=_ \/ (if m.testBit p then -2 else (p:Int))=_;cases m.testBit p
  ·exact .inl rfl
  ·exact .inr rfl
 | left n=>
  have hn:n <= w:=hd;by_cases c:n < w
  ·refine .inr (.inr (.inr (.inr ⟨n, by omega, by omega, .inl ?_⟩)));rw [<- he];refine zeq fun p hp => ?_;show (if n <= p then (p : Int) - n else -1) = _;by_cases c2 : n <= p
   ·rw [if_pos c2,if_pos (1:)]
   ·rw [if_neg c2,if_neg (1:)]
  ·refine .inl λ p hp=>.inr ?_;rw [g p hp];show (if n <= p then (p:Int) - n else -1)=_;rw [if_neg (1:)]
 | right n=>
  have hn:n <= w:=hd;by_cases c:n < w
  ·refine .inr (.inr (.inr (.inr ⟨-(n : Int), by omega, by omega, .inl ?_⟩)));rw [<- he];refine zeq fun p hp => ?_;show (if p + n < w then (p : Int) + n else -1) = _;by_cases c2 : p + n < w
   ·rw [if_pos c2,if_pos (1:)]; omega
   ·rw [if_neg c2,if_neg (1:)]
  ·refine .inl λ p hp=>.inr ?_;rw [g p hp];show (if p + n < w then (p:Int) + n else -1)=_;rw [if_neg (1:)]
 | turn n=>
  have hn:n < w:=hd;refine .inr (.inr (.inr (.inr ⟨n,by omega,by omega,.inr (.inl ?_)⟩)));rw [<- he];refine zeq λ p hp=>?_;show (if n <= p then (p:Int) - n else (p:Int) - n + w)=_;by_cases c2:n <= p
  ·rw [if_pos c2,ybx (1:) (1:)]
  ·rw [if_neg c2,<- ycp,ybx (1:) (1:)]
 | gather m=>
  have hm:m < 2 ^ w:=hd
  have e0:ls=(zad m).map (λ x:Nat=>(x:Int)) ++ List.replicate (w - (zad m).length) (-1):=by
   rw [<- he];have:=zaH hm;refine zeW (34:) λ p hp=>?_;show (if p < (zad m).length then ((zad m).getD p 0:Int) else -1)=_;rw [yac,yac];by_cases c:p < (zad m).length
   ·rw [if_pos c,yaO (by simpa using c),yan,yab c]; rfl
   ·rw [if_neg c,yaT (by simpa using c),ybB,if_pos (34:)]; rfl
  have ek:zby ls=(zad m).map (λ x:Nat=>(x:Int)):=by
   rw [e0,zby,yaz,List.filter_eq_self.mpr,ycu.mpr,ybo]
   ·intro x hx;rw [List.eq_of_mem_replicate hx]; decide
   ·intro x hx;obtain ⟨y,_,rfl⟩:=yaf.mp hx;exact decide_eq_true (ybc y)
  refine .inr (.inr (.inl ⟨?_,?_⟩))
  ·rw [ek,yaa]; exact e0
  ·rw [ek];exact ya3.mpr ((zi0 _ _).imp λ {x y} z=>by omega)
 | strew m=>
  have hm:m < 2 ^ w:=hd;have gs:∀ p,p < w -> ls.getD p 0=if m.testBit p then (((zad m).idxOf p:Nat):Int) else -1:=λ p hp=>g p hp
  have ef:za9 ls=zad m:=by
   rw [za7 hm,za9,hl];refine List.filter_congr λ p hp=>?_;rw [gs p (yat.mp hp)];cases m.testBit p
   ·exact decide_eq_false (show ¬ (0:Int) <= -1 by decide)
   ·exact decide_eq_true (ybc _)
  have ek:zby ls=(List.range (zad m).length).map λ i:Nat=>(i:Int):=by
   rw [show zby ls=(za9 ls).map λ j=>ls.getD j 0 from zfJ ls _,ef];refine ybf λ i=>?_;rw [yan,yan];rcases ybH i (zad m).length with c | c
   ·rw [yab c, yaS c];have hb : m.testBit (zad m)[i] = true := za2.mp (yaW c);have e1 : (zad m).getD i 0 = (zad m)[i] := by rw [yac, yab c]; rfl
    show some (ls.getD (zad m)[i] 0)=some (i:Int);rw [gs _ (zdW hm (yaW c)),if_pos hb,<- e1,zda c]
   ·rw [yaI c,yaI (by simpa using c)]; rfl
  refine .inr (.inr (.inr (.inl ⟨?_,λ z=>?_⟩)))
  ·rw [ek,yaa,yaK]
  ·obtain ⟨i, hi, e⟩ := ybb.mp z;have e2 : ls.getD i 0 = -2 := by rw [yac, yab hi, e]; rfl
   rw [gs i (1:)] at e2
   split at e2 <;> omega
 | swap m n=>
  obtain ⟨o1,o2,o3⟩:=hd;have gs:∀ p,p < w -> ls.getD p 0=if inM m ((p:Int) - n) then (p:Int) - n else if m.testBit p then (p:Int) + n else p:=λ p hp=>g p hp
  refine .inr (.inr (.inr (.inr ⟨n,by omega,by omega,.inr (.inr (.inr ⟨by omega,λ p hp=>?_⟩))⟩)));unfold SwP;cases c:inM m ((p:Int) - n) with
  | true=>
   have c0:=c;unfold inM at c;rw [yad,decide_eq_true_iff] at c;have e:=gs p hp;rw [if_pos c0] at e;refine .inr ⟨.inr e,by omega,?_⟩;rw [e];have hb:=o3 _ c.2;have hq:((p:Int) - n).toNat < w:=by omega
   rw [gs _ hq,if_neg ?_,if_pos c.2]
   ·omega
   ·intro z;unfold inM at z;rw [yad,decide_eq_true_iff] at z;have:=(o3 _ z.2).2;rw [show (((((p:Int) - n).toNat:Nat):Int) - n).toNat + n=((p:Int) - n).toNat by omega,c.2] at this;cases this
  | false=>
   have e:=gs p hp;rw [c,if_neg (3:)] at e;cases c2:m.testBit p with
   | true=>
    rw [if_pos c2] at e;have hb:=o3 p c2;refine .inr ⟨.inl e,by omega,?_⟩;rw [e,show ((p:Int) + n).toNat=p + n by omega,gs _ hb.1,if_pos ?_]
    ·omega
    ·rw [show (((p + n:Nat):Int) - n)=(p:Int) by omega,zkQ]; exact c2
   | false=>
    rw [c2,if_neg (3:)] at e;exact .inl e
 | copy m n=>
  obtain ⟨o0,o1,o2,o3,o4⟩:=hd;refine .inr (.inr (.inr (.inr ⟨n,by omega,by omega,.inr (.inr (.inl λ p hp=>?_))⟩)));have e:=g p hp;rw [e];show ((if inM m ((p:Int) - n) then (p:Int) - n else (p:Int))=_ \/ (if inM m ((p:Int) - n) then (p:Int) - n else (p:Int))=_) /\ 0 <= (if inM m ((p:Int) - n) then (p:Int) - n else (p:Int));cases c:inM m ((p:Int) - n) with
  | true=>
   unfold inM at c;rw [yad,decide_eq_true_iff] at c;exact ⟨.inr rfl,c.1⟩
  | false=>exact ⟨.inl rfl,ybc p⟩
def zhI (n:Nat):∀ w:Nat,(List.range w).filter (λ p=>decide (n <= p))=(List.range (w - n)).map λ x=>x + n
 | 0=>by simp
 | w + 1=>by
  rw [yaQ,yaz,zhI n w];by_cases c:n <= w
  ·rw [ya7 (by exact decide_eq_true c), show w + 1 - n = (w - n) + 1 by omega, yaQ, yal];show _ ++ [w] = _ ++ [w - n + n]
   rw [Nat.sub_add_cancel c]
  ·rw [ya8 (by rw [decide_eq_true_iff]; exact c),show w + 1 - n=w - n by omega];simp
noncomputable def byQ (ls:List Int):Int:=ls.getD ((zbv ls).headD 0) 0 - (((zbv ls).headD 0:Nat):Int)
noncomputable def swM (ls:List Int):Nat:=zaP ((zbv ls).filter λ j=>decide (ls.getD j 0 > (j:Int)))
noncomputable def cpM (ls:List Int):Nat:=zaP ((zbv ls).map λ j=>(ls.getD j 0).toNat)
noncomputable def zfY (w:Nat) (ls:List Int):List (Option Dd):=
 [some (.and (zaP (zeE ls))),some (.or (zaP (zeA ls))),some (.gather (zeu ls)),some (.strew (zaP (za9 ls))),some (.turn (-(ls.getD 0 0) % (w:Int)).toNat)] ++
 if zbv ls=[] then [] else [if 0 <= byQ ls then some (.swap (swM ls) (byQ ls).toNat) else none,some (.copy (cpM ls) (-(byQ ls)))]
def zj9 {w:Nat} {f:Nat -> Bool} {c:Nat} {cs:List Nat} (h:(List.range w).filter f=c :: cs):c < w /\ f c=true /\ ∀ j,j < c -> f j=false:=by
 have hm:c ∈ (List.range w).filter f:=by rw [h]; exact yaC
 obtain ⟨h1,h2⟩:=yaB.mp hm;refine ⟨yat.mp h1,h2,λ j hj=>?_⟩;cases z:f j with
 | false=>rfl
 | true=>
  have hj2:j ∈ (List.range w).filter f:=yaB.mpr ⟨yat.mpr (Nat.lt_trans hj (yat.mp h1)),z⟩;have up:=zi0 w f;rw [h] at hj2 up;rcases yav.mp hj2 with y | y
  ·omega
  ·have:=(List.pairwise_cons.mp up).1 j y;omega
def zin {w:Nat} {ls:List Int} (hl:ls.length=w) (h:zbv ls ≠ []):∃ c,(zbv ls).headD 0=c /\ c < w /\ 0 <= ls.getD c 0 /\ ls.getD c 0 ≠ (c:Int) /\ ∀ j,j < c -> ¬ (0 <= ls.getD j 0 /\ ls.getD j 0 ≠ (j:Int)):=by
 cases e:zbv ls with
 | nil=>exact absurd e h
 | cons c cs=>
  unfold zbv at e;rw [hl] at e;obtain ⟨h1,h2,h3⟩:=zj9 e;rw [decide_eq_true_iff] at h2;exact ⟨c,rfl,h1,h2.1,h2.2,λ j hj=>decide_eq_false_iff_not.mp (h3 j hj)⟩
def zqs {w:Nat} {ls:List Int} (hl:ls.length=w) (hn:∀ p,p < w -> 0 <= ls.getD p 0) (h:zbv ls=[]):F1 w ls:=λ p hp=>by
 refine .inl (Decidable.byContradiction λ c=>?_);have:p ∈ zbv ls:=(zeh hl).mpr ⟨hp,hn p hp,c⟩;rw [h] at this;cases this
def zlU {w:Nat} {ls:List Int} {d:Dd} (hw:1 <= w) (hd:d.ok w) (he:d.led w=ls):∃ c,some c ∈ zfY w ls /\ c.ok w /\ c.led w=ls:=by
 have hL:Ld w ls:=by rw [<- he]; exact Dd.led_ld hd
 have hl:=hL.1;have g:∀ p,p < w -> ls.getD p 0=d.src w p:=λ p hp=>by rw [<- he,Dd.led_getD _ hp]
 have viaA:F1 w ls -> ∃ c,some c ∈ zfY w ls /\ c.ok w /\ c.led w=ls:=λ h=>⟨_,yaA _ (.head _),ziH hl h⟩
 have viaG:F3 w ls -> ∃ c,some c ∈ zfY w ls /\ c.ok w /\ c.led w=ls:=λ h=>⟨_,yaA _ (.tail _ (.tail _ (.head _))),gather_led' hL h⟩
 have viaS:F4 w ls -> ∃ c,some c ∈ zfY w ls /\ c.ok w /\ c.led w=ls:=λ h=>⟨_,yaA _ (.tail _ (.tail _ (.tail _ (.head _)))),strew_led' hL h⟩
 cases d with
 | and m=>
  refine viaA λ p hp=>?_;rw [g p hp];show (if m.testBit p then (p:Int) else -1)=_ \/ (if m.testBit p then (p:Int) else -1)=_;cases m.testBit p
  ·exact .inr rfl
  ·exact .inl rfl
 | or m=>
  refine ⟨_,yaA _ (.tail _ (.head _)),znK hl λ p hp=>?_⟩;rw [g p hp];show (if m.testBit p then -2 else (p:Int))=_ \/ (if m.testBit p then -2 else (p:Int))=_;cases m.testBit p
  ·exact .inl rfl
  ·exact .inr rfl
 | left n=>
  have hn:n <= w:=hd;have gs:∀ p,p < w -> ls.getD p 0=if n <= p then (p:Int) - n else -1:=λ p hp=>g p hp
  have ef:za9 ls=(List.range (w - n)).map λ x=>x + n:=by
   rw [<- zhI,za9,hl];refine List.filter_congr λ p hp=>?_;rw [gs p (yat.mp hp)];by_cases c:n <= p
   ·rw [if_pos c,decide_eq_true c]; exact decide_eq_true (1:)
   ·rw [if_neg c,decide_eq_false c]; exact decide_eq_false (3:)
  have ek:zby ls=(List.range (w - n)).map λ i:Nat=>(i:Int):=by
   rw [show zby ls=(za9 ls).map λ j=>ls.getD j 0 from zfJ ls _,ef,ya6];refine yaZ λ x hx=>?_;have:=yat.mp hx;show ls.getD (x + n) 0=(x:Int);rw [gs _ (1:),if_pos (1:)];omega
  refine viaS ⟨by rw [ek,yaa,yaK],λ z=>?_⟩;obtain ⟨i,hi,e⟩:=ybb.mp z;have e2:ls.getD i 0=-2:=by rw [yac,yab hi,e]; rfl
  rw [gs i (1:)] at e2
  split at e2 <;> omega
 | right n=>
  have hn:n <= w:=hd
  have e0:ls=(List.range (w - n)).map (λ x:Nat=>((x + n:Nat):Int)) ++ List.replicate (w - (w - n)) (-1):=by
   rw [<- he];refine zeW (by simp <;> omega) λ p hp=>?_;show (if p + n < w then (p:Int) + n else -1)=_;rw [yac];by_cases c:p + n < w
   ·rw [if_pos c,yaO (34:),yan,yaS (1:)]; rfl
   ·rw [if_neg c,yaT (34:),ybB,if_pos (34:)]; rfl
  have ek:zby ls=(List.range (w - n)).map (λ x:Nat=>((x + n:Nat):Int)):=by
   rw [e0,zby,yaz,List.filter_eq_self.mpr,ycu.mpr,ybo]
   ·intro x hx;rw [List.eq_of_mem_replicate hx]; decide
   ·intro x hx;obtain ⟨y,_,rfl⟩:=yaf.mp hx;exact decide_eq_true (ybc _)
  refine viaG ⟨?_,?_⟩
  ·rw [ek,yaa,yaK]; exact e0
  ·rw [ek];exact ya3.mpr (ybW.imp λ {x y} z=>by omega)
 | turn n=>
  have hn:n < w:=hd
  have e0:(-(ls.getD 0 0) % (w:Int)).toNat=n:=by
   rw [g 0 hw];show (-(if n <= 0 then ((0:Nat):Int) - n else ((0:Nat):Int) - n + w) % (w:Int)).toNat=n;by_cases c:n <= 0
   ·rw [if_pos c,show -(((0:Nat):Int) - n)=(n:Int) by omega,ybx (1:) (1:)]; omega
   ·rw [if_neg c,<- ycp,show -(((0:Nat):Int) - n + w) + (w:Int)=(n:Int) by omega,ybx (1:) (1:)]; omega
  refine ⟨.turn n,yaA _ ?_,hd,he⟩;rw [e0];exact .tail _ (.tail _ (.tail _ (.tail _ (.head _))))
 | gather m=>
  refine ⟨.gather m,yaA _ ?_,hd,he⟩;rw [show zeu ls=m by rw [<- he]; exact ziM hd];exact .tail _ (.tail _ (.head _))
 | strew m=>
  refine ⟨.strew m,yaA _ ?_,hd,he⟩;rw [show zaP (za9 ls)=m by rw [<- he]; exact zkl hd];exact .tail _ (.tail _ (.tail _ (.head _)))
 | swap m n=>
  have hd0:=hd;obtain ⟨o1,o2,o3⟩:=hd;have gs:∀ p,p < w -> ls.getD p 0=if inM m ((p:Int) - n) then (p:Int) - n else if m.testBit p then (p:Int) + n else p:=λ p hp=>g p hp
  have nn:∀ p,p < w -> 0 <= ls.getD p 0:=λ p hp=>by
   rw [gs p hp];cases c:inM m ((p:Int) - n) with
   | true=>
    unfold inM at c;rw [yad,decide_eq_true_iff] at c;exact c.1
   | false=>rw [if_neg (3:)]; split <;> omega
  have lowB:∀ p,p < w -> inM m ((p:Int) - n)=true -> ls.getD p 0=(p:Int) - n /\ n <= p /\ m.testBit (p - n)=true:=λ p hp c=>by
   have e:=gs p hp;rw [if_pos c] at e;unfold inM at c;rw [yad,decide_eq_true_iff] at c;exact ⟨e,by omega,by rw [<- c.2]; congr 1; omega⟩
  have upB:∀ p,m.testBit p=true -> p < w /\ ls.getD p 0=(p:Int) + n:=λ p hb=>by
   have h3:=(o3 p hb).1;refine ⟨by omega,?_⟩;cases c:inM m ((p:Int) - n) with
   | true=>
    obtain ⟨_,z1,z2⟩:=lowB p (1:) c;have:=(o3 _ z2).2;rw [Nat.sub_add_cancel z1,hb] at this;cases this
   | false=>rw [gs p (1:),c,if_neg (3:),if_pos hb]
  by_cases hc:zbv ls=[]
  ·exact viaA (zqs hl nn hc)
  ·obtain ⟨c0, e0, k1, k2, k3, k4⟩ := zin hl hc
   have hb0:m.testBit c0=true:=by
    cases z:m.testBit c0 with
    | true=>rfl
    | false=>
     exfalso;cases y:inM m ((c0:Int) - n) with
     | true=>
      obtain ⟨_,z1,z2⟩:=lowB c0 k1 y;obtain ⟨y1,y2⟩:=upB _ z2;exact k4 (c0 - n) (1:) ⟨by rw [y2]; omega,by rw [y2]; omega⟩
     | false=>
      have:=gs c0 k1;rw [y,z,if_neg (3:),if_neg (3:)] at this;exact k3 this
   have eb:byQ ls=(n:Int):=by
    unfold byQ;rw [e0,(upB c0 hb0).2];omega
   have em:swM ls=m:=by
    refine ybN λ p=>?_;unfold swM;rw [zay];cases z:m.testBit p with
    | true=>
     obtain ⟨y1,y2⟩:=upB p z;refine decide_eq_true (yaB.mpr ⟨(zeh hl).mpr ⟨y1,nn p y1,by omega⟩,decide_eq_true (1:)⟩)
    | false=>
     refine decide_eq_false λ y=>?_;obtain ⟨y1,y2⟩:=yaB.mp y;obtain ⟨x1,x2,x3⟩:=(zeh hl).mp y1;rw [decide_eq_true_iff] at y2;cases c:inM m ((p:Int) - n) with
     | true=>have:=(lowB p x1 c).1; omega
     | false=>
      have:=gs p x1;rw [c,z,if_neg (3:),if_neg (3:)] at this;omega
   refine ⟨.swap m n,?_,hd0,he⟩;unfold zfY;rw [if_neg hc,eb,em,if_pos (ybc n),yaw];exact yay _ (.head _)
 | copy m n=>
  have hd0:=hd;obtain ⟨o0,o1,o2,o3,o4⟩:=hd;have gs:∀ p,p < w -> ls.getD p 0=if inM m ((p:Int) - n) then (p:Int) - n else (p:Int):=λ p hp=>g p hp
  have inB:∀ p:Nat,inM m ((p:Int) - n)=true -> 0 <= (p:Int) - n /\ m.testBit ((p:Int) - n).toNat=true:=λ p c=>by
   unfold inM at c;rw [yad,decide_eq_true_iff] at c;exact c
  have nn:∀ p,p < w -> 0 <= ls.getD p 0:=λ p hp=>by
   rw [gs p hp];cases c:inM m ((p:Int) - n) with
   | true=>exact (inB p c).1
   | false=>rw [if_neg (3:)]; omega
  by_cases hc:zbv ls=[]
  ·exact viaA (zqs hl nn hc)
  ·obtain ⟨c0, e0, k1, k2, k3, k4⟩ := zin hl hc
   have eb:byQ ls=-n:=by
    unfold byQ;rw [e0];cases c:inM m ((c0:Int) - n) with
    | true=>rw [gs c0 k1,c,if_pos rfl]; omega
    | false=>
     have:=gs c0 k1;rw [c,if_neg (3:)] at this;exact absurd this k3
   have em:cpM ls=m:=by
    refine ybN λ p=>?_;unfold cpM;rw [zay];cases z:m.testBit p with
    | true=>
     obtain ⟨y1,y2⟩:=o4 p z;have hq:((p:Int) + n).toNat < w:=by omega
     have hin:inM m ((((p:Int) + n).toNat:Int) - n)=true:=by
      unfold inM;rw [yad,decide_eq_true_iff];refine ⟨by omega,?_⟩;rw [show ((((p:Int) + n).toNat:Int) - n).toNat=p by omega];exact z
     have e1:=gs _ hq;rw [if_pos hin] at e1;refine decide_eq_true (yaf.mpr ⟨((p:Int) + n).toNat,(zeh hl).mpr ⟨hq,by omega,by omega⟩,by omega⟩)
    | false=>
     refine decide_eq_false λ y=>?_;obtain ⟨j,y1,y2⟩:=yaf.mp y;obtain ⟨x1,x2,x3⟩:=(zeh hl).mp y1;cases c:inM m ((j:Int) - n) with
     | true=>
      have e1:=gs j x1;rw [if_pos c] at e1;have:=(inB j c).2;rw [<- e1,y2,z] at this;cases this
     | false=>
      have e1:=gs j x1;rw [c,if_neg (3:)] at e1;exact x3 e1
   refine ⟨.copy m n,?_,hd0,he⟩;unfold zfY;rw [if_neg hc,eb,em,Int.neg_neg];exact yay _ (.tail _ (.head _))
open Classical in
noncomputable def trF (w:Nat) (ls:List Int):Option Dd -> Option Dd
 | some d=>if d.ok w /\ d.led w=ls then some d else none
 | none=>none
noncomputable def trD (w:Nat) (ls:List Int):Option Dd:=(zfY w ls).findSome? (trF w ls)
def znw {w:Nat} {ls:List Int} {c:Option Dd} {d:Dd} (h:trF w ls c=some d):c=some d /\ d.ok w /\ d.led w=ls:=by
 cases c with
 | none=>cases h
 | some e=>
  by_cases z:e.ok w /\ e.led w=ls
  ·have h2:trF w ls (some e)=some e:=if_pos z;rw [h2] at h;cases h;exact ⟨rfl,z⟩
  ·have h2:trF w ls (some e)=none:=if_neg z;rw [h2] at h;cases h
def zjk {w:Nat} {ls:List Int} {d:Dd} (h1:d.ok w) (h2:d.led w=ls):trF w ls (some d)=some d:=if_pos ⟨h1,h2⟩
def zlb {w:Nat} {ls:List Int} {d:Dd} (h:¬ (d.ok w /\ d.led w=ls)):trF w ls (some d)=none:=if_neg h
def zjv {w:Nat} {ls:List Int} {d:Dd} (h:trD w ls=some d):d.ok w /\ d.led w=ls:=by
 obtain ⟨c,_,hc⟩:=List.exists_of_findSome?_eq_some h;exact (znw hc).2
def zm8 {w:Nat} {ls:List Int} (hw:1 <= w) (h:trD w ls=none):¬ Fits w ls \/ ¬ Ld w ls:=by
 by_cases hL:Ld w ls
 ·refine .inl λ hf=>?_;obtain ⟨d,h1,h2⟩:=zl8 hw hL hf;obtain ⟨c,h3,h4,h5⟩:=zlU hw h1 h2;have:=List.findSome?_eq_none_iff.mp h _ h3;rw [zjk h4 h5] at this;cases this
 ·exact .inr hL
def zjO {w:Nat} {ls:List Int} (hw:1 <= w) (hL:Ld w ls):Fits w ls ↔ ∃ d,trD w ls=some d:=by
 constructor
 ·intro hf;cases h : trD w ls with
  | some d=>exact ⟨d,rfl⟩
  | none=>exact ((zm8 hw h).elim (λ z=>z hf) λ z=>z hL).elim
 ·rintro ⟨d,h⟩;obtain ⟨h1,h2⟩:=zjv h;exact zfs h1 h2
noncomputable def CdAt (H:Hp) (t:Addr):Option Dd -> Prop
 | some d=>H t=some (.tup d.vals)
 | none=>∃ (m:Nat) (n:Int),n < 0 /\ H t=some (.tup [.str "swap",nV m,.int n])
def CdAt.same {H H':Hp} {t:Addr} {c:Option Dd} (h:CdAt H t c) (s:Same H H'):CdAt H' t c:=by
 cases c with
 | some d=>exact s _ _ h
 | none=>obtain ⟨m,n,h1,h2⟩:=h; exact ⟨m,n,h1,s _ _ h2⟩
noncomputable abbrev Cds (H:Hp):List Addr -> List (Option Dd) -> Prop:=Paired (CdAt H)
def Cds.same {H H':Hp} (s:Same H H'):∀ {ts:List Addr} {cs:List (Option Dd)},Cds H ts cs -> Cds H' ts cs
 | _,_,.nil=>.nil
 | _,_,.cons r t=>.cons (CdAt.same r s) (Cds.same s t)
def Cds.app {H:Hp}:∀ {ts us:List Addr} {cs ds:List (Option Dd)},Cds H ts cs -> Cds H us ds -> Cds H (ts ++ us) (cs ++ ds)
 | _,_,_,_,.nil,s=>s
 | _,_,_,_,.cons r t,s=>.cons r (Cds.app t s)
def Cds.drop {H:Hp}:∀ {ts:List Addr} {cs:List (Option Dd)} {j:Nat} {t:Addr},Cds H ts cs -> ts[j]?=some t -> ∃ c,cs.drop j=c :: cs.drop (j + 1) /\ CdAt H t c
 | _,_,_,_,.nil,e=>by simp at e
 | _,_,0,_,.cons (b:=c) r _,e=>by simp at e; subst e; exact ⟨c,rfl,r⟩
 | _,_,j + 1,_,.cons _ t,e=>Cds.drop (j:=j) t (64:)
noncomputable def zoB (ls:List Int):List (Option Dd):=if zbv ls=[] then [] else [if 0 <= byQ ls then some (.swap (swM ls) (byQ ls).toNat) else none,some (.copy (cpM ls) (-(byQ ls)))]
noncomputable def zk4:Sp:=λ vs H Q _=>∃ (a:Addr) (ls:List Int) (w:Nat),vs=[.ref a] /\ H a=some (.tup (ls.map V.int)) /\ Ld w ls /\ 1 <= w /\ w <= 64 /\
 ∀ (l:Addr) (ts:List Addr) (H':Hp),H l=none -> Same H H' -> ts.length <= 2 -> H' l=some (.lst (ts.map V.ref)) -> Cds H' ts (zoB ls) -> Q (.ref l) H'
noncomputable def zhU:Sp:=λ vs H Q _=>∃ (a:Addr) (ls:List Int) (w:Nat),vs=[.ref a] /\ H a=some (.tup (ls.map V.int)) /\ Ld w ls /\ 1 <= w /\ w <= 64 /\
 ∀ (l:Addr) (ts:List Addr) (H':Hp),H l=none -> Same H H' -> ts.length <= 7 -> H' l=some (.lst (ts.map V.ref)) -> Cds H' ts (zfY w ls) -> Q (.ref l) H'
noncomputable def zqp (H:Hp) (v:V):Option Dd -> Prop
 | some d=>∃ t,v=.ref t /\ H t=some (.tup d.vals)
 | none=>v=.non
noncomputable def znU:Sp:=λ vs H Q _=>∃ (a:Addr) (ls:List Int) (w:Nat),vs=[.ref a] /\ H a=some (.tup (ls.map V.int)) /\ Ld w ls /\ 1 <= w /\ w <= 64 /\
 ∀ (v:V) (H':Hp),Same H H' -> zqp H' v (trD w ls) -> Q v H'
end L2
namespace PySem
section
variable {prog:Program} {w:World} {K:Type} [DecidableEq K] {knd:HeapKind prog w K} {A:Around} {E:Value -> Shared -> Prop} {s:Shared}
def zfO {d a:Addr} {xs:List (K × Addr × Value)} {k:K} {v:Value} {Q:Value -> Shared -> Prop} (hu:knd.room A) (hkey:knd.is s.heap k a) (hm:s.heap.DictOfH knd d xs)
  (h1:∀ u,(atKey xs k).map (·.2)=some u -> Q u { s with toks:=s.toks + knd.draws k })
  (h2:atKey xs k=none -> ∀ h',h'.DictOfH knd d (storedH xs k a v) -> Heap.SameBut d s.heap h' -> Q v { s with heap:=h',toks:=s.toks + knd.draws k })
  (hsz:xs.length <= sizeLine) :
  wpAny (model prog w) A (dictSetDefault d (.ref a) v) Q E s:=by
 obtain ⟨o,es,ep,ho,hc,hd,he,his,hn⟩:=hm;unfold dictSetDefault
 try with_reducible refine wpAny_holding ?_
 refine wpAny_bind (knd.pyHash hu hkey ?_);refine wpAny_bind (wpAny_dictFind_heap (s:={ s with toks:=s.toks + knd.draws k }) hu hkey ho hd he his hn ?_ ?_)
 ·intro hno;have hnot : k ∉ xs.map (·.1) := not_mem_keys_of_get hno
  refine wpAny_bind (wpAny_rule (wpAny_bind (wpAny_updateDictKeys (hz:=by have e:=size_of_entries he; omega) (s:={ s with toks:=s.toks + knd.draws k }) ho hd (wpAny_pure (h2 (atKey_none_of_get hno) _ ⟨_,_,ep + 1,ybG _ ho (Obj.isFreed_of_dict (Obj.data_mapDictKeys hd _)),
   hc.mapDictKeys _,Obj.data_mapDictKeys hd _,?_,?_,?_⟩ (ybv ..))))))
  ·rw [storedH_new (atKey_none_of_get hno)];simp [he,entryOfKey]
  ·rw [storedH_new (atKey_none_of_get hno)];intro x hx;rcases yas.mp hx with hx | hx
   ·exact knd.keeps (his x hx) ho hd (ybv ..)
   ·simp only [yah] at hx;subst hx;exact knd.keeps hkey ho hd (ybv ..)
  ·rw [storedH_new (atKey_none_of_get hno)];rw [yal,ycv];refine ⟨hn,by simp,?_⟩;intro x hx y hy;simp only [yaP,ycU,yah] at hy;subst hy;exact λ e=>hnot (e ▸ hx)
 ·intro j p hj;refine wpAny_bind (wpAny_dictEntries (s:={ s with toks:=s.toks + knd.draws k }) ho hd ?_);rw [entry_at he j,hj];refine wpAny_bind (wpAny_rule (wpAny_pure (h1 _ ?_)));rw [atKey_of_get hn hj];rfl
end
def zeF {prog:Program} {w:World} {K:Type} [DecidableEq K] (knd:HeapKind prog w K) (d a:Addr) (hd:(d == sysModules)=false) (dflt:Value) :
  MeetsIn prog w (Builtin.«dict.setdefault» ⟨[.ref d,.ref a,dflt],[]⟩) (λ A R s=>knd.room A.in1 /\ ∃ k xs,knd.is s.heap k a /\ s.heap.DictOfH knd d xs /\ xs.length <= sizeLine /\
   (∀ u,(atKey xs k).map (·.2)=some u -> R (.ok (.ret u)) { s with toks:=s.toks + knd.draws k }) /\
   (atKey xs k=none -> ∀ h',h'.DictOfH knd d (storedH xs k a dflt) -> Heap.SameBut d s.heap h' -> R (.ok (.ret dflt)) { s with heap:=h',toks:=s.toks + knd.draws k })):=
 .of_wp λ A R s ⟨hu,k,xs,hkey,hm,hz,h1,h2⟩=>by
  unfold Builtin.«dict.setdefault»;refine wpAny_bind ?_;unfold Builtin.Dict.keyAndDefault;refine wpAny_bind (wpAny_notOrdered_dict hm.typeIs ?_);show wpAny _ _ (pure (d,Value.ref a,some dflt)) _ _ s;refine wpAny_pure ?_;show wpAny _ _ (if (d == sysModules)=true then _ else (dictSetDefault d (.ref a) dflt >>= _)) _ _ s;rw [if_neg (by rw [hd]; exact yaD)];exact wpAny_bind (zfO hu hkey hm (λ v hv=>wpAny_pure ⟨v,rfl,h1 v hv⟩) (λ hn h' hm' hs'=>wpAny_pure ⟨dflt,rfl,h2 hn h' hm' hs'⟩) hz)
def zkB {prog:Program} {w:World} {K:Type} [DecidableEq K] (knd:HeapKind prog w K) (d:Addr) (hd:(d == sysModules)=false) :
  MeetsIn prog w (Builtin.«dict.__len__» ⟨[.ref d],[]⟩) (λ _ R s=>∃ xs,s.heap.DictOfH knd d xs /\ R (.ok (.ret (.int xs.length s.toks))) { s with toks:=s.toks + 1 }):=
 .of_wp λ A R s ⟨kvs,hm,h⟩=>by
  obtain ⟨o,es,ep,ho,hc,hdat,hk,hp,hn⟩:=hm;show wpAny _ _ (dictSize d >>= _) _ _ s;unfold dictSize;refine wpAny_bind (wpAny_bind (wpAny_dictEntries ho hdat (wpAny_pure ?_)));show wpAny _ _ (Builtin.Dict.pendingCount d >>= _) _ _ s;refine wpAny_bind (wpAny_pendingCount_other hd ?_);refine wpAny_ret_mkInt ?_;have:es.size=kvs.length:=size_of_entries hk;rw [Nat.add_zero,this]; exact h
def zmH {prog:Program} {w:World} {K:Type} [DecidableEq K] {knd:HeapKind prog w K} {A:Around} {E:Value -> Shared -> Prop} {s:Shared} {d:Addr} {kvs:List (K × Addr × Value)} {Q:Value -> Shared -> Prop} (hd:(d == sysModules)=false) (hm:s.heap.DictOfH knd d kvs) (hfit:(kvs.length:Int) < 2 ^ 63)
  (h:Q (.int kvs.length (s.toks + 1)) { s with toks:=s.toks + 1 + 1 }):wpAny (model prog w) A (call (.builtin "len") [.ref d]) Q E s:=by
 refine yb9 kind_len plain_len entry_len (args_len1 _) ?_;unfold Builtin.«len»;refine wpAny_bind (m:=oneArg "len" _) (wpAny_pure ?_)
 refine wpAny_bind (m:=callSpecial? (.ref d) (Str.ofString "__len__")) (wpAny_callSpecial?_slot (name:=Str.ofString "__len__") hm.typeIs F.slot_dict_len
  (call_meetsIn F.slot_dict_len hm.typeIs F.entry_dict_len (F.args_dict_len_1 _) (zkB knd d hd) ⟨kvs,hm,?_⟩))
 show wpAny _ _ _ _ _ { s with toks:=s.toks + 1 };refine wpAny_bind (wpAny_holding (wpAny_pure ?_));refine wpAny_bind (wpAny_letGo ?_);show wpAny _ _ (if ((kvs.length:Nat):Int) < 0 then _ else _) _ _ _;rw [if_neg (1:)];show wpAny _ _ (if ((kvs.length:Nat):Int) >= 2 ^ 63 then _ else _) _ _ _;rw [if_neg (1:)];exact wpAny_bind (wpAny_mkInt (wpAny_pure ⟨_,rfl,h⟩))
end PySem
namespace L2
open PySem PySem.Spec PyProof.Rows Bm
section
variable {X:Cx} {o e f:Expr} {apos cpos:Pos} {td ty tx:TE}
noncomputable def znO (td ty tx:TE):TE:=λ σ H Q=>td σ H λ x H1=>∃ a,x=.ref a /\ IsD H1 a /\ ty σ H1 λ y H2=>tx σ H2 λ z H3=>∃ (kvs:List (List Key × V)) (k:List Key) (b:Addr),H3 a=some (.dT kvs) /\ y=.ref b /\ H3 b=some (.tup (k.map kV)) /\ kvs.length < sizeLine /\
 (∀ v,valV kvs k=some v -> Q v H3) /\ (valV kvs k=none -> Q z (upd H3 a (.dT (kvs ++ [(k,z)]))))
def zna (hu:X.A.units + 64 < cLine) (ho:PE X o td) (he:PE X e ty) (hf:PE X f tx) (h1:attributeBase o "setdefault" X.env (eval o X.env)=eval o X.env:=by rfl)
  (h2:((backTo cpos (starEach [e,f] X.env)).all (λ x=>!x.1) && (backToKw cpos (keywordEach [] X.env)).all (λ x=>x.1.isSome) && decide (([e,f]:List Expr).length + ([]:List Keyword).length + (if ([]:List Keyword).isEmpty then 0 else 1) < 30))=true:=by rfl)
  (h3:(apos.endLine == cpos.line)=true:=by rfl) (h4:backTo cpos (starEach [e,f] X.env)=[(false,eval e X.env),(false,eval f X.env)]:=by rfl):PE X (.Call (.Attribute o "setdefault" apos) [e,f] [] cpos) (znO td ty tx):=by
 intro pins s σ H Q I h;refine wpAny_Call_method h1 h2 h3 PySem.F.plainAttrs_dict PySem.F.slot_dict_setdefault PySem.F.type_dict_setdefault (thn (ho pins s σ H _ I h) λ u s1 ⟨x,H1,I1,rx,a,ex,d,q1⟩=>?_);subst ex;obtain rfl:u=Value.ref a:=rx;obtain ⟨t1,t2,_⟩:=znL I1 d;refine ⟨t1,t2,?_⟩;rw [h4]
 refine ybV rfl (ycI (ybA (thn (he pins s1 σ H1 _ I1 q1) λ iv s2 ⟨y,H2,I2,ry,q2⟩=>
  ybA (thn (hf pins s2 σ H2 _ I2 q2) λ fv s3 ⟨z,H3,I3,rz,kvs,k,b,e3,ey,eb,l,q3,q4⟩=>yb1 ?_))))
 subst ey;cases (show iv=Value.ref b from ry);obtain ⟨z1,hd,xs,rel,dd⟩:=zoK I3.hok e3;have hz:xs.length <= sizeLine:=by rw [<- ybi rel]; exact z1
 refine call_meetsIn PySem.F.slot_dict_setdefault dd.typeIs PySem.F.entry_dict_setdefault (PySem.F.args_dict_setdefault_3 _ _ _) (zeF (tupleKind (zaN X.prog X.w)) a b hd fv) ⟨tupleKind_room_in1 (show X.A.units + 1 < cLine by omega),k,xs,zeO I3.hok eb,dd,hz,λ u hu'=>?_,λ hn h' dd' hs=>?_⟩
 ·have := rel.val k;rw [hu'] at this;cases ev : valV kvs k with
  | none=>rw [ev] at this; exact this.elim
  | some v=>rw [ev] at this; exact ⟨v,H3,I3.tok _,this,q3 v ev⟩
 ·have hv:valV kvs k=none:=by
   have:=rel.val k;rw [hn] at this;cases ev:valV kvs k with
   | none=>rfl
   | some v=>rw [ev] at this; exact this.elim
  obtain ⟨q,es,ep,hq,g2,g3,g4,_,g5⟩:=dd';refine ⟨z,_,?_,rz,q4 hv⟩;rw [<- zjH z hv];have hl:(putK kvs k z).length <= sizeLine:=by have:=zcl kvs k z; omega
  refine zgH I3 (by rw [e3]; exact True.intro) hs ⟨q,hq⟩ ⟨hl,hd,_,(rel.put k eb rz).keeps λ c ys ec=>?_,q,es,ep,hq,g2,g3,g4,g5⟩;rw [zan (zbY ec e3 (λ z=>nomatch z))];exact ec
def zlZ (hu:X.A.units + 64 < cLine) (ho:PE X o td) (he:PE X e ty) (hf:PE X f tx) (h1:attributeBase o "get" X.env (eval o X.env)=eval o X.env:=by rfl)
  (h2:((backTo cpos (starEach [e,f] X.env)).all (λ x=>!x.1) && (backToKw cpos (keywordEach [] X.env)).all (λ x=>x.1.isSome) && decide (([e,f]:List Expr).length + ([]:List Keyword).length + (if ([]:List Keyword).isEmpty then 0 else 1) < 30))=true:=by rfl)
  (h3:(apos.endLine == cpos.line)=true:=by rfl) (h4:backTo cpos (starEach [e,f] X.env)=[(false,eval e X.env),(false,eval f X.env)]:=by rfl):PE X (.Call (.Attribute o "get" apos) [e,f] [] cpos) (zmz td ty tx):=
 zns (ya4 (ybD (3:) _) hu) ho he hf ⟨h1,h2,h3,h4⟩
noncomputable def zrm:List V -> Hp -> VK -> Prop:=λ xs H Q=>∃ (a:Addr) (kvs:List (List Key × V)),xs=[.ref a] /\ Rd H a (.dT kvs) /\ Q (nV kvs.length) H
def zmm:zb1 X (.builtin "len") zrm:=by
 intro pins s σ H xs us Q I r h;obtain ⟨a,kvs,rfl,hq,q⟩:=h;obtain ⟨u,rfl,ru⟩:=r.one;cases ru;obtain ⟨z1,z2,xs,rel,dd⟩:=zhR I.hok hq;have hx:kvs.length=xs.length:=ybi rel;refine zmH z2 dd (by rw [sizeLine_eq] at z1; omega) ⟨nV kvs.length,H,I.tok _,?_,q⟩;rw [<- hx];exact ⟨_,rfl⟩
end
section
variable {σ:St} {H:Hp} {Q:VK} {td ty tx:TE}
def zoV (h:td σ H λ x H1=>∃ a,x=.ref a /\ IsD H1 a /\ ty σ H1 λ y H2=>tx σ H2 λ z H3=>∃ (kvs:List (List Key × V)) (k:List Key) (b:Addr),H3 a=some (.dT kvs) /\ y=.ref b /\ H3 b=some (.tup (k.map kV)) /\ kvs.length < sizeLine /\
 (∀ v,valV kvs k=some v -> Q v H3) /\ (valV kvs k=none -> Q z (upd H3 a (.dT (kvs ++ [(k,z)]))))):znO td ty tx σ H Q:=h
def zoX (h:td σ H λ x H1=>∃ a,x=.ref a /\ IsD H1 a /\ ty σ H1 λ y H2=>tx σ H2 λ z H3=>∃ o,DGet H3 a y o /\ Q (o.getD z) H3):zmz td ty tx σ H Q:=h
end
def zh4 {w:Nat} {L:List (Addr × Dd)} {e:Addr × Dd}:rowL w (dds (L ++ [e]))=zaA (rowL w (dds L)) (e.2.led w):=by
 unfold rowL dds;rw [yal,ybR];rfl
def zjz {w:Nat} {M:List (Addr × Dd)}:∀ {n:Nat} {x:List Int},Rn (steps w M) w n x ↔ ∃ L:List (Addr × Dd),L.length=n /\ (∀ e ∈ L,e ∈ M) /\ rowL w (dds L)=x
 | 0,x=>⟨λ h=>⟨[],rfl,nofun,h.symm⟩,λ ⟨L,h1,_,h3⟩=>by
  rw [ybp.mp h1] at h3;exact h3.symm⟩
 | n + 1,x=>by
  constructor
  ·rintro ⟨y, s, h1, h2, rfl⟩;obtain ⟨L, z1, z2, rfl⟩ := zjz.mp h1;obtain ⟨e, he, rfl⟩ := zbI.mp h2;refine ⟨L ++ [e], by rw [yam, z1]; rfl, fun f hf => ?_, zh4⟩;rcases yas.mp hf with z | z
   ·exact z2 f z
   ·rw [yah.mp z]; exact he
  ·rintro ⟨L, h1, h2, rfl⟩;have hne : L ≠ [] := fun z => by rw [z] at h1; cases h1
   have e:=ybY hne;rw [<- e] at h1 h2 ⊢;rw [zh4];refine ⟨_,_,zjz.mpr ⟨L.dropLast,by rw [yam] at h1; exact Nat.succ.inj h1,λ f hf=>h2 f (yaA _ hf),rfl⟩,zbI.mpr ⟨_,h2 _ (yay _ (yah.mpr rfl)),rfl⟩,rfl⟩
noncomputable def zh7 (M:List (Addr × Dd)) (R:List (List (Addr × Dd))):List (List (Addr × Dd)):=R.flatMap λ r=>M.map λ d=>r ++ [d]
noncomputable def zeX (M:List (Addr × Dd)):Nat -> List (List (Addr × Dd))
 | 0=>[[]]
 | n + 1=>zh7 M (zeX M n)
def zd1 {M:List (Addr × Dd)}:∀ {n:Nat} {L:List (Addr × Dd)},L ∈ zeX M n ↔ L.length=n /\ ∀ e ∈ L,e ∈ M
 | 0,L=>by
  show L ∈ [[]] ↔ _;rw [yah];exact ⟨λ h=>by rw [h]; exact ⟨rfl,nofun⟩,λ h=>ybp.mp h.1⟩
 | n + 1,L=>by
  show L ∈ (zeX M n).flatMap _ ↔ _;rw [ycG];constructor
  ·rintro ⟨r, hr, hL⟩;obtain ⟨d, hd, rfl⟩ := yaf.mp hL;obtain ⟨h1, h2⟩ := zd1.mp hr;refine ⟨by rw [yam, h1]; rfl, fun f hf => ?_⟩;rcases yas.mp hf with z | z
   ·exact h2 f z
   ·rw [yah.mp z]; exact hd
  ·rintro ⟨h1, h2⟩;have hne : L ≠ [] := fun z => by rw [z] at h1; cases h1
   have e:=ybY hne;rw [<- e] at h1 h2 ⊢;exact ⟨_,zd1.mpr ⟨by rw [yam] at h1; exact Nat.succ.inj h1,λ f hf=>h2 f (yaA _ hf)⟩,yaf.mpr ⟨_,h2 _ (yay _ (yah.mpr rfl)),rfl⟩⟩
def zhM {M:List (Addr × Dd)}:∀ n,(zeX M n).length=M.length ^ n
 | 0=>rfl
 | n + 1=>by
  show ((zeX M n).flatMap _).length=_;rw [List.length_flatMap,show (λ (a:List (Addr × Dd))=>(M.map λ d=>a ++ [d]).length)=λ _=>M.length from funext λ a=>yaa ..,List.map_const',List.sum_replicate_nat,zhM n,Nat.pow_succ]
structure Trd (S:List (List Int)) (w n:Nat) (F:List (List Int × Nat)):Prop where
 all:∀ x m,(x,m) ∈ F ↔ m <= n /\ Dst S w m x
 once:(F.map (·.1)).Nodup
structure TrdM (S:List (List Int)) (w n:Nat) (F:List (List Int × Nat)) (D:List (List Int)):Prop where
 all:∀ x m,(x,m) ∈ F ↔ (m <= n /\ Dst S w m x) \/ (m=n + 1 /\ Dst S w (n + 1) x /\ x ∈ D)
 once:(F.map (·.1)).Nodup
section
variable {S:List (List Int)} {w n:Nat} {F:List (List Int × Nat)} {D:List (List Int)} {x:List Int}
def Trd.zero:Trd S w 0 [(zaJ w,0)]:=⟨(Ring.start S w).all,(Ring.start S w).once⟩
def Trd.mid (h:Trd S w n F):TrdM S w n F []:=⟨λ x m=>(h.all x m).trans ⟨.inl,λ z=>z.elim id λ z=>(nomatch z.2.2)⟩,h.once⟩
def TrdM.old (h:TrdM S w n F D) (hx:x ∈ F.map (·.1)):TrdM S w n F (D ++ [x]):=by
 refine ⟨λ y m=>?_,h.once⟩;rw [h.all];constructor
 ·rintro (z | ⟨z1, z2, z3⟩)
  ·exact .inl z
  ·exact .inr ⟨z1,z2,yaA _ z3⟩
 ·rintro (z | ⟨z1, z2, z3⟩)
  ·exact .inl z
  ·rcases yas.mp z3 with z3 | z3
   ·exact .inr ⟨z1,z2,z3⟩
   ·rw [yah.mp z3] at z2 ⊢;obtain ⟨q, hq, rfl⟩ := yaf.mp hx;rcases (h.all q.1 q.2).mp hq with ⟨q1, q2⟩ | ⟨q1, q2, q3⟩
    ·have:=z2.one q2; omega
    ·exact .inr ⟨z1,z2,q3⟩
def TrdM.add (h:TrdM S w n F D) (hx:x ∉ F.map (·.1)) (hr:Rn S w (n + 1) x):TrdM S w n (F ++ [(x,n + 1)]) (D ++ [x]):=by
 have hd:Dst S w (n + 1) x:=by
  obtain ⟨m,hm,d⟩:=hr.least;by_cases c:m=n + 1
  ·rw [<- c]; exact d
  ·exact absurd (yaf.mpr ⟨(x,m),(h.all x m).mpr (.inl ⟨by omega,d⟩),rfl⟩) hx
 refine ⟨λ y m=>?_,?_⟩
 ·rw [yas, h.all, yah, Prod.mk.injEq, yas, yah];constructor
  ·rintro ((z | ⟨z1, z2, z3⟩) | ⟨rfl, rfl⟩)
   ·exact .inl z
   ·exact .inr ⟨z1,z2,.inl z3⟩
   ·exact .inr ⟨rfl,hd,.inr rfl⟩
  ·rintro (z | ⟨z1, z2, z3 | z3⟩)
   ·exact .inl (.inl z)
   ·exact .inl (.inr ⟨z1,z2,z3⟩)
   ·exact .inr ⟨z3,z1⟩
 ·rw [yal];refine ycv.mpr ⟨h.once,by simp,λ a ha b hb z=>?_⟩;rw [z,yah.mp hb] at ha;exact hx ha
def TrdM.done (h:TrdM S w n F D) (hD:∀ x,Rn S w (n + 1) x -> x ∈ D):Trd S w (n + 1) F:=by
 refine ⟨λ y m=>?_,h.once⟩;rw [h.all];constructor
 ·rintro (⟨z1, z2⟩ | ⟨rfl, z2, z3⟩)
  ·exact ⟨by omega,z2⟩
  ·exact ⟨yag _,z2⟩
 ·rintro ⟨z1, z2⟩;by_cases c : m <= n
  ·exact .inl ⟨c,z2⟩
  ·have : m = n + 1 := by omega
   subst this;exact .inr ⟨rfl,z2,hD y z2.1⟩
def TrdM.len (h:TrdM S w n F D) (hS:∀ s ∈ S,Ld w s):F.length <= (w + 2) ^ w:=by
 have:=zei (w:=w) h.once λ x hx=>by
  obtain ⟨q,hq,rfl⟩:=yaf.mp hx;rcases (h.all q.1 q.2).mp hq with z | z
  ·exact z.2.1.ld hS
  ·exact z.2.1.1.ld hS
 rw [yaa] at this;exact this
def Trd.len (h:Trd S w n F) (hS:∀ s ∈ S,Ld w s):F.length <= (w + 2) ^ w:=h.mid.len hS
def Trd.ld (h:Trd S w n F) (hS:∀ s ∈ S,Ld w s):∀ q ∈ F,Ld w q.1:=λ q hq=>((h.all q.1 q.2).mp hq).2.1.ld hS
def Trd.reach {G:List (Nat × List Int)} (h:Trd S w n F) (hG:∀ m x,(m,x) ∈ G ↔ Dst S w m x) (nod:G.Nodup):(G.filter λ q=>decide (q.1 < n + 1)).length=F.length:=by
 have e:(F.map λ q=>(q.2,q.1)).length=F.length:=yaa ..;rw [<- e];refine ((List.perm_ext_iff_of_nodup (nod.filter _) ?_).mpr λ q=>?_).length_eq
 ·exact ya3.mpr ((ya3.mp h.once).imp λ {a b} z e=>z (Prod.mk.inj e).2)
 ·rw [yaB, decide_eq_true_iff, yaf, hG q.1 q.2];constructor
  ·rintro ⟨z1,z2⟩;exact ⟨(q.2,q.1),(h.all q.2 q.1).mpr ⟨by omega,z1⟩,rfl⟩
  ·rintro ⟨a,ha,rfl⟩;have:=(h.all a.1 a.2).mp ha;exact ⟨this.2,by show a.2 < n + 1; omega⟩
end
noncomputable def hasB (w:Nat):Bool:=((List.range (2 ^ w)).all λ (m:Nat)=>decide ((0,[(m:Int)]) ∈ lawF w) && decide ((1,[(m:Int)]) ∈ lawF w) && decide ((6,[(m:Int)]) ∈ lawF w) && decide ((7,[(m:Int)]) ∈ lawF w) &&
  ((List.range w).all λ (n:Nat)=>!okD w (.swap m n) || decide ((5,[(m:Int),(n:Int)]) ∈ lawF w)) && (List.range (2 * w)).all λ (j:Nat)=>!okD w (.copy m ((j:Int) - w)) || decide ((8,[(m:Int),(j:Int) - w]) ∈ lawF w)) &&
 ((List.range (w + 1)).all λ (n:Nat)=>decide ((2,[(n:Int)]) ∈ lawF w) && decide ((3,[(n:Int)]) ∈ lawF w)) && (List.range w).all λ (n:Nat)=>decide ((4,[(n:Int)]) ∈ lawF w)
def zrf:hasB 1=true:=by decide +kernel
def zrv:hasB 2=true:=by decide +kernel
def zq8:hasB 3=true:=by decide +kernel
def znG {w m n:Nat} (h:(Dd.swap m n).ok w):m < 2 ^ w:=ybJ _ λ i hi=>by
 cases e:m.testBit i with
 | false=>rfl
 | true=>have:=(h.2.2 i e).1; omega
def zp4 {w:Nat}:∀ {d:Dd},d.ok w -> okD w d=true
 | .and m,h=>decide_eq_true (show m < 2 ^ w from h)
 | .or m,h=>decide_eq_true (show m < 2 ^ w from h)
 | .left m,h=>decide_eq_true (show m <= w from h)
 | .right m,h=>decide_eq_true (show m <= w from h)
 | .turn m,h=>decide_eq_true (show m < w from h)
 | .gather m,h=>decide_eq_true (show m < 2 ^ w from h)
 | .strew m,h=>decide_eq_true (show m < 2 ^ w from h)
 | .swap m n,h=>by
  have hm:=znG h;obtain ⟨h1,h2,h3⟩:=h;simp only [okD,yad,decide_eq_true_eq,ya1,yat,ybP,ybl];refine ⟨⟨⟨h1,h2⟩,hm⟩,λ p _=>?_⟩;cases e:m.testBit p with
  | false=>exact .inl rfl
  | true=>exact .inr (h3 p e)
 | .copy m n,h=>by
  obtain ⟨h1,h2,h3,h4,h5⟩:=h;simp only [okD,yad,decide_eq_true_eq,ya1,yat,ybP,ybl];refine ⟨⟨⟨⟨h1,h2⟩,h3⟩,h4⟩,λ p _=>?_⟩;cases e:m.testBit p with
  | false=>exact .inl rfl
  | true=>exact .inr (h5 p e)
def zoO {w:Nat} (h1:1 <= w) (h3:w <= 3) {d:Dd} (hd:d.ok w):∃ e ∈ lawF w,cnv e=d:=by
 have hB:hasB w=true:=by
  match w,h1,h3 with
  | 1,_,_=>exact zrf
  | 2,_,_=>exact zrv
  | 3,_,_=>exact zq8
 have hO:=zp4 hd;simp only [hasB,yad,decide_eq_true_eq,ya1,yat,ybP,ybl] at hB;obtain ⟨⟨b1,b2⟩,b3⟩:=hB;cases d with
 | and m=>exact ⟨_,(b1 m hd).1.1.1.1.1,by simp [cnv]⟩
 | or m=>exact ⟨_,(b1 m hd).1.1.1.1.2,by simp [cnv]⟩
 | gather m=>exact ⟨_,(b1 m hd).1.1.1.2,by simp [cnv]⟩
 | strew m=>exact ⟨_,(b1 m hd).1.1.2,by simp [cnv]⟩
 | left n=>exact ⟨_,(b2 n (Nat.lt_succ_of_le hd)).1,by simp [cnv]⟩
 | right n=>exact ⟨_,(b2 n (Nat.lt_succ_of_le hd)).2,by simp [cnv]⟩
 | turn n=>exact ⟨_,b3 n hd,by simp [cnv]⟩
 | swap m n=>
  rcases (b1 m (znG hd)).1.2 n hd.2.1 with z | z
  ·rw [hO] at z; cases z
  ·exact ⟨_,z,by simp [cnv]⟩
 | copy m n=>
  obtain ⟨c1,c2,c3,c4,c5⟩:=hd;have ej:(((n + w).toNat:Nat):Int) - w=n:=by omega
  rcases (b1 m c4).2 (n + w).toNat (1:) with z | z
  ·rw [ej,hO] at z; cases z
  ·exact ⟨_,z,by rw [ej]; simp [cnv]⟩
def zmV {w:Nat} (h1:1 <= w) (h3:w <= 3) {L:List (Addr × En)} (e:ens L=lawF w) {d:Dd} (hd:d.ok w):d.led w ∈ steps w (asDd L):=by
 obtain ⟨x,hx,rfl⟩:=zoO h1 h3 hd;rw [<- e] at hx;obtain ⟨q,hq,rfl⟩:=yaf.mp hx;exact zbI.mpr ⟨(q.1,cnv q.2),yaf.mpr ⟨q,hq,rfl⟩,rfl⟩
def znZ {w:Nat} (h1:1 <= w) (h3:w <= 3) {L:List (Addr × En)} (e:ens L=lawF w):∀ {n:Nat} {ds:List Dd},ds.length=n -> (∀ d ∈ ds,d.ok w) -> Rn (steps w (asDd L)) w n (rowL w ds):=λ {n}=>by
 induction n with
 | zero=>intro ds h _; rw [ybp.mp h]; rfl
 | succ n ih=>
  intro ds h hk;have hne:ds ≠ []:=λ z=>by rw [z] at h; cases h
  have e2:=ybY hne;rw [<- e2] at h hk ⊢;refine ⟨rowL w ds.dropLast,(ds.getLast hne).led w,ih (by rw [yam] at h; exact Nat.succ.inj h) λ d hd=>hk d (yaA _ hd),zmV h1 h3 e (hk _ (yay _ (yah.mpr rfl))),?_⟩;unfold rowL;rw [ybR];rfl
noncomputable def tabR (w:Nat):List (List Nat):=match w with
 | 1=>[[3],[0],[]]
 | 2=>[[7],[0,5],[6,15],[5],[0,6],[0],[9],[2],[6],[1],[28],[],[5,15],[12],[15],[29]]
 | _=>[[15],[0,11],[14,26],[9,56],[11],[0,13],[0,9],[18,9],[9,45],[4,9],[14,25],[42,9],[10,26,58],[12,25],[10,29],[13],[2,9],[12,30],[9,55],[9],[11,26],[9,37],[10,26],[9,31],[9,58],[0,14],[0,10],[18,10],[9,17],[4,10],[0,12],[0],[18],[2,17],[4],[10,17],[42],[17,55],[17],[5,29],[2,12],[2],[3,30],[2,55],[6],[4,9,26],[4,21],[5,26],[6,31],[4,58],[14],[1,10],[10,53],[12,31],[10],[1,12],[1],[1,53],[45],[5],[10,56],[1,52],[52,53],[56],[52],[12],[3],[53],[55],[],[10,31],[37],[26,57],[31],[58],[12,59],[12,21],[12,26],[9,17,57],[9,29],[34,12],[34],[3,26],[34,53],[6,29],[12,29],[3,29],[26,58],[17,57],[29],[12,54],[2,54],[26,52],[54,53],[54],[9,26],[21],[26],[21,53],[59],[11,25],[22,10],[10,30],[9,25],[10,57],[22,12],[22],[5,30],[6,25],[4,57],[10,25],[5,25],[25,55],[25],[25,53],[9,30],[6,30],[30],[25,58],[57],[9,25,56],[21,54],[25,56],[25,52],[57,52]]
noncomputable def tabD (w:Nat):List (List Dd):=(tabR w).map λ r=>r.map λ i=>cnv ((lawF w).getD i (0,[0]))
noncomputable def allL:Nat -> Nat -> List (List Int)
 | _,0=>[[]]
 | w,k + 1=>(List.range (w + 2)).flatMap λ (i:Nat)=>(allL w k).map λ r=>((i:Int) - 2) :: r
def zjG {w:Nat}:∀ {k:Nat} {ls:List Int},ls.length=k -> (∀ x ∈ ls,-2 <= x /\ x < w) -> ls ∈ allL w k
 | 0,ls,h,_=>by rw [ybp.mp h]; exact yah.mpr rfl
 | k + 1,[],h,_=>by cases h
 | k + 1,x :: ls,h,hx=>by
  have h0:=hx x (yaC ..);refine ycG.mpr ⟨(x + 2).toNat,yat.mpr (1:),yaf.mpr ⟨ls,zjG (Nat.succ.inj h) (λ y hy=>hx y (yau _ hy)),?_⟩⟩;rw [show (((x + 2).toNat:Nat):Int) - 2=x by omega]
noncomputable def tabB (w:Nat):Bool:=((tabD w).all λ r=>r.all (okD w)) && (allL w w).all λ ls=>((tabD w).map (rowL w)).contains ls
def zra:tabB 1=true:=by decide +kernel
def zrH:tabB 2=true:=by decide +kernel
def zq4:tabB 3=true:=by decide +kernel
def zoJ {w:Nat} (h1:1 <= w) (h3:w <= 3) {ls:List Int} (hl:Ld w ls):∃ ds:List Dd,(∀ d ∈ ds,d.ok w) /\ rowL w ds=ls:=by
 have hB:tabB w=true:=by
  match w,h1,h3 with
  | 1,_,_=>exact zra
  | 2,_,_=>exact zrH
  | 3,_,_=>exact zq4
 rw [tabB,yad,ya1,ya1] at hB;have:=hB.2 ls (zjG hl.1 λ x hx=>hl.2 x hx);obtain ⟨ds,hd,rfl⟩:=yaf.mp (List.contains_iff_mem.mp this);exact ⟨ds,λ d hd'=>zn6 (ya1.mp (hB.1 ds hd) d hd'),rfl⟩
def zlc {w:Nat} (h1:1 <= w) (h3:w <= 3) {L:List (Addr × En)} (e:ens L=lawF w) {ls:List Int} (hl:Ld w ls):∃ n,Dst (steps w (asDd L)) w n ls:=by
 obtain ⟨ds,hd,rfl⟩:=zoJ h1 h3 hl;obtain ⟨m,_,d⟩:=(znZ h1 h3 e rfl hd).least;exact ⟨m,d⟩
def zkP {w:Nat} (h1:1 <= w) (h3:w <= 3) {L:List (Addr × En)} (e:ens L=lawF w) {ds:List Dd} (hd:∀ d ∈ ds,d.ok w) {n:Nat} (d:Dst (steps w (asDd L)) w n (rowL w ds)):n <= ds.length:=by
 obtain ⟨m,hm,d'⟩:=(znZ h1 h3 e rfl hd).least;rw [d.one d'];exact hm
def zob {w:Nat} (h1:1 <= w) (h3:w <= 3) {L:List (Addr × En)} (e:ens L=lawF w) (ok:∀ q ∈ asDd L,q.2.ok w) {ls:List Int} (hl:Ld w ls) {n:Nat} (d:Dst (steps w (asDd L)) w n ls):n < 2 ↔ ∃ c,trD w ls=some c:=by
 rw [<- zjO h1 hl];constructor
 ·intro h;by_cases c : n = 0
  ·subst c;have hs := Dst.zero.mp d;have hk : (Dd.turn 0).ok w := h1;refine zfs hk ?_;rw [hs]
   match w,h1,h3 with
   | 1,_,_=>decide +kernel
   | 2,_,_=>decide +kernel
   | 3,_,_=>decide +kernel
  ·have : n = 0 + 1 := by omega
   subst this;obtain ⟨y,s,hy,hs,rfl⟩:=d.last;rw [Dst.zero.mp hy];obtain ⟨q,hq,rfl⟩:=zbI.mp hs;rw [zgh (Dd.led_ld (ok q hq))];exact zfs (ok q hq) rfl
 ·intro h;obtain ⟨c,hc⟩:=(zjO h1 hl).mp h;obtain ⟨k1,k2⟩:=zjv hc;have:=zkP h1 h3 e (ds:=[c]) (λ d hd=>by rw [yah.mp hd]; exact k1) (n:=n) (by rw [show rowL w [c]=ls from (zgh (Dd.led_ld k1)).trans k2]; exact d);exact Nat.lt_succ_of_le this
def Dd.ok_of {w:Nat} {d:Dd} (hw:1 <= w) (h:zdm w d.vals=true):d.ok w:=by
 have msk:∀ (s:Str) (m:Nat),inS ["left","right","turn"] (.str s)=false -> zdm w [.str s,nV m]=true -> m < 2 ^ w:=λ s m e z=>by
  rw [show nV m=.int (m:Int) from rfl,ziw e,yad,yad,decide_eq_true_iff,decide_eq_true_iff] at z;exact ycW.mp z.2.2
 have lft:∀ (s:Str) (m:Nat),inS ["left","right","turn"] (.str s)=true -> eqS "turn" (.str s)=false -> zdm w [.str s,nV m]=true -> m <= w:=λ s m e e2 z=>by
  rw [show nV m=.int (m:Int) from rfl,zfL e,e2,if_neg (3:),yad,decide_eq_true_iff,decide_eq_true_iff] at z;have:=z.2;omega
 have out:∀ (s:Str) (m:Nat) (n:V),¬ m < 2 ^ w -> zdm w [.str s,nV m,n]=false:=λ s m n hm=>zhV (x:=(m:Int)) (by
  rw [decide_eq_false (show ¬ (m:Int) < ((2 ^ w:Nat):Int) from λ z=>hm (ycW.mp z)),Bool.and_false])
 cases d with
 | and m=>exact msk "and" m (20:) h
 | or m=>exact msk "or" m (20:) h
 | gather m=>exact msk "gather" m (20:) h
 | strew m=>exact msk "strew" m (20:) h
 | left n=>exact lft "left" n (20:) (20:) h
 | right n=>exact lft "right" n (20:) (20:) h
 | turn n=>
  have h:zdm w [.str "turn",.int (n:Int)]=true:=h;rw [zfL (20:),if_pos (20:),yad,decide_eq_true_iff,decide_eq_true_iff] at h;have:=h.2;show n < w;omega
 | swap m n=>
  have h:zdm w [.str "swap",nV m,.int (n:Int)]=true:=h;by_cases hm:m < 2 ^ w
  ·rw [zeI hm] at h;simp only [yad,decide_eq_true_eq] at h;obtain ⟨⟨h1,h2⟩,h3,h4⟩:=h;rw [yaw] at h4;refine ⟨by omega,by omega,λ p hp=>⟨?_,zfl.mp h4 p hp⟩⟩;have:=(zek.mp h3 p hp).2;omega
  ·rw [out _ _ _ hm] at h; cases h
 | copy m n=>
  have h:zdm w [.str "copy",nV m,.int n]=true:=h;by_cases hm:m < 2 ^ w
  ·rw [zf8 hm] at h;simp only [yad,decide_eq_true_eq,bne_iff_ne,ne_eq] at h;obtain ⟨⟨⟨h1,h2⟩,h3⟩,h4⟩:=h;exact ⟨h3,by omega,by omega,hm,λ p hp=>zek.mp h4 p hp⟩
  ·rw [out _ _ _ hm] at h; cases h
def CdAt.deedIs {H:Hp} {w:Nat} {t:Addr} {c:Option Dd} (hw:1 <= w) (h:CdAt H t c):∃ r,zji w H (.ref t) r /\ (r=true ↔ ∃ d,c=some d /\ d.ok w):=by
 cases c with
 | some d=>
  have h:H t=some (.tup d.vals):=h;refine ⟨_,.inl ⟨t,_,rfl,⟨h,λ x hx=>(d.kx x hx).kd,by cases d <;> simp [Dd.vals],λ x r e _=>d.kx x (by rw [e]; exact yaC)⟩,rfl⟩,?_⟩;exact ⟨λ z=>⟨d,rfl,Dd.ok_of hw z⟩,λ ⟨e,he,z⟩=>by cases he; exact Dd.deedV_ok z⟩
 | none=>
  obtain ⟨m,n,hn,h⟩:∃ (m:Nat) (n:Int),n < 0 /\ H t=some (.tup [.str "swap",nV m,.int n]):=h
  have kx:∀ x ∈ ([.str "swap",nV m,.int n]:List V),Kx H x:=λ x hx=>by
   simp only [yav,ya2,or_false] at hx;rcases hx with rfl | rfl | rfl
   ·exact .str _ (20:)
   ·exact .int _
   ·exact .int _
  refine ⟨false,.inl ⟨t,_,rfl,⟨h,λ x hx=>(kx x hx).kd,by simp,λ x r e _=>kx x (by rw [e]; exact yaC)⟩,?_⟩,by simp⟩;by_cases hm:m < 2 ^ w
  ·rw [zeI hm,decide_eq_false (show ¬ 1 <= n by omega)]; rfl
  ·exact (zhV (x:=(m:Int)) (by rw [decide_eq_false (show ¬ (m:Int) < ((2 ^ w:Nat):Int) from λ z=>hm (ycW.mp z)),Bool.and_false])).symm
noncomputable def zht (K:PySem.W.Frag):Sp:=λ vs H Q _=>∃ (w:Nat) (m l:Addr) (L:List (Addr × Dd)) (ls:List Int),vs=[.ref l,.ref m] /\ zhk K H m L /\ Rw H w L /\ 1 <= w /\ w <= 3 /\ L.length <= 1000 /\ H l=some (.tup (ls.map V.int)) /\ Ld w ls /\
 (∀ H',Same H H' -> (∀ n,¬ Dst (steps w L) w n ls) -> Q .non H') /\
 ∀ (H':Hp) (p:Addr) (R:List (Addr × Dd)) (n:Nat),Same H H' -> H p=none -> Dst (steps w L) w n ls -> H' p=some (.lst (rowV R)) -> (∀ e ∈ R,e ∈ L) -> R.length=n -> rowL w (dds R)=ls -> Q (.ref p) H'
noncomputable def RwsN (H:Hp) (w n:Nat) (R:List (Addr × List (Addr × Dd))):Prop:=∀ q ∈ R,H q.1=some (.lst (rowV q.2)) /\ Rw H w q.2 /\ q.2.length=n
noncomputable def zdD (R:List (Addr × List (Addr × Dd))):List V:=R.map λ q=>V.ref q.1
def RwsN.keep {H H':Hp} {w n:Nat} {R:List (Addr × List (Addr × Dd))} (h:RwsN H w n R) (s:Same H H'):RwsN H' w n R:=λ q hq=>⟨s _ _ (h q hq).1,(h q hq).2.1.same s,(h q hq).2.2⟩
def zcI (R:List (Addr × List (Addr × Dd))):(zdD R).length=R.length:=yaa ..
def zhs (R S:List (Addr × List (Addr × Dd))):zdD (R ++ S)=zdD R ++ zdD S:=yal ..
noncomputable def zjq:Sp:=λ vs H Q _=>∃ (r m:Addr) (w n:Nat) (R:List (Addr × List (Addr × Dd))) (M:List (Addr × Dd)),vs=[.ref r,.ref m] /\ H r=some (.lst (zdD R)) /\ RwsN H w n R /\ H m=some (.lst (rowV M)) /\ Rw H w M /\ M.length <= 6 /\ R.length <= 36 /\ n <= 3 /\
 ∀ (p:Addr) (R':List (Addr × List (Addr × Dd))) (H':Hp),H p=none -> Same H H' -> H' p=some (.lst (zdD R')) -> RwsN H' w (n + 1) R' -> R'.map (·.2)=zh7 M (R.map (·.2)) -> Q (.ref p) H'
noncomputable def zlW:Sp:=λ vs H Q _=>∃ (m:Addr) (w:Nat) (M:List (Addr × Dd)),vs=[nV w,.ref m] /\ H m=some (.lst (rowV M)) /\ Rw H w M /\ M.length <= 6 /\ 1 <= w /\ w <= 3 /\
 ∀ (d:Addr) (o:Obj) (F:List (List Int × Nat)) (H':Hp),Same H H' -> Frz H' d o (KnD F) -> Trd (steps w M) w 3 F -> Q (.ref d) H'
noncomputable def zgk:Sp:=λ vs H Q _=>∃ (l:Addr) (w:Nat) (ls:List Int),vs=[.ref l] /\ H l=some (.tup (ls.map V.int)) /\ Ld w ls /\ 1 <= w /\ w <= 3 /\ ∀ H',Same H H' -> Q (.bl true) H'
def zmt (M:List (Addr × Dd)) (R:List (List (Addr × Dd))):(zh7 M R).length=R.length * M.length:=by
 unfold zh7;rw [List.length_flatMap,show (λ (a:List (Addr × Dd))=>(M.map λ d=>a ++ [d]).length)=λ _=>M.length from funext λ a=>yaa ..,List.map_const',List.sum_replicate_nat]
def zky (M:List (Addr × Dd)) (R:List (List (Addr × Dd))) (r:List (Addr × Dd)):zh7 M (R ++ [r])=zh7 M R ++ M.map λ d=>r ++ [d]:=by
 unfold zh7;rw [ycR];simp
def RwsN.app {H:Hp} {w n:Nat} {R S:List (Addr × List (Addr × Dd))} (h:RwsN H w n R) (k:RwsN H w n S):RwsN H w n (R ++ S):=λ q hq=>(yas.mp hq).elim (h q) (k q)
def RwsN.upd {H:Hp} {w n:Nat} {R:List (Addr × List (Addr × Dd))} {p:Addr} {xs ys:List V} (h:RwsN H w n R) (hp:H p=some (.lst xs)) (hn:∀ q ∈ R,q.1 ≠ p):RwsN (upd H p (.lst ys)) w n R:=λ q hq=>by
 obtain ⟨h1,h2,h3⟩:=h q hq;refine ⟨by rw [zan (hn q hq)]; exact h1,λ e he=>⟨?_,(h2 e he).2⟩,h3⟩;have:=(h2 e he).1;rw [zan (zbY this hp nofun)];exact this
def RwsN.but {H H':Hp} {w n:Nat} {R:List (Addr × List (Addr × Dd))} {f:Addr} {kvs:List (List Key × V)} (h:RwsN H w n R) (k:zaw f H H') (hf:H f=some (.dT kvs)):RwsN H' w n R:=λ q hq=>by
 obtain ⟨h1,h2,h3⟩:=h q hq;exact ⟨k _ _ (zbY h1 hf nofun) h1,λ e he=>⟨k _ _ (zbY (h2 e he).1 hf nofun) (h2 e he).1,(h2 e he).2⟩,h3⟩
def zmK (F:List (List Int × Nat)) (x:List Int) (n:Nat):KnD (F ++ [(x,n)])=KnD F ++ [(kI x,nV n)]:=by rw [KnD,KnD,yal]; rfl
def TrdM.rows {w n:Nat} {M:List (Addr × Dd)} {F:List (List Int × Nat)} {R:List (Addr × List (Addr × Dd))} (h:TrdM (steps w M) w n F (R.map λ q=>rowL w (dds q.2))) (e:R.map (·.2)=zeX M (n + 1)):Trd (steps w M) w (n + 1) F:=
 h.done λ x hx=>by
  obtain ⟨L,h1,h2,rfl⟩:=zjz.mp hx;have:L ∈ R.map (·.2):=by rw [e]; exact zd1.mpr ⟨h1,h2⟩
  obtain ⟨q,hq,rfl⟩:=yaf.mp this;exact yaf.mpr ⟨q,hq,rfl⟩
def zk8 {K:PySem.W.Frag} {H:Hp} {Q:VK} {w:Nat} {a b:Addr} {L:List (Addr × Dd)} (ha:H a=some (.lst (rowV L))) (hL:Rw H w L) (hb:H b=some (.lst [])) (h:Q (.bl (decide (L=[]))) H):rEqU K (.ref a) (.ref b) H Q:=by
 refine ⟨.list ((dds L).map Dd.dat),.list ((dds []).map Dd.dat),zlo ha hL,DatV.list (SqL.of hb) .nil,zij _,zij _,?_⟩
 rw [show PyData.eqv (.list ((dds L).map Dd.dat)) (.list ((dds []).map Dd.dat))=decide (L=[]) by
  cases L with
  | nil=>simp [PyData.eqv,PyData.eqvAll,dds]
  | cons x L=>simp [PyData.eqv,PyData.eqvAll,dds]]
 exact h
def zkU (xs:List V) (k:Nat):cutV xs none (some (k:Int))=xs.take k:=by
 by_cases h:k <= xs.length
 ·exact znx xs k h
 ·unfold cutV;rw [HT.sIx_nat];show (xs.drop 0).take (min k xs.length - 0)=_;rw [List.drop_zero,Nat.sub_zero,Nat.min_eq_right (1:),yaq (yag _),yaq (1:)]
def zmB {K:PySem.W.Frag} {a:Addr} {xs:List V} {k:Nat} {H:Hp} {Q:VK} (ha:H a=some (.lst xs)) (h:∀ t H',H t=none -> Same H H' -> H' t=some (.lst (xs.take k)) -> Q (.ref t) H'):rSlU K (.ref a) none (some (k:Int)) H Q:=
 .inl ⟨a,xs,rfl,SqL.of ha,λ p hp=>by rw [zkU xs k]; exact h p _ hp (zal hp) zah⟩
def Trd.keys {S:List (List Int)} {w n:Nat} {F:List (List Int × Nat)} (h:Trd S w n F) (hS:∀ s ∈ S,Ld w s) (hw:w <= 64):AllT w (KnD F):=λ kv hkv=>by
 obtain ⟨q,hq,rfl⟩:=yaf.mp hkv;have l:=h.ld hS q hq;exact ⟨q.1,rfl,l.1,λ e he=>by have:=l.2 e he; omega⟩
def Trd.get {S:List (List Int)} {w n:Nat} {F:List (List Int × Nat)} (h:Trd S w n F) {q:List Int × Nat} (hq:q ∈ F):valV (KnD F) (kI q.1)=some (nV q.2):=by
 rcases KnD.val (ls:=q.1) (F:=F) with ⟨q1,_⟩ | ⟨n0,q1,q2⟩
 ·exact absurd (yaf.mpr ⟨_,hq,rfl⟩) q1
 ·rw [q2,((h.all q.1 n0).mp q1).2.one ((h.all q.1 q.2).mp hq).2]
end L2
set_option maxHeartbeats 0
open L2 in
local macro_rules | `(tactic| walk_at "pv")=>`(tactic| exact ⟨rfl,by first | exact Or.inl rfl | exact Or.inr (.inl rfl) | exact Or.inr (.inr rfl),by decide,by decide⟩)
open L2 in
local macro_rules | `(tactic| walk_at "vis")=>`(tactic| first | exact .inl rfl | exact .inr rfl | assumption)
open L2 in
local macro_rules | `(tactic| walk_at "lk2")=>`(tactic| first | assumption | exact zah | (refine (?h:∀ o,upd _ _ o _=some (HO.lst _)) _; (case h=>assumption)))
open L2 in
local macro_rules | `(tactic| walk_at "lk")=>`(tactic| first | assumption | exact zah | exact SqL.of (by walk_at "lk2") | exact SqT.of (by walk_at "lk2") | (refine (?h:∀ o,upd _ _ o _=some (HO.lst _)) _; (case h=>assumption)))
open L2 in
local macro_rules | `(tactic| walk_at "side")=>`(tactic| first | omega | decide | exact ⟨by omega,by omega⟩ | exact ⟨by omega,by omega,by omega⟩ | exact .inl ⟨by omega,by omega⟩ | exact .inr ⟨by omega,by omega⟩)
open L2 in
local macro_rules | `(tactic| walk_at "sz")=>`(tactic| (refine small5 ?_; first | omega | (simp only [yaa,yam,ybq,List.length_nil,yaK,yaV,Bm.bitsB]; omega)))
open L2 in
local macro_rules | `(tactic| walk_at "st")=>`(tactic| first
  | (with_reducible first | refine zrz ?_ | refine s_nx ?_ | refine s_rt ?_ | refine zrh ?_ | refine zoh ?_)
  | ((with_reducible refine zrn (v:=?v) ?e ?_); (case e=>exact rfl))
  | (with_reducible first | refine s_c ?_ | refine s_op ?_ | refine zqH ?_ | refine zrg ?_ | refine zq7 ?_)
  | ((with_reducible refine s_ri ?c ?_); (case c=>walk_at "side"))
  | (with_reducible first | refine zoQ ?_)
  | ((with_reducible refine znc ?c ?_); (case c=>walk_at "side"))
  | (with_reducible first | refine zqw ?_ | refine zpy ?_ | refine zpA ?_)
  | ((with_reducible refine zoE ?e ?_); (case e=>decide +kernel))
  | ((with_reducible refine zpd ?e ?_); (case e=>decide +kernel))
  | ((with_reducible refine zrt (xs:=?xs) ?hq ?e ?_); (case hq=>walk_at "lk"); (case e=>decide +kernel))
  | ((with_reducible refine zrb (xs:=?xs) ?hq ?e ?_); (case hq=>walk_at "lk"); (case e=>decide +kernel))
  | ((with_reducible refine zqY (xs:=?xs) ?hq ?e ?_); (case hq=>walk_at "lk"); (case e=>decide +kernel))
  | ((with_reducible refine zpt (xs:=?xs) ?hq ?e ?_); (case hq=>walk_at "lk"); (case e=>decide +kernel))
  | (with_reducible first | refine zq9 ?_ | refine s_if ?_ | refine zqG ?_ | refine s_b ?_ | refine zrk ?_ | refine zrF ?_ | refine s_or ?_ | refine zrl ?_ | refine zpJ ?_ | refine zpO ?_ | refine s_un ?_ | refine s_ru ?_ | refine s_cb ?_ | refine zpI ?_ | refine zrr ?_ | refine zrJ ?_ | refine zqK ?_ | refine zqT ?_ | refine zpc ?_ | refine zqt ?_ | refine zqf ?_ | refine zqI ?_ | refine zqQ ?_ | refine zqa ?_ | refine zrC ?_ | refine zpR ?_ | refine zlp ?_ | refine s_sl ?_ | refine znz ?_ | refine zp2 ?_ | refine zqR ?_)
  | ((with_reducible refine zpN (xs:=?xs) ?hq ?_); (case hq=>walk_at "lk"))
  | ((with_reducible refine zq3 (xs:=?xs) ?hq ?_); (case hq=>walk_at "lk"))
  | ((with_reducible refine zhK (xs:=?xs) (v:=?v) ?hq ?h0 ?e ?_); (case hq=>walk_at "lk"); (case h0=>decide); (case e=>exact rfl))
  | ((with_reducible refine zgo (xs:=?xs) (v:=?v) ?hq ?h0 ?e ?_); (case hq=>walk_at "lk"); (case h0=>decide); (case e=>exact rfl))
  | ((with_reducible refine zpu (xs:=?xs) (j:=?j) ?hp ?e ?_); (case hp=>walk_at "lk"); (case e=>exact rfl); (try rw [zlE]))
  | (with_reducible first | refine zq6 ?_ | refine zrs ?_ | refine zrI ?_ | refine zrj ?_ | refine zpY ?_ | refine zqu ?_)
  | ((with_reducible refine znu (xs:=?xs) ?hq ?_); (case hq=>walk_at "lk"))
  | (with_reducible first | refine zqj ?_ | refine zp0 ?_)
  | ((with_reducible refine zpj (xs:=?xs) ?hq ?hl ?_); (case hq=>walk_at "lk"); (case hl=>exact rfl))
  | ((with_reducible refine zpr ?e ?_); (case e=>exact rfl))
  | ((with_reducible refine zql ?e ?f ?_); (case e=>exact rfl); (case f=>exact rfl))
  | (with_reducible first | refine zrG ?_)
  | ((with_reducible refine zro (xs:=?xs) ?hq ?_); (case hq=>walk_at "lk"))
  | ((with_reducible refine zqD (xs:=?xs) ?hp ?hz ?_); (case hp=>walk_at "lk"); (case hz=>walk_at "sz"); (try rw [zlE]))
  | (with_reducible first | refine zoN ?_ | refine zqz ?_ | refine zm2 ?_ | refine zp5 ?_)
  | (with_reducible first | refine zpD ?_ | refine zrB ?_ | refine zry ?_ | refine s_bm ?_ | refine iteT ?_ | refine iteF ?_))
open L2 in
local macro_rules | `(tactic| walk_at "go")=>`(tactic| repeat (walk_at "st"))
open L2 in
local macro_rules | `(tactic| walk_at "goI")=>`(tactic| repeat ((fail_if_success (with_reducible refine zpO ?_)); (fail_if_success (with_reducible refine s_if ?_)); walk_at "st"))
namespace PySem.W.Fast
def tw6145565852608256837:=0
def tw1293184227409188148:=0
def tw2074889956738568627:=0
def tw1498162168320465529:=0
def tw14084655909208788234:=0
def tw18089345300158852353:=0
def tw9588584484474247279:=0
def tw13689343798157324550:=0
def tw2315792707635184077:=0
def tw9334917985469409063:=0
def tw9831021917964593856:=0
def tw10338623477557939328:=0
def tw9839884748122659957:=0
def tw12598178208210971908:=0
def tw6420727200034058101:=0
def tw16628227689285486754:=0
def tw17319722607493390681:=0
def tw8303245955804792085:=0
def tw8824924023445489898:=0
def tw15032546752987358748:=0
def tw12832160754400532659:=0
def tw9118780739526333640:=0
def tw7249388017382568056:=0
def tw3479042029227635809:=0
def tw4057613362802351971:=0
def tw6070606436573033206:=0
def tw13107969416823166480:=0
def tw1403200638402211106:=0
def tw2746850895555234679:=0
def tw1264836274933990090:=0
def tw17174009725741367307:=0
def tw12110823617349966600:=0
def tw16359956130773774665:=0
def tw8334006323033892681:=0
def tw1194396228517052848:=0
def tw4320817533782879249:=0
def tw8149961993611697256:=0
def tw4393258100717205304:=0
def tw9122909197793932041:=0
def tw17513203827942056668:=0
def tw8339875646786453089:=0
def tw3466506480626415332:=0
def tw7004888900789171227:=0
def tw18013114128254695285:=0
def tw17778849867297292481:=0
def tw6005336463733107524:=0
def tw17134043729265235997:=0
def tw11744532307716924600:=0
def tw403704437128753935:=0
def tw18000478564329565106:=0
def tw17873991691771707732:=0
def tw5904647971650410236:=0
def tw13470029164369897705:=0
def tw11973362631773878659:=0
def tw16729123902921728171:=0
def tw17506769705437342743:=0
def tw14378783888226710767:=0
def tw15124458943499875252:=0
def tw15805153096719937264:=0
def tw542413151095608706:=0
def tw12602098394289145088:=0
def tw243289264692970771:=0
def tw4604263527564822246:=0
def tw17893319861802984630:=0
def tw7462575947120834828:=0
def tw3752264128603426609:=0
def tw4533504764339254772:=0
def tw15486741420771389910:=0
def tw9977690793957490071:=0
def tw12444953888863649461:=0
def tw1630830109385992804:=0
def tw6845596480710284375:=0
def tw14196285718389898019:=0
def tw17798138194828730911:=0
def tw10121766537356671983:=0
def tw3247241997748619515:=0
def tw5658710362881509825:=0
def tw14594406452571454502:=0
def tw69140091644071216:=0
def tw15607048133501376610:=0
def tw4895287265548488232:=0
def tw10569543926073538211:=0
def tw15170635571582253999:=0
def tw6716299689529103788:=0
def tw5565360135952429672:=0
def tw17427937480298655345:=0
def tw17664784930784077257:=0
def tw3307575519148110521:=0
def tw8075287307256175910:=0
def tw8338774245582810205:=0
def tw18033219187831198568:=0
def tw12977376213974597521:=0
def tw5831551625103121247:=0
def tw2667404725154318224:=0
def tw3967214255570949642:=0
def tw10377378290043277333:=0
def tw10189164886657710996:=0
def tw13900910619065805799:=0
def tw10535157934612199125:=0
def tw11841377288645696943:=0
def tw10834045142232915503:=0
def tw9788411781529391114:=0
def tw9911390154607695495:=0
def tw6704012330438220106:=0
def tw11951570848398098985:=0
def tw13645257337883044818:=0
def tw12416453109639667359:=0
def tw8466947050443666630:=0
def tw16516327859402657745:=0
def tw11717621663292079040:=0
def tw3997187274066578029:=0
def tw11873787300306974060:=0
def tw10144509504794517915:=0
def tw16001629561383119383:=0
def tw12460162757309467701:=0
def tw1271376757590328402:=0
def tw11474785777490697344:=0
def tw4994764423424696878:=0
def tw5128564672490287160:=0
def tw16685938836662914155:=0
def tw9324517444550962411:=0
def tw10577617398345978306:=0
def tw4211308869054676622:=0
def tw11632047079188254728:=0
end PySem.W.Fast
namespace Lw
local macro_rules | `(tactic| symm)=>`(tactic| walk_at "go")
open PySem PyProof.Rows L2 Bm
noncomputable def top (i:Nat):Stmt:=PySem.Challenge.pw_bitlead_k68_whole_fewest_beside_all_rows.main.body.getD i (.Pass ⟨0,0,0,0⟩)
noncomputable abbrev zem:Stmt:=top 33
noncomputable abbrev zfr:Stmt:=top 14
noncomputable abbrev zgO:Stmt:=top 1
noncomputable abbrev zcv:Stmt:=top 2
noncomputable abbrev zbt:Stmt:=top 24
noncomputable abbrev zbN:Stmt:=top 25
noncomputable abbrev zdK:Stmt:=top 10
noncomputable abbrev zbg:Stmt:=top 27
noncomputable abbrev zcy:Stmt:=top 28
noncomputable abbrev zdE:Stmt:=top 26
noncomputable abbrev zbl:Stmt:=top 23
noncomputable abbrev zbb:Stmt:=top 35
noncomputable abbrev zjT:Stmt:=top 15
noncomputable abbrev zdQ:Stmt:=top 36
noncomputable abbrev zeH:Stmt:=top 34
noncomputable abbrev zfB:Stmt:=top 31
noncomputable abbrev zgS:Stmt:=top 32
noncomputable abbrev zcn:Stmt:=top 44
noncomputable abbrev zo8:Stmt:=top 4
noncomputable abbrev zmo:Stmt:=top 5
noncomputable abbrev zbG:Stmt:=top 19
noncomputable abbrev zbx:Stmt:=top 21
noncomputable abbrev zcA:Stmt:=top 22
noncomputable abbrev zbM:Stmt:=top 20
noncomputable abbrev zfC:Stmt:=top 18
noncomputable abbrev zbw:Stmt:=top 46
noncomputable abbrev zcx:Stmt:=top 45
noncomputable abbrev zft:Stmt:=top 6
noncomputable abbrev zfh:Stmt:=top 3
noncomputable abbrev ze8:Stmt:=top 8
noncomputable abbrev zbr:Stmt:=top 50
noncomputable abbrev zbu:Stmt:=top 49
noncomputable abbrev zeC:Stmt:=top 48
noncomputable abbrev zb4:Stmt:=top 51
noncomputable abbrev zcZ:Stmt:=top 53
noncomputable abbrev zdJ:Stmt:=top 52
noncomputable abbrev zck:Stmt:=top 55
noncomputable abbrev zdM:Stmt:=top 56
noncomputable abbrev zdO:Stmt:=top 57
noncomputable abbrev zbs:Stmt:=top 58
noncomputable abbrev zbp:Stmt:=top 59
noncomputable abbrev zdG:Stmt:=top 60
noncomputable abbrev zdi:Stmt:=top 65
noncomputable abbrev zbz:Stmt:=top 67
noncomputable abbrev zcT:Stmt:=top 66
noncomputable abbrev zgA:Stmt:=top 30
noncomputable abbrev zd2:Stmt:=top 16
noncomputable abbrev za4:Stmt:=top 40
noncomputable abbrev za3:Stmt:=top 41
noncomputable abbrev zbW:Stmt:=top 39
noncomputable abbrev zeD:Stmt:=top 38
noncomputable abbrev zbq:Stmt:=top 68
noncomputable abbrev zfT:Stmt:=top 69
structure Blt (K:PySem.W.Frag) (mg:Str -> Option Value):Prop where
 b_abs:mg "abs"=none
 b_all:mg "all"=none
 b_bool:mg "bool"=none
 b_enumerate:mg "enumerate"=none
 b_int:mg "int"=none
 b_isinstance:mg "isinstance"=none
 b_len:mg "len"=none
 b_list:mg "list"=none
 b_max:mg "max"=none
 b_min:mg "min"=none
 b_range:mg "range"=none
 b_reversed:mg "reversed"=none
 b_sorted:mg "sorted"=none
 b_tuple:mg "tuple"=none
 g_DEED_NAMES:∃ a:Addr,mg "DEED_NAMES"=some (.ref a) /\ ∀ H,L2.SqT K H a [.str "and",.str "or",.str "left",.str "right",.str "turn",.str "swap",.str "gather",.str "strew",.str "copy"]
 g_NOUGHT:∃ t,mg "NOUGHT"=some (.int (-1) t)
 g_ONE:∃ t,mg "ONE"=some (.int (-2) t)
section
variable (P:Program) (w:World) (K:PySem.W.Frag) (mg:Str -> Option Value) (base:Heap)
noncomputable abbrev A0:Prop:=FnAt P w K mg base "deeds_to" ["found","leading"] 1 zh8
noncomputable abbrev A1:Prop:=FnAt P w K mg base "staying" ["width"] 1 zhp
noncomputable abbrev A2:Prop:=FnAt P w K mg base "bit_at" ["word","place"] 1 zmj
noncomputable abbrev A3:Prop:=FnAt P w K mg base "places_in" ["mask"] 2 zjX
noncomputable abbrev A4:Prop:=FnAt P w K mg base "gather_leading" ["width","mask"] 3 zjM
noncomputable abbrev A5:Prop:=FnAt P w K mg base "strew_leading" ["width","mask"] 3 zii
noncomputable abbrev A6:Prop:=FnAt P w K mg base "is_within" ["thing","least","most"] 1 zhq
noncomputable abbrev A7:Prop:=FnAt P w K mg base "place_or_nought" ["width","place"] 2 zp3
noncomputable abbrev A8:Prop:=FnAt P w K mg base "copy_source" ["mask","by","place"] 2 zg5
noncomputable abbrev A9:Prop:=FnAt P w K mg base "source_of" ["width","deed","place"] 3 zjd
noncomputable abbrev A10:Prop:=FnAt P w K mg base "deed_leading" ["width","deed"] 4 zjV
noncomputable abbrev A11:Prop:=FnAt P w K mg base "deeds_by_leading" ["width","menu"] 5 (zjW K)
noncomputable abbrev A12:Prop:=FnAt P w K mg base "then" ["one","other"] 1 znW
noncomputable abbrev A13:Prop:=FnAt P w K mg base "next_edge" ["found","edge","made_by"] 2 znE
noncomputable abbrev A14:Prop:=FnAt P w K mg base "searched" ["width","menu","wanted"] 6 (zfK K)
noncomputable abbrev A15:Prop:=FnAt P w K mg base "how_few" ["leading","menu"] 7 (zhi K)
noncomputable abbrev A16:Prop:=FnAt P w K mg base "reach" ["width","menu"] 7 (zlv K)
noncomputable abbrev A17:Prop:=FnAt P w K mg base "row_leading" ["width","row"] 5 (zmd K)
noncomputable abbrev A18:Prop:=FnAt P w K mg base "low" ["many"] 1 zmT
noncomputable abbrev A19:Prop:=FnAt P w K mg base "full" ["width"] 2 zmT
noncomputable abbrev A20:Prop:=FnAt P w K mg base "fits_with_one" ["width","name","part"] 3 zjC
noncomputable abbrev A21:Prop:=FnAt P w K mg base "goes_within" ["width","mask","by"] 3 znY
noncomputable abbrev A22:Prop:=FnAt P w K mg base "swaps_apart" ["width","mask","by"] 4 zmy
noncomputable abbrev A23:Prop:=FnAt P w K mg base "fits_with_two" ["width","name","mask","by"] 5 zjm
noncomputable abbrev A24:Prop:=FnAt P w K mg base "is_deed" ["width","thing"] 6 zh9
noncomputable abbrev A25:Prop:=FnAt P w K mg base "maybe_deeds" ["width","name"] 3 zls
noncomputable abbrev A26:Prop:=FnAt P w K mg base "all_deeds" ["width"] 7 znP
noncomputable abbrev A27:Prop:=FnAt P w K mg base "bits_in" ["mask"] 3 zj0
noncomputable abbrev A28:Prop:=FnAt P w K mg base "mask_of" ["places"] 1 (zj3 K)
noncomputable abbrev A29:Prop:=FnAt P w K mg base "strewn" ["word","mask"] 3 zlX
noncomputable abbrev A30:Prop:=FnAt P w K mg base "swaps_together" ["width","one","other"] 7 zf7
noncomputable abbrev A31:Prop:=FnAt P w K mg base "alike_together" ["width","one","other"] 8 zlI
noncomputable abbrev A32:Prop:=FnAt P w K mg base "together" ["width","one","other"] 9 zpm
noncomputable abbrev A33:Prop:=FnAt P w K mg base "does_nothing" ["width","deed"] 5 zhC
noncomputable abbrev A34:Prop:=FnAt P w K mg base "put_behind" ["width","short","deed"] 10 zfI
noncomputable abbrev A35:Prop:=FnAt P w K mg base "shortened" ["width","row"] 11 zfD
noncomputable abbrev A36:Prop:=FnAt P w K mg base "_law_hand" ["_law_script"] 1 (zn1 K)
noncomputable abbrev A37:Prop:=FnAt P w K mg base "_law_draw" ["_law_hand_here","_law_many"] 1 znN
noncomputable abbrev A38:Prop:=FnAt P w K mg base "_law_word" ["_law_hand_here","_law_width"] 2 zn7
noncomputable abbrev A39:Prop:=FnAt P w K mg base "_law_swap_mask" ["_law_hand_here","_law_width","_law_n"] 2 zgw
noncomputable abbrev A40:Prop:=FnAt P w K mg base "_law_copy_mask" ["_law_hand_here","_law_width","_law_n"] 3 zgl
noncomputable abbrev A41:Prop:=FnAt P w K mg base "_law_deed" ["_law_hand_here","_law_width"] 4 znR
noncomputable abbrev A42:Prop:=FnAt P w K mg base "_law_row" ["_law_hand_here","_law_width"] 5 zjN
noncomputable abbrev A43:Prop:=FnAt P w K mg base "_law_longer" ["_law_rows","_law_menu"] 1 zjq
noncomputable abbrev A44:Prop:=FnAt P w K mg base "_law_tried" ["_law_width","_law_menu"] 6 zlW
noncomputable abbrev A45:Prop:=FnAt P w K mg base "fewest" ["leading","menu"] 7 (zht K)
noncomputable abbrev A46:Prop:=FnAt P w K mg base "kept_by" ["leading"] 2 zn8
noncomputable abbrev A47:Prop:=FnAt P w K mg base "mask_deeds" ["leading"] 3 zll
noncomputable abbrev A48:Prop:=FnAt P w K mg base "pair_deeds" ["leading"] 2 zk4
noncomputable abbrev A49:Prop:=FnAt P w K mg base "likely_deeds" ["leading"] 4 zhU
noncomputable abbrev A50:Prop:=FnAt P w K mg base "one_deed" ["leading"] 7 znU
noncomputable abbrev A51:Prop:=FnAt P w K mg base "_law_all_right" ["_law_leading"] 12 zgk
end
noncomputable def At (K:PySem.W.Frag) (n:Str) (st:Stmt):Prop:=∃ (f:Addr) (od an:Option Addr) (sl:Array (Option Value)) (oc kV dc pm cd ct:Value),PySem.W.nsIn K mainGlobals n=some (some (.ref f)) /\ K.lookup f=some ⟨oc,od,.func (PySem.W.fnOf n n (zdL st) (zcN st) (zag st) .none kV dc pm an cd ct),sl⟩ /\ PySem.W.codeIn K cd n=true /\ PySem.W.keepIn K (.ref f)=true
def At.mk {K:PySem.W.Frag} {n:Str} {st:Stmt} {f:Addr} {od an:Option Addr} {sl:Array (Option Value)} {oc kV dc pm cd ct:Value} (e1:PySem.W.nsIn K mainGlobals n=some (some (.ref f))) (e2:K.lookup f=some ⟨oc,od,.func (PySem.W.fnOf n n (zdL st) (zcN st) (zag st) .none kV dc pm an cd ct),sl⟩) (e3:PySem.W.codeIn K cd n=true) (e4:PySem.W.keepIn K (.ref f)=true):At K n st:=⟨f,od,an,sl,oc,kV,dc,pm,cd,ct,e1,e2,e3,e4⟩
def At.at {P:Program} {w:World} {K:PySem.W.Frag} {h base:Heap} {mg:Str -> Option Value} {n:Str} {st:Stmt} {ps:List Str} {k:Nat} {sp:Sp} (X:K.In h) (G:h.Ns mainGlobals mg) (a:At K n st) (hb:∀ f fd,Fun K n n st f fd -> zi1 K fd ps []) (ok:∀ f fd,Fun K n n st f fd -> FnOk P w K mg base CX0 k f fd ps sp):FnAt P w K mg base n ps k sp:=by
 obtain ⟨f,od,an,sl,oc,kV,dc,pm,cd,ct,e1,e2,e3,e4⟩:=a;have F:=znS (st:=st) e2 e3 e4;exact ⟨f,_,ycN X G e1,e4,hb _ _ F,ok _ _ F⟩
section
variable {P:Program} {w:World} {K:PySem.W.Frag} {mg:Str -> Option Value} {base:Heap}
def zfe:FnScope ["found","leading"] ["found","leading"] (zag zem):=⟨rfl,rfl,rfl,by decide +kernel,rfl,by decide +kernel,by decide +kernel⟩
def ziY {a:Addr} {fd:FuncData} (B:Blt K mg)  (F:Fun K "deeds_to" "deeds_to" zem a fd):FnOk P w K mg base CX0 1 a fd ["found","leading"] zh8:=by
 refine F.ok zfe (λ vs H Q E h=>?_) (λ cdv A outer s H vs Q E hr h=>?_)
 ·obtain ⟨f,l,b,kvs,ls,n,r,rfl,_⟩:=h;rfl
 ·have nd:=zfe.nd;have hu:=hr.units;obtain ⟨f,l,b,kvs,ls,n,r,rfl,hf,hl,hv,hb,k⟩:=h;refine ⟨_,((8:) ((13:) ((47:) (49:) (@zhW _ _ _ _ _ _ hu (7:) (16:) (69:)) (9:) (48:)))),?_⟩;symm;refine zfy ?_;symm;refine ⟨f,.ref b,rfl,hv ▸ DGet.r hf hl,?_⟩;symm;exact k
def zgg:FnScope ["width"] ["width"] (zag zfr):=⟨rfl,rfl,rfl,by decide +kernel,rfl,by decide +kernel,by decide +kernel⟩
def zkr {a:Addr} {fd:FuncData} (B:Blt K mg)  (F:Fun K "staying" "staying" zfr a fd):FnOk P w K mg base CX0 1 a fd ["width"] zhp:=by
 refine F.ok zgg (λ vs H Q E h=>?_) (λ cdv A outer s H vs Q E hr h=>?_)
 ·obtain ⟨w,rfl,_⟩:=h;rfl
 ·have nd:=zgg.nd;have hu:=hr.units;obtain ⟨w,rfl,hw,k⟩:=h;refine ⟨_,((8:) ((13:) (88:))),?_⟩;symm;refine ⟨w,rfl,by omega,λ l hl=>?_⟩;rw [zgB];exact k l _ (zal hl) zah
def zhv:FnScope ["word","place"] ["word","place"] (zag zgO):=⟨rfl,rfl,rfl,by decide +kernel,rfl,by decide +kernel,by decide +kernel⟩
def zkZ {a:Addr} {fd:FuncData} (B:Blt K mg)  (F:Fun K "bit_at" "bit_at" zgO a fd):FnOk P w K mg base CX0 1 a fd ["word","place"] zmj:=by
 refine F.ok zhv (λ vs H Q E h=>?_) (λ cdv A outer s H vs Q E hr h=>?_)
 ·obtain ⟨n,k,rfl,_⟩:=h;rfl
 ·have nd:=zhv.nd;have hu:=hr.units;obtain ⟨n,k,rfl,q⟩:=h;refine ⟨_,((8:) ((13:) ((14:) (@zeQ _) ((14:) (@zj4 _) (7:) (16:)) (9:)))),?_⟩;symm;rw [zfu];exact q
def zeK:FnScope ["mask"] ["mask"] (zag zcv):=⟨rfl,rfl,rfl,by decide +kernel,rfl,by decide +kernel,by decide +kernel⟩
def zis {a:Addr} {fd:FuncData} (B:Blt K mg) (g_bit_at:A2 P w K mg base) (F:Fun K "places_in" "places_in" zcv a fd):FnOk P w K mg base CX0 2 a fd ["mask"] zjX:=by
 refine F.ok zeK (λ vs H Q E h=>?_) (λ cdv A outer s H vs Q E hr h=>?_)
 ·obtain ⟨n,rfl,_⟩:=h;rfl
 ·have nd := zeK.nd;have hu := hr.units;obtain ⟨n, rfl, hn, q⟩ := h;have hb64 : zcc n <= 64 := zho hn;refine ⟨_, ((8:) ((13:) (@zaZ _ _ _ _ _ _ (zag zcv) _ ["mask"] ["place", "mask"] [none, some 0] _ _ _ _ rfl ((56:) rfl B.b_range ((2:) (@zqv _ K _ _ _ _ _ _ _ _ PySem.F.plainAttrs_int PySem.F.slot_int_bit_length PySem.F.type_int_bit_length (@zod _) (7:) (0:) (0:) (0:)) (4:) (0:)) (0:)) (fun _ _ _ _ => (@zas _ _ 0 _ (show List.Nodup (["place", "mask"] : List Str) by decide +kernel) rfl (17:) (15:))) (fun _ _ _ _ => (@zb3 _ _ _ ((19:) (25:) ((10:) g_bit_at (11:) ((2:) (16:) ((2:) (7:) (4:) (0:)) (0:)) (0:) (3:) (0:) (0:)) (9:) (18:)))) (fun _ _ _ _ => (7:)) (20:) (0:) (0:) (24:)))), ?_⟩;symm;refine zf6 (n := zcc n) (by rw [ziN]) (1:) ?_;refine zbk (fun i acc H' => H' = H /\ i <= 64 /\ acc = ((List.range i).filter n.testBit).map nV) ⟨rfl, by omega, rfl⟩ (fun i acc H' h => ?_) ?_ ?_
  ·obtain ⟨_,hi,rfl⟩:=h;have:=yaU n.testBit (List.range i);rw [yaK] at this;rw [yaa];exact yaE (small5 (1:))
  ·rintro i acc H' hi ⟨rfl, hi64, rfl⟩;symm;refine ⟨n, i, rfl, ?_⟩;symm;refine zaY (fun h => ?_) (fun h => ?_)
   ·have hb:n.testBit i=true:=by
     cases e:n.testBit i
     ·rw [e] at h; cases h
     ·rfl
    symm;refine ⟨rfl,by omega,?_⟩;rw [yaQ,yaz];simp [hb]
   ·have hb:n.testBit i=false:=by
     cases e:n.testBit i
     ·rfl
     ·rw [e] at h; exact absurd rfl h
    refine ⟨rfl,by omega,?_⟩;rw [yaQ,yaz];simp [hb]
  ·rintro acc H' ⟨rfl,_,rfl⟩ p hp;exact q p _ hp (zal hp) zah
def zb8:FnScope ["width","mask","places"] ["width","mask"] (zag zbt):=⟨rfl,rfl,rfl,by decide +kernel,rfl,by decide +kernel,by decide +kernel⟩
def zep {a:Addr} {fd:FuncData} (B:Blt K mg) (g_places_in:A3 P w K mg base) (F:Fun K "gather_leading" "gather_leading" zbt a fd):FnOk P w K mg base CX0 3 a fd ["width","mask"] zjM:=by
 refine F.ok zb8 (λ vs H Q E h=>?_) (λ cdv A outer s H vs Q E hr h=>?_)
 ·obtain ⟨w,m,rfl,_⟩:=h;rfl
 ·have nd:=zb8.nd;have hu:=hr.units;obtain ⟨w,m,rfl,hm,hw,k⟩:=h;have hl:=zaH hm;refine ⟨_,((6:) (@zat _ _ 2 _ _ _ _ nd rfl (17:) ((10:) g_places_in (11:) ((2:) (16:) (4:) (0:)) (0:) (3:) (0:) (0:)) (0:) (15:)) ((8:) ((13:) ((70:) (@zld _ K (0:)) rfl B.b_tuple boot_tuple ((2:) ((14:) (31:) (12:) ((14:) (60:) ((38:) ((2:) (75:) (4:) (0:))) ((14:) (36:) (7:) ((29:) (39:) rfl B.b_len boot_len ((2:) (12:) (4:) (0:)) (3:) (3:) (0:) (0:))))) (4:) (0:)) (3:) (3:) (0:) (0:))))),?_⟩;symm;refine ⟨m,rfl,lt64 hm hw,λ q H1 fq s1 n1=>?_⟩;symm;refine zbe (5:) λ a H2 f2 s2 n2=>?_;have n1':=s2 _ _ n1;symm;rw [yaa];refine znH (n:=w - (zad m).length) n2 (1:) (1:) λ r H3 f3 s3 n3=>?_;have n1'':=s3 _ _ n1';refine zjy n1'' n3 (by rw [yaa,ycA]; omega) λ c H4 f4 s4 n4=>?_;symm;refine zgF n4 λ t H5 f5 s5 n5=>?_;exact k t H5 (s1.trans (s2.trans (s3.trans (s4.trans s5)))) (by rw [n5,zkv hm])
def zcC:FnScope ["width","mask","entries","place","to"] ["width","mask"] (zag zbN):=⟨rfl,rfl,rfl,by decide +kernel,rfl,by decide +kernel,by decide +kernel⟩
def ze5 {a:Addr} {fd:FuncData} (B:Blt K mg) (g_places_in:A3 P w K mg base) (F:Fun K "strew_leading" "strew_leading" zbN a fd):FnOk P w K mg base CX0 3 a fd ["width","mask"] zii:=by
 refine F.ok zcC (λ vs H Q E h=>?_) (λ cdv A outer s H vs Q E hr h=>?_)
 ·obtain ⟨w,m,rfl,_⟩:=h;rfl
 ·have nd := zcC.nd;have hu := hr.units;obtain ⟨w, m, rfl, hm, hw, k⟩ := h;have hl := zaH hm;refine ⟨_, ((6:) (@zat _ _ 2 _ _ _ _ nd rfl (17:) ((14:) (60:) ((38:) ((2:) (75:) (4:) (0:))) (7:)) (0:) (15:)) ((6:) ((37:) yaJ rfl (82:) (@zcX _ K _ _ _ _ 2 rfl ((61:) (77:) ((61:) (76:) (@zcS _) (0:)) (0:)) (0:) (0:) (0:)) ((8:) (@zh1 _ _ _ _ _ _ (21:) (@zhL _ _ _ _ _ _ _ (12:) (33:) (@zeb _) (24:)) (0:) (0:) (0:))) (24:)) ((8:) ((13:) ((70:) (@zld _ K (0:)) rfl B.b_tuple boot_tuple ((2:) (12:) (4:) (0:)) (3:) (3:) (0:) (0:)))))), ?_⟩;symm;refine zbe (5:) fun a H2 f2 s2 n2 => ?_;symm;refine znH (n := w) n2 rfl (1:) fun r H3 f3 s3 n3 => ?_;have s3 := s2.trans s3;have fr := s2.free f3;symm;refine ⟨m, rfl, lt64 hm hw, fun q H4 fq s4 n4 => ?_⟩
  have n3':H4 r=some (.lst ((zbQ w m 0).map V.int)):=by
   rw [zi3,List.map_replicate];exact s4 _ _ n3
  have s4:=s3.trans s4;have nqr:q ≠ r:=λ e=>by rw [e] at fq; rw [n3] at fq; cases fq
  symm;refine ⟨q,_,rfl,.inl ⟨SqL.of n4,?_⟩⟩;refine zlQ (λ i σ H'=>Same H H' /\ i <= 64 /\ H' q=some (.lst ((zad m).map nV)) /\ H' r=some (.lst ((zbQ w m i).map V.int)) /\ ∃ v3 v4,σ=[some (nV w),some (nV m),some (.ref r),v3,v4]) ⟨s4,by omega,n4,n3',_,_,rfl⟩ (λ i σ H' h=>SqL.of h.2.2.1) ?_ ?_
  ·rintro i u T σ H' hu hT ⟨s5,hi,nq,nr,v3,v4,rfl⟩;obtain ⟨y,hy,rfl⟩:=zaI hu;have hil:i < (zad m).length:=(yaj.mp hy).1;have hyw:y < w:=zdW hm (yar hy);have s6:=zal (o:=.tup [V.int (i:Int),nV y]) hT;have nT:upd H' T (.tup [V.int (i:Int),nV y]) T=some (.tup [V.int (i:Int),nV y]):=zah;generalize upd H' T (.tup [V.int (i:Int),nV y])=H6 at s6 nT ⊢;have nq6:=s6 _ _ nq;have nr6:=s6 _ _ nr;symm;refine zqO nr6 (by rw [yaa,zkp]; exact hyw) ?_;refine ⟨(s5.trans s6).upd' fr,by omega,by rw [zan nqr]; exact nq6,?_,_,_,rfl⟩;rw [zah,<- ziO hm hy,List.map_set]
  ·rintro σ H' ⟨s5,_,nq,nr,v3,v4,rfl⟩;rw [yaa,zkb] at nr;symm;refine zgF nr λ t H7 f7 s7 n7=>?_;exact k t H7 (s5.trans s7) n7
def zeL:FnScope ["thing","least","most"] ["thing","least","most"] (zag zdK):=⟨rfl,rfl,rfl,by decide +kernel,rfl,by decide +kernel,by decide +kernel⟩
def zid {a:Addr} {fd:FuncData} (B:Blt K mg)  (F:Fun K "is_within" "is_within" zdK a fd):FnOk P w K mg base CX0 1 a fd ["thing","least","most"] zhq:=by
 refine F.ok zeL (λ vs H Q E h=>?_) (λ cdv A outer s H vs Q E hr h=>?_)
 ·obtain ⟨v,lo,hi,rfl,_⟩:=h;rfl
 ·have nd := zeL.nd;have hu := hr.units;obtain ⟨v, lo, hi, rfl, hv, k⟩ := h;refine ⟨_, ((6:) ((22:) (@PW.pt _ _ _ ((59:) (@zdw _ _ _ ((29:) (@zoZ _ K (0:)) rfl B.b_isinstance boot_isinstance ((2:) (7:) ((2:) (@ziC _ _ (.ty "bool") _ _ rfl B.b_bool boot_bool rfl (3:) (3:)) (4:) (0:)) (0:)) (3:) (3:) (0:) (0:)) (24:)) (@zff _ _ _ _ (@zgi _ _ _ _ (@zdw _ _ _ ((29:) (@zoZ _ K (0:)) rfl B.b_isinstance boot_isinstance ((2:) (7:) ((2:) (@ziC _ _ (.ty "int") _ _ rfl B.b_int boot_int rfl (3:) (3:)) (4:) (0:)) (0:)) (3:) (3:) (0:) (0:)) (24:)))))) ((8:) ((13:) (50:))) (23:)) ((8:) ((13:) (@zng _ _ _ _ _ _ _ _ _ _ _ _ (@zpn _) (@zpn _) (16:) (7:) (12:) (by with_unfolding_all rfl))))), ?_⟩;symm;refine zlM hv ?_;symm;cases hbv : znt v with
  | true=>
   refine zbc rfl ?_;symm;rw [show zaz v lo hi=false by cases v <;> simp_all [znt,zaz]] at k;exact k
  | false=>
   refine za6 rfl ?_;symm;refine zko hv ?_;rw [hbv];symm;cases hiv:zje v with
   | false=>
    refine zbc rfl ?_;symm;rw [show zaz v lo hi=false by cases v <;> simp_all [zje,zaz]] at k;exact k
   | true=>
    obtain ⟨i,rfl⟩:∃ i,v=.int i:=by
     cases v with
     | int i=>exact ⟨i,rfl⟩
     | _=>simp [zje] at hiv
    refine za6 rfl ?_;symm;refine zcH (λ h1=>?_) (λ h1=>?_)
    ·symm;rw [zaz,decide_eq_true h1,ycM] at k;exact k
    ·symm;rw [zaz,decide_eq_false h1,ycx] at k;exact k
def zbR:FnScope ["width","place"] ["width","place"] (zag zbg):=⟨rfl,rfl,rfl,by decide +kernel,rfl,by decide +kernel,by decide +kernel⟩
def zdS {a:Addr} {fd:FuncData} (B:Blt K mg) (g_is_within:A6 P w K mg base) (F:Fun K "place_or_nought" "place_or_nought" zbg a fd):FnOk P w K mg base CX0 2 a fd ["width","place"] zp3:=by
 refine F.ok zbR (λ vs H Q E h=>?_) (λ cdv A outer s H vs Q E hr h=>?_)
 ·obtain ⟨w,z,rfl,_⟩:=h;rfl
 ·have nd := zbR.nd;have hu := hr.units;obtain ⟨w, z, rfl, q⟩ := h;refine ⟨_, ((8:) ((13:) ((58:) (@zdw _ _ _ ((10:) g_is_within (11:) ((2:) (16:) ((2:) (9:) ((2:) ((14:) (36:) (7:) (9:)) (4:) (0:)) (0:)) (0:)) (0:) (3:) (0:) (0:)) (24:)) (16:) (75:)))), ?_⟩;symm;refine ⟨.int z, 0, (w : Int) - 1, rfl, .inl (.int z), ?_⟩;symm;refine ite2 (fun h => ?_) (fun h => ?_)
  ·symm;change (decide ((0:Int) <= z) && decide (z <= (w:Int) - 1))=true at h;rw [yad,decide_eq_true_iff,decide_eq_true_iff] at h;rw [pon,if_pos h] at q;exact q
  ·symm;change ¬ (decide ((0:Int) <= z) && decide (z <= (w:Int) - 1))=true at h;rw [yad,decide_eq_true_iff,decide_eq_true_iff] at h;rw [pon,if_neg h] at q;exact q
def zdz:FnScope ["mask","by","place","source"] ["mask","by","place"] (zag zcy):=⟨rfl,rfl,rfl,by decide +kernel,rfl,by decide +kernel,by decide +kernel⟩
def zfZ {a:Addr} {fd:FuncData} (B:Blt K mg) (g_bit_at:A2 P w K mg base) (F:Fun K "copy_source" "copy_source" zcy a fd):FnOk P w K mg base CX0 2 a fd ["mask","by","place"] zg5:=by
 refine F.ok zdz (λ vs H Q E h=>?_) (λ cdv A outer s H vs Q E hr h=>?_)
 ·obtain ⟨m,n,p,rfl,_⟩:=h;rfl
 ·have nd := zdz.nd;have hu := hr.units;obtain ⟨m, n, p, rfl, q⟩ := h;refine ⟨_, ((6:) (@zat _ _ 3 _ _ _ _ nd rfl (17:) ((14:) (36:) (12:) (16:)) (0:) (15:)) ((8:) ((13:) ((58:) (@PW.pt _ _ _ ((55:) ((19:) (@zlT _) (21:) (9:) (18:)) (@zcz _ _ _ _ ((19:) (25:) ((10:) g_bit_at (11:) ((2:) (7:) ((2:) (21:) (4:) (0:)) (0:)) (0:) (3:) (0:) (0:)) (9:) (18:))))) (21:) (12:))))), ?_⟩;symm;refine zcH (fun h => ?_) (fun h => ?_)
  ·obtain ⟨y, ey⟩ : ∃ y : Nat, (p : Int) - n = (y : Int) := ⟨((p : Int) - n).toNat, by omega⟩
   rw [ey] at q ⊢;rw [zkQ] at q;symm;refine ⟨m,y,rfl,?_⟩;symm;refine zaY (λ h2=>?_) (λ h2=>?_)
   ·symm
    have:m.testBit y=true:=by
     cases e:m.testBit y
     ·rw [e] at h2; cases h2
     ·rfl
    rw [if_pos this] at q;exact q
   ·symm;have:¬ m.testBit y=true:=λ e=>h2 (by rw [e]; rfl);rw [if_neg this] at q;exact q
  ·symm;rw [if_neg (by unfold inM; rw [decide_eq_false (1:)]; exact yaD)] at q;exact q
def zeM:FnScope ["width","deed","place","name"] ["width","deed","place"] (zag zdE):=⟨rfl,rfl,rfl,by decide +kernel,rfl,by decide +kernel,by decide +kernel⟩
def zic {a:Addr} {fd:FuncData} (B:Blt K mg) (g_bit_at:A2 P w K mg base) (g_place_or_nought:A7 P w K mg base) (g_copy_source:A8 P w K mg base) (F:Fun K "source_of" "source_of" zdE a fd):FnOk P w K mg base CX0 3 a fd ["width","deed","place"] zjd:=by
 refine F.ok zeM (λ vs H Q E h=>?_) (λ cdv A outer s H vs Q E hr h=>?_)
 ·obtain ⟨w,p,b,d,rfl,_⟩:=h;rfl
 ·have nd := zeM.nd;have hu := hr.units;obtain ⟨w, p, b, d, rfl, hb, hd, hf, hp, hw, q⟩ := h;refine ⟨_, ((6:) (79:) ((6:) ((22:) ((19:) (25:) (21:) (35:) (18:)) ((8:) ((13:) ((58:) ((19:) (25:) ((10:) g_bit_at (11:) ((2:) (27:) ((2:) (12:) (4:) (0:)) (0:)) (0:) (3:) (0:) (0:)) (9:) (18:)) (12:) (75:)))) (23:)) ((6:) ((22:) ((19:) (25:) (21:) (35:) (18:)) ((8:) ((13:) ((58:) ((19:) (25:) ((10:) g_bit_at (11:) ((2:) (27:) ((2:) (12:) (4:) (0:)) (0:)) (0:) (3:) (0:) (0:)) (9:) (18:)) (@zdb _ _ _ _ B.g_ONE (0:) (3:)) (12:)))) (23:)) ((6:) ((22:) ((19:) (25:) (21:) (35:) (18:)) ((8:) ((13:) ((10:) g_place_or_nought (11:) ((2:) (7:) ((2:) ((14:) (36:) (12:) (27:)) (4:) (0:)) (0:)) (0:) (3:) (0:) (0:)))) (23:)) ((6:) ((22:) ((19:) (25:) (21:) (35:) (18:)) ((8:) ((13:) ((10:) g_place_or_nought (11:) ((2:) (7:) ((2:) ((14:) (31:) (12:) (27:)) (4:) (0:)) (0:)) (0:) (3:) (0:) (0:)))) (23:)) ((6:) ((22:) ((19:) (25:) (21:) (35:) (18:)) ((8:) ((13:) ((14:) (@zdu _) ((14:) (36:) (12:) (27:)) (7:)))) (23:)) ((6:) ((22:) (@PW.pt _ _ _ ((55:) ((19:) (25:) (21:) (35:) (18:)) (@zcz _ _ _ _ ((19:) (25:) ((10:) g_bit_at (11:) ((2:) (27:) ((2:) (12:) (4:) (0:)) (0:)) (0:) (3:) (0:) (0:)) (9:) (18:))))) ((8:) ((13:) ((14:) (31:) (12:) (27:)))) (23:)) ((8:) ((13:) ((10:) g_copy_source (11:) ((2:) (27:) ((2:) (27:) ((2:) (12:) (4:) (0:)) (0:)) (0:)) (0:) (3:) (0:) (0:))))))))))), ?_⟩;cases d with
  | and m=>
   symm;refine ⟨m,p,rfl,?_⟩;symm;refine zaY (λ h2=>?_) (λ h2=>?_)
   ·symm
    have:m.testBit p=true:=by
     cases e:m.testBit p
     ·rw [e] at h2; cases h2
     ·rfl
    simp only [Dd.src] at q;rw [if_pos this] at q;exact q
   ·symm;have:¬ m.testBit p=true:=λ e=>h2 (by rw [e]; rfl);simp only [Dd.src] at q;rw [if_neg this] at q;exact q
  | or m=>
   symm;refine ⟨m,p,rfl,?_⟩;symm;refine zaY (λ h2=>?_) (λ h2=>?_)
   ·symm
    have:m.testBit p=true:=by
     cases e:m.testBit p
     ·rw [e] at h2; cases h2
     ·rfl
    simp only [Dd.src] at q;rw [if_pos this] at q;exact q
   ·symm;have:¬ m.testBit p=true:=λ e=>h2 (by rw [e]; rfl);simp only [Dd.src] at q;rw [if_neg this] at q;exact q
  | left n=>
   symm;refine ⟨w,(p:Int) - n,rfl,?_⟩
   have e:pon w ((p:Int) - n)=(Dd.left n).src w p:=by
    simp only [Dd.src,pon];by_cases h:n <= p
    ·rw [if_pos h,if_pos ⟨by omega,by omega⟩]
    ·rw [if_neg h,if_neg (1:)]
   rw [e];exact q
  | right n=>
   symm;refine ⟨w,(p:Int) + n,rfl,?_⟩
   have e:pon w ((p:Int) + n)=(Dd.right n).src w p:=by
    simp only [Dd.src,pon];by_cases h:p + n < w
    ·rw [if_pos h,if_pos ⟨by omega,by omega⟩]
    ·rw [if_neg h,if_neg (1:)]
   rw [e];exact q
  | turn n=>
   have hn:n < w:=hd;symm
   have e:((p:Int) - n) % (w:Int)=(Dd.turn n).src w p:=by
    simp only [Dd.src];by_cases h:n <= p
    ·rw [if_pos h];exact ybx (1:) (1:)
    ·rw [if_neg h,<- ycp];exact ybx (1:) (1:)
   rw [e];exact q
  | gather m=>cases hf
  | strew m=>cases hf
  | swap m n=>
   have e0:(Dd.swap m n).src w p=(if inM m ((p:Int) - n) then (p:Int) - n else if m.testBit p then (p:Int) + n else p):=rfl;rw [e0] at q;symm;refine ⟨m,p,rfl,?_⟩;symm;refine zaY (λ h2=>?_) (λ h2=>?_)
   ·symm
    have h3:m.testBit p=true:=by
     cases e:m.testBit p
     ·rw [e] at h2; cases h2
     ·rfl
    have h4:¬ inM m ((p:Int) - n)=true:=λ z=>by
     simp only [inM,yad,decide_eq_true_iff] at z;have:=(hd.2.2 _ z.2).2;rw [show ((p:Int) - n).toNat + n=p by omega,h3] at this;cases this
    rw [if_neg h4,if_pos h3] at q;exact q
   ·symm;have h3:¬ m.testBit p=true:=λ e=>h2 (by rw [e]; rfl);rw [if_neg h3] at q;exact ⟨m,n,p,rfl,q⟩
  | copy m n=>
   symm;exact ⟨m,n,p,rfl,q⟩
def zcY:FnScope ["width","deed"] ["width","deed"] (zag zbl):=⟨rfl,rfl,rfl,by decide +kernel,rfl,by decide +kernel,by decide +kernel⟩
def zfz {a:Addr} {fd:FuncData} (B:Blt K mg) (g_gather_leading:A4 P w K mg base) (g_strew_leading:A5 P w K mg base) (g_source_of:A9 P w K mg base) (F:Fun K "deed_leading" "deed_leading" zbl a fd):FnOk P w K mg base CX0 4 a fd ["width","deed"] zjV:=by
 refine F.ok zcY (λ vs H Q E h=>?_) (λ cdv A outer s H vs Q E hr h=>?_)
 ·obtain ⟨w,b,d,rfl,_⟩:=h;rfl
 ·have nd := zcY.nd;have hu := hr.units;obtain ⟨w, b, d, rfl, hb, hd, hw, k⟩ := h
  have tk:∀ i,i < w -> ((d.led w).take i).map V.int ++ [V.int (d.src w i)]=((d.led w).take (i + 1)).map V.int:=λ i hi=>by
   rw [yaG,Dd.led,yan,yaS hi,yal];rfl
  refine ⟨_,((6:) ((22:) ((19:) (25:) (27:) (35:) (18:)) ((8:) ((13:) ((10:) g_gather_leading (11:) ((2:) (7:) ((2:) (27:) (4:) (0:)) (0:)) (0:) (3:) (0:) (0:)))) (23:)) ((6:) ((22:) ((19:) (25:) (27:) (35:) (18:)) ((8:) ((13:) ((10:) g_strew_leading (11:) ((2:) (7:) ((2:) (27:) (4:) (0:)) (0:)) (0:) (3:) (0:) (0:)))) (23:)) ((8:) ((13:) ((70:) (@zld _ K (0:)) rfl B.b_tuple boot_tuple ((2:) (@zaZ _ _ _ _ _ _ (zag zbl) _ ["width","deed"] ["place","width","deed"] [none,some 0,some 1] _ _ _ _ rfl ((56:) rfl B.b_range ((2:) (7:) (4:) (0:)) (0:)) (λ _ _ _ _=>(@zas _ _ 0 _ (show List.Nodup (["place","width","deed"]:List Str) by decide +kernel) rfl (17:) (15:))) (λ _ _ _ _=>(@zbC _)) (λ _ _ _ _=>((10:) g_source_of (11:) ((2:) (16:) ((2:) (12:) ((2:) (7:) (4:) (0:)) (0:)) (0:)) (0:) (3:) (0:) (0:))) (20:) (0:) (0:) (24:)) (4:) (0:)) (3:) (3:) (0:) (0:)))))),?_⟩;cases hf:d.flat with
  | false=>
   cases d with
   | gather m=>symm; exact ⟨w,m,rfl,hd,hw,k⟩
   | strew m=>symm; exact ⟨w,m,rfl,hd,hw,k⟩
   | _=>cases hf
  | true=>
   have nm:∃ s xs,d.vals=.str s :: xs /\ (shpd (.str s)=true) /\ (s == "gather")=false /\ (s == "strew")=false:=by
    cases d with
    | gather m=>cases hf
    | strew m=>cases hf
    | _=>exact ⟨_,_,rfl,by decide +kernel,by decide +kernel,by decide +kernel⟩
   obtain ⟨sn,xs,ev,hs0,hs1,hs2⟩:=nm;have hb':=hb;rw [ev] at hb';symm;refine zgu hs0 (20:) ?_;rw [hs1];symm;refine zgu hs0 (20:) ?_;rw [hs2];symm;refine zf6 (n:=w) rfl (1:) ?_;refine zbk (λ i acc H'=>H'=H /\ i <= 64 /\ acc=(((d.led w).take i).map V.int)) ⟨rfl,by omega,rfl⟩ (λ i acc H' h=>?_) ?_ ?_
   ·obtain ⟨_,hi,rfl⟩:=h;rw [yaa,yaV];exact yaE (small5 (1:))
   ·rintro i acc H' hi ⟨rfl,hi2,rfl⟩;symm;refine ⟨w,i,b,d,rfl,hb,hd,hf,hi,hw,?_⟩;exact ⟨rfl,by omega,tk i hi⟩
   ·rintro acc H' ⟨rfl,_,rfl⟩ q hq;rw [yaq (by simp [Dd.led])];symm;refine zgF zah λ t H5 f5 s5 n5=>?_;exact k t H5 ((zal hq).trans s5) n5
def zbD:FnScope ["width","menu","made_by","deed"] ["width","menu"] (zag zbb):=⟨rfl,rfl,rfl,by decide +kernel,rfl,by decide +kernel,by decide +kernel⟩
def zdI {a:Addr} {fd:FuncData} (B:Blt K mg) (g_deed_leading:A10 P w K mg base) (F:Fun K "deeds_by_leading" "deeds_by_leading" zbb a fd):FnOk P w K mg base CX0 5 a fd ["width","menu"] (zjW K):=by
 refine F.ok zbD (λ vs H Q E h=>?_) (λ cdv A outer s H vs Q E hr h=>?_)
 ·obtain ⟨w,m,L,rfl,_⟩:=h;rfl
 ·have nd := zbD.nd;have hu := hr.units;obtain ⟨wd, m, L, rfl, hm, hR, hw, hL, k⟩ := h;refine ⟨_, ((6:) (@zat _ _ 2 _ _ _ _ nd rfl (17:) (@zm6 _ _) (0:) (15:)) ((6:) ((37:) yaJ rfl (57:) (77:) ((8:) (@zju _ _ _ _ _ _ _ _ _ hu (12:) ((10:) g_deed_leading (11:) ((2:) (7:) ((2:) (21:) (4:) (0:)) (0:)) (0:) (3:) (0:) (0:)) (21:) (0:))) (24:)) ((8:) ((13:) (@ziQ _ _ _ (12:)))))), ?_⟩;symm;refine zoL fun d hd => ?_;have s0 : Same H (upd H d (.dT [])) := zal hd;symm;have hm0 : SqL K (upd H d (.dT [])) m (rowV L) \/ SqT K (upd H d (.dT [])) m (rowV L) := hm.elim (fun z => .inl (s0.seq z)) (fun z => .inr (s0.seqT z));refine ze9 (xs := rowV L) hm0 (fun j σ H' => Same H H' /\ ∃ kvs v3, Mb wd (L.take j) kvs /\ kvs.length <= j /\ H' d = some (.dT kvs) /\ σ = [some (nV wd), some (.ref m), some (.ref d), v3]) ⟨s0, [], none, Mb.nil wd, yag _, zah, rfl⟩ (fun j σ H' h => ⟨fun z => z.afterD h.1, fun z => z.afterD h.1⟩) ?_ ?_
  ·rintro j y σ H' hy ⟨s1,kvs,v3,hM,hz,nd,rfl⟩;obtain ⟨q,hq,rfl⟩:=zaI hy;have hj:j < L.length:=(yaj.mp hq).1;obtain ⟨h1,h2⟩:=hR q (yar hq);symm;refine zn5 ?_;symm;refine ⟨wd,q.1,q.2,rfl,s1 _ _ h1,h2,hw,λ t2 H2 s2 n2=>?_⟩;refine ⟨d,_,rfl,DPut.t (k:=kI (q.2.led wd)) (s2 _ _ nd) (by rw [kI_V]; exact n2) (small5 (1:)),?_⟩;refine ⟨(s1.trans s2).upd' hd,_,_,?_,ya5 (zcl _ _ _) (1:),zah,rfl⟩;rw [yaG,hq];exact hM.put
  ·rintro σ H' ⟨s1,kvs,v3,hM,hz,nd,rfl⟩;rw [show (rowV L).length=L.length by simp [rowV],yaq (yag _)] at hM;symm;refine zny ?_;symm;exact ⟨d,kvs,rfl,nd,λ o=>k d o kvs _ (s1.upd' hd) zah hM⟩
def zlF:FnScope ["one","other"] ["one","other"] (zag zjT):=⟨rfl,rfl,rfl,by decide +kernel,rfl,by decide +kernel,by decide +kernel⟩
def zoc {a:Addr} {fd:FuncData} (B:Blt K mg)  (F:Fun K "then" "then" zjT a fd):FnOk P w K mg base CX0 1 a fd ["one","other"] znW:=by
 refine F.ok zlF (λ vs H Q E h=>?_) (λ cdv A outer s H vs Q E hr h=>?_)
 ·obtain ⟨b,c,ls,ms,w,rfl,_⟩:=h;rfl
 ·have nd := zlF.nd;have hu := hr.units;obtain ⟨b, c, ls, ms, w, rfl, hb, hc, h1, h2, hw, k⟩ := h;refine ⟨_, ((8:) ((13:) ((70:) (@zld _ K (0:)) rfl B.b_tuple boot_tuple ((2:) (@zaZ _ _ _ _ _ _ (zag zjT) _ ["one", "other"] ["entry", "one"] [none, some 0] _ _ _ _ rfl (57:) (fun _ _ _ _ => (@zas _ _ 0 _ (show List.Nodup (["entry", "one"] : List Str) by decide +kernel) rfl (17:) (15:))) (fun _ _ _ _ => (@zbC _)) (fun _ _ _ _ => ((58:) ((19:) (@zlT _) (7:) (9:) (18:)) ((47:) (49:) (16:) (7:) (48:)) (7:))) (20:) (0:) (0:) (24:)) (4:) (0:)) (3:) (3:) (0:) (0:)))), ?_⟩;symm;refine zhD (SqT.of hc) ?_;refine zjp (xs := ms.map V.int) (fun i acc H' => H' = H /\ i <= 64 /\ acc = ((zaA ls ms).take i).map V.int) ⟨rfl, by omega, rfl⟩ (fun i acc H' h => ?_) (fun i acc H' h => by rw [h.1]; exact SqT.of hc) ?_ ?_
  ·obtain ⟨_,hi,rfl⟩:=h;rw [yaa,yaV];exact yaE (small5 (1:))
  ·rintro i x acc H' hx ⟨rfl, hi, rfl⟩;obtain ⟨e, he, rfl⟩ := zaI hx;have hil : i < ms.length := (yaj.mp he).1;have q := h2.2 e (yar he);have hi2 : i < w := by rw [<- h2.1]; exact hil
   have tk:∀ v:Int,v=(if 0 <= e then ls.getD e.toNat 0 else e) -> ((zaA ls ms).take i).map V.int ++ [V.int v]=((zaA ls ms).take (i + 1)).map V.int:=λ v hv=>by
    rw [yaG,zaA,yan,he,yal];simp [hv]
   symm;refine zcH (λ h0=>?_) (λ h0=>?_)
   ·have hl : e.toNat < ls.length := by rw [h1.1]; omega
    symm;refine zgo (SqT.of hb) h0 (by rw [yan,yab hl]; rfl) ?_;refine ⟨rfl,by omega,(tk _ ?_)⟩;rw [if_pos h0,yac,yab hl];rfl
   ·symm;exact ⟨rfl,by omega,tk _ (by rw [if_neg h0])⟩
  ·rintro acc H' ⟨rfl,_,rfl⟩ p hp;rw [yaa,yaq (by rw [zaA,yaa]; omega)];symm;refine ⟨p,_,rfl,.inl ⟨SqL.of zah,λ t ht=>?_⟩⟩;exact k t _ ((zal hp).trans (zal ht)) zah
def zeT:FnScope ["found","edge","made_by","fresh","ahead","step","leading"] ["found","edge","made_by"] (zag zdQ):=⟨rfl,rfl,rfl,by decide +kernel,rfl,by decide +kernel,by decide +kernel⟩
def zhc {a:Addr} {fd:FuncData} (B:Blt K mg) (g_then:A12 P w K mg base) (g_deeds_to:A0 P w K mg base) (F:Fun K "next_edge" "next_edge" zdQ a fd):FnOk P w K mg base CX0 2 a fd ["found","edge","made_by"] znE:=by
 refine F.ok zeT (λ vs H Q E h=>?_) (λ cdv A outer s H vs Q E hr h=>?_)
 ·obtain ⟨f,g,m,o,wd,n,L,kvs,mk,F,E,es,rfl,_⟩:=h;rfl
 ·have nd := zeT.nd;have hu := hr.units;obtain ⟨f, g, m, o, wd, n, L, kvs, mk, F, E, es, rfl, hf, hg, hm, hM, hR, hw, R, hF, hE, k⟩ := h;have hS := zcu hR;have hp4 := zdN hw;refine ⟨_, ((6:) (@zat _ _ 3 _ _ _ _ nd rfl (17:) ((38:) (4:)) (0:) (15:)) ((6:) ((37:) yaJ rfl (57:) (76:) ((8:) ((37:) yaJ rfl (@zj1 _ _ _ _ (12:)) (68:) ((6:) (@zat _ _ 6 _ _ _ _ nd rfl (17:) ((10:) g_then (11:) ((2:) (33:) ((2:) (46:) (4:) (0:)) (0:)) (0:) (3:) (0:) (0:)) (0:) (15:)) ((8:) ((22:) (@zhu _ _ _ _ _ _ hu (63:) (7:) (0:)) ((6:) (@zju _ _ _ _ _ _ _ _ _ hu (7:) (63:) ((28:) ((2:) ((14:) (31:) ((10:) g_deeds_to (11:) ((2:) (7:) ((2:) (33:) (4:) (0:)) (0:)) (0:) (3:) (0:) (0:)) (9:)) ((2:) (33:) ((2:) (@zhW _ _ _ _ _ _ hu (12:) (46:) (69:)) (4:) (0:)) (0:)) (0:))) (0:)) ((8:) ((53:) (@k_bm _ K _ _ _ _ _ _ _ _ _ _ _ ya9 ybT ybU (@zdV _) (21:) ((2:) (63:) (4:) (0:)) (0:) (0:) (0:) (0:) (0:) (0:)) (0:)))) (23:)))) (24:))) (24:)) ((8:) ((13:) (21:))))), ?_⟩;symm;refine zbe (5:) fun r H1 f1 s1 n1 => ?_;have rf : r ≠ f := fun z => by rw [z, hf] at f1; cases f1
  have gf:g ≠ f:=zbY hg hf nofun;have mf:m ≠ f:=zbY hm hf nofun;symm
  refine zdc (xs:=es.map V.ref) (λ i σ H'=>zaw f H H' /\ ∃ kvs' F' G gs v4 v5 v6,H' f=some (.dT kvs') /\ Amid (steps wd L) wd n F (Dij E (steps wd L) (mk.map (·.1)) i 0) F' G /\ Fnd H' wd L F' kvs' /\ Lda H' G gs /\ H' r=some (.lst (gs.map V.ref)) /\ σ=[some (.ref f),some (.ref g),some (.ref m),some (.ref r),v4,v5,v6])
   ⟨s1.keepBut,kvs,F,[],[],none,none,none,s1 _ _ hf,(Amid.start R).weak (λ y s z=>by rcases z with ⟨k,h1,_⟩ | ⟨_,k,h1,_⟩ <;> exact absurd h1 (Nat.not_lt_zero _)),hF.mono (λ b xs e=>s1 _ _ e) (λ _ z=>z),.nil,n1,rfl⟩ (λ i σ H' h=>SqL.of (h.1 _ _ gf hg)) ?_ ?_
  ·rintro i y σ H2 hy ⟨k2, kvs2, F2, G2, gs2, v4, v5, v6, e2, A2, hF2, hG2, r2, rfl⟩;obtain ⟨a, ha, rfl⟩ := zaI hy;obtain ⟨x, hx, hax⟩ := hE.get ha;have xE : x ∈ E := yar hx;have dx := (R.edge x).mp xE;have xF : (x, n) ∈ F := (R.all x n).mpr ⟨yag _, dx⟩;have lx : Ld wd x := dx.1.ld hS;symm;refine zlJ ?_;symm;refine ⟨m, mk, rfl, .inr ⟨o, k2 _ _ mf hm, ?_⟩⟩
   refine zmP (λ j σ H'=>zaw f H H' /\ ∃ kvs' F' G gs v5 v6,H' f=some (.dT kvs') /\ Amid (steps wd L) wd n F (Dij E (steps wd L) (mk.map (·.1)) i j) F' G /\ Fnd H' wd L F' kvs' /\ Lda H' G gs /\ H' r=some (.lst (gs.map V.ref)) /\ σ=[some (.ref f),some (.ref g),some (.ref m),some (.ref r),some (.ref a),v5,v6])
    ⟨k2,kvs2,F2,G2,gs2,v5,v6,e2,A2,hF2,hG2,r2,rfl⟩ (λ j σ H' h=>h.1 _ _ mf hm) ?_ ?_
   ·rintro j kk b σ H3 hk hb ⟨k3, kvs3, F3, G3, gs3, v5, v6, e3, A3, hF3, hG3, r3, rfl⟩;obtain ⟨e, eL, rfl, ev⟩ := hM.key hk;have sS : e.2.led wd ∈ steps wd L := zbI.mpr ⟨e, eL, rfl⟩;rw [kI_V] at hb;have a3 := k3.tup hf _ _ hax;symm;refine ⟨a, b, x, e.2.led wd, wd, rfl, a3, hb, lx, hS _ sS, by omega, fun t H4 s4 n4 => ?_⟩;have hF4 : Fnd H4 wd L F3 kvs3 := hF3.mono (fun b xs z => s4 _ _ z) fun _ z => z;have hG4 : Lda H4 G3 gs3 := hG3.mono fun b xs z => s4 _ _ z;have e4 := s4 _ _ e3;have k4 : zaw f H H4 := k3.trans s4.keepBut;symm;refine zio ?_;symm;refine ⟨f, _, rfl, DGet.r (.inl e4) n4, ?_⟩;rcases hF4.val (ls := zaA x (e.2.led wd)) with ⟨z1, z2⟩ | ⟨n', b', z1, z2, z3⟩
    ·rw [z2];symm;refine zbc rfl ?_;symm;refine zn5 ?_;have xF3 : (x, n) ∈ F3 := by rw [A3.is]; exact yaA _ xF
     obtain ⟨b0,w1,w2⟩:∃ b0,valV kvs3 (kI x)=some (.ref b0) /\ Ent H4 wd L F3 (x,n) b0:=by
      rcases hF4.val (ls:=x) with ⟨q1,_⟩ | ⟨n0,b0,q1,q2,q3⟩
      ·exact absurd (yaf.mpr ⟨_,xF3,rfl⟩) q1
      ·have:=zg1 A3.once q1 xF3;subst this;exact ⟨b0,q2,q3⟩
     obtain ⟨r0,w3,_⟩:=id w2;symm;refine ⟨f,a,b0,kvs3,x,n,r0,rfl,.inl e4,s4 _ _ a3,w1,w3,?_⟩;symm;refine zfy ?_;symm;refine ⟨m,.ref e.1,rfl,ev ▸ DGet.r (Frz.rd (k4 _ _ mf hm)) (s4 _ _ hb),?_⟩;symm;refine zaq (5:) λ u H5 f5 s5 n5=>?_;symm;have hlen:=A3.len R hS;have hl3:=hF3.length;refine ⟨f,_,rfl,DPut.t (k:=kI (zaA x (e.2.led wd))) (s5 _ _ e4) (by rw [kI_V]; exact s5 _ _ n4) (small5 (1:)),?_⟩;have nn:zaA x (e.2.led wd) ∉ F3.map (·.1):=z1;rw [zjH _ z2];have k6:zaw f H (upd H5 f (.dT (kvs3 ++ [(kI (zaA x (e.2.led wd)),.ref u)]))):=(k4.trans s5.keepBut).trans (zaw.upd _ _ _);have T5:∀ b xs,H4 b=some (.tup xs) -> upd H5 f (.dT (kvs3 ++ [(kI (zaA x (e.2.led wd)),.ref u)])) b=some (.tup xs):=λ b xs z=>by rw [zan (zbY z e4 nofun)]; exact s5 _ _ z
     have uf:u ≠ f:=λ z=>by rw [z,e4] at f5; cases f5
     have tf:t ≠ f:=zbY n4 e4 nofun;have A6:=(A3.add R xE sS nn).weak λ y s z=>Dij.next hx hk z
     have hEnt:Ent (upd H5 f (.dT (kvs3 ++ [(kI (zaA x (e.2.led wd)),.ref u)]))) wd L (F3 ++ [(zaA x (e.2.led wd),n + 1)]) (zaA x (e.2.led wd),n + 1) u:=
      ⟨[.ref a,.ref e.1],by rw [zan uf,n5]; rfl,.inr ⟨a,x,e,n,rfl,rfl,T5 _ _ (s4 _ _ a3),eL,rfl,yaA _ xF3⟩⟩
     have hF6:Fnd (upd H5 f (.dT (kvs3 ++ [(kI (zaA x (e.2.led wd)),.ref u)]))) wd L (F3 ++ [(zaA x (e.2.led wd),n + 1)]) (kvs3 ++ [(kI (zaA x (e.2.led wd)),.ref u)]):=
      FndG.snoc hEnt (hF4.mono T5 λ _ z=>yaA _ z)
     have r6:upd H5 f (.dT (kvs3 ++ [(kI (zaA x (e.2.led wd)),.ref u)])) r=some (.lst (gs3.map V.ref)):=by rw [zan rf]; exact s5 _ _ (s4 _ _ r3)
     have t6:upd H5 f (.dT (kvs3 ++ [(kI (zaA x (e.2.led wd)),.ref u)])) t=some (.tup ((zaA x (e.2.led wd)).map V.int)):=T5 _ _ n4;have hG6:=hG4.mono T5;have f6:upd H5 f (.dT (kvs3 ++ [(kI (zaA x (e.2.led wd)),.ref u)])) f=some (.dT (kvs3 ++ [(kI (zaA x (e.2.led wd)),.ref u)])):=zah;generalize upd H5 f (.dT (kvs3 ++ [(kI (zaA x (e.2.led wd)),.ref u)]))=H6 at *
     have hgl:gs3.length <= 1296:=by
      have h1:=congrArg List.length A3.is;have h2:=hG3.length;simp only [yam,yaa] at h1;omega
     symm;have T7:∀ b xs,H6 b=some (.tup xs) -> upd H6 r (.lst (gs3.map V.ref ++ [.ref t])) b=some (.tup xs):=λ b xs z=>by rw [zan (zbY z r6 nofun)]; exact z
     refine ⟨λ b o n e=>by rw [zan (zao e f1)]; exact k6 b o n e,_,_,_,gs3 ++ [t],_,_,by rw [zan rf.symm]; exact f6,A6,hF6.mono T7 λ _ z=>z,Lda.snoc (T7 _ _ t6) (hG6.mono T7),by rw [zah,yal]; rfl,rfl⟩
    ·rw [z2];symm;refine za6 rfl ?_;symm;exact ⟨k4,kvs3,F3,G3,gs3,_,_,e4,(A3.old R (yaf.mpr ⟨_,z1,rfl⟩)).weak (λ y s z=>Dij.next hx hk z),hF4,hG4,s4 _ _ r3,rfl⟩
   ·rintro σ H3 ⟨k3,kvs3,F3,G3,gs3,v5,v6,e3,A3,hF3,hG3,r3,rfl⟩;symm;rw [show mk.length=(mk.map (·.1)).length by simp] at A3;exact ⟨k3,kvs3,F3,G3,gs3,_,_,_,e3,A3.weak (λ y s z=>Dij.turn hM.steps z),hF3,hG3,r3,rfl⟩
  ·rintro σ H2 ⟨k2, kvs2, F2, G2, gs2, v4, v5, v6, e2, A2, hF2, hG2, r2, rfl⟩;have hel : (es.map V.ref).length = E.length := by rw [yaa, hE.length]
   rw [hel] at A2;symm;refine k r gs2 H2 kvs2 F2 G2 k2 e2 (A2.done R λ y s hy hs=>Dij.all hy hs) hF2 hG2 r2 ?_;rw [A2.is]; simp
def zfP:FnScope ["width","menu","wanted","made_by","start","found","edge"] ["width","menu","wanted"] (zag zeH):=⟨rfl,rfl,rfl,by decide +kernel,rfl,by decide +kernel,by decide +kernel⟩
def ziS {a:Addr} {fd:FuncData} (B:Blt K mg) (g_staying:A1 P w K mg base) (g_deeds_by_leading:A11 P w K mg base) (g_next_edge:A13 P w K mg base) (F:Fun K "searched" "searched" zeH a fd):FnOk P w K mg base CX0 6 a fd ["width","menu","wanted"] (zfK K):=by
 refine F.ok zfP (λ vs H Q E h=>?_) (λ cdv A outer s H vs Q E hr h=>?_)
 ·obtain ⟨wd,m,v,L,W,rfl,_⟩:=h;rfl
 ·have nd := zfP.nd;have hu := hr.units;obtain ⟨wd, m, v, L, W, rfl, hm, hR, hw1, hw3, hL, hv, k⟩ := h;have hw : wd <= 4 := by omega
  have hS:=zcu hR;have hp4:=zdN hw;refine ⟨_,((6:) (@zat _ _ 3 _ _ _ _ nd rfl (17:) ((10:) g_deeds_by_leading (11:) ((2:) (7:) ((2:) (16:) (4:) (0:)) (0:)) (0:) (3:) (0:) (0:)) (0:) (15:)) ((6:) (@zat _ _ 4 _ _ _ _ nd rfl (17:) ((10:) g_staying (11:) ((2:) (7:) (4:) (0:)) (0:) (3:) (0:) (0:)) (0:) (15:)) ((6:) (@zat _ _ 5 _ _ _ _ nd rfl (17:) (@zhF _ _ _ _ _ _ hu (33:) ((28:) ((2:) (9:) ((2:) (43:) ((2:) (43:) (4:) (0:)) (0:)) (0:)))) (0:) (15:)) ((6:) (@zat _ _ 6 _ _ _ _ nd rfl (17:) ((38:) ((2:) (33:) (4:) (0:))) (0:) (15:)) ((6:) (@zgI _ _ _ _ _ _ yaJ (@PW.pt _ _ _ ((55:) ((19:) (@zit _) ((29:) (39:) rfl B.b_len boot_len ((2:) (63:) (4:) (0:)) (3:) (3:) (0:) (0:)) (9:) (18:)) (@zcz _ _ _ _ (@zkh _ _ _ _ _ _ hu (12:) (46:) (0:))))) ((8:) (@zat _ _ 6 _ _ _ _ nd rfl (17:) ((10:) g_next_edge (11:) ((2:) (46:) ((2:) (63:) ((2:) (21:) (4:) (0:)) (0:)) (0:)) (0:) (3:) (0:) (0:)) (0:) (15:)))) ((8:) ((13:) (@ziQ _ _ _ (46:))))))))),?_⟩;symm;refine ⟨wd,m,L,rfl,hm,hR,by omega,hL,λ d o mk H1 s1 hd hM=>?_⟩;symm;refine ⟨wd,rfl,by omega,λ t H2 s2 n2=>?_⟩;symm;refine zjj λ f hf=>?_;symm;refine zaq (5:) λ b H3 f3 s3 n3=>?_;have sf:=zal (o:=.dT []) hf;have t3:H3 t=some (.tup ((kI (zaJ wd)).map kV)):=by rw [kI_V]; exact s3 _ _ (sf _ _ n2)
  refine ⟨kI (zaJ wd),t,rfl,t3,s3 _ _ zah,?_⟩;symm;refine zbe (5:) λ g H5 f5 s5 n5=>?_;symm;have hf3:H3 f=some (.dT []):=s3 _ _ zah;have bf:b ≠ f:=λ z=>by rw [z] at n3; rw [hf3] at n3; cases n3
  have Tk:∀ c u,H c=some u -> upd H3 f (.dT [(kI (zaJ wd),.ref b)]) c=some u:=λ c u e=>by
   have e2:=s2 _ _ (s1 _ _ e);rw [zan (zao e2 hf)];exact s3 _ _ (sf _ _ e2)
  have s05:Same H H5:=λ c u e=>s5 _ _ (Tk c u e);have hf5:H5 f=some (.dT [(kI (zaJ wd),.ref b)]):=s5 _ _ zah
  have hd5:Frz H5 d o mk:=by
   have e2:=s2 _ _ hd;refine s5 _ _ ?_;rw [zan (zao e2 hf)];exact s3 _ _ (sf _ _ e2)
  have t5:H5 t=some (.tup ((zaJ wd).map V.int)):=by
   rw [kI_V] at t3;refine s5 _ _ ?_;rw [zan (zbY t3 hf3 nofun)];exact t3
  have hF5:Fnd H5 wd L [(zaJ wd,0)] [(kI (zaJ wd),.ref b)]:=.cons ⟨rfl,b,rfl,[.non,.non],s5 _ _ (by rw [zan bf]; exact n3),.inl rfl⟩ .nil;have Hf0:H f=none:=(s1.trans s2).freeS hf
  refine ⟨λ mm σ H'=>Same H H' /\ ∃ kvs F n E es g,mm=2 * (1296 - F.length) + (if E=[] then 0 else 1) /\ H' f=some (.dT kvs) /\ Frz H' d o mk /\ Ring (steps wd L) wd n F E /\ Fnd H' wd L F kvs /\ Lda H' E es /\ H' g=some (.lst (es.map V.ref)) /\ σ=[some (nV wd),some (.ref m),some v,some (.ref d),some (.ref t),some (.ref f),some (.ref g)],
   ⟨_,s05,_,_,0,[zaJ wd],[t],g,rfl,hf5,hd5,Ring.start _ _,hF5,.cons t5 .nil,n5,rfl⟩,?_⟩
  rintro mm σ H6 ⟨s6,kvs,F,n,E,es,g6,rfl,e6,d6,R6,F6,E6,g6',rfl⟩;symm;have hel:=E6.length;have out:(E=[] \/ ∃ x,W x /\ x ∈ F.map (·.1)) -> ∃ (a:Addr) (kvs:List (List Key × V)),V.ref f=.ref a /\ H6 a=some (.dT kvs) /\ ∀ o,Q (.ref f) (upd H6 a (.frz o (.dT kvs))):=λ hh=>⟨f,kvs,rfl,e6,λ o'=>k f o' kvs _ F n E (s6.upd' Hf0) zah (F6.mono (λ b xs z=>by rw [zan (zbY z e6 nofun)]; exact z) λ _ z=>z) R6 hh⟩
  have key:∀ QQ:Bool -> Prop,(∀ c:Bool,(c=false -> ∃ x,W x /\ x ∈ F.map (·.1)) -> QQ c) -> ((∃ o,DGet H6 f v o /\ ∃ k,V.bl (!o.isSome)=V.bl k /\ QQ k) \/ ∃ kvs,v=.non /\ Rd H6 f (.dT kvs) /\ (∀ kv ∈ kvs,∃ ls,kv.1=kI ls /\ NoN ls) /\ ∃ k,V.bl true=V.bl k /\ QQ k):=λ QQ hq=>by
   rcases hv with ⟨rfl,_⟩ | ⟨l,ls,rfl,hl,hW⟩
   ·exact .inr ⟨kvs,rfl,.inl e6,F6.keysN (λ q hq=>zou hw1 hw3 (((R6.all q.1 q.2).mp hq).2.1.ld hS)),true,rfl,hq true (λ z=>by cases z)⟩
   ·refine .inl ⟨_, DGet.r (.inl e6) (s6 _ _ hl), _, rfl, ?_⟩;rcases F6.val (ls := ls) with ⟨z1, z2⟩ | ⟨n', b', z1, z2, z3⟩
    ·rw [z2]; exact hq true (λ z=>by cases z)
    ·rw [z2]; exact hq false λ _=>⟨ls,(hW ls).mpr rfl,yaf.mpr ⟨_,z1,rfl⟩⟩
  refine zcH (λ hc=>?_) (λ hc=>?_)
  ·have hne : E ≠ [] := fun z => by rw [z] at hel; simp at hel; simp [<- hel] at hc
   symm;refine zkI ?_;symm;refine ⟨f,rfl,key _ λ c hcf=>?_⟩;cases c with
   | true=>
    symm;refine ⟨_,λ _ _ h=>h,?_⟩;symm;refine ⟨f,g6,d,o,wd,n,L,kvs,mk,F,E,es,rfl,e6,g6',d6,hM,hR.same s6,hw,R6,F6,E6,λ g7 es7 H7 kvs7 F7 E7 k7 e7 R7 F7' E7' g7' hlen=>?_⟩;symm;have h7:=R7.len hS;refine ⟨2 * (1296 - F7.length) + (if E7=[] then 0 else 1),?_,k7.same s6 Hf0,kvs7,F7,n + 1,E7,es7,g7,rfl,e7,k7 _ _ (zbY d6 e6 nofun) d6,R7,F7',E7',g7',rfl⟩;rw [if_neg hne]
    split
    ·rename_i hz;rw [hz] at hlen;simp at hlen;omega
    ·have:1 <= E7.length:=List.length_pos_iff.mpr (by assumption);omega
   | false=>
    symm;refine zny ?_;symm;exact out (.inr (hcf rfl))
  ·symm;refine zny ?_;symm;refine out (.inl ?_);cases E with
   | nil=>rfl
   | cons x E=>rw [ybq] at hel; simp [<- hel] at hc
def zgp:FnScope ["leading","menu","found"] ["leading","menu"] (zag zfB):=⟨rfl,rfl,rfl,by decide +kernel,rfl,by decide +kernel,by decide +kernel⟩
def zkj {a:Addr} {fd:FuncData} (B:Blt K mg) (g_deeds_to:A0 P w K mg base) (g_searched:A14 P w K mg base) (F:Fun K "how_few" "how_few" zfB a fd):FnOk P w K mg base CX0 7 a fd ["leading","menu"] (zhi K):=by
 refine F.ok zgp (λ vs H Q E h=>?_) (λ cdv A outer s H vs Q E hr h=>?_)
 ·obtain ⟨wd,m,l,L,ls,rfl,_⟩:=h;rfl
 ·have nd := zgp.nd;have hu := hr.units;obtain ⟨wd, m, l, L, ls, rfl, hm, hR, hw1, hw, hL, hl, hld, k0, k1⟩ := h;have ell : (ls.map V.int).length = wd := by rw [yaa, hld.1]
  refine ⟨_,((6:) (81:) ((8:) ((13:) ((58:) (@zph _ _ _ _ _ _ hu (7:) (12:) (0:)) ((10:) g_deeds_to (11:) ((2:) (12:) ((2:) (7:) (4:) (0:)) (0:)) (0:) (3:) (0:) (0:)) (43:))))),?_⟩;symm;rw [ell];refine ⟨wd,m,.ref l,L,(·=ls),rfl,hm,hR,hw1,hw,hL,.inr ⟨l,ls,rfl,hl,λ x=>Iff.rfl⟩,λ f o kvs H1 F n E s1 hf hF R hE=>?_⟩;have hE:E=[] \/ ls ∈ F.map (·.1):=hE.imp id λ ⟨x,hx,hm⟩=>hx ▸ hm;symm;refine zpC ?_;symm;refine ⟨f,_,rfl,DGet.r (Frz.rd hf) (s1 _ _ hl),?_⟩;rcases hF.val (ls:=ls) with ⟨z1,z2⟩ | ⟨n',b',z1,z2,z3⟩
  ·rw [z2];symm;refine za6 rfl ?_;symm;have hE0:E=[]:=hE.resolve_right z1;subst hE0;exact k0 H1 s1 λ q dq=>z1 (yaf.mpr ⟨_,(R.end ls q).mpr dq,rfl⟩)
  ·rw [z2];symm;refine zbc rfl ?_;symm;obtain ⟨r0,w3,_⟩:=id z3;refine ⟨f,l,b',kvs,ls,n',r0,rfl,Frz.rd hf,s1 _ _ hl,z2,w3,?_⟩;symm;exact k1 H1 n' s1 ((R.all ls n').mp z1).2
def zjS:FnScope ["width","menu","found"] ["width","menu"] (zag zgS):=⟨rfl,rfl,rfl,by decide +kernel,rfl,by decide +kernel,by decide +kernel⟩
def znk {a:Addr} {fd:FuncData} (B:Blt K mg) (g_deeds_to:A0 P w K mg base) (g_searched:A14 P w K mg base) (F:Fun K "reach" "reach" zgS a fd):FnOk P w K mg base CX0 7 a fd ["width","menu"] (zlv K):=by
 refine F.ok zjS (λ vs H Q E h=>?_) (λ cdv A outer s H vs Q E hr h=>?_)
 ·obtain ⟨wd,m,L,rfl,_⟩:=h;rfl
 ·have nd := zjS.nd;have hu := hr.units;obtain ⟨wd, m, L, rfl, hm, hR, hw1, hw, hL, k⟩ := h;have hS := zcu hR;have hp4 := zdN (w := wd) (1:);refine ⟨_, ((6:) (@zat _ _ 2 _ _ _ _ nd rfl (Or.inr rfl) ((10:) g_searched (11:) ((2:) (7:) ((2:) (16:) ((2:) (43:) (4:) (0:)) (0:)) (0:)) (0:) (3:) (0:) (0:)) (0:) (15:)) ((8:) ((13:) ((29:) (@ziU _ hu) rfl B.b_sorted boot_sorted ((2:) (@zaZ _ _ _ _ _ _ (zag zgS) _ ["width", "menu", "found"] ["leading", "found"] [none, some 2] _ _ _ _ rfl (@zj1 _ _ _ _ (12:)) (fun _ _ _ _ => (@zas _ _ 0 _ (show List.Nodup (["leading", "found"] : List Str) by decide +kernel) rfl (17:) (15:))) (fun _ _ _ _ => (@zbC _)) (fun _ _ _ _ => ((28:) ((2:) ((10:) g_deeds_to (11:) ((2:) (16:) ((2:) (7:) (4:) (0:)) (0:)) (0:) (3:) (0:) (0:)) ((2:) (7:) (4:) (0:)) (0:)))) (20:) (0:) (0:) (24:)) (4:) (0:)) (3:) (3:) (0:) (0:))))), ?_⟩;symm;refine ⟨wd, m, .non, L, fun _ => False, rfl, hm, hR, hw1, hw, hL, .inl ⟨rfl, fun _ z => z⟩, fun f o kvs H1 F n E s1 hf hF R hE => ?_⟩;have hE0 : E = [] := hE.resolve_right fun ⟨_, z, _⟩ => z;subst hE0;have hFl := R.len hS;have hkl := hF.length;symm;refine zlJ ?_;symm;refine ⟨f, kvs, rfl, .inr ⟨o, hf, ?_⟩⟩;refine zmC (fun i acc H' => Same H1 H' /\ ∃ ps, acc = ps.map V.ref /\ ps.length = i /\ i <= F.length /\ Prs2 H' ((F.take i).map fun q => (q.2, q.1)) ps) ⟨Same.refl _, [], rfl, rfl, yaY _, .nil⟩ (fun i acc H' h => ?_) (fun i acc H' h => h.1 _ _ hf) ?_ ?_
  ·obtain ⟨_,ps,rfl,h1,h2,_⟩:=h;rw [yaa];exact yaE (small5 (1:))
  ·rintro i kk b acc H2 hkk hb ⟨s2, ps, rfl, hl, hiF, hP⟩;rw [hF.keys, yan] at hkk
   obtain ⟨q,hq,rfl⟩:∃ q,F[i]?=some q /\ kI q.1=kk:=by
    cases e:F[i]? with
    | none=>rw [e] at hkk; cases hkk
    | some q=>rw [e] at hkk; exact ⟨q,rfl,Option.some.inj hkk⟩
   have hil:i < F.length:=(yaj.mp hq).1;have hqF:=yar hq;rw [kI_V] at hb;have f2:Frz H2 f o kvs:=s2 _ _ hf;have hF2:=hF.mono (λ b xs z=>s2 _ _ z) λ _ z=>z
   obtain ⟨b0,w1,w2⟩:∃ b0,valV kvs (kI q.1)=some (.ref b0) /\ Ent H2 wd L F (q.1,q.2) b0:=by
    rcases hF2.val (ls:=q.1) with ⟨q1,_⟩ | ⟨n0,b0,q1,q2,q3⟩
    ·exact absurd (yaf.mpr ⟨_,hqF,rfl⟩) q1
    ·have:=zg1 R.once q1 (show (q.1,q.2) ∈ F from hqF);subst this;exact ⟨b0,q2,q3⟩
   obtain ⟨r0,w3,_⟩:=id w2;symm;refine ⟨f,b,b0,kvs,q.1,q.2,r0,rfl,Frz.rd f2,hb,w1,w3,?_⟩;symm;refine zaq (5:) λ t H3 f3 s3 n3=>?_;refine ⟨s2.trans s3,ps ++ [t],by rw [yal]; rfl,by rw [yam,hl]; rfl,hil,?_⟩;rw [yaG,hq,yal];exact Prs2.snoc ⟨b,n3,s3 _ _ hb⟩ (hP.mono λ b xs z=>s3 _ _ z)
  ·rintro acc H2 ⟨s2, ps, rfl, hl, hiF, hP⟩ l hfl;rw [<- hkl, yaq (yag _)] at hP;have sl := zal (o := .lst (ps.map V.ref)) hfl;have l3 : upd H2 l (.lst (ps.map V.ref)) l = some (.lst (ps.map V.ref)) := zah;have P3 := hP.mono fun b xs z => sl _ _ z;have s13 := s2.trans sl;generalize upd H2 l (.lst (ps.map V.ref)) = H3 at *;symm;refine ⟨l, ps, _, wd, rfl, .inl l3, P3, fun q hq => ?_, fun r ps' G' hr hG hO hP' => ?_⟩
   ·obtain ⟨q',hq',rfl⟩:=yaf.mp hq;have l:=(((R.all q'.1 q'.2).mp hq').2).1.ld hS;exact ⟨l.1,λ e he=>by have:=l.2 e he; omega⟩
   ·have sr := zal (o := .lst (ps'.map V.ref)) hr
    have nod:(F.map λ q=>(q.2,q.1)).Nodup:=by
     refine ya3.mpr ((ya3.mp R.once).imp λ {a b} z e=>z ?_);exact (Prod.mk.inj e).2
    refine k r ps' G' _ ((s1.trans s13).freeS hr) ((s1.trans s13).trans sr) ⟨λ q x=>?_,hG.nodup_iff.mpr nod,hO,?_⟩ (hP'.mono λ b xs z=>sr _ _ z) zah
    ·rw [hG.mem_iff,yaf,<- R.end x q];exact ⟨λ ⟨a,ha,e⟩=>by cases e; exact ha,λ h=>⟨_,h,rfl⟩⟩
    ·rw [hG.length_eq,yaa]; omega
def zds:FnScope ["width","row","leading","deed"] ["width","row"] (zag zcn):=⟨rfl,rfl,rfl,by decide +kernel,rfl,by decide +kernel,by decide +kernel⟩
def zf4 {a:Addr} {fd:FuncData} (B:Blt K mg) (g_staying:A1 P w K mg base) (g_then:A12 P w K mg base) (g_deed_leading:A10 P w K mg base) (F:Fun K "row_leading" "row_leading" zcn a fd):FnOk P w K mg base CX0 5 a fd ["width","row"] (zmd K):=by
 refine F.ok zds (λ vs H Q E h=>?_) (λ cdv A outer s H vs Q E hr h=>?_)
 ·obtain ⟨w,b,L,rfl,_⟩:=h;rfl
 ·have nd := zds.nd;have hu := hr.units;obtain ⟨w, b, L, rfl, hb, hR, hw, k⟩ := h;refine ⟨_, ((6:) (@zat _ _ 2 _ _ _ _ nd rfl (17:) ((10:) g_staying (11:) ((2:) (7:) (4:) (0:)) (0:) (3:) (0:) (0:)) (0:) (15:)) ((6:) ((37:) yaJ rfl (57:) (77:) ((8:) (@zat _ _ 2 _ _ _ _ nd rfl (17:) ((10:) g_then (11:) ((2:) (12:) ((2:) ((10:) g_deed_leading (11:) ((2:) (7:) ((2:) (21:) (4:) (0:)) (0:)) (0:) (3:) (0:) (0:)) (4:) (0:)) (0:)) (0:) (3:) (0:) (0:)) (0:) (15:))) (24:)) ((8:) ((13:) (12:))))), ?_⟩;symm;refine ⟨w, rfl, hw, fun t0 H0 s0 n0 => ?_⟩;symm;have hb0 : SqL K H0 b (rowV L) \/ SqT K H0 b (rowV L) := hb.elim (fun z => .inl (s0.seq z)) (fun z => .inr (s0.seqT z));refine ze9 (xs := rowV L) hb0 (fun j σ H' => Same H0 H' /\ ∃ t v3, H' t = some (.tup ((rowL w (dds (L.take j))).map V.int)) /\ σ = [some (nV w), some (.ref b), some (.ref t), v3]) ⟨fun _ _ e => e, t0, _, n0, rfl⟩ (fun j σ H' h => ⟨fun z => (h.1).seq z, fun z => (h.1).seqT z⟩) ?_ ?_
  ·rintro j y σ H' hy ⟨s1,t,v3,nt,rfl⟩;obtain ⟨q,hq,rfl⟩:=zaI hy;obtain ⟨h1,h2⟩:=hR q (yar hq);have hok:∀ d ∈ dds (L.take j),d.ok w:=Rw.ok (H:=H) λ q hq=>hR q (ybM hq);symm;refine ⟨w,q.1,q.2,rfl,s1 _ _ (s0 _ _ h1),h2,hw,λ t2 H2 s2 n2=>?_⟩;symm;refine ⟨t,t2,_,_,w,rfl,s2 _ _ nt,n2,zif hok,q.2.led_ld h2,hw,λ t3 H3 s3 n3=>?_⟩;symm;refine ⟨s1.trans (s2.trans s3),t3,some (.ref q.1),?_,rfl⟩;rw [n3,yaG,hq,show dds (L.take j ++ (some q).toList)=dds (L.take j) ++ [q.2] by simp [dds]];rw [show rowL w (dds (L.take j) ++ [q.2])=zaA (rowL w (dds (L.take j))) (q.2.led w) by unfold rowL; rw [ybR]; rfl]
  ·rintro σ H' ⟨s1,t,v3,nt,rfl⟩;rw [show (rowV L).length=L.length by simp [rowV],yaq (yag _)] at nt;symm;exact k t H' (s0.trans s1) nt
def znI:FnScope ["many"] ["many"] (zag zo8):=⟨rfl,rfl,rfl,by decide +kernel,rfl,by decide +kernel,by decide +kernel⟩
def zpM {a:Addr} {fd:FuncData} (B:Blt K mg)  (F:Fun K "low" "low" zo8 a fd):FnOk P w K mg base CX0 1 a fd ["many"] zmT:=by
 refine F.ok znI (λ vs H Q E h=>?_) (λ cdv A outer s H vs Q E hr h=>?_)
 ·obtain ⟨n,rfl,_⟩:=h;rfl
 ·have nd:=znI.nd;have hu:=hr.units;obtain ⟨n,rfl,hn,q⟩:=h;refine ⟨_,((8:) ((13:) ((14:) (36:) ((14:) (@zc0 _) (9:) (7:)) (9:)))),?_⟩;symm;rw [zme];exact q
def zk9:FnScope ["width"] ["width"] (zag zmo):=⟨rfl,rfl,rfl,by decide +kernel,rfl,by decide +kernel,by decide +kernel⟩
def zo9 {a:Addr} {fd:FuncData} (B:Blt K mg) (g_low:A18 P w K mg base) (F:Fun K "full" "full" zmo a fd):FnOk P w K mg base CX0 2 a fd ["width"] zmT:=by
 refine F.ok zk9 (λ vs H Q E h=>?_) (λ cdv A outer s H vs Q E hr h=>?_)
 ·obtain ⟨n,rfl,_⟩:=h;rfl
 ·have nd:=zk9.nd;have hu:=hr.units;obtain ⟨n,rfl,hn,q⟩:=h;refine ⟨_,((8:) ((13:) ((10:) g_low (11:) ((2:) (7:) (4:) (0:)) (0:) (3:) (0:) (0:)))),?_⟩;symm;exact ⟨n,rfl,hn,q⟩
def zcD:FnScope ["width","name","part"] ["width","name","part"] (zag zbG):=⟨rfl,rfl,rfl,by decide +kernel,rfl,by decide +kernel,by decide +kernel⟩
def ze7 {a:Addr} {fd:FuncData} (B:Blt K mg) (g_full:A19 P w K mg base) (g_is_within:A6 P w K mg base) (F:Fun K "fits_with_one" "fits_with_one" zbG a fd):FnOk P w K mg base CX0 3 a fd ["width","name","part"] zjC:=by
 refine F.ok zcD (λ vs H Q E h=>?_) (λ cdv A outer s H vs Q E hr h=>?_)
 ·obtain ⟨w,a,b,rfl,_⟩:=h;rfl
 ·have nd := zcD.nd;have hu := hr.units;obtain ⟨w, a, b, rfl, ha, hb, hw1, hw2, k⟩ := h;refine ⟨_, ((6:) ((22:) ((19:) (@zpo _ K hu (0:)) (16:) ((28:) ((26:) ((26:) ((26:) ((26:) (4:)))))) rfl) ((8:) ((13:) ((10:) g_is_within (11:) ((2:) (12:) ((2:) (9:) ((2:) ((10:) g_full (11:) ((2:) (7:) (4:) (0:)) (0:) (3:) (0:) (0:)) (4:) (0:)) (0:)) (0:)) (0:) (3:) (0:) (0:)))) (23:)) ((6:) ((22:) ((19:) (@zpo _ K hu (0:)) (16:) ((28:) ((26:) ((26:) (4:)))) rfl) ((8:) ((13:) ((10:) g_is_within (11:) ((2:) (12:) ((2:) (9:) ((2:) (7:) (4:) (0:)) (0:)) (0:)) (0:) (3:) (0:) (0:)))) (23:)) ((8:) ((13:) (@zha _ _ _ _ _ _ _ ((54:) (25:) (16:) (35:) (18:)) (@zjP _ _ _ _ _ ((10:) g_is_within (11:) ((2:) (12:) ((2:) (9:) ((2:) ((14:) (36:) (7:) (9:)) (4:) (0:)) (0:)) (0:)) (0:) (3:) (0:) (0:)))))))), ?_⟩;symm;refine zaq (5:) fun t1 H1 f1 s1 n1 => ?_;symm;refine zqy (ss := ["and", "or", "gather", "strew"]) (ha.same s1) n1 (20:) ?_;symm;cases c1 : inS ["and", "or", "gather", "strew"] a with
  | true=>
   refine zbc rfl ?_;symm;refine ⟨w,rfl,hw2,?_⟩;symm;refine ⟨b,0,_,rfl,hb.same s1,?_⟩;have:=k _ s1;rw [zaO,if_pos c1] at this;exact this
  | false=>
   refine za6 rfl ?_;symm;refine zaq (5:) λ t2 H2 f2 s2 n2=>?_;have s02:=s1.trans s2;symm;refine zqy (ss:=["left","right"]) (ha.same s02) n2 (20:) ?_;symm;cases c2:inS ["left","right"] a with
   | true=>
    refine zbc rfl ?_;symm;refine ⟨b,0,_,rfl,hb.same s02,?_⟩;have:=k _ s02;rw [zaO,if_neg (by rw [c1]; decide),if_pos c2] at this;exact this
   | false=>
    refine za6 rfl ?_;symm;refine zoU (ha.same s02) (20:) ?_;have:=k _ s02;rw [zaO,if_neg (by rw [c1]; decide),if_neg (by rw [c2]; decide)] at this;cases c3:eqS "turn" a with
    | true=>
     rw [c3,ycM] at this;refine ⟨true,rfl,?_⟩;rw [if_pos rfl];symm;exact ⟨b,0,_,rfl,hb.same s02,this⟩
    | false=>
     rw [c3,ycx] at this;refine ⟨false,rfl,?_⟩;rw [if_neg (3:)];exact this
def zdr:FnScope ["width","mask","by"] ["width","mask","by"] (zag zbx):=⟨rfl,rfl,rfl,by decide +kernel,rfl,by decide +kernel,by decide +kernel⟩
def zfS {a:Addr} {fd:FuncData} (B:Blt K mg) (g_places_in:A3 P w K mg base) (g_is_within:A6 P w K mg base) (F:Fun K "goes_within" "goes_within" zbx a fd):FnOk P w K mg base CX0 3 a fd ["width","mask","by"] znY:=by
 refine F.ok zdr (λ vs H Q E h=>?_) (λ cdv A outer s H vs Q E hr h=>?_)
 ·obtain ⟨w,m,n,rfl,_⟩:=h;rfl
 ·have nd := zdr.nd;have hu := hr.units;obtain ⟨w, m, n, rfl, hm, k⟩ := h;have hl := zaH hm;refine ⟨_, ((8:) ((13:) ((29:) (@zq5 _ K rfl (0:)) rfl B.b_all boot_all ((2:) (@zaZ _ _ _ _ _ _ (zag zbx) _ ["width", "mask", "by"] ["place", "by", "width"] [none, some 2, some 0] _ _ _ _ rfl (@zaF _ K _ _ _ ((10:) g_places_in (11:) ((2:) (16:) (4:) (0:)) (0:) (3:) (0:) (0:)) (0:)) (fun _ _ _ _ => (@zas _ _ 0 _ (show List.Nodup (["place", "by", "width"] : List Str) by decide +kernel) rfl (17:) (15:))) (fun _ _ _ _ => (@zbC _)) (fun _ _ _ _ => ((10:) g_is_within (11:) ((2:) ((14:) (31:) (7:) (16:)) ((2:) (9:) ((2:) ((14:) (36:) (12:) (9:)) (4:) (0:)) (0:)) (0:)) (0:) (3:) (0:) (0:))) (20:) (0:) (0:) (24:)) (4:) (0:)) (3:) (3:) (0:) (0:)))), ?_⟩;symm;refine ⟨m, rfl, hm, fun q H1 f1 s1 n1 => ?_⟩;symm;refine zbF (SqL.of n1) ?_;refine zbL (xs := (zad m).map nV) (fun i acc H' => H' = H1 /\ i <= 64 /\ acc = (((zad m).take i).map fun (p : Nat) => decide ((0 : Int) <= (p : Int) + n) && decide ((p : Int) + n <= (w : Int) - 1)).map V.bl) ⟨rfl, by omega, rfl⟩ (fun i acc H' h => ?_) (fun i acc H' h => by rw [h.1]; exact SqL.of n1) ?_ ?_
  ·obtain ⟨_,hi,rfl⟩:=h;rw [yaa,yaa,yaV];exact yaE (small5 (1:))
  ·rintro i x acc H' hx ⟨rfl,hi,rfl⟩;obtain ⟨y,hy,rfl⟩:=zaI hx;have hil:i < (zad m).length:=(yaj.mp hy).1;symm;refine ⟨.int ((y:Int) + n),0,(w:Int) - 1,rfl,.inl (.int _),?_⟩;refine ⟨rfl,by show i + 1 <= 64; omega,?_⟩;rw [yaG,hy,yal,yal];rfl
  ·rintro acc H' ⟨rfl,_,rfl⟩ r hr;rw [yaa,yaq (yag _)];symm;refine ⟨r,_,rfl,SqL.of zah,?_⟩;rw [show (λ bs:List Bool=>bs.all id) ((zad m).map λ (p:Nat)=>decide ((0:Int) <= (p:Int) + n) && decide ((p:Int) + n <= (w:Int) - 1))=zc1 w m n by unfold zc1; simp];exact k _ (s1.trans (zal hr))
def zdy:FnScope ["width","mask","by"] ["width","mask","by"] (zag zcA):=⟨rfl,rfl,rfl,by decide +kernel,rfl,by decide +kernel,by decide +kernel⟩
def zf0 {a:Addr} {fd:FuncData} (B:Blt K mg) (g_goes_within:A21 P w K mg base) (F:Fun K "swaps_apart" "swaps_apart" zcA a fd):FnOk P w K mg base CX0 4 a fd ["width","mask","by"] zmy:=by
 refine F.ok zdy (λ vs H Q E h=>?_) (λ cdv A outer s H vs Q E hr h=>?_)
 ·obtain ⟨w,m,n,rfl,_⟩:=h;rfl
 ·have nd := zdy.nd;have hu := hr.units;obtain ⟨w, m, n, rfl, hm, hn, k⟩ := h;refine ⟨_, ((8:) ((13:) (@zha _ _ _ _ _ _ _ ((10:) g_goes_within (11:) ((2:) (7:) ((2:) (16:) ((2:) (12:) (4:) (0:)) (0:)) (0:)) (0:) (3:) (0:) (0:)) (@zjP _ _ _ _ _ ((54:) (25:) ((14:) (@zeQ _) (16:) ((14:) (@zc0 _) (16:) (12:))) (9:) (18:)))))), ?_⟩;symm;refine ⟨w, m, n, rfl, hm, fun H1 s1 => ?_⟩;symm;refine ite2 (fun h => ?_) (fun h => ?_)
  ·symm;rw [zo6, zbh]
   have e:((((m &&& m * 2 ^ n:Nat)):Int) == 0)=(zc1 w m n && decide ((m &&& m * 2 ^ n)=0)):=by
    rw [h,ycM];apply Bool.eq_iff_iff.mpr;rw [beq_iff_eq,decide_eq_true_iff];omega
   rw [e];exact k H1 s1
  ·have e:false=(zc1 w m n && decide ((m &&& m * 2 ^ n)=0)):=by
    rw [yb3.mpr h];rfl
   symm;rw [e];exact k H1 s1
def zcB:FnScope ["width","name","mask","by"] ["width","name","mask","by"] (zag zbM):=⟨rfl,rfl,rfl,by decide +kernel,rfl,by decide +kernel,by decide +kernel⟩
def ze1 {a:Addr} {fd:FuncData} (B:Blt K mg) (g_full:A19 P w K mg base) (g_is_within:A6 P w K mg base) (g_goes_within:A21 P w K mg base) (g_swaps_apart:A22 P w K mg base) (F:Fun K "fits_with_two" "fits_with_two" zbM a fd):FnOk P w K mg base CX0 5 a fd ["width","name","mask","by"] zjm:=by
 refine F.ok zcB (λ vs H Q E h=>?_) (λ cdv A outer s H vs Q E hr h=>?_)
 ·obtain ⟨w,a,m,n,rfl,_⟩:=h;rfl
 ·have nd := zcB.nd;have hu := hr.units;obtain ⟨w, a, m, n, rfl, ha, hm, hn, hw1, hw2, k⟩ := h;have kk := k _ (Same.refl _);refine ⟨_, ((6:) ((22:) (@zgi _ _ _ _ (@zdw _ _ _ ((10:) g_is_within (11:) ((2:) (12:) ((2:) (9:) ((2:) ((10:) g_full (11:) ((2:) (7:) (4:) (0:)) (0:) (3:) (0:) (0:)) (4:) (0:)) (0:)) (0:)) (0:) (3:) (0:) (0:)) (24:))) ((8:) ((13:) (50:))) (23:)) ((6:) ((22:) ((19:) (25:) (16:) (35:) (18:)) ((8:) ((13:) (@zha _ _ _ _ _ _ _ ((10:) g_is_within (11:) ((2:) (21:) ((2:) (9:) ((2:) ((14:) (36:) (7:) (9:)) (4:) (0:)) (0:)) (0:)) (0:) (3:) (0:) (0:)) (@zjP _ _ _ _ _ ((10:) g_swaps_apart (11:) ((2:) (7:) ((2:) (12:) ((2:) (21:) (4:) (0:)) (0:)) (0:)) (0:) (3:) (0:) (0:)))))) (23:)) ((6:) ((22:) ((19:) (25:) (16:) (35:) (18:)) ((8:) ((13:) (@zha _ _ _ _ _ _ _ ((10:) g_is_within (11:) ((2:) (21:) ((2:) ((14:) (36:) (9:) (7:)) ((2:) ((14:) (36:) (7:) (9:)) (4:) (0:)) (0:)) (0:)) (0:) (3:) (0:) (0:)) (@zha _ _ _ _ _ _ _ ((54:) (52:) (21:) (9:) (18:)) (@zjP _ _ _ _ _ ((10:) g_goes_within (11:) ((2:) (7:) ((2:) (12:) ((2:) (21:) (4:) (0:)) (0:)) (0:)) (0:) (3:) (0:) (0:))))))) (23:)) ((8:) ((13:) (50:)))))), ?_⟩;symm;refine ⟨w, rfl, hw2, ?_⟩;symm;refine ⟨m, 0, _, rfl, hm, ?_⟩;symm;cases c1 : zaz m 0 ((2 ^ w - 1 : Nat) : Int) with
  | false=>
   refine zbc rfl ?_;symm;rw [zbo,c1,ycx] at kk;exact kk
  | true=>
   refine za6 rfl ?_
   obtain ⟨i,rfl⟩:∃ i,m=.int i:=by
    cases m with
    | int i=>exact ⟨i,rfl⟩
    | _=>simp [zaz] at c1
   have c1':=c1;simp only [zaz,yad,decide_eq_true_iff] at c1';obtain ⟨x,rfl⟩:=Int.eq_ofNat_of_zero_le c1'.1;have hx:x < 2 ^ w:=by have:=ybz w; omega
   have hx64:=lt64 hx hw2;symm;refine zoU ha (20:) ?_;symm;cases c2:eqS "swap" a with
   | true=>
    refine zbc rfl ?_;symm;refine ⟨n,1,_,rfl,hn,?_⟩;symm;cases c3:zaz n 1 ((w:Int) - 1) with
    | false=>
     refine za6 rfl ?_;symm;rw [zbo,c1,if_pos c2,c3] at kk;exact kk
    | true=>
     refine zbc rfl ?_
     obtain ⟨j,rfl⟩:∃ i,n=.int i:=by
      cases n with
      | int i=>exact ⟨i,rfl⟩
      | _=>simp [zaz] at c3
     have c3':=c3;simp only [zaz,yad,decide_eq_true_iff] at c3';obtain ⟨y,rfl⟩:=Int.eq_ofNat_of_zero_le (show 0 <= j by omega);symm;refine ⟨w,x,y,rfl,hx64,by omega,λ H1 s1=>?_⟩;have:=k _ s1;rw [zbo,c1,if_pos c2,c3] at this;exact this
   | false=>
    refine za6 rfl ?_;symm;refine zoU ha (20:) ?_;symm;have n2:¬ (eqS "swap" a=true):=by rw [c2]; decide
    cases c4:eqS "copy" a with
    | false=>
     refine za6 rfl ?_;symm;rw [zbo,c1,if_neg n2,if_neg (by rw [c4]; decide)] at kk;exact kk
    | true=>
     refine zbc rfl ?_;symm;refine ⟨n,1 - (w:Int),_,rfl,hn,?_⟩;symm;cases c3:zaz n (1 - (w:Int)) ((w:Int) - 1) with
     | false=>
      refine za6 rfl ?_;symm;rw [zbo,c1,if_neg n2,if_pos c4,c3] at kk;exact kk
     | true=>
      refine zbc rfl ?_
      obtain ⟨j,rfl⟩:∃ i,n=.int i:=by
       cases n with
       | int i=>exact ⟨i,rfl⟩
       | _=>simp [zaz] at c3
      symm;refine zfx (λ h0=>?_) (λ h0=>?_)
      ·symm;refine ⟨w,x,j,rfl,hx64,λ H1 s1=>?_⟩;have:=k _ s1;rw [zbo,c1,if_neg n2,if_pos c4,c3,show (intV (.int j) != 0)=true from bne_iff_ne.mpr h0] at this;exact this
      ·symm;rw [zbo,c1,if_neg n2,if_pos c4,c3,show (intV (.int j) != 0)=false by rw [show intV (.int j)=0 from h0]; rfl] at kk;exact kk
def zgj:FnScope ["width","thing"] ["width","thing"] (zag zfC):=⟨rfl,rfl,rfl,by decide +kernel,rfl,by decide +kernel,by decide +kernel⟩
def zkE {a:Addr} {fd:FuncData} (B:Blt K mg) (g_fits_with_one:A20 P w K mg base) (g_fits_with_two:A23 P w K mg base) (F:Fun K "is_deed" "is_deed" zfC a fd):FnOk P w K mg base CX0 6 a fd ["width","thing"] zh9:=by
 refine F.ok zgj (λ vs H Q E h=>?_) (λ cdv A outer s H vs Q E hr h=>?_)
 ·obtain ⟨w,v,r,rfl,_⟩:=h;rfl
 ·have nd := zgj.nd;have hu := hr.units;obtain ⟨w, v, r, rfl, hv, hw1, hw2, k⟩ := h;refine ⟨_, ((6:) ((22:) (@zgi _ _ _ _ (@zdw _ _ _ ((29:) (@zoZ _ K (0:)) rfl B.b_isinstance boot_isinstance ((2:) (16:) ((2:) (@ziC _ _ (.ty "tuple") _ _ rfl B.b_tuple boot_tuple rfl (3:) (3:)) (4:) (0:)) (0:)) (3:) (3:) (0:) (0:)) (24:))) ((8:) ((13:) (50:))) (23:)) ((6:) ((22:) ((19:) (25:) ((29:) (39:) rfl B.b_len boot_len ((2:) (16:) (4:) (0:)) (3:) (3:) (0:) (0:)) (9:) (18:)) ((8:) ((13:) ((10:) g_fits_with_one (11:) ((2:) (7:) ((2:) (27:) ((2:) (27:) (4:) (0:)) (0:)) (0:)) (0:) (3:) (0:) (0:)))) (23:)) ((6:) ((22:) ((19:) (25:) ((29:) (39:) rfl B.b_len boot_len ((2:) (16:) (4:) (0:)) (3:) (3:) (0:) (0:)) (9:) (18:)) ((8:) ((13:) ((10:) g_fits_with_two (11:) ((2:) (7:) ((2:) (27:) ((2:) (27:) ((2:) (27:) (4:) (0:)) (0:)) (0:)) (0:)) (0:) (3:) (0:) (0:)))) (23:)) ((8:) ((13:) (50:)))))), ?_⟩;rcases hv with ⟨b, xs, rfl, ⟨hb, hk, hz, hx1⟩, rfl⟩ | ⟨hn, rfl⟩
  ·symm;refine zaY (fun h1 => ?_) (fun h1 => ?_)
   ·obtain ⟨a,c,rfl⟩:∃ a c,xs=[a,c]:=by
     match xs,h1 with
     | [a,c],_=>exact ⟨a,c,rfl⟩
     | [],h=>simp at h
     | [_],h=>simp at h
     | _ :: _ :: _ :: r,h=>simp at h; omega
    symm;exact ⟨w,a,c,rfl,hx1 a [c] rfl nofun,hk c (5:),hw1,hw2,k⟩
   ·symm;refine zaY (fun h2 => ?_) (fun h2 => ?_)
    ·obtain ⟨a,c,d,rfl⟩:∃ a c d,xs=[a,c,d]:=by
      match xs,h2 with
      | [a,c,d],_=>exact ⟨a,c,d,rfl⟩
      | [],h=>simp at h
      | [_],h=>simp at h
      | [_,_],h=>simp at h
      | _ :: _ :: _ :: _ :: r,h=>simp at h; omega
     symm;exact ⟨w,a,c,d,rfl,hx1 a [c,d] rfl nofun,hk c (5:),hk d (5:),hw1,hw2,k⟩
    ·symm;have := k _ (Same.refl _)
     rw [show zdm w xs=false by
      match xs,h1,h2 with
      | [],_,_=>rfl
      | [_],_,_=>rfl
      | [_,_],h,_=>exact absurd rfl h
      | [_,_,_],_,h=>exact absurd rfl h
      | _ :: _ :: _ :: _ :: r,_,_=>rfl] at this
     exact this
  ·symm;refine zkM hn ?_;symm;exact k _ (Same.refl _)
def zdo:FnScope ["width","name","tried","part"] ["width","name"] (zag zbw):=⟨rfl,rfl,rfl,by decide +kernel,rfl,by decide +kernel,by decide +kernel⟩
def zf1 {a:Addr} {fd:FuncData} (B:Blt K mg) (g_full:A19 P w K mg base) (F:Fun K "maybe_deeds" "maybe_deeds" zbw a fd):FnOk P w K mg base CX0 3 a fd ["width","name"] zls:=by
 refine F.ok zdo (λ vs H Q E h=>?_) (λ cdv A outer s H vs Q E hr h=>?_)
 ·obtain ⟨w,kd,rfl,_⟩:=h;rfl
 ·have nd := zdo.nd;have hu := hr.units;obtain ⟨w, kd, rfl, hkd, hw1, hw4, k⟩ := h;have h16 : 2 ^ w <= 16 := yaL (3:) hw4;have hp0 := ybz w;refine ⟨_, ((6:) (78:) ((6:) ((37:) yaJ rfl ((56:) rfl B.b_range ((2:) ((14:) (31:) ((10:) g_full (11:) ((2:) (7:) (4:) (0:)) (0:) (3:) (0:) (0:)) (9:)) (4:) (0:)) (0:)) (@zas _ _ 3 _ nd rfl (Or.inr rfl) (15:)) ((6:) ((53:) (@k_bm _ K _ _ _ _ _ _ _ _ _ _ _ ya9 ybT ybU (@zdV _) (12:) ((2:) ((28:) ((2:) (16:) ((2:) (21:) (4:) (0:)) (0:))) (4:) (0:)) (0:) (0:) (0:) (0:) (0:) (0:)) (0:)) ((8:) ((53:) (@k_bm _ K _ _ _ _ _ _ _ _ _ _ _ ya9 yce ycf (@zfN _) (12:) ((2:) (@zaZ _ _ _ _ _ _ (zag zbw) _ ["width", "name", "tried", "part"] ["by", "name", "part"] [none, some 1, some 3] _ _ _ _ rfl (@zg4 _ _ _ _ _ _ _ rfl B.b_range ((2:) ((14:) (36:) (9:) (7:)) ((2:) (7:) (4:) (0:)) (0:)) (0:) (0:)) (fun _ _ _ _ => (@zas _ _ 0 _ (show List.Nodup (["by", "name", "part"] : List Str) by decide +kernel) rfl (17:) (15:))) (fun _ _ _ _ => (@zbC _)) (fun _ _ _ _ => ((28:) ((2:) (16:) ((2:) (12:) ((2:) (7:) (4:) (0:)) (0:)) (0:)))) (20:) (0:) (0:) (24:)) (4:) (0:)) (0:) (0:) (0:) (0:) (0:) (0:)) (0:)))) (24:)) ((8:) ((13:) (12:))))), ?_⟩;symm;refine zbe (5:) fun l H1 f1 s1 n1 => ?_;symm;refine ⟨w, rfl, by omega, ?_⟩;symm;rw [show ((2 ^ w - 1 : Nat) : Int) + 1 = ((2 ^ w : Nat) : Int) by omega];refine zjJ (n := 2 ^ w) rfl (1:) ?_;refine zdf (fun i σ H' => i <= 16 /\ ∃ (L : List (Addr × En)) (v3 : Option V), Gr H H' l L /\ ens L = zdn w kd i /\ L.length <= 8 * i /\ σ = [some (nV w), some (.str (nmK kd)), some (.ref l), v3]) ⟨by omega, [], none, ⟨s1, n1, TL.nil _⟩, rfl, by simp, rfl⟩ ?_ ?_
  ·rintro i σ H2 hi ⟨hi16, L, v3, g, eL, zL, rfl⟩;have n2 := g.2.1;symm;refine zaq (5:) fun t H3 f3 s3 n3 => ?_;have g3 := g.same s3;symm;refine zqD g3.2.1 (small5 (by rw [zcO]; omega)) ?_;have g4 := g3.put f1 (M := [(t, (kd, [(i : Int)]))]) (TL.one n3);generalize hH4 : upd H3 l (.lst (tlV L ++ tlV [(t, (kd, [(i : Int)]))])) = H4 at g4;have hH4' : upd H3 l (.lst (tlV L ++ [.ref t])) = H4 := hH4;rw [hH4'];have n4 := g4.2.1;symm;refine znX ?_;symm;refine ⟨1 - (w : Int), (w : Int), rfl, ⟨by omega, by omega, by omega, by omega⟩, ?_⟩;rw [show ((w : Int) - (1 - (w : Int))).toNat = 2 * w - 1 by omega];refine zgb (fun j acc H' => Same H4 H' /\ j <= 7 /\ ∃ M : List (Addr × En), acc = tlV M /\ TL H' M /\ M.length = j /\ ens M = (List.range j).map fun (j : Nat) => (kd, [(i : Int), (1 - (w : Int)) + (j : Int)])) ⟨Same.refl _, by omega, [], rfl, TL.nil _, rfl, rfl⟩ (fun j acc H' h => ?_) ?_ ?_
   ·obtain ⟨_,hj,M,rfl,_,hz,_⟩:=h;rw [zcO];exact yaE (small5 (1:))
   ·rintro j acc H5 hj ⟨s5,hj7,M,rfl,hM,hz,eM⟩;symm;refine zaq (5:) λ u H6 f6 s6 n6=>?_;refine ⟨s5.trans s6,by omega,M ++ [(u,(kd,[(i:Int),(1 - (w:Int)) + (j:Int)]))],by rw [ziW]; rfl,(hM.same s6).app (TL.one n6),by rw [yam,hz]; rfl,?_⟩;rw [zey,eM,yaQ,yal];rfl
   ·rintro acc H5 ⟨s5, _, M, rfl, hM, hz, eM⟩ q hq;have s6 := zal (o := .lst (tlV M)) hq;generalize hH6 : upd H5 q (.lst (tlV M)) = H6 at s6;have n6 : H6 q = some (.lst (tlV M)) := by rw [<- hH6]; exact zah
    have g6:=g4.same (s5.trans s6);symm;refine zoG (K:=K) g6.2.1 n6 (by rw [zcO,zcO,yam,hz]; simp; omega) ?_;have g7:=g6.put f1 (hM.same s6);refine ⟨by omega,_,_,g7,?_,by rw [yam,yam,hz]; simp; omega,rfl⟩;rw [zey,zey,eL,eM,ziV];simp [ens]
  ·rintro σ H2 ⟨hi16,L,v3,g,eL,zL,rfl⟩;symm;exact k l L H2 f1 g eL (1:)
def zeY:FnScope ["width","deeds","name"] ["width"] (zag zcx):=⟨rfl,rfl,rfl,by decide +kernel,rfl,by decide +kernel,by decide +kernel⟩
def zhe {a:Addr} {fd:FuncData} (B:Blt K mg) (g_is_deed:A24 P w K mg base) (g_maybe_deeds:A25 P w K mg base) (F:Fun K "all_deeds" "all_deeds" zcx a fd):FnOk P w K mg base CX0 7 a fd ["width"] znP:=by
 refine F.ok zeY (λ vs H Q E h=>?_) (λ cdv A outer s H vs Q E hr h=>?_)
 ·obtain ⟨w,rfl,_⟩:=h;rfl
 ·have nd := zeY.nd;have hu := hr.units;obtain ⟨w, rfl, hw1, hw4, k⟩ := h;obtain ⟨gt_DEED_NAMES, gm_DEED_NAMES, hT⟩ := B.g_DEED_NAMES;have hT : ∀ H, SqT K H gt_DEED_NAMES (nmE.map V.str) := hT;refine ⟨_, ((6:) (@zat _ _ 1 _ _ _ _ nd rfl (17:) ((38:) (4:)) (0:) (15:)) ((6:) ((37:) yaJ rfl (@zaF _ K _ _ _ (@zmc _ _ (.ref gt_DEED_NAMES) _ _ rfl gm_DEED_NAMES rfl (3:)) (0:)) (@zas _ _ 2 _ nd rfl (17:) (15:)) ((8:) ((53:) (@k_bm _ K _ _ _ _ _ _ _ _ _ _ _ ya9 yce ycf (@zfN _) (16:) ((2:) (@zaZ _ _ _ _ _ _ (zag zcx) _ ["width", "deeds", "name"] ["deed", "width"] [none, some 0] _ _ _ _ rfl (@zaF _ K _ _ _ ((10:) g_maybe_deeds (11:) ((2:) (7:) ((2:) (12:) (4:) (0:)) (0:)) (0:) (3:) (0:) (0:)) (0:)) (fun _ _ _ _ => (@zas _ _ 0 _ (show List.Nodup (["deed", "width"] : List Str) by decide +kernel) rfl (17:) (15:))) (fun _ _ _ _ => (@zb3 _ _ _ (@zdw _ _ _ ((10:) g_is_deed (11:) ((2:) (16:) ((2:) (7:) (4:) (0:)) (0:)) (0:) (3:) (0:) (0:)) (24:)))) (fun _ _ _ _ => (7:)) (20:) (0:) (0:) (24:)) (4:) (0:)) (0:) (0:) (0:) (0:) (0:) (0:)) (0:))) (24:)) ((8:) ((13:) (16:))))), ?_⟩;symm;refine zbe (5:) fun l H1 f1 s1 n1 => ?_;symm;refine zmU hT (fun i σ H' => i <= 9 /\ ∃ (L : List (Addr × En)) (v2 : Option V), Gr H H' l L /\ ens L = allF w i /\ L.length <= 128 * i /\ σ = [some (nV w), some (.ref l), v2]) ⟨by omega, [], none, ⟨s1, n1, TL.nil _⟩, rfl, by simp, rfl⟩ ?_ ?_
  ·rintro i x σ H2 hx ⟨hi9, L, v2, g, eL, zL, rfl⟩;obtain ⟨rfl, hi⟩ := zoM hx;have n2 := g.2.1;symm;refine ⟨w, i, rfl, hi, hw1, hw4, fun m M H3 f3 gm eM zM => ?_⟩;have g3 := g.same gm.1;have n3 := gm.2.1;symm;refine zbF (SqL.of n3) ?_;refine zbL (xs := tlV M) (fun j acc H' => Same H3 H' /\ j <= 128 /\ ∃ A : List (Addr × En), acc = tlV A /\ TL H' A /\ A.length <= j /\ ens A = (ens (M.take j)).filter (zf2 w)) ⟨Same.refl _, by omega, [], rfl, TL.nil _, by simp, rfl⟩ (fun j acc H' h => ?_) (fun j acc H' h => SqL.of (h.1 _ _ n3)) ?_ ?_
   ·obtain ⟨_,hj,A,rfl,_,hz,_⟩:=h;rw [zcO];exact yaE (small5 (1:))
   ·rintro j y acc H4 hy ⟨s4, hj, A, rfl, hA, hz, eA⟩;obtain ⟨q, hq, rfl⟩ := zaI hy;have hjl : j < M.length := (yaj.mp hq).1;have hm := zkS (show q.2 ∈ zdn w i (2 ^ w) by rw [<- eM]; exact yaf.mpr ⟨q, yar hq, rfl⟩);have hq4 := s4 _ _ (gm.2.2 q (yar hq))
    have et:ens (M.take (j + 1))=ens (M.take j) ++ [q.2]:=by
     rw [yaG,hq,zey]; rfl
    symm;refine ⟨w,.ref q.1,_,rfl,En.deed hq4 (by rw [hm.1]; exact hi) (1:),hw1,by omega,λ H5 s5=>?_⟩;symm;cases c:zf2 w q.2 with
    | true=>
     rw [if_pos rfl];symm;refine ⟨s4.trans s5,by omega,A ++ [q],by rw [ziW]; rfl,(hA.same s5).app (TL.one (s5 _ _ hq4)),by rw [yam]; simp; omega,?_⟩;rw [zey,eA,et,yaz];simp [c,ens]
    | false=>
     rw [if_neg (3:)];refine ⟨s4.trans s5,by omega,A,rfl,hA.same s5,by omega,?_⟩;rw [eA,et,yaz];simp [c]
   ·rintro acc H4 ⟨s4, _, A, rfl, hA, hz, eA⟩ q hq;rw [zcO] at hz eA;rw [yaq (yag _), eM] at eA;have s5 := zal (o := .lst (tlV A)) hq;generalize hH5 : upd H4 q (.lst (tlV A)) = H5 at s5;have n5 : H5 q = some (.lst (tlV A)) := by rw [<- hH5]; exact zah
    have g5:=g3.same (s4.trans s5);symm;refine zoG (K:=K) g5.2.1 n5 (by rw [zcO,zcO]; omega) ?_;refine ⟨by omega,_,_,g5.put f1 (hA.same s5),?_,by rw [yam]; omega,rfl⟩;rw [zey,eL,eA,zkR]
  ·rintro σ H2 ⟨hi9,L,v2,g,eL,zL,rfl⟩;symm;have z:(nmE.map V.str).length=9:=rfl;rw [z] at eL zL;exact k l L H2 f1 g eL (1:)
def zgx:FnScope ["mask"] ["mask"] (zag zft):=⟨rfl,rfl,rfl,by decide +kernel,rfl,by decide +kernel,by decide +kernel⟩
def zku {a:Addr} {fd:FuncData} (B:Blt K mg) (g_places_in:A3 P w K mg base) (F:Fun K "bits_in" "bits_in" zft a fd):FnOk P w K mg base CX0 3 a fd ["mask"] zj0:=by
 refine F.ok zgx (λ vs H Q E h=>?_) (λ cdv A outer s H vs Q E hr h=>?_)
 ·obtain ⟨n,rfl,_⟩:=h;rfl
 ·have nd:=zgx.nd;have hu:=hr.units;obtain ⟨n,rfl,hn,q⟩:=h;refine ⟨_,((8:) ((13:) ((29:) (39:) rfl B.b_len boot_len ((2:) ((10:) g_places_in (11:) ((2:) (7:) (4:) (0:)) (0:) (3:) (0:) (0:)) (4:) (0:)) (3:) (3:) (0:) (0:)))),?_⟩;symm;refine ⟨n,rfl,hn,λ p H' hp s1 e=>?_⟩;symm;rw [yaa];exact q H' s1
def zgy:FnScope ["places","mask","place"] ["places"] (zag zfh):=⟨rfl,rfl,rfl,by decide +kernel,rfl,by decide +kernel,by decide +kernel⟩
def zkK {a:Addr} {fd:FuncData} (B:Blt K mg)  (F:Fun K "mask_of" "mask_of" zfh a fd):FnOk P w K mg base CX0 1 a fd ["places"] (zj3 K):=by
 refine F.ok zgy (λ vs H Q E h=>?_) (λ cdv A outer s H vs Q E hr h=>?_)
 ·obtain ⟨b,ps,rfl,_⟩:=h;rfl
 ·have nd := zgy.nd;have hu := hr.units;obtain ⟨b, ps, rfl, hA, hp, q⟩ := h;refine ⟨_, ((6:) (@zat _ _ 1 _ _ _ _ nd rfl (17:) (9:) (0:) (15:)) ((6:) ((37:) yaJ rfl (@zaF _ K _ _ _ (7:) (0:)) (@zas _ _ 2 _ nd rfl (17:) (15:)) ((8:) (@zat _ _ 1 _ _ _ _ nd rfl (17:) ((14:) (@zlq _) (16:) ((14:) (@zc0 _) (9:) (12:))) (0:) (15:))) (24:)) ((8:) ((13:) (16:))))), ?_⟩;symm;refine ze9 hA (fun i σ H' => H' = H /\ ∃ v, σ = [some (.ref b), some (nV (zaP (ps.take i))), v]) ⟨rfl, none, rfl⟩ (fun i σ H' h => by rw [h.1]; exact ⟨id, id⟩) ?_ ?_
  ·rintro i x σ H' hx ⟨rfl,v,rfl⟩;obtain ⟨y,hy,rfl⟩:=zaI hx;have hy64:=hp y (yar hy);symm;refine ⟨rfl,some (nV y),?_⟩;rw [yaG,hy,show ((some y).toList:List Nat)=[y] from rfl,zkf,zlG];rfl
  ·rintro σ H' ⟨rfl,v,rfl⟩;symm;rw [yaa,List.take_length];exact q
def zhy:FnScope ["word","mask"] ["word","mask"] (zag ze8):=⟨rfl,rfl,rfl,by decide +kernel,rfl,by decide +kernel,by decide +kernel⟩
def zlR {a:Addr} {fd:FuncData} (B:Blt K mg) (g_bit_at:A2 P w K mg base) (g_places_in:A3 P w K mg base) (g_mask_of:A28 P w K mg base) (F:Fun K "strewn" "strewn" ze8 a fd):FnOk P w K mg base CX0 3 a fd ["word","mask"] zlX:=by
 refine F.ok zhy (λ vs H Q E h=>?_) (λ cdv A outer s H vs Q E hr h=>?_)
 ·obtain ⟨n,m,rfl,_⟩:=h;rfl
 ·have nd := zhy.nd;have hu := hr.units;obtain ⟨n, m, rfl, hm, k⟩ := h;have hl := zaH hm;refine ⟨_, ((8:) ((13:) ((10:) g_mask_of (11:) ((2:) (@zaZ _ _ _ _ _ _ (zag ze8) _ ["word", "mask"] ["place", "to", "word"] [none, none, some 0] _ _ _ _ rfl (82:) (fun _ _ _ _ => (@zcX _ K _ _ _ _ 2 rfl ((61:) (@zas _ _ 0 _ (show List.Nodup (["place", "to", "word"] : List Str) by decide +kernel) rfl (17:) (15:)) ((61:) (@zas _ _ 1 _ (show List.Nodup (["place", "to", "word"] : List Str) by decide +kernel) rfl (17:) (15:)) (@zcS _) (0:)) (0:)) (0:) (0:) (0:))) (fun _ _ _ _ => (@zb3 _ _ _ ((19:) (25:) ((10:) g_bit_at (11:) ((2:) (12:) ((2:) (7:) (4:) (0:)) (0:)) (0:) (3:) (0:) (0:)) (9:) (18:)))) (fun _ _ _ _ => (16:)) (20:) (0:) (0:) (24:)) (4:) (0:)) (0:) (3:) (0:) (0:)))), ?_⟩;symm;refine ⟨m, rfl, hm, fun q H1 fq s1 n1 => ?_⟩;symm;refine ⟨q, _, rfl, .inl ⟨SqL.of n1, ?_⟩⟩;refine zkn (fun i acc H' => Same H1 H' /\ i <= 64 /\ acc = (zbf n m i).map nV) ⟨fun _ _ e => e, by omega, rfl⟩ (fun i acc H' h => ?_) (fun i acc H' h => SqL.of (h.1 _ _ n1)) ?_ ?_
  ·obtain ⟨_,hi,rfl⟩:=h;have:=zkW n m i;rw [yaa];exact yaE (small5 (1:))
  ·rintro i u T acc H' hu hT ⟨s2, hi, rfl⟩;obtain ⟨y, hy, rfl⟩ := zaI hu;have hil : i < (zad m).length := (yaj.mp hy).1;have eg : (zad m).getD i 0 = y := by rw [yac, hy]; rfl
   have s3:=s2.trans (zal (o:=.tup [V.int (i:Int),nV y]) hT);have nT:upd H' T (.tup [V.int (i:Int),nV y]) T=some (.tup [V.int (i:Int),nV y]):=zah;generalize upd H' T (.tup [V.int (i:Int),nV y])=H2 at s3 nT ⊢;symm;refine ⟨n,i,rfl,?_⟩;symm;refine zaY (λ h=>?_) (λ h=>?_)
   ·have hb:n.testBit i=true:=by
     cases e:n.testBit i
     ·rw [e] at h; cases h
     ·rfl
    symm;refine ⟨s3,by omega,?_⟩;rw [zfq,if_pos hb,eg,yal];rfl
   ·have hb:n.testBit i=false:=by
     cases e:n.testBit i
     ·rfl
     ·rw [e] at h; exact absurd rfl h
    refine ⟨s3,by omega,?_⟩;rw [zfq,if_neg (by rw [hb]; exact yaD),ybo]
  ·rintro acc H' ⟨s2,_,rfl⟩ p hp;rw [yaa];symm;refine ⟨p,_,rfl,.inl (SqL.of zah),λ x hx=>zhg hm hx,?_⟩;exact k _ (s1.trans (s2.trans (zal hp)))
def zcb:FnScope ["width","one","other","by"] ["width","one","other"] (zag zbr):=⟨rfl,rfl,rfl,by decide +kernel,rfl,by decide +kernel,by decide +kernel⟩
def zeB {a:Addr} {fd:FuncData} (B:Blt K mg) (g_is_deed:A24 P w K mg base) (F:Fun K "swaps_together" "swaps_together" zbr a fd):FnOk P w K mg base CX0 7 a fd ["width","one","other"] zf7:=by
 refine F.ok zcb (λ vs H Q E h=>?_) (λ cdv A outer s H vs Q E hr h=>?_)
 ·obtain ⟨w,b,c,x,n,y,m,rfl,_⟩:=h;rfl
 ·have nd := zcb.nd;have hu := hr.units;obtain ⟨w, b, c, x, n, y, m, rfl, hb, hc, hd, he, hw1, hw2, k⟩ := h;have hb : H b = some (.tup [.str "swap", nV x, nV n]) := hb;have hc : H c = some (.tup [.str "swap", nV y, nV m]) := hc;have sw := zhB (w := w) (m := x ||| y) hd.1 hd.2.1;refine ⟨_, ((6:) (79:) ((6:) ((22:) (@PW.pt _ _ _ ((59:) ((19:) (52:) (44:) (21:) (18:)) (@zff _ _ _ _ (@zgi _ _ _ _ (@zdw _ _ _ ((10:) g_is_deed (11:) ((2:) (7:) ((2:) ((28:) ((26:) ((2:) ((14:) (@zlq _) (27:) (44:)) ((2:) (21:) (4:) (0:)) (0:)))) (4:) (0:)) (0:)) (0:) (3:) (0:) (0:)) (24:)))))) ((8:) ((13:) (43:))) (23:)) ((8:) ((13:) ((28:) ((26:) ((2:) ((14:) (@zpT _) (27:) (44:)) ((2:) (21:) (4:) (0:)) (0:)))))))), ?_⟩;symm;refine zfx (fun hne => ?_) (fun heq => ?_)
  ·symm;refine k _ _ (Same.refl H) ?_;show TogV H _ (if _ then _ else _);rw [if_neg (λ z=>hne (by rw [z.1]))];rfl
  ·have hmn : m = n := by omega
   subst hmn;symm;rw [zcR];refine zaq (5:) λ t1 H1 f1 s1 n1=>?_;symm;obtain ⟨ok,hdi,hok0⟩:=CdAt.deedIs (w:=w) (c:=some (.swap (x ||| y) m)) hw1 n1;have hok:ok=true ↔ (Dd.swap (x ||| y) m).ok w:=hok0.trans ⟨λ ⟨d,e,z⟩=>by cases e; exact z,λ z=>⟨_,rfl,z⟩⟩;refine ⟨w,.ref t1,ok,rfl,hdi,hw1,hw2,λ H2 s2=>?_⟩;have hb2:=s2 _ _ (s1 _ _ hb);have hc2:=s2 _ _ (s1 _ _ hc);cases ok with
   | false=>
    symm;refine k _ _ (s1.trans s2) ?_;show TogV H2 _ (if _ then _ else _);rw [if_neg (λ z=>absurd (hok.mpr (sw.mp z.2)) (3:))];rfl
   | true=>
    symm;rw [zkk];refine zaq (5:) λ t2 H3 f3 s3 n3=>?_;refine k _ _ (s1.trans (s2.trans s3)) ?_;show TogV H3 _ (if _ then _ else _);rw [if_pos ⟨rfl,sw.mpr (hok.mp rfl)⟩];exact ⟨t2,rfl,n3⟩
def zcf:FnScope ["width","one","other","name"] ["width","one","other"] (zag zbu):=⟨rfl,rfl,rfl,by decide +kernel,rfl,by decide +kernel,by decide +kernel⟩
def zet {a:Addr} {fd:FuncData} (B:Blt K mg) (g_strewn:A29 P w K mg base) (g_swaps_together:A30 P w K mg base) (F:Fun K "alike_together" "alike_together" zbu a fd):FnOk P w K mg base CX0 8 a fd ["width","one","other"] zlI:=by
 refine F.ok zcf (λ vs H Q E h=>?_) (λ cdv A outer s H vs Q E hr h=>?_)
 ·obtain ⟨w,b,c,d,e,rfl,_⟩:=h;rfl
 ·have nd := zcf.nd;have hu := hr.units;obtain ⟨w, b, c, d, e, rfl, hb, hc, hd, he, hw1, hw2, hn, k⟩ := h;refine ⟨_, ((6:) (79:) ((6:) ((22:) ((19:) (25:) (21:) (35:) (18:)) ((8:) ((13:) ((28:) ((2:) (21:) ((2:) ((14:) (@zeQ _) (27:) (44:)) (4:) (0:)) (0:))))) (23:)) ((6:) ((22:) ((19:) (25:) (21:) (35:) (18:)) ((8:) ((13:) ((28:) ((2:) (21:) ((2:) ((14:) (@zlq _) (27:) (44:)) (4:) (0:)) (0:))))) (23:)) ((6:) ((22:) ((19:) (@k_in _ K (0:)) (21:) ((28:) ((26:) ((26:) (4:)))) rfl) ((8:) ((13:) ((28:) ((2:) (21:) ((2:) ((29:) (@zhr _ rfl) rfl B.b_min boot_min ((2:) ((14:) (31:) (27:) (44:)) ((2:) (7:) (4:) (0:)) (0:)) (3:) (3:) (0:) (0:)) (4:) (0:)) (0:))))) (23:)) ((6:) ((22:) ((19:) (25:) (21:) (35:) (18:)) ((8:) ((13:) ((28:) ((2:) (21:) ((2:) ((14:) (@zdu _) ((14:) (31:) (27:) (44:)) (7:)) (4:) (0:)) (0:))))) (23:)) ((6:) ((22:) ((19:) (25:) (21:) (35:) (18:)) ((8:) ((13:) ((10:) g_swaps_together (11:) ((2:) (7:) ((2:) (16:) ((2:) (12:) (4:) (0:)) (0:)) (0:)) (0:) (3:) (0:) (0:)))) (23:)) ((6:) ((22:) ((19:) (25:) (21:) (35:) (18:)) ((8:) ((13:) ((28:) ((2:) (21:) ((2:) ((10:) g_strewn (11:) ((2:) (44:) ((2:) (27:) (4:) (0:)) (0:)) (0:) (3:) (0:) (0:)) (4:) (0:)) (0:))))) (23:)) ((6:) ((22:) ((19:) (25:) (21:) (35:) (18:)) ((8:) ((13:) ((28:) ((2:) (21:) ((2:) ((10:) g_strewn (11:) ((2:) (27:) ((2:) (44:) (4:) (0:)) (0:)) (0:) (3:) (0:) (0:)) (4:) (0:)) (0:))))) (23:)) ((8:) ((13:) (43:))))))))))), ?_⟩;cases d with
  | and x=>
   cases e <;> first | (exfalso; revert hn; simp only [Dd.nm]; decide +kernel) | skip;rename_i y;have hb:H b=some (.tup [.str "and",nV x]):=hb;have hc:H c=some (.tup [.str "and",nV y]):=hc;symm;rw [zbh];exact zaq (5:) λ t H1 f1 s1 n1=>k _ _ s1 ⟨t,rfl,n1⟩
  | or x=>
   cases e <;> first | (exfalso; revert hn; simp only [Dd.nm]; decide +kernel) | skip;rename_i y;have hb:H b=some (.tup [.str "or",nV x]):=hb;have hc:H c=some (.tup [.str "or",nV y]):=hc;symm;rw [zcR];exact zaq (5:) λ t H1 f1 s1 n1=>k _ _ s1 ⟨t,rfl,n1⟩
  | left x=>
   cases e <;> first | (exfalso; revert hn; simp only [Dd.nm]; decide +kernel) | skip;rename_i y;have hb:H b=some (.tup [.str "left",nV x]):=hb;have hc:H c=some (.tup [.str "left",nV y]):=hc;symm;refine zaq (5:) λ t0 H0 f0 s0 n0=>?_;have hb0:=s0 _ _ hb;have hc0:=s0 _ _ hc;symm;rw [show (if (w:Int) < (x:Int) + (y:Int) then (w:Int) else (x:Int) + (y:Int))=((min (x + y) w:Nat):Int) by split <;> omega];exact zaq (5:) λ t H1 f1 s1 n1=>k _ _ (s0.trans s1) ⟨t,rfl,n1⟩
  | right x=>
   cases e <;> first | (exfalso; revert hn; simp only [Dd.nm]; decide +kernel) | skip;rename_i y;have hb:H b=some (.tup [.str "right",nV x]):=hb;have hc:H c=some (.tup [.str "right",nV y]):=hc;symm;refine zaq (5:) λ t0 H0 f0 s0 n0=>?_;have hb0:=s0 _ _ hb;have hc0:=s0 _ _ hc;symm;rw [show (if (w:Int) < (x:Int) + (y:Int) then (w:Int) else (x:Int) + (y:Int))=((min (x + y) w:Nat):Int) by split <;> omega];exact zaq (5:) λ t H1 f1 s1 n1=>k _ _ (s0.trans s1) ⟨t,rfl,n1⟩
  | turn x=>
   cases e <;> first | (exfalso; revert hn; simp only [Dd.nm]; decide +kernel) | skip;rename_i y;have hb:H b=some (.tup [.str "turn",nV x]):=hb;have hc:H c=some (.tup [.str "turn",nV y]):=hc;symm;refine zaq (5:) λ t0 H0 f0 s0 n0=>?_;have hb0:=s0 _ _ hb;have hc0:=s0 _ _ hc;symm;rw [show ((x:Int) + (y:Int)) % (w:Int)=(((x + y) % w:Nat):Int) by simp];exact zaq (5:) λ t H1 f1 s1 n1=>k _ _ (s0.trans s1) ⟨t,rfl,n1⟩
  | gather x=>
   cases e <;> first | (exfalso; revert hn; simp only [Dd.nm]; decide +kernel) | skip;rename_i y;have hb:H b=some (.tup [.str "gather",nV x]):=hb;have hc:H c=some (.tup [.str "gather",nV y]):=hc;symm;refine zaq (5:) λ t0 H0 f0 s0 n0=>?_;have hb0:=s0 _ _ hb;have hc0:=s0 _ _ hc;symm;refine ⟨y,x,rfl,lt64 hd hw2,λ H1 s1=>?_⟩;symm;exact zaq (5:) λ t H2 f2 s2 n2=>k _ _ (s0.trans (s1.trans s2)) ⟨t,rfl,n2⟩
  | strew x=>
   cases e <;> first | (exfalso; revert hn; simp only [Dd.nm]; decide +kernel) | skip;rename_i y;have hb:H b=some (.tup [.str "strew",nV x]):=hb;have hc:H c=some (.tup [.str "strew",nV y]):=hc;symm;refine zaq (5:) λ t0 H0 f0 s0 n0=>?_;have hb0:=s0 _ _ hb;have hc0:=s0 _ _ hc;symm;refine ⟨x,y,rfl,lt64 he hw2,λ H1 s1=>?_⟩;symm;exact zaq (5:) λ t H2 f2 s2 n2=>k _ _ (s0.trans (s1.trans s2)) ⟨t,rfl,n2⟩
  | swap x n=>
   cases e <;> first | (exfalso; revert hn; simp only [Dd.nm]; decide +kernel) | skip;rename_i y m;have hb':H b=some (.tup [.str "swap",nV x,nV n]):=hb;symm;refine zaq (5:) λ t0 H0 f0 s0 n0=>?_;have hb0:=s0 _ _ hb';symm;exact ⟨w,b,c,x,n,y,m,rfl,s0 _ _ hb,s0 _ _ hc,hd,he,hw1,hw2,λ r H1 s1 h1=>k r H1 (s0.trans s1) h1⟩
  | copy x n=>
   cases e <;> first | (exfalso; revert hn; simp only [Dd.nm]; decide +kernel) | skip;have hb:H b=some (.tup [.str "copy",nV x,.int n]):=hb;symm;refine zaq (5:) λ t0 H0 f0 s0 n0=>?_;symm;exact k _ _ s0 rfl
def zfk:FnScope ["width","one","other"] ["width","one","other"] (zag zeC):=⟨rfl,rfl,rfl,by decide +kernel,rfl,by decide +kernel,by decide +kernel⟩
def ziX {a:Addr} {fd:FuncData} (B:Blt K mg) (g_low:A18 P w K mg base) (g_bits_in:A27 P w K mg base) (g_alike_together:A31 P w K mg base) (F:Fun K "together" "together" zeC a fd):FnOk P w K mg base CX0 9 a fd ["width","one","other"] zpm:=by
 refine F.ok zfk (λ vs H Q E h=>?_) (λ cdv A outer s H vs Q E hr h=>?_)
 ·obtain ⟨w,b,c,d,e,rfl,_⟩:=h;rfl
 ·have nd := zfk.nd;have hu := hr.units;obtain ⟨w, b, c, d, e, rfl, hb, hc, hd, he, hw1, hw2, k⟩ := h;have hb' := hb;have hc' := hc;rw [d.vals_nm] at hb';rw [e.vals_nm] at hc';refine ⟨_, ((6:) ((22:) ((19:) (25:) (27:) (44:) (18:)) ((8:) ((13:) ((10:) g_alike_together (11:) ((2:) (7:) ((2:) (16:) ((2:) (12:) (4:) (0:)) (0:)) (0:)) (0:) (3:) (0:) (0:)))) (23:)) ((6:) ((22:) ((19:) (52:) (27:) (44:) (18:)) ((8:) ((13:) (43:))) (23:)) ((6:) ((22:) (87:) ((8:) ((13:) ((28:) ((26:) ((2:) (27:) (4:) (0:)))))) (23:)) ((6:) ((22:) (87:) ((8:) ((13:) ((28:) ((26:) ((2:) ((10:) g_low (11:) ((2:) ((10:) g_bits_in (11:) ((2:) (27:) (4:) (0:)) (0:) (3:) (0:) (0:)) (4:) (0:)) (0:) (3:) (0:) (0:)) (4:) (0:)))))) (23:)) ((8:) ((13:) (43:))))))), ?_⟩;symm;refine zoI ?_;symm;refine zcH (fun h1 => ?_) (fun h1 => ?_)
  ·symm;exact ⟨w,b,c,d,e,rfl,hb,hc,hd,he,hw1,hw2,h1,k⟩
  ·symm;refine zfx (fun hne => ?_) (fun heq => ?_)
   ·symm;refine k _ _ (Same.refl H) ?_;rw [Dd.tog_num h1 (1:)];rfl
   ·have hnum : d.num = e.num := by omega
    symm;refine zd6 (20:) ?_;symm;have gs:¬ (("gather":Str)="strew"):=by decide +kernel
    have second:∀ (H':Hp) (Q':VK),True:=λ _ _=>trivial;refine zcH (λ c1=>?_) (λ c1=>?_)
    ·symm;refine zd6 (20:) ?_;symm;refine zcH (fun c2 => ?_) (fun c2 => ?_)
     ·obtain ⟨m,rfl⟩:=Dd.nm_gather c1;obtain ⟨m2,rfl⟩:=Dd.nm_strew c2;have em:m=m2:=hnum;subst em;symm;refine zaq (5:) λ t H1 f1 s1 n1=>k _ _ s1 ?_;show TogV H1 _ (if _ then _ else _);rw [if_pos rfl];exact ⟨t,rfl,n1⟩
     ·symm;refine zd6 (20:) ?_;symm;refine za6 (decide_eq_false (λ z=>gs (c1.symm.trans z))) ?_;symm;refine k _ _ (Same.refl H) ?_;rw [Dd.tog_else h1 (λ z=>c2 z.2) (λ z=>gs (c1.symm.trans z.1))];rfl
    ·symm;refine zd6 (20:) ?_;symm;refine zcH (fun c2 => ?_) (fun c2 => ?_)
     ·symm;refine zd6 (20:) ?_;symm;refine zcH (fun c3 => ?_) (fun c3 => ?_)
      ·obtain ⟨m,rfl⟩:=Dd.nm_strew c2;obtain ⟨m2,rfl⟩:=Dd.nm_gather c3;have em:m=m2:=hnum;subst em;symm;refine ⟨m,rfl,lt64 hd hw2,λ H1 s1=>?_⟩;symm;have lw:=zaH hd;refine ⟨_,rfl,by omega,?_⟩;symm;refine zaq (5:) λ t H2 f2 s2 n2=>k _ _ (s1.trans s2) ?_;show TogV H2 _ (if _ then _ else _);rw [if_pos rfl];exact ⟨t,rfl,n2⟩
      ·symm;refine k _ _ (Same.refl H) ?_;rw [Dd.tog_else h1 (λ z=>c1 z.1) (λ z=>c3 z.2)];rfl
     ·symm;refine k _ _ (Same.refl H) ?_;rw [Dd.tog_else h1 (λ z=>c1 z.1) (λ z=>c2 z.1)];rfl
def zcU:FnScope ["width","deed"] ["width","deed"] (zag zb4):=⟨rfl,rfl,rfl,by decide +kernel,rfl,by decide +kernel,by decide +kernel⟩
def zfQ {a:Addr} {fd:FuncData} (B:Blt K mg) (g_staying:A1 P w K mg base) (g_deed_leading:A10 P w K mg base) (F:Fun K "does_nothing" "does_nothing" zb4 a fd):FnOk P w K mg base CX0 5 a fd ["width","deed"] zhC:=by
 refine F.ok zcU (λ vs H Q E h=>?_) (λ cdv A outer s H vs Q E hr h=>?_)
 ·obtain ⟨w,b,d,rfl,_⟩:=h;rfl
 ·have nd:=zcU.nd;have hu:=hr.units;obtain ⟨w,b,d,rfl,hb,hd,hw,k⟩:=h;refine ⟨_,((8:) ((13:) ((54:) (25:) ((10:) g_deed_leading (11:) ((2:) (7:) ((2:) (16:) (4:) (0:)) (0:)) (0:) (3:) (0:) (0:)) ((10:) g_staying (11:) ((2:) (7:) (4:) (0:)) (0:) (3:) (0:) (0:)) (18:)))),?_⟩;symm;refine ⟨w,b,d,rfl,hb,hd,hw,λ t H1 s1 n1=>?_⟩;symm;refine ⟨w,rfl,hw,λ t2 H2 s2 n2=>?_⟩;symm;refine zml (SqT.of (s2 _ _ n1)) (SqT.of n2) ?_;exact k H2 (s1.trans s2)
def zdU:FnScope ["width","short","deed","both"] ["width","short","deed"] (zag zcZ):=⟨rfl,rfl,rfl,by decide +kernel,rfl,by decide +kernel,by decide +kernel⟩
def zgY {a:Addr} {fd:FuncData} (B:Blt K mg) (g_together:A32 P w K mg base) (g_does_nothing:A33 P w K mg base) (F:Fun K "put_behind" "put_behind" zcZ a fd):FnOk P w K mg base CX0 10 a fd ["width","short","deed"] zfI:=by
 refine F.ok zdU (λ vs H Q E h=>?_) (λ cdv A outer s H vs Q E hr h=>?_)
 ·obtain ⟨w,l,c,L,d,rfl,_⟩:=h;rfl
 ·have nd := zdU.nd;have hu := hr.units;obtain ⟨w, l, c, L, d, rfl, hl, hR, hc, hd, hw1, hw2, hz, k⟩ := h;refine ⟨_, ((8:) (@zgI _ _ _ _ _ _ yaJ (@zgi _ _ _ _ (@zdw _ _ _ ((10:) g_does_nothing (11:) ((2:) (7:) ((2:) (12:) (4:) (0:)) (0:)) (0:) (3:) (0:) (0:)) (24:))) ((6:) (@zat _ _ 3 _ _ _ _ nd rfl (17:) ((58:) ((19:) (@zit _) ((29:) (39:) rfl B.b_len boot_len ((2:) (16:) (4:) (0:)) (3:) (3:) (0:) (0:)) (9:) (18:)) ((10:) g_together (11:) ((2:) (7:) ((2:) ((47:) (49:) (16:) (@zmY _ _ _ _ _ _ (@zjg _) (9:)) (48:)) ((2:) (12:) (4:) (0:)) (0:)) (0:)) (0:) (3:) (0:) (0:)) (43:)) (0:) (15:)) ((6:) ((22:) ((19:) (@znQ _) (21:) (43:) (18:)) ((6:) ((53:) (@k_bm _ K _ _ _ _ _ _ _ _ _ _ _ ya9 ybT ybU (@zdV _) (16:) ((2:) (12:) (4:) (0:)) (0:) (0:) (0:) (0:) (0:) (0:)) (0:)) ((8:) (@zo1 _ _))) (23:)) ((6:) ((53:) (@zqv _ K _ _ _ _ _ _ _ _ ya9 PySem.F.slot_list_pop PySem.F.type_list_pop (@zqq _) (16:) (0:) (0:) (0:)) (0:)) ((8:) (@zat _ _ 2 _ _ _ _ nd rfl (17:) (21:) (0:) (15:)))))))), ?_⟩;symm;refine ⟨fun m σ H' => ∃ (M : List (Addr × Dd)) (c' : Addr) (e : Dd) (v3 : Option V), m = M.length /\ M.length <= 20000 /\ zbO w (dds M).reverse e = zbO w (dds L).reverse d /\ Rw H' w M /\ H' l = some (.lst (rowV M)) /\ H' c' = some (.tup e.vals) /\ e.ok w /\ zaw l H H' /\ σ = [some (nV w), some (.ref l), some (.ref c'), v3], ⟨_, L, c, d, none, rfl, hz, rfl, hR, hl, hc, hd, zaw.refl _ _, rfl⟩, ?_⟩;rintro m σ H1 ⟨M, c', e, v3, rfl, hM, he, hR1, n1, nc, heo, k1, rfl⟩;have zl : (rowV M).length = M.length := by rw [rowV, yaa]
  symm;refine ⟨w,c',e,rfl,nc,heo,hw2,λ H2 s2=>?_⟩;have n2:=s2 _ _ n1;have nc2:=s2 _ _ nc;have hR2:=hR1.same s2;have k2:=k1.trans (s2.keepBut (l:=l));refine ⟨zb6 w e,rfl,?_⟩;cases hi:zb6 w e with
  | true=>
   rw [zba hi] at he;exact k M H2 he hR2 n2 k2
  | false=>
   refine zbc rfl ?_;refine ⟨λ σ' H'=>∃ m',m' < M.length /\ ∃ (M:List (Addr × Dd)) (c':Addr) (e:Dd) (v3:Option V),m'=M.length /\ M.length <= 20000 /\ zbO w (dds M).reverse e=zbO w (dds L).reverse d /\ Rw H' w M /\ H' l=some (.lst (rowV M)) /\ H' c'=some (.tup e.vals) /\ e.ok w /\ zaw l H H' /\ σ'=[some (nV w),some (.ref l),some (.ref c'),v3],λ _ _ h=>h,?_⟩
   walk_at "goI"
   refine zru (λ v H3=>Same H2 H3 /\ ((v=.non /\ ∀ q,M[M.length - 1]?=some q -> q.2.tog w e=none) \/ ∃ q f t3,M[M.length - 1]?=some q /\ q.2.tog w e=some f /\ v=.ref t3 /\ H3 t3=some (.tup f.vals))) (λ Q' hQ'=>?_) ?_
   ·symm;rw [zl];refine zcH (fun hc2 => ?_) (fun hc2 => ?_)
    ·obtain ⟨q, hq⟩ : ∃ q, M[M.length - 1]? = some q := ⟨_, yab (1:)⟩
     obtain ⟨g3,g4⟩:=hR2 q (yar hq);symm;refine zlA (xs:=rowV M) (v:=.ref q.1) (SqL.of n2) (by rw [rowV,yaa,yan,hq]; rfl) ?_;symm;refine ⟨w,q.1,c',q.2,e,rfl,g3,nc2,g4,heo,hw1,hw2,λ v H3 s3 hv=>hQ' _ _ ⟨s3,?_⟩⟩;cases ev:q.2.tog w e with
     | none=>
      rw [ev] at hv;exact .inl ⟨hv,λ q' hq'=>by rw [hq] at hq'; cases hq'; exact ev⟩
     | some f=>
      rw [ev] at hv;obtain ⟨t3,rfl,n3⟩:=hv;exact .inr ⟨q,f,t3,hq,ev,rfl,n3⟩
    ·symm;exact hQ' _ _ ⟨Same.refl _,.inl ⟨rfl,λ q hq=>by have:=(yaj.mp hq).1; omega⟩⟩
   rintro v H3 ⟨s3,hv⟩;have n3:=s3 _ _ n2;have nc3:=s3 _ _ nc2;have hR3:=hR2.same s3;have k3:=k2.trans (s3.keepBut (l:=l));rcases hv with ⟨rfl,hno⟩ | ⟨q,f,t3,hq,hf,rfl,nt⟩
   ·symm;refine zbc (5:) ?_;symm;have hR4 : Rw H3 w (M ++ [(c', e)]) := hR3.app fun q hq => by rw [yah.mp hq]; exact ⟨nc3, heo⟩
    refine k (M ++ [(c',e)]) _ ?_ (hR4.updL n3) (by rw [zah,rowV,rowV,yal]; rfl) (k3.trans (zaw.upd _ _ _));rw [<- he];show (dds (M ++ [(c',e)])).reverse=_;rw [dds,yal,ybw];show e :: (dds M).reverse=_;cases er:(dds M).reverse with
    | nil=>rw [zef hi]
    | cons x r=>
     have hx:(dds M)[M.length - 1]?=some x:=by
      have h0:(dds M).reverse[0]?=some x:=by rw [er]; rfl
      rw [List.getElem?_reverse (by have:=congrArg List.length er; simp at this; omega)] at h0;rw [show (dds M).length - 1 - 0=M.length - 1 by rw [dds,yaa]; rfl] at h0;exact h0
     rw [dds,yan] at hx;obtain ⟨q,hq,rfl⟩:=Option.map_eq_some_iff.mp hx;rw [zcW hi (hno q hq)]
   ·symm;refine za6 (5:) ?_;symm;have ez : 0 < M.length := by have := (yaj.mp hq).1; omega
    refine ⟨l,rowV M,.ref q.1,rfl,rfl,n3,by rw [rowV,yaa,yan,hq]; rfl,?_⟩;symm
    have eM:M=M.take (M.length - 1) ++ [q]:=by
     have e1:=yaG (l:=M) (i:=M.length - 1);rw [hq,yaq (1:)] at e1;exact e1
    have eR:(dds M).reverse=q.2 :: (dds (M.take (M.length - 1))).reverse:=by
     conv=>lhs; rw [eM,dds,yal,ybw]
     rfl
    rw [eR,zcJ hi hf] at he;obtain ⟨g3,g4⟩:=hR3 q (yar hq);have zt:(M.take (M.length - 1)).length=M.length - 1:=by rw [yaV]; omega
    refine ⟨_,?_,M.take (M.length - 1),t3,f,some (.ref t3),rfl,by omega,he,(hR3.take _).updL n3,by rw [zah,List.dropLast_eq_take,zl,rowV,rowV,List.map_take],?_,(Dd.tog_led g4 heo hf).1,k3.trans (zaw.upd _ _ _),rfl⟩
    ·rw [zt]; omega
    ·rw [zan (λ z=>by rw [z,n3] at nt; cases nt)]; exact nt
def zeV:FnScope ["width","row","short","deed"] ["width","row"] (zag zdJ):=⟨rfl,rfl,rfl,by decide +kernel,rfl,by decide +kernel,by decide +kernel⟩
def zh0 {a:Addr} {fd:FuncData} (B:Blt K mg) (g_put_behind:A34 P w K mg base) (F:Fun K "shortened" "shortened" zdJ a fd):FnOk P w K mg base CX0 11 a fd ["width","row"] zfD:=by
 refine F.ok zeV (λ vs H Q E h=>?_) (λ cdv A outer s H vs Q E hr h=>?_)
 ·obtain ⟨w,b,L,rfl,_⟩:=h;rfl
 ·have nd := zeV.nd;have hu := hr.units;obtain ⟨w, b, L, rfl, hb, hR, hw1, hw2, hL, k⟩ := h;refine ⟨_, ((6:) (78:) ((6:) ((37:) yaJ rfl (57:) (77:) ((8:) ((53:) ((10:) g_put_behind (11:) ((2:) (7:) ((2:) (12:) ((2:) (21:) (4:) (0:)) (0:)) (0:)) (0:) (3:) (0:) (0:)) (0:))) (24:)) ((8:) ((13:) (12:))))), ?_⟩;symm;refine zbe (5:) fun l H1 f1 s1 n1 => ?_;have hb1 := hb.same s1;have hR1 := hR.same s1
  have nlb:b ≠ l:=by
   obtain ⟨o,ho⟩:=hb.obj;exact zao ho f1
  symm;refine ze9 (xs:=rowV L) hb1.sqA (λ i σ H'=>Same H H' /\ zaw l H1 H' /\ i <= 10000 /\ ∃ M v3,(dds M).reverse=zaC w (dds (L.take i)) /\ M.length <= i /\ Rw H' w M /\ H' l=some (.lst (rowV M)) /\ σ=[some (nV w),some (.ref b),some (.ref l),v3]) ⟨s1,zaw.refl _ _,by omega,[],none,rfl,yag _,λ _ z=>(nomatch z),n1,rfl⟩ (λ i σ H' h=>?_) ?_ ?_
  ·obtain ⟨_,hk,_⟩:=h;exact ⟨λ z=>z.keepAt (λ o' e=>hk _ _ nlb e),λ z=>z.keepAt (λ o' e=>hk _ _ nlb e)⟩
  ·rintro i y σ H2 hy ⟨s2, k2, hi, M, v3, eM, zM, hM, nM, rfl⟩;obtain ⟨q, hq, rfl⟩ := zaI hy;have hil : i < L.length := (yaj.mp hq).1;obtain ⟨g1, g2⟩ := hR q (yar hq);symm;refine ⟨w, l, q.1, M, q.2, rfl, nM, hM, s2 _ _ g1, g2, hw1, hw2, by omega, fun N H3 eN hN nN k3 => ?_⟩
   have e:(dds N).reverse=zaC w (dds (L.take (i + 1))):=by
    rw [eN,eM,yaG,hq];show _=zaC w (dds (L.take i ++ [q]));rw [dds,dds,yal];exact (zeU w _ q.2).symm
   refine ⟨k3.same s2 f1,k2.trans k3,by omega,N,_,e,?_,hN,nN,rfl⟩;have:=congrArg List.length eN;rw [ybd,dds,yaa] at this;have h2:=zgE (w:=w) (dds M).reverse q.2;rw [ybd,dds,yaa] at h2;rw [this];exact ya5 h2 (1:)
  ·rintro σ H2 ⟨s2,k2,_,M,v3,eM,zM,hM,nM,rfl⟩;rw [show (rowV L).length=L.length by simp [rowV],yaq (yag _)] at eM;symm;exact k l M H2 eM hM f1 nM s2
def zeR:FnScope ["_law_script"] ["_law_script"] (zag zck):=⟨rfl,rfl,rfl,by decide +kernel,rfl,by decide +kernel,by decide +kernel⟩
def zib {a:Addr} {fd:FuncData} (B:Blt K mg)  (F:Fun K "_law_hand" "_law_hand" zck a fd):FnOk P w K mg base CX0 1 a fd ["_law_script"] (zn1 K):=by
 refine F.ok zeR (λ vs H Q E h=>?_) (λ cdv A outer s H vs Q E hr h=>?_)
 ·obtain ⟨b,ns,rfl,_⟩:=h;rfl
 ·have nd := zeR.nd;have hu := hr.units;obtain ⟨b, ns, rfl, hS, k⟩ := h;obtain ⟨ms, ems, lms⟩ := zre ns;refine ⟨_, ((8:) ((13:) ((38:) ((2:) (@zaZ _ _ _ _ _ _ (zag zck) _ ["_law_script"] ["_law_cell"] [none] _ _ _ _ rfl (@zaF _ K _ _ _ (@zjU _ _ _ _ _ _ _ _ _ _ (@k_sl _ K (0:)) (7:) (@zmn _) (@zmp _ _ _ (9:))) (0:)) (fun _ _ _ _ => (@zas _ _ 0 _ (show List.Nodup (["_law_cell"] : List Str) by decide +kernel) rfl (17:) (15:))) (fun _ _ _ _ => (@zbC _)) (fun _ _ _ _ => ((29:) (@zmv _) rfl B.b_abs boot_abs ((2:) (7:) (4:) (0:)) (3:) (3:) (0:) (0:))) (20:) (0:) (0:) (24:)) ((2:) (9:) ((2:) (9:) ((2:) (9:) (4:) (0:)) (0:)) (0:)) (0:))))), ?_⟩;symm;refine .inl ⟨b, _, rfl, hS, fun p1 hp1 => ?_⟩;have s1 := zal (o := .lst (cutV (ns.map V.int) none (some 63))) hp1;generalize hH1 : upd H p1 (.lst (cutV (ns.map V.int) none (some 63))) = H1 at s1 ⊢;have n1 : H1 p1 = some (.lst (ms.map V.int)) := by rw [<- hH1, zah, ems]
  refine zbF (SqL.of n1) ?_;refine zbL (xs:=ms.map V.int) (λ i acc H'=>H'=H1 /\ i <= 63 /\ acc=(ms.take i).map λ z=>nV z.natAbs) ⟨rfl,by omega,rfl⟩ (λ i acc H' h=>?_) (λ i acc H' h=>by rw [h.1]; exact SqL.of n1) ?_ ?_
  ·obtain ⟨_,hi,rfl⟩:=h;rw [yaa,yaV];exact yaE (small5 (1:))
  ·rintro i x acc H' hx ⟨rfl,hi,rfl⟩;obtain ⟨z,hz,rfl⟩:=zaI hx;have hil:i < ms.length:=(yaj.mp hz).1;symm;refine ⟨rfl,by omega,?_⟩;rw [yaG,hz,show ((some z).toList:List Int)=[z] from rfl,yal,yaP,ycU,zoY]
  ·rintro acc H' ⟨rfl, _, rfl⟩ p2 hp2;rw [yaa, List.take_length];symm;refine ⟨yaE (small5 (5:)), fun p3 hp3 => ?_⟩;have e2 : H' p2 = none := hp2;have ne23 : p2 ≠ p3 := zao zah hp3;refine k p3 _ (s1.free ((zal hp2).free hp3)) ?_ (Hand.of (q := p2) (cells := ms.map Int.natAbs) (a := 0) (b := 0) (c := 0) zah ?_ (by rw [yaa]; exact lms))
   ·exact s1.trans ((zal hp2).trans (zal hp3))
   ·rw [zan ne23,zah,ya6];rfl
def zeZ:FnScope ["_law_hand_here","_law_many","_law_cell","_law_once","_law_twice","_law_found"] ["_law_hand_here","_law_many"] (zag zdM):=⟨rfl,rfl,rfl,by decide +kernel,rfl,by decide +kernel,by decide +kernel⟩
def zia {a:Addr} {fd:FuncData} (B:Blt K mg)  (F:Fun K "_law_draw" "_law_draw" zdM a fd):FnOk P w K mg base CX0 1 a fd ["_law_hand_here","_law_many"] znN:=by
 refine F.ok zeZ (λ vs H Q E h=>?_) (λ cdv A outer s H vs Q E hr h=>?_)
 ·obtain ⟨p,n,rfl,_⟩:=h;rfl
 ·have nd := zeZ.nd;have hu := hr.units;obtain ⟨p, n, rfl, hH, hn0, hn1, k⟩ := h;obtain ⟨q, cells, ca, cb, cc, h1, h2, h3⟩ := hH
  have npq:q ≠ p:=by
   intro e;rw [e,h1] at h2;cases cells with
   | nil=>cases h2
   | cons c r=>cases h2
  have hq:∀ o,upd H p o q=some (.lst (cells.map nV)):=λ o=>by rw [zan npq]; exact h2
  have fin:∀ (r a b c:Nat),r < n -> Q (nV r) (upd H p (.lst [.ref q,nV a,nV b,nV c])):=λ r a b c hr=>k r _ hr (But.updL h1) ⟨q,cells,a,b,c,zah,hq _,h3⟩;refine ⟨_,((6:) (@zh1 _ _ _ _ _ _ ((14:) (31:) (40:) (9:)) (72:) (0:) (0:) (0:)) ((6:) ((22:) ((19:) (25:) (40:) (9:) (18:)) ((6:) (@zat _ _ 2 _ _ _ _ nd rfl (17:) (9:) (0:) (15:)) ((6:) ((22:) ((19:) (@zit _) ((29:) (39:) rfl B.b_len boot_len ((2:) (40:) (4:) (0:)) (3:) (3:) (0:) (0:)) (9:) (18:)) ((8:) (@zat _ _ 2 _ _ _ _ nd rfl (17:) ((47:) (49:) (40:) ((14:) (@zdu _) (40:) ((29:) (39:) rfl B.b_len boot_len ((2:) (40:) (4:) (0:)) (3:) (3:) (0:) (0:))) (48:)) (0:) (15:))) (23:)) ((6:) (@zh1 _ _ _ _ _ _ ((14:) (31:) (40:) (9:)) (72:) (0:) (0:) (0:)) ((6:) ((22:) (@PW.pt _ _ _ ((59:) ((19:) (@zlP _) (12:) ((14:) (@zqr _) (9:) (9:)) (18:)) (@zff _ _ _ _ ((19:) (@zit _) (40:) ((29:) (39:) rfl B.b_len boot_len ((2:) (40:) (4:) (0:)) (3:) (3:) (0:) (0:)) (18:))))) ((6:) (@zat _ _ 3 _ _ _ _ nd rfl (17:) ((14:) (@zdu _) ((14:) (60:) ((14:) (31:) ((14:) (31:) ((14:) (@zdu _) (12:) (9:)) ((14:) (60:) (9:) (40:))) (9:)) (9:)) (9:)) (0:) (15:)) ((6:) (@zat _ _ 4 _ _ _ _ nd rfl (17:) ((14:) (@zdu _) ((14:) (31:) ((14:) (60:) (21:) ((14:) (31:) ((14:) (@zdu _) (21:) (9:)) (40:))) ((14:) (60:) (9:) (40:))) (9:)) (0:) (15:)) ((8:) ((13:) ((14:) (@zdu _) ((14:) (@zgM _) (33:) (9:)) (16:)))))) (23:)) ((8:) (@zh1 _ _ _ _ _ _ (12:) (72:) (0:) (0:) (0:))))))) (23:)) ((6:) (@zat _ _ 5 _ _ _ _ nd rfl (17:) ((14:) (@zdu _) (40:) (16:)) (0:) (15:)) ((6:) (@zh1 _ _ _ _ _ _ ((14:) (@zgM _) (40:) (16:)) (72:) (0:) (0:) (0:)) ((8:) ((13:) (46:))))))),?_⟩;symm;refine zaY (λ hc=>?_) (λ hc=>?_)
  ·symm;refine zcH (fun hl => ?_) (fun hl => ?_)
   ·have hl' : 0 < cells.length := by simpa using hl
    symm
    have hidx:((ca:Int) % ((cells.map nV).length:Int)).toNat=ca % cells.length:=by
     rw [yaa,<- Int.natCast_emod,yaw]
    have e0:(cells.map nV)[((ca:Int) % ((cells.map nV).length:Int)).toNat]?=some (nV (cells[ca % cells.length]'(ycd _ hl'))):=by
     rw [hidx,yan,yab (ycd _ hl')];rfl
    refine zhK (SqL.of (hq _)) (ycj _ (by rw [yaa]; omega)) e0 ?_;symm;generalize (10:Int) ^ Int.toNat 18=big;refine ite2 (λ h18=>?_) (λ h18=>?_)
    ·symm;obtain ⟨r,hr1,er⟩:=modN _ hn0;rw [er];exact fin r (ca + 1) cb (cc + 1) hr1
    ·symm;refine ite2 (fun h19 => ?_) (fun h19 => ?_)
     ·symm;obtain ⟨r,hr1,er⟩:=modN _ hn0;rw [er];exact fin r (ca + 1) cb (cc + 1) hr1
     ·symm;exact fin ((cells[ca % cells.length]'(ycd _ hl')) % n) (ca + 1) ((cells[ca % cells.length]'(ycd _ hl')) / n) (cc + 1) (ycd _ hn0)
   ·skip
    symm;generalize (10:Int) ^ Int.toNat 18=big;refine ite2 (λ h18=>?_) (λ h18=>?_)
    ·symm;obtain ⟨r,hr1,er⟩:=modN _ hn0;rw [er];exact fin r (ca + 1) cb (cc + 1) hr1
    ·symm;refine ite2 (fun h19 => ?_) (fun h19 => ?_)
     ·symm;obtain ⟨r,hr1,er⟩:=modN _ hn0;rw [er];exact fin r (ca + 1) cb (cc + 1) hr1
     ·symm;exact fin (0 % n) (ca + 1) (0 / n) (cc + 1) (ycd _ hn0)
  ·symm;exact fin (cb % n) ca (cb / n) (cc + 1) (ycd _ hn0)
def zeN:FnScope ["_law_hand_here","_law_width","_law_whole","_law_way","_law_drawn","_law_k"] ["_law_hand_here","_law_width"] (zag zdO):=⟨rfl,rfl,rfl,by decide +kernel,rfl,by decide +kernel,by decide +kernel⟩
def zhz {a:Addr} {fd:FuncData} (B:Blt K mg) (g__law_draw:A37 P w K mg base) (F:Fun K "_law_word" "_law_word" zdO a fd):FnOk P w K mg base CX0 2 a fd ["_law_hand_here","_law_width"] zn7:=by
 refine F.ok zeN (λ vs H Q E h=>?_) (λ cdv A outer s H vs Q E hr h=>?_)
 ·obtain ⟨p,w,rfl,_⟩:=h;rfl
 ·have nd := zeN.nd;have hu := hr.units;obtain ⟨p, w, rfl, hH, hw1, hw2, k⟩ := h;have wholeLt : 2 ^ w - 1 < 2 ^ w := Nat.sub_lt (ybz w) (3:);have wl64 : 2 ^ w <= 2 ^ 64 := yaL (3:) hw2;refine ⟨_, ((6:) (@zat _ _ 2 _ _ _ _ nd rfl (17:) ((14:) (36:) ((14:) (@zc0 _) (9:) (16:)) (9:)) (0:) (15:)) ((6:) (@zat _ _ 3 _ _ _ _ nd rfl (17:) ((10:) g__law_draw (11:) ((2:) (7:) ((2:) (9:) (4:) (0:)) (0:)) (0:) (3:) (0:) (0:)) (0:) (15:)) ((6:) ((22:) ((19:) (@zlP _) (21:) (9:) (18:)) ((8:) ((13:) ((47:) (49:) ((38:) ((2:) (9:) ((2:) (12:) (4:) (0:)) (0:))) (21:) (48:)))) (23:)) ((6:) ((22:) ((19:) (25:) (21:) (9:) (18:)) ((8:) ((13:) ((14:) (@zc0 _) (9:) ((10:) g__law_draw (11:) ((2:) (7:) ((2:) (16:) (4:) (0:)) (0:)) (0:) (3:) (0:) (0:))))) (23:)) ((6:) ((22:) ((19:) (25:) (21:) (9:) (18:)) ((8:) ((13:) ((14:) (@zeQ _) ((14:) (@zc0 _) ((14:) (@zgM _) (12:) (9:)) ((10:) g__law_draw (11:) ((2:) (7:) ((2:) (9:) (4:) (0:)) (0:)) (0:) (3:) (0:) (0:))) (12:)))) (23:)) ((6:) (@zat _ _ 4 _ _ _ _ nd rfl (17:) (9:) (0:) (15:)) ((6:) ((37:) yaJ rfl ((56:) rfl B.b_range ((2:) (9:) (4:) (0:)) (0:)) (68:) ((8:) (@zat _ _ 4 _ _ _ _ nd rfl (17:) ((14:) (@zlq _) ((14:) (@zc0 _) (33:) (9:)) ((10:) g__law_draw (11:) ((2:) (7:) ((2:) ((14:) (@zc0 _) (9:) (9:)) (4:) (0:)) (0:)) (0:) (3:) (0:) (0:))) (0:) (15:))) (24:)) ((8:) ((13:) ((14:) (@zeQ _) ((14:) (@zj4 _) (33:) ((10:) g__law_draw (11:) ((2:) (7:) ((2:) (9:) (4:) (0:)) (0:)) (0:) (3:) (0:) (0:))) (12:))))))))))), ?_⟩;symm;rw [zme]
  have W64:2 ^ w - 1 < 18446744073709551616:=by
   have:(2:Nat) ^ 64=18446744073709551616:=by decide
   omega
  generalize 2 ^ w - 1=W at wholeLt W64 ⊢;refine ⟨p,8,rfl,hH,by decide,by decide,λ r H1 hr1 b1 h1=>?_⟩;symm;refine zcH (λ hc=>?_) (λ hc=>?_)
  ·symm;refine ⟨yaE (small5 (5:)), fun p2 hp2 => ?_⟩;have h1' := h1.same (zal (o := .lst [V.int 0, nV W]) hp2);have b1' : But p H (upd H1 p2 (.lst [V.int 0, nV W])) := b1.trans (zal hp2).but;symm;rcases (show r = 0 \/ r = 1 by omega) with rfl | rfl
   ·exact zhK (SqL.of zah) (3:) rfl (k 0 _ (ybz w) b1' h1')
   ·exact zhK (SqL.of zah) (3:) rfl (k W _ wholeLt b1' h1')
  ·symm;refine zaY (fun hc2 => ?_) (fun hc2 => ?_)
   ·symm;refine ⟨p,w,rfl,h1,by omega,by omega,λ r2 H2 hr2 b2 h2=>?_⟩;symm;rw [show (1:Int) * 2 ^ ((r2:Int)).toNat=((2 ^ r2:Nat):Int) by rw [yaw]; simp];exact k _ H2 (Nat.pow_lt_pow_right (3:) hr2) (b1.trans b2) h2
   ·symm;refine zaY (fun hc3 => ?_) (fun hc3 => ?_)
    ·symm;refine ⟨p,2,rfl,h1,by decide,by decide,λ r2 H2 hr2 b2 h2=>?_⟩;symm;rw [show (W:Int) / 3 * 2 ^ ((r2:Int)).toNat=((W / 3 * 2 ^ r2:Nat):Int) by rw [yaw]; simp,zbh];exact k _ H2 (ya4 Nat.and_le_right wholeLt) (b1.trans b2) h2
    ·symm;refine zjJ (n := 4) rfl (3:) ?_;refine zdf (fun i σ H' => But p H H' /\ Hand H' p /\ ∃ d v, d < 2 ^ (16 * i) /\ σ = [some (.ref p), some (nV w), some (nV W), some (nV r), some (nV d), v]) ⟨b1, h1, 0, none, by decide, rfl⟩ ?_ ?_
     ·rintro i σ H' hi ⟨b2, h2, d, v, hd, rfl⟩;have hd48 : d < 281474976710656 := yak hd (ya5 (yaL (3:) (show 16 * i <= 48 by omega)) (3:));symm;refine ⟨p, 65536, rfl, h2, by decide, by decide, fun r2 H3 hr2 b3 h3 => ?_⟩;symm;refine ⟨b2.trans b3, h3, (d * 2 ^ 16 ||| r2), some (nV i), ?_, ?_⟩
      ·refine Nat.or_lt_two_pow ?_ (yak hr2 ?_)
       ·rw [show 16 * (i + 1)=16 * i + 16 by omega,Nat.pow_add];exact Nat.mul_lt_mul_of_pos_right hd (3:)
       ·exact ya5 (show 65536 <= 2 ^ 16 by decide) (yaL (3:) (1:))
      ·have e:Builtin.bitOr ((d:Int) * 2 ^ (Int.toNat 16)) (r2:Int)=((d * 2 ^ 16 ||| r2:Nat):Int):=by
        rw [show (d:Int) * 2 ^ (Int.toNat 16)=((d * 2 ^ 16:Nat):Int) by simp,zcR]
       show [some (V.ref p),some (nV w),some (nV W),some (nV r),some (V.int (Builtin.bitOr ((d:Int) * 2 ^ (Int.toNat 16)) (r2:Int))),some (V.int (i:Int))]=_;rw [e]
     ·rintro σ H' ⟨b2,h2,d,v,hd,rfl⟩;symm;refine ⟨p,33,rfl,h2,by decide,by decide,λ r2 H3 hr2 b3 h3=>?_⟩;symm;rw [show (d:Int) / 2 ^ ((r2:Int)).toNat=((d / 2 ^ r2:Nat):Int) by rw [yaw]; simp,zbh];exact k _ H3 (ya4 Nat.and_le_right wholeLt) (b2.trans b3) h3
def zch:FnScope ["_law_hand_here","_law_width","_law_n","_law_mask","_law_p"] ["_law_hand_here","_law_width","_law_n"] (zag zbs):=⟨rfl,rfl,rfl,by decide +kernel,rfl,by decide +kernel,by decide +kernel⟩
def zeo {a:Addr} {fd:FuncData} (B:Blt K mg) (g__law_draw:A37 P w K mg base) (F:Fun K "_law_swap_mask" "_law_swap_mask" zbs a fd):FnOk P w K mg base CX0 2 a fd ["_law_hand_here","_law_width","_law_n"] zgw:=by
 refine F.ok zch (λ vs H Q E h=>?_) (λ cdv A outer s H vs Q E hr h=>?_)
 ·obtain ⟨p,w,n,rfl,_⟩:=h;rfl
 ·have nd := zch.nd;have hu := hr.units;obtain ⟨p, w, n, rfl, hH, hn, hnw, hw, k⟩ := h;refine ⟨_, ((6:) (@zat _ _ 3 _ _ _ _ nd rfl (17:) (9:) (0:) (15:)) ((6:) ((37:) yaJ rfl ((56:) rfl B.b_range ((2:) ((14:) (36:) (16:) (12:)) (4:) (0:)) (0:)) (76:) ((8:) ((22:) (@PW.pt _ _ _ ((55:) ((19:) (25:) ((14:) (@zeQ _) ((14:) (@zj4 _) (21:) (33:)) (9:)) (9:) (18:)) ((55:) (@PW.pt _ _ _ ((59:) ((19:) (@zlP _) (33:) (12:) (18:)) (@zff _ _ _ _ ((19:) (25:) ((14:) (@zeQ _) ((14:) (@zj4 _) (21:) ((14:) (36:) (33:) (12:))) (9:)) (9:) (18:))))) (@zcz _ _ _ _ ((19:) (25:) ((10:) g__law_draw (11:) ((2:) (7:) ((2:) (9:) (4:) (0:)) (0:)) (0:) (3:) (0:) (0:)) (9:) (18:)))))) ((8:) (@zat _ _ 3 _ _ _ _ nd rfl (17:) ((14:) (@zlq _) (21:) ((14:) (@zc0 _) (9:) (33:))) (0:) (15:))) (23:))) (24:)) ((8:) ((13:) (21:))))), ?_⟩;symm;rw [show (w : Int) - (n : Int) = ((w - n : Nat) : Int) by omega];refine zjJ (n := w - n) rfl (1:) ?_;refine zdf (fun i σ H' => But p H H' /\ Hand H' p /\ ∃ (m : Nat) (v : Option V), m < 2 ^ i /\ i + n <= w /\ (∀ q, m.testBit q = true -> m.testBit (q + n) = false) /\ σ = [some (.ref p), some (nV w), some (nV n), some (nV m), v]) ⟨But.refl p H, hH, 0, none, by decide, by omega, fun q z => by simp at z, rfl⟩ ?_ ?_
  ·rintro i σ H' hi ⟨b2, h2, m, v, hm, hiw, hpair, rfl⟩
   have stay:∀ H',But p H H' -> Hand H' p -> (∃ (m':Nat) (v:Option V),m' < 2 ^ (i + 1) /\ (i + 1) + n <= w /\ (∀ q,m'.testBit q=true -> m'.testBit (q + n)=false) /\ [some (V.ref p),some (nV w),some (nV n),some (nV m),some (nV i)]=[some (.ref p),some (nV w),some (nV n),some (nV m'),v]):=λ _ _ _=>
    ⟨m,_,yak hm (yaL (3:) (1:)),by omega,hpair,rfl⟩
   have put:(n <= i -> m.testBit (i - n)=false) -> ∀ H',But p H H' -> Hand H' p -> (∃ (m':Nat) (v:Option V),m' < 2 ^ (i + 1) /\ (i + 1) + n <= w /\ (∀ q,m'.testBit q=true -> m'.testBit (q + n)=false) /\ [some (V.ref p),some (nV w),some (nV n),some (nV (m ||| 2 ^ i)),some (nV i)]=[some (.ref p),some (nV w),some (nV n),some (nV m'),v]):=λ hlow _ _ _=>by
    refine ⟨m ||| 2 ^ i,_,Nat.or_lt_two_pow (yak hm (yaL (3:) (1:))) (Nat.pow_lt_pow_right (3:) (1:)),by omega,λ q hq=>?_,rfl⟩;rw [yb7,Nat.testBit_two_pow] at hq ⊢;rw [ybP,decide_eq_true_iff] at hq;rcases hq with hq | rfl
    ·rw [hpair q hq,Bool.false_or];apply decide_eq_false;intro e;have:=hlow (1:);rw [e,ycl] at this;rw [this] at hq;cases hq
    ·rw [zhl hm (1:),Bool.false_or];exact decide_eq_false (1:)
   symm;rw [zfu];refine zaY (λ hc=>?_) (λ hc=>?_)
   ·symm;refine zcH (fun hc2 => ?_) (fun hc2 => ?_)
    ·symm;refine ⟨p, 2, rfl, h2, by decide, by decide, fun r H3 hr b3 h3 => ?_⟩;symm;refine zaY (fun hc3 => ?_) (fun hc3 => ?_)
     ·symm;rw [zlG];exact ⟨b2.trans b3,h3,put (λ z=>by omega) H3 (b2.trans b3) h3⟩
     ·symm;exact ⟨b2.trans b3,h3,stay H3 (b2.trans b3) h3⟩
    ·symm;rw [show (i : Int) - (n : Int) = ((i - n : Nat) : Int) by omega, zfu];refine zaY (fun hc4 => ?_) (fun hc4 => ?_)
     ·have hb:m.testBit (i - n)=false:=by
       cases z:m.testBit (i - n)
       ·rfl
       ·rw [z] at hc4; cases hc4
      symm;refine ⟨p,2,rfl,h2,by decide,by decide,λ r H3 hr b3 h3=>?_⟩;symm;refine zaY (λ hc3=>?_) (λ hc3=>?_)
      ·symm;rw [zlG];exact ⟨b2.trans b3,h3,put (λ z=>hb) H3 (b2.trans b3) h3⟩
      ·symm;exact ⟨b2.trans b3,h3,stay H3 (b2.trans b3) h3⟩
     ·symm;exact ⟨b2,h2,stay H' b2 h2⟩
   ·symm;exact ⟨b2,h2,stay H' b2 h2⟩
  ·rintro σ H' ⟨b2, h2, m, v, hm, hiw, hpair, rfl⟩;symm;refine k m H' ⟨hn, hnw, fun q hq => ⟨?_, hpair q hq⟩⟩ b2 h2;by_cases z : q + n < w
   ·exact z
   ·rw [zhl hm (1:)] at hq; cases hq
def zci:FnScope ["_law_hand_here","_law_width","_law_n","_law_begin","_law_end"] ["_law_hand_here","_law_width","_law_n"] (zag zbp):=⟨rfl,rfl,rfl,by decide +kernel,rfl,by decide +kernel,by decide +kernel⟩
def zew {a:Addr} {fd:FuncData} (B:Blt K mg) (g__law_word:A38 P w K mg base) (F:Fun K "_law_copy_mask" "_law_copy_mask" zbp a fd):FnOk P w K mg base CX0 3 a fd ["_law_hand_here","_law_width","_law_n"] zgl:=by
 refine F.ok zci (λ vs H Q E h=>?_) (λ cdv A outer s H vs Q E hr h=>?_)
 ·obtain ⟨p,w,n,rfl,_⟩:=h;rfl
 ·have nd := zci.nd;have hu := hr.units;obtain ⟨p, w, n, rfl, hH, hn0, hn1, hn2, hw, k⟩ := h;refine ⟨_, ((6:) (@zqF _ _ 3 4 _ _ _ _ _ _ _ _ _ _ _ rfl nd rfl rfl (3:) rfl rfl ((2:) ((29:) (@zhO _ rfl) rfl B.b_max boot_max ((2:) (9:) ((2:) (@zmY _ _ _ _ _ _ (@zjg _) (12:)) (4:) (0:)) (0:)) (3:) (3:) (0:) (0:)) ((2:) ((29:) (@zhr _ rfl) rfl B.b_min boot_min ((2:) (16:) ((2:) ((14:) (36:) (16:) (12:)) (4:) (0:)) (0:)) (3:) (3:) (0:) (0:)) (4:) (0:)) (0:)) rfl (0:)) ((8:) ((13:) ((14:) (@zeQ _) ((10:) g__law_word (11:) ((2:) (7:) ((2:) (16:) (4:) (0:)) (0:)) (0:) (3:) (0:) (0:)) ((14:) (36:) ((14:) (@zc0 _) (9:) (33:)) ((14:) (@zc0 _) (9:) (21:))))))), ?_⟩;symm;obtain ⟨lo, elo⟩ : ∃ lo : Nat, (if -n > 0 then -n else 0) = (lo : Int) := ⟨(-n).toNat, by split <;> omega⟩
  obtain ⟨hi,ehi⟩:∃ hi:Nat,(if (w:Int) - n < w then (w:Int) - n else w)=(hi:Int):=⟨((w:Int) - n).toNat - (if (w:Int) - n < w then 0 else (-n).toNat),by split <;> omega⟩
  rw [elo,ehi]
  have hlo:lo <= hi /\ hi <= w /\ (∀ q:Nat,lo <= q -> q < hi -> 0 <= (q:Int) + n /\ (q:Int) + n < w):=by
   refine ⟨?_,?_,λ q h1 h2=>?_⟩ <;> (split at elo <;> split at ehi <;> omega)
  refine ⟨p,w,rfl,hH,by omega,hw,λ x H2 hx b2 h2=>?_⟩;symm;have hpp:2 ^ lo <= 2 ^ hi:=yaL (3:) hlo.1;rw [show (1:Int) * 2 ^ ((hi:Int)).toNat - 1 * 2 ^ ((lo:Int)).toNat=((2 ^ hi - 2 ^ lo:Nat):Int) by rw [yaw,yaw,Int.natCast_sub hpp]; simp,zbh];refine k _ H2 ⟨hn0,hn1,hn2,ya4 Nat.and_le_left hx,λ q hq=>?_⟩ b2 h2;rw [ycQ,yad,zm0 hlo.1,yad,decide_eq_true_iff,decide_eq_true_iff] at hq;exact hlo.2.2 q hq.2.1 hq.2.2
def zeS:FnScope ["_law_hand_here","_law_width","_law_word_here","_law_n"] ["_law_hand_here","_law_width"] (zag zdG):=⟨rfl,rfl,rfl,by decide +kernel,rfl,by decide +kernel,by decide +kernel⟩
def zh2 {a:Addr} {fd:FuncData} (B:Blt K mg) (g__law_draw:A37 P w K mg base) (g__law_word:A38 P w K mg base) (g__law_swap_mask:A39 P w K mg base) (g__law_copy_mask:A40 P w K mg base) (F:Fun K "_law_deed" "_law_deed" zdG a fd):FnOk P w K mg base CX0 4 a fd ["_law_hand_here","_law_width"] znR:=by
 refine F.ok zeS (λ vs H Q E h=>?_) (λ cdv A outer s H vs Q E hr h=>?_)
 ·obtain ⟨p,w,rfl,_⟩:=h;rfl
 ·have nd := zeS.nd;have hu := hr.units;obtain ⟨p, w, rfl, hH, hw1, hw2, k⟩ := h;refine ⟨_, ((6:) (@zat _ _ 2 _ _ _ _ nd rfl (17:) ((47:) (49:) ((38:) ((26:) ((26:) ((26:) ((26:) ((26:) ((26:) ((26:) ((26:) ((26:) (4:))))))))))) ((10:) g__law_draw (11:) ((2:) (7:) ((2:) (9:) (4:) (0:)) (0:)) (0:) (3:) (0:) (0:)) (48:)) (0:) (15:)) ((6:) ((22:) (@PW.pt _ _ _ ((59:) ((19:) (@k_in _ K (0:)) (12:) ((28:) ((26:) ((26:) ((26:) ((26:) (4:)))))) rfl) (@zff _ _ _ _ (@PW.pt _ _ _ ((55:) ((19:) (25:) (16:) (9:) (18:)) (@zcz _ _ _ _ ((19:) (@k_in _ K (0:)) (12:) ((28:) ((26:) ((26:) (4:)))) rfl))))))) ((8:) ((13:) ((28:) ((2:) ((58:) ((19:) (@zo5 _ K (0:)) (12:) ((28:) ((26:) ((26:) (4:)))) rfl) (12:) (35:)) ((2:) ((10:) g__law_word (11:) ((2:) (7:) ((2:) (16:) (4:) (0:)) (0:)) (0:) (3:) (0:) (0:)) (4:) (0:)) (0:))))) (23:)) ((6:) ((22:) ((19:) (@k_in _ K (0:)) (12:) ((28:) ((26:) ((26:) (4:)))) rfl) ((8:) ((13:) ((28:) ((2:) (12:) ((2:) ((10:) g__law_draw (11:) ((2:) (7:) ((2:) ((14:) (31:) (16:) (9:)) (4:) (0:)) (0:)) (0:) (3:) (0:) (0:)) (4:) (0:)) (0:))))) (23:)) ((6:) ((22:) ((19:) (25:) (12:) (35:) (18:)) ((8:) ((13:) ((28:) ((2:) (12:) ((2:) ((10:) g__law_draw (11:) ((2:) (7:) ((2:) (16:) (4:) (0:)) (0:)) (0:) (3:) (0:) (0:)) (4:) (0:)) (0:))))) (23:)) ((6:) (@zat _ _ 3 _ _ _ _ nd rfl (17:) ((14:) (31:) (9:) ((10:) g__law_draw (11:) ((2:) (7:) ((2:) ((14:) (36:) (16:) (9:)) (4:) (0:)) (0:)) (0:) (3:) (0:) (0:))) (0:) (15:)) ((6:) ((22:) ((19:) (25:) (12:) (35:) (18:)) ((8:) ((13:) ((28:) ((2:) (12:) ((2:) ((10:) g__law_swap_mask (11:) ((2:) (7:) ((2:) (16:) ((2:) (21:) (4:) (0:)) (0:)) (0:)) (0:) (3:) (0:) (0:)) ((2:) (21:) (4:) (0:)) (0:)) (0:))))) (23:)) ((6:) (@zat _ _ 3 _ _ _ _ nd rfl (17:) ((14:) (60:) (21:) ((14:) (36:) (9:) ((14:) (60:) (9:) ((10:) g__law_draw (11:) ((2:) (7:) ((2:) (9:) (4:) (0:)) (0:)) (0:) (3:) (0:) (0:))))) (0:) (15:)) ((8:) ((13:) ((28:) ((2:) (12:) ((2:) ((10:) g__law_copy_mask (11:) ((2:) (7:) ((2:) (16:) ((2:) (21:) (4:) (0:)) (0:)) (0:)) (0:) (3:) (0:) (0:)) ((2:) (21:) (4:) (0:)) (0:)) (0:)))))))))))), ?_⟩;symm;refine zbe (5:) fun l H1 fl s1 n1 => ?_;have h1 := hH.same s1;have nlp := hH.ne fl;symm;refine ⟨p, 9, rfl, h1, by decide, by decide, fun r H2 hr b2 h2 => ?_⟩;have n2 := b2.keep _ _ nlp n1;have b2 : But p H H2 := s1.but.trans b2;clear n1 h1 s1;rcases (show r = 0 \/ r = 1 \/ r = 2 \/ r = 3 \/ r = 4 \/ r = 5 \/ r = 6 \/ r = 7 \/ r = 8 by omega) with rfl | rfl | rfl | rfl | rfl | rfl | rfl | rfl | rfl
  all_goals symm
  all_goals refine zaq (5:) λ t1 H3 f3 s3 n3=>?_
  all_goals have h3:=h2.same s3
  all_goals have b3:But p H H3:=b2.trans s3.but
  all_goals symm
  ·refine zaq (5:) λ t2 H4 f4 s4 n4=>?_;symm;refine ⟨p,w,rfl,h3.same s4,hw1,hw2,λ m H5 hm b5 h5=>?_⟩;symm;refine zaq (5:) λ t H6 f6 s6 n6=>?_;exact k t (.and m) H6 hm (b3.trans (s4.but.trans (b5.trans s6.but))) (h5.same s6) n6
  ·refine zaq (5:) λ t2 H4 f4 s4 n4=>?_;symm;refine ⟨p,w,rfl,h3.same s4,hw1,hw2,λ m H5 hm b5 h5=>?_⟩;symm;refine zaq (5:) λ t H6 f6 s6 n6=>?_;exact k t (.or m) H6 hm (b3.trans (s4.but.trans (b5.trans s6.but))) (h5.same s6) n6
  ·refine zaY (fun hc => ?_) (fun hc => ?_)
   ·symm;refine zaq (5:) fun t1' H3' f3' s3' n3' => ?_
    replace h3:=h3.same s3'
    replace b3:But p H H3':=b3.trans s3'.but
    clear n3 s3;symm;refine zaq (5:) λ t2 H4 f4 s4 n4=>?_;symm;refine ⟨p,w + 1,rfl,h3.same s4,by omega,by omega,λ m H5 hm b5 h5=>?_⟩;symm;refine zaq (5:) λ t H6 f6 s6 n6=>?_;exact k t (.left m) H6 (show m <= w by omega) (b3.trans (s4.but.trans (b5.trans s6.but))) (h5.same s6) n6
   ·symm;refine zaq (5:) λ t2 H4 f4 s4 n4=>?_;symm;refine ⟨p,w + 1,rfl,h3.same s4,by omega,by omega,λ m H5 hm b5 h5=>?_⟩;symm;refine zaq (5:) λ t H6 f6 s6 n6=>?_;exact k t (.left m) H6 (show m <= w by omega) (b3.trans (s4.but.trans (b5.trans s6.but))) (h5.same s6) n6
  ·refine zaY (fun hc => ?_) (fun hc => ?_)
   ·symm;refine zaq (5:) fun t1' H3' f3' s3' n3' => ?_
    replace h3:=h3.same s3'
    replace b3:But p H H3':=b3.trans s3'.but
    clear n3 s3;symm;refine zaq (5:) λ t2 H4 f4 s4 n4=>?_;symm;refine ⟨p,w + 1,rfl,h3.same s4,by omega,by omega,λ m H5 hm b5 h5=>?_⟩;symm;refine zaq (5:) λ t H6 f6 s6 n6=>?_;exact k t (.right m) H6 (show m <= w by omega) (b3.trans (s4.but.trans (b5.trans s6.but))) (h5.same s6) n6
   ·symm;refine zaq (5:) λ t2 H4 f4 s4 n4=>?_;symm;refine ⟨p,w + 1,rfl,h3.same s4,by omega,by omega,λ m H5 hm b5 h5=>?_⟩;symm;refine zaq (5:) λ t H6 f6 s6 n6=>?_;exact k t (.right m) H6 (show m <= w by omega) (b3.trans (s4.but.trans (b5.trans s6.but))) (h5.same s6) n6
  ·refine zaY (fun hc => ?_) (fun hc => ?_)
   ·symm;refine zaq (5:) fun t1' H3' f3' s3' n3' => ?_
    replace h3:=h3.same s3'
    replace b3:But p H H3':=b3.trans s3'.but
    clear n3 s3;symm;refine zaq (5:) λ t2 H4 f4 s4 n4=>?_;symm;refine ⟨p,w,rfl,h3.same s4,by omega,by omega,λ m H5 hm b5 h5=>?_⟩;symm;refine zaq (5:) λ t H6 f6 s6 n6=>?_;exact k t (.turn m) H6 hm (b3.trans (s4.but.trans (b5.trans s6.but))) (h5.same s6) n6
   ·symm;refine zaq (5:) λ t2 H4 f4 s4 n4=>?_;symm;refine ⟨p,w,rfl,h3.same s4,by omega,by omega,λ m H5 hm b5 h5=>?_⟩;symm;refine zaq (5:) λ t H6 f6 s6 n6=>?_;exact k t (.turn m) H6 hm (b3.trans (s4.but.trans (b5.trans s6.but))) (h5.same s6) n6
  ·refine zaY (fun hc => ?_) (fun hc => ?_)
   ·symm;refine zaq (5:) fun t1' H3' f3' s3' n3' => ?_
    replace h3:=h3.same s3'
    replace b3:But p H H3':=b3.trans s3'.but
    clear n3 s3;symm;refine zaq (5:) λ t2 H4 f4 s4 n4=>?_;symm;refine ⟨p,w,rfl,h3.same s4,hw1,hw2,λ m H5 hm b5 h5=>?_⟩;symm;refine zaq (5:) λ t H6 f6 s6 n6=>?_;exact k t (.and m) H6 hm (b3.trans (s4.but.trans (b5.trans s6.but))) (h5.same s6) n6
   ·symm;refine zaq (5:) λ t2 H4 f4 s4 n4=>?_;symm;refine ⟨p,w - 1,by rw [show ((w:Int) - 1)=((w - 1:Nat):Int) by omega]; rfl,h3.same s4,by omega,by omega,λ m H5 hm b5 h5=>?_⟩;symm;refine ⟨p,w,1 + m,by rw [show (1:Int) + (m:Int)=((1 + m:Nat):Int) by omega]; rfl,h5,by omega,by omega,hw2,λ x H6 hx b6 h6=>?_⟩;symm;refine zaq (5:) λ t H7 f7 s7 n7=>?_;exact k t (.swap x (1 + m)) H7 hx (b3.trans (s4.but.trans (b5.trans (b6.trans s7.but)))) (h6.same s7) (by rw [n7]; show some (HO.tup [_,_,V.int ((1:Int) + (m:Int))])=some (HO.tup [_,_,V.int ((1 + m:Nat):Int)]); rw [show (1:Int) + (m:Int)=((1 + m:Nat):Int) by omega])
  ·refine zaq (5:) λ t2 H4 f4 s4 n4=>?_;symm;refine ⟨p,w,rfl,h3.same s4,hw1,hw2,λ m H5 hm b5 h5=>?_⟩;symm;refine zaq (5:) λ t H6 f6 s6 n6=>?_;exact k t (.gather m) H6 hm (b3.trans (s4.but.trans (b5.trans s6.but))) (h5.same s6) n6
  ·refine zaq (5:) λ t2 H4 f4 s4 n4=>?_;symm;refine ⟨p,w,rfl,h3.same s4,hw1,hw2,λ m H5 hm b5 h5=>?_⟩;symm;refine zaq (5:) λ t H6 f6 s6 n6=>?_;exact k t (.strew m) H6 hm (b3.trans (s4.but.trans (b5.trans s6.but))) (h5.same s6) n6
  ·refine zaY (fun hc => ?_) (fun hc => ?_)
   ·symm;refine zaq (5:) fun t1' H3' f3' s3' n3' => ?_
    replace h3:=h3.same s3'
    replace b3:But p H H3':=b3.trans s3'.but
    clear n3 s3;symm;refine zaq (5:) λ t2 H4 f4 s4 n4=>?_;symm;refine ⟨p,w,rfl,h3.same s4,hw1,hw2,λ m H5 hm b5 h5=>?_⟩;symm;refine zaq (5:) λ t H6 f6 s6 n6=>?_;exact k t (.and m) H6 hm (b3.trans (s4.but.trans (b5.trans s6.but))) (h5.same s6) n6
   ·symm;refine zaq (5:) fun t2 H4 f4 s4 n4 => ?_;symm;refine ⟨p, w - 1, by rw [show ((w : Int) - 1) = ((w - 1 : Nat) : Int) by omega]; rfl, h3.same s4, by omega, by omega, fun m H5 hm b5 h5 => ?_⟩;symm;refine ⟨p, 2, rfl, h5, by decide, by decide, fun y H6 hy b6 h6 => ?_⟩;symm
    obtain ⟨z,ez,hz⟩:∃ z:Int,(1 + (m:Int)) * (1 - 2 * (y:Int))=z /\ z ≠ 0 /\ -(w:Int) < z /\ z < w:=by
     rcases (show y=0 \/ y=1 by omega) with rfl | rfl
     ·exact ⟨1 + (m:Int),by simp,by omega,by omega,by omega⟩
     ·exact ⟨-(1 + (m:Int)),by simp,by omega,by omega,by omega⟩
    rw [ez];refine ⟨p,w,z,rfl,h6,hz.1,hz.2.1,hz.2.2,hw2,λ x H7 hx b7 h7=>?_⟩;symm;refine zaq (5:) λ t H8 f8 s8 n8=>?_;exact k t (.copy x z) H8 hx (b3.trans (s4.but.trans (b5.trans (b6.trans (b7.trans s8.but))))) (h7.same s8) n8
def zfF:FnScope ["_law_hand_here","_law_width","_law_many"] ["_law_hand_here","_law_width"] (zag zdi):=⟨rfl,rfl,rfl,by decide +kernel,rfl,by decide +kernel,by decide +kernel⟩
def ziG {a:Addr} {fd:FuncData} (B:Blt K mg) (g__law_draw:A37 P w K mg base) (g__law_deed:A41 P w K mg base) (F:Fun K "_law_row" "_law_row" zdi a fd):FnOk P w K mg base CX0 5 a fd ["_law_hand_here","_law_width"] zjN:=by
 refine F.ok zfF (λ vs H Q E h=>?_) (λ cdv A outer s H vs Q E hr h=>?_)
 ·obtain ⟨p,w,rfl,_⟩:=h;rfl
 ·have nd := zfF.nd;have hu := hr.units;obtain ⟨p, w, rfl, hH, hw1, hw2, k⟩ := h;refine ⟨_, ((6:) (@zat _ _ 2 _ _ _ _ nd rfl (17:) ((10:) g__law_draw (11:) ((2:) (7:) ((2:) (9:) (4:) (0:)) (0:)) (0:) (3:) (0:) (0:)) (0:) (15:)) ((6:) ((22:) ((19:) (25:) ((10:) g__law_draw (11:) ((2:) (7:) ((2:) (9:) (4:) (0:)) (0:)) (0:) (3:) (0:) (0:)) (9:) (18:)) ((8:) (@zat _ _ 2 _ _ _ _ nd rfl (17:) ((14:) (31:) (9:) ((10:) g__law_draw (11:) ((2:) (7:) ((2:) (9:) (4:) (0:)) (0:)) (0:) (3:) (0:) (0:))) (0:) (15:))) (23:)) ((8:) ((13:) (@zaZ _ _ _ _ _ _ (zag zdi) _ ["_law_hand_here", "_law_width", "_law_many"] ["_law_k", "_law_hand_here", "_law_width"] [none, some 0, some 1] _ _ _ _ rfl ((56:) rfl B.b_range ((2:) (12:) (4:) (0:)) (0:)) (fun _ _ _ _ => (84:)) (fun _ _ _ _ => (@zbC _)) (fun _ _ _ _ => ((10:) g__law_deed (11:) ((2:) (16:) ((2:) (12:) (4:) (0:)) (0:)) (0:) (3:) (0:) (0:))) (20:) (0:) (0:) (24:)))))), ?_⟩;symm;refine ⟨p, 7, rfl, hH, by decide, by decide, fun r H1 hr b1 h1 => ?_⟩;symm;refine ⟨p, 8, rfl, h1, by decide, by decide, fun r2 H2 hr2 b2 h2 => ?_⟩;symm;refine zaY (fun hc => ?_) (fun hc => ?_)
  ·symm;refine ⟨p, 14, rfl, h2, by decide, by decide, fun r3 H3 hr3 b3 h3 => ?_⟩;symm;rw [show (7 : Int) + (r3 : Int) = ((7 + r3 : Nat) : Int) by omega];refine zf6 (n := 7 + r3) rfl (1:) ?_;refine zbk (fun i acc H' => But p H H' /\ Hand H' p /\ ∃ L : List (Addr × Dd), L.length = i /\ i <= 20 /\ Rw H' w L /\ acc = rowV L) ⟨b1.trans (b2.trans b3), h3, [], rfl, by omega, fun _ z => (nomatch z), rfl⟩ (fun i acc H' h => ?_) ?_ ?_
   ·obtain ⟨_,_,L,hl,hi,_,rfl⟩:=h;rw [rowV,yaa];exact yaE (small5 (1:))
   ·rintro i acc H' hi ⟨b4, h4, L, hl, hi2, hR, rfl⟩;symm;refine ⟨p, w, rfl, h4, hw1, hw2, fun t d H5 hd b5 h5 n5 => ?_⟩;refine ⟨b4.trans b5, h5, L ++ [(t, d)], by rw [yam, hl]; rfl, by omega, fun q hq => ?_, by rw [rowV, rowV, yal]; rfl⟩;rcases yas.mp hq with z | z
    ·exact hR.but h4 b5 q z
    ·rw [yah.mp z]; exact ⟨n5,hd⟩
   ·rintro acc H' ⟨b4,h4,L,hl,hi2,hR,rfl⟩ l hfl;exact k l L _ (1:) (hR.same (zal hfl)) (b4.free h4 hfl).1 (b4.trans (zal hfl).but) (h4.same (zal hfl)) zah
  ·symm;refine zf6 (n := r) rfl (1:) ?_;refine zbk (fun i acc H' => But p H H' /\ Hand H' p /\ ∃ L : List (Addr × Dd), L.length = i /\ i <= 20 /\ Rw H' w L /\ acc = rowV L) ⟨b1.trans b2, h2, [], rfl, by omega, fun _ z => (nomatch z), rfl⟩ (fun i acc H' h => ?_) ?_ ?_
   ·obtain ⟨_,_,L,hl,hi,_,rfl⟩:=h;rw [rowV,yaa];exact yaE (small5 (1:))
   ·rintro i acc H' hi ⟨b4, h4, L, hl, hi2, hR, rfl⟩;symm;refine ⟨p, w, rfl, h4, hw1, hw2, fun t d H5 hd b5 h5 n5 => ?_⟩;refine ⟨b4.trans b5, h5, L ++ [(t, d)], by rw [yam, hl]; rfl, by omega, fun q hq => ?_, by rw [rowV, rowV, yal]; rfl⟩;rcases yas.mp hq with z | z
    ·exact hR.but h4 b5 q z
    ·rw [yah.mp z]; exact ⟨n5,hd⟩
   ·rintro acc H' ⟨b4,h4,L,hl,hi2,hR,rfl⟩ l hfl;exact k l L _ (1:) (hR.same (zal hfl)) (b4.free h4 hfl).1 (b4.trans (zal hfl).but) (h4.same (zal hfl)) zah
def zdp:FnScope ["_law_rows","_law_menu","_law_longer_here","_law_some"] ["_law_rows","_law_menu"] (zag zbz):=⟨rfl,rfl,rfl,by decide +kernel,rfl,by decide +kernel,by decide +kernel⟩
def zfW {a:Addr} {fd:FuncData} (B:Blt K mg)  (F:Fun K "_law_longer" "_law_longer" zbz a fd):FnOk P w K mg base CX0 1 a fd ["_law_rows","_law_menu"] zjq:=by
 refine F.ok zdp (λ vs H Q E h=>?_) (λ cdv A outer s H vs Q E hr h=>?_)
 ·obtain ⟨r,m,w,n,R,M,rfl,_⟩:=h;rfl
 ·have nd := zdp.nd;have hu := hr.units;obtain ⟨r, m, wd, n, R, M, rfl, hr, hR, hm, hM, zM, zR, hn, k⟩ := h;refine ⟨_, ((6:) (78:) ((6:) ((37:) yaJ rfl (@zaF _ K _ _ _ (7:) (0:)) (@zas _ _ 3 _ nd rfl (Or.inr rfl) (15:)) ((8:) ((53:) (@k_bm _ K _ _ _ _ _ _ _ _ _ _ _ ya9 yce ycf (@zfN _) (12:) ((2:) (@zaZ _ _ _ _ _ _ (zag zbz) _ ["_law_rows", "_law_menu", "_law_longer_here", "_law_some"] ["_law_deed_here", "_law_some"] [none, some 3] _ _ _ _ rfl (57:) (fun _ _ _ _ => (@zas _ _ 0 _ (show List.Nodup (["_law_deed_here", "_law_some"] : List Str) by decide +kernel) rfl (17:) (15:))) (fun _ _ _ _ => (@zbC _)) (fun _ _ _ _ => ((14:) (31:) (16:) ((38:) ((2:) (7:) (4:) (0:))))) (20:) (0:) (0:) (24:)) (4:) (0:)) (0:) (0:) (0:) (0:) (0:) (0:)) (0:))) (24:)) ((8:) ((13:) (12:))))), ?_⟩;symm;refine zbe (5:) fun p H1 f1 s1 n1 => ?_;symm;refine zdc (xs := zdD R) (fun i σ H' => Same H H' /\ i <= R.length /\ ∃ R' v3, H' p = some (.lst (zdD R')) /\ RwsN H' wd (n + 1) R' /\ (∀ q ∈ R', q.1 ≠ p) /\ R'.map (·.2) = zh7 M ((R.take i).map (·.2)) /\ σ = [some (.ref r), some (.ref m), some (.ref p), v3]) ⟨s1, yaY _, [], none, n1, fun _ z => (nomatch z), fun _ z => (nomatch z), rfl, rfl⟩ (fun i σ H' h => SqL.of (h.1 _ _ hr)) ?_ ?_
  ·rintro i x σ H2 hx ⟨s2, hi, R', v3, n2, hR2, hp2, e2, rfl⟩;obtain ⟨q, hq, rfl⟩ := zaI hx;have hil : i < R.length := (yaj.mp hq).1;have hqR := hR q (yar hq);have q2 := s2 _ _ hqR.1;have m2 := s2 _ _ hm;have zq : (rowV q.2).length <= 3 := by rw [rowV, yaa, hqR.2.2]; exact hn
   have z2:R'.length <= 216:=by
    have:=congrArg List.length e2;rw [zmt,yaa,yaa,yaV] at this;have h6:(min i R.length) * M.length <= 36 * 6:=Nat.mul_le_mul (1:) zM;omega
   symm;refine zbF (SqL.of m2) ?_;refine zbL (xs:=rowV M) (λ j acc H'=>Same H2 H' /\ j <= 6 /\ ∃ A:List (Addr × List (Addr × Dd)),acc=zdD A /\ A.length <= j /\ RwsN H' wd (n + 1) A /\ (∀ a ∈ A,a.1 ≠ p) /\ A.map (·.2)=(M.take j).map λ d=>q.2 ++ [d]) ⟨Same.refl _,by omega,[],rfl,by simp,λ _ z=>(nomatch z),λ _ z=>(nomatch z),rfl⟩ (λ j acc H' h=>?_) (λ j acc H' h=>SqL.of (h.1 _ _ m2)) ?_ ?_
   ·obtain ⟨_,hj,A,rfl,hz,_⟩:=h;rw [zcI];exact yaE (small5 (1:))
   ·rintro j y acc H3 hy ⟨s3, hj, A, rfl, hz, hA, hp3, eA⟩;obtain ⟨e, he, rfl⟩ := zaI hy;have hjl : j < M.length := (yaj.mp he).1;have q3 := s3 _ _ q2;have p3 := s3 _ _ n2;symm;refine zbe (5:) fun u H4 f4 s4 n4 => ?_;symm;refine zjy (s4 _ _ q3) n4 (34:) fun t H5 f5 s5 n5 => ?_;have s35 := s4.trans s5;have tp : t ≠ p := fun z => by rw [z, s4 _ _ p3] at f5; cases f5
    have hR5:Rw H5 wd (q.2 ++ [e]):=λ f hf=>by
     rcases yas.mp hf with z | z
     ·exact (hqR.2.1.same ((s2.trans s3).trans s35)) f z
     ·rw [yah.mp z];exact (hM.same ((s2.trans s3).trans s35)) e (yar he)
    refine ⟨s3.trans s35,by omega,A ++ [(t,q.2 ++ [e])],by rw [zhs]; rfl,by rw [yam]; simp; omega,(hA.keep s35).app λ a ha=>?_,λ a ha=>?_,?_⟩
    ·rw [yah.mp ha];exact ⟨by rw [show rowV (q.2 ++ [e])=rowV q.2 ++ [.ref e.1] by rw [rowV,rowV,yal]; rfl]; exact n5,hR5,by rw [yam,hqR.2.2]; rfl⟩
    ·rcases yas.mp ha with z | z
     ·exact hp3 a z
     ·rw [yah.mp z]; exact tp
    ·rw [yal,eA,yaG,he,yal]; rfl
   ·rintro acc H3 ⟨s3, _, A, rfl, hz, hA, hp3, eA⟩ c hc;have s4 := zal (o := .lst (zdD A)) hc;have n4 : upd H3 c (.lst (zdD A)) c = some (.lst (zdD A)) := zah;generalize upd H3 c (.lst (zdD A)) = H4 at *;have p4 := s4 _ _ (s3 _ _ n2);have zA : A.length <= 6 := by rw [rowV, yaa] at hz; omega
    symm;refine zoG (K:=K) p4 n4 (by rw [zcI,zcI]; omega) ?_;rw [show (rowV M).length=M.length from yaa ..,yaq (yag _)] at eA;refine ⟨(((s2.trans s3).trans s4).upd' f1),hil,R' ++ A,_,by rw [zah,zhs],((hR2.keep (s3.trans s4)).app (hA.keep s4)).upd p4 λ a ha=>?_,λ a ha=>?_,?_,rfl⟩
    ·exact (yas.mp ha).elim (hp2 a) (hp3 a)
    ·exact (yas.mp ha).elim (hp2 a) (hp3 a)
    ·rw [yal,e2,eA,yaG,hq,yal];exact (zky M _ _).symm
  ·rintro σ H2 ⟨s2,hi,R',v3,n2,hR2,hp2,e2,rfl⟩;symm;rw [zcI,yaq (yag _)] at e2;exact k p R' H2 f1 s2 n2 hR2 e2
def zee:FnScope ["_law_width","_law_menu","_law_found","_law_rows","_law_number","_law_some"] ["_law_width","_law_menu"] (zag zcT):=⟨rfl,rfl,rfl,by decide +kernel,rfl,by decide +kernel,by decide +kernel⟩
def zgT {a:Addr} {fd:FuncData} (B:Blt K mg) (g_row_leading:A17 P w K mg base) (g__law_longer:A43 P w K mg base) (F:Fun K "_law_tried" "_law_tried" zcT a fd):FnOk P w K mg base CX0 6 a fd ["_law_width","_law_menu"] zlW:=by
 refine F.ok zee (λ vs H Q E h=>?_) (λ cdv A outer s H vs Q E hr h=>?_)
 ·obtain ⟨m,w,M,rfl,_⟩:=h;rfl
 ·have nd := zee.nd;have hu := hr.units;obtain ⟨m, wd, M, rfl, hm, hM, zM, hw1, hw3, k⟩ := h;have hS := zcu hM;have hp4 := zdN (w := wd) (1:);refine ⟨_, ((6:) (@zat _ _ 2 _ _ _ _ nd rfl (17:) (@zhF _ _ _ _ _ _ hu (88:) (9:)) (0:) (15:)) ((6:) (@zat _ _ 3 _ _ _ _ nd rfl (17:) ((38:) ((2:) ((38:) (4:)) (4:) (0:))) (0:) (15:)) ((6:) ((37:) yaJ rfl (@zg4 _ _ _ _ _ _ _ rfl B.b_range ((2:) (9:) ((2:) (9:) (4:) (0:)) (0:)) (0:) (0:)) (76:) ((6:) (@zat _ _ 3 _ _ _ _ nd rfl (17:) ((10:) g__law_longer (11:) ((2:) (21:) ((2:) (16:) (4:) (0:)) (0:)) (0:) (3:) (0:) (0:)) (0:) (15:)) ((8:) ((37:) yaJ rfl (@zaF _ K _ _ _ (21:) (0:)) (68:) ((8:) ((53:) (@zna _ _ _ _ _ _ _ _ _ hu (12:) ((10:) g_row_leading (11:) ((2:) (7:) ((2:) (46:) (4:) (0:)) (0:)) (0:) (3:) (0:) (0:)) (33:) (0:) (0:) (0:) (0:)) (0:))) (24:)))) (24:)) ((8:) ((13:) (@ziQ _ _ _ (12:))))))), ?_⟩;symm;refine zjj fun f hf => ?_;symm;refine ⟨wd, rfl, by omega, fun t ht => ?_⟩;rw [zgB];have sf := zal (o := .dT []) hf;have st := zal (o := .tup ((zaJ wd).map V.int)) ht;have t2 : upd (upd H f (.dT [])) t (.tup ((zaJ wd).map V.int)) t = some (.tup ((zaJ wd).map V.int)) := zah;have f2 := st _ _ (zah : upd H f (.dT []) f = some (.dT []));have s02 := sf.trans st;generalize upd (upd H f (.dT [])) t (.tup ((zaJ wd).map V.int)) = H2 at *;symm;refine ⟨kI (zaJ wd), t, rfl, by rw [kI_V]; exact t2, f2, ?_⟩;have s03 : Same H (upd H2 f (.dT [(kI (zaJ wd), .int 0)])) := s02.upd' hf;have f3 : upd H2 f (.dT [(kI (zaJ wd), .int 0)]) f = some (.dT (KnD [(zaJ wd, 0)])) := zah;generalize upd H2 f (.dT [(kI (zaJ wd), .int 0)]) = H3 at *;symm;refine zbe (5:) fun e0 H4 f4 s4 n4 => ?_;symm;refine zbe (5:) fun r0 H5 f5 s5 n5 => ?_;symm;refine znX ?_;symm;refine ⟨1, 4, rfl, by decide, ?_⟩
  refine zie (n:=3) (λ i σ H'=>Same H H' /\ i <= 3 /\ ∃ F r R v4 v5,H' f=some (.dT (KnD F)) /\ Trd (steps wd M) wd i F /\ H' r=some (.lst (zdD R)) /\ RwsN H' wd i R /\ R.map (·.2)=zeX M i /\ σ=[some (nV wd),some (.ref m),some (.ref f),some (.ref r),v4,v5])
   ⟨s03.trans (s4.trans s5),by omega,_,r0,[(e0,[])],none,none,s5 _ _ (s4 _ _ f3),Trd.zero,n5,λ q hq=>by rw [yah.mp hq]; exact ⟨s5 _ _ n4,λ _ z=>(nomatch z),rfl⟩,rfl,rfl⟩ ?_ ?_
  ·rintro i σ H6 hi ⟨s6, _, F, r, R, v4, v5, f6, hT, n6, hR, eR, rfl⟩;have eN : (1 : Int) + (i : Int) = ((i + 1 : Nat) : Int) := by omega
   rw [eN]
   have zR:R.length <= 36:=by
    have:=congrArg List.length eR;rw [yaa,zhM] at this;have h6:M.length ^ i <= 6 ^ 2:=ya5 (Nat.pow_le_pow_left zM i) (yaL (3:) (1:));omega
   symm;refine ⟨r,m,wd,i,R,M,rfl,n6,hR,s6 _ _ hm,hM.same s6,zM,zR,by omega,λ p R' H7 f7 s7 n7 hR' eR'=>?_⟩;rw [eR] at eR';have eR':R'.map (·.2)=zeX M (i + 1):=eR';have g7:=s7 _ _ f6;symm
   refine zdc (xs:=zdD R') (λ j σ H'=>zaw f H7 H' /\ j <= R'.length /\ ∃ F v5,H' f=some (.dT (KnD F)) /\ TrdM (steps wd M) wd i F ((R'.take j).map λ q=>rowL wd (dds q.2)) /\ σ=[some (nV wd),some (.ref m),some (.ref f),some (.ref p),some (nV (i + 1)),v5])
    ⟨zaw.refl _ _,yaY _,F,v5,g7,hT.mid,rfl⟩ (λ j σ H' h=>SqL.of (h.1 _ _ (zbY n7 g7 nofun) n7)) ?_ ?_
   ·rintro j x σ H8 hx ⟨k8, hj, F8, v5', g8, hT8, rfl⟩;obtain ⟨q, hq, rfl⟩ := zaI hx;have hjl : j < R'.length := (yaj.mp hq).1;have hR8 := hR'.but k8 g7;have hq8 := hR8 q (yar hq);have zF := hT8.len hS;symm;refine zoV ?_;symm;refine ⟨f, rfl, .inr ⟨_, .inl g8⟩, ?_⟩;symm;refine ⟨wd, q.1, q.2, rfl, .inl (SqL.of hq8.1), hq8.2.1, by omega, fun t9 H9 s9 n9 => ?_⟩;have g9 := s9 _ _ g8;have et : (R'.take (j + 1)).map (fun q => rowL wd (dds q.2)) = (R'.take j).map (fun q => rowL wd (dds q.2)) ++ [rowL wd (dds q.2)] := by rw [yaG, hq, yal]; rfl
    have hrn:Rn (steps wd M) wd (i + 1) (rowL wd (dds q.2)):=by
     have:q.2 ∈ R'.map (·.2):=yaf.mpr ⟨q,yar hq,rfl⟩;rw [eR'] at this;obtain ⟨z1,z2⟩:=zd1.mp this;exact zjz.mpr ⟨q.2,z1,z2,rfl⟩
    have k9:zaw f H7 H9:=λ a u ha e=>s9 _ _ (k8 a u ha e);symm;refine ⟨KnD F8,kI (rowL wd (dds q.2)),t9,g9,rfl,by rw [kI_V]; exact n9,small5 (by rw [KnD.length]; omega),λ v hv=>?_,λ hv=>?_⟩
    ·rcases KnD.val (ls := rowL wd (dds q.2)) (F := F8) with ⟨z1, zv⟩ | ⟨n, z1, zv⟩
     ·rw [zv] at hv; cases hv
     ·exact ⟨k9,hjl,F8,_,g9,by rw [et]; exact hT8.old (yaf.mpr ⟨_,z1,rfl⟩),rfl⟩
    ·rcases KnD.val (ls := rowL wd (dds q.2)) (F := F8) with ⟨z1, zv⟩ | ⟨n, z1, zv⟩
     ·exact ⟨k9.trans (zaw.upd _ _ _),hjl,F8 ++ [(rowL wd (dds q.2),i + 1)],_,by rw [zmK]; exact zah,by rw [et]; exact hT8.add z1 hrn,rfl⟩
     ·rw [zv] at hv; cases hv
   ·rintro σ H8 ⟨k8,hj,F8,v5',g8,hT8,rfl⟩;rw [zcI,yaq (yag _)] at hT8;refine ⟨λ a u e=>?_,by omega,F8,p,R',_,_,g8,hT8.rows eR',k8 _ _ (zbY n7 g7 nofun) n7,hR'.but k8 g7,eR',rfl⟩;exact k8 a u (zao e hf) (s7 _ _ (s6 _ _ e))
  ·rintro σ H6 ⟨s6,_,F,r,R,v4,v5,f6,hT,n6,hR,eR,rfl⟩;symm;refine zny ?_;symm;exact ⟨f,KnD F,rfl,f6,λ o=>k f o F _ (s6.upd' hf) zah hT⟩
def zhA:FnScope ["leading","menu","found","row","at"] ["leading","menu"] (zag zgA):=⟨rfl,rfl,rfl,by decide +kernel,rfl,by decide +kernel,by decide +kernel⟩
def zlj {a:Addr} {fd:FuncData} (B:Blt K mg) (g_deeds_to:A0 P w K mg base) (g_searched:A14 P w K mg base) (F:Fun K "fewest" "fewest" zgA a fd):FnOk P w K mg base CX0 7 a fd ["leading","menu"] (zht K):=by
 refine F.ok zhA (λ vs H Q E h=>?_) (λ cdv A outer s H vs Q E hr h=>?_)
 ·obtain ⟨wd,m,l,L,ls,rfl,_⟩:=h;rfl
 ·have nd := zhA.nd;have hu := hr.units;obtain ⟨wd, m, l, L, ls, rfl, hm, hR, hw1, hw3, hL, hl, hld, k0, k1⟩ := h;have hw : wd <= 4 := by omega
  have ell:(ls.map V.int).length=wd:=by rw [yaa,hld.1]
  have hS:=zcu hR;have hp4:=zdN hw;refine ⟨_,((6:) (81:) ((6:) ((22:) (@zhu _ _ _ _ _ _ hu (7:) (12:) (0:)) ((8:) ((13:) (43:))) (23:)) ((6:) (@zat _ _ 3 _ _ _ _ nd rfl (17:) ((38:) (4:)) (0:) (15:)) ((6:) (@zat _ _ 4 _ _ _ _ nd rfl (17:) (7:) (0:) (15:)) ((6:) (@zgI _ _ _ _ _ _ yaJ ((19:) (@zit _) ((10:) g_deeds_to (11:) ((2:) (12:) ((2:) (33:) (4:) (0:)) (0:)) (0:) (3:) (0:) (0:)) (9:) (18:)) ((6:) ((53:) (@k_bm _ K _ _ _ _ _ _ _ _ _ _ _ ya9 ybT ybU (@zdV _) (21:) ((2:) ((47:) (49:) (@zhW _ _ _ _ _ _ hu (12:) (33:) (69:)) (9:) (48:)) (4:) (0:)) (0:) (0:) (0:) (0:) (0:) (0:)) (0:)) ((8:) (@zat _ _ 4 _ _ _ _ nd rfl (17:) ((47:) (49:) (@zhW _ _ _ _ _ _ hu (12:) (33:) (69:)) (9:) (48:)) (0:) (15:))))) ((8:) ((13:) (@zdR _ K _ _ _ _ _ _ rfl B.b_list B.b_reversed ((2:) (21:) (4:) (0:)) (0:) (0:) (0:) (0:) (0:))))))))),?_⟩;symm;rw [ell];refine ⟨wd,m,.ref l,L,(·=ls),rfl,hm,hR,hw1,hw3,hL,.inr ⟨l,ls,rfl,hl,λ x=>Iff.rfl⟩,λ f o kvs H1 F n E s1 hf hF R hE=>?_⟩;have hE:E=[] \/ ls ∈ F.map (·.1):=hE.imp id λ ⟨x,hx,hm⟩=>hx ▸ hm;symm;refine zio ?_;symm;refine ⟨f,_,rfl,DGet.r (Frz.rd hf) (s1 _ _ hl),?_⟩;rcases hF.val (ls:=ls) with ⟨z1,z2⟩ | ⟨n',b',z1,z2,z3⟩
  ·rw [z2];symm;refine zbc rfl ?_;symm;have hE0:E=[]:=hE.resolve_right z1;subst hE0;exact k0 H1 s1 λ q dq=>z1 (yaf.mpr ⟨_,(R.end ls q).mpr dq,rfl⟩)
  ·rw [z2];symm;refine za6 rfl ?_;symm;have dls := ((R.all ls n').mp z1).2;have hFl := dls.few hS;refine zbe (5:) fun r H2 f2 s2 n2 => ?_;symm
   refine ⟨λ mm σ H'=>zaw r H2 H' /\ ∃ (x:List Int) (a:Addr) (M:List (Addr × Dd)),(x,mm) ∈ F /\ mm + M.length=n' /\ H' a=some (.tup (x.map V.int)) /\ (∀ e ∈ M,e ∈ L) /\ (dds M.reverse).foldl (λ l d=>zaA l (d.led wd)) x=ls /\ H' r=some (.lst (rowV M)) /\ σ=[some (.ref l),some (.ref m),some (.ref f),some (.ref r),some (.ref a)],
    ⟨n',zaw.refl _ _,ls,l,[],z1,rfl,s2 _ _ (s1 _ _ hl),λ _ z=>(nomatch z),rfl,n2,rfl⟩,?_⟩
   rintro mm σ H3 ⟨k3,x,a,M,hx,hmm,ha,hM,hfold,nr,rfl⟩;have f3:Frz H3 f o kvs:=k3 _ _ (zao hf f2) (s2 _ _ hf);have T3:∀ b xs,H1 b=some (.tup xs) -> H3 b=some (.tup xs):=λ b xs z=>k3 _ _ (zao z f2) (s2 _ _ z);have hF3:=hF.mono T3 λ _ z=>z
   obtain ⟨b0,w1,w2⟩:∃ b0,valV kvs (kI x)=some (.ref b0) /\ Ent H3 wd L F (x,mm) b0:=by
    rcases hF3.val (ls:=x) with ⟨q1,_⟩ | ⟨n0,b0,q1,q2,q3⟩
    ·exact absurd (yaf.mpr ⟨_,hx,rfl⟩) q1
    ·have:=zg1 R.once q1 hx;subst this;exact ⟨b0,q2,q3⟩
   have dx:=((R.all x mm).mp hx).2;obtain ⟨r0,w3,w4⟩:=id w2;have hrl:(rowV M).length <= 1296:=by rw [rowV,yaa]; omega
   symm;refine ⟨f,a,b0,kvs,x,mm,r0,rfl,Frz.rd f3,ha,w1,w3,?_⟩;symm;refine zcH (λ hc=>?_) (λ hc=>?_)
   ·obtain ⟨a1, ys, e, m1, hr0, hm1, hy, eL, hxe, hyF⟩ := w4.resolve_left (by show ¬ mm = 0; omega);subst hr0;have hm1 : mm = m1 + 1 := hm1;have hxe : x = zaA ys (e.2.led wd) := hxe;refine ⟨_, fun _ _ h => h, ?_⟩;symm;refine zfy ?_;symm;refine ⟨f, .ref b0, rfl, w1 ▸ DGet.r (Frz.rd f3) ha, ?_⟩;symm;have T4 : ∀ b xs, H3 b = some (.tup xs) -> upd H3 r (.lst (rowV M ++ [.ref e.1])) b = some (.tup xs) := fun b xs z => by rw [zan (zbY z nr nofun)]; exact z
    have f4:Frz (upd H3 r (.lst (rowV M ++ [.ref e.1]))) f o kvs:=by unfold Frz; rw [zan (zbY f3 nr nofun)]; exact f3
    have n4:upd H3 r (.lst (rowV M ++ [.ref e.1])) r=some (.lst (rowV (M ++ [e]))):=by rw [zah,rowV,rowV,yal]; rfl
    have k4:zaw r H2 (upd H3 r (.lst (rowV M ++ [.ref e.1]))):=k3.trans (zaw.upd _ _ _);have a4:=T4 _ _ ha;have b4:=T4 _ _ w3;have y4:=T4 _ _ hy;generalize upd H3 r (.lst (rowV M ++ [.ref e.1]))=H4 at *;refine zfy ?_;symm;refine ⟨f,.ref b0,rfl,w1 ▸ DGet.r (Frz.rd f4) a4,?_⟩;symm;refine ⟨m1,by omega,k4,ys,a1,M ++ [e],hyF,by rw [yam]; simp; omega,y4,λ q hq=>?_,?_,n4,rfl⟩
    ·rcases yas.mp hq with z | z
     ·exact hM q z
     ·rw [yah.mp z]; exact eL
    ·rw [ybw,<- hfold,hxe]; rfl
   ·have hm0 : mm = 0 := by omega
    subst hm0;have ex:=Dst.zero.mp dx;symm;refine ⟨r,rowV M,rfl,SqL.of nr,λ p hp=>?_⟩;have s3:Same H1 H3:=k3.same s2 f2;refine k1 _ p M.reverse n' ((s1.trans s3).upd' ((s1.trans s3).freeS hp)) ((s1.trans s3).freeS hp) dls (by rw [zah,rowV,rowV,List.map_reverse]) (λ e he=>hM e (yca.mp he)) (by rw [ybd]; omega) ?_;rw [<- hfold,ex]; rfl
def zga:FnScope ["leading"] ["leading"] (zag zd2):=⟨rfl,rfl,rfl,by decide +kernel,rfl,by decide +kernel,by decide +kernel⟩
def zj7 {a:Addr} {fd:FuncData} (B:Blt K mg) (g_mask_of:A28 P w K mg base) (F:Fun K "kept_by" "kept_by" zd2 a fd):FnOk P w K mg base CX0 2 a fd ["leading"] zn8:=by
 refine F.ok zga (λ vs H Q E h=>?_) (λ cdv A outer s H vs Q E hr h=>?_)
 ·obtain ⟨b,ls,w,rfl,_⟩:=h;rfl
 ·have nd := zga.nd;have hu := hr.units;obtain ⟨b, ls, w, rfl, hb, hL, hw, k⟩ := h;have hlen : ls.length <= 64 := by rw [hL.1]; exact hw
  refine ⟨_,((8:) ((13:) ((10:) g_mask_of (11:) ((2:) (@zaZ _ _ _ _ _ _ (zag zd2) _ ["leading"] ["entry"] [none] _ _ _ _ rfl (@zaF _ K _ _ _ (7:) (0:)) (λ _ _ _ _=>(@zas _ _ 0 _ (show List.Nodup (["entry"]:List Str) by decide +kernel) rfl (17:) (15:))) (λ _ _ _ _=>(@zb3 _ _ _ ((19:) (@zlT _) (7:) (9:) (18:)))) (λ _ _ _ _=>(7:)) (20:) (0:) (0:) (24:)) (4:) (0:)) (0:) (3:) (0:) (0:)))),?_⟩;symm;refine zhD (SqT.of hb) ?_;refine zjp (xs:=ls.map V.int) (λ i acc H'=>H'=H /\ acc=((ls.take i).filter λ e=>decide (0 <= e)).map V.int) ⟨rfl,rfl⟩ (λ i acc H' h=>?_) (λ i acc H' h=>by rw [h.1]; exact SqT.of hb) ?_ ?_
  ·obtain ⟨_,rfl⟩:=h;have:=yaU (λ e=>decide ((0:Int) <= e)) (ls.take i);rw [yaV] at this;rw [yaa];exact yaE (small5 (1:))
  ·rintro i x acc H' hx ⟨rfl, rfl⟩;obtain ⟨e, he, rfl⟩ := zaI hx;symm;refine zcH (fun h0 => ?_) (fun h0 => ?_)
   ·symm;refine ⟨rfl,?_⟩;rw [yaG,he,yaz,yal];congr 1;show [V.int e]=List.map V.int (List.filter _ [e]);rw [ya7 (by exact decide_eq_true (1:))];rfl
   ·refine ⟨rfl,?_⟩;rw [yaG,he,yaz,yal];show _=_ ++ List.map V.int (List.filter _ [e]);rw [ya8 (by rw [decide_eq_true_iff]; omega)];simp
  ·rintro acc H' ⟨rfl, rfl⟩ p hp;rw [yaa, yaq (yag _), zlf];symm;refine ⟨p, ziv ls, rfl, .inl (SqL.of zah), fun x hx => ?_, ?_⟩
   ·simp only [ziv,yaf,yaB,decide_eq_true_iff] at hx;obtain ⟨e,⟨h1,h2⟩,rfl⟩:=hx;have:=(hL.2 e h1).2;omega
   ·exact k _ (zal hp)
def zea:FnScope ["leading","stay","ones","filled"] ["leading"] (zag za4):=⟨rfl,rfl,rfl,by decide +kernel,rfl,by decide +kernel,by decide +kernel⟩
def zgG {a:Addr} {fd:FuncData} (B:Blt K mg) (g_mask_of:A28 P w K mg base) (g_kept_by:A46 P w K mg base) (F:Fun K "mask_deeds" "mask_deeds" za4 a fd):FnOk P w K mg base CX0 3 a fd ["leading"] zll:=by
 refine F.ok zea (λ vs H Q E h=>?_) (λ cdv A outer s H vs Q E hr h=>?_)
 ·obtain ⟨a,ls,w,rfl,_⟩:=h;rfl
 ·have nd := zea.nd;have hu := hr.units;obtain ⟨a, ls, w, rfl, ha, hL, hw1, hw2, k⟩ := h;have hle : ls.length <= 64 := by rw [hL.1]; exact hw2
  refine ⟨_,((6:) (@zb7 _ _ _ _ _ _ (zag za4) _ ["leading","stay","ones","filled"] ["place","entry"] [none,none] _ _ _ _ 1 _ _ _ nd rfl (17:) rfl (71:) (λ _ _ _ _=>(73:)) (λ _ _ _ _=>(@zb3 _ _ _ ((19:) (25:) (16:) (7:) (18:)))) (λ _ _ _ _=>(7:)) (20:) (0:) (0:) (24:) (0:) (15:)) ((6:) (@zb7 _ _ _ _ _ _ (zag za4) _ ["leading","stay","ones","filled"] ["place","entry"] [none,none] _ _ _ _ 2 _ _ _ nd rfl (17:) rfl (71:) (λ _ _ _ _=>(73:)) (λ _ _ _ _=>(@zb3 _ _ _ ((19:) (25:) (16:) (@zdb _ _ _ _ B.g_ONE (0:) (3:)) (18:)))) (λ _ _ _ _=>(7:)) (20:) (0:) (0:) (24:) (0:) (15:)) ((6:) (@zb7 _ _ _ _ _ _ (zag za4) _ ["leading","stay","ones","filled"] ["place","entry"] [none,none] _ _ _ _ 3 _ _ _ nd rfl (17:) rfl (71:) (λ _ _ _ _=>(73:)) (λ _ _ _ _=>(@zb3 _ _ _ ((19:) (@zlT _) (16:) (9:) (18:)))) (λ _ _ _ _=>(7:)) (20:) (0:) (0:) (24:) (0:) (15:)) ((8:) ((13:) ((38:) ((2:) ((28:) ((26:) ((2:) ((10:) g_mask_of (11:) ((2:) (16:) (4:) (0:)) (0:) (3:) (0:) (0:)) (4:) (0:)))) ((2:) ((28:) ((26:) ((2:) ((10:) g_mask_of (11:) ((2:) (12:) (4:) (0:)) (0:) (3:) (0:) (0:)) (4:) (0:)))) ((2:) ((28:) ((26:) ((2:) ((10:) g_kept_by (11:) ((2:) (7:) (4:) (0:)) (0:) (3:) (0:) (0:)) (4:) (0:)))) ((2:) ((28:) ((26:) ((2:) ((10:) g_mask_of (11:) ((2:) (21:) (4:) (0:)) (0:) (3:) (0:) (0:)) (4:) (0:)))) (4:) (0:)) (0:)) (0:)) (0:)))))))),?_⟩;symm;refine ⟨a,_,rfl,.inr ⟨SqT.of ha,?_⟩⟩;refine zc5 (xs:=ls.map V.int) (λ i acc H'=>Same H H' /\ i <= 64 /\ acc=((List.range i).filter λ j=>decide (ls.getD j 0=(j:Int))).map nV) ⟨Same.refl _,by omega,rfl⟩ (λ i acc H' h=>?_) (λ i acc H' h=>SqT.of (h.1 _ _ ha)) ?_ ?_
  ·obtain ⟨_,hi,rfl⟩:=h;have:=yaU (λ j:Nat=>decide (ls.getD j 0=(j:Int))) (List.range i);rw [yaK] at this;rw [yaa];exact yaE (small5 (1:))
  ·rintro i u T acc Hq hu hT ⟨sq, hiq, rfl⟩;obtain ⟨e, he, rfl⟩ := zaI hu;have hil : i < ls.length := (yaj.mp he).1;have hg : ls.getD i 0 = e := by rw [yac, he]; rfl
   have sr:=sq.trans (zal (o:=.tup [V.int (i:Int),V.int e]) hT);have nT:upd Hq T (.tup [V.int (i:Int),V.int e]) T=some (.tup [V.int (i:Int),V.int e]):=zah;generalize upd Hq T (.tup [V.int (i:Int),V.int e])=Hr at sr nT ⊢;symm;by_cases hc:e=(i:Int)
   ·refine zbc (beq_iff_eq.mpr hc) ?_;symm;refine ⟨sr,by omega,?_⟩;rw [yaQ,yaz,ya7 (80:),yal];rfl
   ·refine za6 (beq_eq_false_iff_ne.mpr hc) ?_;symm;refine ⟨sr,by omega,?_⟩;rw [yaQ,yaz,ya8 (74:)];simp
  rintro acc Hs1 ⟨ss1,_,rfl⟩ l1 hl1;rw [yaa];rw [show (List.range ls.length).filter (λ j:Nat=>decide (ls.getD j 0=(j:Int)))=zeE ls from rfl];have s1:=ss1.trans (zal (o:=.lst ((zeE ls).map nV)) hl1);have n1:upd Hs1 l1 (.lst ((zeE ls).map nV)) l1=some (.lst ((zeE ls).map nV)):=zah;generalize upd Hs1 l1 (.lst ((zeE ls).map nV))=H1 at s1 n1 ⊢;have a1:=s1 _ _ ha;symm;refine ⟨a,_,rfl,.inr ⟨SqT.of a1,?_⟩⟩;refine zc5 (xs:=ls.map V.int) (λ i acc H'=>Same H1 H' /\ i <= 64 /\ acc=((List.range i).filter λ j=>decide (ls.getD j 0=-2)).map nV) ⟨Same.refl _,by omega,rfl⟩ (λ i acc H' h=>?_) (λ i acc H' h=>SqT.of (h.1 _ _ a1)) ?_ ?_
  ·obtain ⟨_,hi,rfl⟩:=h;have:=yaU (λ j:Nat=>decide (ls.getD j 0=-2)) (List.range i);rw [yaK] at this;rw [yaa];exact yaE (small5 (1:))
  ·rintro i u T acc Hq hu hT ⟨sq, hiq, rfl⟩;obtain ⟨e, he, rfl⟩ := zaI hu;have hil : i < ls.length := (yaj.mp he).1;have hg : ls.getD i 0 = e := by rw [yac, he]; rfl
   have sr:=sq.trans (zal (o:=.tup [V.int (i:Int),V.int e]) hT);have nT:upd Hq T (.tup [V.int (i:Int),V.int e]) T=some (.tup [V.int (i:Int),V.int e]):=zah;generalize upd Hq T (.tup [V.int (i:Int),V.int e])=Hr at sr nT ⊢;symm;by_cases hc:e=-2
   ·refine zbc (by rw [hc]; rfl) ?_;symm;refine ⟨sr,by omega,?_⟩;rw [yaQ,yaz,ya7 (80:),yal];rfl
   ·refine za6 (beq_eq_false_iff_ne.mpr hc) ?_;symm;refine ⟨sr,by omega,?_⟩;rw [yaQ,yaz,ya8 (74:)];simp
  rintro acc Hs2 ⟨ss2,_,rfl⟩ l2 hl2;rw [yaa];rw [show (List.range ls.length).filter (λ j:Nat=>decide (ls.getD j 0=-2))=zeA ls from rfl];have s2:=ss2.trans (zal (o:=.lst ((zeA ls).map nV)) hl2);have n2:upd Hs2 l2 (.lst ((zeA ls).map nV)) l2=some (.lst ((zeA ls).map nV)):=zah;generalize upd Hs2 l2 (.lst ((zeA ls).map nV))=H2 at s2 n2 ⊢;have a2:=s2 _ _ a1;symm;refine ⟨a,_,rfl,.inr ⟨SqT.of a2,?_⟩⟩;refine zc5 (xs:=ls.map V.int) (λ i acc H'=>Same H2 H' /\ i <= 64 /\ acc=((List.range i).filter λ j=>decide (0 <= ls.getD j 0)).map nV) ⟨Same.refl _,by omega,rfl⟩ (λ i acc H' h=>?_) (λ i acc H' h=>SqT.of (h.1 _ _ a2)) ?_ ?_
  ·obtain ⟨_,hi,rfl⟩:=h;have:=yaU (λ j:Nat=>decide (0 <= ls.getD j 0)) (List.range i);rw [yaK] at this;rw [yaa];exact yaE (small5 (1:))
  ·rintro i u T acc Hq hu hT ⟨sq, hiq, rfl⟩;obtain ⟨e, he, rfl⟩ := zaI hu;have hil : i < ls.length := (yaj.mp he).1;have hg : ls.getD i 0 = e := by rw [yac, he]; rfl
   have sr:=sq.trans (zal (o:=.tup [V.int (i:Int),V.int e]) hT);have nT:upd Hq T (.tup [V.int (i:Int),V.int e]) T=some (.tup [V.int (i:Int),V.int e]):=zah;generalize upd Hq T (.tup [V.int (i:Int),V.int e])=Hr at sr nT ⊢;symm;by_cases hc:0 <= e
   ·refine zbc (decide_eq_true hc) ?_;symm;refine ⟨sr,by omega,?_⟩;rw [yaQ,yaz,ya7 (80:),yal];rfl
   ·refine za6 (decide_eq_false hc) ?_;symm;refine ⟨sr,by omega,?_⟩;rw [yaQ,yaz,ya8 (74:)];simp
  rintro acc Hs3 ⟨ss3,_,rfl⟩ l3 hl3;rw [yaa];rw [show (List.range ls.length).filter (λ j:Nat=>decide (0 <= ls.getD j 0))=za9 ls from rfl];have s3:=ss3.trans (zal (o:=.lst ((za9 ls).map nV)) hl3);have n3:upd Hs3 l3 (.lst ((za9 ls).map nV)) l3=some (.lst ((za9 ls).map nV)):=zah;generalize upd Hs3 l3 (.lst ((za9 ls).map nV))=H3 at s3 n3 ⊢;have a3:=s3 _ _ a2;have n1:=s3 _ _ (s2 _ _ n1);have n2:=s3 _ _ n2;have s03:=s1.trans (s2.trans s3);symm;refine ⟨l1,zeE ls,rfl,.inl (SqL.of n1),λ x hx=>by have:=zdB hL.1 x hx; omega,?_⟩;symm;refine zaq (5:) λ t4 H4 f4 s4 n4=>?_;symm;refine ⟨l2,zeA ls,rfl,.inl (SqL.of (s4 _ _ n2)),λ x hx=>by have:=zdB hL.1 x hx; omega,?_⟩;symm;refine zaq (5:) λ t5 H5 f5 s5 n5=>?_;symm;refine ⟨a,ls,w,rfl,s5 _ _ (s4 _ _ a3),hL,hw2,λ H6 s6=>?_⟩;symm;refine zaq (5:) λ t7 H7 f7 s7 n7=>?_;have s37:=s4.trans (s5.trans (s6.trans s7));symm;refine ⟨l3,za9 ls,rfl,.inl (SqL.of (s37 _ _ n3)),λ x hx=>by have:=zdB hL.1 x hx; omega,?_⟩;symm;refine zaq (5:) λ t8 H8 f8 s8 n8=>?_;have s38:=s37.trans s8;symm;refine zbe (5:) λ t9 H9 f9 s9 n9=>?_;exact k t9 t4 t5 t7 t8 H9 ((s03.trans s38).free f9) (s03.trans (s38.trans s9)) n9 ((s5.trans (s6.trans (s7.trans (s8.trans s9)))) _ _ n4) ((s6.trans (s7.trans (s8.trans s9))) _ _ n5) ((s8.trans s9) _ _ n7) (s9 _ _ n8)
def zd5:FnScope ["leading","changed","by","swap_mask","copy_mask"] ["leading"] (zag za3):=⟨rfl,rfl,rfl,by decide +kernel,rfl,by decide +kernel,by decide +kernel⟩
def zg3 {a:Addr} {fd:FuncData} (B:Blt K mg) (g_mask_of:A28 P w K mg base) (F:Fun K "pair_deeds" "pair_deeds" za3 a fd):FnOk P w K mg base CX0 2 a fd ["leading"] zk4:=by
 refine F.ok zd5 (λ vs H Q E h=>?_) (λ cdv A outer s H vs Q E hr h=>?_)
 ·obtain ⟨a,ls,w,rfl,_⟩:=h;rfl
 ·have nd := zd5.nd;have hu := hr.units;obtain ⟨a, ls, w, rfl, ha, hL, hw1, hw2, k⟩ := h;have hle : ls.length <= 64 := by rw [hL.1]; exact hw2
  refine ⟨_,((6:) (@zb7 _ _ _ _ _ _ (zag za3) _ ["leading","changed","by","swap_mask","copy_mask"] ["place","entry"] [none,none] _ _ _ _ 1 _ _ _ nd rfl (17:) rfl (71:) (λ _ _ _ _=>(73:)) (λ _ _ _ _=>(@zb3 _ _ _ (@PW.pt _ _ _ ((55:) ((19:) (@zlT _) (16:) (9:) (18:)) (@zcz _ _ _ _ ((19:) (52:) (16:) (7:) (18:))))))) (λ _ _ _ _=>(7:)) (20:) (0:) (0:) (24:) (0:) (15:)) ((6:) ((22:) ((19:) (25:) ((29:) (39:) rfl B.b_len boot_len ((2:) (16:) (4:) (0:)) (3:) (3:) (0:) (0:)) (9:) (18:)) ((8:) ((13:) ((38:) (4:)))) (23:)) ((6:) (@zat _ _ 2 _ _ _ _ nd rfl (17:) ((14:) (36:) ((47:) (49:) (7:) (27:) (48:)) (27:)) (0:) (15:)) ((6:) (@zat _ _ 3 _ _ _ _ nd rfl (17:) ((10:) g_mask_of (11:) ((2:) (@zaZ _ _ _ _ _ _ (zag za3) _ ["leading","changed","by","swap_mask","copy_mask"] ["place","leading"] [none,some 0] _ _ _ _ rfl (57:) (λ _ _ _ _=>(86:)) (λ _ _ _ _=>(@zb3 _ _ _ ((19:) (@zit _) ((47:) (49:) (16:) (7:) (48:)) (7:) (18:)))) (λ _ _ _ _=>(7:)) (20:) (0:) (0:) (24:)) (4:) (0:)) (0:) (3:) (0:) (0:)) (0:) (15:)) ((6:) (@zat _ _ 4 _ _ _ _ nd rfl (17:) ((10:) g_mask_of (11:) ((2:) (@zaZ _ _ _ _ _ _ (zag za3) _ ["leading","changed","by","swap_mask","copy_mask"] ["place","leading"] [none,some 0] _ _ _ _ rfl (57:) (λ _ _ _ _=>(86:)) (λ _ _ _ _=>(@zbC _)) (λ _ _ _ _=>((47:) (49:) (16:) (7:) (48:))) (20:) (0:) (0:) (24:)) (4:) (0:)) (0:) (3:) (0:) (0:)) (0:) (15:)) ((8:) ((13:) ((38:) ((2:) ((28:) ((26:) ((2:) (21:) ((2:) (12:) (4:) (0:)) (0:)))) ((2:) ((28:) ((26:) ((2:) (33:) ((2:) (@zmY _ _ _ _ _ _ (@zjg _) (12:)) (4:) (0:)) (0:)))) (4:) (0:)) (0:)))))))))),?_⟩;symm;refine ⟨a,_,rfl,.inr ⟨SqT.of ha,?_⟩⟩;refine zc5 (xs:=ls.map V.int) (λ i acc H'=>Same H H' /\ i <= 64 /\ acc=((List.range i).filter λ j=>decide (0 <= ls.getD j 0 /\ ls.getD j 0 ≠ (j:Int))).map nV) ⟨Same.refl _,by omega,rfl⟩ (λ i acc H' h=>?_) (λ i acc H' h=>SqT.of (h.1 _ _ ha)) ?_ ?_
  ·obtain ⟨_,hi,rfl⟩:=h;have:=yaU (λ j:Nat=>decide (0 <= ls.getD j 0 /\ ls.getD j 0 ≠ (j:Int))) (List.range i);rw [yaK] at this;rw [yaa];exact yaE (small5 (1:))
  ·rintro i u T acc Hq hu hT ⟨sq, hiq, rfl⟩;obtain ⟨e, he, rfl⟩ := zaI hu;have hil : i < ls.length := (yaj.mp he).1;have hg : ls.getD i 0 = e := by rw [yac, he]; rfl
   have sr:=sq.trans (zal (o:=.tup [V.int (i:Int),V.int e]) hT);have nT:upd Hq T (.tup [V.int (i:Int),V.int e]) T=some (.tup [V.int (i:Int),V.int e]):=zah;generalize upd Hq T (.tup [V.int (i:Int),V.int e])=Hr at sr nT ⊢;symm
   have neg:¬ (0 <= e /\ e ≠ (i:Int)) -> ((List.range i).filter λ j:Nat=>decide (0 <= ls.getD j 0 /\ ls.getD j 0 ≠ (j:Int))).map nV=((List.range (i + 1)).filter λ j:Nat=>decide (0 <= ls.getD j 0 /\ ls.getD j 0 ≠ (j:Int))).map nV:=λ hc=>by
    rw [yaQ,yaz,ya8 (74:)];simp
   by_cases h0:0 <= e
   ·refine zbc (decide_eq_true h0) ?_;symm;by_cases h1 : e = (i : Int)
    ·refine za6 (by rw [h1]; simp) ?_;symm;exact ⟨sr,by omega,neg λ z=>z.2 h1⟩
    ·refine zbc (by simp [h1]) ?_;symm;refine ⟨sr,by omega,?_⟩;rw [yaQ,yaz,ya7 (by rw [hg]; exact decide_eq_true ⟨h0,h1⟩),yal];rfl
   ·refine za6 (decide_eq_false h0) ?_;symm;exact ⟨sr,by omega,neg λ z=>h0 z.1⟩
  rintro acc Hs1 ⟨ss1,_,rfl⟩ l1 hl1;rw [yaa];rw [show (List.range ls.length).filter (λ j:Nat=>decide (0 <= ls.getD j 0 /\ ls.getD j 0 ≠ (j:Int)))=zbv ls from rfl];have s1:=ss1.trans (zal (o:=.lst ((zbv ls).map nV)) hl1);have n1:upd Hs1 l1 (.lst ((zbv ls).map nV)) l1=some (.lst ((zbv ls).map nV)):=zah;generalize upd Hs1 l1 (.lst ((zbv ls).map nV))=H1 at s1 n1 ⊢;have a1:=s1 _ _ ha
  have hc1:∀ x ∈ zbv ls,x < w /\ 0 <= ls.getD x 0 /\ ls.getD x 0 < (w:Int):=λ x hx=>by
   have h1:=zdB hL.1 x hx;have h2:=decide_eq_true_iff.mp (yaB.mp hx).2;have h3:=(hL.2 (ls.getD x 0) (getD_mem' (by rw [hL.1]; exact h1))).2;exact ⟨h1,h2.1,by omega⟩
  have hcl:(zbv ls).length <= 64:=by
   have:=yaU (λ j:Nat=>decide (0 <= ls.getD j 0 /\ ls.getD j 0 ≠ (j:Int))) (List.range ls.length);rw [yaK] at this;exact ya5 this hle
  generalize hcs:zbv ls=cs at n1 hc1 hcl ⊢;symm;refine zaY (λ h0=>?_) (λ h0=>?_)
  ·symm;refine zbe (5:) fun l2 H2 f2 s2 n2 => ?_
   have e0:zbv ls=[]:=by
    rw [hcs];exact ybp.mp (by simpa using h0)
   exact k l2 [] H2 (s1.free f2) (s1.trans s2) (5:) n2 (by unfold zoB; rw [if_pos e0]; exact .nil)
  symm
  have ix:∀ x,x < w -> (ls.map V.int)[((x:Nat):Int).toNat]?=some (.int (ls.getD x 0)):=λ x hx=>by
   have hx':x < ls.length:=by rw [hL.1]; exact hx
   rw [yaw,yan,yab hx',yac,yab hx'];rfl
  cases cs with
  | nil=>exact absurd rfl h0
  | cons c0 cs0=>
   have hc0:=hc1 c0 (.head _);refine zhK (v:=nV c0) (SqL.of n1) (1:) rfl ?_;refine zgo (v:=.int (ls.getD c0 0)) (SqT.of a1) (ybc c0) (ix c0 hc0.1) ?_;symm;refine zbF (SqL.of n1) ?_;refine zbL (xs:=(c0 :: cs0).map nV) (λ i acc H'=>H'=H1 /\ acc=(((c0 :: cs0).take i).filter λ j:Nat=>decide (ls.getD j 0 > (j:Int))).map nV) ⟨rfl,rfl⟩ (λ i acc H' h=>?_) (λ i acc H' h=>by rw [h.1]; exact SqL.of n1) ?_ ?_
   ·obtain ⟨_,rfl⟩:=h;have h1:=yaU (λ j:Nat=>decide (ls.getD j 0 > (j:Int))) ((c0 :: cs0).take i);have h2:=List.length_take_le' i (c0 :: cs0);rw [yaa];exact yaE (small5 (1:))
   ·rintro i x acc H' hx ⟨rfl, rfl⟩;obtain ⟨y, hy, rfl⟩ := zaI hx;have hc := hc1 y (yar hy);symm;refine zgo (v := .int (ls.getD y 0)) (SqT.of a1) (ybc y) (ix y hc.1) ?_;symm;refine zcH (fun h0 => ?_) (fun h0 => ?_)
    ·symm;refine ⟨rfl,?_⟩;rw [yaG,hy,yaz,yal];congr 1;show [nV y]=List.map nV (List.filter _ [y]);rw [ya7 (by exact decide_eq_true (1:))];rfl
    ·refine ⟨rfl,?_⟩;rw [yaG,hy,yaz,yal];show _=_ ++ List.map nV (List.filter _ [y]);rw [ya8 (by rw [decide_eq_true_iff]; omega)];simp
   rintro acc Hx ⟨rfl,rfl⟩ p hp;rw [yaa,yaq (yag _)];generalize hM:(c0 :: cs0).filter (λ j:Nat=>decide (ls.getD j 0 > (j:Int)))=M
   have hM1:∀ x ∈ M,x < 64:=λ x hx=>by
    rw [<- hM] at hx;have:=(hc1 x (yaB.mp hx).1).1;omega
   have s2:=zal (o:=.lst (M.map nV)) hp;have n2:upd Hx p (.lst (M.map nV)) p=some (.lst (M.map nV)):=zah;generalize upd Hx p (.lst (M.map nV))=H2 at s2 n2 ⊢;symm;refine ⟨p,M,rfl,.inl (SqL.of n2),hM1,?_⟩;have n21:=s2 _ _ n1;symm;refine zbF (SqL.of n21) ?_;refine zbL (xs:=(c0 :: cs0).map nV) (λ i acc H'=>H'=H2 /\ acc=(((c0 :: cs0).take i).map λ j:Nat=>(ls.getD j 0).toNat).map nV) ⟨rfl,rfl⟩ (λ i acc H' h=>?_) (λ i acc H' h=>by rw [h.1]; exact SqL.of n21) ?_ ?_
   ·obtain ⟨_,rfl⟩:=h;have h2:=List.length_take_le' i (c0 :: cs0);rw [yaa,yaa];exact yaE (small5 (1:))
   ·rintro i x acc H' hx ⟨rfl,rfl⟩;obtain ⟨y,hy,rfl⟩:=zaI hx;have hc:=hc1 y (yar hy);symm;refine zgo (v:=.int (ls.getD y 0)) (SqT.of (s2 _ _ a1)) (ybc y) (ix y hc.1) ?_;refine ⟨rfl,?_⟩;rw [yaG,hy,yal,yal,show ls.getD y 0=(((ls.getD y 0).toNat:Nat):Int) by omega];simp
   rintro acc Hy ⟨rfl,rfl⟩ p3 hp3;rw [yaa,yaq (yag _)];generalize hN:(c0 :: cs0).map (λ j:Nat=>(ls.getD j 0).toNat)=N
   have hN1:∀ x ∈ N,x < 64:=λ x hx=>by
    rw [<- hN] at hx;obtain ⟨j,hj,rfl⟩:=yaf.mp hx;have:=hc1 j hj;omega
   have s3:=zal (o:=.lst (N.map nV)) hp3;have n3:upd Hy p3 (.lst (N.map nV)) p3=some (.lst (N.map nV)):=zah;generalize upd Hy p3 (.lst (N.map nV))=H3 at s3 n3 ⊢;symm;refine ⟨p3,N,rfl,.inl (SqL.of n3),hN1,?_⟩;symm;refine zaq (5:) λ t4 H4 f4 s4 n4=>?_;symm;refine zaq (5:) λ t5 H5 f5 s5 n5=>?_;symm;refine zbe (5:) λ t6 H6 f6 s6 n6=>?_;have s05:=s1.trans (s2.trans (s3.trans (s4.trans s5)));have eb:byQ ls=ls.getD c0 0 - ((c0:Nat):Int):=by unfold byQ; rw [hcs]; rfl
   have em:swM ls=zaP M:=by unfold swM; rw [hcs,hM]
   have en:cpM ls=zaP N:=by unfold cpM; rw [hcs,hN]
   refine k t6 [t4,t5] H6 (s05.free f6) (s05.trans s6) (5:) n6 ?_;unfold zoB;rw [if_neg (by rw [hcs]; nofun)];have m4:=s6 _ _ (s5 _ _ n4);have m5:=s6 _ _ n5;refine .cons ?_ (.cons ?_ .nil)
   ·by_cases hb : 0 <= byQ ls
    ·rw [if_pos hb];show H6 t4=some (.tup [.str "swap",nV (swM ls),nV (byQ ls).toNat]);rw [m4,em,show nV (byQ ls).toNat=V.int (byQ ls) by unfold nV; rw [ybk hb],eb]
    ·rw [if_neg hb];exact ⟨_,_,by rw [<- eb]; omega,m4⟩
   ·show H6 t5=some (.tup [.str "copy",nV (cpM ls),.int (-(byQ ls))]);rw [m5,en,eb]
def zcM:FnScope ["leading","turn"] ["leading"] (zag zbW):=⟨rfl,rfl,rfl,by decide +kernel,rfl,by decide +kernel,by decide +kernel⟩
def zfm {a:Addr} {fd:FuncData} (B:Blt K mg) (g_mask_deeds:A47 P w K mg base) (g_pair_deeds:A48 P w K mg base) (F:Fun K "likely_deeds" "likely_deeds" zbW a fd):FnOk P w K mg base CX0 4 a fd ["leading"] zhU:=by
 refine F.ok zcM (λ vs H Q E h=>?_) (λ cdv A outer s H vs Q E hr h=>?_)
 ·obtain ⟨a,ls,w,rfl,_⟩:=h;rfl
 ·have nd := zcM.nd;have hu := hr.units;obtain ⟨a, ls, w, rfl, ha, hL, hw1, hw2, k⟩ := h;have hle : ls.length <= 64 := by rw [hL.1]; exact hw2
  refine ⟨_,((6:) (@zat _ _ 1 _ _ _ _ nd rfl (17:) ((28:) ((26:) ((2:) ((14:) (@zdu _) (@zmY _ _ _ _ _ _ (@zjg _) (40:)) ((29:) (39:) rfl B.b_len boot_len ((2:) (7:) (4:) (0:)) (3:) (3:) (0:) (0:))) (4:) (0:)))) (0:) (15:)) ((8:) ((13:) ((14:) (31:) ((14:) (31:) ((10:) g_mask_deeds (11:) ((2:) (7:) (4:) (0:)) (0:) (3:) (0:) (0:)) ((38:) ((2:) (16:) (4:) (0:)))) ((10:) g_pair_deeds (11:) ((2:) (7:) (4:) (0:)) (0:) (3:) (0:) (0:)))))),?_⟩;symm;have h0:0 < ls.length:=by rw [hL.1]; exact hw1
  refine zgo (v:=.int (ls.getD 0 0)) (SqT.of ha) (1:) (by rw [yan,show (0:Int).toNat=0 from rfl,yab h0,yac,yab h0]; rfl) ?_;symm;rw [yaa];symm;refine zaq (5:) λ t1 H1 f1 s1 n1=>?_;symm;refine ⟨a,ls,w,rfl,s1 _ _ ha,hL,hw1,hw2,λ l u1 u2 u3 u4 H2 f2 s2 n2 m1 m2 m3 m4=>?_⟩;symm;refine zbe (5:) λ t3 H3 f3 s3 n3=>?_;symm;refine zjy (s3 _ _ n2) n3 (5:) λ t4 H4 f4 s4 n4=>?_;have s14:=s1.trans (s2.trans (s3.trans s4));have s24:=s3.trans s4;symm;refine ⟨a,ls,w,rfl,s14 _ _ ha,hL,hw1,hw2,λ l5 ts H5 f5 s5 z5 n5 c5=>?_⟩;symm;refine zjy (s5 _ _ n4) n5 (34:) λ t6 H6 f6 s6 n6=>?_;have s26:=s24.trans (s5.trans s6)
  have m0:H1 t1=some (.tup (Dd.turn (-(ls.getD 0 0) % (w:Int)).toNat).vals):=by
   rw [n1];have:0 <= -(ls.getD 0 0) % (w:Int):=ycj _ (1:);show _=some (HO.tup [.str "turn",nV (-(ls.getD 0 0) % (w:Int)).toNat]);unfold nV;rw [ybk this,hL.1]
  have s16:=s2.trans s26;have e:H6 t6=some (.lst (([u1,u2,u3,u4,t1] ++ ts).map V.ref)):=by rw [n6]; rfl
  refine k t6 ([u1,u2,u3,u4,t1] ++ ts) H6 ((s14.trans s5).free f6) (s14.trans (s5.trans s6)) (34:) e ?_;exact Cds.app (.cons (s26 _ _ m1) (.cons (s26 _ _ m2) (.cons (s26 _ _ m3) (.cons (s26 _ _ m4) (.cons (s16 _ _ m0) .nil))))) (Cds.same s6 c5)
def zfj:FnScope ["leading","width","deed"] ["leading"] (zag zeD):=⟨rfl,rfl,rfl,by decide +kernel,rfl,by decide +kernel,by decide +kernel⟩
def zi5 {a:Addr} {fd:FuncData} (B:Blt K mg) (g_is_deed:A24 P w K mg base) (g_deed_leading:A10 P w K mg base) (g_likely_deeds:A49 P w K mg base) (F:Fun K "one_deed" "one_deed" zeD a fd):FnOk P w K mg base CX0 7 a fd ["leading"] znU:=by
 refine F.ok zfj (λ vs H Q E h=>?_) (λ cdv A outer s H vs Q E hr h=>?_)
 ·obtain ⟨a,ls,w,rfl,_⟩:=h;rfl
 ·have nd := zfj.nd;have hu := hr.units;obtain ⟨a, ls, w, rfl, ha, hL, hw1, hw2, k⟩ := h;have hle : ls.length <= 64 := by rw [hL.1]; exact hw2
  refine ⟨_,((6:) (83:) ((6:) ((37:) yaJ rfl (@zaF _ K _ _ _ ((10:) g_likely_deeds (11:) ((2:) (7:) (4:) (0:)) (0:) (3:) (0:) (0:)) (0:)) (@zas _ _ 2 _ nd rfl (17:) (15:)) ((8:) ((22:) (@PW.pt _ _ _ ((55:) (@zdw _ _ _ ((10:) g_is_deed (11:) ((2:) (16:) ((2:) (12:) (4:) (0:)) (0:)) (0:) (3:) (0:) (0:)) (24:)) (@zcz _ _ _ _ ((19:) (25:) ((10:) g_deed_leading (11:) ((2:) (16:) ((2:) (12:) (4:) (0:)) (0:)) (0:) (3:) (0:) (0:)) (7:) (18:))))) ((8:) ((13:) (12:))) (23:))) (24:)) ((8:) ((13:) (43:))))),?_⟩;symm;refine ⟨a,ls,w,rfl,ha,hL,hw1,hw2,λ l ts H1 f1 s1 z1 n1 c1=>?_⟩;have a1:=s1 _ _ ha;symm;refine zdc (xs:=ts.map V.ref) (λ j σ H'=>Same H1 H' /\ trD w ls=((zfY w ls).drop j).findSome? (trF w ls) /\ ∃ v2,σ=[some (.ref a),some (nV w),v2]) ⟨Same.refl _,rfl,none,by rw [yaa,hL.1]; rfl⟩ (λ j σ H' h=>SqL.of (h.1 _ _ n1)) ?_ ?_
  ·rintro j x σ H2 hx ⟨s2, e2, v2, rfl⟩;obtain ⟨t, ht, rfl⟩ := zaI hx;obtain ⟨c, ec, hc⟩ := Cds.drop c1 ht;rw [ec, List.findSome?_cons] at e2;symm;obtain ⟨b, hdi, hb⟩ := CdAt.deedIs (w := w) hw1 (CdAt.same hc s2);refine ⟨w, .ref t, b, rfl, hdi, hw1, hw2, fun H3 s3 => ?_⟩;cases b with
   | false=>
    symm
    have e3:trF w ls c=none:=by
     cases c with
     | none=>rfl
     | some d=>exact zlb λ z=>Bool.noConfusion (hb.mpr ⟨d,rfl,z.1⟩)
    rw [e3] at e2;exact ⟨s2.trans s3,e2,_,rfl⟩
   | true=>
    obtain ⟨d,rfl,od⟩:=hb.mp rfl;have s23:=s2.trans s3;have mt:H1 t=some (.tup d.vals):=hc;symm;refine ⟨w,t,d,rfl,s23 _ _ mt,od,hw2,λ t4 H4 s4 n4=>?_⟩;have s24:=s23.trans s4;symm;refine zml (SqT.of n4) (SqT.of (s24 _ _ a1)) ?_;refine ⟨_,rfl,?_⟩;by_cases he:d.led w=ls
    ·rw [decide_eq_true he];symm;rw [zjk od he] at e2;exact k (.ref t) H4 (s1.trans s24) (by rw [e2]; exact ⟨t,rfl,s24 _ _ mt⟩)
    ·rw [decide_eq_false he];symm;rw [zlb λ z=>he z.2] at e2;exact ⟨s24,e2,_,rfl⟩
  ·rintro σ H2 ⟨s2, e2, v2, rfl⟩;symm
   have e3:trD w ls=none:=by
    rw [e2,yaa,show ts.length=(zfY w ls).length from ybi c1,List.drop_length];rfl
   exact k .non H2 (s1.trans s2) (by rw [e3]; rfl)
def zb5:FnScope ["_law_leading","_law_width","_law_menu","_law_told"] ["_law_leading"] (zag zbq):=⟨rfl,rfl,rfl,by decide +kernel,rfl,by decide +kernel,by decide +kernel⟩
def zeG {a:Addr} {fd:FuncData} (B:Blt K mg) (g_fewest:A45 P w K mg base) (g_one_deed:A50 P w K mg base) (g_row_leading:A17 P w K mg base) (g_all_deeds:A26 P w K mg base) (g_shortened:A35 P w K mg base) (F:Fun K "_law_all_right" "_law_all_right" zbq a fd):FnOk P w K mg base CX0 12 a fd ["_law_leading"] zgk:=by
 refine F.ok zb5 (λ vs H Q E h=>?_) (λ cdv A outer s H vs Q E hr h=>?_)
 ·obtain ⟨l,w,ls,rfl,_⟩:=h;rfl
 ·have nd := zb5.nd;have hu := hr.units;obtain ⟨l, wd, ls, rfl, hl, hL, hw1, hw3, k⟩ := h;have ell : (ls.map V.int).length = wd := by rw [yaa, hL.1]
  refine ⟨_,((6:) (83:) ((6:) (@zat _ _ 2 _ _ _ _ nd rfl (17:) ((10:) g_all_deeds (11:) ((2:) (16:) (4:) (0:)) (0:) (3:) (0:) (0:)) (0:) (15:)) ((6:) (@zat _ _ 3 _ _ _ _ nd rfl (17:) ((10:) g_fewest (11:) ((2:) (7:) ((2:) (12:) (4:) (0:)) (0:)) (0:) (3:) (0:) (0:)) (0:) (15:)) ((6:) ((22:) (@PW.pt _ _ _ ((59:) ((19:) (@znQ _) (21:) (43:) (18:)) ((59:) ((19:) (52:) ((10:) g_row_leading (11:) ((2:) (16:) ((2:) (21:) (4:) (0:)) (0:)) (0:) (3:) (0:) (0:)) (7:) (18:)) (@zff _ _ _ _ ((19:) (52:) ((29:) (39:) rfl B.b_len boot_len ((2:) ((10:) g_shortened (11:) ((2:) (16:) ((2:) (21:) (4:) (0:)) (0:)) (0:) (3:) (0:) (0:)) (4:) (0:)) (3:) (3:) (0:) (0:)) ((29:) (39:) rfl B.b_len boot_len ((2:) (21:) (4:) (0:)) (3:) (3:) (0:) (0:)) (18:)))))) ((8:) ((13:) (50:))) (23:)) ((6:) ((22:) ((19:) (52:) ((54:) (25:) (21:) ((38:) (4:)) (18:)) ((54:) (25:) (7:) (@zbj _ K _ _ _ _ _ _ rfl B.b_tuple B.b_range ((2:) (16:) (4:) (0:)) (0:) (0:) (0:) (0:) (0:)) (18:)) (18:)) ((8:) ((13:) (50:))) (23:)) ((8:) ((13:) ((54:) (25:) ((54:) (@zlP _) ((29:) (39:) rfl B.b_len boot_len ((2:) (21:) (4:) (0:)) (3:) (3:) (0:) (0:)) (9:) (18:)) ((54:) (@zk5 _) ((10:) g_one_deed (11:) ((2:) (7:) (4:) (0:)) (0:) (3:) (0:) (0:)) (43:) (18:)) (18:))))))))),?_⟩;symm;rw [ell];refine ⟨wd,rfl,hw1,by omega,λ m L H1 fm G eL zL=>?_⟩;rw [zle wd hw1 (1:)] at eL;have hR:=zl4 hw1 hw3 G.2.2 eL;have m1:H1 m=some (.lst (rowV (asDd L))):=by rw [zjr]; exact G.2.1
  have l1:=G.1 _ _ hl;symm;refine ⟨wd,m,l,asDd L,ls,rfl,.inl (SqL.of m1),hR.1,hw1,hw3,by omega,l1,hL,λ H2 s2 no=>?_,λ H2 p R n s2 fp dn np hRL hRn hrow=>?_⟩
  ·obtain ⟨n,dn⟩:=zlc hw1 hw3 eL hL;exact absurd dn (no n)
  have hRR:Rw H2 wd R:=λ e he=>(hR.1.same s2) e (hRL e he)
  have okR:∀ d ∈ dds R,d.ok wd:=λ d hd=>by
   obtain ⟨e,he,rfl⟩:=yaf.mp hd;exact (hRR e he).2
  have zR:R.length <= 1296:=by rw [hRn]; exact yaE (yak (dn.few (zcu hR.1)) (zdN (1:)))
  symm;rw [if_neg (show ¬ decide (V.ref p=V.non)=true by simp)];symm;refine ⟨wd,p,R,rfl,.inl (SqL.of np),hRR,by omega,λ t3 H3 s3 n3=>?_⟩;rw [hrow] at n3;have l3:=s3 _ _ (s2 _ _ l1);symm;refine zqJ (SqT.of n3) (SqT.of l3) ?_;rw [decide_eq_true rfl];symm;refine ⟨wd,p,R,rfl,.inl (s3 _ _ np),hRR.same s3,hw1,by omega,by omega,λ q M H4 eM hM fq nq s4=>?_⟩;have hsh:=zfR (dds R) okR
  have eML:M.length=R.length:=by
   have e1:(zaC wd (dds R)).length=M.length:=by rw [<- eM,ybd,dds,yaa]
   have e2:=zkP hw1 hw3 eL (ds:=(zaC wd (dds R)).reverse) (λ d hd=>hsh.1 d (yca.mp hd)) (n:=n) (by rw [hsh.2.1,hrow]; exact dn);have e3:=hsh.2.2.2;rw [ybd,e1] at e2;rw [e1,dds,yaa] at e3;omega
  have p4:=s4 _ _ (s3 _ _ np);have l4:=s4 _ _ l3;have R4:=hRR.same (s3.trans s4);have zV:(rowV M).length=(rowV R).length:=by rw [rowV,rowV,yaa,yaa,eML]
  symm;refine zfx (λ z=>absurd (by rw [zV]) z) (λ _=>?_);symm;refine zbe (5:) λ z5 H5 f5 s5 n5=>?_;have p5:=s5 _ _ p4;have l5:=s5 _ _ l4;symm;refine zk8 (s5 _ _ p4) (R4.same s5) n5 ?_;symm;refine ⟨wd,rfl,by omega,λ t6 f6=>?_⟩;rw [zgB];have s6:=zal (o:=.tup ((zaJ wd).map V.int)) f6;have t6':upd H5 t6 (.tup ((zaJ wd).map V.int)) t6=some (.tup ((zaJ wd).map V.int)):=zah;generalize upd H5 t6 (.tup ((zaJ wd).map V.int))=H6 at *;have p6:=s6 _ _ p5;have l6:=s6 _ _ l5;symm;refine zml (SqT.of l6) (SqT.of t6') ?_;symm;refine zqi ?_
  have e0:decide (R=[])=decide (ls=zaJ wd):=by
   rw [decide_eq_decide];constructor
   ·intro z;rw [z] at hRn;rw [<- hRn] at dn;exact Dst.zero.mp dn
   ·intro z;have:=dn.one (Dst.zero.mpr z);exact ybp.mp (hRn.trans this)
  rw [e0,beq_self_eq_true];symm;refine ⟨l,ls,wd,rfl,l6,hL,hw1,by omega,λ v H7 s7 hv=>?_⟩;have h2:=zob hw1 hw3 eL (λ q hq=>(hR.1 q hq).2) hL dn;symm;have zr:(rowV R).length=n:=by rw [rowV,yaa,hRn]
  rw [zr]
  have eB:(decide ((n:Int) < 2) == !decide (v=V.non))=true:=by
   cases e:trD wd ls with
   | some d=>
    rw [e] at hv;obtain ⟨t,rfl,_⟩:=hv;have:=h2.mpr ⟨d,e⟩;rw [decide_eq_true (show (n:Int) < 2 by omega),decide_eq_false (show ¬ V.ref t=V.non from nofun)];rfl
   | none=>
    rw [e] at hv;have hv:v=.non:=hv
    have:¬ n < 2:=λ z=>by
     obtain ⟨c,hc⟩:=h2.mp z;rw [e] at hc; cases hc
    rw [decide_eq_false (show ¬ (n:Int) < 2 by omega),decide_eq_true hv];rfl
  rw [eB];exact k H7 ((((G.1.trans s2).trans (s3.trans s4)).trans (s5.trans s6)).trans s7)
def znC:FnScope ["_law_script","_law_hand_here","_law_width","_law_menu","_law_known","_law_leading","_law_number","_law_turn","_law_some"] ["_law_script"] (zag zfT):=⟨rfl,rfl,rfl,by decide +kernel,rfl,by decide +kernel,by decide +kernel⟩
def zqX {a:Addr} {fd:FuncData} (B:Blt K mg) (g_how_few:A15 P w K mg base) (g_reach:A16 P w K mg base) (g_row_leading:A17 P w K mg base) (g_all_deeds:A26 P w K mg base) (g_shortened:A35 P w K mg base) (g__law_hand:A36 P w K mg base) (g__law_draw:A37 P w K mg base) (g__law_deed:A41 P w K mg base) (g__law_row:A42 P w K mg base) (g__law_tried:A44 P w K mg base) (g__law_all_right:A51 P w K mg base) (F:Fun K "law" "law" zfT a fd):FnOk P w K mg base CX0 13 a fd ["_law_script"] (znn K):=by
 refine F.ok znC (λ vs H Q E h=>?_) (λ cdv A outer s H vs Q E hr h=>?_)
 ·obtain ⟨b,ns,rfl,_⟩:=h;rfl
 ·have nd := znC.nd;have hu := hr.units;obtain ⟨b, ns, rfl, hS, hlen, k⟩ := h
  refine ⟨_,((6:) (@zat _ _ 1 _ _ _ _ nd rfl (Or.inr rfl) ((10:) g__law_hand (11:) ((2:) (7:) (4:) (0:)) (0:) (3:) (0:) (0:)) (0:) (15:)) ((6:) (@zat _ _ 2 _ _ _ _ nd rfl (Or.inr rfl) ((14:) (31:) (9:) ((10:) g__law_draw (11:) ((2:) (16:) ((2:) (9:) (4:) (0:)) (0:)) (0:) (3:) (0:) (0:))) (0:) (15:)) ((6:) (@zb7 _ _ _ _ _ _ (zag zfT) _ ["_law_script","_law_hand_here","_law_width","_law_menu","_law_known","_law_leading","_law_number","_law_turn","_law_some"] ["_law_k","_law_hand_here","_law_width"] [none,some 1,some 2] _ _ _ _ 3 _ _ _ nd rfl (17:) rfl ((56:) rfl B.b_range ((2:) ((14:) (31:) (9:) ((10:) g__law_draw (11:) ((2:) (16:) ((2:) (9:) (4:) (0:)) (0:)) (0:) (3:) (0:) (0:))) (4:) (0:)) (0:)) (λ _ _ _ _=>(84:)) (λ _ _ _ _=>(@zbC _)) (λ _ _ _ _=>((10:) g__law_deed (11:) ((2:) (16:) ((2:) (12:) (4:) (0:)) (0:)) (0:) (3:) (0:) (0:))) (20:) (0:) (0:) (24:) (0:) (15:)) ((6:) (@zat _ _ 4 _ _ _ _ nd rfl (17:) ((10:) g__law_tried (11:) ((2:) (12:) ((2:) (21:) (4:) (0:)) (0:)) (0:) (3:) (0:) (0:)) (0:) (15:)) ((6:) ((37:) yaJ rfl (@zaF _ K _ _ _ (@zjU _ _ _ _ _ _ _ _ _ _ (@k_sl _ K (0:)) ((29:) (@zkL _ rfl) rfl B.b_sorted boot_sorted ((2:) (33:) (4:) (0:)) (3:) (3:) (0:) (0:)) (@zmn _) (@zmp _ _ _ (9:))) (0:)) (68:) ((8:) ((22:) ((19:) (52:) ((10:) g_how_few (11:) ((2:) (46:) ((2:) (21:) (4:) (0:)) (0:)) (0:) (3:) (0:) (0:)) (@zhW _ _ _ _ _ _ hu (33:) (46:) (69:)) (18:)) ((8:) ((13:) (50:))) (23:))) (24:)) ((6:) ((37:) yaJ rfl (85:) (@zcX _ K _ _ _ _ 2 rfl ((61:) (@zas _ _ 6 _ nd rfl (17:) (15:)) ((61:) (68:) (@zcS _) (0:)) (0:)) (0:) (0:) (0:)) ((8:) ((22:) ((19:) (52:) (@zlZ _ _ _ _ _ _ _ _ _ hu (33:) (46:) ((14:) (31:) (9:) ((29:) (@zhO _ rfl) rfl B.b_max boot_max ((2:) (9:) ((2:) ((14:) (36:) (63:) (9:)) (4:) (0:)) (0:)) (3:) (3:) (0:) (0:))) (0:) (0:) (0:) (0:)) (63:) (18:)) ((8:) ((13:) (50:))) (23:))) (24:)) ((6:) ((22:) ((19:) (52:) ((29:) (39:) rfl B.b_len boot_len ((2:) (@zaZ _ _ _ _ _ _ (zag zfT) _ ["_law_script","_law_hand_here","_law_width","_law_menu","_law_known","_law_leading","_law_number","_law_turn","_law_some"] ["_law_number","_law_one"] [none,none] _ _ _ _ rfl (85:) (λ _ _ _ _=>(@zcX _ K _ _ _ _ 2 rfl ((61:) (@zas _ _ 0 _ (show List.Nodup (["_law_number","_law_one"]:List Str) by decide +kernel) rfl (17:) (15:)) ((61:) (@zas _ _ 1 _ (show List.Nodup (["_law_number","_law_one"]:List Str) by decide +kernel) rfl (17:) (15:)) (@zcS _) (0:)) (0:)) (0:) (0:) (0:))) (λ _ _ _ _=>(@zb3 _ _ _ ((19:) (@zlP _) (7:) (9:) (18:)))) (λ _ _ _ _=>(16:)) (20:) (0:) (0:) (24:)) (4:) (0:)) (3:) (3:) (0:) (0:)) ((29:) (@zmm _) rfl B.b_len boot_len ((2:) (33:) (4:) (0:)) (3:) (3:) (0:) (0:)) (18:)) ((8:) ((13:) (50:))) (23:)) ((6:) ((37:) yaJ rfl ((56:) rfl B.b_range ((2:) (9:) (4:) (0:)) (0:)) (@zas _ _ 7 _ nd rfl (17:) (15:)) ((6:) (@zat _ _ 8 _ _ _ _ nd rfl (17:) ((10:) g__law_row (11:) ((2:) (16:) ((2:) (12:) (4:) (0:)) (0:)) (0:) (3:) (0:) (0:)) (0:) (15:)) ((6:) (@zat _ _ 5 _ _ _ _ nd rfl (17:) ((10:) g_row_leading (11:) ((2:) (12:) ((2:) (@pv1 _ 8 _ _ (51:)) (4:) (0:)) (0:)) (0:) (3:) (0:) (0:)) (0:) (15:)) ((8:) ((22:) (@PW.pt _ _ _ ((59:) (@zgi _ _ _ _ (@zdw _ _ _ ((10:) g__law_all_right (11:) ((2:) (46:) (4:) (0:)) (0:) (3:) (0:) (0:)) (24:))) (@zff _ _ _ _ ((19:) (@zit _) ((10:) g_how_few (11:) ((2:) (46:) ((2:) ((10:) g_all_deeds (11:) ((2:) (12:) (4:) (0:)) (0:) (3:) (0:) (0:)) (4:) (0:)) (0:)) (0:) (3:) (0:) (0:)) ((29:) (39:) rfl B.b_len boot_len ((2:) ((10:) g_shortened (11:) ((2:) (12:) ((2:) (@pv1 _ 8 _ _ (51:)) (4:) (0:)) (0:)) (0:) (3:) (0:) (0:)) (4:) (0:)) (3:) (3:) (0:) (0:)) (18:))))) ((8:) ((13:) (50:))) (23:))))) (24:)) ((8:) ((13:) ((10:) g__law_all_right (11:) ((2:) ((70:) (@zld _ K (0:)) rfl B.b_tuple boot_tuple ((2:) (@zaZ _ _ _ _ _ _ (zag zfT) _ ["_law_script","_law_hand_here","_law_width","_law_menu","_law_known","_law_leading","_law_number","_law_turn","_law_some"] ["_law_p","_law_hand_here","_law_width"] [none,some 1,some 2] _ _ _ _ rfl ((56:) rfl B.b_range ((2:) (12:) (4:) (0:)) (0:)) (λ _ _ _ _=>(@zas _ _ 0 _ (show List.Nodup (["_law_p","_law_hand_here","_law_width"]:List Str) by decide +kernel) rfl (17:) (15:))) (λ _ _ _ _=>(@zbC _)) (λ _ _ _ _=>((14:) (36:) ((10:) g__law_draw (11:) ((2:) (16:) ((2:) ((14:) (31:) (12:) (9:)) (4:) (0:)) (0:)) (0:) (3:) (0:) (0:)) (9:))) (20:) (0:) (0:) (24:)) (4:) (0:)) (3:) (3:) (0:) (0:)) (4:) (0:)) (0:) (3:) (0:) (0:)))))))))))),?_⟩
  symm;refine ⟨b,ns,rfl,hS,λ p H1 fp s1 h1=>?_⟩;symm;refine ⟨p,3,rfl,h1,by decide,by decide,λ r H2 hr b2 h2=>?_⟩;symm;rw [show (1:Int) + (r:Int)=((1 + r:Nat):Int) by omega];generalize hwd:1 + r=wd at *;have hw1:1 <= wd:=by omega
  have hw3:wd <= 3:=by omega
  refine ⟨p,6,rfl,h2,by decide,by decide,λ r3 H3 hr3 b3 h3=>?_⟩;symm;rw [show (1:Int) + (r3:Int)=((1 + r3:Nat):Int) by omega];refine zf6 (n:=1 + r3) rfl (1:) ?_;refine zbk (λ i acc H'=>Hand H' p /\ ∃ L:List (Addr × Dd),L.length=i /\ i <= 6 /\ Rw H' wd L /\ acc=rowV L) ⟨h3,[],rfl,by omega,λ _ z=>(nomatch z),rfl⟩ (λ i acc H' h=>?_) ?_ ?_
  ·obtain ⟨_,L,hl,hi,_,rfl⟩:=h;rw [rowV,yaa];exact yaE (small5 (1:))
  ·rintro i acc H' hi ⟨h4, L, hl, hi2, hR, rfl⟩;symm;refine ⟨p, wd, rfl, h4, hw1, by omega, fun t d H5 hd b5 h5 n5 => ?_⟩;refine ⟨h5, L ++ [(t, d)], by rw [yam, hl]; rfl, by omega, fun q hq => ?_, by rw [rowV, rowV, yal]; rfl⟩;rcases yas.mp hq with z | z
   ·exact hR.but h4 b5 q z
   ·rw [yah.mp z]; exact ⟨n5,hd⟩
  rintro acc H4 ⟨h4,M,hl,zM,hM,rfl⟩ m hm;have s5:=zal (o:=.lst (rowV M)) hm;have m5:upd H4 m (.lst (rowV M)) m=some (.lst (rowV M)):=zah;have mp:m ≠ p:=h4.ne hm;have h5:=h4.same s5;have M5:=hM.same s5;generalize upd H4 m (.lst (rowV M))=H5 at *;have hSt:=zcu M5;have hp4:=zdN (w:=wd) (1:);symm;refine ⟨m,wd,M,rfl,m5,M5,by omega,hw1,hw3,λ d o F H6 s6 d6 hT=>?_⟩;have h6:=h5.same s6;have m6:=s6 _ _ m5;have M6:=M5.same s6;have zF:=hT.len hSt
  have dp:d ≠ p:=by
   obtain ⟨q,cells,a,b,c,e,_⟩:=h6;exact zbY d6 e nofun
  symm;refine ⟨d,KnD F,wd,rfl,Frz.rd d6,hw1,hT.keys hSt (1:),λ q bs bs' hq hK hP hO=>?_⟩;have s7:=zal (o:=.lst (bs'.map V.ref)) hq;have q7:upd H6 q (.lst (bs'.map V.ref)) q=some (.lst (bs'.map V.ref)):=zah;generalize upd H6 q (.lst (bs'.map V.ref))=H7 at *;have zK:=hK.length;symm;refine zmB (k:=20) q7 λ c H8 f8 s8 n8=>?_;have s68:=s7.trans s8;symm;refine zdc (xs:=(bs'.map V.ref).take 20) (λ i σ H'=>Same H8 H' /\ ∃ v5 v6 v7 v8,σ=[some (.ref b),some (.ref p),some (nV wd),some (.ref m),some (.ref d),v5,v6,v7,v8]) ⟨Same.refl _,_,_,_,_,rfl⟩ (λ i σ H' h=>SqL.of (h.1 _ _ n8)) ?_ ?_
  ·rintro i x σ H9 hx ⟨s9,v5,v6,v7,v8,rfl⟩;have hxm:=yar hx;obtain ⟨a,ha,rfl⟩:=yaf.mp (ybM hxm);obtain ⟨kv,hkv,e6⟩:=hK.mem a (hP.mem_iff.mp ha);obtain ⟨u,hu',rfl⟩:=yaf.mp hkv;have e6:H6 a=some (.tup ((kI u.1).map kV)):=e6;rw [kI_V] at e6;have s69:=s68.trans s9;have du:=(hT.all u.1 u.2).mp hu';symm;refine ⟨wd,m,a,M,u.1,rfl,.inl (SqL.of (s69 _ _ m6)),M6.same s69,hw1,hw3,by omega,s69 _ _ e6,hT.ld hSt u hu',λ H10 s10 no=>absurd du.2 (no u.2),λ H10 n s10 dn=>?_⟩;have s610:=s69.trans s10;have d10:Frz H10 d o (KnD F):=s610 _ _ d6;have:=dn.one du.2;subst this;symm;refine zfy ?_;symm;refine ⟨d,nV u.2,rfl,hT.get hu' ▸ DGet.r (Frz.rd d10) (s610 _ _ e6),?_⟩;symm;refine zfx (λ z=>absurd rfl z) (λ _=>?_);symm;exact ⟨s9.trans s10,_,_,_,_,rfl⟩
  rintro σ H9 ⟨s9,v5,v6,v7,v8,rfl⟩;have s69:=s68.trans s9;have h9:=h6.same s69;have m9:=s69 _ _ m6;have M9:=M6.same s69;have d9:Frz H9 d o (KnD F):=s69 _ _ d6;symm;refine ⟨wd,m,M,rfl,.inl (SqL.of m9),M9,hw1,hw3,by omega,λ rr ps G H10 frr s10 RG PR nr=>?_⟩;symm;refine zdc (xs:=ps.map V.ref) (λ i σ H'=>Same H10 H' /\ ∃ v5 v6 v7 v8,σ=[some (.ref b),some (.ref p),some (nV wd),some (.ref m),some (.ref d),v5,v6,v7,v8]) ⟨Same.refl _,_,_,_,_,rfl⟩ (λ i σ H' h=>SqL.of (h.1 _ _ nr)) ?_ ?_
  ·rintro i x σ H11 hx ⟨s11, v5, v6, v7, v8, rfl⟩;obtain ⟨a, ha, rfl⟩ := zaI hx;obtain ⟨u, hu', c2, e1, e2⟩ := PR.get ha;have e1 := s11 _ _ e1;have e2 := s11 _ _ e2;have du := (RG.all u.1 u.2).mp (yar hu');have d11 : Frz H11 d o (KnD F) := s11 _ _ (s10 _ _ d9);symm;refine zoX ?_;symm;refine ⟨d, rfl, .inr ⟨_, Frz.rd d11⟩, ?_⟩;symm
   have ev:(valV (KnD F) (kI u.2)).getD (V.int (4 + if (u.1:Int) - 4 > 0 then (u.1:Int) - 4 else 0))=nV u.1:=by
    by_cases c:u.1 <= 3
    ·rw [hT.get ((hT.all u.2 u.1).mpr ⟨c,du⟩)]; rfl
    ·rcases KnD.val (ls := u.2) (F := F) with ⟨z1, zv⟩ | ⟨n, z1, zv⟩
     ·rw [zv];show V.int _ = V.int _;congr 1
      split <;> omega
     ·have z:=(hT.all u.2 n).mp z1;have:=z.2.one du;omega
   refine ⟨_,DGet.r (Frz.rd d11) e2,?_⟩;symm;rw [ev];symm;refine zfx (λ z=>absurd rfl z) (λ _=>?_);symm;exact ⟨s11,_,_,_,_,rfl⟩
  rintro σ H11 ⟨s11,w5,w6,w7,w8,rfl⟩;have s911:=s10.trans s11;have h11:=h9.same s911;have m11:=s911 _ _ m9;have M11:=M9.same s911;have d11:Frz H11 d o (KnD F):=s911 _ _ d9;symm;refine ⟨wd,m,M,rfl,.inl (SqL.of m11),M11,hw1,hw3,by omega,λ rq pq G2 H12 frq s12 RG2 PR2 nq=>?_⟩;have zG:=RG2.few;have zp:=PR2.length;refine zbF (SqL.of nq) ?_;refine zbL (xs:=pq.map V.ref) (λ j acc H'=>Same H12 H' /\ j <= pq.length /\ acc.length=((G2.take j).filter λ q=>decide (q.1 < 3 + 1)).length) ⟨Same.refl _,yaY _,rfl⟩ (λ j acc H' h=>?_) (λ j acc H' h=>SqL.of (h.1 _ _ nq)) ?_ ?_
  ·obtain ⟨_,hj,e⟩:=h;have:=yaU (λ q:Nat × List Int=>decide (q.1 < 3 + 1)) (G2.take j);rw [yaV] at this;exact yaE (small5 (1:))
  ·rintro j x acc H13 hx ⟨s13, hj, eA⟩;obtain ⟨a, ha, rfl⟩ := zaI hx;obtain ⟨u, hu', c2, e1, e2⟩ := PR2.get ha;have e1 := s13 _ _ e1;have hjl : j < pq.length := (yaj.mp ha).1;have et : (G2.take (j + 1)).filter (fun q => decide (q.1 < 3 + 1)) = (G2.take j).filter (fun q => decide (q.1 < 3 + 1)) ++ [u].filter fun q => decide (q.1 < 3 + 1) := by rw [yaG, hu', yaz]; rfl
   symm;refine zcH (λ hc=>?_) (λ hc=>?_)
   ·symm;refine ⟨s13,hjl,?_⟩;rw [et,yam,yam,eA,ya7 (34:)];rfl
   ·refine ⟨s13,hjl,?_⟩;rw [et,yam,eA,ya8 (34:)];rfl
  rintro acc H13 ⟨s13,hj,eA⟩ c hc;rw [yaa,<- zp,yaq (yag _),hT.reach (λ n x=>RG2.all n x) RG2.once] at eA;have s14:=zal (o:=.lst acc) hc;have c14:upd H13 c (.lst acc) c=some (.lst acc):=zah;generalize upd H13 c (.lst acc)=H14 at *;have s1114:=(s12.trans s13).trans s14;have h14:=h11.same s1114;have d14:Frz H14 d o (KnD F):=s1114 _ _ d11;symm;refine ⟨d,KnD F,rfl,Frz.rd d14,?_⟩;symm;refine zfx (λ z=>absurd (by rw [eA,KnD.length]) z) (λ _=>?_);symm;refine zjJ (n:=2) rfl (3:) ?_;refine zdf (λ i σ H'=>Hand H' p /\ ∃ v5 v6 v7 v8,σ=[some (.ref b),some (.ref p),some (nV wd),some (.ref m),some (.ref d),v5,v6,v7,v8]) ⟨h14,_,_,_,_,rfl⟩ ?_ ?_
  ·rintro i σ H15 hi ⟨h15, v5, v6, v7, v8, rfl⟩;symm;refine ⟨p, wd, rfl, h15, hw1, by omega, fun l L H16 zL RL fl b16 h16 n16 => ?_⟩
   have okL:∀ x ∈ dds L,x.ok wd:=λ x hx=>by
    obtain ⟨e,he,rfl⟩:=yaf.mp hx;exact (RL e he).2
   symm;refine ⟨wd,l,L,rfl,.inl (SqL.of n16),RL,by omega,λ t H17 s17 n17=>?_⟩;symm;refine ⟨t,wd,_,rfl,n17,zif okL,hw1,hw3,λ H18 s18=>?_⟩;symm;refine ⟨wd,rfl,hw1,by omega,λ m2 L2 H19 fm2 G19 eL2 zL2=>?_⟩;rw [zle wd hw1 (1:)] at eL2;have hR19:=zl4 hw1 hw3 G19.2.2 eL2;have m19:H19 m2=some (.lst (rowV (asDd L2))):=by rw [zjr]; exact G19.2.1
   have s1619:=(s17.trans s18).trans G19.1;symm;refine ⟨wd,m2,t,asDd L2,_,rfl,.inl (SqL.of m19),hR19.1,hw1,hw3,by omega,(s18.trans G19.1) _ _ n17,zif okL,λ H20 s20 no=>?_,λ H20 n s20 dn=>?_⟩
   ·obtain ⟨n,dn⟩:=zlc hw1 hw3 eL2 (zif okL);exact absurd dn (no n)
   have s1620:=s1619.trans s20;symm;refine ⟨wd,l,L,rfl,.inl (s1620 _ _ n16),RL.same s1620,hw1,by omega,by omega,λ q M2 H21 eM2 hM2 fq nq2 s21=>?_⟩;have hsh:=zfR (dds L) okL
   have hle:n <= (rowV M2).length:=by
    have e1:(zaC wd (dds L)).length=(rowV M2).length:=by rw [<- eM2,ybd,dds,rowV,yaa,yaa]
    have e2:=zkP hw1 hw3 eL2 (ds:=(zaC wd (dds L)).reverse) (λ x hx=>hsh.1 x (yca.mp hx)) (n:=n) (by rw [hsh.2.1]; exact dn);rw [ybd,e1] at e2;exact e2
   symm;refine zcH (λ hc=>absurd hc (1:)) (λ hc=>?_);symm;exact ⟨h16.same (s1620.trans s21),_,_,_,_,rfl⟩
  rintro σ H15 ⟨h15,v5,v6,v7,v8,rfl⟩;symm;refine zf6 (n:=wd) rfl (1:) ?_;refine zbk (λ i acc H'=>Hand H' p /\ ∃ xs:List Int,xs.length=i /\ i <= wd /\ (∀ x ∈ xs,-2 <= x /\ x < wd) /\ acc=xs.map V.int) ⟨h15,[],rfl,by omega,λ _ z=>(nomatch z),rfl⟩ (λ i acc H' h=>?_) ?_ ?_
  ·obtain ⟨_,xs,hl,hi,_,rfl⟩:=h;rw [yaa];exact yaE (small5 (1:))
  ·rintro i acc H' hi ⟨h16, xs, hl, hi2, hx, rfl⟩;symm;rw [show ((wd : Nat) : Int) + 2 = ((wd + 2 : Nat) : Int) by omega];refine ⟨p, wd + 2, rfl, h16, by omega, by omega, fun r17 H17 hr17 b17 h17 => ?_⟩;symm;refine ⟨h17, xs ++ [(r17 : Int) - 2], by rw [yam, hl]; rfl, by omega, fun x hx' => ?_, by rw [yal]; rfl⟩;rcases yas.mp hx' with z | z
   ·exact hx x z
   ·rw [yah.mp z]; omega
  rintro acc H16 ⟨h16,xs,hl,hi2,hx,rfl⟩ l hfl;have s17:=zal (o:=.lst (xs.map V.int)) hfl;have l17:upd H16 l (.lst (xs.map V.int)) l=some (.lst (xs.map V.int)):=zah;generalize upd H16 l (.lst (xs.map V.int))=H17 at *;symm;refine zgF l17 λ t H18 f18 s18 n18=>?_;symm;refine ⟨t,wd,xs,rfl,n18,⟨hl,hx⟩,hw1,hw3,λ H19 s19=>?_⟩;symm;exact k H19
end
def all_mk {l:PySem.W.OpenLaw} {w:World} {K:PySem.W.Frag} {h:Heap} {mg:Str -> Option Value} {fa:Addr} (X:K.In h) (G:h.Ns mainGlobals mg) (hfa:mg "law"=some (.ref fa))
  {t_NOUGHT t_ONE:Tok}
  {ta_DEED_NAMES:Addr} {to_DEED_NAMES:Option Addr} {tn_DEED_NAMES:Nat} {ts_DEED_NAMES:Array (Option Value)} {t_DEED_NAMES0 t_DEED_NAMES1 t_DEED_NAMES2 t_DEED_NAMES3 t_DEED_NAMES4 t_DEED_NAMES5 t_DEED_NAMES6 t_DEED_NAMES7 t_DEED_NAMES8:Tok}
  (a0:At K "deeds_to" zem)
  (a1:At K "staying" zfr)
  (a2:At K "bit_at" zgO)
  (a3:At K "places_in" zcv)
  (a4:At K "gather_leading" zbt)
  (a5:At K "strew_leading" zbN)
  (a6:At K "is_within" zdK)
  (a7:At K "place_or_nought" zbg)
  (a8:At K "copy_source" zcy)
  (a9:At K "source_of" zdE)
  (a10:At K "deed_leading" zbl)
  (a11:At K "deeds_by_leading" zbb)
  (a12:At K "then" zjT)
  (a13:At K "next_edge" zdQ)
  (a14:At K "searched" zeH)
  (a15:At K "how_few" zfB)
  (a16:At K "reach" zgS)
  (a17:At K "row_leading" zcn)
  (a18:At K "low" zo8)
  (a19:At K "full" zmo)
  (a20:At K "fits_with_one" zbG)
  (a21:At K "goes_within" zbx)
  (a22:At K "swaps_apart" zcA)
  (a23:At K "fits_with_two" zbM)
  (a24:At K "is_deed" zfC)
  (a25:At K "maybe_deeds" zbw)
  (a26:At K "all_deeds" zcx)
  (a27:At K "bits_in" zft)
  (a28:At K "mask_of" zfh)
  (a29:At K "strewn" ze8)
  (a30:At K "swaps_together" zbr)
  (a31:At K "alike_together" zbu)
  (a32:At K "together" zeC)
  (a33:At K "does_nothing" zb4)
  (a34:At K "put_behind" zcZ)
  (a35:At K "shortened" zdJ)
  (a36:At K "_law_hand" zck)
  (a37:At K "_law_draw" zdM)
  (a38:At K "_law_word" zdO)
  (a39:At K "_law_swap_mask" zbs)
  (a40:At K "_law_copy_mask" zbp)
  (a41:At K "_law_deed" zdG)
  (a42:At K "_law_row" zdi)
  (a43:At K "_law_longer" zbz)
  (a44:At K "_law_tried" zcT)
  (a45:At K "fewest" zgA)
  (a46:At K "kept_by" zd2)
  (a47:At K "mask_deeds" za4)
  (a48:At K "pair_deeds" za3)
  (a49:At K "likely_deeds" zbW)
  (a50:At K "one_deed" zeD)
  (a51:At K "_law_all_right" zbq)
  (a52:At K "law" zfT)
  (z_abs:PySem.W.nsIn K mainGlobals "abs"=some none)
  (z_all:PySem.W.nsIn K mainGlobals "all"=some none)
  (z_bool:PySem.W.nsIn K mainGlobals "bool"=some none)
  (z_enumerate:PySem.W.nsIn K mainGlobals "enumerate"=some none)
  (z_int:PySem.W.nsIn K mainGlobals "int"=some none)
  (z_isinstance:PySem.W.nsIn K mainGlobals "isinstance"=some none)
  (z_len:PySem.W.nsIn K mainGlobals "len"=some none)
  (z_list:PySem.W.nsIn K mainGlobals "list"=some none)
  (z_max:PySem.W.nsIn K mainGlobals "max"=some none)
  (z_min:PySem.W.nsIn K mainGlobals "min"=some none)
  (z_range:PySem.W.nsIn K mainGlobals "range"=some none)
  (z_reversed:PySem.W.nsIn K mainGlobals "reversed"=some none)
  (z_sorted:PySem.W.nsIn K mainGlobals "sorted"=some none)
  (z_tuple:PySem.W.nsIn K mainGlobals "tuple"=some none)
  (y_NOUGHT:PySem.W.nsIn K mainGlobals "NOUGHT"=some (some (.int (-1) t_NOUGHT)))
  (y_ONE:PySem.W.nsIn K mainGlobals "ONE"=some (some (.int (-2) t_ONE)))
  (y_DEED_NAMES:PySem.W.nsIn K mainGlobals "DEED_NAMES"=some (some (.ref ta_DEED_NAMES))) (x_DEED_NAMES:K.lookup ta_DEED_NAMES=some ⟨.type "tuple",to_DEED_NAMES,.seq (List.toArray [Value.str "and" t_DEED_NAMES0,Value.str "or" t_DEED_NAMES1,Value.str "left" t_DEED_NAMES2,Value.str "right" t_DEED_NAMES3,Value.str "turn" t_DEED_NAMES4,Value.str "swap" t_DEED_NAMES5,Value.str "gather" t_DEED_NAMES6,Value.str "strew" t_DEED_NAMES7,Value.str "copy" t_DEED_NAMES8]) tn_DEED_NAMES,ts_DEED_NAMES⟩)
  : ∃ fd:FuncData,(∀ (s:Shared) (v:Value),BindsTo s fd ⟨[v],[]⟩ [("_law_script",v)]) /\ ∀ base:Heap,K.In base -> base.Ns mainGlobals mg -> FnOk l.prog w K mg base CX0 13 fa fd ["_law_script"] (znn K):=by
 obtain ⟨ff,od,an52,sl,oc,kV52,dc52,pm52,cd52,ct52,aa,ll,cc,kk⟩:=a52;have e:=hfa.symm.trans (ycN X G aa);cases e;have B:Blt K mg:=⟨yaR X G z_abs,yaR X G z_all,yaR X G z_bool,yaR X G z_enumerate,yaR X G z_int,yaR X G z_isinstance,yaR X G z_len,yaR X G z_list,yaR X G z_max,yaR X G z_min,yaR X G z_range,yaR X G z_reversed,yaR X G z_sorted,yaR X G z_tuple,⟨_,ycN X G y_DEED_NAMES,λ H=>.inr ⟨_,_,_,x_DEED_NAMES,rfl,rfl,yaE (L2.small5 (show (9:Nat) <= 100000 by decide)),(.cons ⟨_,rfl⟩ (.cons ⟨_,rfl⟩ (.cons ⟨_,rfl⟩ (.cons ⟨_,rfl⟩ (.cons ⟨_,rfl⟩ (.cons ⟨_,rfl⟩ (.cons ⟨_,rfl⟩ (.cons ⟨_,rfl⟩ (.cons ⟨_,rfl⟩ .nil)))))))))⟩⟩,⟨_,ycN X G y_NOUGHT⟩,⟨_,ycN X G y_ONE⟩⟩
 have F52:=znS (st:=zfT) ll cc kk;refine ⟨PySem.W.fnOf "law" "law" (zdL zfT) (zcN zfT) (zag zfT) .none kV52 dc52 pm52 an52 cd52 ct52,λ s v=>.of_eq rfl,λ base _ _=>?_⟩;have g_deeds_to:A0 l.prog w K mg base:=a0.at X G (32:) λ _ _=>ziY B ;have g_staying:A1 l.prog w K mg base:=a1.at X G (42:) λ _ _=>zkr B ;have g_bit_at:A2 l.prog w K mg base:=a2.at X G (32:) λ _ _=>zkZ B ;have g_places_in:A3 l.prog w K mg base:=a3.at X G (42:) λ _ _=>zis B g_bit_at;have g_gather_leading:A4 l.prog w K mg base:=a4.at X G (32:) λ _ _=>zep B g_places_in;have g_strew_leading:A5 l.prog w K mg base:=a5.at X G (32:) λ _ _=>ze5 B g_places_in;have g_is_within:A6 l.prog w K mg base:=a6.at X G (41:) λ _ _=>zid B ;have g_place_or_nought:A7 l.prog w K mg base:=a7.at X G (32:) λ _ _=>zdS B g_is_within;have g_copy_source:A8 l.prog w K mg base:=a8.at X G (41:) λ _ _=>zfZ B g_bit_at;have g_source_of:A9 l.prog w K mg base:=a9.at X G (41:) λ _ _=>zic B g_bit_at g_place_or_nought g_copy_source;have g_deed_leading:A10 l.prog w K mg base:=a10.at X G (32:) λ _ _=>zfz B g_gather_leading g_strew_leading g_source_of;have g_deeds_by_leading:A11 l.prog w K mg base:=a11.at X G (32:) λ _ _=>zdI B g_deed_leading;have g_then:A12 l.prog w K mg base:=a12.at X G (32:) λ _ _=>zoc B ;have g_next_edge:A13 l.prog w K mg base:=a13.at X G (41:) λ _ _=>zhc B g_then g_deeds_to;have g_searched:A14 l.prog w K mg base:=a14.at X G (41:) λ _ _=>ziS B g_staying g_deeds_by_leading g_next_edge;have g_how_few:A15 l.prog w K mg base:=a15.at X G (32:) λ _ _=>zkj B g_deeds_to g_searched;have g_reach:A16 l.prog w K mg base:=a16.at X G (32:) λ _ _=>znk B g_deeds_to g_searched;have g_row_leading:A17 l.prog w K mg base:=a17.at X G (32:) λ _ _=>zf4 B g_staying g_then g_deed_leading;have g_low:A18 l.prog w K mg base:=a18.at X G (42:) λ _ _=>zpM B ;have g_full:A19 l.prog w K mg base:=a19.at X G (42:) λ _ _=>zo9 B g_low;have g_fits_with_one:A20 l.prog w K mg base:=a20.at X G (41:) λ _ _=>ze7 B g_full g_is_within;have g_goes_within:A21 l.prog w K mg base:=a21.at X G (41:) λ _ _=>zfS B g_places_in g_is_within;have g_swaps_apart:A22 l.prog w K mg base:=a22.at X G (41:) λ _ _=>zf0 B g_goes_within;have g_fits_with_two:A23 l.prog w K mg base:=a23.at X G (λ _ _ F=>F.binds λ _ _ _ _ _ _ us hl=>match us,hl with | [_,_,_,_],_=>rfl) λ _ _=>ze1 B g_full g_is_within g_goes_within g_swaps_apart
 have g_is_deed:A24 l.prog w K mg base:=a24.at X G (32:) λ _ _=>zkE B g_fits_with_one g_fits_with_two;have g_maybe_deeds:A25 l.prog w K mg base:=a25.at X G (32:) λ _ _=>zf1 B g_full;have g_all_deeds:A26 l.prog w K mg base:=a26.at X G (42:) λ _ _=>zhe B g_is_deed g_maybe_deeds;have g_bits_in:A27 l.prog w K mg base:=a27.at X G (42:) λ _ _=>zku B g_places_in;have g_mask_of:A28 l.prog w K mg base:=a28.at X G (42:) λ _ _=>zkK B ;have g_strewn:A29 l.prog w K mg base:=a29.at X G (32:) λ _ _=>zlR B g_bit_at g_places_in g_mask_of;have g_swaps_together:A30 l.prog w K mg base:=a30.at X G (41:) λ _ _=>zeB B g_is_deed;have g_alike_together:A31 l.prog w K mg base:=a31.at X G (41:) λ _ _=>zet B g_strewn g_swaps_together;have g_together:A32 l.prog w K mg base:=a32.at X G (41:) λ _ _=>ziX B g_low g_bits_in g_alike_together;have g_does_nothing:A33 l.prog w K mg base:=a33.at X G (32:) λ _ _=>zfQ B g_staying g_deed_leading;have g_put_behind:A34 l.prog w K mg base:=a34.at X G (41:) λ _ _=>zgY B g_together g_does_nothing;have g_shortened:A35 l.prog w K mg base:=a35.at X G (32:) λ _ _=>zh0 B g_put_behind;have g__law_hand:A36 l.prog w K mg base:=a36.at X G (42:) λ _ _=>zib B ;have g__law_draw:A37 l.prog w K mg base:=a37.at X G (32:) λ _ _=>zia B ;have g__law_word:A38 l.prog w K mg base:=a38.at X G (32:) λ _ _=>zhz B g__law_draw;have g__law_swap_mask:A39 l.prog w K mg base:=a39.at X G (41:) λ _ _=>zeo B g__law_draw;have g__law_copy_mask:A40 l.prog w K mg base:=a40.at X G (41:) λ _ _=>zew B g__law_word;have g__law_deed:A41 l.prog w K mg base:=a41.at X G (32:) λ _ _=>zh2 B g__law_draw g__law_word g__law_swap_mask g__law_copy_mask;have g__law_row:A42 l.prog w K mg base:=a42.at X G (32:) λ _ _=>ziG B g__law_draw g__law_deed;have g__law_longer:A43 l.prog w K mg base:=a43.at X G (32:) λ _ _=>zfW B ;have g__law_tried:A44 l.prog w K mg base:=a44.at X G (32:) λ _ _=>zgT B g_row_leading g__law_longer;have g_fewest:A45 l.prog w K mg base:=a45.at X G (32:) λ _ _=>zlj B g_deeds_to g_searched;have g_kept_by:A46 l.prog w K mg base:=a46.at X G (42:) λ _ _=>zj7 B g_mask_of;have g_mask_deeds:A47 l.prog w K mg base:=a47.at X G (42:) λ _ _=>zgG B g_mask_of g_kept_by;have g_pair_deeds:A48 l.prog w K mg base:=a48.at X G (42:) λ _ _=>zg3 B g_mask_of;have g_likely_deeds:A49 l.prog w K mg base:=a49.at X G (42:) λ _ _=>zfm B g_mask_deeds g_pair_deeds;have g_one_deed:A50 l.prog w K mg base:=a50.at X G (42:) λ _ _=>zi5 B g_is_deed g_deed_leading g_likely_deeds;have g__law_all_right:A51 l.prog w K mg base:=a51.at X G (42:) λ _ _=>zeG B g_fewest g_one_deed g_row_leading g_all_deeds g_shortened;exact zqX B g_how_few g_reach g_row_leading g_all_deeds g_shortened g__law_hand g__law_draw g__law_deed g__law_row g__law_tried g__law_all_right F52
def walk {l:PySem.W.OpenLaw} {q:Program} {loose:List Str} {XP:(Str -> Option Value) -> Heap -> Prop} {YP:World -> Heap -> Prop} {d:DefRec} {K:Params -> PySem.W.Frag} (hn:l.most=some 63) (hdf:d.params.defaults=[])
  (hY:∀ (w:World) (h:Heap),YP w h -> (K w.params).In h)
  (F : ∀ (w : World) (mg : Str -> Option Value) (fa : Addr) (h : Heap), (K w.params).In h -> h.Ns mainGlobals mg -> mg d.name = some (.ref fa) ->
   ∃ fd:FuncData,(∀ (s:Shared) (u:Value),BindsTo s fd ⟨[u],[]⟩ [("_law_script",u)]) /\ ∀ base:Heap,(K w.params).In base -> base.Ns mainGlobals mg -> FnOk l.prog w (K w.params) mg base CX0 13 fa fd ["_law_script"] (znn (K w.params))) :
  PySem.W.WalkO q loose XP YP l.row.toRowW d [] (λ f vs=>PySem.call f vs):=
 L2.walk_of (n:=63) (k:=13) (x:="_law_script") (CX:=λ _=>CX0) (sp:=λ w=>znn (K w.params)) hn (3:) hdf ⟨rfl,by decide,by decide⟩ hY F (λ _ _ a ns hl _ hS=>⟨a,ns,rfl,hS,hl,λ _=>rfl⟩) λ _ _ _ _ _ z=>z
end Lw
local macro_rules | `(tactic| walk_at "at")=>`(tactic| (refine' Lw.At.mk ?xn ?xl ?xc ?xk; (case xn=>k_is); (case xl=>k_is); (case xc=>k_is); (case xk=>k_is)))
open PySem PySem.W PyProof.Rows
set_option maxRecDepth 100000 in
set_option maxHeartbeats 0 in
theorem PySem.Challenge.cw_bitlead_k68_whole_fewest_beside_all_rows_holds : PySem.Challenge.rw_bitlead_k68_whole_fewest_beside_all_rows.Holds := by
 w_on; o_law; k_head; (case hw=>w_witness2)
 k_fill
 refine Lw.walk (l:=PySem.Challenge.rw_bitlead_k68_whole_fewest_beside_all_rows) rfl rfl (λ w h Y=>PySem.W.kIn_of Y) ?F
 case F=>
  intro w mg fa h KX G hmg;refine' Lw.all_mk KX G hmg ?a0 ?a1 ?a2 ?a3 ?a4 ?a5 ?a6 ?a7 ?a8 ?a9 ?a10 ?a11 ?a12 ?a13 ?a14 ?a15 ?a16 ?a17 ?a18 ?a19 ?a20 ?a21 ?a22 ?a23 ?a24 ?a25 ?a26 ?a27 ?a28 ?a29 ?a30 ?a31 ?a32 ?a33 ?a34 ?a35 ?a36 ?a37 ?a38 ?a39 ?a40 ?a41 ?a42 ?a43 ?a44 ?a45 ?a46 ?a47 ?a48 ?a49 ?a50 ?a51 ?a52 ?z_abs ?z_all ?z_bool ?z_enumerate ?z_int ?z_isinstance ?z_len ?z_list ?z_max ?z_min ?z_range ?z_reversed ?z_sorted ?z_tuple ?y_NOUGHT ?y_ONE ?y_DEED_NAMES ?x_DEED_NAMES
  (case a0=>walk_at "at")
  (case a1=>walk_at "at")
  (case a2=>walk_at "at")
  (case a3=>walk_at "at")
  (case a4=>walk_at "at")
  (case a5=>walk_at "at")
  (case a6=>walk_at "at")
  (case a7=>walk_at "at")
  (case a8=>walk_at "at")
  (case a9=>walk_at "at")
  (case a10=>walk_at "at")
  (case a11=>walk_at "at")
  (case a12=>walk_at "at")
  (case a13=>walk_at "at")
  (case a14=>walk_at "at")
  (case a15=>walk_at "at")
  (case a16=>walk_at "at")
  (case a17=>walk_at "at")
  (case a18=>walk_at "at")
  (case a19=>walk_at "at")
  (case a20=>walk_at "at")
  (case a21=>walk_at "at")
  (case a22=>walk_at "at")
  (case a23=>walk_at "at")
  (case a24=>walk_at "at")
  (case a25=>walk_at "at")
  (case a26=>walk_at "at")
  (case a27=>walk_at "at")
  (case a28=>walk_at "at")
  (case a29=>walk_at "at")
  (case a30=>walk_at "at")
  (case a31=>walk_at "at")
  (case a32=>walk_at "at")
  (case a33=>walk_at "at")
  (case a34=>walk_at "at")
  (case a35=>walk_at "at")
  (case a36=>walk_at "at")
  (case a37=>walk_at "at")
  (case a38=>walk_at "at")
  (case a39=>walk_at "at")
  (case a40=>walk_at "at")
  (case a41=>walk_at "at")
  (case a42=>walk_at "at")
  (case a43=>walk_at "at")
  (case a44=>walk_at "at")
  (case a45=>walk_at "at")
  (case a46=>walk_at "at")
  (case a47=>walk_at "at")
  (case a48=>walk_at "at")
  (case a49=>walk_at "at")
  (case a50=>walk_at "at")
  (case a51=>walk_at "at")
  (case a52=>walk_at "at")
  (case z_abs=>k_is)
  (case z_all=>k_is)
  (case z_bool=>k_is)
  (case z_enumerate=>k_is)
  (case z_int=>k_is)
  (case z_isinstance=>k_is)
  (case z_len=>k_is)
  (case z_list=>k_is)
  (case z_max=>k_is)
  (case z_min=>k_is)
  (case z_range=>k_is)
  (case z_reversed=>k_is)
  (case z_sorted=>k_is)
  (case z_tuple=>k_is)
  (case y_NOUGHT=>k_is)
  (case y_ONE=>k_is)
  (case y_DEED_NAMES=>k_is)
  (case x_DEED_NAMES=>k_is)
