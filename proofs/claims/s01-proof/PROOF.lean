import PyProof.Rows.All
import Wide.All
import OpenK.AllK
import Wide.FinOn
import PyProof.EqAt
import PyProof.EqKinds
import PyProof.TupleCall
import KE.BitLaws
import KE.OsHead
import KE.OsGo
import Open.SpecLaws
import PySem.Challenge.RW_tangleweave_s01_answers
set_option Elab.async false
set_option linter.all false
set_option maxRecDepth 100000
set_option maxHeartbeats 4000000
def La:=@List.length_append
def Lb:=@PySem.wpAny_bind
def Ld:=@if_neg
def Le:=@if_pos
def Lf:=@Nat.le_refl
def Lg:=@List.length_cons
def Lh:=@of_decide_eq_true
def Li:=@Bool.and_eq_true
def Lj:=@Nat.zero_le
def Lk:=@PySem.F.plainAttrs_list
def Ll:=@decide_eq_true
def Lm:=@PySem.wpAny_pure
def Ln:=@Nat.le_trans
def Lo:=@PySem.Heap.get?_push_of_some
def Lp:=@List.mem_cons
def Lq:=@Nat.lt_of_le_of_lt
def Lr:=@List.length_take
def Ls:=@List.length_map
def Lu:=@List.mem_singleton
def Lv:=@List.append_nil
def Lw:=@List.length_drop
def Lx:=@List.length_singleton
def Ly:=@List.size_toArray
def Lz:=@Option.some.inj
def Ma:=@PySem.F.slot_list_append
def Mb:=@PySem.F.type_list_append
def Mc:=@Bool.false_ne_true
def Md:=@PySem.Heap.get?_push_size
def Me:=@List.flatMap_cons
def Mf:=@PySem.Heap.lt_size
def Mg:=@List.mem_append
def Mh:=@List.map_append
def Mi:=@List.flatMap_append
def Mj:=@Nat.le_of_lt
def Ml:=@PySem.F.slot_list_extend
def Mm:=@PySem.F.type_list_extend
def Mn:=@decide_eq_false
def Mo:=@List.length_nil
def Mp:=@List.map_cons
def Mq:=@List.getElem?_eq_some_iff
def Mr:=@List.take_length
def Ms:=@beq_eq_false_iff_ne
def Mt:=@List.getElem?_eq_getElem
def Mu:=@PySem.PassesOwn.never
def Mv:=@Int.eq_ofNat_of_zero_le
def Mw:=@List.mem_cons_of_mem
def Mx:=@List.take_of_length_le
def My:=@List.append_assoc
def Mz:=@List.drop_eq_getElem_cons
def Na:=@congrArg
def Nb:=@Nat.lt_of_lt_of_le
def Nc:=@List.mem_append_right
def Nd:=@List.take_append_drop
def Nf:=@PySem.mem_of_lookup
def Ng:=@Nat.ne_of_lt
def Nh:=@Int.toNat_natCast
def Ni:=@List.getLast?_concat
def Nj:=@List.dropLast_concat
def Nk:=@List.all_eq_true
def Nl:=@List.map_map
def Nm:=@List.mem_of_getElem?
def Nn:=@List.mem_cons_self
def No:=@Bool.false_eq_true
def Np:=@PySem.Heap.size_push
def Nq:=@Bool.not_eq_true
def Nr:=@Nat.min_eq_left
def Nt:=@Bool.and_eq_false_iff
def Nu:=@PySem.wpAny_callSpecial?_slot
def Nv:=@decide_eq_true_eq
def Nw:=@List.mem_map
def Ny:=@PySem.AutoSeq1.wpAny_loadPart'
def Nz:=@List.isPrefixOf_iff_prefix
def Oa:=@List.nil_append
def Ob:=@PySem.wpAny_mono
def Oc:=@PySem.wpAny_truthy_bool
def Od:=@PySem.wpAny_newObj_type
def Oe:=@List.length_eq_zero_iff
def Of:=@congrFun
def Og:=@PySem.wpAny_call_entry
def Oh:=@List.isEmpty_iff
def Oi:=@PySem.wpAny_field
def Oj:=@List.getElem?_eq_none
def Ol:=@List.eq_nil_or_concat
def Om:=@List.concat_eq_append
def On:=@if_false
def Oo:=@Nat.min_eq_right
def Op:=@List.not_mem_nil
def Oq:=@PySem.wpAny_holding
def Os:=@Bool.true_and
def Ot:=@List.mem_append_left
def Ou:=@Bool.not_eq_true'
def Ov:=@PyProof.Rows.callWith_type1
def Ow:=@Bool.eq_iff_iff
def Ox:=@List.drop_of_length_le
def Oy:=@Nat.lt_irrefl
def Oz:=@List.lookup_cons
def Pa:=@Nat.le_add_right
def Pb:=@List.drop_length
def Pc:=@List.mem_flatMap
def Pd:=@List.take_zero
def Pe:=@List.drop_drop
def Pf:=@PySem.F.slot_enumerate_next
def Pg:=@List.countP_le_length
def Ph:=@PyProof.Rows.slot_tuple_getitem
def Pj:=@List.countP_map
def Pk:=@List.getElem?_map
def Pl:=@PySem.wpAny_typeNameOfWhole_keyiter
def Pn:=@Array.length_toList
def Po:=@PySem.F.slot_dict_keyiterator_next
def Pp:=@List.drop_eq_nil_of_le
def Pq:=@PySem.wpAny_Call_Name_kw
def Pr:=@PySem.wpAny_passesOwn
def Pt:=@List.nodup_cons
def Pu:=@List.find?_cons
def Pw:=@List.getElem?_append_right
def Px:=@PySem.F.slot_tuple_iterator_next
def Py:=@PySem.wpAny_dictEntries
def Pz:=@PySem.wpAny_pyIter_enum
def Qa:=@beq_iff_eq
def Qb:=@List.getLastD_eq_getLast?
def Qc:=@PySem.wpAny_typeNameOf_keyiter
def Qe:=@decide_eq_decide
def Qg:=@Nat.sub_self
def Qh:=@Nat.succ_le_succ
def Qi:=@List.flatMap_nil
def Qj:=@List.flatMap_map
def Qk:=@PySem.Heap.SameBut.update
def Ql:=@List.any_cons
def Qm:=@List.filter_append
def Qn:=@PySem.wpAny_setField_rec
def Qo:=@List.prefix_append
def Qp:=@List.zipIdx_append
def Qq:=@PySem.Calls.callWith_builtin
def Qs:=@List.countP_congr
def Qt:=@Nat.ne_of_gt
def Qu:=@not_or
def Qv:=@List.isPrefixOf_cons₂
def Qw:=@List.filterMap_append
def Qx:=@List.any_eq_true
def Qy:=@List.filter_cons
def Qz:=@List.mem_of_mem_take
def Ra:=@List.map_flatMap
def Rb:=@List.zipIdx_cons
def Rc:=@PySem.wpAny_letOwnedTupleGo_enum
def Re:=@if_true
def Rf:=@List.filterMap_cons
def Rg:=@List.map_congr_left
def Rh:=@List.forIn_cons
def Ri:=@Option.map_some
def Rj:=@PySem.wpAny_dictEpoch
def Rk:=@List.mem_filterMap
def Rl:=@PySem.codeAny_mono
def Rm:=@List.map_nil
def Rn:=@PySem.Obj.data_mapFields
def Ro:=@Nat.add_sub_cancel
def Rp:=@or_false
def Rq:=@List.forIn_nil
def Rr:=@List.drop_left
def Rs:=@PySem.F.args_enumerate_next_1
def Rt:=@List.append_cancel_left
def Ru:=@PySem.wpAny_pyIter_list
def Rv:=@Nat.le_of_succ_le
def Rw:=@Nat.lt_succ_of_lt
def Rx:=@List.reverse_cons
def Ry:=@List.nodup_append
def Rz:=@List.getElem?_set_self
def Sa:=@PySem.sizeLine_eq
def Sb:=@PySem.F.entry_enumerate_next
def Sc:=@PySem.Paired.length
def Sd:=@PySem.wpAny_attempt
def Se:=@List.sum_cons
def Sf:=@PySem.wpAny_isInstance
def Sg:=@Nat.succ.inj
def Sh:=@Nat.lt_or_ge
namespace L2
open PySem
def ba(s:Stmt)(j:Nat):Stmt:=match s with
 |.ClassDef _ _ _ body _ _ _ _ _ _ _=>body.getD j (.Pass ⟨0,0,0,0⟩)
 |_=>.Pass ⟨0,0,0,0⟩
def eR(s:Stmt):Arguments:=match s with
 |.FunctionDef _ a _ _ _ _ _ _ _ _=>a
 |_=>{posonlyargs:=[],args:=[],vararg:=none,kwonlyargs:=[],kw_defaults:=[],kwarg:=none,defaults:=[]}
def dM(s:Stmt):List Stmt:=match s with
 |.FunctionDef _ _ b _ _ _ _ _ _ _=>b
 |_=>[]
def aB(s:Stmt):Scope:=match s with
 |.FunctionDef _ _ _ _ _ _ sc _ _ _=>sc
 |_=>{kind:=.function,names:=[],isGenerator:=false,isCoroutine:=false}
end L2
namespace Tw
open PySem
def bg(i:Nat):Stmt:=PySem.Challenge.pw_tangleweave_s01_answers.main.body.getD i (.Pass ⟨0,0,0,0⟩)
end Tw
namespace Th
open PySem PySem.W PyProof.Rows
abbrev pw:=PySem.Challenge.pw_tangleweave_s01_answers
abbrev nm:=PySem.Challenge.nm_tangleweave_s01_answers
abbrev rW:=PySem.Challenge.rw_tangleweave_s01_answers
theorem Jj:(sreFenced pw.main&&((moduleNames pw.main.body).isEmpty||lookedIntoSs (moduleNames pw.main.body) pw.main.body))=true:=by kernel_rfl
theorem Jk:namesResolve pw=true:=by rw[Fast.te8377067652309620493];kernel_rfl
theorem Jl:pw.boundNames.all (λ n=>!worldNames.contains n)=true:=by kernel_rfl
theorem Jm:noRoadLSs {strict:=!(importedModules pw.main.body).all cThrough.contains,foot:=none,bare:=(["vars","dir","locals"]:List Str).filter (readsOut pw pw.main.body)} pw.main.body=true:=by rw[Fast.te8326940854005059898,Fast.te5923862056798008813,Fast.te13343964577679436407];kernel_rfl
theorem Jn:(namesMeet pw pw.main.body λ _ n=>attrL n)=true:=by rw[Fast.te17119622794617984870,Fast.te17868728402115742887];kernel_rfl
theorem Jo:looksOpen pw=true:=by unfold looksOpen;rw[Jj,Jk,Jl,Jm,Jn];rfl
theorem h_well:rW.wellSaid=true:=by
 show(looksOpen pw&&pw.boundNames.contains nm&&!startupNames.contains nm&&specDef pw nm 1&&PySem.Challenge.fa_tangleweave_s01_answers.all Codec.fits&&PySem.Challenge.fr_tangleweave_s01_answers.ok)=true;rw[Jo]
 kernel_rfl
theorem h_tab:pw.tablesWhole=true:=by kernel_rfl
end Th
namespace Th
open PySem PySem.W L2 Tw
noncomputable section
def oy:Stmt->Str
 |.FunctionDef n _ _ _ _ _ _ _ _ _=>n
 |_=>Str.empty
def Cg:Stmt->Int
 |.FunctionDef _ _ _ _ _ _ _ _ _ p=>p.line
 |_=>0
def FE(s:Stmt):List Str:=(aB s).names.filterMap λ x=>match x.2 with
 |.local=>some x.1
 |_=>none
def en(x:Str)(t:Nat)(v:Value):Str×Nat×Value:=(x,t,v)
def cF:Str :="/claim/cut.py"
def tN:List Str->Nat->List Value
 |[],_=>[]
 |x::r,t=>.str x t::tN r (t+1)
def oE:Obj:=⟨.type "tuple",none,.seq #[],#[]⟩
def oZ:Obj:=⟨.none,none,.fields #[],#[]⟩
def oN(l:List Str)(t:Nat):Obj:=⟨.type "tuple",none,.seq (tN l t).toArray,#[]⟩
def oL(l:List (Int×Int×Nat)):Obj:=⟨.none,none,.fields (l.flatMap λ x=>[.int x.1 0,.int x.2.1 0,.ref x.2.2]).toArray,#[]⟩
def oD(P:Params)(l:List (Str×Nat×Value))(n:Nat):Obj:=⟨.type "dict",none,.dict (l.map λ x=>⟨PyData.keyHash P x.1,.str x.1 x.2.1,x.2.2⟩).toArray n,#[]⟩
def oX(x:String)(l:List Value):Obj:=⟨.type x,none,.fields l.toArray,#[]⟩
def cA:Obj:=oX "builtin_function_or_method" [.builtin "type.__prepare__",.type "type"]
def cK(x q:Str)(l n f:Int)(a:Nat)(b:Bool)(u v w:Value)(t s:Nat):Obj:=oX "code" [.str x t,.str q (t+1),.str cF (t+2),.int l 0,.int n 0,.int 0 0,.int 0 0,.int f 0,.ref a,.bool b,.int 181 0,.ref (a+1),.none,u,v,w,.int s 0,.int l 0,.str cF (s+1)]
def cC(x:Str)(l:Int)(a t:Nat):Obj:=cK x x l 0 0 a false .none .none .none t (t+3)
def cP(c n:Nat)(m:Value):Obj:=⟨.type "frame",none,.plain,#[some (.ref c),some (.ref 3),some (.ref n),none,some m,none,some (.ref 0)]⟩
def cT(x:Str)(n a t s:Nat):Obj:=⟨.type "type",none,.cls {name:=x,bases:=[.type "object"],mro:=[.ref a,.type "object"],ns:=n,qualname:=x},#[none,none,some (.str x t),some (.str x s),some (.builtin "object.__new__"),some (.bool true)]⟩
def c1(a t:Nat):Obj:=oX "getset_descriptor" [.str "__dict__" t,.ref a,.builtin "function.__dict__",.builtin "function.__dict__#set"]
def c2(a t:Nat):Obj:=oX "getset_descriptor" [.str "__weakref__" t,.ref a,.builtin "ExceptionGroup.__weakref__",.none]
def c3(a:Nat):Obj:=oX "super" [.ref a,.ref a,.ref a]
def c4(a:Nat):Obj:=oX "builtin_function_or_method" [.builtin "object.__init_subclass__",.ref a]
def oG(q:Str)(s:Stmt):Obj:=⟨.none,none,.func {name:=oy s,qualname:=q,params:=eR s,body:=.stmts (dM s),scope:=aB s,globals:=0,closure:=[],defaults:=.none,kwdefaults:=.none},#[]⟩
def oF(q:Str)(s:Stmt)(m:Value)(c:Nat):Obj:=⟨.type "function",none,.func (fnOf (oy s) q (eR s) (dM s) (aB s) .none .none .none m none (.ref c) .none),#[]⟩
def IY(q:Str)(s:Stmt)(m:Value)(a t:Nat):List Obj:=[oE,oZ,oG q s,cK (oy s) q (Cg s) (eR s).args.length 3 a true .none .none (.ref (a+2)) t (t+3),oF q s m (a+3)]
def IZ(q:Str)(s:Stmt)(m:Value)(a t:Nat):List Obj:=[oE,oZ,oN (FE s) (t+3),oE,oG q s,cK (oy s) q (Cg s) (eR s).args.length 3 a true (.ref (a+2)) (.ref (a+3)) (.ref (a+4)) t (t+3+(FE s).length),oF q s m (a+5)]
def fo(i:Nat):=IY (oy (bg i)) (bg i)
def fn(i:Nat):=IZ (oy (bg i)) (bg i)
def mo(q:Str)(i j:Nat):=IY q (ba (bg i) j)
def mn(q:Str)(i j:Nat):=IZ q (ba (bg i) j)
def m0:Value:=(.str "tangleweave.signs" 187)
def m1:Value:=(.str "tangleweave.words" 280)
def m2:Value:=(.str "tangleweave.called" 341)
def m3:Value:=(.str "tangleweave.codelines" 404)
def m4:Value:=(.str "tangleweave.blocks" 576)
def m5:Value:=(.str "tangleweave.reading" 730)
def m6:Value:=(.str "tangleweave.holding" 914)
def m7:Value:=(.str "tangleweave.editing" 963)
def m8:Value:=(.str "tangleweave.standing" 1045)
def m9:Value:=(.str "tangleweave.renaming" 1125)
def ox:Value:=(.str "tangleweave.telling" 1231)
def qj:Value:=(.str "tangleweave.documents" 1352)
noncomputable def dg:List (Str×Nat×Value):=[en "__doc__" 166 .none,
en "__package__" 167 .none,
en "__loader__" 168 (.builtin "__main__.__loader__#opaque"),
en "__spec__" 169 .none,
en "__annotations__" 170 (.ref 6),
en "__builtins__" 171 (.ref 4),
en "__file__" 173 (.str "/claim/cut.py" 172),
en "__cached__" 174 .none,
en "LINE_END" 190 (.int 10 189),
en "BLANK" 192 (.int 32 191),
en "ROUND_OPEN" 194 (.int 40 193),
en "ROUND_CLOSE" 196 (.int 41 195),
en "COMMA" 198 (.int 44 197),
en "DASH" 200 (.int 45 199),
en "ANGLE_CLOSE" 202 (.int 62 201),
en "AT" 204 (.int 64 203),
en "CURLY_OPEN" 206 (.int 123 205),
en "CURLY_CLOSE" 208 (.int 125 207),
en "LONGEST_ROW" 210 (.int 200 209),
en "codes" 216 (.ref 19),
en "is_sign" 223 (.ref 26),
en "is_small_letter" 230 (.ref 33),
en "is_capital_letter" 237 (.ref 40),
en "is_digit" 244 (.ref 47),
en "begins_with" 252 (.ref 54),
en "place_of" 262 (.ref 61),
en "is_line_of_signs" 268 (.ref 66),
en "split_at" 279 (.ref 73),
en "LONGEST_NAME" 283 (.int 30 282),
en "LONGEST_PATH" 285 (.int 40 284),
en "LONGEST_SHORT_NAME" 287 (.int 12 286),
en "LONGEST_ARGUMENT" 289 (.int 40 288),
en "is_small_letter_or_digit" 296 (.ref 80),
en "is_word" 302 (.ref 85),
en "is_name" 308 (.ref 90),
en "is_path_sign" 315 (.ref 97),
en "is_path" 321 (.ref 102),
en "is_short_name" 327 (.ref 107),
en "is_argument_sign" 334 (.ref 114),
en "is_argument" 340 (.ref 119),
en "Called" 373 (.ref 136),
en "split_listed" 383 (.ref 147),
en "read_called" 393 (.ref 154),
en "called_text" 403 (.ref 161),
en "LITERAL" 407 (.int 0 406),
en "USE" 409 (.int 1 408),
en "PARAMETER" 411 (.int 2 410),
en "CODE" 413 (.int 0 412),
en "IF" 415 (.int 1 414),
en "ELSE" 417 (.int 2 416),
en "END_OF_IF" 419 (.int 3 418),
en "Piece" 452 (.ref 178),
en "Line" 485 (.ref 199),
en "read_line" 492 (.ref 210),
en "read_if" 499 (.ref 217),
en "read_code_line" 512 (.ref 224),
en "literal_step" 520 (.ref 231),
en "literal_pieces" 527 (.ref 238),
en "marked_end" 536 (.ref 245),
en "read_marked" 544 (.ref 252),
en "read_use" 550 (.ref 257),
en "piece_text" 557 (.ref 264),
en "literal_text" 566 (.ref 271),
en "line_text" 575 (.ref 278),
en "PROSE" 579 (.int 0 578),
en "CHUNK" 581 (.int 1 580),
en "FILE" 583 (.int 2 582),
en "MOST_PARAMETERS" 585 (.int 4 584),
en "Prose" 615 (.ref 295),
en "Part" 650 (.ref 316),
en "is_part" 657 (.ref 327),
en "parts_among" 663 (.ref 332),
en "lines_of" 670 (.ref 339),
en "count_lines" 676 (.ref 344),
en "read_header" 683 (.ref 351),
en "read_file_header" 690 (.ref 358),
en "read_chunk_header" 698 (.ref 365),
en "are_parameters" 704 (.ref 370),
en "header_text" 711 (.ref 377),
en "block_text" 720 (.ref 384),
en "blocks_text" 729 (.ref 391),
en "MOST_BLOCKS" 733 (.int 200 732),
en "MOST_PARTS" 735 (.int 60 734),
en "MOST_LINES" 737 (.int 400 736),
en "MOST_CONDITIONS" 739 (.int 6 738),
en "NO_FAULT" 741 (.int 0 740),
en "NOT_A_LINE_OF_SIGNS" 743 (.int 1 742),
en "NOT_A_HEADER" 745 (.int 2 744),
en "NOT_A_LINE" 747 (.int 3 746),
en "NOT_PAIRED" 749 (.int 4 748),
en "NOT_A_PARAMETER" 751 (.int 5 750),
en "TOO_MANY" 753 (.int 6 752),
en "OTHER_PARAMETERS" 755 (.int 7 754),
en "END_MISSING" 757 (.int 8 756),
en "Reading" 790 (.ref 408),
en "Reader" 882 (.ref 478),
en "read_text" 895 (.ref 489),
en "WRONG_FORM" 898 (.int (-1) 897),
en "NO_SUCH_PLACE" 901 (.int (-2) 900),
en "NOT_THERE" 904 (.int (-3) 903),
en "NOT_FITTING" 907 (.int (-4) 906),
en "TAKEN" 910 (.int (-5) 909),
en "NO_DOCUMENT" 913 (.int (-6) 912),
en "MOST_BYTES" 917 (.int 20000 916),
en "Document" 962 (.ref 520),
en "read" 973 (.ref 531),
en "put" 984 (.ref 538),
en "is_stretch" 993 (.ref 545),
en "cut" 1003 (.ref 552),
en "move" 1016 (.ref 559),
en "read_lines" 1028 (.ref 566),
en "lines" 1044 (.ref 573),
en "pieces_of" 1055 (.ref 580),
en "ifs_among" 1061 (.ref 585),
en "each_once" 1070 (.ref 592),
en "standing_names" 1076 (.ref 597),
en "standing_files" 1082 (.ref 602),
en "standing_settings" 1088 (.ref 607),
en "is_part_of" 1097 (.ref 614),
en "parts_of" 1103 (.ref 619),
en "part_places" 1109 (.ref 624),
en "use_places" 1124 (.ref 631),
en "is_taken" 1135 (.ref 638),
en "changed_row" 1144 (.ref 645),
en "changed_piece" 1154 (.ref 652),
en "changed_line" 1160 (.ref 657),
en "changed_lines" 1166 (.ref 662),
en "renamed" 1176 (.ref 669),
en "rename" 1182 (.ref 674),
en "refiled" 1191 (.ref 681),
en "refile" 1197 (.ref 686),
en "reparametered" 1203 (.ref 691),
en "reparam" 1209 (.ref 696),
en "resettled_line" 1218 (.ref 703),
en "resettled" 1224 (.ref 708),
en "resettle" 1230 (.ref 713),
en "counted" 1239 (.ref 720),
en "counted_texts" 1248 (.ref 727),
en "show" 1255 (.ref 734),
en "block" 1264 (.ref 741),
en "names" 1271 (.ref 748),
en "files" 1278 (.ref 755),
en "settings" 1285 (.ref 762),
en "parts" 1295 (.ref 769),
en "uses" 1306 (.ref 776),
en "params" 1315 (.ref 783),
en "pieces" 1326 (.ref 790),
en "line_numbers" 1335 (.ref 797),
en "piece_numbers" 1343 (.ref 804),
en "size" 1351 (.ref 811),
en "READ" 1355 (.int 0 1354),
en "SHOW" 1357 (.int 1 1356),
en "BLOCK" 1359 (.int 2 1358),
en "PUT" 1361 (.int 3 1360),
en "CUT" 1363 (.int 4 1362),
en "MOVE" 1365 (.int 5 1364),
en "LINES" 1367 (.int 6 1366),
en "RENAME" 1369 (.int 7 1368),
en "REFILE" 1371 (.int 8 1370),
en "REPARAM" 1373 (.int 9 1372),
en "RESETTLE" 1375 (.int 10 1374),
en "NAMES" 1377 (.int 11 1376),
en "FILES" 1379 (.int 12 1378),
en "SETTINGS" 1381 (.int 13 1380),
en "PARTS" 1383 (.int 14 1382),
en "USES" 1385 (.int 15 1384),
en "PARAMS" 1387 (.int 16 1386),
en "PIECES" 1389 (.int 17 1388),
en "SIZE" 1391 (.int 18 1390),
en "Call" 1426 (.ref 828),
en "form_of" 1434 (.ref 839),
en "call_at" 1448 (.ref 846),
en "edited_answer" 1458 (.ref 853),
en "renamed_answer" 1467 (.ref 860),
en "whole_answer" 1475 (.ref 867),
en "single_answer" 1485 (.ref 874),
en "answer_of" 1493 (.ref 881),
en "answers" 1505 (.ref 888)]
noncomputable def ls:List (Nat×Nat):=[(13,18),(15,25),(17,32),(19,39),(21,46),(23,53),(25,60),(30,65),(32,72),(46,79),(48,84),(50,89),(52,96),(54,101),(56,106),(60,113),(62,118),(67,125),(72,146),(83,153),(96,160),(112,167),(118,188),(124,209),(132,216),(136,223),(156,230),(162,237),(166,244),(169,251),(176,256),(181,263),(187,270),(194,277),(210,284),(215,305),(222,326),(224,331),(226,338),(228,343),(230,350),(236,357),(240,364),(245,369),(249,376),(253,383),(264,390),(283,397),(289,418),(366,488),(387,495),(408,530),(416,537),(426,544),(428,551),(434,558),(444,565),(456,572),(472,579),(477,584),(482,591),(487,596),(494,601),(496,606),(498,613),(500,618),(502,623),(504,630),(513,637),(515,644),(517,651),(521,656),(524,661),(526,668),(531,673),(542,680),(546,685),(557,690),(562,695),(576,702),(580,707),(584,712),(596,719),(598,726),(603,733),(605,740),(610,747),(612,754),(614,761),(616,768),(621,775),(627,782),(632,789),(640,796),(649,803),(654,810),(677,817),(684,838),(687,845),(698,852),(710,859),(719,866),(729,873),(741,880),(749,887)]
noncomputable def gs(P:Params):List (List Obj):=[fo 12 m0 15 211,
fn 13 m0 20 217,
fn 14 m0 27 224,
fn 15 m0 34 231,
fn 16 m0 41 238,
fn 17 m0 48 245,
fn 18 m0 55 253,
fo 19 m0 62 263,
fn 20 m0 67 269,
fn 26 m1 74 290,
fo 27 m1 81 297,
fo 28 m1 86 303,
fn 29 m1 91 309,
fo 30 m1 98 316,
fo 31 m1 103 322,
fn 32 m1 108 328,
fo 33 m1 115 335,
[oE,cA,oD P [("__module__",350,m2),("__qualname__",352,.str "Called" 351),("__firstlineno__",354,.int 67 353),("__init__",363,.ref 133),("__static_attributes__",366,.ref 134)] 5,oE,oL [(69,4,132)],cC "Called" 67 123 345,cP 125 122 m2],
mn "Called.__init__" 35 0 m2 127 355,
[oN ["entries","name"] 364,oD P [("__module__",350,m2),("__firstlineno__",354,.int 67 353),("__init__",363,.ref 133),("__static_attributes__",366,.ref 134),("__dict__",368,.ref 137),("__weakref__",370,.ref 138),("__doc__",371,.none)] 4,cT "Called" 135 136 343 351,c1 136 367,c2 136 369,c3 136,c4 136],
fn 36 m2 141 374,
fn 37 m2 148 384,
fn 38 m2 155 394,
[oE,cA,oD P [("__module__",427,m3),("__qualname__",429,.str "Piece" 428),("__firstlineno__",431,.int 112 430),("__init__",441,.ref 175),("__static_attributes__",445,.ref 176)] 5,oE,oL [(114,4,174)],cC "Piece" 112 165 422,cP 167 164 m3],
mn "Piece.__init__" 47 0 m3 169 432,
[oN ["arguments","kind","text"] 442,oD P [("__module__",427,m3),("__firstlineno__",431,.int 112 430),("__init__",441,.ref 175),("__static_attributes__",445,.ref 176),("__dict__",447,.ref 179),("__weakref__",449,.ref 180),("__doc__",450,.none)] 4,cT "Piece" 177 178 420 428,c1 178 446,c2 178 448,c3 178,c4 178,oE,cA,oD P [("__module__",460,m3),("__qualname__",462,.str "Line" 461),("__firstlineno__",464,.int 118 463),("__init__",474,.ref 196),("__static_attributes__",478,.ref 197)] 5,oE,oL [(120,4,195)],cC "Line" 118 186 455,cP 188 185 m3],
mn "Line.__init__" 48 0 m3 190 465,
[oN ["kind","pieces","setting"] 475,oD P [("__module__",460,m3),("__firstlineno__",464,.int 118 463),("__init__",474,.ref 196),("__static_attributes__",478,.ref 197),("__dict__",480,.ref 200),("__weakref__",482,.ref 201),("__doc__",483,.none)] 4,cT "Line" 198 199 453 461,c1 199 479,c2 199 481,c3 199,c4 199],
fn 49 m3 204 486,
fn 50 m3 211 493,
fn 51 m3 218 500,
fn 52 m3 225 513,
fn 53 m3 232 521,
fn 54 m3 239 528,
fn 55 m3 246 537,
fo 56 m3 253 545,
fn 57 m3 258 551,
fn 58 m3 265 558,
fn 59 m3 272 567,
[oE,cA,oD P [("__module__",593,m4),("__qualname__",595,.str "Prose" 594),("__firstlineno__",597,.int 210 596),("__init__",605,.ref 292),("__static_attributes__",608,.ref 293)] 5,oE,oL [(212,4,291)],cC "Prose" 210 282 588,cP 284 281 m4],
mn "Prose.__init__" 65 0 m4 286 598,
[oN ["kind","row"] 606,oD P [("__module__",593,m4),("__firstlineno__",597,.int 210 596),("__init__",605,.ref 292),("__static_attributes__",608,.ref 293),("__dict__",610,.ref 296),("__weakref__",612,.ref 297),("__doc__",613,.none)] 4,cT "Prose" 294 295 586 594,c1 295 609,c2 295 611,c3 295,c4 295,oE,cA,oD P [("__module__",623,m4),("__qualname__",625,.str "Part" 624),("__firstlineno__",627,.int 215 626),("__init__",638,.ref 313),("__static_attributes__",643,.ref 314)] 5,oE,oL [(217,4,312)],cC "Part" 215 303 618,cP 305 302 m4],
mn "Part.__init__" 66 0 m4 307 628,
[oN ["kind","lines","name","parameters"] 639,oD P [("__module__",623,m4),("__firstlineno__",627,.int 215 626),("__init__",638,.ref 313),("__static_attributes__",643,.ref 314),("__dict__",645,.ref 317),("__weakref__",647,.ref 318),("__doc__",648,.none)] 4,cT "Part" 315 316 616 624,c1 316 644,c2 316 646,c3 316,c4 316],
fn 67 m4 321 651,
fo 68 m4 328 658,
fn 69 m4 333 664,
fo 70 m4 340 671,
fn 71 m4 345 677,
fn 72 m4 352 684,
fn 73 m4 359 691,
fo 74 m4 366 699,
fn 75 m4 371 705,
fn 76 m4 378 712,
fn 77 m4 385 721,
[oE,cA,oD P [("__module__",765,m5),("__qualname__",767,.str "Reading" 766),("__firstlineno__",769,.int 283 768),("__init__",779,.ref 405),("__static_attributes__",783,.ref 406)] 5,oE,oL [(285,4,404)],cC "Reading" 283 395 760,cP 397 394 m5],
mn "Reading.__init__" 92 0 m5 399 770,
[oN ["blocks","line","reason"] 780,oD P [("__module__",765,m5),("__firstlineno__",769,.int 283 768),("__init__",779,.ref 405),("__static_attributes__",783,.ref 406),("__dict__",785,.ref 409),("__weakref__",787,.ref 410),("__doc__",788,.none)] 4,cT "Reading" 407 408 758 766,c1 408 784,c2 408 786,c3 408,c4 408,oE,cA,oD P [("__module__",798,m5),("__qualname__",800,.str "Reader" 799),("__firstlineno__",802,.int 289 801),("__init__",809,.ref 426),("take",817,.ref 433),("take_outside",826,.ref 440),("take_prose",834,.ref 447),("take_header",842,.ref 454),("take_end",849,.ref 461),("take_within",859,.ref 468),("take_condition",868,.ref 475),("__static_attributes__",875,.ref 476)] 12,oE,oL [(291,4,425),(299,4,432),(308,4,439),(316,4,446),(322,4,453),(334,4,460),(340,4,467),(355,4,474)],cC "Reader" 289 416 793,cP 418 415 m5],
mn "Reader.__init__" 93 0 m5 420 803,
mn "Reader.take" 93 1 m5 427 810,
mn "Reader.take_outside" 93 2 m5 434 818,
mn "Reader.take_prose" 93 3 m5 441 827,
mn "Reader.take_header" 93 4 m5 448 835,
mn "Reader.take_end" 93 5 m5 455 843,
mn "Reader.take_within" 93 6 m5 462 850,
mn "Reader.take_condition" 93 7 m5 469 860,
[oN ["blocks","conditions","line_count","parameters_of","part","part_count"] 869,oD P [("__module__",798,m5),("__firstlineno__",802,.int 289 801),("__init__",809,.ref 426),("take",817,.ref 433),("take_outside",826,.ref 440),("take_prose",834,.ref 447),("take_header",842,.ref 454),("take_end",849,.ref 461),("take_within",859,.ref 468),("take_condition",868,.ref 475),("__static_attributes__",875,.ref 476),("__dict__",877,.ref 479),("__weakref__",879,.ref 480),("__doc__",880,.none)] 4,cT "Reader" 477 478 791 799,c1 478 876,c2 478 878,c3 478,c4 478],
fn 94 m5 483 883,
[oE,cA,oD P [("__module__",925,m6),("__qualname__",927,.str "Document" 926),("__firstlineno__",929,.int 387 928),("__init__",936,.ref 503),("hold",945,.ref 510),("part_refusal",953,.ref 517),("__static_attributes__",955,.ref 518)] 7,oE,oL [(389,4,502),(392,4,509),(401,4,516)],cC "Document" 387 493 920,cP 495 492 m6],
mn "Document.__init__" 103 0 m6 497 930,
mn "Document.hold" 103 1 m6 504 937,
mn "Document.part_refusal" 103 2 m6 511 946,
[oN ["blocks"] 954,oD P [("__module__",925,m6),("__firstlineno__",929,.int 387 928),("__init__",936,.ref 503),("hold",945,.ref 510),("part_refusal",953,.ref 517),("__static_attributes__",955,.ref 518),("__dict__",957,.ref 521),("__weakref__",959,.ref 522),("__doc__",960,.none)] 4,cT "Document" 519 520 918 926,c1 520 956,c2 520 958,c3 520,c4 520],
fn 105 m7 525 965,
fn 106 m7 532 974,
fn 107 m7 539 985,
fn 108 m7 546 994,
fn 109 m7 553 1004,
fn 110 m7 560 1017,
fn 111 m7 567 1029,
fn 113 m8 574 1047,
fo 114 m8 581 1056,
fn 115 m8 586 1062,
fo 116 m8 593 1071,
fo 117 m8 598 1077,
fo 118 m8 603 1083,
fn 119 m8 608 1089,
fo 120 m8 615 1098,
fo 121 m8 620 1104,
fn 122 m8 625 1110,
fn 124 m9 632 1127,
fn 125 m9 639 1136,
fn 126 m9 646 1145,
fo 127 m9 653 1155,
fo 128 m9 658 1161,
fn 129 m9 663 1167,
fo 130 m9 670 1177,
fn 131 m9 675 1183,
fo 132 m9 682 1192,
fo 133 m9 687 1198,
fo 134 m9 692 1204,
fn 135 m9 697 1210,
fo 136 m9 704 1219,
fo 137 m9 709 1225,
fn 139 ox 714 1233,
fn 140 ox 721 1240,
fn 141 ox 728 1249,
fn 142 ox 735 1256,
fn 143 ox 742 1265,
fn 144 ox 749 1272,
fn 145 ox 756 1279,
fn 146 ox 763 1286,
fn 147 ox 770 1296,
fn 148 ox 777 1307,
fn 149 ox 784 1316,
fn 150 ox 791 1327,
fn 151 ox 798 1336,
fn 152 ox 805 1344,
[oE,cA,oD P [("__module__",1399,qj),("__qualname__",1401,.str "Call" 1400),("__firstlineno__",1403,.int 677 1402),("__init__",1414,.ref 825),("__static_attributes__",1419,.ref 826)] 5,oE,oL [(679,4,824)],cC "Call" 677 815 1394,cP 817 814 qj],
mn "Call.__init__" 173 0 qj 819 1404,
[oN ["end","kind","numbers","rows"] 1415,oD P [("__module__",1399,qj),("__firstlineno__",1403,.int 677 1402),("__init__",1414,.ref 825),("__static_attributes__",1419,.ref 826),("__dict__",1421,.ref 829),("__weakref__",1423,.ref 830),("__doc__",1424,.none)] 4,cT "Call" 827 828 1392 1400,c1 828 1420,c2 828 1422,c3 828,c4 828],
fn 174 qj 833 1427,
fn 175 qj 840 1435,
fn 176 qj 847 1449,
fn 177 qj 854 1459,
fn 178 qj 861 1468,
fn 179 qj 868 1476,
fn 180 qj 875 1486,
fn 181 qj 882 1494]
def dO(P:Params)(m:Value)(k n:Nat):Obj:=oD P ((en "__name__" 165 m::dg).take k) n
def lO(k:Nat):Obj:=oL ((ls.take k).map λ x=>((x.1:Int),0,x.2))
def ob(P:Params)(d l:Obj):List Obj:=boot_o_0 P::boot_o_1 P::boot_o_2 P::d::boot_o_4 P::boot_o_5 P::boot_o_6 P::boot_o_7 P::boot_o_8 P::boot_o_9 P::boot_o_10 P::oE::l::cC "<module>" 1 11 182::cP 13 3 (.str "__main__" 164):: (gs P).flatten
def sP(l:List Obj):List Obj×List Obj:=@List.rec Obj (λ _=>List Obj×List Obj) ([],[]) (λ x _ p=>(x::p.2,p.1)) l
def tR(k:Nat):List Obj->BT:=@Nat.rec (λ _=>List Obj->BT) (λ _=>.nil) (λ _ f l=>@List.rec Obj (λ _=>BT) .nil (λ x r _=>.node x (f (sP r).1) (f (sP r).2)) l) k
def tS(P:Params)(m:Value)(n k e j:Nat):BT:=tR 10 ((ob P (dO P m k e) (lO j)).take n)
def Hd(P:Params):List Obj:=ob P (dO P qj 179 179) (lO 105)
def ev:Env:={scope:=pw.main.scope,locals:=mainNs,globals:=mainNs,cells:=[],code:=.ref 13,frame:=some 14}
end
def sg(i k:Nat):List Stmt:=(pw.main.body.drop i).take k
abbrev p0:Pos:=⟨0,0,0,0⟩
abbrev an:Option Value:=some (.ref 6)
theorem Jp(w:World):(fun(p:Program) (b:List Stmt) (os:OsState)=>Fast.tw10110043849684766642 Fast.tw14364793385576792824 p w 11 (some (.ref 6)) 1 2397 ⟨tS w.params (.str "__main__" 164) 15 9 9 0,15,{},#[],{},187,os⟩ (piecesOf (sg 0 70) ev (.body b ev) ⟨0,0,0,0⟩ [topFrame ⟨0,0,0,0⟩]))=λ p b os=>some (.next,⟨tS w.params m4 340 74 74 39,340,{},#[],{},671,os⟩,.body b ev,⟨226,0,227,48⟩):=by kernel_rfl
theorem Il(w:World):(fun(p:Program) (b:List Stmt) (os:OsState)=>Fast.tw10110043849684766642 Fast.tw14364793385576792824 p w 11 (some (.ref 6)) 1 2185 ⟨tS w.params m4 340 74 74 39,340,{},#[],{},671,os⟩ (piecesOf (sg 70 60) ev (.body b ev) ⟨226,0,227,48⟩ [topFrame ⟨0,0,0,0⟩]))=λ p b os=>some (.next,⟨tS w.params m9 670 129 129 74,670,{},#[],{},1177,os⟩,.body b ev,⟨526,0,530,88⟩):=by kernel_rfl
theorem He(w:World):(fun(p:Program) (b:List Stmt) (os:OsState)=>Fast.tw10110043849684766642 Fast.tw14364793385576792824 p w 11 (some (.ref 6)) 1 1318 ⟨tS w.params m9 670 129 129 74,670,{},#[],{},1177,os⟩ (piecesOf (sg 130 52) ev (.body b ev) ⟨526,0,530,88⟩ [topFrame ⟨0,0,0,0⟩]))=λ p b os=>some (.next,⟨tS w.params qj 889 179 179 105,889,{},#[],{},1506,os⟩,.body b ev,⟨749,0,759,16⟩):=by kernel_rfl
theorem Jq(w:World)(p:Program)(b:List Stmt)(os:OsState):segRun treeTable p w 11 an 1 2397 (SharedT.abs ⟨tS w.params (.str "__main__" 164) 15 9 9 0,15,{},#[],{},187,os⟩) (piecesOf (sg 0 70) ev (.body b ev) ⟨0,0,0,0⟩ [topFrame p0])=some (.next,(SharedT.abs ⟨tS w.params m4 340 74 74 39,340,{},#[],{},671,os⟩),.body b ev,⟨226,0,227,48⟩):=
 segRun_of (by rw[Fast.te10110043849684766642,Fast.te14364793385576792824];exact Of (Of (Of (Jp w) p) b) os)
theorem Im(w:World)(p:Program)(b:List Stmt)(os:OsState):segRun treeTable p w 11 an 1 2185 (SharedT.abs ⟨tS w.params m4 340 74 74 39,340,{},#[],{},671,os⟩) (piecesOf (sg 70 60) ev (.body b ev) ⟨226,0,227,48⟩ [topFrame p0])=some (.next,(SharedT.abs ⟨tS w.params m9 670 129 129 74,670,{},#[],{},1177,os⟩),.body b ev,⟨526,0,530,88⟩):=
 segRun_of (by rw[Fast.te10110043849684766642,Fast.te14364793385576792824];exact Of (Of (Of (Il w) p) b) os)
theorem Hf(w:World)(p:Program)(b:List Stmt)(os:OsState):segRun treeTable p w 11 an 1 1318 (SharedT.abs ⟨tS w.params m9 670 129 129 74,670,{},#[],{},1177,os⟩) (piecesOf (sg 130 52) ev (.body b ev) ⟨526,0,530,88⟩ [topFrame p0])=some (.next,(SharedT.abs ⟨tS w.params qj 889 179 179 105,889,{},#[],{},1506,os⟩),.body b ev,⟨749,0,759,16⟩):=
 segRun_of (by rw[Fast.te10110043849684766642,Fast.te14364793385576792824];exact Of (Of (Of (He w) p) b) os)
theorem Ch:behindTheImports pw=sg 0 70++(sg 70 60++(sg 130 52++[])):=by kernel_rfl
theorem Hg(w:World):(λ os=>topGo treeTable pw w 11 an 12 ⟨boot_heap w.params,Array.mk [],boot_drawn,boot_toks,os⟩ (topStub pw))=λ os=>some ((SharedT.abs ⟨tS w.params (.str "__main__" 164) 15 9 9 0,15,{},#[],{},187,os⟩),⟨denote treeTable (.body (behindTheImports pw) ev),.body (behindTheImports pw) ev,p0,[topFrame p0]⟩):=by kernel_rfl
theorem Eg(w:World):(λ os=>segRun treeTable pw w 11 an 1 1 (SharedT.abs ⟨tS w.params (.str "__main__" 164) 15 9 9 0,15,{},#[],{},187,os⟩) (blockOf (behindTheImports pw) ev (.body (behindTheImports pw) ev) p0 [topFrame p0]))=λ os=>some (.next,(SharedT.abs ⟨tS w.params (.str "__main__" 164) 15 9 9 0,15,{},#[],{},187,os⟩),.body (behindTheImports pw) ev,p0):=by kernel_rfl
theorem Hh(w:World):(λ b os=>topRun treeTable pw w 11 an 2 (SharedT.abs ⟨tS w.params qj 889 179 179 105,889,{},#[],{},1506,os⟩) ⟨doneF .next,.body b ev,⟨749,0,759,16⟩,[topFrame p0]⟩)=λ _ os=>some ⟨⟨(Hd w.params).toArray,{}⟩,#[],{},1506,os⟩:=by kernel_rfl
theorem Hi(w:World)(os:OsState):topRun treeTable pw w 11 an (12+(1+(2397+(2185+(1318+2))))) ⟨boot_heap w.params,Array.mk [],boot_drawn,boot_toks,os⟩ (topStub pw)=some ⟨⟨(Hd w.params).toArray,{}⟩,#[],{},1506,os⟩:=by
 refine go_top (Of (Hg w) os) (piece_block (Of (Eg w) os) ?_);have key:∀b:List Stmt,topRun treeTable pw w 11 an (2397+(2185+(1318+2))) (SharedT.abs ⟨tS w.params (.str "__main__" 164) 15 9 9 0,15,{},#[],{},187,os⟩) (restOf (sg 0 70++(sg 70 60++(sg 130 52++[]))) ev (.body b ev) p0 [topFrame p0])=some ⟨⟨(Hd w.params).toArray,{}⟩,#[],{},1506,os⟩:=λ b=>
  piece_app (Jq w pw b os) (piece_app (Im w pw b os) (piece_app (Hf w pw b os) (Of (Of (Hh w) b) os)))
 have k:=key (behindTheImports pw);rwa [<-Ch]at k
end Th
namespace Th
open PySem PySem.W L2 PyProof.Rows Tw
noncomputable section
def q1:Program:={pw with main:={pw.main with body:=[bg 181]}}
def lo:List Str:=dg.map (·.1)
abbrev hF(P:Params):Heap:=⟨(Hd P).toArray,{}⟩
abbrev sF(w:World)(os:OsState):Shared:=⟨hF w.params,#[],{},1506,os⟩
theorem Jr(w:World):staticsOk (importedModules pw.main.body) (boot_heap w.params) (hF w.params)=true:=by rw[Fast.te5923862056798008813];kernel_rfl
theorem Js(w:World):namesBound pw (hF w.params)=true:=by
 unfold namesBound;rw[Fast.sDec_eq]
 kernel_rfl
theorem Jt(w:World):laidKept (boot_heap w.params) (hF w.params)=true:=by kernel_rfl
theorem Ju(w:World):(λ os=>seen ((recsOf q1).map (·.name)) (ownsOf q1) [] {sF w os with gens := #[]})=λ _=>expectedOf q1:=by rw[Fast.te5160383126252970620,Fast.te3399658132070893891,Fast.te5991557255702980513];kernel_rfl
theorem Jv(w:World):(hF w.params).bltView=bltViewBooted:=by kernel_rfl
theorem Jw(w:World):(hF w.params).keysOk (looseW q1 lo) ((recsOf q1).map (·.name)) ((litsOf q1).map (·.1)) ((clssOf q1 (looseW q1 lo)).map (·.name))=true:=by rw[Fast.te10880121769531294198,Fast.te821141287760084731,Fast.te3399658132070893891,Fast.te7409074990110511671,Fast.te13664370479719496447];kernel_rfl
theorem Jx(w:World):(hF w.params).accountedOkI (importedModules pw.main.body)=true:=by rw[Fast.te14722251495701143533,Fast.te5923862056798008813];kernel_rfl
theorem Jy(w:World):((hF w.params).isNs mainGlobals&&(hF w.params).isNs builtinsNs&&tablesOk q1 (hF w.params))=true:=by rw[Fast.te10994771534591457954];kernel_rfl
theorem Jz(w:World):(λ os=>tabsOk q1 (sF w os))=λ _=>true:=by rw[Fast.te479339242167458305];kernel_rfl
theorem JA(w:World):(λ os=>pinSeenD q1 (drecsOf q1) (sF w os))=λ _=>pinGoodD (drecsOf q1):=by rw[Fast.te16090120013241838585,Fast.te3247288618530077131];kernel_rfl
theorem JB(w:World):(λ os=>plainSeenE q1 (looseW q1 lo) (sF w os))=λ _=>plainGoodE q1 (looseW q1 lo):=by rw[Fast.te2386780881361962483,Fast.te821141287760084731];kernel_rfl
theorem JC(w:World):(λ os=>plainSeenD q1 lo (sF w os))=λ _=>plainGoodD q1 lo:=by rw[Fast.te11698064438423848299];kernel_rfl
theorem JD(w:World):(λ os=>wideSeen q1 (sF w os))=λ _=>wideGood q1:=by rw[Fast.te7317090234206586261];kernel_rfl
theorem JE(w:World):(λ os=>clsSeenW q1 lo (sF w os))=λ _=>clsGoodW q1 lo:=by rw[Fast.te7369524293546568484];kernel_rfl
end
end Th
namespace L2
open PySem PySem.Spec PyProof.Rows
abbrev dl:=Sum Int Str
def ud:dl->Value->Bool
 |.inl k,v=>Value.isInt k v
 |.inr x,v=>Value.isStrOf x v
def Io(w:World):dl->Int
 |.inl k=>hashInt k
 |.inr x=>hashStr w x
theorem du:∀{k:dl} {v:Value},ud k v=true->(∃i t,k=Sum.inl i/\v=Value.int i t)\/(∃x t,k=Sum.inr x/\v=Value.str x t)
 |.inl i,v,h=>by obtain⟨t,e⟩:=Value.isInt_shape (k:=i) (v:=v) h;exact .inl ⟨i,t,rfl,e⟩
 |.inr x,v,h=>by obtain⟨t,e⟩:=Value.isStrOf_shape (x:=x) (v:=v) h;exact .inr ⟨x,t,rfl,e⟩
theorem AG(i:Int)(t:Tok):ud (.inl i) (.int i t)=true:=by simp[ud,Value.isInt]
theorem AH(x:Str)(t:Tok):ud (.inr x) (.str x t)=true:=by simp[ud,Value.isStrOf]
theorem FS(a b:Int):decide ((Sum.inl a:dl)=Sum.inl b)=(a==b):=by
 by_cases e:a=b
 ·subst e;simp
 ·have h:¬(Sum.inl a:dl)=Sum.inl b:=λ q=>e (Sum.inl.inj q);rw[Mn h];exact(Ms.mpr e).symm
theorem FU(a b:Str):decide ((Sum.inr a:dl)=Sum.inr b)=decide (a=b):=by
 by_cases e:a=b
 ·subst e;simp
 ·have h:¬(Sum.inr a:dl)=Sum.inr b:=λ q=>e (Sum.inr.inj q);rw[Mn h,Mn e]
theorem FV(a:Int)(b:Str):decide ((Sum.inl a:dl)=Sum.inr b)=false:=Mn (λ q=>nomatch q)
theorem FW(a:Str)(b:Int):decide ((Sum.inr a:dl)=Sum.inl b)=false:=Mn (λ q=>nomatch q)
def dm(prog:Program)(w:World):PySem.KeyKind prog w dl where
 is:=ud
 hash:=Io w
 inj:=λ v a b ha hb=>by
  rcases du ha with⟨i,t,rfl,rfl⟩ |⟨x,t,rfl,rfl⟩
  ·rcases du hb with⟨j,u,rfl,e⟩ |⟨y,u,rfl,e⟩
   ·injection e with e1 _;rw[e1]
   ·exact nomatch e
  ·rcases du hb with⟨j,u,rfl,e⟩ |⟨y,u,rfl,e⟩
   ·exact nomatch e
   ·injection e with e1 _;rw[e1]
 byValue:=λ k v h=>by rcases du h with⟨i,t,rfl,rfl⟩ |⟨x,t,rfl,rfl⟩<;>rfl
 pyHash:=λ hv h=>by
  rcases du hv with⟨i,t,rfl,rfl⟩ |⟨x,t,rfl,rfl⟩
  ·exact wpAny_pyHash_int h
  ·exact wpAny_pyHash_str h
 eqBool:=λ hu hv h=>by
  rcases du hu with⟨i,t,rfl,rfl⟩ |⟨x,t,rfl,rfl⟩
  ·rcases du hv with⟨j,u,rfl,rfl⟩ |⟨y,u,rfl,rfl⟩
   ·rw[FS]at h;exact wpAny_eqBool_int h
   ·rw[FV]at h;exact SeqAt.EqAt.int_str i t y u _ _ _ _ h
  ·rcases du hv with⟨j,u,rfl,rfl⟩ |⟨y,u,rfl,rfl⟩
   ·rw[FW]at h;exact SeqAt.EqAt.str_int x t j u _ _ _ _ h
   ·rw[FU]at h;exact wpAny_eqBool_str h
 «strs» := λ k x t v h=>by
  rcases du h with⟨i,u,rfl,e⟩ |⟨y,u,rfl,e⟩
  ·exact nomatch e
  ·injection e with e1 _
   subst e1;cases v<;>rfl
theorem wo(prog:Program)(w:World)(i:Int)(t:Tok):(dm prog w).is (.inl i) (.int i t)=true:=AG i t
theorem wp(prog:Program)(w:World)(x:Str)(t:Tok):(dm prog w).is (.inr x) (.str x t)=true:=AH x t
inductive V where
 |non |bl (b:Bool) |int (i:Int) |str (x:Str) |byt (b:Array UInt8) |flt (b:UInt64) |ref (a:Addr) |ty (n:String)
 deriving DecidableEq
def bG:V->Value->Prop
 |.non,u=>u=Value.none
 |.bl b,u=>u=Value.bool b
 |.int i,u=>∃t,u=Value.int i t
 |.str x,u=>∃t,u=Value.str x t
 |.byt b,u=>∃t,u=Value.bytes b t
 |.flt b,u=>∃t,u=Value.float b t
 |.ref a,u=>u=Value.ref a
 |.ty n,u=>u=Value.type n
abbrev bn:List V->List Value->Prop:=Paired bG
theorem bn.length{xs:List V}{us:List Value}(r:bn xs us):xs.length=us.length:=Sc r
theorem bn.get:∀{xs:List V} {us:List Value} {i:Nat} {x:V},bn xs us->xs[i]?=some x->∃u,us[i]?=some u/\bG x u
 |_,_,_,_,.nil,e=>by simp at e
 |_,_,0,_,.cons r _,e=>by simp at e;subst e;exact⟨_,rfl,r⟩
 |_,_,i+1,x,.cons _ t,e=>by obtain⟨u,h1,h2⟩:=bn.get (i:=i) (x:=x) t (by simpa using e);exact⟨u,by simpa using h1,h2⟩
theorem bn.append:∀{xs ys:List V} {us ws:List Value},bn xs us->bn ys ws->bn (xs++ys) (us++ws)
 |_,_,_,_,.nil,s=>s
 |_,_,_,_,.cons r t,s=>.cons r (bn.append t s)
theorem bn.take:∀{xs:List V} {us:List Value} (n:Nat),bn xs us->bn (xs.take n) (us.take n)
 |_,_,0,_=>.nil
 |_,_,_+1,.nil=>.nil
 |_,_,n+1,.cons r t=>.cons r (bn.take n t)
theorem bn.drop:∀{xs:List V} {us:List Value} (n:Nat),bn xs us->bn (xs.drop n) (us.drop n)
 |_,_,0,r=>r
 |_,_,_+1,.nil=>.nil
 |_,_,n+1,.cons _ t=>bn.drop n t
def jW:Option V->Option Value->Prop
 |some v,some u=>bG v u
 |none,none=>True
 |_,_=>False
def KV{κ:Type}:List (κ×V)->List (κ×Value)->Prop:=Paired fun(p:κ×V) (q:κ×Value)=>p.1=q.1/\bG p.2 q.2
def kV:dl->V
 |.inl i=>.int i
 |.inr x=>.str x
inductive HO where
 |lst (xs:List V)
 |tup (xs:List V)
 |dK (kvs:List (dl×V)) |dT (kvs:List (List dl×V))
 |set (S:Int->Bool) (n:Nat)
 |ins (C dx:Addr) (fs:List (Str×V))
 |own (x:Addr)
 |xd (fs:List (Str×V))
 |met (f x:Addr)
 |rng (lo hi:Int)
 |frz (o:Obj) (u:HO)
 |tbl (ps:Array Value)
 |ext (φ:Heap->Prop)
abbrev Hp:=Addr->Option HO
def upd(H:Hp)(a:Addr)(o:HO):Hp:=λ b=>if b=a then some o else H b
theorem ab{H:Hp}{a:Addr}{o:HO}:upd H a o a=some o:=by unfold upd;rw[Le rfl]
theorem am{H:Hp}{a b:Addr}{o:HO}(h:b≠a):upd H a o b=H b:=by unfold upd;rw[Ld h]
theorem vc{H:Hp}{a:Addr}{o u:HO}:upd (upd H a o) a u=upd H a u:=by funext b;unfold upd;split<;>rfl
theorem qY{H:Hp}{a b:Addr}{o u:HO}(h:H a=some o)(h':H b=some u)(d:o≠u):a≠b:=by intro e;subst e;rw[h]at h';exact d (Lz h')
theorem ay{H:Hp}{a b:Addr}{o:HO}(h:H a=some o)(h':H b=none):a≠b:=by intro e;subst e;rw[h]at h';cases h'
section
variable(P:Program)(w:World)
def cO(H:Hp)(h:Heap)(a:Addr):HO->Prop
 |.lst xs=>xs.length<=sizeLine/\∃(its:List Value) (n:Nat),bn xs its/\h.get? a=some {cls:=.type "list",data:=.seq its.toArray n}
 |.tup xs=>xs.length<=sizeLine/\∃its:List Value,bn xs its/\IsTup h a its.toArray
 |.dK kvs=>kvs.length<=sizeLine/\(a==sysModules)=false/\∃vs,KV kvs vs/\h.DictOf (dm P w) a vs
 |.dT kvs=>kvs.length<=sizeLine/\(a==sysModules)=false/\∃xs:List (List dl×Addr×Value),
   Paired (fun(p:List dl×V) (q:List dl×Addr×Value)=>p.1=q.1/\H q.2.1=some (.tup (p.1.map kV))/\bG p.2 q.2.2) kvs xs/\
   ∃o es ep,h.get? a=some o/\o.ExactDict/\o.data=.dict es ep/\es.toList=xs.map (entryOfKey (tupleKind (dm P w)))/\(xs.map (·.1)).Nodup
 |.set S n=>h.SetOf (intKind P w) a S n
 |.ins C dx fs=>H dx=some (.own a)/\fs.length<=1000/\dx≠a/\h.get? a=some (PySem.W.instObj C dx)/\
   ∃mA,h.Ns1 dx mA/\(∀f,jW (fs.lookup f) (mA f))/\PySem.Within mA (fs.map (·.1))
 |.own _=>∃o,h.get? a=some o
 |.xd fs=>∃mA,h.Ns1 a mA/\∀f,jW (fs.lookup f) (mA f)
 |.rng lo hi=>∃t u v,h.get? a=some {cls:=.type "range",data:=.fields #[.int lo t,.int hi u,.int 1 v]}
 |.frz o u=>h.get? a=some o/\cO H h a u
 |.tbl ps=>h.get? a=some {cls:=.none,data:=.fields ps}
 |.met f x=>h.get? a=some (PySem.W.methodObj (.ref f) (.ref x))
 |.ext φ=>φ h/\(∃o,h.get? a=some o)/\∀h1 h2:Heap,φ h1->(∀o,h1.get? a=some o->h2.get? a=some o)->φ h2
def ka(H:Hp)(h:Heap):Prop:=∀a o,H a=some o->cO P w H h a o
end
section
variable{P:Program}{w:World}{H H':Hp}{h h':Heap}{a:Addr}{o:HO}
theorem cO.lt(x:cO P w H h a o):a<h.objs.size:=by
 cases o with
 |lst xs=>obtain⟨_,_,_,_,e⟩:=x;exact Mf e
 |tup xs=>obtain⟨_,_,_,p⟩:=x;exact p.lt
 |dK kvs=>obtain⟨_,_,_,_,o,_,_,e,_⟩:=x;exact Mf e
 |dT kvs=>obtain⟨_,_,_,_,o,_,_,e,_⟩:=x;exact Mf e
 |set S n=>obtain⟨o,_,_,_,e,_⟩:=x;exact Mf e
 |ins C dx fs=>obtain⟨_,_,_,e,_⟩:=x;exact Mf e
 |own y=>obtain⟨_,e⟩:=x;exact Mf e
 |xd fs=>obtain⟨_,⟨_,_,_,e,_⟩,_⟩:=x;exact Mf e
 |rng lo hi=>obtain⟨_,_,_,e⟩:=x;exact Mf e
 |frz ob u=>obtain⟨e,_⟩:=x;exact Mf e
 |tbl ps=>exact Mf (show h.get? a=some _ from x)
 |met f y=>exact Mf (show h.get? a=some _ from x)
 |ext φ=>obtain⟨_,⟨_,e⟩,_⟩:=x;exact Mf e
theorem Paired.mapP{α β:Type}{F G:α->β->Prop}:∀{l₁:List α} {l₂:List β},Paired F l₁ l₂->(∀a b,F a b->G a b)->Paired G l₁ l₂
 |_,_,.nil,_=>.nil
 |_,_,.cons r t,f=>.cons (f _ _ r) (Paired.mapP t f)
theorem cO.stay(x:cO P w H h a o)(k:∀b u,(b=a\/H b=some (.own a))->h.get? b=some u->h'.get? b=some u)(ho:∀b,H b=some (.own a)->H' b=some (.own a))(ht:∀b xs,H b=some (.tup xs)->H' b=some (.tup xs)):cO P w H' h' a o:=by
 induction o with
 |lst xs=>obtain⟨z,its,n,r,e⟩:=x;exact⟨z,its,n,r,k _ _ (.inl rfl) e⟩
 |tup xs=>obtain⟨z,its,r,ob,e,c⟩:=x;exact⟨z,its,r,ob,k _ _ (.inl rfl) e,c⟩
 |dK kvs=>obtain⟨z,y,vs,r,ob,es,ep,e,c⟩:=x;exact⟨z,y,vs,r,ob,es,ep,k _ _ (.inl rfl) e,c⟩
 |dT kvs=>obtain⟨z,y,xs,r,ob,es,ep,e,c⟩:=x;exact⟨z,y,xs,Paired.mapP r λ p q z=>⟨z.1,ht _ _ z.2.1,z.2.2⟩,ob,es,ep,k _ _ (.inl rfl) e,c⟩
 |set S n=>obtain⟨ob,es,ep,t,e,c⟩:=x;exact⟨ob,es,ep,t,k _ _ (.inl rfl) e,c⟩
 |ins C dx fs=>obtain⟨d,z,ne,e,mA,⟨od,es,ep,e2,c⟩,r⟩:=x;exact⟨ho _ d,z,ne,k _ _ (.inl rfl) e,mA,⟨od,es,ep,k _ _ (.inr d) e2,c⟩,r⟩
 |own y=>obtain⟨ob,e⟩:=x;exact⟨ob,k _ _ (.inl rfl) e⟩
 |xd fs=>obtain⟨mA,⟨od,es,ep,e,c⟩,r⟩:=x;exact⟨mA,⟨od,es,ep,k _ _ (.inl rfl) e,c⟩,r⟩
 |rng lo hi=>obtain⟨t,u,v,e⟩:=x;exact⟨t,u,v,k _ _ (.inl rfl) e⟩
 |frz ob u ih=>obtain⟨e,q⟩:=x;exact⟨k _ _ (.inl rfl) e,ih q⟩
 |tbl ps=>have e:h.get? a=some {cls:=.none,data:=.fields ps}:=x;show h'.get? a=some {cls:=.none,data:=.fields ps};exact k a _ (.inl rfl) e
 |met f y=>have e:h.get? a=some (PySem.W.methodObj (.ref f) (.ref y)):=x;show h'.get? a=some (PySem.W.methodObj (.ref f) (.ref y));exact k a _ (.inl rfl) e
 |ext φ=>obtain⟨p,⟨o,e⟩,st⟩:=x;exact⟨st _ _ p λ o q=>k _ _ (.inl rfl) q,⟨o,k _ _ (.inl rfl) e⟩,st⟩
theorem ka.lt(x:ka P w H h)(e:H a=some o):a<h.objs.size:=(x a o e).lt
theorem ka.fresh(x:ka P w H h)(e:h.objs.size<=a):H a=none:=by
 cases q:H a with
 |none=>rfl
 |some u=>exact absurd (Nb (x.lt q) e) (Oy _)
theorem ka.kept(x:ka P w H h)(k:∀b u,h.get? b=some u->h'.get? b=some u):ka P w H h':=λ a o e=>
 (x a o e).stay (λ b u _ q=>k b u q) (λ _ q=>q) λ _ _ q=>q
theorem ka.laid(x:ka P w H h)(k:∀b u,h.get? b=some u->h'.get? b=some u)(hp:h.objs.size<=a)(new:cO P w (upd H a o) h' a o):ka P w (upd H a o) h':=λ b u e=>by
 have hn:=x.fresh hp;by_cases hb:b=a
 ·subst hb;rw[ab]at e;cases e;exact new
 ·rw[am hb]at e;exact(x b u e).stay (λ c v _ q=>k c v q) (λ c q=>by rw[am (ay q hn)];exact q) λ c xs q=>by rw[am (ay q hn)];exact q
end
def Rd(H:Hp)(a:Addr)(u:HO):Prop:=H a=some u\/∃o,H a=some (.frz o u)
theorem Rd.ok{P:Program}{w:World}{H:Hp}{h:Heap}{a:Addr}{u:HO}(r:Rd H a u)(x:ka P w H h):cO P w H h a u:=by
 rcases r with r |⟨o,r⟩
 ·exact x a u r
 ·obtain⟨_,q⟩:=x a _ r;exact q
def FF:Option HO->Prop
 |some (.lst _)=>True
 |some (.dK _)=>True
 |some (.dT _)=>True
 |some (.set _ _)=>True
 |some (.ins _ _ _)=>True
 |some (.ext _)=>True
 |_=>False
section
variable{P:Program}{w:World}{H:Hp}{h h':Heap}{x e:Addr}{o':HO}
theorem ka.write(ok:ka P w H h)(mu:FF (H x))(he:e=x\/H e=some (.own x))(k:∀b u,b≠e->h.get? b=some u->h'.get? b=some u)(heo:∃u,h'.get? e=some u)(new:cO P w (upd H x o') h' x o'):ka P w (upd H x o') h':=λ b u q=>by
 have nown:∀c y,H c=some (.own y)->c≠x:=λ c y r z=>by subst z;rw[r]at mu;exact mu
 have ntup:∀c xs,H c=some (.tup xs)->c≠x:=λ c xs r z=>by subst z;rw[r]at mu;exact mu
 by_cases hb:b=x
 ·subst hb;rw[ab]at q;cases q;exact new
 ·rw[am hb]at q;by_cases hbe:b=e
  ·have q':H b=some (.own x):=by
    rcases he with z |z
    ·exact absurd (hbe.trans z) hb
    ·rw[hbe];exact z
   rw[q]at q';cases q';obtain⟨v,hv⟩:=heo;exact⟨v,by rw[hbe];exact hv⟩
  ·refine(ok b u q).stay (λ c v hc r=>k c v ?_ r) (λ c r=>by rw[am (nown c b r)];exact r) λ c xs r=>by rw[am (ntup c xs r)];exact r
   rcases hc with rfl |hc
   ·exact hbe
   ·rintro rfl;rcases he with z |z
    ·exact nown c b hc z
    ·rw[hc]at z;cases z;exact hb rfl
end
structure Un(fs ex:List Addr)(H H':Hp)(h h':Heap):Prop where
 keep:∀b o,h.get? b=some o->H b=none->b∉fs->b∉ex->h'.get? b=some o
 slot:∀b o,h.get? b=some o->H b=none->b∈fs->b∉ex->∃sl,h'.get? b=some {o with slots:=sl}
 free:∀b o,h.get? b=some o->H b=none->b∉ex->H' b=none
 there:∀b o,h.get? b=some o->b∉ex->∃o',h'.get? b=some o'
 tups:∀b xs,H b=some (.tup xs)->H' b=some (.tup xs)
 frzs:∀b o u,H b=some (.frz o u)->H' b=some (.frz o u)
 tbls:∀b ps,H b=some (.tbl ps)->∃more,H' b=some (.tbl (ps++more))
section
variable{fs fs' ex ex':List Addr}{H H1 H2:Hp}{h h1 h2 h':Heap}{a x e:Addr}{o:HO}
theorem Un.any(u:Un fs ex H H1 h h1){b:Addr}{ob:Obj}(q:h.get? b=some ob)(n:H b=none)(hx:b∉ex):∃sl,h1.get? b=some {ob with slots:=sl}:=by
 by_cases hb:b∈fs
 ·exact u.slot b ob q n hb hx
 ·exact⟨ob.slots,u.keep b ob q n hb hx⟩
theorem Un.kept(k:∀b u,h.get? b=some u->h'.get? b=some u):Un fs ex H H h h':=
 ⟨λ b ob q _ _ _=>k b ob q,λ b ob q _ _ _=>⟨ob.slots,k b ob q⟩,λ _ _ _ n _=>n,λ b ob q _=>⟨ob,k b ob q⟩,λ _ _ q=>q,λ _ _ _ q=>q,λ _ ps q=>⟨#[],by rw[q];simp⟩⟩
theorem Un.refl:Un fs ex H H h h:=Un.kept λ _ _ q=>q
theorem Un.laid(k:∀b u,h.get? b=some u->h'.get? b=some u)(hp:h.objs.size<=a)(hn:H a=none):Un fs ex H (upd H a o) h h' where
 keep:=λ b u q _ _ _=>k b u q
 slot:=λ b u q _ _ _=>⟨u.slots,k b u q⟩
 free:=λ b u q n _=>by rw[am (Ng (Nb (Mf q) hp))];exact n
 there:=λ b u q _=>⟨u,k b u q⟩
 tups:=λ b xs q=>by rw[am (ay q hn)];exact q
 frzs:=λ b u xs q=>by rw[am (ay q hn)];exact q
 tbls:=λ b ps q=>⟨#[],by rw[am (ay q hn),q];simp⟩
theorem Un.write(mu:FF (H x))(he:e=x\/H e=some (.own x))(k:∀b u,b≠e->h.get? b=some u->h'.get? b=some u)(heo:∃u,h'.get? e=some u):Un fs ex H (upd H x o) h h':=by
 have hx:∀b,H b=none->b≠x:=λ b n z=>by subst z;rw[n]at mu;exact mu
 have hb:∀b,H b=none->b≠e:=λ b n z=>by
  subst z;rcases he with r |r
  ·exact hx b n r
  ·rw[n]at r;cases r
 have hm:∀b u,H b=some u->¬FF (some u)->b≠x:=λ b u q nm z=>by subst z;rw[q]at mu;exact nm mu
 refine⟨λ b u q n _ _=>k b u (hb b n) q,λ b u q n _ _=>⟨u.slots,k b u (hb b n) q⟩,λ b u q n _=>by rw[am (hx b n)];exact n,λ b u q _=>?_,
  λ b xs q=>by rw[am (hm b _ q λ z=>z)];exact q,λ b u xs q=>by rw[am (hm b _ q λ z=>z)];exact q,λ b ps q=>⟨#[],by rw[am (hm b _ q λ z=>z),q];simp⟩⟩
 by_cases hbe:b=e
 ·subst hbe;exact heo
 ·exact⟨u,k b u hbe q⟩
end
def Ie(h:Heap)(H:Hp):List Addr:=(List.range h.objs.size).filter λ a=>(H a).isSome
def vd(h:Heap)(H:Hp):Heap:=PySem.W.hideAll h (Ie h H)
theorem AI(h:Heap)(H:Hp):(vd h H).objs.size=h.objs.size:=PySem.W.hideAll_size _ _
theorem Ci{h:Heap}{H:Hp}{b:Addr}{o:Obj}(e:h.get? b=some o)(n:H b=none):(vd h H).get? b=some o:=
 PySem.W.hideAll_get _ e λ hm=>by have q:(H b).isSome=true:=(List.mem_filter.mp hm).2;rw[n]at q;simp at q
theorem Eh{h:Heap}{H:Hp}{b:Addr}{o:Obj}(e:(vd h H).get? b=some o):h.get? b=some o/\H b=none:=by
 have e':h.get? b=some o:=PySem.W.of_hideAll (Ie h H) e;refine⟨e',?_⟩;cases q:H b with
 |none=>rfl
 |some x=>have hm:b∈Ie h H:=List.mem_filter.mpr ⟨List.mem_range.mpr (Mf e'),by simp[q]⟩;have z:(vd h H).get? b=none:=PySem.W.hideAll_none (Ie h H) hm;rw[z]at e;cases e
structure Ig(K:PySem.W.Frag)(mg:Str->Option Value)(base:Heap):Prop where
 kin:K.In base
 glob:base.Ns mainGlobals mg
 blt:∃mb,base.Ns builtinsNs mb/\∀x:Str,x≠"__name__"->mb x=bootBuiltins x
 nolimit:base.NoLimit
structure Cx where
 prog:Program
 w:World
 K:PySem.W.Frag
 mg:Str->Option Value
 base:Heap
 A:Around
 N:List Str
 s_0:Shared
 H_0:Hp
 env:Env
 outer:List Env
 stack:List Env
 ex:List Addr
 fn:Str->Bool
 calm:Bool
 pn:List (Addr×Obj)
 xe:Value->Shared->Prop
def Cj(l:List Env):List Addr:=l.filterMap (·.frame)
abbrev Cx.fs(X:Cx):List Addr:=Cj X.outer
def Hj(sc:Scope)(x:Str):Prop:=sc.names.lookup x=some .local\/sc.names.lookup x=some .cell\/sc.names.lookup x=some .free
def Hb(sc:Scope)(x:Str):Prop:=sc.names.lookup x=some .local\/sc.names.lookup x=some .cell
def Ip(env:Env)(h:Heap)(m:Str->Option Value)(x:Str)(u:Value):Prop:=
 (env.kindOf x=some .local/\m x=some u)\/((env.kindOf x=some .cell\/env.kindOf x=some .free)/\∃c,env.cells.lookup x=some c/\h.IsCell c (some u))
structure Cx.Ok(X:Cx):Prop where
 mod:Ig X.K X.mg X.base
 kind:X.env.scope.kind=.function
 glob:X.env.globals=mainGlobals
 blt:X.env.builtins=builtinsNs
 above:X.s_0.heap.objs.size<=X.env.locals
 inj:∀x y c,X.env.cells.lookup x=some c->X.env.cells.lookup y=some c->x=y
 has:∀x,(X.env.kindOf x=some .cell\/X.env.kindOf x=some .free)->∃c,X.env.cells.lookup x=some c
 cab:∀x c,X.fn x=true->X.env.cells.lookup x=some c->X.s_0.heap.objs.size<=c
 hd:X.calm=true->X.A.handled=none
 frames:X.A.frames=some X.stack
 stk:X.stack=X.outer\/(X.stack=X.env::X.outer/\X.env.frame=some X.env.locals)
 exf:∀b∈X.ex,b≠X.env.locals/\∀x c,X.env.cells.lookup x=some c->c≠b
 bs:∀b o,X.base.get? b=some o->X.s_0.heap.get? b=some o/\X.H_0 b=none
 bsz:X.base.objs.size<=X.s_0.heap.objs.size
 noex:∀b o,X.base.get? b=some o->b∉X.ex
 exfs:∀b∈X.ex,b∉X.fs
 funs:X.s_0.heap.FunFrames X.base X.outer
 frf:∀b∈X.fs,X.H_0 b=none
structure aO(X:Cx)(pins:List (Addr×Obj))(σ:List (Option V))(H:Hp)(s:Shared):Prop where
 ok:X.Ok
 os:s.os=X.s_0.os
 bare:AllBare s.gens
 base:Un X.fs X.ex X.H_0 H X.s_0.heap s.heap
 loc:∃m,s.heap.Ns X.env.locals m/\∀(i:Nat) (x:Str) (v:V),X.N[i]?=some x->σ[i]?=some (some v)->Hj X.env.scope x->∃u,bG v u/\Ip X.env s.heap m x u
 cell:∀x c,X.env.cells.lookup x=some c->∃v,s.heap.IsCell c v
 free:H X.env.locals=none
 freeC:∀x c,X.env.cells.lookup x=some c->H c=none
 pin:∀p∈X.pn++pins,s.heap.get? p.1=some p.2/\H p.1=none/\p.1≠X.env.locals/\p.1∉X.fs/\∀v,p.2.data≠.cell v
 hok:ka X.prog X.w H s.heap
 len:σ.length=X.N.length
section
variable{X:Cx}{pins:List (Addr×Obj)}{σ:List (Option V)}{H H':Hp}{s:Shared}{h':Heap}
theorem Cx.Ok.nofr(ok:X.Ok){b:Addr}{o:Obj}(e:X.base.get? b=some o):b∉X.fs:=λ hb=>by have:=(ok.funs.mem hb).1;rw[e]at this;cases this
theorem aO.bs(I:aO X pins σ H s):∀b o,X.base.get? b=some o->s.heap.get? b=some o/\H b=none:=λ b o e=>
 ⟨I.base.keep b o (I.ok.bs b o e).1 (I.ok.bs b o e).2 (I.ok.nofr e) (I.ok.noex b o e),I.base.free b o (I.ok.bs b o e).1 (I.ok.bs b o e).2 (I.ok.noex b o e)⟩
theorem aO.bk(I:aO X pins σ H s):∀b o,X.base.get? b=some o->s.heap.get? b=some o:=λ b o e=>(I.bs b o e).1
theorem aO.mod(I:aO X pins σ H s):Ig X.K X.mg X.base:=I.ok.mod
theorem aO.kIn(I:aO X pins σ H s):X.K.In s.heap:=I.ok.mod.kin.keeps I.bk
theorem aO.fr(I:aO X pins σ H s):∃m,Fr X.base X.env.locals s.heap m:=
 let⟨m,hn,_⟩:=I.loc
 ⟨m,hn,I.bk,Ln I.ok.bsz I.ok.above⟩
theorem aO.lt(I:aO X pins σ H s):X.env.locals<s.heap.objs.size:=let⟨_,hn,_⟩:=I.loc;hn.lt
theorem aO.sz(I:aO X pins σ H s):X.s_0.heap.objs.size<=s.heap.objs.size:=Ln I.ok.above (Mj I.lt)
theorem aO.nofs(I:aO X pins σ H s){a:Addr}(h:s.heap.objs.size<=a):a∉X.fs:=λ hb=>by obtain⟨_,o,ho,_⟩:=I.ok.funs.mem hb;exact absurd (Nb (Mf ho) (Ln I.sz h)) (Oy _)
theorem aO.cne(I:aO X pins σ H s):∀x c,X.env.cells.lookup x=some c->c≠X.env.locals:=λ x c e z=>by obtain⟨v,o,ho,hd⟩:=I.cell x c e;obtain⟨m,⟨o',es,ep,ho',hd',_⟩,_⟩:=I.loc;rw[z,ho']at ho;cases ho;rw[hd']at hd;cases hd
theorem aO.funs(I:aO X pins σ H s):s.heap.FunFrames X.base X.outer:=by
 have all:∀(l:List Env),(∀b∈Cj l,b∈X.fs)->X.s_0.heap.FunFrames X.base l->s.heap.FunFrames X.base l:=by
  intro l
  induction l with
  |nil=>intro _ _;trivial
  |cons env r ih=>intro hs hl;obtain⟨hk,⟨L,o,hf,hn,ho,hd⟩,hr⟩:=hl;have hL:L∈X.fs:=hs L (by unfold Cj;rw[Rf,hf];exact Nn);obtain⟨sl,e⟩:=I.base.slot L o ho (I.ok.frf L hL) hL λ z=>I.ok.exfs L z hL;exact⟨hk,⟨L,_,hf,hn,e,hd⟩,ih (λ b hb=>hs b (by unfold Cj;rw[Rf,hf];exact Mw _ hb)) hr⟩
 exact all X.outer (λ _ hb=>hb) I.ok.funs
theorem aO.stack(I:aO X pins σ H s):s.heap.FunFrames X.base X.stack:=by
 rcases I.ok.stk with e |⟨e,hf⟩
 ·rw[e];exact I.funs
 ·rw[e];obtain⟨m,hn,_⟩:=I.loc;refine .cons (by rw[I.ok.kind];decide) hf hn ?_ I.funs;exact Heap.get?_none_of_le (Ln I.ok.bsz I.ok.above)
theorem aO.stkSub(I:aO X pins σ H s):∀b∈Cj X.stack,b∈X.env.locals::X.fs:=λ b hb=>by
 rcases I.ok.stk with e |⟨e,hf⟩
 ·rw[e]at hb;exact Mw _ hb
 ·rw[e]at hb;unfold Cj at hb;rw[Rf,hf]at hb;exact hb
theorem aO.stkFree(I:aO X pins σ H s):∀b∈Cj X.stack,H b=none:=λ b hb=>by
 rcases Lp.mp (I.stkSub b hb) with e |hb
 ·rw[e];exact I.free
 ·obtain⟨_,o,ho,_⟩:=I.ok.funs.mem hb;exact I.base.free b o ho (I.ok.frf b hb) λ z=>I.ok.exfs b z hb
theorem aO.step{g':Array GenState}{t':Nat}{d':Drawn}{ch:List Addr}(I:aO X pins σ H s)(hch:∀b∈ch,(b∈X.ex\/X.s_0.heap.objs.size<=b)/\b≠X.env.locals/\(∀x c,X.env.cells.lookup x=some c->c≠b)/\∀p∈X.pn++pins,p.1≠b)(keep:∀b o,b≠X.env.locals->b∉X.fs->b∉ch->s.heap.get? b=some o->H b=none->h'.get? b=some o)(slot:∀b o,b≠X.env.locals->b∈X.fs->b∉ch->s.heap.get? b=some o->H b=none->∃sl,h'.get? b=some {o with slots:=sl})(free:∀b o,b∉ch->s.heap.get? b=some o->H b=none->H' b=none)(there:∀b o,b∉ch->s.heap.get? b=some o->∃o',h'.get? b=some o')(tups:∀b xs,H b=some (.tup xs)->H' b=some (.tup xs))(frzs:∀b o u,H b=some (.frz o u)->H' b=some (.frz o u))(tbls:∀b ps,H b=some (.tbl ps)->∃more,H' b=some (.tbl (ps++more)))(ns:∀m,s.heap.Ns X.env.locals m->h'.Ns X.env.locals m)(hok:ka X.prog X.w H' h')(hg:AllBare g'):
  aO X pins σ H' {s with heap:=h',gens:=g',drawn:=d',toks:=t'}:=by
 have neL:∀b o,X.s_0.heap.get? b=some o->b≠X.env.locals:=λ b o e=>Ng (Nb (Mf e) I.ok.above);have neC:∀b o,X.s_0.heap.get? b=some o->b∉X.ex->b∉ch:=λ b o e hx hb=>by
  rcases(hch b hb).1 with z |z
  ·exact hx z
  ·exact absurd (Nb (Mf e) z) (Oy _)
 have cellK:∀x c,X.env.cells.lookup x=some c->∀v,s.heap.IsCell c v->h'.IsCell c v:=λ x c e v ⟨o,ho,hd⟩=>by
  have nch:c∉ch:=λ z=>(hch c z).2.2.1 x c e rfl;by_cases hc:c∈X.fs
  ·obtain⟨sl,q⟩:=slot c o (I.cne x c e) hc nch ho (I.freeC x c e);exact⟨_,q,hd⟩
  ·exact⟨o,keep c o (I.cne x c e) hc nch ho (I.freeC x c e),hd⟩
 refine⟨I.ok,I.os,hg,⟨λ b o e n hb hx=>?_,λ b o e n hb hx=>?_,λ b o e n hx=>?_,λ b o e hx=>?_,λ b xs e=>tups b xs (I.base.tups b xs e),λ b o xs e=>frzs b o xs (I.base.frzs b o xs e),λ b ps e=>?_⟩,?_,λ x c e=>?_,?_,λ x c e=>?_,λ p hp=>?_,hok,I.len⟩
 ·exact keep b o (neL b o e) hb (neC b o e hx) (I.base.keep b o e n hb hx) (I.base.free b o e n hx)
 ·obtain⟨sl,e1⟩:=I.base.slot b o e n hb hx;obtain⟨sl',e2⟩:=slot b _ (neL b o e) hb (neC b o e hx) e1 (I.base.free b o e n hx);exact⟨sl',e2⟩
 ·obtain⟨o',e1⟩:=I.base.there b o e hx;exact free b o' (neC b o e hx) e1 (I.base.free b o e n hx)
 ·obtain⟨o',e1⟩:=I.base.there b o e hx;exact there b o' (neC b o e hx) e1
 ·obtain⟨m1,e1⟩:=I.base.tbls b ps e;obtain⟨m2,e2⟩:=tbls b _ e1;exact⟨m1++m2,by rw[e2,Array.append_assoc]⟩
 ·obtain⟨m,hn,hl⟩:=I.loc;refine⟨m,ns m hn,λ i x v e1 e2 e3=>?_⟩;obtain⟨u,r,l⟩:=hl i x v e1 e2 e3;refine⟨u,r,?_⟩;rcases l with l |⟨k,c,e,z⟩
  ·exact .inl l
  ·exact .inr ⟨k,c,e,cellK x c e _ z⟩
 ·obtain⟨v,z⟩:=I.cell x c e;exact⟨v,cellK x c e v z⟩
 ·obtain⟨m,⟨o,_,_,ho,_⟩,_⟩:=I.loc;exact free _ o (λ z=>(hch _ z).2.1 rfl) ho I.free
 ·obtain⟨v,o,ho,hd⟩:=I.cell x c e;exact free c o (λ z=>(hch c z).2.2.1 x c e rfl) ho (I.freeC x c e)
 ·obtain⟨e,n,ne,nf,d⟩:=I.pin p hp;have nch:p.1∉ch:=λ z=>(hch p.1 z).2.2.2 p hp rfl;exact⟨keep p.1 p.2 ne nf nch e n,free p.1 p.2 nch e n,ne,nf,d⟩
theorem aO.un{t':Nat}(I:aO X pins σ H s)(u:Un X.fs [] H H' s.heap h')(hok:ka X.prog X.w H' h'):aO X pins σ H' {s with heap:=h',toks:=t'}:=by obtain⟨m,⟨o,es,ep,ho,r⟩,_⟩:=id I.loc;obtain⟨sl,hL⟩:=u.any ho I.free (by simp);exact I.step (g':=s.gens) (d':=s.drawn) (ch:=[]) (λ _ z=>nomatch z) (λ b o _ hb _ e n=>u.keep b o e n hb (by simp)) (λ b o _ hb _ e n=>u.slot b o e n hb (by simp)) (λ b o _ e n=>u.free b o e n (by simp)) (λ b o _ e=>u.there b o e (by simp)) u.tups u.frzs u.tbls (λ m' hm=>by obtain⟨o',es',ep',ho',r'⟩:=hm;rw[ho]at ho';cases ho';exact⟨_,es',ep',hL,r'⟩) hok I.bare
theorem aO.call{g':Array GenState}{t':Nat}{d':Drawn}{ch:List Addr}(I:aO X pins σ H s)(u:Un (Cj X.stack) ch H H' s.heap h')(hok:ka X.prog X.w H' h')(hg:AllBare g')(hch:∀b∈ch,(b∈X.ex\/X.s_0.heap.objs.size<=b)/\b≠X.env.locals/\(∀x c,X.env.cells.lookup x=some c->c≠b)/\∀p∈X.pn++pins,p.1≠b):
  aO X pins σ H' {s with heap:=h',gens:=g',drawn:=d',toks:=t'}:=by
 obtain⟨m,⟨o,es,ep,ho,r⟩,_⟩:=id I.loc;obtain⟨sl,hL⟩:=u.any ho I.free λ z=>(hch _ z).2.1 rfl;exact I.step (ch:=ch) hch (λ b o hL hb hc e n=>u.keep b o e n (λ z=>(Lp.mp (I.stkSub b z)).elim hL hb) hc) (λ b o _ _ hc e n=>u.any e n hc) (λ b o hc e n=>u.free b o e n hc) (λ b o hc e=>u.there b o e hc) u.tups u.frzs u.tbls (λ m' hm=>by obtain⟨o',es',ep',ho',r'⟩:=hm;rw[ho]at ho';cases ho';exact⟨_,es',ep',hL,r'⟩) hok hg
theorem aO.turned{t':Nat}{it:Addr}(I:aO X pins σ H s)(k:∀b o,b≠it->s.heap.get? b=some o->h'.get? b=some o)(hn:H it=none)(hL:it≠X.env.locals)(h1:it∈X.ex\/X.s_0.heap.objs.size<=it)(h2:∀x c,X.env.cells.lookup x=some c->c≠it)(h3:∀p∈X.pn++pins,p.1≠it):aO X pins σ H {s with heap:=h',toks:=t'}:=by
 have nit:∀b u,H b=some u->b≠it:=λ b u e z=>by rw[z,hn]at e;cases e
 refine I.step (g':=s.gens) (d':=s.drawn) (ch:=[it]) (λ b hb=>?_) (λ b o _ _ hc e _=>k b o (λ z=>hc (by simp[z])) e) (λ b o _ _ hc e _=>⟨o.slots,k b o (λ z=>hc (by simp[z])) e⟩) (λ _ _ _ _ n=>n)
  (λ b o hc e=>⟨o,k b o (λ z=>hc (by simp[z])) e⟩) (λ _ _ e=>e) (λ _ _ _ e=>e) (λ b ps e=>⟨#[],by rw[e];simp⟩) (λ m hm=>?_) (λ b u e=>?_) I.bare
 ·have e:b=it:=by simpa using hb
  subst e;exact⟨h1,hL,h2,h3⟩
 ·obtain⟨o,es,ep,ho,r⟩:=hm;exact⟨o,es,ep,k _ o (Ne.symm hL) ho,r⟩
 ·refine(I.hok b u e).stay (λ c v hc q=>k c v ?_ q) (λ _ q=>q) λ _ _ q=>q;rcases hc with z |z
  ·rw[z];exact nit b u e
  ·exact nit c _ z
theorem aO.tok(I:aO X pins σ H s)(t:Nat):aO X pins σ H {s with toks:=t}:=I.un (h':=s.heap) (t':=t) Un.refl I.hok
theorem aO.kept{t':Nat}(I:aO X pins σ H s)(k:∀b u,s.heap.get? b=some u->h'.get? b=some u):aO X pins σ H {s with heap:=h',toks:=t'}:=I.un (Un.kept k) (I.hok.kept k)
theorem aO.laid{a:Addr}{o:HO}{t':Nat}(I:aO X pins σ H s)(k:∀b u,s.heap.get? b=some u->h'.get? b=some u)(hp:s.heap.objs.size<=a)(new:cO X.prog X.w (upd H a o) h' a o):
  aO X pins σ (upd H a o) {s with heap:=h',toks:=t'}:=I.un (Un.laid k hp (I.hok.fresh hp)) (I.hok.laid k hp new)
theorem aO.write{x e:Addr}{o:HO}{t':Nat}(I:aO X pins σ H s)(mu:FF (H x))(he:e=x\/H e=some (.own x))(k:∀b u,b≠e->s.heap.get? b=some u->h'.get? b=some u)(heo:∃u,h'.get? e=some u)(new:cO X.prog X.w (upd H x o) h' x o):aO X pins σ (upd H x o) {s with heap:=h',toks:=t'}:=I.un (Un.write mu he k heo) (I.hok.write mu he k heo new)
theorem aO.weak{σ':List (Option V)}(I:aO X pins σ H s)(hl:σ'.length=σ.length)(w:∀(i:Nat) v,σ'[i]?=some (some v)->σ[i]?=some (some v)):aO X pins σ' H s:=
 ⟨I.ok,I.os,I.bare,I.base,let⟨m,hn,hl'⟩:=I.loc;⟨m,hn,λ i x v e1 e2 e3=>hl' i x v e1 (w i v e2) e3⟩,I.cell,I.free,I.freeC,I.pin,I.hok,hl.trans I.len⟩
theorem aO.pins_of{pins':List (Addr×Obj)}(I:aO X pins σ H s)(h:∀p∈pins',s.heap.get? p.1=some p.2/\H p.1=none/\p.1≠X.env.locals/\p.1∉X.fs/\∀v,p.2.data≠.cell v):aO X pins' σ H s:=
 ⟨I.ok,I.os,I.bare,I.base,I.loc,I.cell,I.free,I.freeC,λ p hp=>(Mg.mp hp).elim (λ z=>I.pin p (Ot _ z)) (h p),I.hok,I.len⟩
theorem qZ{N:List Str}(hN:N.Nodup){i j:Nat}{x:Str}(a:N[i]?=some x)(b:N[j]?=some x):i=j:=by obtain⟨h1,e1⟩:=Mq.mp a;obtain⟨h2,e2⟩:=Mq.mp b;exact(List.getElem_inj hN).mp (e1.trans e2.symm)
theorem AJ{M:Model}{A:Around}{E:Value->Shared->Prop}{i:Nat}{x:Str}{v:V}{u:Value}{Q:Unit->Shared->Prop}(I:aO X pins σ H s)(hN:X.N.Nodup)(hi:X.N[i]?=some x)(hx:Hb X.env.scope x)(r:bG v u)(h:∀s',aO X pins (σ.set i (some v)) H s'->(∃a,Heap.SameBut a s.heap s'.heap/\(a=X.env.locals\/X.env.cells.lookup x=some a))->Q () s')(hf:X.fn x=true\/X.env.scope.names.lookup x=some .local:=by first |exact .inl rfl |exact .inr rfl |assumption):wpAny M A (storeName X.env x u) Q E s:=by
 obtain⟨m,hn,hl⟩:=id I.loc;have hcls:(X.env.scope.kind==.class||(X.env.scope.kind==.module&&X.env.locals != X.env.globals))=false:=by rw[I.ok.kind];rfl
 have hiσ:i<σ.length:=by rw[I.len];exact(Mq.mp hi).1
 have cne:=I.cne;have tracked:∀{a:Addr} {h':Heap},(∃o,s.heap.get? a=some o/\H a=none)->Heap.SameBut a s.heap h'->ka X.prog X.w H h':=fun{a h'} ha hs b ob e=>by
  obtain⟨_,_,hfree⟩:=ha;refine(I.hok b ob e).stay (λ c w' hc q=>(hs.2 c ?_).trans q) (λ _ q=>q) λ _ _ q=>q;rintro rfl;rcases hc with rfl |hc
  ·rw[hfree]at e;cases e
  ·rw[hfree]at hc;cases hc
 rcases hx with hk |hk
 ·refine wpAny_storeName_local hk hn (λ h' hn' hs=>?_) hcls;obtain⟨oL,_,_,hoL,_⟩:=id hn;refine h _ ⟨I.ok,I.os,I.bare,⟨λ b o e n hb hx=>?_,λ b o e n hb hx=>?_,I.base.free,λ b o e hx=>?_,I.base.tups,I.base.frzs,I.base.tbls⟩,⟨_,hn',λ j y v' e1 e2 e3=>?_⟩,λ y c e=>?_,I.free,I.freeC,λ p hp=>?_,tracked ⟨oL,hoL,I.free⟩ hs,by simpa using I.len⟩ ⟨_,hs,.inl rfl⟩
  ·exact(hs.2 b (Ng (Nb (Mf e) I.ok.above))).trans (I.base.keep b o e n hb hx)
  ·obtain⟨sl,e1⟩:=I.base.slot b o e n hb hx;exact⟨sl,(hs.2 b (Ng (Nb (Mf e) I.ok.above))).trans e1⟩
  ·obtain⟨o',e1⟩:=I.base.there b o e hx;exact⟨o',(hs.2 b (Ng (Nb (Mf e) I.ok.above))).trans e1⟩
  ·by_cases hj:j=i
   ·subst hj;rw[hi]at e1;cases e1;rw[Rz hiσ]at e2;cases e2;exact⟨u,r,.inl ⟨hk,by simp⟩⟩
   ·rw[List.getElem?_set_ne (Ne.symm hj)]at e2;obtain⟨u',r',q⟩:=hl j y v' e1 e2 e3;refine⟨u',r',?_⟩;rcases q with⟨k,e⟩ |⟨k,c,e,z⟩
    ·refine .inl ⟨k,?_⟩;have:y≠x:=λ e=>hj (qZ hN e1 (e▸hi));simp[this,e]
    ·exact .inr ⟨k,c,e,z.sameBut hs (cne y c e)⟩
  ·obtain⟨w',z⟩:=I.cell y c e;exact⟨w',z.sameBut hs (cne y c e)⟩
  ·obtain⟨e,n,ne,nf,d⟩:=I.pin p hp;exact⟨(hs.2 p.1 ne).trans e,n,ne,nf,d⟩
 ·have hfn:X.fn x=true:=by
   rcases hf with z |z
   ·exact z
   ·rw[z]at hk;cases hk
  obtain⟨c,hc⟩:=I.ok.has x (.inl hk);obtain⟨w',z⟩:=I.cell x c hc;refine wpAny_storeName_cell I.ok.kind hk hc z (λ h' hc' hs=>?_);obtain⟨oc,hoc,hocd⟩:=id z;refine h {s with heap:=h'} ⟨I.ok,I.os,I.bare,⟨λ b o e n hb hx=>?_,λ b o e n hb hx=>?_,I.base.free,λ b o e hx=>?_,I.base.tups,I.base.frzs,I.base.tbls⟩,⟨m,hn.sameBut hs (Ne.symm (cne x c hc)),λ j y v' e1 e2 e3=>?_⟩,λ y c' e=>?_,I.free,I.freeC,λ p hp=>?_,tracked ⟨oc,hoc,I.freeC x c hc⟩ hs,by simpa using I.len⟩ ⟨c,hs,.inr hc⟩
  ·exact(hs.2 b (Ng (Nb (Mf e) (I.ok.cab x c hfn hc)))).trans (I.base.keep b o e n hb hx)
  ·obtain⟨sl,e1⟩:=I.base.slot b o e n hb hx;exact⟨sl,(hs.2 b (Ng (Nb (Mf e) (I.ok.cab x c hfn hc)))).trans e1⟩
  ·obtain⟨o',e1⟩:=I.base.there b o e hx;exact⟨o',(hs.2 b (Ng (Nb (Mf e) (I.ok.cab x c hfn hc)))).trans e1⟩
  ·by_cases hj:j=i
   ·subst hj;rw[hi]at e1;cases e1;rw[Rz hiσ]at e2;cases e2;exact⟨u,r,.inr ⟨.inl hk,c,hc,hc'⟩⟩
   ·rw[List.getElem?_set_ne (Ne.symm hj)]at e2;obtain⟨u',r',q⟩:=hl j y v' e1 e2 e3;refine⟨u',r',?_⟩;rcases q with q |⟨k,c',e,z'⟩
    ·exact .inl q
    ·refine .inr ⟨k,c',e,z'.sameBut hs ?_⟩;rintro rfl;exact hj (qZ hN e1 (I.ok.inj _ _ _ e hc▸hi))
  ·by_cases hcc:c'=c
   ·subst hcc;exact⟨_,hc'⟩
   ·obtain⟨w2,z2⟩:=I.cell y c' e;exact⟨w2,z2.sameBut hs hcc⟩
  ·obtain⟨e,n,ne,nf,d⟩:=I.pin p hp;refine⟨(hs.2 p.1 ?_).trans e,n,ne,nf,d⟩;intro q;rw[q,hoc]at e;have q':oc=p.2:=Lz e;exact d w' (by rw[<-q'];exact hocd)
theorem wq{M:Model}{A:Around}{E:Value->Shared->Prop}{i:Nat}{x:Str}{v:V}{u:Value}{Q:Unit->Shared->Prop}(I:aO X pins σ H s)(hN:X.N.Nodup)(hi:X.N[i]?=some x)(hx:Hb X.env.scope x)(r:bG v u)(h:∀s',aO X pins (σ.set i (some v)) H s'->Q () s')(hf:X.fn x=true\/X.env.scope.names.lookup x=some .local:=by first |exact .inl rfl |exact .inr rfl |assumption):wpAny M A (storeName X.env x u) Q E s:=
 AJ I hN hi hx r (λ s' I' _=>h s' I') hf
theorem aO.call'{s':Shared}{ch:List Addr}(I:aO X pins σ H s)(ho:s'.os=s.os)(u:Un (Cj X.stack) ch H H' s.heap s'.heap)(hok:ka X.prog X.w H' s'.heap)(hg:AllBare s'.gens)(hch:∀b∈ch,(b∈X.ex\/X.s_0.heap.objs.size<=b)/\b≠X.env.locals/\(∀x c,X.env.cells.lookup x=some c->c≠b)/\∀p∈X.pn++pins,p.1≠b):aO X pins σ H' s':=by obtain⟨h',g',d',t',o'⟩:=s';have e:o'=s.os:=ho;subst e;exact I.call (g':=g') (t':=t') (d':=d') u hok hg hch
end
abbrev XK:=Value->Option Addr->Hp->Prop
abbrev St:=List (Option V)
abbrev VK:=V->Hp->Prop
abbrev TE:=St->Hp->VK->Prop
abbrev TT:=St->Hp->(Bool->Hp->Prop)->Prop
abbrev TA:=St->Hp->(List V->Hp->Prop)->Prop
structure tJ where
 nx:St->Hp->Prop
 rt:VK
 bk:St->Hp->Prop:=λ _ _=>False
 ct:St->Hp->Prop:=λ _ _=>False
abbrev TS:=tJ->St->Hp->Prop
def EP(X:Cx)(pins:List (Addr×Obj))(σ:St)(Q:VK)(u:Value)(s':Shared):Prop:=∃v H',aO X pins σ H' s'/\bG v u/\Q v H'
def TP(X:Cx)(pins:List (Addr×Obj))(σ:St)(Q:Bool->Hp->Prop)(b:Bool)(s':Shared):Prop:=∃H',aO X pins σ H' s'/\Q b H'
def AP(X:Cx)(pins:List (Addr×Obj))(σ:St)(Q:List V->Hp->Prop)(us:List Value)(s':Shared):Prop:=∃vs H',aO X pins σ H' s'/\bn vs us/\Q vs H'
def SP(X:Cx)(pins:List (Addr×Obj))(D:tJ)(f:Flow)(s':Shared):Prop:=
 match f with
 |.next=>∃σ' H',aO X pins σ' H' s'/\D.nx σ' H'
 |.brk=>∃σ' H',aO X pins σ' H' s'/\D.bk σ' H'
 |.cont=>∃σ' H',aO X pins σ' H' s'/\D.ct σ' H'
 |.ret u=>∃v σ' H',aO X pins σ' H' s'/\bG v u/\D.rt v H'
def PE(X:Cx)(e:Expr)(t:TE):Prop:=
 ∀(pins:List (Addr×Obj)) (s:Shared) (σ:St) (H:Hp) (Q:VK),aO X pins σ H s->t σ H Q->wpAny (model X.prog X.w) X.A (eval e X.env) (EP X pins σ Q) X.xe s
def PT(X:Cx)(e:Expr)(t:TT):Prop:=
 ∀(pins:List (Addr×Obj)) (s:Shared) (σ:St) (H:Hp) (Q:Bool->Hp->Prop),aO X pins σ H s->t σ H Q->wpAny (model X.prog X.w) X.A (isTrue e X.env (eval e X.env)) (TP X pins σ Q) X.xe s
def PW(X:Cx)(e:Expr)(t:TT):Prop:=
 ∀(whole:Sem Value) (pins:List (Addr×Obj)) (s:Shared) (σ:St) (H:Hp) (Q:Bool->Hp->Prop),aO X pins σ H s->t σ H Q->wpAny (model X.prog X.w) X.A (isTrue e X.env whole) (TP X pins σ Q) X.xe s
theorem PW.pt{X:Cx}{e:Expr}{t:TT}(h:PW X e t):PT X e t:=h _
def PA(X:Cx)(es:List Expr)(t:TA):Prop:=
 ∀(pos:Pos) (pins:List (Addr×Obj)) (s:Shared) (σ:St) (H:Hp) (Q:List V->Hp->Prop),aO X pins σ H s->t σ H Q->wpAny (model X.prog X.w) X.A (spliced (backTo pos (starEach es X.env))) (AP X pins σ Q) X.xe s
def PS(X:Cx)(st:Stmt)(t:TS):Prop:=
 ∀(pins:List (Addr×Obj)) (s:Shared) (σ:St) (H:Hp) (D:tJ),aO X pins σ H s->t D σ H->wpAny (model X.prog X.w) X.A (exec st X.env) (SP X pins D) X.xe s
def yi(X:Cx)(st:List Stmt)(t:TS):Prop:=
 ∀(pins:List (Addr×Obj)) (s:Shared) (σ:St) (H:Hp) (D:tJ),aO X pins σ H s->t D σ H->wpAny (model X.prog X.w) X.A (execs st X.env) (SP X pins D) X.xe s
theorem cR{α:Type}{t:Sem α}{Q Q':α->Shared->Prop}{M:Model}{A:Around}{E:Value->Shared->Prop}{s:Shared}(h:wpAny M A t Q E s)(hQ:∀a s,Q a s->Q' a s):wpAny M A t Q' E s:=Ob h hQ λ _ _ x=>x
section
variable{X:Cx}
theorem JP{a b:Expr}{ta tb:TE}(ha:PE X a ta)(hb:PE X b tb){pins:List (Addr×Obj)}{s:Shared}{σ:St}{H:Hp}{R:V->V->Hp->Prop}(I:aO X pins σ H s)(h:ta σ H λ x H1=>tb σ H1 λ y H2=>R x y H2){α:Type}{Q:α->Shared->Prop}{f:Value->Value->Sem α}(hf:∀v u s2 x y H2,aO X pins σ H2 s2->bG x v->bG y u->R x y H2->wpAny (model X.prog X.w) X.A (f v u) Q X.xe s2):
  wpAny (model X.prog X.w) X.A (eval a X.env) (λ v s₁=>wpAny (model X.prog X.w) X.A (eval b X.env) (λ u s₂=>wpAny (model X.prog X.w) X.A (f v u) Q X.xe s₂) X.xe s₁) X.xe s:=by
 refine cR (ha pins s σ H _ I h) λ v s1 ⟨x,H1,I1,r1,q1⟩=>?_;refine cR (hb pins s1 σ H1 _ I1 q1) λ u s2 ⟨y,H2,I2,r2,q2⟩=>?_;exact hf v u s2 x y H2 I2 r1 r2 q2
def gr(i:Nat):TE:=λ σ H Q=>∃v,σ[i]?=some (some v)/\Q v H
def tC(v:V):TE:=λ _ H Q=>Q v H
theorem FX{i:Nat}{x:Str}{pos:Pos}(hN:X.N[i]?=some x)(hv:Hj X.env.scope x)(hd:(x==("__debug__":Str))=false:=by decide)(hcd:(x==("__classdict__":Str))=false:=by decide):PE X (.Name x pos) (gr i):=by
 intro pins s σ H Q I h;obtain⟨v,e,h⟩:=h;obtain⟨m,hn,hl⟩:=I.loc;obtain⟨u,r,l⟩:=hl i x v hN e hv;have eW:EP X pins σ Q u s:=⟨v,H,I,r,h⟩;rcases l with⟨hk,hm⟩ |⟨hk,c,hc,hcell⟩
 ·exact wpAny_Name (wpAny_loadName_local I.ok.kind hk hn hm eW) hd
 ·rcases hk with hk |hk
  ·exact wpAny_Name (wpAny_loadName_cell I.ok.kind hk hc hcell eW) hd
  ·exact wpAny_Name (wpAny_loadName_free I.ok.kind hk hc hcell eW hcd) hd
theorem al{i j pos}:PE X (.Constant (.int i) j pos) (tC (.int i)):=λ _ _ _ H _ I h=>wpAny_Constant_int ⟨.int i,H,I.tok _,⟨_,rfl⟩,h⟩
theorem kb{b j pos}:PE X (.Constant (.bool b) j pos) (tC (.bl b)):=λ _ _ _ H _ I h=>Constant_bool ⟨.bl b,H,I,rfl,h⟩
theorem eA{j pos}:PE X (.Constant .none j pos) (tC .non):=λ _ _ _ H _ I h=>Constant_none ⟨.non,H,I,rfl,h⟩
theorem cn{x j pos}:PE X (.Constant (.str x) j pos) (tC (.str x)):=λ _ _ _ H _ I h=>Calls.Constant_str ⟨.str x,H,I.tok _,⟨_,rfl⟩,h⟩
def Gl(X:Cx)(x:Str):Prop:=X.env.kindOf x=some .globalImplicit
theorem qI{E:Value->Shared->Prop}{pins:List (Addr×Obj)}{s:Shared}{σ:St}{H:Hp}{x:Str}{u:Value}{pos:Pos}{Q:Value->Shared->Prop}(I:aO X pins σ H s)(hg:Gl X x)(hm:X.mg x=some u)(h:Q u s)(hd:(x==("__debug__":Str))=false:=by decide):wpAny (model X.prog X.w) X.A (eval (.Name x pos) X.env) Q E s:=
 Calls.Name_function_global I.ok.kind hg (Calls.loadGlobal_global (by rw[I.ok.glob];exact I.mod.glob.keeps I.bk) hm h) hd
theorem mh{E:Value->Shared->Prop}{pins:List (Addr×Obj)}{s:Shared}{σ:St}{H:Hp}{x:Str}{u:Value}{pos:Pos}{Q:Value->Shared->Prop}(I:aO X pins σ H s)(hg:Gl X x)(hm:X.mg x=none)(hv:bootBuiltins x=some u)(h:Q u s)(hn:x≠"__name__":=by decide)(hd:(x==("__debug__":Str))=false:=by decide):wpAny (model X.prog X.w) X.A (eval (.Name x pos) X.env) Q E s:=by obtain⟨mb,h1,h2⟩:=I.mod.blt;exact Calls.Name_function_global I.ok.kind hg (Calls.loadGlobal_builtin (by rw[I.ok.glob];exact I.mod.glob.keeps I.bk) hm (by rw[I.ok.blt];exact h1.keeps I.bk) ((h2 x hn).trans hv) h) hd
theorem Ei{x:Str}{v:V}{u:Value}{pos:Pos}(hg:Gl X x)(hm:X.mg x=some u)(r:bG v u)(hd:(x==("__debug__":Str))=false:=by decide):PE X (.Name x pos) (tC v):=
 λ _ _ _ H _ I h=>qI I hg hm ⟨v,H,I,r,h⟩ hd
variable{a b:Expr}{ta tb:TE}{pos:Pos}
def PC(X:Cx)(op:CmpOp)(a b:Expr)(t:TE):Prop:=
 ∀(pins:List (Addr×Obj)) (s:Shared) (σ:St) (H:Hp) (Q:VK),aO X pins σ H s->t σ H Q->
  wpAny (model X.prog X.w) X.A (eval a X.env) (λ v s₁=>wpAny (model X.prog X.w) X.A (eval b X.env) (λ u s₂=>wpAny (model X.prog X.w) X.A (compareOp op v u) (EP X pins σ Q) X.xe s₂) X.xe s₁) X.xe s
theorem Ck(b:Expr){op:CmpOp}(h:op≠.In)(h2:op≠.NotIn):behindInMarks op b=false:=by
 have e1:(op==CmpOp.In)=false:=by cases op<;>first |rfl |exact absurd rfl h
 have e2:(op==CmpOp.NotIn)=false:=by cases op<;>first |rfl |exact absurd rfl h2
 cases b<;>simp[behindInMarks,e1,e2]
def Iq(ta:TE):TE:=λ σ H Q=>ta σ H λ x H1=>Q (.bl (decide (x=.non))) H1
def Hk(ta:TE):TE:=λ σ H Q=>ta σ H λ x H1=>Q (.bl (!decide (x=.non))) H1
theorem bG.none_iff{x:V}{v:Value}(r:bG x v):(v==Value.none)=decide (x=.non):=by
 cases x with
 |non=>cases r;rfl
 |bl _=>cases r;rfl
 |int _=>obtain⟨t,rfl⟩:=r;rfl
 |str _=>obtain⟨t,rfl⟩:=r;rfl
 |byt _=>obtain⟨t,rfl⟩:=r;rfl
 |flt _=>obtain⟨t,rfl⟩:=r;rfl
 |ref _=>cases r;rfl
 |ty _=>cases r;rfl
theorem jl{j pos'}(ha:PE X a ta):PC X .Is a (.Constant .none j pos') (Iq ta):=by intro pins s σ H Q I h;refine cR (ha pins s σ H _ I h) λ v s1 ⟨x,H1,I1,r1,q1⟩=>?_;exact Constant_none (is_none_gen ⟨.bl _,H1,I1,by rw[r1.none_iff];rfl,q1⟩)
theorem ve{j pos'}(ha:PE X a ta):PC X .IsNot a (.Constant .none j pos') (Hk ta):=by intro pins s σ H Q I h;refine cR (ha pins s σ H _ I h) λ v s1 ⟨x,H1,I1,r1,q1⟩=>?_;exact Constant_none (isnot_none_gen ⟨.bl _,H1,I1,by rw[r1.none_iff];rfl,q1⟩)
def tB(t:TE):TT:=λ σ H Q=>t σ H λ x H1=>∃c,x=.bl c/\Q c H1
theorem gt{op:CmpOp}{t:TE}(h:PC X op a b t)(h1:behindInMarks op b=false:=by first |exact Ck _ (by decide) (by decide) |rfl):PT X (.Compare a [op] [b] pos) (tB t):=by intro pins s σ H Q I hw;refine wpAny_isTrue_Compare1 (cR (h pins s σ H _ I hw) λ v s1 h1=>cR h1 λ u s2 h2=>cR h2 λ c s3 ⟨x,H1,I1,r1,q1⟩=>?_) h1;obtain⟨d,rfl,q⟩:=q1;cases r1;exact Oc ⟨H1,I1,q⟩
theorem bi{e:Expr}{t:TE}(h:PE X e t)(he:∀whole,isTrue e X.env whole=(do let v <-whole;standAt e.pos;holding [v] (truthy v)):=by intro _;rfl):PT X e (tB t):=by intro pins s σ H Q I hw;refine isTrue_plain (cR (h pins s σ H _ I hw) λ v s1 ⟨x,H1,I1,r1,q1⟩=>?_) (he _);obtain⟨d,rfl,q⟩:=q1;cases r1;exact Oc ⟨H1,I1,q⟩
variable{tA tB':TT}{rest:List Expr}
def Ej(t u:TT):TT:=λ σ H Q=>t σ H λ c H1=>if c=true then u σ H1 Q else Q false H1
def JF(t u:TT):TT:=λ σ H Q=>t σ H λ c H1=>if c=true then Q true H1 else u σ H1 Q
def Ir(t:TT):TT:=λ σ H Q=>t σ H λ c H1=>Q (!c) H1
theorem mK(ha:PT X a tA):PW X (.BoolOp .And [a] pos) tA:=by
 intro wh pins s σ H Q I h;refine isTrue_and (cR (ha pins s σ H Q I h) λ c s1 e=>?_);cases c with
 |true=>exact isTrue_and_nil e
 |false=>exact e
theorem mi(ha:PT X a tA):PW X (.BoolOp .Or [a] pos) tA:=by
 intro wh pins s σ H Q I h;refine isTrue_or (cR (ha pins s σ H Q I h) λ c s1 e=>?_);cases c with
 |false=>exact isTrue_or_nil e
 |true=>exact e
theorem oz(ha:PT X a tA)(hb:PW X (.BoolOp .And (b::rest) pos) tB'):PW X (.BoolOp .And (a::b::rest) pos) (Ej tA tB'):=by
 intro wh pins s σ H Q I h;refine isTrue_and (cR (ha pins s σ H _ I h) λ c s1 ⟨H1,I1,q1⟩=>?_);cases c with
 |true=>exact hb wh pins s1 σ H1 Q I1 q1
 |false=>exact⟨H1,I1,q1⟩
theorem ra(ha:PT X a tA)(hb:PW X (.BoolOp .Or (b::rest) pos) tB'):PW X (.BoolOp .Or (a::b::rest) pos) (JF tA tB'):=by
 intro wh pins s σ H Q I h;refine isTrue_or (cR (ha pins s σ H _ I h) λ c s1 ⟨H1,I1,q1⟩=>?_);cases c with
 |true=>exact⟨H1,I1,q1⟩
 |false=>exact hb wh pins s1 σ H1 Q I1 q1
theorem bO(ha:PT X a tA):PT X (.UnaryOp .Not a pos) (Ir tA):=by intro pins s σ H Q I h;exact isTrue_not (ha pins s σ H (λ c H1=>Q (!c) H1) I h)
def Hl(ta tb:TE):TE:=λ σ H Q=>ta σ H λ x H1=>∃c,x=.bl c/\if c=true then tb σ H1 Q else Q (.bl false) H1
def Iu(ta tb:TE):TE:=λ σ H Q=>ta σ H λ x H1=>∃c,x=.bl c/\if c=true then Q (.bl true) H1 else tb σ H1 Q
def Hm(ta:TE):TE:=λ σ H Q=>ta σ H λ x H1=>∃c,x=.bl c/\Q (.bl (!c)) H1
theorem fI{op}{t:TE}(h:PE X a t):PE X (.BoolOp op [a] pos) t:=λ pins s σ H Q I hw=>BoolOp_one (h pins s σ H Q I hw)
theorem gV(ha:PE X a ta)(hb:PE X (.BoolOp .And (b::rest) pos) tb):PE X (.BoolOp .And (a::b::rest) pos) (Hl ta tb):=by
 intro pins s σ H Q I h;refine BoolOp_and (cR (ha pins s σ H _ I h) λ v s1 ⟨x,H1,I1,r1,q1⟩=>?_);obtain⟨c,rfl,q1⟩:=q1;cases r1;refine Oc ?_;cases c with
 |true=>exact hb pins s1 σ H1 Q I1 q1
 |false=>exact⟨.bl false,H1,I1,rfl,q1⟩
theorem zP(ha:PE X a ta)(hb:PE X (.BoolOp .Or (b::rest) pos) tb):PE X (.BoolOp .Or (a::b::rest) pos) (Iu ta tb):=by
 intro pins s σ H Q I h;refine BoolOp_or (cR (ha pins s σ H _ I h) λ v s1 ⟨x,H1,I1,r1,q1⟩=>?_);obtain⟨c,rfl,q1⟩:=q1;cases r1;refine Oc ?_;cases c with
 |false=>exact hb pins s1 σ H1 Q I1 q1
 |true=>exact⟨.bl true,H1,I1,rfl,q1⟩
theorem FY(ha:PE X a ta):PE X (.UnaryOp .Not a pos) (Hm ta):=by intro pins s σ H Q I h;refine UnaryOp_ (cR (ha pins s σ H _ I h) λ v s1 ⟨x,H1,I1,r1,q1⟩=>?_);obtain⟨c,rfl,q1⟩:=q1;cases r1;exact not_of (Oc ⟨.bl (!c),H1,I1,rfl,q1⟩)
def JG(t:TT)(ta tb:TE):TE:=λ σ H Q=>t σ H λ c H1=>if c=true then ta σ H1 Q else tb σ H1 Q
theorem fJ{c:Expr}(hc:PT X c tA)(ha:PE X a ta)(hb:PE X b tb):PE X (.IfExp c a b pos) (JG tA ta tb):=by
 intro pins s σ H Q I h;refine wpAny_IfExp (cR (hc pins s σ H _ I h) λ d s1 ⟨H1,I1,q1⟩=>?_);cases d with
 |true=>exact ha pins s1 σ H1 Q I1 q1
 |false=>exact hb pins s1 σ H1 Q I1 q1
end
def SqL(K:PySem.W.Frag)(H:Hp)(a:Addr)(xs:List V):Prop:=
 Rd H a (.lst xs)\/
  ∃(o:Obj) (its:Array Value) (n:Nat),K.lookup a=some o/\o.cls=.type "list"/\o.dict=none/\o.data=.seq its n/\its.size<=sizeLine/\bn xs its.toList
def ci(K:PySem.W.Frag)(H:Hp)(a:Addr)(xs:List V):Prop:=
 Rd H a (.tup xs)\/
  ∃(o:Obj) (its:Array Value) (n:Nat),K.lookup a=some o/\o.cls=.type "tuple"/\o.data=.seq its n/\its.size<=sizeLine/\bn xs its.toList
def Iv:Value->Option V
 |.none=>some .non
 |.bool b=>some (.bl b)
 |.int i _=>some (.int i)
 |.str x _=>some (.str x)
 |.bytes b _=>some (.byt b)
 |.float b _=>some (.flt b)
 |.ref a=>some (.ref a)
 |.type n=>some (.ty n)
 |_=>none
theorem bG.abs{x:V}{u:Value}(r:bG x u):Iv u=some x:=by
 cases x with
 |non=>cases r;rfl
 |bl _=>cases r;rfl
 |int _=>obtain⟨t,rfl⟩:=r;rfl
 |str _=>obtain⟨t,rfl⟩:=r;rfl
 |byt _=>obtain⟨t,rfl⟩:=r;rfl
 |flt _=>obtain⟨t,rfl⟩:=r;rfl
 |ref _=>cases r;rfl
 |ty _=>cases r;rfl
theorem bG.inj{x y:V}{u:Value}(r:bG x u)(q:bG y u):x=y:=Lz (r.abs.symm.trans q.abs)
theorem bn.inj:∀{xs ys:List V} {us:List Value},bn xs us->bn ys us->xs=ys
 |_,_,_,.nil,.nil=>rfl
 |_,_,_,.cons r t,.cons r' t'=>by rw[r.inj r',bn.inj t t']
section
variable{X:Cx}{pins:List (Addr×Obj)}{σ:St}{H:Hp}{s:Shared}{a:Addr}{xs ys:List V}
theorem SqL.of{K:PySem.W.Frag}(h:H a=some (.lst xs)):SqL K H a xs:=.inl (.inl h)
theorem ci.of{K:PySem.W.Frag}(h:H a=some (.tup xs)):ci K H a xs:=.inl (.inl h)
theorem aO.list(I:aO X pins σ H s)(h:SqL X.K H a xs):∃its:List Value,bn xs its/\PlainL s.heap a its.toArray/\xs.length<=sizeLine:=by
 rcases h with h |⟨o,its,n,hk,hc,hd,hs,hz,r⟩
 ·obtain⟨z,its,n,r,e⟩:=h.ok I.hok;exact⟨its,r,⟨_,n,e,rfl,rfl,rfl⟩,z⟩
 ·refine⟨its.toList,r,⟨o,n,I.kIn a o hk,hc,hd,by simpa using hs⟩,?_⟩;have e:=r.length;simp only[Pn]at e;omega
theorem aO.tuple(I:aO X pins σ H s)(h:ci X.K H a xs):∃its:List Value,bn xs its/\IsTup s.heap a its.toArray/\xs.length<=sizeLine:=by
 rcases h with h |⟨o,its,n,hk,hc,hs,hz,r⟩
 ·obtain⟨z,its,r,p⟩:=h.ok I.hok;exact⟨its,r,p,z⟩
 ·refine⟨its.toList,r,⟨o,I.kIn a o hk,hc,n,by simpa using hs⟩,?_⟩;have e:=r.length;simp only[Pn]at e;omega
theorem aO.list_inj(I:aO X pins σ H s)(h:SqL X.K H a xs)(h':SqL X.K H a ys):xs=ys:=by
 obtain⟨its,r,⟨o,n,e,_,_,d⟩,_⟩:=I.list h;obtain⟨its',r',⟨o',n',e',_,_,d'⟩,_⟩:=I.list h';rw[e]at e';cases e';rw[d]at d';injection d' with d1 _
 have:its=its':=by simpa using Na Array.toList d1
 subst this;exact r.inj r'
theorem aO.tuple_inj(I:aO X pins σ H s)(h:ci X.K H a xs)(h':ci X.K H a ys):xs=ys:=by
 obtain⟨its,r,⟨o,e,_,n,d⟩,_⟩:=I.tuple h;obtain⟨its',r',⟨o',e',_,n',d'⟩,_⟩:=I.tuple h';rw[e]at e';cases e';rw[d]at d';injection d' with d1 _
 have:its=its':=by simpa using Na Array.toList d1
 subst this;exact r.inj r'
end
abbrev Cx.wish(X:Cx)(E:Value->Shared->Prop):Cx:={X with xe:=E}
abbrev Cx.nox(X:Cx):Cx:=X.wish λ _ _=>False
theorem Cx.Ok.wish{X:Cx}(ok:X.Ok)(E:Value->Shared->Prop):(X.wish E).Ok:=
 ⟨ok.mod,ok.kind,ok.glob,ok.blt,ok.above,ok.inj,ok.has,ok.cab,ok.hd,ok.frames,ok.stk,ok.exf,ok.bs,ok.bsz,ok.noex,ok.exfs,ok.funs,ok.frf⟩
theorem Cx.Ok.unwish{X:Cx}{E:Value->Shared->Prop}(ok:(X.wish E).Ok):X.Ok:=
 ⟨ok.mod,ok.kind,ok.glob,ok.blt,ok.above,ok.inj,ok.has,ok.cab,ok.hd,ok.frames,ok.stk,ok.exf,ok.bs,ok.bsz,ok.noex,ok.exfs,ok.funs,ok.frf⟩
section
variable{X:Cx}{pins:List (Addr×Obj)}{σ:St}{H:Hp}{s:Shared}{E:Value->Shared->Prop}
theorem aO.wish(I:aO X pins σ H s)(E:Value->Shared->Prop):aO (X.wish E) pins σ H s:=⟨I.ok.wish E,I.os,I.bare,I.base,I.loc,I.cell,I.free,I.freeC,I.pin,I.hok,I.len⟩
theorem aO.unwish(I:aO (X.wish E) pins σ H s):aO X pins σ H s:=⟨I.ok.unwish,I.os,I.bare,I.base,I.loc,I.cell,I.free,I.freeC,I.pin,I.hok,I.len⟩
theorem SP.unwish{D:tJ}{f:Flow}{s':Shared}(h:SP (X.wish E) pins D f s'):SP X pins D f s':=by
 cases f with
 |next=>obtain⟨σ',H',I,q⟩:=h;exact⟨σ',H',I.unwish,q⟩
 |brk=>obtain⟨σ',H',I,q⟩:=h;exact⟨σ',H',I.unwish,q⟩
 |cont=>obtain⟨σ',H',I,q⟩:=h;exact⟨σ',H',I.unwish,q⟩
 |ret u=>obtain⟨v,σ',H',I,r,q⟩:=h;exact⟨v,σ',H',I.unwish,r,q⟩
theorem yi.nox{st:List Stmt}{t:TS}(h:yi X.nox st t):yi X st t:=λ pins s σ H D I hw=>
 Ob (h pins s σ H D (I.wish _) hw) (λ _ _ q=>q.unwish) λ _ _ z=>False.elim z
end
section
variable{X:Cx}{st:Stmt}{rest:List Stmt}{t u:TS}{e:Expr}{te:TE}{pos:Pos}
def zQ:TS:=λ D σ H=>D.nx σ H
def tK(t u:TS):TS:=λ D σ H=>t {D with nx:=u D} σ H
theorem ak:yi X [] zQ:=λ _ _ σ H _ I h=>wpAny_execs_nil ⟨σ,H,I,h⟩
theorem aa(h1:PS X st t)(h2:yi X rest u):yi X (st::rest) (tK t u):=by
 intro pins s σ H D I h;refine wpAny_execs_cons (cR (h1 pins s σ H {D with nx:=u D} I h) λ f s1 q=>?_);cases f with
 |next=>obtain⟨σ',H',I',q⟩:=q;exact h2 pins s1 σ' H' D I' q
 |ret v=>exact q
 |brk=>exact q
 |cont=>exact q
theorem ac(h1:PS X st t):yi X [st] t:=by
 intro pins s σ H D I h;refine wpAny_execs_cons (cR (h1 pins s σ H D I h) λ f s1 q=>?_);cases f with
 |next=>exact wpAny_execs_nil q
 |ret v=>exact q
 |brk=>exact q
 |cont=>exact q
theorem aO.quiet{pins:List (Addr×Obj)}{σ:St}{H:Hp}{s:Shared}(I:aO X pins σ H s):interactive X.env=false:=by simp[interactive,I.ok.kind]
def Cl(te:TE):TS:=λ D σ H=>te σ H λ _ H1=>D.nx σ H1
theorem aV(he:PE X e te)(hs:swapsWith e none pos.line X.env=pure false:=by rfl):PS X (.Expr e pos) (Cl te):=by intro pins s σ H D I h;exact wpAny_Expr_any (cR (he pins s σ H _ I h) λ v s1 ⟨x,H1,I1,r1,q1⟩=>⟨σ,H1,I1,q1⟩) I.quiet hs
def vf(te:TE):TS:=λ D σ H=>te σ H D.rt
theorem ah(he:PE X e te):PS X (.Return (some e) pos) (vf te):=by intro pins s σ H D I h;exact wpAny_Return_some (cR (he pins s σ H _ I h) λ v s1 ⟨x,H1,I1,r1,q1⟩=>⟨x,σ,H1,I1,r1,q1⟩)
def Ek(c:TT)(t u:TS):TS:=λ D σ H=>c σ H λ b H1=>if b=true then t D σ H1 else u D σ H1
theorem aA{c:Expr}{a b:List Stmt}{tc:TT}(hc:PT X c tc)(ha:yi X a t)(hb:yi X b u):PS X (.If c a b pos) (Ek tc t u):=by
 intro pins s σ H D I h;refine wpAny_If (cR (hc pins s σ H _ I h) λ d s1 ⟨H1,I1,q1⟩=>?_);cases d with
 |true=>exact ha pins s1 σ H1 D I1 q1
 |false=>exact hb pins s1 σ H1 D I1 q1
end
abbrev TG:=V->St->Hp->(St->Hp->Prop)->Prop
abbrev FG:=List V->St->Hp->(St->Hp->Prop)->Prop
def PG(X:Cx)(fj:Expr)(t:TG):Prop:=
 ∀(pins:List (Addr×Obj)) (s:Shared) (σ:St) (H:Hp) (v:V) (u:Value) (Q:St->Hp->Prop),aO X pins σ H s->bG v u->t v σ H Q->
  wpAny (model X.prog X.w) X.A (assign fj X.env u) (λ _ s'=>∃σ' H',aO X pins σ' H' s'/\Q σ' H') X.xe s
def Hn(X:Cx)(ts:List Expr)(t:FG):Prop:=
 ∀(pins:List (Addr×Obj)) (s:Shared) (σ:St) (H:Hp) (vs:List V) (us:List Value) (Q:St->Hp->Prop),aO X pins σ H s->bn vs us->t vs σ H Q->
  wpAny (model X.prog X.w) X.A (assignInOrder ((assignEach ts X.env).map (·.2)) us) (λ _ s'=>∃σ' H',aO X pins σ' H' s'/\Q σ' H') X.xe s
section
variable{X:Cx}{pos:Pos}
def gW(i:Nat):TG:=λ v σ H Q=>Q (σ.set i (some v)) H
theorem aM{i:Nat}{x:Str}(hN:X.N.Nodup)(hi:X.N[i]?=some x)(hx:Hb X.env.scope x)(hf:X.fn x=true\/X.env.scope.names.lookup x=some .local:=by first |exact .inl rfl |exact .inr rfl |assumption):PG X (.Name x pos) (gW i):=by intro pins s σ H v u Q I r h;exact wpAny_assign_Name (wq I hN hi hx r (λ s' I'=>⟨_,H,I',h⟩) hf)
def Iw:FG:=λ vs σ H Q=>vs=[]/\Q σ H
def Ho(t:TG)(u:FG):FG:=λ vs σ H Q=>∃v r,vs=v::r/\t v σ H λ σ' H'=>u r σ' H' Q
theorem mL:Hn X [] Iw:=by intro pins s σ H vs us Q I r h;obtain⟨e,h⟩:=h;subst e;cases r;exact assignInOrder_nil ⟨σ,H,I,h⟩
theorem eY{e:Expr}{es:List Expr}{t:TG}{u:FG}(h1:PG X e t)(h2:Hn X es u)(hs:(assignEach (e::es) X.env).map (·.2)=assign e X.env::(assignEach es X.env).map (·.2):=by rfl):Hn X (e::es) (Ho t u):=by
 intro pins s σ H vs us Q I r h;obtain⟨v,vr,e1,h⟩:=h;subst e1;cases r with
 |cons r rr=>rw[hs];refine assignInOrder_cons (cR (h1 pins s σ H _ _ _ I r h) λ _ s1 ⟨σ1,H1,I1,q1⟩=>?_);exact h2 pins s1 σ1 H1 _ _ Q I1 rr q1
def Hq(K:PySem.W.Frag)(n:Nat)(t:FG):TG:=λ v σ H Q=>∃a xs,v=.ref a/\ci K H a xs/\xs.length=n/\t xs σ H Q
theorem rf{es:List Expr}{k:Nat}{t:FG}{n:Nat}(hc:X.calm=true)(h:Hn X es t)(hn:(assignEach es X.env).length=n:=by rfl)(hst:(assignEach es X.env).findIdx? (·.1)=none:=by rfl):PG X (.Tuple es k pos) (Hq X.K n t):=by intro pins s σ H v u Q I r hw;obtain⟨a,xs,e1,hq,hl,hw⟩:=hw;subst e1;cases r;obtain⟨its,rv,ht,hz⟩:=I.tuple hq;refine assign_Tuple_tuple (I.ok.hd hc) ht (by simp[hn,<-hl,rv.length]) hst λ h' hx=>?_;have I1:aO X pins σ H {s with heap:=h'}:=I.kept (t':=s.toks) λ b o e=>hx b o (Ng (Mf e)) e;exact h pins _ σ H xs _ Q I1 (by simpa using rv) hw
def Cm(te:TE)(g:TG):TS:=λ D σ H=>te σ H λ x H1=>g x σ H1 D.nx
theorem Cn{i:Nat}{x:Str}{e:Expr}{te:TE}{pos':Pos}(hN:X.N.Nodup)(hi:X.N[i]?=some x)(hx:Hb X.env.scope x)(he:PE X e te)(hs:swapsWith e (some (.Name x pos')) pos.line X.env=pure false:=by rfl)(hf:X.fn x=true\/X.env.scope.names.lookup x=some .local:=by first |exact .inl rfl |exact .inr rfl |assumption):
  PS X (.Assign [.Name x pos'] e pos) (Cm te (gW i)):=by
 intro pins s σ H D I h;refine wpAny_Assign_Name (cR (he pins s σ H _ I h) λ v s1 ⟨y,H1,I1,r1,q1⟩=>?_) hs;exact wq I1 hN hi hx r1 (λ s2 I2=>⟨_,H1,I2,q1⟩) hf
def FZ(c:TT)(tb:TS):TS:=λ D σ H=>∃W:Nat->St->Hp->Prop,(∃m,W m σ H)/\∀m σ H,W m σ H->
 c σ H λ b H1=>if b=true then ∃N:St->Hp->Prop,(∀σ' H',N σ' H'->∃m',m'<m/\W m' σ' H')/\tb {D with nx:=N,ct:=N,bk:=D.nx} σ H1 else D.nx σ H1
theorem rg{c:Expr}{body:List Stmt}{tc:TT}{tb:TS}(hp:PassesOwn (model X.prog X.w) X.A X.env X.xe)(hc:PT X c tc)(hb:yi X body tb):PS X (.While c body [] pos) (FZ tc tb):=by
 intro pins s σ H D I h;obtain⟨W,⟨m0,w0⟩,turn⟩:=h;refine wpAny_While (codeAny_whileLoop (λ n s'=>∃σ' H',aO X pins σ' H' s'/\W n σ' H') ?_ m0 ⟨σ,H,I,w0⟩);rintro n s1 ⟨σ1,H1,I1,w1⟩;refine Pr hp (cR (hc pins s1 σ1 H1 _ I1 (turn n σ1 H1 w1)) λ b s2 ⟨H2,I2,q2⟩=>?_);cases b with
 |true=>
  obtain⟨N,hN,q2⟩:=q2;rw[Le rfl];refine Pr hp (cR (hb pins s2 σ1 H2 _ I2 q2) λ f s3 q3=>?_);cases f with
  |next=>obtain⟨σ3,H3,I3,n3⟩:=q3;obtain⟨m',hm,w3⟩:=hN σ3 H3 n3;exact⟨m',hm,σ3,H3,I3,w3⟩
  |cont=>obtain⟨σ3,H3,I3,n3⟩:=q3;obtain⟨m',hm,w3⟩:=hN σ3 H3 n3;exact⟨m',hm,σ3,H3,I3,w3⟩
  |brk=>exact q3
  |ret v=>exact q3
 |false=>rw[Ld Mc];exact wpAny_execs_nil ⟨σ1,H2,I2,q2⟩
end
structure It where
 go:Nat->Hp->Prop
 yld:Nat->Hp->V->Hp->Prop
 stop:Nat->Hp->Prop
def rh(X:Cx)(pins:List (Addr×Obj))(H:Hp)(b:Addr):Prop:=
 H b=none/\b≠X.env.locals/\b∉X.fs/\(b∈X.ex\/X.s_0.heap.objs.size<=b)/\(∀x c,X.env.cells.lookup x=some c->c≠b)/\∀p∈X.pn++pins,p.1≠b
theorem aO.fpOk{X:Cx}{pins:List (Addr×Obj)}{σ:St}{H H':Hp}{s:Shared}{b:Addr}(I:aO X pins σ H s)(hb:s.heap.objs.size<=b)(hn:H' b=none):rh X pins H' b:=by
 refine⟨hn,Qt (Nb I.lt hb),I.nofs hb,.inr (Ln I.sz hb),λ x c e z=>?_,λ p hp z=>?_⟩
 ·obtain⟨v,q⟩:=I.cell x c e;exact absurd (Nb q.lt (by rw[z];exact hb)) (Oy _)
 ·exact absurd (Nb (Mf (I.pin p hp).1) (by rw[z];exact hb)) (Oy _)
structure vg(P:Program)(w:World)(K:PySem.W.Frag)(tg:Expr)(J:It)(fp:List Addr)(it:Addr)(tn:Nat->Heap->Prop):Prop where
 mem:it∈fp
 obj:∀i h,tn i h->∀b∈fp,∃o,h.get? b=some o/\∀v,o.data≠.cell v
 keep:∀i h h',tn i h->(∀b∈fp,∀o,h.get? b=some o->h'.get? b=some o)->tn i h'
 item:∀(X:Cx),X.prog=P->X.w=w->X.K=K->X.calm=true->∀(i:Nat) (pins:List (Addr×Obj)) (s:Shared) (σ:St) (H:Hp) (E:Value->Shared->Prop),aO X pins σ H s->(∀b∈fp,rh X pins H b)->tn i s.heap->J.go i H->
  wpAny (model P w) X.A (pyNext (.ref it)) (λ r s1=>∃u,r=some u/\
   wpAny (model P w) X.A (letOwnedTupleGo tg (.ref it) u) (λ _ s2=>∃x H',aO X pins σ H' s2/\bG x u/\J.yld i H x H'/\tn (i+1) s2.heap/\∀b∈fp,H' b=none) E s1) E s
 done:∀(X:Cx),X.prog=P->X.w=w->X.K=K->X.calm=true->∀(i:Nat) (pins:List (Addr×Obj)) (s:Shared) (σ:St) (H:Hp) (E:Value->Shared->Prop),aO X pins σ H s->(∀b∈fp,rh X pins H b)->tn i s.heap->J.stop i H->
  wpAny (model P w) X.A (pyNext (.ref it)) (λ r s1=>r=none/\aO X pins σ H s1) E s
 self:∀(A:Around) (i:Nat) (s:Shared) (Q:Value->Shared->Prop) (E:Value->Shared->Prop),tn i s.heap->Q (.ref it) s->wpAny (model P w) A (pyIter (.ref it)) Q E s
abbrev TI:=St->Hp->(It->Hp->Prop)->Prop
def Ix(X:Cx)(pins:List (Addr×Obj))(σ:St)(tg:Expr)(R:It->Hp->Prop)(itv:Value)(s2:Shared):Prop:=
 ∃(it:Addr) (fp:List Addr) (tn:Nat->Heap->Prop) (J:It) (H':Hp),itv=.ref it/\aO X pins σ H' s2/\vg X.prog X.w X.K tg J fp it tn/\tn 0 s2.heap/\(∀b∈fp,rh X pins H' b)/\R J H'
def PI(X:Cx)(tg iter:Expr)(wi:TI):Prop:=
 ∀(pins:List (Addr×Obj)) (s:Shared) (σ:St) (H:Hp) (R:It->Hp->Prop),aO X pins σ H s->wi σ H R->
  wpAny (model X.prog X.w) X.A (eval iter X.env) (λ v s1=>wpAny (model X.prog X.w) X.A (pyIter v) (Ix X pins σ tg R) X.xe s1) X.xe s
theorem zR {M : Model} {A : Around} {E : Value → Shared → Prop} {s : Shared} {tg : Expr} {it : Addr} {u : Value} {o : Obj} {n : String} {vs : Array Value} {Q : Unit → Shared → Prop} (ho : s.heap.get? it = some o) (hc : o.cls = .type n) (hd : o.data = .fields vs)
    (hn : ["enumerate", "zip", "dict_itemiterator", "dict_reverseitemiterator", "odict_iterator", "itertools.zip_longest", "itertools.pairwise"].contains n = false) (hQ : Q () s) : wpAny M A (letOwnedTupleGo tg (.ref it) u) Q E s := by
  unfold letOwnedTupleGo
  cases tg <;> first
    | exact Lm hQ
    | (cases u <;> first
        | exact Lm hQ
        | (refine Lb (wpAny_load ho ?_)
           rw [hc, hd]
           show wpAny M A (if (["enumerate", "zip", "dict_itemiterator", "dict_reverseitemiterator", "odict_iterator", "itertools.zip_longest", "itertools.pairwise"].contains n && vs[0]? == some (rawInt _)) = true then _ else _) Q E s
           rw [Ld (by intro h; rw [hn, Bool.false_and] at h; cases h)]
           exact Lm hQ))
def rj(K:PySem.W.Frag)(a:Addr):It:=
 ⟨λ i H=>∃xs x,SqL K H a xs/\xs[i]?=some x,λ i H x H'=>H'=H/\∀xs,SqL K H a xs->xs[i]?=some x,λ i H=>∃xs,SqL K H a xs/\xs.length<=i⟩
def wr(K:PySem.W.Frag)(a:Addr):It:=
 ⟨λ i H=>∃xs x,ci K H a xs/\xs[i]?=some x,λ i H x H'=>H'=H/\∀xs,ci K H a xs->xs[i]?=some x,λ i H=>∃xs,ci K H a xs/\xs.length<=i⟩
def Ga(lo:Int)(n:Nat):It:=⟨λ i _=>i<n,λ i H x H'=>H'=H/\x=.int (lo+i),λ i _=>n<=i⟩
theorem AK{P:Program}{w:World}{K:PySem.W.Frag}{tg:Expr}(a it:Addr):vg P w K tg (rj K a) [it] it (λ i h=>h.IsListIter it a i) where
 mem:=by simp
 obj:=λ i h st b hb=>by
  have e:b=it:=by simpa using hb
  subst e;obtain⟨o,e,c,d⟩:=st;exact⟨o,e,λ v z=>by rw[d]at z;cases z⟩
 keep:=λ i h h' st k=>st.at λ o e=>k it (by simp) o e
 item:=by intro X hP hw hK hc i pins s σ H E I hf st hg;subst hP hw hK;obtain⟨xs,x,hq,hx⟩:=hg;obtain⟨its,rv,p,hz⟩:=I.list hq;obtain⟨u,hu,ru⟩:=rv.get hx;obtain⟨f0,f1,f2,f3,f4,f5⟩:=hf it (by simp);refine wpAny_pyNext_list_item st p.isList (x:=u) (by simpa using hu) λ h' st' sb=>?_;have I1:aO X pins σ H {s with heap:=h'}:=I.turned (t':=s.toks) (λ b o hb e=>(sb.2 b hb).trans e) f0 f1 f3 f4 f5;obtain⟨o,e,c,d⟩:=id st';exact⟨u,rfl,zR (s:={s with heap:=h'}) e c d (by decide) ⟨x,H,I1,ru,⟨rfl,λ ys hy=>by rw[I.list_inj hy hq];exact hx⟩,st',λ b hb=>(hf b hb).1⟩⟩
 done:=by intro X hP hw hK hc i pins s σ H E I hf st hg;subst hP hw hK;obtain⟨xs,hq,hx⟩:=hg;obtain⟨its,rv,p,hz⟩:=I.list hq;obtain⟨f0,f1,f2,f3,f4,f5⟩:=hf it (by simp);have hl:=rv.length;exact wpAny_pyNext_list_end (I.ok.hd hc) st p.isList (by simp;omega) λ h' eb=>⟨rfl,I.turned (t':=s.toks) (λ b o hb e=>eb b o hb e) f0 f1 f3 f4 f5⟩
 self:=λ _ _ _ _ _ st h=>wpAny_pyIter_listiter st h
theorem yj{P:Program}{w:World}{K:PySem.W.Frag}{tg:Expr}(a it:Addr):vg P w K tg (wr K a) [it] it (λ i h=>h.IsTupleIter it a i) where
 mem:=by simp
 obj:=λ i h st b hb=>by
  have e:b=it:=by simpa using hb
  subst e;obtain⟨o,e,c,d⟩:=st;exact⟨o,e,λ v z=>by rw[d]at z;cases z⟩
 keep:=λ i h h' st k=>st.at λ o e=>k it (by simp) o e
 item:=by intro X hP hw hK hc i pins s σ H E I hf st hg;subst hP hw hK;obtain⟨xs,x,hq,hx⟩:=hg;obtain⟨its,rv,p,hz⟩:=I.tuple hq;obtain⟨u,hu,ru⟩:=rv.get hx;obtain⟨f0,f1,f2,f3,f4,f5⟩:=hf it (by simp);refine wpAny_pyNext_tuple_item st (show s.heap.IsTuple a its.toArray from p) (x:=u) (by simpa using hu) λ h' st' sb=>?_;have I1:aO X pins σ H {s with heap:=h'}:=I.turned (t':=s.toks) (λ b o hb e=>(sb.2 b hb).trans e) f0 f1 f3 f4 f5;obtain⟨o,e,c,d⟩:=id st';exact⟨u,rfl,zR (s:={s with heap:=h'}) e c d (by decide) ⟨x,H,I1,ru,⟨rfl,λ ys hy=>by rw[I.tuple_inj hy hq];exact hx⟩,st',λ b hb=>(hf b hb).1⟩⟩
 done:=by intro X hP hw hK hc i pins s σ H E I hf st hg;subst hP hw hK;obtain⟨xs,hq,hx⟩:=hg;obtain⟨its,rv,p,hz⟩:=I.tuple hq;obtain⟨f0,f1,f2,f3,f4,f5⟩:=hf it (by simp);have hl:=rv.length;exact wpAny_pyNext_tuple_end (I.ok.hd hc) st (show s.heap.IsTuple a its.toArray from p) (by simp;omega) λ h' eb=>⟨rfl,I.turned (t':=s.toks) (λ b o hb e=>eb b o hb e) f0 f1 f3 f4 f5⟩
 self:=λ _ _ _ _ _ st h=>wpAny_pyIter_tupleiter st h
theorem yk{P:Program}{w:World}{K:PySem.W.Frag}{tg:Expr}(it:Addr)(lo:Int)(n:Nat):vg P w K tg (Ga lo n) [it] it (λ i h=>IsRangeIter h it (lo+(i:Nat)*1) ((n:Int) - (i:Nat)) 1) where
 mem:=by simp
 obj:=λ i h st b hb=>by
  have e:b=it:=by simpa using hb
  subst e;exact⟨_,st,λ v z=>by have z':Data.fields _=Data.cell v:=z;cases z'⟩
 keep:=λ i h h' st k=>k it (by simp) _ st
 item:=by intro X hP hw hK hc i pins s σ H E I hf st hg;subst hP hw hK;obtain⟨f0,f1,f2,f3,f4,f5⟩:=hf it (by simp);have W:=Walks.range (prog:=X.prog) (w:=X.w) (I.ok.hd hc) it lo 1 n;refine W.item i s _ _ hg st λ v h' tk hv st' kk=>?_;obtain⟨t,rfl⟩:=hv;have I1:aO X pins σ H {s with heap:=h',toks:=tk}:=I.turned (λ b o hb e=>kk b o (by simpa using hb) e) f0 f1 f3 f4 f5;refine⟨_,rfl,zR (s:={s with heap:=h',toks:=tk}) (n :="range_iterator") st' rfl rfl (by decide) ⟨.int (lo+i),H,I1,⟨t,?_⟩,⟨rfl,rfl⟩,st',λ b hb=>(hf b hb).1⟩⟩;rw[Int.mul_one]
 done:=by intro X hP hw hK hc i pins s σ H E I hf st hg;subst hP hw hK;obtain⟨f0,f1,f2,f3,f4,f5⟩:=hf it (by simp);exact wpAny_pyNext_range_end (I.ok.hd hc) st (by have:n<=i:=hg;omega) λ h' eb=>⟨rfl,I.turned (t':=s.toks) (λ b o hb e=>eb b o hb e) f0 f1 f3 f4 f5⟩
 self:=λ _ _ _ _ _ st h=>wpAny_pyIter_rangeiter st h
section
variable{X:Cx}{tg:Expr}
def Hr(K:PySem.W.Frag)(tl:TE):TI:=λ σ H R=>tl σ H λ x H1=>∃a,x=.ref a/\(∃xs,SqL K H1 a xs)/\R (rj K a) H1
def Hs(K:PySem.W.Frag)(tl:TE):TI:=λ σ H R=>tl σ H λ x H1=>∃a,x=.ref a/\(∃xs,ci K H1 a xs)/\R (wr K a) H1
theorem bU{l:Expr}{tl:TE}(hl:PE X l tl):PI X tg l (Hr X.K tl):=by
 intro pins s σ H R I h;refine cR (hl pins s σ H _ I h) λ v s1 ⟨x,H1,I1,r1,q1⟩=>?_;obtain⟨a,e,⟨xs,hq⟩,q⟩:=q1;subst e;cases r1;obtain⟨its,rv,p,hz⟩:=I1.list hq;refine Ru p.isList ?_;refine⟨s1.heap.objs.size,[s1.heap.objs.size],_,_,H1,rfl,I1.kept (t':=s1.toks) λ b o e=>Lo _ e,AK a _,⟨_,Md _ rfl,rfl,rfl⟩,λ b hb=>?_,q⟩;have e:b=s1.heap.objs.size:=by simpa using hb
 subst e;exact I1.fpOk (Lf _) (I1.hok.fresh (Lf _))
theorem fK{l:Expr}{tl:TE}(hl:PE X l tl):PI X tg l (Hs X.K tl):=by
 intro pins s σ H R I h;refine cR (hl pins s σ H _ I h) λ v s1 ⟨x,H1,I1,r1,q1⟩=>?_;obtain⟨a,e,⟨xs,hq⟩,q⟩:=q1;subst e;cases r1;obtain⟨its,rv,p,hz⟩:=I1.tuple hq;refine wpAny_pyIter_tuple (show s1.heap.IsTuple a its.toArray from p) ?_;refine⟨s1.heap.objs.size,[s1.heap.objs.size],_,_,H1,rfl,I1.kept (t':=s1.toks) λ b o e=>Lo _ e,yj a _,⟨_,Md _ rfl,rfl,rfl⟩,λ b hb=>?_,q⟩;have e:b=s1.heap.objs.size:=by simpa using hb
 subst e;exact I1.fpOk (Lf _) (I1.hok.fresh (Lf _))
theorem wt{pins:List (Addr×Obj)}{σ:St}{H:Hp}{s:Shared}{R:It->Hp->Prop}{E:Value->Shared->Prop}{lo hi:Int}{t u v:Tok}{tk:Nat}(I:aO X pins σ H s)(h1 : -(2 ^ 62)<=lo)(h2:lo<2 ^ 62)(h3 : -(2 ^ 62)<=hi)(h4:hi<2 ^ 62)(q:R (Ga lo (hi - lo).toNat) H):wpAny (model X.prog X.w) X.A (pyIter (.ref s.heap.objs.size)) (Ix X pins σ tg R) E {s with heap:=s.heap.push {cls:=.type "range",data:=.fields #[.int lo t,.int hi u,.int 1 v]},toks:=tk}:=by
 refine wpAny_pyIter_range (IsRange.new ..) (small_one h1 h2 h3 h4) ?_;have I1:aO X pins σ H {s with heap:=s.heap.push {cls:=.type "range",data:=.fields #[.int lo t,.int hi u,.int 1 v]},toks:=tk}:=I.kept λ b o e=>Lo _ e;refine⟨(s.heap.push {cls:=.type "range",data:=.fields #[.int lo t,.int hi u,.int 1 v]}).objs.size,[(s.heap.push {cls:=.type "range",data:=.fields #[.int lo t,.int hi u,.int 1 v]}).objs.size],_,_,H,rfl,
  I1.kept (t':=tk) λ b o e=>Lo _ e,yk _ lo (hi - lo).toNat,?_,λ b hb=>?_,q⟩
 ·have e1:lo+((0:Nat):Int)*1=lo:=by simp
  have e2:(((hi - lo).toNat:Nat):Int) - ((0:Nat):Int)=Builtin.Range.rangeSize lo hi 1:=by rw[rangeSize_one];split<;>omega
  show IsRangeIter _ _ (lo+((0:Nat):Int)*1) ((((hi - lo).toNat:Nat):Int) - ((0:Nat):Int)) 1;rw[e1,e2];exact Md _ rfl
 ·have e:b=(s.heap.push {cls:=.type "range",data:=.fields #[.int lo t,.int hi u,.int 1 v]}).objs.size:=by simpa using hb
  subst e;exact I1.fpOk (Lf _) (I1.hok.fresh (Lf _))
def Ht(ta:TA):TI:=λ σ H R=>ta σ H λ vs H1=>∃j:Int,vs=[.int j]/\ -(2 ^ 62)<=j/\j<2 ^ 62/\R (Ga 0 j.toNat) H1
def Hu(ta:TA):TI:=λ σ H R=>ta σ H λ vs H1=>∃i j:Int,vs=[.int i,.int j]/\(-(2 ^ 62)<=i/\i<2 ^ 62/\ -(2 ^ 62)<=j/\j<2 ^ 62)/\R (Ga i (j - i).toNat) H1
theorem oA{a:Expr}{ta:TA}{p pos:Pos}(hg:Gl X "range")(hm:X.mg "range"=none)(ha:PA X [a] ta)(hs:starEach [a] X.env=[(false,eval a X.env)]:=by rfl):PI X tg (.Call (.Name "range" p) [a] [] pos) (Ht ta):=by
 intro pins s σ H R I h;refine Call_ (mh I hg hm boot_range (Ov (cR (ha pos pins s σ H _ I h) λ us s1 ⟨vs,H1,I1,r1,q1⟩=>?_) hs rfl));obtain⟨j,e,q1,q2,q⟩:=q1;subst e;cases r1 with
 |cons r rr=>cases rr;obtain⟨t,rfl⟩:=r;exact call_range_1 (wt I1 (by omega) (by omega) q1 q2 (by simpa using q))
theorem AL{a b:Expr}{ta:TA}{p pos:Pos}(hg:Gl X "range")(hm:X.mg "range"=none)(ha:PA X [a,b] ta)(hs:starEach [a,b] X.env=[(false,eval a X.env),(false,eval b X.env)]:=by rfl)(hs2:starEach [b] X.env=[(false,eval b X.env)]:=by rfl):
  PI X tg (.Call (.Name "range" p) [a,b] [] pos) (Hu ta):=by
 intro pins s σ H R I h;refine Call_ (mh I hg hm boot_range (Ov (cR (ha pos pins s σ H _ I h) λ us s1 ⟨vs,H1,I1,r1,q1⟩=>?_) (by rw[hs,hs2]) (by rw[hs2];rfl)));obtain⟨i,j,e,⟨q1,q2,q3,q4⟩,q⟩:=q1;subst e;cases r1 with
 |cons r rr=>
  cases rr with
  |cons r' rr=>cases rr;obtain⟨t,rfl⟩:=r;obtain⟨t',rfl⟩:=r';exact call_range_2 (wt I1 q1 q2 q3 q4 q)
def Hv(wi:TI)(g:TG)(tb:TS):TS:=λ D σ H=>wi σ H λ J H1=>∃W:Nat->Nat->St->Hp->Prop,(∃m,W 0 m σ H1)/\∀i m σ H,W i m σ H->
 (J.stop i H/\D.nx σ H)\/(J.go i H/\∃N:St->Hp->Prop,(∀σ' H',N σ' H'->∃m',m'<m/\W (i+1) m' σ' H')/\∀x H',J.yld i H x H'->g x σ H' λ σ2 H2=>tb {D with nx:=N,ct:=N,bk:=D.nx} σ2 H2)
def rm(fp:List Addr)(h:Heap):List (Addr×Obj):=fp.filterMap λ b=>(h.get? b).map λ o=>(b,o)
theorem mj{fp:List Addr}{h:Heap}{b:Addr}{o:Obj}(hb:b∈fp)(e:h.get? b=some o):(b,o)∈rm fp h:=Rk.mpr ⟨b,hb,by rw[e];rfl⟩
theorem AM{fp:List Addr}{h:Heap}{p:Addr×Obj}(hp:p∈rm fp h):p.1∈fp/\h.get? p.1=some p.2:=by
 obtain⟨b,hb,e⟩:=Rk.mp hp;cases q:h.get? b with
 |none=>rw[q]at e;cases e
 |some o=>rw[q]at e;have e':(b,o)=p:=Lz e;subst e';exact⟨hb,q⟩
theorem aO.pinned{pins:List (Addr×Obj)}{σ:St}{H:Hp}{s:Shared}{fp:List Addr}(I:aO X pins σ H s)(hf:∀b∈fp,rh X pins H b)(ho:∀b∈fp,∃o,s.heap.get? b=some o/\∀v,o.data≠.cell v):aO X (pins++rm fp s.heap) σ H s:=
 I.pins_of λ p hp=>(Mg.mp hp).elim (λ z=>I.pin p (Nc _ z)) λ z=>by obtain⟨hb,e⟩:=AM z;obtain⟨f0,f1,f2,_⟩:=hf p.1 hb;obtain⟨o,e',d⟩:=ho p.1 hb;rw[e]at e';cases e';exact⟨e,f0,f1,f2,d⟩
theorem aO.unpinned{pins pl:List (Addr×Obj)}{σ:St}{H:Hp}{s:Shared}(I:aO X (pins++pl) σ H s):aO X pins σ H s:=I.pins_of λ p hp=>I.pin p (Nc _ (Ot _ hp))
theorem dn{iter:Expr}{body:List Stmt}{wi:TI}{g:TG}{tb:TS}{pos:Pos}(hp:PassesOwn (model X.prog X.w) X.A X.env X.xe)(hc:X.calm=true)(hi:PI X tg iter wi)(hg:PG X tg g)(hb:yi X body tb)(hs:∀x,foldedSetIterable iter X.env x=pure x:=by intro _;rfl):PS X (.For tg iter body [] pos) (Hv wi g tb):=by
 intro pins s σ H D I h;refine wpAny_For (cR (hi pins s σ H _ I h) λ v s1 h1=>cR h1 λ itv s2 h2=>?_) hs;obtain⟨it,fp,tn,J,H2,e,I2,T,st2,f2,W,⟨m0,w0⟩,turn⟩:=h2;subst e;have stat:∀{H':Hp},(∀b∈fp,H' b=none)->∀b∈fp,rh X pins H' b:=λ hn b hb=>⟨hn b hb,(f2 b hb).2⟩;refine codeAny_forLoop_any (λ n s'=>∃i σ' H',aO X pins σ' H' s'/\tn i s'.heap/\(∀b∈fp,H' b=none)/\W i n σ' H') ?_ m0 ⟨0,σ,H2,I2,st2,λ b hb=>(f2 b hb).1,w0⟩;rintro n s3 ⟨i,σ3,H3,I3,st3,fr3,w3⟩;rcases turn i n σ3 H3 w3 with⟨stop,qn⟩ |⟨go,N,hN,step⟩
 ·refine Pr hp (cR (T.done X rfl rfl rfl hc i pins s3 σ3 H3 X.xe I3 (stat fr3) st3 stop) λ r s4 ⟨hr,I4⟩=>?_);subst hr;exact wpAny_execs_nil ⟨σ3,H3,I4,qn⟩
 ·refine Pr hp (cR (T.item X rfl rfl rfl hc i pins s3 σ3 H3 X.xe I3 (stat fr3) st3 go) λ r s4 ⟨u,hr,h4⟩=>?_);subst hr;refine Pr hp (cR h4 λ _ s5 ⟨x,H5,I5,r5,y5,st5,fr5⟩=>?_);have I5':=I5.pinned (stat fr5) (T.obj _ _ st5);refine Pr hp (cR (hg _ s5 σ3 H5 x u _ I5' r5 (step x H5 y5)) λ _ s6 ⟨σ6,H6,I6,q6⟩=>?_);refine Pr hp (cR (hb _ s6 σ6 H6 _ I6 q6) λ f s7 q7=>?_);have again:∀{σ7:St} {H7:Hp},aO X (pins++rm fp s5.heap) σ7 H7 s7->N σ7 H7->∃m,m<n/\∃i σ' H',aO X pins σ' H' s7/\tn i s7.heap/\(∀b∈fp,H' b=none)/\W i m σ' H':=fun{σ7 H7} I7 n7=>by
   obtain⟨m',hm,w7⟩:=hN σ7 H7 n7;refine⟨m',hm,i+1,σ7,H7,I7.unpinned,T.keep _ _ _ st5 λ b hb o e=>(I7.pin (b,o) (Nc _ (Nc _ (mj hb e)))).1,λ b hb=>?_,w7⟩;obtain⟨o,e,d⟩:=T.obj _ _ st5 b hb;exact(I7.pin (b,o) (Nc _ (Nc _ (mj hb e)))).2.1
  cases f with
  |next=>obtain⟨σ7,H7,I7,n7⟩:=q7;exact again I7 n7
  |cont=>obtain⟨σ7,H7,I7,n7⟩:=q7;exact again I7 n7
  |brk=>obtain⟨σ7,H7,I7,q7⟩:=q7;exact⟨σ7,H7,I7.unpinned,q7⟩
  |ret v=>obtain⟨x7,σ7,H7,I7,r7,q7⟩:=q7;exact⟨x7,σ7,H7,I7.unpinned,r7,q7⟩
end
theorem fL{K:PySem.W.Frag}{a:Addr}{xs:List V}{g:TG}{tb:TS}{D:tJ}{σ:St}{H:Hp}(Pv:Nat->St->Hp->Prop)(h0:Pv 0 σ H)(hl:∀i σ H,i<=xs.length->Pv i σ H->SqL K H a xs)(hs:∀i x σ H,xs[i]?=some x->Pv i σ H->g x σ H λ σ2 H2=>tb {D with nx:=Pv (i+1),ct:=Pv (i+1),bk:=D.nx} σ2 H2)(hd:∀σ H,Pv xs.length σ H->D.nx σ H):
  ∃W:Nat->Nat->St->Hp->Prop,(∃m,W 0 m σ H)/\∀i m σ H,W i m σ H->
   ((rj K a).stop i H/\D.nx σ H)\/((rj K a).go i H/\∃N:St->Hp->Prop,(∀σ' H',N σ' H'->∃m',m'<m/\W (i+1) m' σ' H')/\∀x H',(rj K a).yld i H x H'->g x σ H' λ σ2 H2=>tb {D with nx:=N,ct:=N,bk:=D.nx} σ2 H2):=by
 refine⟨λ i m σ H=>m=xs.length - i/\i<=xs.length/\Pv i σ H,⟨xs.length,by simp,Lj _,h0⟩,?_⟩;rintro i m σ H ⟨rfl,hi,p⟩;have q:=hl i σ H hi p;by_cases hlt:i<xs.length
 ·refine .inr ⟨⟨xs,xs[i],q,by simp[hlt]⟩,Pv (i+1),λ σ' H' p'=>⟨xs.length - (i+1),by omega,rfl,hlt,p'⟩,λ x H' y=>?_⟩;obtain⟨e,y⟩:=y;subst e;exact hs i x σ _ (y xs q) p
 ·have e:i=xs.length:=by omega
  subst e;exact .inl ⟨⟨xs,q,Lf _⟩,hd σ H p⟩
theorem mM{K:PySem.W.Frag}{a:Addr}{xs:List V}{g:TG}{tb:TS}{D:tJ}{σ:St}{H:Hp}(Pv:Nat->St->Hp->Prop)(h0:Pv 0 σ H)(hl:∀i σ H,i<=xs.length->Pv i σ H->ci K H a xs)(hs:∀i x σ H,xs[i]?=some x->Pv i σ H->g x σ H λ σ2 H2=>tb {D with nx:=Pv (i+1),ct:=Pv (i+1),bk:=D.nx} σ2 H2)(hd:∀σ H,Pv xs.length σ H->D.nx σ H):
  ∃W:Nat->Nat->St->Hp->Prop,(∃m,W 0 m σ H)/\∀i m σ H,W i m σ H->
   ((wr K a).stop i H/\D.nx σ H)\/((wr K a).go i H/\∃N:St->Hp->Prop,(∀σ' H',N σ' H'->∃m',m'<m/\W (i+1) m' σ' H')/\∀x H',(wr K a).yld i H x H'->g x σ H' λ σ2 H2=>tb {D with nx:=N,ct:=N,bk:=D.nx} σ2 H2):=by
 refine⟨λ i m σ H=>m=xs.length - i/\i<=xs.length/\Pv i σ H,⟨xs.length,by simp,Lj _,h0⟩,?_⟩;rintro i m σ H ⟨rfl,hi,p⟩;have q:=hl i σ H hi p;by_cases hlt:i<xs.length
 ·refine .inr ⟨⟨xs,xs[i],q,by simp[hlt]⟩,Pv (i+1),λ σ' H' p'=>⟨xs.length - (i+1),by omega,rfl,hlt,p'⟩,λ x H' y=>?_⟩;obtain⟨e,y⟩:=y;subst e;exact hs i x σ _ (y xs q) p
 ·have e:i=xs.length:=by omega
  subst e;exact .inl ⟨⟨xs,q,Lf _⟩,hd σ H p⟩
theorem lh{lo:Int}{n:Nat}{g:TG}{tb:TS}{D:tJ}{σ:St}{H:Hp}(Pv:Nat->St->Hp->Prop)(h0:Pv 0 σ H)(hs:∀i σ H,i<n->Pv i σ H->g (.int (lo+i)) σ H λ σ2 H2=>tb {D with nx:=Pv (i+1),ct:=Pv (i+1),bk:=D.nx} σ2 H2)(hd:∀σ H,Pv n σ H->D.nx σ H):
  ∃W:Nat->Nat->St->Hp->Prop,(∃m,W 0 m σ H)/\∀i m σ H,W i m σ H->
   ((Ga lo n).stop i H/\D.nx σ H)\/((Ga lo n).go i H/\∃N:St->Hp->Prop,(∀σ' H',N σ' H'->∃m',m'<m/\W (i+1) m' σ' H')/\∀x H',(Ga lo n).yld i H x H'->g x σ H' λ σ2 H2=>tb {D with nx:=N,ct:=N,bk:=D.nx} σ2 H2):=by
 refine⟨λ i m σ H=>m=n - i/\i<=n/\Pv i σ H,⟨n,by simp,Lj _,h0⟩,?_⟩;rintro i m σ H ⟨rfl,hi,p⟩;by_cases hlt:i<n
 ·refine .inr ⟨hlt,Pv (i+1),λ σ' H' p'=>⟨n - (i+1),by omega,rfl,hlt,p'⟩,λ x H' y=>?_⟩;obtain⟨e,y⟩:=y;subst e y;exact hs i σ _ hlt p
 ·have e:i=n:=by omega
  subst e;exact .inl ⟨Lf _,hd σ H p⟩
abbrev R2:=V->V->Hp->VK->Prop
def mN(X:Cx)(f:Value->Value->Sem Value)(r:R2):Prop:=
 ∀(pins:List (Addr×Obj)) (s:Shared) (σ:St) (H:Hp) (x y:V) (v u:Value) (Q:VK),aO X pins σ H s->bG x v->bG y u->r x y H Q->
  wpAny (model X.prog X.w) X.A (f v u) (EP X pins σ Q) X.xe s
def Iy(X:Cx)(f:Value->Sem Value)(r:V->Hp->VK->Prop):Prop:=
 ∀(pins:List (Addr×Obj)) (s:Shared) (σ:St) (H:Hp) (x:V) (v:Value) (Q:VK),aO X pins σ H s->bG x v->r x H Q->
  wpAny (model X.prog X.w) X.A (f v) (EP X pins σ Q) X.xe s
def gh(X:Cx)(f:Value)(r:List V->Hp->VK->Prop):Prop:=
 ∀(pins:List (Addr×Obj)) (s:Shared) (σ:St) (H:Hp) (xs:List V) (us:List Value) (Q:VK),aO X pins σ H s->bn xs us->r xs H Q->
  wpAny (model X.prog X.w) X.A (call f us) (EP X pins σ Q) X.xe s
def Co(r:R2)(ta tb:TE):TE:=λ σ H Q=>ta σ H λ x H1=>tb σ H1 λ y H2=>r x y H2 Q
def Ja(r:V->Hp->VK->Prop)(ta:TE):TE:=λ σ H Q=>ta σ H λ x H1=>r x H1 Q
def El(g:Int->Int->V):R2:=λ x y H Q=>∃i j,x=.int i/\y=.int j/\Q (g i j) H
def rU(g:Int->V):V->Hp->VK->Prop:=λ x H Q=>∃i,x=.int i/\Q (g i) H
section
variable{X:Cx}{a b c:Expr}{ta tb tc:TE}{pos:Pos}
theorem Gb(ha:PE X a ta)(hb:PE X b tb){pins:List (Addr×Obj)}{s:Shared}{σ:St}{H:Hp}{R:V->V->Hp->Prop}(I:aO X pins σ H s)(h:ta σ H λ x H1=>tb σ H1 λ y H2=>R x y H2){Q:Value->Shared->Prop}{f:Value->Value->Sem Value}(hf:∀v u s2 x y H2,aO X pins σ H2 s2->bG x v->bG y u->R x y H2->wpAny (model X.prog X.w) X.A (f v u) Q X.xe s2):
  wpAny (model X.prog X.w) X.A (eval a X.env) (λ v s₁=>wpAny (model X.prog X.w) X.A (eval b X.env) (λ u s₂=>wpAny (model X.prog X.w) X.A (f v u) Q X.xe s₂) X.xe s₁) X.xe s:=by
 refine cR (ha pins s σ H _ I h) λ v s1 ⟨x,H1,I1,r1,q1⟩=>?_;refine cR (hb pins s1 σ H1 _ I1 q1) λ u s2 ⟨y,H2,I2,r2,q2⟩=>?_;exact hf v u s2 x y H2 I2 r1 r2 q2
theorem bu{op:Operator}{r:R2}(ho:mN X (binaryOp op) r)(ha:PE X a ta)(hb:PE X b tb):PE X (.BinOp a op b pos) (Co r ta tb):=by intro pins s σ H Q I h;exact wpAny_BinOp (Gb ha hb I h λ v u s2 x y H2 I2 rx ry q=>ho pins s2 σ H2 x y v u Q I2 rx ry q)
theorem ue{op:UnaryOp}{r:V->Hp->VK->Prop}(ho:Iy X (unaryOp op) r)(ha:PE X a ta):PE X (.UnaryOp op a pos) (Ja r ta):=by intro pins s σ H Q I h;exact UnaryOp_ (cR (ha pins s σ H _ I h) λ v s1 ⟨x,H1,I1,r1,q1⟩=>ho pins s1 σ H1 x v Q I1 r1 q1)
theorem Hw{f:Value->Value->Sem Value}{g:Int->Int->Int}(rule:∀(i j:Int) (t u:Tok) (s:Shared) (Q:Value->Shared->Prop) (E:Value->Shared->Prop),Q (.int (g i j) s.toks) {s with toks:=s.toks+1}->wpAny (model X.prog X.w) X.A (f (.int i t) (.int j u)) Q E s):
  mN X f (El λ i j=>.int (g i j)):=by
 intro pins s σ H x y v u Q I rx ry h;obtain⟨i,j,rfl,rfl,q⟩:=h;obtain⟨t,rfl⟩:=rx;obtain⟨t',rfl⟩:=ry;exact rule i j t t' s _ _ ⟨.int (g i j),H,I.tok _,⟨_,rfl⟩,q⟩
theorem Gc{f:Value->Value->Sem Value}{g:Int->Int->Bool}(rule:∀(i j:Int) (t u:Tok) (s:Shared) (Q:Value->Shared->Prop) (E:Value->Shared->Prop),Q (.bool (g i j)) s->wpAny (model X.prog X.w) X.A (f (.int i t) (.int j u)) Q E s):
  mN X f (El λ i j=>.bl (g i j)):=by
 intro pins s σ H x y v u Q I rx ry h;obtain⟨i,j,rfl,rfl,q⟩:=h;obtain⟨t,rfl⟩:=rx;obtain⟨t',rfl⟩:=ry;exact rule i j t t' s _ _ ⟨.bl (g i j),H,I,rfl,q⟩
theorem cq:mN X (binaryOp .Add) (El λ i j=>.int (i+j)):=Hw λ _ _ _ _ _ _ _ q=>add_int q
theorem Cp:mN X (binaryOp .Sub) (El λ i j=>.int (i - j)):=Hw λ _ _ _ _ _ _ _ q=>sub_int q
theorem JH{f:Value->Sem Value}{g:Int->Int}(rule:∀(i:Int) (t:Tok) (s:Shared) (Q:Value->Shared->Prop) (E:Value->Shared->Prop),Q (.int (g i) s.toks) {s with toks:=s.toks+1}->wpAny (model X.prog X.w) X.A (f (.int i t)) Q E s):
  Iy X f (rU λ i=>.int (g i)):=by
 intro pins s σ H x v Q I rx h;obtain⟨i,rfl,q⟩:=h;obtain⟨t,rfl⟩:=rx;exact rule i t s _ _ ⟨.int (g i),H,I.tok _,⟨_,rfl⟩,q⟩
theorem oB:Iy X (unaryOp .USub) (rU λ i=>.int (-i)):=JH λ _ _ _ _ _ q=>neg_int q
end
def Hy:V->V->Bool
 |.non,.non=>true |.non,.int _=>true |.int _,.non=>true |.non,.bl _=>true |.bl _,.non=>true |.non,.str _=>true |.str _,.non=>true
 |.int _,.int _=>true |.bl _,.bl _=>true |.str _,.str _=>true |.byt _,.byt _=>true
 |.int _,.str _=>true |.str _,.int _=>true |.bl _,.str _=>true |.str _,.bl _=>true
 |_,_=>false
def Ih:R2:=λ x y H Q=>Hy x y=true/\Q (.bl (decide (x=y))) H
def JI:R2:=λ x y H Q=>Hy x y=true/\Q (.bl (!decide (x=y))) H
theorem qJ{i j:Int}:decide (V.int i=V.int j)=(i==j):=by rw[Ow];simp
theorem Cq{i j:Bool}:decide (V.bl i=V.bl j)=(i==j):=by rw[Ow];simp
theorem zS{i j:Str}:decide (V.str i=V.str j)=(i==j):=by rw[Ow];simp
theorem zT{i j:Array UInt8}:decide (V.byt i=V.byt j)=(i.toList==j.toList):=by rw[Ow];cases i;cases j;simp
section
variable{X:Cx}{a b c:Expr}{ta tb tc:TE}{pos:Pos}
theorem bV{pins:List (Addr×Obj)}{σ:St}{H:Hp}{s:Shared}{Q:VK}{k k':Bool}(I:aO X pins σ H s)(q:Q (.bl k) H)(e:k=k'):EP X pins σ Q (.bool k') s:=by subst e;exact⟨.bl k,H,I,rfl,q⟩
theorem bo:mN X (compareOp .Eq) Ih:=by
 intro pins s σ H x y v u Q I rx ry h;obtain⟨hs,q⟩:=h;cases x with
 |non=>
  cases rx;cases y with
  |non=>cases ry;exact PySem.EqNone.eq_none_none (bV I q (by simp))
  |bl j=>cases ry;exact PySem.EqNone.eq_none_bool (bV I q (by simp))
  |int j=>obtain⟨t',rfl⟩:=ry;exact PySem.EqNone.eq_none_int (bV I q (by simp))
  |str j=>obtain⟨t',rfl⟩:=ry;exact PySem.EqNone.eq_none_str (bV I q (by simp))
  |_=>exact absurd (show false=true from hs) Mc
 |bl i=>
  cases rx;cases y with
  |non=>cases ry;exact PySem.EqNone.eq_bool_none (bV I q (by simp))
  |bl j=>cases ry;exact eq_bool (bV I q Cq)
  |str j=>obtain⟨t',rfl⟩:=ry;exact PySem.EqMixed.eq_bool_str (bV I q (by simp))
  |_=>exact absurd (show false=true from hs) Mc
 |int i=>
  obtain⟨t,rfl⟩:=rx;cases y with
  |non=>cases ry;exact PySem.EqNone.eq_int_none (bV I q (by simp))
  |int j=>obtain⟨t',rfl⟩:=ry;exact eq_int (bV I q qJ)
  |str j=>obtain⟨t',rfl⟩:=ry;exact PySem.EqMixed.eq_int_str (bV I q (by simp))
  |_=>exact absurd (show false=true from hs) Mc
 |str i=>
  obtain⟨t,rfl⟩:=rx;cases y with
  |non=>cases ry;exact PySem.EqNone.eq_str_none (bV I q (by simp))
  |bl j=>cases ry;exact PySem.EqMixed.eq_str_bool (bV I q (by simp))
  |int j=>obtain⟨t',rfl⟩:=ry;exact PySem.EqMixed.eq_str_int (bV I q (by simp))
  |str j=>obtain⟨t',rfl⟩:=ry;exact eq_str (bV I q zS)
  |_=>exact absurd (show false=true from hs) Mc
 |byt i=>
  obtain⟨t,rfl⟩:=rx;cases y with
  |byt j=>obtain⟨t',rfl⟩:=ry;exact PySem.W.eq_bytes (bV I q zT)
  |_=>exact absurd (show false=true from hs) Mc
 |_=>cases y<;>exact absurd (show false=true from hs) Mc
theorem iR:mN X (compareOp .NotEq) JI:=by
 intro pins s σ H x y v u Q I rx ry h;obtain⟨hs,q⟩:=h;cases x with
 |non=>
  cases rx;cases y with
  |non=>cases ry;exact PySem.EqNone.ne_none_none (bV I q (by simp))
  |bl j=>cases ry;exact PySem.EqNone.ne_none_bool (bV I q (by simp))
  |int j=>obtain⟨t',rfl⟩:=ry;exact PySem.EqNone.ne_none_int (bV I q (by simp))
  |str j=>obtain⟨t',rfl⟩:=ry;exact PySem.EqNone.ne_none_str (bV I q (by simp))
  |_=>exact absurd (show false=true from hs) Mc
 |bl i=>
  cases rx;cases y with
  |non=>cases ry;exact PySem.EqNone.ne_bool_none (bV I q (by simp))
  |bl j=>cases ry;exact ne_bool (bV I q (Na not Cq))
  |str j=>obtain⟨t',rfl⟩:=ry;exact PySem.EqMixed.ne_bool_str (bV I q (by simp))
  |_=>exact absurd (show false=true from hs) Mc
 |int i=>
  obtain⟨t,rfl⟩:=rx;cases y with
  |non=>cases ry;exact PySem.EqNone.ne_int_none (bV I q (by simp))
  |int j=>obtain⟨t',rfl⟩:=ry;exact ne_int (bV I q (Na not qJ))
  |str j=>obtain⟨t',rfl⟩:=ry;exact PySem.EqMixed.ne_int_str (bV I q (by simp))
  |_=>exact absurd (show false=true from hs) Mc
 |str i=>
  obtain⟨t,rfl⟩:=rx;cases y with
  |non=>cases ry;exact PySem.EqNone.ne_str_none (bV I q (by simp))
  |bl j=>cases ry;exact PySem.EqMixed.ne_str_bool (bV I q (by simp))
  |int j=>obtain⟨t',rfl⟩:=ry;exact PySem.EqMixed.ne_str_int (bV I q (by simp))
  |str j=>obtain⟨t',rfl⟩:=ry;exact ne_str (bV I q (Na not zS))
  |_=>exact absurd (show false=true from hs) Mc
 |byt i=>
  obtain⟨t,rfl⟩:=rx;cases y with
  |byt j=>obtain⟨t',rfl⟩:=ry;exact PySem.W.ne_bytes (bV I q (Na not zT))
  |_=>exact absurd (show false=true from hs) Mc
 |_=>cases y<;>exact absurd (show false=true from hs) Mc
theorem pD:mN X (compareOp .Lt) (El λ i j=>.bl (decide (i<j))):=Gc λ _ _ _ _ _ _ _ q=>lt_int q
theorem dE:mN X (compareOp .LtE) (El λ i j=>.bl (decide (i<=j))):=Gc λ _ _ _ _ _ _ _ q=>le_int q
theorem lU:mN X (compareOp .Gt) (El λ i j=>.bl (decide (j<i))):=Gc λ _ _ _ _ _ _ _ q=>gt_int q
theorem ax(b:Expr){op:CmpOp}(h:op≠.In:=by decide)(h2:op≠.NotIn:=by decide):behindInMarks op b=false:=by
 have e1:(op==CmpOp.In)=false:=by cases op<;>first |rfl |exact absurd rfl h
 have e2:(op==CmpOp.NotIn)=false:=by cases op<;>first |rfl |exact absurd rfl h2
 cases b<;>simp[behindInMarks,e1,e2]
theorem dB{op:CmpOp}{r:R2}(ho:mN X (compareOp op) r)(ha:PE X a ta)(hb:PE X b tb)(hm:behindInMarks op b=false):PE X (.Compare a [op] [b] pos) (Co r ta tb):=by intro pins s σ H Q I h;exact wpAny_Compare1 (Gb ha hb I h λ v u s2 x y H2 I2 rx ry q=>ho pins s2 σ H2 x y v u Q I2 rx ry q) hm
def uf(t:TE):TT:=λ σ H Q=>t σ H λ x H'=>∃k,x=.bl k/\Q k H'
theorem aq{op:CmpOp}{r:R2}(ho:mN X (compareOp op) r)(ha:PE X a ta)(hb:PE X b tb)(hm:behindInMarks op b=false):PT X (.Compare a [op] [b] pos) (uf (Co r ta tb)):=by
 intro pins s σ H Q I h;refine wpAny_isTrue_Compare1 (cR (ha pins s σ H _ I h) λ v s1 ⟨x,H1,I1,r1,q1⟩=>cR (hb pins s1 σ H1 _ I1 q1) λ u s2 ⟨y,H2,I2,r2,q2⟩=>
  cR (ho pins s2 σ H2 x y v u _ I2 r1 r2 q2) λ c s3 ⟨z,H3,I3,r3,k,e,q3⟩=>?_) hm
 subst e;cases r3;exact Oc ⟨H3,I3,q3⟩
def Cr(r r':R2)(ta tb tc:TE):TE:=λ σ H Q=>ta σ H λ x H1=>tb σ H1 λ y H2=>r x y H2 λ z H3=>∃k,z=.bl k/\
 (if k=true then tc σ H3 λ w' H4=>r' y w' H4 Q else Q (.bl false) H3)
theorem gX{op op':CmpOp}{r r':R2}(ho:mN X (compareOp op) r)(ho':mN X (compareOp op') r')(ha:PE X a ta)(hb:PE X b tb)(hc:PE X c tc)(hm:lastMarks [op,op'] [b,c]=false:=by with_unfolding_all rfl):PE X (.Compare a [op,op'] [b,c] pos) (Cr r r' ta tb tc):=by
 intro pins s σ H Q I h;refine Compare_chain (cR (ha pins s σ H _ I h) λ v s1 ⟨x,H1,I1,r1,q1⟩=>chain_link (cR (hb pins s1 σ H1 _ I1 q1) λ u s2 ⟨y,H2,I2,r2,q2⟩=>
  cR (ho pins s2 σ H2 x y v u _ I2 r1 r2 q2) λ d s3 ⟨z,H3,I3,r3,k,e,q3⟩=>?_)) hm
 subst e;cases r3;refine Oc ?_;cases k with
 |false=>exact ite_ff ⟨.bl false,H3,I3,rfl,q3⟩
 |true=>exact ite_tt (chain_last (cR (hc pins s3 σ H3 _ I3 q3) λ w' s4 ⟨z',H4,I4,r4,q4⟩=>ho' pins s4 σ H4 y z' u w' Q I4 r2 r4 q4))
theorem gY{op op':CmpOp}{r r':R2}(ho:mN X (compareOp op) r)(ho':mN X (compareOp op') r')(ha:PE X a ta)(hb:PE X b tb)(hc:PE X c tc)(hm:lastMarks [op,op'] [b,c]=false:=by with_unfolding_all rfl):PT X (.Compare a [op,op'] [b,c] pos) (uf (Cr r r' ta tb tc)):=by
 intro pins s σ H Q I h;refine isTrue_chain (cR (ha pins s σ H _ I h) λ v s1 ⟨x,H1,I1,r1,q1⟩=>test_link (cR (hb pins s1 σ H1 _ I1 q1) λ u s2 ⟨y,H2,I2,r2,q2⟩=>
  cR (ho pins s2 σ H2 x y v u _ I2 r1 r2 q2) λ d s3 ⟨z,H3,I3,r3,k,e,q3⟩=>?_)) hm
 subst e;cases r3;refine Oc ?_;cases k with
 |false=>obtain⟨k',e',q'⟩:=q3;cases e';exact ite_ff ⟨H3,I3,q'⟩
 |true=>refine ite_tt (test_last (cR (hc pins s3 σ H3 _ I3 q3) λ w' s4 ⟨z',H4,I4,r4,q4⟩=>cR (ho' pins s4 σ H4 y z' u w' _ I4 r2 r4 q4) λ d' s5 ⟨z2,H5,I5,r5,k2,e2,q5⟩=>?_));subst e2;cases r5;exact Oc ⟨H5,I5,q5⟩
theorem yl:(sizeLine:Nat)<2 ^ 63:=by rw[Sa];decide
theorem pE{x:V}{us:List Value}(r:bn [x] us):∃u,us=[u]/\bG x u:=by
 cases r with
 |cons r1 r2=>cases r2;exact⟨_,rfl,r1⟩
theorem Cs:gh X (.builtin "ord") (λ xs H Q=>∃x,xs=[.str x]/\x.length=1/\Q (.int (x.cps.getD 0 0:Nat)) H):=by intro pins s σ H xs us Q I r h;obtain⟨x,rfl,hz,q⟩:=h;obtain⟨u,rfl,t,rfl⟩:=pE r;exact ord_of_one hz ⟨.int _,H,I.tok _,⟨_,rfl⟩,q⟩
end
structure ym(h:Heap)(x dx C:Addr)(mA:Str->Option Value):Prop where
 obj:h.get? x=some (PySem.W.instObj C dx)
 ns:h.Ns1 dx mA
 ne:dx≠x
theorem AN{h:Heap}{dx:Addr}{mA:Str->Option Value}(n:h.Ns1 dx mA):∃od,h.get? dx=some od/\∀name,PySem.W.lookIn name od=some (mA name):=by
 obtain⟨o,es,ep,ho,hd,hk,_,hm⟩:=n;refine⟨o,ho,λ name=>?_⟩;have e:=hm name;unfold nsFind findBy at e;rw[<-Array.find?_toList]at e;unfold PySem.W.lookIn;rw[hd];dsimp only;split
 ·rename_i y q;rw[q]at e;exact Na some e
 ·rename_i q;rw[q]at e;have a:es.toList.any (·.refKey)=false:=by
   rw[List.any_eq_false];intro y hy;obtain⟨z,t,hkey⟩:=hk y (Array.mem_toList_iff.mp hy);simp[DictEntry.refKey,hkey]
  have a':¬es.toList.any (·.refKey)=true:=by rw[a];exact Mc
  rw[Ld a'];exact Na some e
theorem ym.look{h:Heap}{x dx C:Addr}{mA:Str->Option Value}(I:ym h x dx C mA):∃od,PySem.W.InstAt h x (PySem.W.instObj C dx) C (some od)/\∀name,PySem.W.lookIn name od=some (mA name):=
 let⟨od,ho,hl⟩:=AN I.ns
 ⟨od,⟨I.obj,rfl,rfl,ho⟩,hl⟩
section
variable{prog:Program}{w:World}{A:Around}{E:Value->Shared->Prop}{s:Shared}{K:PySem.W.Frag}{x dx C f:Addr}{mA:Str->Option Value}{name:Str}{v:Value}
theorem Em{expr:Bool}{Q:Value->Shared->Prop}(X:K.In s.heap)(I:ym s.heap x dx C mA)(hg:PySem.W.plainGet K C name=true)(hh:PySem.W.hasDictIn K C=true)(ha:PySem.W.findIn K (.ref C) name=some none)(hv:mA name=some v)(hv':PySem.W.handedIn v=true)(h:Q v {s with toks:=s.toks+1}):
  wpAny (model prog w) A (getAttr (.ref x) name expr) Q E s:=by
 obtain⟨od,J,hl⟩:=I.look;exact PySem.W.get_value X J (PySem.W.plainGet_of hg).1 (PySem.W.findObj_own hh ha rfl (by rw[hl,hv])) hv' h
theorem Ct{pl:Sem Bool}{Q:Value×List Value->Shared->Prop}(X:K.In s.heap)(I:ym s.heap x dx C mA)(hg:PySem.W.plainGet K C name=true)(hf:PySem.W.findIn K (.ref C) name=some (some (.ref f)))(ht:PySem.W.isFn K (.ref f)=true)(hv:mA name=none)(h:Q (.ref f,[.ref x]) s):
  wpAny (model prog w) A (getMethod (.ref x) name pl) Q E s:=by
 obtain⟨od,J,hl⟩:=I.look;exact PySem.W.method_fn X J (PySem.W.plainGet_of hg).1 (PySem.W.plainGet_of hg).2 hf (Qa.mp ht) (by show(PySem.W.lookIn name od).map (·.isSome)=some false;rw[hl,hv];rfl) h
theorem En{ns:List Str}{Q:Unit->Shared->Prop}(X:K.In s.heap)(I:ym s.heap x dx C mA)(hs:PySem.W.findIn K (.ref C) "__setattr__"=some (some (.builtin "object.__setattr__")))(hp:PySem.W.plainOver K C=true)(ht:PySem.W.takerIn K C name=some none)(hh:PySem.W.hasDictIn K C=true)(hw:PySem.Within mA ns)(hsz:ns.length<=sizeLine)(h:∀h',ym h' x dx C (λ y=>if y=name then some v else mA y)->Heap.SameBut dx s.heap h'->Q () {s with heap:=h',toks:=s.toks+2}):
  wpAny (model prog w) A (setAttr (.ref x) name v) Q E s:=by
 obtain⟨od,J,hl⟩:=I.look;refine PySem.W.set_plain X J hs (PySem.W.osa_open (s:={s with toks:=s.toks+1}) (r:=none) X J hp ht λ b=>?_);obtain⟨cd,hc,hd'⟩:=PySem.W.any_some hh;have hx:s.heap.get? x=some ⟨.ref C,some dx,.plain,#[]⟩:=I.obj;refine Lb (Lm (Lb (Lb (wpAny_loadPart hx (Lb (PySem.W.Looks.here (s:={s with toks:=s.toks+1}) (PySem.W.looks_clsIn X hc) ?_))))));rw[hd'];refine Lm (a:=some dx) (Lb (Lm (Lb ?_)));refine wpAny_nsSet1 (s:={s with toks:=s.toks+1}) I.ns λ h' hn2 hs2=>?_;obtain⟨oD,esD,epD,hoD,hdD,hcD⟩:=hn2.count (PySem.Within.cons name v hw);refine Lb (wpAny_lookBehind hoD (by rw[hdD];exact pastItsLine_dict (Ln hcD (by rw[Lg];omega))) ?_);exact Lm (h _ ⟨(hs2.2 _ (Ne.symm I.ne)).trans I.obj,hn2,I.ne⟩ hs2)
theorem Cu{R:Result->Shared->Prop}{vs:List Value}{kw:List (Str×Value)}(X:K.In s.heap)(hm:PySem.W.makesIn K C=true)(hi:PySem.W.findIn K (.ref C) "__init__"=some (some (.ref f)))(hf:PySem.W.typeIn K (.ref f)=some (.type "function"))(h:codeAny (model prog w) (A.under (.builtin "type.__call__" ⟨.ref C::vs,kw⟩)) (.call (.ref f) ⟨.ref (s.heap.objs.size+1):: vs,kw⟩) (PySem.W.InitBack (s.heap.objs.size+1) R)
   {s with heap:=(s.heap.push PySem.W.emptyDict).push (PySem.W.instObj C s.heap.objs.size)}):
  codeAny (model prog w) A (.call (.ref C) ⟨vs,kw⟩) R s:=by
 obtain⟨hh,g,d,t,os⟩:=s;exact PySem.W.make_core (PySem.W.makes_of X hm) (PySem.W.looks_findIn X hi) (λ self=>PySem.W.bind_fn X self hf) (.inl rfl) h
end
def bH(f:Str)(v:V):List (Str×V)->List (Str×V)
 |[]=>[(f,v)]
 |(g,x):: r=>if g=f then(g,v):: r else(g,x):: bH f v r
theorem fw(f g:Str)(v:V):∀fs:List (Str×V),(bH f v fs).lookup g=if g=f then some v else fs.lookup g
 |[]=>by
  show List.lookup g [(f,v)]=_;by_cases h:g=f
  ·have hb:(g==f)=true:=Qa.mpr h;simp only[List.lookup,hb,Le h]
  ·have hb:(g==f)=false:=Ms.mpr h;simp only[List.lookup,hb,Ld h]
 |(k,x):: r=>by
  have ih:=fw f g v r;rw[show bH f v ((k,x):: r)=(if k=f then(k,v):: r else(k,x):: bH f v r) from rfl];by_cases hk:k=f
  ·rw[Le hk];by_cases h:g=k
   ·have hb:(g==k)=true:=Qa.mpr h;simp only[List.lookup,hb,Le (h.trans hk)]
   ·have hb:(g==k)=false:=Ms.mpr h;simp only[List.lookup,hb,Ld (λ e:g=f=>h (e.trans hk.symm))]
  ·rw[Ld hk];by_cases h:g=k
   ·have hb:(g==k)=true:=Qa.mpr h;simp only[List.lookup,hb,Ld (λ e:g=f=>hk (h.symm.trans e))]
   ·have hb:(g==k)=false:=Ms.mpr h;simp only[List.lookup,hb];exact ih
theorem oC(f:Str)(v:V):∀fs:List (Str×V),f∈(bH f v fs).map (·.1)/\∀g,g∈fs.map (·.1)->g∈(bH f v fs).map (·.1)
 |[]=>⟨by simp[bH],λ g h=>by simp at h⟩
 |(k,x):: r=>by
  obtain⟨i1,i2⟩:=oC f v r;rw[show bH f v ((k,x):: r)=(if k=f then(k,v):: r else(k,x):: bH f v r) from rfl];by_cases hk:k=f
  ·rw[Le hk];subst hk;exact⟨by simp,λ g h=>by simpa using h⟩
  ·rw[Ld hk];refine⟨?_,λ g h=>?_⟩
   ·rw[Mp];exact Mw _ i1
   ·rw[Mp]at h ⊢;rcases Lp.mp h with e |e
    ·exact Lp.mpr (.inl e)
    ·exact Mw _ (i2 g e)
theorem cY(f:Str)(v:V):∀fs:List (Str×V),(bH f v fs).length<=fs.length+1
 |[]=>by simp[bH]
 |(k,x):: r=>by
  have ih:=cY f v r;rw[show bH f v ((k,x):: r)=(if k=f then(k,v):: r else(k,x):: bH f v r) from rfl];by_cases hk:k=f
  ·rw[Le hk,Lg,Lg];omega
  ·rw[Ld hk,Lg,Lg];omega
theorem jW.some_of{v:V}{o:Option Value}(r:jW (some v) o):∃u,o=some u/\bG v u:=by
 cases o with
 |none=>exact(show False from r).elim
 |some u=>exact⟨u,rfl,r⟩
theorem jW.none_of{o:Option Value}(r:jW none o):o=none:=by
 cases o with
 |none=>rfl
 |some u=>exact(show False from r).elim
theorem AO{v:V}{u:Value}(r:bG v u):PySem.W.handedIn u=true:=by
 cases v with
 |non=>cases(show u=Value.none from r);rfl
 |bl b=>cases(show u=Value.bool b from r);rfl
 |int i=>obtain⟨t,e⟩:=(show ∃t,u=Value.int i t from r);cases e;rfl
 |str x=>obtain⟨t,e⟩:=(show ∃t,u=Value.str x t from r);cases e;rfl
 |byt b=>obtain⟨t,e⟩:=(show ∃t,u=Value.bytes b t from r);cases e;rfl
 |flt b=>obtain⟨t,e⟩:=(show ∃t,u=Value.float b t from r);cases e;rfl
 |ref a=>cases(show u=Value.ref a from r);rfl
 |ty n=>cases(show u=Value.type n from r);rfl
section
variable{P:Program}{w:World}{H H':Hp}{h h':Heap}{a C dx:Addr}{fs fs':List (Str×V)}
theorem vh(hok:ka P w H h)(e:H a=some (.ins C dx fs)):∃mA,ym h a dx C mA/\(∀f,jW (fs.lookup f) (mA f))/\PySem.Within mA (fs.map (·.1))/\fs.length<=1000/\H dx=some (.own a):=by obtain⟨d,z,ne,ob,mA,n,r,q⟩:=(show cO P w H h a (.ins C dx fs) from hok a _ e);exact⟨mA,⟨ob,n,ne⟩,r,q,z,d⟩
end
structure wu(K:PySem.W.Frag)(C:Addr):Prop where
 pg:PySem.W.plainGet K C Str.empty=true
 hd:PySem.W.hasDictIn K C=true
 po:PySem.W.plainOver K C=true
 sa:PySem.W.findIn K (.ref C) "__setattr__"=some (some (.builtin "object.__setattr__"))
theorem wu.get{K:PySem.W.Frag}{C:Addr}(c:wu K C)(f:Str):PySem.W.plainGet K C f=true:=c.pg
def bt(K:PySem.W.Frag)(C:Addr)(f:Str):Prop:=PySem.W.findIn K (.ref C) f=some none
theorem bt.taker{K:PySem.W.Frag}{C:Addr}{f:Str}(n:bt K C f):PySem.W.takerIn K C f=some none:=by unfold PySem.W.takerIn;rw[show PySem.W.findIn K (.ref C) f=some none from n];rfl
structure lI(K:PySem.W.Frag)(C:Addr)(m:Str)(f:Addr):Prop where
 at_:PySem.W.findIn K (.ref C) m=some (some (.ref f))
 fn:PySem.W.isFn K (.ref f)=true
 kp:PySem.W.keepIn K (.ref f)=true
section
variable{X:Cx}{pins:List (Addr×Obj)}{σ:St}{H:Hp}{s:Shared}{a C dx:Addr}{fs:List (Str×V)}{f:Str}{v:V}{A:Around}{E:Value->Shared->Prop}
theorem yn{b:Bool}{Q:Value->Shared->Prop}(I:aO X pins σ H s)(e:H a=some (.ins C dx fs))(c:wu X.K C)(n:bt X.K C f)(l:fs.lookup f=some v)(h:∀u s',aO X pins σ H s'->bG v u->Q u s'):wpAny (model X.prog X.w) A (getAttr (.ref a) f b) Q E s:=by obtain⟨mA,O,r,_,_,_⟩:=vh I.hok e;obtain⟨u,hu,ru⟩:=jW.some_of (v:=v) (o:=mA f) (by rw[<-l];exact r f);exact Em I.kIn O (c.get f) c.hd n hu (AO ru) (h u _ (I.tok _) ru)
theorem mq{m:Str}{g:Addr}{pl:Sem Bool}{Q:Value×List Value->Shared->Prop}(I:aO X pins σ H s)(e:H a=some (.ins C dx fs))(c:wu X.K C)(k:lI X.K C m g)(l:fs.lookup m=none)(h:Q (.ref g,[.ref a]) s):wpAny (model X.prog X.w) A (getMethod (.ref a) m pl) Q E s:=by obtain⟨mA,O,r,_,_,_⟩:=vh I.hok e;have hn:mA m=none:=jW.none_of (by rw[<-l];exact r m);exact Ct I.kIn O (c.get m) k.at_ k.fn hn h
theorem yo{y:V}{u:Value}{Q:Unit->Shared->Prop}(I:aO X pins σ H s)(e:H a=some (.ins C dx fs))(c:wu X.K C)(n:bt X.K C f)(hl:fs.length<1000)(ry:bG y u)(h:∀s',aO X pins σ (upd H a (.ins C dx (bH f y fs))) s'->Q () s'):wpAny (model X.prog X.w) A (setAttr (.ref a) f u) Q E s:=by
 obtain⟨mA,O,r,wi,_,ho⟩:=vh I.hok e;have hz:(fs.map (·.1)).length<=sizeLine:=by rw[Ls,Sa];omega
 refine En I.kIn O c.sa c.po n.taker c.hd wi hz λ h' O' sb=>h _ ?_;have hd:∃o,h'.get? dx=some o:=let⟨o,_,_,e',_⟩:=O'.ns;⟨o,e'⟩
 refine I.write (x:=a) (e:=dx) (by rw[e];exact True.intro) (.inr ho) (λ b q hb z=>(sb.2 b hb).trans z) hd ?_;refine⟨by rw[am O.ne];exact ho,?_,O.ne,O'.obj,_,O'.ns,λ g=>?_,λ g hg=>?_⟩
 ·have:=cY f y fs;omega
 ·show jW ((bH f y fs).lookup g) (if g=f then some u else mA g);rw[fw];by_cases q:g=f
  ·rw[Le q,Le q];exact ry
  ·rw[Ld q,Ld q];exact r g
 ·by_cases q:g=f
  ·rw[q];exact(oC f y fs).1
  ·refine(oC f y fs).2 g (wi g λ z=>hg ?_);show(if g=f then some u else mA g)=none;rw[Ld q];exact z
theorem aO.made(I:aO X pins σ H s):aO X pins σ (upd (upd H s.heap.objs.size (.own (s.heap.objs.size+1))) (s.heap.objs.size+1) (.ins C s.heap.objs.size []))
  {s with heap:=(s.heap.push PySem.W.emptyDict).push (PySem.W.instObj C s.heap.objs.size)}:=by
 have e1:(s.heap.push PySem.W.emptyDict).get? s.heap.objs.size=some PySem.W.emptyDict:=Md s.heap rfl;have e2:((s.heap.push PySem.W.emptyDict).push (PySem.W.instObj C s.heap.objs.size)).get? (s.heap.objs.size+1)=some (PySem.W.instObj C s.heap.objs.size):=by have:=Md (s.heap.push PySem.W.emptyDict) (o:=PySem.W.instObj C s.heap.objs.size) rfl;rwa [Np]at this
 have e3:(s.heap.push PySem.W.emptyDict).Ns s.heap.objs.size (λ _=>none):=⟨PySem.W.emptyDict,#[],_,e1,rfl,(λ e he=>absurd he (by simp)),λ _=>rfl⟩;have I1:=I.laid (a:=s.heap.objs.size) (o:=.own (s.heap.objs.size+1)) (h':=s.heap.push PySem.W.emptyDict) (t':=s.toks) (λ b u q=>Lo _ q) (Lf _) ⟨_,e1⟩;refine I1.laid (a:=s.heap.objs.size+1) (o:=.ins C s.heap.objs.size []) (t':=s.toks) (λ b u q=>Lo _ q) (Nat.le_of_eq (Np _ _)) ?_;have ne:s.heap.objs.size≠s.heap.objs.size+1:=Ng (Nat.lt_succ_self _);refine⟨by rw[am ne,ab],Lj _,ne,e2,λ _=>none,(Heap.Ns1.of_empty e3).at λ o q=>Lo _ q,λ _=>True.intro,λ y hy=>absurd rfl hy⟩
theorem Eo{prog:Program}{w:World}{env:Env}{e:Expr}{f:Str}{pos:Pos}{s:Shared}{Q:Value->Shared->Prop}(hb:attributeBase e f env (eval e env)=eval e env)(h:wpAny (model prog w) A (eval e env) (λ o s₁=>wpAny (model prog w) A (getAttr o f true) Q E s₁) E s):wpAny (model prog w) A (eval (.Attribute e f pos) env) Q E s:=
 Attribute_any_ h (by rw[arm_eval_Attribute,hb])
end
def mO(K:PySem.W.Frag)(ta:TE)(f:Str):TE:=λ σ H Q=>ta σ H λ x H1=>∃a C dx fs v,x=.ref a/\H1 a=some (.ins C dx fs)/\wu K C/\bt K C f/\fs.lookup f=some v/\Q v H1
def Ep(K:PySem.W.Frag)(ta tv:TE)(f:Str):TS:=λ D σ H=>tv σ H λ y H1=>ta σ H1 λ x H2=>∃a C dx fs,x=.ref a/\H2 a=some (.ins C dx fs)/\wu K C/\bt K C f/\fs.length<1000/\
 D.nx σ (upd H2 a (.ins C dx (bH f y fs)))
section
variable{X:Cx}{o e value:Expr}{f:Str}{pos pos' tpos:Pos}{ta tv:TE}
theorem Cv(he:PE X e ta)(hb:attributeBase e f X.env (eval e X.env)=eval e X.env):PE X (.Attribute e f pos) (mO X.K ta f):=by intro pins s σ H Q I h;refine Eo hb (cR (he pins s σ H _ I h) λ u s1 ⟨x,H1,I1,rx,a,C,dx,fs,v,ex,ea,c,n,l,q⟩=>?_);subst ex;obtain rfl:u=Value.ref a:=rx;exact yn I1 ea c n l λ u' s2 I2 ru=>⟨v,H1,I2,ru,q⟩
theorem bw(ha:PE X o ta)(hv:PE X value tv)(hs:swapsWith value (some (.Attribute o f pos')) pos.line X.env=pure false):PS X (.Assign [.Attribute o f pos'] value pos) (Ep X.K ta tv f):=by intro pins s σ H D I h;refine plainObj_wpAny_Assign_Attribute (cR (hv pins s σ H _ I h) λ u s1 ⟨y,H1,I1,ry,q⟩=>cR (ha pins s1 σ H1 _ I1 q) λ ov s2 ⟨x,H2,I2,rx,a,C,dx,fs,ex,ea,c,n,l,q2⟩=>?_) hs;subst ex;obtain rfl:ov=Value.ref a:=rx;exact yo I2 ea c n l ry λ s3 I3=>⟨σ,_,I3,q2⟩
theorem FH{pl:Sem Bool}{m:Str}{apos:Pos}{args:List Expr}{pins:List (Addr×Obj)}{s:Shared}{σ:St}{H:Hp}{Q:Value->Shared->Prop}{te:TE}(he:PE X e te)(I:aO X pins σ H s)(h:te σ H λ x H1=>∃a C dx fs g,x=.ref a/\H1 a=some (.ins C dx fs)/\wu X.K C/\lI X.K C m g/\fs.lookup m=none/\
   ∀s1,aO X pins σ H1 s1->wpAny (model X.prog X.w) X.A (callWith pos (.ref g) [.ref a] (backTo pos (starEach args X.env)) (backToKw pos (keywordEach [] X.env))) Q X.xe s1)(ht:eval (.Call (.Attribute e m apos) args [] pos) X.env=(do
   let ov <-eval e X.env
   standAt apos.atName
   let(f,first) <-holding [ov] (getMethod ov m pl)
   callWith pos f first (backTo pos (starEach args X.env)) (backToKw pos (keywordEach [] X.env)))):
  wpAny (model X.prog X.w) X.A (eval (.Call (.Attribute e m apos) args [] pos) X.env) Q X.xe s:=by
 refine PySem.W.methodCall_KW (pl:=pl) (cR (he pins s σ H _ I h) λ u s1 ⟨x,H1,I1,rx,a,C,dx,fs,g,ex,ea,c,k,l,q⟩=>?_) ht;subst ex;obtain rfl:u=Value.ref a:=rx;exact mq I1 ea c k l (q s1 I1)
end
structure eB(k:Nat)(A:Around):Prop where
 hd:A.handled=none
 dp:A.depth+3*k+5<recursionLimit
 un:A.units+16*k+200<cLine
theorem eB.mono{j k:Nat}{A:Around}(r:eB k A)(h:j<=k):eB j A:=⟨r.hd,by have:=r.dp;omega,by have:=r.un;omega⟩
theorem eB.deeper{k:Nat}{A:Around}(r:eB (k+1) A)(env:Env):eB k (A.deeper env):=
 ⟨r.hd,by have:=r.dp;show A.depth+1+3*k+5<_;omega,by have:=r.un;show A.units+3+16*k+200<_;omega⟩
theorem yp{A:Around}{C:Addr}{us:List Value}{kw:List (Str×Value)}:(A.under (.builtin "type.__call__" ⟨.ref C::us,kw⟩)).depth=A.depth+1:=by
 first |rfl |simp[Around.under,Code.weight,Code.isCreation,Code.isGuard,Code.isCaller,Code.frames,Code.isFrame,guardIds]
theorem yq{A:Around}{C:Addr}{us:List Value}{kw:List (Str×Value)}:(A.under (.builtin "type.__call__" ⟨.ref C::us,kw⟩)).units=A.units+1:=by
 first |rfl |simp[Around.under,Code.cUnits,Code.frames,Code.isFrame]
theorem eB.make{k:Nat}{A:Around}(r:eB (k+1) A)(C:Addr)(us:List Value)(kw:List (Str×Value)):eB k (A.under (.builtin "type.__call__" ⟨.ref C::us,kw⟩)):=
 ⟨r.hd,by have:=r.dp;rw[yp];omega,by have:=r.un;rw[yq];omega⟩
theorem eB.depth{k:Nat}{A:Around}(r:eB k A):A.depth<recursionLimit:=by have:=r.dp;omega
theorem eB.units{k:Nat}{A:Around}(r:eB k A):A.units+64<cLine:=by have:=r.un;omega
def ib:TA:=λ _ H Q=>Q [] H
def gD(ta:TE)(tr:TA):TA:=λ σ H Q=>ta σ H λ x H1=>tr σ H1 λ xs H2=>Q (x::xs) H2
section
variable{X:Cx}{e:Expr}{es:List Expr}{te:TE}{t:TA}{pos:Pos}
theorem aF:PA X [] ib:=λ _ _ _ _ H Q I h=>Calls.spliced_nil ⟨[],H,I,.nil,h⟩
theorem ag(ha:PE X e te)(hr:PA X es t)(hs:starEach (e::es) X.env=(false,eval e X.env):: starEach es X.env:=by rfl):PA X (e::es) (gD te t):=by intro pos pins s σ H Q I h;rw[hs];show wpAny _ _ (spliced ((false,eval e X.env):: backTo pos (starEach es X.env))) _ _ s;refine Calls.spliced_cons (cR (ha pins s σ H _ I h) λ u s1 ⟨x,H1,I1,r1,q1⟩=>?_);exact cR (hr pos pins s1 σ H1 _ I1 q1) λ us s2 ⟨xs,H2,I2,r2,q2⟩=>⟨x::xs,H2,I2,.cons r1 r2,q2⟩
def Hz(t:TA):TE:=λ σ H Q=>t σ H λ xs H1=>xs.length<=sizeLine/\∀p,H1 p=none->Q (.ref p) (upd H1 p (.tup xs))
def Iz(t:TA):TE:=λ σ H Q=>t σ H λ xs H1=>xs.length<=sizeLine/\∀p,H1 p=none->Q (.ref p) (upd H1 p (.lst xs))
theorem bx{x1}(h:PA X es t):PE X (.Tuple es x1 pos) (Hz t):=by intro pins s σ H Q I hq;refine wpAny_Tuple_spliced (cR (h pos pins s σ H _ I hq) λ us s1 ⟨xs,H1,I1,r,z,q⟩=>⟨by rw[<-r.length];exact z,?_⟩);have hf:H1 s1.heap.objs.size=none:=I1.hok.fresh (Lf _);refine⟨.ref s1.heap.objs.size,upd H1 s1.heap.objs.size (.tup xs),I1.laid (t':=s1.toks) (λ b u e=>Lo _ e) (Lf _) ?_,rfl,q _ hf⟩;exact⟨z,us,r,⟨_,Md _ rfl,rfl,_,rfl⟩⟩
theorem aG(h:PA X es t):PE X (.List es pos) (Iz t):=by intro pins s σ H Q I hq;refine wpAny_List_spliced (cR (h pos pins s σ H _ I hq) λ us s1 ⟨xs,H1,I1,r,z,q⟩=>⟨by rw[<-r.length];exact z,?_⟩);have hf:H1 s1.heap.objs.size=none:=I1.hok.fresh (Lf _);refine⟨.ref s1.heap.objs.size,upd H1 s1.heap.objs.size (.lst xs),I1.laid (t':=s1.toks) (λ b u e=>Lo _ e) (Lf _) ?_,rfl,q _ hf⟩;exact⟨z,us,0,r,Md _ rfl⟩
end
abbrev Sp:=List V->Hp->VK->XK->Prop
abbrev Cw:=List Env->Hp->Shared->XK->Value->Shared->Prop
structure yr(P:Program)(w:World)(K:PySem.W.Frag)(mg:Str->Option Value)(base:Heap)(A:Around)(outer:List Env)(s:Shared)(H:Hp):Prop where
 frames:A.frames=some outer
 mod:Ig K mg base
 bs:∀b o,base.get? b=some o->s.heap.get? b=some o/\H b=none
 bsz:base.objs.size<=s.heap.objs.size
 funs:s.heap.FunFrames base outer
 frf:∀b∈Cj outer,H b=none
 hok:ka P w H s.heap
 bare:AllBare s.gens
def CE(outer:List Env)(P:Program)(w:World)(H:Hp)(s:Shared)(Q:VK)(u:Value)(s':Shared):Prop:=
 ∃v H',s'.os=s.os/\AllBare s'.gens/\Un (Cj outer) [] H H' s.heap s'.heap/\ka P w H' s'.heap/\bG v u/\Q v H'
def CR(CX:Cw)(outer:List Env)(P:Program)(w:World)(H:Hp)(s:Shared)(Q:VK)(E:XK)(r:Result)(s':Shared):Prop:=
 match r with
 |.ok (.ret u)=>CE outer P w H s Q u s'
 |.ok _=>False
 |.error e=>CX outer H s E e s'
structure lJ(P:Program)(w:World)(K:PySem.W.Frag)(mg:Str->Option Value)(base:Heap)(CX:Cw)(k:Nat)(f:Addr)(fd:FuncData)(ps:List Str)(sp:Sp):Prop where
 len:∀vs H Q E,sp vs H Q E->vs.length=ps.length
 run:∀(A:Around) (outer:List Env) (s:Shared) (H:Hp) (args:Args) (us:List Value) (vs:List V) (Q:VK) (E:XK),eB k A->yr P w K mg base A outer s H->BindsTo s fd args (ps.zip us)->bn vs us->sp vs H Q E->
  codeAny (model P w) A (.call (.ref f) args) (CR CX outer P w H s Q E) s
theorem yr.make{P:Program}{w:World}{K:PySem.W.Frag}{mg:Str->Option Value}{base:Heap}{A:Around}{outer:List Env}{s:Shared}{H:Hp}(e:yr P w K mg base A outer s H)(C:Addr)(us:List Value)(kw:List (Str×Value)):
  yr P w K mg base (A.under (.builtin "type.__call__" ⟨.ref C::us,kw⟩)) outer s H:=⟨by first |exact e.frames |(simpa[Around.under,Code.envs,Code.isFrame,pushEnvs] using e.frames),e.mod,e.bs,e.bsz,e.funs,e.frf,e.hok,e.bare⟩
section
variable{X:Cx}{pins:List (Addr×Obj)}{σ:St}{H:Hp}{s s':Shared}
theorem aO.env0(I:aO X pins σ H s):yr X.prog X.w X.K X.mg X.base X.A X.stack s H:=
 ⟨I.ok.frames,I.ok.mod,I.bs,Ln I.ok.bsz I.sz,I.stack,I.stkFree,I.hok,I.bare⟩
theorem aO.after{Q:VK}{u:Value}(I:aO X pins σ H s)(h:CE X.stack X.prog X.w H s Q u s'):EP X pins σ Q u s':=by obtain⟨v,H',os,bare,un,hok,r,q⟩:=h;obtain⟨hh,g,d,t,os'⟩:=s';obtain rfl:os'=s.os:=os;exact⟨v,H',I.call (h':=hh) (g':=g) (d':=d) (t':=t) (ch:=[]) un hok bare (λ b z=>absurd z (by simp)),r,q⟩
end
def wv(sp:Sp)(dvs:List V)(E:XK)(t:TA):TE:=λ σ H Q=>t σ H λ vs H1=>sp (vs++dvs) H1 Q E
def ww(C:Addr)(m:Str)(sp:Sp)(dvs:List V)(E:XK)(ta:TE)(t:TA):TE:=λ σ H Q=>ta σ H λ x H1=>∃a dx fs,x=.ref a/\H1 a=some (.ins C dx fs)/\fs.lookup m=none/\
 t σ H1 λ vs H2=>sp (x::(vs++dvs)) H2 Q E
def wx(C:Addr)(sp:Sp)(dvs:List V)(E:XK)(t:TA):TE:=λ σ H Q=>t σ H λ vs H1=>∀x dx,H1 x=none->H1 dx=none->dx≠x->
 sp (.ref x::(vs++dvs)) (upd (upd H1 dx (.own x)) x (.ins C dx [])) (λ v H2=>v=.non/\Q (.ref x) H2) E
def iS(K:PySem.W.Frag)(fd:FuncData)(ps:List Str)(ds:List Value):Prop:=
 ∀(s:Shared) (us:List Value),K.In s.heap->(us++ds).length=ps.length->BindsTo s fd ⟨us,[]⟩ (ps.zip (us++ds))
theorem iS.all{K:PySem.W.Frag}{fd:FuncData}{ps:List Str}(h:∀us:List Value,us.length=ps.length->bindArgs fd ⟨us,[]⟩=pure (ps.zip us)):iS K fd ps []:=λ s us _ hl=>by rw[Lv]at hl ⊢;exact .of_eq (h us hl)
def kc(CX:Cw)(X:Cx)(E:XK):Prop:=∀(pins:List (Addr×Obj)) (σ:St) (H:Hp) (s:Shared) (e:Value) (s':Shared),aO X pins σ H s->CX X.stack H s E e s'->X.xe e s'
section
variable{X:Cx}{CX:Cw}{k:Nat}{f C:Addr}{fd:FuncData}{ps:List Str}{sp:Sp}{dvs:List V}{ds:List Value}{E:XK}{x m:Str}{p pos apos:Pos}{e o:Expr}{es:List Expr}{ta:TE}{t:TA}
theorem yt{pins:List (Addr×Obj)}{σ:St}{H:Hp}{s:Shared}{Q:VK}{us:List Value}{vs:List V}(F:lJ X.prog X.w X.K X.mg X.base CX k f fd ps sp)(hr:eB k X.A)(hb:iS X.K fd ps ds)(hd:bn dvs ds)(hx:kc CX X E)(I:aO X pins σ H s)(r:bn vs us)(h:sp (vs++dvs) H Q E):wpAny (model X.prog X.w) X.A (call (.ref f) us) (EP X pins σ Q) X.xe s:=by
 have r2:bn (vs++dvs) (us++ds):=r.append hd;have hl:(us++ds).length=ps.length:=by rw[<-r2.length];exact F.len _ _ _ _ h
 refine wpAny_call (Rl (F.run X.A X.stack s H ⟨us,[]⟩ (us++ds) (vs++dvs) Q E hr I.env0 (hb s us I.kIn hl) r2 h) λ r s' hq=>?_);cases r with
 |error e=>exact hx pins σ H s e s' I hq
 |ok fl=>
  cases fl with
  |ret u=>exact I.after hq
  |next=>exact False.elim hq
  |brk=>exact False.elim hq
  |cont=>exact False.elim hq
theorem Er(F:lJ X.prog X.w X.K X.mg X.base CX k f fd ps sp)(hr:eB k X.A)(hg:Gl X x)(hm:X.mg x=some (.ref f))(hk:PySem.W.keepIn X.K (.ref f)=true)(hb:iS X.K fd ps ds)(hd:bn dvs ds)(hx:kc CX X E)(ha:PA X (e::es) t)(hdb:(x==("__debug__":Str))=false:=by decide)(he:starEach (e::es) X.env=(false,eval e X.env):: starEach es X.env:=by rfl)(hpl:(backTo pos (starEach es X.env)).any (·.1)=false:=by rfl):
  PE X (.Call (.Name x p) (e::es) [] pos) (wv sp dvs E t):=by
 intro pins s σ H Q I h;refine Pq (qI I hg hm ?_ hdb);refine PySem.W.callWith_K (h₀:=X.base) I.ok.mod.kin hk (cR (ha pos pins s σ H _ I h) λ us s1 ⟨vs,H1,I1,r,q⟩=>⟨I1.kIn,?_⟩) he hpl;exact yt F hr hb hd hx I1 r q
theorem Es{pl:Sem Bool}(he:PE X o ta)(c:wu X.K C)(hm:lI X.K C m f)(F:lJ X.prog X.w X.K X.mg X.base CX k f fd ps sp)(hr:eB k X.A)(hb:iS X.K fd ps ds)(hd:bn dvs ds)(hx:kc CX X E)(ha:PA X (e::es) t)(hst:starEach (e::es) X.env=(false,eval e X.env):: starEach es X.env:=by rfl)(hpl:(backTo pos (starEach es X.env)).any (·.1)=false:=by rfl)(ht:eval (.Call (.Attribute o m apos) (e::es) [] pos) X.env=(do
   let ov <-eval o X.env
   standAt apos.atName
   let(f,first) <-holding [ov] (getMethod ov m pl)
   callWith pos f first (backTo pos (starEach (e::es) X.env)) (backToKw pos (keywordEach [] X.env))):=by rfl):
  PE X (.Call (.Attribute o m apos) (e::es) [] pos) (ww C m sp dvs E ta t):=by
 intro pins s σ H Q I h;refine PySem.W.methodCall_KW (pl:=pl) (cR (he pins s σ H _ I h) λ u s1 ⟨x,H1,I1,rx,a,dx,fs,ex,ea,l,q⟩=>?_) ht;subst ex;obtain rfl:u=Value.ref a:=rx;refine mq I1 ea c hm l ?_;refine PySem.W.callWith_K (first:=[.ref a]) (h₀:=X.base) I.ok.mod.kin hm.kp (cR (ha pos pins s1 σ H1 _ I1 q) λ us s2 ⟨vs,H2,I2,r,q2⟩=>⟨I2.kIn,?_⟩) hst hpl;exact yt (us:=.ref a::us) (vs:=.ref a::vs) F hr hb hd hx I2 (.cons rfl r) q2
theorem Cy{pl:Sem Bool}(he:PE X o ta)(c:wu X.K C)(hm:lI X.K C m f)(F:lJ X.prog X.w X.K X.mg X.base CX k f fd ps sp)(hr:eB k X.A)(hb:iS X.K fd ps ds)(hd:bn dvs ds)(hx:kc CX X E)(ht:eval (.Call (.Attribute o m apos) [] [] pos) X.env=(do
   let ov <-eval o X.env
   standAt apos.atName
   let(f,first) <-holding [ov] (getMethod ov m pl)
   callWith pos f first (backTo pos (starEach [] X.env)) (backToKw pos (keywordEach [] X.env))):=by rfl):
  PE X (.Call (.Attribute o m apos) [] [] pos) (ww C m sp dvs E ta ib):=by
 intro pins s σ H Q I h;refine PySem.W.methodCall_KW (pl:=pl) (cR (he pins s σ H _ I h) λ u s1 ⟨x,H1,I1,rx,a,dx,fs,ex,ea,l,q⟩=>?_) ht;subst ex;obtain rfl:u=Value.ref a:=rx;refine mq I1 ea c hm l ?_;exact PySem.W.callWith_K0 (first:=[.ref a]) I1.kIn hm.kp (yt (us:=[.ref a]) (vs:=[.ref a]) F hr hb hd hx I1 (.cons rfl .nil) q)
structure Mk(K:PySem.W.Frag)(C f:Addr):Prop where
 makes:PySem.W.makesIn K C=true
 init:PySem.W.findIn K (.ref C) "__init__"=some (some (.ref f))
 fn:PySem.W.isFn K (.ref f)=true
 kp:PySem.W.keepIn K (.ref C)=true
theorem wy{pins:List (Addr×Obj)}{σ:St}{H:Hp}{s:Shared}{Q:VK}{us:List Value}{vs:List V}(M:Mk X.K C f)(F:lJ X.prog X.w X.K X.mg X.base CX k f fd ps sp)(hr:eB (k+1) X.A)(hb:iS X.K fd ps ds)(hd:bn dvs ds)(hx:kc CX X E)(I:aO X pins σ H s)(r:bn vs us)(h:∀x dx,H x=none->H dx=none->dx≠x->sp (.ref x::(vs++dvs)) (upd (upd H dx (.own x)) x (.ins C dx [])) (λ v H2=>v=.non/\Q (.ref x) H2) E):
  wpAny (model X.prog X.w) X.A (call (.ref C) us) (EP X pins σ Q) X.xe s:=by
 have hq:=h (s.heap.objs.size+1) s.heap.objs.size (I.hok.fresh (Nat.le_succ _)) (I.hok.fresh (Lf _)) (Ng (Nat.lt_succ_self _));have I2:=aO.made (C:=C) I;have r2:bn (V.ref (s.heap.objs.size+1):: (vs++dvs)) (Value.ref (s.heap.objs.size+1):: (us++ds)):=.cons rfl (r.append hd);have hl:(Value.ref (s.heap.objs.size+1):: us++ds).length=ps.length:=by have e:=r2.length;rw[F.len _ _ _ _ hq]at e;exact e.symm
 refine wpAny_call (Cu (f:=f) I.kIn M.makes M.init (Qa.mp M.fn) (Rl (F.run _ X.stack _ _ ⟨Value.ref (s.heap.objs.size+1):: us,[]⟩ (Value.ref (s.heap.objs.size+1):: (us++ds)) _ _ E (hr.make C us [])
  (I2.env0.make C us []) (hb _ (Value.ref (s.heap.objs.size+1):: us) I2.kIn hl) r2 hq) λ r s' hq'=>?_))
 cases r with
 |error e=>exact hx pins σ _ _ e s' I2 hq'
 |ok fl=>
  cases fl with
  |ret u=>obtain⟨v,H',I3,rv,ev,q3⟩:=I2.after hq';subst ev;exact⟨rv,⟨V.ref (s.heap.objs.size+1),H',I3,rfl,q3⟩⟩
  |next=>exact False.elim hq'
  |brk=>exact False.elim hq'
  |cont=>exact False.elim hq'
theorem Et(M:Mk X.K C f)(F:lJ X.prog X.w X.K X.mg X.base CX k f fd ps sp)(hr:eB (k+1) X.A)(hg:Gl X x)(hm:X.mg x=some (.ref C))(hb:iS X.K fd ps ds)(hd:bn dvs ds)(hx:kc CX X E)(ha:PA X (e::es) t)(hdb:(x==("__debug__":Str))=false:=by decide)(he:starEach (e::es) X.env=(false,eval e X.env):: starEach es X.env:=by rfl)(hpl:(backTo pos (starEach es X.env)).any (·.1)=false:=by rfl):
  PE X (.Call (.Name x p) (e::es) [] pos) (wx C sp dvs E t):=by
 intro pins s σ H Q I h;refine Pq (qI I hg hm ?_ hdb);refine PySem.W.callWith_K (h₀:=X.base) I.ok.mod.kin M.kp (cR (ha pos pins s σ H _ I h) λ us s1 ⟨vs,H1,I1,r,q⟩=>⟨I1.kIn,?_⟩) he hpl;exact wy M F hr hb hd hx I1 r q
theorem Cz(M:Mk X.K C f)(F:lJ X.prog X.w X.K X.mg X.base CX k f fd ps sp)(hr:eB (k+1) X.A)(hg:Gl X x)(hm:X.mg x=some (.ref C))(hb:iS X.K fd ps ds)(hd:bn dvs ds)(hx:kc CX X E)(hdb:(x==("__debug__":Str))=false:=by decide):PE X (.Call (.Name x p) [] [] pos) (wx C sp dvs E ib):=by intro pins s σ H Q I h;refine Pq (qI I hg hm ?_ hdb);exact PySem.W.callWith_K0 I.kIn M.kp (wy (us:=[]) M F hr hb hd hx I .nil h)
end
structure ie(N P:List Str)(sc:Scope):Prop where
 kind:sc.kind=.function
 co:sc.isCoroutine=false
 gen:sc.isGenerator=false
 nd:N.Nodup
 pre:N.take P.length=P
 par:∀x∈P,sc.names.lookup x=some .local\/sc.names.lookup x=some .cell
 nofree:∀y∈sc.names,y.2≠.free
theorem ug{kindOf:Str->Option NameKind}{x:Str}:∀{binds:List (Str×Value)} {m:Str->Option Value},(∀v,(x,v)∉binds)->bindL kindOf binds m x=m x
 |[],_,_=>rfl
 |(n,v):: r,m,h=>by
  unfold bindL;rw[ug λ w hw=>h w (Mw _ hw)];split
  ·have:x≠n:=by rintro rfl;exact h v Nn
   simp[this]
  ·rfl
theorem uh{kindOf:Str->Option NameKind}{x:Str}:∀{binds:List (Str×Value)} {m:Str->Option Value},(∀v,(x,v)∉binds)->bindC kindOf binds m x=m x
 |[],_,_=>rfl
 |(n,v):: r,m,h=>by
  unfold bindC;rw[uh λ w hw=>h w (Mw _ hw)];split
  ·rfl
  ·have:x≠n:=by rintro rfl;exact h v Nn
   simp[this]
theorem ui{kindOf:Str->Option NameKind}{x:Str}{v:Value}:∀{P:List Str} {vs:List Value} {i:Nat} {m:Str->Option Value},P.Nodup->P[i]?=some x->vs[i]?=some v->kindOf x=some .local->
  bindL kindOf (P.zip vs) m x=some v
 |[],_,_,_,_,h,_,_=>by simp at h
 |_::_,[],_,_,_,_,h,_=>by simp at h
 |p::P,w::vs,0,m,nd,h1,h2,hk=>by simp at h1 h2;subst h1;subst h2;show bindL kindOf ((p,w):: P.zip vs) m p=_;unfold bindL;rw[ug λ v hv=>(Pt.mp nd).1 (List.of_mem_zip hv).1,Le hk];simp
 |p::P,w::vs,i+1,m,nd,h1,h2,hk=>by show bindL kindOf ((p,w):: P.zip vs) m x=_;unfold bindL;exact ui (i:=i) (Pt.mp nd).2 (by simpa using h1) (by simpa using h2) hk
theorem uj{kindOf:Str->Option NameKind}{x:Str}{v:Value}:∀{P:List Str} {vs:List Value} {i:Nat} {m:Str->Option Value},P.Nodup->P[i]?=some x->vs[i]?=some v->kindOf x≠some .local->
  bindC kindOf (P.zip vs) m x=some v
 |[],_,_,_,_,h,_,_=>by simp at h
 |_::_,[],_,_,_,_,h,_=>by simp at h
 |p::P,w::vs,0,m,nd,h1,h2,hk=>by simp at h1 h2;subst h1;subst h2;show bindC kindOf ((p,w):: P.zip vs) m p=_;unfold bindC;rw[uh λ v hv=>(Pt.mp nd).1 (List.of_mem_zip hv).1,Ld hk];simp
 |p::P,w::vs,i+1,m,nd,h1,h2,hk=>by show bindC kindOf ((p,w):: P.zip vs) m x=_;unfold bindC;exact uj (i:=i) (Pt.mp nd).2 (by simpa using h1) (by simpa using h2) hk
def ke(N:List Str)(vs:List V):St:=vs.map some++List.replicate (N.length - vs.length) none
def yu(CX:Cw)(P:Program)(w:World)(K:PySem.W.Frag)(mg:Str->Option Value)(base:Heap)(N:List Str)(qual:Str)(scope:Scope)(f:Addr)(cd:Value)(A:Around)(outer:List Env)(s:Shared)(H:Hp)(E:XK):Cx where
 prog:=P
 w:=w
 K:=K
 mg:=mg
 base:=base
 A:=A.deeper (envOfC qual scope s.heap.objs.size f cd)
 N:=N
 s_0:=s
 H_0:=H
 env:=envOfC qual scope s.heap.objs.size f cd
 outer:=outer
 stack:=envOfC qual scope s.heap.objs.size f cd::outer
 ex:=[]
 calm:=true
 fn:=λ _=>true
 pn:=[]
 xe:=λ e s'=>wpAny (model P w) (A.deeper (envOfC qual scope s.heap.objs.size f cd)) (leaving (envOfC qual scope s.heap.objs.size f cd) e) (λ _ s''=>CX outer H s E e s'') (λ e' s''=>CX outer H s E e' s'') s'
theorem wA{sc:Scope}{n:Nat}{x:Str}(h:sc.names.lookup x=some .cell):∃c,(cellsFrom n sc.names []).lookup x=some c:=by have q:=PySem.W.cellsFrom_some sc.names n [] (.inl h);exact Option.isSome_iff_exists.mp q
theorem AQ{CX:Cw}{P:Program}{w:World}{K:PySem.W.Frag}{mg:Str->Option Value}{base:Heap}{N ps:List Str}{qual:Str}{scope:Scope}{f:Addr}{cd:Value}{A:Around}{outer:List Env}{s s1:Shared}{H:Hp}{E:XK}{us:List Value}{vs:List V}(S:ie N ps scope)(hd:A.handled=none)(e0:yr P w K mg base A outer s H)(hl:vs.length=ps.length)(r:bn vs us)(x:InCallC s s.heap.objs.size (bindL (envOfC qual scope s.heap.objs.size f cd).kindOf (ps.zip us) λ _=>none) (cellsFrom (s.heap.objs.size+1) scope.names []) (bindC (envOfC qual scope s.heap.objs.size f cd).kindOf (ps.zip us) λ _=>none) s1):
  aO (yu CX P w K mg base N qual scope f cd A outer s H E) [] (ke N vs) H s1:=by
 have hpl:ps.length<=N.length:=by have:=Na List.length S.pre;rw[Lr]at this;omega
 obtain⟨h1,tk,rfl,hk⟩:=x.done;have noA:∀b:Addr,b∉(yu CX P w K mg base N qual scope f cd A outer s H E).ex:=λ b z=>absurd (show b∈([]:List Addr) from z) (by simp);refine⟨⟨e0.mod,S.kind,rfl,rfl,Lf _,λ y z c h1 h2=>?_,λ y hy=>?_,λ y c _ h=>?_,λ _=>hd,Around.frames_deeper e0.frames,.inr ⟨rfl,rfl⟩,λ b z=>absurd z (noA b),e0.bs,e0.bsz,λ b _ _=>noA b,λ b z=>absurd z (noA b),e0.funs,e0.frf⟩,
  rfl,e0.bare,Un.kept hk,⟨_,x.toInCall.ns,λ i y v h1 h2 h3=>?_⟩,λ y c h=>⟨_,x.cell y c h⟩,e0.hok.fresh (Lf _),λ y c h=>?_,λ p hp=>absurd (show p∈([]:List (Addr×Obj)) from hp) (by simp),e0.hok.kept hk,?_⟩
 ·exact name_of_addr x.apart (Nf h1) (Nf h2)
 ·have hy:scope.names.lookup y=some .cell\/scope.names.lookup y=some .free:=hy;rcases hy with hy |hy
  ·exact wA hy
  ·exact absurd rfl (S.nofree _ (Nf hy))
 ·exact Mj (x.above y c (Nf h))
 ·have hi:i<vs.length:=by
   unfold ke at h2;by_cases hi:i<vs.length
   ·exact hi
   ·rw[Pw (by simpa using hi)]at h2;rw[List.getElem?_replicate]at h2;split at h2<;>cases h2
  have ha:vs[i]?=some v:=by
   unfold ke at h2;rw[List.getElem?_append_left (by simpa using hi),Pk]at h2;cases e:vs[i]? with
   |none=>rw[e]at h2;cases h2
   |some a=>rw[e]at h2;cases h2;rfl
  obtain⟨u,hu,rv⟩:=r.get ha;have hp:ps[i]?=some y:=by rw[<-S.pre,List.getElem?_take_of_lt (by omega)];exact h1
  have ndP:ps.Nodup:=by rw[<-S.pre];exact S.nd.sublist (List.take_sublist _ _)
  refine⟨u,rv,?_⟩;rcases S.par y (Nm hp) with k |k
  ·exact .inl ⟨k,ui ndP hp hu k⟩
  ·obtain⟨c,e⟩:=wA (n:=s.heap.objs.size+1) k;refine .inr ⟨.inl k,c,e,?_⟩;have q:=x.cell y c e;rw[uj ndP hp hu (by show scope.names.lookup y≠_;rw[k];decide)]at q;exact q
 ·exact e0.hok.fresh (Mj (x.above y c (Nf h)))
 ·unfold ke;show _=N.length;rw[La,Ls,List.length_replicate];omega
theorem HA{CX:Cw}{P:Program}{w:World}{K:PySem.W.Frag}{mg:Str->Option Value}{base:Heap}{k:Nat}{f:Addr}{name qual:Str}{params:Arguments}{body:List Stmt}{scope:Scope}{dV kV doc pm cdv ct oc:Value}{an od:Option Addr}{osl:Array (Option Value)}{N ps:List Str}{sp:Sp}(lk:K.lookup f=some ⟨oc,od,.func (PySem.W.fnOf name qual params body scope dV kV doc pm an cdv ct),osl⟩)(hcd:PySem.W.codeIn K cdv qual=true)(S:ie N ps scope)(len:∀vs H Q E,sp vs H Q E->vs.length=ps.length)(hbody:∀(A:Around) (outer:List Env) (s:Shared) (H:Hp) (vs:List V) (Q:VK) (E:XK),eB k (A.deeper (envOfC qual scope s.heap.objs.size f cdv))->sp vs H Q E->
   ∃t,yi (yu CX P w K mg base N qual scope f cdv A outer s H E) body t/\t {nx:=λ _ H'=>Q .non H',rt:=Q} (ke N vs) H):
  lJ P w K mg base CX (k+1) f (PySem.W.fnOf name qual params body scope dV kV doc pm an cdv ct) ps sp:=by
 refine⟨len,λ A outer s H args us vs Q E hr e0 hb r hsp=>?_⟩;have hl:=len _ _ _ _ hsp;have KX:K.In s.heap:=e0.mod.kin.keeps λ b o e=>(e0.bs b o e).1;have lim:s.heap.NoLimit:=e0.mod.nolimit.keeps λ b o e=>(e0.bs b o e).1;have hkind:∀y∈ps.zip us,scope.names.lookup y.1=some .local\/(scope.names.lookup y.1=some .cell/\((cellsFrom (s.heap.objs.size+1) scope.names []).lookup y.1).isSome=true):=fun⟨n,v⟩ hy=>by
  rcases S.par n (List.of_mem_zip hy).1 with q |q
  ·exact .inl q
  ·exact .inr ⟨q,PySem.W.cellsFrom_some _ _ _ (.inl q)⟩
 refine codeAny_call_function hr.depth (KX _ _ lk) rfl S.co S.gen rfl (PySem.W.codeRec_of KX hcd) (hb _ _ _ _ ?_);refine wpAny_newFunctionEnv_cells S.kind hkind λ env he s1 x=>?_;subst he;refine⟨lim.keeps x.toInCall.keep,codeAny_func ?_⟩;obtain⟨t,ht,hq⟩:=hbody A outer s H vs Q E (hr.deeper _) hsp;have I:aO (yu CX P w K mg base N qual scope f cdv A outer s H E) [] (ke N vs) H s1:=AQ S hr.hd e0 hl r x;refine Ob (ht [] s1 (ke N vs) H _ I hq) (λ fl s' hs=>?_) λ e s' hs=>hs;have eW:∀{σ':St} {H':Hp} {v:V} {u:Value},aO (yu CX P w K mg base N qual scope f cdv A outer s H E) [] σ' H' s'->bG v u->Q v H'->CE outer P w H s Q u s':=
  fun{σ' H' v u} J rv q=>⟨v,H',J.os,J.bare,J.base,J.hok,rv,q⟩
 cases fl with
 |ret u=>obtain⟨v,σ',H',J,rv,q⟩:=hs;exact eW J rv q
 |next=>obtain⟨σ',H',J,q⟩:=hs;exact eW (v:=V.non) (u:=Value.none) J rfl q
 |brk=>obtain⟨_,_,_,q⟩:=hs;exact False.elim q
 |cont=>obtain⟨_,_,_,q⟩:=hs;exact False.elim q
section
variable{X:Cx}{x:Str}{p pos:Pos}{e:Expr}{es:List Expr}{t:TA}{id T:String}{r:List V->Hp->VK->Prop}
def HB(r:List V->Hp->VK->Prop)(t:TA):TE:=λ σ H Q=>t σ H λ vs H1=>r vs H1 Q
theorem wB(hc:gh X (.builtin id) r)(hg:Gl X x)(hm:X.mg x=none)(hv:bootBuiltins x=some (.builtin id))(ha:PA X (e::es) t)(hn:x≠"__name__":=by decide)(hdb:(x==("__debug__":Str))=false:=by decide)(he:starEach (e::es) X.env=(false,eval e X.env):: starEach es X.env:=by rfl)(hpl:(backTo pos (starEach es X.env)).any (·.1)=false:=by rfl):PE X (.Call (.Name x p) (e::es) [] pos) (HB r t):=by intro pins s σ H Q I h;refine Pq (mh I hg hm hv ?_ hn hdb);exact PyProof.Rows.callWith_builtin1 (cR (ha pos pins s σ H _ I h) λ us s1 ⟨vs,H1,I1,r1,q1⟩=>hc pins s1 σ H1 vs us Q I1 r1 q1) he hpl
theorem AR(hc:gh X (.type T) r)(hg:Gl X x)(hm:X.mg x=none)(hv:bootBuiltins x=some (.type T))(ha:PA X (e::es) t)(hn:x≠"__name__":=by decide)(hdb:(x==("__debug__":Str))=false:=by decide)(he:starEach (e::es) X.env=(false,eval e X.env):: starEach es X.env:=by rfl)(hpl:(backTo pos (starEach es X.env)).any (·.1)=false:=by rfl):PE X (.Call (.Name x p) (e::es) [] pos) (HB r t):=by intro pins s σ H Q I h;refine Pq (mh I hg hm hv ?_ hn hdb);exact Ov (cR (ha pos pins s σ H _ I h) λ us s1 ⟨vs,H1,I1,r1,q1⟩=>hc pins s1 σ H1 vs us Q I1 r1 q1) he hpl
end
end L2
namespace HT
open PySem PyProof.Rows
section
variable{prog:Program}{w:World}{A:Around}{E:Value->Shared->Prop}{s:Shared}
theorem cat_tup{t b:Addr}{vs ws:List Value}{Q:Value->Shared->Prop}(ht:IsTup s.heap t vs.toArray)(hb:IsTup s.heap b ws.toArray)(hv:vs≠[])(h1:ws=[]->Q (.ref t) s)(h2:ws≠[]->Q (.ref s.heap.objs.size) {s with heap:=s.heap.push {cls:=.type "tuple",data:=.seq (vs++ws).toArray}})(hsz:vs.length+ws.length<=sizeLine):wpAny (model prog w) A (binaryOp .Add (.ref t) (.ref b)) Q E s:=by
 obtain⟨⟨cls,dd,data,sl⟩,ho,hc,n,hd⟩:=id ht;obtain⟨⟨cls2,dd2,data2,sl2⟩,ho2,hc2,n2,hd2⟩:=id hb;simp only at hc hd hc2 hd2;subst hc hd hc2 hd2;have e:vs.toArray++ws.toArray=(vs++ws).toArray:=by simp
 by_cases hw:ws=[]
 ·exact concat_meets ⟨_,ho,rfl⟩ ⟨_,ho2,rfl⟩ noFill_tuple_add seq_tuple_add PySem.F.slot_tuple_add PySem.F.entry_tuple_add (PySem.F.args_tuple_add_2 _ _)
   (tuple_addW1 t b vs.toArray ws.toArray n n2 dd dd2 sl sl2 (by simpa using hv) (by simp[hw])) ⟨ho,ho2,h1 hw⟩
 ·refine concat_meets ⟨_,ho,rfl⟩ ⟨_,ho2,rfl⟩ noFill_tuple_add seq_tuple_add PySem.F.slot_tuple_add PySem.F.entry_tuple_add (PySem.F.args_tuple_add_2 _ _)
   (tuple_addW2 t b vs.toArray ws.toArray n n2 dd dd2 sl sl2 (by simpa using hv) (by simpa using hw) (by rw[Ly,Ly];exact hsz)) ⟨ho,ho2,?_⟩
  rw[e];exact h2 hw
def sIx(n d:Nat):Option Int->Nat
 |none=>d
 |some v=>if v<0 then(v+(n:Int)).toNat else min v.toNat n
theorem sIx_none(n d:Nat):sIx n d none=d:=rfl
theorem sIx_nat(n d k:Nat):sIx n d (some (k:Int))=min k n:=by show(if(k:Int)<0 then((k:Int)+(n:Int)).toNat else min (k:Int).toNat n)=min k n;rw[Ld (by omega),Nh]
theorem Gd(n d:Nat)(hd:d<=n)(o:Option Int):sIx n d o<=n:=by
 cases o with
 |none=>exact hd
 |some v=>
  show(if v<0 then(v+(n:Int)).toNat else min v.toNat n)<=n;by_cases hv:v<0
  ·rw[Le hv];omega
  ·rw[Ld hv];exact Nat.min_le_right _ _
theorem zU(v:Int)(n d:Nat):(if v<0 then max (v+(n:Int)) 0 else min v (n:Int))=((sIx n d (some v):Nat):Int):=by
 show(if v<0 then max (v+(n:Int)) 0 else min v (n:Int))=(((if v<0 then(v+(n:Int)).toNat else min v.toNat n):Nat):Int);by_cases hv:v<0
 ·simp only[Le hv];omega
 ·simp only[Ld hv];omega
theorem yw(lo hi:Option Int)(n:Nat):Builtin.Slice.sliceAdjust lo hi 1 (n:Int)=(((sIx n 0 lo:Nat):Int),((sIx n n hi:Nat):Int)):=by
 have h1:¬((1:Int)<0):=by omega
 unfold Builtin.Slice.sliceAdjust;simp only[h1,On];refine Prod.ext ?_ ?_
 ·cases lo with
  |none=>rfl
  |some v=>exact zU v n 0
 ·cases hi with
  |none=>rfl
  |some v=>exact zU v n n
theorem yx(i j:Nat):Builtin.Slice.slicePlaces (i:Int) (j:Int) 1=j - i:=by
 unfold Builtin.Slice.slicePlaces;have h1:(1:Int) > 0:=by omega
 simp only[h1,Re,Int.ediv_one];split<;>omega
theorem rn{v:Value}{o:Option Int}{Q:Option Int->Shared->Prop}(p:IsPart v o)(h:Q o s):wpAny (model prog w) A (Builtin.Slice.slicePartIndex v) Q E s:=by
 cases p with
 |none=>exact slicePart_none h
 |int i t=>exact slicePart_int h
theorem sliceApplied_gen{sl:Addr}{vl vu:Value}{lo hi:Option Int}{n:Nat}{Q:Int×Int×Nat->Shared->Prop}(hs:s.heap.IsSliceOf sl vl vu .none)(pl:IsPart vl lo)(pu:IsPart vu hi)(h:Q (((sIx n 0 lo:Nat):Int),1,sIx n n hi - sIx n 0 lo) s):wpAny (model prog w) A (Builtin.Slice.sliceApplied (.ref sl) (pure (n:Int))) Q E s:=by obtain⟨os,hos,hcs,hds⟩:=id hs;unfold Builtin.Slice.sliceApplied Builtin.Slice.sliceFields;refine Lb (Lb (Oi hos hds (x:=vl) rfl (Lb (Oi hos hds (x:=vu) rfl (Lb (Oi hos hds (x:=.none) rfl (Lm ?_)))))));refine Lb (slicePart_none ?_);show wpAny _ _ (if((1:Int)==0)=true then _ else _) _ _ s;rw[Ld (by decide)];refine Lb (rn pl (Lb (rn pu (Lb (Lm ?_)))));show wpAny _ _ (match Builtin.Slice.sliceAdjust lo hi 1 (n:Int) with |(lo,hi)=>pure (lo,(1:Int),Builtin.Slice.slicePlaces lo hi 1)) _ _ s;rw[yw lo hi n];show wpAny _ _ (pure (((sIx n 0 lo:Nat):Int),(1:Int),Builtin.Slice.slicePlaces ((sIx n 0 lo:Nat):Int) ((sIx n n hi:Nat):Int) 1)) _ _ s;rw[yx];exact Lm h
theorem CA(xs:Array Value)(i k:Nat):((List.range k).filterMap fun(m:Nat)=>xs[((i:Int)+(m:Int)*1).toNat]?).toArray=((xs.toList.drop i).take k).toArray:=by
 have e:(fun(m:Nat)=>xs[((i:Int)+(m:Int)*1).toNat]?)=λ m=>xs[i+m]?:=by
  funext m;have:((i:Int)+(m:Int)*1).toNat=i+m:=by omega
  rw[this]
 rw[e];have:=pick_run xs i k;rw[List.filterMap_map]at this;have e2:((λ x=>xs[x]?)∘λ x=>i+x)=λ m=>xs[i+m]?:=rfl;rw[e2]at this;rw[this]
theorem getItem_tuple_cut{t sl:Addr}{items:Array Value}{vl vu:Value}{lo hi:Option Int}{Q:Value->Shared->Prop}(ht:IsTup s.heap t items)(hs:s.heap.IsSliceOf sl vl vu .none)(pl:IsPart vl lo)(pu:IsPart vu hi)(hw:¬(sIx items.size 0 lo=0/\sIx items.size items.size hi=items.size))(h:Q (.ref s.heap.objs.size) {s with heap:=s.heap.push {cls:=.type "tuple",data:=.seq ((items.toList.drop (sIx items.size 0 lo)).take (sIx items.size items.size hi - sIx items.size 0 lo)).toArray}})(hsz:items.size<=sizeLine):wpAny (model prog w) A (getItem (.ref t) (.ref sl)) Q E s:=by
 have htake:sizeOk (.seq ((items.toList.drop (sIx items.size 0 lo)).take (sIx items.size items.size hi - sIx items.size 0 lo)).toArray):=by show((items.toList.drop (sIx items.size 0 lo)).take (sIx items.size items.size hi - sIx items.size 0 lo)).toArray.size<=sizeLine;rw[Ly,Lr,Lw,Pn];omega
 have hj:sIx items.size items.size hi<=items.size:=Gd _ _ (Lf _) hi;obtain⟨os,hos,hcs,hds⟩:=id hs;have hTs:s.TypeIs (.ref sl) "slice":=⟨os,hos,hcs⟩;unfold getItem
 try with_reducible refine Oq ?_
 first |refine Lb (Lm ?_) |skip
 refine Lb (wpAny_sequenceKey ht.typeIs (by decide) ?_);refine Lb (Nu (name:=Str.ofString "__getitem__") ht.typeIs Ph
  (Og Ph ht.typeIs entry_tuple_getitem ?_ (args_tuple_getitem _ _)))
 show wpAny _ _ (Builtin.Tuple.tupleItemsOf (.ref t) >>= _) _ _ s;refine Lb (tupleItemsOf_ ht ?_);refine Lb (wpAny_typeOf hTs ?_);rw[Le (by decide)];refine Lb (sliceApplied_gen hs pl pu ?_);have hno:¬((((sIx items.size 0 lo:Nat):Int)==0&&(1:Int)==1&&(sIx items.size items.size hi - sIx items.size 0 lo)==items.size)=true):=by intro q;rw[Li,Li]at q;have q1:((sIx items.size 0 lo:Nat):Int)=0:=eq_of_beq q.1.1;have q2:sIx items.size items.size hi - sIx items.size 0 lo=items.size:=eq_of_beq q.2;exact hw ⟨by omega,by omega⟩
 show wpAny _ _ (if(((sIx items.size 0 lo:Nat):Int)==0&&(1:Int)==1&&(sIx items.size items.size hi - sIx items.size 0 lo)==items.size)=true then _ else _) _ _ s;rw[Ld hno,CA]
 first
  |exact Lb (m:=Builtin.Tuple.tupleExact _) (Od (Lm ⟨_,rfl,Lm h⟩) htake)
  |exact Lb (m:=Builtin.Tuple.tupleExact _) (Od (Lb (Lm (Lm ⟨_,rfl,Lm h⟩))) htake)
  |exact Lb (Lb (m:=Builtin.Tuple.tupleExact _) (Od (Lm (Lm ⟨_,rfl,Lm h⟩)) htake))
  |exact Lb (Lb (m:=Builtin.Tuple.tupleExact _) (Od (Lm ⟨_,rfl,Lm h⟩) htake))
end
end HT
namespace L2
open PySem PySem.Spec PyProof.Rows
abbrev TO:=St->Hp->(Option Int->Hp->Prop)->Prop
def PO(X:Cx)(e:Option Expr)(t:TO):Prop:=
 ∀(pins:List (Addr×Obj)) (s:Shared) (σ:St) (H:Hp) (Q:Option Int->Hp->Prop),aO X pins σ H s->t σ H Q->
  wpAny (model X.prog X.w) X.A (evalPart e X.env) (λ u s'=>∃o H',aO X pins σ H' s'/\IsPart u o/\Q o H') X.xe s
def Eu:TO:=λ _ H Q=>Q none H
def HC(t:TE):TO:=λ σ H Q=>t σ H λ x H1=>∃i,x=.int i/\Q (some i) H1
section
variable{X:Cx}{e:Expr}{te:TE}{lo hi:Option Expr}{tl th:TO}{pos p2:Pos}
theorem cy:PO X none Eu:=by intro pins s σ H Q I h;rw[evalPart_none];exact Lm ⟨none,H,I,.none,h⟩
theorem aP(h:PE X e te):PO X (some e) (HC te):=by intro pins s σ H Q I hw;rw[evalPart_some];refine cR (h pins s σ H _ I hw) λ u s1 ⟨x,H1,I1,r1,q1⟩=>?_;obtain⟨i,rfl,q⟩:=q1;obtain⟨t,rfl⟩:=r1;exact⟨some i,H1,I1,.int i t,q⟩
def Ii(X:Cx)(r:V->Option Int->Option Int->Hp->VK->Prop):Prop:=
 ∀(pins:List (Addr×Obj)) (s:Shared) (σ:St) (H:Hp) (x:V) (v vl vu:Value) (lo hi:Option Int) (sl:Addr) (Q:VK),aO X pins σ H s->bG x v->s.heap.IsSliceOf sl vl vu .none->IsPart vl lo->IsPart vu hi->r x lo hi H Q->
  ∃T id,typeLookup (.type T) "__getitem__"=pure (some (.builtin id))/\s.TypeIs v T/\wpAny (model X.prog X.w) X.A (getItem v (.ref sl)) (EP X pins σ Q) X.xe s
def JJ(r:V->Option Int->Option Int->Hp->VK->Prop)(te:TE)(tl th:TO):TE:=λ σ H Q=>te σ H λ x H1=>tl σ H1 λ l H2=>th σ H2 λ u H3=>r x l u H3 Q
theorem aX{r:V->Option Int->Option Int->Hp->VK->Prop}(hr:Ii X r)(he:PE X e te)(hl:PO X lo tl)(hu:PO X hi th):PE X (.Subscript e (.Slice lo hi none p2) pos) (JJ r te tl th):=by intro pins s σ H Q I h;refine Subscript_ (cR (he pins s σ H _ I h) λ v s1 ⟨x,H1,I1,r1,q1⟩=>?_);refine wpAny_Slice (cR (hl pins s1 σ H1 _ I1 q1) λ vl s2 ⟨l,H2,I2,pl,q2⟩=>cR (hu pins s2 σ H2 _ I2 q2) λ vu s3 ⟨u,H3,I3,pu,q3⟩=>?_);rw[evalPart_none];refine Lm ?_;have I4:aO X pins σ H3 {s3 with heap:=s3.heap.push {cls:=.type "slice",data:=.fields #[vl,vu,.none]}}:=I3.kept (t':=s3.toks) λ b ob q=>Lo _ q;obtain⟨T,id,hT,ht,hg⟩:=hr pins {s3 with heap:=s3.heap.push {cls:=.type "slice",data:=.fields #[vl,vu,.none]}} σ H3 x v vl vu l u s3.heap.objs.size Q I4 r1 (Heap.IsSliceOf.new ..) pl pu q3;show wpAny (model X.prog X.w) X.A (subscriptTail e (.Slice lo hi none p2) v (.ref s3.heap.objs.size)) (EP X pins σ Q) X.xe {s3 with heap:=s3.heap.push {cls:=.type "slice",data:=.fields #[vl,vu,.none]}};exact tail_any (ops:=[.ref s3.heap.objs.size,v]) ht hT hg (by with_unfolding_all rfl)
def lL(xs:List V)(lo hi:Option Int):List V:=(xs.drop (HT.sIx xs.length 0 lo)).take (HT.sIx xs.length xs.length hi - HT.sIx xs.length 0 lo)
theorem pF(xs:List V)(lo hi:Option Int):(lL xs lo hi).length<=xs.length:=by unfold lL;rw[Lr,Lw];omega
def IA(K:PySem.W.Frag):V->Option Int->Option Int->Hp->VK->Prop:=λ x lo hi H Q=>∃a xs,x=.ref a/\ci K H a xs/\
 ¬(HT.sIx xs.length 0 lo=0/\HT.sIx xs.length xs.length hi=xs.length)/\∀p,H p=none->Q (.ref p) (upd H p (.tup (lL xs lo hi)))
theorem Ge:Ii X (IA X.K):=by
 intro pins s σ H x v vl vu lo hi sl Q I rx hs pl pu h;obtain⟨a,xs,rfl,hx,hw,q⟩:=h;cases rx;obtain⟨its,r,ht,hz⟩:=I.tuple hx;have hlen:its.toArray.size=xs.length:=by rw[Ly];exact r.length.symm
 refine⟨"tuple",_,PyProof.Rows.slot_tuple_getitem.lookup,ht.typeIs,?_⟩;refine HT.getItem_tuple_cut ht hs pl pu (by rw[hlen];exact hw) ?_ (by rw[hlen];exact hz);rw[hlen];refine⟨.ref s.heap.objs.size,_,I.laid (t':=s.toks) (o:=.tup (lL xs lo hi)) (λ b ob q=>Lo _ q) (Lf _) ?_,rfl,q _ (I.hok.fresh (Lf _))⟩;exact⟨Ln (pF xs lo hi) hz,_,(r.drop (HT.sIx xs.length 0 lo)).take (HT.sIx xs.length xs.length hi - HT.sIx xs.length 0 lo),IsTup.new _ _⟩
def HD(K:PySem.W.Frag):R2:=λ x y H Q=>∃a b xs ys,x=.ref a/\y=.ref b/\ci K H a xs/\ci K H b ys/\xs≠[]/\xs.length+ys.length<=sizeLine/\
 (ys=[]->Q (.ref a) H)/\(ys≠[]->∀p,H p=none->Q (.ref p) (upd H p (.tup (xs++ys))))
theorem bn.nil_iff{xs:List V}{us:List Value}(r:bn xs us):us=[]↔xs=[]:=by
 cases r with
 |nil=>simp
 |cons _ _=>simp
theorem Ev:mN X (binaryOp .Add) (HD X.K):=by intro pins s σ H x y v u Q I rx ry h;obtain⟨a,b,xs,ys,rfl,rfl,ha,hb,hx,hz,q1,q2⟩:=h;cases rx;cases ry;obtain⟨its,r1,p1,_⟩:=I.tuple ha;obtain⟨its2,r2,p2,_⟩:=I.tuple hb;refine HT.cat_tup p1 p2 (λ z=>hx (r1.nil_iff.mp z)) (λ z=>⟨.ref a,H,I,rfl,q1 (r2.nil_iff.mp z)⟩) (λ z=>?_) (by rw[<-r1.length,<-r2.length];exact hz);refine⟨.ref s.heap.objs.size,_,I.laid (t':=s.toks) (o:=.tup (xs++ys)) (λ b ob q=>Lo _ q) (Lf _) ?_,rfl,q2 (λ w=>z (r2.nil_iff.mpr w)) _ (I.hok.fresh (Lf _))⟩;exact⟨by rw[La];exact hz,_,r1.append r2,IsTup.new _ _⟩
end
def FJ(n:Nat)(i:Int):Option Nat:=if 0<=i then(if i<n then some i.toNat else none) else if -(n:Int)<=i then some (i+n).toNat else none
def Cd{α:Type}(xs:List α)(i:Int):Option α:=(FJ xs.length i).bind λ j=>xs[j]?
theorem Ew{n:Nat}{i:Int}{j:Nat}(h:FJ n i=some j):seqIndex? i n=some j/\j<n/\ -(n:Int)<=i/\i<n:=by
 unfold FJ at h;by_cases h0:0<=i
 ·rw[Le h0]at h;by_cases h1:i<n
  ·rw[Le h1]at h;have e:i.toNat=j:=Lz h;exact⟨by rw[seqIndex_of h0 h1,e],by omega,by omega,h1⟩
  ·rw[Ld h1]at h;cases h
 ·rw[Ld h0]at h;by_cases h1 : -(n:Int)<=i
  ·rw[Le h1]at h;have e:(i+n).toNat=j:=Lz h;exact⟨by rw[seqIndex_neg (by omega) h1,e],by omega,h1,by omega⟩
  ·rw[Ld h1]at h;cases h
theorem zV{α:Type}{xs:List α}{i:Int}{v:α}(h:Cd xs i=some v):∃j,seqIndex? i xs.length=some j/\xs[j]?=some v/\j<xs.length/\ -(xs.length:Int)<=i/\i<xs.length:=by
 unfold Cd at h;cases e:FJ xs.length i with
 |none=>rw[e]at h;cases h
 |some j=>rw[e]at h;obtain⟨h1,h2,h3,h4⟩:=Ew e;exact⟨j,h1,h,h2,h3,h4⟩
theorem aT{α:Type}{xs:List α}{j:Nat}{v:α}(h:xs[j]?=some v):Cd xs (j:Int)=some v:=by
 have hj:j<xs.length:=(Mq.mp h).1;have e:FJ xs.length (j:Int)=some j:=by unfold FJ;rw[Le (by omega),Le (by omega)];simp
 unfold Cd;rw[e];exact h
theorem CB{α:Type}(xs:List α)(v:α):Cd (xs++[v]) (-1)=some v:=by
 have hl:(xs++[v]).length=xs.length+1:=by simp
 have e:FJ (xs++[v]).length (-1)=some xs.length:=by unfold FJ;rw[hl,Ld (by decide),Le (by omega)];congr 1;omega
 unfold Cd;rw[e];show(xs++[v])[xs.length]?=some v;simp
def Ex(b:Expr):Prop:=∀o i,subscripted b false o i=operate [o,i] (getItem o i)
def IB(X:Cx)(r:R2):Prop:=
 ∀(value slice:Expr) (pins:List (Addr×Obj)) (s:Shared) (σ:St) (H:Hp) (x y:V) (v u:Value) (Q:VK),aO X pins σ H s->bG x v->bG y u->r x y H Q->
  subscripted slice false v u=operate [v,u] (getItem v u)->wpAny (model X.prog X.w) X.A (subscriptTail value slice v u) (EP X pins σ Q) X.xe s
def Jb(X:Cx)(id:String)(r:V->List V->Hp->VK->Prop):Prop:=
 ∀(pins:List (Addr×Obj)) (s:Shared) (σ:St) (H:Hp) (x:V) (xs:List V) (v:Value) (us:List Value) (Q:VK),aO X pins σ H s->bG x v->bn xs us->r x xs H Q->
  wpAny (model X.prog X.w) X.A (call (.builtin id) (v::us)) (EP X pins σ Q) X.xe s
section
variable{X:Cx}{a b:Expr}{ta tb:TE}{pos:Pos}
theorem bv{r:R2}(hr:IB X r)(ha:PE X a ta)(hb:PE X b tb)(hs:Ex b):PE X (.Subscript a b pos) (Co r ta tb):=by intro pins s σ H Q I h;exact Subscript_ (Gb ha hb I h λ v u s2 x y H2 I2 rx ry q=>hr a b pins s2 σ H2 x y v u Q I2 rx ry q (hs _ _))
def IC(K:PySem.W.Frag):R2:=λ x y H Q=>∃p xs i v,x=.ref p/\y=.int i/\SqL K H p xs/\Cd xs i=some v/\Q v H
def HE(K:PySem.W.Frag):R2:=λ x y H Q=>∃p xs i v,x=.ref p/\y=.int i/\ci K H p xs/\Cd xs i=some v/\Q v H
theorem bb:IB X (IC X.K):=by
 intro value slice pins s σ H x y v u Q I rx ry h hs;obtain⟨p,xs,i,z,rfl,rfl,hq,he,q⟩:=h;cases rx;obtain⟨t,rfl⟩:=ry;obtain⟨its,r,pl,hz⟩:=I.list hq;obtain⟨j,h1,h2,h3,h4,h5⟩:=zV he;obtain⟨w,ew,rw'⟩:=r.get h2;have hl:=r.length;have hn:=yl;have eW:EP X pins σ Q w s:=⟨z,H,I,rw',q⟩;by_cases h0:0<=i
 ·have hj:i.toNat=j:=by
   rw[seqIndex_of h0 h5]at h1;exact Lz h1
  exact item_listR pl.isList h0 (by omega) (by rw[hj];simpa using ew) eW hs
 ·have hj:(i+(its.toArray.size:Int)).toNat=j:=by
   rw[seqIndex_neg (by omega) h4]at h1;rw[Ly,<-hl];exact Lz h1
  exact subscriptTail_builtinR (x:=w) pl.isList.typeIs slot_list_getitem.lookup
   (wpAny_getItem_list_neg (Q:=λ r s'=>r=w/\EP X pins σ Q r s') pl.isList (by omega) (by rw[Ly]<;>omega) (by omega) (by rw[hj];simpa using ew) ⟨rfl,eW⟩) hs
theorem gu:IB X (HE X.K):=by
 intro value slice pins s σ H x y v u Q I rx ry h hs;obtain⟨p,xs,i,z,rfl,rfl,hq,he,q⟩:=h;cases rx;obtain⟨t,rfl⟩:=ry;obtain⟨its,r,pl,hz⟩:=I.tuple hq;obtain⟨j,h1,h2,h3,h4,h5⟩:=zV he;obtain⟨w,ew,rw'⟩:=r.get h2;have hl:=r.length;have hn:=yl;have eW:EP X pins σ Q w s:=⟨z,H,I,rw',q⟩;exact subscriptTail_builtinR (x:=w) pl.typeIs slot_tuple_getitem.lookup
  (getItem_tuple (j:=j) (Q:=λ r s'=>r=w/\EP X pins σ Q r s') pl (by omega) (by omega) (by rw[Ly,<-hl];exact h1) (by simpa using ew) ⟨rfl,eW⟩) hs
theorem vi(lo hi:Option Int)(n:Nat):(sliceBounds lo hi none n).1=((HT.sIx n 0 lo:Nat):Int)/\(sliceBounds lo hi none n).2.1=((HT.sIx n n hi:Nat):Int)/\(sliceBounds lo hi none n).2.2=1:=by
 refine⟨?_,?_,rfl⟩
 ·cases lo with
  |none=>simp[sliceBounds,HT.sIx]
  |some i=>
   simp only[sliceBounds,HT.sIx,Option.getD_none,show(1:Int) > 0 by decide,Re];by_cases h:i<0
   ·simp only[h,Re]<;>omega
   ·simp only[h,On]<;>omega
 ·cases hi with
  |none=>simp[sliceBounds,HT.sIx]
  |some i=>
   simp only[sliceBounds,HT.sIx,Option.getD_none,show(1:Int) > 0 by decide,Re];by_cases h:i<0
   ·simp only[h,Re]<;>omega
   ·simp only[h,On]<;>omega
theorem tL(its:List Value)(lo hi:Option Int):slicePick its.toArray lo hi none=((its.drop (HT.sIx its.length 0 lo)).take (HT.sIx its.length its.length hi - HT.sIx its.length 0 lo)).toArray:=by obtain⟨h1,h2,h3⟩:=vi lo hi its.toArray.size;unfold slicePick;rw[h1,h2,h3];simp only[sliceRange_one,pick_run,Ly]<;>rfl
def ID(K:PySem.W.Frag):V->Option Int->Option Int->Hp->VK->Prop:=λ x lo hi H Q=>∃a xs,x=.ref a/\SqL K H a xs/\∀p,H p=none->Q (.ref p) (upd H p (.lst (lL xs lo hi)))
theorem dN:Ii X (ID X.K):=by intro pins s σ H x v vl vu lo hi sl Q I rx hs pl pu h;obtain⟨a,xs,rfl,hx,q⟩:=h;cases rx;obtain⟨its,r,ht,hz⟩:=I.list hx;have hlen:=r.length;refine⟨"list",_,slot_list_getitem.lookup,ht.isList.typeIs,?_⟩;refine wpAny_getItem_list_slice ht.isList hs pl pu .none (by simp) ?_ (by rw[Ly]<;>omega);rw[tL,<-hlen];refine⟨.ref s.heap.objs.size,_,I.laid (t':=s.toks) (o:=.lst (lL xs lo hi)) (λ b ob q=>Lo _ q) (Lf _) ?_,rfl,q _ (I.hok.fresh (Lf _))⟩;exact⟨Ln (pF xs lo hi) hz,_,0,(r.drop (HT.sIx xs.length 0 lo)).take (HT.sIx xs.length xs.length hi - HT.sIx xs.length 0 lo),Md _ rfl⟩
def mQ:V->Bool
 |.non=>true
 |.bl _=>true
 |.int _=>true
 |.str _=>true
 |_=>false
def Ey:V->V->Bool
 |.non,.non=>true
 |.bl a,.bl b=>a==b
 |.bl a,.int b=>(if a then 1 else 0)==b
 |.int a,.bl b=>a==(if b then 1 else 0)
 |.int a,.int b=>a==b
 |.str a,.str b=>a==b
 |_,_=>false
theorem Gf{A:Around}{s:Shared}{y x:V}{u v:Value}(ry:bG y u)(rx:bG x v)(fy:mQ y=true)(fx:mQ x=true):SeqAt.EqAt A s u v (Ey y x):=by
 cases y with
 |non=>
  cases ry;cases x with
  |non=>cases rx;exact SeqAt.EqAt.same _
  |bl b=>cases rx;exact SeqAt.EqAt.none_bool b
  |int b=>obtain⟨t,rfl⟩:=rx;exact SeqAt.EqAt.none_int b t
  |str b=>obtain⟨t,rfl⟩:=rx;exact SeqAt.EqAt.none_str b t
  |_=>exact absurd (show false=true from fx) Mc
 |bl a=>
  cases ry;cases x with
  |non=>cases rx;exact SeqAt.EqAt.bool_none a
  |bl b=>cases rx;exact SeqAt.EqAt.bool_bool a b
  |int b=>obtain⟨t,rfl⟩:=rx;exact SeqAt.EqAt.bool_int a b t
  |str b=>obtain⟨t,rfl⟩:=rx;exact SeqAt.EqAt.bool_str a b t
  |_=>exact absurd (show false=true from fx) Mc
 |int a=>
  obtain⟨t',rfl⟩:=ry;cases x with
  |non=>cases rx;exact SeqAt.EqAt.int_none a t'
  |bl b=>cases rx;exact SeqAt.EqAt.int_bool a t' b
  |int b=>obtain⟨t,rfl⟩:=rx;exact SeqAt.EqAt.int_int a t' b t
  |str b=>obtain⟨t,rfl⟩:=rx;exact SeqAt.EqAt.int_str a t' b t
  |_=>exact absurd (show false=true from fx) Mc
 |str a=>
  obtain⟨t',rfl⟩:=ry;cases x with
  |non=>cases rx;exact SeqAt.EqAt.str_none a t'
  |bl b=>cases rx;exact SeqAt.EqAt.str_bool a t' b
  |int b=>obtain⟨t,rfl⟩:=rx;exact SeqAt.EqAt.str_int a t' b t
  |str b=>obtain⟨t,rfl⟩:=rx;exact SeqAt.EqAt.str_str a t' b t
  |_=>exact absurd (show false=true from fx) Mc
 |_=>exact absurd (show false=true from fy) Mc
def yy(x:V)(u:Value):Bool:=match u with
 |.none=>Ey .non x
 |.bool b=>Ey (.bl b) x
 |.int i _=>Ey (.int i) x
 |.str z _=>Ey (.str z) x
 |_=>false
theorem CC{x y:V}{u:Value}(r:bG y u)(f:mQ y=true):yy x u=Ey y x:=by
 cases y with
 |non=>cases r;rfl
 |bl b=>cases r;rfl
 |int i=>obtain⟨t,rfl⟩:=r;rfl
 |str z=>obtain⟨t,rfl⟩:=r;rfl
 |_=>exact absurd (show false=true from f) Mc
theorem mR{x:V}:∀{xs:List V} {us:List Value},bn xs us->xs.all mQ=true->us.any (yy x)=xs.any λ y=>Ey y x
 |_,_,.nil,_=>rfl
 |y::xs,u::us,.cons r t,f=>by rw[List.all_cons,Li]at f;rw[Ql,Ql,CC r f.1,mR t f.2]
theorem kf{A:Around}{s:Shared}{x:V}{v:Value}(rx:bG x v)(fx:mQ x=true):∀{xs:List V} {us:List Value},bn xs us->xs.all mQ=true->∀u∈us,SeqAt.EqAt A s u v (yy x u)
 |_,_,.nil,_=>λ u hu=>by cases hu
 |y::xs,u::us,.cons r t,f=>λ u' hu=>by
  rw[List.all_cons,Li]at f;rcases Lp.mp hu with rfl |hu
  ·rw[CC r f.1];exact Gf r rx f.1 fx
  ·exact kf rx fx t f.2 u' hu
def zW(x:V)(xs:List V):Bool:=xs.any λ y=>Ey y x
def Jc(K:PySem.W.Frag)(neg:Bool):R2:=λ x y H Q=>∃p xs,y=.ref p/\(SqL K H p xs\/ci K H p xs)/\mQ x=true/\xs.all mQ=true/\Q (.bl (if neg then !zW x xs else zW x xs)) H
theorem lj:mN X (compareOp .In) (Jc X.K false):=by
 intro pins s σ H x y v u Q I rx ry h;obtain⟨p,xs,rfl,hq,fx,fs,q⟩:=h;cases ry;rcases hq with hq |hq
 ·obtain⟨its,r,pl,hz⟩:=I.list hq;refine SeqAt.in_listAt (yy x) pl.isList (λ w hw=>kf rx fx r fs w (by simpa using hw)) ⟨.bl _,H,I,rfl,?_⟩;rw[show its.toArray.any (yy x)=its.any (yy x) by simp,mR r fs];exact q
 ·obtain⟨its,r,pl,hz⟩:=I.tuple hq;refine SeqAt.in_tupleAt (yy x) pl (λ w hw=>kf rx fx r fs w (by simpa using hw)) ⟨.bl _,H,I,rfl,?_⟩;rw[show its.toArray.any (yy x)=its.any (yy x) by simp,mR r fs];exact q
theorem mS:mN X (compareOp .NotIn) (Jc X.K true):=by
 intro pins s σ H x y v u Q I rx ry h;obtain⟨p,xs,rfl,hq,fx,fs,q⟩:=h;cases ry;rcases hq with hq |hq
 ·obtain⟨its,r,pl,hz⟩:=I.list hq;refine SeqAt.notIn_listAt (yy x) pl.isList (λ w hw=>kf rx fx r fs w (by simpa using hw)) ⟨.bl _,H,I,rfl,?_⟩;rw[show its.toArray.any (yy x)=its.any (yy x) by simp,mR r fs];exact q
 ·obtain⟨its,r,pl,hz⟩:=I.tuple hq;refine SeqAt.notIn_tupleAt (yy x) pl (λ w hw=>kf rx fx r fs w (by simpa using hw)) ⟨.bl _,H,I,rfl,?_⟩;rw[show its.toArray.any (yy x)=its.any (yy x) by simp,mR r fs];exact q
theorem aj:gh X (.builtin "len") (λ xs H Q=>∃p ys,xs=[.ref p]/\(SqL X.K H p ys\/ci X.K H p ys)/\Q (.int ys.length) H):=by
 intro pins s σ H xs us Q I r h;obtain⟨p,ys,rfl,hq,q⟩:=h;obtain⟨u,rfl,rx⟩:=pE r;cases rx;have hn:=yl;rcases hq with hq |hq
 ·obtain⟨its,r',pl,hz⟩:=I.list hq;have hlen:=r'.length;exact Calls.call_len_list pl.isList (by simp only[Ly]<;>omega) ⟨.int ys.length,H,I.tok _,⟨s.toks+1,by rw[Ly,hlen]⟩,q⟩
 ·obtain⟨its,r',pl,hz⟩:=I.tuple hq;have hlen:=r'.length;exact len_tuple pl (by simp only[Ly]<;>omega) ⟨.int ys.length,H,I.tok _,⟨s.toks+1,by rw[Ly,hlen]⟩,q⟩
theorem bY:gh X (.type "list") (λ xs H Q=>∃p ys,xs=[.ref p]/\(SqL X.K H p ys\/ci X.K H p ys)/\∀l,H l=none->Q (.ref l) (upd H l (.lst ys))):=by
 intro pins s σ H xs us Q I r h;obtain⟨p,ys,rfl,hq,q⟩:=h;obtain⟨u,rfl,rx⟩:=pE r;cases rx;have eW:∀(its:List Value),bn ys its->ys.length<=sizeLine->∀(h':Heap) (c':Nat),(∀b o',s.heap.get? b=some o'->h'.get? b=some o')->
   h'.get? s.heap.objs.size=some {cls:=.type "list",dict:=none,data:=.seq its.toArray c',slots := #[]}->EP X pins σ Q (.ref s.heap.objs.size) {s with heap:=h'}:=λ its r' hz h' c' kp e=>
  ⟨.ref s.heap.objs.size,_,I.laid (t':=s.toks) kp (Lf _) (show cO X.prog X.w _ h' _ (.lst ys) from⟨hz,its,c',r',e⟩),rfl,q _ (I.hok.fresh (Lf _))⟩
 rcases hq with hq |hq
 ·obtain⟨its,r',pl,hz⟩:=I.list hq;have hlen:=r'.length;obtain⟨o,ho,hc,n,hd⟩:=pl.isList;exact call_list_seq p (.inl rfl) ho hc hd (λ h' c' kp e=>eW its r' hz h' c' kp e) (by simp only[Ly]<;>omega)
 ·obtain⟨its,r',pl,hz⟩:=I.tuple hq;have hlen:=r'.length;obtain⟨o,ho,hc,n,hd⟩:=pl;exact call_list_seq p (.inr rfl) ho hc hd (λ h' c' kp e=>eW its r' hz h' c' kp e) (by simp only[Ly]<;>omega)
theorem eZ:gh X (.type "tuple") (λ xs H Q=>∃p ys,xs=[.ref p]/\((SqL X.K H p ys/\∀l,H l=none->Q (.ref l) (upd H l (.tup ys)))\/(ci X.K H p ys/\Q (.ref p) H))):=by
 intro pins s σ H xs us Q I r h;obtain⟨p,ys,rfl,h⟩:=h;obtain⟨u,rfl,rx⟩:=pE r;cases rx;rcases h with⟨hq,q⟩ |⟨hq,q⟩
 ·obtain⟨its,r',pl,hz⟩:=I.list hq;have hlen:=r'.length;refine call_tuple_list pl.isList (λ h' kp=>?_) (by simp only[Ly]<;>omega);have I1:aO X pins σ H {s with heap:=h'}:=I.kept (t':=s.toks) kp;have I2:aO X pins σ (upd H h'.objs.size (.tup ys)) {s with heap:=h'.push {cls:=.type "tuple",data:=.seq its.toArray}}:=
   I1.laid (t':=s.toks) (λ b o e=>Lo _ e) (Lf _) (show cO X.prog X.w _ _ _ (.tup ys) from⟨hz,its,r',IsTup.new _ _⟩)
  exact⟨.ref h'.objs.size,_,I2,rfl,q _ (I1.hok.fresh (Lf _))⟩
 ·obtain⟨its,r',pl,hz⟩:=I.tuple hq;exact call_tuple_same pl ⟨.ref p,H,I,rfl,q⟩
def IE(K:PySem.W.Frag)(T:String)(x:V)(H:Hp):Prop:=match x with
 |.str _=>T ="str"
 |.int _=>T ="int"
 |.ref p=>(T ="list"/\∃xs,SqL K H p xs)\/(T ="tuple"/\∃o,K.lookup p=some o/\o.cls=.type "tuple"/\o.dict=none)\/
   (T ="dict"/\((∃kvs,H p=some (.dK kvs))\/∃kvs,H p=some (.dT kvs)))\/(T ="set"/\∃S n,H p=some (.set S n))
 |_=>False
theorem CD{pins:List (Addr×Obj)}{σ:St}{H:Hp}{s:Shared}{T:String}{x:V}{v:Value}(I:aO X pins σ H s)(r:bG x v)(ty:IE X.K T x H):
  s.TypeIs v T/\∀a,v=.ref a->∃ob,s.heap.get? a=some ob/\ob.dict=none:=by
 cases x with
 |str z=>obtain⟨t,rfl⟩:=r;cases(show T ="str" from ty);exact⟨typeIs_str s z t,λ _ e=>nomatch e⟩
 |int i=>obtain⟨t,rfl⟩:=r;cases(show T ="int" from ty);exact⟨typeIs_int s i t,λ _ e=>nomatch e⟩
 |ref p=>
  cases r;rcases ty with⟨rfl,xs,hq⟩ |⟨rfl,o,hk,hc,hd⟩ |⟨rfl,hk⟩ |⟨rfl,S,n,hk⟩
  ·obtain⟨its,_,pl,_⟩:=I.list hq;refine⟨pl.isList.typeIs,λ a e=>?_⟩;cases e;obtain⟨o,n,e,c,hd,_⟩:=pl;exact⟨o,e,hd⟩
  ·refine⟨⟨o,I.kIn p o hk,hc⟩,λ a e=>?_⟩;cases e;exact⟨o,I.kIn _ o hk,hd⟩
  ·have z:∃o,s.heap.get? p=some o/\o.ExactDict:=by
    rcases hk with⟨kvs,hk⟩ |⟨kvs,hk⟩
    ·obtain⟨_,_,_,_,o,_,_,e,ex,_⟩:=I.hok p _ hk;exact⟨o,e,ex⟩
    ·obtain⟨_,_,_,_,o,_,_,e,ex,_⟩:=I.hok p _ hk;exact⟨o,e,ex⟩
   obtain⟨o,e,ex⟩:=z;refine⟨⟨o,e,ex.1⟩,λ a e2=>?_⟩;cases e2;exact⟨o,e,ex.2.1⟩
  ·obtain⟨o,_,_,_,e,ex,_⟩:=I.hok p _ hk;refine⟨⟨o,e,ex.1⟩,λ a e2=>?_⟩;cases e2;exact⟨o,e,ex.2.1⟩
 |_=>exact False.elim ty
def IG(K:PySem.W.Frag)(T:String)(r:V->List V->Hp->VK->Prop)(to:TE):TE:=λ σ H Q=>to σ H λ x H1=>IE K T x H1/\r x [] H1 Q
def IH(K:PySem.W.Frag)(T:String)(r:V->List V->Hp->VK->Prop)(to:TE)(t:TA):TE:=λ σ H Q=>to σ H λ x H1=>IE K T x H1/\t σ H1 λ xs H2=>r x xs H2 Q
variable{o e:Expr}{es:List Expr}{to:TE}{t:TA}{name:Str}{apos cpos:Pos}{T id:String}{r:V->List V->Hp->VK->Prop}
theorem yz(pa:PlainAttrs T)(slot:Slot T name id)(hty:typeOf (.builtin id)=pure (.type "method_descriptor"))(hm:Jb X id r)(ho:PE X o to)(hbase:attributeBase o name X.env (eval o X.env)=eval o X.env:=by rfl)(hline:(apos.endLine==cpos.line)=true:=by rfl):PE X (.Call (.Attribute o name apos) [] [] cpos) (IG X.K T r to):=by intro pins s σ H Q I h;refine wpAny_Call_method0_late hbase hline (cR (ho pins s σ H _ I h) λ v s1 ⟨x,H1,I1,r1,ty,q1⟩=>?_);obtain⟨h1,h2⟩:=CD I1 r1 ty;exact⟨T,id,pa,slot,hty,h1,h2,Qq rfl (PySem.evalArgs_none (hm pins s1 σ H1 x [] v [] Q I1 r1 .nil q1))⟩
theorem bZ(pa:PlainAttrs T)(slot:Slot T name id)(hty:typeOf (.builtin id)=pure (.type "method_descriptor"))(hm:Jb X id r)(ho:PE X o to)(ha:PA X (e::es) t)(hbase:attributeBase o name X.env (eval o X.env)=eval o X.env:=by rfl)(hfew:((backTo cpos (starEach (e::es) X.env)).all (λ x=>!x.1)&&(backToKw cpos (keywordEach [] X.env)).all (λ x=>x.1.isSome)
   && decide ((e::es).length+([]:List Keyword).length+(if([]:List Keyword).isEmpty then 0 else 1)<30))=true:=by rfl)(hline:(apos.endLine==cpos.line)=true:=by rfl)(hs:starEach (e::es) X.env=(false,eval e X.env):: starEach es X.env:=by rfl)(hplain:(backTo cpos (starEach es X.env)).any (·.1)=false:=by rfl):
  PE X (.Call (.Attribute o name apos) (e::es) [] cpos) (IH X.K T r to t):=by
 intro pins s σ H Q I h;refine wpAny_Call_method_late hbase hfew hline rfl (cR (ho pins s σ H _ I h) λ v s1 ⟨x,H1,I1,r1,ty,q1⟩=>?_);obtain⟨h1,h2⟩:=CD I1 r1 ty;refine⟨T,id,pa,slot,hty,h1,h2,?_⟩;have hA:=ha cpos pins s1 σ H1 _ I1 q1;rw[hs]at hA ⊢;refine Qq (by show(false||(backTo cpos (starEach es X.env)).any (·.1))=false;rw[hplain]<;>rfl) (Calls.evalArgs_plain ?_);exact cR hA λ us s2 ⟨vs,H2,I2,r2,q2⟩=>hm pins s2 σ H2 x vs v us Q I2 r1 r2 q2
end
def Hc(X:Cx)(id:String)(r:V->List V->Hp->VK->Prop):Prop:=
 ∀(pins:List (Addr×Obj)) (s:Shared) (σ:St) (H:Hp) (x:V) (xs:List V) (v:Value) (us:List Value) (Q:VK),aO X pins σ H s->bG x v->bn xs us->r x xs H Q->
  wpAny (model X.prog X.w) X.A (call (.builtin id) (v::us)) (EP X pins σ Q) X.xe s
theorem bn.one:∀{x:V} {us:List Value},bn [x] us->∃u,us=[u]/\bG x u
 |_,_,.cons r .nil=>⟨_,rfl,r⟩
theorem bn.zero:∀{us:List Value},bn [] us->us=[]
 |_,.nil=>rfl
theorem bn.dropLast{xs:List V}{us:List Value}(h:bn xs us):bn xs.dropLast us.dropLast:=by
 induction h with
 |nil=>exact .nil
 |cons r t ih=>
  cases t with
  |nil=>exact .nil
  |cons q t'=>exact .cons r ih
theorem yA{α:Type}(l:List α):l.eraseIdx (l.length - 1)=l.dropLast:=by
 induction l with
 |nil=>rfl
 |cons a r ih=>
  cases r with
  |nil=>rfl
  |cons b r=>
   have e:(a::b::r).length - 1=((b::r).length - 1)+1:=by have h1:(a::b::r).length=r.length+2:=rfl;have h2:(b::r).length=r.length+1:=rfl;omega
   rw[e,List.eraseIdx_cons_succ,ih]
   all_goals rfl
section
variable{X:Cx}{pins:List (Addr×Obj)}{σ:St}{H:Hp}{s:Shared}{l b:Addr}{xs ys zs:List V}
theorem aO.lset{its its':List Value}{n:Nat}{f:Array Value->Array Value}{t':Nat}(I:aO X pins σ H s)(hH:H l=some (.lst xs))(e:s.heap.get? l=some {cls:=.type "list",data:=.seq its.toArray n})(hf:f its.toArray=its'.toArray)(hv:bn ys its')(hz:ys.length<=sizeLine):
  aO X pins σ (upd H l (.lst ys)) {s with heap:=s.heap.update l (Obj.mapSeq f),toks:=t'}:=by
 have q:=PySem.IsL.update e f;rw[hf]at q;refine I.write (x:=l) (e:=l) (by rw[hH];exact trivial) (.inl rfl) (λ b' u hb hu=>(Heap.get?_update_other s.heap (Obj.mapSeq f) (Ne.symm hb)).trans hu) ⟨_,q⟩ ?_;exact⟨hz,its',_,hv,q⟩
theorem aO.lnew{its:List Value}{t':Nat}(I:aO X pins σ H s)(hv:bn ys its)(hz:ys.length<=sizeLine):
  aO X pins σ (upd H s.heap.objs.size (.lst ys)) {s with heap:=s.heap.push {cls:=.type "list",data:=.seq its.toArray},toks:=t'}:=
 I.laid (λ _ _ q=>Lo _ q) (Lf _) ⟨hz,its,0,hv,Md _ rfl⟩
theorem aO.fresh(I:aO X pins σ H s):H s.heap.objs.size=none:=I.hok.fresh (Lf _)
theorem aO.lstM(I:aO X pins σ H s)(hH:H l=some (.lst xs)):xs.length<=sizeLine/\∃(its:List Value) (n:Nat),bn xs its/\xs.length=its.length/\s.heap.get? l=some {cls:=.type "list",data:=.seq its.toArray n}:=by obtain⟨z,its,n,r,e⟩:=I.hok l _ hH;exact⟨z,its,n,r,r.length,e⟩
theorem wC{n:Nat}(h:n<=sizeLine):Builtin.List.listTooLong n=false:=by unfold Builtin.List.listTooLong;exact Mn (by omega)
end
section
variable{X:Cx}
def vj:V->List V->Hp->VK->Prop:=λ x vs H Q=>∃l xs y,x=.ref l/\vs=[y]/\H l=some (.lst xs)/\xs.length<sizeLine/\Q .non (upd H l (.lst (xs++[y])))
theorem bq:Hc X "list.append" vj:=by intro pins s σ H x vs v us Q I rx rv h;obtain⟨l,xs,y,rfl,rfl,hH,hz,q⟩:=h;cases rx;obtain⟨u,rfl,ru⟩:=rv.one;obtain⟨z,its,n,r,hl,e⟩:=I.lstM hH;refine call_meets F.slot_list_append ⟨_,e,rfl⟩ F.entry_list_append (F.args_list_append_2 _ _) (PySem.list_append l its.toArray n u (by rw[Ly];omega)) ⟨e,?_⟩;refine⟨.non,_,I.lset (its':=its++[u]) hH e (by simp) (r.append (.cons ru .nil)) ?_,rfl,q⟩;rw[La,Lx];omega
def qK:V->List V->Hp->VK->Prop:=λ x vs H Q=>∃l b xs zs,x=.ref l/\vs=[.ref b]/\H l=some (.lst xs)/\H b=some (.lst zs)/\xs.length+zs.length<=sizeLine/\Q .non (upd H l (.lst (xs++zs)))
theorem dq:Hc X "list.extend" qK:=by
 intro pins s σ H x vs v us Q I rx rv h;obtain⟨l,b,xs,zs,rfl,rfl,hH,hB,hz,q⟩:=h;cases rx;obtain⟨u,rfl,ru⟩:=rv.one;cases ru;obtain⟨z,its,n,r,hl,e⟩:=I.lstM hH;obtain⟨z2,its2,n2,r2,hl2,e2⟩:=I.lstM hB;have hsz:its.toArray.size+its2.toArray.size<=sizeLine:=by rw[Ly,Ly];omega
 have hlong:¬(!its.toArray.isEmpty&&Builtin.List.listTooLong (its.toArray.size+its2.toArray.size))=true:=by rw[wC hsz,Bool.and_false];exact Mc
 refine call_meets F.slot_list_extend ⟨_,e,rfl⟩ F.entry_list_extend (F.args_list_extend_2 _ _)
  (AutoSeq1.list_extend_list_list_0 l its.toArray n b its2.toArray n2 hlong (by rw[Ly];omega) (by omega)) ⟨e,e2,?_⟩
 refine⟨.non,_,I.lset (its':=its++its2) hH e (by simp) (r.append r2) ?_,rfl,q⟩;rw[La];omega
def II:V->List V->Hp->VK->Prop:=λ x vs H Q=>∃l xs y,x=.ref l/\vs=[]/\H l=some (.lst xs)/\xs[xs.length - 1]?=some y/\Q y (upd H l (.lst xs.dropLast))
theorem yB:Hc X "list.pop" II:=by
 intro pins s σ H x vs v us Q I rx rv h;obtain⟨l,xs,y,rfl,rfl,hH,hy,q⟩:=h;cases rx;have hus:=rv.zero;subst hus;obtain⟨z,its,n,r,hl,e⟩:=I.lstM hH;obtain⟨u,hu,ru⟩:=r.get hy;have hy':its.toArray[its.toArray.size - 1]?=some u:=by show its.toArray[its.length - 1]?=some u;rw[<-Array.getElem?_toList,<-hl];exact hu
 refine call_meets F.slot_list_pop ⟨_,e,rfl⟩ F.entry_list_pop (F.args_list_pop_1 _) (MeetsSeq.list_pop_last l its.toArray n u hy' (by rw[Ly];omega)) ⟨e,?_⟩;refine⟨y,_,I.lset (its':=its.dropLast) hH e ?_ r.dropLast ?_,ru,q⟩
 ·show its.toArray.eraseIdxIfInBounds (its.toArray.size - 1)=its.dropLast.toArray;rw[Ly,List.eraseIdxIfInBounds_toArray,yA]
 ·rw[List.length_dropLast];omega
def IJ:R2:=λ x y H Q=>∃l b xs zs,x=.ref l/\y=.ref b/\H l=some (.lst xs)/\H b=some (.lst zs)/\xs.length+zs.length<=sizeLine/\∀p,H p=none->Q (.ref p) (upd H p (.lst (xs++zs)))
theorem eg:mN X (binaryOp .Add) IJ:=by
 intro pins s σ H x y v u Q I rx ry h;obtain⟨l,b,xs,zs,rfl,rfl,hH,hB,hz,q⟩:=h;cases rx;cases ry;obtain⟨z,its,n,r,hl,e⟩:=I.lstM hH;obtain⟨z2,its2,n2,r2,hl2,e2⟩:=I.lstM hB;refine PySem.P.add_list e e2 ?_ (by rw[Ly,Ly];omega);have ea:its.toArray++its2.toArray=(its++its2).toArray:=by simp
 rw[ea];exact⟨.ref _,_,I.lnew (t':=s.toks) (r.append r2) (by rw[La];omega),rfl,q _ I.fresh⟩
end
theorem bn.ints:∀{ns:List Int} {us:List Value},bn (ns.map V.int) us->IntsAre us ns
 |[],us,h=>by rw[Rm]at h;cases h;exact IntsAre.nil
 |n::ns,us,h=>by
  rw[Mp]at h;cases h with
  |cons r t=>obtain⟨k,rfl⟩:=r;exact IntsAre.cons n k (bn.ints t)
theorem bn.bls:∀{bs:List Bool} {us:List Value},bn (bs.map V.bl) us->us=bs.map Value.bool
 |[],us,h=>by rw[Rm]at h;cases h;rfl
 |b::bs,us,h=>by
  rw[Mp]at h;cases h with
  |cons r t=>cases r;rw[bn.bls t,Mp]
theorem bn.ref1{a:Addr}{us:List Value}(r:bn [V.ref a] us):us=[Value.ref a]:=by
 cases r with
 |cons r t=>cases t;cases r;rfl
section
variable{prog:Program}{w:World}{A:Around}{E:Value->Shared->Prop}{s:Shared}{l:Addr}{its:List Value}{ns:List Int}{Q:Value->Shared->Prop}
theorem Ez(hh:A.handled=none)(hl:s.heap.IsList l its.toArray)(hi:IntsAre its ns)(h:∀h' tk t',(∀b o,s.heap.get? b=some o->h'.get? b=some o)->Q (.int ns.sum t') {s with heap:=h',toks:=tk}):wpAny (model prog w) A (call (.builtin "sum") [.ref l]) Q E s:=by
 obtain⟨xs,e⟩:=hi.allInts.items;have hn:numsOf (intItems xs).toList=ns:=by rw[<-e];exact hi.numsOf
 rw[nums_intItems]at hn;rw[e]at hl;refine PySem.sum_intListG hh hl λ h' tk t' hk=>?_;have:=h h' tk t' hk;rw[preSum_eq,Mx (by simp),hn];exact this
end
section
variable{X:Cx}
def HG(K:PySem.W.Frag):List V->Hp->VK->Prop:=λ vs H Q=>∃(a:Addr) (ns:List Int),vs=[V.ref a]/\SqL K H a (ns.map V.int)/\Q (.int ns.sum) H
theorem Gg(hc:X.calm=true):gh X (.builtin "sum") (HG X.K):=by intro pins s σ H vs us Q I r h;obtain⟨a,ns,rfl,hs,q⟩:=h;obtain⟨its,rv,hl,_⟩:=I.list hs;rw[bn.ref1 r];exact Ez (I.ok.hd hc) hl.isList rv.ints λ h' tk t' hk=>⟨.int _,H,I.kept hk,⟨_,rfl⟩,q⟩
end
theorem CF{prog:Program}{w:World}{A:Around}{E:Value->Shared->Prop}{s:Shared}{l:Addr}{items:Array Value}{Q:Value->Shared->Prop}(hl:s.heap.IsList l items)(h:∀s₂:Shared,s₂={s with heap:=s.heap.push {cls:=.type "list_iterator",data:=.fields #[.ref l,.int 0 0]}}->
   (s₂.heap.IsListIter s.heap.objs.size l 0/\s₂.heap.IsList l items)->l≠s.heap.objs.size->Q (.ref s.heap.objs.size) s₂):wpAny (model prog w) A (pyIter (.ref l)) Q E s:=by
 have hlt:l<s.heap.objs.size:=by obtain⟨_,e,_⟩:=hl;exact Mf e
 exact Ru hl (h _ rfl ⟨⟨_,Md _ rfl,rfl,rfl⟩,hl.push _⟩ (Ng hlt))
theorem wD{prog:Program}{w:World}{A:Around}{bs:List Bool}{its:List Value}(e:its=bs.map Value.bool):
  TruthOf prog w A (λ i v=>its.toArray[i]?=some v) (λ i=>bs.getD i false):=λ i v s Q E hv hq=>by
 have hv':its[i]?=some v:=by simpa using hv
 rw[e,Pk]at hv';obtain⟨b,hb,rfl⟩:=Option.map_eq_some_iff.mp hv';have hg:bs.getD i false=b:=by rw[List.getD_eq_getElem?_getD,hb]<;>rfl
 have hq':Q (bs.getD i false) s:=hq;rw[hg]at hq';exact Oc hq'
theorem AS:∀bs:List Bool,(List.range bs.length).any (λ i=>bs.getD i false)=bs.any id
 |[]=>rfl
 |b::bs=>by
  rw[Lg,List.range_succ_eq_map,Ql,List.any_map,Ql,<-AS bs]
  all_goals rfl
theorem uk:∀bs:List Bool,(List.range bs.length).all (λ i=>bs.getD i false)=bs.all id
 |[]=>rfl
 |b::bs=>by
  rw[Lg,List.range_succ_eq_map,List.all_cons,List.all_map,List.all_cons,<-uk bs]
  all_goals rfl
section
variable{X:Cx}
def CG(K:PySem.W.Frag):List V->Hp->VK->Prop:=λ vs H Q=>∃(a:Addr) (bs:List Bool),vs=[V.ref a]/\SqL K H a (bs.map V.bl)/\Q (.bl (bs.all id)) H
theorem kg(hc:X.calm=true):gh X (.builtin "all") (CG X.K):=by
 intro pins s σ H vs us Q I r h;obtain⟨a,bs,rfl,hs,q⟩:=h;obtain⟨its,rv,hl,_⟩:=I.list hs;rw[bn.ref1 r];have hb:=rv.bls;refine call_all_walk (CF hl.isList λ s₂ e2 st hne=>?_);subst e2;refine⟨_,_,_,_,_,_,_,rfl,Walks.list (A:=X.A.in1) (I.ok.hd hc) _ a hne its.toArray,st,wD hb,λ h' tk hk=>?_⟩;refine⟨.bl _,H,I.kept λ b o eo=>hk b o (λ hmem=>?_) (Lo _ eo),?_,q⟩
 ·rcases Lp.mp hmem with e1 |hmem
  ·exact absurd (e1▸Mf eo) (Oy _)
  ·cases hmem
 ·show Value.bool _=Value.bool _;rw[<-uk,hb,Ly,Ls]
end
mutual
inductive Dp(K:PySem.W.Frag)(H:Hp):V->PyData->Prop
 |non:Dp K H .non .none
 |bl (b:Bool):Dp K H (.bl b) (.bool b)
 |int (i:Int):Dp K H (.int i) (.int i)
 |str (x:Str):Dp K H (.str x) (.str x)
 |lst {a:Addr} {xs:List V} {ds:List PyData}:SqL K H a xs->pG K H xs ds->Dp K H (.ref a) (.list ds)
 |tup {a:Addr} {xs:List V} {ds:List PyData}:ci K H a xs->pG K H xs ds->Dp K H (.ref a) (.tuple ds)
inductive pG(K:PySem.W.Frag)(H:Hp):List V->List PyData->Prop
 |nil:pG K H [] []
 |cons {v:V} {vs:List V} {d:PyData} {ds:List PyData}:Dp K H v d->pG K H vs ds->pG K H (v::vs) (d::ds)
end
section
variable{X:Cx}{pins:List (Addr×Obj)}{σ:St}{H:Hp}{s:Shared}
mutual
theorem Dp.reads(I:aO X pins σ H s):∀(d:PyData) (v:V) (u:Value),Dp X.K H v d->bG v u->∃as,Reads s.heap u d as
 |.none,_,_,h,r=>by cases h;cases r;exact⟨_,Reads.none⟩
 |.bool b,_,_,h,r=>by cases h;cases r;exact⟨_,Reads.bool b⟩
 |.int i,_,_,h,r=>by cases h;obtain⟨t,rfl⟩:=r;exact⟨_,Reads.int i t⟩
 |.str x,_,_,h,r=>by cases h;obtain⟨t,rfl⟩:=r;exact⟨_,Reads.str x t⟩
 |.list ds,_,_,h,r=>by
  cases h with
  |lst hs ha=>cases r;obtain⟨its,rv,⟨o,n,ho,hc,_,hd⟩,_⟩:=I.list hs;obtain⟨as,hr⟩:=Dp.readsAll I ds _ its ha rv;exact⟨_,Reads.list ho hc hd hr⟩
 |.tuple ds,_,_,h,r=>by
  cases h with
  |tup hs ha=>cases r;obtain⟨its,rv,⟨o,ho,hc,n,hd⟩,_⟩:=I.tuple hs;obtain⟨as,hr⟩:=Dp.readsAll I ds _ its ha rv;exact⟨_,Reads.tuple ho hc hd hr⟩
 |.dict _,_,_,h,_=>by cases h
theorem Dp.readsAll(I:aO X pins σ H s):∀(ds:List PyData) (vs:List V) (us:List Value),pG X.K H vs ds->bn vs us->∃as,ReadsAll s.heap us ds as
 |[],_,_,h,r=>by cases h;cases r;exact⟨_,ReadsAll.nil⟩
 |d::ds,_,_,h,r=>by
  cases h with
  |cons h1 h2=>
   cases r with
   |cons r1 r2=>obtain⟨as,q1⟩:=Dp.reads I d _ _ h1 r1;obtain⟨bs,q2⟩:=Dp.readsAll I ds _ _ h2 r2;exact⟨_,ReadsAll.cons q1 q2⟩
end
end
section
variable{X:Cx}
def IK(K:PySem.W.Frag):R2:=λ x y H Q=>∃d e,Dp K H x d/\Dp K H y e/\SeqAt.shaped d=true/\SeqAt.shaped e=true/\Q (.bl (PyData.eqv d e)) H
def IL(K:PySem.W.Frag):R2:=λ x y H Q=>∃d e,Dp K H x d/\Dp K H y e/\SeqAt.shaped d=true/\SeqAt.shaped e=true/\Q (.bl (!PyData.eqv d e)) H
theorem Gh(hu:X.A.units+64<cLine):mN X (compareOp .Eq) (IK X.K):=by intro pins s σ H x y v u Q I rx ry h;obtain⟨d,e,hd,he,sd,se,q⟩:=h;obtain⟨as,r1⟩:=Dp.reads I d x v hd rx;obtain⟨bs,r2⟩:=Dp.reads I e y u he ry;exact SeqAt.compareEq_shaped r1 r2 sd se hu ⟨.bl _,H,I,rfl,q⟩
theorem yC(hu:X.A.units+64<cLine):mN X (compareOp .NotEq) (IL X.K):=by intro pins s σ H x y v u Q I rx ry h;obtain⟨d,e,hd,he,sd,se,q⟩:=h;obtain⟨as,r1⟩:=Dp.reads I d x v hd rx;obtain⟨bs,r2⟩:=Dp.reads I e y u he ry;exact SeqAt.compareNe_shaped r1 r2 sd se hu ⟨.bl _,H,I,rfl,q⟩
end
abbrev CH(h:Heap)(c:Addr)(v:Option Value):Prop:=h.IsCell c v
def IM(scope sc:Scope):Scope:=
 {scope with names:=scope.names.map fun(n,k)=>if(k==.free&&sc.kind==.function&&sc.names.lookup n==some .cell) then(n,.cell) else(n,k)}
def cB(cells:List (Str×Addr)):List (Str×NameKind)->List (Str×Addr)->List (Str×Addr)
 |[],acc=>acc
 |(n,k):: r,acc=>if k==.free then cB cells r ((n,(cells.lookup n).getD 0):: acc) else cB cells r acc
theorem mT(env:Env)(f:Str×NameKind->List (Str×Addr)->Sem (ForInStep (List (Str×Addr))))(hf:∀n k c,f (n,k) c=if k==.free then(do let a <-cellOf env n;pure (.yield ((n,a):: c))) else pure (.yield c)):
  ∀(names:List (Str×NameKind)) (acc:List (Str×Addr)),(∀y∈names,y.2=.free->∃c,env.cells.lookup y.1=some c)->forIn names acc f=pure (cB env.cells names acc)
 |[],acc,_=>by rw[Rq];rfl
 |(n,k):: r,acc,h=>by
  rw[Rh,hf];have ih:=λ acc=>mT env f hf r acc λ y hy=>h y (Mw _ hy);unfold cB;by_cases hk:(k==NameKind.free)=true
  ·rw[Le hk,Le hk];obtain⟨c,hc⟩:=h (n,k) Nn (by simpa using hk);have e:cellOf env n=pure c:=by unfold cellOf;rw[hc]
   rw[e];have e2:(env.cells.lookup n).getD 0=c:=by rw[hc];rfl
   rw[e2];exact ih _
  ·rw[Ld hk,Ld hk];exact ih _
theorem yD{scope:Scope}{env:Env}(h:∀y∈scope.names,y.2=.free->∃c,env.cells.lookup y.1=some c):closureFor scope env=pure (cB env.cells scope.names []):=by simp only[closureFor];rw[mT env _ (λ n k c=>rfl) scope.names [] h];rfl
theorem mr{α:Type}:∀{l:List (Str×α)} {n:Str} {c:α},(n,c)∈l->∃c',l.lookup n=some c'
 |(k,v):: r,n,c,h=>by
  rw[Oz];cases hb:n==k with
  |true=>exact⟨_,rfl⟩
  |false=>
   rcases Lp.mp h with e |h
   ·cases e;simp at hb
   ·exact mr h
theorem ig{cells:List (Str×Addr)}:∀{names:List (Str×NameKind)} {acc:List (Str×Addr)} {n:Str} {c:Addr},(n,c)∈cB cells names acc->(n,c)∈acc\/((n,.free)∈names/\c=(cells.lookup n).getD 0)
 |[],_,_,_,h=>.inl h
 |(m,k):: r,acc,n,c,h=>by
  unfold cB at h;split at h
  ·rename_i hk;have hk:k=.free:=by simpa using hk
   rcases ig h with h |⟨h1,h2⟩
   ·rcases Lp.mp h with e |h
    ·cases e;exact .inr ⟨hk▸Nn,rfl⟩
    ·exact .inl h
   ·exact .inr ⟨Mw _ h1,h2⟩
  ·rcases ig h with h |⟨h1,h2⟩
   ·exact .inl h
   ·exact .inr ⟨Mw _ h1,h2⟩
theorem kh{cells:List (Str×Addr)}:∀{names:List (Str×NameKind)} {acc:List (Str×Addr)} {p:Str×Addr},p∈acc->p∈cB cells names acc
 |[],_,_,h=>h
 |(m,k):: r,acc,p,h=>by
  unfold cB;split
  ·exact kh (Mw _ h)
  ·exact kh h
theorem ki{cells:List (Str×Addr)}:∀{names:List (Str×NameKind)} {acc:List (Str×Addr)} {n:Str},(n,.free)∈names->(n,(cells.lookup n).getD 0)∈cB cells names acc
 |(m,k):: r,acc,n,h=>by
  unfold cB;rcases Lp.mp h with e |h
  ·cases e;exact kh Nn
  ·split
   ·exact ki h
   ·exact ki h
theorem iT:∀{names:List (Str×NameKind)} {h:Heap} {acc:List (Str×Addr)} {x:Str} {c:Addr},(x,c)∈cellsFrom h.objs.size names acc->
  (x,c)∈acc\/((x,.cell)∈names/\h.objs.size<=c/\CH (pushCells h names) c none)
 |[],_,_,_,_,h=>.inl h
 |(n,k):: r,h,acc,x,c,hm=>by
  unfold cellsFrom at hm;unfold pushCells;split at hm
  ·rename_i hk;rw[Le hk];have hk:k=.cell:=by simpa using hk
   rw[<-Np h {cls:=.type "cell",data:=.cell none}]at hm;rcases iT hm with hm |⟨h1,h2,h3⟩
   ·rcases Lp.mp hm with e |hm
    ·cases e;exact .inr ⟨hk▸Nn,Lf _,_,pushCells_keeps r _ _ _ (Md _ rfl),rfl⟩
    ·exact .inl hm
   ·rw[Np]at h2;exact .inr ⟨Mw _ h1,Rv h2,h3⟩
  ·rename_i hk;rw[Ld hk];rcases iT hm with hm |⟨h1,h2,h3⟩
   ·exact .inl hm
   ·exact .inr ⟨Mw _ h1,h2,h3⟩
theorem lm:∀{names:List (Str×NameKind)} {n:Nat} {acc:List (Str×Addr)} {p:Str×Addr},p∈acc->p∈cellsFrom n names acc
 |[],_,_,_,h=>h
 |(m,k):: r,n,acc,p,h=>by
  unfold cellsFrom;split
  ·exact lm (Mw _ h)
  ·exact lm h
theorem oH:∀{names:List (Str×NameKind)} {n:Nat} {acc:List (Str×Addr)} {x:Str},(x,.cell)∈names->∃c,(x,c)∈cellsFrom n names acc
 |(m,k):: r,n,acc,x,h=>by
  unfold cellsFrom;rcases Lp.mp h with e |h
  ·cases e;exact⟨n,lm Nn⟩
  ·split
   ·exact oH h
   ·exact oH h
theorem oI:∀{names:List (Str×NameKind)} {h:Heap} {acc:List (Str×Addr)} {x y:Str} {c:Addr},(∀p∈acc,p.2<h.objs.size)->(∀x y c,(x,c)∈acc->(y,c)∈acc->x=y)->
  (x,c)∈cellsFrom h.objs.size names acc->(y,c)∈cellsFrom h.objs.size names acc->x=y
 |[],_,_,_,_,_,_,hi,h1,h2=>hi _ _ _ h1 h2
 |(n,k):: r,h,acc,x,y,c,hl,hi,h1,h2=>by
  unfold cellsFrom at h1 h2;split at h1
  ·rename_i hk;rw[Le hk]at h2;rw[<-Np h {cls:=.type "cell",data:=.cell none}]at h1 h2;refine oI (h:=h.push _) (λ p hp=>?_) (λ x y c a b=>?_) h1 h2
   ·rw[Np];rcases Lp.mp hp with rfl |hp
    ·exact Nat.lt_succ_self _
    ·exact Rw (hl p hp)
   ·rcases Lp.mp a with e |a<;>rcases Lp.mp b with e' |b
    ·cases e;cases e';rfl
    ·cases e;exact absurd (hl _ b) (Oy _)
    ·cases e';exact absurd (hl _ a) (Oy _)
    ·exact hi _ _ _ a b
  ·rename_i hk;rw[Ld hk]at h2;exact oI hl hi h1 h2
theorem wE{M:Model}{A:Around}{E:Value->Shared->Prop}{s:Shared}{scope:Scope}{globals:Addr}{closure:List (Str×Addr)}{qual:Str}{func:Option Addr}{code:Value}{around:Env}{builtins:Addr}{Q:Env->Shared->Prop}(h:Q (newEnv scope s.heap.objs.size globals (cellsFrom (s.heap.objs.size+1) scope.names closure) qual func code (some around) builtins)
   {s with heap:=pushCells (s.heap.push {cls:=.type "dict",data:=.dict #[]}) scope.names}):
  wpAny M A (newFunctionEnv scope globals closure [] qual func code (some around) builtins) Q E s:=by
 simp only[newFunctionEnv,Option.isSome_some,Re];refine Lb (wpAny_alloc ?_);refine Lb (wpAny_layCells _ (λ n k c=>rfl) scope.names closure _ _ ?_);rw[show({s with heap:=s.heap.push {cls:=.type "dict",data:=.dict #[]}}:Shared).heap.objs.size=s.heap.objs.size+1 from Np ..];rw[Rq];exact Lb (Lm (Lm h))
theorem kj{sc:Scope}:∀{names:List (Str×NameKind)} {x:Str} {k:NameKind},
  (names.map fun(n,k)=>if(k==NameKind.free&&sc.kind==.function&&sc.names.lookup n==some .cell) then(n,NameKind.cell) else(n,k)).lookup x=some k->
  ∃k',names.lookup x=some k'/\(k=k'\/(k'=.free/\k=.cell))
 |[],_,_,h=>by simp at h
 |(n,k₀):: r,x,k,h=>by
  have ih:=@kj sc r x k;have h':List.lookup x ((if(k₀==NameKind.free&&sc.kind==.function&&sc.names.lookup n==some .cell)=true then(n,NameKind.cell) else(n,k₀)):: (r.map _))=some k:=h;cases hx:x==n with
  |true=>
   simp only[Oz,hx];by_cases hc:(k₀==NameKind.free&&sc.kind==.function&&sc.names.lookup n==some .cell)=true
   ·rw[Le hc]at h';simp only[Oz,hx]at h';cases h';simp only[Li,Qa]at hc;exact⟨k₀,rfl,.inr ⟨hc.1.1,rfl⟩⟩
   ·rw[Ld hc]at h';simp only[Oz,hx]at h';cases h';exact⟨_,rfl,.inl rfl⟩
  |false=>
   simp only[Oz,hx];by_cases hc:(k₀==NameKind.free&&sc.kind==.function&&sc.names.lookup n==some .cell)=true
   ·rw[Le hc]at h';simp only[Oz,hx]at h';exact ih h'
   ·rw[Ld hc]at h';simp only[Oz,hx]at h';exact ih h'
structure zX(N:List Str)(sc scope:Scope)(own:List (Str×Nat)):Prop where
 kind:scope.kind=.function
 uniq:∀y∈scope.names,scope.names.lookup y.1=some y.2
 ix:∀p∈own,N[p.2]?=some p.1
 free:∀y∈scope.names,y.2=.free->sc.names.lookup y.1=some .cell\/sc.names.lookup y.1=some .free
 own:∀y∈scope.names,y.2=.local\/y.2=.cell->y.1∈own.map (·.1)\/y.1∉N
def bC(σ:St):List Nat->St
 |[]=>σ
 |v::vs=>(bC σ vs).set v none
theorem kl(σ:St):∀vs:List Nat,(bC σ vs).length=σ.length
 |[]=>rfl
 |v::vs=>by unfold bC;rw[List.length_set,kl σ vs]
theorem oJ{σ:St}{i:Nat}{x:V}:∀{vs:List Nat},(bC σ vs)[i]?=some (some x)->σ[i]?=some (some x)/\i∉vs
 |[],h=>⟨h,by simp⟩
 |v::vs,h=>by
  unfold bC at h;by_cases hi:v=i
  ·subst hi;by_cases hv:v<(bC σ vs).length
   ·rw[Rz hv]at h;cases h
   ·rw[Oj (by simpa using hv)]at h;cases h
  ·rw[List.getElem?_set_ne hi]at h;obtain⟨h1,h2⟩:=oJ h;exact⟨h1,by simp only[Lp,Qu];exact⟨λ e=>hi e.symm,h2⟩⟩
abbrev Cx.blk(X:Cx)(s:Shared)(H:Hp)(scope:Scope)(cenv:Env)(fp:List Addr):Cx:={X with s_0:=s,H_0:=H,env:=cenv,outer:=X.stack,ex:=fp,fn:=λ x=>scope.names.lookup x==some .cell,pn:=[],xe:=λ _ _=>False}
section
variable{X:Cx}{pins:List (Addr×Obj)}{σ:St}{H:Hp}{s:Shared}
theorem wF{scope:Scope}{own:List (Str×Nat)}{fp:List Addr}(I:aO X pins σ H s)(ok:zX X.N X.env.scope scope own)(hN:X.N.Nodup)(hfp:∀b∈fp,rh X pins H b/\b<s.heap.objs.size):
  aO (X.blk s H scope (compEnvC scope (cellsFrom (s.heap.objs.size+1) scope.names (cB X.env.cells scope.names [])) s.heap.objs.size X.env) fp) [] (bC σ (own.map (·.2))) H {s with heap:=pushCells (s.heap.push {cls:=.type "dict",data:=.dict #[]}) scope.names}:=by
 have hfree:∀y∈scope.names,y.2=.free->∃c,X.env.cells.lookup y.1=some c:=λ y hy e=>by
  rcases ok.free y hy e with k |k
  ·exact I.ok.has _ (.inl k)
  ·exact I.ok.has _ (.inr k)
 generalize hcenv:compEnvC scope (cellsFrom (s.heap.objs.size+1) scope.names (cB X.env.cells scope.names [])) s.heap.objs.size X.env=cenv;have kp:∀b o,s.heap.get? b=some o->(pushCells (s.heap.push {cls:=.type "dict",data:=.dict #[]}) scope.names).get? b=some o:=λ b o e=>pushCells_keeps _ _ _ _ (Lo _ e);have hL:cenv.locals=s.heap.objs.size:=by rw[<-hcenv];rfl
 have hcl:cenv.cells=cellsFrom (s.heap.objs.size+1) scope.names (cB X.env.cells scope.names []):=by rw[<-hcenv];rfl
 have hsc:cenv.scope=IM scope X.env.scope:=by rw[<-hcenv];rfl
 rw[<-Np s.heap {cls:=.type "dict",data:=.dict #[]}]at hcl;have cm:∀{y c},(y,c)∈cB X.env.cells scope.names []->X.env.cells.lookup y=some c/\c<s.heap.objs.size:=fun{y c} hm=>by
  rcases ig hm with hm |⟨h1,rfl⟩
  ·cases hm
  ·obtain⟨c,hc⟩:=hfree _ h1 rfl;rw[hc];obtain⟨w,z⟩:=I.cell _ _ hc;exact⟨rfl,z.lt⟩
 have mem:∀{y c},cenv.cells.lookup y=some c->(X.env.cells.lookup y=some c/\c<s.heap.objs.size)\/(s.heap.objs.size+1<=c/\CH (pushCells (s.heap.push {cls:=.type "dict",data:=.dict #[]}) scope.names) c none):=fun{y c} e=>by
  rw[hcl]at e;rcases iT (Nf e) with hm |⟨_,h2,h3⟩
  ·exact .inl (cm hm)
  ·rw[Np]at h2;exact .inr ⟨h2,h3⟩
 have look:∀{y},scope.names.lookup y=some .free->∃c,cenv.cells.lookup y=some c/\X.env.cells.lookup y=some c:=fun{y} hl=>by
  have hy:(y,NameKind.free)∈scope.names:=Nf hl;obtain⟨c',e'⟩:=mr (lm (names:=scope.names) (n:=(s.heap.push {cls:=.type "dict",data:=.dict #[]}).objs.size) (ki (cells:=X.env.cells) (acc:=[]) hy));rw[<-hcl]at e';refine⟨c',e',?_⟩;rw[hcl]at e';rcases iT (Nf e') with hm |⟨h1,_,_⟩
  ·exact(cm hm).1
  ·have:=ok.uniq _ h1;rw[hl]at this;cases this
 have okB:(X.blk s H scope cenv fp).Ok:=by
  refine⟨I.ok.mod,by show cenv.scope.kind=_;rw[hsc];exact ok.kind,by show cenv.globals=_;rw[<-hcenv];exact I.ok.glob,by show cenv.builtins=_;rw[<-hcenv];exact I.ok.blt,by show s.heap.objs.size<=cenv.locals;rw[hL];exact Lf _,
   λ y z c e1 e2=>?_,λ y hy=>?_,λ y c z e=>?_,I.ok.hd,I.ok.frames,.inl rfl,λ b hb=>⟨?_,λ y c e z=>?_⟩,I.bs,Ln I.ok.bsz I.sz,λ b o e hb=>?_,λ b hb z=>?_,I.stack,I.stkFree⟩
  ·have e1:cenv.cells.lookup y=some c:=e1;have e2:cenv.cells.lookup z=some c:=e2;rw[hcl]at e1 e2;refine oI (λ p hp=>?_) (λ y z c a b=>I.ok.inj y z c (cm a).1 (cm b).1) (Nf e1) (Nf e2);rw[Np];exact Rw (cm (y:=p.1) (c:=p.2) hp).2
  ·show ∃c,cenv.cells.lookup y=some c;have key:∀k,cenv.kindOf y=some k->(k=.cell\/k=.free)->∃c,cenv.cells.lookup y=some c:=λ k hk hk'=>by
    unfold Env.kindOf at hk;rw[hsc]at hk;obtain⟨k',e,r⟩:=kj hk;have:k'=.cell\/k'=.free:=by
     rcases r with rfl |⟨rfl,_⟩
     ·exact hk'
     ·exact .inr rfl
    rcases this with rfl |rfl
    ·obtain⟨c,hm⟩:=oH (n:=(s.heap.push {cls:=.type "dict",data:=.dict #[]}).objs.size) (acc:=cB X.env.cells scope.names []) (Nf e);obtain⟨c',e'⟩:=mr hm;exact⟨c',by rw[hcl];exact e'⟩
    ·obtain⟨c,h1,_⟩:=look e;exact⟨c,h1⟩
   rcases hy with hy |hy
   ·exact key _ hy (.inl rfl)
   ·exact key _ hy (.inr rfl)
  ·have z:(scope.names.lookup y==some NameKind.cell)=true:=z;have z:scope.names.lookup y=some .cell:=by simpa using z
   have e:cenv.cells.lookup y=some c:=e;rw[hcl]at e;rcases iT (Nf e) with hm |⟨_,h2,_⟩
   ·rcases ig hm with hm |⟨h1,_⟩
    ·cases hm
    ·have q:=ok.uniq _ h1;rw[z]at q;cases q
   ·rw[Np]at h2;exact Rv h2
  ·show b≠cenv.locals;rw[hL];exact Ng (hfp b hb).2
  ·have e:cenv.cells.lookup y=some c:=e;rcases mem e with⟨h1,_⟩ |⟨h1,_⟩
   ·exact(hfp b hb).1.2.2.2.2.1 y c h1 z
   ·have h2:s.heap.objs.size+1<=b:=by rw[<-z];exact h1
    exact absurd (Nb (hfp b hb).2 (Rv h2)) (Oy _)
  ·rcases(hfp b hb).1.2.2.2.1 with z |z
   ·exact I.ok.noex b o e z
   ·exact absurd (Nb (Mf e) (Ln I.ok.bsz z)) (Oy _)
  ·rcases Lp.mp (I.stkSub b z) with z |z
   ·exact(hfp b hb).1.2.1 z
   ·exact(hfp b hb).1.2.2.1 z
 refine⟨okB,rfl,I.bare,Un.kept kp,⟨λ _=>none,?_,λ i y av e1 e2 e3=>?_⟩,λ y c e=>?_,?_,λ y c e=>?_,λ p hp=>?_,I.hok.kept kp,by rw[kl];exact I.len⟩
 ·show Heap.Ns _ cenv.locals _;rw[hL];exact Heap.Ns.keeps (Heap.Ns.new ..) λ b o e=>pushCells_keeps _ _ _ _ e
 ·obtain⟨e2,hne⟩:=oJ e2;have hfr:scope.names.lookup y=some .free/\(cenv.kindOf y=some .cell\/cenv.kindOf y=some .free):=by
   have key:∀k,cenv.scope.names.lookup y=some k->k=.local\/k=.cell\/k=.free->scope.names.lookup y=some .free/\(cenv.kindOf y=some .cell\/cenv.kindOf y=some .free):=λ k hk hk'=>by
    have hk0:=hk;rw[hsc]at hk;obtain⟨k',e,r⟩:=kj hk;have no:¬(k'=.local\/k'=.cell):=λ hh=>by
     rcases ok.own _ (Nf e) hh with e' |e'
     ·obtain⟨p,hp,hpy⟩:=Nw.mp e';have e3:=ok.ix p hp;have:p.1=y:=hpy;rw[this]at e3;exact hne (Nw.mpr ⟨p,hp,qZ hN e3 e1⟩)
     ·exact e' (Nm e1)
    rcases r with rfl |⟨rfl,rfl⟩
    ·rcases hk' with rfl |rfl |rfl
     ·exact absurd (.inl rfl) no
     ·exact absurd (.inr rfl) no
     ·exact⟨e,.inr hk0⟩
    ·exact⟨e,.inl hk0⟩
   have e3:Hj cenv.scope y:=e3;rcases e3 with e3 |e3 |e3
   ·exact key _ e3 (.inl rfl)
   ·exact key _ e3 (.inr (.inl rfl))
   ·exact key _ e3 (.inr (.inr rfl))
  obtain⟨m,hn,hl⟩:=I.loc;have hvis:Hj X.env.scope y:=(ok.free _ (Nf hfr.1) rfl).elim (λ k=>.inr (.inl k)) (λ k=>.inr (.inr k));obtain⟨w,r,q⟩:=hl i y av e1 e2 hvis;refine⟨w,r,.inr ⟨hfr.2,?_⟩⟩;obtain⟨c,h1,h2⟩:=look hfr.1;rcases q with⟨k,_⟩ |⟨_,c',e',z⟩
  ·have k:X.env.scope.names.lookup y=some .local:=k;rcases ok.free _ (Nf hfr.1) rfl with k' |k'<;>rw[show X.env.scope.names.lookup y=_ from k']at k<;>cases k
  ·rw[h2]at e';cases e';exact⟨c,h1,z.keeps kp⟩
 ·have e:cenv.cells.lookup y=some c:=e;rcases mem e with⟨h1,_⟩ |⟨_,z⟩
  ·obtain⟨w,z⟩:=I.cell y c h1;exact⟨w,z.keeps kp⟩
  ·exact⟨_,z⟩
 ·show H cenv.locals=none;rw[hL];exact I.hok.fresh (Lf _)
 ·have e:cenv.cells.lookup y=some c:=e;rcases mem e with⟨h1,_⟩ |⟨h1,_⟩
  ·exact I.freeC y c h1
  ·exact I.hok.fresh (Rv h1)
 ·exact absurd (show p∈([]:List (Addr×Obj))++[] from hp) (by simp)
theorem Gi{E:Value->Shared->Prop}{D:Addr}{xs:List V}{y:V}{v:Value}{Q:Value->Shared->Prop}(I:aO X pins σ H s)(hD:H D=some (.lst xs))(hz:xs.length<sizeLine)(r:bG y v)(h:∀s',aO X pins σ (upd H D (.lst (xs++[y]))) s'->Q .none s'):wpAny (model X.prog X.w) X.A (call (.builtin "list.append") [.ref D,v]) Q E s:=by obtain⟨hz',its,n,ri,e⟩:=I.hok D _ hD;have hl:=ri.length;refine append_at (hsz:=by rw[Ly];omega) e λ h' sb ho'=>?_;refine h {s with heap:=h'} (I.write (t':=s.toks) (by rw[hD];trivial) (.inl rfl) (λ b u hb q=>(sb.2 b hb).trans q) ⟨_,ho'⟩ ⟨by rw[La];exact hz,its++[v],n+1,ri.append (.cons r .nil),?_⟩);rw[ho'];simp
def Ij(X:Cx)(ifs:List Expr)(t:TT):Prop:=
 ∀(pins:List (Addr×Obj)) (s:Shared) (σ:St) (H:Hp) (Q:Bool->Hp->Prop),aO X pins σ H s->t σ H Q->
  wpAny (model X.prog X.w) X.A (forIn ifs true λ c r=>if r=true then do let ok <-isTrue c X.env (eval c X.env);pure (ForInStep.yield ok) else pure (ForInStep.yield r)) (TP X pins σ Q) X.xe s
def AU:TT:=λ _ H Q=>Q true H
theorem cS:Ij X [] AU:=λ _ _ _ H _ I h=>wpAny_tests_nil ⟨H,I,h⟩
theorem jm{c:Expr}{t:TT}(h:PT X c t):Ij X [c] t:=λ pins s σ H Q I hw=>wpAny_tests_one (h pins s σ H Q I hw)
end
theorem AV{α:Type}{t:Sem α}{Q Q':α->Shared->Prop}{M:Model}{A:Around}{E:Value->Shared->Prop}{s:Shared}(h:wpAny M A t Q (λ _ _=>False) s)(hQ:∀a s,Q a s->Q' a s):wpAny M A t Q' E s:=Ob h hQ λ _ _ z=>False.elim z
theorem vk{prog:Program}{w:World}{A:Around}{R:Result->Shared->Prop}{s:Shared}{elt fj iter:Expr}{ifs:List Expr}{scope:Scope}{pos:Pos}{it acc:Value}{env:Env}(I:Nat->Shared->Prop)(turn:∀n s,I n s->wpAny (model prog w) A (pyNext it) (λ r s₁=>match r with
   |none=>R (.ok .next) s₁
   |some v=>wpAny (model prog w) A (letOwnedTupleGo fj it v) (λ _ s₁'=>wpAny (model prog w) A (assign fj env v) (λ _ s₂=>
     wpAny (model prog w) A (forIn ifs true λ c r=>if r=true then do let ok <-isTrue c env (eval c env);pure (ForInStep.yield ok) else pure (ForInStep.yield r)) (λ ok s₃=>
      if ok=true then wpAny (model prog w) A (eval elt env) (λ x s₄=>
       wpAny (model prog w) A (call (.builtin "list.append") [acc,x]) (λ _ s₅=>∃m,m<n/\I m s₅) (notedBy (model prog w) A env λ e s'=>R (.error e) s') s₄) (notedBy (model prog w) A env λ e s'=>R (.error e) s') s₃
      else ∃m,m<n/\I m s₃) (notedBy (model prog w) A env λ e s'=>R (.error e) s') s₂) (notedBy (model prog w) A env λ e s'=>R (.error e) s') s₁') (notedBy (model prog w) A env λ e s'=>R (.error e) s') s₁) (notedBy (model prog w) A env λ e s'=>R (.error e) s') s)(n:Nat)(h:I n s):
  codeAny (model prog w) A (.compLoop (.ListComp elt [⟨fj,iter,ifs,0⟩] scope pos) 0 it acc env) R s:=by
 refine codeAny_loop rfl I (λ n s hI=>?_) n h;show wpAny _ A ((compTurn (.ListComp elt [⟨fj,iter,ifs,0⟩] scope pos) 0 it acc env).onRaise (λ x=>do noteFrame x env;theTreesLotGoes x)) _ _ s;refine wpAny_noted ?_;rw[compTurn_list];refine Lb (wpAny_standAt (Lb (Ob (turn n s hI) (λ r s₁ h₁=>?_) λ _ _ h'=>h')));cases r with
 |none=>exact Lm h₁
 |some v=>
  refine Lb (Ob h₁ (λ _ s₁' h₁'=>?_) λ _ _ h'=>h');refine Lb (Ob h₁' (λ _ s₂ h₂=>Lb (Ob h₂ (λ ok s₃ h₃=>?_) λ _ _ h'=>h')) λ _ _ h'=>h');cases ok with
  |false=>exact Lm ⟨rfl,h₃⟩
  |true=>exact Lb (Lb (Ob h₃ (λ x s₄ h₄=>Lb (Ob h₄ (λ _ s₅ h₅=>Lm (Lm ⟨rfl,h₅⟩)) λ _ _ h'=>h')) λ _ _ h'=>h'))
section
variable{X:Cx}
def Jd(wi:TI)(g:TG)(tt:TT)(te:TE)(vs:List Nat):TE:=λ σ H Q=>wi σ H λ J H1=>∀D,H1 D=none->∃W:Nat->Nat->Hp->Prop,(∃m,W 0 m (upd H1 D (.lst [])))/\∀i m H,W i m H->
 (J.stop i H/\Q (.ref D) H)\/(J.go i H/\∃Nx:Hp->Prop,(∀H',Nx H'->∃m',m'<m/\W (i+1) m' H')/\∀x H',J.yld i H x H'->g x (bC σ vs) H' λ σ2 H2=>bC σ2 vs=bC σ vs/\tt σ2 H2 λ b H3=>
  if b=true then te σ2 H3 λ y H4=>∃acc,H4 D=some (.lst acc)/\acc.length<sizeLine/\Nx (upd H4 D (.lst (acc++[y]))) else Nx H3)
theorem EA{pins:List (Addr×Obj)}{s:Shared}{σ:St}{H:Hp}{Q:VK}{elt tg iter:Expr}{ifs:List Expr}{scope:Scope}{own:List (Str×Nat)}{pos pos':Pos}{wi:TI}{g:TG}{tt:TT}{te:TE}{use:Option (Value->Sem Unit)}{Qf:Value->Shared->Prop}(hc:X.calm=true)(hN:X.N.Nodup)(I:aO X pins σ H s)(hi:PI X tg iter wi)(ok:zX X.N X.env.scope scope own)(hg:∀(s:Shared) (H:Hp) (C:Addr) (cl:List (Str×Addr)) (fp:List Addr),PG (X.blk s H scope (compEnvC scope cl C X.env) fp) tg g)(ht:∀(s:Shared) (H:Hp) (C:Addr) (cl:List (Str×Addr)) (fp:List Addr),Ij (X.blk s H scope (compEnvC scope cl C X.env) fp) ifs tt)(he:∀(s:Shared) (H:Hp) (C:Addr) (cl:List (Str×Addr)) (fp:List Addr),PE (X.blk s H scope (compEnvC scope cl C X.env) fp) elt te)(hs:∀x,foldedSetIterable iter X.env x=pure x)(h:Jd wi g tt te (own.map (·.2)) σ H Q)(hRR:∀D C s' m H',aO X pins σ H' s'->Q (.ref D) H'->s'.heap.Ns C m->rh X pins H' C->compPost (model X.prog X.w) X.A X.xe use Qf (.ref D) C (.ok .next) s'):
  wpAny (model X.prog X.w) X.A (comprehension (.ListComp elt [⟨tg,iter,ifs,0⟩] scope pos) scope X.env pos' (newList []) false (eval iter X.env) use) Qf X.xe s:=by
 have hfree:∀y∈scope.names,y.2=.free->∃c,X.env.cells.lookup y.1=some c:=λ y hy e=>by
  rcases ok.free y hy e with k |k
  ·exact I.ok.has _ (.inl k)
  ·exact I.ok.has _ (.inr k)
 refine wpAny_comprehension_free (use:=use) rfl hs (yD hfree) ok.kind (λ y hy e=>by rw[ok.uniq y hy,e])
  (cR (hi pins s σ H _ I h) λ xv s1 hx=>cR hx λ itv s2 h2=>?_)
 obtain⟨it,fp,tn,J,H2,e,I2,T,st2,f2,q⟩:=h2;subst e;refine Od (wE ?_) (by show 0<=sizeLine;decide);generalize hD:s2.heap.objs.size=D;have hDn:H2 D=none:=I2.hok.fresh (Nat.le_of_eq hD);obtain⟨W,⟨m0,w0⟩,turn⟩:=q D hDn;generalize hs3:({s2 with heap:=s2.heap.push {cls:=.type "list",data:=.seq ([]:List Value).toArray}}:Shared)=s3;have I3:aO X pins σ (upd H2 D (.lst [])) s3:=by rw[<-hs3];refine I2.laid (t':=s2.toks) (λ b o e=>Lo _ e) (Nat.le_of_eq hD) ⟨Lj _,[],0,.nil,?_⟩;rw[<-hD];exact Md _ rfl
 have h3:s3.heap=s2.heap.push {cls:=.type "list",data:=.seq ([]:List Value).toArray}:=by rw[<-hs3]
 have sz:∀b∈fp,b<s2.heap.objs.size:=λ b hb=>by obtain⟨o,e,_⟩:=T.obj _ _ st2 b hb;exact Mf e
 have f3:∀b∈fp,rh X pins (upd H2 D (.lst [])) b/\b<s3.heap.objs.size:=λ b hb=>by have hlt:=sz b hb;refine⟨⟨?_,(f2 b hb).2⟩,by rw[h3,Np];exact Rw hlt⟩;rw[am (by rw[<-hD];exact Ng hlt)];exact(f2 b hb).1
 have st3:tn 0 s3.heap:=T.keep _ _ _ st2 λ b _ o e=>by rw[h3];exact Lo _ e
 have I4:=wF I3 ok hN f3;have pg:=hg s3 (upd H2 D (.lst [])) s3.heap.objs.size (cellsFrom (s3.heap.objs.size+1) scope.names (cB X.env.cells scope.names [])) fp;have pt:=ht s3 (upd H2 D (.lst [])) s3.heap.objs.size (cellsFrom (s3.heap.objs.size+1) scope.names (cB X.env.cells scope.names [])) fp;have pe:=he s3 (upd H2 D (.lst [])) s3.heap.objs.size (cellsFrom (s3.heap.objs.size+1) scope.names (cB X.env.cells scope.names [])) fp;show codeAny _ _ (.compStart (.ListComp elt [⟨tg,iter,ifs,0⟩] scope pos) 0 (.ref it) (.ref D) (compEnvC scope (cellsFrom (s3.heap.objs.size+1) scope.names (cB X.env.cells scope.names [])) s3.heap.objs.size X.env)) (compPost (model X.prog X.w) X.A X.xe use Qf (.ref D) s3.heap.objs.size) {s3 with heap:=pushCells (s3.heap.push {cls:=.type "dict",data:=.dict #[]}) scope.names};have nfp:∀b∈fp,(upd H2 D (.lst [])) b=none:=λ b hb=>(f3 b hb).1.1;generalize hce:compEnvC scope (cellsFrom (s3.heap.objs.size+1) scope.names (cB X.env.cells scope.names [])) s3.heap.objs.size X.env=ce at I4 pg pt pe ⊢;have cL:ce.locals=s3.heap.objs.size:=by subst hce;rfl
 generalize hH3:upd H2 D (.lst [])=H3 at I3 I4 pg pt pe w0 nfp f3;generalize hs4:({s3 with heap:=pushCells (s3.heap.push {cls:=.type "dict",data:=.dict #[]}) scope.names}:Shared)=s4 at I4 ⊢;have st4:tn 0 s4.heap:=T.keep _ _ _ st3 λ b _ o e=>by rw[<-hs4];exact pushCells_keeps _ _ _ _ (Lo _ e)
 have stat:∀{σ':St} {H':Hp} {s':Shared},aO (X.blk s3 H3 scope ce fp) [] σ' H' s'->(∀b∈fp,H' b=none)->∀b∈fp,rh (X.blk s3 H3 scope ce fp) [] H' b:=fun{σ' H' s'} I' hn b hb=>
  ⟨hn b hb,(I'.ok.exf b hb).1,I'.ok.exfs b hb,.inl hb,λ x c e=>(I'.ok.exf b hb).2 x c e,λ p hp=>absurd (show p∈([]:List (Addr×Obj))++[] from hp) (by simp)⟩
 have loop:codeAny (model X.prog X.w) X.A (.compLoop (.ListComp elt [⟨tg,iter,ifs,0⟩] scope pos) 0 (.ref it) (.ref D) ce) (compPost (model X.prog X.w) X.A X.xe use Qf (.ref D) s3.heap.objs.size) s4:=by
  refine vk (λ n s'=>∃i H',aO (X.blk s3 H3 scope ce fp) [] (bC σ (own.map (·.2))) H' s'/\tn i s'.heap/\(∀b∈fp,H' b=none)/\W i n H') ?_ m0 ⟨0,H3,I4,st4,nfp,w0⟩;rintro n s5 ⟨i,H5,I5,st5,n5,w5⟩;rcases turn i n H5 w5 with⟨stop,qq⟩ |⟨go,Nx,hNx,step⟩
  ·have td:=T.done (X.blk s3 H3 scope ce fp) rfl rfl rfl hc i [] s5 _ H5 (λ _ _=>False) I5 (stat I5 n5) st5 stop;refine AV td λ r s6 ⟨hr,I6⟩=>?_;subst hr;have I7:aO X pins σ H5 s6:=I3.call' (ch:=fp) I6.os I6.base I6.hok I6.bare λ b hb=>⟨(f3 b hb).1.2.2.2.1,(f3 b hb).1.2.1,(f3 b hb).1.2.2.2.2.1,(f3 b hb).1.2.2.2.2.2⟩;have nC:H5 s3.heap.objs.size=none:=by
    have z:H5 ce.locals=none:=I6.free;rw[cL]at z;exact z
   obtain⟨m,hn,_⟩:=I6.loc;have hn:s6.heap.Ns ce.locals m:=hn;rw[cL]at hn;exact hRR D s3.heap.objs.size s6 m H5 I7 qq hn (I3.fpOk (Lf _) nC)
  ·have ti:=T.item (X.blk s3 H3 scope ce fp) rfl rfl rfl hc i [] s5 _ H5 (λ _ _=>False) I5 (stat I5 n5) st5 go;refine AV ti λ r s6 ⟨u,hr,h6⟩=>?_;subst hr;refine AV h6 λ _ s7 ⟨x,H7,I7,r7,y7,st7,n7⟩=>?_;have I7':=I7.pinned (stat I7 n7) (T.obj _ _ st7);refine AV (pg _ s7 _ H7 x u _ I7' r7 (step x H7 y7)) λ _ s8 ⟨σ8,H8,I8,hw8,q8⟩=>?_;refine AV (pt _ s8 σ8 H8 _ I8 q8) λ b s9 ⟨H9,I9,q9⟩=>?_;have eW:∀{s':Shared} {H':Hp},aO (X.blk s3 H3 scope ce fp) ([]++rm fp s7.heap) σ8 H' s'->Nx H'->∃m,m<n/\∃i H',aO (X.blk s3 H3 scope ce fp) [] (bC σ (own.map (·.2))) H' s'/\tn i s'.heap/\(∀b∈fp,H' b=none)/\W i m H':=fun{s' H'} I' nx=>by
    obtain⟨m',hm,w'⟩:=hNx H' nx;have pin':∀b∈fp,∀o,s7.heap.get? b=some o->s'.heap.get? b=some o/\H' b=none:=λ b hb o e=>
     let z:=I'.pin (b,o) (Nc _ (Nc _ (mj hb e)))
     ⟨z.1,z.2.1⟩
    have hl:(bC σ (own.map (·.2))).length=σ8.length:=by rw[<-hw8,kl]
    refine⟨m',hm,i+1,H',(I'.unpinned (pins:=[])).weak hl (λ j v e=>?_),T.keep _ _ _ st7 λ b hb o e=>(pin' b hb o e).1,λ b hb=>?_,w'⟩
    ·rw[<-hw8]at e;exact(oJ e).1
    ·obtain⟨o,e,_⟩:=T.obj _ _ st7 b hb;exact(pin' b hb o e).2
   cases b with
   |false=>simp only[No,On]at q9 ⊢;exact eW I9 q9
   |true=>simp only[Re]at q9 ⊢;refine AV (pe _ s9 σ8 H9 _ I9 q9) λ z s10 ⟨yv,H10,I10,r10,acc,hD10,hz10,nx⟩=>?_;exact Gi (X:=X.blk s3 H3 scope ce fp) I10 hD10 hz10 r10 λ s11 I11=>eW I11 nx
 exact codeAny_compStart_list loop (T.self X.A 0 _ _ _ st4 loop)
theorem dL{elt tg iter:Expr}{ifs:List Expr}{scope:Scope}{own:List (Str×Nat)}{pos:Pos}{wi:TI}{g:TG}{tt:TT}{te:TE}(hc:X.calm=true)(hN:X.N.Nodup)(hi:PI X tg iter wi)(ok:zX X.N X.env.scope scope own)(hg:∀(s:Shared) (H:Hp) (C:Addr) (cl:List (Str×Addr)) (fp:List Addr),PG (X.blk s H scope (compEnvC scope cl C X.env) fp) tg g)(ht:∀(s:Shared) (H:Hp) (C:Addr) (cl:List (Str×Addr)) (fp:List Addr),Ij (X.blk s H scope (compEnvC scope cl C X.env) fp) ifs tt)(he:∀(s:Shared) (H:Hp) (C:Addr) (cl:List (Str×Addr)) (fp:List Addr),PE (X.blk s H scope (compEnvC scope cl C X.env) fp) elt te)(hs:∀x,foldedSetIterable iter X.env x=pure x:=by intro _;rfl):
  PE X (.ListComp elt [⟨tg,iter,ifs,0⟩] scope pos) (Jd wi g tt te (own.map (·.2))):=by
 intro pins s σ H Q I h;rw[eval_ListComp];refine EA hc hN I hi ok hg ht he hs h λ D C s' m H' I' q hn f=>⟨m,hn,λ h'' sb=>?_⟩;obtain⟨f0,f1,f2,f3,f4,f5⟩:=f;exact⟨.ref D,H',I'.turned (t':=s'.toks) (λ b o hb e=>(sb.2 b hb).trans e) f0 f1 f3 f4 f5,rfl,q⟩
end
theorem zY{K:PySem.W.Frag}{a:Addr}{xs:List V}{g:TG}{tt:TT}{te:TE}{vs:List Nat}{σ:St}{H1:Hp}{D:Addr}{Qd:Hp->Prop}(Pv:Nat->Hp->Prop)(h0:Pv 0 (upd H1 D (.lst [])))(hl:∀i H,i<=xs.length->Pv i H->SqL K H a xs)(hs:∀i x H,xs[i]?=some x->Pv i H->g x (bC σ vs) H λ σ2 H2=>bC σ2 vs=bC σ vs/\tt σ2 H2 λ b H3=>
   if b=true then te σ2 H3 λ y H4=>∃acc,H4 D=some (.lst acc)/\acc.length<sizeLine/\Pv (i+1) (upd H4 D (.lst (acc++[y]))) else Pv (i+1) H3)(hd:∀H,Pv xs.length H->Qd H):
  ∃W:Nat->Nat->Hp->Prop,(∃m,W 0 m (upd H1 D (.lst [])))/\∀i m H,W i m H->
   ((rj K a).stop i H/\Qd H)\/((rj K a).go i H/\∃Nx:Hp->Prop,(∀H',Nx H'->∃m',m'<m/\W (i+1) m' H')/\∀x H',(rj K a).yld i H x H'->g x (bC σ vs) H' λ σ2 H2=>bC σ2 vs=bC σ vs/\tt σ2 H2 λ b H3=>
    if b=true then te σ2 H3 λ y H4=>∃acc,H4 D=some (.lst acc)/\acc.length<sizeLine/\Nx (upd H4 D (.lst (acc++[y]))) else Nx H3):=by
 refine⟨λ i m H=>m=xs.length - i/\i<=xs.length/\Pv i H,⟨xs.length,by simp,Lj _,h0⟩,?_⟩;rintro i m H ⟨rfl,hi,p⟩;have q:=hl i H hi p;by_cases hlt:i<xs.length
 ·refine .inr ⟨⟨xs,xs[i],q,by simp[hlt]⟩,Pv (i+1),λ H' p'=>⟨xs.length - (i+1),by omega,rfl,hlt,p'⟩,λ x H' y=>?_⟩;obtain⟨e,y⟩:=y;subst e;exact hs i x _ (y xs q) p
 ·have e:i=xs.length:=by omega
  subst e;exact .inl ⟨⟨xs,q,Lf _⟩,hd H p⟩
theorem Gj{K:PySem.W.Frag}{a:Addr}{xs:List V}{g:TG}{tt:TT}{te:TE}{vs:List Nat}{σ:St}{H1:Hp}{D:Addr}{Qd:Hp->Prop}(Pv:Nat->Hp->Prop)(h0:Pv 0 (upd H1 D (.lst [])))(hl:∀i H,i<=xs.length->Pv i H->ci K H a xs)(hs:∀i x H,xs[i]?=some x->Pv i H->g x (bC σ vs) H λ σ2 H2=>bC σ2 vs=bC σ vs/\tt σ2 H2 λ b H3=>
   if b=true then te σ2 H3 λ y H4=>∃acc,H4 D=some (.lst acc)/\acc.length<sizeLine/\Pv (i+1) (upd H4 D (.lst (acc++[y]))) else Pv (i+1) H3)(hd:∀H,Pv xs.length H->Qd H):
  ∃W:Nat->Nat->Hp->Prop,(∃m,W 0 m (upd H1 D (.lst [])))/\∀i m H,W i m H->
   ((wr K a).stop i H/\Qd H)\/((wr K a).go i H/\∃Nx:Hp->Prop,(∀H',Nx H'->∃m',m'<m/\W (i+1) m' H')/\∀x H',(wr K a).yld i H x H'->g x (bC σ vs) H' λ σ2 H2=>bC σ2 vs=bC σ vs/\tt σ2 H2 λ b H3=>
    if b=true then te σ2 H3 λ y H4=>∃acc,H4 D=some (.lst acc)/\acc.length<sizeLine/\Nx (upd H4 D (.lst (acc++[y]))) else Nx H3):=by
 refine⟨λ i m H=>m=xs.length - i/\i<=xs.length/\Pv i H,⟨xs.length,by simp,Lj _,h0⟩,?_⟩;rintro i m H ⟨rfl,hi,p⟩;have q:=hl i H hi p;by_cases hlt:i<xs.length
 ·refine .inr ⟨⟨xs,xs[i],q,by simp[hlt]⟩,Pv (i+1),λ H' p'=>⟨xs.length - (i+1),by omega,rfl,hlt,p'⟩,λ x H' y=>?_⟩;obtain⟨e,y⟩:=y;subst e;exact hs i x _ (y xs q) p
 ·have e:i=xs.length:=by omega
  subst e;exact .inl ⟨⟨xs,q,Lf _⟩,hd H p⟩
def HH(N:List Str)(sc scope:Scope)(own:List (Str×Nat)):Bool:=
 (match scope.kind with |.function=>true |_=>false)&&(scope.names.all λ y=>decide (scope.names.lookup y.1=some y.2))&&(own.all λ p=>decide (N[p.2]?=some p.1)) &&
  (scope.names.all λ y=>match y.2 with
   |.free=>(match sc.names.lookup y.1 with |some .cell=>true |some .free=>true |_=>false)
   |.local=>decide (y.1∈own.map (·.1))||decide (y.1∉N)
   |.cell=>decide (y.1∈own.map (·.1))||decide (y.1∉N)
   |_=>true)
theorem bp{N:List Str}{sc scope:Scope}{own:List (Str×Nat)}(h:HH N sc scope own=true):zX N sc scope own:=by
 unfold HH at h;simp only[Li,Nk,Nv]at h;obtain⟨⟨⟨h1,h2⟩,h3⟩,h4⟩:=h;refine⟨?_,h2,h3,λ y hy e=>?_,λ y hy e=>?_⟩
 ·split at h1
  ·assumption
  ·cases h1
 ·have q:=h4 y hy;simp only[e]at q;split at q<;>first |exact .inl (by assumption) |exact .inr (by assumption) |cases q
 ·have q:=h4 y hy;rcases e with e |e<;>(simp only[e,Bool.or_eq_true,Nv]at q;exact q)
section
variable{κ:Type}[DecidableEq κ]
def gH(kvs:List (κ×V))(k:κ):Option V:=(kvs.find? λ kv=>decide (kv.1=k)).map (·.2)
def fR(kvs:List (κ×V))(k:κ)(v:V):List (κ×V):=
 if(kvs.any λ kv=>decide (kv.1=k))=true then kvs.map (λ kv=>if kv.1=k then(kv.1,v) else kv) else kvs++[(k,v)]
theorem dQ{p:κ×V}{r:List (κ×V)}{k:κ}(e:p.1=k):gH (p::r) k=some p.2:=by simp[gH,Pu,e]
theorem dS{p:κ×V}{r:List (κ×V)}{k:κ}(e:¬p.1=k):gH (p::r) k=gH r k:=by simp[gH,Pu,e]
theorem mU(k:κ):∀kvs:List (κ×V),(kvs.any λ kv=>decide (kv.1=k))=(gH kvs k).isSome
 |[]=>rfl
 |p::r=>by
  rw[Ql];by_cases e:p.1=k
  ·simp only[dQ e,Ll e,Bool.true_or,Option.isSome_some]
  ·rw[dS e,Mn e,Bool.false_or];exact mU k r
theorem wG(k j:κ)(y:V):∀kvs:List (κ×V),gH (kvs.map λ kv=>if kv.1=k then(kv.1,y) else kv) j=(gH kvs j).map λ x=>if j=k then y else x
 |[]=>rfl
 |p::r=>by
  have ih:=wG k j y r;rw[Mp];by_cases h:p.1=k
  ·rw[Le h];by_cases e:p.1=j
   ·rw[dQ (p:=(p.1,y)) e,dQ e,Ri,Le (e.symm.trans h)]
   ·rw[dS (p:=(p.1,y)) e,dS e,ih]
  ·rw[Ld h];by_cases e:p.1=j
   ·rw[dQ (p:=p) e,dQ e,Ri,Ld (λ z=>h (e.trans z))]
   ·rw[dS (p:=p) e,dS e,ih]
theorem ul(k j:κ)(y:V):∀kvs:List (κ×V),gH kvs k=none->gH (kvs++[(k,y)]) j=if j=k then some y else gH kvs j
 |[],_=>by
  by_cases e:k=j
  ·rw[Le e.symm];exact dQ (p:=(k,y)) e
  ·rw[Ld (λ z=>e z.symm)];exact dS (p:=(k,y)) e
 |p::r,hn=>by
  rw[List.cons_append];have hk:¬p.1=k:=λ z=>by rw[dQ z]at hn;cases hn
  rw[dS hk]at hn;have ih:=ul k j y r hn;by_cases e:p.1=j
  ·rw[dQ e,dQ e,Ld (λ z=>hk (e.trans z))]
  ·rw[dS e,dS e,ih]
theorem CI(kvs:List (κ×V))(k j:κ)(y:V):gH (fR kvs k y) j=if j=k then some y else gH kvs j:=by
 unfold fR;by_cases a:(kvs.any λ kv=>decide (kv.1=k))=true
 ·rw[Le a,wG];rw[mU]at a;by_cases e:j=k
  ·obtain⟨x,hx⟩:=Option.isSome_iff_exists.mp a;rw[Le e,e,hx,Ri,Le rfl]
  ·rw[Ld e];cases gH kvs j with
   |none=>rfl
   |some x=>rw[Ri,Ld e]
 ·rw[Ld a];refine ul k j y kvs ?_;rw[mU]at a;cases q:gH kvs k with
  |none=>rfl
  |some x=>rw[q]at a;exact(a rfl).elim
theorem ii(kvs:List (κ×V))(k:κ)(v:V):(fR kvs k v).length<=kvs.length+1:=by
 unfold fR;split
 ·rw[Ls];omega
 ·rw[La,Lg,Mo];omega
theorem jW.isSome_eq{o:Option V}{u:Option Value}(r:jW o u):o.isSome=u.isSome:=by
 cases o with
 |none=>cases u with
  |none=>rfl
  |some _=>exact(show False from r).elim
 |some _=>cases u with
  |none=>exact(show False from r).elim
  |some _=>rfl
theorem jW.getD{o:Option V}{u:Option Value}{d:V}{d':Value}(r:jW o u)(rd:bG d d'):bG (o.getD d) (u.getD d'):=by
 cases o with
 |none=>cases u with
  |none=>exact rd
  |some _=>exact(show False from r).elim
 |some _=>cases u with
  |none=>exact(show False from r).elim
  |some _=>exact r
theorem KV.val{kvs:List (κ×V)}{vs:List (κ×Value)}(r:KV kvs vs)(k:κ):jW (gH kvs k) (valueAt vs k):=by
 unfold KV at r
 induction r with
 |nil=>exact True.intro
 |@cons p q ps qs h t ih=>
  obtain⟨h1,h2⟩:=h;by_cases e:p.1=k
  ·have e':q.1=k:=h1.symm.trans e;have b:valueAt (q::qs) k=some q.2:=by simp[valueAt,Pu,e']
   rw[dQ e,b];exact h2
  ·have e':¬q.1=k:=λ z=>e (h1.trans z);have b:valueAt (q::qs) k=valueAt qs k:=by simp[valueAt,Pu,e']
   rw[dS e,b];exact ih
theorem KV.any{kvs:List (κ×V)}{vs:List (κ×Value)}(r:KV kvs vs)(k:κ):(kvs.any λ kv=>decide (kv.1=k))=vs.any λ kv=>decide (kv.1=k):=by
 unfold KV at r
 induction r with
 |nil=>rfl
 |cons h t ih=>rw[Ql,Ql,ih,h.1]
theorem KV.repl{kvs:List (κ×V)}{vs:List (κ×Value)}(r:KV kvs vs)(k:κ){y:V}{u:Value}(ry:bG y u):
  KV (kvs.map λ kv=>if kv.1=k then(kv.1,y) else kv) (vs.map λ kv=>if kv.1=k then(kv.1,u) else kv):=by
 unfold KV at r ⊢
 induction r with
 |nil=>exact .nil
 |@cons p q ps qs h t ih=>
  rw[Mp,Mp];refine .cons ?_ ih;obtain⟨h1,h2⟩:=h;by_cases e:p.1=k
  ·rw[Le e,Le (h1.symm.trans e)];exact⟨h1,ry⟩
  ·rw[Ld e,Ld (λ z=>e (h1.trans z))];exact⟨h1,h2⟩
theorem KV.put{kvs:List (κ×V)}{vs:List (κ×Value)}(r:KV kvs vs)(k:κ){y:V}{u:Value}(ry:bG y u):KV (fR kvs k y) (stored vs k u):=by
 unfold fR stored;rw[r.any k];by_cases e:(vs.any λ kv=>decide (kv.1=k))=true
 ·rw[Le e,Le e];exact r.repl k ry
 ·rw[Ld e,Ld e];exact Paired.snoc r ⟨rfl,ry⟩
theorem KV.length{kvs:List (κ×V)}{vs:List (κ×Value)}(r:KV kvs vs):kvs.length=vs.length:=Sc r
end
theorem um{P:Program}{w:World}{k:dl}{u:Value}(r:bG (kV k) u):(dm P w).is k u=true:=by
 cases k with
 |inl i=>obtain⟨t,e⟩:=(show ∃t,u=Value.int i t from r);subst e;exact wo P w i t
 |inr x=>obtain⟨t,e⟩:=(show ∃t,u=Value.str x t from r);subst e;exact wp P w x t
theorem uo{P:Program}{w:World}:∀{ks:List dl} {us:List Value},bn (ks.map kV) us->ItemsAre (dm P w) ks us
 |[],_,r=>by rw[Rm]at r;cases r;exact .nil
 |k::ks,_,r=>by
  rw[Mp]at r;cases r with
  |cons h t=>exact .cons (um h) (uo t)
abbrev KT(H:Hp):List (List dl×V)->List (List dl×Addr×Value)->Prop:=Paired λ p q=>p.1=q.1/\H q.2.1=some (.tup (p.1.map kV))/\bG p.2 q.2.2
theorem KT.val{H:Hp}{kvs:List (List dl×V)}{xs:List (List dl×Addr×Value)}(r:KT H kvs xs)(k:List dl):jW (gH kvs k) ((atKey xs k).map (·.2)):=by
 induction r with
 |nil=>exact True.intro
 |@cons p q ps qs h t ih=>
  obtain⟨h1,_,h2⟩:=h;by_cases e:p.1=k
  ·have e':q.1=k:=h1.symm.trans e;have b:atKey (q::qs) k=some q.2:=by simp[atKey,Pu,e']
   rw[dQ e,b];exact h2
  ·have e':¬q.1=k:=λ z=>e (h1.trans z);have b:atKey (q::qs) k=atKey qs k:=by simp[atKey,Pu,e']
   rw[dS e,b];exact ih
theorem KT.repl{H:Hp}{kvs:List (List dl×V)}{xs:List (List dl×Addr×Value)}(r:KT H kvs xs)(k:List dl){y:V}{u:Value}(ry:bG y u):
  KT H (kvs.map λ kv=>if kv.1=k then(kv.1,y) else kv) (xs.map (putAt k u)):=by
 induction r with
 |nil=>exact .nil
 |@cons p q ps qs h t ih=>
  rw[Mp,Mp];refine .cons ?_ ih;obtain⟨h1,h2,h3⟩:=h;unfold putAt;by_cases e:p.1=k
  ·rw[Le e,Le (h1.symm.trans e)];exact⟨h1,h2,ry⟩
  ·rw[Ld e,Ld (λ z=>e (h1.trans z))];exact⟨h1,h2,h3⟩
theorem KT.put{H:Hp}{kvs:List (List dl×V)}{xs:List (List dl×Addr×Value)}(r:KT H kvs xs)(k:List dl){b:Addr}{y:V}{u:Value}(hb:H b=some (.tup (k.map kV)))(ry:bG y u):
  KT H (fR kvs k y) (storedH xs k b u):=by
 have e:(kvs.any λ kv=>decide (kv.1=k))=(atKey xs k).isSome:=by rw[mU,(r.val k).isSome_eq,Option.isSome_map]
 unfold fR storedH;rw[e];by_cases q:(atKey xs k).isSome=true
 ·rw[Le q,Le q];exact r.repl k ry
 ·rw[Ld q,Ld q];exact Paired.snoc r ⟨rfl,hb,ry⟩
theorem KT.keeps{H H':Hp}{kvs:List (List dl×V)}{xs:List (List dl×Addr×Value)}(r:KT H kvs xs)(ht:∀b ys,H b=some (.tup ys)->H' b=some (.tup ys)):KT H' kvs xs:=
 Paired.mapP r λ _ _ z=>⟨z.1,ht _ _ z.2.1,z.2.2⟩
section
variable{P:Program}{w:World}{H:Hp}{h:Heap}{a:Addr}
theorem FK{u:HO}(ok:ka P w H h)(e:Rd H a u):cO P w H h a u:=e.ok ok
theorem wH{kvs:List (dl×V)}(ok:ka P w H h)(e:Rd H a (.dK kvs)):kvs.length<=sizeLine/\(a==sysModules)=false/\∃vs,KV kvs vs/\h.DictOf (dm P w) a vs:=
 show cO P w H h a (.dK kvs) from FK ok e
theorem zZ{kvs:List (dl×V)}(ok:ka P w H h)(e:H a=some (.dK kvs)):kvs.length<=sizeLine/\(a==sysModules)=false/\∃vs,KV kvs vs/\h.DictOf (dm P w) a vs:=wH ok (.inl e)
theorem vm{ks:List dl}(ok:ka P w H h)(e:H a=some (.tup (ks.map kV))):(tupleKind (dm P w)).is h ks a:=by obtain⟨_,its,r,o,h1,h2,n,h3⟩:=(show cO P w H h a (.tup (ks.map kV)) from ok a _ e);exact⟨o,its.toArray,n,h1,h2,h3,by simpa using uo r⟩
theorem wI{kvs:List (List dl×V)}(ok:ka P w H h)(e:Rd H a (.dT kvs)):kvs.length<=sizeLine/\(a==sysModules)=false/\
  ∃xs,KT H kvs xs/\h.DictOfH (tupleKind (dm P w)) a xs:=by
 obtain⟨z,y,xs,r,o,es,ep,h1,h2,h3,h4,h5⟩:=(show cO P w H h a (.dT kvs) from FK ok e);refine⟨z,y,xs,r,o,es,ep,h1,h2,h3,h4,λ x hx=>?_,h5⟩;have all:∀{l:List (List dl×V)} {m:List (List dl×Addr×Value)},KT H l m->∀x∈m,(tupleKind (dm P w)).is h x.1 x.2.1:=by
  intro l m q
  induction q with
  |nil=>intro x hx;exact nomatch hx
  |@cons p q ps qs hq t ih=>
   intro x hx;rcases Lp.mp hx with e |hx
   ·subst e;exact vm ok (by rw[<-hq.1];exact hq.2.1)
   ·exact ih x hx
 exact all r x hx
theorem HI{kvs:List (List dl×V)}(ok:ka P w H h)(e:H a=some (.dT kvs)):kvs.length<=sizeLine/\(a==sysModules)=false/\
  ∃xs,KT H kvs xs/\h.DictOfH (tupleKind (dm P w)) a xs:=wI ok (.inl e)
end
def ro(H:Hp)(a:Addr)(y:V)(r:Option V):Prop:=
 (∃kvs k,Rd H a (.dK kvs)/\y=kV k/\r=gH kvs k)\/∃kvs k b,Rd H a (.dT kvs)/\y=.ref b/\H b=some (.tup (k.map kV))/\r=gH kvs k
def yE(H:Hp)(a:Addr)(y v:V)(H':Hp):Prop:=
 (∃kvs k,H a=some (.dK kvs)/\y=kV k/\kvs.length<sizeLine/\H'=upd H a (.dK (fR kvs k v)))\/
 ∃kvs k b,H a=some (.dT kvs)/\y=.ref b/\H b=some (.tup (k.map kV))/\kvs.length<sizeLine/\H'=upd H a (.dT (fR kvs k v))
theorem ro.k{H:Hp}{a:Addr}{kvs:List (dl×V)}{k:dl}(e:H a=some (.dK kvs)):ro H a (kV k) (gH kvs k):=.inl ⟨kvs,k,.inl e,rfl,rfl⟩
theorem ro.t{H:Hp}{a b:Addr}{kvs:List (List dl×V)}{k:List dl}(e:H a=some (.dT kvs))(eb:H b=some (.tup (k.map kV))):ro H a (.ref b) (gH kvs k):=.inr ⟨kvs,k,b,.inl e,rfl,eb,rfl⟩
theorem yE.t{H:Hp}{a b:Addr}{kvs:List (List dl×V)}{k:List dl}{v:V}(e:H a=some (.dT kvs))(eb:H b=some (.tup (k.map kV)))(hl:kvs.length<sizeLine):
  yE H a (.ref b) v (upd H a (.dT (fR kvs k v))):=.inr ⟨kvs,k,b,e,rfl,eb,hl,rfl⟩
section
variable{X:Cx}{pins:List (Addr×Obj)}{σ:St}{H:Hp}{s:Shared}{a:Addr}{y v:V}{u r:Value}{o:Option V}{A:Around}{E:Value->Shared->Prop}
theorem aO.big(I:aO X pins σ H s):sysModules<s.heap.objs.size:=by have h:mainGlobals<s.heap.objs.size:=(I.mod.glob.keeps I.bk).lt;exact Nat.lt_trans (by decide) h
theorem AW{Q:Value->Shared->Prop}(hu:A.units+1<cLine)(I:aO X pins σ H s)(g:ro H a y (some v))(ry:bG y u)(h:∀w' s',aO X pins σ H s'->bG v w'->Q w' s'):
  wpAny (model X.prog X.w) A (getItem (.ref a) u) Q E s:=by
 rcases g with⟨kvs,k,e,ey,l⟩ |⟨kvs,k,b,e,ey,eb,l⟩
 ·subst ey;obtain⟨z,hd,vs,rel,dd⟩:=wH I.hok e;obtain⟨w',hw,rw'⟩:=jW.some_of (v:=v) (o:=valueAt vs k) (by rw[l];exact rel.val k);exact wpAny_getItem_of (um ry) dd.mapOf hw (h w' _ (I.tok _) rw')
 ·subst ey;cases(show u=Value.ref b from ry);obtain⟨z,hd,xs,rel,dd⟩:=wI I.hok e;obtain⟨w',hw,rw'⟩:=jW.some_of (v:=v) (o:=(atKey xs k).map (·.2)) (by rw[l];exact rel.val k);obtain⟨p,hp,hp2⟩:=Option.map_eq_some_iff.mp hw;refine wpAny_getItem_heap (tupleKind_room_in1 hu) (vm I.hok eb) dd hp ?_;rw[hp2];exact h w' _ (I.tok _) rw'
theorem mW{h':Heap}{t':Nat}{ob:HO}(I:aO X pins σ H s)(mu:FF (H a))(hs:Heap.SameBut a s.heap h')(he:∃q,h'.get? a=some q)(new:cO X.prog X.w (upd H a ob) h' a ob):
  aO X pins σ (upd H a ob) {s with heap:=h',toks:=t'}:=
 I.write (x:=a) (e:=a) mu (.inl rfl) (λ b q hb z=>(hs.2 b hb).trans z) he new
theorem vn{P:Program}{w:World}{H':Hp}{h':Heap}{kvs:List (dl×V)}{vs:List (dl×Value)}(z:kvs.length<=sizeLine)(hd:(a==sysModules)=false)(rel:KV kvs vs)(dd:h'.DictOf (dm P w) a vs):
  cO P w H' h' a (.dK kvs):=⟨z,hd,vs,rel,dd⟩
theorem AX{H':Hp}{Q:Unit->Shared->Prop}(hu:A.units+1<cLine)(I:aO X pins σ H s)(g:yE H a y v H')(ry:bG y u)(rv:bG v r)(h:∀s',aO X pins σ H' s'->Q () s'):
  wpAny (model X.prog X.w) A (setItem (.ref a) u r) Q E s:=by
 rcases g with⟨kvs,k,e,ey,l,eH⟩ |⟨kvs,k,b,e,ey,eb,l,eH⟩
 ·subst ey eH;obtain⟨z,hd,vs,rel,dd⟩:=zZ I.hok e;have hz:vs.length<=sizeLine:=by rw[<-rel.length];exact z
  have hl:(fR kvs k v).length<=sizeLine:=by have:=ii kvs k v;omega
  refine wpAny_setItem_pairs (hsz:=hz) (um ry) dd λ h' dd' hs=>h _ ?_;have he:∃q,h'.get? a=some q:=let⟨q,_,_,hq,_⟩:=dd';⟨q,hq⟩
  exact mW I (by rw[e];exact True.intro) hs he (vn hl hd (rel.put k rv) dd')
 ·subst ey eH;cases(show u=Value.ref b from ry);obtain⟨z,hd,xs,rel,dd⟩:=HI I.hok e;have hz:xs.length<=sizeLine:=by rw[<-Sc rel];exact z
  have hl:(fR kvs k v).length<=sizeLine:=by have:=ii kvs k v;omega
  refine wpAny_setItem_heap (hsz:=hz) (tupleKind_room_in1 hu) (vm I.hok eb) dd λ h' dd' hs=>h _ ?_;obtain⟨q,es,ep,hq,h2,h3,h4,_,h5⟩:=dd';refine mW I (by rw[e];exact True.intro) hs ⟨q,hq⟩ ⟨hl,hd,_,(rel.put k eb rv).keeps λ c ys ec=>?_,q,es,ep,hq,h2,h3,h4,h5⟩;rw[am (qY ec e (λ z=>nomatch z))];exact ec
end
def HJ(i:Expr):Prop:=∀ov iv,subscripted i false ov iv=operate [ov,iv] (getItem ov iv)
theorem EB{prog:Program}{w:World}{A:Around}{E:Value->Shared->Prop}{s:Shared}{env:Env}{value slice:Expr}{pos:Pos}{T id:String}{Q:Value->Shared->Prop}(hl:typeLookup (.type T) "__getitem__"=pure (some (.builtin id)))(hs:HJ slice)(h:wpAny (model prog w) A (eval value env) (λ o s₁=>wpAny (model prog w) A (eval slice env) (λ i s₂=>s₂.TypeIs o T/\wpAny (model prog w) A (getItem o i) Q E s₂) E s₁) E s):
  wpAny (model prog w) A (eval (.Subscript value slice pos) env) Q E s:=by
 refine Subscript_ (Ob h (λ o s₁ h₁=>Ob h₁ (λ i s₂ h₂=>?_) λ _ _ x=>x) λ _ _ x=>x);obtain⟨hT,h₂⟩:=h₂;unfold subscriptTail;refine Lb ?_;rw[getitemInPython_of_ne hT.not_modules];refine Lb (wpAny_specialOf hT hl ?_);have eW:wpAny (model prog w) A (subscripted slice false o i) (λ r s₃=>wpAny (model prog w) A (letTemporaryGo value o r >>= λ _=>pure r) Q E s₃) E s₂:=by rw[hs o i];exact wpAny_operating (Ob h₂ (λ r s₃ h₃=>Lb (wpAny_letTemporaryGo (Lm h₃))) λ _ _ x=>x)
 first
  |exact Lm (Lb eW)
  |exact Lb (Lm (Lb eW))
  |exact Lb eW
theorem wJ{X:Cx}{pins:List (Addr×Obj)}{σ:St}{H:Hp}{s:Shared}{a:Addr}{y:V}{o:Option V}(I:aO X pins σ H s)(g:ro H a y o):s.TypeIs (.ref a) "dict":=by
 rcases g with⟨kvs,k,e,_,_⟩ |⟨kvs,k,b,e,_,_,_⟩
 ·obtain⟨_,_,vs,_,dd⟩:=wH I.hok e;exact dd.typeIs
 ·obtain⟨_,_,xs,_,dd⟩:=wI I.hok e;exact dd.typeIs
def FL(td ty:TE):TE:=λ σ H Q=>td σ H λ x H1=>ty σ H1 λ y H2=>∃a v,x=.ref a/\ro H2 a y (some v)/\Q v H2
def HK(td ty tv:TE):TS:=λ D σ H=>tv σ H λ v H1=>td σ H1 λ x H2=>ty σ H2 λ y H3=>∃a H4,x=.ref a/\yE H3 a y v H4/\D.nx σ H4
section
variable{X:Cx}{o i e value:Expr}{pos pos' tpos:Pos}{td ty tv:TE}
theorem EC(hu:X.A.units+1<cLine)(ho:PE X o td)(hi:PE X i ty)(hs:HJ i):PE X (.Subscript o i pos) (FL td ty):=by intro pins s σ H Q I h;refine EB PySem.F.slot_dict_getitem.lookup hs (cR (ho pins s σ H _ I h) λ u s1 ⟨x,H1,I1,rx,q1⟩=>cR (hi pins s1 σ H1 _ I1 q1) λ iv s2 ⟨y,H2,I2,ry,a,v,ex,g,q2⟩=>?_);subst ex;obtain rfl:u=Value.ref a:=rx;exact⟨wJ I2 g,AW hu I2 g ry λ w' s3 I3 rw'=>⟨v,H2,I3,rw',q2⟩⟩
theorem Aa(hu:X.A.units+1<cLine)(ho:PE X o td)(hi:PE X i ty)(hv:PE X value tv)(hs:swapsWith value (some (.Subscript o i pos')) pos.line X.env=pure false):
  PS X (.Assign [.Subscript o i pos'] value pos) (HK td ty tv):=by
 intro pins s σ H D I h;refine wpAny_Assign_Subscript (cR (hv pins s σ H _ I h) λ r s1 ⟨v,H1,I1,rv,q1⟩=>cR (ho pins s1 σ H1 _ I1 q1) λ u s2 ⟨x,H2,I2,rx,q2⟩=>cR (hi pins s2 σ H2 _ I2 q2) λ iv s3 ⟨y,H3,I3,ry,a,H4,ex,g,q3⟩=>?_) hs;subst ex;obtain rfl:u=Value.ref a:=rx;exact AX hu I3 g ry rv λ s4 I4=>⟨σ,H4,I4,q3⟩
end
theorem wK{P:Program}{w:World}{H:Hp}(h:Heap)(hb:sysModules<h.objs.size):cO P w H (h.push {cls:=.type "dict",data:=.dict #[]}) h.objs.size (.dK []):=
 ⟨Lj _,Ms.mpr (Ne.symm (Ng hb)),[],.nil,Heap.DictOf.new h⟩
theorem CJ{P:Program}{w:World}{H:Hp}(h:Heap)(hb:sysModules<h.objs.size):cO P w H (h.push {cls:=.type "dict",data:=.dict #[]}) h.objs.size (.dT []):=
 ⟨Lj _,Ms.mpr (Ne.symm (Ng hb)),[],.nil,_,#[],0,Md _ rfl,⟨rfl,rfl,rfl⟩,rfl,rfl,List.nodup_nil⟩
def Gk:TE:=λ _ H Q=>∀p,H p=none->Q (.ref p) (upd H p (.dT []))
section
variable{X:Cx}{pos:Pos}
theorem wL:PE X (.Dict [] [] pos) Gk:=λ pins s σ H Q I h=>
 wpAny_Dict_empty ⟨.ref s.heap.objs.size,_,I.laid (a:=s.heap.objs.size) (o:=.dT []) (t':=s.toks) (λ _ _ q=>Lo _ q) (Lf _) (CJ s.heap I.big),rfl,h _ (I.hok.fresh (Lf _))⟩
end
def vo:List (TE×TE)->St->Hp->(List (V×V)->Hp->Prop)->Prop
 |[],_,H,Q=>Q [] H
 |(tk,tv):: r,σ,H,Q=>tk σ H λ x H1=>tv σ H1 λ y H2=>vo r σ H2 λ ps H3=>Q ((x,y):: ps) H3
abbrev VV:List (V×V)->List (Value×Value)->Prop:=Paired λ p q=>bG p.1 q.1/\bG p.2 q.2
def Ik(X:Cx)(pos:Pos)(keys:List (Option Expr))(values:List Expr)(trs:List (TE×TE)):Prop:=
 ∀(pins:List (Addr×Obj)) (s:Shared) (σ:St) (H:Hp) (Q:List (V×V)->Hp->Prop),aO X pins σ H s->vo trs σ H Q->
  wpAny (model X.prog X.w) X.A (evalPairs (pairTrees keys values X.env pos)) (λ vs s'=>∃ps H',aO X pins σ H' s'/\VV ps vs/\Q ps H') X.xe s
theorem ED{X:Cx}{pos:Pos}:Ik X pos [] [] []:=λ pins s σ H Q I h=>pairTrees_nil_walk ⟨[],H,I,.nil,h⟩
theorem CK{X:Cx}{pos:Pos}{k v:Expr}{ks:List (Option Expr)}{vs:List Expr}{tk tv:TE}{trs:List (TE×TE)}(hk:PE X k tk)(hv:PE X v tv)(hr:Ik X pos ks vs trs):
  Ik X pos (some k::ks) (v::vs) ((tk,tv):: trs):=λ pins s σ H Q I h=>
 pairTrees_cons_walk (cR (hk pins s σ H _ I h) λ u s1 ⟨x,H1,I1,rx,q1⟩=>cR (hv pins s1 σ H1 _ I1 q1) λ w2 s2 ⟨y,H2,I2,ry,q2⟩=>
  cR (hr pins s2 σ H2 _ I2 q2) λ ws s3 ⟨ps,H3,I3,rel,q3⟩=>⟨(x,y):: ps,H3,I3,.cons ⟨rx,ry⟩ rel,q3⟩)
def rA(kvs more:List (dl×V)):List (dl×V):=more.foldl (λ acc kv=>fR acc kv.1 kv.2) kvs
theorem KV.merge:∀{more:List (dl×V)} {rs:List (dl×Value)} {kvs:List (dl×V)} {vs:List (dl×Value)},KV more rs->KV kvs vs->KV (rA kvs more) (merged vs rs):=by
 intro more rs kvs vs r;unfold KV at r
 induction r generalizing kvs vs with
 |nil=>intro q;exact q
 |@cons p q ps qs h t ih=>
  intro r0;have e:KV (fR kvs p.1 p.2) (stored vs q.1 q.2):=by have:=r0.put p.1 h.2;rw[<-h.1];exact this
  exact ih e
theorem rB{P:Program}{w:World}:∀{kvs:List (dl×V)} {ws:List (Value×Value)},VV (kvs.map λ kv=>(kV kv.1,kv.2)) ws->∃rs,Carries (dm P w) ws rs/\KV kvs rs
 |[],_,r=>by rw[Rm]at r;cases r;exact⟨[],True.intro,.nil⟩
 |p::kvs,_,r=>by
  rw[Mp]at r;cases r with
  |@cons a b as bs h t=>obtain⟨rs,c,q⟩:=rB (P:=P) (w:=w) t;obtain⟨b1,b2⟩:=b;exact⟨(p.1,b2):: rs,⟨um h.1,rfl,c⟩,.cons ⟨rfl,h.2⟩ q⟩
structure M2(X:Cx)(o:Expr)(m:Str)(apos:Pos)(e f:Expr)(cpos:Pos):Prop where
 base:attributeBase o m X.env (eval o X.env)=eval o X.env
 few:((backTo cpos (starEach [e,f] X.env)).all (λ x=>!x.1)&&(backToKw cpos (keywordEach [] X.env)).all (λ x=>x.1.isSome)
  && decide (([e,f]:List Expr).length+([]:List Keyword).length+(if([]:List Keyword).isEmpty then 0 else 1)<30))=true
 line:(apos.endLine==cpos.line)=true
 trees:backTo cpos (starEach [e,f] X.env)=[(false,eval e X.env),(false,eval f X.env)]
def Je(H:Hp)(a:Addr):Prop:=(∃kvs,Rd H a (.dK kvs))\/∃kvs,Rd H a (.dT kvs)
theorem Gm{X:Cx}{pins:List (Addr×Obj)}{σ:St}{H:Hp}{s:Shared}{a:Addr}(I:aO X pins σ H s)(d:Je H a):
  s.TypeIs (.ref a) "dict"/\(∀b,Value.ref a=.ref b->∃ob,s.heap.get? b=some ob/\ob.dict=none)/\(a==sysModules)=false:=by
 rcases d with⟨kvs,e⟩ |⟨kvs,e⟩
 ·obtain⟨_,hd,vs,_,dd⟩:=wH I.hok e;refine⟨dd.typeIs,λ b q=>?_,hd⟩;cases q;obtain⟨ob,_,_,h1,h2,_⟩:=dd;exact⟨ob,h1,h2.2.1⟩
 ·obtain⟨_,hd,xs,_,dd⟩:=wI I.hok e;refine⟨dd.typeIs,λ b q=>?_,hd⟩;cases q;obtain⟨ob,_,_,h1,h2,_⟩:=dd;exact⟨ob,h1,h2.2.1⟩
section
variable{X:Cx}{pins:List (Addr×Obj)}{σ:St}{H:Hp}{s:Shared}{a:Addr}{y d:V}{u r:Value}{o:Option V}{A:Around}{E:Value->Shared->Prop}
theorem Gn{Q:Value->Shared->Prop}(hu:A.units+1<cLine)(I:aO X pins σ H s)(g:ro H a y o)(ry:bG y u)(rd:bG d r)(h:∀w' s',aO X pins σ H s'->bG (o.getD d) w'->Q w' s'):
  wpAny (model X.prog X.w) A (call (.builtin "dict.get") [.ref a,u,r]) Q E s:=by
 rcases g with⟨kvs,k,e,ey,l⟩ |⟨kvs,k,b,e,ey,eb,l⟩
 ·subst ey;obtain⟨z,hd,vs,rel,dd⟩:=wH I.hok e;refine call_meetsIn PySem.F.slot_dict_get dd.typeIs PySem.F.entry_dict_get (PySem.F.args_dict_get_3 _ _ _) (meets_dict_get_default (dm X.prog X.w) a (um ry) hd r) ⟨_,dd.mapOf,h _ _ (I.tok _) ?_⟩;rw[l];exact(rel.val k).getD rd
 ·subst ey;cases(show u=Value.ref b from ry);obtain⟨z,hd,xs,rel,dd⟩:=wI I.hok e;refine call_meetsIn PySem.F.slot_dict_get dd.typeIs PySem.F.entry_dict_get (PySem.F.args_dict_get_3 _ _ _) (meetsH_dict_get_default (tupleKind (dm X.prog X.w)) a b hd r) ⟨tupleKind_room_in1 hu,k,xs,vm I.hok eb,dd,h _ _ (I.tok _) ?_⟩;rw[l];exact(rel.val k).getD rd
end
def Go(td ty tx:TE):TE:=λ σ H Q=>td σ H λ x H1=>∃a,x=.ref a/\Je H1 a/\ty σ H1 λ y H2=>tx σ H2 λ z H3=>∃o,ro H3 a y o/\Q (o.getD z) H3
section
variable{X:Cx}{o e f:Expr}{apos cpos:Pos}{td ty tx:TE}
theorem CL(hu:X.A.units+1<cLine)(ho:PE X o td)(he:PE X e ty)(hf:PE X f tx)(m:M2 X o "get" apos e f cpos):PE X (.Call (.Attribute o "get" apos) [e,f] [] cpos) (Go td ty tx):=by
 intro pins s σ H Q I h;refine wpAny_Call_method m.base m.few m.line PySem.F.plainAttrs_dict PySem.F.slot_dict_get PySem.F.type_dict_get (cR (ho pins s σ H _ I h) λ u s1 ⟨x,H1,I1,rx,a,ex,d,q1⟩=>?_);subst ex;obtain rfl:u=Value.ref a:=rx;obtain⟨t1,t2,_⟩:=Gm I1 d;refine⟨t1,t2,?_⟩;rw[m.trees];refine Qq rfl (Calls.evalArgs_plain (Calls.spliced_cons (cR (he pins s1 σ H1 _ I1 q1) λ iv s2 ⟨y,H2,I2,ry,q2⟩=>
  Calls.spliced_cons (cR (hf pins s2 σ H2 _ I2 q2) λ fv s3 ⟨z,H3,I3,rz,ov,g,q3⟩=>Calls.spliced_nil ?_))))
 exact Gn hu I3 g ry rz λ w' s4 I4 rw'=>⟨_,H3,I4,rw',q3⟩
end
section
variable{X:Cx}{pins:List (Addr×Obj)}{σ:St}{H:Hp}{s:Shared}{h':Heap}
theorem aO.turnedNew{t':Nat}{ch:List Addr}{T:Addr}{ob:HO}(I:aO X pins σ H s)(k:∀b o,b∉ch->s.heap.get? b=some o->h'.get? b=some o)(hf:∀b∈ch,rh X pins H b)(hT:s.heap.objs.size<=T)(new:cO X.prog X.w (upd H T ob) h' T ob):aO X pins σ (upd H T ob) {s with heap:=h',toks:=t'}:=by
 have hn:H T=none:=I.hok.fresh hT;have nit:∀b u,H b=some u->b∉ch:=λ b u e z=>by have q:=(hf b z).1;rw[q]at e;cases e
 refine I.step (g':=s.gens) (d':=s.drawn) (ch:=ch) (λ b hb=>⟨(hf b hb).2.2.2.1,(hf b hb).2.1,(hf b hb).2.2.2.2.1,(hf b hb).2.2.2.2.2⟩) (λ b o _ _ hc e _=>k b o hc e) (λ b o _ _ hc e _=>⟨o.slots,k b o hc e⟩)
  (λ b o _ e n=>?_) (λ b o hc e=>⟨o,k b o hc e⟩) (λ b xs e=>?_) (λ b o u e=>?_) (λ b ps e=>⟨#[],?_⟩) (λ m hm=>?_) (λ b u e=>?_) I.bare
 ·rw[am (Ng (Nb (Mf e) hT))];exact n
 ·rw[am (ay e hn)];exact e
 ·rw[am (ay e hn)];exact e
 ·rw[am (ay e hn),e];simp
 ·obtain⟨o,es,ep,ho,r⟩:=hm;exact⟨o,es,ep,k _ o (λ z=>(hf _ z).2.1 rfl) ho,r⟩
 ·by_cases hb:b=T
  ·subst hb;rw[ab]at e;cases e;exact new
  ·rw[am hb]at e;refine(I.hok b u e).stay (λ c v hc q=>k c v ?_ q) (λ c q=>by rw[am (ay q hn)];exact q) λ c xs q=>by rw[am (ay q hn)];exact q
   rcases hc with z |z
   ·rw[z];exact nit b u e
   ·exact nit c _ z
theorem aO.lock{d:Addr}{u:HO}(I:aO X pins σ H s)(h:H d=some u)(mu:FF (some u)):∃od,aO X pins σ (upd H d (.frz od u)) s:=by
 have x:=I.hok d u h;have ex:∃od,s.heap.get? d=some od:=by
  cases u with
  |lst xs=>obtain⟨_,_,_,_,e⟩:=x;exact⟨_,e⟩
  |dK kvs=>obtain⟨_,_,_,_,o,_,_,e,_⟩:=x;exact⟨o,e⟩
  |dT kvs=>obtain⟨_,_,_,_,o,_,_,e,_⟩:=x;exact⟨o,e⟩
  |set S n=>obtain⟨o,_,_,_,e,_⟩:=x;exact⟨o,e⟩
  |ins C dx fs=>obtain⟨_,_,_,e,_⟩:=x;exact⟨_,e⟩
  |ext φ=>obtain⟨_,⟨_,e⟩,_⟩:=x;exact⟨_,e⟩
  |_=>exact False.elim mu
 obtain⟨od,e⟩:=ex;have new:cO X.prog X.w (upd H d (.frz od u)) s.heap d (.frz od u):=by
  refine⟨e,x.stay (λ b v _ q=>q) (λ b q=>?_) λ b xs q=>?_⟩
  ·rw[am (λ z=>by rw[z,h]at q;cases q;exact mu)];exact q
  ·rw[am (λ z=>by rw[z,h]at q;cases q;exact mu)];exact q
 exact⟨od,I.write (x:=d) (e:=d) (t':=s.toks) (h':=s.heap) (by rw[h];exact mu) (.inl rfl) (λ b v _ q=>q) ⟨od,e⟩ new⟩
theorem aO.nofrz{d:Addr}{u:HO}(I:aO X pins σ H s)(h:H d=some u)(mu:FF (some u)):∀o' u',X.H_0 d≠some (.frz o' u'):=λ o' u' e=>by have q:=I.base.frzs d o' u' e;rw[h]at q;cases q;exact mu
theorem aO.unlock{d:Addr}{od:Obj}{u:HO}(I:aO X pins σ H s)(h:H d=some (.frz od u))(hn:∀o' u',X.H_0 d≠some (.frz o' u')):aO X pins σ (upd H d u) s:=by
 have neH:∀b o,H b=some o->(∀o' u',o≠.frz o' u')->b≠d:=λ b o e hne z=>by rw[z,h]at e;cases e;exact hne _ _ rfl
 have neN:∀b,H b=none->b≠d:=λ b e z=>by rw[z,h]at e;cases e
 refine⟨I.ok,I.os,I.bare,⟨I.base.keep,I.base.slot,λ b o e n hx=>?_,I.base.there,λ b xs e=>?_,λ b o x e=>?_,λ b ps e=>?_⟩,I.loc,I.cell,?_,λ x c e=>?_,λ p hp=>?_,λ b o e=>?_,I.len⟩
 ·rw[am (neN b (I.base.free b o e n hx))];exact I.base.free b o e n hx
 ·have q:=I.base.tups b xs e;rw[am (neH b _ q (λ _ _ z=>nomatch z))];exact q
 ·have q:=I.base.frzs b o x e;rw[am (λ z=>by rw[z]at e;exact hn _ _ e)];exact q
 ·obtain⟨m,q⟩:=I.base.tbls b ps e;exact⟨m,by rw[am (neH b _ q (λ _ _ z=>nomatch z))];exact q⟩
 ·rw[am (neN _ I.free)];exact I.free
 ·rw[am (neN c (I.freeC x c e))];exact I.freeC x c e
 ·obtain⟨e,n,r⟩:=I.pin p hp;exact⟨e,by rw[am (neN _ n)];exact n,r⟩
 ·by_cases hb:b=d
  ·rw[hb,ab]at e;cases e;rw[hb];obtain⟨_,x⟩:=I.hok d _ h;exact x.stay (λ c v _ q=>q) (λ c q=>by rw[am (neH c _ q (λ _ _ z=>nomatch z))];exact q) λ c xs q=>by rw[am (neH c _ q (λ _ _ z=>nomatch z))];exact q
  ·rw[am hb]at e;exact(I.hok b o e).stay (λ c v _ q=>q) (λ c q=>by rw[am (neH c _ q (λ _ _ z=>nomatch z))];exact q) λ c xs q=>by rw[am (neH c _ q (λ _ _ z=>nomatch z))];exact q
end
def Gp(t:TE):TE:=λ σ H Q=>∃d u,H d=some u/\FF (some u)/\∀od,t σ (upd H d (.frz od u)) λ v H'=>H' d=some (.frz od u)/\Q v (upd H' d u)
section
variable{X:Cx}
theorem Ab{e:Expr}{t:TE}(h:PE X e t):PE X e (Gp t):=by intro pins s σ H Q I hw;obtain⟨d,u,hd,mu,hw⟩:=hw;obtain⟨od,I1⟩:=I.lock hd mu;refine cR (h pins s σ _ _ I1 (hw od)) λ v s1 ⟨x,H1,I2,r,e2,q⟩=>?_;exact⟨x,_,I2.unlock e2 (I.nofrz hd mu),r,q⟩
theorem CM{tg:Expr}{pins:List (Addr×Obj)}{σ:St}{H:Hp}{s:Shared}{R:It->Hp->Prop}{J:It}{tn:Nat->Heap->Prop}{tk:Nat}(I:aO X pins σ H s)(o:Obj)(T:vg X.prog X.w X.K tg J [s.heap.objs.size] s.heap.objs.size tn)(st:tn 0 (s.heap.push o))(q:R J H):Ix X pins σ tg R (.ref s.heap.objs.size) {s with heap:=s.heap.push o,toks:=tk}:=by
 refine⟨s.heap.objs.size,[s.heap.objs.size],tn,J,H,rfl,I.kept λ b ob e=>Lo _ e,T,st,λ b hb=>?_,q⟩;have e:b=s.heap.objs.size:=by simpa using hb
 subst e;exact I.fpOk (Lf _) (I.hok.fresh (Lf _))
end
def Jf(x:Str):It:=⟨λ i _=>i<x.cps.size,λ i H v H'=>H'=H/\∃c,x.cps[i]?=some c/\v=.str ⟨#[c]⟩,λ i _=>x.cps.size<=i⟩
theorem wM{P:Program}{w:World}{K:PySem.W.Frag}{tg:Expr}(it:Addr)(x:Str)(t:Tok)(ty:String)(hty:ty ="str_ascii_iterator"\/ty ="str_iterator"):
  vg P w K tg (Jf x) [it] it (λ i h=>h.IsStrIter it ty x t i) where
 mem:=by simp
 obj:=λ i h st b hb=>by
  have e:b=it:=by simpa using hb
  subst e;obtain⟨o,e,c,d⟩:=st;exact⟨o,e,λ v z=>by rw[d]at z;cases z⟩
 keep:=λ i h h' st k=>let⟨o,ho,r⟩:=st;⟨o,k it (by simp) o ho,r⟩
 item:=by
  intro X hP hw hK hc i pins s σ H E I hf st hg;subst hP hw hK;obtain⟨f0,f1,f2,f3,f4,f5⟩:=hf it (by simp);have W:Walks X.prog X.w X.A it [it] [it] x.cps.size (SignAt x) (λ i h=>h.IsStrIter it ty x t i):=by
   rcases hty with e |e
   ·rw[e];exact Walks.strAscii (I.ok.hd hc) it x t
   ·rw[e];exact Walks.strWide (I.ok.hd hc) it x t
  have hno:["enumerate","zip","dict_itemiterator","dict_reverseitemiterator","odict_iterator","itertools.zip_longest","itertools.pairwise"].contains ty=false:=by
   rcases hty with e |e
   ·rw[e];decide
   ·rw[e];decide
  refine W.item i s _ _ hg st λ v h' tk hv st' kk=>?_;obtain⟨c,u,hcx,rfl⟩:=hv;have I1:aO X pins σ H {s with heap:=h',toks:=tk}:=I.turned (λ b o hb e=>kk b o (by simpa using hb) e) f0 f1 f3 f4 f5;obtain⟨oi,e,cc,dd⟩:=id st';exact⟨_,rfl,zR (s:={s with heap:=h',toks:=tk}) e cc dd hno ⟨.str ⟨#[c]⟩,H,I1,⟨u,rfl⟩,⟨rfl,c,hcx,rfl⟩,st',λ b hb=>(hf b hb).1⟩⟩
 done:=by
  intro X hP hw hK hc i pins s σ H E I hf st hg;subst hP hw hK;obtain⟨f0,f1,f2,f3,f4,f5⟩:=hf it (by simp);have hx:x.cps[i]?=none:=Array.getElem?_eq_none hg;rcases hty with e |e
  ·rw[e]at st;exact wpAny_pyNext_ascii_end (I.ok.hd hc) st hx λ h' eb=>⟨rfl,I.turned (t':=s.toks) (λ b o hb e=>eb b o hb e) f0 f1 f3 f4 f5⟩
  ·rw[e]at st;exact wpAny_pyNext_wide_end (I.ok.hd hc) st hx λ h' eb=>⟨rfl,I.turned (t':=s.toks) (λ b o hb e=>eb b o hb e) f0 f1 f3 f4 f5⟩
 self:=λ A i s Q E st h=>by
  rcases hty with e |e
  ·rw[e]at st;exact wpAny_pyIter_striter_ascii st h
  ·rw[e]at st;exact wpAny_pyIter_striter_wide st h
def IN(te:TE):TI:=λ σ H R=>te σ H λ v H1=>∃x,v=.str x/\R (Jf x) H1
theorem Gq{X:Cx}{tg e:Expr}{te:TE}(he:PE X e te):PI X tg e (IN te):=by
 intro pins s σ H R I h;refine cR (he pins s σ H _ I h) λ v s1 ⟨y,H1,I1,r1,x,ex,q⟩=>?_;subst ex;obtain⟨t,rfl⟩:=r1;cases ha:x.cps.all (· < 128)
 ·exact wpAny_pyIter_wide ha (CM (tk:=s1.toks) I1 _ (wM _ x t "str_iterator" (.inr rfl)) ⟨_,Md _ rfl,rfl,rfl⟩ q)
 ·exact wpAny_pyIter_ascii ha (CM (tk:=s1.toks) I1 _ (wM _ x t "str_ascii_iterator" (.inl rfl)) ⟨_,Md _ rfl,rfl,rfl⟩ q)
section
variable{prog:Program}{w:World}{A:Around}{E:Value->Shared->Prop}{s:Shared}
theorem AY{d:Addr}{o:Obj}{es:Array DictEntry}{ep:Nat}{Q:Value->Shared->Prop}(hd:(d==sysModules)=false)(ho:s.heap.get? d=some o)(hc:o.ExactDict)(hdat:o.data=.dict es ep)(hQ:Q (.ref s.heap.objs.size) {s with heap:=s.heap.push {cls:=.type "dict_keyiterator",data:=.fields #[.ref d,.int 0 0,.int es.size 0,.int ep 0]}}):
  wpAny (model prog w) A (pyIter (.ref d)) Q E s:=by
 have hT:s.TypeIs (.ref d) "dict":=⟨o,ho,hc.1⟩;refine wpAny_pyIter_slot hT F.slot_dict_iter (Og F.slot_dict_iter hT F.entry_dict_iter ?_ (F.args_dict_iter_1 _));unfold Builtin.«dict.__iter__»;refine Lb ?_;unfold Builtin.Dict.dictSlotNone;refine Lb (wpAny_notOrdered_dict hT ?_);show wpAny _ _ (pure (Value.ref d)) _ _ s;refine Lm ?_;show wpAny _ _ (Builtin.Dict.showsAll d >>= _) _ _ s;unfold Builtin.Dict.showsAll;rw[Ld (by rw[hd];exact Mc)];refine Lb (Lm ?_);refine Lb (Py ho hdat ?_);refine Lb (Rj ho hdat ?_);refine Lb (Od (Lm ⟨_,rfl,"dict_keyiterator",_,⟨_,Md _ rfl,rfl⟩,F.slot_dict_keyiterator_next.lookup,?_⟩));simpa[rawInt] using hQ
theorem tM{it d:Addr}{i n ep:Nat}{od:Obj}{es:Array DictEntry}{en:DictEntry}{Q:Option Value->Shared->Prop}(hit:s.heap.IsKeyIter it d i n ep)(hod:s.heap.get? d=some od)(hdd:od.data=.dict es ep)(hsz:es.size=n)(hx:es[i]?=some en)(hQ:∀h',h'.IsKeyIter it d (i+1) n ep->Heap.SameBut it s.heap h'->Q (some en.key) {s with heap:=h'}):wpAny (model prog w) A (pyNext (.ref it)) Q E s:=by
 obtain⟨o,ho,hc,hd⟩:=id hit;unfold pyNext;refine Lb (Sd (Nu (name:=Str.ofString "__next__") hit.typeIs Po
  (Og Po hit.typeIs F.entry_dict_keyiterator_next ?_ (F.args_dict_keyiterator_next_1 _))))
 refine Lb (Lm ?_);refine Lb ?_;refine Lb ?_
 first |refine Lb (Pl hit.typeIs (Lm ?_)) |refine Lb (Qc hit.typeIs (Lm ?_))
 refine Lb (wpAny_fieldsOf ho hd ?_);have hown:Builtin.Dict_items.ownsTuple "dict_keyiterator"=false:=by decide
 simp only[hown,No,On];show wpAny _ _ (if(Value.ref d==Value.none)=true then _ else _) _ _ s;rw[Ld (show ¬((Value.ref d==Value.none)=true) from Mc)];refine Lb (Lm ?_);refine Lb (Py hod hdd ?_);rw[Ld (by rw[hsz];simp)];refine Lb (Lm ?_);refine Lb (Rj hod hdd ?_);rw[Ld (by simp)];refine Lm ?_;obtain⟨hlt',hen⟩:=Array.getElem?_eq_some_iff.mp hx;simp only[show ¬((i:Int)<0) from by omega,On,Nh,Array.getElem?_eq_getElem hlt'];refine Lb ?_
 first |refine Lb (Pl hit.typeIs (Lm ?_)) |refine Lb (Qc hit.typeIs (Lm ?_))
 refine Lb (wpAny_isOneOf_keyiter hit.typeIs ?_);show wpAny _ _ (setField (.ref it) 1 (rawInt ((i:Int)+1)) >>= _) _ _ s;refine Lb (wpAny_setField ho hd (by simp) ?_);have hit':(s.heap.update it (Obj.mapFields (·.setIfInBounds 1 (rawInt ((i:Int)+1))))).IsKeyIter it d (i+1) n ep:=
  ⟨_,Heap.get?_update_self _ ho (Obj.isFreed_of_fields (Rn hd _)),(Obj.cls_mapFields ..).trans hc,by rw[Rn hd];simp[rawInt]⟩
 refine Lb (Oq ?_);refine Lb (wpAny_isOneOf_keyiter (s:={s with heap:=s.heap.update it (Obj.mapFields (·.setIfInBounds 1 (rawInt ((i:Int)+1))))}) hit'.typeIs ?_);show wpAny _ _ (pure es[i].key) _ _ _;rw[hen];exact Lm (Lm ⟨_,rfl,Lm (hQ _ hit' (Qk ..))⟩)
theorem vq{it d:Addr}{i n ep:Nat}{od:Obj}{es:Array DictEntry}{Q:Option Value->Shared->Prop}(hh:A.handled=none)(hit:s.heap.IsKeyIter it d i n ep)(hod:s.heap.get? d=some od)(hdd:od.data=.dict es ep)(hsz:es.size=n)(hge:n<=i)(hQ:∀h',Heap.ExtBut it s.heap h'->Q none {s with heap:=h'}):wpAny (model prog w) A (pyNext (.ref it)) Q E s:=by
 obtain⟨o,ho,hc,hd⟩:=id hit;unfold pyNext;refine Lb (Sd (Nu (name:=Str.ofString "__next__") hit.typeIs Po
  (Og Po hit.typeIs F.entry_dict_keyiterator_next ?_ (F.args_dict_keyiterator_next_1 _))))
 refine Lb (Lm ?_);refine Lb ?_;refine Lb ?_
 first |refine Lb (Pl hit.typeIs (Lm ?_)) |refine Lb (Qc hit.typeIs (Lm ?_))
 refine Lb (wpAny_fieldsOf ho hd ?_);have hown:Builtin.Dict_items.ownsTuple "dict_keyiterator"=false:=by decide
 simp only[hown,No,On];show wpAny _ _ (if(Value.ref d==Value.none)=true then _ else _) _ _ s;rw[Ld (show ¬((Value.ref d==Value.none)=true) from Mc)];refine Lb (Lm ?_);refine Lb (Py hod hdd ?_);rw[Ld (by rw[hsz];simp)];refine Lb (Lm ?_);refine Lb (Rj hod hdd ?_);rw[Ld (by simp)];refine Lm ?_;have hge':es.size<=i:=by rw[hsz];exact hge
 simp only[show ¬((i:Int)<0) from by omega,On,Nh,Array.getElem?_eq_none hge'];refine Lb ?_
 first |refine Lb (Pl hit.typeIs (Lm ?_)) |refine Lb (Qc hit.typeIs (Lm ?_))
 show wpAny _ _ (setField (.ref it) 0 .none >>= _) _ _ s;refine Lb (wpAny_setField ho hd (by simp) ?_);show wpAny _ _ (newExc (.type "StopIteration") [] >>= _) _ _ _;refine Lb ?_;simp only[newExc,newTuple];refine Lb (Od ?_ (by size_fits));refine Lb (m:=firstArgMember _ _) (wpAny_of_eq (a:=Value.none) (by first |rfl |(simp only[firstArgMember];rfl)) ?_);refine Od ?_ (by size_fits);simp only[raiseNew];refine Lb (wpAny_handled ?_);rw[show A.in1.handled=none from hh];refine Lb (Lm (wpAny_throw ?_));refine Lb (Sf (T :="StopIteration") (b:=true) ⟨_,Md _ rfl,rfl⟩ isSubtype_stop ?_);exact Lm (hQ _ (((Qk ..).extBut.push _).push _))
end
theorem yF{α β:Type}{G:α->β->Prop}{l₁:List α}{l₂:List β}(h:Paired G l₁ l₂):∀{i:Nat} {a:α},l₁[i]?=some a->∃b,l₂[i]?=some b/\G a b:=by
 induction h with
 |nil=>intro i a e;simp at e
 |@cons a b l₁ l₂ r t ih=>
  intro i a' e;cases i with
  |zero=>simp only[List.getElem?_cons_zero,Option.some.injEq]at e;subst e;exact⟨b,rfl,r⟩
  |succ j=>simp only[List.getElem?_cons_succ]at e ⊢;exact ih e
def FM(K:PySem.W.Frag)(a:Addr):It:=
 ⟨λ i H=>∃(xs:List V) (x:V),SqL K H a xs/\xs[i]?=some x,λ i H v H'=>∃T x,v=.ref T/\H T=none/\H'=upd H T (.tup [.int (i:Nat),x])/\∀xs,SqL K H a xs->xs[i]?=some x,λ i H=>∃xs:List V,SqL K H a xs/\xs.length<=i⟩
theorem AZ{P:Program}{w:World}{K:PySem.W.Frag}{elts:List Expr}{kk:Nat}{tpos:Pos}(a e it:Addr):
  vg P w K (.Tuple elts kk tpos) (FM K a) [e,it] e (λ i h=>(∃old,IsEnum h e it ((i:Nat):Int) old)/\h.IsListIter it a i/\e≠it) where
 mem:=by simp
 obj:=λ i h st b hb=>by
  obtain⟨⟨old,he⟩,⟨o,ho,hc,hd⟩,_⟩:=st;have e':b=e\/b=it:=by simpa using hb
  rcases e' with z |z
  ·rw[z];exact⟨_,he,λ v q=>nomatch q⟩
  ·rw[z];exact⟨o,ho,λ v q=>by rw[hd]at q;cases q⟩
 keep:=λ i h h' st k=>let⟨⟨old,he⟩,hi,hne⟩:=st;⟨⟨old,k e (by simp) _ he⟩,hi.at λ o q=>k it (by simp) o q,hne⟩
 item:=by
  intro X hP hw hK hc i pins s σ H E I hf st hg;subst hP hw hK;obtain⟨⟨old,he⟩,hit,hne⟩:=st;obtain⟨xs,x,hq,hx⟩:=hg;obtain⟨its,rv,p,hz⟩:=I.list hq;obtain⟨u,hu,ru⟩:=rv.get hx;have hel:e<s.heap.objs.size:=Mf he;have hil:it<s.heap.objs.size:=by obtain⟨_,q,_⟩:=hit;exact Mf q
  refine wpAny_pyNext_enum_item he hit p.isList (x:=u) (by simpa using hu) hne λ h' ho hit' hT hsz hk=>?_;refine⟨_,rfl,Rc (s:={s with heap:=h',toks:=s.toks+1}) ho λ h'' he' sb=>?_⟩;have hT2:h''.get? s.heap.objs.size=some {cls:=.type "tuple",data:=.seq #[.int i s.toks,u]}:=(sb.2 _ (Qt hel)).trans hT;have new:cO X.prog X.w (upd H s.heap.objs.size (.tup [.int (i:Nat),x])) h'' s.heap.objs.size (.tup [.int (i:Nat),x]):=
   ⟨by show 2<=sizeLine;decide,[.int i s.toks,u],.cons ⟨_,rfl⟩ (.cons ru .nil),⟨_,hT2,rfl,_,rfl⟩⟩
  have I1:aO X pins σ (upd H s.heap.objs.size (.tup [.int (i:Nat),x])) {s with heap:=h'',toks:=s.toks+1}:=
   I.turnedNew (ch:=[e,it]) (λ b ob hb q=>(sb.2 b (λ z=>hb (by simp[z]))).trans (hk b ob (λ z=>hb (by simp[z])) (λ z=>hb (by simp[z])) q)) hf (Lf _) new
  refine⟨.ref s.heap.objs.size,_,I1,rfl,⟨_,x,rfl,I.hok.fresh (Lf _),rfl,λ ys hy=>by rw[I.list_inj hy hq];exact hx⟩,⟨⟨u,?_⟩,hit'.at λ o q=>(sb.2 it (Ne.symm hne)).trans q,hne⟩,λ b hb=>?_⟩
  ·have e1:((i+1:Nat):Int)=(i:Int)+1:=by omega
   rw[e1];exact he'
  ·have hb':b<s.heap.objs.size:=by
    have e':b=e\/b=it:=by simpa using hb
    rcases e' with z |z
    ·rw[z];exact hel
    ·rw[z];exact hil
   rw[am (Ng hb')];exact(hf b hb).1
 done:=by intro X hP hw hK hc i pins s σ H E I hf st hg;subst hP hw hK;obtain⟨⟨old,he⟩,hit,hne⟩:=st;obtain⟨xs,hq,hx⟩:=hg;obtain⟨its,rv,p,hz⟩:=I.list hq;obtain⟨f0,f1,f2,f3,f4,f5⟩:=hf it (by simp);have hl:=rv.length;exact wpAny_pyNext_enum_end (I.ok.hd hc) he hit p.isList (by simp;omega) λ h' eb=>⟨rfl,I.turned (t':=s.toks) (λ b o hb q=>eb b o hb q) f0 f1 f3 f4 f5⟩
 self:=λ A i s Q E st h=>let⟨⟨_,he⟩,_⟩:=st;Pz he h
def HM(K:PySem.W.Frag)(ta:TA):TI:=λ σ H R=>ta σ H λ vs H1=>∃a xs,vs=[.ref a]/\SqL K H1 a xs/\R (FM K a) H1
theorem vt{X:Cx}{e:Expr}{ta:TA}{p pos tpos:Pos}{elts:List Expr}{kk:Nat}(hg:Gl X "enumerate")(hm:X.mg "enumerate"=none)(ha:PA X [e] ta)(hs:starEach [e] X.env=[(false,eval e X.env)]:=by rfl):
  PI X (.Tuple elts kk tpos) (.Call (.Name "enumerate" p) [e] [] pos) (HM X.K ta):=by
 intro pins s σ H R I h;refine Call_ (mh I hg hm boot_enumerate (Ov (cR (ha pos pins s σ H _ I h) λ us s1 ⟨vs,H1,I1,r1,q1⟩=>?_) hs rfl));obtain⟨a,xs,ex,hq,q⟩:=q1;subst ex;cases r1 with
 |cons r rr=>
  cases rr;cases r;obtain⟨its,rv,p',hz⟩:=I1.list hq;refine call_enumerate_list p'.isList λ h' he hit hsz hk=>Pz he ?_;have I2:aO X pins σ H1 {s1 with heap:=h'}:=I1.kept (t':=s1.toks) hk;refine⟨s1.heap.objs.size+1,[s1.heap.objs.size+1,s1.heap.objs.size],_,_,H1,rfl,I2,AZ a (s1.heap.objs.size+1) s1.heap.objs.size,⟨⟨.none,he⟩,hit,Nat.succ_ne_self _⟩,λ b hb=>?_,q⟩;have e':b=s1.heap.objs.size+1\/b=s1.heap.objs.size:=by simpa using hb
  have hle:s1.heap.objs.size<=b:=by
   rcases e' with z |z
   ·rw[z];exact Pa _ _
   ·rw[z];exact Lf _
  exact I1.fpOk hle (I1.hok.fresh hle)
abbrev CX0:Cw:=λ _ _ _ _ _ _=>False
abbrev E0:XK:=λ _ _ _=>False
theorem wN{X:Cx}:kc CX0 X E0:=λ _ _ _ _ _ _ _ h=>h.elim
structure mX(K:PySem.W.Frag)(x qual:Str)(st:Stmt)(f:Addr)(fd:FuncData):Prop where
 ex:∃(oc:Value) (od:Option Addr) (kV doc pm:Value) (an:Option Addr) (cdv ct:Value) (osl:Array (Option Value)),
  fd=PySem.W.fnOf x qual (eR st) (dM st) (aB st) .none kV doc pm an cdv ct/\K.lookup f=some ⟨oc,od,.func fd,osl⟩/\PySem.W.codeIn K cdv qual=true
 kp:PySem.W.keepIn K (.ref f)=true
section
variable{P:Program}{w:World}{K:PySem.W.Frag}{mg:Str->Option Value}{base:Heap}
theorem mX.ok{x qual:Str}{st:Stmt}{f:Addr}{fd:FuncData}{N ps:List Str}{k:Nat}{sp:Sp}(F:mX K x qual st f fd)(S:ie N ps (aB st))(len:∀vs H Q E,sp vs H Q E->vs.length=ps.length)(hbody:∀(cdv:Value) (A:Around) (outer:List Env) (s:Shared) (H:Hp) (vs:List V) (Q:VK) (E:XK),eB k (A.deeper (envOfC qual (aB st) s.heap.objs.size f cdv))->sp vs H Q E->
   ∃t,yi (yu CX0 P w K mg base N qual (aB st) f cdv A outer s H E).nox (dM st) t/\t {nx:=λ _ H'=>Q .non H',rt:=Q} (ke N vs) H):lJ P w K mg base CX0 (k+1) f fd ps sp:=by
 obtain⟨oc,od,kV,doc,pm,an,cdv,ct,osl,rfl,lk,hcd⟩:=F.ex;refine HA lk hcd S len λ A outer s H vs Q E hr hsp=>?_;obtain⟨t,h,q⟩:=hbody cdv A outer s H vs Q E hr hsp;exact⟨t,h.nox,q⟩
theorem mX.binds{x qual:Str}{st:Stmt}{f:Addr}{fd:FuncData}{ps:List Str}(F:mX K x qual st f fd)(h:∀(kV doc pm:Value) (an:Option Addr) (cdv ct:Value) (us:List Value),us.length=ps.length->bindArgs (PySem.W.fnOf x qual (eR st) (dM st) (aB st) .none kV doc pm an cdv ct) ⟨us,[]⟩=pure (ps.zip us)):iS K fd ps []:=by obtain⟨oc,od,kV,doc,pm,an,cdv,ct,osl,rfl,lk,hcd⟩:=F.ex;exact .all (h kV doc pm an cdv ct)
theorem yG{x qual:Str}{st:Stmt}{f:Addr}{oc:Value}{od an:Option Addr}{osl:Array (Option Value)}{kV doc pm cdv ct:Value}(l:K.lookup f=some ⟨oc,od,.func (PySem.W.fnOf x qual (eR st) (dM st) (aB st) .none kV doc pm an cdv ct),osl⟩)(c:PySem.W.codeIn K cdv qual=true)(k:PySem.W.keepIn K (.ref f)=true):mX K x qual st f (PySem.W.fnOf x qual (eR st) (dM st) (aB st) .none kV doc pm an cdv ct):=⟨⟨oc,od,kV,doc,pm,an,cdv,ct,osl,rfl,l,c⟩,k⟩
end
theorem Ac{A:Around}{k:Nat}(hr:eB k A):A.units+1<cLine:=Lq (Nat.add_le_add_left (by decide:1<=64) _) hr.units
section
variable{X:Cx}
theorem pv(i:Nat){x:Str}{pos:Pos}(hN:X.N[i]?=some x:=by rfl)(hv:Hj X.env.scope x:=by first |exact Or.inl rfl |exact Or.inr (Or.inl rfl) |exact Or.inr (Or.inr rfl))(hd:(x==("__debug__":Str))=false:=by decide)(hcd:(x==("__classdict__":Str))=false:=by decide):PE X (.Name x pos) (gr i):=FX hN hv hd hcd
end
theorem fH{A B:Prop}(h:B):if false=true then A else B:=by rw[Ld Mc];exact h
theorem fg{A B:Prop}(h:A):if true=true then A else B:=by rw[Le rfl];exact h
theorem au{c A B:Prop}[Decidable c](h1:c->A)(h2:¬c->B):if c then A else B:=by
 by_cases h:c
 ·rw[Le h];exact h1 h
 ·rw[Ld h];exact h2 h
def ae(H H':Hp):Prop:=∀b o,H b=some o->H' b=some o
theorem ae.refl(H:Hp):ae H H:=λ _ _ h=>h
theorem ae.trans{H H1 H2:Hp}(a:ae H H1)(b:ae H1 H2):ae H H2:=λ c o h=>b c o (a c o h)
theorem ae.free{H H':Hp}(e:ae H H'){l:Addr}(h:H' l=Option.none):H l=Option.none:=by
 cases q:H l with
 |none=>rfl
 |some o=>rw[e l o q]at h;cases h
theorem ae.seq{K:PySem.W.Frag}{H H':Hp}{a:Addr}{xs:List V}(e:ae H H')(h:SqL K H a xs):SqL K H' a xs:=by
 rcases h with(h |⟨o,h⟩) |h
 ·exact .inl (.inl (e _ _ h))
 ·exact .inl (.inr ⟨o,e _ _ h⟩)
 ·exact .inr h
theorem mY{xs:List V}{z:Int}{j:Nat}{v:V}(e:z=(j:Int))(h:xs[j]?=some v):Cd xs z=some v:=by rw[e];exact aT h
end L2
namespace Tw
open PySem PySem.Spec PyProof.Rows L2
theorem l0{us:List Value}(z:us.length=0):us=[]:=List.eq_nil_of_length_eq_zero z
theorem l1{us:List Value}(z:us.length=1):∃x0,us=[x0]:=by
 cases us with
 |nil=>cases z
 |cons a r=>exact⟨a,by rw[l0 (Sg z)]⟩
theorem l2{us:List Value}(z:us.length=2):∃x0 x1,us=[x0,x1]:=by
 cases us with
 |nil=>cases z
 |cons a r=>obtain⟨x1,rfl⟩:=l1 (Sg z);exact⟨a,x1,rfl⟩
theorem l3{us:List Value}(z:us.length=3):∃x0 x1 x2,us=[x0,x1,x2]:=by
 cases us with
 |nil=>cases z
 |cons a r=>obtain⟨x1,x2,rfl⟩:=l2 (Sg z);exact⟨a,x1,x2,rfl⟩
theorem l4{us:List Value}(z:us.length=4):∃x0 x1 x2 x3,us=[x0,x1,x2,x3]:=by
 cases us with
 |nil=>cases z
 |cons a r=>obtain⟨x1,x2,x3,rfl⟩:=l3 (Sg z);exact⟨a,x1,x2,x3,rfl⟩
theorem l5{us:List Value}(z:us.length=5):∃x0 x1 x2 x3 x4,us=[x0,x1,x2,x3,x4]:=by
 cases us with
 |nil=>cases z
 |cons a r=>obtain⟨x1,x2,x3,x4,rfl⟩:=l4 (Sg z);exact⟨a,x1,x2,x3,x4,rfl⟩
theorem u1{p:Value->Value->Value->Option Addr->Value->Value->List Value->Prop}(h:∀a b c d e f x0,p a b c d e f [x0])(a b c:Value)(d:Option Addr)(e f:Value)(us:List Value)(z:us.length=1):p a b c d e f us:=by obtain⟨x0,rfl⟩:=l1 z;exact h _ _ _ _ _ _ _
theorem u2{p:Value->Value->Value->Option Addr->Value->Value->List Value->Prop}(h:∀a b c d e f x0 x1,p a b c d e f [x0,x1])(a b c:Value)(d:Option Addr)(e f:Value)(us:List Value)(z:us.length=2):p a b c d e f us:=by obtain⟨x0,x1,rfl⟩:=l2 z;exact h _ _ _ _ _ _ _ _
theorem u3{p:Value->Value->Value->Option Addr->Value->Value->List Value->Prop}(h:∀a b c d e f x0 x1 x2,p a b c d e f [x0,x1,x2])(a b c:Value)(d:Option Addr)(e f:Value)(us:List Value)(z:us.length=3):p a b c d e f us:=by obtain⟨x0,x1,x2,rfl⟩:=l3 z;exact h _ _ _ _ _ _ _ _ _
theorem u4{p:Value->Value->Value->Option Addr->Value->Value->List Value->Prop}(h:∀a b c d e f x0 x1 x2 x3,p a b c d e f [x0,x1,x2,x3])(a b c:Value)(d:Option Addr)(e f:Value)(us:List Value)(z:us.length=4):p a b c d e f us:=by obtain⟨x0,x1,x2,x3,rfl⟩:=l4 z;exact h _ _ _ _ _ _ _ _ _ _
theorem u5{p:Value->Value->Value->Option Addr->Value->Value->List Value->Prop}(h:∀a b c d e f x0 x1 x2 x3 x4,p a b c d e f [x0,x1,x2,x3,x4])(a b c:Value)(d:Option Addr)(e f:Value)(us:List Value)(z:us.length=5):p a b c d e f us:=by obtain⟨x0,x1,x2,x3,x4,rfl⟩:=l5 z;exact h _ _ _ _ _ _ _ _ _ _ _
theorem cj{N ps:List Str}{sc:Scope}(a:sc.kind=.function:=by rfl)(b:sc.isCoroutine=false:=by rfl)(c:sc.isGenerator=false:=by rfl)(d:N.Nodup:=by decide +kernel)(e:N.take ps.length=ps:=by rfl)(f:∀x∈ps,sc.names.lookup x=some .local\/sc.names.lookup x=some .cell:=by decide +kernel)(g:∀y∈sc.names,y.2≠.free:=by decide +kernel):ie N ps sc:=⟨a,b,c,d,e,f,g⟩
structure Lc where
 P:Program
 w:World
 b:Heap
 f:Addr
 c:Value
 A:Around
 O:List Env
 s:Shared
def Gr(N:List Str)(x:Str)(sc:Scope)(K:PySem.W.Frag)(mg:Str->Option Value)(l:Lc)(H:Hp)(E:XK):Cx:=(yu CX0 l.P l.w K mg l.b N x sc l.f l.c l.A l.O l.s H E).nox
structure aY(P:Program)(w:World)(K:PySem.W.Frag)(mg:Str->Option Value)(base:Heap)(k:Nat)(x:Str)(ps:List Str)(sp:Sp):Prop where
 ex:∃(f:Addr) (fd:FuncData),mg x=some (.ref f)/\PySem.W.keepIn K (.ref f)=true/\iS K fd ps []/\lJ P w K mg base CX0 k f fd ps sp
def aW(K:PySem.W.Frag)(mg:Str->Option Value)(x:Str)(st:Stmt):Prop:=∃f fd,mX K x x st f fd/\mg x=some (.ref f)
theorem aW.good{P:Program}{w:World}{K:PySem.W.Frag}{mg:Str->Option Value}{base:Heap}{x:Str}{st:Stmt}{k:Nat}{N ps:List Str}{sp:Sp}(F:aW K mg x st)(S:ie N ps (aB st))(hbody:∀(l:Lc) (H:Hp) (vs:List V) (Q:VK) (E:XK),eB k (l.A.deeper (envOfC x (aB st) l.s.heap.objs.size l.f l.c))->(l.A.deeper (envOfC x (aB st) l.s.heap.objs.size l.f l.c)).units+64<cLine->(l.A.deeper (envOfC x (aB st) l.s.heap.objs.size l.f l.c)).units+1<cLine->N.Nodup->sp vs H Q E->
   ∃t,yi (Gr N x (aB st) K mg l H E) (dM st) t/\t {nx:=λ _ H'=>Q .non H',rt:=Q} (ke N vs) H)(hb:∀(kV doc pm:Value) (an:Option Addr) (cdv ct:Value) (us:List Value),us.length=ps.length->bindArgs (PySem.W.fnOf x x (eR st) (dM st) (aB st) .none kV doc pm an cdv ct) ⟨us,[]⟩=pure (ps.zip us):=by first |exact u1 λ _ _ _ _ _ _ _=>rfl |exact u2 λ _ _ _ _ _ _ _ _=>rfl |exact u3 λ _ _ _ _ _ _ _ _ _=>rfl |exact u4 λ _ _ _ _ _ _ _ _ _ _=>rfl |exact u5 λ _ _ _ _ _ _ _ _ _ _ _=>rfl)(len:∀vs H Q E,sp vs H Q E->vs.length=ps.length:=by intro vs H Q E h;first |(obtain⟨_,_,_,e,_,hl,_⟩:=h;subst e;exact Na (· + 1) hl) |(repeat (first |(obtain⟨e,_⟩:=h;subst e;rfl) |obtain⟨_,h⟩:=h))):aY P w K mg base (k+1) x ps sp:=by
 obtain⟨f,fd,F,hm⟩:=F;exact⟨f,fd,hm,F.kp,F.binds hb,F.ok S len λ cdv A outer s H vs Q E hr h=>hbody ⟨P,w,base,f,cdv,A,outer,s⟩ H vs Q E hr hr.units (Ac hr) S.nd h⟩
section
variable{X:Cx}{k j:Nat}{x m:Str}{ps:List Str}{sp:Sp}{t:TA}{e o:Expr}{es:List Expr}{p pos apos:Pos}{ta:TE}{C:Addr}
theorem az(G:aY X.prog X.w X.K X.mg X.base k x ps sp)(hr:eB j X.A)(ha:PA X (e::es) t)(hk:k<=j:=by decide)(hg:Gl X x:=by rfl)(hdb:(x==("__debug__":Str))=false:=by decide)(he:starEach (e::es) X.env=(false,eval e X.env):: starEach es X.env:=by rfl)(hpl:(backTo pos (starEach es X.env)).any (·.1)=false:=by rfl):PE X (.Call (.Name x p) (e::es) [] pos) (wv sp [] E0 t):=by obtain⟨f,fd,hm,kp,b,F⟩:=G.ex;exact Er F (hr.mono hk) hg hm kp b .nil wN ha hdb he hpl
theorem af{n:Int}(h:∃tk,X.mg x=some (.int n tk))(hg:Gl X x:=by rfl)(hd:(x==("__debug__":Str))=false:=by decide):PE X (.Name x pos) (tC (.int n)):=by obtain⟨tk,h⟩:=h;exact Ei hg h ⟨tk,rfl⟩ hd
structure qk(K:PySem.W.Frag)(mg:Str->Option Value)(x:Str)(C:Addr):Prop where
 mg:mg x=some (.ref C)
 cl:wu K C
structure jN(P:Program)(w:World)(K:PySem.W.Frag)(mg:Str->Option Value)(base:Heap)(k:Nat)(x:Str)(C:Addr)(ps:List Str)(sp:Sp):Prop where
 ex:∃(f:Addr) (fd:FuncData),mg x=some (.ref C)/\Mk K C f/\iS K fd ps []/\lJ P w K mg base CX0 k f fd ps sp
theorem gv(G:jN X.prog X.w X.K X.mg X.base k x C ps sp)(hr:eB j X.A)(ha:PA X (e::es) t)(hk:k+1<=j:=by decide)(hg:Gl X x:=by rfl)(hdb:(x==("__debug__":Str))=false:=by decide)(he:starEach (e::es) X.env=(false,eval e X.env):: starEach es X.env:=by rfl)(hpl:(backTo pos (starEach es X.env)).any (·.1)=false:=by rfl):PE X (.Call (.Name x p) (e::es) [] pos) (wx C sp [] E0 t):=by obtain⟨f,fd,hm,M,b,F⟩:=G.ex;exact Et M F (hr.mono hk) hg hm b .nil wN ha hdb he hpl
theorem FN(G:jN X.prog X.w X.K X.mg X.base k x C ps sp)(hr:eB j X.A)(hk:k+1<=j:=by decide)(hg:Gl X x:=by rfl)(hdb:(x==("__debug__":Str))=false:=by decide):PE X (.Call (.Name x p) [] [] pos) (wx C sp [] E0 ib):=by obtain⟨f,fd,hm,M,b,F⟩:=G.ex;exact Cz M F (hr.mono hk) hg hm b .nil wN hdb
structure jO(P:Program)(w:World)(K:PySem.W.Frag)(mg:Str->Option Value)(base:Heap)(k:Nat)(C:Addr)(m:Str)(ps:List Str)(sp:Sp):Prop where
 ex:∃(f:Addr) (fd:FuncData),wu K C/\lI K C m f/\iS K fd ps []/\lJ P w K mg base CX0 k f fd ps sp
theorem mZ{pl:Sem Bool}(G:jO X.prog X.w X.K X.mg X.base k C m ps sp)(hr:eB j X.A)(ho:PE X o ta)(ha:PA X (e::es) t)(hk:k<=j:=by decide)(hst:starEach (e::es) X.env=(false,eval e X.env):: starEach es X.env:=by rfl)(hpl:(backTo pos (starEach es X.env)).any (·.1)=false:=by rfl)(ht:eval (.Call (.Attribute o m apos) (e::es) [] pos) X.env=(do
   let ov <-eval o X.env
   standAt apos.atName
   let(f,first) <-holding [ov] (getMethod ov m pl)
   callWith pos f first (backTo pos (starEach (e::es) X.env)) (backToKw pos (keywordEach [] X.env))):=by rfl):PE X (.Call (.Attribute o m apos) (e::es) [] pos) (ww C m sp [] E0 ta t):=by
 obtain⟨f,fd,c,M,b,F⟩:=G.ex;exact Es ho c M F (hr.mono hk) b .nil wN ha hst hpl ht
theorem Gs{pl:Sem Bool}(G:jO X.prog X.w X.K X.mg X.base k C m ps sp)(hr:eB j X.A)(ho:PE X o ta)(hk:k<=j:=by decide)(ht:eval (.Call (.Attribute o m apos) [] [] pos) X.env=(do
   let ov <-eval o X.env
   standAt apos.atName
   let(f,first) <-holding [ov] (getMethod ov m pl)
   callWith pos f first (backTo pos (starEach [] X.env)) (backToKw pos (keywordEach [] X.env))):=by rfl):PE X (.Call (.Attribute o m apos) [] [] pos) (ww C m sp [] E0 ta ib):=by
 obtain⟨f,fd,c,M,b,F⟩:=G.ex;exact Cy ho c M F (hr.mono hk) b .nil wN ht
end
section
variable{P:Program}{w:World}{K:PySem.W.Frag}{mg:Str->Option Value}{base:Heap}{x qual m:Str}{st:Stmt}{k:Nat}{N ps:List Str}{sp:Sp}{C:Addr}
theorem eS(hc:qk K mg x C)(F:∃f fd,mX K "__init__" qual st f fd/\Mk K C f)(S:ie N ps (aB st))(hbody:∀(l:Lc) (H:Hp) (vs:List V) (Q:VK) (E:XK),eB k (l.A.deeper (envOfC qual (aB st) l.s.heap.objs.size l.f l.c))->(l.A.deeper (envOfC qual (aB st) l.s.heap.objs.size l.f l.c)).units+64<cLine->(l.A.deeper (envOfC qual (aB st) l.s.heap.objs.size l.f l.c)).units+1<cLine->N.Nodup->sp vs H Q E->
   ∃t,yi (Gr N qual (aB st) K mg l H E) (dM st) t/\t {nx:=λ _ H'=>Q .non H',rt:=Q} (ke N vs) H)(hb:∀(kV doc pm:Value) (an:Option Addr) (cdv ct:Value) (us:List Value),us.length=ps.length->bindArgs (PySem.W.fnOf "__init__" qual (eR st) (dM st) (aB st) .none kV doc pm an cdv ct) ⟨us,[]⟩=pure (ps.zip us):=by first |exact u1 λ _ _ _ _ _ _ _=>rfl |exact u2 λ _ _ _ _ _ _ _ _=>rfl |exact u3 λ _ _ _ _ _ _ _ _ _=>rfl |exact u4 λ _ _ _ _ _ _ _ _ _ _=>rfl |exact u5 λ _ _ _ _ _ _ _ _ _ _ _=>rfl)(len:∀vs H Q E,sp vs H Q E->vs.length=ps.length:=by intro vs H Q E h;first |(obtain⟨_,_,_,e,_,hl,_⟩:=h;subst e;exact Na (· + 1) hl) |(repeat (first |(obtain⟨e,_⟩:=h;subst e;rfl) |obtain⟨_,h⟩:=h))):jN P w K mg base (k+1) x C ps sp:=by
 obtain⟨f,fd,F,M⟩:=F;exact⟨f,fd,hc.mg,M,F.binds hb,F.ok S len λ cdv A outer s H vs Q E hr h=>hbody ⟨P,w,base,f,cdv,A,outer,s⟩ H vs Q E hr hr.units (Ac hr) S.nd h⟩
theorem eT(hc:qk K mg x C)(F:∃f fd,mX K m qual st f fd/\lI K C m f)(S:ie N ps (aB st))(hbody:∀(l:Lc) (H:Hp) (vs:List V) (Q:VK) (E:XK),eB k (l.A.deeper (envOfC qual (aB st) l.s.heap.objs.size l.f l.c))->(l.A.deeper (envOfC qual (aB st) l.s.heap.objs.size l.f l.c)).units+64<cLine->(l.A.deeper (envOfC qual (aB st) l.s.heap.objs.size l.f l.c)).units+1<cLine->N.Nodup->sp vs H Q E->
   ∃t,yi (Gr N qual (aB st) K mg l H E) (dM st) t/\t {nx:=λ _ H'=>Q .non H',rt:=Q} (ke N vs) H)(hb:∀(kV doc pm:Value) (an:Option Addr) (cdv ct:Value) (us:List Value),us.length=ps.length->bindArgs (PySem.W.fnOf m qual (eR st) (dM st) (aB st) .none kV doc pm an cdv ct) ⟨us,[]⟩=pure (ps.zip us):=by first |exact u1 λ _ _ _ _ _ _ _=>rfl |exact u2 λ _ _ _ _ _ _ _ _=>rfl |exact u3 λ _ _ _ _ _ _ _ _ _=>rfl |exact u4 λ _ _ _ _ _ _ _ _ _ _=>rfl |exact u5 λ _ _ _ _ _ _ _ _ _ _ _=>rfl)(len:∀vs H Q E,sp vs H Q E->vs.length=ps.length:=by intro vs H Q E h;first |(obtain⟨_,_,_,e,_,hl,_⟩:=h;subst e;exact Na (· + 1) hl) |(repeat (first |(obtain⟨e,_⟩:=h;subst e;rfl) |obtain⟨_,h⟩:=h))):jO P w K mg base (k+1) C m ps sp:=by
 obtain⟨f,fd,F,M⟩:=F;exact⟨f,fd,hc.cl,M,F.binds hb,F.ok S len λ cdv A outer s H vs Q E hr h=>hbody ⟨P,w,base,f,cdv,A,outer,s⟩ H vs Q E hr hr.units (Ac hr) S.nd h⟩
end
section
variable{X:Cx}{K:PySem.W.Frag}
theorem tO(hK:X.K=K):gh X (.builtin "len") (λ xs H Q=>∃p ys,xs=[.ref p]/\(SqL K H p ys\/ci K H p ys)/\Q (.int ys.length) H):=hK▸aj
theorem jn{e:Expr}{f:Str}{pos:Pos}{ta:TE}(hK:X.K=K)(he:PE X e ta)(hb:attributeBase e f X.env (eval e X.env)=eval e X.env):PE X (.Attribute e f pos) (mO K ta f):=by subst hK;exact Cv he hb
end
section
variable{X:Cx}{K:PySem.W.Frag}{e:Expr}{es:List Expr}{ta te:TE}{t:TA}{f x:Str}{pos p pos':Pos}{i:Nat}{id:String}{r:List V->Hp->VK->Prop}
theorem bf(i:Nat)(hN:X.N.Nodup)(he:PE X e te)(hi:X.N[i]?=some x:=by rfl)(hx:Hb X.env.scope x:=by exact Or.inl rfl)(hs:swapsWith e (some (.Name x pos')) pos.line X.env=pure false:=by rfl)(hf:X.fn x=true\/X.env.scope.names.lookup x=some .local:=by first |exact .inl rfl |exact .inr rfl |assumption):
  PS X (.Assign [.Name x pos'] e pos) (Cm te (gW i)):=Cn hN hi hx he hs hf
theorem aC(he:PE X e ta)(hb:attributeBase e f X.env (eval e X.env)=eval e X.env:=by rfl):PE X (.Attribute e f pos) (mO X.K ta f):=Cv he hb
theorem bR(hm:X.mg "len"=none)(hc:gh X (.builtin "len") r)(ha:PA X (e::es) t)(hg:Gl X "len":=by rfl)(he:starEach (e::es) X.env=(false,eval e X.env):: starEach es X.env:=by rfl)(hpl:(backTo pos (starEach es X.env)).any (·.1)=false:=by rfl):PE X (.Call (.Name "len" p) (e::es) [] pos) (HB r t):=
 wB hc hg hm PySem.boot_len ha (by decide) (by decide) he hpl
theorem aD(ha:PE X e te)(hs:starEach [e] X.env=[(false,eval e X.env)]:=by rfl):PA X [e] (gD te ib):=ag ha aF hs
theorem dU{e2:Expr}{t2:TE}(ha:PE X e te)(hb:PE X e2 t2)(hs:starEach [e,e2] X.env=(false,eval e X.env):: starEach [e2] X.env:=by rfl)(hs2:starEach [e2] X.env=[(false,eval e2 X.env)]:=by rfl):PA X [e,e2] (gD te (gD t2 ib)):=ag ha (ag hb aF hs2) hs
theorem Ef(hm:X.mg x=none)(hc:gh X (.builtin id) r)(ha:PA X (e::es) t)(hg:Gl X x:=by rfl)(hv:bootBuiltins x=some (.builtin id):=by decide +kernel)(hn:x≠"__name__":=by decide)(hdb:(x==("__debug__":Str))=false:=by decide)(he:starEach (e::es) X.env=(false,eval e X.env):: starEach es X.env:=by rfl)(hpl:(backTo pos (starEach es X.env)).any (·.1)=false:=by rfl):PE X (.Call (.Name x p) (e::es) [] pos) (HB r t):=wB hc hg hm hv ha hn hdb he hpl
theorem uq(hm:X.mg x=none)(hc:gh X (.type id) r)(ha:PA X (e::es) t)(hg:Gl X x:=by rfl)(hv:bootBuiltins x=some (.type id):=by decide +kernel)(hn:x≠"__name__":=by decide)(hdb:(x==("__debug__":Str))=false:=by decide)(he:starEach (e::es) X.env=(false,eval e X.env):: starEach es X.env:=by rfl)(hpl:(backTo pos (starEach es X.env)).any (·.1)=false:=by rfl):PE X (.Call (.Name x p) (e::es) [] pos) (HB r t):=AR hc hg hm hv ha hn hdb he hpl
def aH{X:Cx}:=@pv X 0
def aQ{X:Cx}:=@pv X 1
def bJ{X:Cx}:=@pv X 2
def dF{X:Cx}:=@pv X 3
def jk{X:Cx}:=@pv X 4
theorem HN{A G R:Prop}(f:(A->G)->R)(k:A->G):R:=f k
theorem JK{A G:Addr->Hp->Prop}{R:Prop}(f:(∀a h,A a h->G a h)->R)(k:∀a h,A a h->G a h):R:=f k
theorem qf{σ:L2.St}{H:Hp}{R:V->Prop}{a C dx:Addr}{fs:List (Str×V)}{v:V}(ins:H a=some (.ins C dx fs))(cl:wu K C)(na:bt K C f)(has:fs.lookup f=some v)(q:R v)(hs:σ[i]?=some (some (.ref a)):=by rfl):∃w,σ[i]?=some (some w)/\∃a C dx fs v,w=V.ref a/\H a=some (.ins C dx fs)/\wu K C/\bt K C f/\fs.lookup f=some v/\R v:=⟨_,hs,a,C,dx,fs,v,rfl,ins,cl,na,has,q⟩
theorem qi{B:Addr->List V->Prop}{R:V->Prop}{p:Addr}{xs:List V}{i:Int}{v:V}(s:B p xs)(h:Cd xs i=some v)(q:R v):∃p1 xs i1 v,V.ref p=V.ref p1/\V.int i=V.int i1/\B p1 xs/\Cd xs i1=some v/\R v:=⟨p,xs,i,v,rfl,rfl,s,h,q⟩
theorem qn{R:Int->Int->Prop}{i j:Int}(q:R i j):∃i1 j1,V.int i=V.int i1/\V.int j=V.int j1/\R i1 j1:=⟨i,j,rfl,rfl,q⟩
theorem qc{B D:Addr->List V->Prop}{N:List V->List V->Prop}{R:List V->List V->Prop}{l b:Addr}{xs zs:List V}(h1:B l xs)(h2:D b zs)(z:N xs zs)(q:R xs zs):∃l1 b1 xs zs,V.ref l=V.ref l1/\V.ref b=V.ref b1/\B l1 xs/\D b1 zs/\N xs zs/\R xs zs:=⟨l,b,xs,zs,rfl,rfl,h1,h2,z,q⟩
theorem qs{K:PySem.W.Frag}{f:Str}{H:Hp}{R:Addr->Addr->Addr->List (Str×V)->Prop}{a C dx:Addr}{fs:List (Str×V)}(ins:H a=some (.ins C dx fs))(cl:wu K C)(na:bt K C f)(n:fs.length<1000)(q:R a C dx fs):∃a1 C dx fs,V.ref a=V.ref a1/\H a1=some (.ins C dx fs)/\wu K C/\bt K C f/\fs.length<1000/\R a1 C dx fs:=⟨a,C,dx,fs,rfl,ins,cl,na,n,q⟩
theorem ql{B:Addr->List V->Prop}{R:List V->Prop}{p:Addr}{ys:List V}(s:B p ys)(q:R ys):∃p1 ys,[V.ref p]=[V.ref p1]/\B p1 ys/\R ys:=⟨p,ys,rfl,s,q⟩
end
end Tw
namespace L2
open PySem PySem.Spec PyProof.Rows
open PySem.W (WData Codec OpenSpec Well WellAll ReadsW ReadsAllW)
mutual
inductive Dw(K:PySem.W.Frag)(H:Hp):V->WData->Prop
 |non:Dw K H .non .none
 |bl (b:Bool):Dw K H (.bl b) (.bool b)
 |int (i:Int):Dw K H (.int i) (.int i)
 |str (x:Str):Dw K H (.str x) (.str x)
 |byt (b:Array UInt8):Dw K H (.byt b) (.bytes b.toList)
 |lst {a:Addr} {xs:List V} {ds:List WData}:SqL K H a xs->jP K H xs ds->Dw K H (.ref a) (.list ds)
 |tup {a:Addr} {xs:List V} {ds:List WData}:ci K H a xs->jP K H xs ds->Dw K H (.ref a) (.tuple ds)
inductive jP(K:PySem.W.Frag)(H:Hp):List V->List WData->Prop
 |nil:jP K H [] []
 |cons {v:V} {vs:List V} {d:WData} {ds:List WData}:Dw K H v d->jP K H vs ds->jP K H (v::vs) (d::ds)
end
theorem dw_ints{K:PySem.W.Frag}{H:Hp}:∀ns:List Int,jP K H (ns.map V.int) (ns.map WData.int)
 |[]=>.nil
 |n::r=>.cons (.int n) (dw_ints r)
theorem ints_dw{K:PySem.W.Frag}{H:Hp}:∀(ns:List Int) (xs:List V),jP K H xs (ns.map WData.int)->xs=ns.map V.int
 |[],xs,h=>by cases h;rfl
 |n::r,xs,h=>by
  cases h with
  |cons h1 h2=>cases h1;rw[ints_dw r _ h2]<;>rfl
section
variable{P:Program}{w:World}{K:PySem.W.Frag}{H:Hp}{h:Heap}{R:PySem.W.WRecords}{cl:Str->Option Addr}
theorem Gu{a:Addr}{xs:List V}(hok:ka P w H h)(KX:K.In h)(q:SqL K H a xs):∃(its:List Value) (o:Obj) (n:Nat),bn xs its/\h.get? a=some o/\o.cls=.type "list"/\o.data=.seq its.toArray n:=by
 rcases q with q |⟨o,its,n,e,hc,_,hd,_,hv⟩
 ·obtain⟨_,its,n,hv,e⟩:=(show cO P w H h a (.lst xs) from q.ok hok);exact⟨its,_,n,hv,e,rfl,rfl⟩
 ·exact⟨its.toList,o,n,hv,KX _ _ e,hc,by simp[hd]⟩
theorem Gv{a:Addr}{xs:List V}(hok:ka P w H h)(KX:K.In h)(q:ci K H a xs):∃(its:List Value) (o:Obj) (n:Nat),bn xs its/\h.get? a=some o/\o.cls=.type "tuple"/\o.data=.seq its.toArray n:=by
 rcases q with q |⟨o,its,n,e,hc,hd,_,hv⟩
 ·obtain⟨_,its,hv,o,e,hc,n,hd⟩:=(show cO P w H h a (.tup xs) from q.ok hok);exact⟨its,o,n,hv,e,hc,hd⟩
 ·exact⟨its.toList,o,n,hv,KX _ _ e,hc,by simp[hd]⟩
mutual
theorem Dw.reads(hok:ka P w H h)(KX:K.In h):∀(d:WData) (v:V) (u:Value),Dw K H v d->bG v u->∃as,ReadsW R cl h u d as
 |.none,_,_,x,r=>by cases x;cases r;exact⟨_,ReadsW.none⟩
 |.bool b,_,_,x,r=>by cases x;cases r;exact⟨_,ReadsW.bool b⟩
 |.int i,_,_,x,r=>by cases x;obtain⟨t,rfl⟩:=r;exact⟨_,ReadsW.int i t⟩
 |.str s,_,_,x,r=>by cases x;obtain⟨t,rfl⟩:=r;exact⟨_,ReadsW.str s t⟩
 |.bytes b,_,_,x,r=>by cases x;obtain⟨t,rfl⟩:=r;exact⟨_,ReadsW.bytes _ t⟩
 |.list ds,_,_,x,r=>by
  cases x with
  |lst hs ha=>cases r;obtain⟨its,o,n,rv,ho,hc,hd⟩:=Gu hok KX hs;obtain⟨as,hr⟩:=Dw.readsAll hok KX ds _ its ha rv;exact⟨_,ReadsW.list ho hc hd hr⟩
 |.tuple ds,_,_,x,r=>by
  cases x with
  |tup hs ha=>cases r;obtain⟨its,o,n,rv,ho,hc,hd⟩:=Gv hok KX hs;obtain⟨as,hr⟩:=Dw.readsAll hok KX ds _ its ha rv;exact⟨_,ReadsW.tuple ho hc hd hr⟩
 |.float _,_,_,x,_=>by cases x
 |.dict _,_,_,x,_=>by cases x
 |.bytearray _,_,_,x,_=>by cases x
 |.set _,_,_,x,_=>by cases x
 |.frozenset _,_,_,x,_=>by cases x
 |.obj _ _,_,_,x,_=>by cases x
theorem Dw.readsAll(hok:ka P w H h)(KX:K.In h):∀(ds:List WData) (vs:List V) (us:List Value),jP K H vs ds->bn vs us->∃as,ReadsAllW R cl h us ds as
 |[],_,_,x,r=>by cases x;cases r;exact⟨_,ReadsAllW.nil⟩
 |d::ds,_,_,x,r=>by
  cases x with
  |cons h1 h2=>
   cases r with
   |cons r1 r2=>obtain⟨as,q1⟩:=Dw.reads hok KX d _ _ h1 r1;obtain⟨bs,q2⟩:=Dw.readsAll hok KX ds _ _ h2 r2;exact⟨_,ReadsAllW.cons q1 q2⟩
end
end
mutual
def Ae:WData->Bool
 |.none=>true
 |.bool _=>true
 |.int _=>true
 |.str _=>true
 |.bytes _=>true
 |.list xs=>qm xs
 |.tuple xs=>qm xs
 |_=>false
def qm:List WData->Bool
 |[]=>true
 |x::r=>Ae x&&qm r
end
theorem wO{α:Type}{f:α->WData}(h:∀a,Ae (f a)=true):∀l:List α,qm (l.map f)=true
 |[]=>rfl
 |x::r=>by show(Ae (f x)&&qm (r.map f))=true;rw[h x,wO h r]<;>rfl
theorem km:∀(c:Codec) (a:c.denote),Ae (c.enc a)=true
 |.unit,_=>rfl
 |.bool,_=>rfl
 |.int _ _,_=>rfl
 |.nat _ _,_=>rfl
 |.u8,_=>rfl
 |.bytes _ _,_=>rfl
 |.text _ _ _ _,_=>rfl
 |.list _ _ c,a=>wO (λ x=>km c x) a
 |.pair c d,a=>by show(Ae (c.enc a.1)&&(Ae (d.enc a.2)&&true))=true;rw[km c a.1,km d a.2]<;>rfl
 |.triple c d e,a=>by show(Ae (c.enc a.1)&&(Ae (d.enc a.2.1)&&(Ae (e.enc a.2.2)&&true)))=true;rw[km c a.1,km d a.2.1,km e a.2.2]<;>rfl
 |.option c,none=>rfl
 |.option c,some x=>km c x
theorem ur:∀(cs:List Codec) (a:Codec.denoteAll cs),qm (Codec.encAll cs a)=true
 |[],_=>rfl
 |c::cs,a=>by show(Ae (c.enc a.1)&&qm (Codec.encAll cs a.2))=true;rw[km c a.1,ur cs a.2]<;>rfl
theorem mt:∀{xs:List WData} {d:WData},d∈xs->d.weight<=WData.weightAll xs
 |[],d,h=>absurd h (by simp)
 |x::r,d,h=>by
  show d.weight<=x.weight+1+WData.weightAll r;rcases Lp.mp h with e |m
  ·rw[e];omega
  ·have z:=mt m;omega
def wP:Value->V
 |.none=>.non
 |.bool b=>.bl b
 |.int i _=>.int i
 |.str x _=>.str x
 |.bytes b _=>.byt b
 |.ref a=>.ref a
 |_=>.non
def Ba(A:List Addr):Value->Prop
 |.none=>True
 |.bool _=>True
 |.int _ _=>True
 |.str _ _=>True
 |.bytes _ _=>True
 |.ref a=>a∈A
 |_=>False
theorem Ba.mono{A B:List Addr}(h:∀a∈A,a∈B):∀{u:Value},Ba A u->Ba B u:=fun{u} x=>by
 cases u with
 |ref a=>exact h a x
 |none=>trivial
 |bool b=>trivial
 |int i t=>trivial
 |str s t=>trivial
 |bytes b t=>trivial
 |_=>exact False.elim x
theorem CN{A:List Addr}{u:Value}(x:Ba A u):bG (wP u) u:=by
 cases u with
 |ref a=>rfl
 |none=>rfl
 |bool b=>rfl
 |int i t=>exact⟨t,rfl⟩
 |str s t=>exact⟨t,rfl⟩
 |bytes b t=>exact⟨t,rfl⟩
 |_=>exact False.elim x
theorem iU{A:List Addr}:∀{vs:List Value},(∀u∈vs,Ba A u)->bn (vs.map wP) vs
 |[],_=>.nil
 |u::r,h=>.cons (CN (h u (Nn ..))) (iU λ x hx=>h x (Mw _ hx))
def jQ(h:Heap)(A:List Addr)(a:Addr):Prop:=∃vs:List Value,vs.length<=sizeLine/\(∀u∈vs,Ba A u)/\
 (h.get? a=some {cls:=.type "list",data:=.seq vs.toArray}\/h.get? a=some {cls:=.type "tuple",data:=.seq vs.toArray})
theorem jQ.mono{h:Heap}{A B:List Addr}{a:Addr}(k:∀a∈A,a∈B)(x:jQ h A a):jQ h B a:=by obtain⟨vs,h1,h2,h3⟩:=x;exact⟨vs,h1,λ u hu=>(h2 u hu).mono k,h3⟩
theorem ij{P:Params}{h:Heap}:∀{vs:List Value} {ds:List WData},WellAll P h vs ds->vs.length=ds.length
 |_,_,.nil=>rfl
 |_,_,.cons _ b=>by show _+1=_+1;rw[ij b]
theorem ut{P:Params}{h:Heap}{v:Value}{ds:List WData}(x:Well P h v (.list ds)):∃(a:Addr) (vs:List Value),v=.ref a/\h.get? a=some {cls:=.type "list",data:=.seq vs.toArray}/\WellAll P h vs ds:=by
 cases x with
 |list ho hall=>exact⟨_,_,rfl,ho,hall⟩
theorem rC{P:Params}{h:Heap}{v:Value}{ds:List WData}(x:Well P h v (.tuple ds)):∃(a:Addr) (vs:List Value),v=.ref a/\h.get? a=some {cls:=.type "tuple",data:=.seq vs.toArray}/\WellAll P h vs ds:=by
 cases x with
 |tuple ho hall=>exact⟨_,_,rfl,ho,hall⟩
theorem uu{P:Params}{h:Heap}{us:List Value}{d:WData}{ds:List WData}(x:WellAll P h us (d::ds)):∃(v:Value) (vs:List Value),us=v::vs/\Well P h v d/\WellAll P h vs ds:=by
 cases x with
 |cons a b=>exact⟨_,_,rfl,a,b⟩
theorem Af{n:Nat}(h:n<=1048576):n<=sizeLine:=Ln h (by decide)
section
variable{P:Params}{h:Heap}
mutual
theorem CO:∀(d:WData) (v:Value),Well P h v d->Ae d=true->d.weight<=1048576->∃A:List Addr,Ba A v/\∀a∈A,jQ h A a
 |.none,_,x,_,_=>by cases x;exact⟨[],trivial,λ a m=>absurd m (by simp)⟩
 |.bool b,_,x,_,_=>by cases x;exact⟨[],trivial,λ a m=>absurd m (by simp)⟩
 |.int i,_,x,_,_=>by cases x;exact⟨[],trivial,λ a m=>absurd m (by simp)⟩
 |.str s,_,x,_,_=>by cases x;exact⟨[],trivial,λ a m=>absurd m (by simp)⟩
 |.bytes b,_,x,_,_=>by cases x;exact⟨[],trivial,λ a m=>absurd m (by simp)⟩
 |.list ds,_,x,p,z=>by
  obtain⟨a,vs,rfl,ho,hall⟩:=ut x;have z2:WData.weightAll ds<=1048576:=z;obtain⟨A,h1,h2⟩:=nh ds _ hall p λ d hd=>Ln (mt hd) z2;have k:∀b∈A,b∈a::A:=λ b hb=>Mw _ hb;refine⟨a::A,Nn ..,λ b hb=>?_⟩;rcases Lp.mp hb with e |m
  ·rw[e];exact⟨vs,Af (by rw[ij hall];exact Ln (PySem.W.length_le_weightAllW ds) z2),λ u hu=>(h1 u hu).mono k,.inl ho⟩
  ·exact(h2 b m).mono k
 |.tuple ds,_,x,p,z=>by
  obtain⟨a,vs,rfl,ho,hall⟩:=rC x;have z2:WData.weightAll ds<=1048576:=z;obtain⟨A,h1,h2⟩:=nh ds _ hall p λ d hd=>Ln (mt hd) z2;have k:∀b∈A,b∈a::A:=λ b hb=>Mw _ hb;refine⟨a::A,Nn ..,λ b hb=>?_⟩;rcases Lp.mp hb with e |m
  ·rw[e];exact⟨vs,Af (by rw[ij hall];exact Ln (PySem.W.length_le_weightAllW ds) z2),λ u hu=>(h1 u hu).mono k,.inr ho⟩
  ·exact(h2 b m).mono k
 |.float _,_,_,p,_=>Bool.noConfusion (show false=true from p)
 |.dict _,_,_,p,_=>Bool.noConfusion (show false=true from p)
 |.bytearray _,_,_,p,_=>Bool.noConfusion (show false=true from p)
 |.set _,_,_,p,_=>Bool.noConfusion (show false=true from p)
 |.frozenset _,_,_,p,_=>Bool.noConfusion (show false=true from p)
 |.obj _ _,_,_,p,_=>Bool.noConfusion (show false=true from p)
theorem nh:∀(ds:List WData) (vs:List Value),WellAll P h vs ds->qm ds=true->(∀d∈ds,d.weight<=1048576)->∃A:List Addr,(∀u∈vs,Ba A u)/\∀a∈A,jQ h A a
 |[],_,x,_,_=>by cases x;exact⟨[],λ u m=>absurd m (by simp),λ a m=>absurd m (by simp)⟩
 |d::ds,_,x,p,z=>by
  obtain⟨v,vs,rfl,x1,x2⟩:=uu x;have q:Ae d=true/\qm ds=true:=Bool.and_eq_true_iff.mp p;obtain⟨A,a1,a2⟩:=CO d v x1 q.1 (z d (Nn ..));obtain⟨B,b1,b2⟩:=nh ds vs x2 q.2 λ e he=>z e (Mw _ he);have kA:∀b∈A,b∈A++B:=λ b hb=>Mg.mpr (.inl hb);have kB:∀b∈B,b∈A++B:=λ b hb=>Mg.mpr (.inr hb);refine⟨A++B,λ u hu=>?_,λ b hb=>?_⟩
  ·rcases Lp.mp hu with e |m
   ·rw[e];exact a1.mono kA
   ·exact(b1 u m).mono kB
  ·rcases Mg.mp hb with m |m
   ·exact(a2 b m).mono kA
   ·exact(b2 b m).mono kB
end
end
def EE(o:Obj):Option HO:=match o.data with
 |.seq vs _=>if(o.cls==Value.type "list")=true then some (.frz o (.lst (vs.toList.map wP))) else some (.frz o (.tup (vs.toList.map wP)))
 |_=>none
def jo(K:PySem.W.Frag)(h:Heap)(A:List Addr):Hp:=λ b=>if b∈A then(if(K.lookup b).isNone=true then(h.get? b).bind EE else none) else none
def wQ(H:Hp):Prop:=∀b,H b=none\/∃o u,H b=some (.frz o u)
theorem wR(vs:List Value):EE {cls:=.type "list",data:=.seq vs.toArray}=some (.frz {cls:=.type "list",data:=.seq vs.toArray} (.lst (vs.map wP))):=by show(if(Value.type "list"==Value.type "list")=true then some (HO.frz {cls:=.type "list",data:=.seq vs.toArray} (.lst (vs.toArray.toList.map wP))) else some (HO.frz {cls:=.type "list",data:=.seq vs.toArray} (.tup (vs.toArray.toList.map wP))))=_;rw[Le (beq_self_eq_true _)]
theorem wS(vs:List Value):EE {cls:=.type "tuple",data:=.seq vs.toArray}=some (.frz {cls:=.type "tuple",data:=.seq vs.toArray} (.tup (vs.map wP))):=by show(if(Value.type "tuple"==Value.type "list")=true then some (HO.frz {cls:=.type "tuple",data:=.seq vs.toArray} (.lst (vs.toArray.toList.map wP))) else some (HO.frz {cls:=.type "tuple",data:=.seq vs.toArray} (.tup (vs.toArray.toList.map wP))))=_;rw[Ld (by decide)]
section
variable{P:Program}{w:World}{K:PySem.W.Frag}{h:Heap}{A:List Addr}
theorem qL{b:Addr}{o:Obj}(hb:b∈A)(hk:K.lookup b=none)(e:h.get? b=some o):jo K h A b=EE o:=by unfold jo;rw[Le hb,hk,Le (show(none:Option Obj).isNone=true from rfl),e]<;>rfl
theorem EF{b:Addr}{u:HO}(q:jo K h A b=some u):b∈A/\K.lookup b=none:=by
 unfold jo at q;by_cases hb:b∈A
 ·rw[Le hb]at q;cases hk:K.lookup b with
  |none=>exact⟨hb,rfl⟩
  |some o=>rw[hk,Ld (by simp)]at q;cases q
 ·rw[Ld hb]at q;cases q
theorem qM (ar : ∀ a ∈ A, jQ h A a) {b : Addr} {u : HO} (q : jo K h A b = some u) : K.lookup b = none ∧ ∃ vs : List Value, vs.length ≤ sizeLine ∧ (∀ u ∈ vs, Ba A u) ∧
    ((h.get? b = some { cls := .type "list", data := .seq vs.toArray } ∧ u = .frz { cls := .type "list", data := .seq vs.toArray } (.lst (vs.map wP))) ∨
     (h.get? b = some { cls := .type "tuple", data := .seq vs.toArray } ∧ u = .frz { cls := .type "tuple", data := .seq vs.toArray } (.tup (vs.map wP)))) := by
  obtain ⟨hb, hk⟩ := EF q
  obtain ⟨vs, h1, h2, h3⟩ := ar b hb
  refine ⟨hk, vs, h1, h2, ?_⟩
  rcases h3 with e | e
  · rw [qL hb hk e, wR] at q
    exact .inl ⟨e, (Lz q).symm⟩
  · rw [qL hb hk e, wS] at q
    exact .inr ⟨e, (Lz q).symm⟩
theorem Bb(ar:∀a∈A,jQ h A a):wQ (jo K h A):=λ b=>by
 cases q:jo K h A b with
 |none=>exact .inl rfl
 |some u=>
  obtain⟨_,vs,_,_,⟨_,e⟩ |⟨_,e⟩⟩:=qM ar q
  ·exact .inr ⟨_,_,by rw[e]⟩
  ·exact .inr ⟨_,_,by rw[e]⟩
theorem EG(ar:∀a∈A,jQ h A a):ka P w (jo K h A) h:=λ b u q=>by
 obtain⟨_,vs,h1,h2,⟨e,rfl⟩ |⟨e,rfl⟩⟩:=qM ar q
 ·exact⟨e,by rw[Ls];exact h1,vs,_,iU h2,e⟩
 ·exact⟨e,by rw[Ls];exact h1,vs,iU h2,_,e,rfl,_,rfl⟩
theorem qN{c c':Value}{vs us:List Value}(e:(some {cls:=c,data:=.seq vs.toArray}:Option Obj)=some {cls:=c',data:=.seq us.toArray}):c=c'/\vs=us:=by
 have e1:=Lz e;have e2:c=c':=Na Obj.cls e1;have e3:Data.seq vs.toArray=Data.seq us.toArray:=Na Obj.data e1;injection e3 with e4
 refine⟨e2,?_⟩;have e5:=Na Array.toList e4;simpa using e5
theorem IO(KX:K.In h)(ar:∀a∈A,jQ h A a){a:Addr}{vs:List Value}(ha:a∈A)(e:h.get? a=some {cls:=.type "list",data:=.seq vs.toArray}):(∀u∈vs,Ba A u)/\SqL K (jo K h A) a (vs.map wP):=by
 obtain⟨us,h1,h2,h3⟩:=ar a ha;have hu:us=vs:=by
  rcases h3 with q |q
  ·rw[e]at q;exact(qN q).2.symm
  ·rw[e]at q;exact absurd (Value.type.inj (qN q).1) (by decide)
 subst hu;refine⟨h2,?_⟩;cases hk:K.lookup a with
 |none=>exact .inl (.inr ⟨_,by rw[qL ha hk e,wR]⟩)
 |some o=>have e2:=KX a o hk;rw[e]at e2;obtain rfl:=Lz e2;exact .inr ⟨_,us.toArray,_,hk,rfl,rfl,rfl,by rw[Ly];exact h1,by simpa using iU h2⟩
theorem IP(KX:K.In h)(ar:∀a∈A,jQ h A a){a:Addr}{vs:List Value}(ha:a∈A)(e:h.get? a=some {cls:=.type "tuple",data:=.seq vs.toArray}):(∀u∈vs,Ba A u)/\ci K (jo K h A) a (vs.map wP):=by
 obtain⟨us,h1,h2,h3⟩:=ar a ha;have hu:us=vs:=by
  rcases h3 with q |q
  ·rw[e]at q;exact absurd (Value.type.inj (qN q).1) (by decide)
  ·rw[e]at q;exact(qN q).2.symm
 subst hu;refine⟨h2,?_⟩;cases hk:K.lookup a with
 |none=>exact .inl (.inr ⟨_,by rw[qL ha hk e,wS]⟩)
 |some o=>have e2:=KX a o hk;rw[e]at e2;obtain rfl:=Lz e2;exact .inr ⟨_,us.toArray,_,hk,rfl,rfl,by rw[Ly];exact h1,by simpa using iU h2⟩
mutual
theorem Gw{Pm:Params}(KX:K.In h)(ar:∀a∈A,jQ h A a):∀(d:WData) (v:Value),Well Pm h v d->Ae d=true->Ba A v->Dw K (jo K h A) (wP v) d
 |.none,_,x,_,_=>by cases x;exact .non
 |.bool b,_,x,_,_=>by cases x;exact .bl b
 |.int i,_,x,_,_=>by cases x;exact .int i
 |.str s,_,x,_,_=>by cases x;exact .str s
 |.bytes b,_,x,_,_=>by cases x;have z:=Dw.byt (K:=K) (H:=jo K h A) b.toArray;exact z
 |.list ds,_,x,p,hu=>by obtain⟨a,vs,rfl,ho,hall⟩:=ut x;obtain⟨h2,hs⟩:=IO KX ar hu ho;exact .lst hs (vw KX ar ds _ hall p h2)
 |.tuple ds,_,x,p,hu=>by obtain⟨a,vs,rfl,ho,hall⟩:=rC x;obtain⟨h2,hs⟩:=IP KX ar hu ho;exact .tup hs (vw KX ar ds _ hall p h2)
 |.float _,_,_,p,_=>Bool.noConfusion (show false=true from p)
 |.dict _,_,_,p,_=>Bool.noConfusion (show false=true from p)
 |.bytearray _,_,_,p,_=>Bool.noConfusion (show false=true from p)
 |.set _,_,_,p,_=>Bool.noConfusion (show false=true from p)
 |.frozenset _,_,_,p,_=>Bool.noConfusion (show false=true from p)
 |.obj _ _,_,_,p,_=>Bool.noConfusion (show false=true from p)
theorem vw{Pm:Params}(KX:K.In h)(ar:∀a∈A,jQ h A a):∀(ds:List WData) (vs:List Value),WellAll Pm h vs ds->qm ds=true->(∀u∈vs,Ba A u)->jP K (jo K h A) (vs.map wP) ds
 |[],_,x,_,_=>by cases x;exact .nil
 |d::ds,_,x,p,hu=>by obtain⟨v,vs,rfl,x1,x2⟩:=uu x;have q:Ae d=true/\qm ds=true:=Bool.and_eq_true_iff.mp p;exact .cons (Gw KX ar d v x1 q.1 (hu _ (Nn ..))) (vw KX ar ds vs x2 q.2 λ u m=>hu u (Mw _ m))
end
end
theorem Bc{P:Program}{w:World}{K:PySem.W.Frag}{mg mb:Str->Option Value}{CX:Cw}{k:Nat}{fa:Addr}{fd:FuncData}{ps:List Str}{sp:Sp}{s₁:Shared}{vals:List Value}{ds:List WData}{R:PySem.W.WRecords}{cl:Str->Option Addr}{d0:WData}(KX:K.In s₁.heap)(hns:s₁.heap.Ns mainGlobals mg)(hb:s₁.heap.Ns builtinsNs mb)(hbb:∀x:Str,x≠"__name__"->mb x=bootBuiltins x)(hlim:s₁.heap.NoLimit)(hg:s₁.gens = #[])(hwl:WellAll w.params s₁.heap vals ds)(hpl:qm ds=true)(hwt:∀d∈ds,d.weight<=1048576)(hr:eB k callerA)(F:∀base:Heap,K.In base->base.Ns mainGlobals mg->lJ P w K mg base CX k fa fd ps sp)(hbind:∀(s:Shared) (us:List Value),us.length=ps.length->BindsTo s fd ⟨us,[]⟩ (ps.zip us))(hlen:ds.length=ps.length)(hsp:∀(H:Hp) (xs:List V),wQ H->jP K H xs ds->sp xs H (λ v H'=>Dw K H' v d0) λ _ _ _=>False)(hCX:∀H e s',CX [] H s₁ (λ _ _ _=>False) e s'->False):
  codeAny (model P w) callerA (.call (.ref fa) ⟨vals,[]⟩) (λ r s'=>∃u as,r=.ok (.ret u)/\ReadsW R cl s'.heap u d0 as/\OldK s₁.heap s'.heap/\s'.os=s₁.os/\AllBare s'.gens) s₁:=by
 obtain⟨A,ho,ar⟩:=nh ds vals hwl hpl hwt;have hO:wQ (jo K s₁.heap A):=Bb ar;have hok:ka P w (jo K s₁.heap A) s₁.heap:=EG ar;have hS:=vw KX ar ds vals hwl hpl ho;have hV:=iU ho;have hK:∀b u,jo K s₁.heap A b=some u->K.lookup b=none:=λ b u q=>(qM ar q).1;have noA:∀{b:Addr} {o:Obj} {es:Array DictEntry} {ep:Nat},s₁.heap.get? b=some o->o.data=.dict es ep->jo K s₁.heap A b=none:=fun{b o es ep} e d=>by
  cases q:jo K s₁.heap A b with
  |none=>rfl
  |some u=>
   obtain⟨_,vs,_,_,⟨e2,_⟩ |⟨e2,_⟩⟩:=qM ar q
   ·rw[e2]at e;cases e;have d':Data.seq vs.toArray _=Data.dict es ep:=d;cases d'
   ·rw[e2]at e;cases e;have d':Data.seq vs.toArray _=Data.dict es ep:=d;cases d'
 generalize jo K s₁.heap A=H at hO hok hS hK noA;have base_of:∀{b:Addr} {o:Obj},s₁.heap.get? b=some o->H b=none->(vd s₁.heap H).get? b=some o:=λ e n=>Ci e n;have nsK:∀{b:Addr} {m:Str->Option Value},s₁.heap.Ns b m->(vd s₁.heap H).Ns b m:=fun{b m} ⟨o,es,ep,e,d,r⟩=>⟨o,es,ep,base_of e (noA e d),d,r⟩;have nK:∀b o,K.lookup b=some o->H b=none:=λ b o e=>by
  cases q:H b with
  |none=>rfl
  |some u=>rw[hK b u q]at e;cases e
 have hKb:K.In (vd s₁.heap H):=λ b o e=>base_of (KX b o e) (nK b o e);have hM:Ig K mg (vd s₁.heap H):=⟨hKb,nsK hns,⟨mb,nsK hb,hbb⟩,let⟨mc,h1,h2⟩:=hlim;⟨mc,nsK h1,h2⟩⟩;have e0:yr P w K mg (vd s₁.heap H) callerA [] s₁ H:=⟨rfl,hM,λ b o e=>Eh e,Nat.le_of_eq (AI _ _),trivial,λ b hb=>absurd (show b∈([]:List Addr) from hb) (by simp),hok,.of_eq hg⟩;have hl:vals.length=ps.length:=by rw[ij hwl];exact hlen
 refine Rl ((F _ hKb (nsK hns)).run callerA [] s₁ H ⟨vals,[]⟩ vals (vals.map wP) _ _ hr e0 (hbind s₁ vals hl) hV (hsp H _ hO hS)) λ r s' x=>?_;cases r with
 |error e=>exact(hCX H e s' x).elim
 |ok fl=>
  cases fl with
  |next=>exact False.elim x
  |brk=>exact False.elim x
  |cont=>exact False.elim x
  |ret u=>
   obtain⟨v,H',os,bare,un,hok',r',q⟩:=x;have kept:∀b o,s₁.heap.get? b=some o->s'.heap.get? b=some o:=λ b o e=>by
    cases q2:H b with
    |none=>exact un.keep b o e q2 (by intro z;exact absurd (show b∈([]:List Addr) from z) (by simp)) (by simp)
    |some u2=>
     rcases hO b with z |⟨ob,u3,z⟩
     ·rw[q2]at z;cases z
     ·have z2:=un.frzs b ob _ z;obtain⟨e1,_⟩:=hok b _ z;obtain⟨e2,_⟩:=hok' b _ z2;rw[e]at e1;cases e1;exact e2
   have KX':K.In s'.heap:=λ b o e=>kept b o (KX b o e);obtain⟨as,hrd⟩:=Dw.reads (R:=R) (cl:=cl) hok' KX' d0 v u q r';exact⟨u,as,rfl,hrd,OldK.of_keep kept,os,bare⟩
theorem rD{ds:List WData}(h:WData.layableAll ds=true):∀d∈ds,d.weight<=1048576:=λ d hd=>
 (PySem.W.layableW_iff.mp (Nk.mp h d hd)).2.2
theorem rE:∀(cs:List Codec) (a:Codec.denoteAll cs),(Codec.encAll cs a).length=cs.length
 |[],_=>rfl
 |c::cs,a=>by show(Codec.encAll cs a.2).length+1=cs.length+1;rw[rE cs a.2]
theorem Bd{r:OpenSpec}{k:Nat}{q:Program}{loose:List Str}{XP:(Str->Option Value)->Heap->Prop}{YP:World->Heap->Prop}{d:DefRec}{K:Params->PySem.W.Frag}{CX:World->Cw}{ps:List Str}{sp:World->Sp}(hwell:r.wellSaid=true)(hdf:d.params.defaults=[])(hlen:r.args.length=ps.length)(hr:eB k callerA)(hY:∀(w:World) (h:Heap),YP w h->(K w.params).In h)(F:∀(w:World) (mg:Str->Option Value) (fa:Addr) (h:Heap),YP w h->(K w.params).In h->h.Ns mainGlobals mg->mg d.name=some (.ref fa)->
   ∃fd:FuncData,(∀(s:Shared) (us:List Value),us.length=ps.length->BindsTo s fd ⟨us,[]⟩ (ps.zip us))/\
    ∀base:Heap,(K w.params).In base->base.Ns mainGlobals mg->lJ r.prog w (K w.params) mg base (CX w) k fa fd ps (sp w))(hsp:∀(w:World) (H:Hp) (xs:List V) (a:Codec.denoteAll r.args),wQ H->Codec.withinAll r.args a=true->Codec.app r.args r.asked a=true->jP (K w.params) H xs (Codec.encAll r.args a)->
   sp w xs H (λ v H'=>Dw (K w.params) H' v (r.ret.enc (Codec.app r.args r.f a))) λ _ _ _=>False)(hCX:∀(w:World) (H:Hp) (s:Shared) (e:Value) (s':Shared),CX w [] H s (λ _ _ _=>False) e s'->False):
  PySem.W.WalkOS q loose XP YP r d [] (λ f vs=>PySem.call f vs):=by
 intro w s_0 s₁ mg mb G Y fa o pm cd doc dV kV ho hd hcd hD hmg hg args vals as hpre hlay hrd hwl hlo;obtain⟨a,e1,e2⟩:=PySem.W.os_pre_some hpre;obtain⟨e3,hwi⟩:=Codec.encAll_of_decAll r.args args a e1;subst e3;have KX:=hY w _ Y;obtain⟨fd,hb,hF⟩:=F w mg fa _ Y KX G.T.g hmg;refine PySem.W.enter_call (Rl (Bc (R:=[]) (cl:=classAt s_0.heap) (d0:=r.ret.enc (Codec.app r.args r.f a)) KX G.T.g G.T.b G.T.builtins G.T.nolimit hg hwl (ur _ _) (rD hlay) hr hF hb (by rw[rE];exact hlen)
  (λ H xs hO hS=>hsp w H xs a hO hwi e2 hS) λ H e s'=>hCX w H s₁ e s') λ r' s' hq=>?_)
 obtain⟨u,as',rfl,h1,h2,h3,h4⟩:=hq;exact⟨.inl ⟨u,_,as',rfl,λ _=>rfl,h1,(OpenSpec.post_iff hwell hwi _ _).mpr rfl,λ z=>Bool.noConfusion (show false=true from z)⟩,h2,h3,h4⟩
theorem walk_specK{r:OpenSpec}{k:Nat}{q:Program}{loose:List Str}{XP:(Str->Option Value)->Heap->Prop}{YP:World->Heap->Prop}{d:DefRec}{K:Params->PySem.W.Frag}{CX:Cw}{ps:List Str}{sp:PySem.W.Frag->Sp}(hwell:r.wellSaid=true)(hdf:d.params.defaults=[])(hlen:r.args.length=ps.length)(hr:eB k callerA)(hY:∀(w:World) (h:Heap),YP w h->(K w.params).In h)(F:∀(w:World) (mg:Str->Option Value) (fa:Addr) (h:Heap),YP w h->(K w.params).In h->h.Ns mainGlobals mg->mg d.name=some (.ref fa)->
   ∃fd:FuncData,(∀(s:Shared) (us:List Value),us.length=ps.length->BindsTo s fd ⟨us,[]⟩ (ps.zip us))/\
    ∀base:Heap,(K w.params).In base->base.Ns mainGlobals mg->lJ r.prog w (K w.params) mg base CX k fa fd ps (sp (K w.params)))(hsp:∀(K:PySem.W.Frag) (H:Hp) (xs:List V) (a:Codec.denoteAll r.args),wQ H->Codec.withinAll r.args a=true->Codec.app r.args r.asked a=true->jP K H xs (Codec.encAll r.args a)->
   sp K xs H (λ v H'=>Dw K H' v (r.ret.enc (Codec.app r.args r.f a))) λ _ _ _=>False)(hCX:∀(H:Hp) (s:Shared) (e:Value) (s':Shared),CX [] H s (λ _ _ _=>False) e s'->False):
  PySem.W.WalkOS q loose XP YP r d [] (λ f vs=>PySem.call f vs):=
 Bd (K:=K) (CX:=λ _=>CX) (sp:=λ w=>sp (K w.params)) hwell hdf hlen hr hY F (λ w H xs a h1 h2 h3 h4=>hsp (K w.params) H xs a h1 h2 h3 h4) λ _ H s e s'=>hCX H s e s'
end L2
namespace Tw
open PySem PySem.Spec PyProof.Rows L2
open Valita (Text)
def bI(b:UInt8):Int:=(b.toNat:Int)
def bT(t:Text):List V:=t.map λ b=>V.int (bI b)
theorem jp{a b:UInt8}(h:bI a=bI b):a=b:=by unfold bI at h;exact UInt8.toNat_inj.mp (by omega)
theorem ao(t:Text):(bT t).length=t.length:=by unfold bT;rw[Ls]
theorem mv:∀{s t:Text},bT s=bT t->s=t
 |[],[],_=>rfl
 |[],_::_,h=>by cases h
 |_::_,[],h=>by cases h
 |a::s,b::t,h=>by
  have h':V.int (bI a):: bT s=V.int (bI b):: bT t:=h;injection h' with h1 h2
  injection h1 with h1
  rw[jp h1,mv h2]
theorem mw(t:Text)(i:Nat):(bT t)[i]?=(t[i]?).map λ b=>V.int (bI b):=by unfold bT;rw[Pk]
theorem EH(t:Text)(n:Nat):(bT t).drop n=bT (t.drop n):=by unfold bT;rw[List.map_drop]
theorem EI(t:Text)(n:Nat):(bT t).take n=bT (t.take n):=by unfold bT;rw[List.map_take]
theorem br(s t:Text):bT s++bT t=bT (s++t):=by unfold bT;rw[Mh]
abbrev gS:Nat:=1000000
theorem aL{n:Nat}(h:n<=gS):n<sizeLine:=Lq h (by decide)
def bN(H:Hp)(v:V)(t:Text):Prop:=∃a,v=.ref a/\H a=some (.tup (bT t))/\t.length<=gS
def FT(H:Hp)(a:Addr)(vs:List V):Prop:=∃ob,H a=some (.frz ob (.tup vs))/\ob.dict=none
def fM(H:Hp)(v:V)(ts:List Text):Prop:=∃a vs,v=.ref a/\FT H a vs/\Paired (bN H) vs ts/\ts.length<=gS
theorem FT.sq{K:PySem.W.Frag}{H:Hp}{a:Addr}{vs:List V}(h:FT H a vs):ci K H a vs:=let⟨ob,e,_⟩:=h;.inl (.inr ⟨ob,e⟩)
theorem FT.same{H H':Hp}{a:Addr}{vs:List V}(h:FT H a vs)(s:ae H H'):FT H' a vs:=let⟨ob,e,d⟩:=h;⟨ob,s _ _ e,d⟩
def vx:HO->Bool
 |.tup _=>true
 |.frz _ (.tup _)=>true
 |_=>false
def cN(H H':Hp):Prop:=∀a o,vx o=true->H a=some o->H' a=some o
theorem ae.kept{H H':Hp}(s:ae H H'):cN H H':=λ a o _ h=>s a _ h
theorem cN.trans{H H1 H2:Hp}(a:cN H H1)(b:cN H1 H2):cN H H2:=λ c o t h=>b c o t (a c o t h)
theorem cN.upd{H:Hp}{l:Addr}{o:HO}(h:∀u,vx u=true->H l≠some u):cN H (L2.upd H l o):=λ a u t e=>by rw[am (λ q=>h u t (by rw[<-q];exact e))];exact e
theorem cN.lst{H:Hp}{l:Addr}{o:HO}{xs:List V}(h:H l=some (.lst xs)):cN H (L2.upd H l o):=cN.upd λ u t q=>by rw[h]at q;cases q;cases t
theorem FT.kept{H H':Hp}{a:Addr}{vs:List V}(h:FT H a vs)(k:cN H H'):FT H' a vs:=let⟨ob,e,d⟩:=h;⟨ob,k _ _ rfl e,d⟩
theorem bN.kept{H H':Hp}{v:V}{t:Text}(h:bN H v t)(k:cN H H'):bN H' v t:=by obtain⟨a,e,h,z⟩:=h;exact⟨a,e,k _ _ rfl h,z⟩
theorem bN.same{H H':Hp}{v:V}{t:Text}(h:bN H v t)(k:ae H H'):bN H' v t:=h.kept (ae.kept k)
theorem bh{H H':Hp}{vs:List V}{ts:List Text}(h:Paired (bN H) vs ts)(k:cN H H'):Paired (bN H') vs ts:=Paired.mapP h λ _ _ r=>r.kept k
theorem fM.kept{H H':Hp}{v:V}{ts:List Text}(h:fM H v ts)(k:cN H H'):fM H' v ts:=by obtain⟨a,vs,e,h,p,z⟩:=h;exact⟨a,vs,e,h.kept k,bh p k,z⟩
theorem fM.same{H H':Hp}{v:V}{ts:List Text}(h:fM H v ts)(k:ae H H'):fM H' v ts:=h.kept (ae.kept k)
theorem ae.new{H:Hp}{p:Addr}{o:HO}(h:H p=none):ae H (upd H p o):=λ b u e=>by rw[am (ay e h)];exact e
theorem ae.upd{H0 H:Hp}{l:Addr}{o:HO}(s:ae H0 H)(h:H0 l=none):ae H0 (L2.upd H l o):=λ b u e=>by rw[am (ay e h)];exact s b u e
section
variable{X:Cx}
theorem jq{K:PySem.W.Frag}{H:Hp}:∀ns:List Int,pG K H (ns.map V.int) (ns.map PyData.int)
 |[]=>.nil
 |n::ns=>.cons (.int n) (jq ns)
theorem qO(t:Text):bT t=(t.map bI).map V.int:=by unfold bT;rw[Nl];rfl
theorem mx{K:PySem.W.Frag}{H:Hp}{v:V}{t:Text}(h:bN H v t):Dp K H v (.tuple ((t.map bI).map .int)):=by obtain⟨a,rfl,h,_⟩:=h;rw[qO]at h;exact .tup (ci.of h) (jq _)
theorem gj:∀ns:List Int,PyData.canLayAll0 (ns.map .int)=true
 |[]=>rfl
 |n::ns=>by show(PyData.canLay0 (.int n)&&PyData.canLayAll0 (ns.map .int))=true;rw[gj ns];rfl
theorem gZ:∀ns:List Int,PyData.depthAll (ns.map .int)=0
 |[]=>rfl
 |n::ns=>by show max (PyData.depth (.int n)) (PyData.depthAll (ns.map .int))=0;rw[gZ ns];rfl
theorem ik(ns:List Int):SeqAt.shaped (.tuple (ns.map .int))=true:=by unfold SeqAt.shaped;rw[Li];refine⟨gj ns,Ll ?_⟩;show PyData.depthAll (ns.map .int)+1<=64;rw[gZ];decide
theorem pI(ns:List Int):SeqAt.shaped (.list (ns.map .int))=true:=by unfold SeqAt.shaped;rw[Li];refine⟨gj ns,Ll ?_⟩;show PyData.depthAll (ns.map .int)+1<=64;rw[gZ];decide
theorem rF:∀ns ms:List Int,PyData.eqvAll (ns.map .int) (ms.map .int)=decide (ns=ms)
 |[],[]=>rfl
 |[],_::_=>rfl
 |_::_,[]=>rfl
 |n::ns,m::ms=>by
  show((n==m)&&PyData.eqvAll (ns.map .int) (ms.map .int))=decide (n::ns=m::ms);rw[rF ns ms];by_cases h:n=m
  ·subst h;simp
  ·simp[h]
theorem rG{s t:Text}:(s.map bI=t.map bI)↔s=t:=
 ⟨λ h=>mv (by rw[qO,qO,h]),λ h=>by rw[h]⟩
theorem nj(s t:Text):PyData.eqv (.tuple ((s.map bI).map .int)) (.tuple ((t.map bI).map .int))=decide (s=t):=by show PyData.eqvAll _ _=_;rw[rF];exact Qe.mpr rG
theorem iJ(hu:X.A.units+64<cLine):mN X (compareOp .Eq) (λ x y H Q=>∃s t,bN H x s/\bN H y t/\Q (.bl (decide (s=t))) H):=by intro pins s σ H x y v u Q I rx ry h;obtain⟨s1,t1,h1,h2,q⟩:=h;refine Gh hu pins s σ H x y v u Q I rx ry ⟨_,_,mx h1,mx h2,ik _,ik _,?_⟩;rw[nj];exact q
theorem rH(hu:X.A.units+64<cLine):mN X (compareOp .NotEq) (λ x y H Q=>∃s t,bN H x s/\bN H y t/\Q (.bl (!decide (s=t))) H):=by intro pins s σ H x y v u Q I rx ry h;obtain⟨s1,t1,h1,h2,q⟩:=h;refine yC hu pins s σ H x y v u Q I rx ry ⟨_,_,mx h1,mx h2,ik _,ik _,?_⟩;rw[nj];exact q
theorem Gx(hu:X.A.units+64<cLine):mN X (compareOp .NotEq) (λ x y H Q=>∃(a b:Addr) (ns ms:List Int),x=.ref a/\y=.ref b/\H a=some (.lst (ns.map V.int))/\H b=some (.lst (ms.map V.int))/\Q (.bl (!decide (ns=ms))) H):=by intro pins s σ H x y v u Q I rx ry h;obtain⟨a,b,ns,ms,rfl,rfl,h1,h2,q⟩:=h;refine yC hu pins s σ H _ _ v u Q I rx ry ⟨_,_,.lst (SqL.of h1) (jq ns),.lst (SqL.of h2) (jq ms),pI _,pI _,?_⟩;rw[show PyData.eqv (.list (ns.map .int)) (.list (ms.map .int))=decide (ns=ms) from rF ns ms];exact q
def dR(t:Text):PyData:=.tuple ((t.map bI).map .int)
theorem my{K:PySem.W.Frag}{H:Hp}:∀{vs:List V} {ts:List Text},Paired (bN H) vs ts->pG K H vs (ts.map dR)
 |_,_,.nil=>.nil
 |_,_,.cons r p=>.cons (mx r) (my p)
theorem pJ:∀ts:List Text,PyData.canLayAll0 (ts.map dR)=true
 |[]=>rfl
 |t::ts=>by show(PyData.canLayAll0 ((t.map bI).map .int)&&PyData.canLayAll0 (ts.map dR))=true;rw[pJ ts,gj];rfl
theorem rI:∀ts:List Text,PyData.depthAll (ts.map dR)<=1
 |[]=>Lj _
 |t::ts=>by show max (PyData.depthAll ((t.map bI).map .int)+1) (PyData.depthAll (ts.map dR))<=1;rw[gZ];have:=rI ts;omega
theorem pL(ts:List Text):SeqAt.shaped (.tuple (ts.map dR))=true:=by unfold SeqAt.shaped;rw[Li];refine⟨pJ ts,Ll ?_⟩;show PyData.depthAll (ts.map dR)+1<=64;have:=rI ts;omega
theorem uv:∀ss ts:List Text,PyData.eqvAll (ss.map dR) (ts.map dR)=decide (ss=ts)
 |[],[]=>rfl
 |[],_::_=>rfl
 |_::_,[]=>rfl
 |s::ss,t::ts=>by
  show(PyData.eqv (dR s) (dR t)&&PyData.eqvAll (ss.map dR) (ts.map dR))=decide (s::ss=t::ts);rw[uv ss ts,show PyData.eqv (dR s) (dR t)=decide (s=t) from nj s t];by_cases h:s=t
  ·subst h;simp
  ·simp[h]
theorem EJ(hu:X.A.units+64<cLine):mN X (compareOp .NotEq) (λ x y H Q=>∃ss ts,fM H x ss/\fM H y ts/\Q (.bl (!decide (ss=ts))) H):=by intro pins s σ H x y v u Q I rx ry h;obtain⟨ss,ts,⟨a,vs,rfl,ha,pa,_⟩,⟨b,ws,rfl,hb,pb,_⟩,q⟩:=h;refine yC hu pins s σ H _ _ v u Q I rx ry ⟨_,_,.tup ha.sq (my pa),.tup hb.sq (my pb),pL _,pL _,?_⟩;rw[show PyData.eqv (.tuple (ss.map dR)) (.tuple (ts.map dR))=decide (ss=ts) from uv ss ts];exact q
theorem uw(t:Text):(dR t).canLay0=true:=gj _
theorem wT(t:Text):(dR t).depth=1:=by show PyData.depthAll ((t.map bI).map .int)+1=1;rw[gZ]
theorem iV{pins:List (Addr×Obj)}{σ:L2.St}{H:Hp}{s:Shared}{x:V}{v:Value}{t:Text}(I:aO X pins σ H s)(rx:bG x v)(hx:bN H x t)(hu:X.A.units+64<cLine){xs:List V}{us:List Value}{ts:List Text}(r:bn xs us)(p:Paired (bN H) xs ts):∃e:Value->Bool,(∀y∈us,SeqAt.EqAt X.A.in1 s y v (e y))/\us.map e=ts.map λ z=>decide (z=t):=by
 have key:∀{xs:List V} {us:List Value} {ts:List Text},bn xs us->Paired (bN H) xs ts->(∀y∈us,∃z,∃as,Reads s.heap y (dR z) as)/\∀(e:Value->Bool),(∀y z as,Reads s.heap y (dR z) as->e y=decide (z=t))->us.map e=ts.map λ z=>decide (z=t):=by
  intro xs us ts r p
  induction p generalizing us with
  |nil=>cases r;exact⟨λ _ h=>(by cases h),λ _ _=>rfl⟩
  |cons q p ih=>
   cases r with
   |cons r1 r2=>
    obtain⟨i1,i2⟩:=ih r2;obtain⟨as,rd⟩:=Dp.reads I _ _ _ (mx q) r1;refine⟨λ y hy=>?_,λ e he=>?_⟩
    ·rcases Lp.mp hy with rfl |hy
     ·exact⟨_,_,rd⟩
     ·exact i1 y hy
    ·rw[Mp,Mp,i2 e he,he _ _ _ rd]
 obtain⟨k1,k2⟩:=key r p;obtain⟨as,rd⟩:=Dp.reads I _ _ _ (mx hx) rx
 classical
 have uniq:∀y z z' as as',Reads s.heap y (dR z) as->Reads s.heap y (dR z') as'->decide (z=t)=decide (z'=t):=by
  intro y z z' as as' h h';have:dR z=dR z':=by
   cases h with
   |tuple a1 a2 a3 a4=>
    cases h' with
    |tuple b1 b2 b3 b4=>
     rw[a1]at b1;cases b1;rw[a3]at b3;cases b3;have inj:∀{us:List Value} {ns ms:List Int} {c d:List Addr},ReadsAll s.heap us (ns.map .int) c->ReadsAll s.heap us (ms.map .int) d->ns=ms:=by
      intro us
      induction us with
      |nil=>
       intro ns ms c d h1 h2;cases ns with
       |nil=>cases ms with
        |nil=>rfl
        |cons _ _=>cases h2
       |cons _ _=>cases h1
      |cons u us ih=>
       intro ns ms c d h1 h2;cases ns with
       |nil=>cases h1
       |cons n ns=>cases ms with
        |nil=>cases h2
        |cons m ms=>
         cases h1 with
         |cons x1 x2=>cases h2 with
          |cons y1 y2=>cases x1;cases y1;rw[ih x2 y2]
     show PyData.tuple _=PyData.tuple _;rw[inj a4 b4]
  have e:z.map bI=z'.map bI:=by
   have h3:PyData.tuple ((z.map bI).map .int)=PyData.tuple ((z'.map bI).map .int):=this;injection h3 with h3
   have cl:∀{ns ms:List Int},ns.map PyData.int=ms.map PyData.int->ns=ms:=by
    intro ns
    induction ns with
    |nil=>intro ms h;cases ms with
     |nil=>rfl
     |cons _ _=>cases h
    |cons n ns ih=>intro ms h;cases ms with
     |nil=>cases h
     |cons m ms=>
      rw[Mp,Mp]at h;injection h with h1 h2
      injection h1 with h1
      rw[h1,ih h2]
   exact cl h3
  rw[rG.mp e]
 refine⟨λ y=>if h:∃z as,Reads s.heap y (dR z) as then decide (h.choose=t) else false,λ y hy=>?_,?_⟩
 ·obtain⟨z,as',h⟩:=k1 y hy;have ex:∃z as,Reads s.heap y (dR z) as:=⟨z,as',h⟩;have e1:(if h:∃z as,Reads s.heap y (dR z) as then decide (h.choose=t) else false)=decide (z=t):=by
   rw[dif_pos ex];exact uniq y _ _ _ _ ex.choose_spec.choose_spec h
  show SeqAt.EqAt X.A.in1 s y v (if h:∃z as,Reads s.heap y (dR z) as then decide (h.choose=t) else false);rw[e1,<-show PyData.eqv (dR z) (dR t)=decide (z=t) from nj z t];refine PySem.SeqAt.eqAt_reads (dR z) (dR t) _ s y v _ _ h rd (uw z) (uw t) ?_;rw[wT,wT];show X.A.in1.units+1<cLine;have:X.A.in1.units<=X.A.units+1:=by
   first |exact Lf _ |(unfold Around.in1;simp) |(simp[Around.in1])
  omega
 ·refine k2 _ λ y z as' h=>?_;have ex:∃z as,Reads s.heap y (dR z) as:=⟨z,as',h⟩;show(if h:∃z as,Reads s.heap y (dR z) as then decide (h.choose=t) else false)=_;rw[dif_pos ex];exact uniq y _ _ _ _ ex.choose_spec.choose_spec h
def Gy(neg:Bool):R2:=λ x y H Q=>∃a vs t ts,y=.ref a/\(H a=some (.lst vs)\/FT H a vs)/\Paired (bN H) vs ts/\bN H x t/\Q (.bl (if neg then !decide (t∈ts) else decide (t∈ts))) H
theorem nk{us:List Value}{e:Value->Bool}{ts:List Text}{t:Text}(h:us.map e=ts.map λ z=>decide (z=t)):us.toArray.any e=decide (t∈ts):=by
 have h1:us.toArray.any e=(us.map e).any id:=by simp[List.any_map]
 rw[h1,h,List.any_map];by_cases m:t∈ts
 ·rw[Ll m,Qx];exact⟨t,m,by simp⟩
 ·rw[Mn m,List.any_eq_false];intro z hz q;simp at q;exact m (q▸hz)
theorem Gz(hu:X.A.units+64<cLine):mN X (compareOp .In) (Gy false):=by
 intro pins s σ H x y v u Q I rx ry h;obtain⟨a,vs,t,ts,rfl,hq,p,hx,q⟩:=h;cases ry;rcases hq with hq |hq
 ·obtain⟨its,r,pl,hz⟩:=I.list (SqL.of hq);obtain⟨e,he,hm⟩:=iV I rx hx hu r p;refine SeqAt.in_listAt e pl.isList (λ w hw=>he w (by simpa using hw)) ⟨.bl _,H,I,rfl,?_⟩;rw[nk hm];exact q
 ·obtain⟨its,r,pl,hz⟩:=I.tuple hq.sq;obtain⟨e,he,hm⟩:=iV I rx hx hu r p;refine SeqAt.in_tupleAt e pl (λ w hw=>he w (by simpa using hw)) ⟨.bl _,H,I,rfl,?_⟩;rw[nk hm];exact q
theorem iW(hu:X.A.units+64<cLine):mN X (compareOp .NotIn) (Gy true):=by
 intro pins s σ H x y v u Q I rx ry h;obtain⟨a,vs,t,ts,rfl,hq,p,hx,q⟩:=h;cases ry;rcases hq with hq |hq
 ·obtain⟨its,r,pl,hz⟩:=I.list (SqL.of hq);obtain⟨e,he,hm⟩:=iV I rx hx hu r p;refine SeqAt.notIn_listAt e pl.isList (λ w hw=>he w (by simpa using hw)) ⟨.bl _,H,I,rfl,?_⟩;rw[nk hm];exact q
 ·obtain⟨its,r,pl,hz⟩:=I.tuple hq.sq;obtain⟨e,he,hm⟩:=iV I rx hx hu r p;refine SeqAt.notIn_tupleAt e pl (λ w hw=>he w (by simpa using hw)) ⟨.bl _,H,I,rfl,?_⟩;rw[nk hm];exact q
theorem Be(hu:X.A.units+64<cLine):Hc X "tuple.count" (λ x vs H Q=>∃y ts t,vs=[y]/\fM H x ts/\bN H y t/\Q (.int (ts.count t:Nat)) H):=by
 intro pins s σ H x vs v us Q I rx rv h;obtain⟨y,ts,t,rfl,⟨a,ws,rfl,ha,p,_⟩,hy,q⟩:=h;cases rx;obtain⟨u,rfl,ru⟩:=rv.one;obtain⟨its,r,⟨⟨cls,dd,data,sl⟩,ho,hc,n,hd⟩,hz⟩:=I.tuple ha.sq;simp only at hc hd;subst hc hd;obtain⟨e,he,hm⟩:=iV I ru hy hu r p;have ec:its.toArray.toList.countP e=ts.count t:=by
  have h1:its.toArray.toList.countP e=(its.map e).countP id:=by simp[Pj]
  rw[h1,hm,Pj,List.count_eq_countP];refine Qs λ z _=>?_;simp
 refine call_meets F.slot_tuple_count ⟨_,ho,rfl⟩ F.entry_tuple_count (F.args_tuple_count_2 _ _) (SeqAt.tuple_countAt a its.toArray n dd sl u e) ⟨ho,λ z hz=>?_,?_⟩
 ·exact(he z (by simpa using hz))
 ·rw[ec];exact⟨.int _,H,I.tok _,⟨_,rfl⟩,q⟩
def fh(t:Text)(lo hi:Option Int):Text:=(t.drop (HT.sIx t.length 0 lo)).take (HT.sIx t.length t.length hi - HT.sIx t.length 0 lo)
theorem EK(t:Text)(lo hi:Option Int):lL (bT t) lo hi=bT (fh t lo hi):=by unfold lL fh;rw[ao,EH,EI]
theorem lM{prog:Program}{w:World}{A:Around}{E:Value->Shared->Prop}{s:Shared}{t sl:Addr}{items:Array Value}{vl vu:Value}{lo hi:Option Int}{Q:Value->Shared->Prop}(ht:IsTup s.heap t items)(hs:s.heap.IsSliceOf sl vl vu .none)(pl:IsPart vl lo)(pu:IsPart vu hi)(hw:HT.sIx items.size 0 lo=0/\HT.sIx items.size items.size hi=items.size)(h:Q (.ref t) s):wpAny (model prog w) A (getItem (.ref t) (.ref sl)) Q E s:=by
 obtain⟨os,hos,hcs,hds⟩:=id hs;have hTs:s.TypeIs (.ref sl) "slice":=⟨os,hos,hcs⟩;unfold getItem
 try with_reducible refine Oq ?_
 first |refine Lb (Lm ?_) |skip
 refine Lb (wpAny_sequenceKey ht.typeIs (by decide) ?_);refine Lb (Nu (name:=Str.ofString "__getitem__") ht.typeIs Ph
  (Og Ph ht.typeIs entry_tuple_getitem ?_ (args_tuple_getitem _ _)))
 show wpAny _ _ (Builtin.Tuple.tupleItemsOf (.ref t) >>= _) _ _ s;refine Lb (tupleItemsOf_ ht ?_);refine Lb (wpAny_typeOf hTs ?_);rw[Le (by decide)];refine Lb (HT.sliceApplied_gen hs pl pu ?_);have hyes:((((HT.sIx items.size 0 lo:Nat):Int)==0&&(1:Int)==1&&(HT.sIx items.size items.size hi - HT.sIx items.size 0 lo)==items.size)=true):=by rw[hw.1,hw.2];simp
 show wpAny _ _ (if(((HT.sIx items.size 0 lo:Nat):Int)==0&&(1:Int)==1&&(HT.sIx items.size items.size hi - HT.sIx items.size 0 lo)==items.size)=true then _ else _) _ _ s;rw[Le hyes];refine Lb (Lb (wpAny_typeOf ht.typeIs (Lm ?_)));rw[Le (by decide)];exact Lb (wpAny_rule (Lm ⟨_,rfl,Lm h⟩))
theorem eC:Ii X (λ x lo hi H Q=>∃t,bN H x t/\∀v H',ae H H'->bN H' v (fh t lo hi)->Q v H'):=by
 intro pins s σ H x v vl vu lo hi sl Q I rx hs pl pu h;obtain⟨t,⟨a,rfl,ha,hzt⟩,q⟩:=h;have hzc:(fh t lo hi).length<=gS:=by unfold fh;rw[Lr,Lw];omega
 by_cases hw:HT.sIx (bT t).length 0 lo=0/\HT.sIx (bT t).length (bT t).length hi=(bT t).length
 ·cases rx;obtain⟨its,r,ht,hz⟩:=I.tuple (ci.of ha);have hlen:its.toArray.size=(bT t).length:=by rw[Ly];exact r.length.symm
  refine⟨"tuple",_,PyProof.Rows.slot_tuple_getitem.lookup,ht.typeIs,?_⟩;refine lM ht hs pl pu (by rw[hlen];exact hw) ⟨.ref a,H,I,rfl,q _ _ (ae.refl H) ⟨a,rfl,?_,hzc⟩⟩;rw[ha];congr 2;rw[ao]at hw;have e:fh t lo hi=t:=by unfold fh;rw[hw.1,hw.2];simp
  rw[e]
 ·refine Ge pins s σ H _ v vl vu lo hi sl Q I rx hs pl pu ⟨a,_,rfl,ci.of ha,hw,λ p hp=>q _ _ (ae.new hp) ⟨p,rfl,?_,hzc⟩⟩;rw[ab,EK]
theorem qP:mN X (binaryOp .Add) (λ x y H Q=>∃s t,bN H x s/\bN H y t/\s≠[]/\s.length+t.length<=gS/\∀v H',ae H H'->bN H' v (s++t)->Q v H'):=by
 intro pins s σ H x y v u Q I rx ry h;obtain⟨s1,t1,⟨a,rfl,ha,hza⟩,⟨b,rfl,hb,_⟩,hne,hz,q⟩:=h;have hzz:(s1++t1).length<=gS:=by rw[La];exact hz
 refine Ev pins s σ H _ _ v u Q I rx ry ⟨a,b,_,_,rfl,rfl,ci.of ha,ci.of hb,?_,by rw[ao,ao];exact Mj (aL hz),λ e=>?_,λ e p hp=>?_⟩
 ·intro e;exact hne (mv (e.trans rfl))
 ·have e1:t1=[]:=mv (e.trans rfl);subst e1;refine q _ _ (ae.refl H) ⟨a,rfl,?_,hzz⟩;rw[Lv];exact ha
 ·exact q _ _ (ae.new hp) ⟨p,rfl,by rw[ab,br],hzz⟩
theorem nn(l:Addr)(items:Array Value)(n:Nat)(b:Addr)(items2:Array Value)(n2:Nat)(dd:Option Addr)(sl:Array (Option Value))(hs0:¬(!items.isEmpty&&Builtin.List.listTooLong (items.size+items2.size))=true)(hs1:items.size<=sizeLine)(hs2:items.size+items2.size<=sizeLine+1):
  Meets (Builtin.«list.extend» ⟨[.ref l,.ref b],[]⟩) (λ _ R s=>s.heap.get? l=some {cls:=.type "list",dict:=none,data:=.seq items n,slots := #[]}/\s.heap.get? b=some {cls:=.type "tuple",dict:=dd,data:=.seq items2 n2,slots:=sl}/\R (.ok (.ret Value.none)) {s with heap:=s.heap.update l (Obj.mapSeq λ x=>x++items2),toks:=s.toks}):=
 .of_wp λ prog w A R s h=>by
  obtain⟨hp,g,d,tk,os⟩:=s;obtain⟨hl,hb,h⟩:=h;have f1:=AutoSeq1.idx_int;have f2:=AutoSeq1.sub_tuple_tuple;have f3:=AutoSeq1.sub_list_list;have f4:=AutoSeq1.sub_tuple_list;have f5:=AutoSeq1.sub_list_tuple;have hz':(items++items2).size<=sizeLine+1:=by rw[Array.size_append];exact hs2
  wp_walk using(wpAny_updateSeq hl rfl (hz:=hs1) (_hz':=hz')),Ny hl,Ny hb;exact⟨_,rfl,h⟩
theorem hG:Hc X "list.extend" (λ x vs H Q=>∃l b xs zs,x=.ref l/\vs=[.ref b]/\H l=some (.lst xs)/\H b=some (.tup zs)/\xs.length+zs.length<=sizeLine/\Q .non (upd H l (.lst (xs++zs)))):=by
 intro pins s σ H x vs v us Q I rx rv h;obtain⟨l,b,xs,zs,rfl,rfl,hH,hB,hz,q⟩:=h;cases rx;obtain⟨u,rfl,ru⟩:=rv.one;cases ru;obtain⟨z,its,n,r,hl,e⟩:=I.lstM hH;obtain⟨its2,r2,⟨⟨cls,dd,data,sl⟩,e2,hc,n2,hd⟩,z2⟩:=I.tuple (ci.of hB);simp only at hc hd;subst hc hd;have hl2:=r2.length;have hsz:its.toArray.size+its2.toArray.size<=sizeLine:=by rw[Ly,Ly];omega
 have hlong:¬(!its.toArray.isEmpty&&Builtin.List.listTooLong (its.toArray.size+its2.toArray.size))=true:=by rw[wC hsz,Bool.and_false];exact Mc
 refine call_meets F.slot_list_extend ⟨_,e,rfl⟩ F.entry_list_extend (F.args_list_extend_2 _ _)
  (nn l its.toArray n b its2.toArray n2 dd sl hlong (by rw[Ly];omega) (by omega)) ⟨e,e2,?_⟩
 refine⟨.non,_,I.lset (its':=its++its2) hH e (by simp) (r.append r2) ?_,rfl,q⟩;rw[La];omega
theorem qQ{es:List Expr}{t:TA}{x1:Nat}{pos:Pos}(h:PA X es t):PE X (.Tuple es x1 pos) (λ σ H Q=>t σ H λ xs H1=>xs.length<=sizeLine/\∀p ob,H1 p=none->ob.dict=none->Q (.ref p) (upd H1 p (.frz ob (.tup xs)))):=by intro pins s σ H Q I hq;refine wpAny_Tuple_spliced (cR (h pos pins s σ H _ I hq) λ us s1 ⟨xs,H1,I1,r,z,q⟩=>⟨by rw[<-r.length];exact z,?_⟩);have hf:H1 s1.heap.objs.size=none:=I1.hok.fresh (Lf _);refine⟨.ref s1.heap.objs.size,upd H1 s1.heap.objs.size (.frz {cls:=.type "tuple",data:=.seq us.toArray} (.tup xs)),I1.laid (t':=s1.toks) (λ b u e=>Lo _ e) (Lf _) ?_,rfl,q _ _ hf rfl⟩;exact⟨Md _ rfl,z,us,r,⟨_,Md _ rfl,rfl,_,rfl⟩⟩
theorem kn:gh X (.type "tuple") (λ xs H Q=>∃p ys,xs=[.ref p]/\SqL X.K H p ys/\∀l ob,H l=none->ob.dict=none->Q (.ref l) (upd H l (.frz ob (.tup ys)))):=by
 intro pins s σ H xs us Q I r h;obtain⟨p,ys,rfl,hq,q⟩:=h;obtain⟨u,rfl,rx⟩:=pE r;cases rx;obtain⟨its,r',pl,hz⟩:=I.list hq;have hlen:=r'.length;refine call_tuple_list pl.isList (λ h' kp=>?_) (by simp only[Ly]<;>omega);have I1:aO X pins σ H {s with heap:=h'}:=I.kept (t':=s.toks) kp;have I2:aO X pins σ (upd H h'.objs.size (.frz {cls:=.type "tuple",data:=.seq its.toArray} (.tup ys))) {s with heap:=h'.push {cls:=.type "tuple",data:=.seq its.toArray}}:=
  I1.laid (t':=s.toks) (λ b o e=>Lo _ e) (Lf _) (show cO X.prog X.w _ _ _ (.frz _ (.tup ys)) from⟨Md _ rfl,hz,its,r',IsTup.new _ _⟩)
 exact⟨.ref h'.objs.size,_,I2,rfl,q _ _ (I1.hok.fresh (Lf _)) rfl⟩
theorem GA{id:String}{name:Str}{r:V->List V->Hp->VK->Prop}{o e:Expr}{es:List Expr}{to:TE}{t:TA}{apos cpos:Pos}(slot:Slot "tuple" name id)(hty:typeOf (.builtin id)=pure (.type "method_descriptor"))(hm:Hc X id r)(ho:PE X o to)(ha:PA X (e::es) t)(hbase:attributeBase o name X.env (eval o X.env)=eval o X.env:=by rfl)(hfew:((backTo cpos (starEach (e::es) X.env)).all (λ x=>!x.1)&&(backToKw cpos (keywordEach [] X.env)).all (λ x=>x.1.isSome)
   && decide ((e::es).length+([]:List Keyword).length+(if([]:List Keyword).isEmpty then 0 else 1)<30))=true:=by rfl)(hline:(apos.endLine==cpos.line)=true:=by rfl)(hs:starEach (e::es) X.env=(false,eval e X.env):: starEach es X.env:=by rfl)(hplain:(backTo cpos (starEach es X.env)).any (·.1)=false:=by rfl):
  PE X (.Call (.Attribute o name apos) (e::es) [] cpos) (λ σ H Q=>to σ H λ x H1=>(∃p vs,x=.ref p/\FT H1 p vs)/\t σ H1 λ xs H2=>r x xs H2 Q):=by
 intro pins s σ H Q I h;refine wpAny_Call_method_late hbase hfew hline rfl (cR (ho pins s σ H _ I h) λ v s1 ⟨x,H1,I1,r1,ty,q1⟩=>?_);obtain⟨p,vs,rfl,ob,hp,hd⟩:=ty;obtain rfl:v=Value.ref p:=r1;obtain⟨hg,_,its,_,o',ho',hc,_⟩:=I1.hok p _ hp;rw[hg]at ho';cases ho';refine⟨"tuple",id,PySem.F.plainAttrs_tuple,slot,hty,⟨_,hg,hc⟩,λ a e=>?_,?_⟩
 ·cases e;exact⟨_,hg,hd⟩
 have hA:=ha cpos pins s1 σ H1 _ I1 q1;rw[hs]at hA ⊢;refine Qq (by show(false||(backTo cpos (starEach es X.env)).any (·.1))=false;rw[hplain]<;>rfl) (Calls.evalArgs_plain ?_);exact cR hA λ us s2 ⟨ws,H2,I2,r2,q2⟩=>hm pins s2 σ H2 (.ref p) ws (.ref p) us Q I2 rfl r2 q2
end
structure Ad where
 a:Addr
 b:Addr
 c:Addr
 d:Addr
 e:Addr
 f:Addr
 g:Addr
 h:Addr
 i:Addr
structure bX(K:PySem.W.Frag)(mg:Str->Option Value)(ad:Ad):Prop where
 k8:[ad.a,ad.b,ad.c,ad.d,ad.e,ad.f,ad.g,ad.h,ad.i].Nodup
 g0:mg "all"=none
 i9:mg "enumerate"=none
 a7:mg "len"=none
 d7:mg "list"=none
 z5:mg "ord"=none
 j4:mg "range"=none
 z6:mg "sum"=none
 g3:mg "tuple"=none
 i4:∃tk,mg "LINE_END"=some (.int (10) tk)
 j5:∃tk,mg "BLANK"=some (.int (32) tk)
 z7:∃tk,mg "ROUND_OPEN"=some (.int (40) tk)
 t4:∃tk,mg "ROUND_CLOSE"=some (.int (41) tk)
 z8:∃tk,mg "COMMA"=some (.int (44) tk)
 z9:∃tk,mg "DASH"=some (.int (45) tk)
 t5:∃tk,mg "ANGLE_CLOSE"=some (.int (62) tk)
 j6:∃tk,mg "AT"=some (.int (64) tk)
 A0:∃tk,mg "CURLY_OPEN"=some (.int (123) tk)
 t6:∃tk,mg "CURLY_CLOSE"=some (.int (125) tk)
 A1:∃tk,mg "LONGEST_ROW"=some (.int (200) tk)
 A2:∃tk,mg "LONGEST_NAME"=some (.int (30) tk)
 A3:∃tk,mg "LONGEST_PATH"=some (.int (40) tk)
 A4:∃tk,mg "LONGEST_SHORT_NAME"=some (.int (12) tk)
 A5:∃tk,mg "LONGEST_ARGUMENT"=some (.int (40) tk)
 t7:∃tk,mg "LITERAL"=some (.int (0) tk)
 i5:∃tk,mg "USE"=some (.int (1) tk)
 k9:∃tk,mg "PARAMETER"=some (.int (2) tk)
 j7:∃tk,mg "CODE"=some (.int (0) tk)
 g4:∃tk,mg "IF"=some (.int (1) tk)
 on:∃tk,mg "ELSE"=some (.int (2) tk)
 t8:∃tk,mg "END_OF_IF"=some (.int (3) tk)
 t9:∃tk,mg "PROSE"=some (.int (0) tk)
 e9:∃tk,mg "CHUNK"=some (.int (1) tk)
 g7:∃tk,mg "FILE"=some (.int (2) tk)
 A6:∃tk,mg "MOST_PARAMETERS"=some (.int (4) tk)
 up:∃tk,mg "MOST_BLOCKS"=some (.int (200) tk)
 A7:∃tk,mg "MOST_PARTS"=some (.int (60) tk)
 A8:∃tk,mg "MOST_LINES"=some (.int (400) tk)
 A9:∃tk,mg "MOST_CONDITIONS"=some (.int (6) tk)
 f7:∃tk,mg "NO_FAULT"=some (.int (0) tk)
 u0:∃tk,mg "NOT_A_LINE_OF_SIGNS"=some (.int (1) tk)
 B0:∃tk,mg "NOT_A_HEADER"=some (.int (2) tk)
 B1:∃tk,mg "NOT_A_LINE"=some (.int (3) tk)
 u6:∃tk,mg "NOT_PAIRED"=some (.int (4) tk)
 B2:∃tk,mg "NOT_A_PARAMETER"=some (.int (5) tk)
 o0:∃tk,mg "TOO_MANY"=some (.int (6) tk)
 B3:∃tk,mg "OTHER_PARAMETERS"=some (.int (7) tk)
 B4:∃tk,mg "END_MISSING"=some (.int (8) tk)
 i6:∃tk,mg "WRONG_FORM"=some (.int (-1) tk)
 g5:∃tk,mg "NO_SUCH_PLACE"=some (.int (-2) tk)
 i7:∃tk,mg "NOT_THERE"=some (.int (-3) tk)
 u7:∃tk,mg "NOT_FITTING"=some (.int (-4) tk)
 j8:∃tk,mg "TAKEN"=some (.int (-5) tk)
 g8:∃tk,mg "NO_DOCUMENT"=some (.int (-6) tk)
 u9:∃tk,mg "MOST_BYTES"=some (.int (20000) tk)
 o1:∃tk,mg "READ"=some (.int (0) tk)
 o2:∃tk,mg "SHOW"=some (.int (1) tk)
 v0:∃tk,mg "BLOCK"=some (.int (2) tk)
 o3:∃tk,mg "PUT"=some (.int (3) tk)
 o4:∃tk,mg "CUT"=some (.int (4) tk)
 o5:∃tk,mg "MOVE"=some (.int (5) tk)
 v8:∃tk,mg "LINES"=some (.int (6) tk)
 o6:∃tk,mg "RENAME"=some (.int (7) tk)
 o7:∃tk,mg "REFILE"=some (.int (8) tk)
 o8:∃tk,mg "REPARAM"=some (.int (9) tk)
 v9:∃tk,mg "RESETTLE"=some (.int (10) tk)
 o9:∃tk,mg "NAMES"=some (.int (11) tk)
 q0:∃tk,mg "FILES"=some (.int (12) tk)
 r8:∃tk,mg "SETTINGS"=some (.int (13) tk)
 w4:∃tk,mg "PARTS"=some (.int (14) tk)
 w6:∃tk,mg "USES"=some (.int (15) tk)
 w8:∃tk,mg "PARAMS"=some (.int (16) tk)
 B5:∃tk,mg "PIECES"=some (.int (17) tk)
 w9:∃tk,mg "SIZE"=some (.int (18) tk)
 B6:aW K mg "codes" (bg 12)
 B7:aW K mg "is_sign" (bg 13)
 B8:aW K mg "is_small_letter" (bg 14)
 B9:aW K mg "is_capital_letter" (bg 15)
 C6:aW K mg "is_digit" (bg 16)
 C7:aW K mg "begins_with" (bg 17)
 C8:aW K mg "place_of" (bg 18)
 C9:aW K mg "is_line_of_signs" (bg 19)
 D0:aW K mg "split_at" (bg 20)
 D6:aW K mg "is_small_letter_or_digit" (bg 26)
 E1:aW K mg "is_word" (bg 27)
 E2:aW K mg "is_name" (bg 28)
 E3:aW K mg "is_path_sign" (bg 29)
 E4:aW K mg "is_path" (bg 30)
 E5:aW K mg "is_short_name" (bg 31)
 E6:aW K mg "is_argument_sign" (bg 32)
 E7:aW K mg "is_argument" (bg 33)
 E8:aW K mg "split_listed" (bg 36)
 E9:aW K mg "read_called" (bg 37)
 F0:aW K mg "called_text" (bg 38)
 F5:aW K mg "read_line" (bg 49)
 F6:aW K mg "read_if" (bg 50)
 F7:aW K mg "read_code_line" (bg 51)
 F8:aW K mg "literal_step" (bg 52)
 F9:aW K mg "literal_pieces" (bg 53)
 G0:aW K mg "marked_end" (bg 54)
 G1:aW K mg "read_marked" (bg 55)
 G2:aW K mg "read_use" (bg 56)
 G3:aW K mg "piece_text" (bg 57)
 G4:aW K mg "literal_text" (bg 58)
 G5:aW K mg "line_text" (bg 59)
 G6:aW K mg "is_part" (bg 67)
 G7:aW K mg "parts_among" (bg 68)
 G8:aW K mg "lines_of" (bg 69)
 G9:aW K mg "count_lines" (bg 70)
 I0:aW K mg "read_header" (bg 71)
 JQ:aW K mg "read_file_header" (bg 72)
 JR:aW K mg "read_chunk_header" (bg 73)
 JS:aW K mg "are_parameters" (bg 74)
 JT:aW K mg "header_text" (bg 75)
 JU:aW K mg "block_text" (bg 76)
 JV:aW K mg "blocks_text" (bg 77)
 JW:aW K mg "read_text" (bg 94)
 JX:aW K mg "read" (bg 105)
 JY:aW K mg "put" (bg 106)
 JZ:aW K mg "is_stretch" (bg 107)
 J0:aW K mg "cut" (bg 108)
 J1:aW K mg "move" (bg 109)
 J2:aW K mg "read_lines" (bg 110)
 J3:aW K mg "lines" (bg 111)
 J4:aW K mg "pieces_of" (bg 113)
 J5:aW K mg "ifs_among" (bg 114)
 J6:aW K mg "each_once" (bg 115)
 J7:aW K mg "standing_names" (bg 116)
 J8:aW K mg "standing_files" (bg 117)
 J9:aW K mg "standing_settings" (bg 118)
 Ka:aW K mg "is_part_of" (bg 119)
 Kb:aW K mg "parts_of" (bg 120)
 Kc:aW K mg "part_places" (bg 121)
 Kd:aW K mg "use_places" (bg 122)
 Ke:aW K mg "is_taken" (bg 124)
 Kf:aW K mg "changed_row" (bg 125)
 Kg:aW K mg "changed_piece" (bg 126)
 Kh:aW K mg "changed_line" (bg 127)
 Ki:aW K mg "changed_lines" (bg 128)
 Kj:aW K mg "renamed" (bg 129)
 Kk:aW K mg "rename" (bg 130)
 Kl:aW K mg "refiled" (bg 131)
 Km:aW K mg "refile" (bg 132)
 Kn:aW K mg "reparametered" (bg 133)
 Ko:aW K mg "reparam" (bg 134)
 Kp:aW K mg "resettled_line" (bg 135)
 Kq:aW K mg "resettled" (bg 136)
 Kr:aW K mg "resettle" (bg 137)
 Ks:aW K mg "counted" (bg 139)
 x9:aW K mg "counted_texts" (bg 140)
 Kt:aW K mg "show" (bg 141)
 Ku:aW K mg "block" (bg 142)
 Kv:aW K mg "names" (bg 143)
 Kw:aW K mg "files" (bg 144)
 Kx:aW K mg "settings" (bg 145)
 Ky:aW K mg "parts" (bg 146)
 Kz:aW K mg "uses" (bg 147)
 KA:aW K mg "params" (bg 148)
 KB:aW K mg "pieces" (bg 149)
 KC:aW K mg "line_numbers" (bg 150)
 KD:aW K mg "piece_numbers" (bg 151)
 KF:aW K mg "size" (bg 152)
 KG:aW K mg "form_of" (bg 174)
 KH:aW K mg "call_at" (bg 175)
 KI:aW K mg "edited_answer" (bg 176)
 KJ:aW K mg "renamed_answer" (bg 177)
 KK:aW K mg "whole_answer" (bg 178)
 KL:aW K mg "single_answer" (bg 179)
 KM:aW K mg "answer_of" (bg 180)
 KN:aW K mg "answers" (bg 181)
 f8:qk K mg "Called" ad.a
 KO:∃f fd,mX K "__init__" "Called.__init__" (ba (bg 35) 0) f fd/\Mk K ad.a f
 r9:bt K ad.a "name"
 j0:bt K ad.a "entries"
 c8:qk K mg "Piece" ad.b
 KP:∃f fd,mX K "__init__" "Piece.__init__" (ba (bg 47) 0) f fd/\Mk K ad.b f
 d8:bt K ad.b "kind"
 f6:bt K ad.b "text"
 j9:bt K ad.b "arguments"
 c7:qk K mg "Line" ad.c
 KQ:∃f fd,mX K "__init__" "Line.__init__" (ba (bg 48) 0) f fd/\Mk K ad.c f
 c9:bt K ad.c "kind"
 f9:bt K ad.c "pieces"
 g9:bt K ad.c "setting"
 j3:qk K mg "Prose" ad.d
 KR:∃f fd,mX K "__init__" "Prose.__init__" (ba (bg 65) 0) f fd/\Mk K ad.d f
 y8:bt K ad.d "kind"
 y9:bt K ad.d "row"
 a8:qk K mg "Part" ad.e
 KS:∃f fd,mX K "__init__" "Part.__init__" (ba (bg 66) 0) f fd/\Mk K ad.e f
 d9:bt K ad.e "kind"
 d2:bt K ad.e "name"
 d3:bt K ad.e "parameters"
 d4:bt K ad.e "lines"
 d6:qk K mg "Reading" ad.f
 KU:∃f fd,mX K "__init__" "Reading.__init__" (ba (bg 92) 0) f fd/\Mk K ad.f f
 t0:bt K ad.f "blocks"
 z0:bt K ad.f "line"
 g6:bt K ad.f "reason"
 c6:qk K mg "Reader" ad.g
 KW:∃f fd,mX K "__init__" "Reader.__init__" (ba (bg 93) 0) f fd/\Mk K ad.g f
 i8:bt K ad.g "blocks"
 k3:bt K ad.g "part_count"
 k4:bt K ad.g "line_count"
 k5:bt K ad.g "parameters_of"
 i0:bt K ad.g "part"
 i3:bt K ad.g "conditions"
 KY:∃f fd,mX K "take" "Reader.take" (ba (bg 93) 1) f fd/\lI K ad.g "take" f
 KZ:∃f fd,mX K "take_outside" "Reader.take_outside" (ba (bg 93) 2) f fd/\lI K ad.g "take_outside" f
 K0:∃f fd,mX K "take_prose" "Reader.take_prose" (ba (bg 93) 3) f fd/\lI K ad.g "take_prose" f
 K1:∃f fd,mX K "take_header" "Reader.take_header" (ba (bg 93) 4) f fd/\lI K ad.g "take_header" f
 K2:∃f fd,mX K "take_end" "Reader.take_end" (ba (bg 93) 5) f fd/\lI K ad.g "take_end" f
 K3:∃f fd,mX K "take_within" "Reader.take_within" (ba (bg 93) 6) f fd/\lI K ad.g "take_within" f
 K4:∃f fd,mX K "take_condition" "Reader.take_condition" (ba (bg 93) 7) f fd/\lI K ad.g "take_condition" f
 be:qk K mg "Document" ad.h
 K5:∃f fd,mX K "__init__" "Document.__init__" (ba (bg 103) 0) f fd/\Mk K ad.h f
 c5:bt K ad.h "blocks"
 K6:∃f fd,mX K "hold" "Document.hold" (ba (bg 103) 1) f fd/\lI K ad.h "hold" f
 K7:∃f fd,mX K "part_refusal" "Document.part_refusal" (ba (bg 103) 2) f fd/\lI K ad.h "part_refusal" f
 a5:qk K mg "Call" ad.i
 K8:∃f fd,mX K "__init__" "Call.__init__" (ba (bg 173) 0) f fd/\Mk K ad.i f
 a9:bt K ad.i "kind"
 e8:bt K ad.i "numbers"
 d5:bt K ad.i "rows"
 z4:bt K ad.i "end"
theorem Ag(σ:L2.St)(i:Nat)(x:Option V):bC ((bC σ [i]).set i x) [i]=bC σ [i]:=by show(((σ.set i none).set i x).set i none)=σ.set i none;rw[List.set_set,List.set_set]
theorem aZ{α β:Type}{F:α->β->Prop}:∀{xs:List α} {ys:List β} {i:Nat} {x:α},Paired F xs ys->xs[i]?=some x->∃y,ys[i]?=some y/\F x y:=λ p e=>yF p e
theorem ai{α β:Type}{F:α->β->Prop}{xs:List α}{ys:List β}(p:Paired F xs ys):xs.length=ys.length:=Sc p
theorem aI{α β:Type}{F:α->β->Prop}:∀{xs xs':List α} {ys ys':List β},Paired F xs ys->Paired F xs' ys'->Paired F (xs++xs') (ys++ys')
 |_,_,_,_,.nil,q=>q
 |_,_,_,_,.cons r p,q=>.cons r (aI p q)
theorem bD{α:Type}:∀{l:List α} {i:Nat} {x:α},l[i]?=some x->l.take (i+1)=l.take i++[x]
 |[],i,x,h=>by simp at h
 |a::l,0,x,h=>by have e:a=x:=Lz h;subst e;rfl
 |a::l,i+1,x,h=>by have ih:=bD (l:=l) (i:=i) (x:=x) h;show a::l.take (i+1)=a::l.take i++[x];rw[ih];rfl
theorem il{α:Type}(p:α->Bool){l:List α}{i:Nat}{x:α}(h:l[i]?=some x):(l.take (i+1)).filter p=(l.take i).filter p++(if p x=true then[x] else[]):=by rw[bD h,Qm,Qy,List.filter_nil]
structure wU{β:Type}(RO:Hp->V->β->Prop):Prop where
 same:∀{H H':Hp} {y:V} {b:β},RO H y b->ae H H'->RO H' y b
 lst:∀{H:Hp} {D:Addr} {xs zs:List V} {y:V} {b:β},H D=some (.lst xs)->RO H y b->RO (upd H D (.lst zs)) y b
theorem wU.pair{β:Type}{RO:Hp->V->β->Prop}(F:wU RO){H H':Hp}{ys:List V}{bs:List β}(p:Paired (RO H) ys bs)(s:ae H H'):Paired (RO H') ys bs:=Paired.mapP p λ _ _ r=>F.same r s
theorem rJ{β:Type}(f:β->V):wU (fun(_:Hp) (y:V) (b:β)=>y=f b):=⟨λ r _=>r,λ _ r=>r⟩
theorem jr{β:Type}{f:β->V}:∀{ys:List V} {bs:List β},Paired (λ y b=>y=f b) ys bs->ys=bs.map f
 |_,_,.nil=>rfl
 |_,_,.cons r p=>by rw[r,jr p];rfl
section
variable{K:PySem.W.Frag}{α:Type}{tt:TT}{te:TE}{i:Nat}{σ:L2.St}{H1:Hp}{Q:VK}{a:Addr}{xs:List V}{as:List α}{RI:V->α->Prop}{RO:Hp->V->α->Prop}{p:α->Bool}
theorem Jg(F:wU RO)(hx:Paired RI xs as)(ha:∀{H},ae H1 H->ci K H a xs)(hz:xs.length<=1000000)(ht:∀x b H Q',b∈as->RI x b->ae H1 H->(∀H4,ae H H4->Q' (p b) H4)->tt ((bC σ [i]).set i (some x)) H Q')(he:∀x b H Q',b∈as->RI x b->p b=true->ae H1 H->(∀y H4,ae H H4->RO H4 y b->Q' y H4)->te ((bC σ [i]).set i (some x)) H Q')(k:∀D H' ys,H1 D=none->ae H1 H'->H' D=some (.lst ys)->Paired (RO H') ys (as.filter p)->Q (.ref D) H'):
  ∃a',(V.ref a:V)=.ref a'/\(∃xs,ci K H1 a' xs)/\∀D,H1 D=none->∃W:Nat->Nat->Hp->Prop,(∃m,W 0 m (upd H1 D (.lst [])))/\∀j m H,W j m H->
   ((wr K a').stop j H/\Q (.ref D) H)\/((wr K a').go j H/\∃Nx:Hp->Prop,(∀H',Nx H'->∃m',m'<m/\W (j+1) m' H')/\∀x H',(wr K a').yld j H x H'->gW i x (bC σ [i]) H' λ σ2 H2=>bC σ2 [i]=bC σ [i]/\tt σ2 H2 λ b H3=>
    if b=true then te σ2 H3 λ y H4=>∃acc,H4 D=some (.lst acc)/\acc.length<sizeLine/\Nx (upd H4 D (.lst (acc++[y]))) else Nx H3):=by
 refine⟨a,rfl,⟨_,ha (ae.refl H1)⟩,λ D hD=>?_⟩;have hl:=ai hx;refine Gj (K:=K) (xs:=xs) (λ j H=>ae H1 H/\∃ys,H D=some (.lst ys)/\Paired (RO H) ys ((as.take j).filter p)) ⟨ae.upd (ae.refl H1) hD,[],ab,.nil⟩ (λ j H _ ⟨s,_⟩=>ha s) ?_ ?_
 ·rintro j x H hj ⟨s,ys,hy,py⟩;obtain⟨b,hb,rb⟩:=aZ hx hj;have mb:=Nm hb;have lys:ys.length<=1000000:=by
   rw[ai py];have:=List.length_filter_le p (as.take j);rw[Lr]at this;omega
  refine⟨Ag σ i _,ht x b H _ mb rb s λ H4 s4=>?_⟩;refine au (λ hp=>?_) λ hp=>?_
  ·refine he x b H4 _ mb rb hp (s.trans s4) λ y H5 s5 r5=>?_;have hD5:=s5 _ _ (s4 _ _ hy);refine⟨ys,hD5,Lq lys (by decide),ae.upd ((s.trans s4).trans s5) hD,ys++[y],ab,?_⟩;rw[il p hb,Le hp];refine aI (Paired.mapP (F.pair py (s4.trans s5)) λ _ _ r=>F.lst hD5 r) (.cons (F.lst hD5 r5) .nil)
  ·refine⟨s.trans s4,ys,s4 _ _ hy,?_⟩;rw[il p hb,Ld hp,Lv];exact F.pair py s4
 ·rintro H ⟨s,ys,hy,py⟩;rw[hl,Mr]at py;exact k D H ys hD s hy py
theorem HP(F:wU RO)(hx:Paired RI xs as)(ha:H1 a=some (.lst xs))(hz:xs.length<=1000000)(ht:∀x b H Q',b∈as->RI x b->ae H1 H->(∀H4,ae H H4->Q' (p b) H4)->tt ((bC σ [i]).set i (some x)) H Q')(he:∀x b H Q',b∈as->RI x b->p b=true->ae H1 H->(∀y H4,ae H H4->RO H4 y b->Q' y H4)->te ((bC σ [i]).set i (some x)) H Q')(k:∀D H' ys,H1 D=none->ae H1 H'->H' D=some (.lst ys)->Paired (RO H') ys (as.filter p)->Q (.ref D) H'):
  ∃a',(V.ref a:V)=.ref a'/\(∃xs,SqL K H1 a' xs)/\∀D,H1 D=none->∃W:Nat->Nat->Hp->Prop,(∃m,W 0 m (upd H1 D (.lst [])))/\∀j m H,W j m H->
   ((rj K a').stop j H/\Q (.ref D) H)\/((rj K a').go j H/\∃Nx:Hp->Prop,(∀H',Nx H'->∃m',m'<m/\W (j+1) m' H')/\∀x H',(rj K a').yld j H x H'->gW i x (bC σ [i]) H' λ σ2 H2=>bC σ2 [i]=bC σ [i]/\tt σ2 H2 λ b H3=>
    if b=true then te σ2 H3 λ y H4=>∃acc,H4 D=some (.lst acc)/\acc.length<sizeLine/\Nx (upd H4 D (.lst (acc++[y]))) else Nx H3):=by
 refine⟨a,rfl,⟨_,SqL.of ha⟩,λ D hD=>?_⟩;have hl:=ai hx;refine zY (K:=K) (xs:=xs) (λ j H=>ae H1 H/\∃ys,H D=some (.lst ys)/\Paired (RO H) ys ((as.take j).filter p)) ⟨ae.upd (ae.refl H1) hD,[],ab,.nil⟩ (λ j H _ ⟨s,_⟩=>SqL.of (s _ _ ha)) ?_ ?_
 ·rintro j x H hj ⟨s,ys,hy,py⟩;obtain⟨b,hb,rb⟩:=aZ hx hj;have mb:=Nm hb;have lys:ys.length<=1000000:=by
   rw[ai py];have:=List.length_filter_le p (as.take j);rw[Lr]at this;omega
  refine⟨Ag σ i _,ht x b H _ mb rb s λ H4 s4=>?_⟩;refine au (λ hp=>?_) λ hp=>?_
  ·refine he x b H4 _ mb rb hp (s.trans s4) λ y H5 s5 r5=>?_;have hD5:=s5 _ _ (s4 _ _ hy);refine⟨ys,hD5,Lq lys (by decide),ae.upd ((s.trans s4).trans s5) hD,ys++[y],ab,?_⟩;rw[il p hb,Le hp];refine aI (Paired.mapP (F.pair py (s4.trans s5)) λ _ _ r=>F.lst hD5 r) (.cons (F.lst hD5 r5) .nil)
  ·refine⟨s.trans s4,ys,s4 _ _ hy,?_⟩;rw[il p hb,Ld hp,Lv];exact F.pair py s4
 ·rintro H ⟨s,ys,hy,py⟩;rw[hl,Mr]at py;exact k D H ys hD s hy py
theorem eD(as:List α):as.filter (λ _=>true)=as:=by simp
theorem js{f:α->Bool}{Q:VK}{σ0:L2.St}(hx:Paired RI xs as)(ha:∀{H},ae H1 H->ci K H a xs)(hz:xs.length<=1000000)(he:∀x b H Q',b∈as->RI x b->ae H1 H->(∀H4,ae H H4->Q' (.bl (f b)) H4)->te ((bC σ [i]).set i (some x)) H Q')(k:∀H',ae H1 H'->Q (.bl (as.all f)) H'):
  ∃a',(V.ref a:V)=.ref a'/\(∃xs,ci K H1 a' xs)/\∀D,H1 D=none->∃W:Nat->Nat->Hp->Prop,(∃m,W 0 m (upd H1 D (.lst [])))/\∀j m H,W j m H->
   ((wr K a').stop j H/\ib σ0 H λ xs H2=>CG K (.ref D::xs) H2 Q)\/((wr K a').go j H/\∃Nx:Hp->Prop,(∀H',Nx H'->∃m',m'<m/\W (j+1) m' H')/\∀x H',(wr K a').yld j H x H'->gW i x (bC σ [i]) H' λ σ2 H2=>bC σ2 [i]=bC σ [i]/\AU σ2 H2 λ b H3=>
    if b=true then te σ2 H3 λ y H4=>∃acc,H4 D=some (.lst acc)/\acc.length<sizeLine/\Nx (upd H4 D (.lst (acc++[y]))) else Nx H3):=by
 refine Jg (Q:=λ v H=>CG K [v] H Q) (rJ λ b=>V.bl (f b)) (p:=λ _=>true) hx ha hz (λ x b H Q' _ _ _ q=>q H (ae.refl H)) (λ x b H Q' m r _ s q=>he x b H Q' m r s λ H4 s4=>q _ H4 s4 rfl) λ D H' ys hD s hy py=>?_;rw[eD]at py;refine⟨D,as.map f,rfl,SqL.of ?_,?_⟩
 ·rw[hy,jr py,Nl];rfl
 ·have e:(as.map f).all id=as.all f:=by rw[List.all_map];rfl
  rw[e];exact k H' s
theorem EL{f:α->Bool}{Q:VK}{σ0:L2.St}(hx:Paired RI xs as)(ha:H1 a=some (.lst xs))(hz:xs.length<=1000000)(he:∀x b H Q',b∈as->RI x b->ae H1 H->(∀H4,ae H H4->Q' (.bl (f b)) H4)->te ((bC σ [i]).set i (some x)) H Q')(k:∀H',ae H1 H'->Q (.bl (as.all f)) H'):
  ∃a',(V.ref a:V)=.ref a'/\(∃xs,SqL K H1 a' xs)/\∀D,H1 D=none->∃W:Nat->Nat->Hp->Prop,(∃m,W 0 m (upd H1 D (.lst [])))/\∀j m H,W j m H->
   ((rj K a').stop j H/\ib σ0 H λ xs H2=>CG K (.ref D::xs) H2 Q)\/((rj K a').go j H/\∃Nx:Hp->Prop,(∀H',Nx H'->∃m',m'<m/\W (j+1) m' H')/\∀x H',(rj K a').yld j H x H'->gW i x (bC σ [i]) H' λ σ2 H2=>bC σ2 [i]=bC σ [i]/\AU σ2 H2 λ b H3=>
    if b=true then te σ2 H3 λ y H4=>∃acc,H4 D=some (.lst acc)/\acc.length<sizeLine/\Nx (upd H4 D (.lst (acc++[y]))) else Nx H3):=by
 refine HP (Q:=λ v H=>CG K [v] H Q) (rJ λ b=>V.bl (f b)) (p:=λ _=>true) hx ha hz (λ x b H Q' _ _ _ q=>q H (ae.refl H)) (λ x b H Q' m r _ s q=>he x b H Q' m r s λ H4 s4=>q _ H4 s4 rfl) λ D H' ys hD s hy py=>?_;rw[eD]at py;refine⟨D,as.map f,rfl,SqL.of ?_,?_⟩
 ·rw[hy,jr py,Nl];rfl
 ·have e:(as.map f).all id=as.all f:=by rw[List.all_map];rfl
  rw[e];exact k H' s
theorem Ah(R:List V->Hp->VK->Prop){Q:VK}{σ0:L2.St}(F:wU RO)(hx:Paired RI xs as)(ha:∀{H},ae H1 H->ci K H a xs)(hz:xs.length<=1000000)(ht:∀x b H Q',b∈as->RI x b->ae H1 H->(∀H4,ae H H4->Q' (p b) H4)->tt ((bC σ [i]).set i (some x)) H Q')(he:∀x b H Q',b∈as->RI x b->p b=true->ae H1 H->(∀y H4,ae H H4->RO H4 y b->Q' y H4)->te ((bC σ [i]).set i (some x)) H Q')(k:∀D H' ys,H1 D=none->ae H1 H'->H' D=some (.lst ys)->Paired (RO H') ys (as.filter p)->R [.ref D] H' Q):
  ∃a',(V.ref a:V)=.ref a'/\(∃xs,ci K H1 a' xs)/\∀D,H1 D=none->∃W:Nat->Nat->Hp->Prop,(∃m,W 0 m (upd H1 D (.lst [])))/\∀j m H,W j m H->
   ((wr K a').stop j H/\ib σ0 H λ xs H2=>R (.ref D::xs) H2 Q)\/((wr K a').go j H/\∃Nx:Hp->Prop,(∀H',Nx H'->∃m',m'<m/\W (j+1) m' H')/\∀x H',(wr K a').yld j H x H'->gW i x (bC σ [i]) H' λ σ2 H2=>bC σ2 [i]=bC σ [i]/\tt σ2 H2 λ b H3=>
    if b=true then te σ2 H3 λ y H4=>∃acc,H4 D=some (.lst acc)/\acc.length<sizeLine/\Nx (upd H4 D (.lst (acc++[y]))) else Nx H3):=
 Jg (Q:=λ v H=>R [v] H Q) F hx ha hz ht he k
theorem im(R:List V->Hp->VK->Prop){Q:VK}{σ0:L2.St}(F:wU RO)(hx:Paired RI xs as)(ha:H1 a=some (.lst xs))(hz:xs.length<=1000000)(ht:∀x b H Q',b∈as->RI x b->ae H1 H->(∀H4,ae H H4->Q' (p b) H4)->tt ((bC σ [i]).set i (some x)) H Q')(he:∀x b H Q',b∈as->RI x b->p b=true->ae H1 H->(∀y H4,ae H H4->RO H4 y b->Q' y H4)->te ((bC σ [i]).set i (some x)) H Q')(k:∀D H' ys,H1 D=none->ae H1 H'->H' D=some (.lst ys)->Paired (RO H') ys (as.filter p)->R [.ref D] H' Q):
  ∃a',(V.ref a:V)=.ref a'/\(∃xs,SqL K H1 a' xs)/\∀D,H1 D=none->∃W:Nat->Nat->Hp->Prop,(∃m,W 0 m (upd H1 D (.lst [])))/\∀j m H,W j m H->
   ((rj K a').stop j H/\ib σ0 H λ xs H2=>R (.ref D::xs) H2 Q)\/((rj K a').go j H/\∃Nx:Hp->Prop,(∀H',Nx H'->∃m',m'<m/\W (j+1) m' H')/\∀x H',(rj K a').yld j H x H'->gW i x (bC σ [i]) H' λ σ2 H2=>bC σ2 [i]=bC σ [i]/\tt σ2 H2 λ b H3=>
    if b=true then te σ2 H3 λ y H4=>∃acc,H4 D=some (.lst acc)/\acc.length<sizeLine/\Nx (upd H4 D (.lst (acc++[y]))) else Nx H3):=
 HP (Q:=λ v H=>R [v] H Q) F hx ha hz ht he k
theorem fU:∀t:Valita.Text,Paired (fun(x:V) (b:UInt8)=>x=.int (bI b)) (bT t) t
 |[]=>.nil
 |_::t=>.cons rfl (fU t)
end
open Valita (isDigit isGreat isSign isSmall)
variable{P:Program}{w:World}{K:PySem.W.Frag}{mg:Str->Option Value}{base:Heap}{ad:Ad}
theorem wV{a b:UInt8}:(bI a<=bI b)↔a<=b:=by unfold bI;rw[UInt8.le_iff_toNat_le];omega
theorem qR{lo hi b:UInt8}{Qr:V->Prop}(k:Qr (.bl (decide (lo<=b)&&decide (b<=hi)))):if decide (bI lo<=bI b)=true then Qr (.bl (decide (bI b<=bI hi))) else Qr (.bl false):=by
 rw[Qe.mpr (wV (a:=lo) (b:=b)),Qe.mpr (wV (a:=b) (b:=hi))];refine au (λ h=>?_) λ h=>?_
 ·rw[h]at k;exact k
 ·rw[Nq]at h;rw[h]at k;exact k
theorem eW{Q:VK}{H':Hp}{b c:Bool}(k:Q (.bl b) H')(e:b=c):Q (.bl c) H':=e▸k
def mz(f:UInt8->Bool):Sp:=λ vs H Q _=>∃b:UInt8,vs=[.int (bI b)]/\∀H',ae H H'->Q (.bl (f b)) H'
theorem rK(T:bX K mg ad):aY P w K mg base 1 "is_sign" ["byte"] (mz isSign):=by
 refine T.B7.good (N:=["byte"]) cj λ l H vs Q E hr hu6 hu nd h=>?_;obtain⟨b,rfl,k⟩:=h;have k:=k H (ae.refl H);refine⟨_,(ac (ah (gX dE dE al aH al))),?_⟩;refine⟨_,rfl,qn ⟨_,rfl,?_⟩⟩;have z:=qR (lo:=32) (hi:=126) (Qr:=λ v=>Q v H) k;refine au (λ h1=>(qn ?_)) λ h1=>?_
 ·exact(Le h1▸z :)
 ·exact(Ld h1▸z :)
theorem hJ(T:bX K mg ad):aY P w K mg base 1 "is_small_letter" ["byte"] (mz isSmall):=by
 refine T.B8.good (N:=["byte"]) cj λ l H vs Q E hr hu6 hu nd h=>?_;obtain⟨b,rfl,k⟩:=h;have k:=k H (ae.refl H);refine⟨_,(ac (ah (gX dE dE al aH al))),?_⟩;refine⟨_,rfl,qn ⟨_,rfl,?_⟩⟩;have z:=qR (lo:=97) (hi:=122) (Qr:=λ v=>Q v H) k;refine au (λ h1=>(qn ?_)) λ h1=>?_
 ·exact(Le h1▸z :)
 ·exact(Ld h1▸z :)
theorem ko(T:bX K mg ad):aY P w K mg base 1 "is_capital_letter" ["byte"] (mz isGreat):=by
 refine T.B9.good (N:=["byte"]) cj λ l H vs Q E hr hu6 hu nd h=>?_;obtain⟨b,rfl,k⟩:=h;have k:=k H (ae.refl H);refine⟨_,(ac (ah (gX dE dE al aH al))),?_⟩;refine⟨_,rfl,qn ⟨_,rfl,?_⟩⟩;have z:=qR (lo:=65) (hi:=90) (Qr:=λ v=>Q v H) k;refine au (λ h1=>(qn ?_)) λ h1=>?_
 ·exact(Le h1▸z :)
 ·exact(Ld h1▸z :)
theorem wW(T:bX K mg ad):aY P w K mg base 1 "is_digit" ["byte"] (mz isDigit):=by
 refine T.C6.good (N:=["byte"]) cj λ l H vs Q E hr hu6 hu nd h=>?_;obtain⟨b,rfl,k⟩:=h;have k:=k H (ae.refl H);refine⟨_,(ac (ah (gX dE dE al aH al))),?_⟩;refine⟨_,rfl,qn ⟨_,rfl,?_⟩⟩;have z:=qR (lo:=48) (hi:=57) (Qr:=λ v=>Q v H) k;refine au (λ h1=>(qn ?_)) λ h1=>?_
 ·exact(Le h1▸z :)
 ·exact(Ld h1▸z :)
theorem cU(T:bX K mg ad):aY P w K mg base 2 "is_small_letter_or_digit" ["byte"] (mz λ b=>isSmall b||isDigit b):=by
 refine T.D6.good (N:=["byte"]) cj λ l H vs Q E hr hu6 hu nd h=>?_;obtain⟨b,rfl,k⟩:=h;refine⟨_,(ac (ah (zP (az (hJ T) hr (aD aH)) (fI (az (wW T) hr (aD aH)))))),?_⟩;refine⟨_,rfl,b,rfl,λ H1 s1=>⟨_,rfl,au (λ h1=>?_) λ h1=>?_⟩⟩
 ·exact eW (k H1 s1) (by simp[h1])
 ·exact⟨_,rfl,b,rfl,λ H2 s2=>eW (k H2 (s1.trans s2)) (by simp[h1])⟩
def Ai:Sp:=λ vs H Q _=>∃(x:Str) (t:Text),vs=[.str x]/\x.cps.toList=t.map UInt8.toNat/\t.length<=gS/\∀v H',ae H H'->bN H' v t->Q v H'
theorem bm(T:bX K mg ad):aY P w K mg base 1 "codes" ["text"] (Ai):=by
 refine T.B6.good (N:=["text","letter"]) cj λ l H vs Q E hr hu6 hu nd h=>?_;obtain⟨x,t,rfl,hx,hz,k⟩:=h;have hn:x.cps.size=t.length:=by rw[<-Pn,hx,Ls]
 refine⟨_,(ac (ah (uq T.g3 eZ (aD (dL (own:=[("letter",1)]) rfl nd (Gq aH) (bp (N:=["text","letter"]) (sc:=aB (bg 12)) (by decide +kernel)) (λ _ _ _ _ _=>(aM (i:=1) nd rfl (Or.inl rfl))) (λ _ _ _ _ _=>cS) (λ _ _ _ _ _=>(Ef T.z5 Cs (aD aQ)))))))),?_⟩;refine⟨_,rfl,x,rfl,λ D hD=>⟨λ j m H'=>m=t.length - j/\j<=t.length/\ae H H'/\H' D=some (.lst (bT (t.take j))),⟨t.length,by simp,Lj _,ae.upd (ae.refl H) hD,ab⟩,?_⟩⟩;rintro j m H' ⟨rfl,hj,s1,hd⟩;by_cases hlt:j<t.length
 ·refine .inr ⟨by show j<x.cps.size;omega,λ H'=>(ae H H'/\H' D=some (.lst (bT (t.take (j+1))))),λ H' h=>⟨t.length - (j+1),by omega,rfl,hlt,h⟩,?_⟩;rintro v H2 ⟨rfl,c,hc,rfl⟩;refine⟨Ag _ 1 _,_,rfl,⟨#[c]⟩,rfl,rfl,?_⟩;have e:t[j]?=some t[j]:=Mt hlt;have ec:c=t[j].toNat:=by
   have h1:x.cps.toList[j]?=some c:=by rw[Array.getElem?_toList];exact hc
   rw[hx,Pk,e]at h1;exact(Lz h1).symm
  refine⟨_,hd,?_,ae.upd s1 hD,?_⟩
  ·rw[ao,Lr];exact aL (by omega)
  ·rw[ab,bD e,<-br];subst ec;rfl
 ·have ej:j=t.length:=by omega
  subst ej;refine .inl ⟨by show x.cps.size<=_;omega,?_⟩;rw[Mr]at hd;refine⟨D,_,rfl,.inl ⟨SqL.of hd,λ l hl=>?_⟩⟩;exact k _ _ (s1.trans (ae.new hl)) ⟨l,rfl,ab,hz⟩
def rL(f:Text->Bool):Sp:=λ vs H Q _=>∃v t,vs=[v]/\bN H v t/\∀H',ae H H'->Q (.bl (f t)) H'
theorem gE(T:bX K mg ad):aY P w K mg base 2 "is_line_of_signs" ["row"] (rL λ t=>decide (t.length<=200)&&t.all isSign):=by
 refine T.C9.good (N:=["row","byte"]) cj λ l H vs Q E hr hu6 hu nd h=>?_;obtain⟨v,t,rfl,hv,k⟩:=h;obtain⟨a,rfl,ha,hz⟩:=hv;refine⟨_,(ac (ah (gV (dB dE (bR T.a7 aj (aD aH)) (af T.A1) (ax _)) (fI (Ef T.g0 (kg rfl) (aD (dL (own:=[("byte",1)]) rfl nd (fK aH) (bp (N:=["row","byte"]) (sc:=aB (bg 19)) (by decide +kernel)) (λ _ _ _ _ _=>(aM (i:=1) nd rfl (Or.inl rfl))) (λ _ _ _ _ _=>cS) (λ _ _ _ _ _=>(az (rK T) hr (aD aQ)))))))))),?_⟩;refine⟨_,rfl,ql (.inr (ci.of ha)) (qn ⟨_,rfl,au (λ h1=>?_) λ h1=>?_⟩)⟩
 ·refine⟨_,rfl,js (f:=isSign) (fU t) (λ s=>ci.of (s _ _ ha)) (by rw[ao];exact hz) (λ x b H' Q' _ e s1 q=>?_) λ H' s1=>?_⟩
  ·subst e;exact⟨_,rfl,b,rfl,λ H4 s4=>q H4 s4⟩
  ·refine eW (k H' s1) ?_;rw[ao]at h1;have h2:t.length<=200:=by simp at h1;omega
   simp[h2]
 ·refine eW (k H (ae.refl H)) ?_;rw[ao]at h1;have h2:¬t.length<=200:=by simp at h1;omega
  simp[h2]
open Valita (cutAt)
theorem yH(t:Text)(n:Nat):fh t none (some (n:Int))=t.take n:=by
 unfold fh;rw[HT.sIx_none,HT.sIx_nat,List.drop_zero,Nat.sub_zero];by_cases h:n<=t.length
 ·rw[Nr h]
 ·rw[Oo (by omega),Mr,Mx (by omega)]
theorem kr(t:Text)(n:Nat):fh t (some (n:Int)) none=t.drop n:=by
 unfold fh;rw[HT.sIx_none,HT.sIx_nat];by_cases h:n<=t.length
 ·rw[Nr h,Mx (by rw[Lw];omega)]
 ·rw[Oo (by omega),Qg,Pd,Ox (by omega)]
theorem nu(t:Text)(i j:Nat):fh t (some (i:Int)) (some (j:Int))=(t.drop i).take (j - i):=by
 unfold fh;rw[HT.sIx_nat,HT.sIx_nat];by_cases h:i<=t.length
 ·rw[Nr h];by_cases h2:j<=t.length
  ·rw[Nr h2]
  ·rw[Oo (by omega),Mx (by rw[Lw];omega),Mx (by rw[Lw];omega)]
 ·rw[Oo (a:=i) (by omega),Ox (by omega),Ox (by omega)];simp
theorem CP(n d:Nat):HT.sIx n d (some (-1))=n - 1:=by unfold HT.sIx;simp only;split<;>omega
theorem CQ(t:Text):fh t (some (-1)) none=t.drop (t.length - 1):=by unfold fh;rw[CP,HT.sIx_none];exact Mx (by rw[Lw];omega)
theorem Aj(t:Text)(i:Nat):fh t (some (i:Int)) (some (-1))=(t.drop i).dropLast:=by
 unfold fh;rw[CP,HT.sIx_nat,List.dropLast_eq_take,Lw];by_cases h:i<=t.length
 ·rw[Nr h];congr 1;omega
 ·rw[Oo (by omega),Ox (by omega),Ox (by omega)];simp
def wX:Sp:=λ vs H Q _=>∃v u t h,vs=[v,u]/\bN H v t/\bN H u h/\∀H',ae H H'->Q (.bl (h.isPrefixOf t)) H'
theorem di(T:bX K mg ad):aY P w K mg base 1 "begins_with" ["row","head"] (wX):=by refine T.C7.good (N:=["row","head"]) cj λ l H vs Q E hr hu6 hu nd h=>?_;obtain⟨v,u,t,h,rfl,hv,hu',k⟩:=h;obtain⟨a,rfl,ha,hz⟩:=hu';refine⟨_,(ac (ah (dB (iJ hu6) (aX eC aH cy (aP (bR T.a7 aj (aD aQ)))) aQ (ax _)))),?_⟩;refine⟨_,rfl,_,rfl,ql (.inr (ci.of ha)) ⟨_,rfl,t,hv,λ v' H' s1 r1=>⟨_,rfl,_,h,r1,⟨a,rfl,s1 _ _ ha,hz⟩,?_⟩⟩⟩;refine eW (k H' s1) ?_;rw[ao,yH];rw[Ow,Nz,Nv,List.prefix_iff_eq_take,eq_comm]
def aw(b:UInt8):Text->Nat
 |[]=>0
 |c::r=>if c=b then 0 else aw b r+1
theorem jt(b:UInt8):∀t:Text,aw b t<=t.length
 |[]=>Lf _
 |c::r=>by
  unfold aw;have:=jt b r;split
  ·exact Lj _
  ·rw[Lg];omega
theorem yI{b c:UInt8}{t:Text}{i:Nat}(h:t[i]?=some c):aw b (t.drop i)=if c=b then 0 else aw b (t.drop (i+1))+1:=by obtain⟨hi,e⟩:=Mq.mp h;rw[Mz hi,e];rfl
def EM:Sp:=λ vs H Q _=>∃v t,∃(b:UInt8) (i:Nat),vs=[v,.int (bI b),.int (i:Int)]/\bN H v t/\i<=t.length/\Q (.int ((i+aw b (t.drop i):Nat):Int)) H
theorem pM(T:bX K mg ad):aY P w K mg base 1 "place_of" ["row","byte","start"] (EM):=by
 refine T.C8.good (N:=["row","byte","start","place"]) cj λ l H vs Q E hr hu6 hu nd h=>?_;obtain⟨v,t,b,i,rfl,hv,hi,k⟩:=h;obtain⟨a,rfl,ha,hz⟩:=hv;refine⟨_,(aa (dn Mu rfl (AL rfl T.j4 (dU bJ (bR T.a7 aj (aD aH)))) (aM (i:=3) nd rfl (Or.inl rfl)) (ac (aA (aq bo (bv gu aH dF (λ _ _=>rfl)) aQ (ax _)) (ac (ah dF)) ak)))
   (ac (ah (bR T.a7 aj (aD aH))))),?_⟩
 refine⟨_,rfl,_,rfl,ql (.inr (ci.of ha)) ⟨(i:Int),_,rfl,?_,?_⟩⟩
 ·rw[ao];refine⟨?_,?_,?_,?_⟩<;>(have:t.length<=1000000:=hz)<;>omega
 rw[ao];have en:((t.length:Int) - (i:Int)).toNat=t.length - i:=by omega
 rw[en];refine lh (n:=t.length - i) (λ j σ H'=>(∃x,σ=[some (.ref a),some (.int (bI b)),some (.int (i:Int)),x])/\H'=H/\i+aw b (t.drop i)=i+j+aw b (t.drop (i+j))/\j<=t.length - i) ⟨⟨none,rfl⟩,rfl,rfl,Lj _⟩ ?_ ?_
 ·rintro j σ H' hj ⟨⟨x,rfl⟩,rfl,e,_⟩;have hlt:i+j<t.length:=by omega
  have hc:t[i+j]?=some t[i+j]:=Mt hlt;have e2:=yI (b:=b) hc;refine⟨_,rfl,_,rfl,qi (ci.of ha) (mY (j:=i+j) (by simp) (by rw[mw,hc];rfl)) ⟨_,rfl,rfl,_,rfl,au (λ h1=>?_) λ h1=>?_⟩⟩
  ·have h1:V.int (bI t[i+j])=V.int (bI b):=Lh h1;injection h1 with h1
   rw[Le (jp h1)]at e2;refine⟨_,rfl,?_⟩;have e3:((i:Int)+(j:Int))=((i+aw b (t.drop i):Nat):Int):=by rw[e,e2];simp
   show Q (.int ((i:Int)+(j:Int))) H';rw[e3];exact k
  ·have h1:¬t[i+j]=b:=λ q=>h1 (by rw[q];exact Ll rfl);rw[Ld h1]at e2;exact⟨⟨_,rfl⟩,rfl,by rw[e,e2,Nat.add_assoc i j 1];omega,by omega⟩
 ·rintro σ H' ⟨⟨x,rfl⟩,rfl,e,_⟩;refine⟨_,rfl,ql (.inr (ci.of ha)) ?_⟩;have e2:i+(t.length - i)=t.length:=by omega
  rw[e2,Pb]at e;have e3:((bT t).length:Int)=((i+aw b (t.drop i):Nat):Int):=by rw[ao,e];rfl
  show Q (.int ((bT t).length:Int)) H';rw[e3];exact k
def rM(w:Text):List Text->List Text
 |[]=>[w]
 |x::xs=>(w++x):: xs
theorem gk(b:UInt8):∀t:Text,cutAt b t≠[]
 |[]=>by intro h;cases h
 |c::r=>by
  unfold cutAt;split
  ·intro h;cases h
  ·split<;>(intro h;cases h)
theorem fi(b c:UInt8)(r:Text):cutAt b (c::r)=if c=b then[]:: cutAt b r else rM [c] (cutAt b r):=by
 show(if c=b then[]:: cutAt b r else match cutAt b r with |w::ws=>(c::w):: ws |[]=>[[c]])=_;split
 ·rfl
 ·cases cutAt b r<;>rfl
theorem rN{b:UInt8}{t:Text}:rM [] (cutAt b t)=cutAt b t:=by
 cases e:cutAt b t with
 |nil=>exact absurd e (gk b t)
 |cons x xs=>rfl
theorem ux(v w:Text)(l:List Text):rM v (rM w l)=rM (v++w) l:=by
 cases l with
 |nil=>rfl
 |cons x xs=>simp[rM]
theorem uy{t:Text}{st j:Nat}{c:UInt8}(h:st<=j)(hc:t[j]?=some c):(t.drop st).take (j+1 - st)=(t.drop st).take (j - st)++[c]:=by
 have e:j+1 - st=(j - st)+1:=by omega
 rw[e];refine bD ?_;rw[List.getElem?_drop];rw[show st+(j - st)=j by omega];exact hc
theorem gJ(b:UInt8):∀t:Text,(cutAt b t).length<=t.length+1
 |[]=>Lf _
 |c::r=>by
  rw[fi];have:=gJ b r;split
  ·rw[Lg,Lg];omega
  ·cases h:cutAt b r with
   |nil=>simp[rM]
   |cons x xs=>rw[h]at this;simp[rM]at this ⊢;omega
def EN:Sp:=λ vs H Q _=>∃v t,∃b:UInt8,vs=[v,.int (bI b)]/\bN H v t/\∀l ws H',ae H H'->H l=none->H' l=some (.lst ws)->Paired (bN H') ws (cutAt b t)->Q (.ref l) H'
theorem kt(T:bX K mg ad):aY P w K mg base 1 "split_at" ["row","byte"] (EN):=by
 refine T.D0.good (N:=["row","byte","rows","start","place"]) cj λ l H vs Q E hr hu6 hu nd h=>?_;obtain⟨v,t,b,rfl,hv,k⟩:=h;have hv0:=hv;obtain⟨a,rfl,ha,hz⟩:=hv;refine⟨_,(aa (bf 2 nd (aG aF))
   (aa (bf 3 nd al)
   (aa (dn Mu rfl (oA rfl T.j4 (aD (bR T.a7 aj (aD aH)))) (aM (i:=4) nd rfl (Or.inl rfl)) (ac (aA (aq bo (bv gu aH jk (λ _ _=>rfl)) aQ (ax _)) (aa (aV (bZ Lk Ma Mb bq bJ (aD (aX eC aH (aP dF) (aP jk)))))
   (ac (bf 3 nd (bu cq jk al)))) ak)))
   (aa (aV (bZ Lk Ma Mb bq bJ (aD (aX eC aH (aP dF) cy))))
   (ac (ah bJ)))))),?_⟩
 refine⟨Lj _,λ l hl=>?_⟩;refine⟨_,rfl,ql (.inr (ci.of (ae.new hl _ _ ha))) ⟨(t.length:Int),?_,?_,?_,?_⟩⟩
 ·rw[ao]
 ·omega
 ·have:t.length<=1000000:=hz;omega
 refine lh (lo:=0) (n:=t.length) (λ j σ H'=>∃x st ws,∃done:List Text,σ=[some (.ref a),some (.int (bI b)),some (.ref l),some (.int ((st:Nat):Int)),x]/\ae H H'/\H' l=some (.lst ws)/\Paired (bN H') ws done/\st<=j/\j<=t.length/\done.length<=j/\
   cutAt b t=done++rM ((t.drop st).take (j - st)) (cutAt b (t.drop j)))
  ⟨none,0,[],[],rfl,ae.new hl,ab,.nil,Lf _,Lj _,Lf _,by simp[rN]⟩ ?_ ?_
 ·rintro j σ H' hj ⟨x,st,ws,done,rfl,s1,hl1,pw,hst,hjl,hdl,e⟩;have hc:t[j]?=some t[j]:=Mt hj;have ed:t.drop j=t[j]:: t.drop (j+1):=Mz hj;rw[ed,fi]at e;refine⟨_,rfl,_,rfl,qi (ci.of (s1 _ _ ha)) (mY (j:=j) (by simp) (by rw[mw,hc];rfl)) ⟨_,rfl,rfl,_,rfl,au (λ h1=>?_) λ h1=>?_⟩⟩
  ·have h1:V.int (bI t[j])=V.int (bI b):=Lh h1;injection h1 with h1
   rw[Le (jp h1)]at e;refine⟨_,rfl,.inl ⟨rfl,_,SqL.of hl1⟩,_,rfl,_,rfl,_,rfl,_,rfl,_,rfl,t,hv0.same s1,λ v2 H2 s2 r2=>?_⟩;have hl2:=s2 _ _ hl1;refine⟨l,ws,v2,rfl,rfl,hl2,?_,?_⟩
   ·rw[ai pw];refine aL ?_;have:t.length<=1000000:=hz;show done.length<=1000000;omega
   have er:fh t (some (st:Int)) (some (0+(j:Int)))=(t.drop st).take (j - st):=by rw[Int.zero_add];exact nu t st j
   rw[er]at r2;refine⟨_,rfl,qn ⟨_,j+1,ws++[v2],done++[(t.drop st).take (j - st)],by simp;rfl,ae.upd (s1.trans s2) hl,ab,?_,Lf _,by omega,by simp;omega,?_⟩⟩
   ·have kp:cN H2 (L2.upd H2 l (.lst (ws++[v2]))):=cN.lst hl2;exact aI (bh (bh pw (ae.kept s2)) kp) (.cons (r2.kept kp) .nil)
   ·rw[e,Qg,Pd,rN];simp[rM]
  ·have h1:¬t[j]=b:=λ q=>h1 (by rw[q];exact Ll rfl);rw[Ld h1,ux,<-uy hst hc]at e;exact⟨_,st,ws,done,rfl,s1,hl1,pw,by omega,by omega,by omega,e⟩
 ·rintro σ H' ⟨x,st,ws,done,rfl,s1,hl1,pw,hst,hjl,hdl,e⟩;refine⟨_,rfl,.inl ⟨rfl,_,SqL.of hl1⟩,_,rfl,_,rfl,_,rfl,t,hv0.same s1,λ v2 H2 s2 r2=>?_⟩;have hl2:=s2 _ _ hl1;refine⟨l,ws,v2,rfl,rfl,hl2,?_,?_⟩
  ·rw[ai pw];refine aL ?_;have:t.length<=1000000:=hz;show done.length<=1000000;omega
  refine⟨_,rfl,?_⟩;rw[kr]at r2;have kp:cN H2 (L2.upd H2 l (.lst (ws++[v2]))):=cN.lst hl2;refine k l _ _ (ae.upd (s1.trans s2) hl) hl ab ?_;rw[e,Pb,Mx (by rw[Lw];omega)];show Paired (bN _) _ (done++[t.drop st++[]]);rw[Lv];exact aI (bh (bh pw (ae.kept s2)) kp) (.cons (r2.kept kp) .nil)
open Valita (isArgument isName isPath isShort isWord)
theorem Ak{t:Text}:decide ((0:Int)<((bT t).length:Int))=!t.isEmpty:=by
 rw[ao];cases t with
 |nil=>rfl
 |cons a l=>simp
theorem yJ(T:bX K mg ad):aY P w K mg base 3 "is_word" ["row"] (rL isWord):=by
 refine T.E1.good (N:=["row","byte"]) cj λ l H vs Q E hr hu6 hu nd h=>?_;obtain⟨v,t,rfl,hv,k⟩:=h;obtain⟨a,rfl,ha,hz⟩:=hv;refine⟨_,(ac (ah (gV (dB lU (bR T.a7 aj (aD aH)) al (ax _)) (fI (Ef T.g0 (kg rfl) (aD (dL (own:=[("byte",1)]) rfl nd (fK aH) (bp (N:=["row","byte"]) (sc:=aB (bg 27)) (by decide +kernel)) (λ _ _ _ _ _=>(aM (i:=1) nd rfl (Or.inl rfl))) (λ _ _ _ _ _=>cS) (λ _ _ _ _ _=>(zP (az (cU T) hr (aD aQ)) (fI (dB bo aQ (af T.z9) (ax _)))))))))))),?_⟩;refine⟨_,rfl,ql (.inr (ci.of ha)) (qn ⟨_,rfl,au (λ h1=>?_) λ h1=>?_⟩)⟩
 ·refine⟨_,rfl,js (f:=λ b=>isSmall b||(isDigit b||b==45)) (fU t) (λ s=>ci.of (s _ _ ha)) (by rw[ao];exact hz) (λ x b H' Q' _ e s1 q=>?_) λ H' s1=>?_⟩
  ·subst e;refine⟨_,rfl,b,rfl,λ H4 s4=>⟨_,rfl,au (λ h2=>?_) λ h2=>?_⟩⟩
   ·refine eW (q H4 s4) ?_;rw[<-Bool.or_assoc,show(isSmall b||isDigit b)=true from h2];rfl
   ·refine⟨_,rfl,rfl,?_⟩;refine eW (q H4 s4) ?_;rw[Nq]at h2;rw[<-Bool.or_assoc,show(isSmall b||isDigit b)=false from h2,Bool.false_or];show(b==45)=decide (V.int (bI b)=V.int (bI 45));rw[qJ];by_cases hb:b=45
    ·subst hb;simp
    ·rw[Ms.mpr hb];exact(Ms.mpr λ q=>hb (jp q)).symm
  ·refine eW (k H' s1) ?_;rw[Ak]at h1;unfold isWord;rw[h1];rfl
 ·refine eW (k H (ae.refl H)) ?_;rw[Ak,Nq]at h1;unfold isWord;rw[h1];rfl
theorem rO{t:Text}{n:Nat}:decide (((bT t).length:Int)<=(n:Int))=decide (t.length<=n):=by rw[ao];exact Qe.mpr (by omega)
theorem rP(T:bX K mg ad):aY P w K mg base 4 "is_name" ["row"] (rL isName):=by
 refine T.E2.good (N:=["row","word"]) cj λ l H vs Q E hr hu6 hu nd h=>?_;obtain⟨v,t,rfl,hv,k⟩:=h;have hv0:=hv;obtain⟨a,rfl,ha,hz⟩:=hv;refine⟨_,(ac (ah (gV (dB dE (bR T.a7 aj (aD aH)) (af T.A2) (ax _)) (fI (Ef T.g0 (kg rfl) (aD (dL (own:=[("word",1)]) rfl nd (bU (az (kt T) hr (dU aH (af T.j5)))) (bp (N:=["row","word"]) (sc:=aB (bg 28)) (by decide +kernel)) (λ _ _ _ _ _=>(aM (i:=1) nd rfl (Or.inl rfl))) (λ _ _ _ _ _=>cS) (λ _ _ _ _ _=>(az (yJ T) hr (aD aQ)))))))))),?_⟩;refine⟨_,rfl,ql (.inr (ci.of ha)) (qn ⟨_,rfl,au (λ h1=>?_) λ h1=>?_⟩)⟩
 ·refine⟨_,rfl,_,t,32,rfl,hv0,λ l ws H1 s1 hl hl1 pw=>?_⟩;refine EL (f:=isWord) pw hl1 ?_ (λ x b H' Q' _ e s2 q=>?_) λ H' s2=>?_
  ·rw[ai pw];have z1:=gJ 32 t;have z2:t.length<=30:=by
    have:=Lh ((rO (n:=30)).symm.trans h1);exact this
   omega
  ·exact⟨_,rfl,x,b,rfl,e.same s2,λ H4 s4=>q H4 s4⟩
  ·refine eW (k H' (s1.trans s2)) ?_;have h1:=(rO (n:=30)).symm.trans h1;unfold isName;rw[h1];rfl
 ·refine eW (k H (ae.refl H)) ?_;have h1:decide (t.length<=30)=false:=(rO (n:=30)).symm.trans (Nq _▸h1);unfold isName;rw[h1];rfl
theorem yK(b:UInt8):∀t:Text,zW (.int (bI b)) (bT t)=t.contains b
 |[]=>rfl
 |c::r=>by
  show(Ey (.int (bI c)) (.int (bI b))||zW (.int (bI b)) (bT r))=(b==c||r.contains b);rw[yK b r];congr 1;show(bI c==bI b)=(b==c);by_cases h:b=c
  ·subst h;simp
  ·rw[Ms.mpr h];exact Ms.mpr λ q=>h (jp q).symm
theorem vy:∀t:Text,(bT t).all mQ=true
 |[]=>rfl
 |c::r=>vy r
theorem qo(T:bX K mg ad):aY P w K mg base 3 "is_path_sign" ["byte"] (mz λ b=>isSmall b||(isGreat b||(isDigit b||([46,95,47,45]:Text).contains b))):=by
 refine T.E3.good (N:=["byte"]) cj λ l H vs Q E hr hu6 hu nd h=>?_;obtain⟨b,rfl,k⟩:=h;refine⟨_,(ac (ah (zP (az (cU T) hr (aD aH)) (zP (az (ko T) hr (aD aH)) (fI (dB lj aH (az (bm T) hr (aD cn)) (by with_unfolding_all rfl))))))),?_⟩;refine⟨_,rfl,b,rfl,λ H1 s1=>⟨_,rfl,au (λ h1=>?_) λ h1=>?_⟩⟩
 ·refine eW (k H1 s1) ?_;rcases Bool.or_eq_true_iff.mp h1 with h |h<;>simp[h]
 ·rw[Nq,Bool.or_eq_false_iff]at h1;refine⟨_,rfl,b,rfl,λ H2 s2=>⟨_,rfl,au (λ h2=>?_) λ h2=>?_⟩⟩
  ·exact eW (k H2 (s1.trans s2)) (by simp[h1,h2])
  ·rw[Nq]at h2;refine⟨_,rfl,_,[46,95,47,45],rfl,by decide +kernel,by decide,λ v H3 s3 r3=>?_⟩;obtain⟨c,rfl,hc,_⟩:=r3;refine⟨c,_,rfl,.inr (ci.of hc),rfl,vy _,?_⟩;refine eW (k H3 ((s1.trans s2).trans s3)) ?_;rw[yK];simp[h1,h2]
theorem rQ(T:bX K mg ad):aY P w K mg base 4 "is_path" ["row"] (rL isPath):=by
 refine T.E4.good (N:=["row","byte"]) cj λ l H vs Q E hr hu6 hu nd h=>?_;obtain⟨v,t,rfl,hv,k⟩:=h;obtain⟨a,rfl,ha,hz⟩:=hv;have e1:decide ((1:Int)<=((bT t).length:Int))=!t.isEmpty:=by
  rw[ao];cases t with
  |nil=>rfl
  |cons a l=>simp;omega
 refine⟨_,(ac (ah (gV (gX dE dE al (bR T.a7 aj (aD aH)) (af T.A3)) (fI (Ef T.g0 (kg rfl) (aD (dL (own:=[("byte",1)]) rfl nd (fK aH) (bp (N:=["row","byte"]) (sc:=aB (bg 30)) (by decide +kernel)) (λ _ _ _ _ _=>(aM (i:=1) nd rfl (Or.inl rfl))) (λ _ _ _ _ _=>cS) (λ _ _ _ _ _=>(az (qo T) hr (aD aQ)))))))))),?_⟩;refine⟨_,rfl,ql (.inr (ci.of ha)) (qn ⟨_,rfl,au (λ h1=>(qn ⟨_,rfl,au (λ h2=>?_) λ h2=>?_⟩)) λ h1=>⟨_,rfl,fH ?_⟩⟩)⟩
 ·rw[e1]at h1;have h2:=(rO (n:=40)).symm.trans h2;refine⟨_,rfl,js (f:=λ b=>isSmall b||(isGreat b||(isDigit b||([46,95,47,45]:Text).contains b))) (fU t) (λ s=>ci.of (s _ _ ha)) (by rw[ao];exact hz) (λ x b H' Q' _ e s1 q=>?_) λ H' s1=>?_⟩
  ·subst e;exact⟨_,rfl,b,rfl,λ H4 s4=>q H4 s4⟩
  ·refine eW (k H' s1) ?_;unfold isPath;rw[h1,h2];rfl
 ·rw[e1]at h1;have h2:decide (t.length<=40)=false:=(rO (n:=40)).symm.trans (Nq _▸h2);refine eW (k H (ae.refl H)) ?_;unfold isPath;rw[h1,h2];rfl
 ·rw[e1,Nq]at h1;refine eW (k H (ae.refl H)) ?_;unfold isPath;rw[h1];rfl
theorem Al{t:Text}:decide ((1:Int)<=((bT t).length:Int))=!t.isEmpty:=by
 rw[ao];cases t with
 |nil=>rfl
 |cons a l=>simp;omega
theorem dG(T:bX K mg ad):aY P w K mg base 3 "is_short_name" ["row"] (rL isShort):=by
 refine T.E5.good (N:=["row","byte"]) cj λ l H vs Q E hr hu6 hu nd h=>?_;obtain⟨v,t,rfl,hv,k⟩:=h;obtain⟨a,rfl,ha,hz⟩:=hv;have no:isShort t=false->Q (.bl false) H:=λ e=>eW (k H (ae.refl H)) e;refine⟨_,(aa (aA (bO (gY dE dE al (bR T.a7 aj (aD aH)) (af T.A4))) (ac (ah kb)) ak)
   (ac (ah (gV (az (hJ T) hr (aD (bv gu aH al (λ _ _=>rfl)))) (fI (Ef T.g0 (kg rfl) (aD (dL (own:=[("byte",1)]) rfl nd (fK aH) (bp (N:=["row","byte"]) (sc:=aB (bg 31)) (by decide +kernel)) (λ _ _ _ _ _=>(aM (i:=1) nd rfl (Or.inl rfl))) (λ _ _ _ _ _=>cS) (λ _ _ _ _ _=>(az (cU T) hr (aD aQ))))))))))),?_⟩
 refine⟨_,rfl,ql (.inr (ci.of ha)) (qn ⟨_,rfl,au (λ h1=>(qn ⟨_,rfl,?_⟩)) λ h1=>⟨_,rfl,fg ?_⟩⟩)⟩
 ·rw[Al]at h1;refine au (λ h2=>?_) λ h2=>?_
  ·refine no ?_;have h2:decide (t.length<=12)=false:=by
    rw[ao]at h2;simp at h2 ⊢;omega
   unfold isShort;rw[h2];simp
  ·have h2:decide (t.length<=12)=true:=by
    rw[ao]at h2;simp at h2 ⊢;omega
   cases t with
   |nil=>cases h1
   |cons c r=>
    refine⟨_,rfl,qi (ci.of ha) (mY (j:=0) rfl rfl) ⟨c,rfl,λ H1 s1=>⟨_,rfl,au (λ h3=>?_) λ h3=>?_⟩⟩⟩
    ·refine⟨_,rfl,js (f:=λ b=>isSmall b||isDigit b) (fU (c::r)) (λ s=>ci.of (s _ _ (s1 _ _ ha))) (by rw[ao];exact hz) (λ x b H' Q' _ e s2 q=>?_) λ H' s2=>?_⟩
     ·subst e;exact⟨_,rfl,b,rfl,λ H4 s4=>q H4 s4⟩
     ·refine eW (k H' (s1.trans s2)) ?_;unfold isShort;rw[h2];show(isSmall c&&(true&&_))=_;rw[h3];rfl
    ·refine eW (k H1 s1) ?_;unfold isShort;show(isSmall c&&_)=_;rw[Nq]at h3;rw[h3];rfl
 ·refine no ?_;rw[Al,Nq]at h1;cases t with
  |nil=>rfl
  |cons c r=>cases h1
theorem lN(T:bX K mg ad):aY P w K mg base 2 "is_argument_sign" ["byte"] (mz λ b=>isSign b&&!([44,40,41,123,125,64]:Text).contains b):=by
 refine T.E6.good (N:=["byte"]) cj λ l H vs Q E hr hu6 hu nd h=>?_;obtain⟨b,rfl,k⟩:=h;refine⟨_,(ac (ah (gV (az (rK T) hr (aD aH)) (fI (dB mS aH (az (bm T) hr (aD cn)) (by with_unfolding_all rfl)))))),?_⟩;refine⟨_,rfl,b,rfl,λ H1 s1=>⟨_,rfl,au (λ h1=>?_) λ h1=>?_⟩⟩
 ·refine⟨_,rfl,_,[44,40,41,123,125,64],rfl,by decide +kernel,by decide,λ v H3 s3 r3=>?_⟩;obtain⟨c,rfl,hc,_⟩:=r3;refine⟨c,_,rfl,.inr (ci.of hc),rfl,vy _,?_⟩;refine eW (k H3 (s1.trans s3)) ?_;rw[yK];simp[h1]
 ·exact eW (k H1 s1) (by simp[h1])
theorem wY(t:Text):decide (fh t none (some 1)=[32])=(t.head?==some 32):=by
 rw[show fh t none (some 1)=t.take 1 from yH t 1];cases t with
 |nil=>rfl
 |cons c r=>
  by_cases h:c=32
  ·subst h;simp
  ·simp[h]
theorem CS(t:Text):decide (fh t (some (-1)) none=[32])=(t.getLast?==some 32):=by
 rw[CQ];rcases Ol t with rfl |⟨l,c,rfl⟩
 ·rfl
 ·rw[Om,La,Lx,Ro,Rr,Ni];by_cases h:c=32
  ·subst h;simp
  ·simp[h]
theorem rR(T:bX K mg ad):aY P w K mg base 3 "is_argument" ["row"] (rL isArgument):=by
 refine T.E7.good (N:=["row","byte"]) cj λ l H vs Q E hr hu6 hu nd h=>?_;obtain⟨v,t,rfl,hv,k⟩:=h;have hv0:=hv;obtain⟨a,rfl,ha,hz⟩:=hv;refine⟨_,(aa (aA ((ra (aq lU (bR T.a7 aj (aD aH)) (af T.A5) (ax _)) (mi (bO (bi (Ef T.g0 (kg rfl) (aD (dL (own:=[("byte",1)]) rfl nd (fK aH) (bp (N:=["row","byte"]) (sc:=aB (bg 33)) (by decide +kernel)) (λ _ _ _ _ _=>(aM (i:=1) nd rfl (Or.inl rfl))) (λ _ _ _ _ _=>cS) (λ _ _ _ _ _=>(az (lN T) hr (aD aQ))))))))))).pt (ac (ah kb)) ak)
   (ac (ah (gV (dB (rH hu6) (aX eC aH cy (aP al)) (bx (aD (af T.j5))) (ax _)) (fI (dB (rH hu6) (aX eC aH (aP (ue oB al)) cy) (bx (aD (af T.j5))) (ax _))))))),?_⟩
 refine⟨_,rfl,ql (.inr (ci.of ha)) (qn ⟨_,rfl,au (λ h1=>fg ?_) λ h1=>?_⟩)⟩
 ·refine eW (k H (ae.refl H)) ?_;have h1:decide (t.length<=40)=false:=by
   rw[ao]at h1;simp at h1 ⊢;omega
  unfold isArgument;rw[h1];rfl
 ·have h1:decide (t.length<=40)=true:=by
   rw[ao]at h1;simp at h1 ⊢;omega
  refine⟨_,rfl,?_⟩;refine js (f:=λ b=>isSign b&&!([44,40,41,123,125,64]:Text).contains b) (fU t) (λ s=>ci.of (s _ _ ha)) (by rw[ao];exact hz) (λ x b H' Q' _ e s2 q=>?_) λ H' s2=>?_
  ·subst e;exact⟨_,rfl,b,rfl,λ H4 s4=>q H4 s4⟩
  ·refine⟨_,rfl,au (λ h2=>?_) λ h2=>?_⟩
   ·refine eW (k H' s2) ?_;rw[Ou,<-Nq]at h2;unfold isArgument;rw[Nq]at h2;rw[h2,Bool.false_and,Bool.and_false]
   ·rw[Nq,Bool.not_eq_false']at h2;refine⟨_,rfl,_,rfl,t,hv0.same s2,λ v1 H1 s1 r1=>?_⟩;refine⟨by decide,λ p hp=>⟨_,[32],r1.same (ae.new hp),⟨p,rfl,ab,by decide⟩,_,rfl,au (λ h3=>?_) λ h3=>?_⟩⟩
    ·refine⟨_,rfl,_,rfl,_,rfl,t,((hv0.same s2).same s1).same (ae.new hp),λ v3 H3 s3 r3=>⟨by decide,λ p4 hp4=>⟨_,[32],r3.same (ae.new hp4),⟨p4,rfl,ab,by decide⟩,?_⟩⟩⟩;refine eW (k _ ((((s2.trans s1).trans (ae.new hp)).trans s3).trans (ae.new hp4))) ?_;unfold isArgument;rw[h1,h2,show(t.head? != some 32)=true by rw[bne,<-wY];exact h3,show(t.getLast? != some 32)=!decide (fh t (some (-1)) none=[32]) by rw[bne,<-CS]];rfl
    ·refine eW (k _ ((s2.trans s1).trans (ae.new hp))) ?_;unfold isArgument;rw[Nq]at h3;rw[show(t.head? != some 32)=false by rw[bne,<-wY];exact h3];simp
def io(fs:List (Str×V))(l:List (Str×V)):Prop:=∀p∈l,fs.lookup p.1=some p.2
theorem io.nil{fs:List (Str×V)}:io fs []:=λ _ h=>by cases h
theorem io.snoc{fs:List (Str×V)}{ns:List Str}{ws:List V}{f:Str}{v:V}(h:io fs (ns.zip ws))(hl:ns.length=ws.length)(n:f∉ns):io (bH f v fs) ((ns++[f]).zip (ws++[v])):=by
 rw[List.zip_append hl];intro p hp;rw[fw];rcases Mg.mp hp with hp |hp
 ·have hm:p.1∈ns:=(List.of_mem_zip hp).1;rw[Ld (λ e=>n (by rw[<-e];exact hm))];exact h p hp
 ·rcases Lp.mp hp with rfl |hp
  ·rw[Le rfl]
  ·cases hp
theorem HQ{f:Str}{v:V}:io (bH f v []) [(f,v)]:=io.snoc (ns:=[]) (ws:=[]) io.nil rfl (by simp)
theorem GB{f g:Str}{v u:V}(h1:g∉[f]):io (bH g u (bH f v [])) [(f,v),(g,u)]:=io.snoc (ns:=[f]) (ws:=[v]) HQ rfl h1
theorem EO{f g h:Str}{v u x:V}(h1:g∉[f])(h2:h∉[f,g]):io (bH h x (bH g u (bH f v []))) [(f,v),(g,u),(h,x)]:=io.snoc (ns:=[f,g]) (ws:=[v,u]) (GB h1) rfl h2
theorem GC{f g h i:Str}{v u x y:V}(h1:g∉[f])(h2:h∉[f,g])(h3:i∉[f,g,h]):io (bH i y (bH h x (bH g u (bH f v [])))) [(f,v),(g,u),(h,x),(i,y)]:=io.snoc (ns:=[f,g,h]) (ws:=[v,u,x]) (EO h1 h2) rfl h3
theorem vz(f:Str)(v:V):(bH f v []).length<=1:=cY _ _ _
theorem wZ(f g:Str)(v u:V):(bH g u (bH f v [])).length<=2:=Ln (cY _ _ _) (Qh (vz f v))
theorem yL(f g h:Str)(v u x:V):(bH h x (bH g u (bH f v []))).length<=3:=Ln (cY _ _ _) (Qh (wZ f g v u))
theorem CT(f g h i:Str)(v u x y:V):(bH i y (bH h x (bH g u (bH f v [])))).length<=4:=Ln (cY _ _ _) (Qh (yL f g h v u x))
def nv(C:Addr)(names:List Str):Sp:=λ vs H Q _=>∃p dx ws,vs=.ref p::ws/\H p=some (.ins C dx [])/\ws.length=names.length/\
 ∀fs H',io fs (names.zip ws)->fs.length<=20->H' p=some (.ins C dx fs)->(∀b,b≠p->H' b=H b)->Q .non H'
theorem CU{C:Addr}{names:List Str}{ws:List V}{H1:Hp}{Q:VK}{E:XK}(hl:ws.length=names.length)(k:∀x H' dx fs,ae H1 H'->H1 x=none->H' x=some (.ins C dx fs)->io fs (names.zip ws)->fs.length<=20->Q (.ref x) H'):
  ∀x dx,H1 x=none->H1 dx=none->dx≠x->nv C names (.ref x::ws) (upd (upd H1 dx (.own x)) x (.ins C dx [])) (λ v H2=>v=.non/\Q (.ref x) H2) E:=by
 intro x dx hx hdx hne;refine⟨x,dx,ws,rfl,ab,hl,λ fs H' hf hz hp hb=>⟨rfl,?_⟩⟩;refine k x H' dx fs (λ b o e=>?_) hx hp hf hz;have h1:b≠x:=ay e hx;have h2:b≠dx:=ay e hdx;rw[hb b h1,am h1,am h2];exact e
theorem uA(T:bX K mg ad):jN P w K mg base 1 "Called" ad.a ["self","name","entries"] (nv ad.a ["name","entries"]):=by
 refine eS T.f8 T.KO (N:=["self","name","entries"]) cj λ l H vs Q E hr hu6 hu nd h=>?_;obtain⟨p,dx,ws,rfl,hp,hl,k⟩:=h
 match ws,hl with
 |[v1,v2],_=>
 refine⟨_,(aa (bw aH aQ rfl)
   (ac (bw aH bJ rfl))),?_⟩
 refine⟨_,rfl,_,rfl,p,_,dx,[],rfl,hp,T.f8.cl,T.r9,by decide,?_⟩;refine⟨_,rfl,_,rfl,qs ab T.f8.cl T.j0 (Lq (cY _ _ _) (by decide)) ?_⟩;refine k _ _ ?_ ?_ ab λ b hb=>by rw[am hb,am hb]
 ·exact GB (by decide +kernel)
 ·exact Ln (wZ _ _ _ _) (by decide)
def xa(ad:Ad)(H:Hp)(v:V)(n:Text)(es:List Text):Prop:=∃a dx fs v1 v2,v=.ref a/\H a=some (.ins ad.a dx fs)/\io fs [("name",v1),("entries",v2)]/\bN H v1 n/\fM H v2 es
def ku(w:Text):Text->Option (List Text)
 |[]=>some [w]
 |c::r=>if c=44 then(match r with
   |[]=>none
   |d::r'=>if d=32 then(ku [] r').map (w :: ·) else none) else ku (w++[c]) r
theorem kx(w:Text)(c:UInt8)(r:Text):ku w (c::r)=if c=44 then(match r with
   |[]=>none
   |d::r'=>if d=32 then(ku [] r').map (w :: ·) else none) else ku (w++[c]) r:=by rw[ku.eq_def];cases r<;>rfl
def gd(x:Text):Option Text:=match x with
 |32::y=>some y
 |_=>none
def HR:List Text->Option (List Text)
 |[]=>none
 |a::r=>(Valita.allOf (r.map gd)).map (a :: ·)
theorem CV{d:UInt8}{x:Text}(h:¬d=32):gd (d::x)=none:=by
 unfold gd;split
 ·rename_i h1;injection h1 with h1 _
  exact absurd h1 h
 ·rfl
theorem CW(x:Text):gd (32::x)=some x:=rfl
theorem rS(w:Text)(t:Text):HR (rM w (cutAt 44 t))=ku w t:=by
 match t with
 |[]=>show(Valita.allOf []).map (λ l=>(w++[]):: l)=some [w];rw[Lv];rfl
 |c::r=>
  rw[fi];unfold ku;by_cases h:c=44
  ·rw[Le h,Le h];show HR ((w++[]):: cutAt 44 r)=_;rw[Lv];show(Valita.allOf ((cutAt 44 r).map gd)).map (w :: ·)=_
   match r with
   |[]=>rfl
   |d::r'=>
    rw[fi];show _=if d=32 then(ku [] r').map (w :: ·) else none
    by_cases h2:d=44
    ·subst h2;rw[Le rfl,Ld (by decide)];rfl
    ·rw[Ld h2];cases e:cutAt 44 r' with
     |nil=>exact absurd e (gk 44 r')
     |cons x xs=>
      show(Valita.allOf (gd (d::x):: xs.map gd)).map (w :: ·)=_;by_cases h3:d=32
      ·subst h3;rw[Le rfl,CW];have ih:=rS [] r';rw[e]at ih;rw[<-ih];rfl
      ·rw[Ld h3,CV h3];rfl
  ·rw[Ld h,Ld h,ux];exact rS (w++[c]) r
 termination_by t.length
theorem vA(w t:Text):∀es,ku w t=some es->2*es.length<=t.length+2:=by
 match t with
 |[]=>intro es h;cases h;exact Lf _
 |c::r=>
  intro es h;unfold ku at h;by_cases h1:c=44
  ·rw[Le h1]at h
   match r,h with
   |[],h=>cases h
   |d::r',h=>
    by_cases h2:d=32
    ·simp only[Le h2]at h;cases e:ku [] r' with
     |none=>rw[e]at h;cases h
     |some l=>rw[e]at h;cases h;have:=vA [] r' l e;simp;omega
    ·simp only[Ld h2]at h;cases h
  ·rw[Ld h1]at h;have:=vA (w++[c]) r es h;simp;omega
 termination_by t.length
def CY:Sp:=λ vs H Q _=>∃v t,vs=[v]/\bN H v t/\(∀H',ae H H'->ku [] t=none->Q .non H')/\∀v' es H',ae H H'->ku [] t=some es->fM H' v' es->Q v' H'
theorem qp(T:bX K mg ad):aY P w K mg base 1 "split_listed" ["row"] (CY):=by
 refine T.E8.good (N:=["row","entries","start","place"]) cj λ l H vs Q E hr hu6 hu nd h=>?_;obtain⟨v,t,rfl,hv,k1,k2⟩:=h;have hv0:=hv;obtain⟨a,rfl,ha,hz⟩:=hv;have hz1:t.length<=1000000:=hz;refine⟨_,(aa (bf 1 nd (aG aF))
   (aa (bf 2 nd al)
   (aa (dn Mu rfl (oA rfl T.j4 (aD (bR T.a7 aj (aD aH)))) (aM (i:=3) nd rfl (Or.inl rfl)) (ac (aA (aq bo (bv gu aH dF (λ _ _=>rfl)) (af T.z8) (ax _)) (aa (aA (aq (rH hu6) (aX eC aH (aP (bu cq dF al)) (aP (bu cq dF al))) (bx (aD (af T.j5))) (ax _)) (ac (ah eA)) ak)
   (aa (aV (bZ Lk Ma Mb bq aQ (aD (aX eC aH (aP bJ) (aP dF)))))
   (ac (bf 2 nd (bu cq dF al))))) ak)))
   (aa (aV (bZ Lk Ma Mb bq aQ (aD (aX eC aH (aP bJ) cy))))
   (ac (ah (uq T.g3 kn (aD aQ)))))))),?_⟩
 refine⟨Lj _,λ l hl=>?_⟩;refine⟨_,rfl,ql (.inr (ci.of (ae.new hl _ _ ha))) ⟨(t.length:Int),?_,?_,?_,?_⟩⟩
 ·rw[ao]
 ·omega
 ·omega
 refine lh (lo:=0) (n:=t.length) (λ j σ H'=>∃x st ws,∃done:List Text,σ=[some (.ref a),some (.ref l),some (.int ((st:Nat):Int)),x]/\ae H H'/\H' l=some (.lst ws)/\Paired (bN H') ws done/\(st<=j\/(st=j+1/\t[j]?=some 32))/\j<=t.length/\done.length<=j/\
   ku [] t=(ku ((t.drop st).take (j - st)) (t.drop (max j st))).map (done ++ ·))
  ⟨none,0,[],[],rfl,ae.new hl,ab,.nil,.inl (Lf _),Lj _,Lf _,by simp⟩ ?_ ?_
 ·rintro j σ H' hj ⟨x,st,ws,done,rfl,s1,hl1,pw,hst,hjl,hdl,e⟩;have hc:t[j]?=some t[j]:=Mt hj;have ed:t.drop j=t[j]:: t.drop (j+1):=Mz hj;refine⟨_,rfl,_,rfl,qi (ci.of (s1 _ _ ha)) (mY (j:=j) (by simp) (by rw[mw,hc];rfl)) ⟨rfl,_,rfl,au (λ h1=>?_) λ h1=>?_⟩⟩
  ·have h1:V.int (bI t[j])=V.int (bI 44):=Lh h1;injection h1 with h1
   have h1:=jp h1;have hst:st<=j:=by
    rcases hst with h |⟨_,h⟩
    ·exact h
    ·rw[hc,h1]at h;exact absurd (Lz h) (by decide)
   rw[Nat.max_eq_left hst,ed,kx,Le h1]at e;refine⟨_,rfl,_,rfl,qn ⟨_,rfl,_,rfl,qn ⟨_,rfl,t,hv0.same s1,λ v1 H1 s2 r1=>?_⟩⟩⟩;have er:fh t (some (0+(j:Int)+1)) (some (0+(j:Int)+2))=(t.drop (j+1)).take 1:=by rw[Int.zero_add,show((j:Int)+1)=((j+1:Nat):Int) by simp,show((j:Int)+2)=((j+2:Nat):Int) by simp,nu,show j+2 - (j+1)=1 by omega]
   rw[er]at r1;refine⟨by decide,λ p hp=>⟨_,[32],r1.same (ae.new hp),⟨p,rfl,ab,by decide⟩,_,rfl,au (λ h2=>?_) λ h2=>?_⟩⟩
   ·refine k1 _ ((s1.trans s2).trans (ae.new hp)) ?_;rw[e];have h2:¬(t.drop (j+1)).take 1=[32]:=by simpa using h2
    cases h3:t.drop (j+1) with
    |nil=>rfl
    |cons d r'=>rw[h3]at h2;have h4:¬d=32:=λ q=>h2 (by rw[q];rfl);simp only[Ld h4];rfl
   ·have h2:(t.drop (j+1)).take 1=[32]:=by simpa using h2
    have s3:=(s1.trans s2).trans (ae.new (o:=.tup [.int 32]) hp);refine⟨_,rfl,.inl ⟨rfl,_,SqL.of (ae.new hp _ _ (s2 _ _ hl1))⟩,_,rfl,_,rfl,_,rfl,_,rfl,_,rfl,t,hv0.same s3,λ v2 H2 s4 r2=>?_⟩;have hl2:=s4 _ _ (ae.new (o:=.tup [.int 32]) hp _ _ (s2 _ _ hl1));refine⟨l,ws,v2,rfl,rfl,hl2,?_,?_⟩
    ·rw[ai pw];exact aL (show done.length<=1000000 by omega)
    have er2:fh t (some (st:Int)) (some (0+(j:Int)))=(t.drop st).take (j - st):=by rw[Int.zero_add];exact nu t st j
    rw[er2]at r2;cases h3:t.drop (j+1) with
    |nil=>rw[h3]at h2;cases h2
    |cons d r'=>
     rw[h3]at h2 e;have h4:d=32:=by have:[d]=[32]:=h2;injection this
     have h5:t[j+1]?=some 32:=by
      have:(t.drop (j+1))[0]?=some d:=by rw[h3];rfl
      rw[List.getElem?_drop]at this;rw[<-h4];exact this
     have h6:t.drop (j+2)=r':=by rw[<-Pe (i:=1) (j:=j+1),h3];rfl
     simp only[Le h4]at e;refine⟨_,rfl,qn ⟨_,j+2,ws++[v2],done++[(t.drop st).take (j - st)],by simp;rfl,ae.upd (s3.trans s4) hl,ab,?_,.inr ⟨rfl,h5⟩,by omega,by simp;omega,?_⟩⟩
     ·have kp:cN H2 (L2.upd H2 l (.lst (ws++[v2]))):=cN.lst hl2;exact aI (bh (bh pw (ae.kept (s2.trans ((ae.new hp).trans s4)))) kp) (.cons (r2.kept kp) .nil)
     ·rw[e,Nat.max_eq_right (by omega),h6,show j+1 - (j+2)=0 by omega,Pd,Option.map_map];congr 1;funext q;simp
  ·have h1:¬t[j]=44:=λ q=>h1 (by rw[q];exact Ll rfl);rcases hst with hst |⟨rfl,h2⟩
   ·rw[Nat.max_eq_left hst,ed,kx,Ld h1,<-uy hst hc]at e;exact⟨_,st,ws,done,rfl,s1,hl1,pw,.inl (by omega),by omega,by omega,by rw[Nat.max_eq_left (by omega)];exact e⟩
   ·refine⟨_,j+1,ws,done,rfl,s1,hl1,pw,.inl (Lf _),by omega,by omega,?_⟩;rw[e,Nat.max_eq_right (by omega),Nat.max_self,show j - (j+1)=0 by omega,Qg]
 ·rintro σ H' ⟨x,st,ws,done,rfl,s1,hl1,pw,hst,hjl,hdl,e⟩;have hst:st<=t.length:=by
   rcases hst with h |⟨_,h⟩
   ·exact h
   ·rw[Oj (Lf _)]at h;cases h
  refine⟨_,rfl,.inl ⟨rfl,_,SqL.of hl1⟩,_,rfl,_,rfl,_,rfl,t,hv0.same s1,λ v2 H2 s2 r2=>?_⟩;have hl2:=s2 _ _ hl1;refine⟨l,ws,v2,rfl,rfl,hl2,?_,?_⟩
  ·rw[ai pw];exact aL (show done.length<=1000000 by omega)
  rw[kr]at r2;have kp:cN H2 (L2.upd H2 l (.lst (ws++[v2]))):=cN.lst hl2;refine⟨_,rfl,l,_,rfl,SqL.of ab,λ q ob hq hob=>?_⟩;rw[Nat.max_eq_left hst,Pb,Mx (by rw[Lw];omega)]at e;have e2:ku [] t=some (done++[t.drop st]):=by rw[e];rfl
  refine k2 _ _ _ ((ae.upd (s1.trans s2) hl).trans (ae.new hq)) e2 ⟨q,_,rfl,⟨ob,ab,hob⟩,?_,?_⟩
  ·exact bh (aI (bh (bh pw (ae.kept s2)) kp) (.cons (r2.kept kp) .nil)) (ae.kept (ae.new hq))
  ·have:=vA _ _ _ e2;show(done++[t.drop st]).length<=1000000;simp at this ⊢;omega
theorem gw(b:UInt8):∀t:Text,t.takeWhile (λ c=>c != b)=t.take (aw b t)
 |[]=>rfl
 |c::r=>by
  unfold aw;by_cases h:c=b
  ·subst h;simp
  ·rw[Ld h,List.takeWhile_cons_of_pos (by simpa using h),gw b r];rfl
theorem tP(b:UInt8)(t:Text):(t.takeWhile (λ c=>c != b)).length=aw b t:=by rw[gw,Lr];have:=jt b t;omega
theorem ju(b:UInt8):∀t:Text,aw b t<t.length->t.drop (aw b t)=b::t.drop (aw b t+1)
 |[],h=>by simp at h
 |c::r,h=>by
  unfold aw at h ⊢;by_cases e:c=b
  ·rw[Le e,e];rfl
  ·rw[Ld e]at h ⊢;have ih:=ju b r (by simpa using h);show r.drop (aw b r)=b::r.drop (aw b r+1);exact ih
def bP(t:Text):Option (Text×List Text):=
 let n:=t.takeWhile λ b=>b != 40
 if isName n=false then none else match t.drop n.length with
  |[]=>some (n,[])
  |_::r=>if r.getLast?=some 41 then(ku [] r.dropLast).map λ l=>(n,l) else none
def CZ(ad:Ad):Sp:=λ vs H Q _=>∃v t,vs=[v]/\bN H v t/\(∀H',ae H H'->bP t=none->Q .non H')/\∀v' n es H',ae H H'->bP t=some (n,es)->xa ad H' v' n es->Q v' H'
theorem nw{c d:UInt8}{r:Text}:(c::r).getLast?=some d↔(r=[]/\c=d)\/r.getLast?=some d:=by
 cases r with
 |nil=>simp
 |cons x xs=>simp[List.getLast?_cons_cons]
theorem uB{H1 H':Hp}{x dx:Addr}{fs:List (Str×V)}{v1 v2:V}{n:Text}{es:List Text}(s:ae H1 H')(hx:H' x=some (.ins ad.a dx fs))(hf:io fs [("name",v1),("entries",v2)])(h1:bN H1 v1 n)(h2:fM H1 v2 es):xa ad H' (.ref x) n es:=
 ⟨x,dx,fs,v1,v2,rfl,hx,hf,h1.same s,h2.same s⟩
theorem vB{t:Text}{c:UInt8}(h:t.getLast?=some c):Cd (bT t) (-1)=some (.int (bI c)):=by
 rcases Ol t with rfl |⟨l,d,rfl⟩
 ·cases h
 ·rw[Om]at h ⊢;rw[Ni]at h;cases h;rw[<-br];exact CB _ _
theorem ky(T:bX K mg ad):aY P w K mg base 5 "read_called" ["row"] (CZ ad):=by
 refine T.E9.good (N:=["row","opening","name","entries"]) cj λ l H vs Q E hr hu6 hu nd h=>?_;obtain⟨v,t,rfl,hv,k1,k2⟩:=h;have hv0:=hv;obtain⟨a,rfl,ha,hz⟩:=hv;have hpl:=jt 40 t;refine⟨_,(aa (bf 1 nd (az (pM T) hr (ag aH (dU (af T.z7) al))))
   (aa (bf 2 nd (aX eC aH cy (aP aQ)))
   (aa (aA (bO (bi (az (rP T) hr (aD bJ)))) (ac (ah eA)) ak)
   (aa (aA (aq bo aQ (bR T.a7 aj (aD aH)) (ax _)) (ac (ah (gv (uA T) hr (ag bJ (ag (qQ aF) aF))))) ak)
   (aa (aA (aq iR (bv gu aH (ue oB al) (λ _ _=>rfl)) (af T.t4) (ax _)) (ac (ah eA)) ak)
   (aa (bf 3 nd (az (qp T) hr (aD (aX eC aH (aP (bu cq aQ al)) (aP (ue oB al))))))
   (aa (aA (gt (jl dF)) (ac (ah eA)) ak)
   (ac (ah (gv (uA T) hr (ag bJ (ag dF aF)))))))))))),?_⟩
 refine⟨_,rfl,_,t,40,0,rfl,hv0,Lj _,?_⟩;rw[List.drop_zero,Nat.zero_add];refine⟨_,rfl,_,rfl,_,rfl,t,hv0,λ v1 H1 s1 r1=>?_⟩;rw[yH,<-gw]at r1;refine⟨_,rfl,v1,_,rfl,r1,λ H2 s2=>⟨_,rfl,au (λ h1=>?_) λ h1=>?_⟩⟩
 ·refine k1 _ (s1.trans s2) ?_;unfold bP;simp only;rw[Le (by simpa using h1)]
 ·have h1:isName (t.takeWhile λ b=>b != 40)=true:=by simpa using h1
  have ec:bP t=match t.drop (aw 40 t) with
    |[]=>some (t.takeWhile (λ b=>b != 40),[])
    |_::r=>if r.getLast?=some 41 then(ku [] r.dropLast).map λ l=>(t.takeWhile (λ b=>b != 40),l) else none:=by
   unfold bP;simp only;rw[Ld (by rw[h1];decide),tP]
  have s12:=s1.trans s2;refine⟨_,rfl,_,rfl,ql (.inr (ci.of (s12 _ _ ha))) ⟨rfl,_,rfl,au (λ h2=>?_) λ h2=>?_⟩⟩
  ·have h2:aw 40 t=t.length:=by
    have h2:=Lh h2;injection h2 with h2
    rw[ao]at h2;omega
   refine⟨_,rfl,Lj _,λ p ob hp hob=>?_⟩;refine CU (ws:=[v1,.ref p]) (by rfl) λ x H' dx fs s3 hx hH hf hz'=>?_;rw[h2,Pb]at ec;exact k2 _ _ _ _ (s12.trans ((ae.new hp).trans s3)) ec (uB s3 hH hf (r1.same (s2.trans (ae.new hp))) ⟨p,[],rfl,⟨ob,ab,hob⟩,.nil,Lj _⟩)
  ·have h2:aw 40 t<t.length:=by
    have h3:¬(aw 40 t)=t.length:=λ q=>h2 (Ll (by rw[ao,q]));omega
   rw[ju 40 t h2]at ec;simp only at ec;obtain⟨c,hc⟩:∃c,t.getLast?=some c:=by
    cases e:t.getLast? with
    |none=>rw[List.getLast?_eq_none_iff]at e;rw[e]at h2;cases h2
    |some c=>exact⟨c,rfl⟩
   have hd:(40::t.drop (aw 40 t+1)).getLast?=some c:=by rw[<-ju 40 t h2,List.getLast?_drop,Ld (by omega)];exact hc
   refine⟨_,rfl,_,rfl,qi (ci.of (s12 _ _ ha)) (vB hc) ⟨rfl,_,rfl,au (λ h3=>?_) λ h3=>?_⟩⟩
   ·have h3:¬c=41:=by
     intro q;subst q;simp at h3;exact h3 rfl
    refine k1 _ s12 ?_;rw[ec,Ld];intro q;rcases nw.mp hd with⟨e1,e2⟩ |e1
    ·rw[e1]at q;cases q
    ·rw[e1]at q;exact h3 (Lz q)
   ·have h3:c=41:=by
     have:bI c=41:=by simpa using h3
     exact jp (this.trans rfl)
    subst h3;have h4:(t.drop (aw 40 t+1)).getLast?=some 41:=by
     rcases nw.mp hd with⟨_,e2⟩ |e1
     ·exact absurd e2 (by decide)
     ·exact e1
    rw[Le h4]at ec;refine⟨_,rfl,_,rfl,qn ⟨_,rfl,_,rfl,_,rfl,t,hv0.same s12,λ v3 H3 s3 r3=>?_⟩⟩;have er:fh t (some (((aw 40 t:Nat):Int)+1)) (some (-1))=(t.drop (aw 40 t+1)).dropLast:=by rw[show(((aw 40 t:Nat):Int)+1)=((aw 40 t+1:Nat):Int) by simp,Aj]
    rw[er]at r3;refine⟨v3,_,rfl,r3,λ H4 s4 e4=>?_,λ v4 es H4 s4 e4 r4=>?_⟩
    ·refine⟨_,rfl,_,rfl,?_⟩;show if decide (V.non=V.non)=true then _ else _
     refine au (λ _=>?_) λ q=>absurd (Ll rfl) q;exact k1 _ ((s12.trans s3).trans s4) (by rw[ec,e4];rfl)
    ·obtain⟨b,vs,rfl,hb⟩:=r4;refine⟨_,rfl,_,rfl,?_⟩;refine au (λ q=>absurd (Lh q) (by intro q;cases q)) λ _=>?_;refine⟨_,rfl,_,rfl,?_⟩;refine CU (ws:=[v1,.ref b]) (by rfl) λ x H' dx fs s5 hx hH hf hz'=>?_;exact k2 _ _ _ _ (((s12.trans s3).trans s4).trans s5) (by rw[ec,e4];rfl) (uB s5 hH hf (r1.same ((s2.trans s3).trans s4)) ⟨b,vs,rfl,hb⟩)
open Valita (glued SEP)
def aJ(n:Text)(es:List Text):Text:=n++(if es.isEmpty=true then[] else 40::(glued SEP es++[41]))
theorem rT(s x:Text):∀l:List Text,l≠[]->glued s (l++[x])=glued s l++(s++x)
 |[],h=>absurd rfl h
 |[t],_=>by show t++(s++x)=_;rfl
 |t::u::r,_=>by show t++(s++glued s ((u::r)++[x]))=t++(s++glued s (u::r))++(s++x);rw[rT s x (u::r) (by simp)];simp
theorem xb(s:Text):∀(l:List Text) (j:Nat),(glued s (l.take j)).length<=(glued s l).length
 |[],j=>by simp
 |[t],j=>by
  cases j with
  |zero=>simp[glued]
  |succ j=>simp
 |t::u::r,j=>by
  match j with
  |0=>simp[glued]
  |1=>simp[glued]
  |j+2=>have ih:=xb s (u::r) (j+1);show(t++(s++glued s ((u::r).take (j+1)))).length<=(t++(s++glued s (u::r))).length;simp only[La];omega
def eF(es:List Text)(j:Nat):Text:=if j=0 then[] else 40::glued SEP (es.take j)
theorem xc{es:List Text}{j:Nat}{e:Text}(h:es[j]?=some e):eF es (j+1)=eF es j++((if j=0 then[40] else[44,32])++e):=by
 unfold eF;rw[Ld (by omega),bD h];by_cases hj:j=0
 ·subst hj;simp[glued]
 ·rw[Ld hj,Ld hj,rT]
  ·simp[SEP]
  ·have hl:=(Mq.mp h).1;intro q;have:=Na List.length q;rw[Lr,Mo]at this;omega
theorem Bf{n:Text}{es:List Text}(j:Nat)(hj:j<=es.length):(n++eF es j).length<=(aJ n es).length:=by
 unfold aJ eF;by_cases h:j=0
 ·subst h;simp
 ·rw[Ld h,Ld (by cases es with |nil=>simp at hj;omega |cons=>simp)];have:=xb SEP es j;simp;omega
def vC:Sp:=λ vs H Q _=>∃v u n es,vs=[v,u]/\bN H v n/\fM H u es/\(aJ n es).length<=gS/\∀l H',ae H H'->H l=none->H' l=some (.lst (bT (aJ n es)))->Q (.ref l) H'
theorem kC(T:bX K mg ad):aY P w K mg base 2 "called_text" ["name","entries"] (vC):=by
 refine T.F0.good (N:=["name","entries","text","place"]) cj λ l H vs Q E hr hu6 hu nd h=>?_;obtain⟨v,u,n,es,rfl,hv,hu',hlim,k⟩:=h;obtain⟨a,rfl,ha,hz⟩:=hv;obtain⟨b,ws,rfl,hb,pb,hzb⟩:=hu';have hlw:=ai pb;have hzb1:es.length<=1000000:=hzb;refine⟨_,(aa (bf 2 nd (uq T.d7 bY (aD aH)))
   (aa (dn Mu rfl (oA rfl T.j4 (aD (bR T.a7 aj (aD aQ)))) (aM (i:=3) nd rfl (Or.inl rfl)) (aa (aV (bZ Lk Ml Mm hG bJ (aD (fJ (aq bo dF al (ax _)) (az (bm T) hr (aD cn)) (az (bm T) hr (aD cn))))))
   (ac (aV (bZ Lk Ml Mm hG bJ (aD (bv gu aQ dF (λ _ _=>rfl))))))))
   (aa (aA (aq lU (bR T.a7 aj (aD aQ)) al (ax _)) (ac (aV (bZ Lk Ma Mb bq bJ (aD (af T.t4))))) ak)
   (ac (ah bJ))))),?_⟩
 refine⟨_,rfl,ql (.inr (ci.of ha)) λ l hl=>?_⟩;have s0:ae H (upd H l (.lst (bT n))):=ae.new hl;refine⟨_,rfl,ql (.inr (hb.same s0).sq) ⟨(ws.length:Int),rfl,by omega,by omega,?_⟩⟩;refine lh (lo:=0) (n:=ws.length) (λ j σ H'=>(∃x,σ=[some (.ref a),some (.ref b),some (.ref l),x])/\ae H H'/\H' l=some (.lst (bT (n++eF es j)))/\j<=es.length)
  ⟨⟨none,rfl⟩,s0,by rw[ab];unfold eF;simp,Lj _⟩ ?_ ?_
 ·rintro j σ H' hj ⟨⟨x,rfl⟩,s1,hl1,hjl⟩;have hw:ws[j]?=some ws[j]:=Mt hj;obtain⟨e,he,re⟩:=aZ pb hw;have hnx:=xc he;have hle:=Bf (n:=n) (es:=es) (j+1) (by omega);have hle':(n++eF es j).length+((if j=0 then[40] else[44,32]:Text).length+e.length)<=gS:=by
   rw[hnx]at hle;simp only[La]at hle ⊢;exact Ln (by omega) hlim
  refine⟨_,rfl,.inl ⟨rfl,_,SqL.of hl1⟩,_,rfl,rfl,_,rfl,au (λ h1=>?_) λ h1=>?_⟩
  ·have hj0:j=0:=by
    have:=Lh h1;injection this with this
    omega
   refine⟨_,[40],rfl,by decide +kernel,by decide,λ v1 H1 s2 r1=>?_⟩;obtain⟨c,rfl,hc,_⟩:=r1;rw[Le hj0]at hnx hle';have z1:(bT (n++eF es j)).length+(bT [40]).length<=sizeLine:=by rw[ao,ao];exact Mj (aL (by omega))
   have z2:(bT (n++eF es j)++bT [40]).length+(bT e).length<=sizeLine:=by rw[La,ao,ao,ao];exact Mj (aL (by omega))
   have s3:ae H (L2.upd H1 l (.lst (bT (n++eF es j)++bT [40]))):=ae.upd (s1.trans s2) hl;obtain⟨d,ed,hd,_⟩:=re.same s3;refine⟨l,c,_,_,rfl,rfl,s2 _ _ hl1,hc,z1,?_⟩;refine⟨_,rfl,.inl ⟨rfl,_,SqL.of ab⟩,_,rfl,_,rfl,qi ((hb.same s3).sq) (mY (j:=j) (by simp) hw) ⟨l,d,_,_,rfl,by rw[ed],ab,hd,z2,⟨_,rfl⟩,ae.upd s3 hl,?_,by omega⟩⟩;rw[ab,hnx,br,br];simp
  ·have hj0:¬j=0:=λ q=>h1 (Ll (by rw[q];rfl));refine⟨_,[44,32],rfl,by decide +kernel,by decide,λ v1 H1 s2 r1=>?_⟩;obtain⟨c,rfl,hc,_⟩:=r1;rw[Ld hj0]at hnx hle';have z1:(bT (n++eF es j)).length+(bT [44,32]).length<=sizeLine:=by
    rw[ao,ao];exact Mj (aL (by omega))
   have z2:(bT (n++eF es j)++bT [44,32]).length+(bT e).length<=sizeLine:=by rw[La,ao,ao,ao];exact Mj (aL (by omega))
   have s3:ae H (L2.upd H1 l (.lst (bT (n++eF es j)++bT [44,32]))):=ae.upd (s1.trans s2) hl;obtain⟨d,ed,hd,_⟩:=re.same s3;refine⟨l,c,_,_,rfl,rfl,s2 _ _ hl1,hc,z1,?_⟩;refine⟨_,rfl,.inl ⟨rfl,_,SqL.of ab⟩,_,rfl,_,rfl,qi ((hb.same s3).sq) (mY (j:=j) (by simp) hw) ⟨l,d,_,_,rfl,by rw[ed],ab,hd,z2,⟨_,rfl⟩,ae.upd s3 hl,?_,by omega⟩⟩;rw[ab,hnx,br,br];simp
 ·rintro σ H' ⟨⟨x,rfl⟩,s1,hl1,hjl⟩;rw[hlw]at hl1;refine⟨_,rfl,ql (.inr (hb.same s1).sq) (qn ⟨_,rfl,au (λ h1=>?_) λ h1=>?_⟩)⟩
  ·have h1:0<es.length:=by
    have:=Lh h1;omega
   have e0:¬es.isEmpty=true:=by
    cases es with
    |nil=>cases h1
    |cons=>simp
   have e1:n++eF es es.length++[41]=aJ n es:=by unfold aJ eF;rw[Ld (by omega),Ld e0,Mr];simp
   have hle:=Na List.length e1;refine⟨_,rfl,.inl ⟨rfl,_,SqL.of hl1⟩,l,_,_,rfl,rfl,hl1,?_,_,rfl,?_⟩
   ·rw[ao];refine aL ?_;rw[La]at hle;exact Ln (by omega) hlim
   ·refine k l _ (ae.upd s1 hl) hl ?_;rw[ab,<-e1,<-br (n++eF es es.length) [41]];rfl
  ·have h1:es=[]:=by
    cases es with
    |nil=>rfl
    |cons c r=>exact absurd (Ll (by rw[hlw];simp)) h1
   refine⟨_,rfl,?_⟩;refine k l _ s1 hl ?_;rw[hl1,h1];rfl
open Valita (Line Piece)
theorem io.a{fs l:List (Str×V)}{f:Str}{v:V}(h:io fs ((f,v):: l)):fs.lookup f=some v:=h _ (.head _)
theorem io.b{fs l:List (Str×V)}{p:Str×V}{f:Str}{v:V}(h:io fs (p::(f,v):: l)):fs.lookup f=some v:=h _ (.tail _ (.head _))
theorem io.c{fs l:List (Str×V)}{p q:Str×V}{f:Str}{v:V}(h:io fs (p::q::(f,v):: l)):fs.lookup f=some v:=h _ (.tail _ (.tail _ (.head _)))
theorem io.d{fs l:List (Str×V)}{p q r:Str×V}{f:Str}{v:V}(h:io fs (p::q::r::(f,v):: l)):fs.lookup f=some v:=h _ (.tail _ (.tail _ (.tail _ (.head _))))
theorem fz{C:Addr}{names:List Str}{ws:List V}{H1:Hp}{R:VK}{E:XK}{x dx:Addr}(hl:ws.length=names.length)(hx:H1 x=none)(hdx:H1 dx=none)(hne:dx≠x)(k:∀H' fs,ae H1 H'->H' x=some (.ins C dx fs)->io fs (names.zip ws)->R .non H'):nv C names (.ref x::ws) (upd (upd H1 dx (.own x)) x (.ins C dx [])) R E:=by refine⟨x,dx,ws,rfl,ab,hl,λ fs H' hf hz hp hb=>k H' fs (λ b o e=>?_) hp hf⟩;have h1:b≠x:=ay e hx;have h2:b≠dx:=ay e hdx;rw[hb b h1,am h1,am h2];exact e
def pK:Piece->Int
 |.lit _=>0
 |.use _ _=>1
 |.param _=>2
def pT:Piece->Text
 |.lit t=>t
 |.use n _=>n
 |.param n=>n
def pA:Piece->List Text
 |.use _ as=>as
 |_=>[]
def lK:Line->Int
 |.code _=>0
 |.when _=>1
 |.otherwise=>2
 |.done=>3
def lP:Line->List Piece
 |.code l=>l
 |_=>[]
def lS:Line->Text
 |.when s=>s
 |_=>[]
def cb(ad:Ad)(H:Hp)(v:V)(p:Piece):Prop:=∃a dx fs v1 v2,v=.ref a/\H a=some (.ins ad.b dx fs)/\io fs [("kind",.int (pK p)),("text",v1),("arguments",v2)]/\bN H v1 (pT p)/\fM H v2 (pA p)
def gK(ad:Ad)(H:Hp)(v:V)(ps:List Piece):Prop:=∃a ws,v=.ref a/\H a=some (.tup ws)/\Paired (cb ad H) ws ps/\ps.length<=gS
def bW(ad:Ad)(H:Hp)(v:V)(l:Line):Prop:=∃a dx fs v1 v2,v=.ref a/\H a=some (.ins ad.c dx fs)/\io fs [("kind",.int (lK l)),("pieces",v1),("setting",v2)]/\gK ad H v1 (lP l)/\bN H v2 (lS l)
def cG(ad:Ad)(H H':Hp):Prop:=cN H H'/\∀a C dx fs,(C=ad.b\/C=ad.c)->H a=some (.ins C dx fs)->H' a=some (.ins C dx fs)
theorem ae.keptI{ad:Ad}{H H':Hp}(s:ae H H'):cG ad H H':=⟨ae.kept s,λ a C dx fs _ h=>s _ _ h⟩
theorem cG.trans{ad:Ad}{H H1 H2:Hp}(a:cG ad H H1)(b:cG ad H1 H2):cG ad H H2:=⟨a.1.trans b.1,λ c C dx fs hC h=>b.2 c C dx fs hC (a.2 c C dx fs hC h)⟩
theorem cG.lst{ad:Ad}{H:Hp}{l:Addr}{xs:List V}{o:HO}(h:H l=some (.lst xs)):cG ad H (L2.upd H l o):=
 ⟨cN.lst h,λ a C dx fs _ e=>by rw[am (λ q=>by rw[q,h]at e;cases e)];exact e⟩
theorem cb.kept{ad:Ad}{H H':Hp}{v:V}{p:Piece}(h:cb ad H v p)(k:cG ad H H'):cb ad H' v p:=by obtain⟨a,dx,fs,v1,v2,e,h,hf,r1,r2⟩:=h;exact⟨a,dx,fs,v1,v2,e,k.2 _ _ _ _ (.inl rfl) h,hf,r1.kept k.1,r2.kept k.1⟩
theorem gK.kept{ad:Ad}{H H':Hp}{v:V}{ps:List Piece}(h:gK ad H v ps)(k:cG ad H H'):gK ad H' v ps:=by obtain⟨a,ws,e,h,p,z⟩:=h;exact⟨a,ws,e,k.1 _ _ rfl h,Paired.mapP p λ _ _ r=>r.kept k,z⟩
theorem bW.kept{ad:Ad}{H H':Hp}{v:V}{l:Line}(h:bW ad H v l)(k:cG ad H H'):bW ad H' v l:=by obtain⟨a,dx,fs,v1,v2,e,h,hf,r1,r2⟩:=h;exact⟨a,dx,fs,v1,v2,e,k.2 _ _ _ _ (.inr rfl) h,hf,r1.kept k,r2.kept k.1⟩
theorem uC(ad:Ad):wU (bW ad):=⟨λ r s=>r.kept (ae.keptI s),λ h r=>r.kept (cG.lst h)⟩
theorem cZ{ad:Ad}{H H':Hp}{vs:List V}{ps:List Piece}(p:Paired (cb ad H) vs ps)(k:cG ad H H'):Paired (cb ad H') vs ps:=Paired.mapP p λ _ _ r=>r.kept k
theorem dj{ad:Ad}{H H':Hp}{vs:List V}{ps:List Line}(p:Paired (bW ad H) vs ps)(k:cG ad H H'):Paired (bW ad H') vs ps:=Paired.mapP p λ _ _ r=>r.kept k
theorem fM.nil{H:Hp}{p:Addr}{ob:Obj}(hob:ob.dict=none):fM (upd H p (.frz ob (.tup []))) (.ref p) []:=⟨p,[],rfl,⟨ob,ab,hob⟩,.nil,Lj _⟩
theorem bN.nil{H:Hp}{p:Addr}(h:H p=none):bN (upd H p (.tup [])) (.ref p) []:=⟨p,rfl,ab,Lj _⟩
theorem ny(T:bX K mg ad):jN P w K mg base 1 "Piece" ad.b ["self","kind","text","arguments"] (nv ad.b ["kind","text","arguments"]):=by
 refine eS T.c8 T.KP (N:=["self","kind","text","arguments"]) cj λ l H vs Q E hr hu6 hu nd h=>?_;obtain⟨p,dx,ws,rfl,hp,hl,k⟩:=h
 match ws,hl with
 |[v1,v2,v3],_=>
 refine⟨_,(aa (bw aH aQ rfl)
   (aa (bw aH bJ rfl)
   (ac (bw aH dF rfl)))),?_⟩
 refine⟨_,rfl,_,rfl,p,_,dx,[],rfl,hp,T.c8.cl,T.d8,by decide,?_⟩;refine⟨_,rfl,_,rfl,qs ab T.c8.cl T.f6 (Lq (vz _ _) (by decide)) ?_⟩;refine⟨_,rfl,_,rfl,qs ab T.c8.cl T.j9 (Lq (wZ _ _ _ _) (by decide)) ?_⟩;exact k _ _ (EO (by decide +kernel) (by decide +kernel)) (Ln (yL _ _ _ _ _ _) (by decide)) ab λ b hb=>by rw[am hb,am hb,am hb]
theorem lq(T:bX K mg ad):jN P w K mg base 1 "Line" ad.c ["self","kind","pieces","setting"] (nv ad.c ["kind","pieces","setting"]):=by
 refine eS T.c7 T.KQ (N:=["self","kind","pieces","setting"]) cj λ l H vs Q E hr hu6 hu nd h=>?_;obtain⟨p,dx,ws,rfl,hp,hl,k⟩:=h
 match ws,hl with
 |[v1,v2,v3],_=>
 refine⟨_,(aa (bw aH aQ rfl)
   (aa (bw aH bJ rfl)
   (ac (bw aH dF rfl)))),?_⟩
 refine⟨_,rfl,_,rfl,p,_,dx,[],rfl,hp,T.c7.cl,T.c9,by decide,?_⟩;refine⟨_,rfl,_,rfl,qs ab T.c7.cl T.f9 (Lq (vz _ _) (by decide)) ?_⟩;refine⟨_,rfl,_,rfl,qs ab T.c7.cl T.g9 (Lq (wZ _ _ _ _) (by decide)) ?_⟩;exact k _ _ (EO (by decide +kernel) (by decide +kernel)) (Ln (yL _ _ _ _ _ _) (by decide)) ab λ b hb=>by rw[am hb,am hb,am hb]
def GD:Sp:=λ vs H Q _=>∃v t,∃(i:Nat) (c:UInt8),vs=[v,.int (i:Int)]/\bN H v t/\t[i]?=some c/\∀H',ae H H'->Q (.int (if c≠64 then 1 else if t[i+1]?=some 64 then 2 else 0)) H'
theorem Am(t:Text)(i:Nat):fh t (some ((i:Int)+1)) (some ((i:Int)+2))=(t[i+1]?).toList:=by
 rw[show((i:Int)+1)=((i+1:Nat):Int) by simp,show((i:Int)+2)=((i+2:Nat):Int) by simp,nu,show i+2 - (i+1)=1 by omega];cases h:t[i+1]? with
 |none=>rw[Ox (List.getElem?_eq_none_iff.mp h)];rfl
 |some c=>obtain⟨hi,e⟩:=Mq.mp h;rw[Mz hi,e];rfl
theorem lr{o:Option UInt8}{c:UInt8}:o.toList=[c]↔o=some c:=by
 cases o with
 |none=>simp
 |some d=>simp
theorem qr(T:bX K mg ad):aY P w K mg base 1 "literal_step" ["row","place"] (GD):=by
 refine T.F8.good (N:=["row","place"]) cj λ l H vs Q E hr hu6 hu nd h=>?_;obtain⟨v,t,i,c,rfl,hv,hc,k⟩:=h;have hv0:=hv;obtain⟨a,rfl,ha,hz⟩:=hv;refine⟨_,(aa (aA (aq iR (bv gu aH aQ (λ _ _=>rfl)) (af T.j6) (ax _)) (ac (ah al)) ak)
   (aa (aA (aq (iJ hu6) (aX eC aH (aP (bu cq aQ al)) (aP (bu cq aQ al))) (bx (aD (af T.j6))) (ax _)) (ac (ah al)) ak)
   (ac (ah al)))),?_⟩
 refine⟨_,rfl,_,rfl,qi (ci.of ha) (mY (j:=i) rfl (by rw[mw,hc];rfl)) ⟨rfl,_,rfl,au (λ h1=>?_) λ h1=>?_⟩⟩
 ·have h1:c≠64:=by
   intro q;subst q;simp at h1;exact h1 rfl
  have k:=k H (ae.refl H);rw[Le h1]at k;exact k
 ·have h1:c=64:=by
   have:bI c=64:=by simpa using h1
   exact jp (this.trans rfl)
  refine⟨_,rfl,_,rfl,qn ⟨_,rfl,_,rfl,qn ⟨_,rfl,t,hv0,λ v1 H1 s1 r1=>?_⟩⟩⟩;rw[Am]at r1;refine⟨by decide,λ p hp=>⟨_,[64],r1.same (ae.new hp),⟨p,rfl,ab,by decide⟩,_,rfl,au (λ h2=>?_) λ h2=>?_⟩⟩
  ·have h2:=lr.mp (Lh h2);rw[Ld (by simp[h1]),Le h2]at k;exact k _ (s1.trans (ae.new hp))
  ·have h2:¬t[i+1]?=some 64:=λ q=>h2 (Ll (lr.mpr q));rw[Ld (by simp[h1]),Ld h2]at k;exact k _ (s1.trans (ae.new hp))
def dH(t:Text):List Piece:=if t.isEmpty=true then[] else[.lit t]
def GE(ad:Ad):Sp:=λ vs H Q _=>∃l t,vs=[.ref l]/\H l=some (.lst (bT t))/\t.length<=gS/\∀m ws H',ae H H'->H m=none->H' m=some (.lst ws)->Paired (cb ad H') ws (dH t)->Q (.ref m) H'
theorem ip(T:bX K mg ad):aY P w K mg base 3 "literal_pieces" ["literal"] (GE ad):=by
 refine T.F9.good (N:=["literal"]) cj λ l H vs Q E hr hu6 hu nd h=>?_;obtain⟨l,t,rfl,hl,hz,k⟩:=h;refine⟨_,(aa (aA (aq bo (bR T.a7 aj (aD aH)) al (ax _)) (ac (ah (aG aF))) ak)
   (ac (ah (aG (aD (gv (ny T) hr (ag (af T.t7) (ag (uq T.g3 eZ (aD aH)) (ag (qQ aF) aF))))))))),?_⟩
 refine⟨_,rfl,ql (.inl (SqL.of hl)) ⟨rfl,_,rfl,au (λ h1=>?_) λ h1=>?_⟩⟩
 ·refine⟨Lj _,λ m hm=>k m [] _ (ae.new hm) hm ab ?_⟩;have h1:t.length=0:=by
   have h1:=Lh h1;injection h1 with h1
   rw[ao]at h1;omega
  rw[Oe.mp h1];exact .nil
 ·have h1:¬t.isEmpty=true:=by
   intro q;rw[Oh]at q;subst q;exact h1 (Ll rfl)
  refine⟨_,rfl,l,_,rfl,.inl ⟨SqL.of hl,λ p hp=>?_⟩⟩;refine⟨Lj _,λ q ob hq hob=>?_⟩;intro x dx hx hdx hne;refine fz (ws:=[.int 0,.ref p,.ref q]) (by rfl) hx hdx hne λ H' fs s1 hH hf=>⟨rfl,?_⟩;have s01:ae H H':=((ae.new hp).trans (ae.new hq)).trans s1;refine⟨(show 1<=sizeLine by decide),λ m hm=>k m [.ref x] _ (s01.trans (ae.new hm)) (s01.free hm) ab ?_⟩;unfold dH;rw[Ld h1];refine .cons (cb.kept ⟨x,dx,fs,.ref p,.ref q,rfl,hH,hf,?_,?_⟩ (ae.keptI (ae.new hm))) .nil
  ·exact⟨p,rfl,s1 _ _ (ae.new hq _ _ ab),hz⟩
  ·exact(fM.nil hob).same s1
def ff(o:Option UInt8):UInt8:=if o=some 123 then 125 else 62
def Bg:Sp:=λ vs H Q _=>∃v t,∃i:Nat,vs=[v,.int (i:Int)]/\bN H v t/\i<=t.length/\∀H',ae H H'->Q (.int ((i+aw (ff t[i+1]?) (t.drop i)+1:Nat):Int)) H'
theorem tQ(T:bX K mg ad):aY P w K mg base 2 "marked_end" ["row","place"] (Bg):=by
 refine T.G0.good (N:=["row","place","closing"]) cj λ l H vs Q E hr hu6 hu nd h=>?_;obtain⟨v,t,i,rfl,hv,hi,k⟩:=h;refine⟨_,(aa (bf 2 nd (fJ (aq (iJ hu6) (aX eC aH (aP (bu cq aQ al)) (aP (bu cq aQ al))) (bx (aD (af T.A0))) (ax _)) (af T.t6) (af T.t5)))
   (ac (ah (bu cq (az (pM T) hr (ag aH (dU bJ aQ))) al)))),?_⟩
 refine⟨_,rfl,_,rfl,qn ⟨_,rfl,_,rfl,qn ⟨_,rfl,t,hv,λ v1 H1 s1 r1=>?_⟩⟩⟩;rw[Am]at r1;refine⟨by decide,λ p hp=>⟨_,[123],r1.same (ae.new hp),⟨p,rfl,ab,by decide⟩,_,rfl,au (λ h2=>?_) λ h2=>?_⟩⟩
 ·have h2:=lr.mp (Lh h2);unfold ff at k;rw[Le h2]at k;exact⟨_,rfl,_,rfl,_,rfl,v,t,125,i,rfl,hv.same (s1.trans (ae.new hp)),hi,_,_,rfl,rfl,k _ (s1.trans (ae.new hp))⟩
 ·have h2:¬t[i+1]?=some 123:=λ q=>h2 (Ll (lr.mpr q));unfold ff at k;rw[Ld h2]at k;exact⟨_,rfl,_,rfl,_,rfl,v,t,62,i,rfl,hv.same (s1.trans (ae.new hp)),hi,_,_,rfl,rfl,k _ (s1.trans (ae.new hp))⟩
theorem jR(r:Text):Valita.argumentsOf r=if r.getLast?=some 41 then(ku [] r.dropLast).bind λ es=>if es.all isArgument=true then some es else none else none:=by
 unfold Valita.argumentsOf;by_cases h:r.getLast?=some 41
 ·rw[Le h,Le h,<-rS,rN];cases cutAt 44 r.dropLast with
  |nil=>rfl
  |cons a l=>show(Valita.allOf (l.map gd)).bind _=((Valita.allOf (l.map gd)).map (a :: ·)).bind _;cases Valita.allOf (l.map gd)<;>rfl
 ·rw[Ld h,Ld h]
theorem gL(t:Text):Valita.useOf t=(bP t).bind λ z=>if z.2.all isArgument=true then some (.use z.1 z.2) else none:=by
 unfold Valita.useOf bP;simp only;by_cases h:isName (t.takeWhile λ b=>b != 40)=false
 ·rw[Le h,Le h];rfl
 ·rw[Ld h,Ld h];cases t.drop (t.takeWhile λ b=>b != 40).length with
  |nil=>rfl
  |cons c r=>
   simp only;rw[jR];by_cases h2:r.getLast?=some 41
   ·rw[Le h2,Le h2];cases ku [] r.dropLast with
    |none=>rfl
    |some es=>
     show Option.map _ (if es.all isArgument=true then some es else none)=if es.all isArgument=true then _ else none
     split<;>rfl
   ·rw[Ld h2,Ld h2];rfl
def An(ad:Ad)(f:Text->Option Piece):Sp:=λ vs H Q _=>∃v t,vs=[v]/\bN H v t/\(∀H',ae H H'->f t=none->Q .non H')/\∀v' p H',ae H H'->f t=some p->cb ad H' v' p->(∃a,v'=.ref a)->Q v' H'
theorem xf(T:bX K mg ad):aY P w K mg base 6 "read_use" ["inner"] (An ad Valita.useOf):=by
 refine T.G2.good (N:=["inner","called","entry"]) cj λ l H vs Q E hr hu6 hu nd h=>?_;obtain⟨v,t,rfl,hv,k1,k2⟩:=h;have eu:=gL t;refine⟨_,(aa (bf 1 nd (az (ky T) hr (aD aH)))
   (aa (aA ((ra (gt (jl aQ)) (mi (bO (bi (Ef T.g0 (kg rfl) (aD (dL (own:=[("entry",2)]) rfl nd (fK (aC aQ)) (bp (N:=["inner","called","entry"]) (sc:=aB (bg 56)) (by decide +kernel)) (λ _ _ _ _ _=>(aM (i:=2) nd rfl (Or.inl rfl))) (λ _ _ _ _ _=>cS) (λ _ _ _ _ _=>(az (rR T) hr (aD bJ))))))))))).pt (ac (ah eA)) ak)
   (ac (ah (gv (ny T) hr (ag (af T.i5) (ag (aC aQ) (ag (aC aQ) aF)))))))),?_⟩
 refine⟨_,rfl,v,t,rfl,hv,λ H1 s1 e1=>?_,λ v1 n es H1 s1 e1 r1=>?_⟩
 ·rw[e1]at eu;refine⟨_,rfl,_,rfl,?_⟩;refine au (λ _=>?_) λ q=>absurd (Ll rfl) q;exact fg (k1 _ s1 eu)
 ·rw[e1]at eu;obtain⟨a,dx,fs,w1,w2,rfl,ha,hf,hn,b,ws,rfl,hb,pb,hzb⟩:=r1;refine⟨_,rfl,_,rfl,?_⟩;refine au (λ q=>absurd (Lh q) (by intro q;cases q)) λ _=>?_;refine qf ha T.f8.cl T.j0 hf.b ?_;refine js (f:=isArgument) pb (λ s=>(hb.same s).sq) (by rw[ai pb];exact hzb) (λ x c H' Q' _ e s2 q=>?_) λ H' s2=>?_
  ·exact⟨_,rfl,x,c,rfl,e.same s2,λ H4 s4=>q H4 s4⟩
  ·refine⟨_,rfl,au (λ h2=>?_) λ h2=>?_⟩
   ·refine k1 _ (s1.trans s2) ?_;rw[eu];show(if es.all isArgument=true then _ else none)=none;rw[Ld (by simpa using h2)]
   ·have h2:es.all isArgument=true:=by simpa using h2
    refine qf (s2 _ _ ha) T.f8.cl T.r9 hf.a ?_;refine qf (s2 _ _ ha) T.f8.cl T.j0 hf.b ?_;intro x dx' hx hdx hne;refine fz (ws:=[.int 1,w1,.ref b]) (by rfl) hx hdx hne λ H2 fs' s3 hH hf'=>⟨rfl,?_⟩;refine k2 _ (.use n es) _ ((s1.trans s2).trans s3) ?_ ⟨x,dx',fs',w1,.ref b,rfl,hH,hf',(hn.same s2).same s3,(fM.same ⟨b,ws,rfl,hb,pb,hzb⟩ s2).same s3⟩ ⟨x,rfl⟩;rw[eu];show(if es.all isArgument=true then _ else none)=_;rw[Le h2]
def bA(t:Text):Option Piece:=
 if([64,123]:Text).isPrefixOf t=true/\t.getLast?=some 125 then Valita.useOf (t.drop 2).dropLast
 else if([64,60]:Text).isPrefixOf t=true/\t.getLast?=some 62/\isShort (t.drop 2).dropLast=true then some (.param (t.drop 2).dropLast) else none
theorem uD{h t:Text}(hp:h.isPrefixOf t=true)(hne:h≠[]):∃c,t.getLast?=some c:=by
 cases e:t.getLast? with
 |none=>rw[List.getLast?_eq_none_iff]at e;rw[e,Nz,List.prefix_nil]at hp;exact absurd hp hne
 |some c=>exact⟨c,rfl⟩
theorem iX{c d:UInt8}{n:Int}(hn:n=bI d):decide ((V.int (bI c):V)=V.int n)=decide (c=d):=by
 subst hn;refine Qe.mpr ⟨λ h=>?_,λ h=>by rw[h]⟩;injection h with h
 exact jp h
theorem rV(T:bX K mg ad):aY P w K mg base 7 "read_marked" ["row"] (An ad bA):=by
 refine T.G1.good (N:=["row","inner"]) cj λ l H vs Q E hr hu6 hu nd h=>?_;obtain⟨v,t,rfl,hv,k1,k2⟩:=h;have hv0:=hv;obtain⟨a,rfl,ha,hz⟩:=hv;refine⟨_,(aa (bf 1 nd (aX eC aH (aP al) (aP (ue oB al))))
   (aa (aA ((oz (bi (az (di T) hr (dU aH (az (bm T) hr (aD cn))))) (mK (aq bo (bv gu aH (ue oB al) (λ _ _=>rfl)) (af T.t6) (ax _))))).pt (ac (ah (az (xf T) hr (aD aQ)))) ak)
   (aa (aA ((oz (bi (az (di T) hr (dU aH (az (bm T) hr (aD cn))))) (oz (aq bo (bv gu aH (ue oB al) (λ _ _=>rfl)) (af T.t5) (ax _)) (mK (bi (az (dG T) hr (aD aQ))))))).pt (ac (ah (gv (ny T) hr (ag (af T.k9) (ag aQ (ag (qQ aF) aF)))))) ak)
   (ac (ah eA))))),?_⟩
 refine⟨_,rfl,_,rfl,_,rfl,_,rfl,t,hv0,λ v1 H1 s1 r1=>?_⟩;rw[show fh t (some 2) (some (-1))=(t.drop 2).dropLast from Aj t 2]at r1;have second:∀H2,ae H1 H2->¬(([64,123]:Text).isPrefixOf t=true/\t.getLast?=some 125)->
   tK (Ek (Ej (tB (wv wX [] E0 (gD (gr 0) (gD (wv Ai [] E0 (gD (tC (.str "@<")) ib)) ib)))) (Ej (uf (Co Ih (Co (HE K) (gr 0) (Ja (rU λ i=>.int (-i)) (tC (.int 1)))) (tC (.int 62)))) (tB (wv (rL isShort) [] E0 (gD (gr 1) ib)))))
    (vf (wx ad.b (nv ad.b ["kind","text","arguments"]) [] E0 (gD (tC (.int 2)) (gD (gr 1) (gD (λ σ H Q=>ib σ H λ xs H1=>xs.length<=sizeLine/\∀p ob,H1 p=none->ob.dict=none->Q (.ref p) (upd H1 p (.frz ob (.tup xs)))) ib))))) zQ) (vf (tC .non)) {nx:=λ _ H'=>Q .non H',rt:=Q} [some (.ref a),some v1] H2:=by
  intro H2 s2 hno;have s12:=s1.trans s2;refine⟨_,rfl,_,[64,60],rfl,by decide +kernel,by decide,λ v3 H3 s3 r3=>?_⟩;refine⟨_,_,t,_,rfl,hv0.same (s12.trans s3),r3,λ H4 s4=>⟨_,rfl,au (λ h1=>?_) λ h1=>?_⟩⟩
  ·obtain⟨c,hc⟩:=uD h1 (by simp);have s14:=(s12.trans s3).trans s4;refine⟨_,rfl,_,rfl,qi (ci.of (s14 _ _ ha)) (vB hc) ⟨rfl,_,rfl,au (λ h2=>?_) λ h2=>fH ?_⟩⟩
   ·rw[iX (n:=62) (d:=62) rfl]at h2;have h2:=Lh h2;refine⟨_,rfl,v1,_,rfl,r1.same ((s2.trans s3).trans s4),λ H5 s5=>⟨_,rfl,au (λ h3=>?_) λ h3=>?_⟩⟩
    ·refine⟨_,rfl,Lj _,λ p ob hp hob=>?_⟩;intro x dx hx hdx hne;refine fz (ws:=[.int 2,v1,.ref p]) (by rfl) hx hdx hne λ H6 fs s6 hH hf=>⟨rfl,?_⟩;have s56:=(s5.trans (ae.new hp)).trans s6;refine k2 _ (.param (t.drop 2).dropLast) _ (s14.trans s56) ?_ ⟨x,dx,fs,v1,.ref p,rfl,hH,hf,r1.same (((s2.trans s3).trans s4).trans s56),(fM.nil hob).same s6⟩ ⟨x,rfl⟩;unfold bA;rw[Ld hno,Le ⟨h1,by rw[hc,h2],h3⟩]
    ·refine k1 _ (s14.trans s5) ?_;unfold bA;rw[Ld hno,Ld (λ q=>h3 q.2.2)]
   ·rw[iX (n:=62) (d:=62) rfl]at h2;refine k1 _ s14 ?_;unfold bA;rw[Ld hno,Ld (λ q=>h2 (Ll (Lz (hc.symm.trans q.2.1))))]
  ·refine fH (k1 _ ((s12.trans s3).trans s4) ?_);unfold bA;rw[Ld hno,Ld (λ q=>h1 q.1)]
 refine⟨_,rfl,_,[64,123],rfl,by decide +kernel,by decide,λ v3 H3 s3 r3=>?_⟩;refine⟨_,_,t,_,rfl,hv0.same (s1.trans s3),r3,λ H4 s4=>⟨_,rfl,au (λ h1=>?_) λ h1=>fH ?_⟩⟩
 ·obtain⟨c,hc⟩:=uD h1 (by simp);have s14:=(s1.trans s3).trans s4;refine⟨_,rfl,_,rfl,qi (ci.of (s14 _ _ ha)) (vB hc) ⟨rfl,_,rfl,au (λ h2=>?_) λ h2=>?_⟩⟩
  ·rw[iX (n:=125) (d:=125) rfl]at h2;have h2:=Lh h2;have em:bA t=Valita.useOf (t.drop 2).dropLast:=by
    unfold bA;rw[Le ⟨h1,by rw[hc,h2]⟩]
   refine⟨_,rfl,v1,_,rfl,r1.same (s3.trans s4),λ H5 s5 e5=>k1 _ (s14.trans s5) (em.trans e5),λ v5 p5 H5 s5 e5 r5 hr5=>k2 _ _ _ (s14.trans s5) (em.trans e5) r5 hr5⟩
  ·rw[iX (n:=125) (d:=125) rfl]at h2;exact second _ (s3.trans s4) λ q=>h2 (Ll (Lz (hc.symm.trans q.2)))
 ·exact second _ (s3.trans s4) λ q=>h1 q.1
def yM(ad:Ad)(f:Text->Option Line):Sp:=λ vs H Q _=>∃v t,vs=[v]/\bN H v t/\(∀H',ae H H'->f t=none->Q .non H')/\∀v' l H',ae H H'->f t=some l->bW ad H' v' l->(∃a,v'=.ref a)->Q v' H'
theorem gK.nil{H:Hp}{p:Addr}(h:H p=none):gK ad (upd H p (.tup [])) (.ref p) []:=⟨p,[],rfl,ab,.nil,Lj _⟩
theorem yN(T:bX K mg ad):aY P w K mg base 4 "read_if" ["setting"] (yM ad λ s=>if isShort s=true then some (.when s) else none):=by
 refine T.F6.good (N:=["setting"]) cj λ l H vs Q E hr hu6 hu nd h=>?_;obtain⟨v,t,rfl,hv,k1,k2⟩:=h;refine⟨_,(aa (aA (bO (bi (az (dG T) hr (aD aH)))) (ac (ah eA)) ak)
   (ac (ah (gv (lq T) hr (ag (af T.g4) (ag (bx aF) (ag aH aF))))))),?_⟩
 refine⟨_,rfl,v,t,rfl,hv,λ H1 s1=>⟨_,rfl,au (λ h1=>?_) λ h1=>?_⟩⟩
 ·refine k1 _ s1 ?_;have h1:isShort t=false:=by simpa using h1
  simp[h1]
 ·have h1:isShort t=true:=by simpa using h1
  refine⟨Lj _,λ p hp=>⟨_,rfl,?_⟩⟩;intro x dx hx hdx hne;refine fz (ws:=[.int 1,.ref p,v]) (by rfl) hx hdx hne λ H2 fs s2 hH hf=>⟨rfl,?_⟩;refine k2 _ (.when t) _ ((s1.trans (ae.new hp)).trans s2) (by simp[h1]) ⟨x,dx,fs,.ref p,v,rfl,hH,hf,(gK.nil hp).kept (ae.keptI s2),hv.same ((s1.trans (ae.new hp)).trans s2)⟩ ⟨x,rfl⟩
end Tw
namespace Tw
open Valita
def gx(o:Option Scan):Option (List Piece):=o.bind λ x=>match x.at_ with
 |.plain=>some (withLit x)
 |_=>none
theorem nB(t:Text):piecesOf t=gx (scan ⟨[],[],.plain⟩ t):=rfl
theorem dX(x:Scan)(b:UInt8)(r:Text):scan x (b::r)=(feed x b).bind λ y=>scan y r:=rfl
theorem xg{ps:List Piece}{l:Text}{c:UInt8}{r:Text}(h:c≠64):scan ⟨ps,l,.plain⟩ (c::r)=scan ⟨ps,l++[c],.plain⟩ r:=by rw[dX];show(some (if c=64 then _ else _):Option Scan).bind _=_;rw[Ld h];rfl
theorem Ao(ps:List Piece)(l:Text)(r:Text):scan ⟨ps,l,.plain⟩ (64::64::r)=scan ⟨ps,l++[64],.plain⟩ r:=rfl
theorem kD(ps:List Piece)(l u:Text)(c:UInt8):feed ⟨ps,l,.using_ u⟩ c=if c=125 then(useOf u).map (λ p=>⟨withLit ⟨ps,l,.plain⟩++[p],[],.plain⟩) else some ⟨ps,l,.using_ (u++[c])⟩:=rfl
theorem kG(ps:List Piece)(l u:Text)(c:UInt8):feed ⟨ps,l,.naming u⟩ c=if c=62 then(if isShort u=true then some ⟨withLit ⟨ps,l,.plain⟩++[.param u],[],.plain⟩ else none) else some ⟨ps,l,.naming (u++[c])⟩:=rfl
theorem xh{ps:List Piece}{l:Text}:∀(r u:Text),gx (scan ⟨ps,l,.using_ u⟩ r)=
  if aw 125 r<r.length then(useOf (u++r.take (aw 125 r))).bind λ p=>gx (scan ⟨withLit ⟨ps,l,.plain⟩++[p],[],.plain⟩ (r.drop (aw 125 r+1))) else none
 |[],u=>rfl
 |c::r,u=>by
  rw[dX];unfold aw;by_cases h:c=125
  ·subst h;rw[Le rfl,Le (by simp)];rw[kD,Le rfl,Pd,Lv];cases useOf u<;>rfl
  ·rw[Ld h];rw[kD,Ld h];show gx (scan ⟨ps,l,.using_ (u++[c])⟩ r)=_;rw[xh r (u++[c])];by_cases h2:aw 125 r<r.length
   ·rw[Le h2,Le (by simpa using h2)];simp
   ·rw[Ld h2,Ld (by simpa using h2)]
theorem xi{ps:List Piece}{l:Text}:∀(r u:Text),gx (scan ⟨ps,l,.naming u⟩ r)=
  if aw 62 r<r.length then(if isShort (u++r.take (aw 62 r))=true then gx (scan ⟨withLit ⟨ps,l,.plain⟩++[.param (u++r.take (aw 62 r))],[],.plain⟩ (r.drop (aw 62 r+1))) else none) else none
 |[],u=>rfl
 |c::r,u=>by
  rw[dX];unfold aw;by_cases h:c=62
  ·subst h;rw[Le rfl,Le (by simp)];rw[kG,Le rfl,Pd,Lv];by_cases h3:isShort u=true
   ·rw[Le h3,Le h3];rfl
   ·rw[Ld h3,Ld h3];rfl
  ·rw[Ld h];rw[kG,Ld h];show gx (scan ⟨ps,l,.naming (u++[c])⟩ r)=_;rw[xi r (u++[c])];by_cases h2:aw 62 r<r.length
   ·rw[Le h2,Le (show aw 62 r+1<(c::r).length by simpa using h2)];simp
   ·rw[Ld h2,Ld (show ¬aw 62 r+1<(c::r).length by simpa using h2)]
theorem jv(b:UInt8):∀r:Text,aw b r<r.length->r.take (aw b r+1)=r.take (aw b r)++[b]
 |[],h=>by simp at h
 |c::r,h=>by
  unfold aw at h ⊢;by_cases e:c=b
  ·rw[Le e,e];rfl
  ·rw[Ld e]at h ⊢;have ih:=jv b r (by simpa using h);show c::r.take (aw b r+1)=c::r.take (aw b r)++[b];rw[ih];rfl
theorem gO(b:UInt8):∀r:Text,¬aw b r<r.length->b∉r
 |[],_=>by simp
 |c::r,h=>by
  unfold aw at h;by_cases e:c=b
  ·rw[Le e]at h;simp at h
  ·rw[Ld e]at h;have ih:=gO b r (by simpa using h);simp only[Lp,Qu];exact⟨λ q=>e q.symm,ih⟩
theorem nD{t:Text}{c:UInt8}(h:t.getLast?=some c):c∈t:=List.mem_of_getLast? h
theorem xj(ps:List Piece)(l r:Text)(h:r.head?≠some 64):gx (scan ⟨ps,l,.plain⟩ (64::r))=
  (bA ((64::r).take (aw (ff r.head?) (64::r)+1))).bind λ p=>gx (scan ⟨withLit ⟨ps,l,.plain⟩++[p],[],.plain⟩ ((64::r).drop (aw (ff r.head?) (64::r)+1))):=by
 rw[dX];show gx (scan ⟨ps,l,.mark⟩ r)=_;cases r with
 |nil=>rfl
 |cons d r'=>
  rw[dX];have h64:¬d=64:=λ q=>h (by rw[q];rfl);show gx ((if d=64 then _ else if d=123 then some ⟨ps,l,.using_ []⟩ else if d=60 then some ⟨ps,l,.naming []⟩ else none:Option Scan).bind _)=_;rw[Ld h64];show _=(bA ((64::d::r').take (aw (ff (some d)) (64::d::r')+1))).bind _;by_cases h1:d=123
  ·subst h1;have ep:aw (ff (some 123)) (64::123::r')=aw 125 r'+1+1:=rfl;rw[Le rfl];show gx (scan ⟨ps,l,.using_ []⟩ r')=_;rw[xh,Oa];show _=(bA ((64::123::r').take (aw 125 r'+1+1+1))).bind λ p=>gx (scan ⟨withLit ⟨ps,l,.plain⟩++[p],[],.plain⟩ ((64::123::r').drop (aw 125 r'+1+1+1)));show _=(bA (64::123::r'.take (aw 125 r'+1))).bind λ p=>gx (scan ⟨withLit ⟨ps,l,.plain⟩++[p],[],.plain⟩ (r'.drop (aw 125 r'+1)));by_cases h2:aw 125 r'<r'.length
   ·rw[Le h2,jv 125 r' h2];have em:bA (64::123::(r'.take (aw 125 r')++[125]))=useOf (r'.take (aw 125 r')):=by
     unfold bA;have e2:(64::123::(r'.take (aw 125 r')++[125])).getLast?=some 125:=by rw[show(64::123::(r'.take (aw 125 r')++[125]):Text)=(64::123::r'.take (aw 125 r'))++[125] from rfl,Ni]
     rw[Le ⟨rfl,e2⟩];show useOf ((r'.take (aw 125 r')++[125]).dropLast)=_;rw[Nj]
    rw[em]
   ·rw[Ld h2];have hno:=gO 125 r' h2;have em:bA (64::123::r'.take (aw 125 r'+1))=none:=by
     unfold bA;rw[Ld,Ld]
     ·intro q;cases q.1
     ·intro q;have:=nD q.2;simp only[Lp]at this;rcases this with h |h |h
      ·cases h
      ·cases h
      ·exact hno (Qz h)
    rw[em];rfl
  ·rw[Ld h1];have ec:ff (some d)=62:=by
    unfold ff;rw[Ld];intro q;exact h1 (Lz q)
   rw[ec];by_cases h2:d=60
   ·subst h2;rw[Le rfl];show gx (scan ⟨ps,l,.naming []⟩ r')=(bA (64::60::r'.take (aw 62 r'+1))).bind λ p=>gx (scan ⟨withLit ⟨ps,l,.plain⟩++[p],[],.plain⟩ (r'.drop (aw 62 r'+1)));rw[xi,Oa];by_cases h3:aw 62 r'<r'.length
    ·rw[Le h3,jv 62 r' h3];have em:bA (64::60::(r'.take (aw 62 r')++[62]))=if isShort (r'.take (aw 62 r'))=true then some (.param (r'.take (aw 62 r'))) else none:=by
      unfold bA;have e2:(64::60::(r'.take (aw 62 r')++[62])).getLast?=some 62:=by rw[show(64::60::(r'.take (aw 62 r')++[62]):Text)=(64::60::r'.take (aw 62 r'))++[62] from rfl,Ni]
      have e3:((64::60::(r'.take (aw 62 r')++[62]):Text).drop 2).dropLast=r'.take (aw 62 r'):=by show(r'.take (aw 62 r')++[62]).dropLast=_;rw[Nj]
      rw[Ld (λ q=>by cases q.1),e3];by_cases h4:isShort (r'.take (aw 62 r'))=true
      ·rw[Le h4,Le ⟨rfl,e2,h4⟩]
      ·rw[Ld h4,Ld (λ q=>h4 q.2.2)]
     rw[em];by_cases h4:isShort (r'.take (aw 62 r'))=true
     ·rw[Le h4,Le h4];rfl
     ·rw[Ld h4,Ld h4];rfl
    ·rw[Ld h3];have hno:=gO 62 r' h3;have em:bA (64::60::r'.take (aw 62 r'+1))=none:=by
      unfold bA;rw[Ld,Ld]
      ·intro q;have:=nD q.2.1;simp only[Lp]at this;rcases this with h |h |h
       ·cases h
       ·cases h
       ·exact hno (Qz h)
      ·intro q;cases q.1
     rw[em];rfl
   ·rw[Ld h2];have em:bA ((64::d::r').take (aw 62 (64::d::r')+1))=none:=by
     have e1:∃x,(64::d::r':Text).take (aw 62 (64::d::r')+1)=64::d::x:=by show ∃x,(64::d::r':Text).take ((aw 62 (d::r')+1)+1)=64::d::x;exact⟨r'.take (aw 62 (d::r')),rfl⟩
     obtain⟨x,e1⟩:=e1;rw[e1];unfold bA;rw[Ld,Ld]
     ·intro q;have q1:(true&&((60==d)&&([]:Text).isPrefixOf x))=true:=q.1;simp at q1;exact h2 q1.symm
     ·intro q;have q1:(true&&((123==d)&&([]:Text).isPrefixOf x))=true:=q.1;simp at q1;exact h1 q1.symm
    rw[em];rfl
end Tw
namespace Tw
open PySem PySem.Spec PyProof.Rows L2
open Valita (Text Piece piecesOf scan withLit)
theorem nF(ps:List Piece)(l:Text):withLit ⟨ps,l,.plain⟩=ps++dH l:=by
 unfold withLit dH;by_cases h:l.isEmpty=true
 ·rw[Le h,Le h,Lv]
 ·rw[Ld h,Ld h]
theorem EQ(l:Text):(dH l).length<=1:=by unfold dH;split<;>simp
variable{P:Program}{w:World}{K:PySem.W.Frag}{mg:Str->Option Value}{base:Heap}{ad:Ad}
structure iq(ad:Ad)(t:Text)(H0:Hp)(a:Addr)(i:Nat)(lp ll:Addr)(ws:List V)(ps:List Piece)(lit:Text)(H:Hp):Prop where
 same:ae H0 H
 np:H0 lp=none
 nl:H0 ll=none
 ne:lp≠ll
 hp:H lp=some (.lst ws)
 pr:Paired (cb ad H) ws ps
 hl:H ll=some (.lst (bT lit))
 le:i<=t.length
 z1:ps.length+(dH lit).length<=i
 z2:lit.length<=i
 eq:piecesOf t=gx (scan ⟨ps,lit,.plain⟩ (t.drop i))
theorem iq.sames{t:Text}{H0 H H':Hp}{a lp ll:Addr}{i:Nat}{ws:List V}{ps:List Piece}{lit:Text}(C:iq ad t H0 a i lp ll ws ps lit H)(s:ae H H'):iq ad t H0 a i lp ll ws ps lit H':=
 ⟨C.same.trans s,C.np,C.nl,C.ne,s _ _ C.hp,cZ C.pr (ae.keptI s),s _ _ C.hl,C.le,C.z1,C.z2,C.eq⟩
theorem iq.lit{t:Text}{H0 H:Hp}{a lp ll:Addr}{i k:Nat}{ws:List V}{ps:List Piece}{lit:Text}{c:UInt8}(C:iq ad t H0 a i lp ll ws ps lit H)(hk:1<=k)(hle:i+k<=t.length)(e:gx (scan ⟨ps,lit,.plain⟩ (t.drop i))=gx (scan ⟨ps,lit++[c],.plain⟩ (t.drop (i+k)))):
  iq ad t H0 a (i+k) lp ll ws ps (lit++[c]) (upd H ll (.lst (bT lit++[.int (bI c)]))) where
 same:=ae.upd C.same C.nl
 np:=C.np
 nl:=C.nl
 ne:=C.ne
 hp:=by rw[am C.ne];exact C.hp
 pr:=cZ C.pr (cG.lst C.hl)
 hl:=by rw[ab,<-br];rfl
 le:=hle
 z1:=by have h1:=EQ (lit++[c]);have h2:=C.z1;omega
 z2:=by have h2:=C.z2;rw[La,Lx];omega
 eq:=C.eq.trans e
theorem nG(T:bX K mg ad):aY P w K mg base 8 "read_code_line" ["row"] (yM ad λ t=>(piecesOf t).map .code):=by
 refine T.F7.good (N:=["row","pieces","literal","place","step","end","piece"]) cj λ l H vs Q E hr hu6 hu nd h=>?_;obtain⟨v,t,rfl,hv,k1,k2⟩:=h;have hv0:=hv;obtain⟨a,rfl,ha,hz⟩:=hv;have hz1:t.length<=1000000:=hz;refine⟨_,(aa (bf 1 nd (aG aF))
   (aa (bf 2 nd (aG aF))
   (aa (bf 3 nd al)
   (aa (rg Mu (aq pD dF (bR T.a7 aj (aD aH)) (ax _)) (aa (bf 4 nd (az (qr T) hr (dU aH dF)))
   (ac (aA (aq lU jk al (ax _)) (aa (aV (bZ Lk Ma Mb bq bJ (aD (bv gu aH dF (λ _ _=>rfl)))))
   (ac (bf 3 nd (bu cq dF jk)))) (aa (bf 5 nd (az (tQ T) hr (dU aH dF)))
   (aa (bf 6 nd (az (rV T) hr (aD (aX eC aH (aP dF) (aP (pv 5))))))
   (aa (aA (gt (jl (pv 6))) (ac (ah eA)) ak)
   (aa (aV (bZ Lk Ml Mm dq aQ (aD (az (ip T) hr (aD bJ)))))
   (aa (bf 2 nd (aG aF))
   (aa (aV (bZ Lk Ma Mb bq aQ (aD (pv 6))))
   (ac (bf 3 nd (pv 5)))))))))))))
   (aa (aV (bZ Lk Ml Mm dq aQ (aD (az (ip T) hr (aD bJ)))))
   (ac (ah (gv (lq T) hr (ag (af T.j7) (ag (uq T.g3 eZ (aD aQ)) (ag (bx aF) aF))))))))))),?_⟩
 refine⟨Lj _,λ lp hlp=>⟨Lj _,λ ll hll=>?_⟩⟩;have nll:H ll=none:=(ae.new (o:=.lst []) hlp).free hll;have npl:lp≠ll:=λ q=>by rw[<-q,ab]at hll;cases hll
 refine⟨λ m σ H'=>∃i ll' ws ps lit x4 x5 x6,σ=[some (.ref a),some (.ref lp),some (.ref ll'),some (.int ((i:Nat):Int)),x4,x5,x6]/\m=t.length - i/\iq ad t H a i lp ll' ws ps lit H',
  ⟨_,0,ll,[],[],[],none,none,none,rfl,rfl,⟨(ae.new hlp).trans (ae.new hll),hlp,nll,npl,ae.new hll _ _ ab,.nil,ab,Lj _,Lf _,Lf _,rfl⟩⟩,?_⟩
 rintro m σ H' ⟨i,ll',ws,ps,lit,x4,x5,x6,rfl,rfl,C⟩;refine⟨_,rfl,_,rfl,ql (.inr (ci.of (C.same _ _ ha))) (qn ⟨_,rfl,au (λ h1=>?_) λ h1=>?_⟩)⟩
 ·have hi:i<t.length:=by
   have h1:=Lh h1;rw[ao]at h1;omega
  have hc:t[i]?=some t[i]:=Mt hi;have ed:t.drop i=t[i]:: t.drop (i+1):=Mz hi;generalize hcc:t[i]=c at hc ed;refine⟨λ σ' H2=>∃i' ll' ws ps lit x4 x5 x6,i<i'/\σ'=[some (.ref a),some (.ref lp),some (.ref ll'),some (.int ((i':Nat):Int)),x4,x5,x6]/\iq ad t H a i' lp ll' ws ps lit H2,?_,?_⟩
  ·rintro σ' H2 ⟨i',ll2,ws2,ps2,lit2,y4,y5,y6,hlt,rfl,C2⟩;have:=C2.le;exact⟨t.length - i',by omega,i',ll2,ws2,ps2,lit2,y4,y5,y6,rfl,rfl,C2⟩
  refine⟨_,rfl,_,rfl,_,t,i,c,rfl,hv0.same C.same,hc,λ H1 s1=>?_⟩;have C1:=C.sames s1;by_cases hc64:c=64
  ·subst hc64;rw[Ld (by decide)];by_cases hn:t[i+1]?=some 64
   ·
    rw[Le hn];obtain⟨hi2,en⟩:=Mq.mp hn;have ed2:t.drop (i+1)=64::t.drop (i+2):=by rw[Mz hi2,en]
    refine⟨_,rfl,qn ⟨_,rfl,fg ?_⟩⟩;refine⟨_,rfl,.inl ⟨rfl,_,SqL.of C1.hl⟩,_,rfl,_,rfl,qi (ci.of (C1.same _ _ ha)) (mY (j:=i) rfl (by rw[mw,hc];rfl)) ⟨ll',_,_,rfl,rfl,C1.hl,?_,?_⟩⟩
    ·rw[ao];exact aL (Ln C1.z2 (Ln C1.le hz))
    ·refine⟨_,rfl,_,rfl,qn ⟨i+2,ll',ws,ps,lit++[64],_,_,_,by omega,rfl,C1.lit (k:=2) (by decide) (by omega) ?_⟩⟩;rw[ed,ed2,Ao]
   ·
    rw[Ld hn];refine⟨_,rfl,qn ⟨_,rfl,fH ?_⟩⟩;have hh:(t.drop (i+1)).head?≠some 64:=by rw[List.head?_drop];exact hn
    have hm:=xj ps lit (t.drop (i+1)) hh;rw[List.head?_drop,<-ed]at hm;generalize hpl:aw (ff t[i+1]?) (t.drop i)=pl at hm;have hpl2:pl<=t.length - i:=by rw[<-hpl,<-Lw];exact jt _ _
    refine⟨_,rfl,_,rfl,_,t,i,rfl,hv0.same C1.same,by omega,λ H2 s2=>?_⟩;rw[hpl];have C2:=C1.sames s2;refine⟨_,rfl,_,rfl,_,rfl,_,rfl,_,rfl,t,hv0.same C2.same,λ v3 H3 s3 r3=>?_⟩;have er:fh t (some (i:Int)) (some ((i+pl+1:Nat):Int))=(t.drop i).take (pl+1):=by rw[nu,show i+pl+1 - i=pl+1 by omega]
    rw[er]at r3;have C3:=C2.sames s3;refine⟨v3,_,rfl,r3,λ H4 s4 e4=>?_,λ v4 p4 H4 s4 e4 r4 hr4=>?_⟩
    ·refine⟨_,rfl,_,rfl,?_⟩;refine au (λ _=>?_) λ q=>absurd (Ll rfl) q;refine k1 _ (C3.sames s4).same ?_;show(piecesOf t).map _=_;rw[C.eq,hm,e4];rfl
    ·obtain⟨b4,rfl⟩:=hr4;have C4:=C3.sames s4;rw[e4]at hm;have hpl3:i+pl+1<=t.length:=by
      by_cases q:pl<t.length - i
      ·omega
      ·exfalso;have q1:pl+1 > (t.drop i).length:=by rw[Lw];omega
       have hno:=gO (ff t[i+1]?) (t.drop i) (by rw[hpl,Lw];exact q);rw[Mx (by omega)]at e4;unfold bA at e4;unfold ff at hno;split at e4
       ·rename_i h5;have h6:t[i+1]?=some 123:=by
         have h7:=h5.1;rw[ed,Qv]at h7;cases h8:t.drop (i+1) with
         |nil=>rw[h8]at h7;cases h7
         |cons d r'=>
          rw[h8,Qv]at h7;have:d=123:=by simp at h7;exact h7.symm
          have h9:(t.drop (i+1))[0]?=some d:=by rw[h8];rfl
          rw[List.getElem?_drop,this]at h9;exact h9
        rw[Le h6]at hno;exact hno (nD h5.2)
       ·split at e4
        ·rename_i h5 h6;have h7:¬t[i+1]?=some 123:=by
          intro q;have h8:=h6.1;obtain⟨hi2,en⟩:=Mq.mp q;rw[ed,Qv,Mz hi2,en,Qv]at h8;simp at h8
         rw[Ld h7]at hno;exact hno (nD h6.2.1)
        ·cases e4
     refine⟨_,rfl,_,rfl,?_⟩;refine au (λ q=>absurd (Lh q) (by intro q;cases q)) λ _=>?_;refine⟨_,rfl,.inl ⟨rfl,_,SqL.of C4.hp⟩,_,rfl,ll',lit,rfl,C4.hl,Ln C4.z2 (Ln C4.le hz),λ mm ws5 H5 s5 hm5 hl5 p5=>?_⟩;have C5:=C4.sames s5;have l5:=ai p5;have l5':=ai C5.pr;have z1:=C5.z1;have z2:=C5.le;have kI:cG ad H5 (L2.upd H5 lp (.lst (ws++ws5))):=cG.lst C5.hp;refine⟨lp,mm,_,_,rfl,rfl,C5.hp,hl5,?_,?_⟩
     ·exact Mj (aL (show ws.length+ws5.length<=1000000 by omega))
     refine⟨Lj _,λ l6 hl6=>?_⟩;have hlp6:lp≠l6:=λ q=>by rw[<-q,ab]at hl6;cases hl6
     refine⟨_,rfl,.inl ⟨rfl,_,SqL.of (ae.new hl6 _ _ ab)⟩,_,rfl,lp,_,_,rfl,rfl,ae.new hl6 _ _ ab,?_,?_⟩
     ·rw[La];exact aL (show ws.length+ws5.length<=1000000 by omega)
     have sH5:ae H (L2.upd H5 lp (.lst (ws++ws5))):=ae.upd C5.same C5.np;have kI6:cG ad (L2.upd H5 lp (.lst (ws++ws5))) (L2.upd (L2.upd H5 lp (.lst (ws++ws5))) l6 (.lst [])):=ae.keptI (ae.new hl6);have kI7:cG ad (L2.upd (L2.upd H5 lp (.lst (ws++ws5))) l6 (.lst [])) (L2.upd (L2.upd (L2.upd H5 lp (.lst (ws++ws5))) l6 (.lst [])) lp (.lst (ws++ws5++[.ref b4]))):=cG.lst (ae.new hl6 _ _ ab);have kAll:=(kI.trans kI6).trans kI7;refine⟨_,rfl,i+pl+1,l6,ws++ws5++[.ref b4],ps++dH lit++[p4],[],_,_,_,by omega,rfl,?_⟩;refine⟨ae.upd (sH5.trans (ae.new hl6)) C5.np,C5.np,sH5.free hl6,hlp6,ab,?_,?_,hpl3,?_,Lj _,?_⟩
     ·exact aI (aI (cZ C5.pr kAll) (cZ p5 kAll)) (.cons ((r4.kept (ae.keptI s5)).kept kAll) .nil)
     ·rw[am (λ q=>hlp6 q.symm),ab];rfl
     ·rw[La,La,Lx];show _+_+_+0<=_;omega
     ·rw[C.eq,hm,nF,Pe];rfl
  ·
   rw[Le hc64];refine⟨_,rfl,qn ⟨_,rfl,fg ?_⟩⟩;refine⟨_,rfl,.inl ⟨rfl,_,SqL.of C1.hl⟩,_,rfl,_,rfl,qi (ci.of (C1.same _ _ ha)) (mY (j:=i) rfl (by rw[mw,hc];rfl)) ⟨ll',_,_,rfl,rfl,C1.hl,?_,?_⟩⟩
   ·rw[ao];exact aL (Ln C1.z2 (Ln C1.le hz))
   ·refine⟨_,rfl,_,rfl,qn ⟨i+1,ll',ws,ps,lit++[c],_,_,_,by omega,rfl,C1.lit (k:=1) (by decide) (by omega) ?_⟩⟩;rw[ed,xg hc64]
 ·have hi:i=t.length:=by
   have h2:=C.le;have h1:¬((i:Int)<((bT t).length:Int)):=λ q=>h1 (Ll q);rw[ao]at h1;omega
  refine⟨_,rfl,.inl ⟨rfl,_,SqL.of C.hp⟩,_,rfl,ll',lit,rfl,C.hl,Ln C.z2 (Ln C.le hz),λ mm ws5 H5 s5 hm5 hl5 p5=>?_⟩;have C5:=C.sames s5;have l5:=ai p5;have l5':=ai C5.pr;have z1:=C5.z1;have z2:=C5.le;have kI:cG ad H5 (L2.upd H5 lp (.lst (ws++ws5))):=cG.lst C5.hp;refine⟨lp,mm,_,_,rfl,rfl,C5.hp,hl5,?_,?_⟩
  ·exact Mj (aL (show ws.length+ws5.length<=1000000 by omega))
  have sH5:ae H (L2.upd H5 lp (.lst (ws++ws5))):=ae.upd C5.same C5.np;refine⟨_,rfl,lp,_,rfl,.inl ⟨SqL.of ab,λ p hp=>⟨Lj _,λ q hq=>?_⟩⟩⟩;intro x dx hx hdx hne;refine fz (ws:=[.int 0,.ref p,.ref q]) (by rfl) hx hdx hne λ H6 fs s6 hH hf=>⟨rfl,?_⟩;have e1:piecesOf t=some (ps++dH lit):=by rw[C.eq,hi,Pb];show some (withLit ⟨ps,lit,.plain⟩)=_;rw[nF]
  have sf:=((ae.new (o:=.tup (ws++ws5)) hp).trans (ae.new (o:=.tup []) hq)).trans s6;refine k2 _ (.code (ps++dH lit)) _ (sH5.trans sf) ?_ ⟨x,dx,fs,.ref p,.ref q,rfl,hH,hf,⟨p,_,rfl,s6 _ _ (ae.new hq _ _ ab),?_,?_⟩,(bN.nil hq).same s6⟩ ⟨x,rfl⟩
  ·show(piecesOf t).map _=_;rw[e1];rfl
  ·exact cZ (aI (cZ C5.pr kI) (cZ p5 kI)) (ae.keptI sf)
  ·show(ps++dH lit).length<=1000000;rw[La];omega
open Valita (isShort lineOf lineText pieceText piecesText)
theorem nH(T:bX K mg ad):aY P w K mg base 9 "read_line" ["row"] (yM ad lineOf):=by
 refine T.F5.good (N:=["row"]) cj λ l H vs Q E hr hu6 hu nd h=>?_;obtain⟨v,t,rfl,hv,k1,k2⟩:=h;have el:lineOf t=if t=Valita.ELSE then some .otherwise else if t=Valita.FI then some .done else if Valita.IF.isPrefixOf t=true then(if isShort (t.drop 4)=true then some (.when (t.drop 4)) else none) else(piecesOf t).map .code:=rfl
 refine⟨_,(aa (aA (aq (iJ hu6) aH (az (bm T) hr (aD cn)) (ax _)) (ac (ah (gv (lq T) hr (ag (af T.on) (ag (bx aF) (ag (bx aF) aF)))))) ak)
   (aa (aA (aq (iJ hu6) aH (az (bm T) hr (aD cn)) (ax _)) (ac (ah (gv (lq T) hr (ag (af T.t8) (ag (bx aF) (ag (bx aF) aF)))))) ak)
   (aa (aA (bi (az (di T) hr (dU aH (az (bm T) hr (aD cn))))) (ac (ah (az (yN T) hr (aD (aX eC aH (aP (bR T.a7 aj (aD (az (bm T) hr (aD cn))))) cy))))) ak)
   (ac (ah (az (nG T) hr (aD aH))))))),?_⟩
 refine⟨_,rfl,_,Valita.ELSE,rfl,by decide +kernel,by decide +kernel,λ v1 H1 s1 r1=>⟨_,_,hv.same s1,r1,_,rfl,au (λ h1=>?_) λ h1=>?_⟩⟩
 ·rw[Le (Lh h1)]at el;refine⟨Lj _,λ p hp=>⟨Lj _,λ q hq=>?_⟩⟩;intro x dx hx hdx hne;refine fz (ws:=[.int 2,.ref p,.ref q]) (by rfl) hx hdx hne λ H6 fs s6 hH hf=>⟨rfl,?_⟩;exact k2 _ .otherwise _ (((s1.trans (ae.new hp)).trans (ae.new hq)).trans s6) el ⟨x,dx,fs,.ref p,.ref q,rfl,hH,hf,(gK.nil hp).kept (ae.keptI ((ae.new hq).trans s6)),(bN.nil hq).same s6⟩ ⟨x,rfl⟩
 rw[Ld (λ q=>h1 (Ll q))]at el;refine⟨_,rfl,_,Valita.FI,rfl,by decide +kernel,by decide +kernel,λ v2 H2 s2 r2=>⟨_,_,hv.same (s1.trans s2),r2,_,rfl,au (λ h2=>?_) λ h2=>?_⟩⟩
 ·rw[Le (Lh h2)]at el;refine⟨Lj _,λ p hp=>⟨Lj _,λ q hq=>?_⟩⟩;intro x dx hx hdx hne;refine fz (ws:=[.int 3,.ref p,.ref q]) (by rfl) hx hdx hne λ H6 fs s6 hH hf=>⟨rfl,?_⟩;exact k2 _ .done _ ((((s1.trans s2).trans (ae.new hp)).trans (ae.new hq)).trans s6) el ⟨x,dx,fs,.ref p,.ref q,rfl,hH,hf,(gK.nil hp).kept (ae.keptI ((ae.new hq).trans s6)),(bN.nil hq).same s6⟩ ⟨x,rfl⟩
 rw[Ld (λ q=>h2 (Ll q))]at el;refine⟨_,rfl,_,Valita.IF,rfl,by decide +kernel,by decide +kernel,λ v3 H3 s3 r3=>⟨v,v3,t,Valita.IF,rfl,hv.same ((s1.trans s2).trans s3),r3,λ H4 s4=>⟨_,rfl,au (λ h3=>?_) λ h3=>?_⟩⟩⟩
 ·rw[Le h3]at el;have s14:=((s1.trans s2).trans s3).trans s4;refine⟨_,rfl,_,Valita.IF,rfl,by decide +kernel,by decide +kernel,λ v5 H5 s5 r5=>?_⟩;obtain⟨b5,rfl,hb5,_⟩:=r5;refine ql (.inr (ci.of hb5)) ⟨_,rfl,t,hv.same (s14.trans s5),λ v6 H6 s6 r6=>?_⟩;rw[show fh t (some ((bT Valita.IF).length:Int)) none=t.drop 4 from kr t 4]at r6;refine⟨v6,_,rfl,r6,λ H7 s7 e7=>k1 _ ((s14.trans (s5.trans s6)).trans s7) (el.trans e7),λ v7 l7 H7 s7 e7 r7 hr7=>k2 _ _ _ ((s14.trans (s5.trans s6)).trans s7) (el.trans e7) r7 hr7⟩
 ·rw[Ld h3]at el;have s14:=((s1.trans s2).trans s3).trans s4;exact⟨_,rfl,v,t,rfl,hv.same s14,λ H7 s7 e7=>k1 _ (s14.trans s7) (el.trans e7),λ v7 l7 H7 s7 e7 r7 hr7=>k2 _ _ _ (s14.trans s7) (el.trans e7) r7 hr7⟩
def lv(H:Hp)(Q:VK)(t:Text):Prop:=∀l H',ae H H'->H l=none->H' l=some (.lst (bT t))->Q (.ref l) H'
def Bh:Sp:=λ vs H Q _=>∃v t,vs=[v]/\bN H v t/\(pieceText (.lit t)).length<=gS/\lv H Q (pieceText (.lit t))
theorem vD{t:Text}{j:Nat}{c:UInt8}(h:t[j]?=some c):pieceText (.lit (t.take (j+1)))=pieceText (.lit (t.take j))++(if c=64 then[64,64] else[c]):=by show(t.take (j+1)).flatMap _=(t.take j).flatMap _++_;rw[bD h,Mi,Me,Qi,Lv]
theorem yO(t:Text)(j:Nat):(pieceText (.lit (t.take j))).length<=(pieceText (.lit t)).length:=by
 show((t.take j).flatMap _).length<=(t.flatMap _).length
 conv=>rhs;rw[<-Nd j t,Mi,La]
 exact Pa _ _
theorem qt(T:bX K mg ad):aY P w K mg base 1 "literal_text" ["signs"] (Bh):=by
 refine T.G4.good (N:=["signs","text","sign"]) cj λ l H vs Q E hr hu6 hu nd h=>?_;obtain⟨v,t,rfl,hv,hlim,k⟩:=h;obtain⟨a,rfl,ha,hz⟩:=hv;refine⟨_,(aa (bf 1 nd (aG aF))
   (aa (dn Mu rfl (fK aH) (aM (i:=2) nd rfl (Or.inl rfl)) (aa (aV (bZ Lk Ma Mb bq aQ (aD bJ)))
   (ac (aA (aq bo bJ (af T.j6) (ax _)) (ac (aV (bZ Lk Ma Mb bq aQ (aD (af T.j6))))) ak))))
   (ac (ah aQ)))),?_⟩
 refine⟨Lj _,λ l hl=>?_⟩;refine⟨_,rfl,a,rfl,⟨_,ci.of (ae.new hl _ _ ha)⟩,mM (xs:=bT t) (λ j σ H'=>(∃x,σ=[some (.ref a),some (.ref l),x])/\ae H H'/\H' l=some (.lst (bT (pieceText (.lit (t.take j)))))) ⟨⟨none,rfl⟩,ae.new hl,ab⟩ (λ j σ H' _ h=>ci.of (h.2.1 _ _ ha)) ?_ ?_⟩
 ·rintro j x σ H' hj ⟨⟨y,rfl⟩,s1,hl1⟩;rw[mw]at hj;cases hc:t[j]? with
  |none=>rw[hc]at hj;cases hj
  |some c=>
   rw[hc]at hj;obtain rfl:V.int (bI c)=x:=Lz hj;have hn:=vD hc;have hle:=Ln (yO t (j+1)) hlim;rw[hn,La]at hle;refine⟨_,rfl,.inl ⟨rfl,_,SqL.of hl1⟩,_,rfl,l,_,_,rfl,rfl,hl1,?_,?_⟩
   ·rw[ao];exact aL (Ln (Pa _ _) hle)
   refine⟨_,rfl,rfl,_,rfl,au (λ h1=>?_) λ h1=>?_⟩
   ·rw[iX (n:=64) (d:=64) rfl]at h1;have h1:=Lh h1;subst h1;rw[Le rfl]at hn hle;refine⟨_,rfl,.inl ⟨rfl,_,SqL.of ab⟩,l,_,_,rfl,rfl,ab,?_,⟨_,rfl⟩,ae.upd (ae.upd s1 hl) hl,?_⟩
    ·rw[La,ao];exact aL (Ln (Nat.add_le_add_left (by decide:1<=2) _) hle)
    ·rw[ab,hn,<-br,My];rfl
   ·rw[iX (n:=64) (d:=64) rfl]at h1;have h1:¬c=64:=λ q=>h1 (Ll q);rw[Ld h1]at hn;refine⟨⟨_,rfl⟩,ae.upd s1 hl,?_⟩;rw[ab,hn,<-br];rfl
 ·rintro σ H' ⟨⟨y,rfl⟩,s1,hl1⟩;rw[ao,Mr]at hl1;exact⟨_,rfl,k l _ s1 hl hl1⟩
def xk(ad:Ad):Sp:=λ vs H Q _=>∃v p,vs=[v]/\cb ad H v p/\(pieceText p).length<=gS/\lv H Q (pieceText p)
theorem ER(n:Text)(as:List Text):pieceText (.use n as)=[64,123]++(aJ n as++[125]):=by show[64,123]++(n++((if as.isEmpty=true then[] else 40::(Valita.glued Valita.SEP as++[41]))++[125]))=_;unfold aJ;simp
theorem tT(T:bX K mg ad):aY P w K mg base 3 "piece_text" ["piece"] (xk ad):=by
 refine T.G3.good (N:=["piece"]) cj λ l H vs Q E hr hu6 hu nd h=>?_;obtain⟨v,p,rfl,⟨a,dx,fs,v1,v2,rfl,ha,hf,r1,r2⟩,hlim,k⟩:=h;refine⟨_,(aa (aA (aq bo (aC aH) (af T.t7) (ax _)) (ac (ah (az (qt T) hr (aD (aC aH))))) ak)
   (aa (aA (aq bo (aC aH) (af T.i5) (ax _)) (ac (ah (bu eg (bu eg (uq T.d7 bY (aD (az (bm T) hr (aD cn)))) (az (kC T) hr (dU (aC aH) (aC aH)))) (uq T.d7 bY (aD (az (bm T) hr (aD cn))))))) ak)
   (ac (ah (uq T.d7 bY (aD (bu qP (bu qP (az (bm T) hr (aD cn)) (aC aH)) (az (bm T) hr (aD cn))))))))),?_⟩
 refine qf ha T.c8.cl T.d8 hf.a ?_;refine⟨rfl,_,rfl,?_⟩;cases p with
 |lit t=>refine fg ?_;refine qf ha T.c8.cl T.f6 hf.b ?_;exact⟨v1,t,rfl,r1,hlim,k⟩
 |use n as=>
  refine fH ?_;refine qf ha T.c8.cl T.d8 hf.a ?_;refine⟨rfl,_,rfl,fg ?_⟩;have eu:=ER n as;rw[eu]at hlim k;have hl2:(aJ n as).length+3<=gS:=by simp only[La,Lg,Mo]at hlim;omega
  refine⟨_,[64,123],rfl,by decide +kernel,by decide,λ v3 H3 s3 r3=>?_⟩;obtain⟨b3,rfl,hb3,_⟩:=r3;refine ql (.inr (ci.of hb3)) λ l4 hl4=>?_;have s4:=s3.trans (ae.new (o:=.lst (bT [64,123])) hl4);refine qf (s4 _ _ ha) T.c8.cl T.f6 hf.b ?_;refine qf (s4 _ _ ha) T.c8.cl T.j9 hf.c ?_;refine⟨v1,v2,n,as,rfl,r1.same s4,r2.same s4,by omega,λ l5 H5 s5 hl5 hb5=>?_⟩;refine⟨l4,l5,_,_,rfl,rfl,s5 _ _ ab,hb5,?_,λ l6 hl6=>?_⟩
  ·rw[ao,ao];exact Mj (aL (show 2+(aJ n as).length<=gS by omega))
  refine⟨_,[125],rfl,by decide +kernel,by decide,λ v7 H7 s7 r7=>?_⟩;obtain⟨b7,rfl,hb7,_⟩:=r7;refine ql (.inr (ci.of hb7)) λ l8 hl8=>?_;refine⟨l6,l8,_,_,rfl,rfl,ae.new hl8 _ _ (s7 _ _ ab),ab,?_,λ l9 hl9=>?_⟩
  ·rw[La,ao,ao,ao];exact Mj (aL (show 2+(aJ n as).length+1<=gS by omega))
  have s9:=(((s4.trans s5).trans (ae.new (o:=.lst (bT [64,123]++bT (aJ n as))) hl6)).trans s7).trans (ae.new (o:=.lst (bT [125])) hl8);refine k l9 _ (s9.trans (ae.new hl9)) (s9.free hl9) ?_;rw[ab,br,br,My]
 |param n=>
  refine fH ?_;refine qf ha T.c8.cl T.d8 hf.a ?_;refine⟨rfl,_,rfl,fH ?_⟩;have hl2:n.length+3<=gS:=by have:([64,60]++(n++[62])).length<=gS:=hlim;simp only[La,Lg,Mo]at this;omega
  refine⟨_,[64,60],rfl,by decide +kernel,by decide,λ v3 H3 s3 r3=>?_⟩;refine qf (s3 _ _ ha) T.c8.cl T.f6 hf.b ?_;refine⟨_,_,r3,r1.same s3,by simp,(show 2+n.length<=gS by omega),λ v4 H4 s4 r4=>?_⟩;refine⟨_,[62],rfl,by decide +kernel,by decide,λ v5 H5 s5 r5=>⟨_,_,r4.same s5,r5,by simp,(by rw[La];show 2+n.length+1<=gS;omega),λ v6 H6 s6 r6=>?_⟩⟩;obtain⟨b6,rfl,hb6,_⟩:=r6;refine ql (.inr (ci.of hb6)) λ l7 hl7=>?_;have s36:=((s3.trans s4).trans s5).trans s6;refine k l7 _ (s36.trans (ae.new hl7)) (s36.free hl7) ?_;rw[ab,My];rfl
def yP(ad:Ad):Sp:=λ vs H Q _=>∃v l,vs=[v]/\bW ad H v l/\(lineText l).length<=gS/\lv H Q (lineText l)
theorem tU(l:List Piece)(j:Nat):(piecesText (l.take j)).length<=(piecesText l).length:=by
 show((l.take j).flatMap _).length<=(l.flatMap _).length
 conv=>rhs;rw[<-Nd j l,Mi,La]
 exact Pa _ _
theorem qu{l:List Piece}{j:Nat}{p:Piece}(h:l[j]?=some p):piecesText (l.take (j+1))=piecesText (l.take j)++pieceText p:=by show(l.take (j+1)).flatMap _=(l.take j).flatMap _++_;rw[bD h,Mi,Me,Qi,Lv]
theorem vE(T:bX K mg ad):aY P w K mg base 4 "line_text" ["line"] (yP ad):=by
 refine T.G5.good (N:=["line","text","piece"]) cj λ l H vs Q E hr hu6 hu nd h=>?_;obtain⟨v,x,rfl,⟨a,dx,fs,v1,v2,rfl,ha,hf,r1,r2⟩,hlim,k⟩:=h;refine⟨_,(aa (aA (aq bo (aC aH) (af T.g4) (ax _)) (ac (ah (uq T.d7 bY (aD (bu qP (az (bm T) hr (aD cn)) (aC aH)))))) ak)
   (aa (aA (aq bo (aC aH) (af T.on) (ax _)) (ac (ah (uq T.d7 bY (aD (az (bm T) hr (aD cn)))))) ak)
   (aa (aA (aq bo (aC aH) (af T.t8) (ax _)) (ac (ah (uq T.d7 bY (aD (az (bm T) hr (aD cn)))))) ak)
   (aa (bf 1 nd (aG aF))
   (aa (dn Mu rfl (fK (aC aH)) (aM (i:=2) nd rfl (Or.inl rfl)) (ac (aV (bZ Lk Ml Mm dq aQ (aD (az (tT T) hr (aD bJ)))))))
   (ac (ah aQ))))))),?_⟩
 refine qf ha T.c7.cl T.c9 hf.a ?_;refine⟨rfl,_,rfl,?_⟩;cases x with
 |when n=>
  refine fg ?_;have hl2:n.length+4<=gS:=by
   have:(Valita.IF++n).length<=gS:=hlim;rw[La]at this;have e:Valita.IF.length=4:=by decide +kernel
   omega
  refine⟨_,Valita.IF,rfl,by decide +kernel,by decide +kernel,λ v3 H3 s3 r3=>?_⟩;refine qf (s3 _ _ ha) T.c7.cl T.g9 hf.c ?_;refine⟨_,_,r3,r2.same s3,by decide +kernel,(show 4+n.length<=gS by omega),λ v4 H4 s4 r4=>?_⟩;obtain⟨b6,rfl,hb6,_⟩:=r4;refine ql (.inr (ci.of hb6)) λ l7 hl7=>?_;have s36:=s3.trans s4;exact k l7 _ (s36.trans (ae.new hl7)) (s36.free hl7) ab
 |otherwise=>refine fH (qf ha T.c7.cl T.c9 hf.a ⟨rfl,_,rfl,fg ?_⟩);refine⟨_,Valita.ELSE,rfl,by decide +kernel,by decide +kernel,λ v3 H3 s3 r3=>?_⟩;obtain⟨b6,rfl,hb6,_⟩:=r3;exact ql (.inr (ci.of hb6)) λ l7 hl7=>k l7 _ (s3.trans (ae.new hl7)) (s3.free hl7) ab
 |done=>refine fH (qf ha T.c7.cl T.c9 hf.a ⟨rfl,_,rfl,fH ?_⟩);refine qf ha T.c7.cl T.c9 hf.a ?_;refine⟨rfl,_,rfl,fg ?_⟩;refine⟨_,Valita.FI,rfl,by decide +kernel,by decide +kernel,λ v3 H3 s3 r3=>?_⟩;obtain⟨b6,rfl,hb6,_⟩:=r3;exact ql (.inr (ci.of hb6)) λ l7 hl7=>k l7 _ (s3.trans (ae.new hl7)) (s3.free hl7) ab
 |code ps=>
  refine fH (qf ha T.c7.cl T.c9 hf.a ⟨rfl,_,rfl,fH ?_⟩);refine qf ha T.c7.cl T.c9 hf.a ?_;refine⟨rfl,_,rfl,fH ?_⟩;obtain⟨b,ws,rfl,hb,pb,hzb⟩:=r1;have pb:Paired (cb ad H) ws ps:=pb;refine⟨Lj _,λ l hl=>?_⟩;have s0:ae H (L2.upd H l (.lst [])):=ae.new hl;refine qf (s0 _ _ ha) T.c7.cl T.f9 hf.b ?_;refine⟨b,rfl,⟨_,ci.of (s0 _ _ hb)⟩,mM (xs:=ws) (λ j σ H'=>(∃x,σ=[some (.ref a),some (.ref l),x])/\ae H H'/\H' l=some (.lst (bT (piecesText (ps.take j))))) ⟨⟨none,rfl⟩,s0,ab⟩ (λ j σ H' _ h=>ci.of (h.2.1 _ _ hb)) ?_ ?_⟩
  ·rintro j x σ H' hj ⟨⟨y,rfl⟩,s1,hl1⟩;obtain⟨p,hp,rp⟩:=aZ pb hj;have hn:=qu hp;have hle:=Ln (tU ps (j+1)) hlim;rw[hn,La]at hle;refine⟨_,rfl,.inl ⟨rfl,_,SqL.of hl1⟩,_,rfl,x,p,rfl,rp.kept (ae.keptI s1),Ln (Nat.le_add_left _ _) hle,λ l2 H2 s2 hl2 hb2=>?_⟩;refine⟨l,l2,_,_,rfl,rfl,s2 _ _ hl1,hb2,?_,⟨_,rfl⟩,ae.upd (s1.trans s2) hl,?_⟩
   ·rw[ao,ao];exact Mj (aL hle)
   ·rw[ab,br,hn]
  ·rintro σ H' ⟨⟨y,rfl⟩,s1,hl1⟩;rw[ai pb,Mr]at hl1;exact⟨_,rfl,k l _ s1 hl hl1⟩
open Valita (Block Chunk Document Line chunksOf lineCount)
def cK(c:Chunk):Int:=if c.isFile=true then 2 else 1
structure eG(ad:Ad)(H:Hp)(v:V)(c:Chunk)(a dx:Addr)(fs:List (Str×V))(v1 v2:V)(ll:Addr)(ws:List V):Prop where
 ref:v=.ref a
 ins:H a=some (.ins ad.e dx fs)
 has:io fs [("kind",.int (cK c)),("name",v1),("parameters",v2),("lines",.ref ll)]
 name:bN H v1 c.name
 params:fM H v2 c.params
 lst:H ll=some (.lst ws)
 lines:Paired (bW ad H) ws c.lines
 lim:c.lines.length<=gS
def aE(ad:Ad)(H:Hp)(v:V)(b:Block):Prop:=match b with
 |.prose t=>∃a dx fs v1,v=.ref a/\H a=some (.ins ad.d dx fs)/\io fs [("kind",.int 0),("row",v1)]/\bN H v1 t
 |.chunk c=>∃a dx fs v1 v2 ll ws,eG ad H v c a dx fs v1 v2 ll ws
theorem eG.same{ad:Ad}{H H':Hp}{v:V}{c:Chunk}{a dx:Addr}{fs:List (Str×V)}{v1 v2:V}{ll:Addr}{ws:List V}(h:eG ad H v c a dx fs v1 v2 ll ws)(s:ae H H'):eG ad H' v c a dx fs v1 v2 ll ws:=
 ⟨h.ref,s _ _ h.ins,h.has,h.name.same s,h.params.same s,s _ _ h.lst,dj h.lines (ae.keptI s),h.lim⟩
theorem aE.same{ad:Ad}{H H':Hp}{v:V}{b:Block}(h:aE ad H v b)(s:ae H H'):aE ad H' v b:=by
 cases b with
 |prose t=>obtain⟨a,dx,fs,v1,e,h,hf,r⟩:=h;exact⟨a,dx,fs,v1,e,s _ _ h,hf,r.same s⟩
 |chunk c=>obtain⟨a,dx,fs,v1,v2,ll,ws,h⟩:=h;exact⟨a,dx,fs,v1,v2,ll,ws,h.same s⟩
theorem aN{ad:Ad}{H H':Hp}{vs:List V}{d:Document}(p:Paired (aE ad H) vs d)(s:ae H H'):Paired (aE ad H') vs d:=Paired.mapP p λ _ _ r=>r.same s
def qS:Block->Bool
 |.prose _=>false
 |.chunk _=>true
def bK:Block->Int
 |.prose _=>0
 |.chunk c=>cK c
theorem aE.kind{ad:Ad}{H:Hp}{v:V}{b:Block}(h:aE ad H v b){K:PySem.W.Frag}{mg:Str->Option Value}(T:bX K mg ad):∃a C dx fs,v=.ref a/\H a=some (.ins C dx fs)/\wu K C/\bt K C "kind"/\fs.lookup ("kind":Str)=some (V.int (bK b)):=by
 cases b with
 |prose t=>obtain⟨a,dx,fs,v1,e,h,hf,r⟩:=h;exact⟨a,_,dx,fs,e,h,T.j3.cl,T.y8,hf.a⟩
 |chunk c=>obtain⟨a,dx,fs,v1,v2,ll,ws,h⟩:=h;exact⟨a,_,dx,fs,h.ref,h.ins,T.a8.cl,T.d9,h.has.a⟩
theorem HS(b:Block):(!decide (V.int (bK b)=V.int 0))=qS b:=by
 cases b with
 |prose t=>rfl
 |chunk c=>show(!decide (V.int (cK c)=V.int 0))=true;unfold cK;split<;>rfl
def Bj(ad:Ad):Sp:=λ vs H Q _=>∃p dx v1,vs=[.ref p,v1]/\H p=some (.ins ad.d dx [])/\
 ∀fs H',io fs [("kind",.int 0),("row",v1)]->H' p=some (.ins ad.d dx fs)->(∀b,b≠p->H' b=H b)->Q .non H'
theorem Da(T:bX K mg ad):jN P w K mg base 1 "Prose" ad.d ["self","row"] (Bj ad):=by
 refine eS T.j3 T.KR (N:=["self","row"]) cj λ l H vs Q E hr hu6 hu nd h=>?_;obtain⟨p,dx,v1,rfl,hp,k⟩:=h;refine⟨_,(aa (bw aH (af T.t9) rfl)
   (ac (bw aH aQ rfl))),?_⟩
 refine⟨_,rfl,p,_,dx,[],rfl,hp,T.j3.cl,T.y8,by decide,?_⟩;refine⟨_,rfl,_,rfl,qs ab T.j3.cl T.y9 (Lq (vz _ _) (by decide)) ?_⟩;exact k _ _ (GB (by decide +kernel)) ab λ b hb=>by rw[am hb,am hb]
theorem jw(T:bX K mg ad):jN P w K mg base 1 "Part" ad.e ["self","kind","name","parameters","lines"] (nv ad.e ["kind","name","parameters","lines"]):=by
 refine eS T.a8 T.KS (N:=["self","kind","name","parameters","lines"]) cj λ l H vs Q E hr hu6 hu nd h=>?_;obtain⟨p,dx,ws,rfl,hp,hl,k⟩:=h
 match ws,hl with
 |[v1,v2,v3,v4],_=>
 refine⟨_,(aa (bw aH aQ rfl)
   (aa (bw aH bJ rfl)
   (aa (bw aH dF rfl)
   (ac (bw aH jk rfl))))),?_⟩
 refine⟨_,rfl,_,rfl,p,_,dx,[],rfl,hp,T.a8.cl,T.d9,by decide,?_⟩;refine⟨_,rfl,_,rfl,qs ab T.a8.cl T.d2 (Lq (vz _ _) (by decide)) ?_⟩;refine⟨_,rfl,_,rfl,qs ab T.a8.cl T.d3 (Lq (wZ _ _ _ _) (by decide)) ?_⟩;refine⟨_,rfl,_,rfl,qs ab T.a8.cl T.d4 (Lq (yL _ _ _ _ _ _) (by decide)) ?_⟩;exact k _ _ (GC (by decide +kernel) (by decide +kernel) (by decide +kernel)) (Ln (CT _ _ _ _ _ _ _ _) (by decide)) ab λ b hb=>by rw[am hb,am hb,am hb,am hb]
def Db(ad:Ad):Sp:=λ vs H Q _=>∃v b,vs=[v]/\aE ad H v b/\Q (.bl (qS b)) H
theorem fW(T:bX K mg ad):aY P w K mg base 1 "is_part" ["block"] (Db ad):=by refine T.G6.good (N:=["block"]) cj λ l H vs Q E hr hu6 hu nd h=>?_;obtain⟨v,b,rfl,hb,k⟩:=h;obtain⟨a,C,dx,fs,rfl,h,hc,hn,hf⟩:=hb.kind T;refine⟨_,(ac (ah (dB iR (aC aH) (af T.t9) (ax _)))),?_⟩;refine⟨_,rfl,a,C,dx,fs,_,rfl,h,hc,hn,hf,rfl,?_⟩;show Q (.bl (!decide (V.int (bK b)=V.int 0))) H;rw[HS];exact k
def iY(ad:Ad)(H:Hp)(l:Addr)(d:Document):Prop:=∃ws,H l=some (.lst ws)/\Paired (aE ad H) ws d/\d.length<=100000
theorem iY.same{H H':Hp}{l:Addr}{d:Document}(h:iY ad H l d)(s:ae H H'):iY ad H' l d:=by obtain⟨ws,h1,h2,h3⟩:=h;exact⟨ws,s _ _ h1,aN h2 s,h3⟩
def gP(ad:Ad)(H:Hp)(v:V)(c:Chunk):Prop:=aE ad H v (.chunk c)
theorem xl{H:Hp}:∀{us:List V} {d:Document},Paired (aE ad H) us (d.filter qS)->Paired (gP ad H) us (chunksOf d):=by
 intro us d
 induction d generalizing us with
 |nil=>intro p;cases p;exact .nil
 |cons b d ih=>
  intro p;cases b with
  |prose t=>exact ih p
  |chunk c=>
   cases p with
   |cons r p=>exact .cons r (ih p)
theorem jx(d:Document):(chunksOf d).length<=d.length:=List.length_filterMap_le _ _
def ES(ad:Ad):Sp:=λ vs H Q _=>∃G l d,vs=[.ref l]/\iY ad G l d/\ae G H/\∀m us H',ae H H'->H m=none->H' m=some (.lst us)->Paired (gP ad G) us (chunksOf d)->Q (.ref m) H'
theorem eI(T:bX K mg ad):aY P w K mg base 2 "parts_among" ["blocks"] (ES ad):=by
 refine T.G7.good (N:=["blocks","block"]) cj λ l H vs Q E hr hu6 hu nd h=>?_;obtain⟨G,l,d,rfl,⟨ws,hl,pw,hz⟩,sG,k⟩:=h;refine⟨_,(ac (ah (dL (own:=[("block",1)]) rfl nd (bU aH) (bp (N:=["blocks","block"]) (sc:=aB (bg 68)) (by decide +kernel)) (λ _ _ _ _ _=>(aM (i:=1) nd rfl (Or.inl rfl))) (λ _ _ _ _ _=>jm (bi (az (fW T) hr (aD aQ)))) (λ _ _ _ _ _=>aQ)))),?_⟩;refine⟨_,rfl,HP (RO:=λ _ y b=>aE ad G y b) (p:=qS) ⟨λ r _=>r,λ _ r=>r⟩ pw (sG _ _ hl) (by rw[ai pw];omega) (λ x b H' Q' _ r s q=>?_) (λ x b H' Q' _ r _ s q=>?_) λ D H' ys hD s hy py=>?_⟩
 ·exact⟨_,rfl,x,b,rfl,r.same (sG.trans s),_,rfl,q H' (ae.refl H')⟩
 ·exact⟨_,rfl,q x H' (ae.refl H') r⟩
 ·exact k D ys H' s hD hy (xl py)
def ET(ad:Ad)(f:Document->Nat):Sp:=λ vs H Q _=>∃l d,vs=[.ref l]/\iY ad H l d/\∀H',ae H H'->Q (.int (f d:Nat)) H'
theorem uE:∀(ns:List Nat) (a:Nat),((ns.foldl (· + ·) a:Nat):Int)=(a:Int)+(ns.map fun(n:Nat)=>(n:Int)).sum
 |[],a=>by simp
 |n::ns,a=>by rw[List.foldl_cons,uE ns (a+n),Mp,Se];omega
def bL:Block->List Line
 |.prose _=>[]
 |.chunk c=>c.lines
def Bk(ad:Ad):Sp:=λ vs H Q _=>∃G v b,vs=[v]/\aE ad G v b/\ae G H/\∀l ws H',ae H H'->H' l=some (.lst ws)->(G l=some (.lst ws)\/H l=none)->Paired (bW ad H') ws (bL b)->Q (.ref l) H'
theorem pN(T:bX K mg ad):aY P w K mg base 2 "lines_of" ["block"] (Bk ad):=by
 refine T.G8.good (N:=["block"]) cj λ l H vs Q E hr hu6 hu nd h=>?_;obtain⟨G,v,b,rfl,hb,sG,k⟩:=h;refine⟨_,(ac (ah (fJ (bi (az (fW T) hr (aD aH))) (aC aH) (aG aF)))),?_⟩;refine⟨_,rfl,v,b,rfl,hb.same sG,_,rfl,au (λ h1=>?_) λ h1=>?_⟩
 ·cases b with
  |prose t=>cases h1
  |chunk c=>obtain⟨a,dx,fs,v1,v2,ll,us,pa⟩:=hb;obtain rfl:=pa.ref;have pH:=pa.same sG;refine qf pH.ins T.a8.cl T.d4 pH.has.d ?_;exact k ll us H (ae.refl H) pH.lst (.inl pa.lst) pH.lines
 ·cases b with
  |chunk c=>exact absurd rfl h1
  |prose t=>exact⟨Lj _,λ l hl=>k l [] _ (ae.new hl) ab (.inr hl) .nil⟩
theorem tV(d:Document):((lineCount d:Nat):Int)=(d.map λ b=>((bL b).length:Int)).sum:=by
 unfold lineCount;rw[uE,Nl];have e:((chunksOf d).map ((fun(n:Nat)=>(n:Int))∘λ c=>c.lines.length)).sum=(d.map λ b=>((bL b).length:Int)).sum:=by
  induction d with
  |nil=>rfl
  |cons b d ih=>
   cases b with
   |prose t=>show((chunksOf d).map _).sum=(((0:Nat):Int):: d.map λ b=>((bL b).length:Int)).sum;rw[Se,ih];simp
   |chunk c=>show((c.lines.length:Int):: (chunksOf d).map _).sum=((c.lines.length:Int):: d.map λ b=>((bL b).length:Int)).sum;rw[Se,Se,ih]
 rw[e];simp
theorem rX(T:bX K mg ad):aY P w K mg base 3 "count_lines" ["blocks"] (ET ad lineCount):=by
 refine T.G9.good (N:=["blocks","block"]) cj λ l H vs Q E hr hu6 hu nd h=>?_;obtain⟨l,d,rfl,⟨ws,hl,pw,hz⟩,k⟩:=h;refine⟨_,(ac (ah (Ef T.z6 (Gg rfl) (aD (dL (own:=[("block",1)]) rfl nd (bU aH) (bp (N:=["blocks","block"]) (sc:=aB (bg 70)) (by decide +kernel)) (λ _ _ _ _ _=>(aM (i:=1) nd rfl (Or.inl rfl))) (λ _ _ _ _ _=>cS) (λ _ _ _ _ _=>(bR T.a7 (tO (K:=K) rfl) (aD (az (pN T) hr (aD aQ)))))))))),?_⟩;refine⟨_,rfl,im (HG K) (RO:=λ _ y b=>y=.int ((bL b).length:Nat)) (p:=λ _=>true) (rJ _) pw hl (by rw[ai pw];omega) (λ x b H' Q' _ r s q=>q H' (ae.refl H')) (λ x b H' Q' _ r _ s q=>?_) λ D H' ys hD s hy py=>?_⟩
 ·refine⟨_,rfl,H',x,b,rfl,aE.same r s,ae.refl H',λ l2 us H2 s2 h2 _ p2=>(ql (.inl (SqL.of h2)) ?_)⟩;rw[ai p2];exact q _ H2 s2 rfl
 ·rw[eD]at py;refine⟨D,d.map λ b=>((bL b).length:Int),rfl,SqL.of ?_,?_⟩
  ·rw[hy,jr py,Nl];rfl
  ·rw[<-tV];exact k H' s
open Valita (distinct headOf isArgument isDigit isName isPath isSign isSmall)
theorem rY:∀l:List Text,distinct l=l.all λ e=>l.count e==1:=by
 intro l;have key:∀l:List Text,distinct l=true↔ ∀e∈l,l.count e=1:=by
  intro l
  induction l with
  |nil=>simp[distinct]
  |cons a r ih=>
   show(!r.contains a&&distinct r)=true↔_;rw[Li,ih];constructor
   ·rintro⟨h1,h2⟩ e he;have h1:a∉r:=by simpa using h1
    rcases Lp.mp he with rfl |he
    ·rw[List.count_cons_self,List.count_eq_zero.mpr h1]
    ·have:a≠e:=λ q=>h1 (by rw[q];exact he);rw[List.count_cons_of_ne this];exact h2 e he
   ·intro h;have h0:=h a (.head _);rw[List.count_cons_self]at h0;have h1:a∉r:=List.count_eq_zero.mp (by omega);refine⟨by simpa using h1,λ e he=>?_⟩;have:=h e (.tail _ he);rw[List.count_cons_of_ne (fun(q:a=e)=>h1 (by rw[q];exact he))]at this;exact this
 rw[Ow,key,Nk];simp
theorem oK{b:UInt8}(h:(isSmall b||isDigit b)=true):(isSign b&&!([44,40,41,123,125,64]:Text).contains b)=true/\b≠32:=by
 unfold isSmall isDigit at h;unfold isSign;have e:∀n:Fin 256,((decide (97<=UInt8.ofNat n.val)&&decide (UInt8.ofNat n.val<=122))||(decide (48<=UInt8.ofNat n.val)&&decide (UInt8.ofNat n.val<=57)))=true->((decide (32<=UInt8.ofNat n.val)&&decide (UInt8.ofNat n.val<=126))&&!([44,40,41,123,125,64]:Text).contains (UInt8.ofNat n.val))=true/\UInt8.ofNat n.val≠32:=by decide +kernel
 have e2:=e ⟨b.toNat,b.toNat_lt⟩;simp only[UInt8.ofNat_toNat]at e2;exact e2 h
theorem Bl{t:Text}(h:isShort t=true):isArgument t=true:=by
 unfold isShort at h;rw[Li,Li]at h;obtain⟨_,h2,h3⟩:=h;rw[Nk]at h3;unfold isArgument;rw[Li,Li,Li,Nk];have h2:=Lh h2;refine⟨Ll (by omega),λ b hb=>(oK (h3 b hb)).1,?_,?_⟩
 ·cases e:t.head? with
  |none=>rfl
  |some c=>simpa using(oK (h3 c (List.mem_of_head? e))).2
 ·cases e:t.getLast? with
  |none=>rfl
  |some c=>simpa using(oK (h3 c (List.mem_of_getLast? e))).2
def dv(es:List Text):Bool:=decide (es.length<=4)&&es.all λ e=>isShort e&&(es.count e==1)
theorem pO(es:List Text):dv es=(es.all isShort&&(distinct es&&decide (es.length<=Valita.PARAMS))):=by
 unfold dv;rw[rY];have:(es.all λ e=>isShort e&&(es.count e==1))=(es.all isShort&&es.all λ e=>es.count e==1):=by rw[Ow,Li];simp only[Nk,Li];exact⟨λ h=>⟨λ e he=>(h e he).1,λ e he=>(h e he).2⟩,λ h e he=>⟨h.1 e he,h.2 e he⟩⟩
 rw[this];show(decide (es.length<=4)&&_)=(_&&(_&&decide (es.length<=4)));cases decide (es.length<=4)<;>cases es.all isShort<;>simp
def dY(r:Text):Option Chunk:=(bP r).bind λ z=>if dv z.2=true then some {isFile:=false,name:=z.1,params:=z.2,lines:=[]} else none
def gl(p:Text):Option Chunk:=if isPath p=true then some {isFile:=true,name:=p,params:=[],lines:=[]} else none
theorem iZ(t:Text):headOf t=if Valita.FILE.isPrefixOf t=true then gl (t.drop 6) else if Valita.CHUNK.isPrefixOf t=true then dY (t.drop 7) else none:=by
 unfold headOf;by_cases h:Valita.FILE.isPrefixOf t=true
 ·rw[Le h,Le h];rfl
 ·rw[Ld h,Ld h];by_cases h2:Valita.CHUNK.isPrefixOf t=true
  ·rw[Le h2,Le h2];show(if isName ((t.drop 7).takeWhile λ b=>b != 40)=false then none else match(t.drop 7).drop ((t.drop 7).takeWhile λ b=>b != 40).length with
    |[]=>some _
    |_::q=>_)=_
   unfold dY bP;simp only;by_cases h3:isName ((t.drop 7).takeWhile λ b=>b != 40)=false
   ·rw[Le h3,Le h3];rfl
   ·rw[Ld h3,Ld h3];cases(t.drop 7).drop ((t.drop 7).takeWhile λ b=>b != 40).length with
    |nil=>rfl
    |cons c q=>
     simp only;rw[jR];by_cases h4:q.getLast?=some 41
     ·rw[Le h4,Le h4];cases ku [] q.dropLast with
      |none=>rfl
      |some es=>
       show(if es.all isArgument=true then some es else none:Option (List Text)).bind _=if dv es=true then _ else none
       rw[pO];by_cases h5:(es.all isShort&&(distinct es&&decide (es.length<=Valita.PARAMS)))=true
       ·have h6:es.all isArgument=true:=by
         rw[Li]at h5;rw[Nk]at h5 ⊢;exact λ e he=>Bl (h5.1 e he)
        rw[Le h5,Le h6];show(if _ then _ else _)=_;rw[Le h5];rfl
       ·rw[Ld h5];by_cases h6:es.all isArgument=true
        ·rw[Le h6];show(if _ then _ else _)=_;rw[Ld h5]
        ·rw[Ld h6];rfl
     ·rw[Ld h4,Ld h4];rfl
  ·rw[Ld h2,Ld h2]
def GF(f:List Text->Bool):Sp:=λ vs H Q _=>∃v ts,vs=[v]/\fM H v ts/\∀H',ae H H'->Q (.bl (f ts)) H'
theorem nI(T:bX K mg ad):aY P w K mg base 4 "are_parameters" ["entries"] (GF dv):=by
 refine T.JS.good (N:=["entries","entry"]) cj λ l H vs Q E hr hu6 hu nd h=>?_;obtain⟨v,ts,rfl,⟨a,ws,rfl,ha,pa,hz⟩,k⟩:=h;have hv:fM H (.ref a) ts:=⟨a,ws,rfl,ha,pa,hz⟩;have hl:=ai pa;refine⟨_,(aa (aA (aq lU (bR T.a7 aj (aD aH)) (af T.A6) (ax _)) (ac (ah kb)) ak)
   (ac (ah (Ef T.g0 (kg rfl) (aD (dL (own:=[("entry",1)]) rfl nd (fK aH) (bp (N:=["entries","entry"]) (sc:=aB (bg 74)) (by decide +kernel)) (λ _ _ _ _ _=>(aM (i:=1) nd rfl (Or.inl rfl))) (λ _ _ _ _ _=>cS) (λ _ _ _ _ _=>(gV (az (dG T) hr (aD aQ)) (fI (dB bo (GA PySem.F.slot_tuple_count PySem.F.type_tuple_count (Be hu6) aH (aD aQ)) al (ax _))))))))))),?_⟩
 refine⟨_,rfl,ql (.inr ha.sq) (qn ⟨_,rfl,au (λ h1=>?_) λ h1=>?_⟩)⟩
 ·refine eW (k H (ae.refl H)) ?_;have h1:¬ts.length<=4:=by
   have:=Lh h1;omega
  unfold dv;simp[h1]
 ·have h1:ts.length<=4:=by
   have h1:¬((4:Int)<(ws.length:Int)):=λ q=>h1 (Ll q);omega
  refine⟨_,rfl,?_⟩;refine js (f:=λ e=>isShort e&&(ts.count e==1)) pa (λ s=>(ha.same s).sq) (by rw[hl];exact hz) (λ x e H' Q' _ r s1 q=>?_) λ H' s1=>?_
  ·refine⟨_,rfl,x,e,rfl,r.same s1,λ H2 s2=>⟨_,rfl,au (λ h2=>?_) λ h2=>?_⟩⟩
   ·refine⟨_,rfl,⟨a,ws,rfl,ha.same (s1.trans s2)⟩,_,rfl,x,ts,e,rfl,hv.same (s1.trans s2),r.same (s1.trans s2),rfl,?_⟩;refine eW (q H2 s2) ?_;show(isShort e&&(ts.count e==1))=decide (V.int ((ts.count e:Nat):Int)=V.int 1);rw[h2,qJ,Os];by_cases h3:ts.count e=1
    ·rw[h3];rfl
    ·rw[Ms.mpr h3];exact(Ms.mpr (by omega)).symm
   ·exact eW (q H2 s2) (by simp[h2])
  ·refine eW (k H' s1) ?_;unfold dv;simp[h1]
def yQ(ad:Ad)(f:Text->Option Chunk):Sp:=λ vs H Q _=>∃v t,vs=[v]/\bN H v t/\(∀H',ae H H'->f t=none->Q .non H')/\
 ∀c a dx fs v1 v2 ll H',ae H H'->f t=some c->eG ad H' (.ref a) c a dx fs v1 v2 ll []->H a=none->H ll=none->Q (.ref a) H'
theorem lQ(T:bX K mg ad):aY P w K mg base 5 "read_file_header" ["path"] (yQ ad gl):=by
 refine T.JQ.good (N:=["path"]) cj λ l H vs Q E hr hu6 hu nd h=>?_;obtain⟨v,t,rfl,hv,k1,k2⟩:=h;refine⟨_,(aa (aA (bO (bi (az (rQ T) hr (aD aH)))) (ac (ah eA)) ak)
   (ac (ah (gv (jw T) hr (ag (af T.g7) (ag aH (ag (qQ aF) (ag (aG aF) aF)))))))),?_⟩
 refine⟨_,rfl,v,t,rfl,hv,λ H1 s1=>⟨_,rfl,au (λ h1=>?_) λ h1=>?_⟩⟩
 ·refine k1 _ s1 ?_;have h1:isPath t=false:=by simpa using h1
  unfold gl;simp[h1]
 ·have h1:isPath t=true:=by simpa using h1
  refine⟨_,rfl,Lj _,λ p ob hp hob=>⟨Lj _,λ q hq=>?_⟩⟩;intro x dx hx hdx hne;refine fz (ws:=[.int 2,v,.ref p,.ref q]) (by rfl) hx hdx hne λ H2 fs s2 hH hf=>⟨rfl,?_⟩;have s3:=(s1.trans (ae.new (o:=.frz ob (.tup [])) hp)).trans (ae.new (o:=.lst []) hq);refine k2 {isFile:=true,name:=t,params:=[],lines:=[]} x dx fs v (.ref p) q _ (s3.trans s2) ?_ ⟨rfl,hH,hf,hv.same (s3.trans s2),((fM.nil hob).same (ae.new hq)).same s2,s2 _ _ ab,.nil,Lj _⟩ (s3.free hx) ((s1.trans (ae.new hp)).free hq);unfold gl;rw[Le h1]
theorem kH(T:bX K mg ad):aY P w K mg base 6 "read_chunk_header" ["row"] (yQ ad dY):=by
 refine T.JR.good (N:=["row","called"]) cj λ l H vs Q E hr hu6 hu nd h=>?_;obtain⟨v,t,rfl,hv,k1,k2⟩:=h;refine⟨_,(aa (bf 1 nd (az (ky T) hr (aD aH)))
   (aa (aA ((ra (gt (jl aQ)) (mi (bO (bi (az (nI T) hr (aD (aC aQ)))))))).pt (ac (ah eA)) ak)
   (ac (ah (gv (jw T) hr (ag (af T.e9) (ag (aC aQ) (ag (aC aQ) (ag (aG aF) aF))))))))),?_⟩
 refine⟨_,rfl,v,t,rfl,hv,λ H1 s1 e1=>?_,λ v1 n es H1 s1 e1 r1=>?_⟩
 ·refine⟨_,rfl,_,rfl,?_⟩;refine au (λ _=>fg ?_) λ q=>absurd (Ll rfl) q;refine k1 _ s1 ?_;unfold dY;rw[e1];rfl
 ·obtain⟨a,dx,fs,w1,w2,rfl,ha,hf,hn,he⟩:=r1;have ec:dY t=if dv es=true then some {isFile:=false,name:=n,params:=es,lines:=[]} else none:=by
   unfold dY;rw[e1];rfl
  refine⟨_,rfl,_,rfl,?_⟩;refine au (λ q=>absurd (Lh q) (by intro q;cases q)) λ _=>?_;refine qf ha T.f8.cl T.j0 hf.b ?_;refine⟨w2,es,rfl,he,λ H2 s2=>⟨_,rfl,au (λ h2=>?_) λ h2=>?_⟩⟩
  ·refine k1 _ (s1.trans s2) ?_;rw[ec,Ld (by simpa using h2)]
  ·have h2:dv es=true:=by simpa using h2
   refine qf (s2 _ _ ha) T.f8.cl T.r9 hf.a ?_;refine qf (s2 _ _ ha) T.f8.cl T.j0 hf.b ?_;refine⟨Lj _,λ q hq=>?_⟩;intro x dx' hx hdx hne;refine fz (ws:=[.int 1,w1,w2,.ref q]) (by rfl) hx hdx hne λ H3 fs' s3 hH hf'=>⟨rfl,?_⟩;have s4:=s2.trans ((ae.new (o:=.lst []) hq).trans s3);refine k2 {isFile:=false,name:=n,params:=es,lines:=[]} x dx' fs' w1 w2 q _ (s1.trans s4) ?_ ⟨rfl,hH,hf',hn.same s4,he.same s4,s3 _ _ ab,.nil,Lj _⟩ (((s1.trans s2).trans (ae.new hq)).free hx) ((s1.trans s2).free hq);rw[ec,Le h2]
theorem rZ(T:bX K mg ad):aY P w K mg base 7 "read_header" ["row"] (yQ ad headOf):=by
 refine T.I0.good (N:=["row"]) cj λ l H vs Q E hr hu6 hu nd h=>?_;obtain⟨v,t,rfl,hv,k1,k2⟩:=h;have eh:=iZ t;refine⟨_,(aa (aA (bi (az (di T) hr (dU aH (az (bm T) hr (aD cn))))) (ac (ah (az (lQ T) hr (aD (aX eC aH (aP (bR T.a7 aj (aD (az (bm T) hr (aD cn))))) cy))))) ak)
   (aa (aA (bi (az (di T) hr (dU aH (az (bm T) hr (aD cn))))) (ac (ah (az (kH T) hr (aD (aX eC aH (aP (bR T.a7 aj (aD (az (bm T) hr (aD cn))))) cy))))) ak)
   (ac (ah eA)))),?_⟩
 refine⟨_,rfl,_,Valita.FILE,rfl,by decide +kernel,by decide +kernel,λ v1 H1 s1 r1=>⟨v,v1,t,Valita.FILE,rfl,hv.same s1,r1,λ H2 s2=>⟨_,rfl,au (λ h1=>?_) λ h1=>?_⟩⟩⟩
 ·rw[Le h1]at eh;refine⟨_,rfl,_,Valita.FILE,rfl,by decide +kernel,by decide +kernel,λ v3 H3 s3 r3=>?_⟩;obtain⟨b3,rfl,hb3,_⟩:=r3;have s13:=(s1.trans s2).trans s3;refine ql (.inr (ci.of hb3)) ⟨_,rfl,t,hv.same s13,λ v4 H4 s4 r4=>?_⟩;rw[show fh t (some ((bT Valita.FILE).length:Int)) none=t.drop 6 from kr t 6]at r4;have s14:=s13.trans s4;exact⟨v4,_,rfl,r4,λ H5 s5 e5=>k1 _ (s14.trans s5) (eh.trans e5),λ c a dx fs w1 w2 ll H5 s5 e5 p5 na nl=>k2 c a dx fs w1 w2 ll _ (s14.trans s5) (eh.trans e5) p5 (s14.free na) (s14.free nl)⟩
 ·rw[Ld h1]at eh;have s12:=s1.trans s2;refine⟨_,rfl,_,Valita.CHUNK,rfl,by decide +kernel,by decide +kernel,λ v3 H3 s3 r3=>⟨v,v3,t,Valita.CHUNK,rfl,hv.same (s12.trans s3),r3,λ H4 s4=>⟨_,rfl,au (λ h2=>?_) λ h2=>?_⟩⟩⟩
  ·rw[Le h2]at eh;have s14:=(s12.trans s3).trans s4;refine⟨_,rfl,_,Valita.CHUNK,rfl,by decide +kernel,by decide +kernel,λ v5 H5 s5 r5=>?_⟩;obtain⟨b5,rfl,hb5,_⟩:=r5;refine ql (.inr (ci.of hb5)) ⟨_,rfl,t,hv.same (s14.trans s5),λ v6 H6 s6 r6=>?_⟩;rw[show fh t (some ((bT Valita.CHUNK).length:Int)) none=t.drop 7 from kr t 7]at r6;have s16:=(s14.trans s5).trans s6;exact⟨v6,_,rfl,r6,λ H7 s7 e7=>k1 _ (s16.trans s7) (eh.trans e7),λ c a dx fs w1 w2 ll H7 s7 e7 p7 na nl=>k2 c a dx fs w1 w2 ll _ (s16.trans s7) (eh.trans e7) p7 (s16.free na) (s16.free nl)⟩
  ·rw[Ld h2]at eh;exact k1 _ ((s12.trans s3).trans s4) eh
open Valita (blockText documentText ended headText)
def yR(ad:Ad):Sp:=λ vs H Q _=>∃v c,vs=[v]/\gP ad H v c/\(headText c).length<=gS/\lv H Q (headText c)
theorem dI{c:Chunk}(h:c.isFile=false):headText c=Valita.CHUNK++aJ c.name c.params:=by unfold headText aJ;rw[Ld (by rw[h];decide)]
theorem fb{c:Chunk}(h:c.isFile=true):headText c=Valita.FILE++c.name:=by unfold headText;rw[Le h]
theorem sh(T:bX K mg ad):aY P w K mg base 3 "header_text" ["part"] (yR ad):=by
 refine T.JT.good (N:=["part"]) cj λ l H vs Q E hr hu6 hu nd h=>?_;obtain⟨v,c,rfl,⟨a,dx,fs,v1,v2,ll,ws,pa⟩,hlim,k⟩:=h;refine⟨_,(aa (aA (aq bo (aC aH) (af T.g7) (ax _)) (ac (ah (uq T.d7 bY (aD (bu qP (az (bm T) hr (aD cn)) (aC aH)))))) ak)
   (ac (ah (bu eg (uq T.d7 bY (aD (az (bm T) hr (aD cn)))) (az (kC T) hr (dU (aC aH) (aC aH))))))),?_⟩
 rw[pa.ref];have eK:cK c=if c.isFile=true then 2 else 1:=rfl
 refine qf pa.ins T.a8.cl T.d9 pa.has.a ?_;refine⟨rfl,_,rfl,?_⟩;cases hf:c.isFile with
 |true=>
  rw[hf,Le rfl]at eK;rw[eK,fb hf]at *;refine fg ?_;have hl2:c.name.length+6<=gS:=by
   rw[La]at hlim;have e:Valita.FILE.length=6:=by decide +kernel
   omega
  refine⟨_,Valita.FILE,rfl,by decide +kernel,by decide +kernel,λ v3 H3 s3 r3=>?_⟩;refine qf (s3 _ _ pa.ins) T.a8.cl T.d2 pa.has.b ?_;refine⟨_,_,r3,pa.name.same s3,by decide +kernel,(show 6+c.name.length<=gS by omega),λ v4 H4 s4 r4=>?_⟩;obtain⟨b6,rfl,hb6,_⟩:=r4;refine ql (.inr (ci.of hb6)) λ l7 hl7=>?_;exact k l7 _ ((s3.trans s4).trans (ae.new hl7)) ((s3.trans s4).free hl7) ab
 |false=>
  rw[hf,Ld (by decide)]at eK;rw[eK,dI hf]at *;refine fH ?_;have hl2:(aJ c.name c.params).length+7<=gS:=by
   rw[La]at hlim;have e:Valita.CHUNK.length=7:=by decide +kernel
   omega
  refine⟨_,Valita.CHUNK,rfl,by decide +kernel,by decide +kernel,λ v3 H3 s3 r3=>?_⟩;obtain⟨b3,rfl,hb3,_⟩:=r3;refine ql (.inr (ci.of hb3)) λ l4 hl4=>?_;have s4:=s3.trans (ae.new (o:=.lst (bT Valita.CHUNK)) hl4);refine qf (s4 _ _ pa.ins) T.a8.cl T.d2 pa.has.b ?_;refine qf (s4 _ _ pa.ins) T.a8.cl T.d3 pa.has.c ?_;refine⟨v1,v2,c.name,c.params,rfl,pa.name.same s4,pa.params.same s4,by omega,λ l5 H5 s5 hl5 hb5=>?_⟩;refine⟨l4,l5,_,_,rfl,rfl,s5 _ _ ab,hb5,?_,λ l6 hl6=>?_⟩
  ·rw[ao,ao];exact Mj (aL (show 7+(aJ c.name c.params).length<=gS by omega))
  refine k l6 _ ((s4.trans s5).trans (ae.new hl6)) ((s4.trans s5).free hl6) ?_;rw[ab,br]
def aR(ls:List Line):Text:=ls.flatMap λ l=>ended (lineText l)
theorem vF(l:List Line)(j:Nat):(aR (l.take j)).length<=(aR l).length:=by
 show((l.take j).flatMap _).length<=(l.flatMap _).length
 conv=>rhs;rw[<-Nd j l,Mi,La]
 exact Pa _ _
theorem si{l:List Line}{j:Nat}{p:Line}(h:l[j]?=some p):aR (l.take (j+1))=aR (l.take j)++(lineText p++[10]):=by show(l.take (j+1)).flatMap _=(l.take j).flatMap _++_;rw[bD h,Mi,Me,Qi,Lv];rfl
theorem dr(c:Chunk):blockText (.chunk c)=headText c++[10]++aR c.lines++Valita.END++[10]:=by show ended (headText c)++(aR c.lines++ended Valita.END)=_;unfold ended;simp
def xm(ad:Ad):Sp:=λ vs H Q _=>∃v b,vs=[v]/\aE ad H v b/\(blockText b).length<=gS/\lv H Q (blockText b)
theorem lV(T:bX K mg ad):aY P w K mg base 5 "block_text" ["block"] (xm ad):=by
 refine T.JU.good (N:=["block","text","line"]) cj λ l H vs Q E hr hu6 hu nd h=>?_;obtain⟨v,b,rfl,hb,hlim,k⟩:=h;refine⟨_,(aa (aA (bO (bi (az (fW T) hr (aD aH)))) (ac (ah (bu eg (uq T.d7 bY (aD (aC aH))) (aG (aD (af T.i4)))))) ak)
   (aa (bf 1 nd (az (sh T) hr (aD aH)))
   (aa (aV (bZ Lk Ma Mb bq aQ (aD (af T.i4))))
   (aa (dn Mu rfl (bU (aC aH)) (aM (i:=2) nd rfl (Or.inl rfl)) (aa (aV (bZ Lk Ml Mm dq aQ (aD (az (vE T) hr (aD bJ)))))
   (ac (aV (bZ Lk Ma Mb bq aQ (aD (af T.i4)))))))
   (aa (aV (bZ Lk Ml Mm hG aQ (aD (az (bm T) hr (aD cn)))))
   (aa (aV (bZ Lk Ma Mb bq aQ (aD (af T.i4))))
   (ac (ah aQ)))))))),?_⟩
 refine⟨_,rfl,v,b,rfl,hb,_,rfl,?_⟩;cases b with
 |prose t=>
  obtain⟨a,dx,fs,v1,rfl,ha,hf,r⟩:=hb;refine fg ?_;obtain⟨b1,rfl,hb1,hz1⟩:=r;refine qf ha T.j3.cl T.y9 hf.b ?_;refine ql (.inr (ci.of hb1)) λ l2 hl2=>?_;refine⟨by decide,λ l3 hl3=>⟨l2,l3,_,_,rfl,rfl,ae.new hl3 _ _ ab,ab,?_,λ l4 hl4=>?_⟩⟩
  ·rw[ao];have hlim:(t++[10]).length<=gS:=hlim;rw[La]at hlim;exact Mj (aL hlim)
  ·have s2:=(ae.new (o:=.lst (bT t)) hl2).trans (ae.new (o:=.lst [.int 10]) hl3);refine k l4 _ (s2.trans (ae.new hl4)) (s2.free hl4) ?_;rw[ab];show some (HO.lst (bT t++bT [10]))=_;rw[br];rfl
 |chunk c=>
  refine fH ?_;obtain⟨a,dx,fs,v1,v2,ll,ws,pa⟩:=id hb;rw[dr]at hlim k;have hL:(headText c).length+1+(aR c.lines).length+4+1<=gS:=by
   simp only[La,Lg,Mo]at hlim;have e:Valita.END.length=4:=by decide +kernel
   omega
  refine⟨_,rfl,v,c,rfl,hb,by omega,λ l H1 s1 hl h1=>?_⟩;refine⟨_,rfl,.inl ⟨rfl,_,SqL.of h1⟩,l,_,_,rfl,rfl,h1,?_,?_⟩
  ·rw[ao];exact aL (by omega)
  have e0:bT (headText c)++[V.int 10]=bT (headText c++[10]):=by rw[<-br];rfl
  rw[e0];have pb:=pa.same s1;have s2:ae H (L2.upd H1 l (.lst (bT (headText c++[10])))):=ae.upd s1 hl;have pc:=pa.same s2;rw[pc.ref];refine qf pc.ins T.a8.cl T.d4 pc.has.d ?_;refine⟨ll,rfl,⟨_,SqL.of pc.lst⟩,fL (xs:=ws) (λ j σ H'=>(∃x,σ=[some (.ref a),some (.ref l),x])/\ae H H'/\H' l=some (.lst (bT (headText c++[10]++aR (c.lines.take j))))) ⟨⟨none,rfl⟩,s2,by rw[ab];show _=some (HO.lst (bT (headText c++[10]++[])));rw[Lv]⟩ (λ j σ H' _ h=>SqL.of (h.2.1 _ _ pa.lst)) ?_ ?_⟩
  ·rintro j x σ H' hj ⟨⟨y,rfl⟩,s3,hl3⟩;obtain⟨ln,hln,rln⟩:=aZ pa.lines hj;have hn:=si hln;have hle:=vF c.lines (j+1);rw[hn,La,La,Lx]at hle;refine⟨_,rfl,.inl ⟨rfl,_,SqL.of hl3⟩,_,rfl,x,ln,rfl,rln.kept (ae.keptI s3),by omega,λ l4 H4 s4 hl4 hb4=>?_⟩;refine⟨l,l4,_,_,rfl,rfl,s4 _ _ hl3,hb4,?_,?_⟩
   ·rw[ao,ao,La,La,Lx];exact Mj (aL (by omega))
   refine⟨_,rfl,.inl ⟨rfl,_,SqL.of ab⟩,l,_,_,rfl,rfl,ab,?_,⟨_,rfl⟩,ae.upd (ae.upd (s3.trans s4) hl) hl,?_⟩
   ·rw[La,ao,ao,La,La,Lx];exact aL (by omega)
   ·rw[ab,hn,br];show some (HO.lst (_++bT [10]))=_;rw[br];simp
  ·rintro σ H' ⟨⟨y,rfl⟩,s3,hl3⟩;rw[ai pa.lines,Mr]at hl3;refine⟨_,rfl,.inl ⟨rfl,_,SqL.of hl3⟩,_,Valita.END,rfl,by decide +kernel,by decide +kernel,λ v4 H4 s4 r4=>?_⟩;obtain⟨b4,rfl,hb4,_⟩:=r4;have eE:Valita.END.length=4:=by decide +kernel
   refine⟨l,b4,_,_,rfl,rfl,s4 _ _ hl3,hb4,?_,?_⟩
   ·rw[ao,ao,La,La,Lx,eE];exact Mj (aL (by omega))
   refine⟨_,rfl,.inl ⟨rfl,_,SqL.of ab⟩,l,_,_,rfl,rfl,ab,?_,?_⟩
   ·rw[La,ao,ao,La,La,Lx,eE];exact aL (by omega)
   refine⟨_,rfl,?_⟩;refine k l _ (ae.upd (ae.upd (s3.trans s4) hl) hl) hl ?_;rw[ab,br];show some (HO.lst (_++bT [10]))=_;rw[br]
theorem yS(l:Document)(j:Nat):(documentText (l.take j)).length<=(documentText l).length:=by
 show((l.take j).flatMap _).length<=(l.flatMap _).length
 conv=>rhs;rw[<-Nd j l,Mi,La]
 exact Pa _ _
theorem vG{l:Document}{j:Nat}{b:Block}(h:l[j]?=some b):documentText (l.take (j+1))=documentText (l.take j)++blockText b:=by show(l.take (j+1)).flatMap _=(l.take j).flatMap _++_;rw[bD h,Mi,Me,Qi,Lv]
def vH(ad:Ad):Sp:=λ vs H Q _=>∃l d,vs=[.ref l]/\iY ad H l d/\(documentText d).length<=gS/\lv H Q (documentText d)
theorem eJ(T:bX K mg ad):aY P w K mg base 6 "blocks_text" ["blocks"] (vH ad):=by
 refine T.JV.good (N:=["blocks","text","block"]) cj λ l H vs Q E hr hu6 hu nd h=>?_;obtain⟨b,d,rfl,⟨ws,hb,pb,hz⟩,hlim,k⟩:=h;refine⟨_,(aa (bf 1 nd (aG aF))
   (aa (dn Mu rfl (bU aH) (aM (i:=2) nd rfl (Or.inl rfl)) (ac (aV (bZ Lk Ml Mm dq aQ (aD (az (lV T) hr (aD bJ)))))))
   (ac (ah aQ)))),?_⟩
 refine⟨Lj _,λ l hl=>?_⟩;have s0:ae H (L2.upd H l (.lst [])):=ae.new hl;refine⟨_,rfl,b,rfl,⟨_,SqL.of (s0 _ _ hb)⟩,fL (xs:=ws) (λ j σ H'=>(∃x,σ=[some (.ref b),some (.ref l),x])/\ae H H'/\H' l=some (.lst (bT (documentText (d.take j))))) ⟨⟨none,rfl⟩,s0,ab⟩ (λ j σ H' _ h=>SqL.of (h.2.1 _ _ hb)) ?_ ?_⟩
 ·rintro j x σ H' hj ⟨⟨y,rfl⟩,s1,hl1⟩;obtain⟨p,hp,rp⟩:=aZ pb hj;have hn:=vG hp;have hle:=Ln (yS d (j+1)) hlim;rw[hn,La]at hle;refine⟨_,rfl,.inl ⟨rfl,_,SqL.of hl1⟩,_,rfl,x,p,rfl,rp.same s1,Ln (Nat.le_add_left _ _) hle,λ l2 H2 s2 hl2 hb2=>?_⟩;refine⟨l,l2,_,_,rfl,rfl,s2 _ _ hl1,hb2,?_,⟨_,rfl⟩,ae.upd (s1.trans s2) hl,?_⟩
  ·rw[ao,ao];exact Mj (aL hle)
  ·rw[ab,br,hn]
 ·rintro σ H' ⟨⟨y,rfl⟩,s1,hl1⟩;rw[ai pb,Mr]at hl1;exact⟨_,rfl,k l _ s1 hl hl1⟩
theorem oM{α:Type}{M:List α}{a l:α}(h:l∉M)(ha:a∈M):a≠l:=λ q=>h (by rw[<-q];exact ha)
def bS(M:List Addr)(H:Hp):Hp:=λ b=>if b∈M then none else H b
theorem bE{M:List Addr}{H:Hp}{b:Addr}(h:b∉M):bS M H b=H b:=Ld h
theorem cQ{M:List Addr}{H:Hp}{b:Addr}{o:HO}(h:bS M H b=some o):b∉M/\H b=some o:=by
 unfold bS at h;split at h
 ·cases h
 ·exact⟨by assumption,h⟩
theorem aU{M:List Addr}{H H':Hp}(s:ae H H'):ae (bS M H) (bS M H'):=λ b o e=>by obtain⟨h1,h2⟩:=cQ e;rw[bE h1];exact s b o h2
theorem aK{M:List Addr}{H:Hp}:ae (bS M H) H:=λ b o e=>(cQ e).2
theorem cf{M:List Addr}{H:Hp}{a:Addr}{o:HO}(h:a∈M):bS M (upd H a o)=bS M H:=by
 funext b;unfold bS;split
 ·rfl
 ·rename_i h2;rw[am (oM h2 h).symm]
theorem Dc{M:List Addr}{m:Addr}{H:Hp}:ae (bS (m::M) H) (bS M H):=λ b o e=>by obtain⟨h1,h2⟩:=cQ e;rw[bE (λ q=>h1 (.tail _ q))];exact h2
def oO(M:List Addr)(H:Hp):Prop:=∀m∈M,∀o,H m=some o->vx o=false
theorem ly{M:List Addr}{H:Hp}{a:Addr}{o:HO}(n:oO M H)(t:vx o=true)(h:H a=some o):bS M H a=some o:=by
 rw[bE]
 ·exact h
 ·intro q;rw[n a q o h]at t;cases t
theorem bN.off{M:List Addr}{H:Hp}{v:V}{t:Text}(r:bN H v t)(n:oO M H):bN (bS M H) v t:=by obtain⟨a,e,h,z⟩:=r;exact⟨a,e,ly n rfl h,z⟩
theorem fM.off{M:List Addr}{H:Hp}{v:V}{ts:List Text}(r:fM H v ts)(n:oO M H):fM (bS M H) v ts:=by obtain⟨a,vs,e,⟨ob,h,hd⟩,p,z⟩:=r;exact⟨a,vs,e,⟨ob,ly n rfl h,hd⟩,Paired.mapP p λ _ _ q=>q.off n,z⟩
structure Ce where
 bl:Addr
 cl:Addr
 dd:Addr
 dx:Addr
 fs:List (Str×V)
 pc:Int
 lc:Int
 vp:V
 kvs:List (List dl×V)
 ws:List V
 bs:List Bool
def Ce.M(S:Ce)(r:Addr):List Addr:=[r,S.bl,S.cl,S.dd]
def kJ:List Str:=["blocks","part_count","line_count","parameters_of","part","conditions"]
structure fS(ad:Ad)(H0 H:Hp)(r:Addr)(S:Ce):Prop where
 same:ae H0 H
 nr:H0 r=none
 nb:H0 S.bl=none
 nc:H0 S.cl=none
 nd:H0 S.dd=none
 ne:S.bl≠S.cl
 ins:H r=some (.ins ad.g S.dx S.fs)
 has:io S.fs [("blocks",.ref S.bl),("part_count",.int S.pc),("line_count",.int S.lc),("parameters_of",.ref S.dd),("part",S.vp),("conditions",.ref S.cl)]
 few:S.fs.length<=20
 only:∀f,f∉kJ->S.fs.lookup f=none
 hb:H S.bl=some (.lst S.ws)
 hc:H S.cl=some (.lst (S.bs.map V.bl))
 hd:H S.dd=some (.dT S.kvs)
theorem io.e{fs l:List (Str×V)}{p q r s:Str×V}{f:Str}{v:V}(h:io fs (p::q::r::s::(f,v):: l)):fs.lookup f=some v:=h _ (.tail _ (.tail _ (.tail _ (.tail _ (.head _)))))
theorem io.f{fs l:List (Str×V)}{p q r s t:Str×V}{f:Str}{v:V}(h:io fs (p::q::r::s::t::(f,v):: l)):fs.lookup f=some v:=h _ (.tail _ (.tail _ (.tail _ (.tail _ (.tail _ (.head _))))))
section
variable{ad:Ad}{H0 H H':Hp}{r:Addr}{S:Ce}
theorem fS.noTups(R:fS ad H0 H r S):oO (S.M r) H:=by
 intro m hm o ho;rcases Lp.mp hm with rfl |hm
 ·rw[R.ins]at ho;cases ho;rfl
 rcases Lp.mp hm with rfl |hm
 ·rw[R.hb]at ho;cases ho;rfl
 rcases Lp.mp hm with rfl |hm
 ·rw[R.hc]at ho;cases ho;rfl
 rcases Lp.mp hm with rfl |hm
 ·rw[R.hd]at ho;cases ho;rfl
 cases hm
theorem fS.there(R:fS ad H0 H r S):∀m∈S.M r,H m≠none:=by
 intro m hm ho;rcases Lp.mp hm with rfl |hm
 ·rw[R.ins]at ho;cases ho
 rcases Lp.mp hm with rfl |hm
 ·rw[R.hb]at ho;cases ho
 rcases Lp.mp hm with rfl |hm
 ·rw[R.hc]at ho;cases ho
 rcases Lp.mp hm with rfl |hm
 ·rw[R.hd]at ho;cases ho
 cases hm
theorem fS.out(R:fS ad H0 H r S){p:Addr}(h:H p=none):p∉S.M r:=λ q=>R.there p q h
theorem fS.sames(R:fS ad H0 H r S)(s:ae H H'):fS ad H0 H' r S:=
 ⟨R.same.trans s,R.nr,R.nb,R.nc,R.nd,R.ne,s _ _ R.ins,R.has,R.few,R.only,s _ _ R.hb,s _ _ R.hc,s _ _ R.hd⟩
theorem uF:r∈S.M r:=.head _
theorem Ap:S.bl∈S.M r:=.tail _ (.head _)
theorem xn:S.cl∈S.M r:=.tail _ (.tail _ (.head _))
theorem FO:S.dd∈S.M r:=.tail _ (.tail _ (.tail _ (.head _)))
theorem fS.r_b(R:fS ad H0 H r S):S.bl≠r:=qY R.hb R.ins (by intro q;cases q)
theorem fS.r_c(R:fS ad H0 H r S):S.cl≠r:=qY R.hc R.ins (by intro q;cases q)
theorem fS.r_d(R:fS ad H0 H r S):S.dd≠r:=qY R.hd R.ins (by intro q;cases q)
theorem fS.b_d(R:fS ad H0 H r S):S.bl≠S.dd:=qY R.hb R.hd (by intro q;cases q)
theorem fS.c_d(R:fS ad H0 H r S):S.cl≠S.dd:=qY R.hc R.hd (by intro q;cases q)
theorem fS.setB(R:fS ad H0 H r S)(ws:List V):fS ad H0 (upd H S.bl (.lst ws)) r {S with ws:=ws}:=
 ⟨ae.upd R.same R.nb,R.nr,R.nb,R.nc,R.nd,R.ne,by rw[am R.r_b.symm];exact R.ins,R.has,R.few,R.only,ab,by rw[am R.ne.symm];exact R.hc,by rw[am R.b_d.symm];exact R.hd⟩
theorem fS.setC(R:fS ad H0 H r S)(bs:List Bool):fS ad H0 (upd H S.cl (.lst (bs.map V.bl))) r {S with bs:=bs}:=
 ⟨ae.upd R.same R.nc,R.nr,R.nb,R.nc,R.nd,R.ne,by rw[am R.r_c.symm];exact R.ins,R.has,R.few,R.only,by rw[am R.ne];exact R.hb,ab,by rw[am R.c_d.symm];exact R.hd⟩
theorem fS.setD(R:fS ad H0 H r S)(kvs:List (List dl×V)):fS ad H0 (upd H S.dd (.dT kvs)) r {S with kvs:=kvs}:=
 ⟨ae.upd R.same R.nd,R.nr,R.nb,R.nc,R.nd,R.ne,by rw[am R.r_d.symm];exact R.ins,R.has,R.few,R.only,by rw[am R.b_d];exact R.hb,by rw[am R.c_d];exact R.hc,ab⟩
theorem fS.setL(R:fS ad H0 H r S){l:Addr}{o:HO}(hl:l∉S.M r)(h0:H0 l=none):fS ad H0 (upd H l o) r S:=
 ⟨ae.upd R.same h0,R.nr,R.nb,R.nc,R.nd,R.ne,by rw[am (oM hl uF)];exact R.ins,R.has,R.few,R.only,by rw[am (oM hl Ap)];exact R.hb,by rw[am (oM hl xn)];exact R.hc,by rw[am (oM hl FO)];exact R.hd⟩
theorem sj{f:Str}{v x:V}:∀{fs:List (Str×V)},fs.lookup f=some x->(bH f v fs).length=fs.length
 |[],h=>by cases h
 |(g,y):: l,h=>by
  show(if g=f then(g,v):: l else(g,y):: bH f v l).length=_;by_cases e:g=f
  ·rw[Le e];rfl
  ·rw[Ld e];have h2:l.lookup f=some x:=by
    rw[Oz]at h;rw[show(f==g)=false from Ms.mpr (λ q=>e q.symm)]at h;exact h
   rw[Lg,Lg,sj h2]
theorem gm{f:Str}{v:V}{fs:List (Str×V)}{ns:List Str}(h:∀g,g∉ns->fs.lookup g=none)(hf:f∈ns):∀g,g∉ns->(bH f v fs).lookup g=none:=λ g hg=>by rw[fw,Ld (oM hg hf).symm];exact h g hg
theorem fS.fld{f:Str}{v x:V}{pc lc:Int}{vp:V}(R:fS ad H0 H r S)(hf:f∈kJ)(hx:S.fs.lookup f=some x)(hh:io (bH f v S.fs) [("blocks",.ref S.bl),("part_count",.int pc),("line_count",.int lc),("parameters_of",.ref S.dd),("part",vp),("conditions",.ref S.cl)]):
  fS ad H0 (upd H r (.ins ad.g S.dx (bH f v S.fs))) r {S with fs:=bH f v S.fs,pc:=pc,lc:=lc,vp:=vp}:=
 ⟨ae.upd R.same R.nr,R.nr,R.nb,R.nc,R.nd,R.ne,ab,hh,by show(bH f v S.fs).length<=20;rw[sj hx];exact R.few,gm R.only hf,by rw[am R.r_b];exact R.hb,by rw[am R.r_c];exact R.hc,by rw[am R.r_d];exact R.hd⟩
theorem qT{fs:List (Str×V)}{f:Str}{v:V}{l:List (Str×V)}(h:∀p∈l,p.1≠f->fs.lookup p.1=some p.2)(h2:∀p∈l,p.1=f->p.2=v):io (bH f v fs) l:=λ p hp=>by
 rw[fw];by_cases e:p.1=f
 ·rw[Le e,h2 p hp e]
 ·rw[Ld e];exact h p hp e
theorem fS.setPart(R:fS ad H0 H r S)(v:V):∃fs,fS ad H0 (upd H r (.ins ad.g S.dx (bH "part" v S.fs))) r {S with fs:=fs,vp:=v}:=by
 refine⟨_,R.fld (pc:=S.pc) (lc:=S.lc) (vp:=v) (by decide +kernel) R.has.e (qT (λ p hp hn=>?_) λ p hp e=>?_)⟩
 ·simp only[Lp,Op,Rp]at hp;rcases hp with rfl |rfl |rfl |rfl |rfl |rfl
  ·exact R.has.a
  ·exact R.has.b
  ·exact R.has.c
  ·exact R.has.d
  ·exact absurd rfl hn
  ·exact R.has.f
 ·simp only[Lp,Op,Rp]at hp;rcases hp with rfl |rfl |rfl |rfl |rfl |rfl
  ·exact absurd (show(Str.ofString "blocks")=Str.ofString "part" from e) (by decide +kernel)
  ·exact absurd (show(Str.ofString "part_count")=Str.ofString "part" from e) (by decide +kernel)
  ·exact absurd (show(Str.ofString "line_count")=Str.ofString "part" from e) (by decide +kernel)
  ·exact absurd (show(Str.ofString "parameters_of")=Str.ofString "part" from e) (by decide +kernel)
  ·rfl
  ·exact absurd (show(Str.ofString "conditions")=Str.ofString "part" from e) (by decide +kernel)
theorem fS.setPc(R:fS ad H0 H r S)(n:Int):∃fs,fS ad H0 (upd H r (.ins ad.g S.dx (bH "part_count" (.int n) S.fs))) r {S with fs:=fs,pc:=n}:=by
 refine⟨_,R.fld (pc:=n) (lc:=S.lc) (vp:=S.vp) (by decide +kernel) R.has.b (qT (λ p hp hn=>?_) λ p hp e=>?_)⟩
 ·simp only[Lp,Op,Rp]at hp;rcases hp with rfl |rfl |rfl |rfl |rfl |rfl
  ·exact R.has.a
  ·exact absurd rfl hn
  ·exact R.has.c
  ·exact R.has.d
  ·exact R.has.e
  ·exact R.has.f
 ·simp only[Lp,Op,Rp]at hp;rcases hp with rfl |rfl |rfl |rfl |rfl |rfl
  ·exact absurd (show(Str.ofString "blocks")=Str.ofString "part_count" from e) (by decide +kernel)
  ·rfl
  ·exact absurd (show(Str.ofString "line_count")=Str.ofString "part_count" from e) (by decide +kernel)
  ·exact absurd (show(Str.ofString "parameters_of")=Str.ofString "part_count" from e) (by decide +kernel)
  ·exact absurd (show(Str.ofString "part")=Str.ofString "part_count" from e) (by decide +kernel)
  ·exact absurd (show(Str.ofString "conditions")=Str.ofString "part_count" from e) (by decide +kernel)
theorem fS.setLc(R:fS ad H0 H r S)(n:Int):∃fs,fS ad H0 (upd H r (.ins ad.g S.dx (bH "line_count" (.int n) S.fs))) r {S with fs:=fs,lc:=n}:=by
 refine⟨_,R.fld (pc:=S.pc) (lc:=n) (vp:=S.vp) (by decide +kernel) R.has.c (qT (λ p hp hn=>?_) λ p hp e=>?_)⟩
 ·simp only[Lp,Op,Rp]at hp;rcases hp with rfl |rfl |rfl |rfl |rfl |rfl
  ·exact R.has.a
  ·exact R.has.b
  ·exact absurd rfl hn
  ·exact R.has.d
  ·exact R.has.e
  ·exact R.has.f
 ·simp only[Lp,Op,Rp]at hp;rcases hp with rfl |rfl |rfl |rfl |rfl |rfl
  ·exact absurd (show(Str.ofString "blocks")=Str.ofString "line_count" from e) (by decide +kernel)
  ·exact absurd (show(Str.ofString "part_count")=Str.ofString "line_count" from e) (by decide +kernel)
  ·rfl
  ·exact absurd (show(Str.ofString "parameters_of")=Str.ofString "line_count" from e) (by decide +kernel)
  ·exact absurd (show(Str.ofString "part")=Str.ofString "line_count" from e) (by decide +kernel)
  ·exact absurd (show(Str.ofString "conditions")=Str.ofString "line_count" from e) (by decide +kernel)
end
def yT(ad:Ad):Sp:=λ vs H Q _=>∃p dx H1,vs=[.ref p]/\H=upd (upd H1 dx (.own p)) p (.ins ad.g dx [])/\H1 p=none/\H1 dx=none/\dx≠p/\
 ∀H' S,fS ad H1 H' p S->S.pc=0->S.lc=0->S.vp=.non->S.kvs=[]->S.ws=[]->S.bs=[]->Q .non H'
theorem Bm(T:bX K mg ad):jN P w K mg base 1 "Reader" ad.g ["self"] (yT ad):=by
 refine eS T.c6 T.KW (N:=["self"]) cj λ l H vs Q E hr hu6 hu nd h=>?_;obtain⟨p,dx,H1,rfl,rfl,np,ndx,hne,k⟩:=h;refine⟨_,(aa (bw aH (aG aF) rfl)
   (aa (bw aH al rfl)
   (aa (bw aH al rfl)
   (aa (bw aH wL rfl)
   (aa (bw aH eA rfl)
   (ac (bw aH (aG aF) rfl))))))),?_⟩
 generalize hH:upd (upd H1 dx (.own p)) p (.ins ad.g dx [])=H;have hp:H p=some (.ins ad.g dx []):=by rw[<-hH];exact ab
 have s0:ae H1 H:=by rw[<-hH];exact ae.upd (ae.new ndx) np
 refine⟨Lj _,λ bl hbl=>?_⟩;have pb:p≠bl:=ay hp hbl;refine⟨_,rfl,qs (by rw[am pb];exact hp) T.c6.cl T.i8 (by decide) ?_⟩;refine⟨_,rfl,qs ab T.c6.cl T.k3 (Lq (vz _ _) (by decide)) ?_⟩;refine⟨_,rfl,qs ab T.c6.cl T.k4 (Lq (wZ _ _ _ _) (by decide)) ?_⟩;intro dd hdd;have pd:p≠dd:=ay ab hdd;have bd:bl≠dd:=by refine ay (o:=.lst []) ?_ hdd;rw[am pb.symm,am pb.symm,am pb.symm];exact ab
 refine⟨_,rfl,qs (by rw[am pd];exact ab) T.c6.cl T.k5 (Lq (yL _ _ _ _ _ _) (by decide)) ?_⟩;refine⟨_,rfl,qs ab T.c6.cl T.i0 (Lq (CT _ _ _ _ _ _ _ _) (by decide)) ?_⟩;refine⟨Lj _,λ cl hcl=>?_⟩;have pc:p≠cl:=ay ab hcl;have bc:bl≠cl:=by refine ay (o:=.lst []) ?_ hcl;rw[am pb.symm,am pb.symm,am bd,am pb.symm,am pb.symm,am pb.symm];exact ab
 have dc:dd≠cl:=by refine ay (o:=.dT []) ?_ hcl;rw[am pd.symm,am pd.symm];exact ab
 refine⟨_,rfl,qs (by rw[am pc];exact ab) T.c6.cl T.i3 (Lq (Ln (cY _ _ _) (Qh (CT _ _ _ _ _ _ _ _))) (by decide)) ?_⟩;have nbl:H1 bl=none:=s0.free hbl;have n1:∀b,b≠p->b≠bl->(upd (upd (upd (upd H bl (.lst [])) p (.ins ad.g dx (bH "blocks" (.ref bl) []))) p (.ins ad.g dx (bH "part_count" (.int 0) (bH "blocks" (.ref bl) [])))) p (.ins ad.g dx (bH "line_count" (.int 0) (bH "part_count" (.int 0) (bH "blocks" (.ref bl) []))))) b=H b:=λ b h1 h2=>by rw[am h1,am h1,am h1,am h2]
 have ndd:H1 dd=none:=s0.free ((n1 dd pd.symm bd.symm)▸hdd);have ncl:H1 cl=none:=by refine s0.free ?_;rw[am pc.symm,am pc.symm,am dc.symm,n1 cl pc.symm bc.symm]at hcl;exact hcl
 refine k _ ⟨bl,cl,dd,dx,bH "conditions" (.ref cl) (bH "part" .non (bH "parameters_of" (.ref dd) (bH "line_count" (.int 0) (bH "part_count" (.int 0) (bH "blocks" (.ref bl) []))))),0,0,.non,[],[],[]⟩ ⟨?_,np,nbl,ncl,ndd,bc,ab,?_,?_,?_,?_,?_,?_⟩ rfl rfl rfl rfl rfl rfl
 ·exact ae.upd (ae.upd (ae.upd (ae.upd (ae.upd (ae.upd (ae.upd (ae.upd (ae.upd s0 nbl) np) np) np) ndd) np) np) ncl) np
 ·exact io.snoc (ns:=["blocks","part_count","line_count","parameters_of","part"]) (ws:=[_,_,_,_,_]) (io.snoc (ns:=["blocks","part_count","line_count","parameters_of"]) (ws:=[_,_,_,_]) (GC (by decide +kernel) (by decide +kernel) (by decide +kernel)) rfl (by decide +kernel)) rfl (by decide +kernel)
 ·exact Ln (Ln (cY _ _ _) (Qh (Ln (cY _ _ _) (Qh (CT _ _ _ _ _ _ _ _))))) (by decide)
 ·have m1:("blocks":Str)∈kJ:=by decide +kernel
  have m2:("part_count":Str)∈kJ:=by decide +kernel
  have m3:("line_count":Str)∈kJ:=by decide +kernel
  have m4:("parameters_of":Str)∈kJ:=by decide +kernel
  have m5:("part":Str)∈kJ:=by decide +kernel
  have m6:("conditions":Str)∈kJ:=by decide +kernel
  exact gm (gm (gm (gm (gm (gm (fs:=[]) (λ _ _=>rfl) m1) m2) m3) m4) m5) m6
 ·show upd _ p _ bl=some (.lst []);rw[am pb.symm,am bc,am pb.symm,am pb.symm,am bd,am pb.symm,am pb.symm,am pb.symm];exact ab
 ·show upd _ p _ cl=some (.lst []);rw[am pc.symm];exact ab
 ·show upd _ p _ dd=some (.dT []);rw[am pd.symm,am dc,am pd.symm,am pd.symm];exact ab
def pP(ad:Ad):Sp:=λ vs H Q _=>∃H0 r S v t,vs=[.ref r,v]/\fS ad H0 H r S/\bN H v t/\S.ws.length<=200/\(S.ws.length=200->Q (.int 6) H)/\
 (S.ws.length≠200->∀H' u,fS ad H0 H' r {S with ws:=S.ws++[u]}->ae (bS (S.M r) H) (bS (S.M r) H')->aE ad (bS (S.M r) H') u (.prose t)->Q (.int 0) H')
theorem kK(T:bX K mg ad):jO P w K mg base 3 ad.g "take_prose" ["self","row"] (pP ad):=by
 refine eT T.c6 T.K0 (N:=["self","row"]) cj λ l H vs Q E hr hu6 hu nd h=>?_;obtain⟨H0,r,S,v,t,rfl,R,hv,hz,k1,k2⟩:=h;refine⟨_,(aa (aA (aq bo (bR T.a7 aj (aD (aC aH))) (af T.up) (ax _)) (ac (ah (af T.o0))) ak)
   (aa (aV (bZ Lk Ma Mb bq (aC aH) (aD (gv (Da T) hr (ag aQ aF)))))
   (ac (ah (af T.f7))))),?_⟩
 refine qf R.ins T.c6.cl T.i8 R.has.a ⟨S.bl,_,rfl,.inl (SqL.of R.hb),rfl,_,rfl,au (λ h1=>?_) λ h1=>?_⟩
 ·refine k1 ?_;have h1:=Lh h1;injection h1 with h1
  omega
 ·have h1:S.ws.length≠200:=λ q=>h1 (Ll (by rw[q];rfl));refine qf R.ins T.c6.cl T.i8 R.has.a ⟨.inl ⟨rfl,_,SqL.of R.hb⟩,_,rfl,?_⟩;intro x dx hx hdx hne;refine⟨x,dx,v,rfl,ab,λ fs H2 hf hH hb=>⟨rfl,?_⟩⟩;have s2:ae H H2:=λ b o e=>by
   have h1:b≠x:=ay e hx;have h2:b≠dx:=ay e hdx;rw[hb b h1,am h1,am h2];exact e
  have R2:=R.sames s2;refine⟨S.bl,_,_,rfl,rfl,R2.hb,Lq hz (by decide),?_⟩;refine k2 h1 _ (.ref x) (R2.setB _) ?_ ?_
  ·rw[cf Ap];exact aU s2
  ·rw[cf Ap];refine⟨x,dx,fs,v,rfl,?_,hf,(hv.same s2).off R2.noTups⟩;rw[bE (R.out hx)];exact hH
def Bo(ad:Ad):Sp:=λ vs H Q _=>∃H0 r S,vs=[.ref r]/\fS ad H0 H r S/\(S.bs≠[]->Q (.int 4) H)/\
 (S.bs=[]->∀H' fs,fS ad H0 H' r {S with fs:=fs,vp:=.non}->bS (S.M r) H'=bS (S.M r) H->Q (.int 0) H')
theorem mB(T:bX K mg ad):jO P w K mg base 1 ad.g "take_end" ["self"] (Bo ad):=by
 refine eT T.c6 T.K2 (N:=["self"]) cj λ l H vs Q E hr hu6 hu nd h=>?_;obtain⟨H0,r,S,rfl,R,k1,k2⟩:=h;refine⟨_,(aa (aA (aq lU (bR T.a7 aj (aD (aC aH))) al (ax _)) (ac (ah (af T.u6))) ak)
   (aa (bw aH eA rfl)
   (ac (ah (af T.f7))))),?_⟩
 refine qf R.ins T.c6.cl T.i3 R.has.f ⟨S.cl,_,rfl,.inl (SqL.of R.hc),qn ⟨_,rfl,au (λ h1=>?_) λ h1=>?_⟩⟩
 ·refine k1 λ q=>?_;rw[q]at h1;exact absurd (Lh h1) (by decide)
 ·have h1:S.bs=[]:=by
   cases e:S.bs with
   |nil=>rfl
   |cons b l=>rw[e]at h1;exact absurd (Ll (by simp)) h1
  refine⟨_,rfl,r,_,S.dx,S.fs,rfl,R.ins,T.c6.cl,T.i0,Lq R.few (by decide),?_⟩;obtain⟨fs,R2⟩:=R.setPart .non;exact k2 h1 _ fs R2 (cf uF)
def dk(k:Int)(bs:List Bool):List Bool×Bool:=
 if k=1 then(bs++[false],decide (bs.length+1<=6)) else match bs.getLast? with
  |none=>(bs,false)
  |some b=>if k=2 then(bs.dropLast++[true],!b) else(bs.dropLast,true)
def yU(ad:Ad):Sp:=λ vs H Q _=>∃H0 r S,∃k:Int,vs=[.ref r,.int k]/\fS ad H0 H r S/\S.bs.length<=100/\
 ∀H',fS ad H0 H' r {S with bs:=(dk k S.bs).1}->bS (S.M r) H'=bS (S.M r) H->Q (.bl (dk k S.bs).2) H'
theorem iK(T:bX K mg ad):jO P w K mg base 1 ad.g "take_condition" ["self","kind"] (yU ad):=by
 refine eT T.c6 T.K4 (N:=["self","kind","had_else"]) cj λ l H vs Q E hr hu6 hu nd h=>?_;obtain⟨H0,r,S,kk,rfl,R,hz,k⟩:=h;refine⟨_,(aa (aA (aq bo aQ (af T.g4) (ax _)) (aa (aV (bZ Lk Ma Mb bq (aC aH) (aD kb)))
   (ac (ah (dB dE (bR T.a7 aj (aD (aC aH))) (af T.A9) (ax _))))) ak)
   (aa (aA (aq bo (bR T.a7 aj (aD (aC aH))) al (ax _)) (ac (ah kb)) ak)
   (aa (bf 2 nd (yz Lk PySem.F.slot_list_pop PySem.F.type_list_pop yB (aC aH)))
   (aa (aA (aq bo aQ (af T.on) (ax _)) (aa (aV (bZ Lk Ma Mb bq (aC aH) (aD kb)))
   (ac (ah (FY bJ)))) ak)
   (ac (ah kb)))))),?_⟩
 refine⟨_,rfl,rfl,_,rfl,au (λ h1=>?_) λ h1=>?_⟩
 ·have h1:kk=1:=by
   have h1:=Lh h1;injection h1
  have e:dk kk S.bs=(S.bs++[false],decide (S.bs.length+1<=6)):=by unfold dk;rw[Le h1]
  rw[e]at k;have R2:=R.setC (S.bs++[false]);rw[Mh]at R2;refine qf R.ins T.c6.cl T.i3 R.has.f ⟨.inl ⟨rfl,_,SqL.of R.hc⟩,S.cl,_,_,rfl,rfl,R.hc,?_,?_⟩
  ·rw[Ls];exact Lq hz (by decide)
  refine qf R2.ins T.c6.cl T.i3 R.has.f ⟨S.cl,_,rfl,.inl (SqL.of R2.hc),qn ?_⟩;have e2:decide ((((S.bs++[false]).map V.bl).length:Int)<=6)=decide (S.bs.length+1<=6):=by rw[Ls,La];exact Qe.mpr (by simp;omega)
  show Q (.bl (decide ((((S.bs++[false]).map V.bl).length:Int)<=6))) _;rw[e2];exact k _ R2 (cf xn)
 ·have h1:¬kk=1:=λ q=>h1 (Ll (by rw[q]));refine qf R.ins T.c6.cl T.i3 R.has.f ⟨S.cl,_,rfl,.inl (SqL.of R.hc),rfl,_,rfl,au (λ h2=>?_) λ h2=>?_⟩
  ·have h2:S.bs=[]:=by
    have h2:=Lh h2;injection h2 with h2
    rw[Ls]at h2;exact Oe.mp (by omega)
   have e:dk kk S.bs=(S.bs,false):=by unfold dk;rw[Ld h1,h2];rfl
   rw[e]at k;exact k _ R rfl
  ·rcases Ol S.bs with q |⟨l,b,q⟩
   ·rw[q]at h2;exact absurd (Ll rfl) h2
   ·rw[Om]at q;have e:dk kk S.bs=if kk=2 then(l++[true],!b) else(l,true):=by
     unfold dk;rw[Ld h1,q,Ni,Nj]
    rw[e]at k;have hlst:(S.bs.map V.bl)[(S.bs.map V.bl).length - 1]?=some (.bl b):=by rw[q,Mh,La];show(l.map V.bl++[V.bl b])[(l.map V.bl).length+1 - 1]?=_;rw[Ro,Pw (Lf _),Qg];rfl
    have hdl:(S.bs.map V.bl).dropLast=l.map V.bl:=by rw[q,Mh];exact Nj
    have R2:=R.setC l;refine qf R.ins T.c6.cl T.i3 R.has.f ⟨.inl ⟨rfl,_,SqL.of R.hc⟩,S.cl,_,_,rfl,rfl,R.hc,hlst,?_⟩;rw[hdl];refine⟨_,rfl,rfl,_,rfl,au (λ h3=>?_) λ h3=>?_⟩
    ·have h3:kk=2:=by
      have h3:=Lh h3;injection h3
     rw[Le h3]at k;have R3:=R2.setC (l++[true]);rw[Mh]at R3;refine qf R2.ins T.c6.cl T.i3 R.has.f ⟨.inl ⟨rfl,_,SqL.of R2.hc⟩,S.cl,_,_,rfl,rfl,R2.hc,?_,?_⟩
     ·rw[Ls];have:=Na List.length q;rw[La]at this;exact Lq (show l.length<=100 by omega) (by decide)
     ·exact⟨_,rfl,_,rfl,k _ R3 ((cf xn).trans (cf xn))⟩
    ·have h3:¬kk=2:=λ q=>h3 (Ll (by rw[q]));rw[Ld h3]at k;exact k _ R2 (cf xn)
def mC(n:Text):List dl:=n.map λ b=>Sum.inl (bI b)
theorem nJ(n:Text):(mC n).map kV=bT n:=by unfold mC bT;rw[Nl];rfl
theorem xo{m n:Text}(h:mC m=mC n):m=n:=mv (by rw[<-nJ,<-nJ,h])
def eX(G:Hp)(kvs:List (List dl×V))(f:Text->Option (List Text)):Prop:=∀n,(f n=none/\gH kvs (mC n)=none)\/∃ps v,f n=some ps/\gH kvs (mC n)=some v/\fM G v ps
theorem eX.same{G G':Hp}{kvs:List (List dl×V)}{f:Text->Option (List Text)}(d:eX G kvs f)(s:ae G G'):eX G' kvs f:=λ n=>by
 rcases d n with h |⟨ps,v,h1,h2,h3⟩
 ·exact .inl h
 ·exact .inr ⟨ps,v,h1,h2,h3.same s⟩
theorem eX.put{G:Hp}{kvs:List (List dl×V)}{f:Text->Option (List Text)}{m:Text}{v:V}{ps:List Text}(d:eX G kvs f)(r:fM G v ps):eX G (fR kvs (mC m) v) (λ n=>if n=m then some ps else f n):=λ n=>by
 rw[CI];by_cases h:n=m
 ·subst h;rw[Le rfl];exact .inr ⟨ps,v,Le rfl,rfl,r⟩
 ·rw[Ld (λ q=>h (xo q))];rcases d n with⟨h1,h2⟩ |⟨qs,u,h1,h2,h3⟩
  ·exact .inl ⟨(Ld h).trans h1,h2⟩
  ·exact .inr ⟨qs,u,(Ld h).trans h1,h2,h3⟩
def qv(c:Chunk)(f:Text->Option (List Text)):Text->Option (List Text):=if c.isFile=true then f else λ n=>if n=c.name then some c.params else f n
def vI(ad:Ad):Sp:=λ vs H Q _=>∃H0 r S c a dx2 fs2 v1 v2 ll us f,vs=[.ref r,.ref a]/\fS ad H0 H r S/\eG ad (bS (S.M r) H) (.ref a) c a dx2 fs2 v1 v2 ll us/\eX (bS (S.M r) H) S.kvs f/\S.kvs.length<=1000/\S.ws.length<=200/\
 (S.ws.length=200\/S.pc=60->Q (.int 6) H)/\
 (¬(S.ws.length=200\/S.pc=60)->c.isFile=false->(∃ps,f c.name=some ps/\ps≠c.params)->Q (.int 7) H)/\
 (¬(S.ws.length=200\/S.pc=60)->(c.isFile=false->∀ps,f c.name=some ps->ps=c.params)->∀H' fs kvs,fS ad H0 H' r {S with fs:=fs,kvs:=kvs,ws:=S.ws++[.ref a],pc:=S.pc+1,vp:=.ref a}->bS (S.M r) H'=bS (S.M r) H->
  eX (bS (S.M r) H) kvs (qv c f)->kvs.length<=S.kvs.length+1->Q (.int 0) H')
theorem jX(T:bX K mg ad):jO P w K mg base 1 ad.g "take_header" ["self","part"] (vI ad):=by
 refine eT T.c6 T.K1 (N:=["self","part"]) cj λ l H vs Q E hr hu6 hu nd h=>?_;obtain⟨H0,r,S,c,a,dx2,fs2,v1,v2,ll,us,f,rfl,R,pa,D,hk,hz,k6,k7,k0⟩:=h;have pH:=pa.same aK;have eK:cK c=if c.isFile=true then 2 else 1:=rfl
 refine⟨_,(aa (aA ((ra (aq bo (bR T.a7 aj (aD (aC aH))) (af T.up) (ax _)) (mi (aq bo (aC aH) (af T.A7) (ax _))))).pt (ac (ah (af T.o0))) ak)
   (aa (aA (aq bo (aC aQ) (af T.e9) (ax _)) (aa (aA (aq (EJ hu6) (CL hu (aC aH) (aC aQ) (aC aQ) ⟨by rfl,by rfl,by rfl,by rfl⟩) (aC aQ) (ax _)) (ac (ah (af T.B3))) ak)
   (ac (Aa hu (aC aH) (aC aQ) (aC aQ) rfl))) ak)
   (aa (aV (bZ Lk Ma Mb bq (aC aH) (aD aQ)))
   (aa (bw aH (bu cq (aC aH) al) rfl)
   (aa (bw aH aQ rfl)
   (ac (ah (af T.f7)))))))),?_⟩
 have rest:¬(S.ws.length=200\/S.pc=60)->(c.isFile=false->∀ps,f c.name=some ps->ps=c.params)->∀(H2:Hp) kvs,fS ad H0 H2 r {S with kvs:=kvs}->bS (S.M r) H2=bS (S.M r) H->eX (bS (S.M r) H) kvs (qv c f)->kvs.length<=S.kvs.length+1->
   tK (Cl (IH K "list" vj (mO K (gr 0) "blocks") (gD (gr 1) ib))) (tK (Ep K (gr 0) (Co (El λ i j=>.int (i+j)) (mO K (gr 0) "part_count") (tC (.int 1))) "part_count") (tK (Ep K (gr 0) (gr 1) "part") (vf (tC (.int 0))))) {nx:=λ _ H'=>Q .non H',rt:=Q} [some (.ref r),some (.ref a)] H2:=by
  intro h1 h2 H2 kvs R2 hO hD hl;refine qf R2.ins T.c6.cl T.i8 R2.has.a ⟨.inl ⟨rfl,_,SqL.of R2.hb⟩,_,rfl,S.bl,_,_,rfl,rfl,R2.hb,Lq hz (by decide),?_⟩;have R3:=R2.setB (S.ws++[.ref a]);refine qf R3.ins T.c6.cl T.k3 R3.has.b (qn ⟨_,rfl,r,_,S.dx,S.fs,rfl,R3.ins,T.c6.cl,T.k3,Lq R3.few (by decide),?_⟩);obtain⟨fs4,R4⟩:=R3.setPc (S.pc+1);refine⟨_,rfl,_,rfl,r,_,S.dx,_,rfl,R4.ins,T.c6.cl,T.i0,Lq R4.few (by decide),?_⟩;obtain⟨fs5,R5⟩:=R4.setPart (.ref a);refine k0 h1 h2 _ fs5 kvs R5 ?_ hD hl;rw[cf uF,cf uF,cf Ap,hO]
 refine qf R.ins T.c6.cl T.i8 R.has.a ⟨S.bl,_,rfl,.inl (SqL.of R.hb),rfl,_,rfl,au (λ h1=>fg ?_) λ h1=>?_⟩
 ·refine k6 (.inl ?_);have h1:=Lh h1;injection h1 with h1
  omega
 have h1:S.ws.length≠200:=λ q=>h1 (Ll (by rw[q];rfl));refine qf R.ins T.c6.cl T.k3 R.has.b ⟨rfl,_,rfl,au (λ h2=>?_) λ h2=>?_⟩
 ·refine k6 (.inr ?_);have h2:=Lh h2;injection h2
 have h2:S.pc≠60:=λ q=>h2 (Ll (by rw[q]));have h12:¬(S.ws.length=200\/S.pc=60):=λ q=>q.elim h1 h2;refine qf pH.ins T.a8.cl T.d9 pH.has.a ?_;refine⟨rfl,_,rfl,?_⟩;cases hf:c.isFile with
 |true=>
  rw[hf,Le rfl]at eK;rw[eK];refine fH ?_;have en:qv c f=f:=by unfold qv;rw[Le hf]
  exact rest h12 (λ q=>by rw[hf]at q;cases q) H S.kvs R rfl (by rw[en];exact D) (Nat.le_succ _)
 |false=>
  rw[hf,Ld (by decide)]at eK;rw[eK];refine fg ?_;have en:qv c f=λ n=>if n=c.name then some c.params else f n:=by unfold qv;rw[Ld (by rw[hf];decide)]
  obtain⟨b1,rfl,hb1,hzn⟩:=pH.name;have hkey:H b1=some (.tup ((mC c.name).map kV)):=by rw[nJ];exact hb1
  refine qf R.ins T.c6.cl T.k5 R.has.d ⟨S.dd,rfl,.inr ⟨_,.inl R.hd⟩,?_⟩;refine qf pH.ins T.a8.cl T.d2 pH.has.b ?_;refine qf pH.ins T.a8.cl T.d3 pH.has.c ?_;refine⟨_,ro.t R.hd hkey,?_⟩;refine qf pH.ins T.a8.cl T.d3 pH.has.c ?_;have put:(∀ps,f c.name=some ps->ps=c.params)->_:=λ hq=>rest h12 (λ _=>hq) _ _ (R.setD (fR S.kvs (mC c.name) v2)) (cf FO) (by rw[en];exact D.put pa.params) (ii _ _ _);rcases D c.name with⟨e1,e2⟩ |⟨ps,u,e1,e2,e3⟩
  ·rw[e2];refine⟨c.params,c.params,pH.params,pH.params,_,rfl,au (λ q=>?_) λ _=>?_⟩
   ·simp at q
   ·refine qf pH.ins T.a8.cl T.d3 pH.has.c ?_;refine qf R.ins T.c6.cl T.k5 R.has.d ?_;refine qf pH.ins T.a8.cl T.d2 pH.has.b ?_;refine⟨S.dd,_,rfl,yE.t R.hd hkey (Lq hk (by decide)),?_⟩;exact put λ qs q=>by rw[e1]at q;cases q
  ·rw[e2];refine⟨ps,c.params,e3.same aK,pH.params,_,rfl,au (λ q=>?_) λ q=>?_⟩
   ·exact k7 h12 hf ⟨ps,e1,by simpa using q⟩
   ·have q:ps=c.params:=by simpa using q
    refine qf pH.ins T.a8.cl T.d3 pH.has.c ?_;refine qf R.ins T.c6.cl T.k5 R.has.d ?_;refine qf pH.ins T.a8.cl T.d2 pH.has.b ?_;refine⟨S.dd,_,rfl,yE.t R.hd hkey (Lq hk (by decide)),?_⟩;exact put λ qs q2=>by rw[e1]at q2;cases q2;exact q
open Valita (Reading outerRead sameName)
theorem Dd{M:List Addr}{H:Hp}{l:Addr}{o:HO}(h:l∉M):bS M (upd H l o)=upd (bS M H) l o:=by
 funext b;by_cases hb:b=l
 ·subst hb;rw[bE h,ab,ab]
 ·rw[am hb];unfold bS;split
  ·rfl
  ·rw[am hb]
structure fX(f:Text->Option (List Text))(cs:List Chunk):Prop where
 has:∀c∈cs,c.isFile=false->f c.name=some c.params
 of:∀n ps,f n=some ps->∃c∈cs,c.isFile=false/\c.name=n
 file:∀c∈cs,c.isFile=true->c.params=[]
theorem fX.spec{f:Text->Option (List Text)}{cs:List Chunk}{c:Chunk}(C:fX f cs)(hc:c.isFile=true->c.params=[]):
  (cs.all λ e=>!sameName e c||e.params==c.params)=true↔(c.isFile=false->∀ps,f c.name=some ps->ps=c.params):=by
 rw[Nk];constructor
 ·intro h hf ps hp;obtain⟨e,he,ef,en⟩:=C.of _ _ hp;have h1:=h e he;have h2:=C.has e he ef;rw[en,hp]at h2;have h3:sameName e c=true:=by
   unfold sameName;rw[ef,hf,en];simp
  rw[h3]at h1;have h4:e.params=c.params:=by simpa using h1
  rw[Lz h2,h4]
 ·intro h e he;cases hs:sameName e c with
  |false=>rfl
  |true=>
   unfold sameName at hs;rw[Li]at hs;have h1:e.isFile=c.isFile:=by simpa using hs.1
   have h2:e.name=c.name:=by simpa using hs.2
   cases hf:c.isFile with
   |true=>rw[C.file e he (h1.trans hf),hc hf];rfl
   |false=>have h3:=C.has e he (h1.trans hf);rw[h2]at h3;rw[h hf _ h3];simp
theorem fX.snoc{f:Text->Option (List Text)}{cs:List Chunk}{c:Chunk}(C:fX f cs)(hc:c.isFile=true->c.params=[])(hq:c.isFile=false->∀ps,f c.name=some ps->ps=c.params):fX (qv c f) (cs++[c]):=by
 cases hf:c.isFile with
 |true=>
  have e:qv c f=f:=by unfold qv;rw[Le hf]
  rw[e];refine⟨λ x hx h=>?_,λ n ps h=>?_,λ x hx h=>?_⟩
  ·rcases Mg.mp hx with hx |hx
   ·exact C.has x hx h
   ·rw[Lu]at hx;rw[hx,hf]at h;cases h
  ·obtain⟨x,hx,h2⟩:=C.of n ps h;exact⟨x,Ot _ hx,h2⟩
  ·rcases Mg.mp hx with hx |hx
   ·exact C.file x hx h
   ·rw[Lu]at hx;rw[hx];exact hc hf
 |false=>
  have e:qv c f=λ n=>if n=c.name then some c.params else f n:=by unfold qv;rw[Ld (by rw[hf];decide)]
  rw[e];refine⟨λ x hx h=>?_,λ n ps h=>?_,λ x hx h=>?_⟩
  ·rcases Mg.mp hx with hx |hx
   ·have h2:=C.has x hx h;by_cases hn:x.name=c.name
    ·rw[hn]at h2;show(if x.name=c.name then some c.params else f x.name)=_;rw[Le hn,hq hf _ h2]
    ·show(if x.name=c.name then some c.params else f x.name)=_;rw[Ld hn];exact h2
   ·rw[Lu]at hx;subst hx;exact Le rfl
  ·by_cases hn:n=c.name
   ·exact⟨c,Nc _ (Lu.mpr rfl),hf,hn.symm⟩
   ·have h:(if n=c.name then some c.params else f n)=some ps:=h;rw[Ld hn]at h;obtain⟨x,hx,h2⟩:=C.of n ps h;exact⟨x,Ot _ hx,h2⟩
  ·rcases Mg.mp hx with hx |hx
   ·exact C.file x hx h
   ·rw[Lu]at hx;rw[hx,hf]at h;cases h
theorem fX.eq{f:Text->Option (List Text)}{cs:List Chunk}{c d:Chunk}(C:fX f (cs++[c]))(h1:d.isFile=c.isFile)(h2:d.name=c.name)(h3:d.params=c.params):fX f (cs++[d]):=by
 refine⟨λ x hx h=>?_,λ n ps h=>?_,λ x hx h=>?_⟩
 ·rcases Mg.mp hx with hx |hx
  ·exact C.has x (Ot _ hx) h
  ·rw[Lu]at hx;subst hx;rw[h2,h3];exact C.has c (Nc _ (Lu.mpr rfl)) (h1.symm.trans h)
 ·obtain⟨x,hx,h4,h5⟩:=C.of n ps h;rcases Mg.mp hx with hx |hx
  ·exact⟨x,Ot _ hx,h4,h5⟩
  ·rw[Lu]at hx;subst hx;exact⟨d,Nc _ (Lu.mpr rfl),h1.trans h4,h2.trans h5⟩
 ·rcases Mg.mp hx with hx |hx
  ·exact C.file x (Ot _ hx) h
  ·rw[Lu]at hx;subst hx;rw[h3];exact C.file c (Nc _ (Lu.mpr rfl)) (h1.symm.trans h)
structure EU(ad:Ad)(H:Hp)(r:Addr)(d:Document)(S:Ce):Prop where
 vp:S.vp=.non
 bs:S.bs=[]
 bl:Paired (aE ad (bS (S.M r) H)) S.ws d
 pc:S.pc=((chunksOf d).length:Int)
 lc:S.lc=(lineCount d:Int)
 dict:∃f,eX (bS (S.M r) H) S.kvs f/\fX f (chunksOf d)
 kz:(S.kvs.length:Int)<=S.pc
 bz:d.length<=200
 cz:(chunksOf d).length<=60
 lz:lineCount d<=400
structure xp(ad:Ad)(H0 H:Hp)(r:Addr)(d:Document)(c:Chunk)(nest:List Bool)(S:Ce)(a dx2:Addr)(fs2:List (Str×V))(v1 v2:V)(ll:Addr)(us ws1:List V):Prop where
 vp:S.vp=.ref a
 bs:S.bs=nest.reverse
 ws:S.ws=ws1++[.ref a]
 part:eG ad (bS (S.M r) H) (.ref a) c a dx2 fs2 v1 v2 ll us
 nl:H0 ll=none
 bl:Paired (aE ad (bS (ll::S.M r) H)) ws1 d
 pc:S.pc=((chunksOf d).length:Int)+1
 lc:S.lc=(lineCount d:Int)+(c.lines.length:Int)
 dict:∃f,eX (bS (S.M r) H) S.kvs f/\fX f (chunksOf d++[c])
 kz:(S.kvs.length:Int)<=S.pc
 bz:d.length+1<=200
 cz:(chunksOf d).length+1<=60
 lz:lineCount d+c.lines.length<=400
 nz:nest.length<=6
def RS(ad:Ad)(H0 H:Hp)(r:Addr)(x:Reading):Prop:=∃S,fS ad H0 H r S/\match x.now with
 |none=>EU ad H r x.blocks S
 |some z=>∃a dx2 fs2 v1 v2 ll us ws1,xp ad H0 H r x.blocks z.1 z.2 S a dx2 fs2 v1 v2 ll us ws1
def yV(ad:Ad)(pre:Reading->Text->Prop)(f:Reading->Text->Except Nat Reading):Sp:=λ vs H Q _=>∃H0 r x v t,vs=[.ref r,v]/\RS ad H0 H r x/\bN H v t/\pre x t/\
 (∀n H',f x t=.error n->ae H0 H'->Q (.int (n:Nat)) H')/\∀y H',f x t=.ok y->RS ad H0 H' r y->Q (.int 0) H'
theorem dC(d:Document)(t:Text):chunksOf (d++[.prose t])=chunksOf d:=by unfold chunksOf;rw[Qw];simp
theorem dD(d:Document)(c:Chunk):chunksOf (d++[.chunk c])=chunksOf d++[c]:=by unfold chunksOf;rw[Qw];simp
theorem jS(d:Document)(t:Text):lineCount (d++[.prose t])=lineCount d:=by unfold lineCount;rw[dC]
theorem jT(d:Document)(c:Chunk):lineCount (d++[.chunk c])=lineCount d+c.lines.length:=by unfold lineCount;rw[dD,Mh,List.foldl_append];rfl
theorem vJ{t:Text}{c:Chunk}(h:headOf t=some c):(c.isFile=true->c.params=[])/\c.lines=[]:=by
 rw[iZ]at h;split at h
 ·unfold gl at h;split at h
  ·cases h;exact⟨λ _=>rfl,rfl⟩
  ·cases h
 ·split at h
  ·unfold dY at h;cases e:bP (t.drop 7) with
   |none=>rw[e]at h;cases h
   |some z=>
    rw[e]at h;have h:(if dv z.2=true then some ({isFile:=false,name:=z.1,params:=z.2,lines:=[]}:Chunk) else none)=some c:=h;split at h
    ·cases h;exact⟨λ q=>(by cases q),rfl⟩
    ·cases h
  ·cases h
theorem eG.off{M:List Addr}{H:Hp}{v:V}{c:Chunk}{a dx:Addr}{fs:List (Str×V)}{v1 v2:V}{ll:Addr}(h:eG ad H v c a dx fs v1 v2 ll [])(n:oO M H)(ha:a∉M)(hl:ll∉M):eG ad (bS M H) v c a dx fs v1 v2 ll []:=by
 refine⟨h.ref,by rw[bE ha];exact h.ins,h.has,h.name.off n,h.params.off n,by rw[bE hl];exact h.lst,?_,h.lim⟩;have:=h.lines;cases e:c.lines with
 |nil=>exact .nil
 |cons x xs=>rw[e]at this;cases this
theorem xq(t:Text):([64]:Text).isPrefixOf t=(t.head?==some 64):=by
 cases t with
 |nil=>rfl
 |cons c r=>
  show((64==c)&&true)=_;rw[Bool.and_true];by_cases h:c=64
  ·subst h;rfl
  ·rw[Ms.mpr (λ q=>h q.symm)];simp[h]
theorem jy(T:bX K mg ad):jO P w K mg base 8 ad.g "take_outside" ["self","row"] (yV ad (λ x _=>x.now=none) outerRead):=by
 refine eT T.c6 T.KZ (N:=["self","row","part"]) cj λ l H vs Q E hr hu6 hu nd h=>?_;obtain⟨H0,r,x,v,t,rfl,⟨S,R,hF⟩,hv,hpre,kE,kO⟩:=h;rw[hpre]at hF;obtain⟨f,hD,hC⟩:=hF.dict;have hl:=ai hF.bl;have hbz:=hF.bz;have hcz:=hF.cz;have hkz:=hF.kz;have hpc:=hF.pc;refine⟨_,(aa (aA ((ra (bO (bi (az (di T) hr (dU aQ (az (bm T) hr (aD cn)))))) (mi (bi (az (di T) hr (dU aQ (az (bm T) hr (aD cn)))))))).pt (ac (ah (mZ (kK T) hr aH (aD aQ)))) ak)
   (aa (bf 2 nd (az (rZ T) hr (aD aQ)))
   (aa (aA (gt (jl bJ)) (ac (ah (af T.B0))) ak)
   (ac (ah (mZ (jX T) hr aH (aD bJ))))))),?_⟩
 have prose:∀H1,ae H H1->(t.head? != some 64||([64,64]:Text).isPrefixOf t)=true->
   vf (ww ad.g "take_prose" (pP ad) [] E0 (gr 0) (gD (gr 1) ib)) {nx:=λ _ H'=>Q .non H',rt:=Q} [some (.ref r),some v,none] H1:=by
  intro H1 s1 hp;have R1:=R.sames s1;have eo:outerRead x t=if 200<=x.blocks.length then .error 6 else .ok {x with blocks:=x.blocks++[.prose t]}:=by unfold outerRead;simp only;rw[Le hp];rfl
  refine⟨_,rfl,r,S.dx,S.fs,rfl,R1.ins,R1.only _ (by decide +kernel),_,rfl,H0,r,S,v,t,rfl,R1,hv.same s1,by omega,λ h6=>?_,λ h6 H2 u R2 s2 hb=>?_⟩
  ·exact kE 6 _ (by rw[eo,Le (by omega)]) R1.same
  ·refine kO _ _ (by rw[eo,Ld (by omega)]) ⟨_,R2,?_⟩;show match x.now with
    |none=>EU ad H2 r (x.blocks++[.prose t]) _
    |some z=>_
   rw[hpre];have s02:ae (bS (S.M r) H) (bS (S.M r) H2):=(aU s1).trans s2;refine⟨hF.vp,hF.bs,aI (aN hF.bl s02) (.cons hb .nil),?_,?_,⟨f,hD.same s02,?_⟩,hF.kz,?_,?_,?_⟩
   ·rw[dC];exact hF.pc
   ·rw[jS];exact hF.lc
   ·rw[dC];exact hC
   ·rw[La,Lx];omega
   ·rw[dC];exact hF.cz
   ·rw[jS];exact hF.lz
 refine⟨_,rfl,_,[64],rfl,by decide +kernel,by decide,λ v1 H1 s1 r1=>⟨v,v1,t,[64],rfl,hv.same s1,r1,λ H2 s2=>⟨_,rfl,au (λ h1=>fg ?_) λ h1=>?_⟩⟩⟩
 ·refine prose _ (s1.trans s2) ?_;rw[xq]at h1;rw[bne,h1];rfl
 have h1:([64]:Text).isPrefixOf t=true:=by simpa using h1
 have s12:=s1.trans s2;refine⟨_,rfl,_,[64,64],rfl,by decide +kernel,by decide,λ v3 H3 s3 r3=>⟨v,v3,t,[64,64],rfl,hv.same (s12.trans s3),r3,λ H4 s4=>⟨_,rfl,au (λ h2=>?_) λ h2=>?_⟩⟩⟩
 ·refine prose _ ((s12.trans s3).trans s4) ?_;rw[h2,Bool.or_true]
 have s14:=(s12.trans s3).trans s4;have hnp:¬(t.head? != some 64||([64,64]:Text).isPrefixOf t)=true:=by rw[xq]at h1;rw[bne,h1];simpa using h2
 have eo:outerRead x t=match headOf t with
   |none=>.error 2
   |some c=>if(decide (200<=x.blocks.length)||decide (60<=(chunksOf x.blocks).length))=true then .error 6
    else if(chunksOf x.blocks).all (λ e=>!sameName e c||e.params==c.params)=true then .ok {x with now:=some (c,[])} else .error 7:=by
  unfold outerRead;simp only;rw[Ld hnp];rfl
 have R4:=R.sames s14;refine⟨_,rfl,v,t,rfl,hv.same s14,λ H5 s5 e5=>?_,λ c a dx2 fs2 w1 w2 ll H5 s5 e5 p5 na nl=>?_⟩
 ·refine⟨_,rfl,_,rfl,?_⟩;refine au (λ _=>?_) λ q=>absurd (Ll rfl) q;exact kE 2 _ (by rw[eo,e5]) (R4.sames s5).same
 ·refine⟨_,rfl,_,rfl,?_⟩;refine au (λ q=>absurd (Lh q) (by intro q;cases q)) λ _=>?_;rw[e5]at eo;simp only at eo;have R5:=R4.sames s5;obtain⟨hcf,hcl⟩:=vJ e5;have hsp:=hC.spec hcf;have s05:ae (bS (S.M r) H) (bS (S.M r) H5):=aU (s14.trans s5);have p6:=p5.off R5.noTups (R4.out na) (R4.out nl);have hor:(decide (200<=x.blocks.length)||decide (60<=(chunksOf x.blocks).length))=true↔(S.ws.length=200\/S.pc=60):=by
   rw[Bool.or_eq_true,Nv,Nv];constructor<;>(intro h;omega)
  refine⟨_,rfl,r,S.dx,S.fs,rfl,R5.ins,R5.only _ (by decide +kernel),_,rfl,H0,r,S,c,a,dx2,fs2,w1,w2,ll,[],f,rfl,R5,p6,hD.same s05,by omega,by omega,λ h6=>?_,λ h6 hf h7=>?_,λ h6 hq H6 fs kvs R6 hO hD6 hk6=>?_⟩
  ·exact kE 6 _ (by rw[eo,Le (hor.mpr h6)]) R5.same
  ·refine kE 7 _ ?_ R5.same;rw[eo,Ld (λ q=>h6 (hor.mp q)),Ld];intro q;obtain⟨ps,h8,h9⟩:=h7;exact h9 (hsp.mp q hf ps h8)
  ·refine kO {x with now:=some (c,[])} _ (by rw[eo,Ld (λ q=>h6 (hor.mp q)),Le (hsp.mpr hq)]) ⟨_,R6,a,dx2,fs2,w1,w2,ll,[],S.ws,?_⟩;have hO2:bS (({S with fs:=fs,kvs:=kvs,ws:=S.ws++[V.ref a],pc:=S.pc+1,vp:=V.ref a}:Ce).M r) H6=bS (S.M r) H5:=hO;have hll:ll∉S.M r:=R4.out nl;have n0:H0 ll=none:=R4.same.free nl;refine⟨rfl,hF.bs,rfl,?_,n0,?_,?_,?_,⟨qv c f,?_,hC.snoc hcf hq⟩,?_,?_,?_,?_,Lj _⟩
   ·rw[hO2];exact p6
   ·have e1:ae (bS (S.M r) H) (bS (ll::S.M r) H6):=by
     intro b o e;obtain⟨q1,q2⟩:=cQ e;have q3:b≠ll:=λ q=>by have:=s14 b o q2;rw[q,nl]at this;cases this
     have q4:bS (S.M r) H6 b=some o:=by rw[show bS (S.M r) H6=bS (S.M r) H5 from hO];exact s05 b o e
     obtain⟨q5,q6⟩:=cQ q4;rw[bE (λ q=>by rcases Lp.mp q with q |q;exact q3 q;exact q5 q)];exact q6
    exact aN hF.bl e1
   ·show S.pc+1=_;rw[hF.pc]
   ·show S.lc=_;rw[hF.lc,hcl];simp
   ·rw[hO2];exact hD6
   ·show(kvs.length:Int)<=S.pc+1;omega
   ·show x.blocks.length+1<=200;omega
   ·show(chunksOf x.blocks).length+1<=60;omega
   ·rw[hcl];exact hF.lz
open Valita (innerRead lineRead paramsIn withLine)
theorem xp.sames{H0 H H':Hp}{r:Addr}{d:Document}{c:Chunk}{nest:List Bool}{S:Ce}{a dx2:Addr}{fs2:List (Str×V)}{v1 v2:V}{ll:Addr}{us ws1:List V}(F:xp ad H0 H r d c nest S a dx2 fs2 v1 v2 ll us ws1)(s:ae H H'):xp ad H0 H' r d c nest S a dx2 fs2 v1 v2 ll us ws1:=by obtain⟨f,h1,h2⟩:=F.dict;exact⟨F.vp,F.bs,F.ws,F.part.same (aU s),F.nl,aN F.bl (aU s),F.pc,F.lc,⟨f,h1.same (aU s),h2⟩,F.kz,F.bz,F.cz,F.lz,F.nz⟩
theorem xp.off{H0 H H':Hp}{r:Addr}{d:Document}{c:Chunk}{nest nest':List Bool}{S:Ce}{a dx2:Addr}{fs2:List (Str×V)}{v1 v2:V}{ll:Addr}{us ws1:List V}(F:xp ad H0 H r d c nest S a dx2 fs2 v1 v2 ll us ws1)(e:bS (S.M r) H'=bS (S.M r) H)(hn:nest'.length<=6):
  xp ad H0 H' r d c nest' {S with bs:=nest'.reverse} a dx2 fs2 v1 v2 ll us ws1:=by
 obtain⟨f,h1,h2⟩:=F.dict;have e2:bS (ll::S.M r) H'=bS (ll::S.M r) H:=by
  funext b;by_cases hb:b∈ll::S.M r
  ·unfold bS;rw[Le hb,Le hb]
  ·have h3:b∉S.M r:=λ q=>hb (.tail _ q);rw[bE hb,bE hb,<-bE (H:=H') h3,e,bE h3]
 refine⟨F.vp,rfl,F.ws,?_,F.nl,?_,F.pc,F.lc,⟨f,?_,h2⟩,F.kz,F.bz,F.cz,F.lz,hn⟩
 ·show eG ad (bS (S.M r) H') _ _ _ _ _ _ _ _ _;rw[e];exact F.part
 ·show Paired (aE ad (bS (ll::S.M r) H')) _ _;rw[e2];exact F.bl
 ·show eX (bS (S.M r) H') _ _;rw[e];exact h1
structure jz(ad:Ad)(M:List Addr)(H:Hp):Prop where
 t:oO M H
 c:∀m∈M,∀C dx fs,H m=some (.ins C dx fs)->C≠ad.b/\C≠ad.c
theorem cb.off{M:List Addr}{H:Hp}{v:V}{p:Piece}(h:cb ad H v p)(n:jz ad M H):cb ad (bS M H) v p:=by obtain⟨a,dx,fs,v1,v2,e,h,hf,r1,r2⟩:=h;exact⟨a,dx,fs,v1,v2,e,by rw[bE (λ q=>(n.c a q _ _ _ h).1 rfl)];exact h,hf,r1.off n.t,r2.off n.t⟩
theorem bW.off{M:List Addr}{H:Hp}{v:V}{l:Line}(h:bW ad H v l)(n:jz ad M H):bW ad (bS M H) v l:=by obtain⟨a,dx,fs,v1,v2,e,h,hf,⟨b,ws,eb,hb,pb,zb⟩,r2⟩:=h;exact⟨a,dx,fs,v1,v2,e,by rw[bE (λ q=>(n.c a q _ _ _ h).2 rfl)];exact h,hf,⟨b,ws,eb,ly n.t rfl hb,Paired.mapP pb λ _ _ q=>q.off n,zb⟩,r2.off n.t⟩
theorem fS.noParts(T:bX K mg ad){H0 H:Hp}{r:Addr}{S:Ce}(R:fS ad H0 H r S):jz ad (S.M r) H:=by
 refine⟨R.noTups,λ m hm C dx fs h=>?_⟩;have hd:=T.k8;simp only[Pt,Lp,Op,Rp,Qu]at hd;have e1:ad.g≠ad.b:=λ q=>by rw[q]at hd;simp_all
 have e2:ad.g≠ad.c:=λ q=>by rw[q]at hd;simp_all
 rcases Lp.mp hm with rfl |hm
 ·rw[R.ins]at h;cases h;exact⟨e1,e2⟩
 rcases Lp.mp hm with rfl |hm
 ·rw[R.hb]at h;cases h
 rcases Lp.mp hm with rfl |hm
 ·rw[R.hc]at h;cases h
 rcases Lp.mp hm with rfl |hm
 ·rw[R.hd]at h;cases h
 cases hm
def sk(x:Reading)(t:Text):Except Nat Reading:=match x.now with
 |some z=>innerRead x z.1 z.2 t
 |none=>.error 0
theorem xr{ps:List Piece}{j:Nat}{p:Piece}(h:ps[j]?=some p)(cs:List Text):(paramsIn (ps.take (j+1))).all (λ n=>cs.contains n)=((paramsIn (ps.take j)).all (λ n=>cs.contains n)&&match p with
  |.param n=>cs.contains n
  |_=>true):=by
 unfold paramsIn;rw[bD h,Qw,List.all_append];cases p<;>simp
theorem xt{ps:List Piece}{j:Nat}{cs:List Text}(h:(paramsIn (ps.take j)).all (λ n=>cs.contains n)=false):(paramsIn ps).all (λ n=>cs.contains n)=false:=by unfold paramsIn at *;rw[<-Nd j ps,Qw,List.all_append,h];rfl
theorem gQ(x:Reading)(c:Chunk)(nest:List Bool){t:Text}(hne:t≠Valita.END):innerRead x c nest t=match lineOf t with
   |none=>.error 3
   |some .otherwise=>(match nest with
    |false::r=>withLine x c .otherwise (true::r)
    |_=>.error 4)
   |some .done=>(match nest with
    |_::r=>withLine x c .done r
    |[]=>.error 4)
   |some (.when s)=>if 6<=nest.length then .error 4 else withLine x c (.when s) (false::nest)
   |some (.code l)=>if(paramsIn l).all (λ n=>c.params.contains n)=true then withLine x c (.code l) nest else .error 5:=by
 unfold innerRead;rw[Ld hne];rfl
theorem jY(T:bX K mg ad):jO P w K mg base 10 ad.g "take_within" ["self","row"] (yV ad (λ x t=>(∃z,x.now=some z)/\t≠Valita.END) sk):=by
 refine eT T.c6 T.K3 (N:=["self","row","line","piece"]) cj λ l H vs Q E hr hu6 hu nd h=>?_;obtain⟨H0,r,x,v,t,rfl,⟨S,R,hF⟩,hv,⟨⟨⟨c,nest⟩,hnow⟩,hne⟩,kE,kO⟩:=h;rw[hnow]at hF;obtain⟨a,dx2,fs2,v1,v2,ll,us,ws1,F⟩:=hF;have ei:sk x t=innerRead x c nest t:=by unfold sk;rw[hnow]
 refine⟨_,(aa (bf 2 nd (az (nH T) hr (aD aQ)))
   (aa (aA (gt (jl bJ)) (ac (ah (af T.B1))) ak)
   (aa (aA ((oz (aq iR (aC bJ) (af T.j7) (ax _)) (mK (bO (bi (mZ (iK T) hr aH (aD (aC bJ)))))))).pt (ac (ah (af T.u6))) ak)
   (aa (dn Mu rfl (fK (aC bJ)) (aM (i:=3) nd rfl (Or.inl rfl)) (ac (aA ((oz (aq bo (aC dF) (af T.k9) (ax _)) (mK (aq (iW hu6) (aC dF) (aC (aC aH)) (by with_unfolding_all rfl))))).pt (ac (ah (af T.B2))) ak)))
   (aa (aA (aq bo (aC aH) (af T.A8) (ax _)) (ac (ah (af T.o0))) ak)
   (aa (aV (bZ Lk Ma Mb bq (aC (aC aH)) (aD bJ)))
   (aa (bw aH (bu cq (aC aH) al) rfl)
   (ac (ah (af T.f7)))))))))),?_⟩
 have tail:∀(H2:Hp) (S2:Ce) (nest2:List Bool) (u:V) (l:Line),fS ad H0 H2 r S2->xp ad H0 H2 r x.blocks c nest2 S2 a dx2 fs2 v1 v2 ll us ws1->bW ad H2 u l->
   ((paramsIn (lP l)).all (λ n=>c.params.contains n)=false->innerRead x c nest t=.error 5)->
   ((paramsIn (lP l)).all (λ n=>c.params.contains n)=true->innerRead x c nest t=withLine x c l nest2)->
   tK (Hv (Hs K (mO K (gr 2) "pieces")) (gW 3) (Ek (Ej (uf (Co Ih (mO K (gr 3) "kind") (tC (.int 2)))) (uf (Co (Gy true) (mO K (gr 3) "text") (mO K (mO K (gr 0) "part") "parameters")))) (vf (tC (.int 5))) zQ))
    (tK (Ek (uf (Co Ih (mO K (gr 0) "line_count") (tC (.int 400)))) (vf (tC (.int 6))) zQ) (tK (Cl (IH K "list" vj (mO K (mO K (gr 0) "part") "lines") (gD (gr 2) ib))) (tK (Ep K (gr 0) (Co (El λ i j=>.int (i+j)) (mO K (gr 0) "line_count") (tC (.int 1))) "line_count") (vf (tC (.int 0))))))
    {nx:=λ _ H'=>Q .non H',rt:=Q} [some (.ref r),some v,some u,none] H2:=by
  intro H2 S2 nest2 u l R2 F2 hu h5 hw;have pH:=F2.part.same aK;obtain⟨b,bdx,bfs,w1,w2,rfl,hb,hbf,⟨q,qs,rfl,hq,pq,zq⟩,r2⟩:=id hu;refine qf hb T.c7.cl T.f9 hbf.b ?_;refine⟨q,rfl,⟨_,ci.of hq⟩,mM (xs:=qs) (λ j σ H'=>(∃y,σ=[some (.ref r),some v,some (.ref b),y])/\H'=H2/\(paramsIn ((lP l).take j)).all (λ n=>c.params.contains n)=true) ⟨⟨none,rfl⟩,rfl,rfl⟩ (λ j σ H' _ h=>by rw[h.2.1];exact ci.of hq) ?_ ?_⟩
  ·rintro j y σ H' hj ⟨⟨y0,rfl⟩,rfl,hall⟩;obtain⟨p,hp,pr⟩:=aZ pq hj;have hpt:=xr hp c.params;rw[hall,Os]at hpt;obtain⟨e,edx,efs,e1,e2,rfl,he,hef,re1,re2⟩:=pr;refine qf he T.c8.cl T.d8 hef.a ?_;refine⟨rfl,_,rfl,?_⟩;cases p with
   |lit z=>exact fH ⟨⟨_,rfl⟩,rfl,hpt⟩
   |use z zs=>exact fH ⟨⟨_,rfl⟩,rfl,hpt⟩
   |param z=>
    refine fg ?_;obtain⟨pa,ps,epa,hpa,ppa,zpa⟩:=pH.params;refine qf he T.c8.cl T.f6 hef.b ?_;refine qf R2.ins T.c6.cl T.i0 R2.has.e ?_;rw[F2.vp];refine⟨a,_,dx2,fs2,_,rfl,pH.ins,T.a8.cl,T.d3,pH.has.c,pa,ps,z,c.params,epa,.inr hpa,ppa,re1,_,rfl,au (λ h1=>?_) λ h1=>?_⟩
    ·refine kE 5 _ (ei.trans (h5 ?_)) R2.same;have h1:z∉c.params:=by simpa using h1
     refine xt (j:=j+1) ?_;rw[hpt];simpa using h1
    ·have h1:z∈c.params:=by simpa using h1
     refine⟨⟨_,rfl⟩,rfl,?_⟩;rw[hpt];simpa using h1
  ·rintro σ H' ⟨⟨y0,rfl⟩,rfl,hall⟩;rw[ai pq,Mr]at hall;have ew:=hw hall;have ewl:withLine x c l nest2=if 400<=lineCount x.blocks+c.lines.length then .error 6 else .ok {x with now:=some ({c with lines:=c.lines++[l]},nest2)}:=rfl
   refine qf R2.ins T.c6.cl T.k4 R2.has.c ⟨rfl,_,rfl,au (λ h1=>?_) λ h1=>?_⟩
   ·have h1:S2.lc=400:=by
     have h1:=Lh h1;injection h1
    refine kE 6 _ ?_ R2.same;rw[ei,ew,ewl,Le];have:=F2.lc;omega
   ·have h1:¬S2.lc=400:=λ q=>h1 (Ll (by rw[q]));have hlc:=F2.lc;have hlz:=F2.lz;have h2:¬400<=lineCount x.blocks+c.lines.length:=by omega
    have hus:=ai F2.part.lines;have hll:=cQ F2.part.lst;refine qf R2.ins T.c6.cl T.i0 R2.has.e ?_;rw[F2.vp];refine⟨a,_,dx2,fs2,_,rfl,pH.ins,T.a8.cl,T.d4,pH.has.d,.inl ⟨rfl,_,SqL.of pH.lst⟩,_,rfl,ll,_,_,rfl,rfl,pH.lst,?_,?_⟩
    ·rw[hus];exact aL (by show c.lines.length<=1000000;omega)
    have R3:=R2.setL (o:=.lst (us++[.ref b])) hll.1 F2.nl;refine qf R3.ins T.c6.cl T.k4 R3.has.c (qn ⟨_,rfl,r,_,S2.dx,S2.fs,rfl,R3.ins,T.c6.cl,T.k4,Lq R3.few (by decide),?_⟩);obtain⟨fs4,R4⟩:=R3.setLc (S2.lc+1);refine kO {x with now:=some ({c with lines:=c.lines++[l]},nest2)} _ (by rw[ei,ew,ewl,Ld h2]) ⟨_,R4,a,dx2,fs2,v1,v2,ll,us++[.ref b],ws1,?_⟩;have eO:bS (S2.M r) (L2.upd (L2.upd H' ll (.lst (us++[.ref b]))) r (.ins ad.g S2.dx (bH "line_count" (.int (S2.lc+1)) S2.fs)))=L2.upd (bS (S2.M r) H') ll (.lst (us++[.ref b])):=by rw[cf uF,Dd hll.1]
    have kI:cG ad (bS (S2.M r) H') (L2.upd (bS (S2.M r) H') ll (.lst (us++[.ref b]))):=cG.lst F2.part.lst;obtain⟨f,hD,hC⟩:=F2.dict;refine⟨F2.vp,F2.bs,F2.ws,?_,F2.nl,?_,F2.pc,?_,⟨f,?_,hC.eq rfl rfl rfl⟩,F2.kz,F2.bz,F2.cz,?_,F2.nz⟩
    ·show eG ad (bS (S2.M r) _) _ _ _ _ _ _ _ _ _;rw[eO];have pp:=F2.part;refine⟨rfl,?_,pp.has,pp.name.kept kI.1,pp.params.kept kI.1,ab,?_,?_⟩
     ·rw[am (qY pp.ins pp.lst (by intro q;cases q))];exact pp.ins
     ·exact aI (dj pp.lines kI) (.cons ((hu.off (R2.noParts T)).kept kI) .nil)
     ·show(c.lines++[l]).length<=1000000;rw[La,Lx];omega
    ·show Paired (aE ad (bS (ll::S2.M r) _)) _ _;have e2:bS (ll::S2.M r) (L2.upd (L2.upd H' ll (.lst (us++[.ref b]))) r (.ins ad.g S2.dx (bH "line_count" (.int (S2.lc+1)) S2.fs)))=bS (ll::S2.M r) H':=by
      rw[cf (.tail _ uF),cf (.head _)]
     rw[e2];exact F2.bl
    ·show S2.lc+1=(lineCount x.blocks:Int)+((c.lines++[l]).length:Int);rw[La,Lx,F2.lc];omega
    ·show eX (bS (S2.M r) _) _ _;rw[eO];intro n;rcases hD n with h |⟨ps,y,h3,h4,h5⟩
     ·exact .inl h
     ·exact .inr ⟨ps,y,h3,h4,h5.kept kI.1⟩
    ·show lineCount x.blocks+(c.lines++[l]).length<=400;rw[La,Lx];omega
 have er:=gQ x c nest hne;refine⟨_,rfl,v,t,rfl,hv,λ H1 s1 e1=>?_,λ u l H1 s1 e1 hu hur=>?_⟩
 ·refine⟨_,rfl,_,rfl,?_⟩;refine au (λ _=>?_) λ q=>absurd (Ll rfl) q;exact kE 3 _ (by rw[ei,er,e1]) (R.sames s1).same
 ·obtain⟨b,rfl⟩:=hur;have R1:=R.sames s1;have F1:=F.sames s1;rw[e1]at er;refine⟨_,rfl,_,rfl,?_⟩;refine au (λ q=>absurd (Lh q) (by intro q;cases q)) λ _=>?_;obtain⟨b',bdx,bfs,w1,w2,eb,hb,hbf,hpt,r2⟩:=id hu;cases eb;refine qf hb T.c7.cl T.c9 hbf.a ?_;refine⟨rfl,_,rfl,?_⟩;have hbs:=F1.bs;have hnz:=F1.nz;have hbl:S.bs.length<=100:=by rw[hbs,List.length_reverse];omega
  cases l with
  |code ps=>refine fH (fH ?_);simp only at er;exact tail H1 S nest (.ref b) (.code ps) R1 F1 hu (λ h=>by rw[er,Ld (by rw[show(paramsIn ps).all _=false from h];decide)]) λ h=>by rw[er,Le (show(paramsIn ps).all (λ n=>c.params.contains n)=true from h)]
  |when z=>
   refine fg ?_;simp only at er;refine⟨_,rfl,r,S.dx,S.fs,rfl,R1.ins,R1.only _ (by decide +kernel),?_⟩;refine qf hb T.c7.cl T.c9 hbf.a ?_;refine⟨H0,r,S,1,rfl,R1,hbl,λ H2 R2 hO=>⟨_,rfl,?_⟩⟩;have ec:dk 1 S.bs=(S.bs++[false],decide (S.bs.length+1<=6)):=rfl;rw[ec]at R2 ⊢;have hlb:S.bs.length=nest.length:=by rw[hbs,List.length_reverse]
   refine au (λ h1=>?_) λ h1=>?_
   ·refine kE 4 _ ?_ R2.same;rw[ei,er,Le];have h1:¬S.bs.length+1<=6:=by simpa using h1
    omega
   ·have h1:S.bs.length+1<=6:=by simpa using h1
    have F2:=F1.off (H':=H2) (nest':=false::nest) hO (by simp;omega);rw[show(false::nest).reverse=S.bs++[false] by rw[Rx,hbs]]at F2;exact tail H2 _ _ (.ref b) (.when z) R2 F2 (by
     refine bW.kept hu ⟨λ x o ht hx=>?_,λ x C dx fs hC hx=>?_⟩
     ·have h2:=ly R1.noTups ht hx;rw[<-hO]at h2;exact(cQ h2).2
     ·have h2:bS (S.M r) H1 x=some (.ins C dx fs):=by
       rw[bE (λ q=>by
        have h3:=(R1.noParts T).c x q C dx fs hx;rcases hC with h |h
        ·exact h3.1 h
        ·exact h3.2 h)]
       exact hx
      rw[<-hO]at h2;exact(cQ h2).2) (λ h=>by cases h) λ _=>by rw[er,Ld (by omega)]
  |otherwise=>
   refine fg ?_;simp only at er;refine⟨_,rfl,r,S.dx,S.fs,rfl,R1.ins,R1.only _ (by decide +kernel),?_⟩;refine qf hb T.c7.cl T.c9 hbf.a ?_;refine⟨H0,r,S,2,rfl,R1,hbl,λ H2 R2 hO=>⟨_,rfl,?_⟩⟩;have kIO:cG ad H1 H2:=by
    refine⟨λ x o ht hx=>?_,λ x C dx fs hC hx=>?_⟩
    ·have h2:=ly R1.noTups ht hx;rw[<-hO]at h2;exact(cQ h2).2
    ·have h2:bS (S.M r) H1 x=some (.ins C dx fs):=by
      rw[bE (λ q=>by
       have h3:=(R1.noParts T).c x q C dx fs hx;rcases hC with h |h
       ·exact h3.1 h
       ·exact h3.2 h)]
      exact hx
     rw[<-hO]at h2;exact(cQ h2).2
   cases nest with
   |nil=>
    have ec:dk 2 S.bs=([],false):=by rw[hbs];rfl
    rw[ec]at R2 ⊢;refine fg ?_;exact kE 4 _ (by rw[ei,er]) R2.same
   |cons b0 rest=>
    have eb:S.bs=rest.reverse++[b0]:=by rw[hbs,Rx]
    have ec:dk 2 S.bs=(rest.reverse++[true],!b0):=by unfold dk;rw[Ld (by decide),eb,Ni,Nj];rfl
    rw[ec]at R2 ⊢;cases b0 with
    |true=>refine fg ?_;exact kE 4 _ (by rw[ei,er]) R2.same
    |false=>refine fH ?_;have F2:=F1.off (H':=H2) (nest':=true::rest) hO (by simp at hnz ⊢;omega);rw[Rx]at F2;exact tail H2 _ _ (.ref b) .otherwise R2 F2 (hu.kept kIO) (λ h=>by cases h) λ _=>er
  |done=>
   refine fg ?_;simp only at er;refine⟨_,rfl,r,S.dx,S.fs,rfl,R1.ins,R1.only _ (by decide +kernel),?_⟩;refine qf hb T.c7.cl T.c9 hbf.a ?_;refine⟨H0,r,S,3,rfl,R1,hbl,λ H2 R2 hO=>⟨_,rfl,?_⟩⟩;have kIO:cG ad H1 H2:=by
    refine⟨λ x o ht hx=>?_,λ x C dx fs hC hx=>?_⟩
    ·have h2:=ly R1.noTups ht hx;rw[<-hO]at h2;exact(cQ h2).2
    ·have h2:bS (S.M r) H1 x=some (.ins C dx fs):=by
      rw[bE (λ q=>by
       have h3:=(R1.noParts T).c x q C dx fs hx;rcases hC with h |h
       ·exact h3.1 h
       ·exact h3.2 h)]
      exact hx
     rw[<-hO]at h2;exact(cQ h2).2
   cases nest with
   |nil=>
    have ec:dk 3 S.bs=([],false):=by rw[hbs];rfl
    rw[ec]at R2 ⊢;refine fg ?_;exact kE 4 _ (by rw[ei,er]) R2.same
   |cons b0 rest=>
    have eb:S.bs=rest.reverse++[b0]:=by rw[hbs,Rx]
    have ec:dk 3 S.bs=(rest.reverse,true):=by unfold dk;rw[Ld (by decide),eb,Ni,Nj];rfl
    rw[ec]at R2 ⊢;refine fH ?_;have F2:=F1.off (H':=H2) (nest':=rest) hO (by simp at hnz;omega);exact tail H2 _ _ (.ref b) .done R2 F2 (hu.kept kIO) (λ h=>by cases h) λ _=>er
theorem ge(x:Reading)(c:Chunk)(nest:List Bool):innerRead x c nest Valita.END=if nest.isEmpty=true then .ok {blocks:=x.blocks++[.chunk c],now:=none} else .error 4:=by unfold innerRead;rw[Le rfl]
def gn(x:Reading)(t:Text):Except Nat Reading:=lineRead x (t,true)
theorem so(T:bX K mg ad):jO P w K mg base 11 ad.g "take" ["self","row"] (yV ad (λ _ _=>True) gn):=by
 refine eT T.c6 T.KY (N:=["self","row"]) cj λ l H vs Q E hr hu6 hu nd h=>?_;obtain⟨H0,r,x,v,t,rfl,hR,hv,_,kE,kO⟩:=h;have el:gn x t=if(t.all isSign&&decide (t.length<=200))=false then .error 1 else match x.now with
   |none=>outerRead x t
   |some z=>innerRead x z.1 z.2 t:=by
  unfold gn lineRead;simp only[Os];rfl
 obtain⟨S,R,hF⟩:=id hR;refine⟨_,(aa (aA (bO (bi (az (gE T) hr (aD aQ)))) (ac (ah (af T.u0))) ak)
   (aa (aA (gt (jl (aC aH))) (ac (ah (mZ (jy T) hr aH (aD aQ)))) ak)
   (aa (aA (aq (iJ hu6) aQ (az (bm T) hr (aD cn)) (ax _)) (ac (ah (Gs (mB T) hr aH))) ak)
   (ac (ah (mZ (jY T) hr aH (aD aQ))))))),?_⟩
 refine⟨_,rfl,v,t,rfl,hv,λ H1 s1=>⟨_,rfl,au (λ h1=>?_) λ h1=>?_⟩⟩
 ·refine kE 1 _ ?_ (R.sames s1).same;rw[el,Le];have h1:(!(decide (t.length<=200)&&t.all isSign))=true:=h1;rw[Bool.and_comm];rw[Ou]at h1;exact h1
 have h1:(decide (t.length<=200)&&t.all isSign)=true:=by simpa using h1
 rw[Ld (by rw[Bool.and_comm,h1];decide)]at el;have R1:=R.sames s1;refine qf R1.ins T.c6.cl T.i0 R1.has.e ⟨_,rfl,?_⟩;cases hn:x.now with
 |none=>
  rw[hn]at hF el;rw[hF.vp];refine au (λ _=>?_) λ q=>absurd (Ll rfl) q;have hR1:RS ad H0 H1 r x:=by refine⟨S,R1,?_⟩;rw[hn];obtain⟨f,h2,h3⟩:=hF.dict;exact⟨hF.vp,hF.bs,aN hF.bl (aU s1),hF.pc,hF.lc,⟨f,h2.same (aU s1),h3⟩,hF.kz,hF.bz,hF.cz,hF.lz⟩
  exact⟨_,rfl,r,S.dx,S.fs,rfl,R1.ins,R1.only _ (by decide +kernel),_,rfl,H0,r,x,v,t,rfl,hR1,hv.same s1,hn,λ n H2 e2 s2=>kE n H2 (el.trans e2) s2,λ y H2 e2 r2=>kO y H2 (el.trans e2) r2⟩
 |some z=>
  obtain⟨c,nest⟩:=z;rw[hn]at hF el;obtain⟨a,dx2,fs2,v1,v2,ll,us,ws1,F⟩:=hF;have F1:=F.sames s1;rw[F.vp];refine au (λ q=>absurd (Lh q) (by intro q;cases q)) λ _=>?_;refine⟨_,rfl,_,Valita.END,rfl,by decide +kernel,by decide +kernel,λ v3 H3 s3 r3=>⟨t,Valita.END,hv.same (s1.trans s3),r3,_,rfl,au (λ h2=>?_) λ h2=>?_⟩⟩
  ·have h2:=Lh h2;have R3:=R1.sames s3;have F3:=F1.sames s3;simp only at el;rw[h2,ge]at el;refine⟨_,rfl,r,S.dx,S.fs,rfl,R3.ins,R3.only _ (by decide +kernel),H0,r,S,rfl,R3,λ h4=>?_,λ h4 H4 fs R4 hO=>?_⟩
   ·refine kE 4 _ ?_ R3.same;rw[h2,el,Ld];intro q;rw[Oh]at q;have:=F.bs;rw[q]at this;exact h4 this
   ·have hne:nest=[]:=by
     have:=F.bs;rw[h4]at this;exact List.reverse_eq_nil_iff.mp this.symm
    refine kO {blocks:=x.blocks++[.chunk c],now:=none} _ (by rw[h2,el,Le (by rw[hne];rfl)]) ⟨_,R4,?_⟩;show EU ad H4 r (x.blocks++[.chunk c]) _;obtain⟨f,hD,hC⟩:=F3.dict;have hO2:bS (({S with fs:=fs,vp:=V.non}:Ce).M r) H4=bS (S.M r) H3:=hO;have sb:ae (bS (ll::S.M r) H3) (bS (S.M r) H3):=Dc;have hbz:=F3.bz;have hcz:=F3.cz;refine⟨rfl,h4,?_,?_,?_,⟨f,?_,?_⟩,F3.kz,?_,?_,?_⟩
    ·rw[hO2];show Paired _ S.ws _;rw[F3.ws];exact aI (aN F3.bl sb) (.cons ⟨a,dx2,fs2,v1,v2,ll,us,F3.part⟩ .nil)
    ·rw[dD,La,Lx];show S.pc=_;rw[F3.pc];omega
    ·rw[jT];show S.lc=((lineCount x.blocks+c.lines.length:Nat):Int);have:S.lc=(lineCount x.blocks:Int)+(c.lines.length:Int):=F3.lc;omega
    ·rw[hO2];exact hD
    ·rw[dD];exact hC
    ·rw[La,Lx];exact hbz
    ·rw[dD,La,Lx];exact hcz
    ·rw[jT];exact F3.lz
  ·have h2:t≠Valita.END:=λ q=>h2 (Ll q);have s13:=s1.trans s3;have hR3:RS ad H0 H3 r x:=by
    refine⟨S,R.sames s13,?_⟩;rw[hn];exact⟨a,dx2,fs2,v1,v2,ll,us,ws1,F.sames s13⟩
   have ee:sk x t=gn x t:=by rw[el];unfold sk;rw[hn]
   have R3:=R.sames s13;exact⟨_,rfl,r,S.dx,S.fs,rfl,R3.ins,R3.only _ (by decide +kernel),_,rfl,H0,r,x,v,t,rfl,hR3,hv.same s13,⟨⟨_,hn⟩,h2⟩,λ n H2 e2 s2=>kE n H2 (ee▸e2) s2,λ y H2 e2 r2=>kO y H2 (ee▸e2) r2⟩
section
variable{prog:Program}{w:World}{A:Around}{E:Value->Shared->Prop}{s:Shared}
theorem EV{T nid iid:String}{Bn Bi:Builtin}{xs:List Value}{kw:List (Str×Value)}{S:PySem.Spec}{Q Q1:Value->Shared->Prop}(ft:TypeCalled T nid iid)(h1:checkTypeCall T ⟨xs,kw⟩=pure ())(h2:checkBuiltinCall nid ⟨.type T::xs,kw⟩=pure ())(en:entryFor table nid=some Bn)(ei:entryFor table iid=some Bi)(g:Meets (Bn ⟨.type T::xs,kw⟩) S)(hS:S A.in1 (wants Q1 E) s)(nx:∀o s1,Q1 o s1->s1.TypeIs o T/\argsOk iid ⟨o::xs,kw⟩/\∃Si,Meets (Bi ⟨o::xs,kw⟩) Si/\Si A.in1 (wants (λ r s2=>r=.none/\Q o s2) E) s1):wpAny (model prog w) A (call (.type T) xs kw) Q E s:=by
 obtain⟨c,tl,m1⟩:=ft.mro;have m2:=ft.made;have m3:=ft.sub;refine wpAny_call (codeAny_of_tree ?_);show wpAny _ _ (callAny (.type T) _) _ _ _;refine Lm ⟨Code.quiet_builtin _ (by decide +kernel),codeAny_builtin (F.entry_type_call) (Around.under_plain (weight_type_call_type T xs kw) (units_type_call_type T xs kw)▸?_)⟩;have m4:=ft.notType;have m5:=ft.canCreate
 repeat (any_goals(first |assumption |wp_step))
 refine Rl (codeAny_call_builtin ft.plain en (wpAny_of_eq h2 (g prog w A.in1 _ s hS))) λ q s1 hq=>?_;rcases q with e |fl;· exact hq
 cases fl with
 |ret o=>
  obtain⟨hT,hok,Si,gi,hs⟩:=nx _ _ hq;have m6:=ft.init.lookup;have m7:=ft.init.bind o
  repeat (any_goals(first |assumption |wp_step))
  refine Rl (codeAny_call_builtin ft.init.plain ei (ft.init.check _ _ _ _ _ _ _ _ hT hok (gi prog w A.in1 _ s1 hs))) λ q2 s2 hq2=>?_;rcases q2 with e |fl2;· exact hq2
  cases fl2 with
  |ret z=>obtain⟨rfl,hz⟩:=hq2;repeat (any_goals(first |assumption |wp_step))
  |_=>exact False.elim hq2
 |_=>exact False.elim hq
theorem EW{T nid:String}{o a:Value}{r:List Value}{kw:List (Str×Value)}(hl:typeLookup (.type T) "__init__"=pure (some (.builtin "object.__init__")))(hm:Bind.madeBy (.type T)=pure (some nid))(hne:(some nid != some "object.__new__")=true):
  Meets (Builtin.«object.__init__» ⟨o::a::r,kw⟩) (λ _ R s=>s.TypeIs o T/\R (.ok (.ret .none)) s):=by
 refine Meets.of_wp λ prog w A R s ⟨hT,hq⟩=>?_
 repeat (any_goals(first |assumption |wp_step))
 exact⟨_,rfl,hq⟩
theorem xu(l:Addr)(its:Array Value)(n:Nat)(dct:Option Addr)(sl:Array (Option Value))(t:Tok):
  Meets (Builtin.«enumerate.__new__» ⟨[.type "enumerate",.ref l],[("start",.int 1 t)]⟩) (λ _ R s=>s.heap.get? l=some {cls:=.type "list",dict:=dct,data:=.seq its n,slots:=sl}/\
   R (.ok (.ret (.ref (s.heap.push {cls:=.type "list_iterator",data:=.fields #[.ref l,.int 0 0]}).objs.size))) {s with heap:=(s.heap.push {cls:=.type "list_iterator",data:=.fields #[.ref l,.int 0 0]}).push {cls:=.type "enumerate",data:=.fields #[.none,.bool false,.ref s.heap.objs.size,rawInt 1,.none,.none]}}):=
 .of_wp λ prog w A R s ⟨hl,h⟩=>by
  obtain⟨hp,g,d,tk,os⟩:=s;have m1:=sub_enumerate;have m2:=AutoSeq1.idx_int;have hL:Heap.IsList (Shared.heap ⟨hp,g,d,tk,os⟩) l its:=⟨_,hl,rfl,n,rfl⟩
  wp_walk using Ny hl
  refine wpAny_stack_any λ st=>Lm ?_;split
  ·rename_i c _ _ _ _ _;cases(c==Value.type "enumerate")<;>(wp_walk using Ny hl,Ru hL;exact⟨_,rfl,h⟩)
  ·wp_walk using Ny hl,Ru hL;exact⟨_,rfl,h⟩
theorem De(a v:Value):checkTypeCall "enumerate" ⟨[a],[("start",v)]⟩=pure ():=by kernel_rfl
theorem EX(a v:Value):checkBuiltinCall "enumerate.__new__" ⟨[.type "enumerate",a],[("start",v)]⟩=pure ():=by kernel_rfl
theorem EY(a b v:Value):argsOk "object.__init__" ⟨[a,b],[("start",v)]⟩:=by
 unfold argsOk;rw[signature?_of (id :="object.__init__") (n:=['_','_','t','i','n','i','_','_']) (o:=['t','c','e','j','b','o']) (by kernel_rfl) (by exact F.owner_object)]
 kernel_rfl
theorem vK{l:Addr}{its:Array Value}{t:Tok}{Q:Value->Shared->Prop}(hL:s.heap.IsList l its)(h:∀h',IsEnum h' (s.heap.objs.size+1) s.heap.objs.size 1 .none->h'.IsListIter s.heap.objs.size l 0->(∀b o,s.heap.get? b=some o->h'.get? b=some o)->Q (.ref (s.heap.objs.size+1)) {s with heap:=h'}):
  wpAny (model prog w) A (call (.type "enumerate") [.ref l] [("start",.int 1 t)]) Q E s:=by
 obtain⟨⟨c,dct,dt,sl⟩,hl,hc,n,hd⟩:=hL;obtain rfl:c=.type "list":=hc;obtain rfl:dt=.seq its n:=hd;refine EV F.called_enumerate (De _ _) (EX _ _) F.entry_enumerate_new F.entry_object_init (Q1:=λ o s1=>s1.TypeIs o "enumerate"/\Q o s1) (xu l its n dct sl t) ⟨hl,?_⟩ λ o s1 hq=>⟨hq.1,EY o _ _,_,EW F.called_enumerate.init.lookup F.called_enumerate.made (by decide),hq.1,rfl,hq.2⟩;generalize eh:s.heap.push {cls:=.type "list_iterator",data:=.fields #[.ref l,.int 0 0]}=h1;have hz:h1.objs.size=s.heap.objs.size+1:=by rw[<-eh];exact Np ..
 show _/\_;have he:IsEnum (h1.push {cls:=.type "enumerate",data:=.fields #[.none,.bool false,.ref s.heap.objs.size,rawInt 1,.none,.none]}) (s.heap.objs.size+1) s.heap.objs.size 1 .none:=by have:=Md h1 (o:={cls:=.type "enumerate",data:=.fields #[.none,.bool false,.ref s.heap.objs.size,rawInt 1,.none,.none]}) rfl;rw[hz]at this;exact this
 rw[hz];refine⟨⟨_,he,rfl⟩,h _ he ⟨_,Lo _ (by rw[<-eh];exact Md _ rfl),rfl,rfl⟩ λ b o x=>Lo _ (by rw[<-eh];exact Lo _ x)⟩
end
section
variable{prog:Program}{w:World}{A:Around}{E:Value->Shared->Prop}{s:Shared}
theorem Bp{e it l:Addr}{i:Nat}{k:Int}{its:Array Value}{x old:Value}{Q:Value->Shared->Prop}(he:IsEnum s.heap e it k old)(hit:s.heap.IsListIter it l i)(hl:s.heap.IsList l its)(hx:its[i]?=some x)(hne:e≠it)(hQ:∀h',IsEnumOut h' e it (k+1) x s.heap.objs.size->h'.IsListIter it l (i+1)->h'.get? s.heap.objs.size=some {cls:=.type "tuple",data:=.seq #[.int k s.toks,x]}->h'.objs.size=s.heap.objs.size+1->
   (∀b o,b≠e->b≠it->s.heap.get? b=some o->h'.get? b=some o)->Q (.ref s.heap.objs.size) {s with heap:=h',toks:=s.toks+1}):
  wpAny (model prog w) A (Builtin.«enumerate.__next__» ⟨[.ref e],[]⟩) (λ eW s'=>∃v,eW=.done (.ret v)/\Q v s') E s:=by
 obtain⟨hp,g,d,tk,os⟩:=s;have ni:=Ne.symm hne;show wpAny _ _ (field (.ref e) 2 >>= _) _ _ _;refine Lb (Oi he rfl (x:=.ref it) rfl (Lb (wpAny_nextOf_list_item hit hl hx λ ha ia (sa:Heap.SameBut it hp ha)=>?_)));have ea:IsEnum ha e it k old:=(sa.2 e hne).trans he;show wpAny _ _ (field (.ref e) 3 >>= _) _ _ ⟨ha,g,d,tk,os⟩;refine Lb (Oi ea rfl (x:=rawInt k) rfl ?_);show wpAny _ _ (field (.ref e) 4 >>= _) _ _ ⟨ha,g,d,tk,os⟩;refine Lb (Oi ea rfl (x:=.none) rfl ?_);show wpAny _ _ (mkInt k >>= _) _ _ ⟨ha,g,d,tk,os⟩;refine Lb (wpAny_mkInt ?_);show wpAny _ _ (setField (.ref e) 3 (rawInt (k+1)) >>= _) _ _ ⟨ha,g,d,tk+1,os⟩;refine Lb (Qn ea (by simp) λ hb (eb:IsEnum hb e it (k+1) old) (sb:Heap.SameBut e ha hb)=>?_);show wpAny _ _ (setField (.ref e) 4 .none >>= _) _ _ ⟨hb,g,d,tk+1,os⟩;refine Lb (Qn eb (by simp) λ hc (ec:IsEnum hc e it (k+1) old) (sc:Heap.SameBut e hb hc)=>?_);show wpAny _ _ (newTuple [.int k tk,x] >>= _) _ _ ⟨hc,g,d,tk+1,os⟩;refine Lb (wpAny_newTuple ?_);have zc:hc.objs.size=hp.objs.size:=by rw[sc.1,sb.1,sa.1]
 have le:e<hp.objs.size:=Mf he;have ed:IsEnum (hc.push {cls:=.type "tuple",data:=.seq #[.int k tk,x]}) e it (k+1) old:=Lo _ ec;have td:(hc.push {cls:=.type "tuple",data:=.seq #[.int k tk,x]}).get? hp.objs.size=some {cls:=.type "tuple",data:=.seq #[.int k tk,x]}:=by rw[<-zc];exact Md _ rfl
 have zd:(hc.push {cls:=.type "tuple",data:=.seq #[.int k tk,x]}).objs.size=hp.objs.size+1:=by rw[Np,zc]
 have kd:∀b o,b≠e->b≠it->hp.get? b=some o->(hc.push {cls:=.type "tuple",data:=.seq #[.int k tk,x]}).get? b=some o:=λ b o h1 h2 h3=>Lo _ (sc.extBut b o h1 (sb.extBut b o h1 (sa.extBut b o h2 h3)));have id':(hc.push {cls:=.type "tuple",data:=.seq #[.int k tk,x]}).IsListIter it l (i+1):=by obtain⟨o,ho,r⟩:=(ia.extBut sb.extBut ni).extBut sc.extBut ni;exact⟨o,Lo _ ho,r⟩
 generalize hc.push {cls:=.type "tuple",data:=.seq #[.int k tk,x]}=hd at ed td zd kd id';show wpAny _ _ (Builtin.SmallTypes.ownedTupleIsFree (.ref e) >>= _) _ _ ⟨hd,g,d,tk+1,os⟩;rw[zc];clear zc ec sc eb sb ea sa ia hc hb ha;refine Lb ?_;unfold Builtin.SmallTypes.ownedTupleIsFree;refine Lb (Oi ed rfl (x:=.none) rfl (Lm ?_));simp only[Re];refine Lb (wpAny_rule (Lb (Oi ed rfl (x:=old) rfl (Lb (Qn ed (by simp) λ h5 (e5:IsEnum h5 e it (k+1) x) (s5:Heap.SameBut e hd h5)=>?_)))));show wpAny _ _ (Builtin.SmallTypes.ownedTupleHandOut (.ref e) (.ref hp.objs.size) >>= _) _ _ ⟨h5,g,d,tk+1,os⟩;refine Lb ?_;unfold Builtin.SmallTypes.ownedTupleHandOut;refine Lb (Qn e5 (by simp) λ h6 (e6:IsEnumOut h6 e it (k+1) x hp.objs.size) (s6:Heap.SameBut e h5 h6)=>?_);refine Qn e6 (by simp) λ h7 (e7:IsEnumOut h7 e it (k+1) x hp.objs.size) (s7:Heap.SameBut e h6 h7)=>?_;refine Lb (wpAny_letGo (Lm ⟨_,rfl,hQ h7 e7 (((id'.extBut s5.extBut ni).extBut s6.extBut ni).extBut s7.extBut ni) ?_ (by rw[s7.1,s6.1,s5.1,zd]) λ b o h1 h2 h3=>s7.extBut b o h1 (s6.extBut b o h1 (s5.extBut b o h1 (kd b o h1 h2 h3)))⟩));exact s7.extBut _ _ (Qt le) (s6.extBut _ _ (Qt le) (s5.extBut _ _ (Qt le) td))
theorem Bq{e it l:Addr}{i:Nat}{k:Int}{its:Array Value}{x old:Value}{Q:Option Value->Shared->Prop}(he:IsEnum s.heap e it k old)(hit:s.heap.IsListIter it l i)(hl:s.heap.IsList l its)(hx:its[i]?=some x)(hne:e≠it)(hQ:∀h',IsEnumOut h' e it (k+1) x s.heap.objs.size->h'.IsListIter it l (i+1)->h'.get? s.heap.objs.size=some {cls:=.type "tuple",data:=.seq #[.int k s.toks,x]}->h'.objs.size=s.heap.objs.size+1->
   (∀b o,b≠e->b≠it->s.heap.get? b=some o->h'.get? b=some o)->Q (some (.ref s.heap.objs.size)) {s with heap:=h',toks:=s.toks+1}):wpAny (model prog w) A (pyNext (.ref e)) Q E s:=by
 have hT:s.TypeIs (.ref e) "enumerate":=⟨_,he,rfl⟩;unfold pyNext;refine Lb (Sd (Nu (name:=Str.ofString "__next__") hT Pf (Og Pf hT Sb ?_ (Rs _))));exact Bp he hit hl hx hne λ h' a b c d q=>Lm (hQ h' a b c d q)
theorem Br{e it l:Addr}{i:Nat}{k:Int}{its:Array Value}{old:Value}{Q:Option Value->Shared->Prop}(hh:A.handled=none)(he:IsEnum s.heap e it k old)(hit:s.heap.IsListIter it l i)(hl:s.heap.IsList l its)(hx:its[i]?=none)(hQ:∀h',Heap.ExtBut it s.heap h'->Q none {s with heap:=h'}):wpAny (model prog w) A (pyNext (.ref e)) Q E s:=by have hT:s.TypeIs (.ref e) "enumerate":=⟨_,he,rfl⟩;unfold pyNext;refine Lb (Sd (Nu (name:=Str.ofString "__next__") hT Pf (Og Pf hT Sb ?_ (Rs _))));show wpAny _ _ (field (.ref e) 2 >>= _) _ _ _;refine Lb (Oi he rfl (x:=.ref it) rfl (Lb (wpAny_nextOf_list_end hh hit hl hx λ h' y he' hy=>?_)));obtain⟨o,ho,hc⟩:=hy;exact Lb (Sf (T :="StopIteration") (b:=true) ⟨o,ho,hc⟩ isSubtype_stop (Lm (hQ _ he')))
end
def GG(K:PySem.W.Frag)(a:Addr):It:=
 ⟨λ i H=>∃(xs:List V) (x:V),SqL K H a xs/\xs[i]?=some x,λ i H v H'=>∃T x,v=.ref T/\H T=none/\H'=upd H T (.tup [.int (((i+1:Nat)):Int),x])/\∀xs,SqL K H a xs->xs[i]?=some x,λ i H=>∃xs:List V,SqL K H a xs/\xs.length<=i⟩
theorem yW{P:Program}{w:World}{K:PySem.W.Frag}{elts:List Expr}{kk:Nat}{tpos:Pos}(a e it:Addr):
  vg P w K (.Tuple elts kk tpos) (GG K a) [e,it] e (λ i h=>(∃old,IsEnum h e it ((i+1:Nat):Int) old)/\h.IsListIter it a i/\e≠it) where
 mem:=by simp
 obj:=λ i h st b hb=>by
  obtain⟨⟨old,he⟩,⟨o,ho,hc,hd⟩,_⟩:=st;rcases(show b=e\/b=it by simpa using hb) with z |z
  ·subst z;exact⟨_,he,λ v q=>nomatch q⟩
  ·subst z;exact⟨o,ho,λ v q=>by rw[hd]at q;cases q⟩
 keep:=λ i h h' st k=>let⟨⟨old,he⟩,hi,hne⟩:=st;⟨⟨old,k e (by simp) _ he⟩,hi.at λ o q=>k it (by simp) o q,hne⟩
 item:=by
  intro X hP hw hK hc i pins s σ H E I hf ⟨⟨old,he⟩,hit,hne⟩ ⟨xs,x,hq,hx⟩;subst hP hw hK;obtain⟨its,rv,p,hz⟩:=I.list hq;obtain⟨u,hu,ru⟩:=rv.get hx;have hel:e<s.heap.objs.size:=Mf he;have hil:it<s.heap.objs.size:=by obtain⟨_,q,_⟩:=hit;exact Mf q
  refine Bq he hit p.isList (x:=u) (by simpa using hu) hne λ h' ho hit' hT hsz hk=>⟨_,rfl,Rc (s:={s with heap:=h',toks:=s.toks+1}) ho λ h2 he' sb=>?_⟩;have hT2:h2.get? s.heap.objs.size=some {cls:=.type "tuple",data:=.seq #[.int ((i+1:Nat):Int) s.toks,u]}:=(sb.2 _ (Qt hel)).trans hT;have new:cO X.prog X.w (upd H s.heap.objs.size (.tup [.int ((i+1:Nat):Int),x])) h2 s.heap.objs.size (.tup [.int ((i+1:Nat):Int),x]):=⟨by show 2<=sizeLine;decide,[.int ((i+1:Nat):Int) s.toks,u],.cons ⟨_,rfl⟩ (.cons ru .nil),⟨_,hT2,rfl,_,rfl⟩⟩;have I1:aO X pins σ (upd H s.heap.objs.size (.tup [.int ((i+1:Nat):Int),x])) {s with heap:=h2,toks:=s.toks+1}:=I.turnedNew (ch:=[e,it]) (λ b ob hb q=>(sb.2 b (λ z=>hb (by simp[z]))).trans (hk b ob (λ z=>hb (by simp[z])) (λ z=>hb (by simp[z])) q)) hf (Lf _) new;refine⟨.ref s.heap.objs.size,_,I1,rfl,⟨_,x,rfl,I.hok.fresh (Lf _),rfl,λ ys hy=>I.list_inj hy hq▸hx⟩,⟨⟨u,?_⟩,hit'.at λ o q=>(sb.2 it (Ne.symm hne)).trans q,hne⟩,λ b hb=>?_⟩
  ·rw[show((i+1+1:Nat):Int)=((i+1:Nat):Int)+1 by omega];exact he'
  ·have hb':b<s.heap.objs.size:=by
    rcases(show b=e\/b=it by simpa using hb) with z |z
    ·exact z▸hel
    ·exact z▸hil
   rw[am (Ng hb')];exact(hf b hb).1
 done:=by intro X hP hw hK hc i pins s σ H E I hf ⟨⟨old,he⟩,hit,hne⟩ ⟨xs,hq,hx⟩;subst hP hw hK;obtain⟨its,rv,p,hz⟩:=I.list hq;obtain⟨f0,f1,f2,f3,f4,f5⟩:=hf it (by simp);have hl:=rv.length;exact Br (I.ok.hd hc) he hit p.isList (by simp;omega) λ h' eb=>⟨rfl,I.turned (t':=s.toks) (λ b o hb q=>eb b o hb q) f0 f1 f3 f4 f5⟩
 self:=λ A i s Q E st h=>let⟨⟨_,he⟩,_⟩:=st;Pz he h
def GH(K:PySem.W.Frag)(te:TE):TI:=λ σ H R=>te σ H λ v H1=>∃a xs,[v]=[V.ref a]/\SqL K H1 a xs/\R (GG K a) H1
theorem oP{M:Model}{A:Around}{E:Value->Shared->Prop}{s:Shared}{env:Env}{pos:Pos}{T:String}{e:Expr}{rest:List Expr}{kws:List Keyword}{Q:Value->Shared->Prop}(h:wpAny M A (spliced (backTo pos (starEach (e::rest) env))) (λ vs s1=>wpAny M A (evalAll ((backToKw pos (keywordEach kws env)).map (·.2))) (λ ks s2=>wpAny M A (call (.type T) vs (((backToKw pos (keywordEach kws env)).filterMap (·.1)).zip ks)) Q E s2) E s1) E s)(he:backTo pos (starEach (e::rest) env)=(false,eval e env):: backTo pos (starEach rest env))(hp:(backTo pos (starEach (e::rest) env)).any (·.1)=false)(ha:(backToKw pos (keywordEach kws env)).all (·.1.isSome)=true)(hk:(backToKw pos (keywordEach kws env)).any (·.1.isNone)=false):
  wpAny M A (callWith pos (.type T) [] (backTo pos (starEach (e::rest) env)) (backToKw pos (keywordEach kws env))) Q E s:=by
 have h2:wpAny M A (evalArgs (.type T) true (backTo pos (starEach (e::rest) env)) (backToKw pos (keywordEach kws env))) (λ a s1=>wpAny M A (call (.type T) ([]++a.pos) a.kw) Q E s1) E s:=by rw[he]at h ⊢;exact evalArgs_kwB ha h
 unfold callWith;refine Lb (Oq (cR h2 λ a s1 h3=>Lb (wpAny_standAt ?_)));simp only[hp,hk,Bool.or_false];exact Lb (Lm (Lb (cR h3 λ r s2 hr=>Lb (Oq (wpAny_point (Lm hr))))))
theorem Df{X:Cx}{e:Expr}{te:TE}{p pos tpos kp cp:Pos}{elts:List Expr}{kk j:Nat}(hg:Gl X "enumerate")(hm:X.mg "enumerate"=none)(hp:PE X e te)(hs:starEach [e] X.env=(false,eval e X.env):: starEach [] X.env:=by rfl):
  PI X (.Tuple elts kk tpos) (.Call (.Name "enumerate" p) [e] [⟨some "start",.Constant (.int 1) j cp,kp⟩] pos) (GH X.K te):=by
 intro pins s σ H R I h;refine Pq (mh I hg hm boot_enumerate (oP ?_ (by rw[hs];rfl) (by rw[hs];rfl) rfl rfl));refine cR (ag hp aF hs pos pins s σ H (λ vs H1=>∃a xs,vs=[.ref a]/\SqL X.K H1 a xs/\R (GG X.K a) H1) I ?_) λ us s1 ⟨vs,H1,I1,r1,q1⟩=>?_
 ·exact h
 refine kws_cons (wpAny_Constant_int (kws_nil ?_));obtain⟨a,xs,ex,hq,q⟩:=q1;subst ex;obtain⟨u,rfl,ru⟩:=pE r1;obtain rfl:u=Value.ref a:=ru;obtain⟨its,rv,p',hz⟩:=I1.list hq;show wpAny _ _ (call (.type "enumerate") [.ref a] [("start",.int 1 s1.toks)]) _ _ _;refine vK (s:={s1 with toks:=s1.toks+1}) p'.isList λ h' he hit hk=>Pz he ?_;have I2:aO X pins σ H1 {s1 with heap:=h',toks:=s1.toks+1}:=I1.kept (t':=s1.toks+1) hk;refine⟨s1.heap.objs.size+1,[s1.heap.objs.size+1,s1.heap.objs.size],_,_,H1,rfl,I2,yW a (s1.heap.objs.size+1) s1.heap.objs.size,⟨⟨.none,he⟩,hit,Nat.succ_ne_self _⟩,λ b hb=>?_,q⟩;have hle:s1.heap.objs.size<=b:=by
  rcases(show b=s1.heap.objs.size+1\/b=s1.heap.objs.size by simpa using hb) with z |z
  ·rw[z];exact Pa _ 1
  ·rw[z];exact Lf _
 exact I1.fpOk hle (I1.hok.fresh hle)
section
variable{prog:Program}{w:World}{A:Around}{E:Value->Shared->Prop}{s:Shared}
theorem Dg{it t:Addr}{i:Nat}{items:Array Value}{x:Value}{Q:Value->Shared->Prop}(hit:s.heap.IsTupleIter it t i)(ht:s.heap.IsTuple t items)(hx:items[i]?=some x)(hQ:∀h',h'.IsTupleIter it t (i+1)->Heap.SameBut it s.heap h'->Q x {s with heap:=h'}):
  wpAny (model prog w) A (Builtin.SmallTypes.nextOf (.ref it)) Q E s:=by
 obtain⟨o,ho,hc,hd⟩:=id hit;obtain⟨ol,hol,_,nl,hdl⟩:=ht;unfold Builtin.SmallTypes.nextOf;refine Lb (Nu (name:=Str.ofString "__next__") hit.typeIs Px (Og Px hit.typeIs F.entry_tuple_iterator_next ?_ (F.args_tuple_iterator_next_1 _)));refine(show wpAny _ _ (field (.ref it) 0 >>= _) _ _ s from Lb (Oi ho hd (x:=.ref t) rfl ?_));show wpAny _ _ (if(Value.ref t==Value.none)=true then _ else _) _ _ s;rw[Ld (show ¬((Value.ref t==Value.none)=true) from Mc)];refine(show wpAny _ _ (field (.ref it) 1 >>= _) _ _ s from Lb (Oi ho hd (x:=.int i 0) rfl ?_));refine(show wpAny _ _ (seqItems? (.ref t) >>= _) _ _ s from Lb (wpAny_seqItems hol hdl ?_));simp only[Nh,hx];refine Lb (wpAny_setField ho hd (by simp) (Lm ⟨x,rfl,Lm (hQ _ ⟨_,Heap.get?_update_self _ ho (Obj.isFreed_of_fields (Rn hd _)),(Obj.cls_mapFields ..).trans hc,by rw[Rn hd];simp[rawInt]⟩ (Qk ..))⟩))
theorem xw{it t:Addr}{i:Nat}{items:Array Value}{Q:Value->Shared->Prop}(hh:A.handled=none)(hit:s.heap.IsTupleIter it t i)(ht:s.heap.IsTuple t items)(hx:items[i]?=none)(hE:∀h' e,Heap.ExtBut it s.heap h'->(∃o,h'.get? e=some o/\o.cls=.type "StopIteration")->E (.ref e) {s with heap:=h'}):wpAny (model prog w) A (Builtin.SmallTypes.nextOf (.ref it)) Q E s:=by
 obtain⟨o,ho,hc,hd⟩:=id hit;obtain⟨ol,hol,_,nl,hdl⟩:=ht;unfold Builtin.SmallTypes.nextOf;refine Lb (Nu (name:=Str.ofString "__next__") hit.typeIs Px (Og Px hit.typeIs F.entry_tuple_iterator_next ?_ (F.args_tuple_iterator_next_1 _)));refine(show wpAny _ _ (field (.ref it) 0 >>= _) _ _ s from Lb (Oi ho hd (x:=.ref t) rfl ?_));show wpAny _ _ (if(Value.ref t==Value.none)=true then _ else _) _ _ s;rw[Ld (show ¬((Value.ref t==Value.none)=true) from Mc)];refine(show wpAny _ _ (field (.ref it) 1 >>= _) _ _ s from Lb (Oi ho hd (x:=.int i 0) rfl ?_));refine(show wpAny _ _ (seqItems? (.ref t) >>= _) _ _ s from Lb (wpAny_seqItems hol hdl ?_));simp only[Nh,hx];refine Lb (wpAny_rule (Lb (wpAny_setField ho hd (by simp) (show wpAny _ _ (newExc (.type "StopIteration") [] >>= _) _ _ _ from Lb ?_))));simp only[newExc,newTuple];refine Lb (Od (Lb (m:=firstArgMember _ _) (wpAny_of_eq (a:=Value.none) (by first |rfl |(simp only[firstArgMember];rfl)) (Od ?_ (by size_fits)))) (by size_fits));simp only[raiseNew];refine Lb (wpAny_handled ?_)
 first |rw[show A.in1.handled=none from hh] |rw[hh]
 exact Lb (Lm (wpAny_throw (hE _ _ (((Qk ..).extBut.push _).push _) ⟨_,Md _ rfl,rfl⟩)))
theorem Bs(hh:A.handled=none)(it t:Addr)(hne:t≠it)(items:Array Value):Draws prog w A it [it,t] items.size (λ i v=>items[i]?=some v) (λ i h=>h.IsTupleIter it t i/\h.IsTuple t items) where
 live:=λ _ _ st=>let⟨o,ho,_⟩:=st.1;⟨o,ho⟩
 frame:=λ _ _ _ st hk=>⟨st.1.at λ o e=>hk it (by simp) o e,let⟨o,ho,r⟩:=st.2;⟨o,hk t (by simp) o ho,r⟩⟩
 item:=λ i s Q E hi st hQ=>Dg st.1 st.2 (x:=items[i]) (by simp[hi]) λ h' hit' hs'=>hQ _ h' s.toks (by simp[hi]) ⟨hit',let⟨o,ho,r⟩:=st.2;⟨o,(hs'.2 t hne).trans ho,r⟩⟩ hs'
 done:=λ s Q E st hE=>xw hh st.1 st.2 (by simp) hE
theorem Bt(l:Addr)(items:Array Value)(n:Nat)(dct:Option Addr)(sl:Array (Option Value)):
  Meets (Builtin.«enumerate.__new__» ⟨[.type "enumerate",.ref l],[]⟩) (λ _ R s=>s.heap.get? l=some {cls:=.type "tuple",dict:=dct,data:=.seq items n,slots:=sl}/\
   R (.ok (.ret (.ref (s.heap.push {cls:=.type "tuple_iterator",data:=.fields #[.ref l,.int 0 0]}).objs.size))) {s with heap:=(s.heap.push {cls:=.type "tuple_iterator",data:=.fields #[.ref l,.int 0 0]}).push {cls:=.type "enumerate",data:=.fields #[.none,.bool false,.ref s.heap.objs.size,rawInt 0,.none,.none]}}):=
 .of_wp λ prog w A R s h=>by
  obtain⟨hp,g,d,tk,os⟩:=s;obtain⟨hl,h⟩:=h;have m1:=sub_enumerate;have hL:Heap.IsTuple (Shared.heap ⟨hp,g,d,tk,os⟩) l items:=⟨_,hl,rfl,n,rfl⟩
  wp_walk using Ny hl;refine wpAny_stack_any λ st=>Lm ?_
  split
  ·rename_i c _ _ _ _ _;cases(c==Value.type "enumerate")<;>(wp_walk using Ny hl,wpAny_pyIter_tuple hL;exact⟨_,rfl,h⟩)
  ·wp_walk using Ny hl,wpAny_pyIter_tuple hL;exact⟨_,rfl,h⟩
theorem yX{l:Addr}{items:Array Value}{Q:Value->Shared->Prop}(hL:s.heap.IsTuple l items)(h:∀h',IsEnum h' (s.heap.objs.size+1) s.heap.objs.size 0 .none->h'.IsTupleIter s.heap.objs.size l 0->h'.objs.size=s.heap.objs.size+2->(∀b o,s.heap.get? b=some o->h'.get? b=some o)->Q (.ref (s.heap.objs.size+1)) {s with heap:=h'}):
  wpAny (model prog w) A (call (.type "enumerate") [.ref l]) Q E s:=by
 obtain⟨⟨c,dct,dt,sl⟩,hl,hc,n,hd⟩:=hL;obtain rfl:c=.type "tuple":=hc;obtain rfl:dt=.seq items n:=hd;refine callType_new F.called_enumerate (by decide) (F.typeCall_enumerate_1 _) (F.newCall_enumerate_1 _) (λ obj=>F.args_object_init_2 obj _) F.entry_enumerate_new (Bt l items n dct sl) ⟨hl,?_⟩;have hz:(s.heap.push {cls:=.type "tuple_iterator",data:=.fields #[.ref l,.int 0 0]}).objs.size=s.heap.objs.size+1:=Np ..;show _/\_;rw[hz];have he:IsEnum ((s.heap.push {cls:=.type "tuple_iterator",data:=.fields #[.ref l,.int 0 0]}).push {cls:=.type "enumerate",data:=.fields #[.none,.bool false,.ref s.heap.objs.size,rawInt 0,.none,.none]}) (s.heap.objs.size+1) s.heap.objs.size 0 .none:=by have q:=Md (s.heap.push {cls:=.type "tuple_iterator",data:=.fields #[.ref l,.int 0 0]}) (o:={cls:=.type "enumerate",data:=.fields #[.none,.bool false,.ref s.heap.objs.size,rawInt 0,.none,.none]}) rfl;rw[hz]at q;exact q
 exact⟨⟨_,he,rfl⟩,h _ he ⟨_,Lo _ (Md _ rfl),rfl,rfl⟩ (by rw[Np,hz]) λ b o x=>Lo _ (Lo _ x)⟩
end
def Dh(K:PySem.W.Frag)(a:Addr):It:=
 ⟨λ i H=>∃(xs:List V) (x:V),ci K H a xs/\xs[i]?=some x,λ i H v H'=>∃T x,v=.ref T/\H T=none/\H'=upd H T (.tup [.int ((i:Nat):Int),x])/\∀xs,ci K H a xs->xs[i]?=some x,λ i H=>∃xs:List V,ci K H a xs/\xs.length<=i⟩
theorem yY{P:Program}{w:World}{K:PySem.W.Frag}{elts:List Expr}{kk:Nat}{tpos:Pos}(a e it:Addr):
  vg P w K (.Tuple elts kk tpos) (Dh K a) [e,it] e (λ i h=>(∃old,IsEnum h e it ((i:Nat):Int) old)/\h.IsTupleIter it a i/\e≠it/\a≠it/\a≠e) where
 mem:=by simp
 obj:=λ i h st b hb=>by
  obtain⟨⟨old,he⟩,⟨o,ho,hc,hd⟩,_⟩:=st;rcases(show b=e\/b=it by simpa using hb) with z |z
  ·subst z;exact⟨_,he,λ v q=>nomatch q⟩
  ·subst z;exact⟨o,ho,λ v q=>by rw[hd]at q;cases q⟩
 keep:=λ i h h' st k=>let⟨⟨old,he⟩,hi,hne⟩:=st;⟨⟨old,k e (by simp) _ he⟩,hi.at λ o q=>k it (by simp) o q,hne⟩
 item:=by
  intro X hP hw hK hc i pins s σ H E I hf ⟨⟨old,he⟩,hit,hne,n1,n2⟩ ⟨xs,x,hq,hx⟩;subst hP hw hK;obtain⟨its,rv,p,hz⟩:=I.tuple hq;obtain⟨u,hu,ru⟩:=rv.get hx;have hel:e<s.heap.objs.size:=Mf he;have hil:it<s.heap.objs.size:=by obtain⟨_,q,_⟩:=hit;exact Mf q
  have hsz:i<its.toArray.size:=by rw[Ly];exact(Mq.mp hu).1
  refine wpAny_pyNext_enum_itemD (Bs (A:=X.A.in1) (show X.A.in1.handled=none from I.ok.hd hc) it a n1 its.toArray) he ⟨hit,p⟩ hsz hne (by simp[hne,Ne.symm n2]) λ y h' tk hy ho ⟨hit',_⟩ hT hsz' hk=>?_;have ey:y=u:=by rw[List.getElem?_toArray,hu]at hy;exact(Lz hy).symm
  subst ey;refine⟨_,rfl,Rc (s:={s with heap:=h',toks:=tk+1}) ho λ h2 he' sb=>?_⟩;have hT2:h2.get? s.heap.objs.size=some {cls:=.type "tuple",data:=.seq #[.int i tk,y]}:=(sb.2 _ (Qt hel)).trans hT;have new:cO X.prog X.w (upd H s.heap.objs.size (.tup [.int ((i:Nat):Int),x])) h2 s.heap.objs.size (.tup [.int ((i:Nat):Int),x]):=⟨by show 2<=sizeLine;decide,[.int i tk,y],.cons ⟨_,rfl⟩ (.cons ru .nil),⟨_,hT2,rfl,_,rfl⟩⟩;have I1:aO X pins σ (upd H s.heap.objs.size (.tup [.int ((i:Nat):Int),x])) {s with heap:=h2,toks:=tk+1}:=I.turnedNew (ch:=[e,it]) (λ b ob hb q=>(sb.2 b (λ z=>hb (by simp[z]))).trans (hk b ob (λ z=>hb (by simp[z])) (λ z=>hb (by simp[z])) q)) hf (Lf _) new;refine⟨.ref s.heap.objs.size,_,I1,rfl,⟨_,x,rfl,I.hok.fresh (Lf _),rfl,λ ys hy=>I.tuple_inj hy hq▸hx⟩,⟨⟨y,?_⟩,hit'.at λ o q=>(sb.2 it (Ne.symm hne)).trans q,hne,n1,n2⟩,λ b hb=>?_⟩
  ·rw[show((i+1:Nat):Int)=(i:Int)+1 by omega];exact he'
  ·have hb':b<s.heap.objs.size:=by
    rcases(show b=e\/b=it by simpa using hb) with z |z
    ·exact z▸hel
    ·exact z▸hil
   rw[am (Ng hb')];exact(hf b hb).1
 done:=by intro X hP hw hK hc i pins s σ H E I hf ⟨⟨old,he⟩,hit,hne,n1,n2⟩ ⟨xs,hq,hx⟩;subst hP hw hK;obtain⟨its,rv,p,hz⟩:=I.tuple hq;obtain⟨f0,f1,f2,f3,f4,f5⟩:=hf it (by simp);have hl:=rv.length;have hT:s.TypeIs (.ref e) "enumerate":=⟨_,he,rfl⟩;unfold pyNext;refine Lb (Sd (Nu (name:=Str.ofString "__next__") hT Pf (Og Pf hT Sb ?_ (Rs _))));refine(show wpAny _ _ (field (.ref e) 2 >>= _) _ _ _ from Lb (Oi he rfl (x:=.ref it) rfl (Lb (xw (I.ok.hd hc) hit p (by simp;omega) λ h' y he' hy=>?_))));obtain⟨o,ho,hc⟩:=hy;exact Lb (Sf (T :="StopIteration") (b:=true) ⟨o,ho,hc⟩ isSubtype_stop (Lm ⟨rfl,I.turned (t':=s.toks) (λ b o hb q=>he' b o hb q) f0 f1 f3 f4 f5⟩))
 self:=λ A i s Q E st h=>let⟨⟨_,he⟩,_⟩:=st;Pz he h
def GI(K:PySem.W.Frag)(ta:TA):TI:=λ σ H R=>ta σ H λ vs H1=>∃a xs,vs=[.ref a]/\ci K H1 a xs/\R (Dh K a) H1
theorem Di{X:Cx}{e:Expr}{ta:TA}{p pos tpos:Pos}{elts:List Expr}{kk:Nat}(hg:Gl X "enumerate")(hm:X.mg "enumerate"=none)(ha:PA X [e] ta)(hs:starEach [e] X.env=[(false,eval e X.env)]:=by rfl):
  PI X (.Tuple elts kk tpos) (.Call (.Name "enumerate" p) [e] [] pos) (GI X.K ta):=by
 intro pins s σ H R I h;refine Call_ (mh I hg hm boot_enumerate (Ov (cR (ha pos pins s σ H _ I h) λ us s1 ⟨vs,H1,I1,r1,a,xs,ex,hq,q⟩=>?_) hs rfl));subst ex;obtain⟨u,rfl,ru⟩:=pE r1;obtain rfl:u=Value.ref a:=ru;obtain⟨its,rv,p',hz⟩:=I1.tuple hq;have hal:a<s1.heap.objs.size:=by obtain⟨_,q,_⟩:=id p';exact Mf q
 refine yX p' λ h' he hit hsz hk=>Pz he ?_;have I2:aO X pins σ H1 {s1 with heap:=h'}:=I1.kept (t':=s1.toks) hk;refine⟨s1.heap.objs.size+1,[s1.heap.objs.size+1,s1.heap.objs.size],_,_,H1,rfl,I2,yY a (s1.heap.objs.size+1) s1.heap.objs.size,⟨⟨.none,he⟩,hit,Nat.succ_ne_self _,Ng hal,Ng (Rw hal)⟩,λ b hb=>?_,q⟩;have hle:s1.heap.objs.size<=b:=by
  rcases(show b=s1.heap.objs.size+1\/b=s1.heap.objs.size by simpa using hb) with z |z
  ·rw[z];exact Pa _ 1
  ·rw[z];exact Lf _
 exact I1.fpOk hle (I1.hok.fresh hle)
section
variable{prog:Program}{w:World}
theorem Bu{A:Around}{I d:Addr}{o:Obj}{es:Array DictEntry}{ep:Nat}(hh:A.handled=none)(hne:d≠I)(hd:o.data=.dict es ep):
  Walks prog w A I [I,d] [I] es.size (λ i v=>∃en,es[i]?=some en/\v=en.key) (λ i h=>h.IsKeyIter I d i es.size ep/\h.get? d=some o) where
 sub:=λ b hb=>by simp at hb;simp[hb]
 frame:=λ _ _ _ st hk=>⟨st.1.at λ o e=>hk I (by simp) o e,hk d (by simp) _ st.2⟩
 item:=λ i s Q E hi st hQ=>tM st.1 st.2 hd rfl (en:=es[i]) (by simp[hi]) λ h' hit' sb=>hQ _ h' s.toks ⟨_,by simp[hi],rfl⟩ ⟨hit',(sb.2 d hne).trans st.2⟩ λ b o hb e=>(sb.2 b (λ z=>hb (by simp[z]))).trans e
 done:=λ s Q E st hQ=>vq hh st.1 st.2 hd rfl (Lf _) λ h' eb=>hQ h' s.toks λ b o hb e=>eb b o (λ z=>hb (by simp[z])) e
 self:=λ _ _ _ _ st hQ=>wpAny_pyIter_keyiter st.1 hQ
theorem EZ{d:Addr}{o:Obj}{es:Array DictEntry}{ep:Nat}(lo:(d==sysModules)=false)(hx:o.ExactDict)(hd:o.data=.dict es ep):
  PySem.W.KdlSrc prog w "dict" d d es.size (λ i v=>∃en,es[i]?=some en/\v=en.key) (λ h=>h.get? d=some o) where
 type:=λ s hm=>⟨o,hm,hx.1⟩
 there:=λ h hm=>⟨Mf hm,Mf hm⟩
 keep:=λ _ _ hm hk=>hk d (.inl rfl) o hm
 notList:=by decide
 notTuple:=by decide
 hint:=λ _ _ _ _ hm hq=>PySem.W.kdl_hint_dict ⟨o,hm,hx.1⟩ hq
 iter:=λ A s hh hm=>⟨_,_,λ E Q hq=>AY lo hm hx hd hq,Bu hh (Ng (Mf hm)) hd,⟨⟨_,Md _ rfl,rfl,rfl⟩,Lo _ hm⟩⟩
end
abbrev yZ(H:Hp):List V->List (List dl×V)->Prop:=Paired λ y kv=>∃q,y=.ref q/\H q=some (.tup (kv.1.map kV))
theorem za{X:Cx}(hc:X.calm=true):gh X (.type "list") (λ xs H Q=>∃a kvs,xs=[.ref a]/\H a=some (.dT kvs)/\∀l ws,H l=none->yZ H ws kvs->Q (.ref l) (upd H l (.lst ws))):=by
 intro pins s σ H xs us Q I r h;obtain⟨a,kvs,rfl,ha,q⟩:=h;obtain⟨u,rfl,rx⟩:=pE r;cases rx;obtain⟨z,lo,ys,pr,o,es,ep,ho,hx,hdt,he,_⟩:=(show cO X.prog X.w H s.heap a (.dT kvs) from I.hok a _ ha);have l2:kvs.length=ys.length:=Sc pr;have l1:es.size=ys.length:=size_of_entries he;refine PySem.W.kdl_call (EZ lo hx hdt) (I.ok.hd hc) ho (by omega) λ h' tk acc' c' hk hS hacc=>?_;have rel:∀(ys:List (List dl×Addr×Value)) (kvs:List (List dl×V)),Paired (fun(p:List dl×V) (q:List dl×Addr×Value)=>p.1=q.1/\H q.2.1=some (.tup (p.1.map kV))/\bG p.2 q.2.2) kvs ys->yZ H (ys.map λ y=>V.ref y.2.1) kvs:=by
  intro ys kvs p
  induction p with
  |nil=>exact .nil
  |cons r p ih=>exact .cons ⟨_,rfl,r.2.1⟩ ih
 have vals:∀(ys:List (List dl×Addr×Value)),bn (ys.map λ y=>V.ref y.2.1) (ys.map λ y=>Value.ref y.2.1):=by
  intro ys
  induction ys with
  |nil=>exact .nil
  |cons y ys ih=>exact .cons rfl ih
 have ea:acc'=(ys.map λ y=>Value.ref y.2.1).toArray:=by
  apply Array.ext_getElem?;intro j;have e0:((ys.map λ y=>Value.ref y.2.1).toArray)[j]?=(ys[j]?).map λ y=>Value.ref y.2.1:=by simp
  rw[e0];cases e:acc'[j]? with
  |none=>
   have:ys[j]?=none:=by rw[List.getElem?_eq_none_iff,<-l1,<-hacc.1];exact Array.getElem?_eq_none_iff.mp e
   rw[this];rfl
  |some v=>
   obtain⟨en,h1,h2⟩:=hacc.2 j v e;have q:=entry_at he j;rw[h1]at q;cases ey:ys[j]? with
   |none=>rw[ey]at q;cases q
   |some y=>rw[ey]at q;have q:=Lz q;rw[h2,q];rfl
 subst ea;exact⟨.ref s.heap.objs.size,_,I.laid (t':=tk) hk (Lf _) (show cO X.prog X.w _ h' _ (.lst (ys.map λ y=>V.ref y.2.1)) from⟨by rw[Ls];omega,_,c',vals ys,hS⟩),rfl,q _ _ (I.hok.fresh (Lf _)) (rel ys kvs pr)⟩
def ze(K:PySem.W.Frag):List V->Hp->VK->Prop:=λ xs H Q=>∃p ys,xs=[.ref p]/\((SqL K H p ys/\∀l,H l=none->Q (.ref l) (upd H l (.tup ys)))\/(ci K H p ys/\Q (.ref p) H))
theorem kL{X:Cx}:gh X (.type "tuple") (ze X.K):=eZ
def Dj(K:PySem.W.Frag):List V->Hp->VK->Prop:=λ xs H Q=>∃p ys,xs=[.ref p]/\(SqL K H p ys\/ci K H p ys)/\Q (.int ys.length) H
theorem tW{X:Cx}:gh X (.builtin "len") (Dj X.K):=aj
def FP(K:PySem.W.Frag):List V->Hp->VK->Prop:=λ xs H Q=>∃p ys,xs=[.ref p]/\SqL K H p ys/\∀l ob,H l=none->ob.dict=none->Q (.ref l) (upd H l (.frz ob (.tup ys)))
theorem qw{X:Cx}:gh X (.type "tuple") (FP X.K):=kn
theorem Fa{X:Cx}{K:PySem.W.Frag}{es:List Expr}{k:Nat}{pos:Pos}{t:FG}{n:Nat}(hK:X.K=K)(hc:X.calm=true)(h:Hn X es t)(hn:(assignEach es X.env).length=n:=by rfl)(hst:(assignEach es X.env).findIdx? (·.1)=none:=by rfl):PG X (.Tuple es k pos) (Hq K n t):=hK▸rf hc h hn hst
theorem xx{K:PySem.W.Frag}{a:Addr}{xs:List V}{g:TG}{tb:TS}{D:tJ}{σ:L2.St}{H:Hp}(Pv:Nat->L2.St->Hp->Prop)(h0:Pv 0 σ H)(hl:∀i σ H,i<=xs.length->Pv i σ H->SqL K H a xs)(hs:∀i x σ H Tp,xs[i]?=some x->Pv i σ H->H Tp=none->g (.ref Tp) σ (upd H Tp (.tup [.int ((i:Nat):Int),x])) λ σ2 H2=>tb {D with nx:=Pv (i+1),ct:=Pv (i+1),bk:=D.nx} σ2 H2)(hd:∀σ H,Pv xs.length σ H->D.nx σ H):
  ∃W:Nat->Nat->L2.St->Hp->Prop,(∃m,W 0 m σ H)/\∀i m σ H,W i m σ H->
   ((FM K a).stop i H/\D.nx σ H)\/((FM K a).go i H/\∃N:L2.St->Hp->Prop,(∀σ' H',N σ' H'->∃m',m'<m/\W (i+1) m' σ' H')/\∀x H',(FM K a).yld i H x H'->g x σ H' λ σ2 H2=>tb {D with nx:=N,ct:=N,bk:=D.nx} σ2 H2):=by
 refine⟨λ i m σ H=>m=xs.length - i/\i<=xs.length/\Pv i σ H,⟨xs.length,by simp,Lj _,h0⟩,?_⟩;rintro i m σ H ⟨rfl,hi,p⟩;have q:=hl i σ H hi p;by_cases hlt:i<xs.length
 ·refine .inr ⟨⟨xs,xs[i],q,by simp[hlt]⟩,Pv (i+1),λ σ' H' p'=>⟨xs.length - (i+1),by omega,rfl,hlt,p'⟩,λ v H' y=>?_⟩;obtain⟨Tp,x,rfl,hT,rfl,y⟩:=y;exact hs i x σ H Tp (y xs q) p hT
 ·have e:i=xs.length:=by omega
  subst e;exact .inl ⟨⟨xs,q,Lf _⟩,hd σ H p⟩
theorem Bv{K:PySem.W.Frag}{a:Addr}{xs:List V}{g:TG}{tb:TS}{D:tJ}{σ:L2.St}{H:Hp}(Pv:Nat->L2.St->Hp->Prop)(h0:Pv 0 σ H)(hl:∀i σ H,i<=xs.length->Pv i σ H->ci K H a xs)(hs:∀i x σ H Tp,xs[i]?=some x->Pv i σ H->H Tp=none->g (.ref Tp) σ (upd H Tp (.tup [.int ((i:Nat):Int),x])) λ σ2 H2=>tb {D with nx:=Pv (i+1),ct:=Pv (i+1),bk:=D.nx} σ2 H2)(hd:∀σ H,Pv xs.length σ H->D.nx σ H):
  ∃W:Nat->Nat->L2.St->Hp->Prop,(∃m,W 0 m σ H)/\∀i m σ H,W i m σ H->
   ((Dh K a).stop i H/\D.nx σ H)\/((Dh K a).go i H/\∃N:L2.St->Hp->Prop,(∀σ' H',N σ' H'->∃m',m'<m/\W (i+1) m' σ' H')/\∀x H',(Dh K a).yld i H x H'->g x σ H' λ σ2 H2=>tb {D with nx:=N,ct:=N,bk:=D.nx} σ2 H2):=by
 refine⟨λ i m σ H=>m=xs.length - i/\i<=xs.length/\Pv i σ H,⟨xs.length,by simp,Lj _,h0⟩,?_⟩;rintro i m σ H ⟨rfl,hi,p⟩;have q:=hl i σ H hi p;by_cases hlt:i<xs.length
 ·refine .inr ⟨⟨xs,xs[i],q,by simp[hlt]⟩,Pv (i+1),λ σ' H' p'=>⟨xs.length - (i+1),by omega,rfl,hlt,p'⟩,λ v H' y=>?_⟩;obtain⟨Tp,x,rfl,hT,rfl,y⟩:=y;exact hs i x σ H Tp (y xs q) p hT
 ·have e:i=xs.length:=by omega
  subst e;exact .inl ⟨⟨xs,q,Lf _⟩,hd σ H p⟩
theorem Fb{K:PySem.W.Frag}{a:Addr}{xs:List V}{g:TG}{tt:TT}{te:TE}{vs:List Nat}{σ:L2.St}{H1:Hp}{D:Addr}{Qd:Hp->Prop}(Pv:Nat->Hp->Prop)(h0:Pv 0 (upd H1 D (.lst [])))(hl:∀i H,i<=xs.length->Pv i H->SqL K H a xs)(hs:∀i x H Tp,xs[i]?=some x->Pv i H->H Tp=none->g (.ref Tp) (bC σ vs) (upd H Tp (.tup [.int ((i:Nat):Int),x])) λ σ2 H2=>bC σ2 vs=bC σ vs/\tt σ2 H2 λ b H3=>
   if b=true then te σ2 H3 λ y H4=>∃acc,H4 D=some (.lst acc)/\acc.length<sizeLine/\Pv (i+1) (upd H4 D (.lst (acc++[y]))) else Pv (i+1) H3)(hd:∀H,Pv xs.length H->Qd H):
  ∃W:Nat->Nat->Hp->Prop,(∃m,W 0 m (upd H1 D (.lst [])))/\∀i m H,W i m H->
   ((FM K a).stop i H/\Qd H)\/((FM K a).go i H/\∃Nx:Hp->Prop,(∀H',Nx H'->∃m',m'<m/\W (i+1) m' H')/\∀x H',(FM K a).yld i H x H'->g x (bC σ vs) H' λ σ2 H2=>bC σ2 vs=bC σ vs/\tt σ2 H2 λ b H3=>
    if b=true then te σ2 H3 λ y H4=>∃acc,H4 D=some (.lst acc)/\acc.length<sizeLine/\Nx (upd H4 D (.lst (acc++[y]))) else Nx H3):=by
 refine⟨λ i m H=>m=xs.length - i/\i<=xs.length/\Pv i H,⟨xs.length,by simp,Lj _,h0⟩,?_⟩;rintro i m H ⟨rfl,hi,p⟩;have q:=hl i H hi p;by_cases hlt:i<xs.length
 ·refine .inr ⟨⟨xs,xs[i],q,by simp[hlt]⟩,Pv (i+1),λ H' p'=>⟨xs.length - (i+1),by omega,rfl,hlt,p'⟩,λ v H' y=>?_⟩;obtain⟨Tp,x,rfl,hT,rfl,y⟩:=y;exact hs i x H Tp (y xs q) p hT
 ·have e:i=xs.length:=by omega
  subst e;exact .inl ⟨⟨xs,q,Lf _⟩,hd H p⟩
section
variable{K:PySem.W.Frag}{α:Type}{tt:TT}{te:TE}{i:Nat}{σ:L2.St}{H1:Hp}{Q:VK}{a:Addr}{xs:List V}{as:List α}{RI:V->α->Prop}{RO:Addr->Hp->V->α->Prop}
theorem IQ(sm:∀{D H H' y b},RO D H y b->ae H H'->RO D H' y b)(ls:∀{D H zs y b},RO D H y b->RO D (upd H D (.lst zs)) y b)(hx:Paired RI xs as)(ha:H1 a=some (.lst xs))(hz:xs.length<=1000000)(he:∀D x b H Q' acc,b∈as->RI x b->H1 D=none->H D=some (.lst acc)->ae H1 H->(∀y H4,ae H H4->RO D H4 y b->Q' y H4)->te ((bC σ [i]).set i (some x)) H Q')(k:∀D H' ys,H1 D=none->ae H1 H'->H' D=some (.lst ys)->Paired (RO D H') ys as->Q (.ref D) H'):
  ∃a',(V.ref a:V)=.ref a'/\(∃xs,SqL K H1 a' xs)/\∀D,H1 D=none->∃W:Nat->Nat->Hp->Prop,(∃m,W 0 m (upd H1 D (.lst [])))/\∀j m H,W j m H->
   ((rj K a').stop j H/\Q (.ref D) H)\/((rj K a').go j H/\∃Nx:Hp->Prop,(∀H',Nx H'->∃m',m'<m/\W (j+1) m' H')/\∀x H',(rj K a').yld j H x H'->gW i x (bC σ [i]) H' λ σ2 H2=>bC σ2 [i]=bC σ [i]/\AU σ2 H2 λ b H3=>
    if b=true then te σ2 H3 λ y H4=>∃acc,H4 D=some (.lst acc)/\acc.length<sizeLine/\Nx (upd H4 D (.lst (acc++[y]))) else Nx H3):=by
 refine⟨a,rfl,⟨_,SqL.of ha⟩,λ D hD=>?_⟩;have hl:=ai hx;refine zY (K:=K) (xs:=xs) (λ j H=>ae H1 H/\∃ys,H D=some (.lst ys)/\Paired (RO D H) ys (as.take j)) ⟨ae.upd (ae.refl H1) hD,[],ab,.nil⟩ (λ j H _ ⟨s,_⟩=>SqL.of (s _ _ ha)) ?_ ?_
 ·rintro j x H hj ⟨s,ys,hy,py⟩;obtain⟨b,hb,rb⟩:=aZ hx hj;have mb:=Nm hb;have lys:ys.length<=1000000:=by
   rw[ai py,Lr];omega
  refine⟨Ag σ i _,he D x b H _ ys mb rb hD hy s λ y H5 s5 r5=>?_⟩;have hD5:=s5 _ _ hy;refine⟨ys,hD5,Lq lys (by decide),ae.upd (s.trans s5) hD,ys++[y],ab,?_⟩;rw[bD hb];exact aI (Paired.mapP py λ _ _ r=>ls (sm r s5)) (.cons (ls r5) .nil)
 ·rintro H ⟨s,ys,hy,py⟩;rw[hl,Mr]at py;exact k D H ys hD s hy py
theorem nL(R:List V->Hp->VK->Prop){σ0:L2.St}(sm:∀{D H H' y b},RO D H y b->ae H H'->RO D H' y b)(ls:∀{D H zs y b},RO D H y b->RO D (upd H D (.lst zs)) y b)(hx:Paired RI xs as)(ha:H1 a=some (.lst xs))(hz:xs.length<=1000000)(he:∀D x b H Q' acc,b∈as->RI x b->H1 D=none->H D=some (.lst acc)->ae H1 H->(∀y H4,ae H H4->RO D H4 y b->Q' y H4)->te ((bC σ [i]).set i (some x)) H Q')(k:∀D H' ys,H1 D=none->ae H1 H'->H' D=some (.lst ys)->Paired (RO D H') ys as->R [.ref D] H' Q):
  ∃a',(V.ref a:V)=.ref a'/\(∃xs,SqL K H1 a' xs)/\∀D,H1 D=none->∃W:Nat->Nat->Hp->Prop,(∃m,W 0 m (upd H1 D (.lst [])))/\∀j m H,W j m H->
   ((rj K a').stop j H/\ib σ0 H λ xs H2=>R (.ref D::xs) H2 Q)\/((rj K a').go j H/\∃Nx:Hp->Prop,(∀H',Nx H'->∃m',m'<m/\W (j+1) m' H')/\∀x H',(rj K a').yld j H x H'->gW i x (bC σ [i]) H' λ σ2 H2=>bC σ2 [i]=bC σ [i]/\AU σ2 H2 λ b H3=>
    if b=true then te σ2 H3 λ y H4=>∃acc,H4 D=some (.lst acc)/\acc.length<sizeLine/\Nx (upd H4 D (.lst (acc++[y]))) else Nx H3):=
 IQ (RO:=RO) (Q:=λ v H=>R [v] H Q) (λ r s=>sm r s) (λ r=>ls r) hx ha hz he k
end
open Valita (cutAt linesOf linesRead readDocument)
theorem gR{x:Reading}{c:Chunk}{l:Line}{ns:List Bool}{n:Nat}(h:withLine x c l ns=.error n):n≠0:=by
 unfold withLine at h;split at h
 ·cases h;decide
 ·cases h
theorem Dk{x:Reading}{t:Text}{n:Nat}(h:gn x t=.error n):n≠0:=by
 unfold gn lineRead at h;split at h
 ·cases h;decide
 ·split at h
  ·unfold outerRead at h;simp only at h;split at h
   ·split at h<;>cases h;decide
   ·split at h
    ·cases h;decide
    ·split at h
     ·cases h;decide
     ·split at h<;>cases h;decide
  ·unfold innerRead at h;split at h
   ·split at h<;>cases h;decide
   ·split at h
    ·cases h;decide
    ·split at h
     ·exact gR h
     ·cases h;decide
    ·split at h
     ·exact gR h
     ·cases h;decide
    ·split at h
     ·cases h;decide
     ·exact gR h
    ·split at h
     ·exact gR h
     ·cases h;decide
theorem jA(T:bX K mg ad):jN P w K mg base 1 "Reading" ad.f ["self","blocks","line","reason"] (nv ad.f ["blocks","line","reason"]):=by
 refine eS T.d6 T.KU (N:=["self","blocks","line","reason"]) cj λ l H vs Q E hr hu6 hu nd h=>?_;obtain⟨p,dx,ws,rfl,hp,hl,k⟩:=h
 match ws,hl with
 |[v1,v2,v3],_=>
 refine⟨_,(aa (bw aH aQ rfl)
   (aa (bw aH bJ rfl)
   (ac (bw aH dF rfl)))),?_⟩
 refine⟨_,rfl,_,rfl,p,_,dx,[],rfl,hp,T.d6.cl,T.t0,by decide,?_⟩;refine⟨_,rfl,_,rfl,qs ab T.d6.cl T.z0 (Lq (vz _ _) (by decide)) ?_⟩;refine⟨_,rfl,_,rfl,qs ab T.d6.cl T.g6 (Lq (wZ _ _ _ _) (by decide)) ?_⟩;exact k _ _ (EO (by decide +kernel) (by decide +kernel)) (Ln (yL _ _ _ _ _ _) (by decide)) ab λ b hb=>by rw[am hb,am hb,am hb]
def uG(ad:Ad)(H:Hp)(v:V)(bl:Addr)(ln rs:Int):Prop:=∃a dx fs,v=.ref a/\H a=some (.ins ad.f dx fs)/\io fs [("blocks",.ref bl),("line",.int ln),("reason",.int rs)]
def FQ(H:Hp)(v:V)(t:Text):Prop:=bN H v t\/∃l,v=.ref l/\H l=some (.lst (bT t))/\t.length<=gS
def zf(ad:Ad):Sp:=λ vs H Q _=>∃v t,vs=[v]/\FQ H v t/\
 (∀fl u bl H',readDocument t=.error fl->ae H H'->uG ad H' u bl (fl.line:Nat) (fl.reason:Nat)->fl.reason≠0->Q u H')/\
 (∀d u bl H',readDocument t=.ok d->ae H H'->uG ad H' u bl 0 0->iY ad H' bl d->H bl=none->d.length<=200->Q u H')
theorem eX.empty(G:Hp):eX G [] λ _=>none:=λ _=>.inl ⟨rfl,rfl⟩
theorem fX.empty:fX (λ _=>none) []:=⟨λ _ h=>(by cases h),λ _ _ h=>(by cases h),λ _ h=>(by cases h)⟩
theorem Bw{K:PySem.W.Frag}{H:Hp}{v:V}{t:Text}{Q:VK}(hv:FQ H v t)(k:∀a H',ae H H'->bN H' (.ref a) t->Q (.ref a) H'):ze K [v] H Q:=by
 rcases hv with hv |⟨a0,ev,hl0,hz⟩
 ·obtain⟨a,ev,ha,hz⟩:=id hv;exact⟨a,_,by rw[ev],.inr ⟨ci.of ha,k a H (ae.refl H) ⟨a,rfl,ha,hz⟩⟩⟩
 ·exact⟨a0,_,by rw[ev],.inl ⟨SqL.of hl0,λ a hp=>k a _ (ae.new hp) ⟨a,rfl,ab,hz⟩⟩⟩
theorem jB(T:bX K mg ad):aY P w K mg base 12 "read_text" ["text"] (zf ad):=by
 refine T.JW.good (N:=["text","rows","not_ended","reader","number","row","reason"]) cj λ l H vs Q E hr hu6 hu nd h=>?_;obtain⟨v,t,rfl,hv,kE,kO⟩:=h;refine⟨_,(aa (bf 1 nd (az (kt T) hr (dU (uq T.g3 kL (aD aH)) (af T.i4))))
   (aa (bf 2 nd (yz Lk PySem.F.slot_list_pop PySem.F.type_list_pop yB aQ))
   (aa (bf 3 nd (FN (Bm T) hr))
   (aa (dn Mu rfl (Df rfl T.i9 aQ) (rf rfl (eY (aM (i:=4) nd rfl (Or.inl rfl)) (eY (aM (i:=5) nd rfl (Or.inl rfl)) mL))) (aa (bf 6 nd (mZ (so T) hr dF (aD (pv 5))))
   (ac (aA (aq iR (pv 6) (af T.f7) (ax _)) (ac (ah (gv (jA T) hr (ag (aG aF) (ag jk (ag (pv 6) aF)))))) ak))))
   (aa (aA (aq lU (bR T.a7 aj (aD bJ)) al (ax _)) (ac (ah (gv (jA T) hr (ag (aG aF) (ag (bu cq (bR T.a7 aj (aD aQ)) al) (ag (af T.u0) aF)))))) ak)
   (aa (aA (gt (ve (aC dF))) (ac (ah (gv (jA T) hr (ag (aG aF) (ag (bu cq (bR T.a7 aj (aD aQ)) al) (ag (af T.B4) aF)))))) ak)
   (ac (ah (gv (jA T) hr (ag (aC dF) (ag al (ag (af T.f7) aF)))))))))))),?_⟩
 refine⟨_,rfl,?_⟩
 delta ib
 refine Bw hv λ a Hx sb hv0=>?_;obtain⟨_,_,_,hz1⟩:=id hv0;refine⟨_,t,10,rfl,hv0,λ l ws H1 s1 nl hl1 pw=>?_⟩;have hlen:=gJ 10 t;have lw:=ai pw;rcases Ol (cutAt 10 t) with q |⟨rs,last,q⟩
 ·exact absurd q (gk 10 t)
 rw[Om]at q;have hl0:Valita.linesOf t=rs.map (λ x=>(x,true))++(if last.isEmpty=true then[] else[(last,false)]):=by unfold Valita.linesOf;simp only;rw[q,Nj,Qb,Ni];rfl
 rw[q]at pw lw hlen;rw[La,Lx]at lw hlen;obtain⟨ws',vl,ew,pws,rl⟩:∃ws' vl,ws=ws'++[vl]/\Paired (bN H1) ws' rs/\bN H1 vl last:=by
  rcases Ol ws with z |⟨ws',vl,z⟩
  ·rw[z]at lw;simp at lw
  ·rw[Om]at z;rw[z]at pw lw;have hl2:ws'.length=rs.length:=by simpa using lw
   have split:∀{as:List V} {bs:List Text} {x:V} {y:Text},as.length=bs.length->Paired (bN H1) (as++[x]) (bs++[y])->Paired (bN H1) as bs/\bN H1 x y:=by
    intro as
    induction as with
    |nil=>
     intro bs x y hl p;cases bs with
     |nil=>
      cases p with
      |cons r p=>exact⟨.nil,r⟩
     |cons=>cases hl
    |cons a as ih=>
     intro bs x y hl p;cases bs with
     |nil=>cases hl
     |cons b bs=>
      cases p with
      |cons r p=>obtain⟨h1,h2⟩:=ih (by simpa using hl) p;exact⟨.cons r h1,h2⟩
   obtain⟨h1,h2⟩:=split hl2 pw;exact⟨ws',vl,z,h1,h2⟩
 subst ew;have hlast:(ws'++[vl])[(ws'++[vl]).length - 1]?=some vl:=by rw[La];show(ws'++[vl])[ws'.length+1 - 1]?=_;rw[Ro,Pw (Lf _),Qg];rfl
 refine⟨_,rfl,.inl ⟨rfl,_,SqL.of hl1⟩,l,_,vl,rfl,rfl,hl1,hlast,?_⟩;rw[Nj];have s2:ae H (L2.upd H1 l (.lst ws')):=ae.upd (sb.trans s1) (sb.free nl);have k2:cN H1 (L2.upd H1 l (.lst ws')):=cN.lst hl1;have hl2:(L2.upd H1 l (.lst ws')) l=some (.lst ws'):=ab;have pw2:=bh pws k2;have rl2:=rl.kept k2;generalize L2.upd H1 l (.lst ws')=H2 at s2 hl2 pw2 rl2;have lw2:ws'.length=rs.length:=ai pw2;intro r rdx hr0 hrdx hrne;refine⟨r,rdx,H2,rfl,rfl,hr0,hrdx,hrne,λ H3 S R e1 e2 e3 e4 e5 e6=>⟨rfl,?_⟩⟩;have RS0:RS ad H2 H3 r ⟨[],none⟩:=by refine⟨S,R,?_⟩;show EU ad H3 r [] S;refine⟨e3,e6,by rw[e5];exact .nil,e1,e2,⟨λ _=>none,by rw[e4];exact eX.empty _,fX.empty⟩,by rw[e4,e1];decide,Lj _,Lj _,Lj _⟩
 have fault:∀(H4:Hp) (fl:Valita.Fault) (p:Addr),ae H2 H4->H4 p=none->readDocument t=.error fl->fl.reason≠0->∀x dx,(upd H4 p (.lst [])) x=none->(upd H4 p (.lst [])) dx=none->dx≠x->
   nv ad.f ["blocks","line","reason"] (.ref x::[.ref p,.int (fl.line:Nat),.int (fl.reason:Nat)]) (upd (upd (upd H4 p (.lst [])) dx (.own x)) x (.ins ad.f dx [])) (λ v H2=>v=.non/\Q (.ref x) H2) E0:=by
  intro H4 fl p s4 hp ef hne x dx hx hdx hn;refine fz (ws:=[.ref p,.int (fl.line:Nat),.int (fl.reason:Nat)]) (by rfl) hx hdx hn λ H5 fs s5 hH hf=>⟨rfl,?_⟩;exact kE fl _ p _ ef (((s2.trans s4).trans (ae.new hp)).trans s5) ⟨x,dx,fs,rfl,hH,hf⟩ hne
 refine⟨_,rfl,l,ws',rfl,SqL.of (R.same _ _ hl2),λ i m σ H'=>m=rs.length - i/\i<=rs.length/\(∃x4 x5 x6,σ=[some v,some (.ref l),some vl,some (.ref r),x4,x5,x6])/\∃x,RS ad H2 H' r x/\readDocument t=linesRead (i+1) x ((rs.drop i).map (λ x=>(x,true))++(if last.isEmpty=true then[] else[(last,false)])),⟨rs.length,by simp,Lj _,⟨none,none,none,rfl⟩,⟨[],none⟩,RS0,by unfold readDocument;rw[hl0];rfl⟩,?_⟩;rintro i m σ H4 ⟨rfl,hi,⟨x4,x5,x6,rfl⟩,x,hR,er⟩;obtain⟨S4,R4,hF4⟩:=id hR;have hl4:=R4.same _ _ hl2;by_cases hlt:i<rs.length
 ·refine .inr ⟨⟨ws',ws'[i]'(by omega),SqL.of hl4,Mt (by omega)⟩,λ σ' H'=>(∃x4 x5 x6,σ'=[some v,some (.ref l),some vl,some (.ref r),x4,x5,x6])/\∃x,RS ad H2 H' r x/\readDocument t=linesRead (i+1+1) x ((rs.drop (i+1)).map (λ x=>(x,true))++(if last.isEmpty=true then[] else[(last,false)])),λ σ' H' h=>⟨rs.length - (i+1),by omega,rfl,hlt,h⟩,?_⟩;rintro y H5 ⟨Tp,yv,rfl,hT,rfl,hy⟩;have hy:=hy ws' (SqL.of hl4);obtain⟨row,hrow,rr⟩:=aZ pw2 hy;have s45:ae H4 (L2.upd H4 Tp (.tup [.int (((i+1:Nat)):Int),yv])):=ae.new hT;refine⟨Tp,_,rfl,ci.of ab,rfl,_,_,rfl,_,_,rfl,rfl,?_⟩;have ed:rs.drop i=row::rs.drop (i+1):=by
   obtain⟨h1,h2⟩:=Mq.mp hrow;rw[Mz h1,h2]
  rw[ed]at er;have er2:readDocument t=match gn x row with
    |.error n=>.error ⟨i+1,n⟩
    |.ok y=>linesRead (i+1+1) y ((rs.drop (i+1)).map (λ x=>(x,true))++(if last.isEmpty=true then[] else[(last,false)])):=er
  have R5:=R4.sames s45;have hR5:RS ad H2 (L2.upd H4 Tp (.tup [.int (((i+1:Nat)):Int),yv])) r x:=by
   refine⟨S4,R5,?_⟩;cases hn:x.now with
   |none=>rw[hn]at hF4;obtain⟨f,h2,h3⟩:=hF4.dict;exact⟨hF4.vp,hF4.bs,aN hF4.bl (aU s45),hF4.pc,hF4.lc,⟨f,h2.same (aU s45),h3⟩,hF4.kz,hF4.bz,hF4.cz,hF4.lz⟩
   |some z=>rw[hn]at hF4;obtain⟨b1,b2,b3,b4,b5,b6,b7,b8,F4⟩:=hF4;exact⟨b1,b2,b3,b4,b5,b6,b7,b8,F4.sames s45⟩
  refine⟨_,rfl,r,S4.dx,S4.fs,rfl,R5.ins,R5.only _ (by decide +kernel),_,rfl,H2,r,x,yv,row,rfl,hR5,(rr.same R4.same).same s45,trivial,λ n H6 e6 s6=>?_,λ y6 H6 e6 r6=>?_⟩
  ·have hpos:=Dk e6;rw[e6]at er2;refine⟨_,rfl,rfl,_,rfl,au (λ _=>?_) λ h1=>?_⟩
   ·refine⟨Lj _,λ p hp=>⟨_,rfl,_,rfl,?_⟩⟩;exact fault H6 ⟨i+1,n⟩ p s6 hp er2 hpos
   ·refine absurd ?_ h1;show(!decide (V.int (n:Int)=V.int 0))=true;rw[Ou,Mn];intro q;injection q with q
    omega
  ·rw[e6]at er2;refine⟨_,rfl,rfl,_,rfl,au (λ h1=>?_) λ _=>?_⟩
   ·simp at h1
   ·exact⟨⟨_,_,_,rfl⟩,y6,r6,er2⟩
 ·have ei:i=rs.length:=by omega
  subst ei;refine .inl ⟨⟨ws',SqL.of hl4,by omega⟩,?_⟩;rw[Pb]at er;obtain⟨b,rfl,hb,hzb⟩:=rl2.same R4.same;refine⟨_,rfl,ql (.inr (ci.of hb)) (qn ⟨_,rfl,au (λ h1=>?_) λ h1=>?_⟩)⟩
  ·have h1:¬last.isEmpty=true:=by
    intro q;rw[Oh]at q;subst q;simp[bT]at h1
   rw[Ld h1]at er;have er2:readDocument t=.error ⟨rs.length+1,1⟩:=er;refine⟨Lj _,λ p hp=>⟨_,rfl,ql (.inl (SqL.of (ae.new hp _ _ hl4))) (qn ?_)⟩⟩;have ez:((ws'.length:Int)+1)=((rs.length+1:Nat):Int):=by omega
   show ∀x dx,_->_->_->nv ad.f ["blocks","line","reason"] [.ref x,.ref p,.int ((ws'.length:Int)+1),.int 1] _ _ _;rw[ez];exact fault H4 ⟨rs.length+1,1⟩ p R4.same hp er2 (show(1:Nat)≠0 by decide)
  ·have h1:last.isEmpty=true:=by
    rw[Oh];cases last with
    |nil=>rfl
    |cons c r'=>exact absurd (Ll (by rw[ao];simp)) h1
   rw[Le h1]at er;refine qf R4.ins T.c6.cl T.i0 R4.has.e ⟨_,rfl,?_⟩;cases hn:x.now with
   |none=>
    rw[hn]at hF4;have er2:readDocument t=.ok x.blocks:=by rw[er];show(if x.now.isSome=true then _ else _)=_;rw[hn];rfl
    rw[hF4.vp];refine au (λ q=>by simp at q) λ _=>?_;refine qf R4.ins T.c6.cl T.i8 R4.has.a ?_;intro y dx hx hdx hne;refine fz (ws:=[.ref S4.bl,.int 0,.int 0]) (by rfl) hx hdx hne λ H6 fs s6 hH hf=>⟨rfl,?_⟩;have hbz:=hF4.bz;refine kO x.blocks _ S4.bl _ er2 ((s2.trans R4.same).trans s6) ⟨y,dx,fs,rfl,hH,hf⟩ ⟨S4.ws,s6 _ _ R4.hb,aN hF4.bl (aK.trans s6),by omega⟩ (s2.free R4.nb) hF4.bz
   |some z=>
    rw[hn]at hF4;obtain⟨b1,b2,b3,b4,b5,b6,b7,b8,F4⟩:=hF4;have er2:readDocument t=.error ⟨rs.length+1,8⟩:=by rw[er];show(if x.now.isSome=true then _ else _)=_;rw[hn];rfl
    rw[F4.vp];refine au (λ _=>?_) λ q=>absurd rfl q;refine⟨Lj _,λ p hp=>⟨_,rfl,ql (.inl (SqL.of (ae.new hp _ _ hl4))) (qn ?_)⟩⟩;have ez:((ws'.length:Int)+1)=((rs.length+1:Nat):Int):=by omega
    show ∀x dx,_->_->_->nv ad.f ["blocks","line","reason"] [.ref x,.ref p,.int ((ws'.length:Int)+1),.int 8] _ _ _;rw[ez];exact fault H4 ⟨rs.length+1,8⟩ p R4.same hp er2 (show(8:Nat)≠0 by decide)
end Tw
namespace Tw
open Valita
theorem nM{p:UInt8->Bool}{b:UInt8}{t:Text}(h:t.all p=true)(hb:p b=false):b∉t:=λ m=>by rw[Nk]at h;have:=h b m;rw[hb]at this;cases this
theorem sr(c:UInt8):∀(t:Text) (b:UInt8),b∈t->b≠c->∃w∈cutAt c t,b∈w
 |[],_,h,_=>by cases h
 |d::r,b,h,hne=>by
  rw[fi];rcases Lp.mp h with rfl |h
  ·rw[Ld hne];cases e:cutAt c r with
   |nil=>exact absurd e (gk c r)
   |cons x xs=>exact⟨_,.head _,.head _⟩
  ·obtain⟨w,hw,hb⟩:=sr c r b h hne;by_cases hd:d=c
   ·rw[Le hd];exact⟨w,.tail _ hw,hb⟩
   ·rw[Ld hd];cases e:cutAt c r with
    |nil=>exact absurd e (gk c r)
    |cons x xs=>
     rw[e]at hw;rcases Lp.mp hw with rfl |hw
     ·exact⟨_,.head _,.tail _ hb⟩
     ·exact⟨w,.tail _ hw,hb⟩
theorem nN{n:Text}(h:isName n=true){b:UInt8}(h1:b≠32)(h2:(isSmall b||(isDigit b||b==45))=false):b∉n:=λ m=>by unfold isName at h;rw[Li,Nk]at h;obtain⟨w,hw,hb⟩:=sr 32 n b m h1;have:=h.2 w hw;unfold isWord at this;rw[Li]at this;exact nM this.2 h2 hb
theorem gT{n:Text}(h:isShort n=true){b:UInt8}(h2:(isSmall b||isDigit b)=false):b∉n:=by unfold isShort at h;rw[Li,Li]at h;exact nM h.2.2 h2
theorem vL{n:Text}(h:isArgument n=true){b:UInt8}(h2:(isSign b&&!([44,40,41,123,125,64]:Text).contains b)=false):b∉n:=by unfold isArgument at h;rw[Li,Li]at h;exact nM h.2.1 h2
theorem Dm{n:Text}(h:isPath n=true){b:UInt8}(h2:(isSmall b||(isGreat b||(isDigit b||([46,95,47,45]:Text).contains b)))=false):b∉n:=by unfold isPath at h;rw[Li,Li]at h;exact nM h.2.2 h2
theorem Aq(e:Text):∀(w r:Text),44∉e->ku w (e++r)=ku (w++e) r:=by
 induction e with
 |nil=>intro w r _;simp
 |cons c e ih=>intro w r h;have h1:¬c=44:=λ q=>h (by rw[q];exact .head _);show ku w (c::(e++r))=_;rw[kx,Ld h1,ih _ _ (λ q=>h (.tail _ q))];simp
theorem uH:∀(es:List Text),es≠[]->(∀e∈es,44∉e)->ku [] (glued SEP es)=some es
 |[],h,_=>absurd rfl h
 |[e],_,h=>by have:=Aq e [] [] (h e (.head _));rw[Lv,Oa]at this;show ku [] e=_;rw[this];rw[ku]
 |e::f::r,_,h=>by show ku [] (e++(SEP++glued SEP (f::r)))=_;rw[Aq e [] _ (h e (.head _)),Oa];show ku e (44::32::glued SEP (f::r))=_;rw[kx,Le rfl];show(if(32:UInt8)=32 then(ku [] (glued SEP (f::r))).map (e :: ·) else none)=_;rw[Le rfl,uH (f::r) (by simp) (λ x hx=>h x (.tail _ hx))];rfl
theorem tX{p:UInt8->Bool}{n r:Text}{c:UInt8}(h:∀b∈n,p b=true)(hc:p c=false):(n++c::r).takeWhile p=n:=by rw[List.takeWhile_append_of_pos h,List.takeWhile_cons_of_neg (by rw[hc];decide),Lv]
theorem vM{p:UInt8->Bool}{n:Text}(h:∀b∈n,p b=true):n.takeWhile p=n:=by have:=List.takeWhile_append_of_pos (l₂:=[]) h;rw[Lv]at this;rw[this,List.takeWhile_nil,Lv]
theorem ir{n:Text}{es:List Text}(hn:isName n=true)(he:∀e∈es,44∉e):bP (aJ n es)=some (n,es):=by
 have h40:∀b∈n,(b != 40)=true:=λ b hb=>by have:=nN hn (b:=40) (by decide) (by decide);simp;intro q;exact this (q▸hb)
 unfold aJ;cases es with
 |nil=>rw[Le (show([]:List Text).isEmpty=true from rfl),Lv];unfold bP;simp only;rw[vM h40,Ld (by rw[hn];decide),Pb]
 |cons e r=>rw[Ld (by simp)];unfold bP;simp only;rw[tX h40 (by decide),Ld (by rw[hn];decide),Rr];simp only;rw[Ni,Le rfl,Nj,uH _ (by simp) he];rfl
theorem uI{b:UInt8}(h44:b≠44)(h32:b≠32):∀es:List Text,(∀e∈es,b∉e)->b∉glued SEP es
 |[],_=>by simp[glued]
 |[e],h=>h e (.head _)
 |e::f::r,h=>by have ih:=uI h44 h32 (f::r) (λ x hx=>h x (.tail _ hx));show b∉e++(SEP++glued SEP (f::r));simp only[Mg,Qu];refine⟨h e (.head _),?_,ih⟩;simp[SEP,h44,h32]
theorem hU{b:UInt8}{n:Text}{es:List Text}(hn:b∉n)(he:∀e∈es,b∉e)(h44:b≠44)(h32:b≠32)(h40:b≠40)(h41:b≠41):b∉aJ n es:=by
 unfold aJ;rw[Mg,Qu];refine⟨hn,?_⟩;split
 ·simp
 ·have:=uI h44 h32 es he;simp[h40,h41,this]
def cW:Piece->Prop
 |.lit t=>t≠[]/\10∉t
 |.use n as=>isName n=true/\∀a∈as,isArgument a=true
 |.param n=>isShort n=true
def gG:Piece->Bool
 |.lit _=>true
 |_=>false
def apart:List Piece->Prop
 |[]=>True
 |p::r=>(gG p=true->∀q,r.head?=some q->gG q=false)/\apart r
theorem Do{n:Text}{as:List Text}(hn:isName n=true)(ha:∀a∈as,isArgument a=true):useOf (aJ n as)=some (.use n as):=by rw[gL,ir hn (λ e he=>vL (ha e he) (by decide))];show(if as.all isArgument=true then _ else none)=_;rw[Le (Nk.mpr ha)]
theorem jC(ps:List Piece):∀(t l r:Text),scan ⟨ps,l,.plain⟩ (pieceText (.lit t)++r)=scan ⟨ps,l++t,.plain⟩ r
 |[],l,r=>by show scan ⟨ps,l,.plain⟩ r=_;rw[Lv]
 |b::t,l,r=>by
  show scan ⟨ps,l,.plain⟩ (((if b=64 then[64,64] else[b])++pieceText (.lit t))++r)=_;by_cases h:b=64
  ·subst h;rw[Le rfl];show scan ⟨ps,l,.plain⟩ (64::64::(pieceText (.lit t)++r))=_;rw[Ao,jC ps t];simp
  ·rw[Ld h];show scan ⟨ps,l,.plain⟩ (b::(pieceText (.lit t)++r))=_;rw[xg h,jC ps t];simp
theorem su{ps:List Piece}{l:Text}:∀(u w r:Text),125∉u->scan ⟨ps,l,.using_ w⟩ (u++125::r)=(useOf (w++u)).bind λ p=>scan ⟨withLit ⟨ps,l,.plain⟩++[p],[],.plain⟩ r
 |[],w,r,_=>by show scan _ (125::r)=_;rw[dX,kD,Le rfl,Lv];cases useOf w<;>rfl
 |c::u,w,r,h=>by show scan _ (c::(u++125::r))=_;rw[dX,kD,Ld (λ q=>h (by rw[q];exact .head _))];show scan ⟨ps,l,.using_ (w++[c])⟩ (u++125::r)=_;rw[su u _ r (λ q=>h (.tail _ q))];simp
theorem pQ{ps:List Piece}{l:Text}:∀(u w r:Text),62∉u->isShort (w++u)=true->scan ⟨ps,l,.naming w⟩ (u++62::r)=scan ⟨withLit ⟨ps,l,.plain⟩++[.param (w++u)],[],.plain⟩ r
 |[],w,r,_,hs=>by show scan _ (62::r)=_;rw[Lv]at hs ⊢;rw[dX,kG,Le rfl,Le hs];rfl
 |c::u,w,r,h,hs=>by show scan _ (c::(u++62::r))=_;rw[dX,kG,Ld (λ q=>h (by rw[q];exact .head _))];show scan ⟨ps,l,.naming (w++[c])⟩ (u++62::r)=_;rw[pQ u _ r (λ q=>h (.tail _ q)) (by simpa using hs)];simp
theorem iu:∀(qs ps:List Piece) (l:Text),(∀q∈qs,cW q)->apart qs->(l≠[]->∀q,qs.head?=some q->gG q=false)->gx (scan ⟨ps,l,.plain⟩ (piecesText qs))=some (withLit ⟨ps,l,.plain⟩++qs)
 |[],ps,l,_,_,_=>by show some (withLit ⟨ps,l,.plain⟩)=_;rw[Lv]
 |q::qs,ps,l,hw,ha,hl=>by
  have hq:=hw q (.head _);have hw':∀q∈qs,cW q:=λ x hx=>hw x (.tail _ hx);show gx (scan ⟨ps,l,.plain⟩ (pieceText q++piecesText qs))=_;cases q with
  |lit t=>
   have hl0:l=[]:=by
    by_cases h:l=[]
    ·exact h
    ·have:=hl h _ rfl;cases this
   subst hl0;rw[jC,Oa,iu qs ps t hw' ha.2 (λ _ x hx=>ha.1 rfl x hx)];have ht:¬t.isEmpty=true:=by rw[Oh];exact hq.1
   have e1:withLit ⟨ps,t,.plain⟩=ps++[.lit t]:=Ld ht;have e2:withLit ⟨ps,[],.plain⟩=ps:=rfl;rw[e1,e2];simp
  |use n as=>
   have hb:=Do hq.1 hq.2;have h125:125∉aJ n as:=hU (nN hq.1 (by decide) (by decide)) (λ e he=>vL (hq.2 e he) (by decide)) (by decide) (by decide) (by decide) (by decide);have eu:pieceText (.use n as)++piecesText qs=64::123::(aJ n as++125::piecesText qs):=by show[64,123]++(n++((if as.isEmpty=true then[] else 40::(glued SEP as++[41]))++[125]))++piecesText qs=_;unfold aJ;simp
   rw[eu];show gx (scan ⟨ps,l,.using_ []⟩ (aJ n as++125::piecesText qs))=_;rw[su _ _ _ h125,Oa,hb];show gx (scan ⟨withLit ⟨ps,l,.plain⟩++[.use n as],[],.plain⟩ (piecesText qs))=_;rw[iu qs _ [] hw' ha.2 (λ h=>absurd rfl h)];show some (withLit ⟨ps,l,.plain⟩++[.use n as]++qs)=_;simp
  |param n=>
   have h62:62∉n:=gT hq (by decide);have eu:pieceText (.param n)++piecesText qs=64::60::(n++62::piecesText qs):=by show[64,60]++(n++[62])++piecesText qs=_;simp
   rw[eu];show gx (scan ⟨ps,l,.naming []⟩ (n++62::piecesText qs))=_;rw[pQ n [] _ h62 (show isShort ([]++n)=true from hq),Oa];rw[iu qs _ [] hw' ha.2 (λ h=>absurd rfl h)];show some (withLit ⟨ps,l,.plain⟩++[.param n]++qs)=_;simp
theorem xy{qs:List Piece}(hw:∀q∈qs,cW q)(ha:apart qs):piecesOf (piecesText qs)=some qs:=by rw[nB,iu qs [] [] hw ha (λ h=>absurd rfl h)];rfl
def eL:Line->Prop
 |.code l=>(∀q∈l,cW q)/\apart l
 |.when s=>isShort s=true
 |_=>True
theorem Bx{qs:List Piece}{c:UInt8}{r:Text}(hw:∀q∈qs,cW q)(h:piecesText qs=64::c::r):c=64\/c=123\/c=60:=by
 cases qs with
 |nil=>cases h
 |cons q qs=>
  have h:pieceText q++piecesText qs=64::c::r:=h;have hq:=hw q (.head _);cases q with
  |lit t=>
   cases t with
   |nil=>exact absurd rfl hq.1
   |cons b t=>
    have h:((if b=64 then[64,64] else[b])++pieceText (.lit t))++piecesText qs=64::c::r:=h;by_cases hb:b=64
    ·rw[Le hb]at h;have h:(64:UInt8):: 64::(pieceText (.lit t)++piecesText qs)=64::c::r:=h;injection h with _ h
     injection h with h _
     exact .inl h.symm
    ·rw[Ld hb]at h;have h:b::(pieceText (.lit t)++piecesText qs)=64::c::r:=h;injection h with h _
     exact absurd h hb
  |use n as=>
   have h:(64:UInt8):: 123::((n++((if as.isEmpty=true then[] else 40::(glued SEP as++[41]))++[125]))++piecesText qs)=64::c::r:=h;injection h with _ h
   injection h with h _
   exact .inr (.inl h.symm)
  |param n=>
   have h:(64:UInt8):: 60::((n++[62])++piecesText qs)=64::c::r:=h;injection h with _ h
   injection h with h _
   exact .inr (.inr h.symm)
theorem vN:ELSE=[64,101,108,115,101]:=by decide +kernel
theorem Dq:FI=[64,102,105]:=by decide +kernel
theorem Ar:IF=[64,105,102,32]:=by decide +kernel
theorem GJ:END=[64,101,110,100]:=by decide +kernel
theorem lA{l:Line}(h:eL l):lineOf (lineText l)=some l:=by
 cases l with
 |otherwise=>show(if ELSE=ELSE then _ else _)=_;rw[Le rfl]
 |done=>show(if FI=ELSE then _ else if FI=FI then _ else _)=_;rw[Ld (by decide +kernel),Le rfl]
 |when s=>
  have hs:isShort s=true:=h;unfold lineOf lineText;simp only;rw[Ld (by rw[Ar,vN];intro q;injection q with _ q;injection q with q _;cases q),Ld (by rw[Ar,Dq];intro q;injection q with _ q;injection q with q _;cases q)];have hp:IF.isPrefixOf (IF++s)=true:=by rw[Nz];exact Qo _ _
  rw[Le hp,Rr,Le hs]
 |code qs=>
  obtain⟨hw,ha⟩:=h;unfold lineOf lineText;simp only;have hd:=λ c r=>Bx (c:=c) (r:=r) hw;rw[Ld,Ld,Ld,xy hw ha]
  ·rfl
  ·intro q;rw[Ar,Nz]at q;obtain⟨r,q⟩:=q;have q:piecesText qs=64::105::([102,32]++r):=q.symm;rcases hd 105 ([102,32]++r) q with h |h |h<;>cases h
  ·intro q;rw[Dq]at q;rcases hd _ _ q with h |h |h<;>cases h
  ·intro q;rw[vN]at q;rcases hd _ _ q with h |h |h<;>cases h
theorem jD{l:Line}(h:eL l):lineText l≠END:=by
 intro e;have h1:=lA h;rw[e]at h1;have h2:lineOf END=none:=by decide +kernel
 rw[h2]at h1;cases h1
def oQ(c:Chunk):Prop:=(c.isFile=true/\isPath c.name=true/\c.params=[])\/(c.isFile=false/\isName c.name=true/\∀p∈c.params,isShort p=true)
def iw(c:Chunk):Prop:=oQ c/\∀l∈c.lines,eL l
def qU(t:Text):Bool:=t.head? != some 64||([64,64]:Text).isPrefixOf t
def Fc:Block->Prop
 |.prose t=>qU t=true/\10∉t
 |.chunk c=>iw c
def cJ(d:Document):Prop:=∀b∈d,Fc b
theorem qV:FILE=[64,102,105,108,101,32]:=by decide +kernel
theorem nO:CHUNK=[64,99,104,117,110,107,32]:=by decide +kernel
theorem By{c c0:Chunk}(h:oQ c)(e:headOf (headText c)=some c0):c0={c with lines:=[]}:=by
 rw[iZ]at e;rcases h with⟨h1,h2,h3⟩ |⟨h1,h2,h3⟩
 ·have ht:headText c=FILE++c.name:=by unfold headText;rw[Le h1]
  have hp:FILE.isPrefixOf (headText c)=true:=by rw[ht,Nz];exact Qo _ _
  have hd:(headText c).drop 6=c.name:=by rw[ht];exact Rr (l₁:=FILE)
  rw[Le hp,hd]at e;unfold gl at e;rw[Le h2]at e;cases c with
  |mk f n p l=>simp only at h1 h3 e;subst h1 h3;exact(Lz e).symm
 ·have ht:headText c=CHUNK++aJ c.name c.params:=by
   unfold headText aJ;rw[Ld (by rw[h1];decide)]
  have hn:¬FILE.isPrefixOf (headText c)=true:=by rw[ht,qV,nO];intro q;have q:((64:UInt8)==64&&((102:UInt8)==99&&_))=true:=q;simp at q
  have hp:CHUNK.isPrefixOf (headText c)=true:=by rw[ht,Nz];exact Qo _ _
  have hd:(headText c).drop 7=aJ c.name c.params:=by rw[ht];exact Rr (l₁:=CHUNK)
  rw[Ld hn,Le hp,hd]at e;unfold dY at e;rw[ir h2 (λ x hx=>gT (h3 x hx) (by decide))]at e;have e:(if dv c.params=true then some ({isFile:=false,name:=c.name,params:=c.params,lines:=[]}:Chunk) else none)=some c0:=e;by_cases h5:dv c.params=true
  ·rw[Le h5]at e;have e:=Lz e;rw[<-e];cases c with
   |mk f n p l=>simp only at h1;subst h1;rfl
  ·rw[Ld h5]at e;cases e
theorem iL(c:Chunk):qU (headText c)=false:=by
 unfold headText qU;split
 ·rw[qV];rfl
 ·rw[nO];rfl
theorem zg{c:Chunk}(h:oQ c):10∉headText c:=by
 rcases h with⟨h1,h2,h3⟩ |⟨h1,h2,h3⟩
 ·have ht:headText c=FILE++c.name:=by unfold headText;rw[Le h1]
  rw[ht,Mg,Qu];exact⟨by rw[qV];decide,Dm h2 (by decide)⟩
 ·have ht:headText c=CHUNK++aJ c.name c.params:=by
   unfold headText aJ;rw[Ld (by rw[h1];decide)]
  rw[ht,Mg,Qu];exact⟨by rw[nO];decide,hU (nN h2 (by decide) (by decide)) (λ x hx=>gT (h3 x hx) (by decide)) (by decide) (by decide) (by decide) (by decide)⟩
theorem xz{p:Piece}(h:cW p):10∉pieceText p:=by
 cases p with
 |lit t=>
  intro m;have m:10∈t.flatMap λ b=>if b=64 then[64,64] else[b]:=m
  rw[Pc]at m;obtain⟨b,hb,hm⟩:=m;split at hm
  ·simp at hm
  ·rw[Lu]at hm;exact h.2 (hm▸hb)
 |use n as=>
  have e:pieceText (.use n as)=[64,123]++(aJ n as++[125]):=by show[64,123]++(n++((if as.isEmpty=true then[] else 40::(glued SEP as++[41]))++[125]))=_;unfold aJ;simp
  rw[e];have:=hU (b:=10) (nN h.1 (by decide) (by decide)) (λ x hx=>vL (h.2 x hx) (by decide)) (by decide) (by decide) (by decide) (by decide);simp[this]
 |param n=>have:10∉n:=gT h (by decide);show 10∉[64,60]++(n++[62]);simp[this]
theorem zh{l:Line}(h:eL l):10∉lineText l:=by
 cases l with
 |otherwise=>show 10∉ELSE;rw[vN];decide
 |done=>show 10∉FI;rw[Dq];decide
 |when s=>show 10∉IF++s;rw[Mg,Qu];exact⟨by rw[Ar];decide,gT h (by decide)⟩
 |code qs=>intro m;have m:10∈qs.flatMap pieceText:=m;rw[Pc]at m;obtain⟨q,hq,hm⟩:=m;exact xz (h.1 q hq) hm
def bB:Block->List Text
 |.prose t=>[t]
 |.chunk c=>headText c::(c.lines.map lineText++[END])
theorem xA(b:Block):blockText b=(bB b).flatMap ended:=by
 cases b with
 |prose t=>show ended t=_;simp[bB]
 |chunk c=>show ended (headText c)++(c.lines.flatMap (λ l=>ended (lineText l))++ended END)=(headText c::(c.lines.map lineText++[END])).flatMap ended;rw[Me,Mi,Qj];simp
theorem oR(d:Document):documentText d=(d.flatMap bB).flatMap ended:=by unfold documentText;rw[List.flatMap_assoc];congr 1;funext b;exact xA b
theorem zi{t r:Text}(h:10∉t):cutAt 10 (t++10::r)=t::cutAt 10 r:=by
 induction t with
 |nil=>show cutAt 10 (10::r)=_;rw[fi,Le rfl]
 |cons c t ih=>show cutAt 10 (c::(t++10::r))=_;rw[fi,Ld (λ q=>h (by rw[q];exact .head _)),ih (λ q=>h (.tail _ q))];rfl
theorem iy:∀ls:List Text,(∀l∈ls,10∉l)->cutAt 10 (ls.flatMap ended)=ls++[[]]
 |[],_=>rfl
 |l::ls,h=>by rw[Me];show cutAt 10 ((l++[10])++ls.flatMap ended)=_;rw[My];show cutAt 10 (l++10::ls.flatMap ended)=_;rw[zi (h l (.head _)),iy ls (λ x hx=>h x (.tail _ hx))];rfl
theorem tY{ls:List Text}(h:∀l∈ls,10∉l):linesOf (ls.flatMap ended)=ls.map λ l=>(l,true):=by unfold linesOf;simp only;rw[iy ls h,Nj,Qb,Ni];simp
theorem oS{d:Document}(h:cJ d):∀l∈d.flatMap bB,10∉l:=by
 intro l hl;rw[Pc]at hl;obtain⟨b,hb,hl⟩:=hl;have hw:=h b hb;cases b with
 |prose t=>have hl:l∈[t]:=hl;rw[Lu]at hl;rw[hl];exact hw.2
 |chunk c=>
  have hl:l∈headText c::(c.lines.map lineText++[END]):=hl;rcases Lp.mp hl with rfl |hl
  ·exact zg hw.1
  ·rcases Mg.mp hl with hl |hl
   ·rw[Nw]at hl;obtain⟨x,hx,rfl⟩:=hl;exact zh (hw.2 x hx)
   ·rw[Lu]at hl;rw[hl,GJ];decide
theorem fN{i:Nat}{x:Reading}{t:Text}{r:List (Text×Bool)}{e:Document}(h:linesRead i x ((t,true):: r)=.ok e):∃y,gn x t=.ok y/\linesRead (i+1) y r=.ok e:=by
 have h:(match gn x t with
  |.error n=>.error ⟨i,n⟩
  |.ok y=>linesRead (i+1) y r)=Except.ok e:=h
 cases q:gn x t with
 |error n=>rw[q]at h;cases h
 |ok y=>rw[q]at h;exact⟨y,rfl,h⟩
theorem lB{x y:Reading}{t:Text}(hn:x.now=none)(h:gn x t=.ok y):outerRead x t=.ok y:=by
 unfold gn lineRead at h;split at h
 ·cases h
 ·rw[hn]at h;exact h
theorem lC{x y:Reading}{t:Text}{z:Chunk×List Bool}(hn:x.now=some z)(h:gn x t=.ok y):innerRead x z.1 z.2 t=.ok y:=by
 unfold gn lineRead at h;split at h
 ·cases h
 ·rw[hn]at h;exact h
theorem fA{x y:Reading}{c:Chunk}{l:Line}{ns:List Bool}(h:withLine x c l ns=.ok y):y={x with now:=some ({c with lines:=c.lines++[l]},ns)}:=by
 unfold withLine at h;split at h
 ·cases h
 ·cases h;rfl
theorem Dr{x y:Reading}{c:Chunk}{ns:List Bool}{l:Line}(hw:eL l)(h:innerRead x c ns (lineText l)=.ok y):∃ns',y={x with now:=some ({c with lines:=c.lines++[l]},ns')}:=by
 rw[gQ x c ns (jD hw),lA hw]at h;cases l with
 |otherwise=>
  simp only at h;split at h
  ·exact⟨_,fA h⟩
  ·cases h
 |done=>
  simp only at h;split at h
  ·exact⟨_,fA h⟩
  ·cases h
 |when s=>
  simp only at h;split at h
  ·cases h
  ·exact⟨_,fA h⟩
 |code qs=>
  simp only at h;split at h
  ·exact⟨_,fA h⟩
  ·cases h
theorem uJ{acc:Document}{r:List (Text×Bool)}{e:Document}:∀(ls:List Line) (i:Nat) (c:Chunk) (ns:List Bool),(∀l∈ls,eL l)->linesRead i ⟨acc,some (c,ns)⟩ ((ls.map lineText++[END]).map (λ t=>(t,true))++r)=.ok e->
  ∃j,linesRead j ⟨acc++[.chunk {c with lines:=c.lines++ls}],none⟩ r=.ok e
 |[],i,c,ns,_,h=>by
  obtain⟨y,h1,h2⟩:=fN (t:=END) h;have h3:=lC (z:=(c,ns)) rfl h1;rw[ge]at h3;split at h3
  ·cases h3;refine⟨i+1,?_⟩;rw[Lv];exact h2
  ·cases h3
 |l::ls,i,c,ns,hw,h=>by obtain⟨y,h1,h2⟩:=fN (t:=lineText l) h;obtain⟨ns',rfl⟩:=Dr (hw l (.head _)) (lC (z:=(c,ns)) rfl h1);obtain⟨j,h4⟩:=uJ ls _ _ _ (λ x hx=>hw x (.tail _ hx)) h2;refine⟨j,?_⟩;simp only[My,List.singleton_append]at h4;exact h4
theorem sv:∀(d acc:Document) (i:Nat) (e:Document),cJ d->linesRead i ⟨acc,none⟩ ((d.flatMap bB).map λ t=>(t,true))=.ok e->e=acc++d
 |[],acc,i,e,_,h=>by have h:(Except.ok acc:Except Fault Document)=.ok e:=h;cases h;rw[Lv]
 |b::d,acc,i,e,hw,h=>by
  have hb:=hw b (.head _);have hd:cJ d:=λ x hx=>hw x (.tail _ hx);rw[Me,Mh]at h;cases b with
  |prose t=>
   obtain⟨y,h1,h2⟩:=fN (t:=t) h;have h3:=lB rfl h1;have h4:outerRead ⟨acc,none⟩ t=if 200<=acc.length then .error 6 else .ok ⟨acc++[.prose t],none⟩:=by unfold outerRead;simp only;rw[Le (show(t.head? != some 64||([64,64]:Text).isPrefixOf t)=true from hb.1)];rfl
   rw[h4]at h3;split at h3
   ·cases h3
   ·cases h3;have:=sv d _ _ e hd h2;rw[this];simp
  |chunk c=>
   obtain⟨y,h1,h2⟩:=fN (t:=headText c) h;have h3:=lB rfl h1;have hnp:¬(((headText c).head? != some 64||([64,64]:Text).isPrefixOf (headText c))=true):=by have:=iL c;unfold qU at this;rw[this];decide
   unfold outerRead at h3;simp only at h3;rw[Ld hnp]at h3;cases hc:headOf (headText c) with
   |none=>rw[hc]at h3;cases h3
   |some c0=>
    rw[hc]at h3;have e0:=By hb.1 hc;simp only at h3;split at h3
    ·cases h3
    ·split at h3
     ·cases h3;obtain⟨j,h5⟩:=uJ c.lines _ c0 [] hb.2 h2;have:=sv d _ _ e hd h5;rw[this,e0];simp
     ·cases h3
theorem Bz{d e:Document}(hw:cJ d)(h:readDocument (documentText d)=.ok e):e=d:=by unfold readDocument at h;rw[oR,tY (oS hw)]at h;have:=sv d [] 1 e hw h;simpa using this
theorem tZ{d:Document}(hw:cJ d):isDocument d=(decide ((documentText d).length<=20000)&&match readDocument (documentText d) with
  |.ok _=>true
  |.error _=>false):=by
 unfold isDocument;show(decide ((documentText d).length<=20000)&&_)=_;congr 1;cases h:readDocument (documentText d) with
 |error f=>rfl
 |ok e=>rw[Bz hw h];simp
def uK(ps:List Piece):Prop:=∀q,ps.getLast?=some q->gG q=false
theorem mD:∀{ps:List Piece} {q:Piece},apart ps->(gG q=true->uK ps)->apart (ps++[q])
 |[],q,_,_=>⟨λ _ x hx=>(by cases hx),trivial⟩
 |[p],q,h,he=>by
  refine⟨λ hp x hx=>?_,λ _ x hx=>(by cases hx),trivial⟩;have hx:some q=some x:=hx;cases hx;cases hq:gG q with
  |false=>rfl
  |true=>have:=he hq p rfl;rw[this]at hp;cases hp
 |p::r::ps,q,h,he=>by refine⟨λ hp x hx=>h.1 hp x hx,?_⟩;exact mD (ps:=r::ps) h.2 λ hq x hx=>he hq x (by rw[List.getLast?_cons_cons];exact hx)
structure gy(x:Scan):Prop where
 wf:∀p∈x.pieces,cW p
 ap:apart x.pieces
 en:uK x.pieces
 lit:10∉x.lit
theorem gy.with{x:Scan}(h:gy x):(∀p∈withLit x,cW p)/\apart (withLit x):=by
 unfold withLit;split
 ·exact⟨h.wf,h.ap⟩
 ·rename_i hl;refine⟨λ p hp=>?_,mD h.ap λ _=>h.en⟩;rcases Mg.mp hp with hp |hp
  ·exact h.wf p hp
  ·rw[Lu]at hp;subst hp;exact⟨λ q=>hl (by rw[q];rfl),h.lit⟩
theorem gy.put{x:Scan}(h:gy x){p:Piece}(hp:cW p)(hn:gG p=false):gy ⟨withLit x++[p],[],.plain⟩:=by
 obtain⟨h1,h2⟩:=h.with;refine⟨λ q hq=>?_,mD h2 (λ q=>by rw[hn]at q;cases q),λ q hq=>?_,by simp⟩
 ·rcases Mg.mp hq with hq |hq
  ·exact h1 q hq
  ·rw[Lu]at hq;rw[hq];exact hp
 ·have hq:(withLit x++[p]).getLast?=some q:=hq;rw[Ni]at hq;cases hq;exact hn
theorem lW{t n:Text}{es:List Text}(h:bP t=some (n,es)):isName n=true:=by
 unfold bP at h;simp only at h;by_cases hn:isName (t.takeWhile λ b=>b != 40)=false
 ·rw[Le hn]at h;cases h
 ·rw[Ld hn]at h;have e:n=t.takeWhile λ b=>b != 40:=by
   cases hd:t.drop (t.takeWhile λ b=>b != 40).length with
   |nil=>rw[hd]at h;cases h;rfl
   |cons c r=>
    rw[hd]at h;simp only at h;split at h
    ·cases he:ku [] r.dropLast with
     |none=>rw[he]at h;cases h
     |some l=>rw[he]at h;cases h;rfl
    ·cases h
  rw[e];simpa using hn
theorem Ds{t:Text}{p:Piece}(h:useOf t=some p):cW p/\gG p=false:=by
 rw[gL]at h;cases hc:bP t with
 |none=>rw[hc]at h;cases h
 |some z=>
  obtain⟨n,es⟩:=z;rw[hc]at h;have h:(if es.all isArgument=true then some (Piece.use n es) else none)=some p:=h;split at h
  ·rename_i ha;cases h;exact⟨⟨lW hc,Nk.mp ha⟩,rfl⟩
  ·cases h
theorem Fd{x y:Scan}{b:UInt8}(h:gy x)(hb:b≠10)(e:feed x b=some y):gy y:=by
 obtain⟨ps,l,a⟩:=x;cases a with
 |plain=>
  have e:some (if b=64 then(⟨ps,l,.mark⟩: Scan) else⟨ps,l++[b],.plain⟩)=some y:=e;cases e;split
  ·exact⟨h.wf,h.ap,h.en,h.lit⟩
  ·refine⟨h.wf,h.ap,h.en,?_⟩;have:=h.lit;simp only[Mg,Lu,Qu];exact⟨this,λ q=>hb q.symm⟩
 |mark=>
  have e:(if b=64 then some (⟨ps,l++[64],.plain⟩: Scan) else if b=123 then some ⟨ps,l,.using_ []⟩ else if b=60 then some ⟨ps,l,.naming []⟩ else none)=some y:=e;split at e
  ·cases e;refine⟨h.wf,h.ap,h.en,?_⟩;have:=h.lit;simp only[Mg,Lu,Qu];exact⟨this,by decide⟩
  ·split at e
   ·cases e;exact⟨h.wf,h.ap,h.en,h.lit⟩
   ·split at e
    ·cases e;exact⟨h.wf,h.ap,h.en,h.lit⟩
    ·cases e
 |using_ u=>
  rw[kD]at e;split at e
  ·cases hu:useOf u with
   |none=>rw[hu]at e;cases e
   |some p=>rw[hu]at e;cases e;obtain⟨h1,h2⟩:=Ds hu;exact gy.put (x:=⟨ps,l,.plain⟩) ⟨h.wf,h.ap,h.en,h.lit⟩ h1 h2
  ·cases e;exact⟨h.wf,h.ap,h.en,h.lit⟩
 |naming u=>
  rw[kG]at e;split at e
  ·split at e
   ·rename_i hs;cases e;exact gy.put (x:=⟨ps,l,.plain⟩) ⟨h.wf,h.ap,h.en,h.lit⟩ hs rfl
   ·cases e
  ·cases e;exact⟨h.wf,h.ap,h.en,h.lit⟩
theorem As:∀{t:Text} {x y:Scan},gy x->10∉t->scan x t=some y->gy y
 |[],x,y,h,_,e=>by cases e;exact h
 |b::t,x,y,h,hb,e=>by
  rw[dX]at e;cases hf:feed x b with
  |none=>rw[hf]at e;cases e
  |some z=>rw[hf]at e;exact As (Fd h (λ q=>hb (by rw[q];exact .head _)) hf) (λ q=>hb (.tail _ q)) e
theorem BA{t:Text}{ps:List Piece}(h10:10∉t)(h:piecesOf t=some ps):(∀q∈ps,cW q)/\apart ps:=by
 rw[nB]at h;unfold gx at h;cases hs:scan ⟨[],[],.plain⟩ t with
 |none=>rw[hs]at h;cases h
 |some x=>
  rw[hs]at h;have ok:gy x:=As (x:=⟨[],[],.plain⟩) ⟨λ _ h=>(by cases h),trivial,λ _ h=>(by cases h),(by simp)⟩ h10 hs;have h:(match x.at_ with
   |.plain=>some (withLit x)
   |_=>none)=some ps:=h
  split at h
  ·cases h;exact ok.with
  ·cases h
theorem At{t:Text}{l:Line}(h10:10∉t)(h:lineOf t=some l):eL l:=by
 unfold lineOf at h;split at h
 ·cases h;trivial
 ·split at h
  ·cases h;trivial
  ·split at h
   ·simp only at h;split at h
    ·rename_i hs;cases h;exact hs
    ·cases h
   ·cases hp:piecesOf t with
    |none=>rw[hp]at h;cases h
    |some ps=>rw[hp]at h;cases h;exact BA h10 hp
theorem Au{t:Text}{c:Chunk}(h:headOf t=some c):oQ c/\c.lines=[]:=by
 rw[iZ]at h;split at h
 ·unfold gl at h;split at h
  ·rename_i hp;cases h;exact⟨.inl ⟨rfl,hp,rfl⟩,rfl⟩
  ·cases h
 ·split at h
  ·unfold dY at h;cases hc:bP (t.drop 7) with
   |none=>rw[hc]at h;cases h
   |some z=>
    obtain⟨n,es⟩:=z;rw[hc]at h;have h:(if dv es=true then some ({isFile:=false,name:=n,params:=es,lines:=[]}:Chunk) else none)=some c:=h;split at h
    ·rename_i ho;cases h;refine⟨.inr ⟨rfl,lW hc,λ p hp=>?_⟩,rfl⟩;rw[pO,Li,Nk]at ho;exact ho.1 p hp
    ·cases h
  ·cases h
structure vO(x:Reading):Prop where
 bl:cJ x.blocks
 now:∀z,x.now=some z->iw z.1
theorem pR{t:Text}(h:t.all isSign=true):10∉t:=nM h (by decide)
theorem Fe{x y:Reading}{t:Text}(h:vO x)(e:gn x t=.ok y):vO y:=by
 have hs:t.all isSign=true:=by
  unfold gn lineRead at e;split at e
  ·cases e
  ·rename_i hq;have:(t.all isSign&&decide (t.length<=LONG))=true:=by simpa using hq
   rw[Li]at this;exact this.1
 have h10:=pR hs;cases hn:x.now with
 |none=>
  have e2:=lB hn e;unfold outerRead at e2;simp only at e2;split at e2
  ·rename_i hp;split at e2
   ·cases e2
   ·cases e2;refine⟨λ b hb=>?_,λ z hz=>h.now z hz⟩;rcases Mg.mp hb with hb |hb
    ·exact h.bl b hb
    ·rw[Lu]at hb;rw[hb];exact⟨hp,h10⟩
  ·cases hc:headOf t with
   |none=>rw[hc]at e2;cases e2
   |some c=>
    rw[hc]at e2;simp only at e2;split at e2
    ·cases e2
    ·split at e2
     ·cases e2;refine⟨h.bl,λ z hz=>?_⟩;cases hz;obtain⟨h1,h2⟩:=Au hc;refine⟨h1,λ l hl=>?_⟩;rw[h2]at hl;cases hl
     ·cases e2
 |some z=>
  obtain⟨c,ns⟩:=z;have e2:=lC hn e;have hz:=h.now _ hn;by_cases he:t=END
  ·subst he;rw[ge]at e2;split at e2
   ·cases e2;refine⟨λ b hb=>?_,λ z hz=>by cases hz⟩;rcases Mg.mp hb with hb |hb
    ·exact h.bl b hb
    ·rw[Lu]at hb;rw[hb];exact hz
   ·cases e2
  ·simp only at e2;rw[gQ x c ns he]at e2;have eW:∀{l:Line} {ns':List Bool},eL l->withLine x c l ns'=.ok y->vO y:=by
    intro l ns' hw hq;rw[fA hq];refine⟨h.bl,λ z hz'=>?_⟩;cases hz';refine⟨hz.1,λ l' hl=>?_⟩;rcases Mg.mp hl with hl |hl
    ·exact hz.2 l' hl
    ·rw[Lu]at hl;rw[hl];exact hw
   cases hl:lineOf t with
   |none=>rw[hl]at e2;cases e2
   |some l=>
    rw[hl]at e2;have hw:=At h10 hl;cases l with
    |otherwise=>
     simp only at e2;split at e2
     ·exact eW hw e2
     ·cases e2
    |done=>
     simp only at e2;split at e2
     ·exact eW hw e2
     ·cases e2
    |when s=>
     simp only at e2;split at e2
     ·cases e2
     ·exact eW hw e2
    |code qs=>
     simp only at e2;split at e2
     ·exact eW hw e2
     ·cases e2
theorem nP:∀(ls:List (Text×Bool)) (i:Nat) (x:Reading) (d:Document),vO x->linesRead i x ls=.ok d->cJ d
 |[],i,x,d,h,e=>by
  have e:(if x.now.isSome=true then(.error ⟨i,8⟩: Except Fault Document) else .ok x.blocks)=.ok d:=e;split at e
  ·cases e
  ·cases e;exact h.bl
 |(t,b):: ls,i,x,d,h,e=>by
  have e:(match lineRead x (t,b) with
   |.error n=>(.error ⟨i,n⟩: Except Fault Document)
   |.ok y=>linesRead (i+1) y ls)=.ok d:=e
  cases b with
  |false=>have:lineRead x (t,false)=.error 1:=rfl;rw[this]at e;cases e
  |true=>
   cases hq:lineRead x (t,true) with
   |error n=>rw[hq]at e;cases e
   |ok y=>rw[hq]at e;exact nP ls _ y d (Fe h hq) e
theorem Av{t:Text}{d:Document}(h:readDocument t=.ok d):cJ d:=
 nP _ _ _ d ⟨λ _ h=>(by cases h),λ _ h=>(by cases h)⟩ h
end Tw
namespace Tw
open PySem PySem.Spec PyProof.Rows L2
open Valita (Document blockText documentText isDocument)
structure zj(ad:Ad)(H:Hp)(p:Addr)(d:Document)(dx:Addr)(fs:List (Str×V))(bl:Addr):Prop where
 ins:H p=some (.ins ad.h dx fs)
 has:io fs [("blocks",.ref bl)]
 few:fs.length<=20
 only:∀f,f∉(["blocks"]:List Str)->fs.lookup f=none
 doc:iY ad (bS [p] H) bl d
 wf:cJ d
 fit:(documentText d).length<=20000
def cH(ad:Ad)(H:Hp)(p:Addr)(d:Document):Prop:=∃dx fs bl,zj ad H p d dx fs bl
def cg(p:Addr)(H H':Hp):Prop:=ae (bS [p] H) (bS [p] H')
theorem cg.trans{p:Addr}{H H1 H2:Hp}(a:cg p H H1)(b:cg p H1 H2):cg p H H2:=ae.trans a b
theorem ae.beside{p:Addr}{H H':Hp}(s:ae H H'):cg p H H':=aU s
theorem cg.at{p b:Addr}{o:HO}{H H':Hp}(s:cg p H H')(n:b≠p)(h:H b=some o):H' b=some o:=
 (cQ (s b o (by rw[bE (by simpa using n)];exact h))).2
theorem zj.same{ad:Ad}{H H':Hp}{p:Addr}{d:Document}{dx:Addr}{fs:List (Str×V)}{bl:Addr}(h:zj ad H p d dx fs bl)(s:ae H H'):zj ad H' p d dx fs bl:=
 ⟨s _ _ h.ins,h.has,h.few,h.only,h.doc.same (aU s),h.wf,h.fit⟩
theorem cH.same{ad:Ad}{H H':Hp}{p:Addr}{d:Document}(h:cH ad H p d)(s:ae H H'):cH ad H' p d:=by obtain⟨dx,fs,bl,h⟩:=h;exact⟨dx,fs,bl,h.same s⟩
theorem zj.put{ad:Ad}{H:Hp}{p:Addr}{d e:Document}{dx:Addr}{fs:List (Str×V)}{bl l:Addr}(h:zj ad H p d dx fs bl)(hd:iY ad (bS [p] H) l e)(hw:cJ e)(hf:(documentText e).length<=20000):
  zj ad (upd H p (.ins ad.h dx (bH "blocks" (.ref l) fs))) p e dx (bH "blocks" (.ref l) fs) l:=
 ⟨ab,qT (λ q hq n=>absurd (by simpa using Na Prod.fst (Lu.mp hq)) n) (λ q hq _=>by rw[Lu.mp hq]),by rw[sj h.has.a];exact h.few,gm h.only (.head _),by rw[cf (.head _)];exact hd,hw,hf⟩
theorem eM{p:Addr}{o:HO}{H:Hp}:cg p H (upd H p o):=by unfold cg;rw[cf (.head _)];exact ae.refl _
theorem bM(d:Document):d.length<=(documentText d).length:=by
 induction d with
 |nil=>exact Lf _
 |cons b d ih=>
  have h1:1<=(blockText b).length:=by
   cases b with
   |prose t=>show 1<=(t++[10]).length;simp
   |chunk c=>rw[dr];simp;omega
  have h2:documentText (b::d)=blockText b++documentText d:=rfl;rw[h2,La,Lg];omega
variable{P:Program}{w:World}{K:PySem.W.Frag}{mg:Str->Option Value}{base:Heap}{ad:Ad}
def vP(ad:Ad):Sp:=λ vs H Q _=>∃p dx H1,vs=[.ref p]/\H=upd (upd H1 dx (.own p)) p (.ins ad.h dx [])/\H1 p=none/\H1 dx=none/\dx≠p/\
 ∀H',ae H1 H'->cH ad H' p []->Q .non H'
theorem xB(T:bX K mg ad):jN P w K mg base 1 "Document" ad.h ["self"] (vP ad):=by
 refine eS T.be T.K5 (N:=["self"]) cj λ l H vs Q E hr hu6 hu nd h=>?_;obtain⟨p,dx,H1,rfl,rfl,np,ndx,hne,k⟩:=h;refine⟨_,(ac (bw aH (aG aF) rfl)),?_⟩;generalize hH:upd (upd H1 dx (.own p)) p (.ins ad.h dx [])=H;have hp:H p=some (.ins ad.h dx []):=by rw[<-hH];exact ab
 have s0:ae H1 H:=by rw[<-hH];exact ae.upd (ae.new ndx) np
 refine⟨Lj _,λ bl hbl=>?_⟩;have pb:p≠bl:=ay hp hbl;refine⟨_,rfl,qs (by rw[am pb];exact hp) T.be.cl T.c5 (by decide) ?_⟩;refine k _ (ae.upd (ae.upd s0 (s0.free hbl)) np) ⟨dx,_,bl,⟨ab,HQ,Ln (vz _ _) (by decide),λ f hf=>?_,?_,λ b h=>(by cases h),Lj _⟩⟩
 ·rw[fw,Ld (λ q=>hf (by rw[q];exact .head _))];rfl
 ·rw[cf (.head _)];exact⟨[],by rw[bE (by simpa using pb.symm)];exact ab,.nil,Lj _⟩
def sw(ad:Ad):Sp:=λ vs H Q _=>∃p l d0 d,vs=[.ref p,.ref l]/\cH ad H p d0/\iY ad (bS [p] H) l d/\cJ d/\(documentText d).length<=gS/\
 (isDocument d=false->∀H',ae H H'->Q (.bl false) H')/\
 (isDocument d=true->∀H',cg p H H'->cH ad H' p d->Q (.bl true) H')
theorem df(T:bX K mg ad):jO P w K mg base 13 ad.h "hold" ["self","blocks"] (sw ad):=by
 refine eT T.be T.K6 (N:=["self","blocks","text"]) cj λ l H vs Q E hr hu6 hu nd h=>?_;obtain⟨p,l,d0,d,rfl,⟨dx,fs,bl,D⟩,hl,hw,hz,kF,kT⟩:=h;have hq:=tZ hw;refine⟨_,(aa (bf 2 nd (az (eJ T) hr (aD aQ)))
   (aa (aA (aq lU (bR T.a7 aj (aD bJ)) (af T.u9) (ax _)) (ac (ah kb)) ak)
   (aa (aA (aq iR (aC (az (jB T) hr (aD bJ))) (af T.f7) (ax _)) (ac (ah kb)) ak)
   (aa (bw aH aQ rfl)
   (ac (ah kb)))))),?_⟩
 refine⟨_,rfl,l,d,rfl,hl.same aK,hz,λ t H1 s1 nt ht=>?_⟩;have lt:((bT (documentText d)).length:Int)=((documentText d).length:Int):=by rw[ao]
 refine⟨_,rfl,ql (.inl (SqL.of ht)) (qn ⟨_,rfl,au (λ h1=>?_) λ h1=>?_⟩)⟩
 ·refine kF ?_ _ s1;have h2:=Lh h1;rw[hq,Mn (by omega)];rfl
 ·have h2:(documentText d).length<=20000:=by
   rcases Sh 20000 (documentText d).length with q |q
   ·exact absurd (Ll (show(20000:Int)<((bT (documentText d)).length:Int) by omega)) h1
   ·exact q
  rw[Ll h2,Os]at hq;refine⟨_,rfl,_,documentText d,rfl,.inr ⟨t,rfl,ht,hz⟩,λ fl u b2 H2 e2 s2 r2 n2=>?_,λ e u b2 H2 e2 s2 r2 hd2 nb2 z2=>?_⟩
  ·obtain⟨a,dx2,fs2,rfl,hu2,hf2⟩:=r2;refine⟨a,_,dx2,fs2,_,rfl,hu2,T.d6.cl,T.g6,hf2.c,rfl,_,rfl,au (λ _=>?_) λ h3=>?_⟩
   ·rw[e2]at hq;exact kF hq _ (s1.trans s2)
   ·refine absurd ?_ h3;show(!decide (V.int (fl.reason:Int)=V.int 0))=true;rw[Ou,Mn];intro q;injection q with q
    omega
  ·obtain⟨a,dx2,fs2,rfl,hu2,hf2⟩:=r2;refine⟨a,_,dx2,fs2,_,rfl,hu2,T.d6.cl,T.g6,hf2.c,rfl,_,rfl,au (λ h3=>by simp at h3) λ _=>?_⟩;rw[e2]at hq;have D2:=D.same (s1.trans s2);refine⟨_,rfl,_,rfl,qs D2.ins T.be.cl T.c5 (Lq D2.few (by decide)) ?_⟩;exact kT hq _ ((ae.beside (s1.trans s2)).trans eM) ⟨dx,_,l,D2.put (hl.same (aU (s1.trans s2))) hw h2⟩
def kM(d:Document)(i:Int):V:=if i<0 then .int (-2) else match d[i.toNat]? with
 |none=>.int (-2)
 |some (.prose _)=>.int (-3)
 |some (.chunk _)=>.non
def BB(ad:Ad):Sp:=λ vs H Q _=>∃p i d,vs=[.ref p,.int i]/\cH ad H p d/\Q (kM d i) H
theorem kP{d:Document}{i:Int}(h:i<0):kM d i=.int (-2):=by unfold kM;rw[Le h]
theorem jE(d:Document)(i:Nat):kM d (i:Int)=match d[i]? with
  |none=>.int (-2)
  |some (.prose _)=>.int (-3)
  |some (.chunk _)=>.non:=by
 unfold kM;rw[Ld (by omega),Nh]
theorem fc(T:bX K mg ad):jO P w K mg base 2 ad.h "part_refusal" ["self","i"] (BB ad):=by
 refine eT T.be T.K7 (N:=["self","i"]) cj λ l H vs Q E hr hu6 hu nd h=>?_;obtain⟨p,i,d,rfl,⟨dx,fs,bl,D⟩,k⟩:=h;obtain⟨ws,hb,pb,zb⟩:=D.doc;have hb0:=aK _ _ hb;have lw:=ai pb;refine⟨_,(aa (aA (bO (gY dE pD al aQ (bR T.a7 aj (aD (aC aH))))) (ac (ah (af T.g5))) ak)
   (aa (aA (bO (bi (az (fW T) hr (aD (bv bb (aC aH) aQ (λ _ _=>rfl)))))) (ac (ah (af T.i7))) ak)
   (ac (ah eA)))),?_⟩
 refine⟨_,rfl,qn ⟨_,rfl,au (λ h1=>(qf D.ins T.be.cl T.c5 D.has.a (ql (.inl (SqL.of hb0)) (qn ⟨_,rfl,au (λ h2=>?_) λ h2=>?_⟩)))) λ h1=>⟨_,rfl,au (λ h2=>?_) λ h2=>?_⟩⟩⟩
 ·have h1:=Lh h1;have h2:(ws.length:Int)<=i:=by simpa using h2
  obtain⟨i,rfl⟩:=Mv h1;have e:=jE d i;rw[Oj (by omega)]at e;rw[e]at k;exact k
 rotate_left
 ·have h1:i<0:=by simpa using h1
  rw[kP h1]at k;exact k
 ·exact absurd rfl h2
 have h1:=Lh h1;have h2:i<(ws.length:Int):=by simpa using h2
 obtain⟨i,rfl⟩:=Mv h1;have hi:i<ws.length:=by omega
 have hw:ws[i]?=some ws[i]:=Mt hi;obtain⟨b,hd,rb⟩:=aZ pb hw;generalize ws[i]=x at hw rb;have e:=jE d i;rw[hd]at e;rw[e]at k;refine qf D.ins T.be.cl T.c5 D.has.a ?_;refine⟨_,rfl,qi (SqL.of hb0) (aT hw) ?_⟩;refine⟨x,b,rfl,rb.same aK,_,rfl,au (λ h3=>?_) λ h3=>?_⟩
 ·cases b with
  |prose _=>exact k
  |chunk c=>cases h3
 ·cases b with
  |prose _=>exact absurd rfl h3
  |chunk c=>exact k
end Tw
namespace Tw
open Valita
theorem sx:∀(n:Nat) (t w:Text) (es:List Text),t.length<=n->ku w t=some es->es≠[]/\glued SEP es=w++t
 |_,[],w,es,_,h=>by cases h;exact⟨by simp,by show w=w++[];simp⟩
 |0,c::r,w,es,hn,h=>by simp at hn
 |n+1,c::r,w,es,hn,h=>by
  rw[kx]at h;have hn:r.length<=n:=by simpa using hn
  split at h
  ·rename_i hc;cases r with
   |nil=>cases h
   |cons d r'=>
    simp only at h;split at h
    ·rename_i hd;cases he:ku [] r' with
     |none=>rw[he]at h;cases h
     |some l=>
      rw[he]at h;cases h;obtain⟨h1,h2⟩:=sx n r' [] l (by simp at hn;omega) he;cases l with
      |nil=>exact absurd rfl h1
      |cons a l=>refine⟨by simp,?_⟩;show w++(SEP++glued SEP (a::l))=_;rw[h2,hc,hd];rfl
    ·cases h
  ·obtain⟨h1,h2⟩:=sx n r (w++[c]) es hn h;exact⟨h1,by rw[h2];simp⟩
theorem jU{p:UInt8->Bool}{c:UInt8}{r:Text}:∀{t:Text},t.dropWhile p=c::r->p c=false
 |[],h=>by cases h
 |b::t,h=>by
  rw[List.dropWhile_cons]at h;split at h
  ·exact jU h
  ·rename_i hb;cases h;simpa using hb
theorem pS{t n:Text}{es:List Text}(h:bP t=some (n,es)):aJ n es=t:=by
 unfold bP at h;simp only at h;by_cases hn:isName (t.takeWhile λ b=>b != 40)=false
 ·rw[Le hn]at h;cases h
 ·rw[Ld hn]at h;have ea:(t.takeWhile λ b=>b != 40)++t.drop (t.takeWhile λ b=>b != 40).length=t:=List.prefix_iff_eq_append.mp (List.takeWhile_prefix _);have eb:t.drop (t.takeWhile λ b=>b != 40).length=t.dropWhile λ b=>b != 40:=by
   have:=List.takeWhile_append_dropWhile (p:=λ b=>b != 40) (l:=t);exact Rt (ea.trans this.symm)
  cases hd:t.drop (t.takeWhile λ b=>b != 40).length with
  |nil=>rw[hd]at h ea;cases h;show _++[]=t;exact ea
  |cons c r=>
   rw[hd]at h ea;have hc:c=40:=by have:=jU (eb.symm.trans hd);simpa using this
   simp only at h;split at h
   ·rename_i hl;cases he:ku [] r.dropLast with
    |none=>rw[he]at h;cases h
    |some l=>
     rw[he]at h;cases h;obtain⟨h1,h2⟩:=sx _ _ _ _ (Lf _) he;have hr:r.dropLast++[41]=r:=by
      cases r with
      |nil=>cases hl
      |cons x r=>
       rw[List.getLast?_eq_some_getLast (by simp)]at hl;injection hl with hl
       rw[<-hl];exact List.dropLast_concat_getLast _
     unfold aJ;rw[Ld (by simpa using h1),h2,Oa,hr];rw[hc]at ea;exact ea
   ·cases h
theorem Dt{t:Text}{p:Piece}(h:useOf t=some p):pieceText p=[64,123]++(t++[125]):=by
 rw[gL]at h;cases hc:bP t with
 |none=>rw[hc]at h;cases h
 |some z=>
  obtain⟨n,es⟩:=z;rw[hc]at h;have h:(if es.all isArgument=true then some (Piece.use n es) else none)=some p:=h;split at h
  ·cases h;rw[<-pS hc];show[64,123]++(n++((if es.isEmpty=true then[] else 40::(glued SEP es++[41]))++[125]))=_;unfold aJ;simp
  ·cases h
def qx:Place->Text
 |.plain=>[]
 |.mark=>[64]
 |.using_ t=>[64,123]++t
 |.naming t=>[64,60]++t
def sy(x:Scan):Text:=piecesText (withLit x)++qx x.at_
theorem bj(ps:List Piece)(l:Text)(a:Place):piecesText (withLit ⟨ps,l,a⟩)=piecesText ps++pieceText (.lit l):=by
 unfold withLit;simp only;split
 ·rename_i h;rw[Oh]at h;subst h;show _=_++([]:Text);simp
 ·unfold piecesText;rw[Mi];simp
theorem xC(l:Text)(b:UInt8):pieceText (.lit (l++[b]))=pieceText (.lit l)++(if b=64 then[64,64] else[b]):=by show(l++[b]).flatMap _=l.flatMap _++_;rw[Mi];simp
theorem pU(ps:List Piece)(p:Piece):piecesText (ps++[p])=piecesText ps++pieceText p:=by unfold piecesText;rw[Mi];simp
theorem Aw:pieceText (.lit [])=[]:=rfl
theorem BC{x y:Scan}{b:UInt8}(e:feed x b=some y):sy y=sy x++[b]:=by
 obtain⟨ps,l,a⟩:=x;unfold sy;cases a with
 |plain=>
  have e:some (if b=64 then(⟨ps,l,.mark⟩: Scan) else⟨ps,l++[b],.plain⟩)=some y:=e;cases e;split
  ·rename_i hb;rw[bj,bj,hb];simp[qx]
  ·rename_i hb;rw[bj,bj,xC,Ld hb];simp[qx]
 |mark=>
  have e:(if b=64 then some (⟨ps,l++[64],.plain⟩: Scan) else if b=123 then some ⟨ps,l,.using_ []⟩ else if b=60 then some ⟨ps,l,.naming []⟩ else none)=some y:=e;split at e
  ·rename_i hb;cases e;rw[bj,bj,xC,Le rfl,hb];simp[qx]
  ·split at e
   ·rename_i hb;cases e;rw[bj,bj,hb];simp[qx]
   ·split at e
    ·rename_i hb;cases e;rw[bj,bj,hb];simp[qx]
    ·cases e
 |using_ t=>
  have e:(if b=125 then(useOf t).map (λ p=>(⟨withLit ⟨ps,l,.using_ t⟩++[p],[],.plain⟩: Scan)) else some ⟨ps,l,.using_ (t++[b])⟩)=some y:=e;split at e
  ·rename_i hb;cases hu:useOf t with
   |none=>rw[hu]at e;cases e
   |some p=>rw[hu]at e;cases e;rw[bj,pU,Dt hu,Aw,hb];simp[qx]
  ·cases e;rw[bj,bj];simp[qx]
 |naming t=>
  have e:(if b=62 then(if isShort t=true then some (⟨withLit ⟨ps,l,.naming t⟩++[.param t],[],.plain⟩: Scan) else none) else some ⟨ps,l,.naming (t++[b])⟩)=some y:=e;split at e
  ·rename_i hb;split at e
   ·cases e;rw[bj,pU,Aw,hb];show _++([64,60]++(t++[62]))++[]++qx .plain=_;simp[qx]
   ·cases e
  ·cases e;rw[bj,bj];simp[qx]
theorem uL:∀{t:Text} {x y:Scan},scan x t=some y->sy y=sy x++t
 |[],x,y,h=>by cases h;simp
 |b::r,x,y,h=>by
  have h:((feed x b).bind λ y=>scan y r)=some y:=h;cases hf:feed x b with
  |none=>rw[hf]at h;cases h
  |some z=>rw[hf]at h;rw[uL h,BC hf];simp
theorem xD{t:Text}{ps:List Piece}(h:piecesOf t=some ps):piecesText ps=t:=by
 unfold piecesOf at h;cases hs:scan {pieces:=[],lit:=[],at_:=.plain} t with
 |none=>rw[hs]at h;cases h
 |some x=>
  rw[hs]at h;have h:(match x.at_ with
   |.plain=>some (withLit x)
   |_=>none)=some ps:=h
  have e:=uL hs;split at h
  ·rename_i ha;cases h;have e:sy x=[]++t:=e;unfold sy at e;rw[ha]at e;simpa[qx] using e
  ·cases h
theorem sA{s t:Text}(h:s.isPrefixOf t=true):s++t.drop s.length=t:=List.prefix_iff_eq_append.mp (Nz.mp h)
theorem uM{t:Text}{l:Line}(h:lineOf t=some l):lineText l=t:=by
 unfold lineOf at h;split at h
 ·rename_i ht;cases h;exact ht.symm
 ·split at h
  ·rename_i ht;cases h;exact ht.symm
  ·split at h
   ·rename_i hp;simp only at h;split at h
    ·cases h;exact sA hp
    ·cases h
   ·cases hp:piecesOf t with
    |none=>rw[hp]at h;cases h
    |some ps=>rw[hp]at h;cases h;exact xD hp
theorem BD{t:Text}{c:Chunk}(h:headOf t=some c):headText c=t/\c.lines=[]:=by
 refine⟨?_,(Au h).2⟩;rw[iZ]at h;split at h
 ·rename_i hp;unfold gl at h;split at h
  ·cases h;exact sA hp
  ·cases h
 ·split at h
  ·rename_i hp;unfold dY at h;cases hc:bP (t.drop 7) with
   |none=>rw[hc]at h;cases h
   |some z=>
    obtain⟨n,es⟩:=z;rw[hc]at h;have h:(if dv es=true then some ({isFile:=false,name:=n,params:=es,lines:=[]}:Chunk) else none)=some c:=h;split at h
    ·cases h;rw[dI rfl];show CHUNK++aJ n es=t;rw[pS hc];exact sA hp
    ·cases h
  ·cases h
def lX(x:Reading):Text:=documentText x.blocks++match x.now with
 |none=>[]
 |some z=>ended (headText z.1)++aR z.1.lines
theorem xE(d:Document)(b:Block):documentText (d++[b])=documentText d++blockText b:=by unfold documentText;rw[Mi];simp
theorem zk(ls:List Line)(l:Line):aR (ls++[l])=aR ls++ended (lineText l):=by unfold aR;rw[Mi];simp
theorem BE{x y:Reading}{t:Text}(e:gn x t=.ok y):lX y=lX x++ended t:=by
 cases hn:x.now with
 |none=>
  have e2:=lB hn e;unfold outerRead at e2;simp only at e2;split at e2
  ·split at e2
   ·cases e2
   ·cases e2;unfold lX;simp only;rw[hn,xE];show _++ended t++[]=_;simp
  ·cases hc:headOf t with
   |none=>rw[hc]at e2;cases e2
   |some c=>
    rw[hc]at e2;simp only at e2;split at e2
    ·cases e2
    ·split at e2
     ·cases e2;obtain⟨h1,h2⟩:=BD hc;unfold lX;simp only;rw[hn,h1,h2];show _++(ended t++[])=_;simp
     ·cases e2
 |some z=>
  obtain⟨c,ns⟩:=z;have e2:=lC hn e;by_cases he:t=END
  ·subst he;rw[ge]at e2;split at e2
   ·cases e2;unfold lX;simp only;rw[hn,xE,dr];simp only;show _++_++[]=_;unfold ended;simp
   ·cases e2
  ·simp only at e2;rw[gQ x c ns he]at e2;have eW:∀{l:Line} {ns':List Bool},lineText l=t->withLine x c l ns'=.ok y->lX y=lX x++ended t:=by
    intro l ns' hw hq;rw[fA hq];unfold lX;simp only;rw[hn,zk,hw];have hh:headText {c with lines:=c.lines++[l]}=headText c:=rfl;simp[hh]
   cases hl:lineOf t with
   |none=>rw[hl]at e2;cases e2
   |some l=>
    rw[hl]at e2;have hw:=uM hl;cases l with
    |otherwise=>
     simp only at e2;split at e2
     ·exact eW hw e2
     ·cases e2
    |done=>
     simp only at e2;split at e2
     ·exact eW hw e2
     ·cases e2
    |when s=>
     simp only at e2;split at e2
     ·cases e2
     ·exact eW hw e2
    |code qs=>
     simp only at e2;split at e2
     ·exact eW hw e2
     ·cases e2
theorem kQ:∀(ls:List (Text×Bool)) (i:Nat) (x:Reading) (d:Document),linesRead i x ls=.ok d->documentText d=lX x++ls.flatMap (λ l=>ended l.1)/\∀l∈ls,l.2=true
 |[],i,x,d,e=>by
  have e:(if x.now.isSome=true then(.error ⟨i,8⟩: Except Fault Document) else .ok x.blocks)=.ok d:=e;split at e
  ·cases e
  ·rename_i hn;cases e;refine⟨?_,λ _ h=>by cases h⟩;unfold lX;cases hx:x.now with
   |none=>simp
   |some z=>rw[hx]at hn;exact absurd rfl hn
 |(t,b):: ls,i,x,d,e=>by
  have e:(match lineRead x (t,b) with
   |.error n=>(.error ⟨i,n⟩: Except Fault Document)
   |.ok y=>linesRead (i+1) y ls)=.ok d:=e
  cases b with
  |false=>have:lineRead x (t,false)=.error 1:=rfl;rw[this]at e;cases e
  |true=>
   cases hq:lineRead x (t,true) with
   |error n=>rw[hq]at e;cases e
   |ok y=>
    rw[hq]at e;obtain⟨h1,h2⟩:=kQ ls _ y d e;refine⟨?_,λ l hl=>?_⟩
    ·rw[h1,BE hq];simp
    ·rcases Lp.mp hl with rfl |hl
     ·rfl
     ·exact h2 l hl
theorem sB:∀(t:Text),(cutAt 10 t).dropLast.flatMap ended++(cutAt 10 t).getLastD []=t
 |[]=>rfl
 |b::r=>by
  have ih:=sB r;cases hc:cutAt 10 r with
  |nil=>exact absurd hc (gk 10 r)
  |cons x xs=>
   rw[hc]at ih;by_cases hb:b=10
   ·have e:cutAt 10 (b::r)=[]:: x::xs:=by
     show(if b=10 then[]:: cutAt 10 r else _)=_;rw[Le hb,hc]
    rw[e,List.dropLast_cons_of_ne_nil (by simp),Me];have e2:(([]:Text):: x::xs).getLastD []=(x::xs).getLastD []:=by simp
    rw[e2,My,ih,hb];rfl
   ·have e:cutAt 10 (b::r)=(b::x):: xs:=by
     show(if b=10 then[]:: cutAt 10 r else match cutAt 10 r with
      |w::ws=>(b::w):: ws
      |[]=>[[b]])=_
     rw[Ld hb,hc]
    rw[e];cases xs with
    |nil=>have ih:x=r:=ih;show b::x=b::r;rw[ih]
    |cons y ys=>
     rw[List.dropLast_cons_of_ne_nil (by simp),Me]at ih ⊢;have e2:((b::x):: y::ys).getLastD []=(x::y::ys).getLastD []:=by simp
     rw[e2];show(b::(x++[10]))++_++_=_;have ih:ended x++(y::ys).dropLast.flatMap ended++(x::y::ys).getLastD []=r:=ih;rw[<-ih];rfl
theorem uN{t:Text}{d:Document}(h:readDocument t=.ok d):documentText d=t:=by
 obtain⟨h1,h2⟩:=kQ _ _ _ _ h;have h1:documentText d=(linesOf t).flatMap (λ l=>ended l.1):=h1;rw[h1];unfold linesOf at h2 ⊢;simp only at h2 ⊢;have hl:((cutAt 10 t).getLastD []).isEmpty=true:=by
  cases q:((cutAt 10 t).getLastD []).isEmpty with
  |true=>rfl
  |false=>
   have:=h2 ((cutAt 10 t).getLastD [],false) (by refine Nc _ ?_;rw[q];exact .head _)
   cases this
 rw[Le hl,Lv,Qj];have:=sB t;rw[Oh]at hl;rw[hl,Lv]at this;exact this
end Tw
namespace Tw
open PySem PySem.Spec PyProof.Rows L2
open Valita (Piece Line Chunk Block Document documentText readDocument Out doRead doCut upTo isRange)
theorem jF(xs:List V)(n:Nat):lL xs none (some (n:Int))=xs.take n:=by
 unfold lL;rw[HT.sIx_none,HT.sIx_nat,List.drop_zero,Nat.sub_zero];by_cases h:n<=xs.length
 ·rw[Nr h]
 ·rw[Oo (by omega),Mx (Lf _),Mx (by omega)]
theorem fY(xs:List V)(n:Nat):lL xs (some (n:Int)) none=xs.drop n:=by
 unfold lL;rw[HT.sIx_none,HT.sIx_nat];by_cases h:n<=xs.length
 ·rw[Nr h];exact Mx (by rw[Lw];omega)
 ·rw[Oo (by omega),Qg,Pd,Pp (by omega)]
theorem nQ(xs:List V)(i j:Nat):lL xs (some (i:Int)) (some (j:Int))=(xs.drop i).take (j - i):=by
 unfold lL;rw[HT.sIx_nat,HT.sIx_nat];by_cases h:i<=xs.length
 ·rw[Nr h];by_cases h2:j<=xs.length
  ·rw[Nr h2]
  ·rw[Oo (by omega),Mx (by rw[Lw];omega),Mx (by rw[Lw];omega)]
 ·rw[Oo (by omega:xs.length<=i),Pp (Lf _),Pp (by omega),List.take_nil,List.take_nil]
theorem da{α β:Type}{F:α->β->Prop}:∀{xs:List α} {ys:List β} (n:Nat),Paired F xs ys->Paired F (xs.take n) (ys.take n)
 |_,_,0,_=>.nil
 |_,_,_+1,.nil=>.nil
 |_,_,n+1,.cons r p=>.cons r (da n p)
theorem db{α β:Type}{F:α->β->Prop}:∀{xs:List α} {ys:List β} (n:Nat),Paired F xs ys->Paired F (xs.drop n) (ys.drop n)
 |_,_,0,p=>p
 |_,_,_+1,.nil=>.nil
 |_,_,n+1,.cons _ p=>db n p
theorem eG.offL{ad:Ad}{M:List Addr}{H:Hp}{v:V}{c:Chunk}{a dx:Addr}{fs:List (Str×V)}{v1 v2:V}{ll:Addr}{ws:List V}(h:eG ad H v c a dx fs v1 v2 ll ws)(n:jz ad M H)(ha:a∉M)(hl:ll∉M):eG ad (bS M H) v c a dx fs v1 v2 ll ws:=
 ⟨h.ref,by rw[bE ha];exact h.ins,h.has,h.name.off n.t,h.params.off n.t,by rw[bE hl];exact h.lst,Paired.mapP h.lines λ _ _ q=>q.off n,h.lim⟩
variable{P:Program}{w:World}{K:PySem.W.Frag}{mg:Str->Option Value}{base:Heap}{ad:Ad}
theorem pV(T:bX K mg ad){H:Hp}{p dx:Addr}{fs:List (Str×V)}(hp:H p=some (.ins ad.h dx fs)):jz ad [p] H/\ad.h≠ad.d/\ad.h≠ad.e:=by
 have hd:=T.k8;simp only[Pt,Lp,Op,Rp,Qu]at hd;have e1:ad.h≠ad.b:=λ q=>by rw[q]at hd;simp_all
 have e2:ad.h≠ad.c:=λ q=>by rw[q]at hd;simp_all
 have e3:ad.h≠ad.d:=λ q=>by rw[q]at hd;simp_all
 have e4:ad.h≠ad.e:=λ q=>by rw[q]at hd;simp_all
 refine⟨⟨λ m hm o ho=>?_,λ m hm C dx' fs' h=>?_⟩,e3,e4⟩
 ·rw[Lu.mp hm,hp]at ho;cases ho;rfl
 ·rw[Lu.mp hm,hp]at h;cases h;exact⟨e1,e2⟩
theorem aE.offD(T:bX K mg ad){H:Hp}{p dx:Addr}{fs:List (Str×V)}(hp:H p=some (.ins ad.h dx fs)){v:V}{b:Block}(h:aE ad H v b):aE ad (bS [p] H) v b:=by
 obtain⟨n,n1,n2⟩:=pV T hp;cases b with
 |prose t=>
  obtain⟨a,dx,fs,v1,e,h,hf,r⟩:=h;refine⟨a,dx,fs,v1,e,?_,hf,r.off n.t⟩;rw[bE]
  ·exact h
  ·intro q;rw[Lu.mp q,hp]at h;exact n1 (by injection h with h;injection h)
 |chunk c=>
  obtain⟨a,dx,fs,v1,v2,ll,ws,h⟩:=h;refine⟨a,dx,fs,v1,v2,ll,ws,h.offL n ?_ ?_⟩
  ·intro q;have:=h.ins;rw[Lu.mp q,hp]at this;exact n2 (by injection this with this;injection this)
  ·intro q;have:=h.lst;rw[Lu.mp q,hp]at this;cases this
theorem iY.offD(T:bX K mg ad){H:Hp}{p dx:Addr}{fs:List (Str×V)}(hp:H p=some (.ins ad.h dx fs)){l:Addr}{d:Document}(h:iY ad H l d):iY ad (bS [p] H) l d:=by
 obtain⟨ws,h1,h2,h3⟩:=h;refine⟨ws,?_,Paired.mapP h2 λ _ _ q=>q.offD T hp,h3⟩;rw[bE]
 ·exact h1
 ·intro q;rw[Lu.mp q,hp]at h1;cases h1
def ja:Out->List Int
 |.ok x=>x.2.map fun(n:Nat)=>(n:Int)
 |.error n=>[-(n:Int)]
def Ax(d:Document):Out->Document
 |.ok x=>x.1.doc
 |.error _=>d
def fT(ad:Ad)(H:Hp)(p:Addr)(d:Document)(o:Out)(Q:VK):Prop:=∀l H',cg p H H'->H l=none->H' l=some (.lst ((ja o).map V.int))->cH ad H' p (Ax d o)->Q (.ref l) H'
theorem cg.free{p l:Addr}{H H1:Hp}{o:HO}(s:cg p H H1)(hp:H1 p=some o)(h:H1 l=none):H l=none:=by
 cases e:H l with
 |none=>rfl
 |some u=>
  by_cases q:l=p
  ·rw[q,hp]at h;cases h
  ·rw[s.at q e]at h;cases h
theorem fT.yes{H H1:Hp}{p:Addr}{d d':Document}{o:Out}{Q:VK}{ns:List Nat}{vs:List V}(k:fT ad H p d o Q)(e:o=.ok (⟨d'⟩,ns))(s:cg p H H1)(D:cH ad H1 p d')(hv:vs=ns.map fun(n:Nat)=>V.int (n:Int)){l:Addr}(hl:H1 l=none):
  Q (.ref l) (upd H1 l (.lst vs)):=by
 subst e;obtain⟨dx,fs,bl,D'⟩:=id D;refine k l _ (s.trans (ae.beside (ae.new hl))) (s.free D'.ins hl) ?_ (D.same (ae.new hl));rw[ab,hv];show _=some (HO.lst ((ns.map fun(n:Nat)=>(n:Int)).map V.int));rw[Nl];rfl
theorem fT.no{H H1:Hp}{p:Addr}{d:Document}{o:Out}{Q:VK}{n:Nat}{z:Int}(k:fT ad H p d o Q)(D:cH ad H p d)(e:o=.error n)(s:ae H H1)(hz:z = -(n:Int)){l:Addr}(hl:H1 l=none):
  Q (.ref l) (upd H1 l (.lst [.int z])):=by
 subst e;refine k l _ (ae.beside (s.trans (ae.new hl))) (s.free hl) ?_ (D.same (s.trans (ae.new hl)));rw[ab,hz];rfl
def GK(ad:Ad):Sp:=λ vs H Q _=>∃p v d t,vs=[.ref p,v]/\cH ad H p d/\bN H v t/\fT ad H p d (doRead ⟨d⟩ t) Q
theorem Ff(T:bX K mg ad):aY P w K mg base 13 "read" ["document","text"] (GK ad):=by
 refine T.JX.good (N:=["document","text","reading"]) cj λ l H vs Q E hr hu6 hu nd h=>?_;obtain⟨p,v,d,t,rfl,D,hv,k⟩:=h;obtain⟨a,rfl,ha,hz⟩:=id hv;have lt:((bT t).length:Int)=(t.length:Int):=by rw[ao]
 refine⟨_,(aa (aA (aq lU (bR T.a7 aj (aD aQ)) (af T.u9) (ax _)) (ac (ah (aG (aD (af T.g8))))) ak)
   (aa (bf 2 nd (az (jB T) hr (aD aQ)))
   (aa (aA (aq iR (aC bJ) (af T.f7) (ax _)) (ac (ah (aG (dU (aC bJ) (aC bJ))))) ak)
   (aa (bw aH (aC bJ) rfl)
   (ac (ah (aG (dU al (bR T.a7 aj (aD (aC aH))))))))))),?_⟩
 refine⟨_,rfl,ql (.inr (ci.of ha)) (qn ⟨_,rfl,au (λ h1=>?_) λ h1=>?_⟩)⟩
 ·have h2:=Lh h1;refine⟨by decide,λ l hl=>k.no D ?_ (ae.refl _) rfl hl⟩;unfold doRead;rw[Le (show Valita.BYTES<t.length by show 20000<_;omega)]
 ·have h2:t.length<=20000:=by
   rcases Sh 20000 t.length with q |q
   ·exact absurd (Ll (show(20000:Int)<((bT t).length:Int) by omega)) h1
   ·exact q
  have hq:doRead ⟨d⟩ t=match readDocument t with
    |.error f=>Valita.tell ⟨d⟩ [f.line,f.reason]
    |.ok e=>.ok ({doc:=e},[0,e.length]):=by
   unfold doRead;rw[Ld (show ¬Valita.BYTES<t.length by show ¬20000<_;omega)];rfl
  refine⟨_,rfl,_,t,rfl,.inl hv,λ fl u b2 H2 e2 s2 r2 n2=>?_,λ e u b2 H2 e2 s2 r2 hd2 nb2 z2=>?_⟩
  ·obtain⟨a2,dx2,fs2,rfl,hu2,hf2⟩:=r2;refine qf hu2 T.d6.cl T.g6 hf2.c ?_;refine⟨rfl,_,rfl,au (λ _=>?_) λ h3=>?_⟩
   ·refine qf hu2 T.d6.cl T.z0 hf2.b ?_;refine qf hu2 T.d6.cl T.g6 hf2.c ?_;refine⟨(by show 2<=sizeLine;decide),λ l hl=>k.yes (d':=d) (ns:=[fl.line,fl.reason]) ?_ (ae.beside s2) (D.same s2) rfl hl⟩;rw[hq,e2];rfl
   ·refine absurd ?_ h3;show(!decide (V.int (fl.reason:Int)=V.int 0))=true;rw[Ou,Mn];intro q;injection q with q
    omega
  ·obtain⟨a2,dx2,fs2,rfl,hu2,hf2⟩:=r2;obtain⟨dx,fs,bl,D⟩:=D;have D2:=D.same s2;refine qf hu2 T.d6.cl T.g6 hf2.c ?_;refine⟨rfl,_,rfl,au (λ h3=>by simp at h3) λ _=>?_⟩;refine qf hu2 T.d6.cl T.t0 hf2.a ?_;refine⟨_,rfl,qs D2.ins T.be.cl T.c5 (Lq D2.few (by decide)) ?_⟩;have Dn:=D2.put (l:=b2) (e:=e) (hd2.offD T D2.ins) (Av e2) (by rw[uN e2];exact h2);obtain⟨ws,hb,pb,zb⟩:=Dn.doc;refine qf Dn.ins T.be.cl T.c5 Dn.has.a ?_;refine ql (.inl (SqL.of (aK _ _ hb))) ?_;refine⟨(by show 2<=sizeLine;decide),λ l hl=>k.yes (d':=e) (ns:=[0,e.length]) ?_ ((ae.beside s2).trans eM) ⟨_,_,_,Dn⟩ (by rw[<-ai pb];rfl) hl⟩;rw[hq,e2]
theorem gf{n:Nat}(h:n<=100000):n<=sizeLine:=Ln h (by decide)
def gg(a b:Int)(n:Nat):Bool:=Valita.upTo a n&&Valita.upTo b (n - a.toNat)
theorem jG(a b:Int)(n:Nat):gg a b n=(decide (0<=a)&&decide (a<=(n:Int))&&(decide (0<=b)&&decide (b<=(n:Int) - a))):=by unfold gg Valita.upTo;rw[Ow];simp only[Li,Nv];omega
def BF:Sp:=λ vs H Q _=>∃a b n,vs=[.int a,.int b,.int ((n:Nat):Int)]/\Q (.bl (gg a b n)) H
theorem iM(T:bX K mg ad):aY P w K mg base 1 "is_stretch" ["start","length","whole"] (BF):=by
 refine T.JZ.good (N:=["start","length","whole"]) cj λ l H vs Q E hr hu6 hu nd h=>?_;obtain⟨a,b,n,rfl,k⟩:=h;rw[jG]at k;refine⟨_,(ac (ah (gV (gX dE dE al aH bJ) (fI (gX dE dE al aQ (bu Cp bJ aH)))))),?_⟩;refine⟨_,rfl,qn ⟨_,rfl,au (λ h1=>⟨_,rfl,qn ⟨_,rfl,au (λ h2=>?_) λ h2=>?_⟩⟩) λ h1=>⟨_,rfl,?_⟩⟩⟩
 ·refine⟨_,rfl,qn ⟨_,rfl,au (λ h3=>⟨_,rfl,_,rfl,qn (qn ?_)⟩) λ h3=>?_⟩⟩
  ·rw[h1,h2,h3]at k;exact k
  ·rw[h1,h2,Bool.eq_false_iff.mpr h3]at k;exact k
 ·rw[h1,Bool.eq_false_iff.mpr h2]at k;exact k
 ·rw[Bool.eq_false_iff.mpr h1]at k;exact k
theorem cJ.take{d:Document}(h:cJ d)(n:Nat):cJ (d.take n):=λ b hb=>h b (Qz hb)
theorem cJ.drop{d:Document}(h:cJ d)(n:Nat):cJ (d.drop n):=λ b hb=>h b (List.mem_of_mem_drop hb)
theorem cJ.app{d e:Document}(h:cJ d)(h2:cJ e):cJ (d++e):=λ b hb=>(Mg.mp hb).elim (h b) (h2 b)
theorem dw(d e:Document):documentText (d++e)=documentText d++documentText e:=by unfold documentText;rw[Mi]
theorem fB(d:Document)(n:Nat):(documentText (d.take n)).length+(documentText (d.drop n)).length=(documentText d).length:=by
 conv=>rhs;rw[<-Nd n d,dw,La]
def HU(ad:Ad):Sp:=λ vs H Q _=>∃p i n d,vs=[.ref p,.int i,.int n]/\cH ad H p d/\fT ad H p d (doCut ⟨d⟩ i n) Q
theorem GL(T:bX K mg ad):aY P w K mg base 2 "cut" ["document","i","n"] (HU ad):=by
 refine T.J0.good (N:=["document","i","n","blocks"]) cj λ l H vs Q E hr hu6 hu nd h=>?_;obtain⟨p,i,n,d,rfl,⟨dx,fs,bl,D⟩,k⟩:=h;obtain⟨ws,hb,pb,zb⟩:=D.doc;have hb0:=aK _ _ hb;have lw:=ai pb;have hs:isRange ⟨d⟩ i n=gg i n ws.length:=by rw[lw];rfl
 refine⟨_,(aa (bf 3 nd (aC aH))
   (aa (aA (bO (bi (az (iM T) hr (ag aQ (dU bJ (bR T.a7 aj (aD dF))))))) (ac (ah (aG (aD (af T.g5))))) ak)
   (aa (bw aH (bu eg (aX dN dF cy (aP aQ)) (aX dN dF (aP (bu cq aQ bJ)) cy)) rfl)
   (ac (ah (aG (aD (bR T.a7 aj (aD (aC aH)))))))))),?_⟩
 refine qf D.ins T.be.cl T.c5 D.has.a ?_;refine⟨_,rfl,_,rfl,_,rfl,ql (.inl (SqL.of hb0)) ⟨i,n,ws.length,rfl,_,rfl,au (λ h1=>?_) λ h1=>?_⟩⟩
 ·refine⟨by decide,λ l hl=>k.no ⟨dx,fs,bl,D⟩ ?_ (ae.refl _) rfl hl⟩;unfold doCut;rw[hs,Le (by simpa using h1)]
 ·have h1:gg i n ws.length=true:=by simpa using h1
  have hq:doCut ⟨d⟩ i n=.ok (⟨d.take i.toNat++d.drop (i.toNat+n.toNat)⟩,[d.length - n.toNat]):=by unfold doCut;rw[hs,Ld (by simpa using h1)]
  rw[jG]at h1;simp only[Li,Nv]at h1;obtain⟨i,rfl⟩:=Mv h1.1.1;obtain⟨n,rfl⟩:=Mv h1.2.1;have hz:ws.length<=20000:=by have:=bM d;have:=D.fit;omega
  refine⟨_,rfl,_,rfl,_,rfl,bl,ws,rfl,SqL.of hb0,λ q1 n1=>?_⟩;rw[jF];have s1:ae H (L2.upd H q1 (.lst (ws.take i))):=ae.new n1;refine⟨_,rfl,_,rfl,_,rfl,qn ⟨_,rfl,bl,ws,rfl,SqL.of (s1 _ _ hb0),λ q2 n2=>?_⟩⟩;rw[show((i:Int)+(n:Int))=((i+n:Nat):Int) by omega,fY];have s2:=ae.new (o:=.lst (ws.drop (i+n))) n2;refine qc (s2 _ _ ab) ab (gf (by rw[Lr,Lw];omega)) λ q3 n3=>?_;have s3:=ae.new (o:=.lst (ws.take i++ws.drop (i+n))) n3;have s03:=(s1.trans s2).trans s3;have ne3:p≠q3:=ay ((s1.trans s2) _ _ D.ins) n3;have h3:(L2.upd (L2.upd (L2.upd H q1 (.lst (ws.take i))) q2 (.lst (ws.drop (i+n)))) q3 (.lst (ws.take i++ws.drop (i+n)))) q3=some (.lst (ws.take i++ws.drop (i+n))):=ab;generalize L2.upd (L2.upd (L2.upd H q1 (.lst (ws.take i))) q2 (.lst (ws.drop (i+n)))) q3 (.lst (ws.take i++ws.drop (i+n)))=H3 at s03 h3;have D3:=D.same s03;have hl3:d.take i++d.drop (i+n)=d.take (i:Int).toNat++d.drop ((i:Int).toNat+(n:Int).toNat):=by simp
  have pb3:Paired (aE ad (bS [p] H3)) (ws.take i++ws.drop (i+n)) (d.take i++d.drop (i+n)):=aI (da i (aN pb (aU s03))) (db (i+n) (aN pb (aU s03)));have c1:=fB d i;have c2:=fB (d.drop i) n;rw[Pe]at c2;have hfit:=D.fit;have Dn:=D3.put (l:=q3) (e:=d.take i++d.drop (i+n)) ⟨_,by rw[bE (by simpa using ne3.symm)];exact h3,pb3,by rw[La,Lr,Lw];omega⟩ ((D.wf.take i).app (D.wf.drop _)) (by rw[dw,La];omega);refine⟨_,rfl,qs D3.ins T.be.cl T.c5 (Lq D3.few (by decide)) ?_⟩;obtain⟨ws',hb',pb',zb'⟩:=Dn.doc;refine qf Dn.ins T.be.cl T.c5 Dn.has.a ?_;refine ql (.inl (SqL.of (aK _ _ hb'))) ?_;refine⟨(by show 1<=sizeLine;decide),λ l hl=>k.yes (d':=d.take i++d.drop (i+n)) (ns:=[d.length - n]) ?_ ((ae.beside s03).trans eM) ⟨_,_,_,Dn⟩ ?_ hl⟩
  ·rw[hq,hl3];rfl
  ·rw[ai pb',La,Lr,Lw,show min i d.length+(d.length - (i+n))=d.length - n by omega];rfl
open Valita (doPut held isDocument)
theorem lD{d:Document}{l:List Nat}(h:isDocument d=true):held d l=.ok (⟨d⟩,l):=by unfold held;rw[Le h]
theorem lE{d:Document}{l:List Nat}(h:isDocument d=false):held d l=.error 6:=by unfold held;rw[Ld (by rw[h];decide)]
theorem IR{ad:Ad}{H:Hp}{p q1 q2 q3 q4:Addr}{o:HO}{A B C:List V}{a b c:Document}(hp:H p=some o)(n1:H q1=none)(n2:(L2.upd H q1 (.lst A)) q2=none)(n3:(L2.upd (L2.upd H q1 (.lst A)) q2 (.lst (A++B))) q3=none)(n4:(L2.upd (L2.upd (L2.upd H q1 (.lst A)) q2 (.lst (A++B))) q3 (.lst C)) q4=none)(pa:Paired (aE ad (bS [p] H)) A a)(pb:Paired (aE ad (bS [p] H)) B b)(pc:Paired (aE ad (bS [p] H)) C c)(hz:(a++b++c).length<=100000):
  ∃H4,L2.upd (L2.upd (L2.upd (L2.upd H q1 (.lst A)) q2 (.lst (A++B))) q3 (.lst C)) q4 (.lst (A++B++C))=H4/\ae H H4/\iY ad (bS [p] H4) q4 (a++b++c):=by
 refine⟨_,rfl,?_,?_⟩
 ·exact(((ae.new n1).trans (ae.new n2)).trans (ae.new n3)).trans (ae.new n4)
 ·have s:ae H (L2.upd (L2.upd (L2.upd H q1 (.lst A)) q2 (.lst (A++B))) q3 (.lst C)):=((ae.new n1).trans (ae.new n2)).trans (ae.new n3);have ne:p≠q4:=ay (s _ _ hp) n4;have s4:=aU (M:=[p]) (s.trans (ae.new (o:=.lst (A++B++C)) n4));exact⟨A++B++C,by rw[bE (by simpa using ne.symm)];exact ab,aI (aI (aN pa s4) (aN pb s4)) (aN pc s4),hz⟩
def HV(ad:Ad):Sp:=λ vs H Q _=>∃p i v d t,vs=[.ref p,.int i,v]/\cH ad H p d/\bN H v t/\t.length<=100000/\fT ad H p d (doPut ⟨d⟩ i t) Q
theorem GM(T:bX K mg ad):aY P w K mg base 14 "put" ["document","i","text"] (HV ad):=by
 refine T.JY.good (N:=["document","i","text","blocks","reading"]) cj λ l H vs Q E hr hu6 hu nd h=>?_;obtain⟨p,i,v,d,t,rfl,⟨dx,fs,bl,D⟩,hv,hz,k⟩:=h;obtain⟨ws,hb,pb,zb⟩:=D.doc;have hb0:=aK _ _ hb;have lw:=ai pb;refine⟨_,(aa (bf 3 nd (aC aH))
   (aa (aA (bO (gY dE dE al aQ (bR T.a7 aj (aD dF)))) (ac (ah (aG (aD (af T.g5))))) ak)
   (aa (bf 4 nd (az (jB T) hr (aD bJ)))
   (aa (aA (aq iR (aC jk) (af T.f7) (ax _)) (ac (ah (aG (aD (af T.i6))))) ak)
   (aa (aA (bO (bi (mZ (df T) hr aH (aD (bu eg (bu eg (aX dN dF cy (aP aQ)) (aC jk)) (aX dN dF (aP aQ) cy)))))) (ac (ah (aG (aD (af T.g8))))) ak)
   (ac (ah (aG (aD (bR T.a7 aj (aD (aC aH)))))))))))),?_⟩
 refine qf D.ins T.be.cl T.c5 D.has.a ?_;have no:(Valita.upTo i d.length=false)->∀l,H l=none->Q (.ref l) (upd H l (.lst [.int (-2)])):=λ h l hl=>k.no ⟨dx,fs,bl,D⟩ (by unfold doPut;rw[Le h]) (ae.refl _) rfl hl;refine⟨_,rfl,qn ⟨_,rfl,au (λ h1=>⟨_,rfl,ql (.inl (SqL.of hb0)) (qn ⟨_,rfl,au (λ h2=>?_) λ h2=>?_⟩)⟩) λ h1=>⟨_,rfl,au (λ h2=>?_) λ h2=>?_⟩⟩⟩
 ·refine⟨by decide,no ?_⟩;unfold Valita.upTo;rw[lw]at h2;rw[Nt];exact .inr (by simpa using h2)
 ·have h2:i<=(ws.length:Int):=by simpa using h2
  have h1:=Lh h1;obtain⟨i,rfl⟩:=Mv h1;have hq:doPut ⟨d⟩ (i:Int) t=match readDocument t with
    |.error _=>.error 1
    |.ok l=>held (d.take i++(l++d.drop i)) [d.length+l.length]:=by
   unfold doPut;rw[Ld]
   ·rfl
   ·unfold Valita.upTo;simp only[Nt,decide_eq_false_iff_not,Qu];exact⟨λ q=>q h1,λ q=>q (by show(i:Int)<=(d.length:Int);omega)⟩
  refine⟨_,rfl,_,t,rfl,.inl hv,λ fl u b2 H2 e2 s2 r2 n2=>?_,λ e u b2 H2 e2 s2 r2 hd2 nb2 z2=>?_⟩
  ·obtain⟨a2,dx2,fs2,rfl,hu2,hf2⟩:=r2;refine qf hu2 T.d6.cl T.g6 hf2.c ?_;refine⟨rfl,_,rfl,au (λ _=>?_) λ h3=>?_⟩
   ·exact⟨by decide,λ l hl=>k.no ⟨dx,fs,bl,D⟩ (by rw[hq,e2]) s2 rfl hl⟩
   ·refine absurd ?_ h3;show(!decide (V.int (fl.reason:Int)=V.int 0))=true;rw[Ou,Mn];intro q;injection q with q
    omega
  ·obtain⟨a2,dx2,fs2,rfl,hu2,hf2⟩:=r2;have D2:=D.same s2;obtain⟨es,he2,pe2,ze2⟩:=hd2.offD T D2.ins;have he0:=aK _ _ he2;have pb2:=aN pb (aU s2);have hb2:=s2 _ _ hb0;have ez:es.length<=200:=by rw[ai pe2];exact z2
   have wz:ws.length<=20000:=by have:=bM d;have:=D.fit;omega
   refine qf hu2 T.d6.cl T.g6 hf2.c ?_;refine⟨rfl,_,rfl,au (λ h3=>by simp at h3) λ _=>?_⟩;refine⟨_,rfl,p,dx,fs,rfl,D2.ins,D2.only _ (by decide +kernel),?_⟩;refine⟨_,rfl,_,rfl,_,rfl,bl,ws,rfl,SqL.of hb2,λ q1 n1=>?_⟩;rw[jF];have s3:=ae.new (o:=.lst (ws.take i)) n1;refine qf (s3 _ _ hu2) T.d6.cl T.t0 hf2.a ?_;refine qc ab (s3 _ _ he0) (gf (by rw[Lr];omega)) λ q2 n2=>?_;have s4:=ae.new (o:=.lst (ws.take i++es)) n2;refine⟨_,rfl,_,rfl,_,rfl,bl,ws,rfl,SqL.of (s4 _ _ (s3 _ _ hb2)),λ q3 n3=>?_⟩;rw[fY];have s5:=ae.new (o:=.lst (ws.drop i)) n3;refine qc (s5 _ _ ab) ab (gf (by rw[La,Lr,Lw];omega)) λ q4 n4=>?_;have lz:(d.take i++e++d.drop i).length<=100000:=by rw[La,La,Lr,Lw];omega
   obtain⟨H4,eH,s6,L6⟩:=IR (p:=p) D2.ins n1 n2 n3 n4 (da i pb2) pe2 (db i pb2) lz;rw[eH];have c1:=fB d i;have hfit:=D.fit;have ea:d.take i++(e++d.drop i)=d.take i++e++d.drop i:=by rw[My]
   rw[e2]at hq;simp only[ea]at hq;refine⟨p,q4,d,_,rfl,⟨dx,fs,bl,D2.same s6⟩,L6,((D.wf.take i).app (Av e2)).app (D.wf.drop i),?_,λ hF H7 s7=>?_,λ hT H7 s7 D7=>?_⟩
   ·rw[dw,dw,La,La,uN e2];show _<=1000000;omega
   ·refine⟨_,rfl,fg ⟨by decide,λ l hl=>k.no ⟨dx,fs,bl,D⟩ ?_ ((s2.trans s6).trans s7) rfl hl⟩⟩;rw[hq,lE hF]
   ·obtain⟨dx7,fs7,bl7,D7⟩:=D7;obtain⟨ws7,hb7,pb7,zb7⟩:=D7.doc;refine⟨_,rfl,fH ?_⟩;refine qf D7.ins T.be.cl T.c5 D7.has.a ?_;refine ql (.inl (SqL.of (aK _ _ hb7))) ?_;refine⟨(by show 1<=sizeLine;decide),λ l hl=>k.yes (d':=d.take i++e++d.drop i) (ns:=[d.length+e.length]) ?_ ((ae.beside (s2.trans s6)).trans s7) ⟨_,_,_,D7⟩ ?_ hl⟩
    ·rw[hq,lD hT]
    ·rw[ai pb7,La,La,Lr,Lw,show min i d.length+e.length+(d.length - i)=d.length+e.length by omega];rfl
 ·refine⟨by decide,no ?_⟩;unfold Valita.upTo;rw[Nt];exact .inl (by simpa using h1)
 ·exact absurd rfl h2
end Tw
namespace Tw
open Valita
theorem Du{c c':Chunk}(h:oQ c)(h':oQ c')(e:headText c=headText c'):c.isFile=c'.isFile/\c.name=c'.name/\c.params=c'.params:=by
 have diff:∀{a b:Text},FILE++a≠CHUNK++b:=by intro a b q;rw[qV,nO]at q;simp at q
 have not44:∀{x:Chunk},(∀p∈x.params,isShort p=true)->∀p∈x.params,44∉p:=λ hx p hp=>gT (hx p hp) (by decide);rcases h with⟨f,n,ps⟩ |⟨f,n,ps⟩<;>rcases h' with⟨f',n',ps'⟩ |⟨f',n',ps'⟩
 ·rw[fb f,fb f']at e;exact⟨by rw[f,f'],Rt e,by rw[ps,ps']⟩
 ·rw[fb f,dI f']at e;exact absurd e diff
 ·rw[dI f,fb f']at e;exact absurd e.symm diff
 ·rw[dI f,dI f']at e;have e2:=Rt e;have a:=ir n (not44 ps);rw[e2,ir n' (not44 ps')]at a;injection a with a
  injection a with a b
  exact⟨by rw[f,f'],a.symm,b.symm⟩
theorem uO:∀(ls ls':List Line) (r r':List Text),(∀l∈ls,eL l)->(∀l∈ls',eL l)->ls.map lineText++END::r=ls'.map lineText++END::r'->ls=ls'/\r=r'
 |[],[],r,r',_,_,h=>⟨rfl,by simpa using h⟩
 |[],l::ls,r,r',_,h2,h=>by
  have h:END::r=lineText l::(ls.map lineText++END::r'):=h;injection h with h
  exact absurd h.symm (jD (h2 l (.head _)))
 |l::ls,[],r,r',h1,_,h=>by
  have h:lineText l::(ls.map lineText++END::r)=END::r':=h;injection h with h
  exact absurd h (jD (h1 l (.head _)))
 |l::ls,l'::ls',r,r',h1,h2,h=>by
  have h:lineText l::(ls.map lineText++END::r)=lineText l'::(ls'.map lineText++END::r'):=h;injection h with ha hb
  obtain⟨e1,e2⟩:=uO ls ls' r r' (λ x hx=>h1 x (.tail _ hx)) (λ x hx=>h2 x (.tail _ hx)) hb;have a:=lA (h1 l (.head _));rw[ha,lA (h2 l' (.head _))]at a;injection a with a
  exact⟨by rw[e1,a],e2⟩
theorem sC:∀(d e:Document),cJ d->cJ e->d.flatMap bB=e.flatMap bB->d=e
 |[],[],_,_,_=>rfl
 |[],b::e,_,_,h=>by rw[Me]at h;cases b<;>simp[bB]at h
 |b::d,[],_,_,h=>by rw[Me]at h;cases b<;>simp[bB]at h
 |b::d,b'::e,hd,he,h=>by
  rw[Me,Me]at h;have hb:=hd b (.head _);have hb':=he b' (.head _);have ih:=sC d e (λ x hx=>hd x (.tail _ hx)) (λ x hx=>he x (.tail _ hx));cases b with
  |prose t=>
   cases b' with
   |prose t'=>
    have h:t::d.flatMap bB=t'::e.flatMap bB:=h;injection h with h1 h2
    rw[h1,ih h2]
   |chunk c=>
    have h:t::d.flatMap bB=headText c::(c.lines.map lineText++[END]++e.flatMap bB):=h;injection h with h1 h2
    have q:=hb.1;rw[h1,iL]at q;cases q
  |chunk c=>
   cases b' with
   |prose t=>
    have h:headText c::(c.lines.map lineText++[END]++d.flatMap bB)=t::e.flatMap bB:=h;injection h with h1 h2
    have q:=hb'.1;rw[<-h1,iL]at q;cases q
   |chunk c'=>
    have h:headText c::(c.lines.map lineText++[END]++d.flatMap bB)=headText c'::(c'.lines.map lineText++[END]++e.flatMap bB):=h;injection h with h1 h2
    rw[My,My]at h2;obtain⟨e1,e2,e3⟩:=Du hb.1 hb'.1 h1;obtain⟨e4,e5⟩:=uO _ _ _ _ hb.2 hb'.2 h2;rw[ih e5];congr 2;cases c;cases c'
    simp_all
theorem Ay{d e:Document}(hd:cJ d)(he:cJ e)(h:documentText d=documentText e):d=e:=by rw[oR,oR]at h;have a:=iy _ (oS hd);rw[h,iy _ (oS he)]at a;exact sC d e hd he (List.append_cancel_right a).symm
end Tw
namespace Tw
open PySem PySem.Spec PyProof.Rows L2
open Valita (Document documentText doMove isRange moved)
def jH(d:Document)(i n:Nat):Document:=d.take i++d.drop (i+n)
def fj(i n j:Nat):Nat:=if j<=i then j else j - n
def eN(d:Document)(i n j:Nat):Document:=(jH d i n).take (fj i n j)++(d.drop i).take n++(jH d i n).drop (fj i n j)
theorem Dv{d:Document}{i n j:Nat}(h:i+n<=d.length)(hn:¬(i<j/\j<i+n)):eN d i n j=moved d i n j:=by
 unfold eN moved jH fj;simp only;have li:(d.take i).length=i:=by rw[Lr];omega
 by_cases hj:j<=i
 ·rw[Le hj,Le hj,List.take_append_of_le_length (by omega),List.drop_append_of_le_length (by omega),List.take_take,Nr hj,My]
 ·rw[Ld hj,Ld hj];have e1:(d.take i++d.drop (i+n)).take (j - n)=d.take i++(d.take j).drop (i+n):=by
   rw[List.take_append,li,Mx (by omega),List.drop_take,show j - n - i=j - (i+n) by omega]
  have e2:(d.take i++d.drop (i+n)).drop (j - n)=d.drop j:=by rw[List.drop_append,li,Pp (by omega),Oa,Pe,show i+n+(j - n - i)=j by omega]
  rw[e1,e2,My,My]
theorem uP(d:Document)(i n j:Nat):(documentText (eN d i n j)).length=(documentText d).length:=by
 have c1:=fB (jH d i n) (fj i n j);have c2:=fB (d.drop i) n;have c3:=fB d i;rw[Pe]at c2;have c4:(documentText (jH d i n)).length=(documentText (d.take i)).length+(documentText (d.drop (i+n))).length:=by unfold jH;rw[dw,La]
 unfold eN;rw[dw,dw,La,La];omega
theorem nR{d:Document}(h:cJ d)(i n j:Nat):cJ (eN d i n j):=
 ((((h.take i).app (h.drop (i+n))).take _).app ((h.drop i).take n)).app (((h.take i).app (h.drop (i+n))).drop _)
variable{P:Program}{w:World}{K:PySem.W.Frag}{mg:Str->Option Value}{base:Heap}{ad:Ad}
def GN(ad:Ad):Sp:=λ vs H Q _=>∃p i n j d,vs=[.ref p,.int i,.int n,.int j]/\cH ad H p d/\fT ad H p d (doMove ⟨d⟩ i n j) Q
theorem Fg(T:bX K mg ad):aY P w K mg base 7 "move" ["document","i","n","j"] (GN ad):=by
 refine T.J1.good (N:=["document","i","n","j","blocks","others","target"]) cj λ l H vs Q E hr hu6 hu nd h=>?_;obtain⟨p,i,n,j,d,rfl,⟨dx,fs,bl,D⟩,k⟩:=h;obtain⟨ws,hb,pb,zb⟩:=D.doc;have hb0:=aK _ _ hb;have lw:=ai pb;have hs:isRange ⟨d⟩ i n=gg i n ws.length:=by rw[lw];rfl
 have wz:ws.length<=20000:=by have:=bM d;have:=D.fit;omega
 refine⟨_,(aa (bf 4 nd (aC aH))
   (aa (aA ((ra (bO (bi (az (iM T) hr (ag aQ (dU bJ (bR T.a7 aj (aD jk))))))) (mi (bO (gY dE dE al dF (bR T.a7 aj (aD jk))))))).pt (ac (ah (aG (aD (af T.g5))))) ak)
   (aa (aA (gY pD pD aQ dF (bu cq aQ bJ)) (ac (ah (aG (aD (af T.u7))))) ak)
   (aa (bf 5 nd (bu eg (aX dN jk cy (aP aQ)) (aX dN jk (aP (bu cq aQ bJ)) cy)))
   (aa (bf 6 nd (fJ (aq dE dF aQ (ax _)) dF (bu Cp dF bJ)))
   (aa (bw aH (bu eg (bu eg (aX dN (pv 5) cy (aP (pv 6))) (aX dN jk (aP aQ) (aP (bu cq aQ bJ)))) (aX dN (pv 5) (aP (pv 6)) cy)) rfl)
   (ac (ah (aG (aD (fJ (aq (Gx hu6) (az (eJ T) hr (aD (aC aH))) (az (eJ T) hr (aD jk)) (ax _)) al al))))))))))),?_⟩
 refine qf D.ins T.be.cl T.c5 D.has.a ?_;have no:((isRange ⟨d⟩ i n&&Valita.upTo j d.length)=false)->∀l,H l=none->Q (.ref l) (upd H l (.lst [.int (-2)])):=λ h l hl=>k.no ⟨dx,fs,bl,D⟩ (by unfold doMove;rw[Le h]) (ae.refl _) rfl hl;refine⟨_,rfl,_,rfl,_,rfl,ql (.inl (SqL.of hb0)) ⟨i,n,ws.length,rfl,_,rfl,au (λ h1=>?_) λ h1=>?_⟩⟩
 ·refine fg ⟨by decide,no ?_⟩;rw[hs,Nt];exact .inl (by simpa using h1)
 have h1:gg i n ws.length=true:=by simpa using h1
 refine⟨_,rfl,qn ⟨_,rfl,au (λ h2=>⟨_,rfl,ql (.inl (SqL.of hb0)) (qn ⟨_,rfl,au (λ h3=>?_) λ h3=>?_⟩)⟩) λ h2=>⟨_,rfl,au (λ h3=>?_) λ h3=>?_⟩⟩⟩
 ·refine⟨by decide,no ?_⟩;rw[Nt];right;unfold Valita.upTo;rw[lw]at h3;rw[Nt];exact .inr (by simpa using h3)
 rotate_left
 ·refine⟨by decide,no ?_⟩;rw[Nt];right;unfold Valita.upTo;rw[Nt];exact .inl (by simpa using h2)
 ·exact absurd rfl h3
 have h3:j<=(ws.length:Int):=by simpa using h3
 have h2:=Lh h2;have hq:doMove ⟨d⟩ i n j=if(decide (i<j)&&decide (j<i+n))=true then .error 4 else(.ok (⟨moved d i.toNat n.toNat j.toNat⟩,[if moved d i.toNat n.toNat j.toNat=d then 0 else 1])):=by unfold doMove;rw[Ld];rw[hs,h1,Os];unfold Valita.upTo;simp only[Nt,decide_eq_false_iff_not,Qu];exact⟨λ q=>q h2,λ q=>q (by show j<=(d.length:Int);omega)⟩
 rw[jG]at h1;simp only[Li,Nv]at h1;obtain⟨i,rfl⟩:=Mv h1.1.1;obtain⟨n,rfl⟩:=Mv h1.2.1;obtain⟨j,rfl⟩:=Mv h2;have fits:∀l,H l=none->((decide ((i:Int)<j)&&decide ((j:Int)<i+n))=true)->Q (.ref l) (upd H l (.lst [.int (-4)])):=λ l hl h=>k.no ⟨dx,fs,bl,D⟩ (by rw[hq,Le h]) (ae.refl _) rfl hl;have hn:((decide ((i:Int)<j)&&decide ((j:Int)<i+n))=true)\/¬(i<j/\j<i+n):=by
  by_cases q:i<j/\j<i+n
  ·left;simp only[Li,Nv];omega
  ·exact .inr q
 refine HN (A:=¬(i<j/\j<i+n)) (λ kk=>⟨_,rfl,_,rfl,qn ⟨_,rfl,au (λ h4=>⟨_,rfl,_,rfl,qn (qn ⟨_,rfl,au (λ h5=>⟨by decide,λ l hl=>fits l hl (by rw[h4,h5];rfl)⟩) λ h5=>kk (hn.resolve_left λ q=>by rw[Li]at q;exact h5 q.2)⟩)⟩) λ h4=>⟨_,rfl,au (λ h5=>by cases h5) λ h5=>kk (hn.resolve_left λ q=>by rw[Li]at q;exact h4 q.1)⟩⟩⟩) λ hn=>?_;rw[Ld (by simp only[Li,Nv];omega)]at hq;have hm:=Dv (d:=d) (i:=i) (n:=n) (j:=j) (by omega) hn;simp only[Nh,<-hm]at hq;refine⟨_,rfl,_,rfl,_,rfl,bl,ws,rfl,SqL.of hb0,λ q1 n1=>?_⟩;rw[jF];have s1:=ae.new (o:=.lst (ws.take i)) n1;refine⟨_,rfl,_,rfl,_,rfl,qn ⟨_,rfl,bl,ws,rfl,SqL.of (s1 _ _ hb0),λ q2 n2=>?_⟩⟩;rw[show((i:Int)+(n:Int))=((i+n:Nat):Int) by omega,fY];have s2:=ae.new (o:=.lst (ws.drop (i+n))) n2;refine qc (s2 _ _ ab) ab (gf (by rw[Lr,Lw];omega)) λ q3 n3=>?_;have s3:=(s1.trans s2).trans (ae.new (o:=.lst (ws.take i++ws.drop (i+n))) n3);have h3:(L2.upd (L2.upd (L2.upd H q1 (.lst (ws.take i))) q2 (.lst (ws.drop (i+n)))) q3 (.lst (ws.take i++ws.drop (i+n)))) q3=some (.lst (ws.take i++ws.drop (i+n))):=ab;generalize L2.upd (L2.upd (L2.upd H q1 (.lst (ws.take i))) q2 (.lst (ws.drop (i+n)))) q3 (.lst (ws.take i++ws.drop (i+n)))=H3 at s3 h3;have pw:Paired (aE ad (bS [p] H3)) ws d:=aN pb (aU s3);have po:Paired (aE ad (bS [p] H3)) (ws.take i++ws.drop (i+n)) (jH d i n):=aI (da i pw) (db (i+n) pw);have lo:(ws.take i++ws.drop (i+n)).length<=20000:=by rw[La,Lr,Lw];omega
 have D3:=D.same s3;have hb3:=s3 _ _ hb0;generalize ws.take i++ws.drop (i+n)=os at h3 po lo;refine⟨_,rfl,_,rfl,qn ⟨_,rfl,au (λ h6=>⟨_,rfl,?_⟩) λ h6=>⟨_,rfl,_,rfl,qn ?_⟩⟩⟩
 ·obtain⟨tg,htg,ht⟩:∃tg,tg=j/\tg=fj i n j:=⟨j,rfl,by unfold fj;rw[Le (by have:=Lh h6;omega)]⟩;rw[<-htg];refine⟨_,rfl,_,rfl,_,rfl,q3,os,rfl,SqL.of h3,λ q4 n4=>?_⟩;rw[jF];have s4:=ae.new (o:=.lst (os.take tg)) n4;refine⟨_,rfl,_,rfl,_,rfl,_,rfl,_,rfl,qn ⟨_,rfl,bl,ws,rfl,SqL.of (s4 _ _ hb3),λ q5 n5=>?_⟩⟩;rw[show((i:Int)+(n:Int))=((i+n:Nat):Int) by omega,nQ,show i+n - i=n by omega];have s5:=ae.new (o:=.lst ((ws.drop i).take n)) n5;refine qc (s5 _ _ ab) ab (gf (by rw[Lr,Lr,Lw];omega)) λ q6 n6=>?_;have s6:=ae.new (o:=.lst (os.take tg++(ws.drop i).take n)) n6;refine⟨_,rfl,_,rfl,_,rfl,q3,os,rfl,SqL.of (s6 _ _ (s5 _ _ (s4 _ _ h3))),λ q7 n7=>?_⟩;rw[fY];have s7:=ae.new (o:=.lst (os.drop tg)) n7;refine qc (s7 _ _ ab) ab (gf (by rw[La,Lr,Lr,Lw,Lw];omega)) λ q8 n8=>?_;have s38:=(((s4.trans s5).trans s6).trans s7).trans (ae.new (o:=.lst (os.take tg++(ws.drop i).take n++os.drop tg)) n8);have ne8:p≠q8:=ay ((((s4.trans s5).trans s6).trans s7) _ _ D3.ins) n8;have h8:(L2.upd (L2.upd (L2.upd (L2.upd (L2.upd H3 q4 (.lst (os.take tg))) q5 (.lst ((ws.drop i).take n))) q6 (.lst (os.take tg++(ws.drop i).take n))) q7 (.lst (os.drop tg))) q8 (.lst (os.take tg++(ws.drop i).take n++os.drop tg))) q8=some (.lst (os.take tg++(ws.drop i).take n++os.drop tg)):=ab;generalize L2.upd (L2.upd (L2.upd (L2.upd (L2.upd H3 q4 (.lst (os.take tg))) q5 (.lst ((ws.drop i).take n))) q6 (.lst (os.take tg++(ws.drop i).take n))) q7 (.lst (os.drop tg))) q8 (.lst (os.take tg++(ws.drop i).take n++os.drop tg))=H8 at s38 h8;have D8:=D3.same s38;have p8:Paired (aE ad (bS [p] H8)) (os.take tg++(ws.drop i).take n++os.drop tg) (eN d i n j):=by
   unfold eN;rw[<-ht];exact aI (aI (da tg (aN po (aU s38))) (da n (db i (aN pw (aU s38))))) (db tg (aN po (aU s38)))
  have ml:=uP d i n j;have hfit:=D.fit;have ml2:=bM (eN d i n j);have Dn:=D8.put (l:=q8) (e:=eN d i n j) ⟨_,by rw[bE (by simpa using ne8.symm)];exact h8,p8,by omega⟩ (nR D.wf i n j) (by omega);refine⟨_,rfl,qs D8.ins T.be.cl T.c5 (Lq D8.few (by decide)) ?_⟩;have b9:=(ae.beside (p:=p) (s3.trans s38)).trans (eM (o:=.ins ad.h dx (bH "blocks" (.ref q8) fs)));generalize upd H8 p (.ins ad.h dx (bH "blocks" (.ref q8) fs))=H9 at Dn b9;refine qf Dn.ins T.be.cl T.c5 Dn.has.a ?_;refine⟨q8,eN d i n j,rfl,Dn.doc.same aK,(show _<=1000000 by omega),λ t1 H10 s10 nt1 ht1=>?_⟩;refine⟨_,rfl,bl,d,rfl,((D.doc.same b9).same aK).same s10,(show _<=1000000 by omega),λ t2 H11 s11 nt2 ht2=>?_⟩;refine⟨t1,t2,(documentText (eN d i n j)).map bI,(documentText d).map bI,rfl,rfl,by rw[s11 _ _ ht1,Nl];rfl,by rw[ht2,Nl];rfl,_,rfl,au (λ h7=>?_) λ h7=>?_⟩
  ·refine⟨(by show 1<=sizeLine;decide),λ l hl=>k.yes (d':=eN d i n j) (ns:=[1]) ?_ (b9.trans (ae.beside (s10.trans s11))) ⟨_,_,_,Dn.same (s10.trans s11)⟩ rfl hl⟩;rw[hq,Ld];intro q;rw[q]at h7;simp at h7
  ·refine⟨(by show 1<=sizeLine;decide),λ l hl=>k.yes (d':=eN d i n j) (ns:=[0]) ?_ (b9.trans (ae.beside (s10.trans s11))) ⟨_,_,_,Dn.same (s10.trans s11)⟩ rfl hl⟩;rw[hq,Le];have h7:(documentText (eN d i n j)).map bI=(documentText d).map bI:=by simpa using h7
   refine Ay (nR D.wf i n j) D.wf (mv ?_);have:=Na (List.map V.int) h7;rw[Nl,Nl]at this;exact this
 ·obtain⟨tg,htg,ht⟩:∃tg,tg=j - n/\tg=fj i n j:=⟨j - n,rfl,by unfold fj;rw[Ld (λ q=>h6 (Ll (by omega)))]⟩;have h7:¬j<=i:=λ q=>h6 (Ll (by omega));rw[show((λ i j=>V.int (i - j)) (j:Int) (n:Int))=V.int ((j - n:Nat):Int) from Na V.int (by omega),<-htg];refine⟨_,rfl,_,rfl,_,rfl,q3,os,rfl,SqL.of h3,λ q4 n4=>?_⟩;rw[jF];have s4:=ae.new (o:=.lst (os.take tg)) n4;refine⟨_,rfl,_,rfl,_,rfl,_,rfl,_,rfl,qn ⟨_,rfl,bl,ws,rfl,SqL.of (s4 _ _ hb3),λ q5 n5=>?_⟩⟩;rw[show((i:Int)+(n:Int))=((i+n:Nat):Int) by omega,nQ,show i+n - i=n by omega];have s5:=ae.new (o:=.lst ((ws.drop i).take n)) n5;refine qc (s5 _ _ ab) ab (gf (by rw[Lr,Lr,Lw];omega)) λ q6 n6=>?_;have s6:=ae.new (o:=.lst (os.take tg++(ws.drop i).take n)) n6;refine⟨_,rfl,_,rfl,_,rfl,q3,os,rfl,SqL.of (s6 _ _ (s5 _ _ (s4 _ _ h3))),λ q7 n7=>?_⟩;rw[fY];have s7:=ae.new (o:=.lst (os.drop tg)) n7;refine qc (s7 _ _ ab) ab (gf (by rw[La,Lr,Lr,Lw,Lw];omega)) λ q8 n8=>?_;have s38:=(((s4.trans s5).trans s6).trans s7).trans (ae.new (o:=.lst (os.take tg++(ws.drop i).take n++os.drop tg)) n8);have ne8:p≠q8:=ay ((((s4.trans s5).trans s6).trans s7) _ _ D3.ins) n8;have h8:(L2.upd (L2.upd (L2.upd (L2.upd (L2.upd H3 q4 (.lst (os.take tg))) q5 (.lst ((ws.drop i).take n))) q6 (.lst (os.take tg++(ws.drop i).take n))) q7 (.lst (os.drop tg))) q8 (.lst (os.take tg++(ws.drop i).take n++os.drop tg))) q8=some (.lst (os.take tg++(ws.drop i).take n++os.drop tg)):=ab;generalize L2.upd (L2.upd (L2.upd (L2.upd (L2.upd H3 q4 (.lst (os.take tg))) q5 (.lst ((ws.drop i).take n))) q6 (.lst (os.take tg++(ws.drop i).take n))) q7 (.lst (os.drop tg))) q8 (.lst (os.take tg++(ws.drop i).take n++os.drop tg))=H8 at s38 h8;have D8:=D3.same s38;have p8:Paired (aE ad (bS [p] H8)) (os.take tg++(ws.drop i).take n++os.drop tg) (eN d i n j):=by
   unfold eN;rw[<-ht];exact aI (aI (da tg (aN po (aU s38))) (da n (db i (aN pw (aU s38))))) (db tg (aN po (aU s38)))
  have ml:=uP d i n j;have hfit:=D.fit;have ml2:=bM (eN d i n j);have Dn:=D8.put (l:=q8) (e:=eN d i n j) ⟨_,by rw[bE (by simpa using ne8.symm)];exact h8,p8,by omega⟩ (nR D.wf i n j) (by omega);refine⟨_,rfl,qs D8.ins T.be.cl T.c5 (Lq D8.few (by decide)) ?_⟩;have b9:=(ae.beside (p:=p) (s3.trans s38)).trans (eM (o:=.ins ad.h dx (bH "blocks" (.ref q8) fs)));generalize upd H8 p (.ins ad.h dx (bH "blocks" (.ref q8) fs))=H9 at Dn b9;refine qf Dn.ins T.be.cl T.c5 Dn.has.a ?_;refine⟨q8,eN d i n j,rfl,Dn.doc.same aK,(show _<=1000000 by omega),λ t1 H10 s10 nt1 ht1=>?_⟩;refine⟨_,rfl,bl,d,rfl,((D.doc.same b9).same aK).same s10,(show _<=1000000 by omega),λ t2 H11 s11 nt2 ht2=>?_⟩;refine⟨t1,t2,(documentText (eN d i n j)).map bI,(documentText d).map bI,rfl,rfl,by rw[s11 _ _ ht1,Nl];rfl,by rw[ht2,Nl];rfl,_,rfl,au (λ h7=>?_) λ h7=>?_⟩
  ·refine⟨(by show 1<=sizeLine;decide),λ l hl=>k.yes (d':=eN d i n j) (ns:=[1]) ?_ (b9.trans (ae.beside (s10.trans s11))) ⟨_,_,_,Dn.same (s10.trans s11)⟩ rfl hl⟩;rw[hq,Ld];intro q;rw[q]at h7;simp at h7
  ·refine⟨(by show 1<=sizeLine;decide),λ l hl=>k.yes (d':=eN d i n j) (ns:=[0]) ?_ (b9.trans (ae.beside (s10.trans s11))) ⟨_,_,_,Dn.same (s10.trans s11)⟩ rfl hl⟩;rw[hq,Le];have h7:(documentText (eN d i n j)).map bI=(documentText d).map bI:=by simpa using h7
   refine Ay (nR D.wf i n j) D.wf (mv ?_);have:=Na (List.map V.int) h7;rw[Nl,Nl]at this;exact this
open Valita (Line Text allOf codeLines cutAt isSign lineOf)
theorem nS{F:V->Text->Prop}:∀{rs:List Text} {ws:List V} {last:Text},Paired F ws (rs++[last])->∃ws' vl,ws=ws'++[vl]/\Paired F ws' rs/\F vl last
 |[],ws,last,p=>by
  cases p with
  |cons r p=>cases p;exact⟨[],_,rfl,.nil,r⟩
 |r::rs,ws,last,p=>by
  cases p with
  |cons h p=>obtain⟨ws',vl,e,p1,p2⟩:=nS p;exact⟨_::ws',vl,by rw[e];rfl,.cons h p1,p2⟩
def cX(t:Text):Option Line:=if(decide (t.length<=200)&&t.all isSign)=true then lineOf t else none
theorem zm:lineOf Valita.END=none:=by decide +kernel
theorem jb{A:Type}:∀(xs ys:List (Option A)),allOf (xs++ys)=(allOf xs).bind λ l=>(allOf ys).map λ m=>l++m
 |[],ys=>by show allOf ys=(some []).bind _;cases allOf ys<;>rfl
 |none::xs,ys=>rfl
 |some a::xs,ys=>by
  show((allOf (xs++ys)).map λ l=>a::l)=(((allOf xs).map λ l=>a::l)).bind _;rw[jb xs ys];cases allOf xs with
  |none=>rfl
  |some l=>cases allOf ys<;>rfl
theorem nT{t:Text}{rs:List Text}{last:Text}(h:cutAt 10 t=rs++[last]):codeLines t=if last.isEmpty=true then allOf (rs.map cX) else none:=by
 have hl:Valita.linesOf t=rs.map (λ x=>(x,true))++(if last.isEmpty=true then[] else[(last,false)]):=by unfold Valita.linesOf;simp only;rw[h,Nj,Qb,Ni];rfl
 unfold codeLines;rw[hl,Mh,jb,Nl];have e:rs.map ((λ l:Text×Bool=>if(l.2&&(l.1.all isSign&&(decide (l.1.length<=Valita.LONG)&&l.1 != Valita.END)))=true then lineOf l.1 else none)∘λ x=>(x,true))=rs.map cX:=by
  refine Rg λ x _=>?_;show(if(true&&(x.all isSign&&(decide (x.length<=200)&&x != Valita.END)))=true then lineOf x else none)=cX x;unfold cX;by_cases he:x=Valita.END
  ·rw[he,zm];split<;>split<;>rfl
  ·have:(x != Valita.END)=true:=by simpa using he
   rw[this,Bool.and_true,Os,Bool.and_comm]
 rw[e];by_cases hq:last.isEmpty=true
 ·rw[Le hq,Le hq];cases allOf (rs.map cX) with
  |none=>rfl
  |some l=>show some (l++[])=some l;rw[Lv]
 ·rw[Ld hq,Ld hq];cases allOf (rs.map cX)<;>rfl
def xF(ad:Ad):Sp:=λ vs H Q _=>∃v t,vs=[v]/\bN H v t/\(∀H',codeLines t=none->ae H H'->Q .non H')/\
 ∀ls l us H',codeLines t=some ls->ae H H'->H l=none->H' l=some (.lst us)->Paired (bW ad H') us ls->ls.length<=t.length->Q (.ref l) H'
theorem ua(T:bX K mg ad):aY P w K mg base 10 "read_lines" ["text"] (xF ad):=by
 refine T.J2.good (N:=["text","rows","not_ended","lines_read","row","line"]) cj λ l H vs Q E hr hu6 hu nd h=>?_;obtain⟨v,t,rfl,hv,kN,kS⟩:=h;have hv0:=hv;refine⟨_,(aa (bf 1 nd (az (kt T) hr (dU aH (af T.i4))))
   (aa (bf 2 nd (yz Lk PySem.F.slot_list_pop PySem.F.type_list_pop yB aQ))
   (aa (aA (aq lU (bR T.a7 aj (aD bJ)) al (ax _)) (ac (ah eA)) ak)
   (aa (bf 3 nd (aG aF))
   (aa (dn Mu rfl (bU aQ) (aM (i:=4) nd rfl (Or.inl rfl)) (aa (bf 5 nd (fJ (bi (az (gE T) hr (aD jk))) (az (nH T) hr (aD jk)) eA))
   (aa (aA (gt (jl (pv 5))) (ac (ah eA)) ak)
   (ac (aV (bZ Lk Ma Mb bq dF (aD (pv 5))))))))
   (ac (ah dF))))))),?_⟩
 refine⟨_,rfl,_,t,10,rfl,hv0,λ l ws H1 s1 nl hl1 pw=>?_⟩;rcases Ol (cutAt 10 t) with q |⟨rs,last,q⟩
 ·exact absurd q (gk 10 t)
 rw[Om]at q;have hc:=nT q;have hlen:=gJ 10 t;rw[q]at pw hlen;obtain⟨ws',vl,rfl,pws,rl⟩:=nS pw;have hlast:(ws'++[vl])[(ws'++[vl]).length - 1]?=some vl:=by rw[La];show(ws'++[vl])[ws'.length+1 - 1]?=_;rw[Ro,Pw (Lf _),Qg];rfl
 refine⟨_,rfl,.inl ⟨rfl,_,SqL.of hl1⟩,l,_,vl,rfl,rfl,hl1,hlast,?_⟩;rw[Nj];have s2:ae H (L2.upd H1 l (.lst ws')):=ae.upd s1 nl;have k2:cN H1 (L2.upd H1 l (.lst ws')):=cN.lst hl1;have hl2:(L2.upd H1 l (.lst ws')) l=some (.lst ws'):=ab;have pw2:=bh pws k2;have rl2:=rl.kept k2;generalize L2.upd H1 l (.lst ws')=H2 at s2 hl2 pw2 rl2;obtain⟨b,rfl,hb,hzb⟩:=id rl2;refine⟨_,rfl,ql (.inr (ci.of hb)) (qn ⟨_,rfl,au (λ h1=>?_) λ h1=>?_⟩)⟩
 ·refine kN _ ?_ s2;rw[hc,Ld];intro q;rw[Oh]at q;subst q;simp[bT]at h1
 have h1:last.isEmpty=true:=by
  rw[Oh];cases last with
  |nil=>rfl
  |cons c r'=>exact absurd (Ll (by rw[ao];simp)) h1
 rw[Le h1]at hc;refine⟨Lj _,λ m nm=>?_⟩;have s3:ae H2 (L2.upd H2 m (.lst [])):=ae.new nm;refine⟨_,rfl,l,rfl,⟨_,SqL.of (s3 _ _ hl2)⟩,fL (xs:=ws') (λ j σ H'=>(∃x4 x5,σ=[some v,some (.ref l),some (.ref b),some (.ref m),x4,x5])/\ae H2 H'/\∃us ls,allOf ((rs.take j).map cX)=some ls/\H' m=some (.lst us)/\Paired (bW ad H') us ls/\us.length=j) ⟨⟨none,none,rfl⟩,s3,[],[],rfl,ab,.nil,rfl⟩ (λ j σ H' _ h=>SqL.of (h.2.1 _ _ hl2)) ?_ ?_⟩
 ·rintro j x σ H' hj ⟨⟨x4,x5,rfl⟩,s4,us,ls,ea,hm,pu,lu⟩;obtain⟨row,hr1,rr⟩:=aZ pw2 hj;have rr4:=rr.same s4;have none_of:cX row=none->codeLines t=none:=by
   intro h;rw[hc,<-Nd (j+1) rs,bD hr1,Mh,Mh,Mp,Rm,h,jb,jb];cases allOf (List.map cX (rs.take j))<;>rfl
  refine⟨_,rfl,x,row,rfl,rr4,λ H5 s5=>⟨_,rfl,au (λ h5=>?_) λ h5=>?_⟩⟩
  ·have er:cX row=lineOf row:=by unfold cX;rw[Le h5]
   refine⟨_,rfl,x,row,rfl,rr4.same s5,λ H6 s6 e6=>?_,λ v' ln H6 s6 e6 l6 n6=>?_⟩
   ·refine⟨_,rfl,_,rfl,au (λ _=>kN _ (none_of (er.trans e6)) (((s2.trans s4).trans s5).trans s6)) λ q=>absurd rfl q⟩
   ·obtain⟨a6,rfl⟩:=n6;have hm6:=s6 _ _ (s5 _ _ hm);refine⟨_,rfl,_,rfl,au (λ q=>by simp at q) λ _=>?_⟩;refine⟨_,rfl,.inl ⟨rfl,_,SqL.of hm6⟩,_,rfl,m,us,_,rfl,rfl,hm6,?_,⟨_,_,rfl⟩,?_,us++[.ref a6],ls++[ln],?_,ab,?_,by rw[La,lu];rfl⟩
    ·obtain⟨hj1,_⟩:=Mq.mp hj;have l2:=ai pw2;have hz:t.length<=gS:=by obtain⟨_,_,_,z⟩:=hv0;exact z
     have hl9:=hlen;rw[La,Lx]at hl9;exact aL (by omega)
    ·exact ae.upd ((s4.trans s5).trans s6) nm
    ·rw[bD hr1,Mh,Mp,Rm,jb,ea,er.trans e6];rfl
    ·exact aI (dj (dj pu (ae.keptI (s5.trans s6))) (cG.lst hm6)) (.cons (l6.kept (cG.lst hm6)) .nil)
  ·refine⟨_,rfl,_,rfl,au (λ _=>kN _ (none_of (by unfold cX;rw[Ld h5])) ((s2.trans s4).trans s5)) λ q=>absurd rfl q⟩
 ·rintro σ H' ⟨⟨x4,x5,rfl⟩,s4,us,ls,ea,hm,pu,lu⟩;rw[ai pw2,Mr]at ea;refine⟨_,rfl,kS ls m us H' (hc.trans ea) (s2.trans s4) (s2.free nm) hm pu ?_⟩;have l1:=ai pu;have l2:=ai pw2;rw[La,Lx]at hlen;omega
open Valita (Block Chunk Out blockText doLines ended headText held lineText)
def dP(c:Chunk)(j n:Nat)(l:List Line):Chunk:={c with lines:=c.lines.take j++l++c.lines.drop (j+n)}
def nU(d:Document)(i:Nat)(b:Block)(j n:Int)(t:Text):Out:=match b with
 |.chunk c=>if gg j n c.lines.length=false then .error 2 else match codeLines t with
  |none=>.error 1
  |some l=>held (d.set i (.chunk (dP c j.toNat n.toNat l))) [(dP c j.toNat n.toNat l).lines.length]
 |.prose _=>.error 3
theorem xG{d:Document}{i j n:Int}{t:Text}(h:i<0):doLines ⟨d⟩ i j n t=.error 2:=by unfold doLines Valita.onChunk Valita.onBlock;rw[Le h]
theorem xH{d:Document}{i:Nat}{j n:Int}{t:Text}(h:d[i]?=none):doLines ⟨d⟩ (i:Int) j n t=.error 2:=by unfold doLines Valita.onChunk Valita.onBlock;rw[Ld (by omega),Nh];simp only[h]
theorem zn{d:Document}{i:Nat}{j n:Int}{t:Text}{b:Block}(h:d[i]?=some b):doLines ⟨d⟩ (i:Int) j n t=nU d i b j n t:=by
 unfold doLines Valita.onChunk Valita.onBlock;rw[Ld (by omega),Nh];simp only[h];unfold nU dP gg;cases b with
 |prose _=>rfl
 |chunk c=>simp only[My];rfl
theorem pW:∀{rs:List Text} {ls:List Line},allOf (rs.map cX)=some ls->(∀l∈ls,eL l)/\aR ls=rs.flatMap ended
 |[],ls,h=>by cases h;exact⟨λ _ h=>(by cases h),rfl⟩
 |r::rs,ls,h=>by
  have h:((cX r).bind λ a=>(allOf (rs.map cX)).map λ l=>a::l)=some ls:=h;cases hr:cX r with
  |none=>rw[hr]at h;cases h
  |some a=>
   rw[hr]at h;have h:((allOf (rs.map cX)).map λ l=>a::l)=some ls:=h;cases ha:allOf (rs.map cX) with
   |none=>rw[ha]at h;cases h
   |some l=>
    rw[ha]at h;cases h;obtain⟨h1,h2⟩:=pW ha;unfold cX at hr;split at hr
    ·rename_i hs;rw[Li]at hs;refine⟨λ x hx=>?_,?_⟩
     ·rcases Lp.mp hx with rfl |hx
      ·exact At (pR hs.2) hr
      ·exact h1 x hx
     ·show ended (lineText a)++aR l=ended r++rs.flatMap ended;rw[h2,uM hr]
    ·cases hr
theorem qy{t:Text}{ls:List Line}(h:codeLines t=some ls):(∀l∈ls,eL l)/\aR ls=t:=by
 rcases Ol (cutAt 10 t) with q |⟨rs,last,q⟩
 ·exact absurd q (gk 10 t)
 rw[Om]at q;rw[nT q]at h;split at h
 ·rename_i hl;obtain⟨h1,h2⟩:=pW h;refine⟨h1,?_⟩;have c:=sB t;rw[Oh]at hl;rw[q,Nj,Qb,Ni,hl]at c;rw[h2];simpa using c
 ·cases h
theorem pX{d:Document}{i:Nat}{b b':Block}(h:d[i]?=some b):(documentText (d.take i++[b']++d.drop (i+1))).length+(blockText b).length=(documentText d).length+(blockText b').length:=by
 obtain⟨h1,h2⟩:=Mq.mp h;have e:d=d.take i++[b]++d.drop (i+1):=by
  rw[My]
  conv=>lhs;rw[<-Nd i d,Mz h1,h2]
  rfl
 have e1:∀x:Block,(documentText (d.take i++[x]++d.drop (i+1))).length=(documentText (d.take i)).length+(blockText x).length+(documentText (d.drop (i+1))).length:=by intro x;rw[dw,dw,La,La];show _+(blockText x++[]).length+_=_;rw[Lv]
 have:=e1 b;rw[<-e]at this;rw[e1,this];omega
theorem GO{d:Document}{i:Nat}{b:Block}(h:i<d.length):d.set i b=d.take i++[b]++d.drop (i+1):=by rw[List.set_eq_take_append_cons_drop,Le h,My];rfl
theorem lY(ls:List Line)(j:Nat):(aR (ls.take j)).length+(aR (ls.drop j)).length=(aR ls).length:=by
 conv=>rhs;rw[<-Nd j ls]
 unfold aR;rw[Mi,La]
theorem xI{d:Document}{i:Nat}{b:Block}(h:d[i]?=some b):(blockText b).length<=(documentText d).length:=by have h1:=pX (b':=.prose []) h;have h2:=bM (d.take i++[Block.prose []]++d.drop (i+1));rw[La,La,Lx]at h2;have h3:(blockText (.prose [])).length=1:=rfl;omega
theorem BG(ls:List Line):ls.length<=(aR ls).length:=by
 induction ls with
 |nil=>exact Lf _
 |cons l ls ih=>have e:aR (l::ls)=(lineText l++[10])++aR ls:=rfl;rw[e,La,La,Lg,Lx];omega
theorem BH{d:Document}{i:Nat}{c:Chunk}(h:d[i]?=some (.chunk c)):c.lines.length<=(documentText d).length:=by have h1:=xI h;have h2:=BG c.lines;rw[dr]at h1;simp only[La]at h1;omega
theorem vQ(c:Chunk)(j n:Nat)(l:List Line):(blockText (.chunk (dP c j n l))).length<=(blockText (.chunk c)).length+(aR l).length:=by
 rw[dr,dr];have c1:=lY c.lines j;have c2:=lY (c.lines.drop j) n;rw[Pe]at c2;have e:(aR (dP c j n l).lines).length=(aR (c.lines.take j)).length+(aR l).length+(aR (c.lines.drop (j+n))).length:=by show(aR (c.lines.take j++l++c.lines.drop (j+n))).length=_;unfold aR;rw[Mi,Mi,La,La]
 have e2:headText (dP c j n l)=headText c:=rfl;simp only[La,e,e2];omega
theorem zo{c:Chunk}{j n:Nat}{l:List Line}(h:iw c)(hl:∀x∈l,eL x):iw (dP c j n l):=by
 refine⟨h.1,λ x hx=>?_⟩;have hx:x∈c.lines.take j++l++c.lines.drop (j+n):=hx;rcases Mg.mp hx with hx |hx
 ·rcases Mg.mp hx with hx |hx
  ·exact h.2 x (Qz hx)
  ·exact hl x hx
 ·exact h.2 x (List.mem_of_mem_drop hx)
def Fh(ad:Ad):Sp:=λ vs H Q _=>∃p i j n v d t,vs=[.ref p,.int i,.int j,.int n,v]/\cH ad H p d/\bN H v t/\t.length<=100000/\fT ad H p d (doLines ⟨d⟩ i j n t) Q
theorem Dy(T:bX K mg ad):aY P w K mg base 14 "lines" ["document","i","j","n","text"] (Fh ad):=by
 refine T.J3.good (N:=["document","i","j","n","text","refusal","blocks","part","new_lines","changed"]) cj λ l H vs Q E hr hu6 hu nd h=>?_;obtain⟨p,i,j,n,v,d,t,rfl,⟨dx,fs,bl,D⟩,hv,hz,k⟩:=h;obtain⟨ws,hb,pb,zb⟩:=D.doc;have hb0:=aK _ _ hb;have lw:=ai pb;have wz:ws.length<=20000:=by have:=bM d;have:=D.fit;omega
 have hin:H p=some (.ins ad.h dx fs):=D.ins;refine⟨_,(aa (bf 5 nd (mZ (fc T) hr aH (aD aQ)))
   (aa (aA (gt (ve (pv 5))) (ac (ah (aG (aD (pv 5))))) ak)
   (aa (bf 6 nd (aC aH))
   (aa (bf 7 nd (bv bb (pv 6) aQ (λ _ _=>rfl)))
   (aa (aA (bO (bi (az (iM T) hr (ag bJ (dU dF (bR T.a7 aj (aD (aC (pv 7))))))))) (ac (ah (aG (aD (af T.g5))))) ak)
   (aa (bf 8 nd (az (ua T) hr (aD jk)))
   (aa (aA (gt (jl (pv 8))) (ac (ah (aG (aD (af T.i6))))) ak)
   (aa (bf 9 nd (gv (jw T) hr (ag (aC (pv 7)) (ag (aC (pv 7)) (ag (aC (pv 7)) (ag (bu eg (bu eg (aX dN (aC (pv 7)) cy (aP bJ)) (pv 8)) (aX dN (aC (pv 7)) (aP (bu cq bJ dF)) cy)) aF))))))
   (aa (aA (bO (bi (mZ (df T) hr aH (aD (bu eg (bu eg (aX dN (pv 6) cy (aP aQ)) (aG (aD (pv 9)))) (aX dN (pv 6) (aP (bu cq aQ al)) cy)))))) (ac (ah (aG (aD (af T.g8))))) ak)
   (ac (ah (aG (aD (bR T.a7 aj (aD (aC (pv 9))))))))))))))))),?_⟩
 rcases Int.lt_or_le i 0 with h1 |h1
 ·refine⟨_,rfl,p,dx,fs,rfl,D.ins,D.only _ (by decide +kernel),_,rfl,p,i,d,rfl,⟨dx,fs,bl,D⟩,?_⟩;rw[kP h1];refine⟨_,rfl,_,rfl,au (λ _=>?_) λ q=>absurd rfl q⟩;exact⟨_,rfl,(by show 1<=sizeLine;decide),λ l hl=>k.no ⟨dx,fs,bl,D⟩ (xG h1) (ae.refl _) rfl hl⟩
 obtain⟨i,rfl⟩:=Mv h1;refine⟨_,rfl,p,dx,fs,rfl,D.ins,D.only _ (by decide +kernel),_,rfl,p,(i:Int),d,rfl,⟨dx,fs,bl,D⟩,?_⟩;rw[jE];rcases Sh i ws.length with hi |hi
 rotate_left
 ·have hd:d[i]?=none:=Oj (by omega);rw[hd];refine⟨_,rfl,_,rfl,au (λ _=>?_) λ q=>absurd rfl q⟩;exact⟨_,rfl,(by show 1<=sizeLine;decide),λ l hl=>k.no ⟨dx,fs,bl,D⟩ (xH hd) (ae.refl _) rfl hl⟩
 have hw:ws[i]?=some ws[i]:=Mt hi;obtain⟨b,hd,rb⟩:=aZ pb hw;generalize ws[i]=x at hw rb;have hk:=zn (j:=j) (n:=n) (t:=t) hd;rw[hk]at k;clear hk;have rb0:=rb.same aK;rw[hd];cases b with
 |prose _=>refine⟨_,rfl,_,rfl,au (λ _=>?_) λ q=>absurd rfl q⟩;exact⟨_,rfl,(by show 1<=sizeLine;decide),λ l hl=>k.no ⟨dx,fs,bl,D⟩ rfl (ae.refl _) rfl hl⟩
 |chunk c=>
 refine⟨_,rfl,_,rfl,au (λ q=>by simp at q) λ _=>?_⟩;refine qf D.ins T.be.cl T.c5 D.has.a ?_;refine⟨_,rfl,_,rfl,bl,ws,_,x,rfl,rfl,SqL.of hb0,aT hw,?_⟩;obtain⟨a,dxa,fsa,v1,v2,ll,us,pa⟩:=rb;have pa0:=pa.same aK;obtain rfl:=pa.ref;have lu:=ai pa.lines;refine⟨_,rfl,_,rfl,?_⟩;refine qf pa0.ins T.a8.cl T.d4 pa0.has.d ?_;refine ql (.inl (SqL.of pa0.lst)) ⟨j,n,us.length,rfl,_,rfl,au (λ h4=>?_) λ h4=>?_⟩
 ·refine⟨by decide,λ l hl=>k.no ⟨dx,fs,bl,D⟩ ?_ (ae.refl _) rfl hl⟩;unfold nU;simp only;rw[lu]at h4;rw[Le (by simpa using h4)]
 have h4:gg j n us.length=true:=by simpa using h4
 have hk:nU d i (.chunk c) j n t=match codeLines t with
   |none=>.error 1
   |some l=>held (d.set i (.chunk (dP c j.toNat n.toNat l))) [(dP c j.toNat n.toNat l).lines.length]:=by
  unfold nU;simp only;rw[<-lu,Ld (by rw[h4];decide)]
 rw[jG]at h4;simp only[Li,Nv]at h4;obtain⟨j,rfl⟩:=Mv h4.1.1;obtain⟨n,rfl⟩:=Mv h4.2.1;simp only[Nh]at hk;refine⟨_,rfl,v,t,rfl,hv,λ H2 e2 s2=>?_,λ nls l2 us2 H2 e2 s2 nl2 hl2 pu2 z2=>?_⟩
 ·refine⟨_,rfl,_,rfl,au (λ _=>?_) λ q=>absurd rfl q⟩;exact⟨by decide,λ l hl=>k.no ⟨dx,fs,bl,D⟩ (by rw[hk,e2]) s2 rfl hl⟩
 refine⟨_,rfl,_,rfl,au (λ q=>by simp at q) λ _=>?_⟩;have pa2:=pa0.same s2;have cz:=BH hd;have hfit:=D.fit;have lu2:=ai pu2;obtain⟨wn,tn⟩:=qy e2;rw[e2]at hk;simp only at hk;refine qf pa2.ins T.a8.cl T.d9 pa2.has.a ?_;refine qf pa2.ins T.a8.cl T.d2 pa2.has.b ?_;refine qf pa2.ins T.a8.cl T.d3 pa2.has.c ?_;refine qf pa2.ins T.a8.cl T.d4 pa2.has.d ?_;refine⟨_,rfl,_,rfl,ll,us,rfl,SqL.of pa2.lst,λ q1 n1=>?_⟩;rw[jF];have s3:=ae.new (o:=.lst (us.take j)) n1;refine⟨_,rfl,qc ab (s3 _ _ hl2) (Mj (aL (show _<=1000000 by rw[Lr];omega))) λ q2 n2=>?_⟩;have s4:=ae.new (o:=.lst (us.take j++us2)) n2;refine qf (s4 _ _ (s3 _ _ pa2.ins)) T.a8.cl T.d4 pa2.has.d ?_;refine⟨_,rfl,_,rfl,qn ⟨_,rfl,ll,us,rfl,SqL.of (s4 _ _ (s3 _ _ pa2.lst)),λ q3 n3=>?_⟩⟩;rw[show((j:Int)+(n:Int))=((j+n:Nat):Int) by omega,fY];have s5:=ae.new (o:=.lst (us.drop (j+n))) n3;refine qc (s5 _ _ ab) ab (Mj (aL (show _<=1000000 by rw[La,Lr,Lw];omega))) λ q4 n4=>?_;have s6:=((s3.trans s4).trans s5).trans (ae.new (o:=.lst (us.take j++us2++us.drop (j+n))) n4);have ne4:p≠q4:=ay (((s3.trans s4).trans s5) _ _ (s2 _ _ D.ins)) n4;have h4':(L2.upd (L2.upd (L2.upd (L2.upd H2 q1 (.lst (us.take j))) q2 (.lst (us.take j++us2))) q3 (.lst (us.drop (j+n)))) q4 (.lst (us.take j++us2++us.drop (j+n)))) q4=some (.lst (us.take j++us2++us.drop (j+n))):=ab;generalize L2.upd (L2.upd (L2.upd (L2.upd H2 q1 (.lst (us.take j))) q2 (.lst (us.take j++us2))) q3 (.lst (us.drop (j+n)))) q4 (.lst (us.take j++us2++us.drop (j+n)))=H6 at s6 h4';intro y dy hy hdy hne;refine fz (ws:=[.int (cK c),v1,v2,.ref q4]) (by rfl) hy hdy hne λ H7 fs7 s7 hH7 hf7=>⟨rfl,?_⟩;have s27:=s6.trans s7;have pn:eG ad H7 (.ref y) (dP c j n nls) y dy fs7 v1 v2 q4 (us.take j++us2++us.drop (j+n)):=by have p7:=pa2.same s27;refine⟨rfl,hH7,hf7,p7.name,p7.params,s7 _ _ h4',aI (aI (da j p7.lines) (dj pu2 (ae.keptI s27))) (db (j+n) p7.lines),?_⟩;show(c.lines.take j++nls++c.lines.drop (j+n)).length<=1000000;rw[La,La,Lr,Lw];omega
 have D7:=D.same (s2.trans s27);have pb7:=aN pb (aU (s2.trans s27));have hb7:=(s2.trans s27) _ _ hb0;have by7:aE ad (bS [p] H7) (.ref y) (.chunk (dP c j n nls)):=aE.offD T D7.ins ⟨y,dy,fs7,v1,v2,q4,_,pn⟩;refine⟨_,rfl,p,dx,fs,rfl,D7.ins,D7.only _ (by decide +kernel),?_⟩;refine⟨_,rfl,_,rfl,_,rfl,bl,ws,rfl,SqL.of hb7,λ q5 n5=>?_⟩;rw[jF];have s8:=ae.new (o:=.lst (ws.take i)) n5;refine⟨_,rfl,(by show 1<=sizeLine;decide),λ q6 n6=>?_⟩;have s9:=ae.new (o:=.lst [.ref y]) n6;refine qc (s9 _ _ ab) ab (gf (by rw[Lr,Lx];omega)) λ q7 n7=>?_;have s10:=ae.new (o:=.lst (ws.take i++[.ref y])) n7;refine⟨_,rfl,_,rfl,qn ⟨_,rfl,bl,ws,rfl,SqL.of (s10 _ _ (s9 _ _ (s8 _ _ hb7))),λ q8 n8=>?_⟩⟩;rw[show((i:Int)+1)=((i+1:Nat):Int) by omega,fY];have s11:=ae.new (o:=.lst (ws.drop (i+1))) n8;refine qc (s11 _ _ ab) ab (gf (by rw[La,Lr,Lw,Lx];omega)) λ q9 n9=>?_;have s12:=(((s8.trans s9).trans s10).trans s11).trans (ae.new (o:=.lst (ws.take i++[.ref y]++ws.drop (i+1))) n9);have ne9:p≠q9:=ay ((((s8.trans s9).trans s10).trans s11) _ _ D7.ins) n9;have h9:(L2.upd (L2.upd (L2.upd (L2.upd (L2.upd H7 q5 (.lst (ws.take i))) q6 (.lst [.ref y])) q7 (.lst (ws.take i++[.ref y]))) q8 (.lst (ws.drop (i+1)))) q9 (.lst (ws.take i++[.ref y]++ws.drop (i+1)))) q9=some (.lst (ws.take i++[.ref y]++ws.drop (i+1))):=ab;generalize L2.upd (L2.upd (L2.upd (L2.upd (L2.upd H7 q5 (.lst (ws.take i))) q6 (.lst [.ref y])) q7 (.lst (ws.take i++[.ref y]))) q8 (.lst (ws.drop (i+1)))) q9 (.lst (ws.take i++[.ref y]++ws.drop (i+1)))=H9 at s12 h9;have D9:=D7.same s12;have p9:Paired (aE ad (bS [p] H9)) (ws.take i++[.ref y]++ws.drop (i+1)) (d.take i++[.chunk (dP c j n nls)]++d.drop (i+1)):=
  aI (aI (da i (aN pb7 (aU s12))) (.cons (by7.same (aU s12)) .nil)) (db (i+1) (aN pb7 (aU s12)))
 have hset:=GO (d:=d) (i:=i) (b:=.chunk (dP c j n nls)) (by omega);rw[hset]at hk;have t1:=pX (b':=.chunk (dP c j n nls)) hd;have t2:=vQ c j n nls;rw[tn]at t2;refine⟨p,q9,d,_,rfl,⟨dx,fs,bl,D9⟩,⟨_,by rw[bE (by simpa using ne9.symm)];exact h9,p9,?_⟩,?_,(show _<=1000000 by omega),λ hF H10 s10=>?_,λ hT H10 s10 D10=>?_⟩
 ·rw[La,La,Lr,Lw,Lx];omega
 ·refine((D.wf.take i).app λ b hb=>?_).app (D.wf.drop (i+1));rw[Lu.mp hb];exact zo (D.wf _ (Nm hd)) wn
 ·refine⟨_,rfl,fg ⟨by decide,λ l hl=>k.no ⟨dx,fs,bl,D⟩ ?_ (((s2.trans s27).trans s12).trans s10) rfl hl⟩⟩;rw[hk,lE hF]
 ·refine⟨_,rfl,fH ?_⟩;have nyp:y≠p:=by
   intro q;rw[q]at hH7;have:=D7.ins;rw[hH7]at this;injection this with this
   injection this with this
   exact(pV T D7.ins).2.2 this.symm
  have nqp:q4≠p:=ne4.symm;have hy10:=s10.at nyp (s12 _ _ pn.ins);have hq10:=s10.at nqp (s12 _ _ pn.lst);refine qf hy10 T.a8.cl T.d4 pn.has.d ?_;refine ql (.inl (SqL.of hq10)) ?_;refine⟨(by show 1<=sizeLine;decide),λ l hl=>k.yes (ns:=[(dP c j n nls).lines.length]) ?_ ((ae.beside ((s2.trans s27).trans s12)).trans s10) D10 ?_ hl⟩
  ·rw[hk,lD hT]
  ·rw[ai pn.lines];rfl
open Valita (chunksOf lineCount toldText)
def cM(ns:List Nat):List V:=ns.map fun(n:Nat)=>V.int (n:Int)
theorem vR(t:Text):cM (toldText t)=[V.int ((bT t).length:Int)]++bT t:=by unfold cM toldText bT;rw[Mp,Nl,Ls];rfl
def BI:Sp:=λ vs H Q _=>∃l ys,vs=[.ref l]/\(H l=some (.lst ys)\/H l=some (.tup ys))/\ys.length<=gS/\∀m H',ae H H'->H m=none->H' m=some (.lst (V.int (ys.length:Int):: ys))->Q (.ref m) H'
theorem fk(T:bX K mg ad):aY P w K mg base 1 "counted" ["row"] (BI):=by refine T.Ks.good (N:=["row"]) cj λ l H vs Q E hr hu6 hu nd h=>?_;obtain⟨l,ys,rfl,hl,hz,k⟩:=h;have sq:∀H',ae H H'->SqL K H' l ys\/ci K H' l ys:=λ H' s=>hl.imp (λ h=>SqL.of (s _ _ h)) λ h=>ci.of (s _ _ h);refine⟨_,(ac (ah (bu eg (aG (aD (bR T.a7 aj (aD aH)))) (uq T.d7 bY (aD aH))))),?_⟩;refine⟨_,rfl,l,_,rfl,sq H (ae.refl H),(by show 1<=sizeLine;decide),λ q1 n1=>?_⟩;have s1:=ae.new (o:=.lst [V.int (ys.length:Int)]) n1;have hz:ys.length<=1000000:=hz;refine⟨_,rfl,l,ys,rfl,sq _ s1,λ q2 n2=>?_⟩;have s2:=ae.new (o:=.lst ys) n2;refine qc (s2 _ _ ab) ab (Ln (m:=1000001) (by rw[Lx];omega) (by decide)) λ q3 n3=>?_;exact k q3 _ ((s1.trans s2).trans (ae.new n3)) ((s1.trans s2).free n3) (by rw[ab];rfl)
def GP(ad:Ad):Sp:=λ vs H Q _=>∃p d,vs=[.ref p]/\cH ad H p d/\fT ad H p d (Valita.tell ⟨d⟩ (toldText (documentText d))) Q
theorem fT.told{H H1:Hp}{p:Addr}{d:Document}{Q:VK}{ns:List Nat}{l:Addr}(k:fT ad H p d (Valita.tell ⟨d⟩ ns) Q)(D:cH ad H p d)(s:ae H H1)(n:H l=none)(h:H1 l=some (.lst (cM ns))):Q (.ref l) H1:=by refine k l H1 (ae.beside s) n ?_ (D.same s);rw[h];show _=some (HO.lst ((ns.map fun(n:Nat)=>(n:Int)).map V.int));rw[Nl];rfl
theorem Fi(T:bX K mg ad):aY P w K mg base 7 "show" ["document"] (GP ad):=by refine T.Kt.good (N:=["document"]) cj λ l H vs Q E hr hu6 hu nd h=>?_;obtain⟨p,d,rfl,⟨dx,fs,bl,D⟩,k⟩:=h;have hfit:=D.fit;refine⟨_,(ac (ah (az (fk T) hr (aD (az (eJ T) hr (aD (aC aH))))))),?_⟩;refine qf D.ins T.be.cl T.c5 D.has.a ?_;refine⟨bl,d,rfl,D.doc.same aK,(show _<=1000000 by omega),λ t H1 s1 n1 h1=>?_⟩;exact ql (.inl h1) ⟨(show _<=1000000 by rw[ao];omega),λ m H2 s2 n2 h2=>k.told ⟨dx,fs,bl,D⟩ (s1.trans s2) (s1.free n2) (by rw[h2,vR];rfl)⟩
def GQ(ad:Ad):Sp:=λ vs H Q _=>∃p d,vs=[.ref p]/\cH ad H p d/\fT ad H p d (Valita.tell ⟨d⟩ [d.length,(chunksOf d).length,lineCount d,(documentText d).length]) Q
theorem Fj(T:bX K mg ad):aY P w K mg base 7 "size" ["document"] (GQ ad):=by
 refine T.KF.good (N:=["document","blocks"]) cj λ l H vs Q E hr hu6 hu nd h=>?_;obtain⟨p,d,rfl,⟨dx,fs,bl,D⟩,k⟩:=h;have hfit:=D.fit;obtain⟨ws,hb,pb,zb⟩:=D.doc;have hb0:=aK _ _ hb;refine⟨_,(aa (bf 1 nd (aC aH))
   (ac (ah (aG (ag (bR T.a7 aj (aD aQ)) (ag (bR T.a7 aj (aD (az (eI T) hr (aD aQ)))) (dU (az (rX T) hr (aD aQ)) (bR T.a7 aj (aD (az (eJ T) hr (aD aQ))))))))))),?_⟩
 refine qf D.ins T.be.cl T.c5 D.has.a ?_;refine⟨_,rfl,ql (.inl (SqL.of hb0)) ⟨_,rfl,H,bl,d,rfl,D.doc.same aK,ae.refl H,λ m us H1 s1 n1 hm pm=>?_⟩⟩;refine ql (.inl (SqL.of hm)) ⟨_,rfl,bl,d,rfl,(D.doc.same aK).same s1,λ H2 s2=>?_⟩;refine⟨_,rfl,bl,d,rfl,((D.doc.same aK).same s1).same s2,(show _<=1000000 by omega),λ t H3 s3 n3 h3=>?_⟩;refine ql (.inl (SqL.of h3)) ⟨(by show 4<=sizeLine;decide),λ l hl=>?_⟩;refine k.told ⟨dx,fs,bl,D⟩ (((s1.trans s2).trans s3).trans (ae.new hl)) (((s1.trans s2).trans s3).free hl) ?_;rw[ab,ai pb,ai pm,ao];rfl
def hX(d:Document)(i:Int):Out:=Valita.onBlock ⟨d⟩ i λ _ b=>Valita.tell ⟨d⟩ (Valita.blockKind b::toldText (blockText b))
theorem vS{d:Document}{i:Int}(h:i<0):hX d i=.error 2:=by unfold hX Valita.onBlock;rw[Le h]
theorem vT{d:Document}{i:Nat}(h:d[i]?=none):hX d (i:Int)=.error 2:=by unfold hX Valita.onBlock;rw[Ld (by omega),Nh];simp only[h]
theorem xJ{d:Document}{i:Nat}{b:Block}(h:d[i]?=some b):hX d (i:Int)=Valita.tell ⟨d⟩ (Valita.blockKind b::toldText (blockText b)):=by unfold hX Valita.onBlock;rw[Ld (by omega),Nh];simp only[h]
theorem GR(b:Block):bK b=(Valita.blockKind b:Int):=by
 cases b with
 |prose _=>rfl
 |chunk c=>show cK c=((if c.isFile=true then 2 else 1:Nat):Int);unfold cK;split<;>rfl
def Fk(ad:Ad):Sp:=λ vs H Q _=>∃p i d,vs=[.ref p,.int i]/\cH ad H p d/\fT ad H p d (hX d i) Q
theorem Dz(T:bX K mg ad):aY P w K mg base 6 "block" ["document","i"] (Fk ad):=by
 refine T.Ku.good (N:=["document","i","chosen"]) cj λ l H vs Q E hr hu6 hu nd h=>?_;obtain⟨p,i,d,rfl,⟨dx,fs,bl,D⟩,k⟩:=h;have hfit:=D.fit;obtain⟨ws,hb,pb,zb⟩:=D.doc;have hb0:=aK _ _ hb;have lw:=ai pb;refine⟨_,(aa (aA (bO (gY dE pD al aQ (bR T.a7 aj (aD (aC aH))))) (ac (ah (aG (aD (af T.g5))))) ak)
   (aa (bf 2 nd (bv bb (aC aH) aQ (λ _ _=>rfl)))
   (ac (ah (bu eg (aG (aD (aC bJ))) (az (fk T) hr (aD (az (lV T) hr (aD bJ))))))))),?_⟩
 refine⟨_,rfl,qn ⟨_,rfl,au (λ h1=>(qf D.ins T.be.cl T.c5 D.has.a (ql (.inl (SqL.of hb0)) (qn ⟨_,rfl,au (λ h2=>?_) λ h2=>?_⟩)))) λ h1=>⟨_,rfl,au (λ h2=>?_) λ h2=>?_⟩⟩⟩
 ·have h1:=Lh h1;have h2:(ws.length:Int)<=i:=by simpa using h2
  obtain⟨i,rfl⟩:=Mv h1;exact⟨by decide,λ l hl=>k.no ⟨dx,fs,bl,D⟩ (vT (Oj (by omega))) (ae.refl _) rfl hl⟩
 rotate_left
 ·have h1:i<0:=by simpa using h1
  exact⟨by decide,λ l hl=>k.no ⟨dx,fs,bl,D⟩ (vS h1) (ae.refl _) rfl hl⟩
 ·exact absurd rfl h2
 have h1:=Lh h1;have h2:i<(ws.length:Int):=by simpa using h2
 obtain⟨i,rfl⟩:=Mv h1;have hi:i<ws.length:=by omega
 have hw:ws[i]?=some ws[i]:=Mt hi;obtain⟨b,hd,rb⟩:=aZ pb hw;generalize ws[i]=x at hw rb;rw[xJ hd]at k;have rb0:=rb.same aK;have hz:=xI hd;obtain⟨a,C,dxa,fsa,rfl,ha,hC,hn,hf⟩:=rb0.kind T;refine qf D.ins T.be.cl T.c5 D.has.a ?_;refine⟨_,rfl,qi (SqL.of hb0) (aT hw) ?_⟩;refine⟨_,rfl,a,C,dxa,fsa,_,rfl,ha,hC,hn,hf,(by show 1<=sizeLine;decide),λ q1 n1=>?_⟩;have s1:=ae.new (o:=.lst [V.int (bK b)]) n1;refine⟨_,rfl,_,b,rfl,rb0.same s1,(show _<=1000000 by omega),λ t H2 s2 n2 h2=>?_⟩;refine ql (.inl h2) ⟨(show _<=1000000 by rw[ao];omega),λ m H3 s3 n3 h3=>?_⟩;have hq1:(L2.upd H q1 (.lst [V.int (bK b)])) q1=some (.lst [V.int (bK b)]):=ab;have hq3:=s3 _ _ (s2 _ _ hq1);refine⟨q1,m,_,_,rfl,rfl,hq3,h3,?_,λ l hl=>?_⟩
 ·refine Ln (m:=1000002) ?_ (by decide);simp only[Lg,Mo,ao];omega
 ·refine k.told ⟨dx,fs,bl,D⟩ (((s1.trans s2).trans s3).trans (ae.new hl)) (((s1.trans s2).trans s3).free hl) ?_;rw[ab,GR];show some (HO.lst ([V.int (Valita.blockKind b:Int)]++(V.int ((bT (blockText b)).length:Int):: bT (blockText b))))=some (HO.lst (V.int (Valita.blockKind b:Int):: cM (toldText (blockText b))));rw[vR];rfl
end Tw
namespace Tw
open Valita
def W(ts:List Text):Nat:=(ts.map λ t=>t.length+1).sum
theorem nW:W []=0:=rfl
theorem iN(t:Text)(ts:List Text):W (t::ts)=t.length+1+W ts:=by unfold W;rw[Mp,Se]
theorem DA(ss ts:List Text):W (ss++ts)=W ss+W ts:=by unfold W;rw[Mh,List.sum_append]
theorem DB(ts:List Text):ts.length<=W ts:=by
 induction ts with
 |nil=>exact Lf _
 |cons t ts ih=>rw[iN,Lg];omega
theorem bF(t:Text):(toldText t).length=t.length+1:=by unfold toldText;rw[Lg,Ls]
theorem de(ts:List Text):(toldTexts ts).length=W ts+1:=by
 unfold toldTexts;rw[Lg];congr 1
 induction ts with
 |nil=>rfl
 |cons t ts ih=>rw[Me,La,ih,bF,iN]
theorem nX:∀(ts acc:List Text),W (ts.foldl putNew acc)<=W acc+W ts
 |[],acc=>Lf _
 |t::ts,acc=>by
  rw[List.foldl_cons,iN];have h:=nX ts (putNew acc t);have h2:W (putNew acc t)<=W acc+(t.length+1):=by
   unfold putNew;split
   ·omega
   ·rw[DA,iN,nW];omega
  omega
theorem oT{α:Type}{f:α->List Text}{g:α->Text}:∀{l:List α},(∀x∈l,W (f x)<=(g x).length)->W (l.flatMap f)<=(l.flatMap g).length
 |[],_=>Lf _
 |x::l,h=>by rw[Me,Me,DA,La];have h1:=h x (.head _);have h2:=oT (f:=f) (g:=g) (l:=l) λ y hy=>h y (.tail _ hy);omega
theorem kR{α β:Type}{f:α->List β}{g:α->Text}{k:Nat}:∀{l:List α},(∀x∈l,(f x).length<=k*(g x).length)->(l.flatMap f).length<=k*(l.flatMap g).length
 |[],_=>Lj _
 |x::l,h=>by rw[Me,Me,La,La,Nat.mul_add];have h1:=h x (.head _);have h2:=kR (f:=f) (g:=g) (k:=k) (l:=l) λ y hy=>h y (.tail _ hy);omega
theorem nY(n:Text)(as:List Text):n.length+3+W as<=(pieceText (.use n as)).length:=by
 have hg:∀es:List Text,es≠[]->W es<=(glued SEP es).length+1:=by
  intro es
  induction es with
  |nil=>intro h;exact absurd rfl h
  |cons e es ih=>
   intro _;cases es with
   |nil=>rw[iN,nW];exact Lf _
   |cons f r=>have h:=ih (by simp);rw[iN];show _<=(e++(SEP++glued SEP (f::r))).length+1;rw[La,La];have:SEP.length=2:=rfl;omega
 show _<=([64,123]++(n++((if as.isEmpty=true then[] else 40::(glued SEP as++[41]))++[125]))).length;cases as with
 |nil=>rw[nW];simp
 |cons a as=>have h:=hg (a::as) (by simp);simp only[List.isEmpty_cons,No,On,La,Lg,Mo];omega
theorem GS(l:List Piece):W (usedIn l)<=(piecesText l).length:=by
 induction l with
 |nil=>exact Lf _
 |cons p l ih=>
  have e:(piecesText (p::l)).length=(pieceText p).length+(piecesText l).length:=by show(pieceText p++piecesText l).length=_;rw[La]
  rw[e];cases p with
  |use n as=>show W (n::usedIn l)<=_;have h:=nY n as;rw[iN];omega
  |lit t=>show W (usedIn l)<=_;omega
  |param n=>show W (usedIn l)<=_;omega
theorem zr(l:Line):W (usedInLine l)<=(ended (lineText l)).length:=by
 unfold ended;rw[La];cases l with
 |code l=>have h:=GS l;show W (usedIn l)<=(piecesText l).length+_;omega
 |«when» s=>exact Lj _
 |otherwise=>exact Lj _
 |done=>exact Lj _
theorem cD(c:Chunk):(blockText (.chunk c)).length=(headText c).length+(c.lines.flatMap λ l=>ended (lineText l)).length+6:=by show(ended (headText c)++(c.lines.flatMap (λ l=>ended (lineText l))++ended END)).length=_;unfold ended;simp only[La,Lg,Mo];have:END.length=4:=rfl;omega
theorem sD(c:Chunk):c.name.length+6+(if c.isFile=true then 0 else W c.params)<=(headText c).length:=by
 unfold headText;split
 ·rw[La];have:FILE.length=6:=by decide +kernel
  omega
 ·have h:=nY c.name c.params;have h2:(pieceText (.use c.name c.params)).length=(c.name++(if c.params.isEmpty=true then[] else 40::(glued SEP c.params++[41]))).length+3:=by
   show([64,123]++(c.name++((if c.params.isEmpty=true then[] else 40::(glued SEP c.params++[41]))++[125]))).length=_;simp only[La,Lg,Mo];omega
  rw[La];have:CHUNK.length=7:=by decide +kernel
  omega
theorem Az(b:Block):W (namesIn b)<=(blockText b).length:=by
 cases b with
 |prose t=>exact Lj _
 |chunk c=>
  show W ((if c.isFile=true then[] else[c.name])++c.lines.flatMap usedInLine)<=_;rw[DA,cD];have h:=sD c;have h2:=oT (l:=c.lines) λ l _=>zr l;have h3:W (if c.isFile=true then[] else[c.name])<=c.name.length+1:=by
   split
   ·exact Lj _
   ·rw[iN,nW];exact Lf _
  omega
theorem uQ(d:Document):W (namesOf d)<=(documentText d).length:=by have h:=nX (d.flatMap namesIn) [];have h2:=oT (l:=d) λ b _=>Az b;rw[nW]at h;exact Ln h (by unfold documentText;omega)
theorem iA{β:Type}(f:Chunk->List β)(d:Document):(chunksOf d).flatMap f=d.flatMap λ b=>match b with
  |.chunk c=>f c
  |.prose _=>[]:=by
 induction d with
 |nil=>rfl
 |cons b d ih=>
  cases b with
  |prose t=>show(chunksOf d).flatMap f=[]++_;rw[ih,Oa];rfl
  |chunk c=>show f c++(chunksOf d).flatMap f=f c++_;rw[ih];rfl
theorem xK{f:Chunk->List Text}(h:∀c,W (f c)<=(blockText (.chunk c)).length)(d:Document):W ((chunksOf d).flatMap f)<=(documentText d).length:=by
 rw[iA];refine oT λ b _=>?_;cases b with
 |prose t=>exact Lj _
 |chunk c=>exact h c
def iO(c:Chunk):List Text:=if c.isFile=true then[c.name] else[]
theorem sE(d:Document):((chunksOf d).filterMap λ c=>if c.isFile=true then some c.name else none)=(chunksOf d).flatMap iO:=by
 induction chunksOf d with
 |nil=>rfl
 |cons c l ih=>rw[Rf,Me,ih];unfold iO;split<;>split<;>simp_all
theorem uR(d:Document):W (filesOf d)<=(documentText d).length:=by
 have h:=nX ((chunksOf d).flatMap iO) [];have h2:=xK (f:=iO) (λ c=>by
  rw[cD];have:=sD c;unfold iO;split
  ·rw[iN,nW];omega
  ·exact Lj _) d
 unfold filesOf;rw[sE];rw[nW]at h;omega
theorem BJ(l:Line):W (settingIn l)<=(ended (lineText l)).length:=by
 cases l with
 |«when» s=>
  show W [s]<=((IF++s)++[10]).length;rw[iN,nW,La,La];have:IF.length=4:=by decide +kernel
  simp
 |code l=>exact Lj _
 |otherwise=>exact Lj _
 |done=>exact Lj _
theorem sH(d:Document):W ((chunksOf d).flatMap λ c=>c.lines.flatMap settingIn)<=(documentText d).length:=
 xK (λ c=>by rw[cD];have h2:=oT (l:=c.lines) λ l _=>BJ l;omega) d
theorem nZ(d:Document):W (settingsOf d)<=(documentText d).length:=by have h:=nX ((chunksOf d).flatMap λ c=>c.lines.flatMap settingIn) [];have h2:=sH d;rw[nW]at h;unfold settingsOf;omega
theorem oU{d:Document}{c:Chunk}(h:c∈chunksOf d):Block.chunk c∈d:=by
 unfold chunksOf at h;obtain⟨b,hb,e⟩:=Rk.mp h;cases b with
 |prose t=>cases e
 |chunk c'=>cases e;exact hb
theorem kU{d:Document}{b:Block}(h:b∈d):(blockText b).length<=(documentText d).length:=by
 induction d with
 |nil=>cases h
 |cons x d ih=>
  show _<=(blockText x++documentText d).length;rw[La];rcases Lp.mp h with rfl |h
  ·omega
  ·have:=ih h;omega
theorem xL{d:Document}{n:Text}{l:List Text}(hw:cJ d)(h:paramsOf d n=some l):W l<=(documentText d).length:=by
 unfold paramsOf at h;cases e:(chunksOf d).find? λ c=>!c.isFile&&c.name==n with
 |none=>rw[e]at h;cases h
 |some c=>
  rw[e]at h;cases h;have hm:=oU (List.mem_of_find?_eq_some e);have hp:=List.find?_some e;rw[Li]at hp;have h1:=kU hm;have h2:=sD c;rw[cD]at h1;have h3:c.isFile=false:=by simpa using hp.1
  rw[h3]at h2;simp only[No,On]at h2;show W c.params<=_;omega
theorem Fl(t:Text):t.length<=(pieceText (.lit t)).length:=by
 induction t with
 |nil=>exact Lf _
 |cons b t ih=>show _<=((if b=64 then[64,64] else[b])++pieceText (.lit t)).length;rw[La,Lg];split<;>simp<;>omega
theorem uS{p:Piece}(h:cW p):(pieceNumbers p).length<=3*(pieceText p).length/\1<=(pieceText p).length:=by
 cases p with
 |lit t=>
  have h1:=Fl t;have h2:1<=t.length:=by
   cases t with
   |nil=>exact absurd rfl h.1
   |cons b t=>simp
  show(0::toldText t).length<=_/\_;rw[Lg,bF];omega
 |use n as=>have h1:=nY n as;show(1::(toldText n++toldTexts as)).length<=_/\_;rw[Lg,La,bF,de];omega
 |param n=>
  have e:(pieceText (.param n)).length=n.length+3:=by show([64,60]++(n++[62])).length=_;simp
  show(2::toldText n).length<=_/\_;rw[Lg,bF];omega
theorem jV{l:Line}(h:eL l):(lineNumbers l).length<=3*(lineText l).length+2:=by
 cases l with
 |code l=>show(0::l.length::l.flatMap pieceNumbers).length<=_;rw[Lg,Lg];have:=kR (f:=pieceNumbers) (g:=pieceText) (k:=3) (l:=l) λ p hp=>(uS (h.1 p hp)).1;show _<=3*(l.flatMap pieceText).length+2;omega
 |«when» s=>show(1::toldText s).length<=3*(IF++s).length+2;rw[Lg,bF,La];omega
 |otherwise=>show 1<=_;omega
 |done=>show 1<=_;omega
theorem GT{l:Line}(h:eL l):(lP l).length<=1*(ended (lineText l)).length:=by
 cases l with
 |code l=>
  show l.length<=_;have key:∀l:List Piece,(∀q∈l,cW q)->l.length<=(piecesText l).length:=by
   intro l
   induction l with
   |nil=>intro _;exact Lf _
   |cons p l ih=>intro h;have h1:=(uS (h p (.head _))).2;have h2:=ih λ q hq=>h q (.tail _ hq);show _<=(pieceText p++piecesText l).length;rw[La,Lg];omega
  have:=key l h.1;show _<=1*(piecesText l++[10]).length;rw[La];omega
 |«when» s=>exact Lj _
 |otherwise=>exact Lj _
 |done=>exact Lj _
theorem uT{c:Chunk}(h:iw c):(c.lines.flatMap lP).length<=(blockText (.chunk c)).length:=by have:=kR (f:=lP) (g:=λ l=>ended (lineText l)) (k:=1) (l:=c.lines) λ l hl=>GT (h.2 l hl);rw[cD];omega
theorem uU{g:Piece->Piece}(hg:∀p,gG (g p)=gG p):∀{l:List Piece},apart l->apart (l.map g)
 |[],_=>trivial
 |p::r,h=>by
  refine⟨λ hp q hq=>?_,uU hg h.2⟩;rw[hg]at hp;rw[List.head?_map]at hq;cases e:r.head? with
  |none=>rw[e]at hq;cases hq
  |some y=>rw[e]at hq;cases hq;rw[hg];exact h.1 hp y e
theorem pY{g:Piece->Piece}(hw:∀p,cW p->cW (g p))(hg:∀p,gG (g p)=gG p){l:Line}(h:eL l):eL (inPieces g l):=by
 cases l with
 |code l=>refine⟨λ q hq=>?_,uU hg h.2⟩;obtain⟨p,hp,rfl⟩:=Nw.mp hq;exact hw p (h.1 p hp)
 |«when» s=>exact h
 |otherwise=>exact h
 |done=>exact h
theorem jc{α:Type}{f:α->α}{g:α->Text}{l:List α}(h:∀x∈l,(g (f x)).length<=41*(g x).length):((l.map f).flatMap g).length<=41*(l.flatMap g).length:=by rw[Qj];exact kR h
theorem lZ{g:Piece->Piece}(hg:∀p,(pieceText (g p)).length<=41*(pieceText p).length)(l:Line):(ended (lineText (inPieces g l))).length<=41*(ended (lineText l)).length:=by
 unfold ended;rw[La,La];cases l with
 |code l=>have:=jc (f:=g) (g:=pieceText) (l:=l) λ p _=>hg p;show((l.map g).flatMap pieceText).length+_<=41*((l.flatMap pieceText).length+_);simp only[Lg,Mo];omega
 |«when» s=>show(lineText (.when s)).length+_<=41*((lineText (.when s)).length+_);simp only[Lg,Mo];omega
 |otherwise=>show(lineText .otherwise).length+_<=41*((lineText .otherwise).length+_);simp only[Lg,Mo];omega
 |done=>show(lineText .done).length+_<=41*((lineText .done).length+_);simp only[Lg,Mo];omega
structure xM(f:Chunk->Chunk):Prop where
 wf:∀c,iw c->iw (f c)
 head:∀c,(headText (f c)).length<=41*(headText c).length
 lines:∀c,((f c).lines.flatMap λ l=>ended (lineText l)).length<=41*(c.lines.flatMap λ l=>ended (lineText l)).length
theorem xM.wfDoc{f:Chunk->Chunk}(F:xM f){d:Document}(h:cJ d):cJ (inChunks f d):=by
 intro b hb;obtain⟨x,hx,rfl⟩:=Nw.mp hb;have:=h x hx;cases x with
 |prose t=>exact this
 |chunk c=>exact F.wf c this
theorem xM.grow{f:Chunk->Chunk}(F:xM f)(d:Document):(documentText (inChunks f d)).length<=41*(documentText d).length:=by
 refine jc λ b _=>?_;cases b with
 |prose t=>show(blockText (.prose t)).length<=41*(blockText (.prose t)).length;omega
 |chunk c=>show(blockText (.chunk (f c))).length<=_;rw[cD,cD];have h1:=F.head c;have h2:=F.lines c;omega
theorem jd{old new n:Text}(h:new.length<=40):(swapName old new n).length<=n.length+40:=by unfold swapName;split<;>omega
theorem sI(n:Text)(as:List Text):(pieceText (.use n as)).length=n.length+(pieceText (.use [] as)).length:=by show([64,123]++(n++((if as.isEmpty=true then[] else 40::(glued SEP as++[41]))++[125]))).length=_+([64,123]++([]++((if as.isEmpty=true then[] else 40::(glued SEP as++[41]))++[125]))).length;simp only[La,Mo];omega
theorem xN(n:Text):(pieceText (.param n)).length=n.length+3:=by show([64,60]++(n++[62])).length=_;simp
theorem AA{t:Text}(h:isName t=true):t.length<=40:=by unfold isName at h;rw[Li]at h;have:=Lh h.1;omega
theorem Fm{t:Text}(h:isPath t=true):t.length<=40:=by unfold isPath at h;rw[Li,Li]at h;exact Lh h.2.1
theorem sJ{t:Text}(h:isShort t=true):t.length<=40:=by unfold isShort at h;rw[Li,Li]at h;have:=Lh h.2.1;omega
theorem eU(c:Chunk):(headText c).length=c.name.length+(if c.isFile=true then 6 else(pieceText (.use [] c.params)).length+4):=by
 unfold headText;split
 ·rw[La];have:FILE.length=6:=by decide +kernel
  omega
 ·have h:=sI c.name c.params;have h2:(pieceText (.use c.name c.params)).length=(c.name++(if c.params.isEmpty=true then[] else 40::(glued SEP c.params++[41]))).length+3:=by
   show([64,123]++(c.name++((if c.params.isEmpty=true then[] else 40::(glued SEP c.params++[41]))++[125]))).length=_;simp only[La,Lg,Mo];omega
  rw[La];have:CHUNK.length=7:=by decide +kernel
  omega
theorem lF{p:Text->Bool}{old new n:Text}(h:p new=true)(hn:p n=true):p (swapName old new n)=true:=by
 unfold swapName;split
 ·exact h
 ·exact hn
def lG(old new:Text):Piece->Piece
 |.use n args=>.use (swapName old new n) args
 |x=>x
def dW(old new:Text)(c:Chunk):Chunk:={c with name:=if c.isFile=true then c.name else swapName old new c.name,lines:=c.lines.map (inPieces (lG old new))}
theorem mF(old new:Text):renamed old new=inChunks (dW old new):=by unfold renamed;refine Na inChunks (funext λ c=>?_);refine Na (λ g=>({c with name:=if c.isFile=true then c.name else swapName old new c.name,lines:=c.lines.map (inPieces g)}:Chunk)) (funext λ p=>?_);cases p<;>rfl
theorem zu{old new:Text}(h:isName new=true)(p:Piece)(hp:cW p):cW (lG old new p):=by
 cases p with
 |use n as=>exact⟨lF h hp.1,hp.2⟩
 |lit t=>exact hp
 |param n=>exact hp
theorem xO(old new:Text)(p:Piece):gG (lG old new p)=gG p:=by cases p<;>rfl
theorem xP{old new:Text}(h:new.length<=40)(p:Piece):(pieceText (lG old new p)).length<=41*(pieceText p).length:=by
 cases p with
 |use n as=>show(pieceText (.use (swapName old new n) as)).length<=41*(pieceText (.use n as)).length;have h1:=sI (swapName old new n) as;have h2:=sI n as;have h3:=nY [] as;have h4:=jd (old:=old) (n:=n) h;simp only[Mo]at h3;omega
 |lit t=>show(pieceText (.lit t)).length<=41*(pieceText (.lit t)).length;omega
 |param n=>show(pieceText (.param n)).length<=41*(pieceText (.param n)).length;omega
theorem DC{old new:Text}(h:isName new=true):xM (dW old new) where
 wf:=λ c hc=>by
  refine⟨?_,λ l hl=>?_⟩
  ·rcases hc.1 with⟨h1,h2,h3⟩ |⟨h1,h2,h3⟩
   ·refine .inl ⟨h1,?_,h3⟩;show isPath (if c.isFile=true then c.name else _)=true;rw[Le h1];exact h2
   ·refine .inr ⟨h1,?_,h3⟩;show isName (if c.isFile=true then c.name else _)=true;rw[Ld (by rw[h1];decide)];exact lF h h2
  ·obtain⟨x,hx,rfl⟩:=Nw.mp hl;exact pY (zu h) (xO old new) (hc.2 x hx)
 head:=λ c=>by rw[eU,eU];show(if c.isFile=true then c.name else swapName old new c.name).length+(if c.isFile=true then 6 else(pieceText (.use [] c.params)).length+4)<=_;have h4:=jd (old:=old) (n:=c.name) (AA h);split<;>omega
 lines:=λ c=>jc λ l _=>lZ (xP (AA h)) l
def ck(old new:Text)(c:Chunk):Chunk:=if c.isFile=true then{c with name:=swapName old new c.name} else c
theorem sK(old new:Text):refiled old new=inChunks (ck old new):=rfl
theorem DD{old new:Text}(h:isPath new=true):xM (ck old new) where
 wf:=λ c hc=>by
  unfold ck;split
  ·rename_i hf;refine⟨?_,hc.2⟩;rcases hc.1 with⟨h1,h2,h3⟩ |⟨h1,h2,h3⟩
   ·exact .inl ⟨h1,lF h h2,h3⟩
   ·rw[h1]at hf;cases hf
  ·exact hc
 head:=λ c=>by
  unfold ck;split
  ·rename_i hf;rw[eU,eU];show(swapName old new c.name).length+(if c.isFile=true then 6 else _)<=_;have h4:=jd (old:=old) (n:=c.name) (Fm h);rw[Le hf];omega
  ·omega
 lines:=λ c=>by
  unfold ck;split
  ·show(c.lines.flatMap _).length<=_;omega
  ·omega
def iB(old new:Text):Piece->Piece
 |.param m=>.param (swapName old new m)
 |x=>x
def cI(n old new:Text)(c:Chunk):Chunk:=if(!c.isFile&&c.name==n)=true then{c with params:=c.params.map (swapName old new),lines:=c.lines.map (inPieces (iB old new))} else c
theorem vU(n old new:Text):reparamed n old new=inChunks (cI n old new):=by unfold reparamed;refine Na inChunks (funext λ c=>?_);refine Na (λ g=>if(!c.isFile&&c.name==n)=true then({c with params:=c.params.map (swapName old new),lines:=c.lines.map (inPieces g)}:Chunk) else c) (funext λ p=>?_);cases p<;>rfl
theorem zv{old new:Text}(h:isShort new=true)(p:Piece)(hp:cW p):cW (iB old new p):=by
 cases p with
 |param n=>exact lF (p:=isShort) h hp
 |lit t=>exact hp
 |use n as=>exact hp
theorem xQ(old new:Text)(p:Piece):gG (iB old new p)=gG p:=by cases p<;>rfl
theorem xR{old new:Text}(h:new.length<=40)(p:Piece):(pieceText (iB old new p)).length<=41*(pieceText p).length:=by
 cases p with
 |param n=>show(pieceText (.param (swapName old new n))).length<=41*(pieceText (.param n)).length;rw[xN,xN];have h4:=jd (old:=old) (n:=n) h;omega
 |lit t=>show(pieceText (.lit t)).length<=41*(pieceText (.lit t)).length;omega
 |use n as=>show(pieceText (.use n as)).length<=41*(pieceText (.use n as)).length;omega
theorem sM{f:Text->Text}(h:∀t,(f t).length<=t.length+40):∀l:List Text,(glued SEP (l.map f)).length<=(glued SEP l).length+40*l.length
 |[]=>Lf _
 |[t]=>h t
 |t::u::r=>by have ih:=sM h (u::r);show(f t++(SEP++glued SEP ((u::r).map f))).length<=(t++(SEP++glued SEP (u::r))).length+_;have h1:=h t;simp only[La,Lg]at ih ⊢;omega
theorem BK{f:Text->Text}(h:∀t,(f t).length<=t.length+40)(l:List Text):(pieceText (.use [] (l.map f))).length<=(pieceText (.use [] l)).length+40*l.length:=by
 show([64,123]++([]++((if(l.map f).isEmpty=true then[] else 40::(glued SEP (l.map f)++[41]))++[125]))).length<=([64,123]++([]++((if l.isEmpty=true then[] else 40::(glued SEP l++[41]))++[125]))).length+_;have hg:=sM h l;cases l with
 |nil=>exact Lf _
 |cons a l=>simp only[Mp,List.isEmpty_cons,No,On,La,Lg,Mo]at hg ⊢;omega
theorem DE{n old new:Text}(h:isShort new=true):xM (cI n old new) where
 wf:=λ c hc=>by
  unfold cI;split
  ·rename_i hf;rw[Li]at hf;have h0:c.isFile=false:=by simpa using hf.1
   refine⟨?_,λ l hl=>?_⟩
   ·rcases hc.1 with⟨h1,h2,h3⟩ |⟨h1,h2,h3⟩
    ·rw[h1]at h0;cases h0
    ·refine .inr ⟨h1,h2,λ p hp=>?_⟩;obtain⟨x,hx,rfl⟩:=Nw.mp hp;exact lF h (h3 x hx)
   ·obtain⟨x,hx,rfl⟩:=Nw.mp hl;exact pY (zv h) (xQ old new) (hc.2 x hx)
  ·exact hc
 head:=λ c=>by
  unfold cI;split
  ·rename_i hf;rw[Li]at hf;have h0:c.isFile=false:=by simpa using hf.1
   rw[eU,eU];show c.name.length+(if c.isFile=true then 6 else(pieceText (.use [] (c.params.map (swapName old new)))).length+4)<=_;have h4:=BK (f:=swapName old new) (λ t=>jd (sJ h)) c.params;have h5:=nY [] c.params;have h6:=DB c.params;simp only[Mo]at h5;rw[Ld (by rw[h0];decide),Ld (by rw[h0];decide)];omega
  ·omega
 lines:=λ c=>by
  unfold cI;split
  ·exact jc λ l _=>lZ (xR (sJ h)) l
  ·omega
def jI(old new:Text):Line->Line
 |.when s=>.when (swapName old new s)
 |x=>x
def fP(old new:Text)(c:Chunk):Chunk:={c with lines:=c.lines.map (jI old new)}
theorem oe(old new:Text):resettled old new=inChunks (fP old new):=by unfold resettled;refine Na inChunks (funext λ c=>?_);refine Na (λ g=>({c with lines:=c.lines.map g}:Chunk)) (funext λ p=>?_);cases p<;>rfl
theorem DF{old new:Text}(h:isShort new=true):xM (fP old new) where
 wf:=λ c hc=>by
  refine⟨hc.1,λ l hl=>?_⟩;obtain⟨x,hx,rfl⟩:=Nw.mp hl;have:=hc.2 x hx;cases x with
  |«when» s=>exact lF (p:=isShort) h this
  |code l=>exact this
  |otherwise=>exact this
  |done=>exact this
 head:=λ c=>by show(headText c).length<=_;omega
 lines:=λ c=>jc λ l _=>by
  unfold ended;rw[La,La];cases l with
  |«when» s=>show(IF++swapName old new s).length+_<=41*((IF++s).length+_);have h4:=jd (old:=old) (n:=s) (sJ h);simp only[La,Lg,Mo];omega
  |code l=>show(lineText (.code l)).length+_<=41*((lineText (.code l)).length+_);simp only[Lg,Mo];omega
  |otherwise=>show(lineText .otherwise).length+_<=41*((lineText .otherwise).length+_);simp only[Lg,Mo];omega
  |done=>show(lineText .done).length+_<=41*((lineText .done).length+_);simp only[Lg,Mo];omega
theorem kW{x:Text}:∀(l acc:List Text),x∈l.foldl putNew acc↔x∈acc\/x∈l
 |[],acc=>by simp
 |t::l,acc=>by
  rw[List.foldl_cons,kW l];have h:x∈putNew acc t↔x∈acc\/x=t:=by
   unfold putNew;split
   ·rename_i h;have h:t∈acc:=by simpa using h
    exact⟨.inl,λ q=>q.elim id λ e=>e▸h⟩
   ·simp
  rw[h,Lp];constructor
  ·rintro((h |h) |h)
   ·exact .inl h
   ·exact .inr (.inl h)
   ·exact .inr (.inr h)
  ·rintro(h |h |h)
   ·exact .inl (.inl h)
   ·exact .inl (.inr h)
   ·exact .inr h
def dZ(d:Document):List Piece:=d.flatMap λ b=>(bL b).flatMap lP
def ma:Piece->Bool
 |.use _ _=>true
 |_=>false
def fZ(n:Text):Piece->Bool
 |.use m _=>m==n
 |_=>false
theorem oV(n:Text)(p:Piece):fZ n p=(ma p&&decide (pT p=n)):=by
 cases p with
 |use m as=>
  show(m==n)=(true&&decide (m=n));rw[Os];by_cases h:m=n
  ·rw[Ll h];exact Qa.mpr h
  ·rw[Mn h];exact Ms.mpr h
 |lit t=>rfl
 |param m=>rfl
theorem Fn(l:List Piece):usedIn l=(l.filter ma).map pT:=by
 induction l with
 |nil=>rfl
 |cons p l ih=>
  cases p with
  |use n as=>show n::usedIn l=n::_;rw[ih]
  |lit t=>exact ih
  |param n=>exact ih
theorem xS(l:Line):usedInLine l=usedIn (lP l):=by cases l<;>rfl
theorem pZ{α β:Type}(f:α->List β)(p:β->Bool):∀l:List α,(l.flatMap f).filter p=l.flatMap λ x=>(f x).filter p
 |[]=>rfl
 |x::l=>by rw[Me,Me,Qm,pZ f p l]
theorem og(ls:List Line):ls.flatMap usedInLine=((ls.flatMap lP).filter ma).map pT:=by rw[pZ,Ra];congr 1;funext l;rw[xS,Fn]
def cr(c:Chunk):List Text:=(if c.isFile=true then[] else[c.name])++((c.lines.flatMap lP).filter ma).map pT
theorem sN(d:Document):d.flatMap namesIn=(chunksOf d).flatMap cr:=by
 rw[iA];congr 1;funext b;cases b with
 |prose t=>rfl
 |chunk c=>show(if c.isFile=true then[] else[c.name])++c.lines.flatMap usedInLine=cr c;rw[og];rfl
theorem zy(d:Document):namesOf d=((chunksOf d).flatMap cr).foldl putNew []:=by unfold namesOf;rw[sN]
theorem sQ(d:Document):filesOf d=((chunksOf d).flatMap iO).foldl putNew []:=by unfold filesOf;rw[sE]
theorem uV(cs:List Chunk):cs.flatMap iO=(cs.filter λ c=>c.isFile).map λ c=>c.name:=by
 induction cs with
 |nil=>rfl
 |cons c l ih=>rw[Me,ih];unfold iO;cases h:c.isFile<;>simp[h]
def sR:Line->Bool
 |.when _=>true
 |_=>false
def fQ(d:Document):List Line:=(chunksOf d).flatMap λ c=>c.lines.filter sR
theorem zz(ls:List Line):ls.flatMap settingIn=(ls.filter sR).map lS:=by
 induction ls with
 |nil=>rfl
 |cons l ls ih=>rw[Me,ih];cases l<;>rfl
theorem fe(d:Document):((chunksOf d).flatMap λ c=>c.lines.flatMap settingIn)=(fQ d).map lS:=by unfold fQ;rw[Ra];congr 1;funext c;exact zz c.lines
theorem md(d:Document):settingsOf d=((fQ d).map lS).foldl putNew []:=by unfold settingsOf;rw[fe]
def iP(f:Bool)(n:Text):Block->Bool
 |.chunk c=>c.isFile==f&&c.name==n
 |.prose _=>false
theorem oW{α:Type}(q:α->Bool):∀(l:List α) (k:Nat),((l.zipIdx k).filter λ z=>q z.1).length=l.countP q
 |[],_=>rfl
 |x::l,k=>by
  rw[Rb,Qy,List.countP_cons];have:=oW q l (k+1);cases h:q x
  ·simp only[h,No,On];omega
  ·simp only[h,Re,Lg];omega
theorem mG(d:Document)(f:Bool)(n:Text):partsOf d f n=(d.zipIdx.filter λ z=>iP f n z.1).map λ z=>z.2:=by unfold partsOf;congr 2
theorem fC(d:Document)(f:Bool)(n:Text):(partsOf d f n).length=d.countP (iP f n):=by rw[mG,Ls,oW]
theorem jJ(d:Document)(f:Bool)(n:Text):((chunksOf d).filter λ c=>c.isFile==f&&c.name==n).length=(partsOf d f n).length:=by
 rw[fC]
 induction d with
 |nil=>rfl
 |cons b d ih=>
  rw[List.countP_cons];cases b with
  |prose t=>exact ih
  |chunk c=>
   show((c::chunksOf d).filter _).length=_;rw[Qy];show(if(c.isFile==f&&c.name==n)=true then _ else _:List Chunk).length=d.countP (iP f n)+if(c.isFile==f&&c.name==n)=true then 1 else 0
   cases h:(c.isFile==f&&c.name==n)
   ·simpa using ih
   ·simpa using ih
def kX(n:Text)(i j:Nat)(l:Line):List (Nat×Nat×Nat):=((lP l).zipIdx.filter λ z=>fZ n z.1).map λ z=>(i,j,z.2)
def cv(n:Text)(i:Nat)(ls:List Line):List (Nat×Nat×Nat):=ls.zipIdx.flatMap λ z=>kX n i z.2 z.1
theorem uW(d:Document)(n:Text):usesOf d n=d.zipIdx.flatMap λ z=>cv n z.2 (bL z.1):=by
 unfold usesOf;congr 1;funext z;obtain⟨b,i⟩:=z;cases b with
 |prose t=>rfl
 |chunk c=>
  show(c.lines.zipIdx.flatMap _)=cv n i c.lines;unfold cv;congr 1;funext y;obtain⟨l,j⟩:=y;cases l with
  |code ps=>show(ps.zipIdx.filter _).map _=(ps.zipIdx.filter _).map _;congr 2
  |«when» s=>rfl
  |otherwise=>rfl
  |done=>rfl
theorem sS{α β γ:Type}(f:Nat->α->List β)(g:α->List γ)(q:γ->Bool)(h:∀i x,(f i x).length=(g x).countP q):∀(l:List α) (k:Nat),((l.zipIdx k).flatMap λ z=>f z.2 z.1).length=(l.flatMap g).countP q
 |[],_=>rfl
 |x::l,k=>by rw[Rb,Me,Me,La,List.countP_append,h,sS f g q h l (k+1)]
theorem kY(d:Document)(n:Text):(usesOf d n).length=(dZ d).countP (fZ n):=by rw[uW];refine sS (λ i b=>cv n i (bL b)) (λ b=>(bL b).flatMap lP) (fZ n) (λ i b=>?_) d 0;refine sS (λ j l=>kX n i j l) lP (fZ n) (λ j l=>?_) (bL b) 0;unfold kX;rw[Ls,oW]
theorem jK{d:Document}(h:cJ d):(dZ d).length<=(documentText d).length:=by
 have:=kR (f:=λ b=>(bL b).flatMap lP) (g:=blockText) (k:=1) (l:=d) λ b hb=>by
  cases b with
  |prose t=>exact Lj _
  |chunk c=>have:=uT (h _ hb);show(c.lines.flatMap lP).length<=_;omega
 unfold dZ documentText;omega
theorem uX(d:Document):(fQ d).length<=(documentText d).length:=by have h:=sH d;rw[fe]at h;have h2:=DB ((fQ d).map lS);rw[Ls]at h2;omega
theorem uY{d:Document}{x:Text}(h:x∉namesOf d):(∀c,Block.chunk c∈d->c.isFile=false->c.name≠x)/\∀m as,Piece.use m as∈dZ d->m≠x:=by
 have h:x∉d.flatMap namesIn:=λ q=>h (by unfold namesOf;rw[kW];exact .inr q);refine⟨λ c hc hf e=>h (Pc.mpr ⟨_,hc,?_⟩),λ m as hm e=>?_⟩
 ·show x∈(if c.isFile=true then[] else[c.name])++c.lines.flatMap usedInLine;rw[hf,e];exact .head _
 ·subst e;obtain⟨b,hb,hp⟩:=Pc.mp hm;refine h (Pc.mpr ⟨b,hb,?_⟩);cases b with
  |prose t=>cases hp
  |chunk c=>show m∈(if c.isFile=true then[] else[c.name])++c.lines.flatMap usedInLine;rw[og];exact Nc _ (Nw.mpr ⟨_,List.mem_filter.mpr ⟨hp,rfl⟩,rfl⟩)
theorem qW{old new n:Text}(h:new=old\/n≠new):(swapName old new n==new)=(n==old):=by
 unfold swapName;by_cases e:n=old
 ·rw[Le e,e];simp
 ·rw[Ld e];rcases h with h |h
  ·rw[h]
  ·rw[Ms.mpr h,Ms.mpr e]
theorem BL{d:Document}{old new:Text}(h:new=old\/new∉namesOf d):(partsOf (renamed old new d) false new).length=(partsOf d false old).length:=by
 rw[fC,fC,mF];unfold inChunks;rw[Pj];refine Qs λ b hb=>?_;cases b with
 |prose t=>exact Iff.rfl
 |chunk c=>
  show(c.isFile==false&&(if c.isFile=true then c.name else swapName old new c.name)==new)=true↔(c.isFile==false&&c.name==old)=true;cases hf:c.isFile with
  |true=>exact Iff.rfl
  |false=>simp only[No,On];rw[qW (h.imp id λ q=>(uY q).1 c hb hf)]
theorem qz(f:Chunk->Chunk)(g:Piece->Piece)(hf:∀c,(f c).lines=c.lines.map (inPieces g))(d:Document):dZ (inChunks f d)=(dZ d).map g:=by
 unfold dZ inChunks;rw[Qj,Ra];congr 1;funext b;cases b with
 |prose t=>rfl
 |chunk c=>show(f c).lines.flatMap lP=(c.lines.flatMap lP).map g;rw[hf,Qj,Ra];congr 1;funext l;cases l<;>rfl
theorem DG{d:Document}{old new:Text}(h:new=old\/new∉namesOf d):(usesOf (renamed old new d) new).length=(usesOf d old).length:=by
 rw[kY,kY,mF,qz (dW old new) (lG old new) (λ _=>rfl),Pj];refine Qs λ p hp=>?_;cases p with
 |use m as=>show(swapName old new m==new)=true↔(m==old)=true;rw[qW (h.imp id λ q=>(uY q).2 m as hp)]
 |lit t=>exact Iff.rfl
 |param n=>exact Iff.rfl
theorem BM{d:Document}{old new:Text}(h:new=old\/new∉filesOf d):(partsOf (refiled old new d) true new).length=(partsOf d true old).length:=by
 rw[fC,fC,sK];unfold inChunks;rw[Pj];refine Qs λ b hb=>?_;cases b with
 |prose t=>exact Iff.rfl
 |chunk c=>
  show((ck old new c).isFile==true&&(ck old new c).name==new)=true↔(c.isFile==true&&c.name==old)=true;unfold ck;cases hf:c.isFile with
  |false=>simp only[No,On,hf];exact Iff.rfl
  |true=>
   simp only[Re,hf];rw[qW (h.imp id λ q e=>q ?_)];rw[sQ,kW];refine .inr (Pc.mpr ⟨c,?_,?_⟩)
   ·unfold chunksOf;exact Rk.mpr ⟨_,hb,rfl⟩
   ·unfold iO;rw[Le hf,e];exact .head _
theorem Fo(old new:Text)(d:Document):fQ (resettled old new d)=(fQ d).map (jI old new):=by
 rw[oe];unfold fQ;rw[iA,iA,Ra];unfold inChunks;rw[Qj];congr 1;funext b;cases b with
 |prose t=>rfl
 |chunk c=>show(c.lines.map (jI old new)).filter sR=(c.lines.filter sR).map (jI old new);rw[List.filter_map];congr 2;funext l;cases l<;>rfl
theorem BN(d:Document)(n:Text):settingCount d n=((fQ d).filter λ l=>decide (lS l=n)).length:=by
 unfold settingCount;rw[fe,Pj,List.countP_eq_length_filter];congr 2;funext l;show(lS l==n)=decide (lS l=n);by_cases h:lS l=n
 ·rw[Ll h];exact Qa.mpr h
 ·rw[Mn h];exact Ms.mpr h
theorem BO{d:Document}{old new:Text}(h:new=old\/new∉settingsOf d):settingCount (resettled old new d) new=settingCount d old:=by
 unfold settingCount;rw[fe,fe,Fo,Nl,Pj,Pj];refine Qs λ l hl=>?_;have hi:sR l=true:=by unfold fQ at hl;obtain⟨c,_,hc⟩:=Pc.mp hl;exact(List.mem_filter.mp hc).2
 cases l with
 |«when» s=>show(swapName old new s==new)=true↔(s==old)=true;rw[qW (h.imp id λ q e=>q ?_)];rw[md,kW];exact .inr (Nw.mpr ⟨_,hl,e⟩)
 |code l=>cases hi
 |otherwise=>cases hi
 |done=>cases hi
theorem qa(d:Document)(n:Text):paramsOf d n=((chunksOf d).filter λ c=>c.isFile==false&&c.name==n).head?.map λ c=>c.params:=by unfold paramsOf;rw[<-List.head?_filter];congr 3;funext c;cases c.isFile<;>rfl
def dJ:Out->Nat
 |.ok x=>x.2.length
 |.error _=>1
theorem je(d:Document)(l:List Nat)(h:1<=l.length):dJ (held d l)<=l.length:=by
 unfold held;split
 ·exact Lf _
 ·exact h
theorem vV(d:Document):d.length<=(documentText d).length:=by
 induction d with
 |nil=>exact Lf _
 |cons b d ih=>
  have h1:1<=(blockText b).length:=by
   cases b with
   |prose t=>show 1<=(t++[10]).length;simp
   |chunk c=>rw[cD];omega
  show _<=(blockText b++documentText d).length;rw[La,Lg];omega
theorem qb{d:Document}{i:Int}{f:Nat->Block->Out}{n:Nat}(h1:1<=n)(h:∀k b,b∈d->dJ (f k b)<=n):dJ (onBlock ⟨d⟩ i f)<=n:=by
 unfold onBlock;split
 ·exact h1
 ·show dJ (match d[i.toNat]? with
   |some b=>f i.toNat b
   |none=>.error 2)<=n
  cases e:d[i.toNat]? with
  |none=>exact h1
  |some b=>exact h _ b (Nm e)
theorem qd{d:Document}{i:Int}{f:Nat->Chunk->Out}{n:Nat}(h1:1<=n)(h:∀k c,Block.chunk c∈d->dJ (f k c)<=n):dJ (onChunk ⟨d⟩ i f)<=n:=
 qb h1 λ k b hb=>by
  cases b with
  |prose t=>exact h1
  |chunk c=>exact h k c hb
theorem xT{c:Chunk}{l:Line}(h:l∈c.lines):(lineText l).length<=(blockText (.chunk c)).length:=by
 rw[cD];have key:∀ls:List Line,l∈ls->(lineText l).length<=(ls.flatMap λ l=>ended (lineText l)).length:=by
  intro ls
  induction ls with
  |nil=>intro h;cases h
  |cons x ls ih=>
   intro h;rw[Me,La];rcases Lp.mp h with rfl |h
   ·unfold ended;rw[La];omega
   ·have:=ih h;omega
 have:=key _ h;omega
theorem xU(l:List (Nat×Nat×Nat)):(l.flatMap λ x=>[x.1,x.2.1,x.2.2]).length=3*l.length:=by
 induction l with
 |nil=>rfl
 |cons x l ih=>rw[Me,La,ih,Lg];simp only[Lg,Mo];omega
theorem DH{d:Document}(hw:cJ d)(hf:(documentText d).length<=20000)(c:Call):dJ (does ⟨d⟩ c)<=100000:=by
 have tl:∀t:Text,t.length<=20000->(toldText t).length<=20001:=λ t h=>by rw[bF];omega
 cases c with
 |read t=>
  show dJ (doRead ⟨d⟩ t)<=_;unfold doRead;split
  ·show 1<=_;omega
  ·split
   ·show 2<=_;omega
   ·show 2<=_;omega
 |showAll=>show(toldText (documentText d)).length<=_;have:=tl _ hf;omega
 |block i=>show dJ (onBlock ⟨d⟩ i λ _ b=>tell ⟨d⟩ (blockKind b::toldText (blockText b)))<=_;refine qb (n:=100000) (by omega) λ k b hb=>?_;show(blockKind b::toldText (blockText b)).length<=_;rw[Lg];have:=tl _ (Ln (kU hb) hf);omega
 |put i t=>
  show dJ (doPut ⟨d⟩ i t)<=_;unfold doPut;split
  ·show 1<=_;omega
  ·split
   ·show 1<=_;omega
   ·refine Ln (je _ _ (Lf _)) ?_;show 1<=_;omega
 |cut i n=>
  show dJ (doCut ⟨d⟩ i n)<=_;unfold doCut;split
  ·show 1<=_;omega
  ·show 1<=_;omega
 |move i n j=>
  show dJ (doMove ⟨d⟩ i n j)<=_;unfold doMove;split
  ·show 1<=_;omega
  ·split
   ·show 1<=_;omega
   ·show 1<=_;omega
 |lines i j n t=>
  show dJ (doLines ⟨d⟩ i j n t)<=_;unfold doLines;refine qd (n:=100000) (by omega) λ k c hb=>?_;split
  ·show 1<=_;omega
  ·split
   ·show 1<=_;omega
   ·refine Ln (je _ _ (Lf _)) ?_;show 1<=_;omega
 |rename old new=>
  show dJ (doRename ⟨d⟩ old new)<=_;unfold doRename;split
  ·show 1<=_;omega
  ·split
   ·show 1<=_;omega
   ·split
    ·show 1<=_;omega
    ·refine Ln (je _ _ (by show 1<=2;omega)) ?_;show 2<=_;omega
 |refile old new=>
  show dJ (doRefile ⟨d⟩ old new)<=_;unfold doRefile;split
  ·show 1<=_;omega
  ·split
   ·show 1<=_;omega
   ·split
    ·show 1<=_;omega
    ·refine Ln (je _ _ (Lf _)) ?_;show 1<=_;omega
 |reparam n old new=>
  show dJ (doReparam ⟨d⟩ n old new)<=_;unfold doReparam;split
  ·show 1<=_;omega
  ·split
   ·show 1<=_;omega
   ·split
    ·show 1<=_;omega
    ·split
     ·show 1<=_;omega
     ·refine Ln (je _ _ (Lf _)) ?_;show 1<=_;omega
 |resettle old new=>
  show dJ (doResettle ⟨d⟩ old new)<=_;unfold doResettle;split
  ·show 1<=_;omega
  ·split
   ·show 1<=_;omega
   ·split
    ·show 1<=_;omega
    ·refine Ln (je _ _ (Lf _)) ?_;show 1<=_;omega
 |names=>show(toldTexts (namesOf d)).length<=_;rw[de];have:=uQ d;omega
 |files=>show(toldTexts (filesOf d)).length<=_;rw[de];have:=uR d;omega
 |settings=>show(toldTexts (settingsOf d)).length<=_;rw[de];have:=nZ d;omega
 |parts k n=>
  show dJ (if upTo k 1=false then .error 2 else tell ⟨d⟩ ((partsOf d (k==1) n).length::partsOf d (k==1) n))<=_;split
  ·show 1<=_;omega
  ·show((partsOf d (k==1) n).length::partsOf d (k==1) n).length<=_;rw[Lg,fC];have:=Pg (p:=iP (k==1) n) (l:=d);have:=vV d;omega
 |uses n=>show((usesOf d n).length::(usesOf d n).flatMap λ x=>[x.1,x.2.1,x.2.2]).length<=_;rw[Lg,xU,kY];have:=Pg (p:=fZ n) (l:=dZ d);have:=jK hw;omega
 |params n=>
  show dJ (match paramsOf d n with
   |some l=>tell ⟨d⟩ (toldTexts l)
   |none=>.error 3)<=_
  cases e:paramsOf d n with
  |none=>show 1<=_;omega
  |some l=>show(toldTexts l).length<=_;rw[de];have:=xL hw e;omega
 |pieces i j=>
  show dJ (doPieces ⟨d⟩ i j)<=_;unfold doPieces;refine qd (n:=100000) (by omega) λ k c hb=>?_;split
  ·show 1<=_;omega
  ·split
   ·rename_i l e;have hl:=Nm e;show(lineNumbers l).length<=_;have h1:=jV ((hw _ hb).2 l hl);have h2:=xT hl;have h3:=kU hb;omega
   ·show 1<=_;omega
 |size=>show 4<=_;omega
theorem GU{L:List Int}{i:Nat}{x s:List Int}(h:PyFlat.row (L.drop i)=some (x,s)):∃n:Nat,L[i]?=some (n:Int)/\x=(L.drop (i+1)).take n/\s=L.drop (i+1+n)/\i+1+n<=L.length:=by
 cases e:L.drop i with
 |nil=>rw[e]at h;cases h
 |cons z r=>
  rw[e]at h;have hi:i<L.length:=by
   rcases Sh i L.length with q |q
   ·exact q
   ·rw[Pp q]at e;cases e
  rw[Mz hi]at e;injection e with e1 e2
  have h:(if 0<=z/\z.toNat<=r.length then some (r.take z.toNat,r.drop z.toNat) else none)=some (x,s):=h;by_cases q:0<=z/\z.toNat<=r.length
  ·rw[Le q]at h;have h:=Lz h;injection h with h1 h2
   refine⟨z.toNat,?_,?_,?_,?_⟩
   ·rw[Mt hi,e1];congr 1;omega
   ·rw[<-h1,<-e2]
   ·rw[<-h2,<-e2,Pe]
   ·have:=q.2;rw[<-e2,Lw]at this;omega
  ·rw[Ld q]at h;cases h
theorem AB{L:List Int}{i k:Nat}{xs:List (List Int)}{t:List Int}(h:PyFlat.rows (k+1) (L.drop i)=some (xs,t)):
  ∃(n:Nat) (ys:List (List Int)),L[i]?=some (n:Int)/\xs=(L.drop (i+1)).take n::ys/\i+1+n<=L.length/\PyFlat.rows k (L.drop (i+1+n))=some (ys,t):=by
 have h:(match PyFlat.row (L.drop i) with
  |none=>none
  |some (x,s)=>match PyFlat.rows k s with
   |none=>none
   |some (xs,t)=>some (x::xs,t))=some (xs,t):=h
 cases e:PyFlat.row (L.drop i) with
 |none=>rw[e]at h;cases h
 |some z=>
  obtain⟨x,s⟩:=z;rw[e]at h;obtain⟨n,h1,h2,h3,h4⟩:=GU e;simp only at h;cases e2:PyFlat.rows k s with
  |none=>rw[e2]at h;cases h
  |some z=>
   obtain⟨ys,t'⟩:=z;rw[e2]at h;simp only at h;have h:=Lz h;injection h with h5 h6
   subst h5 h6 h2 h3;exact⟨n,ys,h1,rfl,h4,e2⟩
theorem sU{k:Nat}:∀{L:List Int} {i:Nat} {xs:List (List Int)} {t:List Int},i<=L.length->PyFlat.rows k (L.drop i)=some (xs,t)->xs.length=k/\∃j,i<=j/\j<=L.length/\t=L.drop j:=by
 induction k with
 |zero=>
  intro L i xs t hi h;have h:some (([]:List (List Int)),L.drop i)=some (xs,t):=h;have h:=Lz h;injection h with h1 h2
  subst h1 h2;exact⟨rfl,i,Lf _,hi,rfl⟩
 |succ k ih=>intro L i xs t hi h;obtain⟨n,ys,h1,h2,h3,h4⟩:=AB h;obtain⟨h5,j,h6,h7,h8⟩:=ih h3 h4;subst h2;exact⟨by rw[Lg,h5],j,by omega,h7,h8⟩
theorem AC{L:List Int}{i:Nat}{c:List (List Int)}{t:List Int}(hi:i<L.length)(h:PyFlat.call PyValita.shape (L.drop i)=some (c,t)):
  ∃(p:Int) (n k:Nat) (xs:List (List Int)),L[i]?=some p/\PyValita.shape p=some (n,k)/\i+1+n<=L.length/\PyFlat.rows k (L.drop (i+1+n))=some (xs,t)/\c=(p::(L.drop (i+1)).take n):: xs:=by
 rw[Mz hi]at h;have h:(match PyValita.shape L[i] with
  |none=>none
  |some (n,k)=>if(L.drop (i+1)).length<n then none else match PyFlat.rows k ((L.drop (i+1)).drop n) with
   |none=>none
   |some (xs,t)=>some ((L[i]:: (L.drop (i+1)).take n):: xs,t))=some (c,t):=h
 cases e:PyValita.shape L[i] with
 |none=>rw[e]at h;cases h
 |some z=>
  obtain⟨n,k⟩:=z;rw[e]at h;simp only at h;by_cases q:(L.drop (i+1)).length<n
  ·rw[Le q]at h;cases h
  ·rw[Ld q,Pe]at h;cases e2:PyFlat.rows k (L.drop (i+1+n)) with
   |none=>rw[e2]at h;cases h
   |some z=>
    obtain⟨xs,t'⟩:=z;rw[e2]at h;simp only at h;have h:=Lz h;injection h with h5 h6
    subst h5 h6;rw[Lw]at q;exact⟨L[i],n,k,xs,Mt hi,e,by omega,e2,rfl⟩
theorem sV{L:List Int}{i f:Nat}{cs:List (List (List Int))}(hi:i<L.length)(h:PyFlat.calls PyValita.shape f (L.drop i)=some cs):
  ∃(c:List (List Int)) (cs':List (List (List Int))) (t:List Int) (f':Nat),PyFlat.call PyValita.shape (L.drop i)=some (c,t)/\cs=c::cs'/\PyFlat.calls PyValita.shape f' t=some cs':=by
 rw[Mz hi]at h ⊢;cases f with
 |zero=>cases h
 |succ f=>
  have h:(match PyFlat.call PyValita.shape (L[i]:: L.drop (i+1)) with
   |none=>none
   |some (c,t)=>match PyFlat.calls PyValita.shape f t with
    |none=>none
    |some cs=>some (c::cs))=some cs:=h
  cases e:PyFlat.call PyValita.shape (L[i]:: L.drop (i+1)) with
  |none=>rw[e]at h;cases h
  |some z=>
   obtain⟨c,t⟩:=z;rw[e]at h;simp only at h;cases e2:PyFlat.calls PyValita.shape f t with
   |none=>rw[e2]at h;cases h
   |some cs'=>rw[e2]at h;exact⟨c,cs',t,f,rfl,(Lz h).symm,e2⟩
theorem uZ{f:Nat}{cs:List (List (List Int))}(h:PyFlat.calls PyValita.shape f []=some cs):cs=[]:=by cases f<;>exact(Lz h).symm
def qA(x:List Int):Text:=x.map λ b=>UInt8.ofNat b.toNat
theorem xV{x:List Int}(h:x.all (fun(z:Int)=>ValitaNeutral.natural z 8)=true):ValitaNeutral.text? x=some (qA x)/\(qA x).map (λ b=>(b.toNat:Int))=x:=by
 have key:∀z∈x,0<=z/\z<256:=λ z hz=>by have:=Nk.mp h z hz;unfold ValitaNeutral.natural at this;rw[Li]at this;exact⟨Lh this.1,Lh this.2⟩
 refine⟨?_,?_⟩
 ·unfold ValitaNeutral.text?;rw[Le]
  ·rfl
  ·unfold NeutralIO.bytes;rw[Nk];intro z hz;have:=key z hz;simp only[Li,Nv];omega
 ·unfold qA;rw[Nl]
  conv=>rhs;rw[<-List.map_id x]
  refine Rg λ z hz=>?_;have:=key z hz;show((UInt8.ofNat z.toNat).toNat:Int)=z;rw[UInt8.toNat_ofNat'];omega
theorem Fp{d:Document}{c:List (List Int)}{k:Call}(h:ValitaNeutral.callOf c=some k):ValitaNeutral.step ⟨d⟩ c=(⟨Ax d (does ⟨d⟩ k)⟩,ja (does ⟨d⟩ k)):=by
 unfold ValitaNeutral.step;rw[h];show((Valita.step ⟨d⟩ k).1,ValitaNeutral.encode (Valita.step ⟨d⟩ k).2)=_;unfold Valita.step;cases does ⟨d⟩ k with
 |ok x=>rfl
 |error n=>rfl
theorem xW{d:Document}{c:List (List Int)}{cs:List (List (List Int))}{k:Call}(h:ValitaNeutral.callOf c=some k):
  PyFlat.told (PyFlat.played ValitaNeutral.step ⟨d⟩ (c::cs))=((ja (does ⟨d⟩ k)).length:Int):: ja (does ⟨d⟩ k)++PyFlat.told (PyFlat.played ValitaNeutral.step ⟨Ax d (does ⟨d⟩ k)⟩ cs):=by
 show PyFlat.told ((ValitaNeutral.step ⟨d⟩ c).2::PyFlat.played ValitaNeutral.step (ValitaNeutral.step ⟨d⟩ c).1 cs)=_;rw[Fp h];rfl
def cx(x:List Int):Bool:=x.all (fun(z:Int)=>ValitaNeutral.natural z 8)&&decide (x.length<=24000)
inductive ic:Int->List Int->List (List Int)->Call->Prop
 |read {x} (h:cx x=true):ic 0 [] [x] (.read (qA x))
 |showAll:ic 1 [] [] .showAll
 |block {i}:ic 2 [i] [] (.block i)
 |put {i x} (h:cx x=true):ic 3 [i] [x] (.put i (qA x))
 |cut {i n}:ic 4 [i,n] [] (.cut i n)
 |move {i n j}:ic 5 [i,n,j] [] (.move i n j)
 |lines {i j n x} (h:cx x=true):ic 6 [i,j,n] [x] (.lines i j n (qA x))
 |rename {x y} (h:cx x=true) (h':cx y=true):ic 7 [] [x,y] (.rename (qA x) (qA y))
 |refile {x y} (h:cx x=true) (h':cx y=true):ic 8 [] [x,y] (.refile (qA x) (qA y))
 |reparam {m x y} (h0:cx m=true) (h:cx x=true) (h':cx y=true):ic 9 [] [m,x,y] (.reparam (qA m) (qA x) (qA y))
 |resettle {x y} (h:cx x=true) (h':cx y=true):ic 10 [] [x,y] (.resettle (qA x) (qA y))
 |names:ic 11 [] [] .names
 |files:ic 12 [] [] .files
 |settings:ic 13 [] [] .settings
 |parts {k x} (h:cx x=true):ic 14 [k] [x] (.parts k (qA x))
 |uses {x} (h:cx x=true):ic 15 [] [x] (.uses (qA x))
 |params {x} (h:cx x=true):ic 16 [] [x] (.params (qA x))
 |pieces {i j}:ic 17 [i,j] [] (.pieces i j)
 |size:ic 18 [] [] .size
theorem bQ{x:List Int}(h:cx x=true):ValitaNeutral.text? x=some (qA x):=by unfold cx at h;rw[Li]at h;exact(xV h.1).1
theorem hZ{α:Type}{l:List α}(h:l.length=0):l=[]:=Oe.mp h
theorem sW{α:Type}{l:List α}(h:l.length=1):∃a,l=[a]:=by
 match l,h with
 |[a],_=>exact⟨a,rfl⟩
theorem zA{α:Type}{l:List α}(h:l.length=2):∃a b,l=[a,b]:=by
 match l,h with
 |[a,b],_=>exact⟨a,b,rfl⟩
theorem DI{α:Type}{l:List α}(h:l.length=3):∃a b c,l=[a,b,c]:=by
 match l,h with
 |[a,b,c],_=>exact⟨a,b,c,rfl⟩
theorem sO{p a:Int}{x:Nat×Nat}{r:Option (Nat×Nat)}{n k:Nat}{R:Prop}(h:(if p=a then some x else r)=some (n,k))(e:r=some (n,k)->R):(p=a/\n=x.1/\k=x.2)\/R:=by
 by_cases q:p=a
 ·rw[Le q]at h;have h:=Lz h;exact .inl ⟨q,(Na Prod.fst h).symm,(Na Prod.snd h).symm⟩
 ·rw[Ld q]at h;exact .inr (e h)
theorem iC{p:Int}{n k:Nat}(h:PyValita.shape p=some (n,k)):
  (p=0/\n=0/\k=1)\/(p=1/\n=0/\k=0)\/(p=2/\n=1/\k=0)\/(p=3/\n=1/\k=1)\/(p=4/\n=2/\k=0)\/(p=5/\n=3/\k=0)\/(p=6/\n=3/\k=1)\/(p=7/\n=0/\k=2)\/(p=8/\n=0/\k=2)\/(p=9/\n=0/\k=3)\/
  (p=10/\n=0/\k=2)\/(p=11/\n=0/\k=0)\/(p=12/\n=0/\k=0)\/(p=13/\n=0/\k=0)\/(p=14/\n=1/\k=1)\/(p=15/\n=0/\k=1)\/(p=16/\n=0/\k=1)\/(p=17/\n=2/\k=0)\/(p=18/\n=0/\k=0):=by
 unfold PyValita.shape at h;exact sO h λ h=>sO h λ h=>sO h λ h=>sO h λ h=>sO h λ h=>sO h λ h=>sO h λ h=>sO h λ h=>sO h λ h=>sO h λ h=>sO h λ h=>sO h λ h=>sO h λ h=>sO h λ h=>sO h λ h=>sO h λ h=>sO h λ h=>sO h λ h=>(sO h λ h=>nomatch h).resolve_right id
theorem DJ{p:Int}{ns:List Int}{xs:List (List Int)}{n k:Nat}(hs:PyValita.shape p=some (n,k))(hn:ns.length=n)(hx:xs.length=k):PyValita.whole ((p::ns):: xs)=(p::ns):: xs:=by rcases iC hs with h |h |h |h |h |h |h |h |h |h |h |h |h |h |h |h |h |h |h<;>obtain⟨rfl,rfl,rfl⟩:=h<;>(first |obtain rfl:=hZ hn |obtain⟨_,rfl⟩:=sW hn |obtain⟨_,_,rfl⟩:=zA hn |obtain⟨_,_,_,rfl⟩:=DI hn)<;>(first |obtain rfl:=hZ hx |obtain⟨_,rfl⟩:=sW hx |obtain⟨_,_,rfl⟩:=zA hx |obtain⟨_,_,_,rfl⟩:=DI hx)<;>rfl
theorem qe:∀(cs:List (List (List Int))) (f:Nat) (L:List Int),PyFlat.calls PyValita.shape f L=some cs->cs.map PyValita.whole=cs
 |[],_,_,_=>rfl
 |c::cs,f,L,h=>by
  cases L with
  |nil=>cases uZ h
  |cons z r=>
   obtain⟨c1,cs1,t,f1,h1,e,h2⟩:=sV (L:=z::r) (i:=0) (Nat.zero_lt_succ _) h;injection e with e1 e2
   subst e1 e2;obtain⟨q,n,k,xs,hq,hsh,hn,hrw,rfl⟩:=AC (L:=z::r) (i:=0) (Nat.zero_lt_succ _) h1;rw[Mp,DJ hsh (by rw[Lr,Lw];omega) (sU hn hrw).1,qe cs f1 t h2]
theorem xX(L:List Int):PyValita.calls L=PyFlat.calls PyValita.shape L.length L:=by
 unfold PyValita.calls;cases e:PyFlat.calls PyValita.shape L.length L with
 |none=>rfl
 |some cs=>show some (cs.map PyValita.whole)=some cs;rw[qe cs _ _ e]
theorem Fq{p:Int}{ns:List Int}{xs:List (List Int)}{n k:Nat}(hs:PyValita.shape p=some (n,k))(hn:ns.length=n)(hx:xs.length=k)(ha:ValitaNeutral.asked1 ((p::ns):: xs)=true):
  ∃c,ic p ns xs c/\ValitaNeutral.callOf ((p::ns):: xs)=some c:=by
 rcases iC hs with h |h |h |h |h |h |h |h |h |h |h |h |h |h |h |h |h |h |h<;>obtain⟨rfl,rfl,rfl⟩:=h
 ·obtain rfl:=hZ hn;obtain⟨x,rfl⟩:=sW hx;have h:cx x=true:=ha;exact⟨_,.read h,by show(ValitaNeutral.text? x).map Call.read=_;rw[bQ h];rfl⟩
 ·obtain rfl:=hZ hn;obtain rfl:=hZ hx;exact⟨_,.showAll,rfl⟩
 ·obtain⟨i,rfl⟩:=sW hn;obtain rfl:=hZ hx;exact⟨_,.block,rfl⟩
 ·obtain⟨i,rfl⟩:=sW hn;obtain⟨x,rfl⟩:=sW hx;have h:(ValitaNeutral.whole60 i&&cx x)=true:=ha;have h:=(Li _ _▸h).2;exact⟨_,.put h,by show(ValitaNeutral.text? x).map (Call.put i)=_;rw[bQ h];rfl⟩
 ·obtain⟨i,n,rfl⟩:=zA hn;obtain rfl:=hZ hx;exact⟨_,.cut,rfl⟩
 ·obtain⟨i,n,j,rfl⟩:=DI hn;obtain rfl:=hZ hx;exact⟨_,.move,rfl⟩
 ·obtain⟨i,j,n,rfl⟩:=DI hn;obtain⟨x,rfl⟩:=sW hx;have h:(ValitaNeutral.whole60 i&&(ValitaNeutral.whole60 j&&(ValitaNeutral.whole60 n&&cx x)))=true:=ha;simp only[Li]at h;have h:=h.2.2.2;exact⟨_,.lines h,by show(ValitaNeutral.text? x).map (Call.lines i j n)=_;rw[bQ h];rfl⟩
 ·obtain rfl:=hZ hn;obtain⟨x,y,rfl⟩:=zA hx;have h:(cx x&&cx y)=true:=ha;rw[Li]at h;exact⟨_,.rename h.1 h.2,by show((ValitaNeutral.text? x).bind λ a=>(ValitaNeutral.text? y).map λ b=>Call.rename a b)=_;rw[bQ h.1,bQ h.2];rfl⟩
 ·obtain rfl:=hZ hn;obtain⟨x,y,rfl⟩:=zA hx;have h:(cx x&&cx y)=true:=ha;rw[Li]at h;exact⟨_,.refile h.1 h.2,by show((ValitaNeutral.text? x).bind λ a=>(ValitaNeutral.text? y).map λ b=>Call.refile a b)=_;rw[bQ h.1,bQ h.2];rfl⟩
 ·obtain rfl:=hZ hn;obtain⟨m,x,y,rfl⟩:=DI hx;have h:(cx m&&(cx x&&cx y))=true:=ha;rw[Li,Li]at h;exact⟨_,.reparam h.1 h.2.1 h.2.2,by show((ValitaNeutral.text? m).bind λ c=>(ValitaNeutral.text? x).bind λ a=>(ValitaNeutral.text? y).map λ b=>Call.reparam c a b)=_;rw[bQ h.1,bQ h.2.1,bQ h.2.2];rfl⟩
 ·obtain rfl:=hZ hn;obtain⟨x,y,rfl⟩:=zA hx;have h:(cx x&&cx y)=true:=ha;rw[Li]at h;exact⟨_,.resettle h.1 h.2,by show((ValitaNeutral.text? x).bind λ a=>(ValitaNeutral.text? y).map λ b=>Call.resettle a b)=_;rw[bQ h.1,bQ h.2];rfl⟩
 ·obtain rfl:=hZ hn;obtain rfl:=hZ hx;exact⟨_,.names,rfl⟩
 ·obtain rfl:=hZ hn;obtain rfl:=hZ hx;exact⟨_,.files,rfl⟩
 ·obtain rfl:=hZ hn;obtain rfl:=hZ hx;exact⟨_,.settings,rfl⟩
 ·obtain⟨i,rfl⟩:=sW hn;obtain⟨x,rfl⟩:=sW hx;have h:(ValitaNeutral.whole60 i&&cx x)=true:=ha;have h:=(Li _ _▸h).2;exact⟨_,.parts h,by show(ValitaNeutral.text? x).map (Call.parts i)=_;rw[bQ h];rfl⟩
 ·obtain rfl:=hZ hn;obtain⟨x,rfl⟩:=sW hx;have h:cx x=true:=ha;exact⟨_,.uses h,by show(ValitaNeutral.text? x).map Call.uses=_;rw[bQ h];rfl⟩
 ·obtain rfl:=hZ hn;obtain⟨x,rfl⟩:=sW hx;have h:cx x=true:=ha;exact⟨_,.params h,by show(ValitaNeutral.text? x).map Call.params=_;rw[bQ h];rfl⟩
 ·obtain⟨i,j,rfl⟩:=zA hn;obtain rfl:=hZ hx;exact⟨_,.pieces,rfl⟩
 ·obtain rfl:=hZ hn;obtain rfl:=hZ hx;exact⟨_,.size,rfl⟩
end Tw
namespace Tw
open PySem PySem.Spec PyProof.Rows L2
theorem oY(f:(Option (Sem Value)×Sem Value)->(Option Addr×List (Sem Value×Sem Value))->Sem (ForInStep (Option Addr×List (Sem Value×Sem Value))))(main:Option Addr)(hf:∀(p:Sem Value×Sem Value) (run:List (Sem Value×Sem Value)),run.length+1<17->f (some p.1,p.2) (main,run)=pure (.yield (main,run++[p]))):
  ∀(xs run:List (Sem Value×Sem Value)) (rest:List (Option (Sem Value)×Sem Value)),run.length+xs.length<17->forIn (xs.map (λ p=>(some p.1,p.2))++rest) (main,run) f=forIn rest (main,run++xs) f
 |[],run,rest,_=>by simp
 |p::xs,run,rest,h=>by rw[Mp,List.cons_append,Rh,hf p run (by simp at h;omega),pure_bind];have ih:=oY f main hf xs (run++[p]) rest (by simp at h ⊢;omega);simpa using ih
section
variable{prog:Program}{w:World}{A:Around}{E:Value->Shared->Prop}{s:Shared}{K:Type}[DecidableEq K]{knd:PySem.KeyKind prog w K}
theorem xY{d:Addr}{kvs:List (K×Value)}{k:K}{key v:Value}{hs:Int}{Q:Unit->Shared->Prop}(hkey:knd.is k key=true)(hh:hs=knd.hash k)(hm:s.heap.DictOf knd d kvs)(hnew:k∉kvs.map (·.1))(hsz:kvs.length<=sizeLine)(hQ:∀h',h'.DictOf knd d (kvs++[(k,v)])->Heap.SameBut d s.heap h'->Q () {s with heap:=h'}):wpAny (model prog w) A (dictPut d hs key v) Q E s:=by
 subst hh;obtain⟨o,es,ep,ho,hc,hd,hk,hp,hn⟩:=hm;have e1:=hp.length;have hes:es.size<=sizeLine:=by rw[<-Pn];omega
 unfold dictPut;refine Lb (wpAny_dictFind_of hkey ho hd hk ?_);have hi:(es.findIdx? λ e=>knd.is k e.key)=none:=by
  have h1:(es.findIdx? λ e=>knd.is k e.key)=es.toList.findIdx? λ e=>knd.is k e.key:=by obtain⟨l⟩:=es;simp
  rw[h1,hp.findIdx k,List.findIdx?_eq_none_iff];intro x hx;exact Mn λ q=>hnew (Nw.mpr ⟨x,hx,q⟩)
 rw[hi];refine wpAny_updateDictKeys (hz:=hes) ho hd (hQ _ ⟨_,_,ep+1,Heap.get?_update_self _ ho (Obj.isFreed_of_dict (Obj.data_mapDictKeys hd _)),hc.mapDictKeys _,Obj.data_mapDictKeys hd _,hk.push hkey _,?_,?_⟩ (Qk ..))
 ·have q:=hp.append hkey (knd.hash k) v;obtain⟨l⟩:=es;simpa using q
 ·rw[Mh,Ry];refine⟨hn,by simp,λ a ha b hb q=>hnew ?_⟩;have:b=k:=by simpa using hb
  rw[<-this,<-q];exact ha
theorem zB{d a:Addr}{kvs more:List (K×Value)}{Q:Unit->Shared->Prop}(hne:a≠d)(lo:(a==sysModules)=false)(hm:s.heap.DictOf knd d kvs)(h0:kvs≠[])(ha:s.heap.DictOf knd a more)(hn:((kvs++more).map (·.1)).Nodup)(hsz:kvs.length+more.length<=sizeLine)(hQ:∀h',h'.DictOf knd d (kvs++more)->Heap.SameBut d s.heap h'->Q () {s with heap:=h'}):wpAny (model prog w) A (mergeMapping d (.ref a) false) Q E s:=by
 have hT:s.TypeIs (.ref a) "dict":=ha.typeIs;obtain⟨oa,ea,epa,hoa,hca,hda,hka,hpa,hna⟩:=id ha;obtain⟨o,es,ep,ho,hc,hd,hk,hp,hnd⟩:=id hm;have lea:ea.size=more.length:=by rw[<-Pn];exact hpa.length
 unfold mergeMapping;refine Lb (Sf (T :="dict") (b:=true) hT (by rw[isSubtype_type];kernel_rfl) ?_);refine wpAny_ite_split (λ _=>?_) (λ q=>absurd rfl q);refine Lb (wpAny_specialOf hT F.slot_dict_iter.lookup ?_);dsimp only;simp only[beq_self_eq_true];refine Lb (Lm ?_);show wpAny (model prog w) A (if(a==sysModules)=true then _ else _) _ _ _;rw[Ld (by rw[lo];decide)];refine Lb (Py ho hd ?_);have hie:¬es.isEmpty=true:=by
  intro q;have:es.toList.length=0:=by simpa using q
  rw[hp.length]at this;exact absurd (Oe.mp this) h0
 rw[Ld hie];refine Lb (Py hoa hda (Lb (Rj hoa hda (Lb ?_))));have loop:∀(m i:Nat) (s':Shared) (R:PUnit->Shared->Prop),i+m=ea.size->s'.heap.DictOf knd d (kvs++more.take i)->Heap.SameBut d s.heap s'.heap->(s'.gens=s.gens/\s'.drawn=s.drawn/\s'.toks=s.toks/\s'.os=s.os)->
   (∀h',h'.DictOf knd d (kvs++more)->Heap.SameBut d s.heap h'->R PUnit.unit {s with heap:=h'})->
   wpAny (model prog w) A (forIn (List.range' i m) PUnit.unit λ i __s=>do
          let __do_lift <-dictEntries a
          match __do_lift[i]? with
           |some e=>do
            holding [e.key,e.val]
              (if false=true then do
               let __do_lift <-dictFind d e.key e.hash
               if __do_lift.isSome=true then do
                 rule "dict.merge.duplicate-key"
                 let __do_lift <-newExc (Value.type "KeyError") [e.key]
                 raiseNew __do_lift
                 dictPut d e.hash e.key e.val
                else dictPut d e.hash e.key e.val
              else dictPut d e.hash e.key e.val)
            let __do_lift <-dictEpoch a
            if(__do_lift != epa)=true then do
              unsupported "dict.changed-during-merge"
              pure (ForInStep.yield PUnit.unit)
             else pure (ForInStep.yield PUnit.unit)
           |x=>do
            unsupported "dict.changed-during-merge"
            pure (ForInStep.yield PUnit.unit)) R E s':=by
  intro m
  induction m with
  |zero=>
   intro i s' R hi hm' hs hq hR;rw[List.range'_zero,Rq];refine Lm ?_;have e1:more.take i=more:=by rw[Mx];omega
   rw[e1]at hm';have e2:s'={s with heap:=s'.heap}:=by obtain⟨q1,q2,q3,q4⟩:=hq;cases s';simp only at q1 q2 q3 q4;subst q1 q2 q3 q4;rfl
   rw[e2];exact hR _ hm' hs
  |succ m ih=>
   intro i s' R hi hm' hs hq hR;rw[List.range'_succ,Rh];have hoa':s'.heap.get? a=some oa:=(hs.2 a hne).trans hoa;have hlt:i<ea.size:=by omega
   have hlt2:i<more.length:=by omega
   refine Lb (Lb (Py hoa' hda ?_));rw[Array.getElem?_eq_getElem hlt];obtain⟨⟨k,v⟩,e3⟩:∃q,more[i]=q:=⟨_,rfl⟩;have hkv:more[i]?=some (k,v):=by rw[Mt hlt2,e3]
   have hen:ea.toList[i]?=some ea[i]:=by simp[hlt]
   obtain⟨f1,f2⟩:=hpa.get? hen hkv;obtain⟨k',g1,g2⟩:=hka ea[i] (Array.getElem_mem hlt);have ek:k'=k:=knd.inj _ _ _ g1 f1;subst ek;have ht:more.take (i+1)=more.take i++[(k',v)]:=by rw[List.take_succ,hkv];rfl
   have hnew:k'∉(kvs++more.take i).map (·.1):=by
    intro q;have e4:(kvs++more).map (·.1)=(kvs++more.take i).map (·.1)++(k'::(more.drop (i+1)).map (·.1)):=by
     conv=>lhs;rw[<-Nd (i+1) more,ht]
     simp
    rw[e4,Ry]at hn;exact hn.2.2 k' q k' (.head _) rfl
   refine Lb (Oq ?_);rw[Ld Mc];refine xY f1 g2 hm' hnew (by rw[La,Lr];omega) λ h' hd' hs'=>?_;refine Lb (Rj (s:={s' with heap:=h'}) ((hs'.2 a hne).trans hoa') hda ?_);rw[Ld (by simp)];refine Lm (ih (i+1) _ R (by omega) ?_ (hs.trans hs') hq hR);rw[ht,<-My,<-f2];exact hd'
 rw[List.range_eq_range'];refine loop ea.size 0 s _ (by omega) (by simpa using hm) (Heap.SameBut.refl _ _) ⟨rfl,rfl,rfl,rfl⟩ λ h' h1 h2=>Lm (hQ h' h1 h2)
theorem vW{a b:List (Sem Value×Sem Value)}{p:Sem Value×Sem Value}{Q:Value->Shared->Prop}(ha:a.length=16)(hb:b≠[])(hb2:b.length<17)(h:wpAny (model prog w) A (subDict (a++[p])) (λ d s1=>wpAny (model prog w) A (subDict b) (λ sub s2=>wpAny (model prog w) A (mergeMapping d (.ref sub) false) (λ _ s3=>Q (.ref d) s3) (λ _ _=>False) s2) E s1) E s):
  wpAny (model prog w) A (dictDisplay ((a++p::b).map λ p=>(some p.1,p.2))) Q E s:=by
 unfold dictDisplay;dsimp only;rw[Mh,oY _ none (λ p run h=>by
  have hne:((run++[(p.1,p.2)]).length==17)=false:=by simp;omega
  simp only[hne,No,On]) a [] _ (by simp;omega),Mp,Rh]
 have h17:(([]++a++[(p.1,p.2)]:List (Sem Value×Sem Value)).length==17)=true:=by simp;omega
 have hne:(([]++a++[(p.1,p.2)]:List (Sem Value×Sem Value)).isEmpty)=false:=by simp
 simp only[h17,hne,Re,No,On];rw[Oa];refine Lb (Lb (Lb (Lb (Ob h (λ d s1 h1=>Lm (Lm ?_)) λ _ _ e=>e))));show wpAny _ _ (forIn (List.map (λ p=>(some p.fst,p.snd)) b) (some d,[]) _) _ _ _;rw[show List.map (λ p:Sem Value×Sem Value=>(some p.fst,p.snd)) b=List.map (λ p=>(some p.fst,p.snd)) b++[] from(Lv _).symm,oY _ (some d) (λ p run h=>by
  have hne:((run++[(p.1,p.2)]).length==17)=false:=by simp;omega
  simp only[hne,No,On]) b [] [] (by simpa using hb2),Rq]
 refine Lm ?_;have hbe:b.isEmpty=false:=by simpa using hb
 simp only[Oa];simp only[hbe,No,On];refine Lb (Lb (Oq (Ob h1 (λ sub s2 h2=>?_) λ _ _ e=>e)));exact Lb (wpAny_onRaise (Oq (Ob h2 (λ _ s3 h3=>Lm (Lm h3)) λ _ _ e=>e.elim)))
theorem vX{pairs:List (Sem Value×Sem Value)}{Q:Addr->Shared->Prop}(hlen:¬pairs.length<=15)(h:wpAny (model prog w) A (forIn pairs PUnit.unit fun(x:Sem Value×Sem Value) (_:PUnit)=>(do let kv <-x.1;let vv <-holding [kv] x.2;holding [kv,vv] (dictSet s.heap.objs.size kv vv);pure (ForInStep.yield PUnit.unit):Sem (ForInStep PUnit))) (λ _ s₁=>Q s.heap.objs.size s₁) E
   {s with heap:=s.heap.push {cls:=.type "dict",data:=.dict #[]}}):wpAny (model prog w) A (subDict pairs) Q E s:=by
 unfold subDict;refine Lb (wpAny_alloc (Lb (Oq ?_)));rw[Ld hlen];refine Lb (wpAny_rule (Lb (Ob h (λ _ s₁ h₁=>Lm (Lm h₁)) λ _ _ e=>e)))
end
section
variable{X:Cx}
def PL(X:Cx):List (Option Expr)->List Expr->List (TE×TE)->Prop
 |[],[],[]=>True
 |some k::ks,v::vs,t::r=>PE X k t.1/\PE X v t.2/\PL X ks vs r
 |_,_,_=>False
theorem PL.shape:∀{keys:List (Option Expr)} {values:List Expr} {trs:List (TE×TE)},PL X keys values trs->keys.all (·.isSome)=true/\keys.length=values.length/\keys.length=trs.length
 |[],[],[],_=>⟨rfl,rfl,rfl⟩
 |some k::ks,v::vs,t::r,h=>by obtain⟨h1,h2,h3⟩:=PL.shape (keys:=ks) h.2.2;refine⟨by simpa using h1,by simp[h2],by simp[h3]⟩
 |[],[],_::_,h=>h.elim
 |[],_::_,_,h=>by cases h
 |none::_,_,_,h=>by cases h
 |some _::_,[],_,h=>by cases h
 |some _::_,_::_,[],h=>by cases h
theorem PL.drop{n:Nat}:∀{keys:List (Option Expr)} {values:List Expr} {trs:List (TE×TE)},PL X keys values trs->PL X (keys.drop n) (values.drop n) (trs.drop n):=by
 induction n with
 |zero=>intro keys values trs h;exact h
 |succ n ih=>
  intro keys values trs h
  match keys,values,trs,h with
  |[],[],[],h=>exact True.intro
  |some k::ks,v::vs,t::r,h=>exact ih (keys:=ks) (values:=vs) (trs:=r) h.2.2
theorem PL.take{n:Nat}:∀{keys:List (Option Expr)} {values:List Expr} {trs:List (TE×TE)},PL X keys values trs->PL X (keys.take n) (values.take n) (trs.take n):=by
 induction n with
 |zero=>intro keys values trs h;exact True.intro
 |succ n ih=>
  intro keys values trs h
  match keys,values,trs,h with
  |[],[],[],h=>exact True.intro
  |some k::ks,v::vs,t::r,h=>exact⟨h.1,h.2.1,ih (keys:=ks) (values:=vs) (trs:=r) h.2.2⟩
theorem PL.pps{pos:Pos}:∀{keys:List (Option Expr)} {values:List Expr} {trs:List (TE×TE)},PL X keys values trs->Ik X pos keys values trs
 |[],[],[],_=>ED
 |some k::ks,v::vs,(tk,tv):: r,h=>CK h.1 h.2.1 (PL.pps (keys:=ks) h.2.2)
 |[],[],_::_,h=>h.elim
 |[],_::_,_,h=>by cases h
 |none::_,_,_,h=>by cases h
 |some _::_,[],_,h=>by cases h
 |some _::_,_::_,[],h=>by cases h
theorem sX(n:Nat):∀(keys:List (Option Expr)) (values:List Expr) (env:Env) (pos:Pos),keys.all (·.isSome)=true->keys.length=values.length->(pairTrees keys values env pos).take n=pairTrees (keys.take n) (values.take n) env pos:=by
 induction n with
 |zero=>intro keys values env pos _ _;rw[Pd,Pd,Pd];rfl
 |succ n ih=>
  intro keys values env pos h hl
  match keys,values,h,hl with
  |[],[],_,_=>rfl
  |some k::ks,v::vs,h,hl=>show(_::pairTrees ks vs env pos).take (n+1)=_::pairTrees (ks.take n) (vs.take n) env pos;rw[List.take_succ_cons,ih ks vs env pos (by simpa using h) (by simpa using hl)]
theorem sY(n:Nat):∀(keys:List (Option Expr)) (values:List Expr) (env:Env) (pos:Pos),keys.all (·.isSome)=true->keys.length=values.length->(pairTrees keys values env pos).drop n=pairTrees (keys.drop n) (values.drop n) env pos:=by
 induction n with
 |zero=>intro keys values env pos _ _;rfl
 |succ n ih=>
  intro keys values env pos h hl
  match keys,values,h,hl with
  |[],[],_,_=>rfl
  |some k::ks,v::vs,h,hl=>show(_::pairTrees ks vs env pos).drop (n+1)=_;rw[List.drop_succ_cons,ih ks vs env pos (by simpa using h) (by simpa using hl)];rfl
def AD:List (TE×TE)->Addr->List (dl×V)->L2.St->Hp->(List (dl×V)->Hp->Prop)->Prop
 |[],_,kvs,_,H,Q=>Q kvs H
 |t::r,p,kvs,σ,H,Q=>t.1 σ H λ x H1=>t.2 σ H1 λ y H2=>∃k,x=kV k/\H2 p=some (.dK kvs)/\kvs.length<1000/\AD r p (fR kvs k y) σ (upd H2 p (.dK (fR kvs k y))) Q
theorem va{pos:Pos}{p:Addr}:∀{keys:List (Option Expr)} {values:List Expr} {trs:List (TE×TE)},PL X keys values trs->∀(pins:List (Addr×Obj)) (s:Shared) (σ:L2.St) (H:Hp) (kvs:List (dl×V)) (Q:List (dl×V)->Hp->Prop),aO X pins σ H s->AD trs p kvs σ H Q->
  wpAny (model X.prog X.w) X.A (forIn (pairTrees keys values X.env pos) PUnit.unit fun(x:Sem Value×Sem Value) (_:PUnit)=>(do let kv <-x.1;let vv <-holding [kv] x.2;holding [kv,vv] (dictSet p kv vv);pure (ForInStep.yield PUnit.unit):Sem (ForInStep PUnit))) (λ _ s'=>∃kvs' H',aO X pins σ H' s'/\Q kvs' H') X.xe s
 |[],[],[],_,pins,s,σ,H,kvs,Q,I,h=>by show wpAny _ _ (forIn [] _ _) _ _ _;rw[Rq];exact Lm ⟨kvs,H,I,h⟩
 |some k::ks,v::vs,t::r,hp,pins,s,σ,H,kvs,Q,I,h=>by
  show wpAny _ _ (forIn ((eval k X.env,do let x <-eval v X.env;standAt pos;pure x):: pairTrees ks vs X.env pos) _ _) _ _ _;rw[Rh];refine Lb (Lb (cR (hp.1 pins s σ H _ I h) λ kv s1 ⟨x,H1,I1,rx,q1⟩=>?_));refine Lb (Oq (Lb (cR (hp.2.1 pins s1 σ H1 _ I1 q1) λ vv s2 ⟨y,H2,I2,ry,kk,ex,e,hz,q2⟩=>Lb (wpAny_standAt (Lm ?_)))));subst ex;obtain⟨z,hd,vs0,r0,dd⟩:=zZ I2.hok e;have hz0:vs0.length<=sizeLine:=by rw[<-r0.length];exact z
  refine Lb (Oq (wpAny_dictSet_pairs (hsz:=hz0) (um rx) dd λ h' dd' hs=>Lm ?_));have hl:(fR kvs kk y).length<=sizeLine:=by have h1:=ii kvs kk y;rw[Sa];omega
  have he:∃q,h'.get? p=some q:=let⟨q,_,_,hq,_⟩:=dd';⟨q,hq⟩
  exact va (keys:=ks) hp.2.2 pins _ σ _ _ Q (mW (t':=s2.toks+1) I2 (by rw[e];exact True.intro) hs he (vn hl hd (r0.put kk ry) dd')) q2
 |[],[],_::_,h,_,_,_,_,_,_,_,_=>h.elim
 |[],_::_,_,h,_,_,_,_,_,_,_,_=>by cases h
 |none::_,_,_,h,_,_,_,_,_,_,_,_=>by cases h
 |some _::_,[],_,h,_,_,_,_,_,_,_,_=>by cases h
 |some _::_,_::_,[],h,_,_,_,_,_,_,_,_=>by cases h
def zC(t1 t2:List (TE×TE)):TE:=λ σ H Q=>∀p,H p=none->AD t1 p [] σ (upd H p (.dK [])) λ kvs1 H1=>H1 p=some (.dK kvs1)/\kvs1≠[]/\kvs1.length<=1000/\∀q,H1 q=none->vo t2 σ (upd H1 q (.dK [])) λ ps H2=>
 H2 q=some (.dK [])/\H2 p=some (.dK kvs1)/\∃kvs2:List (dl×V),ps=kvs2.map (λ kv=>(kV kv.1,kv.2))/\kvs2.length<=15/\rA [] kvs2=kvs2/\((kvs1++kvs2).map (·.1)).Nodup/\Q (.ref p) (upd (upd H2 q (.dK kvs2)) p (.dK (kvs1++kvs2)))
theorem AE{kvs:List (dl×V)}{vs:List (dl×Value)}(h:KV kvs vs):vs.map (·.1)=kvs.map (·.1):=by
 unfold KV at h
 induction h with
 |nil=>rfl
 |cons r p ih=>rw[Mp,Mp,ih,r.1]
theorem GV{as bs:List (dl×V)}{us vs:List (dl×Value)}(h:KV as us)(h':KV bs vs):KV (as++bs) (us++vs):=by
 unfold KV at h h' ⊢
 induction h with
 |nil=>exact h'
 |cons r p ih=>exact .cons r ih
theorem DK{keys:List (Option Expr)}{values:List Expr}{pos:Pos}{trs:List (TE×TE)}(h:PL X keys values trs)(h18:18<=trs.length)(h32:trs.length<=32):PE X (.Dict keys values pos) (zC (trs.take 17) (trs.drop 17)):=by
 intro pins s σ H Q I q;obtain⟨ha,hl,hn⟩:=h.shape;have hpl:=pairTrees_length keys values X.env pos ha hl;have e17:=sX 17 keys values X.env pos ha hl;have d17:=sY 17 keys values X.env pos ha hl;rw[arm_eval_Dict,zip_pairTrees keys values X.env pos ha hl];generalize pairTrees keys values X.env pos=Ps at hpl e17 d17;have h16:16<Ps.length:=by omega
 have split:Ps=Ps.take 16++Ps[16]:: Ps.drop 17:=by rw[<-Mz h16,Nd]
 have t17:Ps.take 16++[Ps[16]]=Ps.take 17:=by
  have e:Ps.take (16+1)=Ps.take 16++[Ps[16]]:=by rw[List.take_succ (i:=16),Mt h16];rfl
  exact e.symm
 refine Lb (wpAny_standAt ?_);rw[split];refine vW (by rw[Lr];omega) (λ e=>?_) (by rw[Lw];omega) ?_
 ·have:=Na List.length e;rw[Lw,Mo]at this;omega
 rw[t17,e17];have hl17:(pairTrees (keys.take 17) (values.take 17) X.env pos).length=17:=by rw[<-e17,Lr];omega
 refine vX (by rw[hl17];decide) ?_;have hn0:=I.hok.fresh (Lf s.heap.objs.size);have I1:=I.laid (a:=s.heap.objs.size) (o:=.dK []) (h':=s.heap.push {cls:=.type "dict",data:=.dict #[]}) (t':=s.toks) (λ _ _ q=>Lo _ q) (Lf _) (wK s.heap I.big);refine cR (va (h.take (n:=17)) pins _ σ _ [] _ I1 (q _ hn0)) λ _ s1 ⟨kvs1,H1,I1',e1,ne1,z1,q1⟩=>?_;rw[d17];have hl2:(pairTrees (keys.drop 17) (values.drop 17) X.env pos).length<=15:=by rw[<-d17,Lw];omega
 have hn1:=I1'.hok.fresh (Lf s1.heap.objs.size);have I2:=I1'.laid (a:=s1.heap.objs.size) (o:=.dK []) (h':=s1.heap.push {cls:=.type "dict",data:=.dict #[]}) (t':=s1.toks) (λ _ _ q=>Lo _ q) (Lf _) (wK s1.heap I1'.big);refine wpAny_subDict (knd:=dm X.prog X.w) hl2 (cR ((h.drop (n:=17)).pps pins _ σ _ _ I2 (q1 _ hn1)) λ ws s2 ⟨ps,H2,I3,rel,e2,ep2,kvs2,ep,lk,mk,nd,q2⟩=>?_);subst ep;obtain⟨rs,c,rk⟩:=rB (P:=X.prog) (w:=X.w) rel;obtain⟨z,hd,vs0,r0,dd⟩:=zZ I3.hok e2;cases r0;refine⟨rs,c,dd,λ h' dd' hs=>?_⟩;have he:∃q,h'.get? s1.heap.objs.size=some q:=let⟨q,_,_,hq,_⟩:=dd';⟨q,hq⟩
 have rk2:KV kvs2 (merged [] rs):=by have:=rk.merge (kvs:=[]) (vs:=[]) .nil;rw[mk]at this;exact this
 have I4:=mW (t':=s2.toks+ws.length) I3 (by rw[e2];exact True.intro) hs he (vn (by rw[Sa];omega) hd rk2 dd');have hpq:s.heap.objs.size≠s1.heap.objs.size:=ay e1 hn1;have ep4:(upd H2 s1.heap.objs.size (.dK kvs2)) s.heap.objs.size=some (.dK kvs1):=by rw[am hpq];exact ep2
 obtain⟨zp,hdp,vp,rp,ddp⟩:=zZ I4.hok ep4;have kp:=AE rp;have kq:=AE rk2;refine zB (knd:=dm X.prog X.w) hpq.symm hd ddp (λ e=>ne1 ?_) dd' (by rw[Mh,kp,kq,<-Mh];exact nd) ?_ λ h5 dd5 hs5=>⟨.ref s.heap.objs.size,_,?_,rfl,q2⟩
 ·rw[e]at kp;have:=Na List.length kp;rw[Ls,Ls]at this;exact Oe.mp this.symm
 ·have l1:=Na List.length kp;have l2:=Na List.length kq;rw[Ls,Ls]at l1 l2;rw[Sa];omega
 ·have he5:∃q,h5.get? s.heap.objs.size=some q:=let⟨q,_,_,hq,_⟩:=dd5;⟨q,hq⟩
  exact mW (t':=s2.toks+ws.length) I4 (by rw[ep4];exact True.intro) hs5 he5 (vn (by rw[La,Sa];omega) hdp (GV rp rk2) dd5)
end
open Valita (Chunk Line Piece Text chunksOf putNew)
theorem cg.keptI{ad:Ad}{m:Addr}{H H':Hp}{xs:List V}(s:cg m H H')(h:H m=some (.lst xs)):cG ad H H':=by
 refine⟨λ a o t e=>s.at (λ q=>?_) e,λ a C dx fs _ e=>s.at (λ q=>?_) e⟩
 ·rw[q,h]at e;cases e;cases t
 ·rw[q,h]at e;cases e
theorem cg.same{m:Addr}{G H H':Hp}(s:cg m H H')(g:ae G H)(n:G m=none):ae G H':=λ b o e=>s.at (ay e n) (g b o e)
theorem cg.refl(m:Addr)(H:Hp):cg m H H:=ae.refl _
theorem dh{α β:Type}(f:α->List β)(l:List α)(i:Nat):((l.take i).flatMap f).length<=(l.flatMap f).length:=by
 conv=>rhs;rw[<-Nd i l]
 rw[Mi,La];omega
theorem ga{α β:Type}(f:α->List β){l:List α}{i:Nat}{x:α}(h:l[i]?=some x):(l.take (i+1)).flatMap f=(l.take i).flatMap f++f x:=by rw[bD h,Mi,Me,Qi,Lv]
theorem BP(l:Line):decide (V.int (lK l)=V.int 1)=sR l:=by cases l<;>rfl
theorem kZ(c:Chunk):decide (V.int (cK c)=V.int 2)=c.isFile:=by unfold cK;cases c.isFile<;>rfl
theorem fm(p:Piece):decide (V.int (pK p)=V.int 1)=ma p:=by cases p<;>rfl
variable{P:Program}{w:World}{K:PySem.W.Frag}{mg:Str->Option Value}{base:Heap}{ad:Ad}
def zD(ad:Ad):Sp:=λ vs H Q _=>∃v c,vs=[v]/\gP ad H v c/\(c.lines.flatMap lP).length<=gS/\∀m ws H',ae H H'->H m=none->H' m=some (.lst ws)->Paired (cb ad H') ws (c.lines.flatMap lP)->Q (.ref m) H'
theorem vY(T:bX K mg ad):aY P w K mg base 1 "pieces_of" ["part"] (zD ad):=by
 refine T.J4.good (N:=["part","pieces","line"]) cj λ l H vs Q E hr hu6 hu nd h=>?_;obtain⟨v,c,rfl,⟨a,dx,fs,v1,v2,ll,us,pa⟩,hz,k⟩:=h;obtain rfl:=pa.ref;have hz:(c.lines.flatMap lP).length<=1000000:=hz;refine⟨_,(aa (bf 1 nd (aG aF))
   (aa (dn Mu rfl (bU (aC aH)) (aM (i:=2) nd rfl (Or.inl rfl)) (ac (aV (bZ Lk Ml Mm hG aQ (aD (aC bJ))))))
   (ac (ah aQ)))),?_⟩
 refine⟨Lj _,λ m hm=>?_⟩;have s0:=ae.new (o:=.lst []) hm;refine qf (s0 _ _ pa.ins) T.a8.cl T.d4 pa.has.d ?_;refine⟨ll,rfl,⟨_,SqL.of (s0 _ _ pa.lst)⟩,fL (K:=K) (a:=ll) (xs:=us) (λ i σ H'=>∃x ws,σ=[some (.ref a),some (.ref m),x]/\ae H H'/\H' m=some (.lst ws)/\Paired (cb ad H') ws ((c.lines.take i).flatMap lP)) ⟨none,[],rfl,s0,ab,.nil⟩ (λ i σ H' _ ⟨_,_,_,s,_⟩=>SqL.of (s _ _ pa.lst)) ?_ ?_⟩
 ·rintro i x σ H' hx ⟨_,ws,rfl,s,hm',pw⟩;obtain⟨l,hl,rl⟩:=aZ pa.lines hx;obtain⟨b,dxb,fsb,u1,u2,rfl,hb,hfb,⟨tp,vs,rfl,htp,pp,zp⟩,rs⟩:=rl.kept (ae.keptI s);have e:=ga lP hl;refine⟨_,rfl,.inl ⟨rfl,_,SqL.of hm'⟩,?_⟩;refine qf hb T.c7.cl T.f9 hfb.b ?_;refine⟨m,tp,ws,vs,rfl,rfl,hm',htp,?_,?_⟩
  ·have h1:=dh lP c.lines (i+1);rw[e,La]at h1;rw[ai pw,ai pp];exact Mj (aL (show _<=1000000 by omega))
  ·refine⟨_,ws++vs,rfl,ae.upd s hm,ab,?_⟩;rw[e];exact aI (cZ pw (cG.lst hm')) (cZ pp (cG.lst hm'))
 ·rintro σ H' ⟨_,ws,rfl,s,hm',pw⟩;rw[ai pa.lines,Mr]at pw;exact⟨_,rfl,k m ws H' s hm hm' pw⟩
def HW(ad:Ad):Sp:=λ vs H Q _=>∃l d,vs=[.ref l]/\iY ad H l d/\(fQ d).length<=gS/\∀m ws H',ae H H'->H m=none->H' m=some (.lst ws)->Paired (bW ad H') ws (fQ d)->Q (.ref m) H'
theorem oh(T:bX K mg ad):aY P w K mg base 3 "ifs_among" ["blocks"] (HW ad):=by
 refine T.J5.good (N:=["blocks","ifs","part","line"]) cj λ l H vs Q E hr hu6 hu nd h=>?_;obtain⟨l,d,rfl,hd,hz,k⟩:=h;have hz:(fQ d).length<=1000000:=hz;refine⟨_,(aa (bf 1 nd (aG aF))
   (aa (dn Mu rfl (bU (az (eI T) hr (aD aH))) (aM (i:=2) nd rfl (Or.inl rfl)) (ac (aV (bZ Lk Ml Mm dq aQ (aD (dL (own:=[("line",3)]) rfl nd (bU (aC bJ)) (bp (N:=["blocks","ifs","part","line"]) (sc:=aB (bg 114)) (by decide +kernel)) (λ _ _ _ _ _=>(aM (i:=3) nd rfl (Or.inl rfl))) (λ _ _ _ _ _=>jm (aq bo (jn (K:=K) rfl dF (by rfl)) (af T.g4) (ax _))) (λ _ _ _ _ _=>dF)))))))
   (ac (ah aQ)))),?_⟩
 refine⟨Lj _,λ m hm=>?_⟩;have s0:=ae.new (o:=.lst []) hm;refine⟨_,rfl,H,l,d,rfl,hd,s0,λ pl us H1 s1 npl hpl pu=>?_⟩;have nm:m≠pl:=ay ab npl;refine⟨pl,rfl,⟨_,SqL.of hpl⟩,fL (K:=K) (a:=pl) (xs:=us) (λ i σ H'=>∃x ws,σ=[some (.ref l),some (.ref m),x,none]/\ae H H'/\H' pl=some (.lst us)/\H' m=some (.lst ws)/\Paired (bW ad H') ws (((chunksOf d).take i).flatMap λ c=>c.lines.filter sR)) ⟨none,[],rfl,s0.trans s1,hpl,s1 _ _ ab,.nil⟩ (λ i σ H' _ ⟨_,_,_,_,h,_⟩=>SqL.of h) ?_ ?_⟩
 ·rintro i x σ H' hx ⟨_,ws,rfl,s,hpl',hm',pw⟩;obtain⟨c,hc,rc⟩:=aZ pu hx;obtain⟨a,dx,fs,v1,v2,ll,vs,pa⟩:=rc;obtain rfl:=pa.ref;have pH:=pa.same s;have e:=ga (λ c:Chunk=>c.lines.filter sR) hc;have h1:=dh (λ c:Chunk=>c.lines.filter sR) (chunksOf d) (i+1);have hz2:((chunksOf d).flatMap λ c=>c.lines.filter sR).length<=1000000:=hz;rw[e,La]at h1;have cz:c.lines.length<=1000000:=pa.lim;refine⟨_,rfl,.inl ⟨rfl,_,SqL.of hm'⟩,?_⟩;refine qf pH.ins T.a8.cl T.d4 pH.has.d ?_;refine im (λ xs H2 Q2=>qK (.ref m) xs H2 Q2) (RO:=bW ad) (p:=sR) (uC ad) pH.lines pH.lst (by rw[ai pH.lines];omega) (λ x b H2 Q' _ r s2 q=>?_) (λ x b H2 Q' _ r _ s2 q=>?_) λ D H2 ys hD s2 hy py=>?_
  ·obtain⟨b3,dx3,fs3,u1,u2,rfl,hb3,hf3,_,_⟩:=r.kept (ae.keptI s2);refine qf hb3 T.c7.cl T.c9 hf3.a ?_;refine⟨rfl,_,rfl,?_⟩;rw[BP];exact q H2 (ae.refl H2)
  ·exact⟨_,rfl,q x H2 (ae.refl H2) (r.kept (ae.keptI s2))⟩
  ·refine⟨m,D,ws,ys,rfl,rfl,s2 _ _ hm',hy,?_,?_⟩
   ·rw[ai pw,ai py];exact Mj (aL (show _<=1000000 by omega))
   ·refine⟨_,ws++ys,rfl,ae.upd (s.trans s2) hm,?_,ab,?_⟩
    ·rw[am (Ne.symm nm)];exact s2 _ _ hpl'
    ·rw[e];exact aI (dj (dj pw (ae.keptI s2)) (cG.lst (s2 _ _ hm'))) (dj py (cG.lst (s2 _ _ hm')))
 ·rintro σ H' ⟨_,ws,rfl,s,_,hm',pw⟩;rw[ai pu,Mr]at pw;exact⟨_,rfl,k m ws H' s hm hm' pw⟩
theorem Fs{kvs:List (List dl×V)}{k:List dl}(v:V)(h:k∈kvs.map (·.1)):(fR kvs k v).map (·.1)=kvs.map (·.1):=by unfold fR;obtain⟨x,hx,e⟩:=Nw.mp h;rw[Le (Qx.mpr ⟨x,hx,Ll e⟩),Nl];refine Rg λ y _=>?_;show(if y.1=k then(y.1,v) else y).1=y.1;split<;>rfl
theorem DL{kvs:List (List dl×V)}{k:List dl}(v:V)(h:k∉kvs.map (·.1)):(fR kvs k v).map (·.1)=kvs.map (·.1)++[k]:=by
 unfold fR;rw[Ld,Mh]
 ·rfl
 ·intro q;obtain⟨x,hx,e⟩:=Qx.mp q;exact h (Nw.mpr ⟨x,hx,Lh e⟩)
theorem BQ{kvs:List (List dl×V)}{ts:List Text}(t:Text)(v:V)(h:kvs.map (·.1)=ts.map mC):(fR kvs (mC t) v).map (·.1)=(putNew ts t).map mC:=by
 unfold putNew;by_cases q:t∈ts
 ·rw[Le (by simpa using q),Fs v (by rw[h];exact List.mem_map_of_mem q),h]
 ·rw[Ld (by simpa using q),DL v,h,Mh]
  ·rfl
  ·rw[h];intro q2;obtain⟨x,hx,e⟩:=Nw.mp q2;exact q (xo e▸hx)
theorem vb{H:Hp}:∀{us:List V} {kvs:List (List dl×V)} {ts:List Text},yZ H us kvs->kvs.map (·.1)=ts.map mC->(∀t∈ts,t.length<=gS)->Paired (bN H) us ts
 |_,_,[],.nil,_,_=>.nil
 |_,_,_::_,.nil,e,_=>by cases e
 |_,_,[],.cons _ _,e,_=>by cases e
 |_,_,t::ts,.cons (b:=kv) r p,e,h=>by
  rw[Mp,Mp]at e;injection e with e1 e2
  obtain⟨q,rfl,hq⟩:=r;rw[e1,nJ]at hq;exact .cons ⟨q,rfl,hq,h t (.head _)⟩ (vb p e2 λ x hx=>h x (.tail _ hx))
theorem DM(ts:List Text):(ts.foldl putNew []).length<=ts.length:=by
 have key:∀(ts acc:List Text),(ts.foldl putNew acc).length<=acc.length+ts.length:=by
  intro ts
  induction ts with
  |nil=>intro acc;exact Lf _
  |cons t ts ih=>
   intro acc;rw[List.foldl_cons,Lg];have h1:=ih (putNew acc t);have h2:(putNew acc t).length<=acc.length+1:=by
    unfold putNew;split
    ·omega
    ·rw[La];exact Lf _
   omega
 have:=key ts [];rw[Mo]at this;omega
def zE:Sp:=λ vs H Q _=>∃l ws ts,vs=[.ref l]/\H l=some (.lst ws)/\Paired (bN H) ws ts/\ts.length<=gS/\∀m us H',ae H H'->H m=none->H' m=some (.lst us)->Paired (bN H') us (ts.foldl putNew [])->Q (.ref m) H'
theorem jL(T:bX K mg ad):aY P w K mg base 1 "each_once" ["rows"] (zE):=by
 refine T.J6.good (N:=["rows","known","row"]) cj λ l H vs Q E hr hu6 hu nd h=>?_;obtain⟨l,ws,ts,rfl,hl,pw,hz,k⟩:=h;have hz:ts.length<=1000000:=hz;have hlim:∀t∈ts,t.length<=gS:=by
  intro t ht;have:∀{ws:List V} {ts:List Text},Paired (bN H) ws ts->t∈ts->t.length<=gS:=by
   intro ws ts p
   induction p with
   |nil=>intro h;cases h
   |cons r p ih=>
    intro h;rcases Lp.mp h with rfl |h
    ·obtain⟨_,_,_,z⟩:=r;exact z
    ·exact ih h
  exact this pw ht
 refine⟨_,(aa (bf 1 nd wL)
   (aa (dn Mu rfl (bU aH) (aM (i:=2) nd rfl (Or.inl rfl)) (ac (Aa hu aQ bJ kb rfl)))
   (ac (ah (uq T.d7 (za rfl) (aD aQ)))))),?_⟩
 intro dd hdd;have s0:=ae.new (o:=.dT []) hdd;refine⟨_,rfl,l,rfl,⟨_,SqL.of (s0 _ _ hl)⟩,fL (K:=K) (a:=l) (xs:=ws) (λ i σ H'=>∃x kvs,σ=[some (.ref l),some (.ref dd),x]/\ae H H'/\H' dd=some (.dT kvs)/\kvs.map (·.1)=((ts.take i).foldl putNew []).map mC) ⟨none,[],rfl,s0,ab,rfl⟩ (λ i σ H' _ ⟨_,_,_,s,_⟩=>SqL.of (s _ _ hl)) ?_ ?_⟩
 ·rintro i x σ H' hx ⟨_,kvs,rfl,s,hd',hk⟩;obtain⟨t,ht,r⟩:=aZ pw hx;obtain⟨a,rfl,ha,zt⟩:=r.same s;refine⟨_,rfl,_,rfl,dd,_,rfl,yE.t (k:=mC t) hd' (by rw[nJ];exact ha) ?_,_,_,rfl,ae.upd s hdd,ab,?_⟩
  ·have h1:=DM (ts.take i);have h2:=Na List.length hk;rw[Ls,Ls]at h2;rw[Lr]at h1;exact Lq (show _<=1000000 by omega) (by decide)
  ·rw[bD ht,List.foldl_append];exact BQ t _ hk
 ·rintro σ H' ⟨_,kvs,rfl,s,hd',hk⟩;rw[ai pw,Mr]at hk;refine⟨_,rfl,dd,kvs,rfl,hd',λ m us hm hks=>?_⟩;refine k m us _ (s.trans (ae.new hm)) (s.free hm) ab ?_;refine Paired.mapP (vb hks hk λ t ht=>hlim t ?_) λ _ _ r=>r.same (ae.new hm);exact((kW ts []).mp ht).elim (λ q=>by cases q) id
open Valita (Block Document documentText filesOf namesOf settingsOf)
theorem sZ(d:Document):((chunksOf d).flatMap cr).length<=(documentText d).length:=by have h:=oT (l:=d) λ b _=>Az b;rw[sN]at h;exact Ln (DB _) h
theorem ub(d:Document):((chunksOf d).flatMap iO).length<=(documentText d).length:=by rw[uV,Ls];exact Ln (List.length_filter_le _ _) (Ln (jx d) (bM d))
theorem eV(c:Chunk):decide (V.int (cK c)=V.int 1)=!c.isFile:=by unfold cK;cases c.isFile<;>rfl
theorem eP{α β:Type}{R:V->β->Prop}{g:α->β}:∀{ys:List V} {as:List α},Paired (λ y a=>R y (g a)) ys as->Paired R ys (as.map g)
 |_,_,.nil=>.nil
 |_,_,.cons r p=>.cons r (eP p)
def vZ(ad:Ad)(f:Document->List Text):Sp:=λ vs H Q _=>∃l d,vs=[.ref l]/\iY ad H l d/\cJ d/\(documentText d).length<=20000/\∀m us H',ae H H'->H m=none->H' m=some (.lst us)->Paired (bN H') us (f d)->Q (.ref m) H'
theorem iD(T:bX K mg ad):aY P w K mg base 3 "standing_files" ["blocks"] (vZ ad filesOf):=by
 refine T.J8.good (N:=["blocks","part"]) cj λ l H vs Q E hr hu6 hu nd h=>?_;obtain⟨l,d,rfl,hd,hw,hz,k⟩:=h;have dz:d.length<=20000:=Ln (bM d) hz;refine⟨_,(ac (ah (az (jL T) hr (aD (dL (own:=[("part",1)]) rfl nd (bU (az (eI T) hr (aD aH))) (bp (N:=["blocks","part"]) (sc:=aB (bg 117)) (by decide +kernel)) (λ _ _ _ _ _=>(aM (i:=1) nd rfl (Or.inl rfl))) (λ _ _ _ _ _=>jm (aq bo (jn (K:=K) rfl aQ (by rfl)) (af T.g7) (ax _))) (λ _ _ _ _ _=>(jn (K:=K) rfl aQ (by rfl)))))))),?_⟩;refine⟨_,rfl,H,l,d,rfl,hd,ae.refl H,λ pl us H1 s1 npl hpl pu=>?_⟩;have lu:=ai pu;have cz:=jx d;refine im (λ xs H2 Q2=>zE xs H2 Q2 _) (σ0:=[]) (RO:=λ H y (c:Chunk)=>bN H y c.name) (p:=λ c=>c.isFile) ⟨λ r s=>r.same s,λ h r=>r.kept (cN.lst h)⟩ pu hpl (by omega) (λ x c H2 Q' _ r s2 q=>?_) (λ x c H2 Q' _ r _ s2 q=>?_) λ D H2 ys hD s2 hy py=>?_
 ·obtain⟨a,dx,fs,v1,v2,ll,vs,pa⟩:=aE.same r (s1.trans s2);obtain rfl:=pa.ref;refine qf pa.ins T.a8.cl T.d9 pa.has.a ?_;refine⟨rfl,_,rfl,?_⟩;rw[kZ];exact q H2 (ae.refl H2)
 ·obtain⟨a,dx,fs,v1,v2,ll,vs,pa⟩:=aE.same r (s1.trans s2);obtain rfl:=pa.ref;refine qf pa.ins T.a8.cl T.d2 pa.has.b ?_;exact q _ H2 (ae.refl H2) pa.name
 ·have py2:Paired (bN H2) ys (((chunksOf d).filter λ c=>c.isFile).map λ c=>c.name):=by
   have key:∀{ys:List V} {cs:List Chunk},Paired (λ y (c:Chunk)=>bN H2 y c.name) ys cs->Paired (bN H2) ys (cs.map λ c=>c.name):=by
    intro ys cs p
    induction p with
    |nil=>exact .nil
    |cons r p ih=>exact .cons r ih
   exact key py
  rw[<-uV]at py2;have h1:=ub d;refine⟨D,ys,_,rfl,hy,py2,(show _<=1000000 by omega),λ m us3 H3 s3 n3 h3 p3=>?_⟩;rw[<-sQ]at p3;exact k m us3 H3 ((s1.trans s2).trans s3) ((s1.trans s2).free n3) h3 p3
theorem gp(T:bX K mg ad):aY P w K mg base 4 "standing_settings" ["blocks"] (vZ ad settingsOf):=by
 refine T.J9.good (N:=["blocks","line"]) cj λ l H vs Q E hr hu6 hu nd h=>?_;obtain⟨l,d,rfl,hd,hw,hz,k⟩:=h;have iz:=uX d;refine⟨_,(ac (ah (az (jL T) hr (aD (dL (own:=[("line",1)]) rfl nd (bU (az (oh T) hr (aD aH))) (bp (N:=["blocks","line"]) (sc:=aB (bg 118)) (by decide +kernel)) (λ _ _ _ _ _=>(aM (i:=1) nd rfl (Or.inl rfl))) (λ _ _ _ _ _=>cS) (λ _ _ _ _ _=>(jn (K:=K) rfl aQ (by rfl)))))))),?_⟩;refine⟨_,rfl,l,d,rfl,hd,(show _<=1000000 by omega),λ pl us H1 s1 npl hpl pu=>?_⟩;have lu:=ai pu;refine im (λ xs H2 Q2=>zE xs H2 Q2 _) (σ0:=[]) (RO:=λ H y (l:Line)=>bN H y (lS l)) (p:=λ _=>true) ⟨λ r s=>r.same s,λ h r=>r.kept (cN.lst h)⟩ pu hpl (by omega) (λ x c H2 Q' _ r s2 q=>q H2 (ae.refl H2)) (λ x c H2 Q' _ r _ s2 q=>?_) λ D H2 ys hD s2 hy py=>?_
 ·obtain⟨b,dxb,fsb,u1,u2,rfl,hb,hfb,pt,rs⟩:=r.kept (ae.keptI s2);refine qf hb T.c7.cl T.g9 hfb.c ?_;exact q _ H2 (ae.refl H2) rs
 ·rw[eD]at py;have py2:Paired (bN H2) ys ((fQ d).map lS):=by
   have key:∀{ys:List V} {cs:List Line},Paired (λ y (c:Line)=>bN H2 y (lS c)) ys cs->Paired (bN H2) ys (cs.map lS):=by
    intro ys cs p
    induction p with
    |nil=>exact .nil
    |cons r p ih=>exact .cons r ih
   exact key py
  refine⟨D,ys,_,rfl,hy,py2,(show _<=1000000 by rw[Ls];omega),λ m us3 H3 s3 n3 h3 p3=>?_⟩;rw[<-md]at p3;exact k m us3 H3 ((s1.trans s2).trans s3) ((s1.trans s2).free n3) h3 p3
theorem iE(T:bX K mg ad):aY P w K mg base 3 "standing_names" ["blocks"] (vZ ad namesOf):=by
 refine T.J7.good (N:=["blocks","names","part","piece"]) cj λ l H vs Q E hr hu6 hu nd h=>?_;obtain⟨l,d,rfl,hd,hw,hz,k⟩:=h;have nz:=sZ d;refine⟨_,(aa (bf 1 nd (aG aF))
   (aa (dn Mu rfl (bU (az (eI T) hr (aD aH))) (aM (i:=2) nd rfl (Or.inl rfl)) (aa (aA (aq bo (aC bJ) (af T.e9) (ax _)) (ac (aV (bZ Lk Ma Mb bq aQ (aD (aC bJ))))) ak)
   (ac (aV (bZ Lk Ml Mm dq aQ (aD (dL (own:=[("piece",3)]) rfl nd (bU (az (vY T) hr (aD bJ))) (bp (N:=["blocks","names","part","piece"]) (sc:=aB (bg 116)) (by decide +kernel)) (λ _ _ _ _ _=>(aM (i:=3) nd rfl (Or.inl rfl))) (λ _ _ _ _ _=>jm (aq bo (jn (K:=K) rfl dF (by rfl)) (af T.i5) (ax _))) (λ _ _ _ _ _=>(jn (K:=K) rfl dF (by rfl))))))))))
   (ac (ah (az (jL T) hr (aD aQ)))))),?_⟩
 refine⟨Lj _,λ m hm=>?_⟩;have s0:=ae.new (o:=.lst []) hm;refine⟨_,rfl,H,l,d,rfl,hd,s0,λ pl us H1 s1 npl hpl pu=>?_⟩;have nm:m≠pl:=ay ab npl;refine⟨pl,rfl,⟨_,SqL.of hpl⟩,fL (K:=K) (a:=pl) (xs:=us) (λ i σ H'=>∃x ws,σ=[some (.ref l),some (.ref m),x,none]/\ae H H'/\H' pl=some (.lst us)/\H' m=some (.lst ws)/\Paired (bN H') ws (((chunksOf d).take i).flatMap cr)) ⟨none,[],rfl,s0.trans s1,hpl,s1 _ _ ab,.nil⟩ (λ i σ H' _ ⟨_,_,_,_,h,_⟩=>SqL.of h) ?_ ?_⟩
 ·rintro i x σ H' hx ⟨_,ws,rfl,s,hpl',hm',pw⟩;obtain⟨c,hc,rc⟩:=aZ pu hx;obtain⟨a,dx,fs,v1,v2,ll,vs,pa⟩:=rc;obtain rfl:=pa.ref;have pH:=pa.same s;have e:=ga cr hc;have h1:=dh cr (chunksOf d) (i+1);rw[e,La]at h1;have wc:iw c:=hw _ (oU (Nm hc));have cz:=Ln (uT wc) (kU (oU (Nm hc)));refine qf pH.ins T.a8.cl T.d9 pH.has.a ?_;refine⟨rfl,_,rfl,au (λ h2=>?_) λ h2=>?_⟩
  ·have hf:c.isFile=false:=by
    rw[eV]at h2;simpa using h2
   have ec:cr c=[c.name]++((c.lines.flatMap lP).filter ma).map pT:=by unfold cr;rw[Ld (by rw[hf];decide)]
   refine⟨_,rfl,.inl ⟨rfl,_,SqL.of hm'⟩,?_⟩;refine qf pH.ins T.a8.cl T.d2 pH.has.b ?_;refine⟨m,ws,v1,rfl,rfl,hm',?_,?_⟩
   ·rw[ai pw];exact aL (show _<=1000000 by omega)
   have s2:ae H (L2.upd H' m (.lst (ws++[v1]))):=ae.upd s hm;have hm2:(L2.upd H' m (.lst (ws++[v1]))) m=some (.lst (ws++[v1])):=ab;have hpl2:(L2.upd H' m (.lst (ws++[v1]))) pl=some (.lst us):=by rw[am (Ne.symm nm)];exact hpl'
   have pw2:Paired (bN (L2.upd H' m (.lst (ws++[v1])))) (ws++[v1]) (((chunksOf d).take i).flatMap cr++[c.name]):=aI (bh pw (cN.lst hm')) (.cons (pH.name.kept (cN.lst hm')) .nil);have p2:=pa.same s2;generalize L2.upd H' m (.lst (ws++[v1]))=H2 at s2 hm2 hpl2 pw2 p2;generalize ws++[v1]=ws2 at hm2 pw2;refine⟨_,rfl,.inl ⟨rfl,_,SqL.of hm2⟩,_,rfl,_,c,rfl,⟨a,dx,fs,v1,v2,ll,vs,p2⟩,(show _<=1000000 by omega),λ ml qs H3 s3 n3 h3 pq=>?_⟩;refine im (λ xs H2 Q2=>qK (.ref m) xs H2 Q2) (σ0:=[]) (RO:=λ H y (p:Piece)=>bN H y (pT p)) (p:=ma) ⟨λ r s=>r.same s,λ h r=>r.kept (cN.lst h)⟩ pq h3 (by rw[ai pq];omega) (λ x b H4 Q' _ r s4 q=>?_) (λ x b H4 Q' _ r _ s4 q=>?_) λ D H4 ys hD s4 hy py=>?_
   ·obtain⟨b3,dx3,fs3,u1,u2,rfl,hb3,hf3,_,_⟩:=r.kept (ae.keptI s4);refine qf hb3 T.c8.cl T.d8 hf3.a ?_;refine⟨rfl,_,rfl,?_⟩;rw[fm];exact q H4 (ae.refl H4)
   ·obtain⟨b3,dx3,fs3,u1,u2,rfl,hb3,hf3,r3,_⟩:=r.kept (ae.keptI s4);refine qf hb3 T.c8.cl T.f6 hf3.b ?_;exact q _ H4 (ae.refl H4) r3
   ·have py2:=eP py;have lp:=ai py2;have lw2:=ai pw2;have hm4:=s4 _ _ (s3 _ _ hm2);refine⟨m,D,ws2,ys,rfl,rfl,hm4,hy,?_,?_⟩
    ·rw[lp,lw2];rw[ec,La]at h1;rw[La];exact Mj (aL (show _<=1000000 by omega))
    ·refine⟨_,ws2++ys,rfl,ae.upd ((s2.trans s3).trans s4) hm,?_,ab,?_⟩
     ·rw[am (Ne.symm nm)];exact s4 _ _ (s3 _ _ hpl2)
     ·rw[e,ec,<-My];exact aI (bh (bh pw2 (ae.kept (s3.trans s4))) (cN.lst hm4)) (bh py2 (cN.lst hm4))
  ·have hf:c.isFile=true:=by
    rw[eV]at h2;simpa using h2
   have ec:cr c=[]++((c.lines.flatMap lP).filter ma).map pT:=by unfold cr;rw[Le hf]
   have s2:=s;have hm2:=hm';have hpl2:=hpl';have pw2:Paired (bN H') ws (((chunksOf d).take i).flatMap cr++[]):=by rw[Lv];exact pw
   have p2:=pH;generalize ws=ws2 at hm2 pw2;refine⟨_,rfl,.inl ⟨rfl,_,SqL.of hm2⟩,_,rfl,_,c,rfl,⟨a,dx,fs,v1,v2,ll,vs,p2⟩,(show _<=1000000 by omega),λ ml qs H3 s3 n3 h3 pq=>?_⟩;refine im (λ xs H2 Q2=>qK (.ref m) xs H2 Q2) (σ0:=[]) (RO:=λ H y (p:Piece)=>bN H y (pT p)) (p:=ma) ⟨λ r s=>r.same s,λ h r=>r.kept (cN.lst h)⟩ pq h3 (by rw[ai pq];omega) (λ x b H4 Q' _ r s4 q=>?_) (λ x b H4 Q' _ r _ s4 q=>?_) λ D H4 ys hD s4 hy py=>?_
   ·obtain⟨b3,dx3,fs3,u1,u2,rfl,hb3,hf3,_,_⟩:=r.kept (ae.keptI s4);refine qf hb3 T.c8.cl T.d8 hf3.a ?_;refine⟨rfl,_,rfl,?_⟩;rw[fm];exact q H4 (ae.refl H4)
   ·obtain⟨b3,dx3,fs3,u1,u2,rfl,hb3,hf3,r3,_⟩:=r.kept (ae.keptI s4);refine qf hb3 T.c8.cl T.f6 hf3.b ?_;exact q _ H4 (ae.refl H4) r3
   ·have py2:=eP py;have lp:=ai py2;have lw2:=ai pw2;have hm4:=s4 _ _ (s3 _ _ hm2);refine⟨m,D,ws2,ys,rfl,rfl,hm4,hy,?_,?_⟩
    ·rw[lp,lw2];rw[ec,La]at h1;rw[La];exact Mj (aL (show _<=1000000 by omega))
    ·refine⟨_,ws2++ys,rfl,ae.upd ((s2.trans s3).trans s4) hm,?_,ab,?_⟩
     ·rw[am (Ne.symm nm)];exact s4 _ _ (s3 _ _ hpl2)
     ·rw[e,ec,<-My];exact aI (bh (bh pw2 (ae.kept (s3.trans s4))) (cN.lst hm4)) (bh py2 (cN.lst hm4))
 ·rintro σ H' ⟨_,ws,rfl,s,_,hm',pw⟩;rw[ai pu,Mr]at pw;refine⟨_,rfl,m,ws,_,rfl,hm',pw,(show _<=1000000 by omega),λ m3 us3 H3 s3 n3 h3 p3=>?_⟩;rw[<-zy]at p3;exact k m3 us3 H3 (s.trans s3) (s.free n3) h3 p3
def fD(f:Bool):Int:=if f=true then 2 else 1
theorem qg(f:Bool)(n:Text)(b:Block):iP f n b=(decide (bK b=fD f)&&match b with
  |.chunk c=>decide (c.name=n)
  |.prose _=>false):=by
 cases b with
 |prose t=>simp[iP]
 |chunk c=>
  show(c.isFile==f&&c.name==n)=(decide (cK c=fD f)&&decide (c.name=n));have e1:(c.isFile==f)=decide (cK c=fD f):=by unfold cK fD;cases c.isFile<;>cases f<;>rfl
  have e2:(c.name==n)=decide (c.name=n):=by
   by_cases h:c.name=n
   ·rw[Ll h];exact Qa.mpr h
   ·rw[Mn h];exact Ms.mpr h
  rw[e1,e2]
def DN(ad:Ad):Sp:=λ vs H Q _=>∃v b u n f,vs=[v,.int (fD f),u]/\aE ad H v b/\bN H u n/\Q (.bl (iP f n b)) H
theorem me(T:bX K mg ad):aY P w K mg base 1 "is_part_of" ["block","kind","name"] (DN ad):=by
 refine T.Ka.good (N:=["block","kind","name"]) cj λ l H vs Q E hr hu6 hu nd h=>?_;obtain⟨v,b,u,n,f,rfl,hb,hu2,k⟩:=h;obtain⟨a,C,dx,fs,rfl,ha,hC,hn,hf⟩:=hb.kind T;refine⟨_,(ac (ah (gV (dB bo (aC aH) aQ (ax _)) (fI (dB (iJ hu6) (aC aH) bJ (ax _)))))),?_⟩;refine⟨_,rfl,a,C,dx,fs,_,rfl,ha,hC,hn,hf,?_⟩;refine⟨_,rfl,rfl,_,rfl,au (λ h1=>?_) λ h1=>?_⟩
 ·have h1:=Lh h1;cases b with
  |prose t=>
   exfalso;injection h1 with h1
   revert h1;show ¬(0:Int)=fD f;unfold fD;cases f<;>decide
  |chunk c=>
   injection h1 with h1
   obtain⟨a2,dx2,fs2,v1,v2,ll,vs,pa⟩:=hb;cases pa.ref;refine qf pa.ins T.a8.cl T.d2 pa.has.b ?_;refine⟨_,rfl,c.name,n,pa.name,hu2,?_⟩;rw[qg]at k;have e:decide (bK (.chunk c)=fD f)=true:=Ll h1;rw[e,Os]at k;exact k
 ·rw[qg]at k;have e:decide (bK b=fD f)=false:=Mn λ q=>h1 (Ll (by rw[q]));rw[e,Bool.false_and]at k;exact k
def BR(ad:Ad):Sp:=λ vs H Q _=>∃G l d u n f,vs=[.ref l,.int (fD f),u]/\iY ad G l d/\ae G H/\bN H u n/\∀m us H',ae H H'->H m=none->H' m=some (.lst us)->Paired (gP ad G) us ((chunksOf d).filter λ c=>c.isFile==f&&c.name==n)->Q (.ref m) H'
theorem iF(T:bX K mg ad):aY P w K mg base 3 "parts_of" ["blocks","kind","name"] (BR ad):=by
 refine T.Kb.good (N:=["blocks","kind","name","part"]) cj λ l H vs Q E hr hu6 hu nd h=>?_;obtain⟨G,l,d,u,n,f,rfl,hd,sG,hn,k⟩:=h;obtain⟨ws0,hl0,pw0,dz⟩:=id hd;have cz:=jx d;refine⟨_,(ac (ah (dL (own:=[("part",3)]) rfl nd (bU (az (eI T) hr (aD aH))) (bp (N:=["blocks","kind","name","part"]) (sc:=aB (bg 120)) (by decide +kernel)) (λ _ _ _ _ _=>(aM (i:=3) nd rfl (Or.inl rfl))) (λ _ _ _ _ _=>jm (bi (az (me T) hr (ag dF (dU aQ bJ))))) (λ _ _ _ _ _=>dF)))),?_⟩;refine⟨_,rfl,G,l,d,rfl,hd,sG,λ pl us H1 s1 npl hpl pu=>?_⟩;have lu:=ai pu;refine HP (RO:=λ _ y c=>gP ad G y c) (p:=λ c=>c.isFile==f&&c.name==n) ⟨λ r _=>r,λ _ r=>r⟩ pu hpl (by omega) (λ x c H2 Q' _ r s2 q=>?_) (λ x c H2 Q' _ r _ s2 q=>?_) λ D H2 ys hD s2 hy py=>?_
 ·exact⟨_,rfl,_,rfl,_,rfl,x,.chunk c,u,n,f,rfl,aE.same r ((sG.trans s1).trans s2),hn.same (s1.trans s2),_,rfl,q H2 (ae.refl H2)⟩
 ·exact⟨_,rfl,q x H2 (ae.refl H2) r⟩
 ·exact k D ys H2 (s1.trans s2) (s1.free hD) hy py
open Valita (toldText toldTexts)
theorem gU(ms ns:List Nat):cM (ms++ns)=cM ms++cM ns:=by unfold cM;rw[Mh]
theorem cw(ns:List Nat):(cM ns).length=ns.length:=by unfold cM;rw[Ls]
theorem fF(t:Text):V.int ((bT t).length:Int):: bT t=cM (toldText t):=by rw[vR];rfl
theorem DO(ts:List Text)(i:Nat):((ts.take i).flatMap toldText).length<=W ts:=by have h:=de ts;have h2:=dh toldText ts i;have h3:(toldTexts ts).length=(ts.flatMap toldText).length+1:=rfl;omega
def Ft:Sp:=λ vs H Q _=>∃l ws ts,vs=[.ref l]/\H l=some (.lst ws)/\Paired (bN H) ws ts/\W ts<=100000/\∀m H',ae H H'->H m=none->H' m=some (.lst (cM (toldTexts ts)))->Q (.ref m) H'
theorem gb(T:bX K mg ad):aY P w K mg base 2 "counted_texts" ["rows"] (Ft):=by
 refine T.x9.good (N:=["rows","told","row"]) cj λ l H vs Q E hr hu6 hu nd h=>?_;obtain⟨l,ws,ts,rfl,hl,pw,hz,k⟩:=h;have lw:=ai pw;refine⟨_,(aa (bf 1 nd (aG (aD (bR T.a7 aj (aD aH)))))
   (aa (dn Mu rfl (bU aH) (aM (i:=2) nd rfl (Or.inl rfl)) (ac (aV (bZ Lk Ml Mm dq aQ (aD (az (fk T) hr (aD bJ)))))))
   (ac (ah aQ)))),?_⟩
 refine⟨_,rfl,ql (.inl (SqL.of hl)) ⟨(by show 1<=sizeLine;decide),λ m hm=>?_⟩⟩;have s0:=ae.new (o:=.lst [V.int (ws.length:Int)]) hm;refine⟨_,rfl,l,rfl,⟨_,SqL.of (s0 _ _ hl)⟩,fL (K:=K) (a:=l) (xs:=ws) (λ i σ H'=>∃x,σ=[some (.ref l),some (.ref m),x]/\ae H H'/\H' m=some (.lst (cM (ts.length::(ts.take i).flatMap toldText)))) ⟨none,rfl,s0,by rw[ab,lw];rfl⟩ (λ i σ H' _ ⟨_,_,s,_⟩=>SqL.of (s _ _ hl)) ?_ ?_⟩
 ·rintro i x σ H' hx ⟨_,rfl,s,hm'⟩;obtain⟨t,ht,r⟩:=aZ pw hx;obtain⟨a,rfl,ha,zt⟩:=r.same s;have e:=ga toldText ht;have h1:=DO ts (i+1);rw[e,La]at h1;refine⟨_,rfl,.inl ⟨rfl,_,SqL.of hm'⟩,_,rfl,a,bT t,rfl,.inr ha,(by rw[ao];exact zt),λ m2 H2 s2 n2 h2=>⟨m,m2,_,_,rfl,rfl,s2 _ _ hm',h2,?_,?_⟩⟩
  ·rw[fF,cw,cw,Lg];exact Mj (aL (show _<=1000000 by omega))
  ·refine⟨_,rfl,ae.upd (s.trans s2) hm,?_⟩;rw[ab,fF,<-gU,e];rfl
 ·rintro σ H' ⟨_,rfl,s,hm'⟩;rw[lw,Mr]at hm';exact⟨_,rfl,k m H' s hm hm'⟩
def DP:Sp:=λ vs H Q _=>∃v ts,vs=[v]/\fM H v ts/\W ts<=100000/\∀m H',ae H H'->H m=none->H' m=some (.lst (cM (toldTexts ts)))->Q (.ref m) H'
theorem iG(T:bX K mg ad):aY P w K mg base 2 "counted_texts" ["rows"] (DP):=by
 refine T.x9.good (N:=["rows","told","row"]) cj λ l H vs Q E hr hu6 hu nd h=>?_;obtain⟨v,ts,rfl,⟨l,ws,rfl,hl,pw,_⟩,hz,k⟩:=h;have lw:=ai pw;refine⟨_,(aa (bf 1 nd (aG (aD (bR T.a7 aj (aD aH)))))
   (aa (dn Mu rfl (fK aH) (aM (i:=2) nd rfl (Or.inl rfl)) (ac (aV (bZ Lk Ml Mm dq aQ (aD (az (fk T) hr (aD bJ)))))))
   (ac (ah aQ)))),?_⟩
 refine⟨_,rfl,ql (.inr hl.sq) ⟨(by show 1<=sizeLine;decide),λ m hm=>?_⟩⟩;have s0:=ae.new (o:=.lst [V.int (ws.length:Int)]) hm;refine⟨_,rfl,l,rfl,⟨_,(hl.same s0).sq⟩,mM (K:=K) (a:=l) (xs:=ws) (λ i σ H'=>∃x,σ=[some (.ref l),some (.ref m),x]/\ae H H'/\H' m=some (.lst (cM (ts.length::(ts.take i).flatMap toldText)))) ⟨none,rfl,s0,by rw[ab,lw];rfl⟩ (λ i σ H' _ ⟨_,_,s,_⟩=>(hl.same s).sq) ?_ ?_⟩
 ·rintro i x σ H' hx ⟨_,rfl,s,hm'⟩;obtain⟨t,ht,r⟩:=aZ pw hx;obtain⟨a,rfl,ha,zt⟩:=r.same s;have e:=ga toldText ht;have h1:=DO ts (i+1);rw[e,La]at h1;refine⟨_,rfl,.inl ⟨rfl,_,SqL.of hm'⟩,_,rfl,a,bT t,rfl,.inr ha,(by rw[ao];exact zt),λ m2 H2 s2 n2 h2=>⟨m,m2,_,_,rfl,rfl,s2 _ _ hm',h2,?_,?_⟩⟩
  ·rw[fF,cw,cw,Lg];exact Mj (aL (show _<=1000000 by omega))
  ·refine⟨_,rfl,ae.upd (s.trans s2) hm,?_⟩;rw[ab,fF,<-gU,e];rfl
 ·rintro σ H' ⟨_,rfl,s,hm'⟩;rw[lw,Mr]at hm';exact⟨_,rfl,k m H' s hm hm'⟩
def wa(ad:Ad)(f:Document->List Nat):Sp:=λ vs H Q _=>∃p d,vs=[.ref p]/\cH ad H p d/\fT ad H p d (Valita.tell ⟨d⟩ (f d)) Q
theorem DQ(T:bX K mg ad):aY P w K mg base 4 "names" ["document"] (wa ad (λ d=>toldTexts (namesOf d))):=by refine T.Kv.good (N:=["document"]) cj λ l H vs Q E hr hu6 hu nd h=>?_;obtain⟨p,d,rfl,⟨dx,fs,bl,D⟩,k⟩:=h;have hfit:=D.fit;have hW:=uQ d;refine⟨_,(ac (ah (az (gb T) hr (aD (az (iE T) hr (aD (aC aH))))))),?_⟩;refine qf D.ins T.be.cl T.c5 D.has.a ?_;refine⟨bl,d,rfl,D.doc.same aK,D.wf,D.fit,λ m us H1 s1 n1 h1 p1=>?_⟩;exact⟨m,us,_,rfl,h1,p1,by omega,λ m2 H2 s2 n2 h2=>k.told ⟨dx,fs,bl,D⟩ (s1.trans s2) (s1.free n2) h2⟩
theorem DR(T:bX K mg ad):aY P w K mg base 4 "files" ["document"] (wa ad (λ d=>toldTexts (filesOf d))):=by refine T.Kw.good (N:=["document"]) cj λ l H vs Q E hr hu6 hu nd h=>?_;obtain⟨p,d,rfl,⟨dx,fs,bl,D⟩,k⟩:=h;have hfit:=D.fit;have hW:=uR d;refine⟨_,(ac (ah (az (gb T) hr (aD (az (iD T) hr (aD (aC aH))))))),?_⟩;refine qf D.ins T.be.cl T.c5 D.has.a ?_;refine⟨bl,d,rfl,D.doc.same aK,D.wf,D.fit,λ m us H1 s1 n1 h1 p1=>?_⟩;exact⟨m,us,_,rfl,h1,p1,by omega,λ m2 H2 s2 n2 h2=>k.told ⟨dx,fs,bl,D⟩ (s1.trans s2) (s1.free n2) h2⟩
theorem xZ(T:bX K mg ad):aY P w K mg base 5 "settings" ["document"] (wa ad (λ d=>toldTexts (settingsOf d))):=by refine T.Kx.good (N:=["document"]) cj λ l H vs Q E hr hu6 hu nd h=>?_;obtain⟨p,d,rfl,⟨dx,fs,bl,D⟩,k⟩:=h;have hfit:=D.fit;have hW:=nZ d;refine⟨_,(ac (ah (az (gb T) hr (aD (az (gp T) hr (aD (aC aH))))))),?_⟩;refine qf D.ins T.be.cl T.c5 D.has.a ?_;refine⟨bl,d,rfl,D.doc.same aK,D.wf,D.fit,λ m us H1 s1 n1 h1 p1=>?_⟩;exact⟨m,us,_,rfl,h1,p1,by omega,λ m2 H2 s2 n2 h2=>k.told ⟨dx,fs,bl,D⟩ (s1.trans s2) (s1.free n2) h2⟩
open Valita (partsOf usesOf)
def la(H:Hp)(y:V)(x:Nat×Nat×Nat):Prop:=∃a,y=.ref a/\H a=some (.tup [.int (x.1:Int),.int (x.2.1:Int),.int (x.2.2:Int)])
theorem gc{H H':Hp}{ys:List V}{xs:List (Nat×Nat×Nat)}(p:Paired (la H) ys xs)(k:cN H H'):Paired (la H') ys xs:=Paired.mapP p λ _ _ ⟨a,e,h⟩=>⟨a,e,k _ _ rfl h⟩
theorem ya{α β:Type}(f:α×Nat->List β)(l:List α)(i:Nat):((l.take i).zipIdx.flatMap f) <+: (l.zipIdx.flatMap f):=by
 conv=>rhs;rw[<-Nd i l]
 rw[Qp,Mi];exact Qo _ _
theorem yb{α β:Type}(f:α×Nat->List β){l:List α}{i:Nat}{x:α}(h:l[i]?=some x):(l.take (i+1)).zipIdx.flatMap f=(l.take i).zipIdx.flatMap f++f (x,i):=by rw[bD h,Qp,Mi];congr 1;have hi:i<=l.length:=Mj (Mq.mp h).1;rw[Lr,Nr hi,Rb,List.zipIdx_nil,Me,Qi,Lv];simp
def fG(n:Text)(i j:Nat)(ps:List Piece):List (Nat×Nat×Nat):=(ps.zipIdx.filter λ z=>fZ n z.1).map λ z=>(i,j,z.2)
theorem tf{n:Text}{i j k:Nat}{ps:List Piece}{p:Piece}(h:ps[k]?=some p):fG n i j (ps.take (k+1))=fG n i j (ps.take k)++(if fZ n p=true then[(i,j,k)] else[]):=by unfold fG;have hi:k<=ps.length:=Mj (Mq.mp h).1;rw[bD h,Qp,Qm,Mh];congr 1;rw[Lr,Nr hi,Rb,List.zipIdx_nil,Qy,List.filter_nil];simp only[Nat.zero_add];split<;>rfl
theorem tj(n:Text)(i j k:Nat)(ps:List Piece):fG n i j (ps.take k) <+: fG n i j ps:=by
 unfold fG
 conv=>rhs;rw[<-Nd k ps]
 rw[Qp,Qm,Mh];exact Qo _ _
def iQ(n:Text)(d:Document):List (Nat×Nat×Nat):=d.zipIdx.flatMap λ z=>cv n z.2 (bL z.1)
def yc(ad:Ad):Sp:=λ vs H Q _=>∃l d u n,vs=[.ref l,u]/\iY ad H l d/\bN H u n/\(usesOf d n).length<=100000/\∀m us H',ae H H'->H m=none->H' m=some (.lst us)->Paired (la H') us (usesOf d n)->Q (.ref m) H'
theorem mf(T:bX K mg ad):aY P w K mg base 3 "use_places" ["blocks","name"] (yc ad):=by
 refine T.Kd.good (N:=["blocks","name","places","i","block","j","line","k","piece"]) cj λ l H vs Q E hr hu6 hu nd h=>?_;obtain⟨l,d,u,n,rfl,⟨bs,hl,pb,dz⟩,hn,hz,k⟩:=h;have eu:usesOf d n=iQ n d:=uW d n;rw[eu]at hz;refine⟨_,(aa (bf 2 nd (aG aF))
   (aa (dn Mu rfl (vt rfl T.i9 (aD aH)) (rf rfl (eY (aM (i:=3) nd rfl (Or.inl rfl)) (eY (aM (i:=4) nd rfl (Or.inl rfl)) mL))) (ac (dn Mu rfl (vt rfl T.i9 (aD (az (pN T) hr (aD jk)))) (rf rfl (eY (aM (i:=5) nd rfl (Or.inl rfl)) (eY (aM (i:=6) nd rfl (Or.inl rfl)) mL))) (ac (dn Mu rfl (Di rfl T.i9 (aD (aC (pv 6)))) (rf rfl (eY (aM (i:=7) nd rfl (Or.inl rfl)) (eY (aM (i:=8) nd rfl (Or.inl rfl)) mL))) (ac (aA ((oz (aq bo (aC (pv 8)) (af T.i5) (ax _)) (mK (aq (iJ hu6) (aC (pv 8)) aQ (ax _))))).pt (ac (aV (bZ Lk Ma Mb bq bJ (aD (bx (ag dF (dU (pv 5) (pv 7)))))))) ak)))))))
   (ac (ah bJ)))),?_⟩
 refine⟨Lj _,λ m hm=>?_⟩;have s0:=ae.new (o:=.lst []) hm;refine⟨_,rfl,l,bs,rfl,SqL.of (s0 _ _ hl),xx (K:=K) (a:=l) (xs:=bs) (λ i σ H'=>∃x3 x4 x5 x6 x7 x8 ws,σ=[some (.ref l),some u,some (.ref m),x3,x4,x5,x6,x7,x8]/\ae H H'/\H' m=some (.lst ws)/\Paired (la H') ws (iQ n (d.take i))) ⟨none,none,none,none,none,none,[],rfl,s0,ab,.nil⟩ (λ i σ H' _ ⟨_,_,_,_,_,_,_,_,s,_⟩=>SqL.of (s _ _ hl)) ?_ ?_⟩
 ·rintro i x σ H' Tp hx ⟨x3,x4,x5,x6,x7,x8,ws,rfl,s,hm',pw⟩ hT;obtain⟨b,hb,rb⟩:=aZ pb hx;have sT:=ae.new (o:=.tup [.int ((i:Nat):Int),x]) hT;refine⟨Tp,_,rfl,ci.of ab,rfl,_,_,rfl,_,_,rfl,rfl,?_⟩;have hm1:=sT _ _ hm';have pw1:=gc pw (ae.kept sT);have s1:=s.trans sT;generalize L2.upd H' Tp (.tup [.int ((i:Nat):Int),x])=H1 at sT hm1 pw1 s1;refine⟨_,rfl,H,x,b,rfl,rb,s1,λ ll ls H2 s2 hll hor pl=>?_⟩;have nl:ll≠m:=by
   rcases hor with h1 |h1
   ·exact ay h1 hm
   ·exact(ay hm1 h1).symm
  have e0:iQ n (d.take (i+1))=iQ n (d.take i)++cv n i (bL b):=yb (λ z=>cv n z.2 (bL z.1)) hb;have px:=ya (λ z=>cv n z.2 (bL z.1)) d (i+1);have px:iQ n (d.take (i+1)) <+: iQ n d:=px;rw[e0]at px;have zx:=px.length_le;rw[La]at zx;have hm2:=s2 _ _ hm1;have pw2:=gc pw1 (ae.kept s2);refine⟨ll,ls,rfl,SqL.of hll,xx (K:=K) (a:=ll) (xs:=ls) (λ j σ H'=>∃x5 x6 x7 x8 ws,σ=[some (.ref l),some u,some (.ref m),some (.int ((i:Nat):Int)),some x,x5,x6,x7,x8]/\ae H H'/\cg m H2 H'/\H' m=some (.lst ws)/\Paired (la H') ws (iQ n (d.take i)++cv n i ((bL b).take j))) ⟨_,_,_,_,ws,rfl,s1.trans s2,cg.refl m H2,hm2,?_⟩ (λ j σ H' _ ⟨_,_,_,_,_,_,_,sb,_⟩=>SqL.of (sb.at nl hll)) ?_ ?_⟩
  ·show Paired (la H2) ws (iQ n (d.take i)++[]);rw[Lv];exact pw2
  ·rintro j y σ H3 Tq hy ⟨x5,x6,x7,x8,ws,rfl,s3,sb3,hm3,pw3⟩ hTq;obtain⟨ln,hln,rl⟩:=aZ pl hy;have sT3:=ae.new (o:=.tup [.int ((j:Nat):Int),y]) hTq;refine⟨Tq,_,rfl,ci.of ab,rfl,_,_,rfl,_,_,rfl,rfl,?_⟩;have hm4:=sT3 _ _ hm3;have pw4:=gc pw3 (ae.kept sT3);have s4:=s3.trans sT3;have sb4:=sb3.trans (ae.beside sT3);generalize L2.upd H3 Tq (.tup [.int ((j:Nat):Int),y])=H4 at sT3 hm4 pw4 s4 sb4;obtain⟨b4,dx4,fs4,u1,u2,rfl,hb4,hf4,⟨tp,qs,rfl,htp,pq,zq⟩,rs4⟩:=rl.kept (sb4.keptI hm2);have e1:cv n i ((bL b).take (j+1))=cv n i ((bL b).take j)++fG n i j (lP ln):=yb (λ z=>kX n i z.2 z.1) hln;have px1:cv n i ((bL b).take (j+1)) <+: cv n i (bL b):=ya (λ z=>kX n i z.2 z.1) (bL b) (j+1);rw[e1]at px1;have zx1:=px1.length_le;rw[La]at zx1;refine qf hb4 T.c7.cl T.f9 hf4.b ?_;refine⟨tp,qs,rfl,ci.of htp,Bv (K:=K) (a:=tp) (xs:=qs) (λ kk σ H'=>∃x7 x8 ws,σ=[some (.ref l),some u,some (.ref m),some (.int ((i:Nat):Int)),some x,some (.int ((j:Nat):Int)),some (.ref b4),x7,x8]/\ae H H'/\cg m H2 H'/\cg m H4 H'/\H' m=some (.lst ws)/\Paired (la H') ws (iQ n (d.take i)++cv n i ((bL b).take j)++fG n i j ((lP ln).take kk))) ⟨_,_,ws,rfl,s4,sb4,cg.refl m H4,hm4,?_⟩ (λ kk σ H' _ ⟨_,_,_,_,_,_,sb,_⟩=>ci.of ((sb.keptI (ad:=ad) hm4).1 _ _ rfl htp)) ?_ ?_⟩
   ·show Paired (la H4) ws (iQ n (d.take i)++cv n i ((bL b).take j)++[]);rw[Lv];exact pw4
   ·rintro kk z σ H5 Tr hz5 ⟨x7,x8,ws,rfl,s5,sb5,sc5,hm5,pw5⟩ hTr;obtain⟨pc,hpc,rp⟩:=aZ pq hz5;have sT5:=ae.new (o:=.tup [.int ((kk:Nat):Int),z]) hTr;refine⟨Tr,_,rfl,ci.of ab,rfl,_,_,rfl,_,_,rfl,rfl,?_⟩;have hm6:=sT5 _ _ hm5;have pw6:=gc pw5 (ae.kept sT5);have s6:=s5.trans sT5;have sb6:=sb5.trans (ae.beside sT5);have sc6:=sc5.trans (ae.beside sT5);generalize L2.upd H5 Tr (.tup [.int ((kk:Nat):Int),z])=H6 at sT5 hm6 pw6 s6 sb6 sc6;obtain⟨b6,dx6,fs6,w1,w2,rfl,hb6,hf6,r1,r2⟩:=rp.kept (sc6.keptI hm4);have e2:=tf (n:=n) (i:=i) (j:=j) hpc;have zx2:=(tj n i j (kk+1) (lP ln)).length_le;rw[e2]at zx2;have lw6:=ai pw6;refine qf hb6 T.c8.cl T.d8 hf6.a ?_;refine⟨rfl,_,rfl,au (λ h1=>?_) λ h1=>?_⟩
    ·refine qf hb6 T.c8.cl T.f6 hf6.b ?_;refine⟨_,rfl,pT pc,n,r1,hn.same s6,_,rfl,au (λ h2=>?_) λ h2=>?_⟩
     ·have ep:fZ n pc=true:=by
       rw[oV,<-fm,h1,Os];exact h2
      rw[Le ep,La,Lx]at zx2;refine⟨_,rfl,.inl ⟨rfl,_,SqL.of hm6⟩,_,rfl,_,rfl,_,rfl,(by show 3<=sizeLine;decide),λ q nq=>?_⟩;have sq:=ae.new (o:=.tup [.int ((i:Nat):Int),.int ((j:Nat):Int),.int ((kk:Nat):Int)]) nq;have hq:(L2.upd H6 q (.tup [.int ((i:Nat):Int),.int ((j:Nat):Int),.int ((kk:Nat):Int)])) q=some (.tup [.int ((i:Nat):Int),.int ((j:Nat):Int),.int ((kk:Nat):Int)]):=ab;have hm7:=sq _ _ hm6;have pw7:=gc pw6 (ae.kept sq);generalize L2.upd H6 q (.tup [.int ((i:Nat):Int),.int ((j:Nat):Int),.int ((kk:Nat):Int)])=H7 at sq hq hm7 pw7;refine⟨m,ws,_,rfl,rfl,hm7,?_,_,_,ws++[.ref q],rfl,ae.upd (s6.trans sq) hm,(sb6.trans (ae.beside sq)).trans eM,(sc6.trans (ae.beside sq)).trans eM,ab,?_⟩
      ·rw[lw6,La,La];exact aL (show _<=1000000 by omega)
      ·rw[e2,Le ep,<-My];exact aI (gc pw7 (cN.lst hm7)) (.cons ⟨q,rfl,(cN.lst hm7) _ _ rfl hq⟩ .nil)
     ·have ep:¬fZ n pc=true:=by
       rw[oV,<-fm,h1,Os];exact h2
      refine⟨_,_,ws,rfl,s6,sb6,sc6,hm6,?_⟩;rw[e2,Ld ep,Lv];exact pw6
    ·have ep:¬fZ n pc=true:=by
      rw[oV,<-fm];intro q;rw[Li]at q;exact h1 q.1
     refine fH ⟨_,_,ws,rfl,s6,sb6,sc6,hm6,?_⟩;rw[e2,Ld ep,Lv];exact pw6
   ·rintro σ H5 ⟨x7,x8,ws,rfl,s5,sb5,sc5,hm5,pw5⟩;rw[ai pq,Mr,My,<-e1]at pw5;exact⟨_,_,_,_,ws,rfl,s5,sb5,hm5,pw5⟩
  ·rintro σ H3 ⟨x5,x6,x7,x8,ws,rfl,s3,sb3,hm3,pw3⟩;rw[ai pl,Mr,<-e0]at pw3;exact⟨_,_,_,_,_,_,ws,rfl,s3,hm3,pw3⟩
 ·rintro σ H' ⟨x3,x4,x5,x6,x7,x8,ws,rfl,s,hm',pw⟩;rw[ai pb,Mr,<-eu]at pw;exact⟨_,rfl,k m ws H' s hm hm' pw⟩
def DS(ad:Ad):Sp:=λ vs H Q _=>∃l d u n f,vs=[.ref l,.int (fD f),u]/\iY ad H l d/\bN H u n/\∀m H',ae H H'->H m=none->H' m=some (.lst (cM (partsOf d f n)))->Q (.ref m) H'
theorem zF{f:Bool}{n:Text}{d:Document}{i:Nat}{b:Block}(h:d[i]?=some b):partsOf (d.take (i+1)) f n=partsOf (d.take i) f n++(if iP f n b=true then[i] else[]):=by rw[mG,mG];have hi:i<=d.length:=Mj (Mq.mp h).1;rw[bD h,Qp,Qm,Mh];congr 1;rw[Lr,Nr hi,Rb,List.zipIdx_nil,Qy,List.filter_nil];simp only[Nat.zero_add];split<;>rfl
theorem tu(T:bX K mg ad):aY P w K mg base 2 "part_places" ["blocks","kind","name"] (DS ad):=by
 refine T.Kc.good (N:=["blocks","kind","name","i","block"]) cj λ l H vs Q E hr hu6 hu nd h=>?_;obtain⟨l,d,u,n,f,rfl,⟨bs,hl,pb,dz⟩,hn,k⟩:=h;refine⟨_,(ac (ah (dL (own:=[("i",3),("block",4)]) rfl nd (vt rfl T.i9 (aD aH)) (bp (N:=["blocks","kind","name","i","block"]) (sc:=aB (bg 121)) (by decide +kernel)) (λ _ _ _ _ _=>(Fa (K:=K) (n:=2) rfl rfl (eY (aM (i:=3) nd rfl (Or.inl rfl) (Or.inr rfl)) (eY (aM (i:=4) nd rfl (Or.inl rfl) (Or.inr rfl)) mL)))) (λ _ _ _ _ _=>jm (bi (az (me T) hr (ag jk (dU aQ bJ))))) (λ _ _ _ _ _=>dF)))),?_⟩;refine⟨_,rfl,l,bs,rfl,SqL.of hl,λ D hD=>?_⟩;refine Fb (K:=K) (xs:=bs) (λ i H'=>ae H H'/\H' D=some (.lst (cM (partsOf (d.take i) f n)))) ⟨ae.upd (ae.refl H) hD,ab⟩ (λ i H' _ ⟨s,_⟩=>SqL.of (s _ _ hl)) ?_ ?_
 ·rintro i x H' Tp hx ⟨s,hD'⟩ hT;obtain⟨b,hb,rb⟩:=aZ pb hx;have sT:=ae.new (o:=.tup [.int ((i:Nat):Int),x]) hT;have e:=zF (f:=f) (n:=n) hb;have zx:(partsOf (d.take i) f n).length<=100000:=by
   rw[fC];have h1:=Pg (p:=iP f n) (l:=d.take i);rw[Lr]at h1;omega
  refine⟨Tp,_,rfl,ci.of ab,rfl,_,_,rfl,_,_,rfl,rfl,?_⟩;have hD1:=sT _ _ hD';have s1:=s.trans sT;generalize L2.upd H' Tp (.tup [.int ((i:Nat):Int),x])=H1 at sT hD1 s1;refine⟨rfl,⟨_,rfl,_,rfl,_,rfl,x,b,u,n,f,rfl,rb.same s1,hn.same s1,_,rfl,au (λ h1=>?_) λ h1=>?_⟩⟩
  ·refine⟨_,rfl,_,hD1,?_,ae.upd s1 hD,?_⟩
   ·rw[cw];exact aL (show _<=1000000 by omega)
   ·rw[ab,e,Le h1,gU];rfl
  ·refine⟨s1,?_⟩;rw[e,Ld h1,Lv];exact hD1
 ·rintro H' ⟨s,hD'⟩;rw[ai pb,Mr]at hD';exact k D H' s hD hD'
open Valita (inPieces swapName)
def gz(f:Bool)(old new:Text):Piece->Piece:=if f=true then iB old new else lG old new
theorem BS{f:Bool}{old new:Text}{p:Piece}(h:pK p≠fD f):gz f old new p=p:=by unfold gz;cases f<;>cases p<;>first |rfl |exact absurd rfl h
theorem zG{f:Bool}{old new:Text}{p:Piece}(h:pK p=fD f):pK (gz f old new p)=fD f/\pT (gz f old new p)=swapName old new (pT p)/\pA (gz f old new p)=pA p:=by unfold gz;cases f<;>cases p<;>first |exact⟨rfl,rfl,rfl⟩ |(exact absurd h (by decide)) |(cases h)
theorem HX(g:Piece->Piece)(l:Line):lK (inPieces g l)=lK l:=by cases l<;>rfl
theorem FR(g:Piece->Piece)(l:Line):lP (inPieces g l)=(lP l).map g:=by cases l<;>rfl
theorem HY(g:Piece->Piece)(l:Line):lS (inPieces g l)=lS l:=by cases l<;>rfl
def Fu:Sp:=λ vs H Q _=>∃v u a ws new old ts,vs=[v,u,.ref a]/\bN H v new/\bN H u old/\(H a=some (.lst ws)\/FT H a ws)/\Paired (bN H) ws ts/\Q (.bl (!decide (new=old)&&decide (new∈ts))) H
theorem iH(T:bX K mg ad):aY P w K mg base 1 "is_taken" ["new","old","known"] (Fu):=by
 refine T.Ke.good (N:=["new","old","known"]) cj λ l H vs Q E hr hu6 hu nd h=>?_;obtain⟨v,u,a,ws,new,old,ts,rfl,hv,hu2,ha,pw,k⟩:=h;refine⟨_,(ac (ah (gV (dB (rH hu6) aH aQ (ax _)) (fI (dB (Gz hu6) aH bJ (by with_unfolding_all rfl)))))),?_⟩;refine⟨_,rfl,_,rfl,new,old,hv,hu2,_,rfl,au (λ h1=>?_) λ h1=>?_⟩
 ·refine⟨_,rfl,_,rfl,a,ws,new,ts,rfl,ha,pw,hv,?_⟩;rw[h1,Os]at k;exact k
 ·have e:(!decide (new=old))=false:=by simpa using h1
  rw[e,Bool.false_and]at k;exact k
def Fv:Sp:=λ vs H Q _=>∃v u y r old new,vs=[v,u,y]/\bN H v r/\bN H u old/\bN H y new/\∀z,bN H z (swapName old new r)->Q z H
theorem eQ(T:bX K mg ad):aY P w K mg base 1 "changed_row" ["row","old","new"] (Fv):=by
 refine T.Kf.good (N:=["row","old","new"]) cj λ l H vs Q E hr hu6 hu nd h=>?_;obtain⟨v,u,y,r,old,new,rfl,hv,hu2,hy,k⟩:=h;refine⟨_,(ac (ah (fJ (aq (iJ hu6) aH aQ (ax _)) bJ aH))),?_⟩;refine⟨_,rfl,_,rfl,r,old,hv,hu2,_,rfl,au (λ h1=>?_) λ h1=>?_⟩
 ·have h1:=Lh h1;exact⟨_,rfl,k y (by unfold swapName;rw[Le h1];exact hy)⟩
 ·have h1:r≠old:=by simpa using h1
  exact⟨_,rfl,k v (by unfold swapName;rw[Ld h1];exact hv)⟩
def BU(ad:Ad):Sp:=λ vs H Q _=>∃v p f u y old new,vs=[v,.int (fD f),u,y]/\cb ad H v p/\bN H u old/\bN H y new/\∀z H',ae H H'->cb ad H' z (gz f old new p)->Q z H'
theorem pf(T:bX K mg ad):aY P w K mg base 3 "changed_piece" ["piece","kind","old","new"] (BU ad):=by
 refine T.Kg.good (N:=["piece","kind","old","new"]) cj λ l H vs Q E hr hu6 hu nd h=>?_;obtain⟨v,p,f,u,y,old,new,rfl,hp,hu2,hy,k⟩:=h;obtain⟨a,dx,fs,v1,v2,rfl,ha,hf,r1,r2⟩:=id hp;refine⟨_,(aa (aA (aq iR (aC aH) aQ (ax _)) (ac (ah aH)) ak)
   (ac (ah (gv (ny T) hr (ag aQ (ag (az (eQ T) hr (ag (aC aH) (dU bJ dF))) (ag (aC aH) aF))))))),?_⟩
 refine qf ha T.c8.cl T.d8 hf.a ?_;refine⟨_,rfl,rfl,_,rfl,au (λ h1=>?_) λ h1=>?_⟩
 ·have h1:pK p≠fD f:=by simpa using h1
  refine⟨_,rfl,k _ H (ae.refl H) ?_⟩;rw[BS h1];exact hp
 have h1:pK p=fD f:=by simpa using h1
 obtain⟨e1,e2,e3⟩:=zG (old:=old) (new:=new) h1;refine⟨_,rfl,?_⟩;refine qf ha T.c8.cl T.f6 hf.b ?_;refine⟨_,rfl,_,rfl,_,_,_,_,_,_,rfl,r1,hu2,hy,λ z hz=>?_⟩;refine qf ha T.c8.cl T.j9 hf.c ?_;intro x2 dx2 hx hdx hne;refine fz (ws:=[.int (fD f),z,v2]) (by rfl) hx hdx hne λ H2 fs2 s2 hH hf2=>⟨rfl,?_⟩;refine k _ H2 s2 ⟨x2,dx2,fs2,z,v2,rfl,hH,?_,?_,?_⟩
 ·rw[e1];exact hf2
 ·rw[e2];exact hz.same s2
 ·rw[e3];exact r2.same s2
def DT(ad:Ad):Sp:=λ vs H Q _=>∃v l f u y old new,vs=[v,.int (fD f),u,y]/\bW ad H v l/\bN H u old/\bN H y new/\∀z H',ae H H'->bW ad H' z (inPieces (gz f old new) l)->Q z H'
theorem qB(T:bX K mg ad):aY P w K mg base 4 "changed_line" ["line","kind","old","new"] (DT ad):=by
 refine T.Kh.good (N:=["line","kind","old","new","pieces","piece"]) cj λ l H vs Q E hr hu6 hu nd h=>?_;obtain⟨v,l,f,u,y,old,new,rfl,hl,hu2,hy,k⟩:=h;obtain⟨a,dx,fs,v1,v2,rfl,ha,hf,⟨tp,ps,rfl,htp,pp,zp⟩,r2⟩:=id hl;have zp:(lP l).length<=1000000:=zp;refine⟨_,(aa (bf 4 nd (uq T.g3 kL (aD (dL (own:=[("piece",5)]) rfl nd (fK (aC aH)) (bp (N:=["line","kind","old","new","pieces","piece"]) (sc:=aB (bg 127)) (by decide +kernel)) (λ _ _ _ _ _=>(aM (i:=5) nd rfl (Or.inl rfl))) (λ _ _ _ _ _=>cS) (λ _ _ _ _ _=>(az (pf T) hr (ag (pv 5) (ag aQ (dU bJ dF)))))))))
   (ac (ah (gv (lq T) hr (ag (aC aH) (ag jk (ag (aC aH) aF))))))),?_⟩
 refine qf ha T.c7.cl T.f9 hf.b ?_;refine Ah (ze K) (RO:=λ H y p=>cb ad H y (gz f old new p)) (p:=λ _=>true) ⟨λ r s=>r.kept (ae.keptI s),λ h r=>r.kept (cG.lst h)⟩ pp (λ s=>ci.of (s _ _ htp)) (by rw[ai pp];omega) (λ x b H2 Q' _ r s2 q=>q H2 (ae.refl H2)) (λ x b H2 Q' _ r _ s2 q=>?_) λ D H2 ys hD s2 hys py=>?_
 ·exact⟨_,rfl,_,rfl,_,rfl,_,rfl,x,b,f,u,y,old,new,rfl,r.kept (ae.keptI s2),hu2.same s2,hy.same s2,λ z H3 s3 hz=>q z H3 s3 hz⟩
 ·rw[eD]at py;refine⟨D,ys,rfl,.inl ⟨SqL.of hys,λ tq ntq=>?_⟩⟩;have s3:=ae.new (o:=.tup ys) ntq;have htq:(L2.upd H2 tq (.tup ys)) tq=some (.tup ys):=ab;have py3:=eP (Paired.mapP py λ _ _ r=>cb.kept r (ae.keptI s3));have s03:=s2.trans s3;generalize L2.upd H2 tq (.tup ys)=H3 at s3 htq py3 s03;refine qf (s03 _ _ ha) T.c7.cl T.c9 hf.a ?_;refine⟨_,rfl,?_⟩;refine qf (s03 _ _ ha) T.c7.cl T.g9 hf.c ?_;intro x2 dx2 hx hdx hne;refine fz (ws:=[.int (lK l),.ref tq,v2]) (by rfl) hx hdx hne λ H4 fs2 s4 hH hf2=>⟨rfl,?_⟩;refine k _ H4 (s03.trans s4) ⟨x2,dx2,fs2,.ref tq,v2,rfl,hH,?_,⟨tq,ys,rfl,s4 _ _ htq,?_,?_⟩,?_⟩
  ·rw[HX];exact hf2
  ·rw[FR];exact cZ py3 (ae.keptI s4)
  ·rw[FR,Ls];exact zp
  ·rw[HY];exact r2.same (s03.trans s4)
def BV(ad:Ad):Sp:=λ vs H Q _=>∃v c f u y old new,vs=[v,.int (fD f),u,y]/\gP ad H v c/\bN H u old/\bN H y new/\∀m ws H',ae H H'->H m=none->H' m=some (.lst ws)->Paired (bW ad H') ws (c.lines.map (inPieces (gz f old new)))->Q (.ref m) H'
theorem jf(T:bX K mg ad):aY P w K mg base 5 "changed_lines" ["part","kind","old","new"] (BV ad):=by
 refine T.Ki.good (N:=["part","kind","old","new","line"]) cj λ l H vs Q E hr hu6 hu nd h=>?_;obtain⟨v,c,f,u,y,old,new,rfl,⟨a,dx,fs,v1,v2,ll,us,pa⟩,hu2,hy,k⟩:=h;obtain rfl:=pa.ref;have zl:c.lines.length<=1000000:=pa.lim;refine⟨_,(ac (ah (dL (own:=[("line",4)]) rfl nd (bU (aC aH)) (bp (N:=["part","kind","old","new","line"]) (sc:=aB (bg 128)) (by decide +kernel)) (λ _ _ _ _ _=>(aM (i:=4) nd rfl (Or.inl rfl))) (λ _ _ _ _ _=>cS) (λ _ _ _ _ _=>(az (qB T) hr (ag jk (ag aQ (dU bJ dF)))))))),?_⟩;refine qf pa.ins T.a8.cl T.d4 pa.has.d ?_;refine HP (RO:=λ H y l=>bW ad H y (inPieces (gz f old new) l)) (p:=λ _=>true) ⟨λ r s=>r.kept (ae.keptI s),λ h r=>r.kept (cG.lst h)⟩ pa.lines pa.lst (by rw[ai pa.lines];omega) (λ x b H2 Q' _ r s2 q=>q H2 (ae.refl H2)) (λ x b H2 Q' _ r _ s2 q=>?_) λ D H2 ys hD s2 hys py=>?_
 ·exact⟨_,rfl,_,rfl,_,rfl,_,rfl,x,b,f,u,y,old,new,rfl,r.kept (ae.keptI s2),hu2.same s2,hy.same s2,λ z H3 s3 hz=>q z H3 s3 hz⟩
 ·rw[eD]at py;exact k D ys H2 s2 hD hys (eP py)
open Valita (inChunks)
theorem wb{ad:Ad}{D:Addr}{acc:List V}{H:Hp}(h:H D=some (.lst acc)):jz ad [D] H:=by
 refine⟨λ m hm o e=>?_,λ m hm C dx fs e=>?_⟩
 ·rw[Lu.mp hm,h]at e;cases e;rfl
 ·rw[Lu.mp hm,h]at e;cases e
def gq(f:Chunk->Chunk):Block->Block
 |.chunk c=>.chunk (f c)
 |x=>x
theorem oj(f:Chunk->Chunk)(d:Document):inChunks f d=d.map (gq f):=by unfold inChunks;refine Rg λ b _=>?_;cases b<;>rfl
theorem om{ad:Ad}{H:Hp}{D y dx q:Addr}{acc:List V}{fs:List (Str×V)}{v1 v2:V}{ws:List V}{c:Chunk}(p:eG ad H (.ref y) c y dx fs v1 v2 q ws)(hD:H D=some (.lst acc))(hy:y≠D)(hq:q≠D):aE ad (bS [D] H) (.ref y) (.chunk c):=
 ⟨y,dx,fs,v1,v2,q,ws,p.offL (wb hD) (by simpa using hy) (by simpa using hq)⟩
theorem iI{ad:Ad}{H:Hp}{D:Addr}{f:Chunk->Chunk}{d:Document}{ys:List V}(p:Paired (λ y b=>aE ad (bS [D] H) y (gq f b)) ys d)(h:H D=some (.lst ys))(hz:d.length<=100000):iY ad H D (inChunks f d):=by
 refine⟨ys,h,?_,?_⟩
 ·rw[oj];exact eP (Paired.mapP p λ _ _ r=>aE.same r aK)
 ·rw[oj,Ls];exact hz
def ph(ad:Ad)(g:Text->Text->Chunk->Chunk):Sp:=λ vs H Q _=>∃D acc v b u y old new,vs=[v,u,y]/\H D=some (.lst acc)/\aE ad (bS [D] H) v b/\bN H u old/\bN H y new/\∀z H',ae H H'->aE ad (bS [D] H') z (gq (g old new) b)->Q z H'
theorem zH(T:bX K mg ad):aY P w K mg base 6 "renamed" ["block","old","new"] (ph ad dW):=by
 refine T.Kj.good (N:=["block","old","new","name"]) cj λ l H vs Q E hr hu6 hu nd h=>?_;obtain⟨D,acc,v,b,u,y,old,new,rfl,hD,hb,hu2,hy,k⟩:=h;have hb0:=hb.same aK;refine⟨_,(aa (aA (bO (bi (az (fW T) hr (aD aH)))) (ac (ah aH)) ak)
   (aa (bf 3 nd (fJ (aq bo (aC aH) (af T.e9) (ax _)) (az (eQ T) hr (ag (aC aH) (dU aQ bJ))) (aC aH)))
   (ac (ah (gv (jw T) hr (ag (aC aH) (ag dF (ag (aC aH) (ag (az (jf T) hr (ag aH (ag (af T.i5) (dU aQ bJ)))) aF))))))))),?_⟩
 refine⟨_,rfl,v,b,rfl,hb0,_,rfl,au (λ h1=>?_) λ h1=>?_⟩
 ·cases b with
  |chunk c=>cases h1
  |prose t=>exact⟨_,rfl,k v H (ae.refl H) hb⟩
 cases b with
 |prose t=>exact absurd rfl h1
 |chunk c=>
 obtain⟨a,dx,fs,v1,v2,ll,us,pa⟩:=hb0;obtain rfl:=pa.ref;have eW:∀z,bN H z (dW old new c).name->∀m ws H2,ae H H2->H m=none->H2 m=some (.lst ws)->Paired (bW ad H2) ws (c.lines.map (inPieces (gz false old new)))->∀x2 dx2,H2 x2=none->H2 dx2=none->dx2≠x2->
   nv ad.e ["kind","name","parameters","lines"] (.ref x2::[.int (cK c),z,v2,.ref m]) (upd (upd H2 dx2 (.own x2)) x2 (.ins ad.e dx2 [])) (λ v H2=>v=.non/\Q (.ref x2) H2) E0:=by
  intro z hz m ws H2 s2 n2 h2 p2 x2 dx2 hx hdx hne;refine fz (ws:=[.int (cK c),z,v2,.ref m]) (by rfl) hx hdx hne λ H3 fs3 s3 hH hf3=>⟨rfl,?_⟩;have s03:=s2.trans s3;have hD3:=s03 _ _ hD;refine k _ H3 s03 (om (c:=dW old new c) (dx:=dx2) (fs:=fs3) (v1:=z) (v2:=v2) (q:=m) (ws:=ws) ⟨rfl,hH,hf3,hz.same s03,pa.params.same s03,s3 _ _ h2,dj p2 (ae.keptI s3),?_⟩ hD3 (ay (s2 _ _ hD) hx).symm (ay hD n2).symm);show(c.lines.map _).length<=gS;rw[Ls];exact pa.lim
 refine qf pa.ins T.a8.cl T.d9 pa.has.a ?_;refine⟨rfl,_,rfl,au (λ h2=>?_) λ h2=>?_⟩
 ·rw[eV]at h2;have hf:c.isFile=false:=by simpa using h2
  refine qf pa.ins T.a8.cl T.d2 pa.has.b ?_;refine⟨_,rfl,_,rfl,_,_,_,_,old,new,rfl,pa.name,hu2,hy,λ z hz=>?_⟩;refine qf pa.ins T.a8.cl T.d9 pa.has.a ?_;refine⟨_,rfl,?_⟩;refine qf pa.ins T.a8.cl T.d3 pa.has.c ?_;refine⟨_,rfl,_,rfl,_,rfl,_,c,false,u,y,old,new,rfl,⟨a,dx,fs,v1,v2,ll,us,pa⟩,hu2,hy,λ m ws H2 s2 n2 h2 p2=>?_⟩;exact eW z (by show bN H z (if c.isFile=true then c.name else swapName old new c.name);rw[Ld (by rw[hf];decide)];exact hz) m ws H2 s2 n2 h2 p2
 ·rw[eV]at h2;have hf:c.isFile=true:=by simpa using h2
  refine qf pa.ins T.a8.cl T.d2 pa.has.b ?_;refine qf pa.ins T.a8.cl T.d9 pa.has.a ?_;refine⟨_,rfl,?_⟩;refine qf pa.ins T.a8.cl T.d3 pa.has.c ?_;refine⟨_,rfl,_,rfl,_,rfl,_,c,false,u,y,old,new,rfl,⟨a,dx,fs,v1,v2,ll,us,pa⟩,hu2,hy,λ m ws H2 s2 n2 h2 p2=>?_⟩;exact eW v1 (by show bN H v1 (if c.isFile=true then c.name else swapName old new c.name);rw[Le hf];exact pa.name) m ws H2 s2 n2 h2 p2
theorem zI(T:bX K mg ad):aY P w K mg base 3 "refiled" ["block","old","new"] (ph ad ck):=by
 refine T.Kl.good (N:=["block","old","new"]) cj λ l H vs Q E hr hu6 hu nd h=>?_;obtain⟨D,acc,v,b,u,y,old,new,rfl,hD,hb,hu2,hy,k⟩:=h;have hb0:=hb.same aK;obtain⟨a0,C0,dx0,fs0,rfl,ha0,hC0,hn0,hf0⟩:=hb0.kind T;refine⟨_,(aa (aA (aq iR (aC aH) (af T.g7) (ax _)) (ac (ah aH)) ak)
   (ac (ah (gv (jw T) hr (ag (af T.g7) (ag (az (eQ T) hr (ag (aC aH) (dU aQ bJ))) (ag (aC aH) (ag (aC aH) aF)))))))),?_⟩
 refine⟨_,rfl,a0,C0,dx0,fs0,_,rfl,ha0,hC0,hn0,hf0,rfl,_,rfl,au (λ h1=>?_) λ h1=>?_⟩
 ·refine⟨_,rfl,k _ H (ae.refl H) ?_⟩;cases b with
  |prose t=>exact hb
  |chunk c=>
   have hf:c.isFile=false:=by have h1:(!decide (V.int (cK c)=V.int 2))=true:=h1;rw[kZ]at h1;simpa using h1
   show aE ad (bS [D] H) _ (.chunk (ck old new c));unfold ck;rw[Ld (by rw[hf];decide)];exact hb
 cases b with
 |prose t=>exact absurd rfl h1
 |chunk c=>
 have hf:c.isFile=true:=by have h1:¬(!decide (V.int (cK c)=V.int 2))=true:=h1;rw[kZ]at h1;simpa using h1
 obtain⟨a,dx,fs,v1,v2,ll,us,pa⟩:=hb0;cases pa.ref;have ell:ll≠D:=by intro q;obtain⟨a3,dx3,fs3,v13,v23,ll3,us3,pa3⟩:=hb;cases pa3.ref;have e1:=(cQ pa3.ins).2;rw[pa.ins]at e1;cases e1;have e2:=pa.has.d;rw[pa3.has.d]at e2;cases e2;exact(cQ pa3.lst).1 (by rw[q];exact .head _)
 refine qf pa.ins T.a8.cl T.d2 pa.has.b ?_;refine⟨_,rfl,_,rfl,_,_,_,_,old,new,rfl,pa.name,hu2,hy,λ z hz=>?_⟩;refine qf pa.ins T.a8.cl T.d3 pa.has.c ?_;refine qf pa.ins T.a8.cl T.d4 pa.has.d ?_;intro x2 dx2 hx hdx hne;refine fz (ws:=[.int 2,z,v2,.ref ll]) (by rfl) hx hdx hne λ H3 fs3 s3 hH hf3=>⟨rfl,?_⟩;have hD3:=s3 _ _ hD;have ec:ck old new c={c with name:=swapName old new c.name}:=by unfold ck;rw[Le hf]
 have p3:=pa.same s3;refine k _ H3 s3 ?_;show aE ad (bS [D] H3) _ (.chunk (ck old new c));rw[ec];refine om (c:={c with name:=swapName old new c.name}) (dx:=dx2) (fs:=fs3) (v1:=z) (v2:=v2) (q:=ll) (ws:=us) ⟨rfl,hH,?_,hz.same s3,p3.params,p3.lst,p3.lines,p3.lim⟩ hD3 (ay hD hx).symm ell;have eK:cK {c with name:=swapName old new c.name}=2:=by show(if c.isFile=true then(2:Int) else 1)=2;rw[Le hf]
 rw[eK];exact hf3
def BW(ad:Ad):Sp:=λ vs H Q _=>∃v l u y old new,vs=[v,u,y]/\bW ad H v l/\bN H u old/\bN H y new/\∀z H',ae H H'->bW ad H' z (jI old new l)->Q z H'
theorem oo(T:bX K mg ad):aY P w K mg base 3 "resettled_line" ["line","old","new"] (BW ad):=by
 refine T.Kp.good (N:=["line","old","new"]) cj λ l H vs Q E hr hu6 hu nd h=>?_;obtain⟨v,l,u,y,old,new,rfl,hl,hu2,hy,k⟩:=h;obtain⟨a,dx,fs,v1,v2,rfl,ha,hf,pt,r2⟩:=id hl;refine⟨_,(aa (aA (aq iR (aC aH) (af T.g4) (ax _)) (ac (ah aH)) ak)
   (ac (ah (gv (lq T) hr (ag (af T.g4) (ag (aC aH) (ag (az (eQ T) hr (ag (aC aH) (dU aQ bJ))) aF))))))),?_⟩
 refine qf ha T.c7.cl T.c9 hf.a ?_;refine⟨rfl,_,rfl,au (λ h1=>?_) λ h1=>?_⟩
 ·refine⟨_,rfl,k _ H (ae.refl H) ?_⟩;have e:jI old new l=l:=by
   cases l with
   |«when» s=>simp[lK]at h1
   |code _=>rfl
   |otherwise=>rfl
   |done=>rfl
  rw[e];exact hl
 cases l with
 |code _=>exact absurd rfl h1
 |otherwise=>exact absurd rfl h1
 |done=>exact absurd rfl h1
 |«when» s=>
 refine qf ha T.c7.cl T.f9 hf.b ?_;refine qf ha T.c7.cl T.g9 hf.c ?_;refine⟨_,rfl,_,rfl,_,_,_,_,old,new,rfl,r2,hu2,hy,λ z hz=>?_⟩;intro x2 dx2 hx hdx hne;refine fz (ws:=[.int 1,v1,z]) (by rfl) hx hdx hne λ H3 fs3 s3 hH hf3=>⟨rfl,?_⟩;exact k _ H3 s3 ⟨x2,dx2,fs3,v1,z,rfl,hH,hf3,pt.kept (ae.keptI s3),hz.same s3⟩
theorem wd(T:bX K mg ad):aY P w K mg base 4 "resettled" ["block","old","new"] (ph ad fP):=by
 refine T.Kq.good (N:=["block","old","new","line"]) cj λ l H vs Q E hr hu6 hu nd h=>?_;obtain⟨D,acc,v,b,u,y,old,new,rfl,hD,hb,hu2,hy,k⟩:=h;have hb0:=hb.same aK;refine⟨_,(aa (aA (bO (bi (az (fW T) hr (aD aH)))) (ac (ah aH)) ak)
   (ac (ah (gv (jw T) hr (ag (aC aH) (ag (aC aH) (ag (aC aH) (ag (dL (own:=[("line",3)]) rfl nd (bU (aC aH)) (bp (N:=["block","old","new","line"]) (sc:=aB (bg 136)) (by decide +kernel)) (λ _ _ _ _ _=>(aM (i:=3) nd rfl (Or.inl rfl))) (λ _ _ _ _ _=>cS) (λ _ _ _ _ _=>(az (oo T) hr (ag dF (dU aQ bJ))))) aF)))))))),?_⟩
 refine⟨_,rfl,v,b,rfl,hb0,_,rfl,au (λ h1=>?_) λ h1=>?_⟩
 ·cases b with
  |chunk c=>cases h1
  |prose t=>exact⟨_,rfl,k v H (ae.refl H) hb⟩
 cases b with
 |prose t=>exact absurd rfl h1
 |chunk c=>
 obtain⟨a,dx,fs,v1,v2,ll,us,pa⟩:=hb0;obtain rfl:=pa.ref;have zl:c.lines.length<=1000000:=pa.lim;refine qf pa.ins T.a8.cl T.d9 pa.has.a ?_;refine qf pa.ins T.a8.cl T.d2 pa.has.b ?_;refine qf pa.ins T.a8.cl T.d3 pa.has.c ?_;refine qf pa.ins T.a8.cl T.d4 pa.has.d ?_;refine im (λ xs H2 Q2=>∀x dx,H2 x=none->H2 dx=none->dx≠x->nv ad.e ["kind","name","parameters","lines"] (.ref x::(.int (cK c):: v1::v2::xs)) (upd (upd H2 dx (.own x)) x (.ins ad.e dx [])) (λ v H3=>v=.non/\Q2 (.ref x) H3) E0) (Q:=Q) (σ0:=[]) (RO:=λ H y l=>bW ad H y (jI old new l)) (p:=λ _=>true) ⟨λ r s=>r.kept (ae.keptI s),λ h r=>r.kept (cG.lst h)⟩ pa.lines pa.lst (by rw[ai pa.lines];omega) (λ x b H2 Q' _ r s2 q=>q H2 (ae.refl H2)) (λ x b H2 Q' _ r _ s2 q=>?_) λ m H2 ys n2 s2 h2 p2=>?_
 ·exact⟨_,rfl,_,rfl,_,rfl,x,b,u,y,old,new,rfl,r.kept (ae.keptI s2),hu2.same s2,hy.same s2,λ z H3 s3 hz=>q z H3 s3 hz⟩
 ·rw[eD]at p2;have p2:=eP p2;intro x2 dx2 hx hdx hne;refine fz (ws:=[.int (cK c),v1,v2,.ref m]) (by rfl) hx hdx hne λ H3 fs3 s3 hH hf3=>⟨rfl,?_⟩;have s03:=s2.trans s3;have hD3:=s03 _ _ hD;have p3:=pa.same s03;refine k _ H3 s03 (om (c:=fP old new c) (dx:=dx2) (fs:=fs3) (v1:=v1) (v2:=v2) (q:=m) (ws:=ys) ⟨rfl,hH,hf3,p3.name,p3.params,s3 _ _ h2,dj p2 (ae.keptI s3),?_⟩ hD3 (ay (s2 _ _ hD) hx).symm (ay hD n2).symm);show(c.lines.map _).length<=gS;rw[Ls];exact pa.lim
def zJ(ad:Ad):Sp:=λ vs H Q _=>∃D acc v b t u y n old new,vs=[v,t,u,y]/\H D=some (.lst acc)/\aE ad (bS [D] H) v b/\bN H t n/\bN H u old/\bN H y new/\∀z H',ae H H'->aE ad (bS [D] H') z (gq (cI n old new) b)->Q z H'
theorem pi(T:bX K mg ad):aY P w K mg base 6 "reparametered" ["block","name","old","new"] (zJ ad):=by
 refine T.Kn.good (N:=["block","name","old","new","parameters","parameter"]) cj λ l H vs Q E hr hu6 hu nd h=>?_;obtain⟨D,acc,v,b,t,u,y,n,old,new,rfl,hD,hb,ht,hu2,hy,k⟩:=h;have hb0:=hb.same aK;obtain⟨a0,C0,dx0,fs0,rfl,ha0,hC0,hn0,hf0⟩:=hb0.kind T;refine⟨_,(aa (aA ((ra (aq iR (aC aH) (af T.e9) (ax _)) (mi (aq (rH hu6) (aC aH) aQ (ax _))))).pt (ac (ah aH)) ak)
   (aa (bf 4 nd (uq T.g3 qw (aD (dL (own:=[("parameter",5)]) rfl nd (fK (aC aH)) (bp (N:=["block","name","old","new","parameters","parameter"]) (sc:=aB (bg 133)) (by decide +kernel)) (λ _ _ _ _ _=>(aM (i:=5) nd rfl (Or.inl rfl))) (λ _ _ _ _ _=>cS) (λ _ _ _ _ _=>(az (eQ T) hr (ag (pv 5) (dU bJ dF))))))))
   (ac (ah (gv (jw T) hr (ag (af T.e9) (ag aQ (ag jk (ag (az (jf T) hr (ag aH (ag (af T.k9) (dU bJ dF)))) aF))))))))),?_⟩
 refine⟨_,rfl,a0,C0,dx0,fs0,_,rfl,ha0,hC0,hn0,hf0,rfl,_,rfl,au (λ h1=>fg ?_) λ h1=>?_⟩
 ·refine⟨_,rfl,k _ H (ae.refl H) ?_⟩;cases b with
  |prose t=>exact hb
  |chunk c=>
   have hf:c.isFile=true:=by have h1:(!decide (V.int (cK c)=V.int 1))=true:=h1;rw[eV]at h1;simpa using h1
   show aE ad (bS [D] H) _ (.chunk (cI n old new c));unfold cI;rw[Ld (by rw[hf];simp)];exact hb
 cases b with
 |prose t=>exact absurd rfl h1
 |chunk c=>
 have hf:c.isFile=false:=by have h1:¬(!decide (V.int (cK c)=V.int 1))=true:=h1;rw[eV]at h1;simpa using h1
 obtain⟨a,dx,fs,v1,v2,ll,us,pa⟩:=hb0;cases pa.ref;refine qf pa.ins T.a8.cl T.d2 pa.has.b ?_;refine⟨_,rfl,c.name,n,pa.name,ht,_,rfl,au (λ h2=>?_) λ h2=>?_⟩
 ·refine⟨_,rfl,k _ H (ae.refl H) ?_⟩;show aE ad (bS [D] H) _ (.chunk (cI n old new c));unfold cI;have h2:c.name≠n:=by simpa using h2
  rw[Ld (by rw[hf];simpa using h2)];exact hb
 have h2:c.name=n:=by simpa using h2
 have ec:cI n old new c={c with params:=c.params.map (swapName old new),lines:=c.lines.map (inPieces (iB old new))}:=by unfold cI;rw[Le (by rw[hf,h2];simp)]
 obtain⟨pt,pv,rfl,hpt,pp,zp⟩:=id pa.params;have zp:c.params.length<=1000000:=zp;refine qf pa.ins T.a8.cl T.d3 pa.has.c ?_;refine Ah (FP K) (tt:=AU) (σ0:=[]) (RO:=λ H y r=>bN H y (swapName old new r)) (p:=λ _=>true) ⟨λ r s=>r.same s,λ h r=>r.kept (cN.lst h)⟩ pp (λ s=>(hpt.same s).sq) (by rw[ai pp];omega) (λ x b H2 Q' _ r s2 q=>q H2 (ae.refl H2)) (λ x b H2 Q' _ r _ s2 q=>?_) λ Dl H2 ys hDl s2 hys py=>?_
 ·exact⟨_,rfl,_,rfl,_,rfl,x,u,y,b,old,new,rfl,r.same s2,hu2.same s2,hy.same s2,λ z hz=>q z H2 (ae.refl H2) hz⟩
 rw[eD]at py;refine⟨Dl,ys,rfl,SqL.of hys,λ tq ob ntq hob=>?_⟩;have s3:=ae.new (o:=.frz ob (.tup ys)) ntq;have htq:FT (L2.upd H2 tq (.frz ob (.tup ys))) tq ys:=⟨ob,ab,hob⟩;have py3:=eP (Paired.mapP py λ _ _ r=>bN.same r s3);have s03:=s2.trans s3;generalize L2.upd H2 tq (.frz ob (.tup ys))=H3 at s3 htq py3 s03;refine⟨_,rfl,_,rfl,_,rfl,_,rfl,_,rfl,_,c,true,u,y,old,new,rfl,⟨a0,dx,fs,v1,_,ll,us,pa.same s03⟩,hu2.same s03,hy.same s03,λ m ws H4 s4 n4 h4 p4=>?_⟩;intro x2 dx2 hx hdx hne;refine fz (ws:=[.int 1,t,.ref tq,.ref m]) (by rfl) hx hdx hne λ H5 fs5 s5 hH hf5=>⟨rfl,?_⟩;have s05:=(s03.trans s4).trans s5;have hD5:=s05 _ _ hD;refine k _ H5 s05 ?_;show aE ad (bS [D] H5) _ (.chunk (cI n old new c));rw[ec];refine om (c:={c with params:=c.params.map (swapName old new),lines:=c.lines.map (inPieces (iB old new))}) (dx:=dx2) (fs:=fs5) (v1:=t) (v2:=.ref tq) (q:=m) (ws:=ws) ⟨rfl,hH,?_,?_,⟨tq,ys,rfl,(htq.same s4).same s5,bh py3 (ae.kept (s4.trans s5)),?_⟩,s5 _ _ h4,dj p4 (ae.keptI s5),?_⟩ hD5 (ay ((s03.trans s4) _ _ hD) hx).symm (ay (s03 _ _ hD) n4).symm
 ·have eK:cK {c with params:=c.params.map (swapName old new),lines:=c.lines.map (inPieces (iB old new))}=1:=by
   show(if c.isFile=true then(2:Int) else 1)=1;rw[Ld (by rw[hf];decide)]
  rw[eK];exact hf5
 ·show bN H5 t c.name;rw[h2];exact ht.same s05
 ·show(c.params.map _).length<=gS;rw[Ls];exact zp
 ·show(c.lines.map _).length<=gS;rw[Ls];exact pa.lim
open Valita (Out doRefile doRename doResettle held isName isPath isShort refiled renamed resettled settingCount)
theorem cg.keptD{p:Addr}{H H':Hp}{C dx:Addr}{fs:List (Str×V)}(s:cg p H H')(h:H p=some (.ins C dx fs)):cN H H':=λ a o t e=>s.at (λ q=>by rw[q,h]at e;cases e;cases t) e
theorem lb{D:Addr}{H H':Hp}(s:ae H H')(n:H D=none):ae H (bS [D] H'):=λ b o e=>by rw[bE (by simpa using ay e n)];exact s b o e
theorem dA(l:List Text)(x:Text):l.contains x=decide (x∈l):=by
 by_cases h:x∈l
 ·rw[Ll h];simpa using h
 ·rw[Mn h];simpa using h
theorem qX(a b:Text):(a != b)=!decide (b=a):=by
 by_cases h:b=a
 ·subst h;simp
 ·rw[Mn h];have:a≠b:=λ q=>h q.symm;simpa using this
def we(ad:Ad)(f:Document->Text->Text->Out):Sp:=λ vs H Q _=>∃p u y d old new,vs=[.ref p,u,y]/\cH ad H p d/\bN H u old/\bN H y new/\fT ad H p d (f d old new) Q
theorem BX(T:bX K mg ad):aY P w K mg base 14 "rename" ["document","old","new"] (we ad (λ d old new=>doRename ⟨d⟩ old new)):=by
 refine T.Kk.good (N:=["document","old","new","names","block"]) cj λ l H vs Q E hr hu6 hu nd h=>?_;obtain⟨p,u,y,d,old,new,rfl,⟨dx,fs,bl,D⟩,hu2,hy,k⟩:=h;have hfit:=D.fit;have dz:d.length<=20000:=Ln (bM d) D.fit;have hout:doRename ⟨d⟩ old new=if(!decide (old∈namesOf d))=true then .error 3 else if isName new=false then .error 1 else if(!decide (new=old)&&decide (new∈namesOf d))=true then .error 5 else held (renamed old new d) [(partsOf d false old).length,(usesOf d old).length]:=by unfold doRename;rw[dA,dA,qX];cases decide (old∈namesOf d)<;>rfl
 have k:fT ad H p d (doRename ⟨d⟩ old new) Q:=k;refine⟨_,(aa (bf 3 nd (az (iE T) hr (aD (aC aH))))
   (aa (aA (aq (iW hu6) aQ dF (by with_unfolding_all rfl)) (ac (ah (aG (aD (af T.i7))))) ak)
   (aa (aA (bO (bi (az (rP T) hr (aD bJ)))) (ac (ah (aG (aD (af T.i6))))) ak)
   (aa (aA (bi (az (iH T) hr (ag bJ (dU aQ dF)))) (ac (ah (aG (aD (af T.j8))))) ak)
   (aa (aA (bO (bi (mZ (df T) hr aH (aD (dL (own:=[("block",4)]) rfl nd (bU (aC aH)) (bp (N:=["document","old","new","names","block"]) (sc:=aB (bg 130)) (by decide +kernel)) (λ _ _ _ _ _=>(aM (i:=4) nd rfl (Or.inl rfl))) (λ _ _ _ _ _=>cS) (λ _ _ _ _ _=>(az (zH T) hr (ag jk (dU aQ bJ))))))))) (ac (ah (aG (aD (af T.g8))))) ak)
   (ac (ah (aG (dU (bR T.a7 aj (aD (az (iF T) hr (ag (aC aH) (dU (af T.e9) bJ))))) (bR T.a7 aj (aD (az (mf T) hr (dU (aC aH) bJ))))))))))))),?_⟩
 refine qf D.ins T.be.cl T.c5 D.has.a ?_;refine⟨bl,d,rfl,D.doc.same aK,D.wf,D.fit,λ m us H1 s1 n1 h1 p1=>?_⟩;refine⟨_,rfl,_,rfl,m,us,old,namesOf d,rfl,.inl h1,p1,hu2.same s1,_,rfl,au (λ q1=>?_) λ q1=>?_⟩
 ·refine⟨by decide,λ l hl=>k.no ⟨dx,fs,bl,D⟩ ?_ s1 rfl hl⟩;have q1:(!decide (old∈namesOf d))=true:=q1;rw[hout,Le q1]
 have q1:¬(!decide (old∈namesOf d))=true:=q1;rw[Ld q1]at hout;refine⟨_,rfl,y,new,rfl,hy.same s1,λ H2 s2=>⟨_,rfl,au (λ q2=>?_) λ q2=>?_⟩⟩
 ·refine⟨by decide,λ l hl=>k.no ⟨dx,fs,bl,D⟩ ?_ (s1.trans s2) rfl hl⟩;rw[hout,Le (by simpa using q2)]
 have hn:isName new=true:=by simpa using q2
 rw[Ld (by rw[hn];decide)]at hout;have s02:=s1.trans s2;refine⟨_,rfl,_,rfl,_,rfl,y,u,m,us,new,old,namesOf d,rfl,hy.same s02,hu2.same s02,.inl (s2 _ _ h1),bh p1 (ae.kept s2),_,rfl,au (λ q3=>?_) λ q3=>?_⟩
 ·refine⟨by decide,λ l hl=>k.no ⟨dx,fs,bl,D⟩ ?_ s02 rfl hl⟩;rw[hout,Le q3]
 rw[Ld q3]at hout;have hnew:new=old\/new∉namesOf d:=by
  by_cases q:new=old
  ·exact .inl q
  ·refine .inr λ q'=>q3 ?_;rw[Mn q,Ll q'];rfl
 have D2:=D.same s02;obtain⟨ws,hb,pb,zb⟩:=D2.doc;have hb0:=aK _ _ hb;have pb0:=aN pb aK;refine⟨_,rfl,p,dx,fs,rfl,D2.ins,D2.only _ (by decide +kernel),?_⟩;refine qf D2.ins T.be.cl T.c5 D2.has.a ?_;refine nL (λ xs H3 Q3=>sw ad (.ref p::xs) H3 Q3 _) (σ0:=[]) (RO:=λ Dl H y b=>aE ad (bS [Dl] H) y (gq (dW old new) b)) (λ r s=>aE.same r (aU s)) (λ r=>by rw[cf (.head _)];exact r) pb0 hb0 (by rw[ai pb0];omega) (λ Dl x b H3 Q' acc mb rb hDl hDa s3 q=>?_) λ Dl H3 ys hDl s3 hys py=>?_
 ·exact⟨_,rfl,_,rfl,_,rfl,Dl,acc,x,b,u,y,old,new,rfl,hDa,aE.same rb (lb s3 hDl),hu2.same (s02.trans s3),hy.same (s02.trans s3),λ z H4 s4 hz=>q z H4 s4 hz⟩
 have D3:=D2.same s3;have s03:=s02.trans s3;have tm:=DC (old:=old) hn;have hg:=tm.grow d;have e0:renamed old new d=inChunks (dW old new) d:=by rw[mF]
 have cp:=BL hnew;have cu:=DG hnew;rw[e0]at hout cp cu;have hw':=tm.wfDoc D.wf;refine⟨p,Dl,d,inChunks (dW old new) d,rfl,⟨dx,fs,bl,D3⟩,(iI py hys (by omega)).offD T D3.ins,hw',(show _<=1000000 by omega),λ hF H7 s7=>?_,λ hT H7 s7 D7=>?_⟩
 ·refine⟨_,rfl,fg ⟨by decide,λ l hl=>k.no ⟨dx,fs,bl,D⟩ ?_ (s03.trans s7) rfl hl⟩⟩;rw[hout,lE hF]
 rw[lD hT]at hout;obtain⟨dx7,fs7,bl7,D7⟩:=D7;have hy7:bN H7 y new:=(hy.same s03).kept (s7.keptD D3.ins);have uz:(usesOf (inChunks (dW old new) d) new).length<=100000:=by rw[kY];have h1:=Pg (p:=fZ new) (l:=dZ (inChunks (dW old new) d));have h2:=jK hw';have h3:=D7.fit;omega
 refine⟨_,rfl,fH ?_⟩;refine qf D7.ins T.be.cl T.c5 D7.has.a ?_;refine⟨_,rfl,H7,bl7,_,y,new,false,rfl,D7.doc.same aK,ae.refl H7,hy7,λ m8 us8 H8 s8 n8 h8 p8=>?_⟩;refine ql (.inl (SqL.of h8)) ?_;have D8:=D7.same s8;refine qf D8.ins T.be.cl T.c5 D8.has.a ?_;refine⟨_,rfl,bl7,_,y,new,rfl,D8.doc.same aK,hy7.same s8,uz,λ m9 us9 H9 s9 n9 h9 p9=>?_⟩;refine ql (.inl (SqL.of h9)) ⟨(by show 2<=sizeLine;decide),λ l hl=>?_⟩;refine k.yes (d':=inChunks (dW old new) d) (ns:=[(partsOf d false old).length,(usesOf d old).length]) hout (((ae.beside s03).trans s7).trans (ae.beside (s8.trans s9))) ⟨dx7,fs7,bl7,D8.same s9⟩ ?_ hl;have l8:=ai p8;rw[jJ,cp]at l8;have l9:=ai p9;rw[cu]at l9;rw[l8,l9];rfl
theorem BY(T:bX K mg ad):aY P w K mg base 14 "refile" ["document","old","new"] (we ad (λ d old new=>doRefile ⟨d⟩ old new)):=by
 refine T.Km.good (N:=["document","old","new","files","block"]) cj λ l H vs Q E hr hu6 hu nd h=>?_;obtain⟨p,u,y,d,old,new,rfl,⟨dx,fs,bl,D⟩,hu2,hy,k⟩:=h;have hfit:=D.fit;have dz:d.length<=20000:=Ln (bM d) D.fit;have hout:doRefile ⟨d⟩ old new=if(!decide (old∈filesOf d))=true then .error 3 else if isPath new=false then .error 1 else if(!decide (new=old)&&decide (new∈filesOf d))=true then .error 5 else held (refiled old new d) [(partsOf d true old).length]:=by unfold doRefile;rw[dA,dA,qX];cases decide (old∈filesOf d)<;>rfl
 have k:fT ad H p d (doRefile ⟨d⟩ old new) Q:=k;refine⟨_,(aa (bf 3 nd (az (iD T) hr (aD (aC aH))))
   (aa (aA (aq (iW hu6) aQ dF (by with_unfolding_all rfl)) (ac (ah (aG (aD (af T.i7))))) ak)
   (aa (aA (bO (bi (az (rQ T) hr (aD bJ)))) (ac (ah (aG (aD (af T.i6))))) ak)
   (aa (aA (bi (az (iH T) hr (ag bJ (dU aQ dF)))) (ac (ah (aG (aD (af T.j8))))) ak)
   (aa (aA (bO (bi (mZ (df T) hr aH (aD (dL (own:=[("block",4)]) rfl nd (bU (aC aH)) (bp (N:=["document","old","new","files","block"]) (sc:=aB (bg 132)) (by decide +kernel)) (λ _ _ _ _ _=>(aM (i:=4) nd rfl (Or.inl rfl))) (λ _ _ _ _ _=>cS) (λ _ _ _ _ _=>(az (zI T) hr (ag jk (dU aQ bJ))))))))) (ac (ah (aG (aD (af T.g8))))) ak)
   (ac (ah (aG (aD (bR T.a7 aj (aD (az (iF T) hr (ag (aC aH) (dU (af T.g7) bJ)))))))))))))),?_⟩
 refine qf D.ins T.be.cl T.c5 D.has.a ?_;refine⟨bl,d,rfl,D.doc.same aK,D.wf,D.fit,λ m us H1 s1 n1 h1 p1=>?_⟩;refine⟨_,rfl,_,rfl,m,us,old,filesOf d,rfl,.inl h1,p1,hu2.same s1,_,rfl,au (λ q1=>?_) λ q1=>?_⟩
 ·refine⟨by decide,λ l hl=>k.no ⟨dx,fs,bl,D⟩ ?_ s1 rfl hl⟩;have q1:(!decide (old∈filesOf d))=true:=q1;rw[hout,Le q1]
 have q1:¬(!decide (old∈filesOf d))=true:=q1;rw[Ld q1]at hout;refine⟨_,rfl,y,new,rfl,hy.same s1,λ H2 s2=>⟨_,rfl,au (λ q2=>?_) λ q2=>?_⟩⟩
 ·refine⟨by decide,λ l hl=>k.no ⟨dx,fs,bl,D⟩ ?_ (s1.trans s2) rfl hl⟩;rw[hout,Le (by simpa using q2)]
 have hn:isPath new=true:=by simpa using q2
 rw[Ld (by rw[hn];decide)]at hout;have s02:=s1.trans s2;refine⟨_,rfl,_,rfl,_,rfl,y,u,m,us,new,old,filesOf d,rfl,hy.same s02,hu2.same s02,.inl (s2 _ _ h1),bh p1 (ae.kept s2),_,rfl,au (λ q3=>?_) λ q3=>?_⟩
 ·refine⟨by decide,λ l hl=>k.no ⟨dx,fs,bl,D⟩ ?_ s02 rfl hl⟩;rw[hout,Le q3]
 rw[Ld q3]at hout;have hnew:new=old\/new∉filesOf d:=by
  by_cases q:new=old
  ·exact .inl q
  ·refine .inr λ q'=>q3 ?_;rw[Mn q,Ll q'];rfl
 have D2:=D.same s02;obtain⟨ws,hb,pb,zb⟩:=D2.doc;have hb0:=aK _ _ hb;have pb0:=aN pb aK;refine⟨_,rfl,p,dx,fs,rfl,D2.ins,D2.only _ (by decide +kernel),?_⟩;refine qf D2.ins T.be.cl T.c5 D2.has.a ?_;refine nL (λ xs H3 Q3=>sw ad (.ref p::xs) H3 Q3 _) (σ0:=[]) (RO:=λ Dl H y b=>aE ad (bS [Dl] H) y (gq (ck old new) b)) (λ r s=>aE.same r (aU s)) (λ r=>by rw[cf (.head _)];exact r) pb0 hb0 (by rw[ai pb0];omega) (λ Dl x b H3 Q' acc mb rb hDl hDa s3 q=>?_) λ Dl H3 ys hDl s3 hys py=>?_
 ·exact⟨_,rfl,_,rfl,_,rfl,Dl,acc,x,b,u,y,old,new,rfl,hDa,aE.same rb (lb s3 hDl),hu2.same (s02.trans s3),hy.same (s02.trans s3),λ z H4 s4 hz=>q z H4 s4 hz⟩
 have D3:=D2.same s3;have s03:=s02.trans s3;have tm:=DD (old:=old) hn;have hg:=tm.grow d;have e0:refiled old new d=inChunks (ck old new) d:=by rw[sK]
 have cp:=BM hnew;rw[e0]at hout cp;have hw':=tm.wfDoc D.wf;refine⟨p,Dl,d,inChunks (ck old new) d,rfl,⟨dx,fs,bl,D3⟩,(iI py hys (by omega)).offD T D3.ins,hw',(show _<=1000000 by omega),λ hF H7 s7=>?_,λ hT H7 s7 D7=>?_⟩
 ·refine⟨_,rfl,fg ⟨by decide,λ l hl=>k.no ⟨dx,fs,bl,D⟩ ?_ (s03.trans s7) rfl hl⟩⟩;rw[hout,lE hF]
 rw[lD hT]at hout;obtain⟨dx7,fs7,bl7,D7⟩:=D7;have hy7:bN H7 y new:=(hy.same s03).kept (s7.keptD D3.ins);refine⟨_,rfl,fH ?_⟩;refine qf D7.ins T.be.cl T.c5 D7.has.a ?_;refine⟨_,rfl,H7,bl7,_,y,new,true,rfl,D7.doc.same aK,ae.refl H7,hy7,λ m8 us8 H8 s8 n8 h8 p8=>?_⟩;refine ql (.inl (SqL.of h8)) ⟨(by show 1<=sizeLine;decide),λ l hl=>?_⟩;refine k.yes (d':=inChunks (ck old new) d) (ns:=[(partsOf d true old).length]) hout (((ae.beside s03).trans s7).trans (ae.beside s8)) ⟨dx7,fs7,bl7,D7.same s8⟩ ?_ hl;have l8:=ai p8;rw[jJ,cp]at l8;rw[l8];rfl
theorem yd(T:bX K mg ad):aY P w K mg base 14 "resettle" ["document","old","new"] (we ad (λ d old new=>doResettle ⟨d⟩ old new)):=by
 refine T.Kr.good (N:=["document","old","new","settings","block","line"]) cj λ l H vs Q E hr hu6 hu nd h=>?_;obtain⟨p,u,y,d,old,new,rfl,⟨dx,fs,bl,D⟩,hu2,hy,k⟩:=h;have hfit:=D.fit;have dz:d.length<=20000:=Ln (bM d) D.fit;have hout:doResettle ⟨d⟩ old new=if(!decide (old∈settingsOf d))=true then .error 3 else if isShort new=false then .error 1 else if(!decide (new=old)&&decide (new∈settingsOf d))=true then .error 5 else held (resettled old new d) [settingCount d old]:=by unfold doResettle;rw[dA,dA,qX];cases decide (old∈settingsOf d)<;>rfl
 have k:fT ad H p d (doResettle ⟨d⟩ old new) Q:=k;refine⟨_,(aa (bf 3 nd (az (gp T) hr (aD (aC aH))))
   (aa (aA (aq (iW hu6) aQ dF (by with_unfolding_all rfl)) (ac (ah (aG (aD (af T.i7))))) ak)
   (aa (aA (bO (bi (az (dG T) hr (aD bJ)))) (ac (ah (aG (aD (af T.i6))))) ak)
   (aa (aA (bi (az (iH T) hr (ag bJ (dU aQ dF)))) (ac (ah (aG (aD (af T.j8))))) ak)
   (aa (aA (bO (bi (mZ (df T) hr aH (aD (dL (own:=[("block",4)]) rfl nd (bU (aC aH)) (bp (N:=["document","old","new","settings","block","line"]) (sc:=aB (bg 137)) (by decide +kernel)) (λ _ _ _ _ _=>(aM (i:=4) nd rfl (Or.inl rfl))) (λ _ _ _ _ _=>cS) (λ _ _ _ _ _=>(az (wd T) hr (ag jk (dU aQ bJ))))))))) (ac (ah (aG (aD (af T.g8))))) ak)
   (ac (ah (aG (aD (bR T.a7 tW (aD (dL (own:=[("line",5)]) rfl nd (bU (az (oh T) hr (aD (aC aH)))) (bp (N:=["document","old","new","settings","block","line"]) (sc:=aB (bg 137)) (by decide +kernel)) (λ _ _ _ _ _=>(aM (i:=5) nd rfl (Or.inl rfl))) (λ _ _ _ _ _=>jm (aq (iJ hu6) (jn (K:=K) rfl (pv 5) (by rfl)) bJ (ax _))) (λ _ _ _ _ _=>(pv 5)))))))))))))),?_⟩
 refine qf D.ins T.be.cl T.c5 D.has.a ?_;refine⟨bl,d,rfl,D.doc.same aK,D.wf,D.fit,λ m us H1 s1 n1 h1 p1=>?_⟩;refine⟨_,rfl,_,rfl,m,us,old,settingsOf d,rfl,.inl h1,p1,hu2.same s1,_,rfl,au (λ q1=>?_) λ q1=>?_⟩
 ·refine⟨by decide,λ l hl=>k.no ⟨dx,fs,bl,D⟩ ?_ s1 rfl hl⟩;have q1:(!decide (old∈settingsOf d))=true:=q1;rw[hout,Le q1]
 have q1:¬(!decide (old∈settingsOf d))=true:=q1;rw[Ld q1]at hout;refine⟨_,rfl,y,new,rfl,hy.same s1,λ H2 s2=>⟨_,rfl,au (λ q2=>?_) λ q2=>?_⟩⟩
 ·refine⟨by decide,λ l hl=>k.no ⟨dx,fs,bl,D⟩ ?_ (s1.trans s2) rfl hl⟩;rw[hout,Le (by simpa using q2)]
 have hn:isShort new=true:=by simpa using q2
 rw[Ld (by rw[hn];decide)]at hout;have s02:=s1.trans s2;refine⟨_,rfl,_,rfl,_,rfl,y,u,m,us,new,old,settingsOf d,rfl,hy.same s02,hu2.same s02,.inl (s2 _ _ h1),bh p1 (ae.kept s2),_,rfl,au (λ q3=>?_) λ q3=>?_⟩
 ·refine⟨by decide,λ l hl=>k.no ⟨dx,fs,bl,D⟩ ?_ s02 rfl hl⟩;rw[hout,Le q3]
 rw[Ld q3]at hout;have hnew:new=old\/new∉settingsOf d:=by
  by_cases q:new=old
  ·exact .inl q
  ·refine .inr λ q'=>q3 ?_;rw[Mn q,Ll q'];rfl
 have D2:=D.same s02;obtain⟨ws,hb,pb,zb⟩:=D2.doc;have hb0:=aK _ _ hb;have pb0:=aN pb aK;refine⟨_,rfl,p,dx,fs,rfl,D2.ins,D2.only _ (by decide +kernel),?_⟩;refine qf D2.ins T.be.cl T.c5 D2.has.a ?_;refine nL (λ xs H3 Q3=>sw ad (.ref p::xs) H3 Q3 _) (σ0:=[]) (RO:=λ Dl H y b=>aE ad (bS [Dl] H) y (gq (fP old new) b)) (λ r s=>aE.same r (aU s)) (λ r=>by rw[cf (.head _)];exact r) pb0 hb0 (by rw[ai pb0];omega) (λ Dl x b H3 Q' acc mb rb hDl hDa s3 q=>?_) λ Dl H3 ys hDl s3 hys py=>?_
 ·exact⟨_,rfl,_,rfl,_,rfl,Dl,acc,x,b,u,y,old,new,rfl,hDa,aE.same rb (lb s3 hDl),hu2.same (s02.trans s3),hy.same (s02.trans s3),λ z H4 s4 hz=>q z H4 s4 hz⟩
 have D3:=D2.same s3;have s03:=s02.trans s3;have tm:=DF (old:=old) hn;have hg:=tm.grow d;have e0:resettled old new d=inChunks (fP old new) d:=by rw[oe]
 have cp:=BO hnew;rw[e0]at hout cp;have hw':=tm.wfDoc D.wf;refine⟨p,Dl,d,inChunks (fP old new) d,rfl,⟨dx,fs,bl,D3⟩,(iI py hys (by omega)).offD T D3.ins,hw',(show _<=1000000 by omega),λ hF H7 s7=>?_,λ hT H7 s7 D7=>?_⟩
 ·refine⟨_,rfl,fg ⟨by decide,λ l hl=>k.no ⟨dx,fs,bl,D⟩ ?_ (s03.trans s7) rfl hl⟩⟩;rw[hout,lE hF]
 rw[lD hT]at hout;obtain⟨dx7,fs7,bl7,D7⟩:=D7;have hy7:bN H7 y new:=(hy.same s03).kept (s7.keptD D3.ins);have iz:=uX (inChunks (fP old new) d);have hfit7:=D7.fit;refine⟨_,rfl,fH ?_⟩;refine qf D7.ins T.be.cl T.c5 D7.has.a ?_;refine⟨bl7,_,rfl,D7.doc.same aK,(show _<=1000000 by omega),λ m8 us8 H8 s8 n8 h8 p8=>?_⟩;have lu8:=ai p8;refine im (Dj K) (RO:=bW ad) (p:=λ l=>decide (lS l=new)) (uC ad) p8 h8 (by omega) (λ x b H9 Q' _ r s9 q=>?_) (λ x b H9 Q' _ r _ s9 q=>?_) λ D9 H9 ys n9 s9 h9 p9=>?_
 ·obtain⟨b3,dx3,fs3,u1,u2,rfl,hb3,hf3,_,r3⟩:=r.kept (ae.keptI s9);refine qf hb3 T.c7.cl T.g9 hf3.c ?_;exact⟨_,rfl,lS b,new,r3,hy7.same (s8.trans s9),_,rfl,q H9 (ae.refl H9)⟩
 ·exact⟨_,rfl,q x H9 (ae.refl H9) (r.kept (ae.keptI s9))⟩
 refine ql (.inl (SqL.of h9)) ⟨(by show 1<=sizeLine;decide),λ l hl=>?_⟩;refine k.yes (d':=inChunks (fP old new) d) (ns:=[settingCount d old]) hout (((ae.beside s03).trans s7).trans (ae.beside (s8.trans s9))) ⟨dx7,fs7,bl7,D7.same (s8.trans s9)⟩ ?_ hl;have l9:=ai p9;rw[<-BN,cp]at l9;rw[l9];rfl
open Valita (doReparam paramsOf reparamed)
def BZ(ad:Ad):Sp:=λ vs H Q _=>∃p t u y d n old new,vs=[.ref p,t,u,y]/\cH ad H p d/\bN H t n/\bN H u old/\bN H y new/\fT ad H p d (doReparam ⟨d⟩ n old new) Q
theorem zK(T:bX K mg ad):aY P w K mg base 14 "reparam" ["document","name","old","new"] (BZ ad):=by
 refine T.Ko.good (N:=["document","name","old","new","parts","parameters","block"]) cj λ l H vs Q E hr hu6 hu nd h=>?_;obtain⟨p,t,u,y,d,n,old,new,rfl,⟨dx,fs,bl,D⟩,ht,hu2,hy,k⟩:=h;have hfit:=D.fit;have dz:d.length<=20000:=Ln (bM d) D.fit;refine⟨_,(aa (bf 4 nd (az (iF T) hr (ag (aC aH) (dU (af T.e9) aQ))))
   (aa (aA (aq bo (bR T.a7 aj (aD jk)) al (ax _)) (ac (ah (aG (aD (af T.i7))))) ak)
   (aa (bf 5 nd (aC (bv bb jk al (λ _ _=>rfl))))
   (aa (aA (aq (iW hu6) bJ (pv 5) (by with_unfolding_all rfl)) (ac (ah (aG (aD (af T.u7))))) ak)
   (aa (aA (bO (bi (az (dG T) hr (aD dF)))) (ac (ah (aG (aD (af T.i6))))) ak)
   (aa (aA (bi (az (iH T) hr (ag dF (dU bJ (pv 5))))) (ac (ah (aG (aD (af T.j8))))) ak)
   (aa (aA (bO (bi (mZ (df T) hr aH (aD (dL (own:=[("block",6)]) rfl nd (bU (aC aH)) (bp (N:=["document","name","old","new","parts","parameters","block"]) (sc:=aB (bg 134)) (by decide +kernel)) (λ _ _ _ _ _=>(aM (i:=6) nd rfl (Or.inl rfl))) (λ _ _ _ _ _=>cS) (λ _ _ _ _ _=>(az (pi T) hr (ag (pv 6) (ag aQ (dU bJ dF)))))))))) (ac (ah (aG (aD (af T.g8))))) ak)
   (ac (ah (aG (aD (bR T.a7 aj (aD jk))))))))))))),?_⟩
 refine qf D.ins T.be.cl T.c5 D.has.a ?_;refine⟨_,rfl,H,bl,d,t,n,false,rfl,D.doc.same aK,ae.refl H,ht,λ m us H1 s1 n1 h1 p1=>?_⟩;have lp:=ai p1;have hcount:=jJ d false n;have hpar:=qa d n;refine⟨_,rfl,ql (.inl (SqL.of h1)) ⟨rfl,_,rfl,au (λ q1=>?_) λ q1=>?_⟩⟩
 ·have q1:=Lh q1;injection q1 with q1
  have e:((chunksOf d).filter λ c=>c.isFile==false&&c.name==n)=[]:=Oe.mp (by omega);rw[e]at hpar;refine⟨by decide,λ l hl=>k.no ⟨dx,fs,bl,D⟩ ?_ s1 rfl hl⟩;unfold doReparam;simp only[hpar];rfl
 cases hcs:((chunksOf d).filter λ c=>c.isFile==false&&c.name==n) with
 |nil=>rw[hcs]at lp;exact absurd (Ll (by rw[lp];rfl)) q1
 |cons c cs=>
 rw[hcs]at p1 hpar lp hcount;obtain⟨x0,us',rfl,rc⟩:∃x0 us',us=x0::us'/\gP ad H x0 c:=by
  cases p1 with
  |cons r p=>exact⟨_,_,rfl,r⟩
 have hpar:paramsOf d n=some c.params:=hpar;obtain⟨a,dxa,fsa,v1,v2,ll,ls,pa⟩:=rc;obtain rfl:=pa.ref;have hout:doReparam ⟨d⟩ n old new=if(!decide (old∈c.params))=true then .error 4 else if isShort new=false then .error 1 else if(!decide (new=old)&&decide (new∈c.params))=true then .error 5 else held (reparamed n old new d) [(partsOf d false n).length]:=by unfold doReparam;simp only[hpar];rw[dA,dA,qX];cases decide (old∈c.params)<;>rfl
 have pH:=pa.same s1;obtain⟨pt,pvs,rfl,hpt,pp,zp⟩:=id pH.params;refine⟨_,rfl,qi (SqL.of h1) (aT (j:=0) (show(V.ref a::us')[0]?=some (V.ref a) from rfl)) ⟨a,_,dxa,fsa,_,rfl,pH.ins,T.a8.cl,T.d3,pH.has.c,?_⟩⟩;refine⟨_,rfl,_,rfl,pt,pvs,old,c.params,rfl,.inr hpt,pp,hu2.same s1,_,rfl,au (λ q1=>?_) λ q1=>?_⟩
 ·refine⟨by decide,λ l hl=>k.no ⟨dx,fs,bl,D⟩ ?_ s1 rfl hl⟩;have q1:(!decide (old∈c.params))=true:=q1;rw[hout,Le q1]
 have q1:¬(!decide (old∈c.params))=true:=q1;rw[Ld q1]at hout;refine⟨_,rfl,y,new,rfl,hy.same s1,λ H2 s2=>⟨_,rfl,au (λ q2=>?_) λ q2=>?_⟩⟩
 ·refine⟨by decide,λ l hl=>k.no ⟨dx,fs,bl,D⟩ ?_ (s1.trans s2) rfl hl⟩;rw[hout,Le (by simpa using q2)]
 have hn:isShort new=true:=by simpa using q2
 rw[Ld (by rw[hn];decide)]at hout;have s02:=s1.trans s2;refine⟨_,rfl,_,rfl,_,rfl,y,u,pt,pvs,new,old,c.params,rfl,hy.same s02,hu2.same s02,.inr (hpt.same s2),bh pp (ae.kept s2),_,rfl,au (λ q3=>?_) λ q3=>?_⟩
 ·refine⟨by decide,λ l hl=>k.no ⟨dx,fs,bl,D⟩ ?_ s02 rfl hl⟩;rw[hout,Le q3]
 rw[Ld q3]at hout;have D2:=D.same s02;obtain⟨ws,hb,pb,zb⟩:=D2.doc;have hb0:=aK _ _ hb;have pb0:=aN pb aK;refine⟨_,rfl,p,dx,fs,rfl,D2.ins,D2.only _ (by decide +kernel),?_⟩;refine qf D2.ins T.be.cl T.c5 D2.has.a ?_;refine nL (λ xs H3 Q3=>sw ad (.ref p::xs) H3 Q3 _) (σ0:=[]) (RO:=λ Dl H y b=>aE ad (bS [Dl] H) y (gq (cI n old new) b)) (λ r s=>aE.same r (aU s)) (λ r=>by rw[cf (.head _)];exact r) pb0 hb0 (by rw[ai pb0];omega) (λ Dl x b H3 Q' acc mb rb hDl hDa s3 q=>?_) λ Dl H3 ys hDl s3 hys py=>?_
 ·exact⟨_,rfl,_,rfl,_,rfl,_,rfl,Dl,acc,x,b,t,u,y,n,old,new,rfl,hDa,aE.same rb (lb s3 hDl),ht.same (s02.trans s3),hu2.same (s02.trans s3),hy.same (s02.trans s3),λ z H4 s4 hz=>q z H4 s4 hz⟩
 have D3:=D2.same s3;have s03:=s02.trans s3;have tm:=DE (n:=n) (old:=old) hn;have hg:=tm.grow d;have e0:reparamed n old new d=inChunks (cI n old new) d:=by rw[vU]
 rw[e0]at hout;have hw':=tm.wfDoc D.wf;refine⟨p,Dl,d,inChunks (cI n old new) d,rfl,⟨dx,fs,bl,D3⟩,(iI py hys (by omega)).offD T D3.ins,hw',(show _<=1000000 by omega),λ hF H7 s7=>?_,λ hT H7 s7 D7=>?_⟩
 ·refine⟨_,rfl,fg ⟨by decide,λ l hl=>k.no ⟨dx,fs,bl,D⟩ ?_ (s03.trans s7) rfl hl⟩⟩;rw[hout,lE hF]
 rw[lD hT]at hout;have h7:=s7.at (ay D.ins n1).symm (s3 _ _ (s2 _ _ h1));refine⟨_,rfl,fH ?_⟩;refine⟨_,rfl,ql (.inl (SqL.of h7)) ⟨(by show 1<=sizeLine;decide),λ l hl=>?_⟩⟩;refine k.yes (d':=inChunks (cI n old new) d) (ns:=[(partsOf d false n).length]) hout ((ae.beside s03).trans s7) D7 ?_ hl;rw[lp,hcount];rfl
theorem IS{kk:Int}(h:(!zW (V.int kk) [V.int 0,V.int 1])=true):Valita.upTo kk 1=false:=by
 have h:(!((0==kk)||((1==kk)||false)))=true:=h;simp only[Bool.or_false,Ou,Bool.or_eq_false_iff,Ms]at h;unfold Valita.upTo;rw[Nt];rcases Int.lt_or_le kk 0 with q |q
 ·exact .inl (Mn (by omega))
 ·exact .inr (Mn (by have:=h.1;have:=h.2;omega))
theorem HZ{kk:Int}(h:¬(!zW (V.int kk) [V.int 0,V.int 1])=true):kk=0\/kk=1:=by have h:¬(!((0==kk)||((1==kk)||false)))=true:=h;simp only[Bool.or_false,Ou,Bool.or_eq_false_iff,Ms]at h;omega
def DU(ad:Ad):Sp:=λ vs H Q _=>∃p kk t d n,vs=[.ref p,.int kk,t]/\cH ad H p d/\bN H t n/\fT ad H p d (Valita.does ⟨d⟩ (.parts kk n)) Q
theorem DV(T:bX K mg ad):aY P w K mg base 3 "parts" ["document","of_file","name"] (DU ad):=by
 refine T.Ky.good (N:=["document","of_file","name","kind"]) cj λ l H vs Q E hr hu6 hu nd h=>?_;obtain⟨p,kk,t,d,n,rfl,⟨dx,fs,bl,D⟩,ht,k⟩:=h;have hfit:=D.fit;have dz:d.length<=20000:=Ln (bM d) D.fit;have hout:Valita.does ⟨d⟩ (.parts kk n)=if Valita.upTo kk 1=false then .error 2 else Valita.tell ⟨d⟩ ((partsOf d (kk==1) n).length::partsOf d (kk==1) n):=rfl
 refine⟨_,(aa (aA (aq mS aQ (bx (dU al al)) (by with_unfolding_all rfl)) (ac (ah (aG (aD (af T.g5))))) ak)
   (aa (bf 3 nd (fJ (aq bo aQ al (ax _)) (af T.g7) (af T.e9)))
   (ac (ah (az (fk T) hr (aD (az (tu T) hr (ag (aC aH) (dU dF bJ))))))))),?_⟩
 refine⟨_,rfl,(by show 2<=sizeLine;decide),λ tp ntp=>⟨tp,_,rfl,.inr (ci.of ab),rfl,rfl,_,rfl,au (λ q1=>?_) λ q1=>?_⟩⟩
 ·have s1:=ae.new (o:=.tup [.int 0,.int 1]) ntp;refine⟨by decide,λ l hl=>k.no ⟨dx,fs,bl,D⟩ ?_ s1 rfl hl⟩;rw[hout,Le (IS q1)]
 have s1:=ae.new (o:=.tup [.int 0,.int 1]) ntp;have hk:kk=0\/kk=1:=HZ q1;have hup:Valita.upTo kk 1=true:=by rcases hk with rfl |rfl<;>rfl
 rw[Ld (by rw[hup];decide)]at hout;rw[hout]at k;have D1:=D.same s1;have ht1:=ht.same s1;generalize L2.upd H tp (.tup [.int 0,.int 1])=H1 at s1 D1 ht1;have zp:∀f:Bool,(cM (partsOf d f n)).length<=100000:=λ f=>by rw[cw,fC];have:=Pg (p:=iP f n) (l:=d);omega
 rcases hk with rfl |rfl
 ·refine⟨_,rfl,rfl,_,rfl,au (λ q=>absurd q (by decide)) λ _=>?_⟩;refine qf D1.ins T.be.cl T.c5 D1.has.a ?_;refine⟨_,rfl,_,rfl,bl,d,t,n,false,rfl,D1.doc.same aK,ht1,λ m H2 s2 n2 h2=>?_⟩;refine ql (.inl h2) ⟨(show _<=1000000 by have:=zp false;omega),λ m3 H3 s3 n3 h3=>k.told ⟨dx,fs,bl,D⟩ ((s1.trans s2).trans s3) ((s1.trans s2).free n3) ?_⟩;rw[h3,cw];rfl
 ·refine⟨_,rfl,rfl,_,rfl,au (λ _=>?_) λ q=>absurd (by decide) q⟩;refine qf D1.ins T.be.cl T.c5 D1.has.a ?_;refine⟨_,rfl,_,rfl,bl,d,t,n,true,rfl,D1.doc.same aK,ht1,λ m H2 s2 n2 h2=>?_⟩;refine ql (.inl h2) ⟨(show _<=1000000 by have:=zp true;omega),λ m3 H3 s3 n3 h3=>k.told ⟨dx,fs,bl,D⟩ ((s1.trans s2).trans s3) ((s1.trans s2).free n3) ?_⟩;rw[h3,cw];rfl
def tw(x:Nat×Nat×Nat):List Nat:=[x.1,x.2.1,x.2.2]
def GW(ad:Ad):Sp:=λ vs H Q _=>∃p t d n,vs=[.ref p,t]/\cH ad H p d/\bN H t n/\fT ad H p d (Valita.does ⟨d⟩ (.uses n)) Q
theorem Fw(T:bX K mg ad):aY P w K mg base 4 "uses" ["document","name"] (GW ad):=by
 refine T.Kz.good (N:=["document","name","places","told","place"]) cj λ l H vs Q E hr hu6 hu nd h=>?_;obtain⟨p,t,d,n,rfl,⟨dx,fs,bl,D⟩,ht,k⟩:=h;have hfit:=D.fit;have hout:Valita.does ⟨d⟩ (.uses n)=Valita.tell ⟨d⟩ ((usesOf d n).length::(usesOf d n).flatMap tw):=rfl;rw[hout]at k;have uz:(usesOf d n).length<=20000:=by rw[kY];have h1:=Pg (p:=fZ n) (l:=dZ d);have h2:=jK D.wf;omega
 have uz3:((usesOf d n).flatMap tw).length<=60000:=by have:=xU (usesOf d n);show((usesOf d n).flatMap λ x=>[x.1,x.2.1,x.2.2]).length<=_;omega
 refine⟨_,(aa (bf 2 nd (az (mf T) hr (dU (aC aH) aQ)))
   (aa (bf 3 nd (aG (aD (bR T.a7 aj (aD bJ)))))
   (aa (dn Mu rfl (bU bJ) (aM (i:=4) nd rfl (Or.inl rfl)) (ac (aV (bZ Lk Ml Mm hG dF (aD jk)))))
   (ac (ah dF))))),?_⟩
 refine qf D.ins T.be.cl T.c5 D.has.a ?_;refine⟨_,rfl,bl,d,t,n,rfl,D.doc.same aK,ht,by omega,λ l ws H1 s1 n1 h1 p1=>?_⟩;have lw:=ai p1;refine⟨_,rfl,ql (.inl (SqL.of h1)) ⟨(by show 1<=sizeLine;decide),λ m hm=>?_⟩⟩;have s0:=ae.new (o:=.lst [V.int (ws.length:Int)]) hm;refine⟨_,rfl,l,rfl,⟨_,SqL.of (s0 _ _ h1)⟩,fL (K:=K) (a:=l) (xs:=ws) (λ i σ H'=>∃x,σ=[some (.ref p),some t,some (.ref l),some (.ref m),x]/\ae H1 H'/\H' m=some (.lst (cM ((usesOf d n).length::((usesOf d n).take i).flatMap tw)))) ⟨none,rfl,s0,by rw[ab,lw];rfl⟩ (λ i σ H' _ ⟨_,_,s,_⟩=>SqL.of (s _ _ h1)) ?_ ?_⟩
 ·rintro i x σ H' hx ⟨_,rfl,s,hm'⟩;obtain⟨z,hz,a,rfl,ha⟩:=aZ p1 hx;have e:=ga tw hz;have h2:=dh tw (usesOf d n) (i+1);rw[e,La]at h2;refine⟨_,rfl,.inl ⟨rfl,_,SqL.of hm'⟩,_,rfl,m,a,_,_,rfl,rfl,hm',s _ _ ha,?_,?_⟩
  ·rw[cw,Lg];exact Mj (aL (show _<=1000000 by simp only[Lg,Mo];omega))
  ·refine⟨_,rfl,ae.upd s hm,?_⟩;rw[ab,e];show some (HO.lst (cM ((usesOf d n).length::((usesOf d n).take i).flatMap tw)++cM (tw z)))=_;rw[<-gU];rfl
 ·rintro σ H' ⟨_,rfl,s,hm'⟩;rw[lw,Mr]at hm';exact⟨_,rfl,k.told ⟨dx,fs,bl,D⟩ (s1.trans s) (s1.free hm) hm'⟩
def DW(ad:Ad):Sp:=λ vs H Q _=>∃p t d n,vs=[.ref p,t]/\cH ad H p d/\bN H t n/\fT ad H p d (Valita.does ⟨d⟩ (.params n)) Q
theorem Ca(T:bX K mg ad):aY P w K mg base 4 "params" ["document","name"] (DW ad):=by
 refine T.KA.good (N:=["document","name","found"]) cj λ l H vs Q E hr hu6 hu nd h=>?_;obtain⟨p,t,d,n,rfl,⟨dx,fs,bl,D⟩,ht,k⟩:=h;have hfit:=D.fit;have hout:Valita.does ⟨d⟩ (.params n)=match paramsOf d n with
  |some l=>Valita.tell ⟨d⟩ (toldTexts l)
  |none=>.error 3:=rfl
 refine⟨_,(aa (bf 2 nd (az (iF T) hr (ag (aC aH) (dU (af T.e9) aQ))))
   (aa (aA (aq bo (bR T.a7 aj (aD bJ)) al (ax _)) (ac (ah (aG (aD (af T.i7))))) ak)
   (ac (ah (az (iG T) hr (aD (aC (bv bb bJ al (λ _ _=>rfl))))))))),?_⟩
 refine qf D.ins T.be.cl T.c5 D.has.a ?_;refine⟨_,rfl,H,bl,d,t,n,false,rfl,D.doc.same aK,ae.refl H,ht,λ m us H1 s1 n1 h1 p1=>?_⟩;have lp:=ai p1;have hpar:=qa d n;refine⟨_,rfl,ql (.inl (SqL.of h1)) ⟨rfl,_,rfl,au (λ q1=>?_) λ q1=>?_⟩⟩
 ·have q1:=Lh q1;injection q1 with q1
  have e:((chunksOf d).filter λ c=>c.isFile==false&&c.name==n)=[]:=Oe.mp (by omega);rw[e]at hpar;refine⟨by decide,λ l hl=>k.no ⟨dx,fs,bl,D⟩ ?_ s1 rfl hl⟩;rw[hout,hpar];rfl
 cases hcs:((chunksOf d).filter λ c=>c.isFile==false&&c.name==n) with
 |nil=>rw[hcs]at lp;exact absurd (Ll (by rw[lp];rfl)) q1
 |cons c cs=>
 rw[hcs]at p1 hpar lp;obtain⟨x0,us',rfl,rc⟩:∃x0 us',us=x0::us'/\gP ad H x0 c:=by
  cases p1 with
  |cons r p=>exact⟨_,_,rfl,r⟩
 have hpar:paramsOf d n=some c.params:=hpar;have hW:=xL D.wf hpar;rw[hout,hpar]at k;obtain⟨a,dxa,fsa,v1,v2,ll,ls,pa⟩:=rc;obtain rfl:=pa.ref;have pH:=pa.same s1;refine⟨_,rfl,qi (SqL.of h1) (aT (j:=0) (show(V.ref a::us')[0]?=some (V.ref a) from rfl)) ⟨a,_,dxa,fsa,_,rfl,pH.ins,T.a8.cl,T.d3,pH.has.c,?_⟩⟩;exact⟨v2,c.params,rfl,pH.params,by omega,λ m2 H2 s2 n2 h2=>k.told ⟨dx,fs,bl,D⟩ (s1.trans s2) (s1.free n2) h2⟩
open Valita (doPieces lineNumbers pieceNumbers)
theorem Fx{p:Piece}(h:(pieceNumbers p).length<=100000):W (pA p)<=100000/\(pT p).length<=100000:=by
 cases p with
 |lit t=>have h:(0::toldText t).length<=100000:=h;rw[Lg,bF]at h;exact⟨Lj _,by show t.length<=_;omega⟩
 |use n as=>have h:(1::(toldText n++toldTexts as)).length<=100000:=h;rw[Lg,La,bF,de]at h;exact⟨by show W as<=_;omega,by show n.length<=_;omega⟩
 |param n=>have h:(2::toldText n).length<=100000:=h;rw[Lg,bF]at h;exact⟨Lj _,by show n.length<=_;omega⟩
theorem zL(p:Piece):cM (pieceNumbers p)=V.int (pK p):: cM (toldText (pT p))++(if ma p=true then cM (toldTexts (pA p)) else[]):=by
 cases p with
 |lit t=>show _=_++[];rw[Lv];rfl
 |use n as=>show cM (1::(toldText n++toldTexts as))=V.int 1::cM (toldText n)++cM (toldTexts as);rw[List.cons_append,<-gU];rfl
 |param n=>show _=_++[];rw[Lv];rfl
def DX(ad:Ad):Sp:=λ vs H Q _=>∃v p,vs=[v]/\cb ad H v p/\(pieceNumbers p).length<=100000/\∀m H',ae H H'->H m=none->H' m=some (.lst (cM (pieceNumbers p)))->Q (.ref m) H'
theorem pj(T:bX K mg ad):aY P w K mg base 3 "piece_numbers" ["piece"] (DX ad):=by
 refine T.KD.good (N:=["piece","told"]) cj λ l H vs Q E hr hu6 hu nd h=>?_;obtain⟨v,p,rfl,⟨a,dx,fs,v1,v2,rfl,ha,hf,r1,r2⟩,hz,k⟩:=h;obtain⟨zw,zt⟩:=Fx hz;obtain⟨b1,rfl,hb1,z1⟩:=id r1;refine⟨_,(aa (bf 1 nd (bu eg (aG (aD (aC aH))) (az (fk T) hr (aD (aC aH)))))
   (aa (aA (aq bo (aC aH) (af T.i5) (ax _)) (ac (aV (bZ Lk Ml Mm dq aQ (aD (az (iG T) hr (aD (aC aH))))))) ak)
   (ac (ah aQ)))),?_⟩
 refine qf ha T.c8.cl T.d8 hf.a ?_;refine⟨(by show 1<=sizeLine;decide),λ q1 n1=>?_⟩;have s1:=ae.new (o:=.lst [V.int (pK p)]) n1;refine qf (s1 _ _ ha) T.c8.cl T.f6 hf.b ?_;refine⟨b1,bT (pT p),rfl,.inr (s1 _ _ hb1),(by rw[ao];exact z1),λ q2 H2 s2 n2 h2=>?_⟩;have hq1:H2 q1=some (.lst [V.int (pK p)]):=s2 _ _ ab;refine⟨q1,q2,_,_,rfl,rfl,hq1,h2,?_,λ q3 n3=>?_⟩
 ·rw[fF,cw,bF,Lx];exact Mj (aL (show _<=1000000 by omega))
 rw[fF];have s3:=(s1.trans s2).trans (ae.new (o:=.lst ([V.int (pK p)]++cM (toldText (pT p)))) n3);have nq:H q3=none:=(s1.trans s2).free n3;have hq3:(L2.upd H2 q3 (.lst ([V.int (pK p)]++cM (toldText (pT p))))) q3=some (.lst ([V.int (pK p)]++cM (toldText (pT p)))):=ab;generalize L2.upd H2 q3 (.lst ([V.int (pK p)]++cM (toldText (pT p))))=H3 at s3 hq3;have e:=zL p;refine qf (s3 _ _ ha) T.c8.cl T.d8 hf.a ?_;refine⟨rfl,_,rfl,au (λ h1=>?_) λ h1=>?_⟩
 ·rw[fm]at h1;rw[Le h1]at e;refine⟨_,rfl,.inl ⟨rfl,_,SqL.of hq3⟩,?_⟩;refine qf (s3 _ _ ha) T.c8.cl T.j9 hf.c ?_;refine⟨v2,pA p,rfl,r2.same s3,zw,λ q4 H4 s4 n4 h4=>?_⟩;refine⟨q3,q4,_,_,rfl,rfl,s4 _ _ hq3,h4,?_,?_⟩
  ·rw[cw,de,La,cw,bF,Lx];exact Mj (aL (show _<=1000000 by omega))
  ·refine⟨_,rfl,k q3 _ (ae.upd (s3.trans s4) nq) nq ?_⟩;rw[ab,e];rfl
 ·rw[fm]at h1;rw[Ld h1,Lv]at e;refine⟨_,rfl,k q3 _ s3 nq ?_⟩;rw[hq3,e];rfl
def Fy(ad:Ad):Sp:=λ vs H Q _=>∃v l,vs=[v]/\bW ad H v l/\(lineNumbers l).length<=100000/\∀m H',ae H H'->H m=none->H' m=some (.lst (cM (lineNumbers l)))->Q (.ref m) H'
theorem qC(T:bX K mg ad):aY P w K mg base 4 "line_numbers" ["line"] (Fy ad):=by
 refine T.KC.good (N:=["line","told","piece"]) cj λ l H vs Q E hr hu6 hu nd h=>?_;obtain⟨v,l,rfl,⟨a,dx,fs,v1,v2,rfl,ha,hf,⟨tp,ps,rfl,htp,pp,zp⟩,r2⟩,hz,k⟩:=h;refine⟨_,(aa (aA (aq bo (aC aH) (af T.g4) (ax _)) (ac (ah (bu eg (aG (aD (af T.g4))) (az (fk T) hr (aD (aC aH)))))) ak)
   (aa (aA (aq iR (aC aH) (af T.j7) (ax _)) (ac (ah (aG (aD (aC aH))))) ak)
   (aa (bf 1 nd (aG (dU (af T.j7) (bR T.a7 aj (aD (aC aH))))))
   (aa (dn Mu rfl (fK (aC aH)) (aM (i:=2) nd rfl (Or.inl rfl)) (ac (aV (bZ Lk Ml Mm dq aQ (aD (az (pj T) hr (aD bJ)))))))
   (ac (ah aQ)))))),?_⟩
 refine qf ha T.c7.cl T.c9 hf.a ?_;refine⟨rfl,_,rfl,au (λ h1=>?_) λ h1=>?_⟩
 ·cases l with
  |code _=>simp[lK]at h1
  |otherwise=>simp[lK]at h1
  |done=>simp[lK]at h1
  |«when» s=>
  obtain⟨b1,rfl,hb1,z1⟩:=r2;have hz:(1::toldText s).length<=100000:=hz;rw[Lg,bF]at hz;refine⟨(by show 1<=sizeLine;decide),λ q1 n1=>?_⟩;have s1:=ae.new (o:=.lst [V.int 1]) n1;refine qf (s1 _ _ ha) T.c7.cl T.g9 hf.c ?_;refine⟨b1,bT s,rfl,.inr (s1 _ _ hb1),(by rw[ao];exact z1),λ q2 H2 s2 n2 h2=>?_⟩;refine⟨q1,q2,_,_,rfl,rfl,s2 _ _ ab,h2,?_,λ q3 n3=>?_⟩
  ·rw[fF,cw,bF,Lx];exact Mj (aL (show _<=1000000 by omega))
  ·refine k q3 _ ((s1.trans s2).trans (ae.new n3)) ((s1.trans s2).free n3) ?_;rw[ab,fF];rfl
 refine qf ha T.c7.cl T.c9 hf.a ?_;refine⟨rfl,_,rfl,au (λ h2=>?_) λ h2=>?_⟩
 ·refine qf ha T.c7.cl T.c9 hf.a ?_;refine⟨(by show 1<=sizeLine;decide),λ q1 n1=>?_⟩;refine k q1 _ (ae.new n1) n1 ?_;rw[ab];cases l with
  |code _=>simp[lK]at h2
  |otherwise=>rfl
  |done=>rfl
  |«when» s=>exact absurd rfl h1
 cases l with
 |otherwise=>exact absurd rfl h2
 |done=>exact absurd rfl h2
 |«when» s=>exact absurd rfl h1
 |code qs=>
 have hz:(0::qs.length::qs.flatMap pieceNumbers).length<=100000:=hz;rw[Lg,Lg]at hz;have pp:Paired (cb ad H) ps qs:=pp;have lp:=ai pp;refine qf ha T.c7.cl T.f9 hf.b ?_;refine ql (.inr (ci.of htp)) ⟨(by show 2<=sizeLine;decide),λ m hm=>?_⟩;have s0:=ae.new (o:=.lst [V.int 0,V.int (ps.length:Int)]) hm;refine qf (s0 _ _ ha) T.c7.cl T.f9 hf.b ?_;refine⟨tp,rfl,⟨_,ci.of (s0 _ _ htp)⟩,mM (K:=K) (a:=tp) (xs:=ps) (λ i σ H'=>∃x,σ=[some (.ref a),some (.ref m),x]/\ae H H'/\H' m=some (.lst (cM (0::qs.length::(qs.take i).flatMap pieceNumbers)))) ⟨none,rfl,s0,by rw[ab,lp];rfl⟩ (λ i σ H' _ ⟨_,_,s,_⟩=>ci.of (s _ _ htp)) ?_ ?_⟩
 ·rintro i x σ H' hx ⟨_,rfl,s,hm'⟩;obtain⟨q,hq,rq⟩:=aZ pp hx;have e:=ga pieceNumbers hq;have h3:=dh pieceNumbers qs (i+1);rw[e,La]at h3;refine⟨_,rfl,.inl ⟨rfl,_,SqL.of hm'⟩,_,rfl,x,q,rfl,rq.kept (ae.keptI s),by omega,λ m2 H2 s2 n2 h2=>⟨m,m2,_,_,rfl,rfl,s2 _ _ hm',h2,?_,?_⟩⟩
  ·rw[cw,cw,Lg,Lg];exact Mj (aL (show _<=1000000 by omega))
  ·refine⟨_,rfl,ae.upd (s.trans s2) hm,?_⟩;rw[ab,<-gU,e];rfl
 ·rintro σ H' ⟨_,rfl,s,hm'⟩;rw[lp,Mr]at hm';exact⟨_,rfl,k m H' s hm hm'⟩
def ye(d:Document)(b:Block)(j:Int):Out:=match b with
 |.prose _=>.error 3
 |.chunk c=>if j<0 then .error 2 else match c.lines[j.toNat]? with
  |some l=>Valita.tell ⟨d⟩ (lineNumbers l)
  |none=>.error 2
theorem wg{d:Document}{i j:Int}(h:i<0):doPieces ⟨d⟩ i j=.error 2:=by unfold doPieces Valita.onChunk Valita.onBlock;rw[Le h]
theorem wj{d:Document}{i:Nat}{j:Int}(h:d[i]?=none):doPieces ⟨d⟩ (i:Int) j=.error 2:=by unfold doPieces Valita.onChunk Valita.onBlock;rw[Ld (by omega),Nh];simp only[h]
theorem yf{d:Document}{i:Nat}{j:Int}{b:Block}(h:d[i]?=some b):doPieces ⟨d⟩ (i:Int) j=ye d b j:=by unfold doPieces Valita.onChunk Valita.onBlock;rw[Ld (by omega),Nh];simp only[h];cases b<;>rfl
def DY(ad:Ad):Sp:=λ vs H Q _=>∃p i j d,vs=[.ref p,.int i,.int j]/\cH ad H p d/\fT ad H p d (doPieces ⟨d⟩ i j) Q
theorem Cb(T:bX K mg ad):aY P w K mg base 5 "pieces" ["document","i","j"] (DY ad):=by
 refine T.KB.good (N:=["document","i","j","refusal","part"]) cj λ l H vs Q E hr hu6 hu nd h=>?_;obtain⟨p,i,j,d,rfl,⟨dx,fs,bl,D⟩,k⟩:=h;have hfit:=D.fit;obtain⟨ws,hb,pb,zb⟩:=D.doc;have hb0:=aK _ _ hb;have lw:=ai pb;refine⟨_,(aa (bf 3 nd (mZ (fc T) hr aH (aD aQ)))
   (aa (aA (gt (ve dF)) (ac (ah (aG (aD dF)))) ak)
   (aa (bf 4 nd (bv bb (aC aH) aQ (λ _ _=>rfl)))
   (aa (aA (bO (gY dE pD al bJ (bR T.a7 aj (aD (aC jk))))) (ac (ah (aG (aD (af T.g5))))) ak)
   (ac (ah (az (qC T) hr (aD (bv bb (aC jk) bJ (λ _ _=>rfl)))))))))),?_⟩
 rcases Int.lt_or_le i 0 with h1 |h1
 ·refine⟨_,rfl,p,dx,fs,rfl,D.ins,D.only _ (by decide +kernel),_,rfl,p,i,d,rfl,⟨dx,fs,bl,D⟩,?_⟩;rw[kP h1];refine⟨_,rfl,_,rfl,au (λ _=>?_) λ q=>absurd rfl q⟩;exact⟨_,rfl,(by show 1<=sizeLine;decide),λ l hl=>k.no ⟨dx,fs,bl,D⟩ (wg h1) (ae.refl _) rfl hl⟩
 obtain⟨i,rfl⟩:=Mv h1;refine⟨_,rfl,p,dx,fs,rfl,D.ins,D.only _ (by decide +kernel),_,rfl,p,(i:Int),d,rfl,⟨dx,fs,bl,D⟩,?_⟩;rw[jE];rcases Sh i ws.length with hi |hi
 rotate_left
 ·have hd:d[i]?=none:=Oj (by omega);rw[hd];refine⟨_,rfl,_,rfl,au (λ _=>?_) λ q=>absurd rfl q⟩;exact⟨_,rfl,(by show 1<=sizeLine;decide),λ l hl=>k.no ⟨dx,fs,bl,D⟩ (wj hd) (ae.refl _) rfl hl⟩
 have hw:ws[i]?=some ws[i]:=Mt hi;obtain⟨b,hd,rb⟩:=aZ pb hw;generalize ws[i]=x at hw rb;have hk:=yf (j:=j) hd;rw[hk]at k;clear hk;have rb0:=rb.same aK;rw[hd];cases b with
 |prose _=>refine⟨_,rfl,_,rfl,au (λ _=>?_) λ q=>absurd rfl q⟩;exact⟨_,rfl,(by show 1<=sizeLine;decide),λ l hl=>k.no ⟨dx,fs,bl,D⟩ rfl (ae.refl _) rfl hl⟩
 |chunk c=>
 refine⟨_,rfl,_,rfl,au (λ q=>by simp at q) λ _=>?_⟩;refine qf D.ins T.be.cl T.c5 D.has.a ?_;refine⟨_,rfl,bl,ws,_,x,rfl,rfl,SqL.of hb0,aT hw,?_⟩;obtain⟨a,dxa,fsa,v1,v2,ll,us,pa⟩:=rb0;obtain rfl:=pa.ref;have lu:=ai pa.lines;have hkk:ye d (.chunk c) j=if j<0 then .error 2 else match c.lines[j.toNat]? with
  |some l=>Valita.tell ⟨d⟩ (lineNumbers l)
  |none=>.error 2:=rfl
 refine⟨_,rfl,qn ⟨_,rfl,au (λ h1=>(qf pa.ins T.a8.cl T.d4 pa.has.d (ql (.inl (SqL.of pa.lst)) (qn ⟨_,rfl,au (λ h2=>?_) λ h2=>?_⟩)))) λ h1=>⟨_,rfl,au (λ h2=>?_) λ h2=>?_⟩⟩⟩
 ·have h1:=Lh h1;have h2:(us.length:Int)<=j:=by simpa using h2
  obtain⟨j,rfl⟩:=Mv h1;refine⟨by decide,λ l hl=>k.no ⟨dx,fs,bl,D⟩ ?_ (ae.refl _) rfl hl⟩;rw[hkk,Ld (by omega),Nh,Oj (by omega)]
 rotate_left
 ·have h1:j<0:=by simpa using h1
  refine⟨by decide,λ l hl=>k.no ⟨dx,fs,bl,D⟩ ?_ (ae.refl _) rfl hl⟩;rw[hkk,Le h1]
 ·exact absurd rfl h2
 have h1:=Lh h1;have h2:j<(us.length:Int):=by simpa using h2
 obtain⟨j,rfl⟩:=Mv h1;have hj:j<us.length:=by omega
 have hu0:us[j]?=some us[j]:=Mt hj;obtain⟨l,hl,rl⟩:=aZ pa.lines hu0;generalize us[j]=z at hu0 rl;rw[hkk,Ld (by omega),Nh,hl]at k;have ml:=Nm hl;have mc:=Nm hd;have hz:=jV ((D.wf _ mc).2 l ml);have hz2:=xT ml;have hz3:=kU mc;refine qf pa.ins T.a8.cl T.d4 pa.has.d ?_;refine⟨_,rfl,ll,us,_,z,rfl,rfl,SqL.of pa.lst,aT hu0,?_⟩;exact⟨z,l,rfl,rl,by omega,λ m H2 s2 n2 h2=>k.told ⟨dx,fs,bl,D⟩ s2 n2 h2⟩
def tz(e:Int×Int×Int):TE×TE:=(tC (.int e.1),Hz (gD (tC (.int e.2.1)) (gD (tC (.int e.2.2)) ib)))
abbrev jg(H:Hp):List (dl×V)->List (Int×Int×Int)->Prop:=Paired λ kv e=>kv.1=Sum.inl e.1/\∃a,kv.2=.ref a/\H a=some (.tup [.int e.2.1,.int e.2.2])
theorem jg.kept{H H':Hp}{kvs:List (dl×V)}{es:List (Int×Int×Int)}(h:jg H kvs es)(k:cN H H'):jg H' kvs es:=Paired.mapP h λ _ _ ⟨e,a,e2,ha⟩=>⟨e,a,e2,k _ _ rfl ha⟩
theorem jg.keys{H:Hp}{kvs:List (dl×V)}{es:List (Int×Int×Int)}(h:jg H kvs es):kvs.map (·.1)=es.map λ e=>(Sum.inl e.1:dl):=by
 induction h with
 |nil=>rfl
 |cons r p ih=>rw[Mp,Mp,ih,r.1]
theorem jg.get{H:Hp}{kvs:List (dl×V)}{es:List (Int×Int×Int)}{q n k:Int}(h:jg H kvs es)(hf:(es.find? λ e=>decide (e.1=q))=some (q,n,k)):∃a,gH kvs (Sum.inl q)=some (.ref a)/\H a=some (.tup [.int n,.int k]):=by
 induction h with
 |nil=>cases hf
 |@cons kv e kvs es r p ih=>
  obtain⟨e1,a,e2,ha⟩:=r;rw[Pu]at hf;by_cases h1:e.1=q
  ·rw[Ll h1]at hf;have hf:=Lz hf;subst hf;exact⟨a,by rw[dQ e1,e2],ha⟩
  ·rw[Mn h1]at hf;obtain⟨b,h2,h3⟩:=ih hf;refine⟨b,?_,h3⟩;rw[dS]
   ·exact h2
   ·rw[e1];intro z;injection z with z
    exact h1 z
theorem tD{kvs:List (dl×V)}{k:dl}{v:V}(h:k∉kvs.map (·.1)):fR kvs k v=kvs++[(k,v)]:=by unfold fR;rw[Ld];intro q;obtain⟨x,hx,e⟩:=Qx.mp q;exact h (Nw.mpr ⟨x,hx,Lh e⟩)
theorem tE{p:Addr}{σ:L2.St}:∀(es es0:List (Int×Int×Int)) (kvs:List (dl×V)) (H:Hp) (Q:List (dl×V)->Hp->Prop),jg H kvs es0->H p=some (.dK kvs)->((es0++es).map λ e=>(Sum.inl e.1:dl)).Nodup->(es0++es).length<=100->
  (∀kvs' H',cg p H H'->H' p=some (.dK kvs')->jg H' kvs' (es0++es)->Q kvs' H')->AD (es.map tz) p kvs σ H Q
 |[],es0,kvs,H,Q,hF,hp,_,_,k=>k kvs H (cg.refl p H) hp (by rw[Lv];exact hF)
 |e::es,es0,kvs,H,Q,hF,hp,hn,hz,k=>by
  refine⟨(by show 2<=sizeLine;decide),λ a na=>⟨Sum.inl e.1,rfl,?_⟩⟩;have sa:=ae.new (o:=.tup [.int e.2.1,.int e.2.2]) na;have hp1:=sa _ _ hp;have ha:(L2.upd H a (.tup [.int e.2.1,.int e.2.2])) a=some (.tup [.int e.2.1,.int e.2.2]):=ab;have hF1:=hF.kept (ae.kept sa);generalize L2.upd H a (.tup [.int e.2.1,.int e.2.2])=H1 at sa hp1 ha hF1;have hlen:=Na List.length hF.keys;rw[Ls,Ls]at hlen;rw[La,Lg]at hz;have hnew:(Sum.inl e.1:dl)∉kvs.map (·.1):=by rw[hF.keys];rw[Mh,Ry]at hn;intro q;exact hn.2.2 _ q _ (.head _) rfl
  rw[tD hnew];refine⟨hp1,by omega,?_⟩;have ea:es0++e::es=(es0++[e])++es:=by simp
  rw[ea]at hn k;refine tE es (es0++[e]) _ _ Q (aI (hF1.kept (λ b o t h=>?_)) (.cons ⟨rfl,a,rfl,?_⟩ .nil)) ab hn (by rw[<-ea,La,Lg];omega) λ kvs' H' s' hp' hF'=>k kvs' H' (((ae.beside sa).trans eM).trans s') hp' hF'
  ·rw[am (λ q=>by rw[q,hp1]at h;cases h;cases t)];exact h
  ·rw[am (λ q=>by rw[q,hp1]at ha;cases ha)];exact ha
theorem qh{σ:L2.St}:∀(es:List (Int×Int×Int)) (H:Hp) (Q:List (V×V)->Hp->Prop),(∀kvs H',ae H H'->jg H' kvs es->Q (kvs.map λ kv=>(kV kv.1,kv.2)) H')->vo (es.map tz) σ H Q
 |[],H,Q,k=>k [] H (ae.refl H) .nil
 |e::es,H,Q,k=>by refine⟨(by show 2<=sizeLine;decide),λ a na=>?_⟩;have sa:=ae.new (o:=.tup [.int e.2.1,.int e.2.2]) na;refine qh es _ _ λ kvs H' s' hF=>?_;exact k ((Sum.inl e.1,.ref a):: kvs) H' (sa.trans s') (.cons ⟨rfl,a,rfl,s' _ _ ab⟩ hF)
theorem yg{kvs:List (dl×V)}(h:(kvs.map (·.1)).Nodup):rA [] kvs=kvs:=by
 have key:∀(more acc:List (dl×V)),((acc++more).map (·.1)).Nodup->rA acc more=acc++more:=by
  intro more
  induction more with
  |nil=>intro acc _;show acc=_;rw[Lv]
  |cons x more ih=>
   intro acc hn;have hnew:x.1∉acc.map (·.1):=by rw[Mh,Ry]at hn;intro q;exact hn.2.2 _ q _ (.head _) rfl
   show rA (fR acc x.1 x.2) more=_;have ea:acc++x::more=(acc++[x])++more:=by simp
   rw[tD hnew,ih _ (by rw[ea]at hn;exact hn),ea]
 have:=key kvs [] (by simpa using h);simpa using this
def mH:List (Int×Int×Int):=[(0,0,1),(1,0,0),(2,1,0),(3,1,1),(4,2,0),(5,3,0),(6,3,1),(7,0,2),(8,0,2),(9,0,3),(10,0,2),(11,0,0),(12,0,0),(13,0,0),(14,1,1),(15,0,1),(16,0,1)]
def mI:List (Int×Int×Int):=[(17,2,0),(18,0,0)]
theorem zM{q:Int}{n k:Nat}(h:PyValita.shape q=some (n,k)):((mH++mI).find? λ e=>decide (e.1=q))=some (q,(n:Int),(k:Int)):=by rcases iC h with h |h |h |h |h |h |h |h |h |h |h |h |h |h |h |h |h |h |h<;>obtain⟨rfl,rfl,rfl⟩:=h<;>decide
theorem Fz{ks:List (Option Expr)}{vs:List Expr}{p:Pos}{t:Option Expr}{l:Nat}{env:Env}:swapsWith (.Dict ks vs p) t l env=pure false:=rfl
theorem FA{X:Cx}{i:Nat}{x:Str}{ks:List (Option Expr)}{vs:List Expr}{p:Pos}{te:TE}{pos pos':Pos}(hN:X.N.Nodup)(hi:X.N[i]?=some x)(hx:Hb X.env.scope x)(he:PE X (.Dict ks vs p) te)(hf:X.fn x=true\/X.env.scope.names.lookup x=some .local:=by first |exact .inl rfl |exact .inr rfl |assumption):
  PS X (.Assign [.Name x pos'] (.Dict ks vs p) pos) (Cm te (gW i)):=Cn hN hi hx he Fz hf
def GX:Sp:=λ vs H Q _=>∃(q:Int) (n k:Nat),vs=[.int q]/\PyValita.shape q=some (n,k)/\∀a H',ae H H'->H' a=some (.tup [.int (n:Int),.int (k:Int)])->Q (.ref a) H'
theorem zN(T:bX K mg ad):aY P w K mg base 1 "form_of" ["kind"] (GX):=by
 refine T.KG.good (N:=["kind","forms"]) cj λ l H vs Q E hr hu6 hu nd h=>?_;obtain⟨q,n,kk,rfl,hs,k⟩:=h;have st1:∀ks vs r p q te,PE (Gr ["kind","forms"] "form_of" (aB (bg 174)) K mg l H E) (.Dict ks vs r) te->PS (Gr ["kind","forms"] "form_of" (aB (bg 174)) K mg l H E) (.Assign [.Name "forms" p] (.Dict ks vs r) q) (Cm te (gW 1)):=λ ks vs r p q te he=>FA (i:=1) nd rfl (Or.inl rfl) he;have hd:∀ks vs r,PL (Gr ["kind","forms"] "form_of" (aB (bg 174)) K mg l H E) ks vs ((mH++mI).map tz)->PE (Gr ["kind","forms"] "form_of" (aB (bg 174)) K mg l H E) (.Dict ks vs r) (zC (mH.map tz) (mI.map tz)):=λ ks vs r h=>DK h (by decide) (by decide);refine⟨tK (Cm (zC (mH.map tz) (mI.map tz)) (gW 1)) (vf (FL (gr 1) (gr 0))),?_,?_⟩
 ·refine aa ?_ ?_
  rotate_left
  ·refine ac ?_;exact ah (EC hu (pv 1) (pv 0) (λ _ _=>rfl))
  refine st1 _ _ _ _ _ _ ?_;refine hd _ _ _ ?_;refine⟨?_,?_,?_⟩
  ·exact af T.o1
  ·exact bx (ag al (ag al aF))
  refine⟨?_,?_,?_⟩
  ·exact af T.o2
  ·exact bx (ag al (ag al aF))
  refine⟨?_,?_,?_⟩
  ·exact af T.v0
  ·exact bx (ag al (ag al aF))
  refine⟨?_,?_,?_⟩
  ·exact af T.o3
  ·exact bx (ag al (ag al aF))
  refine⟨?_,?_,?_⟩
  ·exact af T.o4
  ·exact bx (ag al (ag al aF))
  refine⟨?_,?_,?_⟩
  ·exact af T.o5
  ·exact bx (ag al (ag al aF))
  refine⟨?_,?_,?_⟩
  ·exact af T.v8
  ·exact bx (ag al (ag al aF))
  refine⟨?_,?_,?_⟩
  ·exact af T.o6
  ·exact bx (ag al (ag al aF))
  refine⟨?_,?_,?_⟩
  ·exact af T.o7
  ·exact bx (ag al (ag al aF))
  refine⟨?_,?_,?_⟩
  ·exact af T.o8
  ·exact bx (ag al (ag al aF))
  refine⟨?_,?_,?_⟩
  ·exact af T.v9
  ·exact bx (ag al (ag al aF))
  refine⟨?_,?_,?_⟩
  ·exact af T.o9
  ·exact bx (ag al (ag al aF))
  refine⟨?_,?_,?_⟩
  ·exact af T.q0
  ·exact bx (ag al (ag al aF))
  refine⟨?_,?_,?_⟩
  ·exact af T.r8
  ·exact bx (ag al (ag al aF))
  refine⟨?_,?_,?_⟩
  ·exact af T.w4
  ·exact bx (ag al (ag al aF))
  refine⟨?_,?_,?_⟩
  ·exact af T.w6
  ·exact bx (ag al (ag al aF))
  refine⟨?_,?_,?_⟩
  ·exact af T.w8
  ·exact bx (ag al (ag al aF))
  refine⟨?_,?_,?_⟩
  ·exact af T.B5
  ·exact bx (ag al (ag al aF))
  refine⟨?_,?_,?_⟩
  ·exact af T.w9
  ·exact bx (ag al (ag al aF))
  exact True.intro
 intro p hp;refine tE mH [] [] _ _ .nil ab (by decide) (by decide) λ kvs1 H1 s1 hp1 F1=>?_;have l1:=Na List.length F1.keys;rw[Ls,Ls]at l1;refine⟨hp1,?_,?_,λ p2 hp2=>?_⟩
 ·intro e;rw[e]at l1;cases l1
 ·rw[l1];decide
 refine qh mI _ _ λ kvs2 H2 s2 F2=>?_;have l2:=Na List.length F2.keys;rw[Ls,Ls]at l2;have n12:p≠p2:=ay hp1 hp2;have sn:=ae.new (o:=.dK []) hp2;have hkeys:(kvs1++kvs2).map (·.1)=(mH++mI).map λ e=>(Sum.inl e.1:dl):=by rw[Mh,Mh,F1.keys,F2.keys];rfl
 refine⟨s2 _ _ ab,s2 _ _ (sn _ _ hp1),kvs2,rfl,by rw[l2];decide,yg (by rw[F2.keys];decide),by rw[hkeys];decide,?_⟩;have sH1:ae H H1:=s1.same (ae.new hp) hp;have hp2H:H p2=none:=sH1.free hp2;have sH2:ae H H2:=(sH1.trans sn).trans s2;have h2p2:H2 p2=some (.dK []):=s2 _ _ ab;have h2p:H2 p=some (.dK kvs1):=s2 _ _ (sn _ _ hp1);have k1:cN H2 (L2.upd H2 p2 (.dK kvs2)):=cN.upd λ u t e=>by rw[h2p2]at e;cases e;cases t
 have k2:cN (L2.upd H2 p2 (.dK kvs2)) (L2.upd (L2.upd H2 p2 (.dK kvs2)) p (.dK (kvs1++kvs2))):=cN.upd λ u t e=>by rw[am n12,h2p]at e;cases e;cases t
 have F12:jg (L2.upd (L2.upd H2 p2 (.dK kvs2)) p (.dK (kvs1++kvs2))) (kvs1++kvs2) (mH++mI):=
  jg.kept (jg.kept (aI (F1.kept (ae.kept (sn.trans s2))) F2) k1) k2
 obtain⟨a,hv,ha⟩:=F12.get (zM hs);have sF:ae H (L2.upd (L2.upd H2 p2 (.dK kvs2)) p (.dK (kvs1++kvs2))):=ae.upd (ae.upd sH2 hp2H) hp;have hpF:(L2.upd (L2.upd H2 p2 (.dK kvs2)) p (.dK (kvs1++kvs2))) p=some (.dK (kvs1++kvs2)):=ab;generalize L2.upd (L2.upd H2 p2 (.dK kvs2)) p (.dK (kvs1++kvs2))=HF at ha sF hpF;have hg:=ro.k (k:=Sum.inl q) hpF;rw[hv]at hg;exact⟨_,rfl,_,rfl,p,.ref a,rfl,hg,k a HF sF ha⟩
def fq(H:Hp)(y:V)(x:List Int):Prop:=∃b,y=.ref b/\H b=some (.tup (x.map V.int))
theorem lH{H H':Hp}{us:List V}{xs:List (List Int)}(p:Paired (fq H) us xs)(k:cN H H'):Paired (fq H') us xs:=Paired.mapP p λ _ _ ⟨b,e,h⟩=>⟨b,e,k _ _ rfl h⟩
def jM(ad:Ad)(H:Hp)(v:V)(q:Int)(ns:List Int)(xs:List (List Int))(j:Nat):Prop:=∃a dx fs nl rl us,v=.ref a/\H a=some (.ins ad.i dx fs)/\io fs [("kind",.int q),("numbers",.ref nl),("rows",.ref rl),("end",.int (j:Int))]/\H nl=some (.lst (ns.map V.int))/\H rl=some (.lst us)/\Paired (fq H) us xs
theorem FB(T:bX K mg ad):jN P w K mg base 1 "Call" ad.i ["self","kind","numbers","rows","end"] (nv ad.i ["kind","numbers","rows","end"]):=by
 refine eS T.a5 T.K8 (N:=["self","kind","numbers","rows","end"]) cj λ l H vs Q E hr hu6 hu nd h=>?_;obtain⟨p,dx,ws,rfl,hp,hl,k⟩:=h
 match ws,hl with
 |[v1,v2,v3,v4],_=>
 refine⟨_,(aa (bw aH aQ rfl)
   (aa (bw aH bJ rfl)
   (aa (bw aH dF rfl)
   (ac (bw aH jk rfl))))),?_⟩
 refine⟨_,rfl,_,rfl,p,_,dx,[],rfl,hp,T.a5.cl,T.a9,by decide,?_⟩;refine⟨_,rfl,_,rfl,qs ab T.a5.cl T.e8 (Lq (vz _ _) (by decide)) ?_⟩;refine⟨_,rfl,_,rfl,qs ab T.a5.cl T.d5 (Lq (wZ _ _ _ _) (by decide)) ?_⟩;refine⟨_,rfl,_,rfl,qs ab T.a5.cl T.z4 (Lq (yL _ _ _ _ _ _) (by decide)) ?_⟩;exact k _ _ (GC (by decide +kernel) (by decide +kernel) (by decide +kernel)) (Ln (CT _ _ _ _ _ _ _ _) (by decide)) ab λ b hb=>by rw[am hb,am hb,am hb,am hb]
def DZ(K:PySem.W.Frag)(ad:Ad):Sp:=λ vs H Q _=>∃(a:Addr) (L:List Int) (i:Nat) (q:Int) (n k:Nat) (xs:List (List Int)) (t:List Int),vs=[.ref a,.int (i:Int)]/\SqL K H a (L.map V.int)/\L.length<=16000/\L[i]?=some q/\PyValita.shape q=some (n,k)/\i+1+n<=L.length/\PyFlat.rows k (L.drop (i+1+n))=some (xs,t)/\
 ∀v H' j,ae H H'->jM ad H' v q ((L.drop (i+1)).take n) xs j->t=L.drop j->i<j->j<=L.length->Q v H'
theorem zO(T:bX K mg ad):aY P w K mg base 3 "call_at" ["calls","start"] (DZ K ad):=by
 refine T.KH.good (N:=["calls","start","kind","form","place","numbers","rows","row_end"]) cj λ l H vs Q E hr hu6 hu nd h=>?_;obtain⟨a,L,i,q,n,kk,xs,t,rfl,hS,hz,hq,hs,hn,hr2,k⟩:=h;refine⟨_,(aa (bf 2 nd (bv bb aH aQ (λ _ _=>rfl)))
   (aa (bf 3 nd (az (zN T) hr (aD bJ)))
   (aa (bf 4 nd (bu cq (bu cq aQ al) (bv gu dF al (λ _ _=>rfl))))
   (aa (bf 5 nd (aX dN aH (aP (bu cq aQ al)) (aP jk)))
   (aa (bf 6 nd (aG aF))
   (aa (rg Mu (aq pD (bR T.a7 aj (aD (pv 6))) (bv gu dF al (λ _ _=>rfl)) (ax _)) (aa (bf 7 nd (bu cq (bu cq jk al) (bv bb aH jk (λ _ _=>rfl))))
   (aa (aV (bZ Lk Ma Mb bq (pv 6) (aD (uq T.g3 eZ (aD (aX dN aH (aP (bu cq jk al)) (aP (pv 7))))))))
   (ac (bf 4 nd (pv 7))))))
   (ac (ah (gv (FB T) hr (ag bJ (ag (pv 5) (ag (pv 6) (ag jk aF))))))))))))),?_⟩
 refine⟨_,rfl,_,rfl,a,_,_,_,rfl,rfl,hS,aT (j:=i) (v:=V.int q) (by rw[Pk,hq];rfl),?_⟩;refine⟨_,rfl,q,n,kk,rfl,hs,λ fa H1 s1 hfa=>?_⟩;refine⟨_,rfl,qn ⟨_,rfl,qi (ci.of hfa) (aT (j:=0) (show([V.int (n:Int),V.int (kk:Int)])[0]?=some (V.int (n:Int)) from rfl)) (qn ?_)⟩⟩;refine⟨_,rfl,_,rfl,qn ⟨_,rfl,_,rfl,_,rfl,a,_,rfl,s1.seq hS,λ nl nnl=>?_⟩⟩;have ec:lL (L.map V.int) (some ((i:Int)+1)) (some ((i:Int)+1+(n:Int)))=((L.drop (i+1)).take n).map V.int:=by rw[show((i:Int)+1)=((i+1:Nat):Int) by omega,show(((i+1:Nat):Int)+(n:Int))=((i+1+n:Nat):Int) by omega,nQ,show i+1+n - (i+1)=n by omega,List.map_take,List.map_drop]
 rw[ec];have s2:=s1.trans (ae.new (o:=.lst (((L.drop (i+1)).take n).map V.int)) nnl);have hnl:(L2.upd H1 nl (.lst (((L.drop (i+1)).take n).map V.int))) nl=some (.lst (((L.drop (i+1)).take n).map V.int)):=ab;have hfa2:(L2.upd H1 nl (.lst (((L.drop (i+1)).take n).map V.int))) fa=some (.tup [.int (n:Int),.int (kk:Int)]):=ae.new nnl _ _ hfa;generalize L2.upd H1 nl (.lst (((L.drop (i+1)).take n).map V.int))=H2 at s2 hnl hfa2;refine⟨Lj _,λ rl nrl=>?_⟩;have lx:=(sU hn hr2).1;refine⟨λ m σ H'=>∃(j place:Nat) (z:Int) (us:List V) (x7:Option V),z=(place:Int)/\σ=[some (.ref a),some (.int (i:Int)),some (.int q),some (.ref fa),some (.int z),some (.ref nl),some (.ref rl),x7]/\m=kk - j/\j<=kk/\ae H2 H'/\H' rl=some (.lst us)/\Paired (fq H') us (xs.take j)/\i<place/\place<=L.length/\PyFlat.rows (kk - j) (L.drop place)=some (xs.drop j,t),
  ⟨_,0,i+1+n,_,[],none,(by omega:((i:Int)+1+(n:Int))=((i+1+n:Nat):Int)),rfl,rfl,Lj _,ae.new nrl,ab,.nil,by omega,hn,hr2⟩,?_⟩
 rintro m σ H' ⟨j,place,z,us,x7,ez,rfl,rfl,hj,s,hrl,pu,hip,hpl,hrw⟩;have lu:=ai pu;rw[Lr,lx,Nr hj]at lu;refine⟨_,rfl,ql (.inl (SqL.of hrl)) ⟨_,rfl,qi (ci.of (s _ _ hfa2)) (aT (j:=1) (show([V.int (n:Int),V.int (kk:Int)])[1]?=some (V.int (kk:Int)) from rfl)) (qn ⟨_,rfl,au (λ h1=>?_) λ h1=>?_⟩)⟩⟩
 ·have h1:=Lh h1;have hjk:j<kk:=by omega
  obtain⟨m',em⟩:∃m',kk - j=m'+1:=⟨kk - j - 1,by omega⟩;rw[em]at hrw;obtain⟨r,ys,hLr,hxs,hle,hrw2⟩:=AB hrw;have hSs:=s.seq (s2.seq hS);refine⟨λ σ' H3=>∃(z:Int) (us:List V) (x7:Option V),z=((place+1+r:Nat):Int)/\σ'=[some (.ref a),some (.int (i:Int)),some (.int q),some (.ref fa),some (.int z),some (.ref nl),some (.ref rl),x7]/\ae H2 H3/\H3 rl=some (.lst us)/\Paired (fq H3) us (xs.take (j+1)),?_,?_⟩
  ·rintro σ' H3 ⟨z3,us3,y7,ez3,rfl,s3,hrl3,pu3⟩;refine⟨kk - (j+1),by omega,j+1,place+1+r,z3,us3,y7,ez3,rfl,rfl,by omega,s3,hrl3,pu3,by omega,hle,?_⟩;rw[show kk - (j+1)=m' by omega];have ed:xs.drop (j+1)=ys:=by
    rw[<-Pe,hxs];rfl
   rw[ed];exact hrw2
  ·subst ez;refine⟨_,rfl,qn ⟨_,rfl,_,rfl,a,_,_,_,rfl,rfl,hSs,aT (j:=place) (v:=V.int (r:Int)) (by rw[Pk,hLr];rfl),qn ?_⟩⟩;have ec3:lL (L.map V.int) (some ((place:Int)+1)) (some ((place:Int)+1+(r:Int)))=((L.drop (place+1)).take r).map V.int:=by
    rw[show((place:Int)+1)=((place+1:Nat):Int) by omega,show(((place+1:Nat):Int)+(r:Int))=((place+1+r:Nat):Int) by omega,nQ,show place+1+r - (place+1)=r by omega,List.map_take,List.map_drop]
   refine⟨_,rfl,.inl ⟨rfl,_,SqL.of hrl⟩,_,rfl,_,rfl,qn ⟨_,rfl,_,rfl,_,rfl,a,_,rfl,hSs,λ sl nsl=>?_⟩⟩;rw[ec3];refine⟨sl,_,rfl,.inl ⟨SqL.of ab,λ tp ntp=>?_⟩⟩;have s3:=(ae.new (o:=.lst (((L.drop (place+1)).take r).map V.int)) nsl).trans (ae.new (o:=.tup (((L.drop (place+1)).take r).map V.int)) ntp);have htp:(L2.upd (L2.upd H' sl (.lst (((L.drop (place+1)).take r).map V.int))) tp (.tup (((L.drop (place+1)).take r).map V.int))) tp=some (.tup (((L.drop (place+1)).take r).map V.int)):=ab;generalize L2.upd (L2.upd H' sl (.lst (((L.drop (place+1)).take r).map V.int))) tp (.tup (((L.drop (place+1)).take r).map V.int))=H3 at s3 htp;have hrl3:=s3 _ _ hrl;refine⟨rl,us,.ref tp,rfl,rfl,hrl3,aL (show _<=1000000 by rcases iC hs with h |h |h |h |h |h |h |h |h |h |h |h |h |h |h |h |h |h |h<;>omega),?_⟩;refine⟨_,rfl,_,us++[.ref tp],_,?_,rfl,ae.upd (s.trans s3) nrl,ab,?_⟩
   ·omega
   ·have ex:xs[j]?=some ((L.drop (place+1)).take r):=by
     have:=Na List.head? hxs;rw[List.head?_drop]at this;exact this
    rw[bD ex];exact aI (lH (lH pu (ae.kept s3)) (cN.lst hrl3)) (.cons ⟨tp,rfl,(cN.lst hrl3) _ _ rfl htp⟩ .nil)
 ·have h1:¬((us.length:Int)<(kk:Int)):=λ q=>h1 (Ll q);have ej:j=kk:=by omega
  subst ej;rw[Qg]at hrw;have hrw:some (([]:List (List Int)),L.drop place)=some (xs.drop j,t):=hrw;have hrw:=Lz hrw;injection hrw with _ et
  rw[<-lx,Mr]at pu;refine⟨_,rfl,_,rfl,_,rfl,_,rfl,?_⟩;intro x dx hx hdx hne;refine fz (ws:=[.int q,.ref nl,.ref rl,.int z]) (by rfl) hx hdx hne λ H4 fs4 s4 hH hf4=>⟨rfl,?_⟩;subst ez;exact k _ H4 place ((s2.trans s).trans s4) ⟨x,dx,fs4,nl,rl,us,rfl,hH,hf4,s4 _ _ (s _ _ hnl),s4 _ _ hrl,lH pu (ae.kept s4)⟩ et.symm hip hpl
theorem jM.same{ad:Ad}{H H':Hp}{v:V}{q:Int}{ns:List Int}{xs:List (List Int)}{j:Nat}(h:jM ad H v q ns xs j)(s:ae H H'):jM ad H' v q ns xs j:=by obtain⟨a,dx,fs,nl,rl,us,e,ha,hf,hn,hr,p⟩:=h;exact⟨a,dx,fs,nl,rl,us,e,s _ _ ha,hf,s _ _ hn,s _ _ hr,lH p (ae.kept s)⟩
theorem fT.same{ad:Ad}{H H1:Hp}{p:Addr}{d:Document}{o:Out}{Q:VK}(k:fT ad H p d o Q)(s:ae H H1):fT ad H1 p d o Q:=λ l H' sb n h D=>k l H' ((ae.beside s).trans sb) (s.free n) h D
theorem yh{x:List Int}(h:cx x=true):bT (qA x)=x.map V.int/\(qA x).length<=24000:=by
 unfold cx at h;rw[Li]at h;have e:=(xV h.1).2;refine⟨?_,?_⟩
 ·rw[qO];show((qA x).map λ b=>(b.toNat:Int)).map V.int=_;rw[e]
 ·unfold qA;rw[Ls];exact Lh h.2
theorem fu{H:Hp}{y:V}{x:List Int}(r:fq H y x)(h:cx x=true):bN H y (qA x):=by obtain⟨b,e,hb⟩:=r;obtain⟨e1,e2⟩:=yh h;exact⟨b,e,by rw[e1];exact hb,Ln e2 (by decide)⟩
theorem Ea{x:List Int}(h:cx x=true):(qA x).length<=100000:=Ln (yh h).2 (by decide)
theorem tG{H:Hp}{us:List V}{x:List Int}(p:Paired (fq H) us [x]):∃y,us=[y]/\fq H y x:=by
 cases p with
 |cons r p=>cases p;exact⟨_,rfl,r⟩
theorem AF{H:Hp}{us:List V}{x x':List Int}(p:Paired (fq H) us [x,x']):∃y y',us=[y,y']/\fq H y x/\fq H y' x':=by
 cases p with
 |cons r p=>obtain⟨y',rfl,r'⟩:=tG p;exact⟨_,_,rfl,r,r'⟩
theorem Ia{H:Hp}{us:List V}{x x' x'':List Int}(p:Paired (fq H) us [x,x',x'']):∃y y' y'',us=[y,y',y'']/\fq H y x/\fq H y' x'/\fq H y'' x'':=by
 cases p with
 |cons r p=>obtain⟨y',y'',rfl,r',r''⟩:=AF p;exact⟨_,_,_,rfl,r,r',r''⟩
def ld(ad:Ad)(kinds:List Int):Sp:=λ vs H Q _=>∃p v d q ns xs j c,vs=[.ref p,v]/\cH ad H p d/\jM ad H v q ns xs j/\ic q ns xs c/\q∈kinds/\fT ad H p d (Valita.does ⟨d⟩ c) Q
theorem pk(T:bX K mg ad):aY P w K mg base 15 "edited_answer" ["document","call"] (ld ad [0,3,4,5,6]):=by
 refine T.KI.good (N:=["document","call","numbers","rows"]) cj λ l H vs Q E hr hu6 hu nd h=>?_;obtain⟨p,v,d,q,ns,xs,j,c,rfl,D,⟨a,dx,fs,nl,rl,us,rfl,ha,hf,hnl,hrl,pu⟩,hc,hq,k⟩:=h;refine⟨_,(aa (bf 2 nd (aC aQ))
   (aa (bf 3 nd (aC aQ))
   (aa (aA (aq bo (aC aQ) (af T.o1) (ax _)) (ac (ah (az (Ff T) hr (dU aH (bv bb dF al (λ _ _=>rfl)))))) ak)
   (aa (aA (aq bo (aC aQ) (af T.o3) (ax _)) (ac (ah (az (GM T) hr (ag aH (dU (bv bb bJ al (λ _ _=>rfl)) (bv bb dF al (λ _ _=>rfl))))))) ak)
   (aa (aA (aq bo (aC aQ) (af T.o4) (ax _)) (ac (ah (az (GL T) hr (ag aH (dU (bv bb bJ al (λ _ _=>rfl)) (bv bb bJ al (λ _ _=>rfl))))))) ak)
   (aa (aA (aq bo (aC aQ) (af T.o5) (ax _)) (ac (ah (az (Fg T) hr (ag aH (ag (bv bb bJ al (λ _ _=>rfl)) (dU (bv bb bJ al (λ _ _=>rfl)) (bv bb bJ al (λ _ _=>rfl)))))))) ak)
   (ac (ah (az (Dy T) hr (ag aH (ag (bv bb bJ al (λ _ _=>rfl)) (ag (bv bb bJ al (λ _ _=>rfl)) (dU (bv bb bJ al (λ _ _=>rfl)) (bv bb dF al (λ _ _=>rfl))))))))))))))),?_⟩
 cases hc with
 |read h0=>obtain⟨y0,rfl,r0⟩:=tG pu;refine qf ha T.a5.cl T.e8 hf.b ?_;refine qf ha T.a5.cl T.d5 hf.c ?_;refine qf ha T.a5.cl T.a9 hf.a ?_;refine⟨rfl,_,rfl,au (λ _=>?_) λ h=>absurd (by decide) h⟩;exact⟨_,rfl,_,rfl,qi (SqL.of hrl) (aT (j:=0) (v:=y0) rfl) ⟨_,_,d,_,rfl,D,fu r0 h0,k⟩⟩
 |showAll=>exact absurd hq (by decide)
 |block=>exact absurd hq (by decide)
 |@put i x0 h0=>obtain⟨y0,rfl,r0⟩:=tG pu;refine qf ha T.a5.cl T.e8 hf.b ?_;refine qf ha T.a5.cl T.d5 hf.c ?_;refine qf ha T.a5.cl T.a9 hf.a ?_;refine⟨rfl,_,rfl,au (λ h=>absurd h (by decide)) λ _=>?_⟩;refine qf ha T.a5.cl T.a9 hf.a ?_;refine⟨rfl,_,rfl,au (λ _=>?_) λ h=>absurd (by decide) h⟩;exact⟨_,rfl,_,rfl,qi (SqL.of hnl) (aT (j:=0) (v:=V.int i) rfl) ⟨_,rfl,qi (SqL.of hrl) (aT (j:=0) (v:=y0) rfl) ⟨_,_,_,d,_,rfl,D,fu r0 h0,Ea h0,k⟩⟩⟩
 |@cut i n=>refine qf ha T.a5.cl T.e8 hf.b ?_;refine qf ha T.a5.cl T.d5 hf.c ?_;refine qf ha T.a5.cl T.a9 hf.a ?_;refine⟨rfl,_,rfl,au (λ h=>absurd h (by decide)) λ _=>?_⟩;refine qf ha T.a5.cl T.a9 hf.a ?_;refine⟨rfl,_,rfl,au (λ h=>absurd h (by decide)) λ _=>?_⟩;refine qf ha T.a5.cl T.a9 hf.a ?_;refine⟨rfl,_,rfl,au (λ _=>?_) λ h=>absurd (by decide) h⟩;exact⟨_,rfl,_,rfl,qi (SqL.of hnl) (aT (j:=0) (v:=V.int i) rfl) ⟨_,rfl,qi (SqL.of hnl) (aT (j:=1) (v:=V.int n) rfl) ⟨_,_,_,d,rfl,D,k⟩⟩⟩
 |@move i n j2=>refine qf ha T.a5.cl T.e8 hf.b ?_;refine qf ha T.a5.cl T.d5 hf.c ?_;refine qf ha T.a5.cl T.a9 hf.a ?_;refine⟨rfl,_,rfl,au (λ h=>absurd h (by decide)) λ _=>?_⟩;refine qf ha T.a5.cl T.a9 hf.a ?_;refine⟨rfl,_,rfl,au (λ h=>absurd h (by decide)) λ _=>?_⟩;refine qf ha T.a5.cl T.a9 hf.a ?_;refine⟨rfl,_,rfl,au (λ h=>absurd h (by decide)) λ _=>?_⟩;refine qf ha T.a5.cl T.a9 hf.a ?_;refine⟨rfl,_,rfl,au (λ _=>?_) λ h=>absurd (by decide) h⟩;exact⟨_,rfl,_,rfl,qi (SqL.of hnl) (aT (j:=0) (v:=V.int i) rfl) ⟨_,rfl,qi (SqL.of hnl) (aT (j:=1) (v:=V.int n) rfl) ⟨_,rfl,qi (SqL.of hnl) (aT (j:=2) (v:=V.int j2) rfl) ⟨_,_,_,_,d,rfl,D,k⟩⟩⟩⟩
 |@lines i j2 n x0 h0=>obtain⟨y0,rfl,r0⟩:=tG pu;refine qf ha T.a5.cl T.e8 hf.b ?_;refine qf ha T.a5.cl T.d5 hf.c ?_;refine qf ha T.a5.cl T.a9 hf.a ?_;refine⟨rfl,_,rfl,au (λ h=>absurd h (by decide)) λ _=>?_⟩;refine qf ha T.a5.cl T.a9 hf.a ?_;refine⟨rfl,_,rfl,au (λ h=>absurd h (by decide)) λ _=>?_⟩;refine qf ha T.a5.cl T.a9 hf.a ?_;refine⟨rfl,_,rfl,au (λ h=>absurd h (by decide)) λ _=>?_⟩;refine qf ha T.a5.cl T.a9 hf.a ?_;refine⟨rfl,_,rfl,au (λ h=>absurd h (by decide)) λ _=>?_⟩;exact⟨_,rfl,_,rfl,qi (SqL.of hnl) (aT (j:=0) (v:=V.int i) rfl) ⟨_,rfl,qi (SqL.of hnl) (aT (j:=1) (v:=V.int j2) rfl) ⟨_,rfl,qi (SqL.of hnl) (aT (j:=2) (v:=V.int n) rfl) ⟨_,rfl,qi (SqL.of hrl) (aT (j:=0) (v:=y0) rfl) ⟨_,_,_,_,_,d,_,rfl,D,fu r0 h0,Ea h0,k⟩⟩⟩⟩⟩
 |rename h0 h1=>exact absurd hq (by decide)
 |refile h0 h1=>exact absurd hq (by decide)
 |reparam h0 h1 h2=>exact absurd hq (by decide)
 |resettle h0 h1=>exact absurd hq (by decide)
 |names=>exact absurd hq (by decide)
 |files=>exact absurd hq (by decide)
 |settings=>exact absurd hq (by decide)
 |parts h0=>exact absurd hq (by decide)
 |uses h0=>exact absurd hq (by decide)
 |params h0=>exact absurd hq (by decide)
 |pieces=>exact absurd hq (by decide)
 |size=>exact absurd hq (by decide)
theorem oq(T:bX K mg ad):aY P w K mg base 15 "renamed_answer" ["document","call"] (ld ad [7,8,9,10]):=by
 refine T.KJ.good (N:=["document","call","rows"]) cj λ l H vs Q E hr hu6 hu nd h=>?_;obtain⟨p,v,d,q,ns,xs,j,c,rfl,D,⟨a,dx,fs,nl,rl,us,rfl,ha,hf,hnl,hrl,pu⟩,hc,hq,k⟩:=h;refine⟨_,(aa (bf 2 nd (aC aQ))
   (aa (aA (aq bo (aC aQ) (af T.o6) (ax _)) (ac (ah (az (BX T) hr (ag aH (dU (bv bb bJ al (λ _ _=>rfl)) (bv bb bJ al (λ _ _=>rfl))))))) ak)
   (aa (aA (aq bo (aC aQ) (af T.o7) (ax _)) (ac (ah (az (BY T) hr (ag aH (dU (bv bb bJ al (λ _ _=>rfl)) (bv bb bJ al (λ _ _=>rfl))))))) ak)
   (aa (aA (aq bo (aC aQ) (af T.o8) (ax _)) (ac (ah (az (zK T) hr (ag aH (ag (bv bb bJ al (λ _ _=>rfl)) (dU (bv bb bJ al (λ _ _=>rfl)) (bv bb bJ al (λ _ _=>rfl)))))))) ak)
   (ac (ah (az (yd T) hr (ag aH (dU (bv bb bJ al (λ _ _=>rfl)) (bv bb bJ al (λ _ _=>rfl))))))))))),?_⟩
 cases hc with
 |read h0=>exact absurd hq (by decide)
 |showAll=>exact absurd hq (by decide)
 |block=>exact absurd hq (by decide)
 |put h0=>exact absurd hq (by decide)
 |cut=>exact absurd hq (by decide)
 |move=>exact absurd hq (by decide)
 |lines h0=>exact absurd hq (by decide)
 |rename h0 h1=>obtain⟨y0,y1,rfl,r0,r1⟩:=AF pu;refine qf ha T.a5.cl T.d5 hf.c ?_;refine qf ha T.a5.cl T.a9 hf.a ?_;refine⟨rfl,_,rfl,au (λ _=>?_) λ h=>absurd (by decide) h⟩;exact⟨_,rfl,_,rfl,qi (SqL.of hrl) (aT (j:=0) (v:=y0) rfl) ⟨_,rfl,qi (SqL.of hrl) (aT (j:=1) (v:=y1) rfl) ⟨_,_,_,d,_,_,rfl,D,fu r0 h0,fu r1 h1,k⟩⟩⟩
 |refile h0 h1=>obtain⟨y0,y1,rfl,r0,r1⟩:=AF pu;refine qf ha T.a5.cl T.d5 hf.c ?_;refine qf ha T.a5.cl T.a9 hf.a ?_;refine⟨rfl,_,rfl,au (λ h=>absurd h (by decide)) λ _=>?_⟩;refine qf ha T.a5.cl T.a9 hf.a ?_;refine⟨rfl,_,rfl,au (λ _=>?_) λ h=>absurd (by decide) h⟩;exact⟨_,rfl,_,rfl,qi (SqL.of hrl) (aT (j:=0) (v:=y0) rfl) ⟨_,rfl,qi (SqL.of hrl) (aT (j:=1) (v:=y1) rfl) ⟨_,_,_,d,_,_,rfl,D,fu r0 h0,fu r1 h1,k⟩⟩⟩
 |reparam h0 h1 h2=>obtain⟨y0,y1,y2,rfl,r0,r1,r2⟩:=Ia pu;refine qf ha T.a5.cl T.d5 hf.c ?_;refine qf ha T.a5.cl T.a9 hf.a ?_;refine⟨rfl,_,rfl,au (λ h=>absurd h (by decide)) λ _=>?_⟩;refine qf ha T.a5.cl T.a9 hf.a ?_;refine⟨rfl,_,rfl,au (λ h=>absurd h (by decide)) λ _=>?_⟩;refine qf ha T.a5.cl T.a9 hf.a ?_;refine⟨rfl,_,rfl,au (λ _=>?_) λ h=>absurd (by decide) h⟩;exact⟨_,rfl,_,rfl,qi (SqL.of hrl) (aT (j:=0) (v:=y0) rfl) ⟨_,rfl,qi (SqL.of hrl) (aT (j:=1) (v:=y1) rfl) ⟨_,rfl,qi (SqL.of hrl) (aT (j:=2) (v:=y2) rfl) ⟨_,_,_,_,d,_,_,_,rfl,D,fu r0 h0,fu r1 h1,fu r2 h2,k⟩⟩⟩⟩
 |resettle h0 h1=>obtain⟨y0,y1,rfl,r0,r1⟩:=AF pu;refine qf ha T.a5.cl T.d5 hf.c ?_;refine qf ha T.a5.cl T.a9 hf.a ?_;refine⟨rfl,_,rfl,au (λ h=>absurd h (by decide)) λ _=>?_⟩;refine qf ha T.a5.cl T.a9 hf.a ?_;refine⟨rfl,_,rfl,au (λ h=>absurd h (by decide)) λ _=>?_⟩;refine qf ha T.a5.cl T.a9 hf.a ?_;refine⟨rfl,_,rfl,au (λ h=>absurd h (by decide)) λ _=>?_⟩;exact⟨_,rfl,_,rfl,qi (SqL.of hrl) (aT (j:=0) (v:=y0) rfl) ⟨_,rfl,qi (SqL.of hrl) (aT (j:=1) (v:=y1) rfl) ⟨_,_,_,d,_,_,rfl,D,fu r0 h0,fu r1 h1,k⟩⟩⟩
 |names=>exact absurd hq (by decide)
 |files=>exact absurd hq (by decide)
 |settings=>exact absurd hq (by decide)
 |parts h0=>exact absurd hq (by decide)
 |uses h0=>exact absurd hq (by decide)
 |params h0=>exact absurd hq (by decide)
 |pieces=>exact absurd hq (by decide)
 |size=>exact absurd hq (by decide)
theorem qD(T:bX K mg ad):aY P w K mg base 8 "whole_answer" ["document","call"] (ld ad [1,11,12,13,18]):=by
 refine T.KK.good (N:=["document","call"]) cj λ l H vs Q E hr hu6 hu nd h=>?_;obtain⟨p,v,d,q,ns,xs,j,c,rfl,D,⟨a,dx,fs,nl,rl,us,rfl,ha,hf,hnl,hrl,pu⟩,hc,hq,k⟩:=h;refine⟨_,(aa (aA (aq bo (aC aQ) (af T.o2) (ax _)) (ac (ah (az (Fi T) hr (aD aH)))) ak)
   (aa (aA (aq bo (aC aQ) (af T.o9) (ax _)) (ac (ah (az (DQ T) hr (aD aH)))) ak)
   (aa (aA (aq bo (aC aQ) (af T.q0) (ax _)) (ac (ah (az (DR T) hr (aD aH)))) ak)
   (aa (aA (aq bo (aC aQ) (af T.r8) (ax _)) (ac (ah (az (xZ T) hr (aD aH)))) ak)
   (ac (ah (az (Fj T) hr (aD aH)))))))),?_⟩
 cases hc with
 |read h0=>exact absurd hq (by decide)
 |showAll=>refine qf ha T.a5.cl T.a9 hf.a ?_;refine⟨rfl,_,rfl,au (λ _=>?_) λ h=>absurd (by decide) h⟩;exact⟨_,rfl,_,d,rfl,D,k⟩
 |block=>exact absurd hq (by decide)
 |put h0=>exact absurd hq (by decide)
 |cut=>exact absurd hq (by decide)
 |move=>exact absurd hq (by decide)
 |lines h0=>exact absurd hq (by decide)
 |rename h0 h1=>exact absurd hq (by decide)
 |refile h0 h1=>exact absurd hq (by decide)
 |reparam h0 h1 h2=>exact absurd hq (by decide)
 |resettle h0 h1=>exact absurd hq (by decide)
 |names=>refine qf ha T.a5.cl T.a9 hf.a ?_;refine⟨rfl,_,rfl,au (λ h=>absurd h (by decide)) λ _=>?_⟩;refine qf ha T.a5.cl T.a9 hf.a ?_;refine⟨rfl,_,rfl,au (λ _=>?_) λ h=>absurd (by decide) h⟩;exact⟨_,rfl,_,d,rfl,D,k⟩
 |files=>refine qf ha T.a5.cl T.a9 hf.a ?_;refine⟨rfl,_,rfl,au (λ h=>absurd h (by decide)) λ _=>?_⟩;refine qf ha T.a5.cl T.a9 hf.a ?_;refine⟨rfl,_,rfl,au (λ h=>absurd h (by decide)) λ _=>?_⟩;refine qf ha T.a5.cl T.a9 hf.a ?_;refine⟨rfl,_,rfl,au (λ _=>?_) λ h=>absurd (by decide) h⟩;exact⟨_,rfl,_,d,rfl,D,k⟩
 |settings=>refine qf ha T.a5.cl T.a9 hf.a ?_;refine⟨rfl,_,rfl,au (λ h=>absurd h (by decide)) λ _=>?_⟩;refine qf ha T.a5.cl T.a9 hf.a ?_;refine⟨rfl,_,rfl,au (λ h=>absurd h (by decide)) λ _=>?_⟩;refine qf ha T.a5.cl T.a9 hf.a ?_;refine⟨rfl,_,rfl,au (λ h=>absurd h (by decide)) λ _=>?_⟩;refine qf ha T.a5.cl T.a9 hf.a ?_;refine⟨rfl,_,rfl,au (λ _=>?_) λ h=>absurd (by decide) h⟩;exact⟨_,rfl,_,d,rfl,D,k⟩
 |parts h0=>exact absurd hq (by decide)
 |uses h0=>exact absurd hq (by decide)
 |params h0=>exact absurd hq (by decide)
 |pieces=>exact absurd hq (by decide)
 |size=>refine qf ha T.a5.cl T.a9 hf.a ?_;refine⟨rfl,_,rfl,au (λ h=>absurd h (by decide)) λ _=>?_⟩;refine qf ha T.a5.cl T.a9 hf.a ?_;refine⟨rfl,_,rfl,au (λ h=>absurd h (by decide)) λ _=>?_⟩;refine qf ha T.a5.cl T.a9 hf.a ?_;refine⟨rfl,_,rfl,au (λ h=>absurd h (by decide)) λ _=>?_⟩;refine qf ha T.a5.cl T.a9 hf.a ?_;refine⟨rfl,_,rfl,au (λ h=>absurd h (by decide)) λ _=>?_⟩;exact⟨_,rfl,_,d,rfl,D,k⟩
theorem pz(T:bX K mg ad):aY P w K mg base 7 "single_answer" ["document","call"] (ld ad [2,14,15,16,17]):=by
 refine T.KL.good (N:=["document","call","numbers","rows"]) cj λ l H vs Q E hr hu6 hu nd h=>?_;obtain⟨p,v,d,q,ns,xs,j,c,rfl,D,⟨a,dx,fs,nl,rl,us,rfl,ha,hf,hnl,hrl,pu⟩,hc,hq,k⟩:=h;refine⟨_,(aa (bf 2 nd (aC aQ))
   (aa (bf 3 nd (aC aQ))
   (aa (aA (aq bo (aC aQ) (af T.v0) (ax _)) (ac (ah (az (Dz T) hr (dU aH (bv bb bJ al (λ _ _=>rfl)))))) ak)
   (aa (aA (aq bo (aC aQ) (af T.w4) (ax _)) (ac (ah (az (DV T) hr (ag aH (dU (bv bb bJ al (λ _ _=>rfl)) (bv bb dF al (λ _ _=>rfl))))))) ak)
   (aa (aA (aq bo (aC aQ) (af T.w6) (ax _)) (ac (ah (az (Fw T) hr (dU aH (bv bb dF al (λ _ _=>rfl)))))) ak)
   (aa (aA (aq bo (aC aQ) (af T.w8) (ax _)) (ac (ah (az (Ca T) hr (dU aH (bv bb dF al (λ _ _=>rfl)))))) ak)
   (ac (ah (az (Cb T) hr (ag aH (dU (bv bb bJ al (λ _ _=>rfl)) (bv bb bJ al (λ _ _=>rfl))))))))))))),?_⟩
 cases hc with
 |read h0=>exact absurd hq (by decide)
 |showAll=>exact absurd hq (by decide)
 |@block i=>refine qf ha T.a5.cl T.e8 hf.b ?_;refine qf ha T.a5.cl T.d5 hf.c ?_;refine qf ha T.a5.cl T.a9 hf.a ?_;refine⟨rfl,_,rfl,au (λ _=>?_) λ h=>absurd (by decide) h⟩;exact⟨_,rfl,_,rfl,qi (SqL.of hnl) (aT (j:=0) (v:=V.int i) rfl) ⟨_,_,d,rfl,D,k⟩⟩
 |put h0=>exact absurd hq (by decide)
 |cut=>exact absurd hq (by decide)
 |move=>exact absurd hq (by decide)
 |lines h0=>exact absurd hq (by decide)
 |rename h0 h1=>exact absurd hq (by decide)
 |refile h0 h1=>exact absurd hq (by decide)
 |reparam h0 h1 h2=>exact absurd hq (by decide)
 |resettle h0 h1=>exact absurd hq (by decide)
 |names=>exact absurd hq (by decide)
 |files=>exact absurd hq (by decide)
 |settings=>exact absurd hq (by decide)
 |@parts i x0 h0=>obtain⟨y0,rfl,r0⟩:=tG pu;refine qf ha T.a5.cl T.e8 hf.b ?_;refine qf ha T.a5.cl T.d5 hf.c ?_;refine qf ha T.a5.cl T.a9 hf.a ?_;refine⟨rfl,_,rfl,au (λ h=>absurd h (by decide)) λ _=>?_⟩;refine qf ha T.a5.cl T.a9 hf.a ?_;refine⟨rfl,_,rfl,au (λ _=>?_) λ h=>absurd (by decide) h⟩;exact⟨_,rfl,_,rfl,qi (SqL.of hnl) (aT (j:=0) (v:=V.int i) rfl) ⟨_,rfl,qi (SqL.of hrl) (aT (j:=0) (v:=y0) rfl) ⟨_,_,_,d,_,rfl,D,fu r0 h0,k⟩⟩⟩
 |uses h0=>obtain⟨y0,rfl,r0⟩:=tG pu;refine qf ha T.a5.cl T.e8 hf.b ?_;refine qf ha T.a5.cl T.d5 hf.c ?_;refine qf ha T.a5.cl T.a9 hf.a ?_;refine⟨rfl,_,rfl,au (λ h=>absurd h (by decide)) λ _=>?_⟩;refine qf ha T.a5.cl T.a9 hf.a ?_;refine⟨rfl,_,rfl,au (λ h=>absurd h (by decide)) λ _=>?_⟩;refine qf ha T.a5.cl T.a9 hf.a ?_;refine⟨rfl,_,rfl,au (λ _=>?_) λ h=>absurd (by decide) h⟩;exact⟨_,rfl,_,rfl,qi (SqL.of hrl) (aT (j:=0) (v:=y0) rfl) ⟨_,_,d,_,rfl,D,fu r0 h0,k⟩⟩
 |params h0=>obtain⟨y0,rfl,r0⟩:=tG pu;refine qf ha T.a5.cl T.e8 hf.b ?_;refine qf ha T.a5.cl T.d5 hf.c ?_;refine qf ha T.a5.cl T.a9 hf.a ?_;refine⟨rfl,_,rfl,au (λ h=>absurd h (by decide)) λ _=>?_⟩;refine qf ha T.a5.cl T.a9 hf.a ?_;refine⟨rfl,_,rfl,au (λ h=>absurd h (by decide)) λ _=>?_⟩;refine qf ha T.a5.cl T.a9 hf.a ?_;refine⟨rfl,_,rfl,au (λ h=>absurd h (by decide)) λ _=>?_⟩;refine qf ha T.a5.cl T.a9 hf.a ?_;refine⟨rfl,_,rfl,au (λ _=>?_) λ h=>absurd (by decide) h⟩;exact⟨_,rfl,_,rfl,qi (SqL.of hrl) (aT (j:=0) (v:=y0) rfl) ⟨_,_,d,_,rfl,D,fu r0 h0,k⟩⟩
 |@pieces i j2=>refine qf ha T.a5.cl T.e8 hf.b ?_;refine qf ha T.a5.cl T.d5 hf.c ?_;refine qf ha T.a5.cl T.a9 hf.a ?_;refine⟨rfl,_,rfl,au (λ h=>absurd h (by decide)) λ _=>?_⟩;refine qf ha T.a5.cl T.a9 hf.a ?_;refine⟨rfl,_,rfl,au (λ h=>absurd h (by decide)) λ _=>?_⟩;refine qf ha T.a5.cl T.a9 hf.a ?_;refine⟨rfl,_,rfl,au (λ h=>absurd h (by decide)) λ _=>?_⟩;refine qf ha T.a5.cl T.a9 hf.a ?_;refine⟨rfl,_,rfl,au (λ h=>absurd h (by decide)) λ _=>?_⟩;exact⟨_,rfl,_,rfl,qi (SqL.of hnl) (aT (j:=0) (v:=V.int i) rfl) ⟨_,rfl,qi (SqL.of hnl) (aT (j:=1) (v:=V.int j2) rfl) ⟨_,_,_,d,rfl,D,k⟩⟩⟩
 |size=>exact absurd hq (by decide)
theorem jh(q:Int)(l:List Int):zW (V.int q) (l.map V.int)=decide (q∈l):=by
 unfold zW;rw[List.any_map];by_cases h:q∈l
 ·rw[Ll h,Qx];exact⟨q,h,by show(q==q)=true;simp⟩
 ·rw[Mn h,List.any_eq_false];intro z hz e;have e:(z==q)=true:=e;exact h (by rw[<-eq_of_beq e];exact hz)
theorem wk{ad:Ad}{g:Addr}{od:Obj}{acc:List V}{G:Hp}(h:G g=some (.frz od (.lst acc))):jz ad [g] G:=by
 refine⟨λ m hm o e=>?_,λ m hm C dx fs e=>?_⟩
 ·rw[Lu.mp hm,h]at e;cases e;rfl
 ·rw[Lu.mp hm,h]at e;cases e
theorem aE.offG{ad:Ad}{g:Addr}{od:Obj}{acc:List V}{G:Hp}(hg:G g=some (.frz od (.lst acc))){v:V}{b:Block}(h:aE ad G v b):aE ad (bS [g] G) v b:=by
 have n:=wk (ad:=ad) hg;cases b with
 |prose t=>
  obtain⟨a,dx,fs,v1,e,h,hf,r⟩:=h;refine⟨a,dx,fs,v1,e,?_,hf,r.off n.t⟩;rw[bE]
  ·exact h
  ·intro q;rw[Lu.mp q,hg]at h;cases h
 |chunk c=>
  obtain⟨a,dx,fs,v1,v2,ll,ws,h⟩:=h;refine⟨a,dx,fs,v1,v2,ll,ws,h.offL n ?_ ?_⟩
  ·intro q;have:=h.ins;rw[Lu.mp q,hg]at this;cases this
  ·intro q;have:=h.lst;rw[Lu.mp q,hg]at this;cases this
theorem Eb(p g:Addr)(H:Hp):bS [p] (bS [g] H)=bS [g] (bS [p] H):=by funext b;unfold bS;by_cases h1:b∈[p]<;>by_cases h2:b∈[g]<;>simp[h1,h2]
theorem cH.offG{ad:Ad}{H:Hp}{p g:Addr}{d:Document}{od:Obj}{acc:List V}(h:cH ad H p d)(hg:H g=some (.frz od (.lst acc))):cH ad (bS [g] H) p d:=by
 obtain⟨dx,fs,bl,D⟩:=h;have np:p≠g:=λ q=>by have:=D.ins;rw[q,hg]at this;cases this
 obtain⟨ws,hb,pb,zb⟩:=D.doc;have hg':(bS [p] H) g=some (.frz od (.lst acc)):=by rw[bE (by simpa using np.symm)];exact hg
 have nb:bl≠g:=λ q=>by rw[q,hg']at hb;cases hb
 refine⟨dx,fs,bl,?_,D.has,D.few,D.only,?_,D.wf,D.fit⟩
 ·rw[bE (by simpa using np)];exact D.ins
 ·rw[Eb];refine⟨ws,?_,Paired.mapP pb λ _ _ r=>aE.offG hg' r,zb⟩;rw[bE (by simpa using nb)];exact hb
theorem jM.offG{ad:Ad}{H:Hp}{v:V}{q:Int}{ns:List Int}{xs:List (List Int)}{j:Nat}{g:Addr}{od:Obj}{acc:List V}(h:jM ad H v q ns xs j)(hg:H g=some (.frz od (.lst acc))):jM ad (bS [g] H) v q ns xs j:=by
 obtain⟨a,dx,fs,nl,rl,us,e,ha,hf,hn,hr,p⟩:=h;have ne:∀{b:Addr} {o:HO},H b=some o->o≠.frz od (.lst acc)->bS [g] H b=some o:=fun{b o} hb n=>by
  rw[bE]
  ·exact hb
  ·intro q;rw[Lu.mp q,hg]at hb;exact n (Lz hb).symm
 refine⟨a,dx,fs,nl,rl,us,e,ne ha (by intro q;cases q),hf,ne hn (by intro q;cases q),ne hr (by intro q;cases q),Paired.mapP p λ _ _ ⟨b,e,hb⟩=>⟨b,e,ne hb (by intro q;cases q)⟩⟩
theorem tH{g:Addr}{H:Hp}{o:HO}:ae (bS [g] H) (upd H g o):=λ b u e=>by obtain⟨n,h⟩:=cQ e;rw[am (by simpa using n)];exact h
def Jh:List Int:=[0,1,2,3,4,5,6,7,8,9,10,11,12,13,14,15,16,17,18]
theorem wl(T:bX K mg ad):aY P w K mg base 16 "answer_of" ["document","call"] (ld ad Jh):=by
 refine T.KM.good (N:=["document","call"]) cj λ l H vs Q E hr hu6 hu nd h=>?_;obtain⟨p,v,d,q,ns,xs,j,c,rfl,D,Cc,hc,hq,k⟩:=h;obtain⟨a,dx,fs,nl,rl,us,rfl,ha,hf,hnl,hrl,pu⟩:=id Cc;refine⟨_,(aa (aA (aq lj (aC aQ) (bx (ag (af T.o1) (ag (af T.o3) (ag (af T.o4) (dU (af T.o5) (af T.v8)))))) (by with_unfolding_all rfl)) (ac (ah (az (pk T) hr (dU aH aQ)))) ak)
   (aa (aA (aq lj (aC aQ) (bx (ag (af T.o6) (ag (af T.o7) (dU (af T.o8) (af T.v9))))) (by with_unfolding_all rfl)) (ac (ah (az (oq T) hr (dU aH aQ)))) ak)
   (aa (aA (aq lj (aC aQ) (bx (ag (af T.o2) (ag (af T.o9) (ag (af T.q0) (dU (af T.r8) (af T.w9)))))) (by with_unfolding_all rfl)) (ac (ah (az (qD T) hr (dU aH aQ)))) ak)
   (ac (ah (az (pz T) hr (dU aH aQ))))))),?_⟩
 refine qf ha T.a5.cl T.a9 hf.a ?_;refine⟨(by show 5<=sizeLine;decide),λ t1 n1=>⟨t1,_,rfl,.inr (ci.of ab),rfl,rfl,_,rfl,?_⟩⟩;have s1:=ae.new (o:=.tup (([0,3,4,5,6]:List Int).map V.int)) n1;refine au (λ h1=>?_) λ h1=>?_
 ·have h1:zW (V.int q) (([0,3,4,5,6]:List Int).map V.int)=true:=h1;rw[jh]at h1;exact⟨_,rfl,_,rfl,p,_,d,q,ns,xs,j,c,rfl,D.same s1,Cc.same s1,hc,Lh h1,k.same s1⟩
 have h1:¬zW (V.int q) (([0,3,4,5,6]:List Int).map V.int)=true:=h1;rw[jh]at h1;have h1:q∉([0,3,4,5,6]:List Int):=λ z=>h1 (Ll z);refine qf (s1 _ _ ha) T.a5.cl T.a9 hf.a ?_;refine⟨(by show 4<=sizeLine;decide),λ t2 n2=>⟨t2,_,rfl,.inr (ci.of ab),rfl,rfl,_,rfl,?_⟩⟩;have s2:=s1.trans (ae.new (o:=.tup (([7,8,9,10]:List Int).map V.int)) n2);refine au (λ h2=>?_) λ h2=>?_
 ·have h2:zW (V.int q) (([7,8,9,10]:List Int).map V.int)=true:=h2;rw[jh]at h2;exact⟨_,rfl,_,rfl,p,_,d,q,ns,xs,j,c,rfl,D.same s2,Cc.same s2,hc,Lh h2,k.same s2⟩
 have h2:¬zW (V.int q) (([7,8,9,10]:List Int).map V.int)=true:=h2;rw[jh]at h2;have h2:q∉([7,8,9,10]:List Int):=λ z=>h2 (Ll z);refine qf (s2 _ _ ha) T.a5.cl T.a9 hf.a ?_;refine⟨(by show 5<=sizeLine;decide),λ t3 n3=>⟨t3,_,rfl,.inr (ci.of ab),rfl,rfl,_,rfl,?_⟩⟩;have s3:=s2.trans (ae.new (o:=.tup (([1,11,12,13,18]:List Int).map V.int)) n3);refine au (λ h3=>?_) λ h3=>?_
 ·have h3:zW (V.int q) (([1,11,12,13,18]:List Int).map V.int)=true:=h3;rw[jh]at h3;exact⟨_,rfl,_,rfl,p,_,d,q,ns,xs,j,c,rfl,D.same s3,Cc.same s3,hc,Lh h3,k.same s3⟩
 have h3:¬zW (V.int q) (([1,11,12,13,18]:List Int).map V.int)=true:=h3;rw[jh]at h3;have h3:q∉([1,11,12,13,18]:List Int):=λ z=>h3 (Ll z);have h4:q∈([2,14,15,16,17]:List Int):=by
  rcases(show ∀q∈([0,1,2,3,4,5,6,7,8,9,10,11,12,13,14,15,16,17,18]:List Int),q∈([0,3,4,5,6]:List Int)\/q∈([7,8,9,10]:List Int)\/q∈([1,11,12,13,18]:List Int)\/q∈([2,14,15,16,17]:List Int) by decide) q hq with h |h |h |h
  ·exact absurd h h1
  ·exact absurd h h2
  ·exact absurd h h3
  ·exact h
 exact⟨_,rfl,_,rfl,p,_,d,q,ns,xs,j,c,rfl,D.same s3,Cc.same s3,hc,h4,k.same s3⟩
theorem Ec{q:Int}{ns:List Int}{xs:List (List Int)}{c:Valita.Call}(h:ic q ns xs c):q∈Jh:=by cases h<;>decide
theorem FC{d:Document}(hw:cJ d)(hf:(Valita.documentText d).length<=20000)(c:Valita.Call):(ja (Valita.does ⟨d⟩ c)).length<=100000:=by
 have h:=DH hw hf c;cases e:Valita.does ⟨d⟩ c with
 |ok x=>rw[e]at h;show(x.2.map _).length<=_;rw[Ls];exact h
 |error n=>show 1<=100000;decide
def spAnswers(K:PySem.W.Frag):Sp:=λ vs H Q _=>∃(a:Addr) (L:List Int),vs=[.ref a]/\SqL K H a (L.map V.int)/\L.length<=16000/\PyValita.answers_asked L=true/\∀(H':Hp) (g:Addr),H' g=some (.lst ((PyValita.answers L).map V.int))->Q (.ref g) H'
theorem tI:ie ["calls","document","given","place","call","answer"] ["calls"] (aB (bg 181)):=cj
theorem wm(T:bX K mg ad):∃f fd,mX K "answers" "answers" (bg 181) f fd/\mg "answers"=some (.ref f)/\∀base:Heap,lJ P w K mg base CX0 17 f fd ["calls"] (spAnswers K):=by
 obtain⟨f,fd,F,hm⟩:=T.KN;refine⟨f,fd,F,hm,λ base=>?_⟩;refine F.ok tI (by intro vs H Q E h;repeat (first |(obtain⟨e,_⟩:=h;subst e;rfl) |obtain⟨_,h⟩:=h)) λ cdv A outer s H vs Q E hr h=>?_;have nd:=tI.nd;have hu6:=hr.units;have hu:=Ac hr;obtain⟨a,L,rfl,hS,hz,hask,k⟩:=h;obtain⟨cs0,hcs0,hall0,hlen0⟩:∃cs,PyFlat.calls PyValita.shape L.length L=some cs/\(∀c∈cs,ValitaNeutral.asked1 c=true)/\cs.length<=40:=by
  unfold PyValita.answers_asked at hask;rw[xX]at hask;cases e:PyFlat.calls PyValita.shape L.length L with
  |none=>rw[e]at hask;cases hask
  |some cs=>rw[e]at hask;have hask:(PyFlat.atMost 40 cs&&ValitaNeutral.asked cs)=true:=hask;rw[Li]at hask;have h2:=hask.2;unfold ValitaNeutral.asked at h2;rw[Li]at h2;exact⟨cs,rfl,λ c hc=>Nk.mp h2.1 c hc,Lh hask.1⟩
 have hans:PyValita.answers L=PyFlat.told (PyFlat.played ValitaNeutral.step ⟨[]⟩ cs0):=by unfold PyValita.answers;rw[xX,hcs0];rfl
 refine⟨_,(aa (bf 1 nd (FN (xB T) hr))
   (aa (bf 2 nd (aG aF))
   (aa (bf 3 nd al)
   (aa (rg Mu (aq pD dF (bR T.a7 aj (aD aH)) (ax _)) (aa (bf 4 nd (Ab (az (zO T) hr (dU aH dF))))
   (aa (bf 5 nd (Ab (az (wl T) hr (dU aQ jk))))
   (aa (aV (bZ Lk Ma Mb bq bJ (aD (bR T.a7 aj (aD (pv 5))))))
   (aa (aV (bZ Lk Ml Mm dq bJ (aD (pv 5))))
   (ac (bf 3 nd (aC jk))))))))
   (ac (ah bJ)))))),?_⟩
 intro p dp hp hdp hne;refine⟨p,dp,H,rfl,rfl,hp,hdp,hne,λ H1 s1 D1=>⟨rfl,?_⟩⟩;refine⟨Lj _,λ g ng=>?_⟩;have hgH:H g=none:=s1.free ng;have ngp:g≠p:=by obtain⟨_,_,_,D⟩:=D1;exact(ay D.ins ng).symm
 have s2:=ae.new (o:=.lst []) ng;have D2:cH ad (bS [g] (L2.upd H1 g (.lst []))) p []:=D1.same (lb s2 ng);refine⟨λ m σ H'=>∃(i:Nat) (z:Int) (d:Document) (done:List Int) (cs:List (List (List Int))) (f:Nat) (x4 x5:Option V),z=(i:Int)/\σ=[some (.ref a),some (.ref p),some (.ref g),some (.int z),x4,x5]/\m=L.length - i/\i<=L.length/\ae H H'/\cH ad (bS [g] H') p d/\H' g=some (.lst (done.map V.int))/\PyFlat.calls PyValita.shape f (L.drop i)=some cs/\(∀c∈cs,ValitaNeutral.asked1 c=true)/\done.length+cs.length*100001<=4000040/\PyValita.answers L=done++PyFlat.told (PyFlat.played ValitaNeutral.step ⟨d⟩ cs),
  ⟨_,0,0,[],[],cs0,L.length,none,none,rfl,rfl,rfl,Lj _,s1.trans s2,D2,ab,hcs0,hall0,(by rw[Mo];omega),hans⟩,?_⟩
 rintro m σ H' ⟨i,z,d,done,cs,f,x4,x5,rfl,rfl,rfl,hi,s,D,hg,hcs,hall,hlen,hans2⟩;refine⟨_,rfl,_,rfl,ql (.inl (s.seq hS)) (qn ⟨_,rfl,au (λ h1=>?_) λ h1=>?_⟩)⟩
 ·have h1:=Lh h1;rw[Ls]at h1;have hlt:i<L.length:=by omega
  obtain⟨c,cs',t,f',hcall,rfl,hcs'⟩:=sV hlt hcs;obtain⟨q,n,kk,xs,hq,hsh,hn,hrw,rfl⟩:=AC hlt hcall;have lx:=(sU hn hrw).1;have ln:((L.drop (i+1)).take n).length=n:=by rw[Lr,Lw];omega
  obtain⟨c,hasks,hof⟩:=Fq hsh ln lx (hall _ (.head _));have hpl:=xW (d:=d) (cs:=cs') hof;have hal:(ja (Valita.does ⟨d⟩ c)).length<=100000:=by obtain⟨_,_,_,D⟩:=D;exact FC D.wf D.fit c
  rw[Lg,Nat.add_mul]at hlen;refine⟨λ σ' H3=>∃(j:Nat) (x4 x5:Option V),i<j/\j<=L.length/\t=L.drop j/\σ'=[some (.ref a),some (.ref p),some (.ref g),some (.int (j:Int)),x4,x5]/\ae H H3/\cH ad (bS [g] H3) p (Ax d (Valita.does ⟨d⟩ c))/\H3 g=some (.lst ((done++[((ja (Valita.does ⟨d⟩ c)).length:Int)]++ja (Valita.does ⟨d⟩ c)).map V.int)),?_,?_⟩
  ·rintro σ' H3 ⟨j,y4,y5,hij,hj,et,rfl,s3,D3,hg3⟩;refine⟨L.length - j,by omega,j,_,_,_,cs',f',y4,y5,rfl,rfl,rfl,hj,s3,D3,hg3,by rw[<-et];exact hcs',λ c hc=>hall c (.tail _ hc),?_,?_⟩
   ·rw[La,La,Lx];omega
   ·rw[hans2,hpl];simp
  refine⟨g,.lst (done.map V.int),hg,True.intro,λ od=>?_⟩;have sL:ae H (L2.upd H' g (.frz od (.lst (done.map V.int)))):=ae.upd s hgH;refine⟨_,rfl,_,rfl,a,L,i,q,n,kk,xs,t,rfl,sL.seq hS,hz,hq,hsh,hn,hrw,λ v H2 j sc hc et hij hjl=>?_⟩;have hg2:H2 g=some (.frz od (.lst (done.map V.int))):=sc _ _ ab;refine⟨hg2,?_⟩;have C2:=hc.offG hg2;have D2:cH ad (bS [g] H2) p d:=by have q1:=aU (M:=[g]) sc;rw[cf (.head _)]at q1;exact D.same q1
  have sH2:=sL.trans sc;have s3:ae H (L2.upd H2 g (.lst (done.map V.int))):=ae.upd sH2 hgH;refine⟨g,.lst (done.map V.int),ab,True.intro,λ od2=>?_⟩;rw[vc];have sL2:ae H (L2.upd H2 g (.frz od2 (.lst (done.map V.int)))):=ae.upd sH2 hgH;have hgL:(L2.upd H2 g (.frz od2 (.lst (done.map V.int)))) g=some (.frz od2 (.lst (done.map V.int))):=ab;have C3:jM ad (L2.upd H2 g (.frz od2 (.lst (done.map V.int)))) v q ((L.drop (i+1)).take n) xs j:=C2.same tH;have D3:cH ad (L2.upd H2 g (.frz od2 (.lst (done.map V.int)))) p d:=D2.same tH;generalize L2.upd H2 g (.frz od2 (.lst (done.map V.int)))=HL at sL2 hgL C3 D3;refine⟨_,rfl,_,rfl,p,v,d,q,_,xs,j,c,rfl,D3,C3,hasks,Ec hasks,λ l H4 sb nl hl D4=>?_⟩;have hg4:H4 g=some (.frz od2 (.lst (done.map V.int))):=sb.at ngp hgL;refine⟨hg4,?_⟩;have nlg:l≠g:=(ay hgL nl).symm;have D5:=D4.offG hg4;have s4:ae H H4:=sb.same sL2 hp;obtain⟨ca,dxc,fsc,nl2,rl2,us2,rfl,hca,hfc,_,_,_⟩:=C3;have ncp:ca≠p:=by
   obtain⟨_,_,_,Dx⟩:=D3;intro e;have e2:=Dx.ins;rw[<-e,hca]at e2;have hd:=T.k8;simp only[Pt,Lp,Op,Rp,Qu]at hd;have e3:ad.i≠ad.h:=λ q=>by rw[q]at hd;simp_all
   injection e2 with e2
   injection e2 with e2
   exact e3 e2
  have ncg:ca≠g:=λ e=>by rw[e,hgL]at hca;cases hca
  have hca4:H4 ca=some (.ins ad.i dxc fsc):=sb.at ncp hca;have hl5:(L2.upd H4 g (.lst (done.map V.int))) l=some (.lst ((ja (Valita.does ⟨d⟩ c)).map V.int)):=by rw[am nlg];exact hl
  refine⟨_,rfl,.inl ⟨rfl,_,SqL.of ab⟩,_,rfl,ql (.inl (SqL.of hl5)) ⟨g,_,_,rfl,rfl,ab,?_,?_⟩⟩
  ·rw[Ls];exact Lq (show _<=4000040 by omega) (by decide)
  rw[vc];have hl6:(L2.upd H4 g (.lst (done.map V.int++[V.int (((ja (Valita.does ⟨d⟩ c)).map V.int).length:Int)]))) l=some (.lst ((ja (Valita.does ⟨d⟩ c)).map V.int)):=by rw[am nlg];exact hl
  refine⟨_,rfl,.inl ⟨rfl,_,SqL.of ab⟩,_,rfl,g,l,_,_,rfl,rfl,ab,hl6,?_,?_⟩
  ·rw[La,Ls,Ls,Lx];exact Ln (show _<=4000040 by omega) (by decide)
  rw[vc];have hca7:(L2.upd H4 g (.lst (done.map V.int++[V.int (((ja (Valita.does ⟨d⟩ c)).map V.int).length:Int)]++(ja (Valita.does ⟨d⟩ c)).map V.int))) ca=some (.ins ad.i dxc fsc):=by rw[am ncg];exact hca4
  refine qf hca7 T.a5.cl T.z4 hfc.d ?_;refine⟨j,_,_,hij,hjl,et,rfl,ae.upd s4 hgH,?_,?_⟩
  ·rw[cf (.head _)];exact D5
  ·rw[ab];simp
 ·have h1:¬((i:Int)<((L.map V.int).length:Int)):=λ q=>h1 (Ll q);rw[Ls]at h1;have ei:i=L.length:=by omega
  subst ei;rw[Pb]at hcs;have:=uZ hcs;subst this;refine⟨_,rfl,k H' g ?_⟩;rw[hg,hans2];show _=some (HO.lst ((done++[]).map V.int));rw[Lv]
end Tw
namespace Th
open PySem PySem.W PyProof.Rows L2 Tw
noncomputable section
def tr(x:Str)(i f:Nat)(m:Value):Str×Stmt×Nat×Value:=(x,bg i,f,m)
noncomputable def aS:List Nat:=[3,18,19,25,26,32,33,39,40,46,47,53,54,60,61,65,66,72,73,79,80,84,85,89,90,96,97,101,102,106,107,113,114,118,119,132,133,135,136,146,147,153,154,160,161,174,175,177,178,195,196,198,199,209,210,216,217,223,224,230,231,237,238,244,245,251,252,256,257,263,264,270,271,277,278,291,292,294,295,312,313,315,316,326,327,331,332,338,339,343,344,350,351,357,358,364,365,369,370,376,377,383,384,390,391,404,405,407,408,425,426,432,433,439,440,446,447,453,454,460,461,467,468,474,475,477,478,488,489,502,503,509,510,516,517,519,520,530,531,537,538,544,545,551,552,558,559,565,566,572,573,579,580,584,585,591,592,596,597,601,602,606,607,613,614,618,619,623,624,630,631,637,638,644,645,651,652,656,657,661,662,668,669,673,674,680,681,685,686,690,691,695,696,702,703,707,708,712,713,719,720,726,727,733,734,740,741,747,748,754,755,761,762,768,769,775,776,782,783,789,790,796,797,803,804,810,811,824,825,827,828,838,839,845,846,852,853,859,860,866,867,873,874,880,881,887,888]
def JL(l:List Obj)(k:Nat):Obj:=@Nat.rec (λ _=>List Obj->Obj) (λ l=>@List.rec Obj (λ _=>Obj) oE (λ x _ _=>x) l) (λ _ f l=>@List.rec Obj (λ _=>Obj) oE (λ _ r _=>f r) l) k l
def kF(P:Params):Frag:=aS.map λ a=>(a,JL (Hd P) a)
theorem k_as(P:Params):aS=(kF P).map (·.1):=by kernel_rfl
theorem IT(w:World):aS.map (hF w.params).get?=(kF w.params).map λ p=>some p.2:=by kernel_rfl
def Ji(v:Value)(x:Str):Bool:=match v with
 |.str s _=>Fast.sEq s x
 |_=>false
theorem GY(v:Value)(x:Str):v.isStr x=Ji v x:=by
 cases v with
 |str s t=>show(s==x)=Fast.sEq s x;rw[Ow,Fast.sEq_iff,Qa]
 |_=>rfl
def Cf(K:Frag)(x:Str):Option (Option Value):=match K.lookup 3 with
 |some ⟨_,_,.dict es _,_⟩=>(match es.toList.find? (λ e=>Ji e.key x) with
   |some e=>some (some e.val)
   |none=>if es.toList.any (·.refKey) then none else some none)
 |_=>none
theorem Ed(K:Frag)(x:Str):nsIn K mainGlobals x=Cf K x:=by unfold nsIn Cf;simp only[GY];rfl
theorem Ee{α β:Type}{f g:α->β}{l:List α}(h:l.map f=l.map g){i:Nat}{r:α}(e:l[i]?=some r):f r=g r:=by have h:=Na (λ x=>x[i]?) h;simp only[Pk,e,Ri]at h;exact Lz h
abbrev nE(P:Params)(e:Str×Nat×Value):Option (Option Value):=Cf (kF P) e.1
abbrev nV(e:Str×Nat×Value):Option (Option Value):=some (some e.2.2)
theorem JM(P:Params):((dg.drop 0).take 60).map (nE P)=((dg.drop 0).take 60).map nV:=by kernel_rfl
theorem IU(P:Params):((dg.drop 60).take 60).map (nE P)=((dg.drop 60).take 60).map nV:=by kernel_rfl
theorem Ib(P:Params):((dg.drop 120).take 60).map (nE P)=((dg.drop 120).take 60).map nV:=by kernel_rfl
theorem Ic(P:Params):dg.map (nE P)=dg.map nV:=by
 have e:dg=(dg.drop 0).take 60++(dg.drop 60).take 60++(dg.drop 120).take 60:=by kernel_rfl
 rw[e];simp only[Mh,JM,IU,Ib]
noncomputable def tF:List (Str×Stmt×Nat×Value):=[tr "codes" 12 19 m0,tr "is_sign" 13 26 m0,tr "is_small_letter" 14 33 m0,tr "is_capital_letter" 15 40 m0,tr "is_digit" 16 47 m0,tr "begins_with" 17 54 m0,tr "place_of" 18 61 m0,tr "is_line_of_signs" 19 66 m0,tr "split_at" 20 73 m0,tr "is_small_letter_or_digit" 26 80 m1,tr "is_word" 27 85 m1,tr "is_name" 28 90 m1,tr "is_path_sign" 29 97 m1,tr "is_path" 30 102 m1,tr "is_short_name" 31 107 m1,tr "is_argument_sign" 32 114 m1,tr "is_argument" 33 119 m1,tr "split_listed" 36 147 m2,tr "read_called" 37 154 m2,tr "called_text" 38 161 m2,tr "read_line" 49 210 m3,tr "read_if" 50 217 m3,tr "read_code_line" 51 224 m3,tr "literal_step" 52 231 m3,tr "literal_pieces" 53 238 m3,tr "marked_end" 54 245 m3,tr "read_marked" 55 252 m3,tr "read_use" 56 257 m3,tr "piece_text" 57 264 m3,tr "literal_text" 58 271 m3,tr "line_text" 59 278 m3,tr "is_part" 67 327 m4,tr "parts_among" 68 332 m4,tr "lines_of" 69 339 m4,tr "count_lines" 70 344 m4,tr "read_header" 71 351 m4,tr "read_file_header" 72 358 m4,tr "read_chunk_header" 73 365 m4,tr "are_parameters" 74 370 m4,tr "header_text" 75 377 m4,tr "block_text" 76 384 m4,tr "blocks_text" 77 391 m4,tr "read_text" 94 489 m5,tr "read" 105 531 m7,tr "put" 106 538 m7,tr "is_stretch" 107 545 m7,tr "cut" 108 552 m7,tr "move" 109 559 m7,tr "read_lines" 110 566 m7,tr "lines" 111 573 m7,tr "pieces_of" 113 580 m8,tr "ifs_among" 114 585 m8,tr "each_once" 115 592 m8,tr "standing_names" 116 597 m8,tr "standing_files" 117 602 m8,tr "standing_settings" 118 607 m8,tr "is_part_of" 119 614 m8,tr "parts_of" 120 619 m8,tr "part_places" 121 624 m8,tr "use_places" 122 631 m8,tr "is_taken" 124 638 m9,tr "changed_row" 125 645 m9,tr "changed_piece" 126 652 m9,tr "changed_line" 127 657 m9,tr "changed_lines" 128 662 m9,tr "renamed" 129 669 m9,tr "rename" 130 674 m9,tr "refiled" 131 681 m9,tr "refile" 132 686 m9,tr "reparametered" 133 691 m9,tr "reparam" 134 696 m9,tr "resettled_line" 135 703 m9,tr "resettled" 136 708 m9,tr "resettle" 137 713 m9,tr "counted" 139 720 ox,tr "counted_texts" 140 727 ox,tr "show" 141 734 ox,tr "block" 142 741 ox,tr "names" 143 748 ox,tr "files" 144 755 ox,tr "settings" 145 762 ox,tr "parts" 146 769 ox,tr "uses" 147 776 ox,tr "params" 148 783 ox,tr "pieces" 149 790 ox,tr "line_numbers" 150 797 ox,tr "piece_numbers" 151 804 ox,tr "size" 152 811 ox,tr "form_of" 174 839 qj,tr "call_at" 175 846 qj,tr "edited_answer" 176 853 qj,tr "renamed_answer" 177 860 qj,tr "whole_answer" 178 867 qj,tr "single_answer" 179 874 qj,tr "answer_of" 180 881 qj,tr "answers" 181 888 qj]
abbrev fO(x q:Str)(s:Stmt)(m:Value)(f:Nat):Obj:=⟨.type "function",none,.func (fnOf x q (eR s) (dM s) (aB s) .none .none .none m none (.ref (f - 1)) .none),#[]⟩
abbrev fE(P:Params)(r:Str×Stmt×Nat×Value):Option Obj×Bool×Bool:=((kF P).lookup r.2.2.1,codeIn (kF P) (.ref (r.2.2.1 - 1)) r.1,keepIn (kF P) (.ref r.2.2.1))
abbrev fV(r:Str×Stmt×Nat×Value):Option Obj×Bool×Bool:=(some (fO r.1 r.1 r.2.1 r.2.2.2 r.2.2.1),true,true)
theorem JN(P:Params):((tF.drop 0).take 40).map (fE P)=((tF.drop 0).take 40).map fV:=by kernel_rfl
theorem IV(P:Params):((tF.drop 40).take 40).map (fE P)=((tF.drop 40).take 40).map fV:=by kernel_rfl
theorem IW(P:Params):((tF.drop 80).take 40).map (fE P)=((tF.drop 80).take 40).map fV:=by kernel_rfl
theorem Id(P:Params):tF.map (fE P)=tF.map fV:=by
 have e:tF=(tF.drop 0).take 40++(tF.drop 40).take 40++(tF.drop 80).take 40:=by kernel_rfl
 rw[e];simp only[Mh,JN,IV,IW]
abbrev cE(P:Params)(C:Nat):Bool×Bool×Bool×Option (Option Value)×Bool×Bool:=(plainGet (kF P) C Str.empty,hasDictIn (kF P) C,plainOver (kF P) C,findIn (kF P) (.ref C) "__setattr__",makesIn (kF P) C,keepIn (kF P) (.ref C))
abbrev cV:Bool×Bool×Bool×Option (Option Value)×Bool×Bool:=(true,true,true,some (some (.builtin "object.__setattr__")),true,true)
abbrev mE(P:Params)(C:Nat)(m q:Str)(f:Nat):Option (Option Value)×Bool×Option Obj×Bool×Bool:=(findIn (kF P) (.ref C) m,isFn (kF P) (.ref f),(kF P).lookup f,codeIn (kF P) (.ref (f - 1)) q,keepIn (kF P) (.ref f))
abbrev mV(m q:Str)(s:Stmt)(mo:Value)(f:Nat):Option (Option Value)×Bool×Option Obj×Bool×Bool:=(some (some (.ref f)),true,some (fO m q s mo f),true,true)
abbrev mP(P:Params)(C:Nat)(m q:Str)(s:Stmt)(mo:Value)(f:Nat):Prop:=mE P C m q f=mV m q s mo f
abbrev nA(P:Params)(C:Nat)(f:Str):Prop:=findIn (kF P) (.ref C) f=some none
section
variable(P:Params)
theorem c_Called:cE P 136=cV:=by kernel_rfl
theorem c_Piece:cE P 178=cV:=by kernel_rfl
theorem c_Line:cE P 199=cV:=by kernel_rfl
theorem c_Prose:cE P 295=cV:=by kernel_rfl
theorem c_Part:cE P 316=cV:=by kernel_rfl
theorem c_Reading:cE P 408=cV:=by kernel_rfl
theorem c_Reader:cE P 478=cV:=by kernel_rfl
theorem c_Document:cE P 520=cV:=by kernel_rfl
theorem c_Call:cE P 828=cV:=by kernel_rfl
theorem b_all:Cf (kF P) "all"=some none:=by kernel_rfl
theorem b_enumerate:Cf (kF P) "enumerate"=some none:=by kernel_rfl
theorem b_len:Cf (kF P) "len"=some none:=by kernel_rfl
theorem b_list:Cf (kF P) "list"=some none:=by kernel_rfl
theorem b_ord:Cf (kF P) "ord"=some none:=by kernel_rfl
theorem b_range:Cf (kF P) "range"=some none:=by kernel_rfl
theorem b_sum:Cf (kF P) "sum"=some none:=by kernel_rfl
theorem b_tuple:Cf (kF P) "tuple"=some none:=by kernel_rfl
theorem ot:mP P 136 "__init__" "Called.__init__" (ba (bg 35) 0) m2 133:=by kernel_rfl
theorem n_Called_name:nA P 136 "name":=by kernel_rfl
theorem n_Called_entries:nA P 136 "entries":=by kernel_rfl
theorem pB:mP P 178 "__init__" "Piece.__init__" (ba (bg 47) 0) m3 175:=by kernel_rfl
theorem n_Piece_kind:nA P 178 "kind":=by kernel_rfl
theorem n_Piece_text:nA P 178 "text":=by kernel_rfl
theorem n_Piece_arguments:nA P 178 "arguments":=by kernel_rfl
theorem qE:mP P 199 "__init__" "Line.__init__" (ba (bg 48) 0) m3 196:=by kernel_rfl
theorem n_Line_kind:nA P 199 "kind":=by kernel_rfl
theorem n_Line_pieces:nA P 199 "pieces":=by kernel_rfl
theorem n_Line_setting:nA P 199 "setting":=by kernel_rfl
theorem pC:mP P 295 "__init__" "Prose.__init__" (ba (bg 65) 0) m4 292:=by kernel_rfl
theorem n_Prose_kind:nA P 295 "kind":=by kernel_rfl
theorem n_Prose_row:nA P 295 "row":=by kernel_rfl
theorem qF:mP P 316 "__init__" "Part.__init__" (ba (bg 66) 0) m4 313:=by kernel_rfl
theorem n_Part_kind:nA P 316 "kind":=by kernel_rfl
theorem n_Part_name:nA P 316 "name":=by kernel_rfl
theorem n_Part_parameters:nA P 316 "parameters":=by kernel_rfl
theorem n_Part_lines:nA P 316 "lines":=by kernel_rfl
theorem mJ:mP P 408 "__init__" "Reading.__init__" (ba (bg 92) 0) m5 405:=by kernel_rfl
theorem n_Reading_blocks:nA P 408 "blocks":=by kernel_rfl
theorem n_Reading_line:nA P 408 "line":=by kernel_rfl
theorem n_Reading_reason:nA P 408 "reason":=by kernel_rfl
theorem ou:mP P 478 "__init__" "Reader.__init__" (ba (bg 93) 0) m5 426:=by kernel_rfl
theorem n_Reader_blocks:nA P 478 "blocks":=by kernel_rfl
theorem n_Reader_part_count:nA P 478 "part_count":=by kernel_rfl
theorem n_Reader_line_count:nA P 478 "line_count":=by kernel_rfl
theorem n_Reader_parameters_of:nA P 478 "parameters_of":=by kernel_rfl
theorem n_Reader_part:nA P 478 "part":=by kernel_rfl
theorem n_Reader_conditions:nA P 478 "conditions":=by kernel_rfl
theorem uc:mP P 478 "take" "Reader.take" (ba (bg 93) 1) m5 433:=by kernel_rfl
theorem jZ:mP P 478 "take_outside" "Reader.take_outside" (ba (bg 93) 2) m5 440:=by kernel_rfl
theorem lR:mP P 478 "take_prose" "Reader.take_prose" (ba (bg 93) 3) m5 447:=by kernel_rfl
theorem lf:mP P 478 "take_header" "Reader.take_header" (ba (bg 93) 4) m5 454:=by kernel_rfl
theorem ow:mP P 478 "take_end" "Reader.take_end" (ba (bg 93) 5) m5 461:=by kernel_rfl
theorem lg:mP P 478 "take_within" "Reader.take_within" (ba (bg 93) 6) m5 468:=by kernel_rfl
theorem ji:mP P 478 "take_condition" "Reader.take_condition" (ba (bg 93) 7) m5 475:=by kernel_rfl
theorem lT:mP P 520 "__init__" "Document.__init__" (ba (bg 103) 0) m6 503:=by kernel_rfl
theorem n_Document_blocks:nA P 520 "blocks":=by kernel_rfl
theorem qG:mP P 520 "hold" "Document.hold" (ba (bg 103) 1) m6 510:=by kernel_rfl
theorem jj:mP P 520 "part_refusal" "Document.part_refusal" (ba (bg 103) 2) m6 517:=by kernel_rfl
theorem qH:mP P 828 "__init__" "Call.__init__" (ba (bg 173) 0) qj 825:=by kernel_rfl
theorem n_Call_kind:nA P 828 "kind":=by kernel_rfl
theorem n_Call_numbers:nA P 828 "numbers":=by kernel_rfl
theorem n_Call_rows:nA P 828 "rows":=by kernel_rfl
theorem n_Call_end:nA P 828 "end":=by kernel_rfl
end
section
variable{P:Params}{h:Heap}{mg:Str->Option Value}{x:Str}{t f C:Nat}{n:Int}{tk:Tok}{st:Stmt}{m:Value}{q mm:Str}
theorem gB(X:(kF P).In h)(G:h.Ns mainGlobals mg)(e:Cf (kF P) x=some none):mg x=none:=mg_none_of X G ((Ed _ _).trans e)
theorem gA{v:Value}(X:(kF P).In h)(G:h.Ns mainGlobals mg)(i:Nat)(e:dg[i]?=some (en x t v)):mg x=some v:=mg_of X G ((Ed _ _).trans (Ee (Ic P) e))
theorem gN(X:(kF P).In h)(G:h.Ns mainGlobals mg)(i:Nat)(e:dg[i]?=some (en x t (.int n tk)):=by rfl):∃tk,mg x=some (.int n tk):=⟨tk,gA X G i e⟩
theorem gF(X:(kF P).In h)(G:h.Ns mainGlobals mg)(i j:Nat)(e:dg[i]?=some (en x t (.ref f)):=by rfl)(e2:tF[j]?=some (x,st,f,m):=by rfl):aW (kF P) mg x st:=by
 have z:=Ee (Id P) e2;injection z with z1 z
 injection z with z2 z3
 exact⟨f,_,yG z1 z2 z3,gA X G i e⟩
theorem gC(X:(kF P).In h)(G:h.Ns mainGlobals mg)(i:Nat)(z:cE P C=cV)(e:dg[i]?=some (en x t (.ref C)):=by rfl):qk (kF P) mg x C:=by simp only[Prod.mk.injEq]at z;exact⟨gA X G i e,⟨z.1,z.2.1,z.2.2.1,z.2.2.2.1⟩⟩
theorem gI(z:cE P C=cV)(y:mP P C "__init__" q st m f):∃f fd,mX (kF P) "__init__" q st f fd/\Mk (kF P) C f:=by
 simp only[Prod.mk.injEq]at z;obtain⟨y1,y2,y3,y4,y5⟩: _/\_/\_/\_/\_:=by simpa only[Prod.mk.injEq] using y
 exact⟨f,_,yG y3 y4 y5,⟨z.2.2.2.2.1,y1,y2,z.2.2.2.2.2⟩⟩
theorem gM(y:mP P C mm q st m f):∃f fd,mX (kF P) mm q st f fd/\lI (kF P) C mm f:=by
 obtain⟨y1,y2,y3,y4,y5⟩: _/\_/\_/\_/\_:=by simpa only[Prod.mk.injEq] using y
 exact⟨f,_,yG y3 y4 y5,⟨y1,y2,y5⟩⟩
end
theorem JO{P:Params}{h:Heap}{mg:Str->Option Value}(X:(kF P).In h)(G:h.Ns mainGlobals mg):bX (kF P) mg ⟨136,178,199,295,316,408,478,520,828⟩:=
 ⟨by decide,
 gB X G (b_all P),
 gB X G (b_enumerate P),
 gB X G (b_len P),
 gB X G (b_list P),
 gB X G (b_ord P),
 gB X G (b_range P),
 gB X G (b_sum P),
 gB X G (b_tuple P),
 gN X G 8,
 gN X G 9,
 gN X G 10,
 gN X G 11,
 gN X G 12,
 gN X G 13,
 gN X G 14,
 gN X G 15,
 gN X G 16,
 gN X G 17,
 gN X G 18,
 gN X G 28,
 gN X G 29,
 gN X G 30,
 gN X G 31,
 gN X G 44,
 gN X G 45,
 gN X G 46,
 gN X G 47,
 gN X G 48,
 gN X G 49,
 gN X G 50,
 gN X G 64,
 gN X G 65,
 gN X G 66,
 gN X G 67,
 gN X G 81,
 gN X G 82,
 gN X G 83,
 gN X G 84,
 gN X G 85,
 gN X G 86,
 gN X G 87,
 gN X G 88,
 gN X G 89,
 gN X G 90,
 gN X G 91,
 gN X G 92,
 gN X G 93,
 gN X G 97,
 gN X G 98,
 gN X G 99,
 gN X G 100,
 gN X G 101,
 gN X G 102,
 gN X G 103,
 gN X G 150,
 gN X G 151,
 gN X G 152,
 gN X G 153,
 gN X G 154,
 gN X G 155,
 gN X G 156,
 gN X G 157,
 gN X G 158,
 gN X G 159,
 gN X G 160,
 gN X G 161,
 gN X G 162,
 gN X G 163,
 gN X G 164,
 gN X G 165,
 gN X G 166,
 gN X G 167,
 gN X G 168,
 gF X G 19 0,
 gF X G 20 1,
 gF X G 21 2,
 gF X G 22 3,
 gF X G 23 4,
 gF X G 24 5,
 gF X G 25 6,
 gF X G 26 7,
 gF X G 27 8,
 gF X G 32 9,
 gF X G 33 10,
 gF X G 34 11,
 gF X G 35 12,
 gF X G 36 13,
 gF X G 37 14,
 gF X G 38 15,
 gF X G 39 16,
 gF X G 41 17,
 gF X G 42 18,
 gF X G 43 19,
 gF X G 53 20,
 gF X G 54 21,
 gF X G 55 22,
 gF X G 56 23,
 gF X G 57 24,
 gF X G 58 25,
 gF X G 59 26,
 gF X G 60 27,
 gF X G 61 28,
 gF X G 62 29,
 gF X G 63 30,
 gF X G 70 31,
 gF X G 71 32,
 gF X G 72 33,
 gF X G 73 34,
 gF X G 74 35,
 gF X G 75 36,
 gF X G 76 37,
 gF X G 77 38,
 gF X G 78 39,
 gF X G 79 40,
 gF X G 80 41,
 gF X G 96 42,
 gF X G 105 43,
 gF X G 106 44,
 gF X G 107 45,
 gF X G 108 46,
 gF X G 109 47,
 gF X G 110 48,
 gF X G 111 49,
 gF X G 112 50,
 gF X G 113 51,
 gF X G 114 52,
 gF X G 115 53,
 gF X G 116 54,
 gF X G 117 55,
 gF X G 118 56,
 gF X G 119 57,
 gF X G 120 58,
 gF X G 121 59,
 gF X G 122 60,
 gF X G 123 61,
 gF X G 124 62,
 gF X G 125 63,
 gF X G 126 64,
 gF X G 127 65,
 gF X G 128 66,
 gF X G 129 67,
 gF X G 130 68,
 gF X G 131 69,
 gF X G 132 70,
 gF X G 133 71,
 gF X G 134 72,
 gF X G 135 73,
 gF X G 136 74,
 gF X G 137 75,
 gF X G 138 76,
 gF X G 139 77,
 gF X G 140 78,
 gF X G 141 79,
 gF X G 142 80,
 gF X G 143 81,
 gF X G 144 82,
 gF X G 145 83,
 gF X G 146 84,
 gF X G 147 85,
 gF X G 148 86,
 gF X G 149 87,
 gF X G 170 88,
 gF X G 171 89,
 gF X G 172 90,
 gF X G 173 91,
 gF X G 174 92,
 gF X G 175 93,
 gF X G 176 94,
 gF X G 177 95,
 gC X G 40 (c_Called P),
 gI (c_Called P) (ot P),
 n_Called_name P,
 n_Called_entries P,
 gC X G 51 (c_Piece P),
 gI (c_Piece P) (pB P),
 n_Piece_kind P,
 n_Piece_text P,
 n_Piece_arguments P,
 gC X G 52 (c_Line P),
 gI (c_Line P) (qE P),
 n_Line_kind P,
 n_Line_pieces P,
 n_Line_setting P,
 gC X G 68 (c_Prose P),
 gI (c_Prose P) (pC P),
 n_Prose_kind P,
 n_Prose_row P,
 gC X G 69 (c_Part P),
 gI (c_Part P) (qF P),
 n_Part_kind P,
 n_Part_name P,
 n_Part_parameters P,
 n_Part_lines P,
 gC X G 94 (c_Reading P),
 gI (c_Reading P) (mJ P),
 n_Reading_blocks P,
 n_Reading_line P,
 n_Reading_reason P,
 gC X G 95 (c_Reader P),
 gI (c_Reader P) (ou P),
 n_Reader_blocks P,
 n_Reader_part_count P,
 n_Reader_line_count P,
 n_Reader_parameters_of P,
 n_Reader_part P,
 n_Reader_conditions P,
 gM (uc P),
 gM (jZ P),
 gM (lR P),
 gM (lf P),
 gM (ow P),
 gM (lg P),
 gM (ji P),
 gC X G 104 (c_Document P),
 gI (c_Document P) (lT P),
 n_Document_blocks P,
 gM (qG P),
 gM (jj P),
 gC X G 169 (c_Call P),
 gI (c_Call P) (qH P),
 n_Call_kind P,
 n_Call_numbers P,
 n_Call_rows P,
 n_Call_end P⟩
end
theorem IX:opening pw=plainProg pw.main.scope.names:=by kernel_rfl
theorem FD(s:Shared):fenceModules? pw s=some s:=by kernel_rfl
theorem GZ(w:World):((boot_heap w.params).isNs mainGlobals&&(Array.mk ([]:List GenState)).size==0,(boot_heap w.params).objs.size,(boot_heap w.params).nsMap mainGlobals "__annotations__")=(true,11,some (.ref 6)):=by kernel_rfl
theorem Ha(w:World)(os:OsState):openSeen q1 lo (importedModules pw.main.body) (λ _=>true) true (sF w os)=openGood q1 lo:=by
 have a:((hF w.params).keysOk (looseW q1 lo) ((recsOf q1).map (·.name)) ((litsOf q1).map (·.1)) ((clssOf q1 (looseW q1 lo)).map (·.name))&&(hF w.params).accountedOkI (importedModules pw.main.body)&&(hF w.params).isNs mainGlobals&&(hF w.params).isNs builtinsNs&&tablesOk q1 (hF w.params)&&true&&(if true then(#[]:Array GenState).size==0 else !leftWithCleanup #[]))=true:=by have t:=Jy w;simp only[Li]at t;rw[Jw,Jx,t.1.1,t.1.2,t.2];rfl
 exact looks_pair (Of (Ju w) os) (looks_pair (Jv w) (looks_pair a (looks_pair (Of (Jz w) os) (looks_pair (Of (JA w) os) (looks_pair (Of (JB w) os) (looks_pair (Of (JC w) os) (looks_pair (Of (JD w) os) (Of (JE w) os))))))))
theorem left:LeftO pw q1 lo (λ _=>true) (λ s=>aS.map s.heap.get?) (λ w=>(kF w.params).map λ p=>some p.2) 11920:=
 LeftO.of_pieces (boot_open IX rfl FD) GZ Hi rfl λ w=>funext λ os=>looks_pair (by show(staticsOk (importedModules pw.main.body) (boot_heap w.params) (hF w.params)&&namesBound pw (hF w.params)&&true&&laidKept (boot_heap w.params) (hF w.params))=true;rw[Jr,Js,Jt];rfl) (looks_pair (Ha w os) (IT w))
def d1:DefRec:=⟨"answers",eR (bg 181),dM (bg 181),aB (bg 181),⟨749,0,759,16⟩⟩
theorem h_def:defOf q1 PySem.Challenge.nm_tangleweave_s01_answers=some (d1,[]):=by kernel_rfl
theorem h_the:pw.theDef PySem.Challenge.nm_tangleweave_s01_answers=some (d1.params,d1.body,d1.scope):=by kernel_rfl
theorem h_kw:kwWritten? d1.params.kwonlyargs d1.params.kw_defaults=some []:=by kernel_rfl
theorem h_ok:(chainsOk q1&&opensWell pw)=true:=by kernel_rfl
theorem h_call:WalkOS q1 lo (λ _ _=>True) (InK kF) PySem.Challenge.rw_tangleweave_s01_answers d1 [] λ f vs=>PySem.call f vs:=by
 refine L2.walk_specK (r:=PySem.Challenge.rw_tangleweave_s01_answers) (k:=17) (CX:=L2.CX0) (ps:=["calls"]) (sp:=Tw.spAnswers) h_well rfl rfl ⟨rfl,by decide,by decide⟩ (λ w h Y=>Y) ?F ?S (λ _ _ _ _ z=>z)
 case F=>intro w mg fa h Y KX G hmg;obtain⟨f,fd,F,hm,ok⟩:=wm (P:=pw) (w:=w) (JO KX G);have e:=hmg.symm.trans hm;cases e;obtain⟨oc,od,kV,doc,pm,an,cdv,ct,osl,rfl,l,c⟩:=F.ex;exact⟨_,λ s us hu=>match us,hu with |[_],_=>.of_eq rfl,λ base _ _=>ok base⟩
 case S=>
  intro K H xs a hO hwi hask hx;cases hx with
  |cons h1 h2=>
   cases h2;cases h1 with
   |lst hs ha=>have e:=L2.ints_dw a.1 _ ha;subst e;have q:((Codec.inLen 0 16000 a.1&&a.1.all (Codec.inInt (-1000000000000000000) 1000000000000000000))&&true)=true:=hwi;rw[Li,Li]at q;exact⟨_,a.1,rfl,hs,(Codec.inNat_iff.mp q.1.1).2,hask,λ H' p hp=>.lst (L2.SqL.of hp) (L2.dw_ints _)⟩
end Th
open PySem PySem.W PyProof.Rows
theorem PySem.Challenge.cw_tangleweave_s01_answers_holds : PySem.Challenge.rw_tangleweave_s01_answers.Holds :=
 holds_os Th.left (InK.of Th.k_as) InK.keeps (λ _ _=>trivial) (λ _ _ _ _ _=>trivial) Th.h_def Th.h_the Th.h_kw (λ _ _=>recFacts_nil rfl) os_shapes Th.h_well Th.h_ok ⟨rfl,rfl,rfl,rfl,rfl,Th.h_tab⟩ ⟨[.list [.int 1]],by decide +kernel,by decide +kernel⟩ Th.h_call
