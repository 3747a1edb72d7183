import PyProof.Rows.All
import KE.KNestM
import KE.KSortTup
import KE.KSortKey
import KE.KIsAll
import KE.KLam
import KE.KItem
import OpenK.KOwn
import OpenK.KRaise
import KE.KDictSum
import KE.KRevIter
import PySem.Challenge.RW_fairbench_k64_whole_order_and_parts_of_h
set_option Elab.async false
set_option linter.all false
set_option maxRecDepth 100000
set_option maxHeartbeats 4000000
noncomputable section
abbrev dq:=List (List Int×Int)
abbrev kJ:=List (PySem.Addr×PySem.Obj)
abbrev uC:=List (Int×Option Rat)
abbrev xR:=List (Int×List Int)
abbrev aO:=List Int
abbrev dO:=List PySem.Value
abbrev nD:=PySem.Value→PySem.Shared→Prop
abbrev gs:=List PySem.Str
abbrev ni:=Option PySem.Value
theorem cg {α:Type} {a:α} {l:List α}:(a::l)[0]?=some a:=rfl
theorem cL {α:Type} {a:α} {l:List α} {i:Nat}:(a::l)[i+1]?=l[i]?:=rfl
theorem bI {α β:Type} {a:α} {f:α→Option β}:(some a).bind f=f a:=rfl
theorem bh:type_of% @PySem.wpAny_bind:=@PySem.wpAny_bind
theorem eK:type_of% @Option.bind_eq_some_iff:=@Option.bind_eq_some_iff
theorem dI {α β:Type} {a:α} {f:α→β}:(some a).map f=some (f a):=rfl
theorem aZ:type_of% @if_neg:=@if_neg
theorem cX:type_of% @PySem.wpAny_pure:=@PySem.wpAny_pure
theorem ly:type_of% @List.mem_cons_of_mem:=@List.mem_cons_of_mem
theorem g9:type_of% @List.length_map:=@List.length_map
theorem ay:type_of% @if_pos:=@if_pos
theorem cY:type_of% @List.mem_cons_self:=@List.mem_cons_self
theorem eu:type_of% @PySem.Heap.get?_push_of_some:=@PySem.Heap.get?_push_of_some
theorem bY:type_of% @List.map_cons:=@List.map_cons
theorem g6:type_of% @Option.map_eq_some_iff:=@Option.map_eq_some_iff
theorem cw:type_of% @Nat.le_refl:=@Nat.le_refl
theorem iu:type_of% @PySem.Heap.get?_push_size:=@PySem.Heap.get?_push_size
theorem ig {α:Type} {x a:α} {l:List α}:(x::l).set 0 a=a::l:=rfl
theorem ik {α:Type} {x a:α} {l:List α} {i:Nat}:(x::l).set (i+1) a=x::l.set i a:=rfl
theorem dj:type_of% @PySem.Heap.lt_size:=@PySem.Heap.lt_size
theorem jY:type_of% @List.mem_append_right:=@List.mem_append_right
theorem nE:type_of% @List.getD_eq_getElem?_getD:=@List.getD_eq_getElem?_getD
theorem mS:type_of% @List.getElem?_eq_getElem:=@List.getElem?_eq_getElem
theorem jx:type_of% @Bool.false_ne_true:=@Bool.false_ne_true
theorem iK:type_of% @List.all_eq_true:=@List.all_eq_true
theorem fR:type_of% @List.mem_cons:=@List.mem_cons
theorem e9:type_of% @List.map_map:=@List.map_map
theorem j3:type_of% @List.size_toArray:=@List.size_toArray
theorem kK:type_of% @List.length_append:=@List.length_append
theorem fV:type_of% @Nat.ne_of_lt:=@Nat.ne_of_lt
theorem jy:type_of% @List.mem_filter:=@List.mem_filter
theorem ou:type_of% @Array.length_toList:=@Array.length_toList
theorem lL:type_of% @decide_eq_false:=@decide_eq_false
theorem mU:type_of% @List.length_cons:=@List.length_cons
theorem oP:type_of% @Nat.lt_of_lt_of_le:=@Nat.lt_of_lt_of_le
theorem ja:type_of% @List.mem_map:=@List.mem_map
theorem jb:type_of% @List.map_nil:=@List.map_nil
theorem mV:type_of% @List.mem_append:=@List.mem_append
theorem mW:type_of% @List.mem_range:=@List.mem_range
theorem ow:type_of% @Option.some.inj:=@Option.some.inj
theorem jc:type_of% @PySem.sizeLine_eq:=@PySem.sizeLine_eq
theorem qG:type_of% @Int.lt_of_lt_of_le:=@Int.lt_of_lt_of_le
theorem nF:type_of% @decide_eq_true:=@decide_eq_true
theorem mX:type_of% @List.all_cons:=@List.all_cons
theorem qH:type_of% @List.getElem?_map:=@List.getElem?_map
theorem xS:type_of% @List.getElem?_eq_some_iff:=@List.getElem?_eq_some_iff
theorem t4:type_of% @List.map_congr_left:=@List.map_congr_left
theorem t5:type_of% @Bool.false_eq_true:=@Bool.false_eq_true
theorem il:type_of% @congrArg:=@congrArg
theorem oz:type_of% @Int.le_of_lt:=@Int.le_of_lt
theorem sY:type_of% @Option.getD_some:=@Option.getD_some
theorem oQ:type_of% @Nat.le_trans:=@Nat.le_trans
theorem A4:type_of% @Array.getElem?_eq_getElem:=@Array.getElem?_eq_getElem
theorem t6:type_of% @Bool.and_eq_true:=@Bool.and_eq_true
theorem gK:type_of% @if_true:=@if_true
theorem v5:type_of% @Int.lt_of_le_of_lt:=@Int.lt_of_le_of_lt
theorem v7:type_of% @PySem.Heap.SameBut.update:=@PySem.Heap.SameBut.update
theorem yF:type_of% @List.contains_iff_mem:=@List.contains_iff_mem
theorem Dg:type_of% @Array.perm_iff_toList_perm:=@Array.perm_iff_toList_perm
theorem mY:type_of% @PySem.wpAny_mono:=@PySem.wpAny_mono
theorem v8:type_of% @PySem.wpAny_Call_Name_kw:=@PySem.wpAny_Call_Name_kw
theorem uD:type_of% @List.find?_cons:=@List.find?_cons
theorem uE:type_of% @List.append_nil:=@List.append_nil
theorem A5:type_of% @List.getElem?_eq_none:=@List.getElem?_eq_none
theorem xT:type_of% @of_decide_eq_true:=@of_decide_eq_true
theorem Ft:type_of% @PyProof.Rows.callWith_type1:=@PyProof.Rows.callWith_type1
theorem A6:type_of% @List.mem_append_left:=@List.mem_append_left
theorem Fu:type_of% @List.getElem?_append_right:=@List.getElem?_append_right
theorem v9:type_of% @List.map_append:=@List.map_append
theorem A7:type_of% @PySem.Heap.get?_update_self:=@PySem.Heap.get?_update_self
theorem xU:type_of% @PySem.wpAny_newObj_type:=@PySem.wpAny_newObj_type
theorem mZ:type_of% @if_false:=@if_false
theorem xV:type_of% @PySem.W.kia_one:=@PySem.W.kia_one
theorem xW:type_of% @List.foldl_cons:=@List.foldl_cons
theorem xX:type_of% @PySem.wpAny_call_entry:=@PySem.wpAny_call_entry
theorem sZ:type_of% @Nat.zero_le:=@Nat.zero_le
theorem yG:type_of% @List.lookup_cons:=@List.lookup_cons
theorem wa:type_of% @List.sum_cons:=@List.sum_cons
theorem A8:type_of% @decide_eq_true_eq:=@decide_eq_true_eq
theorem yH:type_of% @List.nodup_cons:=@List.nodup_cons
theorem A9:type_of% @PySem.Obj.data_mapFields:=@PySem.Obj.data_mapFields
theorem wc:type_of% @PySem.wpAny_holding:=@PySem.wpAny_holding
theorem wd:type_of% @PySem.Paired.length:=@PySem.Paired.length
theorem Dh:type_of% @List.pairwise_map:=@List.pairwise_map
theorem Di:type_of% @List.append_assoc:=@List.append_assoc
theorem Dj:type_of% @Int.toNat_natCast:=@Int.toNat_natCast
theorem Ba:type_of% @Int.emod_nonneg:=@Int.emod_nonneg
theorem Bb:type_of% @Bool.eq_iff_iff:=@Bool.eq_iff_iff
theorem Fv:type_of% @PySem.builtinLookup_eq_fast:=@PySem.builtinLookup_eq_fast
theorem Hs:type_of% @Rat.intCast_le_intCast:=@Rat.intCast_le_intCast
theorem Ht:type_of% @List.take_of_length_le:=@List.take_of_length_le
theorem Dk:type_of% @PySem.Calls.spliced_cons:=@PySem.Calls.spliced_cons
theorem Dl:type_of% @List.length_take:=@List.length_take
theorem Dm:type_of% @List.filter_cons:=@List.filter_cons
theorem Dn:type_of% @List.any_eq_true:=@List.any_eq_true
theorem uF:type_of% @PySem.wpAny_of_eq:=@PySem.wpAny_of_eq
theorem Fw:type_of% @PySem.F.called_set:=@PySem.F.called_set
theorem Fx:type_of% @Nat.lt_of_le_of_lt:=@Nat.lt_of_le_of_lt
theorem Fy:type_of% @Int.emod_lt_of_pos:=@Int.emod_lt_of_pos
theorem Bc:type_of% @PySem.wpAny_ite_split:=@PySem.wpAny_ite_split
theorem uG:type_of% @Rat.intCast_mul:=@Rat.intCast_mul
open PySem.W (instObj methodObj lookIn plainGet isFn plainGet_of makesIn emptyDict makes_of hasDictIn plainOver keepIn kitOne kia_one kitx_list kitx_dict callWith_K cellsFrom_some fnOf codeIn oi_run nsIn mg_of km_in_of km_tabs_of)
variable {ks us:List PySem.Value} {C a fn:PySem.Addr} {b bench ms ns:aO} {ct oc pm u:PySem.Value} {P:PySem.Program} {w:PySem.World} {h h':PySem.Heap} {i j k n t':Nat} {q qual x:PySem.Str} {e tg:PySem.Expr} {N:List PySem.Str} {A:PySem.Around} {E Q:PySem.Value→PySem.Shared→Prop} {s:PySem.Shared} {pins:List (PySem.Addr×PySem.Obj)} {f:PySem.Value→PySem.Value→PySem.Sem PySem.Value} {p2 pos pos' px:PySem.Pos} {op:PySem.CmpOp} {K:PySem.W.Frag} {c:Int} {es:List (aO×aO)} {l:List (Int×PySem.Value)} {p:Array Nat} {ex fp:List PySem.Addr} {pl:PySem.Sem Bool} {mg:PySem.Str→Option PySem.Value} {fd:PySem.FuncData} {hs ps rs:dq} {scope:PySem.Scope} {params:PySem.Arguments} {an od:Option PySem.Addr} {Np:Array (Option PySem.Value)} {XP:(PySem.Str→Option PySem.Value)→PySem.Heap→Prop} {YP:PySem.World→PySem.Heap→Prop} {S fi:List Nat} {κ:PyProof.Rows.SortKind} {ds:xR} {led:Bool} {pend:Array (Nat×Nat×Nat)} {ts:List aO} {rest rows:uC} {L:Option Rat} {names:Int→aO}
namespace L2
open PySem
def inClass(s:Stmt)(j:Nat):Stmt:=match s with
  |.ClassDef _ _ _ body _ _ _ _ _ _ _=>body.getD j (.Pass ⟨0,0,0,0⟩)
  |_=>.Pass ⟨0,0,0,0⟩
def fc(s:Stmt):Arguments:=match s with
  |.FunctionDef _ a _ _ _ _ _ _ _ _=>a
  |_=>{ posonlyargs:=[],args:=[],vararg:=none,kwonlyargs:=[],kw_defaults:=[],kwarg:=none,defaults:=[] }
def dD(s:Stmt):List Stmt:=match s with
  |.FunctionDef _ _ b _ _ _ _ _ _ _=>b
  |_=>[]
def az(s:Stmt):Scope:=match s with
  |.FunctionDef _ _ _ _ _ _ sc _ _ _=>sc
  |_=>{ kind:=.function,names:=[],isGenerator:=false,isCoroutine:=false }
end L2
namespace HH
open PySem PySem.W PyProof.Rows L2
def nq(i:Nat):Stmt:=PySem.Challenge.pw_fairbench_k64_whole_order_and_parts_of_h.main.body.getD i (.Pass ⟨0,0,0,0⟩)
abbrev sH(x:String)(t:Nat):Value:=.str (Str.ofString x) t
abbrev rH(a:Nat):Value:=.ref a
abbrev jH(i:Int)(t:Nat):Value:=.int i t
def eH(P:Params)(x:String)(t:Nat)(v:Value):DictEntry:=⟨PyData.keyHash P (Str.ofString x),.str (Str.ofString x) t,v⟩
def tH(l:Array Value):Obj:={ cls:=.type "tuple",data:=.seq l }
def cH(l:Array Value):Obj:={ cls:=.type "code",data:=.fields l }
def dH(l:Array DictEntry)(n:Nat):Obj:={ cls:=.type "dict",data:=.dict l n }
def fH(x q:String)(s:Stmt)(m:String)(t c:Nat):Obj:={ cls:=.type "function",data:=.func { name:=x,qualname:=q,params:=fc s,body:=.stmts (dD s),scope:=az s,globals:=3,closure:=[],defaults:=.none,kwdefaults:=.none,pyModule:=.str (Str.ofString m) t,code:=.ref c } }
def KH:Params→PySem.W.Frag:=fun P=>(nat_lit 2,{ cls:=.none,data:=.dict #[] }) ::
(nat_lit 3,dH #[eH P "__name__" 165 (sH "law_fairbench_k64_whole_order_and_parts_of_h" 702),eH P "__doc__" 166 .none,eH P "__package__" 167 .none,eH P "__loader__" 168 (.builtin "__main__.__loader__#opaque"),eH P "__spec__" 169 .none,eH P "__annotations__" 170 (rH 6),eH P "__builtins__" 171 (rH 4),eH P "__file__" 173 (sH "/claim/cut.py" 172),eH P "__cached__" 174 .none,eH P "BenchError" 206 (rH 24),eH P "NoCount" 222 (rH 37),eH P "NoName" 238 (rH 49),eH P "NoHeap" 254 (rH 61),eH P "NoPlaces" 270 (rH 73),eH P "MOST_NAMES" 274 (jH 6 273),eH P "heaps_of" 280 (rH 80),eH P "ballots" 286 (rH 85),eH P "rank" 293 (rH 92),eH P "check_count" 300 (rH 99),eH P "check_names" 311 (rH 106),eH P "check_ballots" 317 (rH 111),eH P "put_together" 328 (rH 118),eH P "SIXTIETHS" 338 (rH 119),eH P "worth" 344 (rH 124),eH P "exchanges" 358 (rH 131),eH P "mended" 370 (rH 138),eH P "in_common" 376 (rH 143),eH P "exchanged" 382 (rH 148),eH P "best_exchange" 394 (rH 155),eH P "left_out" 406 (rH 162),eH P "left_out_together" 417 (rH 169),eH P "are_enough" 427 (rH 176),eH P "with_too_few" 433 (rH 181),eH P "with_none_but" 439 (rH 186),eH P "heaps_naming_all" 445 (rH 191),eH P "largest_few" 451 (rH 196),eH P "sets_to_ask" 458 (rH 203),eH P "sets_of" 464 (rH 208),eH P "lowest" 475 (rH 215),eH P "added" 483 (rH 222),eH P "less" 491 (rH 229),eH P "common_divisor" 500 (rH 236),eH P "Way" 551 (rH 267),eH P "Most" 573 (rH 286),eH P "Turns" 599 (rH 305),eH P "Loads" 625 (rH 324),eH P "ballots_naming" 631 (rH 331),eH P "names_of" 637 (rH 336),eH P "unseated" 643 (rH 341),eH P "next_turn" 656 (rH 348),eH P "next_load" 668 (rH 355),eH P "comes_ahead" 676 (rH 362),eH P "load_of_name" 690 (rH 369),eH P "load_of_heap" 701 (rH 376),eH P "_law_cell_at" 711 (rH 383),eH P "_law_mixed" 720 (rH 390),eH P "_law_set" 726 (rH 395),eH P "_law_heaps" 732 (rH 400),eH P "_law_same" 741 (rH 407),eH P "_law_rows" 755 (rH 414),eH P "_law_told" 761 (rH 419),eH P "law" 767 (rH 424)] 62) ::
(nat_lit 15,tH #[.type "ValueError"]) ::
(nat_lit 22,tH #[]) ::
(nat_lit 23,dH #[eH P "__module__" 196 (sH "fairbench.errors" 187),eH P "__firstlineno__" 200 (jH 2 199),eH P "__static_attributes__" 201 (rH 22),eH P "__weakref__" 203 (rH 25),eH P "__doc__" 204 .none] 3) ::
(nat_lit 24,{ cls:=.type "type",data:=.cls { name:="BenchError",bases:=[.type "ValueError"],mro:=[rH 24,.type "ValueError",.type "Exception",.type "BaseException",.type "object"],ns:=23,qualname:="BenchError",subclasses:=[rH 37,rH 49,rH 61,rH 73] },slots:=#[some (rH 15),none,some (sH "BenchError" 189),some (sH "BenchError" 197),some (.builtin "ValueError.__new__"),some (.bool true)] }) ::
(nat_lit 25,{ cls:=.type "getset_descriptor",data:=.fields #[sH "__weakref__" 202,rH 24,.builtin "ExceptionGroup.__weakref__",.none] }) ::
(nat_lit 28,tH #[rH 24]) ::
(nat_lit 35,tH #[]) ::
(nat_lit 36,dH #[eH P "__module__" 214 (sH "fairbench.errors" 187),eH P "__firstlineno__" 218 (jH 4 217),eH P "__static_attributes__" 219 (rH 35),eH P "__doc__" 220 .none] 2) ::
(nat_lit 37,{ cls:=.type "type",data:=.cls { name:="NoCount",bases:=[rH 24],mro:=[rH 37,rH 24,.type "ValueError",.type "Exception",.type "BaseException",.type "object"],ns:=36,qualname:="NoCount" },slots:=#[some (rH 28),none,some (sH "NoCount" 207),some (sH "NoCount" 215),some (.builtin "ValueError.__new__"),some (.bool true)] }) ::
(nat_lit 40,tH #[rH 24]) ::
(nat_lit 47,tH #[]) ::
(nat_lit 48,dH #[eH P "__module__" 230 (sH "fairbench.errors" 187),eH P "__firstlineno__" 234 (jH 6 233),eH P "__static_attributes__" 235 (rH 47),eH P "__doc__" 236 .none] 2) ::
(nat_lit 49,{ cls:=.type "type",data:=.cls { name:="NoName",bases:=[rH 24],mro:=[rH 49,rH 24,.type "ValueError",.type "Exception",.type "BaseException",.type "object"],ns:=48,qualname:="NoName" },slots:=#[some (rH 40),none,some (sH "NoName" 223),some (sH "NoName" 231),some (.builtin "ValueError.__new__"),some (.bool true)] }) ::
(nat_lit 52,tH #[rH 24]) ::
(nat_lit 59,tH #[]) ::
(nat_lit 60,dH #[eH P "__module__" 246 (sH "fairbench.errors" 187),eH P "__firstlineno__" 250 (jH 8 249),eH P "__static_attributes__" 251 (rH 59),eH P "__doc__" 252 .none] 2) ::
(nat_lit 61,{ cls:=.type "type",data:=.cls { name:="NoHeap",bases:=[rH 24],mro:=[rH 61,rH 24,.type "ValueError",.type "Exception",.type "BaseException",.type "object"],ns:=60,qualname:="NoHeap" },slots:=#[some (rH 52),none,some (sH "NoHeap" 239),some (sH "NoHeap" 247),some (.builtin "ValueError.__new__"),some (.bool true)] }) ::
(nat_lit 64,tH #[rH 24]) ::
(nat_lit 71,tH #[]) ::
(nat_lit 72,dH #[eH P "__module__" 262 (sH "fairbench.errors" 187),eH P "__firstlineno__" 266 (jH 10 265),eH P "__static_attributes__" 267 (rH 71),eH P "__doc__" 268 .none] 2) ::
(nat_lit 73,{ cls:=.type "type",data:=.cls { name:="NoPlaces",bases:=[rH 24],mro:=[rH 73,rH 24,.type "ValueError",.type "Exception",.type "BaseException",.type "object"],ns:=72,qualname:="NoPlaces" },slots:=#[some (rH 64),none,some (sH "NoPlaces" 255),some (sH "NoPlaces" 263),some (.builtin "ValueError.__new__"),some (.bool true)] }) ::
(nat_lit 76,tH #[]) ::
(nat_lit 79,cH #[sH "heaps_of" 275,sH "heaps_of" 276,sH "/claim/cut.py" 277,jH 14 0,jH 2 0,jH 0 0,jH 0 0,jH 3 0,rH 76,.bool true,jH 181 0,rH 77,.none,.none,.none,rH 78,jH 278 0,jH 14 0,sH "/claim/cut.py" 279]) ::
(nat_lit 80,fH "heaps_of" "heaps_of" (nq 8) "fairbench.heaps" 271 79) ::
(nat_lit 81,tH #[]) ::
(nat_lit 84,cH #[sH "ballots" 281,sH "ballots" 282,sH "/claim/cut.py" 283,jH 20 0,jH 1 0,jH 0 0,jH 0 0,jH 3 0,rH 81,.bool true,jH 181 0,rH 82,.none,.none,.none,rH 83,jH 284 0,jH 20 0,sH "/claim/cut.py" 285]) ::
(nat_lit 85,fH "ballots" "ballots" (nq 9) "fairbench.heaps" 271 84) ::
(nat_lit 86,tH #[]) ::
(nat_lit 88,tH #[sH "names" 290]) ::
(nat_lit 89,tH #[]) ::
(nat_lit 91,cH #[sH "rank" 287,sH "rank" 288,sH "/claim/cut.py" 289,jH 22 0,jH 1 0,jH 0 0,jH 0 0,jH 3 0,rH 86,.bool true,jH 181 0,rH 87,.none,rH 88,rH 89,rH 90,jH 291 0,jH 22 0,sH "/claim/cut.py" 292]) ::
(nat_lit 92,fH "rank" "rank" (nq 10) "fairbench.heaps" 271 91) ::
(nat_lit 93,tH #[]) ::
(nat_lit 95,tH #[sH "count" 297]) ::
(nat_lit 96,tH #[]) ::
(nat_lit 98,cH #[sH "check_count" 294,sH "check_count" 295,sH "/claim/cut.py" 296,jH 24 0,jH 1 0,jH 0 0,jH 0 0,jH 3 0,rH 93,.bool true,jH 181 0,rH 94,.none,rH 95,rH 96,rH 97,jH 298 0,jH 24 0,sH "/claim/cut.py" 299]) ::
(nat_lit 99,fH "check_count" "check_count" (nq 11) "fairbench.heaps" 271 98) ::
(nat_lit 100,tH #[]) ::
(nat_lit 102,tH #[sH "count" 304,sH "rows" 305,sH "names" 306,sH "many" 307,sH "name" 308]) ::
(nat_lit 103,tH #[]) ::
(nat_lit 105,cH #[sH "check_names" 301,sH "check_names" 302,sH "/claim/cut.py" 303,jH 27 0,jH 2 0,jH 0 0,jH 0 0,jH 3 0,rH 100,.bool true,jH 181 0,rH 101,.none,rH 102,rH 103,rH 104,jH 309 0,jH 27 0,sH "/claim/cut.py" 310]) ::
(nat_lit 106,fH "check_names" "check_names" (nq 12) "fairbench.heaps" 271 105) ::
(nat_lit 107,tH #[]) ::
(nat_lit 110,cH #[sH "check_ballots" 312,sH "check_ballots" 313,sH "/claim/cut.py" 314,jH 32 0,jH 1 0,jH 0 0,jH 0 0,jH 3 0,rH 107,.bool true,jH 181 0,rH 108,.none,.none,.none,rH 109,jH 315 0,jH 32 0,sH "/claim/cut.py" 316]) ::
(nat_lit 111,fH "check_ballots" "check_ballots" (nq 13) "fairbench.heaps" 271 110) ::
(nat_lit 112,tH #[]) ::
(nat_lit 114,tH #[sH "rows" 321,sH "together" 322,sH "row" 323,sH "many" 324,sH "names" 325]) ::
(nat_lit 115,tH #[]) ::
(nat_lit 117,cH #[sH "put_together" 318,sH "put_together" 319,sH "/claim/cut.py" 320,jH 38 0,jH 1 0,jH 0 0,jH 0 0,jH 3 0,rH 112,.bool true,jH 181 0,rH 113,.none,rH 114,rH 115,rH 116,jH 326 0,jH 38 0,sH "/claim/cut.py" 327]) ::
(nat_lit 118,fH "put_together" "put_together" (nq 14) "fairbench.heaps" 271 117) ::
(nat_lit 119,tH #[jH 0 331,jH 60 332,jH 90 333,jH 110 334,jH 125 335,jH 137 336,jH 147 337]) ::
(nat_lit 120,tH #[]) ::
(nat_lit 123,cH #[sH "worth" 339,sH "worth" 340,sH "/claim/cut.py" 341,jH 47 0,jH 2 0,jH 0 0,jH 0 0,jH 3 0,rH 120,.bool true,jH 181 0,rH 121,.none,.none,.none,rH 122,jH 342 0,jH 47 0,sH "/claim/cut.py" 343]) ::
(nat_lit 124,fH "worth" "worth" (nq 17) "fairbench.worth" 329 123) ::
(nat_lit 125,tH #[]) ::
(nat_lit 127,tH #[sH "count" 348,sH "heaps" 349,sH "bench" 350,sH "before" 351,sH "told" 352,sH "leaving" 353,sH "coming" 354,sH "after" 355]) ::
(nat_lit 128,tH #[]) ::
(nat_lit 130,cH #[sH "exchanges" 345,sH "exchanges" 346,sH "/claim/cut.py" 347,jH 49 0,jH 3 0,jH 0 0,jH 0 0,jH 3 0,rH 125,.bool true,jH 181 0,rH 126,.none,rH 127,rH 128,rH 129,jH 356 0,jH 49 0,sH "/claim/cut.py" 357]) ::
(nat_lit 131,fH "exchanges" "exchanges" (nq 18) "fairbench.worth" 329 130) ::
(nat_lit 132,tH #[]) ::
(nat_lit 134,tH #[sH "count" 362,sH "heaps" 363,sH "bench" 364,sH "made" 365,sH "left" 366,sH "best" 367]) ::
(nat_lit 135,tH #[]) ::
(nat_lit 137,cH #[sH "mended" 359,sH "mended" 360,sH "/claim/cut.py" 361,jH 58 0,jH 3 0,jH 0 0,jH 0 0,jH 3 0,rH 132,.bool true,jH 181 0,rH 133,.none,rH 134,rH 135,rH 136,jH 368 0,jH 58 0,sH "/claim/cut.py" 369]) ::
(nat_lit 138,fH "mended" "mended" (nq 19) "fairbench.worth" 329 137) ::
(nat_lit 139,tH #[]) ::
(nat_lit 142,cH #[sH "in_common" 371,sH "in_common" 372,sH "/claim/cut.py" 373,jH 67 0,jH 2 0,jH 0 0,jH 0 0,jH 3 0,rH 139,.bool true,jH 181 0,rH 140,.none,.none,.none,rH 141,jH 374 0,jH 67 0,sH "/claim/cut.py" 375]) ::
(nat_lit 143,fH "in_common" "in_common" (nq 20) "fairbench.worth" 329 142) ::
(nat_lit 144,tH #[]) ::
(nat_lit 147,cH #[sH "exchanged" 377,sH "exchanged" 378,sH "/claim/cut.py" 379,jH 69 0,jH 3 0,jH 0 0,jH 0 0,jH 3 0,rH 144,.bool true,jH 181 0,rH 145,.none,.none,.none,rH 146,jH 380 0,jH 69 0,sH "/claim/cut.py" 381]) ::
(nat_lit 148,fH "exchanged" "exchanged" (nq 21) "fairbench.worth" 329 147) ::
(nat_lit 149,tH #[]) ::
(nat_lit 151,tH #[sH "count" 386,sH "heaps" 387,sH "bench" 388,sH "best" 389,sH "most" 390,sH "exchange" 391]) ::
(nat_lit 152,tH #[]) ::
(nat_lit 154,cH #[sH "best_exchange" 383,sH "best_exchange" 384,sH "/claim/cut.py" 385,jH 72 0,jH 3 0,jH 0 0,jH 0 0,jH 3 0,rH 149,.bool true,jH 181 0,rH 150,.none,rH 151,rH 152,rH 153,jH 392 0,jH 72 0,sH "/claim/cut.py" 393]) ::
(nat_lit 155,fH "best_exchange" "best_exchange" (nq 22) "fairbench.worth" 329 154) ::
(nat_lit 156,tH #[]) ::
(nat_lit 158,tH #[sH "count" 400,sH "heaps" 401,sH "bench" 402,sH "names" 403]) ::
(nat_lit 159,tH #[]) ::
(nat_lit 161,cH #[sH "left_out" 397,sH "left_out" 398,sH "/claim/cut.py" 399,jH 81 0,jH 3 0,jH 0 0,jH 0 0,jH 3 0,rH 156,.bool true,jH 181 0,rH 157,.none,rH 158,rH 159,rH 160,jH 404 0,jH 81 0,sH "/claim/cut.py" 405]) ::
(nat_lit 162,fH "left_out" "left_out" (nq 24) "fairbench.looks" 395 161) ::
(nat_lit 163,tH #[]) ::
(nat_lit 165,tH #[sH "count" 410,sH "heaps" 411,sH "bench" 412,sH "names" 413,sH "few" 414]) ::
(nat_lit 166,tH #[]) ::
(nat_lit 168,cH #[sH "left_out_together" 407,sH "left_out_together" 408,sH "/claim/cut.py" 409,jH 86 0,jH 3 0,jH 0 0,jH 0 0,jH 3 0,rH 163,.bool true,jH 181 0,rH 164,.none,rH 165,rH 166,rH 167,jH 415 0,jH 86 0,sH "/claim/cut.py" 416]) ::
(nat_lit 169,fH "left_out_together" "left_out_together" (nq 25) "fairbench.looks" 395 168) ::
(nat_lit 170,tH #[]) ::
(nat_lit 172,tH #[sH "some" 421,sH "heaps" 422,sH "bench" 423,sH "names" 424]) ::
(nat_lit 173,tH #[]) ::
(nat_lit 175,cH #[sH "are_enough" 418,sH "are_enough" 419,sH "/claim/cut.py" 420,jH 92 0,jH 4 0,jH 0 0,jH 0 0,jH 3 0,rH 170,.bool true,jH 181 0,rH 171,.none,rH 172,rH 173,rH 174,jH 425 0,jH 92 0,sH "/claim/cut.py" 426]) ::
(nat_lit 176,fH "are_enough" "are_enough" (nq 26) "fairbench.looks" 395 175) ::
(nat_lit 177,tH #[]) ::
(nat_lit 180,cH #[sH "with_too_few" 428,sH "with_too_few" 429,sH "/claim/cut.py" 430,jH 94 0,jH 3 0,jH 0 0,jH 0 0,jH 3 0,rH 177,.bool true,jH 181 0,rH 178,.none,.none,.none,rH 179,jH 431 0,jH 94 0,sH "/claim/cut.py" 432]) ::
(nat_lit 181,fH "with_too_few" "with_too_few" (nq 27) "fairbench.looks" 395 180) ::
(nat_lit 182,tH #[]) ::
(nat_lit 185,cH #[sH "with_none_but" 434,sH "with_none_but" 435,sH "/claim/cut.py" 436,jH 97 0,jH 4 0,jH 0 0,jH 0 0,jH 3 0,rH 182,.bool true,jH 181 0,rH 183,.none,.none,.none,rH 184,jH 437 0,jH 97 0,sH "/claim/cut.py" 438]) ::
(nat_lit 186,fH "with_none_but" "with_none_but" (nq 28) "fairbench.looks" 395 185) ::
(nat_lit 187,tH #[]) ::
(nat_lit 190,cH #[sH "heaps_naming_all" 440,sH "heaps_naming_all" 441,sH "/claim/cut.py" 442,jH 100 0,jH 2 0,jH 0 0,jH 0 0,jH 3 0,rH 187,.bool true,jH 181 0,rH 188,.none,.none,.none,rH 189,jH 443 0,jH 100 0,sH "/claim/cut.py" 444]) ::
(nat_lit 191,fH "heaps_naming_all" "heaps_naming_all" (nq 29) "fairbench.looks" 395 190) ::
(nat_lit 192,tH #[]) ::
(nat_lit 195,cH #[sH "largest_few" 446,sH "largest_few" 447,sH "/claim/cut.py" 448,jH 102 0,jH 2 0,jH 0 0,jH 0 0,jH 3 0,rH 192,.bool true,jH 181 0,rH 193,.none,.none,.none,rH 194,jH 449 0,jH 102 0,sH "/claim/cut.py" 450]) ::
(nat_lit 196,fH "largest_few" "largest_few" (nq 30) "fairbench.looks" 395 195) ::
(nat_lit 197,tH #[]) ::
(nat_lit 199,tH #[sH "count" 455]) ::
(nat_lit 200,tH #[]) ::
(nat_lit 202,cH #[sH "sets_to_ask" 452,sH "sets_to_ask" 453,sH "/claim/cut.py" 454,jH 105 0,jH 1 0,jH 0 0,jH 0 0,jH 3 0,rH 197,.bool true,jH 181 0,rH 198,.none,rH 199,rH 200,rH 201,jH 456 0,jH 105 0,sH "/claim/cut.py" 457]) ::
(nat_lit 203,fH "sets_to_ask" "sets_to_ask" (nq 31) "fairbench.looks" 395 202) ::
(nat_lit 204,tH #[]) ::
(nat_lit 207,cH #[sH "sets_of" 459,sH "sets_of" 460,sH "/claim/cut.py" 461,jH 107 0,jH 1 0,jH 0 0,jH 0 0,jH 3 0,rH 204,.bool true,jH 181 0,rH 205,.none,.none,.none,rH 206,jH 462 0,jH 107 0,sH "/claim/cut.py" 463]) ::
(nat_lit 208,fH "sets_of" "sets_of" (nq 32) "fairbench.looks" 395 207) ::
(nat_lit 209,tH #[]) ::
(nat_lit 211,tH #[sH "top" 470,sH "bottom" 471,sH "divisor" 472]) ::
(nat_lit 212,tH #[]) ::
(nat_lit 214,cH #[sH "lowest" 467,sH "lowest" 468,sH "/claim/cut.py" 469,jH 113 0,jH 2 0,jH 0 0,jH 0 0,jH 3 0,rH 209,.bool true,jH 181 0,rH 210,.none,rH 211,rH 212,rH 213,jH 473 0,jH 113 0,sH "/claim/cut.py" 474]) ::
(nat_lit 215,fH "lowest" "lowest" (nq 34) "fairbench.shares" 465 214) ::
(nat_lit 216,tH #[]) ::
(nat_lit 218,tH #[sH "one" 479,sH "two" 480]) ::
(nat_lit 219,tH #[]) ::
(nat_lit 221,cH #[sH "added" 476,sH "added" 477,sH "/claim/cut.py" 478,jH 116 0,jH 2 0,jH 0 0,jH 0 0,jH 3 0,rH 216,.bool true,jH 181 0,rH 217,.none,rH 218,rH 219,rH 220,jH 481 0,jH 116 0,sH "/claim/cut.py" 482]) ::
(nat_lit 222,fH "added" "added" (nq 35) "fairbench.shares" 465 221) ::
(nat_lit 223,tH #[]) ::
(nat_lit 225,tH #[sH "one" 487,sH "two" 488]) ::
(nat_lit 226,tH #[]) ::
(nat_lit 228,cH #[sH "less" 484,sH "less" 485,sH "/claim/cut.py" 486,jH 118 0,jH 2 0,jH 0 0,jH 0 0,jH 3 0,rH 223,.bool true,jH 181 0,rH 224,.none,rH 225,rH 226,rH 227,jH 489 0,jH 118 0,sH "/claim/cut.py" 490]) ::
(nat_lit 229,fH "less" "less" (nq 36) "fairbench.shares" 465 228) ::
(nat_lit 230,tH #[]) ::
(nat_lit 232,tH #[sH "one" 495,sH "two" 496,sH "rest" 497]) ::
(nat_lit 233,tH #[]) ::
(nat_lit 235,cH #[sH "common_divisor" 492,sH "common_divisor" 493,sH "/claim/cut.py" 494,jH 120 0,jH 2 0,jH 0 0,jH 0 0,jH 3 0,rH 230,.bool true,jH 181 0,rH 231,.none,rH 232,rH 233,rH 234,jH 498 0,jH 120 0,sH "/claim/cut.py" 499]) ::
(nat_lit 236,fH "common_divisor" "common_divisor" (nq 37) "fairbench.shares" 465 235) ::
(nat_lit 244,tH #[]) ::
(nat_lit 246,tH #[sH "self" 518,sH "count" 519,sH "heaps" 520]) ::
(nat_lit 247,tH #[]) ::
(nat_lit 249,cH #[sH "order" 515,sH "Way.order" 516,sH "/claim/cut.py" 517,jH 129 0,jH 3 0,jH 0 0,jH 0 0,jH 3 0,rH 244,.bool true,jH 181 0,rH 245,.none,rH 246,rH 247,rH 248,jH 521 0,jH 129 0,sH "/claim/cut.py" 522]) ::
(nat_lit 250,fH "order" "Way.order" (inClass (nq 39) 0) "fairbench.ways" 501 249) ::
(nat_lit 251,tH #[]) ::
(nat_lit 253,tH #[sH "self" 527,sH "count" 528,sH "heaps" 529,sH "places" 530]) ::
(nat_lit 254,tH #[]) ::
(nat_lit 256,cH #[sH "seated" 524,sH "Way.seated" 525,sH "/claim/cut.py" 526,jH 132 0,jH 4 0,jH 0 0,jH 0 0,jH 3 0,rH 251,.bool true,jH 181 0,rH 252,.none,rH 253,rH 254,rH 255,jH 531 0,jH 132 0,sH "/claim/cut.py" 532]) ::
(nat_lit 257,fH "seated" "Way.seated" (inClass (nq 39) 1) "fairbench.ways" 501 256) ::
(nat_lit 258,tH #[]) ::
(nat_lit 260,tH #[sH "self" 537,sH "count" 538,sH "heaps" 539,sH "places" 540]) ::
(nat_lit 261,tH #[]) ::
(nat_lit 263,cH #[sH "bench" 534,sH "Way.bench" 535,sH "/claim/cut.py" 536,jH 137 0,jH 4 0,jH 0 0,jH 0 0,jH 3 0,rH 258,.bool true,jH 181 0,rH 259,.none,rH 260,rH 261,rH 262,jH 541 0,jH 137 0,sH "/claim/cut.py" 542]) ::
(nat_lit 264,fH "bench" "Way.bench" (inClass (nq 39) 2) "fairbench.ways" 501 263) ::
(nat_lit 265,tH #[]) ::
(nat_lit 266,dH #[eH P "__module__" 510 (sH "fairbench.ways" 501),eH P "__firstlineno__" 514 (jH 127 513),eH P "order" 523 (rH 250),eH P "seated" 533 (rH 257),eH P "bench" 543 (rH 264),eH P "__static_attributes__" 544 (rH 265),eH P "__dict__" 546 (rH 268),eH P "__weakref__" 548 (rH 269),eH P "__doc__" 549 .none] 4) ::
(nat_lit 267,{ cls:=.type "type",data:=.cls { name:="Way",bases:=[.type "object"],mro:=[rH 267,.type "object"],ns:=266,qualname:="Way",subclasses:=[rH 286,rH 305,rH 324] },slots:=#[none,none,some (sH "Way" 503),some (sH "Way" 511),some (.builtin "object.__new__"),some (.bool true)] }) ::
(nat_lit 268,{ cls:=.type "getset_descriptor",data:=.fields #[sH "__dict__" 545,rH 267,.builtin "function.__dict__",.builtin "function.__dict__#set"] }) ::
(nat_lit 269,{ cls:=.type "getset_descriptor",data:=.fields #[sH "__weakref__" 547,rH 267,.builtin "ExceptionGroup.__weakref__",.none] }) ::
(nat_lit 272,tH #[rH 267]) ::
(nat_lit 279,tH #[]) ::
(nat_lit 282,cH #[sH "order" 564,sH "Most.order" 565,sH "/claim/cut.py" 566,jH 141 0,jH 3 0,jH 0 0,jH 0 0,jH 3 0,rH 279,.bool true,jH 181 0,rH 280,.none,.none,.none,rH 281,jH 567 0,jH 141 0,sH "/claim/cut.py" 568]) ::
(nat_lit 283,fH "order" "Most.order" (inClass (nq 40) 0) "fairbench.ways" 501 282) ::
(nat_lit 284,tH #[]) ::
(nat_lit 285,dH #[eH P "__module__" 559 (sH "fairbench.ways" 501),eH P "__firstlineno__" 563 (jH 139 562),eH P "order" 569 (rH 283),eH P "__static_attributes__" 570 (rH 284),eH P "__doc__" 571 .none] 2) ::
(nat_lit 286,{ cls:=.type "type",data:=.cls { name:="Most",bases:=[rH 267],mro:=[rH 286,rH 267,.type "object"],ns:=285,qualname:="Most" },slots:=#[some (rH 272),none,some (sH "Most" 552),some (sH "Most" 560),some (.builtin "object.__new__"),some (.bool true)] }) ::
(nat_lit 289,tH #[rH 267]) ::
(nat_lit 296,tH #[]) ::
(nat_lit 298,tH #[sH "self" 589,sH "count" 590,sH "heaps" 591,sH "rows" 592]) ::
(nat_lit 299,tH #[]) ::
(nat_lit 301,cH #[sH "order" 586,sH "Turns.order" 587,sH "/claim/cut.py" 588,jH 146 0,jH 3 0,jH 0 0,jH 0 0,jH 3 0,rH 296,.bool true,jH 181 0,rH 297,.none,rH 298,rH 299,rH 300,jH 593 0,jH 146 0,sH "/claim/cut.py" 594]) ::
(nat_lit 302,fH "order" "Turns.order" (inClass (nq 41) 0) "fairbench.ways" 501 301) ::
(nat_lit 303,tH #[]) ::
(nat_lit 304,dH #[eH P "__module__" 581 (sH "fairbench.ways" 501),eH P "__firstlineno__" 585 (jH 144 584),eH P "order" 595 (rH 302),eH P "__static_attributes__" 596 (rH 303),eH P "__doc__" 597 .none] 2) ::
(nat_lit 305,{ cls:=.type "type",data:=.cls { name:="Turns",bases:=[rH 267],mro:=[rH 305,rH 267,.type "object"],ns:=304,qualname:="Turns" },slots:=#[some (rH 289),none,some (sH "Turns" 574),some (sH "Turns" 582),some (.builtin "object.__new__"),some (.bool true)] }) ::
(nat_lit 308,tH #[rH 267]) ::
(nat_lit 315,tH #[]) ::
(nat_lit 317,tH #[sH "self" 615,sH "count" 616,sH "heaps" 617,sH "rows" 618]) ::
(nat_lit 318,tH #[]) ::
(nat_lit 320,cH #[sH "order" 612,sH "Loads.order" 613,sH "/claim/cut.py" 614,jH 153 0,jH 3 0,jH 0 0,jH 0 0,jH 3 0,rH 315,.bool true,jH 181 0,rH 316,.none,rH 317,rH 318,rH 319,jH 619 0,jH 153 0,sH "/claim/cut.py" 620]) ::
(nat_lit 321,fH "order" "Loads.order" (inClass (nq 42) 0) "fairbench.ways" 501 320) ::
(nat_lit 322,tH #[]) ::
(nat_lit 323,dH #[eH P "__module__" 607 (sH "fairbench.ways" 501),eH P "__firstlineno__" 611 (jH 151 610),eH P "order" 621 (rH 321),eH P "__static_attributes__" 622 (rH 322),eH P "__doc__" 623 .none] 2) ::
(nat_lit 324,{ cls:=.type "type",data:=.cls { name:="Loads",bases:=[rH 267],mro:=[rH 324,rH 267,.type "object"],ns:=323,qualname:="Loads" },slots:=#[some (rH 308),none,some (sH "Loads" 600),some (sH "Loads" 608),some (.builtin "object.__new__"),some (.bool true)] }) ::
(nat_lit 327,tH #[]) ::
(nat_lit 330,cH #[sH "ballots_naming" 626,sH "ballots_naming" 627,sH "/claim/cut.py" 628,jH 158 0,jH 2 0,jH 0 0,jH 0 0,jH 3 0,rH 327,.bool true,jH 181 0,rH 328,.none,.none,.none,rH 329,jH 629 0,jH 158 0,sH "/claim/cut.py" 630]) ::
(nat_lit 331,fH "ballots_naming" "ballots_naming" (nq 43) "fairbench.ways" 501 330) ::
(nat_lit 332,tH #[]) ::
(nat_lit 335,cH #[sH "names_of" 632,sH "names_of" 633,sH "/claim/cut.py" 634,jH 160 0,jH 1 0,jH 0 0,jH 0 0,jH 3 0,rH 332,.bool true,jH 181 0,rH 333,.none,.none,.none,rH 334,jH 635 0,jH 160 0,sH "/claim/cut.py" 636]) ::
(nat_lit 336,fH "names_of" "names_of" (nq 44) "fairbench.ways" 501 335) ::
(nat_lit 337,tH #[]) ::
(nat_lit 340,cH #[sH "unseated" 638,sH "unseated" 639,sH "/claim/cut.py" 640,jH 162 0,jH 2 0,jH 0 0,jH 0 0,jH 3 0,rH 337,.bool true,jH 181 0,rH 338,.none,.none,.none,rH 339,jH 641 0,jH 162 0,sH "/claim/cut.py" 642]) ::
(nat_lit 341,fH "unseated" "unseated" (nq 45) "fairbench.ways" 501 340) ::
(nat_lit 342,tH #[]) ::
(nat_lit 344,tH #[sH "count" 647,sH "heaps" 648,sH "rows" 649,sH "before" 650,sH "best" 651,sH "name" 652,sH "growth" 653]) ::
(nat_lit 345,tH #[]) ::
(nat_lit 347,cH #[sH "next_turn" 644,sH "next_turn" 645,sH "/claim/cut.py" 646,jH 164 0,jH 3 0,jH 0 0,jH 0 0,jH 3 0,rH 342,.bool true,jH 181 0,rH 343,.none,rH 344,rH 345,rH 346,jH 654 0,jH 164 0,sH "/claim/cut.py" 655]) ::
(nat_lit 348,fH "next_turn" "next_turn" (nq 46) "fairbench.ways" 501 347) ::
(nat_lit 349,tH #[]) ::
(nat_lit 351,tH #[sH "count" 660,sH "heaps" 661,sH "rows" 662,sH "best" 663,sH "name" 664,sH "load" 665]) ::
(nat_lit 352,tH #[]) ::
(nat_lit 354,cH #[sH "next_load" 657,sH "next_load" 658,sH "/claim/cut.py" 659,jH 172 0,jH 3 0,jH 0 0,jH 0 0,jH 3 0,rH 349,.bool true,jH 181 0,rH 350,.none,rH 351,rH 352,rH 353,jH 666 0,jH 172 0,sH "/claim/cut.py" 667]) ::
(nat_lit 355,fH "next_load" "next_load" (nq 47) "fairbench.ways" 501 354) ::
(nat_lit 356,tH #[]) ::
(nat_lit 358,tH #[sH "one" 672,sH "two" 673]) ::
(nat_lit 359,tH #[]) ::
(nat_lit 361,cH #[sH "comes_ahead" 669,sH "comes_ahead" 670,sH "/claim/cut.py" 671,jH 179 0,jH 2 0,jH 0 0,jH 0 0,jH 3 0,rH 356,.bool true,jH 181 0,rH 357,.none,rH 358,rH 359,rH 360,jH 674 0,jH 179 0,sH "/claim/cut.py" 675]) ::
(nat_lit 362,fH "comes_ahead" "comes_ahead" (nq 48) "fairbench.ways" 501 361) ::
(nat_lit 363,tH #[]) ::
(nat_lit 365,tH #[sH "heaps" 680,sH "rows" 681,sH "name" 682,sH "many_in_all" 683,sH "together" 684,sH "names" 685,sH "many" 686,sH "load" 687]) ::
(nat_lit 366,tH #[]) ::
(nat_lit 368,cH #[sH "load_of_name" 677,sH "load_of_name" 678,sH "/claim/cut.py" 679,jH 183 0,jH 3 0,jH 0 0,jH 0 0,jH 3 0,rH 363,.bool true,jH 181 0,rH 364,.none,rH 365,rH 366,rH 367,jH 688 0,jH 183 0,sH "/claim/cut.py" 689]) ::
(nat_lit 369,fH "load_of_name" "load_of_name" (nq 49) "fairbench.ways" 501 368) ::
(nat_lit 370,tH #[]) ::
(nat_lit 372,tH #[sH "names" 694,sH "rows" 695,sH "load" 696,sH "name" 697,sH "brought" 698]) ::
(nat_lit 373,tH #[]) ::
(nat_lit 375,cH #[sH "load_of_heap" 691,sH "load_of_heap" 692,sH "/claim/cut.py" 693,jH 193 0,jH 2 0,jH 0 0,jH 0 0,jH 3 0,rH 370,.bool true,jH 181 0,rH 371,.none,rH 372,rH 373,rH 374,jH 699 0,jH 193 0,sH "/claim/cut.py" 700]) ::
(nat_lit 376,fH "load_of_heap" "load_of_heap" (nq 50) "fairbench.ways" 501 375) ::
(nat_lit 377,tH #[]) ::
(nat_lit 379,tH #[sH "_law_script" 707,sH "_law_k" 708]) ::
(nat_lit 380,tH #[]) ::
(nat_lit 382,cH #[sH "_law_cell_at" 704,sH "_law_cell_at" 705,sH "/claim/cut.py" 706,jH 200 0,jH 2 0,jH 0 0,jH 0 0,jH 3 0,rH 377,.bool true,jH 181 0,rH 378,.none,rH 379,rH 380,rH 381,jH 709 0,jH 200 0,sH "/claim/cut.py" 710]) ::
(nat_lit 383,fH "_law_cell_at" "_law_cell_at" (nq 52) "law_fairbench_k64_whole_order_and_parts_of_h" 702 382) ::
(nat_lit 384,tH #[]) ::
(nat_lit 386,tH #[sH "_law_cell" 715,sH "_law_place" 716,sH "_law_number" 717]) ::
(nat_lit 387,tH #[]) ::
(nat_lit 389,cH #[sH "_law_mixed" 712,sH "_law_mixed" 713,sH "/claim/cut.py" 714,jH 204 0,jH 2 0,jH 0 0,jH 0 0,jH 3 0,rH 384,.bool true,jH 181 0,rH 385,.none,rH 386,rH 387,rH 388,jH 718 0,jH 204 0,sH "/claim/cut.py" 719]) ::
(nat_lit 390,fH "_law_mixed" "_law_mixed" (nq 53) "law_fairbench_k64_whole_order_and_parts_of_h" 702 389) ::
(nat_lit 391,tH #[]) ::
(nat_lit 394,cH #[sH "_law_set" 721,sH "_law_set" 722,sH "/claim/cut.py" 723,jH 208 0,jH 2 0,jH 0 0,jH 0 0,jH 3 0,rH 391,.bool true,jH 181 0,rH 392,.none,.none,.none,rH 393,jH 724 0,jH 208 0,sH "/claim/cut.py" 725]) ::
(nat_lit 395,fH "_law_set" "_law_set" (nq 54) "law_fairbench_k64_whole_order_and_parts_of_h" 702 394) ::
(nat_lit 396,tH #[]) ::
(nat_lit 399,cH #[sH "_law_heaps" 727,sH "_law_heaps" 728,sH "/claim/cut.py" 729,jH 210 0,jH 4 0,jH 0 0,jH 0 0,jH 3 0,rH 396,.bool true,jH 181 0,rH 397,.none,.none,.none,rH 398,jH 730 0,jH 210 0,sH "/claim/cut.py" 731]) ::
(nat_lit 400,fH "_law_heaps" "_law_heaps" (nq 55) "law_fairbench_k64_whole_order_and_parts_of_h" 702 399) ::
(nat_lit 401,tH #[]) ::
(nat_lit 403,tH #[sH "_law_found" 736,sH "_law_due" 737,sH "_law_k" 738]) ::
(nat_lit 404,tH #[]) ::
(nat_lit 406,cH #[sH "_law_same" 733,sH "_law_same" 734,sH "/claim/cut.py" 735,jH 226 0,jH 2 0,jH 0 0,jH 0 0,jH 3 0,rH 401,.bool true,jH 181 0,rH 402,.none,rH 403,rH 404,rH 405,jH 739 0,jH 226 0,sH "/claim/cut.py" 740]) ::
(nat_lit 407,fH "_law_same" "_law_same" (nq 56) "law_fairbench_k64_whole_order_and_parts_of_h" 702 406) ::
(nat_lit 408,tH #[]) ::
(nat_lit 410,tH #[sH "_law_heaps_here" 745,sH "_law_cell" 746,sH "_law_rows_here" 747,sH "_law_k" 748,sH "_law_names" 749,sH "_law_many" 750,sH "_law_part" 751,sH "_law_cut" 752]) ::
(nat_lit 411,tH #[]) ::
(nat_lit 413,cH #[sH "_law_rows" 742,sH "_law_rows" 743,sH "/claim/cut.py" 744,jH 243 0,jH 2 0,jH 0 0,jH 0 0,jH 3 0,rH 408,.bool true,jH 181 0,rH 409,.none,rH 410,rH 411,rH 412,jH 753 0,jH 243 0,sH "/claim/cut.py" 754]) ::
(nat_lit 414,fH "_law_rows" "_law_rows" (nq 57) "law_fairbench_k64_whole_order_and_parts_of_h" 702 413) ::
(nat_lit 415,tH #[]) ::
(nat_lit 418,cH #[sH "_law_told" 756,sH "_law_told" 757,sH "/claim/cut.py" 758,jH 253 0,jH 3 0,jH 0 0,jH 0 0,jH 3 0,rH 415,.bool true,jH 181 0,rH 416,.none,.none,.none,rH 417,jH 759 0,jH 253 0,sH "/claim/cut.py" 760]) ::
(nat_lit 419,fH "_law_told" "_law_told" (nq 58) "law_fairbench_k64_whole_order_and_parts_of_h" 702 418) ::
(nat_lit 420,tH #[]) ::
(nat_lit 423,cH #[sH "law" 762,sH "law" 763,sH "/claim/cut.py" 764,jH 262 0,jH 1 0,jH 0 0,jH 0 0,jH 3 0,rH 420,.bool true,jH 181 0,rH 421,.none,.none,.none,rH 422,jH 765 0,jH 262 0,sH "/claim/cut.py" 766]) ::
(nat_lit 424,fH "law" "law" (nq 59) "law_fairbench_k64_whole_order_and_parts_of_h" 702 423)::[]
def Rh:List Addr:=[2,3,15,22,23,24,25,28,35,36,37,40,47,48,49,52,59,60,61,64,71,72,73,76,79,80,81,84,85,86,88,89,91,92,93,95,96,98,99,100,102,103,105,106,107,110,111,112,114,115,117,118,119,120,123,124,125,127,128,130,131,132,134,135,137,138,139,142,143,144,147,148,149,151,152,154,155,156,158,159,161,162,163,165,166,168,169,170,172,173,175,176,177,180,181,182,185,186,187,190,191,192,195,196,197,199,200,202,203,204,207,208,209,211,212,214,215,216,218,219,221,222,223,225,226,228,229,230,232,233,235,236,244,246,247,249,250,251,253,254,256,257,258,260,261,263,264,265,266,267,268,269,272,279,282,283,284,285,286,289,296,298,299,301,302,303,304,305,308,315,317,318,320,321,322,323,324,327,330,331,332,335,336,337,340,341,342,344,345,347,348,349,351,352,354,355,356,358,359,361,362,363,365,366,368,369,370,372,373,375,376,377,379,380,382,383,384,386,387,389,390,391,394,395,396,399,400,401,403,404,406,407,408,410,411,413,414,415,418,419,420,423,424]
def qv:Program:={ PySem.Challenge.pw_fairbench_k64_whole_order_and_parts_of_h with main:={ PySem.Challenge.pw_fairbench_k64_whole_order_and_parts_of_h.main with body:=(PySem.Challenge.pw_fairbench_k64_whole_order_and_parts_of_h.main.body.zipIdx.filter fun x=>!([0,6,15,23,33,38,51].contains x.2)).map (·.1) } }
theorem Dp:∀P,Rh=(KH P).map (·.1):=fun _=>by kernel_rfl
def zE(w:World):Option Shared:=openEnds treeTable PySem.Challenge.rw_fairbench_k64_whole_order_and_parts_of_h.row.prog w 6904
def y1(s:Shared):=seen ((recsOf qv).map (·.name)) (ownsOf qv) [] { s with gens:=#[] }
def y3(s:Shared):Bool:=s.heap.keysOk (looseW qv []) ((recsOf qv).map (·.name)) ((litsOf qv).map (·.1)) ((clssOf qv (looseW qv [])).map (·.name))&&s.heap.accountedOkI (importedModules PySem.Challenge.rw_fairbench_k64_whole_order_and_parts_of_h.row.prog.main.body)&&s.heap.isNs mainGlobals&&s.heap.isNs builtinsNs&&tablesOk qv s.heap&&(xlAt qv [] s&&recOk (RowW.records PySem.Challenge.rw_fairbench_k64_whole_order_and_parts_of_h.row.toRowW) s)&&s.gens.size==0
theorem d0:drecsOf qv=[]:=by kernel_rfl
theorem d1:dclssOf qv []=[]:=by kernel_rfl
theorem d2:wclssOf qv []=[]:=by kernel_rfl
theorem Yd:∀w,(zE w).map y1=some (expectedOf qv):=by intro w;kernel_rfl
theorem Ye:∀w,(zE w).map (fun s=>(s.heap.bltView,tabsOk qv s))=some (bltViewBooted,true):=by intro w;kernel_rfl
theorem Yg:∀w,(zE w).map (fun s=>(y3 s,plainSeenE qv (looseW qv []) s,wideSeen qv s))=some (true,plainGoodE qv (looseW qv []),wideGood qv):=by intro w;kernel_rfl
theorem Yh:∀w,(zE w).map (kmHook KH Rh Dp [280]).obs=some ((kmHook KH Rh Dp [280]).val w):=by intro w;kernel_rfl
theorem Yi:LeftO PySem.Challenge.rw_fairbench_k64_whole_order_and_parts_of_h.row.prog qv [] (fun s=>xlAt qv [] s&&recOk (RowW.records PySem.Challenge.rw_fairbench_k64_whole_order_and_parts_of_h.row.toRowW) s) (kmHook KH Rh Dp [280]).obs (kmHook KH Rh Dp [280]).val 6904:=by
  intro w;have h1:=Yd w;have h2:=Yg w;have h3:=Ye w;have h4:=Yh w;unfold zE at h1 h2 h3 h4;cases h:openEnds treeTable PySem.Challenge.rw_fairbench_k64_whole_order_and_parts_of_h.row.prog w 6904 with
  |none=>rw[h] at h1;cases h1
  |some s =>
   rw[h] at h1 h2 h3 h4;have e1:=ow h1;have e3:=ow h3;have e2:=ow h2;have p:pinSeenD qv (drecsOf qv) s=pinGoodD (drecsOf qv):=by rw[d0];rfl
   have q:plainSeenD qv [] s=plainGoodD qv []:=by unfold plainSeenD plainGoodD;rw[d1];rfl
   have r:clsSeenW qv [] s=clsGoodW qv []:=by unfold clsSeenW clsGoodW;rw[d2];rfl
   exact il some (Prod.ext (Prod.ext e1 (Prod.ext (il (·.1) e3) (Prod.ext (il (·.1) e2) (Prod.ext (il (·.2) e3) (Prod.ext p (Prod.ext (il (·.2.1) e2) (Prod.ext q (Prod.ext (il (·.2.2) e2) r)))))))) (ow h4))
end HH
namespace L2
open PySem PySem.Spec PyProof.Rows
abbrev Key:=Sum Int Str
def BW:Key→Value→Bool
  |.inl k,v=>Value.isInt k v
  |.inr x,v=>Value.isStrOf x v
def abz(w:World):Key→Int
  |.inl k=>hashInt k
  |.inr x=>hashStr w x
theorem fe:∀{k:Key} {v:Value},BW k v=true→(∃i t,k=Sum.inl i∧v=Value.int i t)∨(∃x t,k=Sum.inr x∧v=Value.str x t)
  |.inl i,v,h=>by obtain⟨t,e⟩:=Value.isInt_shape (k:=i) (v:=v) h;exact .inl ⟨i,t,rfl,e⟩
  |.inr x,v,h=>by obtain⟨t,e⟩:=Value.isStrOf_shape (x:=x) (v:=v) h;exact .inr ⟨x,t,rfl,e⟩
theorem Li(i:Int)(t:Tok):BW (.inl i) (.int i t)=true:=by simp[BW,Value.isInt]
theorem Lj(x:Str)(t:Tok):BW (.inr x) (.str x t)=true:=by simp[BW,Value.isStrOf]
theorem Vg(a b:Int):decide ((Sum.inl a:Key)=Sum.inl b)=(a==b):=by
  by_cases e:a=b
  ·subst e;simp
  ·have h:¬ (Sum.inl a:Key)=Sum.inl b:=fun q=>e (Sum.inl.inj q);rw[lL h];exact(beq_eq_false_iff_ne.mpr e).symm
theorem Vh(a b:Str):decide ((Sum.inr a:Key)=Sum.inr b)=decide (a=b):=by
  by_cases e:a=b
  ·subst e;simp
  ·have h:¬ (Sum.inr a:Key)=Sum.inr b:=fun q=>e (Sum.inr.inj q);rw[lL h,lL e]
theorem Vi(a:Int)(b:Str):decide ((Sum.inl a:Key)=Sum.inr b)=false:=lL (fun q=>nomatch q)
theorem Vj(a:Str)(b:Int):decide ((Sum.inr a:Key)=Sum.inl b)=false:=lL (fun q=>nomatch q)
def fh(prog:Program)(w:World):PySem.KeyKind prog w Key where
  is:=BW
  hash:=abz w
  inj:=fun v a b ha hb=>by
    rcases fe ha with⟨i,t,rfl,rfl⟩|⟨x,t,rfl,rfl⟩
    · rcases fe hb with⟨j,u,rfl,e⟩|⟨y,u,rfl,e⟩
      ·injection e with e1 _;rw[e1]
      ·exact nomatch e
    · rcases fe hb with⟨j,u,rfl,e⟩|⟨y,u,rfl,e⟩
      ·exact nomatch e
      ·injection e with e1 _;rw[e1]
  byValue:=fun k v h=>by rcases fe h with⟨i,t,rfl,rfl⟩|⟨x,t,rfl,rfl⟩<;>rfl
  pyHash:=fun hv h=>by
    rcases fe hv with⟨i,t,rfl,rfl⟩|⟨x,t,rfl,rfl⟩
    ·exact wpAny_pyHash_int h
    ·exact wpAny_pyHash_str h
  eqBool:=fun hu hv h=>by
    rcases fe hu with⟨i,t,rfl,rfl⟩|⟨x,t,rfl,rfl⟩
    · rcases fe hv with⟨j,u,rfl,rfl⟩|⟨y,u,rfl,rfl⟩
      ·rw[Vg] at h;exact wpAny_eqBool_int h
      ·rw[Vi] at h;exact SeqAt.EqAt.int_str i t y u _ _ _ _ h
    · rcases fe hv with⟨j,u,rfl,rfl⟩|⟨y,u,rfl,rfl⟩
      ·rw[Vj] at h;exact SeqAt.EqAt.str_int x t j u _ _ _ _ h
      ·rw[Vh] at h;exact wpAny_eqBool_str h
  «strs»:=fun k x t v h=>by
    rcases fe h with⟨i,u,rfl,e⟩|⟨y,u,rfl,e⟩
    ·exact nomatch e
    ·injection e with e1 _;subst e1;cases v<;>rfl
theorem Fz(prog:Program)(w:World)(i:Int)(t:Tok):(fh prog w).is (.inl i) (.int i t)=true:=Li i t
theorem FC(prog:Program)(w:World)(x:Str)(t:Tok):(fh prog w).is (.inr x) (.str x t)=true:=Lj x t
inductive V where
  |non|bl (b:Bool)|int (i:Int)|str (x:Str)|Nx (b:Array UInt8)|XM (b:UInt64)|ref (a:Addr)|ty (n:String)
  deriving DecidableEq
def RelV:V→Value→Prop
  |.non,u=>u=Value.none
  |.bl b,u=>u=Value.bool b
  |.int i,u=>∃t,u=Value.int i t
  |.str x,u=>∃t,u=Value.str x t
  |.Nx b,u=>∃t,u=Value.bytes b t
  |.XM b,u=>∃t,u=Value.float b t
  |.ref a,u=>u=Value.ref a
  |.ty n,u=>u=Value.type n
abbrev Vals:List V→dO→Prop:=Paired RelV
theorem Vals.length{xs:List V}(r:Vals xs us):xs.length=us.length:=wd r
theorem Vals.get:∀{xs:List V} {us:dO} {i:Nat} {x:V},Vals xs us→xs[i]?=some x→∃u,us[i]?=some u∧RelV x u
  |_,_,_,_,.nil,e=>by simp at e
  |_,_,0,_,.cons r _,e=>by simp at e;subst e;exact⟨_,rfl,r⟩
  |_,_,i+1,x,.cons _ t,e=>by obtain⟨u,h1,h2⟩:=Vals.get (i:=i) (x:=x) t (by simpa using e);exact⟨u,by simpa using h1,h2⟩
theorem Vals.append:∀{xs ys:List V} {us ws:dO},Vals xs us→Vals ys ws→Vals (xs++ys) (us++ws)
  |_,_,_,_,.nil,s=>s
  |_,_,_,_,.cons r t,s=>.cons r (Vals.append t s)
theorem Vals.take:∀{xs:List V} {us:dO} (n:Nat),Vals xs us→Vals (xs.take n) (us.take n)
  |_,_,0,_=>.nil
  |_,_,_+1,.nil=>.nil
  |_,_,n+1,.cons r t=>.cons r (Vals.take n t)
theorem Vals.drop:∀{xs:List V} {us:dO} (n:Nat),Vals xs us→Vals (xs.drop n) (us.drop n)
  |_,_,0,r=>r
  |_,_,_+1,.nil=>.nil
  |_,_,n+1,.cons _ t=>Vals.drop n t
def tf:Option V→ni→Prop
  |some v,some u=>RelV v u
  |none,none=>True
  |_,_=>False
def KV{κ:Type}:List (κ×V)→List (κ×Value)→Prop:=Paired fun(p:κ×V) (q:κ×Value)=>p.1=q.1∧RelV p.2 q.2
def kV:Key→V
  |.inl i=>.int i
  |.inr x=>.str x
inductive HO where
  /-- a list -/
  |lst (xs:List V)
  /-- a tuple (never changes) -/
  |tup (xs:List V)
  /-- a dict whose keys are ints and texts;one whose keys are tuples of ints and texts (the empty one is both) -/
  |dK (aX:List (Key×V))|dT (aX:List (List Key×V))
  /-- a set of ints: its members,its size -/
  |set (S:Int→Bool) (n:Nat)
  /-- an instance of the class at C,its dict at dx,its attributes -/
  |ins (C dx:Addr) (fs:List (Str×V))
  /-- the dict of the instance at x -/
  |own (x:Addr)
  /-- the dict of an exception -/
  |xd (fs:List (Str×V))
  /-- a bound method,f of x -/
  |met (f x:Addr)
  /-- a range object lo,lo+1,.. below hi -/
  |rng (lo hi:Int)
  /-- a thing that is known to the object (the script;a dict while a loop walks it): read,never written while it is so -/
  |t7 (o:Obj) (u:HO)
  /-- a code object's table -/
  |Fj (ps:Array Value)
  /-- a code record,its name -/
  |Hu (q:Str)
  /-- any other thing,by what is true of its one object (a def of afy own: ahs a S n:=HO.ext fun h=>..) -/
  |ext (φ:Heap→Prop)
abbrev Hp:=Addr→Option HO
def upd(H:Hp)(a:Addr)(o:HO):Hp:=fun b=>if b=a then some o else H b
theorem aL{H:Hp}{o:HO}:upd H a o a=some o:=by unfold upd;rw[ay rfl]
theorem aK{H:Hp}{b:Addr}{o:HO}(h:b≠a):upd H a o b=H b:=by unfold upd;rw[aZ h]
theorem yI{H:Hp}{b:Addr}{o u:HO}(h:H a=some o)(h':H b=some u)(d:o≠u):a≠b:=by intro e;subst e;rw[h] at h';exact d (ow h')
theorem bN{H:Hp}{b:Addr}{o:HO}(h:H a=some o)(h':H b=none):a≠b:=by intro e;subst e;rw[h] at h';cases h'
section
variable (P:Program) (w:World)
def cx(H:Hp)(h:Heap)(a:Addr):HO→Prop
  |.lst xs=>xs.length≤sizeLine∧∃(its:dO) (n:Nat),Vals xs its∧h.get? a=some { cls:=.type "list",data:=.seq its.toArray n }
  |.tup xs=>xs.length≤sizeLine∧∃its:dO,Vals xs its∧IsTup h a its.toArray
  |.dK aX=>aX.length≤sizeLine∧(a==sysModules)=false∧∃vs,KV aX vs∧h.DictOf (fh P w) a vs
  |.dT aX=>aX.length≤sizeLine∧(a==sysModules)=false∧∃xs:List (List Key×Addr×Value),
      Paired (fun(p:List Key×V) (q:List Key×Addr×Value)=>p.1=q.1∧H q.2.1=some (.tup (p.1.map kV))∧RelV p.2 q.2.2) aX xs ∧
      ∃o es ep,h.get? a=some o∧o.ExactDict∧o.data=.dict es ep∧es.toList=xs.map (entryOfKey (tupleKind (fh P w)))∧(xs.map (·.1)).Nodup
  |.set S n=>h.SetOf (intKind P w) a S n
  |.ins C dx fs=>H dx=some (.own a)∧fs.length≤1000∧dx≠a∧h.get? a=some (instObj C dx) ∧
      ∃mA,h.Ns1 dx mA∧(∀f,tf (fs.lookup f) (mA f))∧PySem.Within mA (fs.map (·.1))
  |.own _=>∃o,h.get? a=some o
  |.xd fs=>∃mA,h.Ns1 a mA∧∀f,tf (fs.lookup f) (mA f)
  |.rng lo hi=>∃t u v,h.get? a=some { cls:=.type "range",data:=.fields #[.int lo t,.int hi u,.int 1 v] }
  |.t7 o u=>h.get? a=some o∧cx H h a u
  |.Fj ps=>∃(q:Str) (qs:Array Value),ps=#[.str q 0]∧h.get? a=some { cls:=.none,data:=.fields qs }∧TriplesOk qs.toList∧∀pos v,codeAmong pos qs.toList=some v→∃c,v=.ref c∧H c=some (.Hu q)
  |.Hu q=>h.CodeRec (.ref a) q
  |.met f x=>h.get? a=some (methodObj (.ref f) (.ref x))
  |.ext φ=>φ h∧(∃o,h.get? a=some o)∧∀h1 h2:Heap,φ h1→(∀o,h1.get? a=some o→h2.get? a=some o)→φ h2
def t8(H:Hp)(h:Heap):Prop:=∀a o,H a=some o→cx P w H h a o
end
section
variable {P:Program} {w:World} {H H':Hp} {h h':Heap} {a:Addr} {o:HO}
theorem cx.lt(x:cx P w H h a o):a<h.objs.size:=by
  cases o with
  |lst xs=>obtain⟨_,_,_,_,e⟩:=x;exact dj e
  |tup xs=>obtain⟨_,_,_,p⟩:=x;exact p.lt
  |dK aX=>obtain⟨_,_,_,_,o,_,_,e,_⟩:=x;exact dj e
  |dT aX=>obtain⟨_,_,_,_,o,_,_,e,_⟩:=x;exact dj e
  |set S n=>obtain⟨o,_,_,_,e,_⟩:=x;exact dj e
  |ins C dx fs=>obtain⟨_,_,_,e,_⟩:=x;exact dj e
  |own y=>obtain⟨_,e⟩:=x;exact dj e
  |xd fs=>obtain⟨_,⟨_,_,_,e,_⟩,_⟩:=x;exact dj e
  |rng lo hi=>obtain⟨_,_,_,e⟩:=x;exact dj e
  |t7 ob u=>obtain⟨e,_⟩:=x;exact dj e
  |Fj ps=>obtain⟨_,_,_,e,_⟩:=x;exact dj e
  |Hu q=>obtain⟨_,_,_,_,e,g,_⟩:=x;cases e;exact dj g
  |met f y=>exact dj (show h.get? a=some _ from x)
  |ext φ=>obtain⟨_,⟨_,e⟩,_⟩:=x;exact dj e
theorem Paired.Lk{α β:Type}{F G:α→β→Prop}:∀{l₁:List α} {l₂:List β},Paired F l₁ l₂→(∀a b,F a b→G a b)→Paired G l₁ l₂
  |_,_,.nil,_=>.nil
  |_,_,.cons r t,f=>.cons (f _ _ r) (Paired.Lk t f)
theorem cx.Be(x:cx P w H h a o)(k:∀b u,(b=a∨H b=some (.own a))→h.get? b=some u→h'.get? b=some u)(ho:∀b,H b=some (.own a)→H' b=some (.own a))(ht:∀b xs,H b=some (.tup xs)→H' b=some (.tup xs))(oA:∀b q,H b=some (.Hu q)→H' b=some (.Hu q):=by
      intro b q hb
      first
        |exact hb
        |(rw[aK (bN hb (by assumption))];exact hb)
        |(rw[aK (yI hb (by assumption) (fun z=>nomatch z))];exact hb)
        |(rw[aK (by rintro rfl;simp_all [XO])];exact hb)):cx P w H' h' a o:=by
  induction o with
  |lst xs=>obtain⟨z,its,n,r,e⟩:=x;exact⟨z,its,n,r,k _ _ (.inl rfl) e⟩
  |tup xs=>obtain⟨z,its,r,ob,e,c⟩:=x;exact⟨z,its,r,ob,k _ _ (.inl rfl) e,c⟩
  |dK aX=>obtain⟨z,y,vs,r,ob,es,ep,e,c⟩:=x;exact⟨z,y,vs,r,ob,es,ep,k _ _ (.inl rfl) e,c⟩
  |dT aX=>obtain⟨z,y,xs,r,ob,es,ep,e,c⟩:=x;exact⟨z,y,xs,Paired.Lk r fun p q z=>⟨z.1,ht _ _ z.2.1,z.2.2⟩,ob,es,ep,k _ _ (.inl rfl) e,c⟩
  |set S n=>obtain⟨ob,es,ep,t,e,c⟩:=x;exact⟨ob,es,ep,t,k _ _ (.inl rfl) e,c⟩
  |ins C dx fs=>obtain⟨d,z,ne,e,mA,⟨od,es,ep,e2,c⟩,r⟩:=x;exact⟨ho _ d,z,ne,k _ _ (.inl rfl) e,mA,⟨od,es,ep,k _ _ (.inr d) e2,c⟩,r⟩
  |own y=>obtain⟨ob,e⟩:=x;exact⟨ob,k _ _ (.inl rfl) e⟩
  |xd fs=>obtain⟨mA,⟨od,es,ep,e,c⟩,r⟩:=x;exact⟨mA,⟨od,es,ep,k _ _ (.inl rfl) e,c⟩,r⟩
  |rng lo hi=>obtain⟨t,u,v,e⟩:=x;exact⟨t,u,v,k _ _ (.inl rfl) e⟩
  |t7 ob u ih=>obtain⟨e,q⟩:=x;exact⟨k _ _ (.inl rfl) e,ih q⟩
  |Fj ps=>obtain⟨q,qs,e0,e,ht,hc⟩:=x;refine⟨q,qs,e0,k a _ (.inl rfl) e,ht,fun pos v hv=>?_⟩;obtain⟨c,e1,hH⟩:=hc pos v hv;exact⟨c,e1,oA _ _ hH⟩
  |Hu q=>obtain⟨c,o2,vs2,t2,e2,g2,r2⟩:=x;cases e2;exact⟨_,o2,vs2,t2,rfl,k _ _ (.inl rfl) g2,r2⟩
  |met f y=>have e:h.get? a=some (methodObj (.ref f) (.ref y)):=x;show h'.get? a=some (methodObj (.ref f) (.ref y));exact k a _ (.inl rfl) e
  |ext φ=>obtain⟨p,⟨o,e⟩,st⟩:=x;exact⟨st _ _ p fun o q=>k _ _ (.inl rfl) q,⟨o,k _ _ (.inl rfl) e⟩,st⟩
theorem t8.lt(x:t8 P w H h)(e:H a=some o):a<h.objs.size:=(x a o e).lt
theorem t8.fresh(x:t8 P w H h)(e:h.objs.size≤a):H a=none:=by
  cases q:H a with
  |none=>rfl
  |some u=>exact absurd (oP (x.lt q) e) (Nat.lt_irrefl _)
theorem t8.kept(x:t8 P w H h)(k:∀b u,h.get? b=some u→h'.get? b=some u):t8 P w H h':=fun a o e =>
  (x a o e).Be (fun b u _ q=>k b u q) (fun _ q=>q) fun _ _ q=>q
theorem t8.laid(x:t8 P w H h)(k:∀b u,h.get? b=some u→h'.get? b=some u)(hp:h.objs.size≤a)(new:cx P w (upd H a o) h' a o):t8 P w (upd H a o) h':=fun b u e=>by
  have hn:=x.fresh hp;by_cases hb:b=a
  ·subst hb;rw[aL] at e;cases e;exact new
  ·rw[aK hb] at e;exact(x b u e).Be (fun c v _ q=>k c v q) (fun c q=>by rw[aK (bN q hn)];exact q) fun c xs q=>by rw[aK (bN q hn)];exact q
end
def Rd(H:Hp)(a:Addr)(u:HO):Prop:=H a=some u∨∃o,H a=some (.t7 o u)
theorem Rd.ok{H:Hp}{u:HO}(r:Rd H a u)(x:t8 P w H h):cx P w H h a u:=by
  rcases r with r|⟨o,r⟩
  ·exact x a u r
  ·obtain⟨_,q⟩:=x a _ r;exact q
def XO:Option HO→Prop
  |some (.lst _)=>True
  |some (.dK _)=>True
  |some (.dT _)=>True
  |some (.set _ _)=>True
  |some (.ins _ _ _)=>True
  |some (.ext _)=>True
  |_=>False
section
variable {P:Program} {w:World} {H:Hp} {h h':Heap} {x e:Addr} {o':HO}
theorem t8.write(ok:t8 P w H h)(mu:XO (H x))(he:e=x∨H e=some (.own x))(k:∀b u,b≠e→h.get? b=some u→h'.get? b=some u)(XQ:∃u,h'.get? e=some u)(new:cx P w (upd H x o') h' x o'):t8 P w (upd H x o') h':=fun b u q=>by
  have Yj:∀c y,H c=some (.own y)→c≠x:=fun c y r z=>by subst z;rw[r] at mu;exact mu
  have abB:∀c xs,H c=some (.tup xs)→c≠x:=fun c xs r z=>by subst z;rw[r] at mu;exact mu
  by_cases hb:b=x
  ·subst hb;rw[aL] at q;cases q;exact new
  · rw[aK hb] at q;by_cases Vk:b=e
    · have q':H b=some (.own x):=by
        rcases he with z|z
        ·exact absurd (Vk.trans z) hb
        ·rw[Vk];exact z
      rw[q] at q';cases q';obtain⟨v,hv⟩:=XQ;exact⟨v,by rw[Vk];exact hv⟩
    · refine(ok b u q).Be (fun c v hc r=>k c v ?_ r) (fun c r=>by rw[aK (Yj c b r)];exact r) fun c xs r=>by rw[aK (abB c xs r)];exact r
      rcases hc with rfl|hc
      ·exact Vk
      · rintro rfl;rcases he with z|z
        ·exact Yj c b hc z
        ·rw[hc] at z;cases z;exact hb rfl
end
structure Un (fs ex:List Addr) (H H':Hp) (h h':Heap):Prop where
  keep:∀b o,h.get? b=some o→H b=none→b∉fs→b∉ex→h'.get? b=some o
  slot:∀b o,h.get? b=some o→H b=none→b∈fs→b∉ex→∃sl,h'.get? b=some { o with slots:=sl }
  free:∀b o,h.get? b=some o→H b=none→b∉ex→H' b=none
  there:∀b o,h.get? b=some o→b∉ex→∃o',h'.get? b=some o'
  qI:∀b xs,H b=some (.tup xs)→H' b=some (.tup xs)
  wg:∀b o u,H b=some (.t7 o u)→H' b=some (.t7 o u)
  wj:∀b ps,H b=some (.Fj ps)→∃more,H' b=some (.Fj (ps++more))
section
variable {fs fs' ex ex':List Addr} {H H1 H2:Hp} {h h1 h2 h':Heap} {a x e:Addr} {o:HO}
theorem Un.any(u:Un fs ex H H1 h h1){b:Addr}{ob:Obj}(q:h.get? b=some ob)(n:H b=none)(hx:b∉ex):∃sl,h1.get? b=some { ob with slots:=sl }:=by
  by_cases hb:b∈fs
  ·exact u.slot b ob q n hb hx
  ·exact⟨ob.slots,u.keep b ob q n hb hx⟩
theorem Un.kept(k:∀b u,h.get? b=some u→h'.get? b=some u):Un fs ex H H h h' :=
  ⟨fun b ob q _ _ _=>k b ob q,fun b ob q _ _ _=>⟨ob.slots,k b ob q⟩,fun _ _ _ n _=>n,fun b ob q _=>⟨ob,k b ob q⟩,fun _ _ q=>q,fun _ _ _ q=>q,fun _ ps q=>⟨#[],by rw[q];simp⟩⟩
theorem Un.refl:Un fs ex H H h h:=Un.kept fun _ _ q=>q
theorem Un.laid(k:∀b u,h.get? b=some u→h'.get? b=some u)(hp:h.objs.size≤a)(hn:H a=none):Un fs ex H (upd H a o) h h' where
  keep:=fun b u q _ _ _=>k b u q
  slot:=fun b u q _ _ _=>⟨u.slots,k b u q⟩
  free:=fun b u q n _=>by rw[aK (fV (oP (dj q) hp))];exact n
  there:=fun b u q _=>⟨u,k b u q⟩
  qI:=fun b xs q=>by rw[aK (bN q hn)];exact q
  wg:=fun b u xs q=>by rw[aK (bN q hn)];exact q
  wj:=fun b ps q=>⟨#[],by rw[aK (bN q hn),q];simp⟩
theorem Un.write(mu:XO (H x))(he:e=x∨H e=some (.own x))(k:∀b u,b≠e→h.get? b=some u→h'.get? b=some u)(XQ:∃u,h'.get? e=some u):Un fs ex H (upd H x o) h h':=by
  have hx:∀b,H b=none→b≠x:=fun b n z=>by subst z;rw[n] at mu;exact mu
  have hb:∀b,H b=none→b≠e:=fun b n z=>by
    subst z;rcases he with r|r
    ·exact hx b n r
    ·rw[n] at r;cases r
  have hm:∀b u,H b=some u→¬ XO (some u)→b≠x:=fun b u q nm z=>by subst z;rw[q] at mu;exact nm mu
  refine⟨fun b u q n _ _=>k b u (hb b n) q,fun b u q n _ _=>⟨u.slots,k b u (hb b n) q⟩,fun b u q n _=>by rw[aK (hx b n)];exact n,fun b u q _=>?_,
    fun b xs q=>by rw[aK (hm b _ q fun z=>z)];exact q,fun b u xs q=>by rw[aK (hm b _ q fun z=>z)];exact q,fun b ps q=>⟨#[],by rw[aK (hm b _ q fun z=>z),q];simp⟩⟩
  by_cases Vk:b=e
  ·subst Vk;exact XQ
  ·exact⟨u,k b u Vk q⟩
end
def trk(h:Heap)(H:Hp):List Addr:=(List.range h.objs.size).filter fun a=>(H a).isSome
def Bf(h:Heap)(H:Hp):Heap:=PySem.W.hideAll h (trk h H)
theorem Ln(h:Heap)(H:Hp):(Bf h H).objs.size=h.objs.size:=PySem.W.hideAll_size _ _
theorem Ny{H:Hp}{b:Addr}{o:Obj}(e:h.get? b=some o)(n:H b=none):(Bf h H).get? b=some o :=
  PySem.W.hideAll_get _ e fun hm=>by have q:(H b).isSome=true:=(jy.mp hm).2;rw[n] at q;simp at q
theorem RA{H:Hp}{b:Addr}{o:Obj}(e:(Bf h H).get? b=some o):h.get? b=some o∧H b=none:=by
  have e':h.get? b=some o:=PySem.W.of_hideAll (trk h H) e;refine⟨e',?_⟩;cases q:H b with
  |none=>rfl
  |some x=>have hm:b∈trk h H:=jy.mpr ⟨mW.mpr (dj e'),by simp[q]⟩;have z:(Bf h H).get? b=none:=PySem.W.hideAll_none (trk h H) hm;rw[z] at e;cases e
structure Mod (K:PySem.W.Frag) (mg:Str→ni) (base:Heap):Prop where
  kin:K.In base
  glob:base.Ns mainGlobals mg
  blt:∃mb,base.Ns builtinsNs mb∧∀x:Str,x≠"__name__"→mb x=bootBuiltins x
  nolimit:base.NoLimit
structure Cx where
  prog:Program
  w:World
  K:PySem.W.Frag
  mg:Str→ni
  base:Heap
  A:Around
  N:gs
  s₀:Shared
  H₀:Hp
  env:Env
  outer:List Env
  stack:List Env
  ex:List Addr
  fn:Str→Bool
  calm:Bool
  pn:kJ
  xe:nD
def Lp(l:List Env):List Addr:=l.filterMap (·.frame)
abbrev Cx.fs(X:Cx):List Addr:=Lp X.outer
def FD(sc:Scope)(x:Str):Prop:=sc.names.lookup x=some .local∨sc.names.lookup x=some .cell∨sc.names.lookup x=some .free
def Loc(sc:Scope)(x:Str):Prop:=sc.names.lookup x=some .local∨sc.names.lookup x=some .cell
def Look(env:Env)(h:Heap)(m:Str→ni)(x:Str)(u:Value):Prop :=
  (env.kindOf x=some .local∧m x=some u)∨((env.kindOf x=some .cell∨env.kindOf x=some .free)∧∃c,env.cells.lookup x=some c∧h.IsCell c (some u))
structure Cx.Ok (X:Cx):Prop where
  mod:Mod X.K X.mg X.base
  kind:X.env.scope.kind=.function
  glob:X.env.globals=mainGlobals
  blt:X.env.builtins=builtinsNs
  above:X.s₀.heap.objs.size≤X.env.locals
  inj:∀x y c,X.env.cells.lookup x=some c→X.env.cells.lookup y=some c→x=y
  has:∀x,(X.env.kindOf x=some .cell∨X.env.kindOf x=some .free)→∃c,X.env.cells.lookup x=some c
  XR:∀x c,X.fn x=true→X.env.cells.lookup x=some c→X.s₀.heap.objs.size≤c
  hd:X.calm=true→X.A.handled=none
  frames:X.A.frames=some X.stack
  Yk:X.stack=X.outer∨(X.stack=X.env::X.outer∧X.env.frame=some X.env.locals)
  exf:∀b∈X.ex,b≠X.env.locals∧∀x c,X.env.cells.lookup x=some c→c≠b
  bs:∀b o,X.base.get? b=some o→X.s₀.heap.get? b=some o∧X.H₀ b=none
  Uv:X.base.objs.size≤X.s₀.heap.objs.size
  Lq:∀b o,X.base.get? b=some o→b∉X.ex
  Nz:∀b∈X.ex,b∉X.fs
  xY:X.s₀.heap.FunFrames X.base X.outer
  Vl:∀b∈X.fs,X.H₀ b=none
structure Inv (X:Cx) (pins:kJ) (σ:List (Option V)) (H:Hp) (s:Shared):Prop where
  ok:X.Ok
  os:s.os=X.s₀.os
  bare:AllBare s.gens
  base:Un X.fs X.ex X.H₀ H X.s₀.heap s.heap
  loc:∃m,s.heap.Ns X.env.locals m∧∀(i:Nat) (x:Str) (v:V),X.N[i]?=some x→σ[i]?=some (some v)→FD X.env.scope x→∃u,RelV v u∧Look X.env s.heap m x u
  cell:∀x c,X.env.cells.lookup x=some c→∃v,s.heap.IsCell c v
  free:H X.env.locals=none
  j4:∀x c,X.env.cells.lookup x=some c→H c=none
  pin:∀p∈X.pn++pins,s.heap.get? p.1=some p.2∧H p.1=none∧p.1≠X.env.locals∧p.1∉X.fs∧∀v,p.2.data≠.cell v
  cZ:t8 X.prog X.w H s.heap
  len:σ.length=X.N.length
section
variable {X:Cx} {pins:kJ} {σ:List (Option V)} {H H':Hp} {s:Shared} {h':Heap}
theorem Cx.Ok.abD(ok:X.Ok){b:Addr}{o:Obj}(e:X.base.get? b=some o):b∉X.fs:=fun hb=>by have:=(ok.xY.mem hb).1;rw[e] at this;cases this
theorem Inv.bs(I:Inv X pins σ H s):∀b o,X.base.get? b=some o→s.heap.get? b=some o∧H b=none:=fun b o e =>
  ⟨I.base.keep b o (I.ok.bs b o e).1 (I.ok.bs b o e).2 (I.ok.abD e) (I.ok.Lq b o e),I.base.free b o (I.ok.bs b o e).1 (I.ok.bs b o e).2 (I.ok.Lq b o e)⟩
theorem Inv.bk(I:Inv X pins σ H s):∀b o,X.base.get? b=some o→s.heap.get? b=some o:=fun b o e=>(I.bs b o e).1
theorem Inv.mod(I:Inv X pins σ H s):Mod X.K X.mg X.base:=I.ok.mod
theorem Inv.xB(I:Inv X pins σ H s):X.K.In s.heap:=I.ok.mod.kin.keeps I.bk
theorem Inv.lt(I:Inv X pins σ H s):X.env.locals<s.heap.objs.size:=let ⟨_,hn,_⟩:=I.loc;hn.lt
theorem Inv.sz(I:Inv X pins σ H s):X.s₀.heap.objs.size≤s.heap.objs.size:=oQ I.ok.above (Nat.le_of_lt I.lt)
theorem Inv.Vm(I:Inv X pins σ H s)(h:s.heap.objs.size≤a):a∉X.fs:=fun hb=>by obtain⟨_,o,ho,_⟩:=I.ok.xY.mem hb;exact absurd (oP (dj ho) (oQ I.sz h)) (Nat.lt_irrefl _)
theorem Inv.Vn(I:Inv X pins σ H s):∀x c,X.env.cells.lookup x=some c→c≠X.env.locals:=fun x c e z=>by obtain⟨v,o,ho,hd⟩:=I.cell x c e;obtain⟨m,⟨o',es,ep,Fl,hd',_⟩,_⟩:=I.loc;rw[z,Fl] at ho;cases ho;rw[hd'] at hd;cases hd
theorem Inv.xY(I:Inv X pins σ H s):s.heap.FunFrames X.base X.outer:=by
  have all:∀(l:List Env),(∀b∈Lp l,b∈X.fs)→X.s₀.heap.FunFrames X.base l→s.heap.FunFrames X.base l:=by
    intro l;induction l with
    |nil=>intro _ _;trivial
    |cons env r ih=>intro hs hl;obtain⟨hk,⟨L,o,hf,hn,ho,hd⟩,hr⟩:=hl;have hL:L∈X.fs:=hs L (by unfold Lp;rw[List.filterMap_cons,hf];exact cY);obtain⟨sl,e⟩:=I.base.slot L o ho (I.ok.Vl L hL) hL fun z=>I.ok.Nz L z hL;exact⟨hk,⟨L,_,hf,hn,e,hd⟩,ih (fun b hb=>hs b (by unfold Lp;rw[List.filterMap_cons,hf];exact ly _ hb)) hr⟩
  exact all X.outer (fun _ hb=>hb) I.ok.xY
theorem Inv.stack(I:Inv X pins σ H s):s.heap.FunFrames X.base X.stack:=by
  rcases I.ok.Yk with e|⟨e,hf⟩
  ·rw[e];exact I.xY
  ·rw[e];obtain⟨m,hn,_⟩:=I.loc;refine .cons (by rw[I.ok.kind];decide) hf hn ?_ I.xY;exact Heap.get?_none_of_le (oQ I.ok.Uv I.ok.above)
theorem Inv.wm(I:Inv X pins σ H s):∀b∈Lp X.stack,b∈X.env.locals::X.fs:=fun b hb=>by
  rcases I.ok.Yk with e|⟨e,hf⟩
  ·rw[e] at hb;exact ly _ hb
  ·rw[e] at hb;unfold Lp at hb;rw[List.filterMap_cons,hf] at hb;exact hb
theorem Inv.JB(I:Inv X pins σ H s):∀b∈Lp X.stack,H b=none:=fun b hb=>by
  rcases fR.mp (I.wm b hb) with e|hb
  ·rw[e];exact I.free
  ·obtain⟨_,o,ho,_⟩:=I.ok.xY.mem hb;exact I.base.free b o ho (I.ok.Vl b hb) fun z=>I.ok.Nz b z hb
theorem Inv.step{g':Array GenState}{t':Nat}{d':Drawn}{ch:List Addr}(I:Inv X pins σ H s)(Ri:∀b∈ch,(b∈X.ex∨X.s₀.heap.objs.size≤b)∧b≠X.env.locals∧(∀x c,X.env.cells.lookup x=some c→c≠b)∧∀p∈X.pn++pins,p.1≠b)(keep:∀b o,b≠X.env.locals→b∉X.fs→b∉ch→s.heap.get? b=some o→H b=none→h'.get? b=some o)(slot:∀b o,b≠X.env.locals→b∈X.fs→b∉ch→s.heap.get? b=some o→H b=none→∃sl,h'.get? b=some { o with slots:=sl })(free:∀b o,b∉ch→s.heap.get? b=some o→H b=none→H' b=none)(there:∀b o,b∉ch→s.heap.get? b=some o→∃o',h'.get? b=some o')(qI:∀b xs,H b=some (.tup xs)→H' b=some (.tup xs))(wg:∀b o u,H b=some (.t7 o u)→H' b=some (.t7 o u))(wj:∀b ps,H b=some (.Fj ps)→∃more,H' b=some (.Fj (ps++more)))(ns:∀m,s.heap.Ns X.env.locals m→h'.Ns X.env.locals m)(cZ:t8 X.prog X.w H' h')(hg:AllBare g'):Inv X pins σ H' { s with heap:=h',gens:=g',drawn:=d',toks:=t' }:=by
  have neL:∀b o,X.s₀.heap.get? b=some o→b≠X.env.locals:=fun b o e=>fV (oP (dj e) I.ok.above);have neC:∀b o,X.s₀.heap.get? b=some o→b∉X.ex→b∉ch:=fun b o e hx hb=>by
    rcases(Ri b hb).1 with z|z
    ·exact hx z
    ·exact absurd (oP (dj e) z) (Nat.lt_irrefl _)
  have cellK:∀x c,X.env.cells.lookup x=some c→∀v,s.heap.IsCell c v→h'.IsCell c v:=fun x c e v ⟨o,ho,hd⟩=>by
    have Yl:c∉ch:=fun z=>(Ri c z).2.2.1 x c e rfl;by_cases hc:c∈X.fs
    ·obtain⟨sl,q⟩:=slot c o (I.Vn x c e) hc Yl ho (I.j4 x c e);exact⟨_,q,hd⟩
    ·exact⟨o,keep c o (I.Vn x c e) hc Yl ho (I.j4 x c e),hd⟩
  refine⟨I.ok,I.os,hg,⟨fun b o e n hb hx=>?_,fun b o e n hb hx=>?_,fun b o e n hx=>?_,fun b o e hx=>?_,fun b xs e=>qI b xs (I.base.qI b xs e),fun b o xs e=>wg b o xs (I.base.wg b o xs e),fun b ps e=>?_⟩,?_,fun x c e=>?_,?_,fun x c e=>?_,fun p hp=>?_,cZ,I.len⟩
  ·exact keep b o (neL b o e) hb (neC b o e hx) (I.base.keep b o e n hb hx) (I.base.free b o e n hx)
  ·obtain⟨sl,e1⟩:=I.base.slot b o e n hb hx;obtain⟨sl',e2⟩:=slot b _ (neL b o e) hb (neC b o e hx) e1 (I.base.free b o e n hx);exact⟨sl',e2⟩
  ·obtain⟨o',e1⟩:=I.base.there b o e hx;exact free b o' (neC b o e hx) e1 (I.base.free b o e n hx)
  ·obtain⟨o',e1⟩:=I.base.there b o e hx;exact there b o' (neC b o e hx) e1
  ·obtain⟨m1,e1⟩:=I.base.wj b ps e;obtain⟨m2,e2⟩:=wj b _ e1;exact⟨m1++m2,by rw[e2,Array.append_assoc]⟩
  · obtain⟨m,hn,hl⟩:=I.loc;refine⟨m,ns m hn,fun i x v e1 e2 e3=>?_⟩;obtain⟨u,r,l⟩:=hl i x v e1 e2 e3;refine⟨u,r,?_⟩;rcases l with l|⟨k,c,e,z⟩
    ·exact .inl l
    ·exact .inr ⟨k,c,e,cellK x c e _ z⟩
  ·obtain⟨v,z⟩:=I.cell x c e;exact⟨v,cellK x c e v z⟩
  ·obtain⟨m,⟨o,_,_,ho,_⟩,_⟩:=I.loc;exact free _ o (fun z=>(Ri _ z).2.1 rfl) ho I.free
  ·obtain⟨v,o,ho,hd⟩:=I.cell x c e;exact free c o (fun z=>(Ri c z).2.2.1 x c e rfl) ho (I.j4 x c e)
  ·obtain⟨e,n,ne,nf,d⟩:=I.pin p hp;have Yl:p.1∉ch:=fun z=>(Ri p.1 z).2.2.2 p hp rfl;exact⟨keep p.1 p.2 ne nf Yl e n,free p.1 p.2 Yl e n,ne,nf,d⟩
theorem Inv.un(I:Inv X pins σ H s)(u:Un X.fs [] H H' s.heap h')(cZ:t8 X.prog X.w H' h'):Inv X pins σ H' { s with heap:=h',toks:=t' }:=by
  obtain⟨m,⟨o,es,ep,ho,r⟩,_⟩:=id I.loc;obtain⟨sl,hL⟩:=u.any ho I.free (by simp);exact I.step (g':=s.gens) (d':=s.drawn) (ch:=[]) (fun _ z=>nomatch z) (fun b o _ hb _ e n=>u.keep b o e n hb (by simp)) (fun b o _ hb _ e n=>u.slot b o e n hb (by simp)) (fun b o _ e n=>u.free b o e n (by simp)) (fun b o _ e=>u.there b o e (by simp)) u.qI u.wg u.wj (fun m' hm=>by
    obtain⟨o',es',ep',Fl,r'⟩:=hm;rw[ho] at Fl;cases Fl;exact⟨_,es',ep',hL,r'⟩) cZ I.bare
theorem Inv.call{g':Array GenState}{d':Drawn}{ch:List Addr}(I:Inv X pins σ H s)(u:Un (Lp X.stack) ch H H' s.heap h')(cZ:t8 X.prog X.w H' h')(hg:AllBare g')(Ri:∀b∈ch,(b∈X.ex∨X.s₀.heap.objs.size≤b)∧b≠X.env.locals∧(∀x c,X.env.cells.lookup x=some c→c≠b)∧∀p∈X.pn++pins,p.1≠b):Inv X pins σ H' { s with heap:=h',gens:=g',drawn:=d',toks:=t' }:=by
  obtain⟨m,⟨o,es,ep,ho,r⟩,_⟩:=id I.loc;obtain⟨sl,hL⟩:=u.any ho I.free fun z=>(Ri _ z).2.1 rfl;exact I.step (ch:=ch) Ri (fun b o hL hb hc e n=>u.keep b o e n (fun z=>(fR.mp (I.wm b z)).elim hL hb) hc) (fun b o _ _ hc e n=>u.any e n hc) (fun b o hc e n=>u.free b o e n hc) (fun b o hc e=>u.there b o e hc) u.qI u.wg u.wj (fun m' hm=>by
    obtain⟨o',es',ep',Fl,r'⟩:=hm;rw[ho] at Fl;cases Fl;exact⟨_,es',ep',hL,r'⟩) cZ hg
theorem Inv.turned{it:Addr}(I:Inv X pins σ H s)(k:∀b o,b≠it→s.heap.get? b=some o→h'.get? b=some o)(hn:H it=none)(hL:it≠X.env.locals)(h1:it∈X.ex∨X.s₀.heap.objs.size≤it)(h2:∀x c,X.env.cells.lookup x=some c→c≠it)(h3:∀p∈X.pn++pins,p.1≠it):Inv X pins σ H { s with heap:=h',toks:=t' }:=by
  have nit:∀b u,H b=some u→b≠it:=fun b u e z=>by rw[z,hn] at e;cases e
  refine I.step (g':=s.gens) (d':=s.drawn) (ch:=[it]) (fun b hb=>?_) (fun b o _ _ hc e _=>k b o (fun z=>hc (by simp[z])) e) (fun b o _ _ hc e _=>⟨o.slots,k b o (fun z=>hc (by simp[z])) e⟩) (fun _ _ _ _ n=>n)
    (fun b o hc e=>⟨o,k b o (fun z=>hc (by simp[z])) e⟩) (fun _ _ e=>e) (fun _ _ _ e=>e) (fun b ps e=>⟨#[],by rw[e];simp⟩) (fun m hm=>?_) (fun b u e=>?_) I.bare
  · have e:b=it:=by simpa using hb
    subst e;exact⟨h1,hL,h2,h3⟩
  ·obtain⟨o,es,ep,ho,r⟩:=hm;exact⟨o,es,ep,k _ o (Ne.symm hL) ho,r⟩
  · refine(I.cZ b u e).Be (fun c v hc q=>k c v ?_ q) (fun _ q=>q) fun _ _ q=>q;rcases hc with z|z
    ·rw[z];exact nit b u e
    ·exact nit c _ z
theorem Inv.tok(I:Inv X pins σ H s)(t:Nat):Inv X pins σ H { s with toks:=t }:=I.un (h':=s.heap) (t':=t) Un.refl I.cZ
theorem Inv.kept(I:Inv X pins σ H s)(k:∀b u,s.heap.get? b=some u→h'.get? b=some u):Inv X pins σ H { s with heap:=h',toks:=t' }:=I.un (Un.kept k) (I.cZ.kept k)
theorem Inv.laid{o:HO}(I:Inv X pins σ H s)(k:∀b u,s.heap.get? b=some u→h'.get? b=some u)(hp:s.heap.objs.size≤a)(new:cx X.prog X.w (upd H a o) h' a o):Inv X pins σ (upd H a o) { s with heap:=h',toks:=t' }:=I.un (Un.laid k hp (I.cZ.fresh hp)) (I.cZ.laid k hp new)
theorem Inv.write{x e:Addr}{o:HO}(I:Inv X pins σ H s)(mu:XO (H x))(he:e=x∨H e=some (.own x))(k:∀b u,b≠e→s.heap.get? b=some u→h'.get? b=some u)(XQ:∃u,h'.get? e=some u)(new:cx X.prog X.w (upd H x o) h' x o):Inv X pins σ (upd H x o) { s with heap:=h',toks:=t' }:=I.un (Un.write mu he k XQ) (I.cZ.write mu he k XQ new)
theorem Inv.Dq{Uw:kJ}(I:Inv X pins σ H s)(h:∀p∈Uw,s.heap.get? p.1=some p.2∧H p.1=none∧p.1≠X.env.locals∧p.1∉X.fs∧∀v,p.2.data≠.cell v):Inv X Uw σ H s :=
  ⟨I.ok,I.os,I.bare,I.base,I.loc,I.cell,I.free,I.j4,fun p hp=>(mV.mp hp).elim (fun z=>I.pin p (A6 _ z)) (h p),I.cZ,I.len⟩
theorem FE(hN:N.Nodup)(a:N[i]?=some x)(b:N[j]?=some x):i=j:=by obtain⟨h1,e1⟩:=xS.mp a;obtain⟨h2,e2⟩:=xS.mp b;exact(List.getElem_inj hN).mp (e1.trans e2.symm)
theorem BX{M:Model}{v:V}{Q:Unit→Shared→Prop}(I:Inv X pins σ H s)(hN:X.N.Nodup)(hi:X.N[i]?=some x)(hx:Loc X.env.scope x)(r:RelV v u)(h:∀s',Inv X pins (σ.set i (some v)) H s'→(∃a,Heap.SameBut a s.heap s'.heap∧(a=X.env.locals∨X.env.cells.lookup x=some a))→Q () s')(hf:X.fn x=true∨X.env.scope.names.lookup x=some .local:=by first|exact .inl rfl|exact .inr rfl|assumption):wpAny M A (storeName X.env x u) Q E s:=by
  obtain⟨m,hn,hl⟩:=id I.loc;have abE:(X.env.scope.kind==.class||(X.env.scope.kind==.module&&X.env.locals != X.env.globals))=false:=by rw[I.ok.kind];rfl
  have hiσ:i<σ.length:=by rw[I.len];exact(xS.mp hi).1
  have Vn:=I.Vn;have tracked:∀{a:Addr} {h':Heap},(∃o,s.heap.get? a=some o∧H a=none)→Heap.SameBut a s.heap h'→t8 X.prog X.w H h':=fun {a h'} ha hs b ob e=>by
    obtain⟨_,_,JC⟩:=ha;refine(I.cZ b ob e).Be (fun c w' hc q=>(hs.2 c ?_).trans q) (fun _ q=>q) fun _ _ q=>q;rintro rfl;rcases hc with rfl|hc
    ·rw[JC] at e;cases e
    ·rw[JC] at hc;cases hc
  rcases hx with hk|hk
  · refine wpAny_storeName_local hk hn (fun h' Ym hs=>?_) abE;obtain⟨oL,_,_,JD,_⟩:=id hn;refine h _ ⟨I.ok,I.os,I.bare,⟨fun b o e n hb hx=>?_,fun b o e n hb hx=>?_,I.base.free,fun b o e hx=>?_,I.base.qI,I.base.wg,I.base.wj⟩,⟨_,Ym,fun j y v' e1 e2 e3=>?_⟩,fun y c e=>?_,I.free,I.j4,fun p hp=>?_,tracked ⟨oL,JD,I.free⟩ hs,by simpa using I.len⟩ ⟨_,hs,.inl rfl⟩
    ·exact(hs.2 b (fV (oP (dj e) I.ok.above))).trans (I.base.keep b o e n hb hx)
    ·obtain⟨sl,e1⟩:=I.base.slot b o e n hb hx;exact⟨sl,(hs.2 b (fV (oP (dj e) I.ok.above))).trans e1⟩
    ·obtain⟨o',e1⟩:=I.base.there b o e hx;exact⟨o',(hs.2 b (fV (oP (dj e) I.ok.above))).trans e1⟩
    · by_cases hj:j=i
      ·subst hj;rw[hi] at e1;cases e1;rw[List.getElem?_set_self hiσ] at e2;cases e2;exact⟨u,r,.inl ⟨hk,by simp⟩⟩
      · rw[List.getElem?_set_ne (Ne.symm hj)] at e2;obtain⟨u',r',q⟩:=hl j y v' e1 e2 e3;refine⟨u',r',?_⟩;rcases q with⟨k,e⟩|⟨k,c,e,z⟩
        ·refine .inl ⟨k,?_⟩;have:y≠x:=fun e=>hj (FE hN e1 (e▸hi));simp[this,e]
        ·exact .inr ⟨k,c,e,z.sameBut hs (Vn y c e)⟩
    ·obtain⟨w',z⟩:=I.cell y c e;exact⟨w',z.sameBut hs (Vn y c e)⟩
    ·obtain⟨e,n,ne,nf,d⟩:=I.pin p hp;exact⟨(hs.2 p.1 ne).trans e,n,ne,nf,d⟩
  · have hfn:X.fn x=true:=by
      rcases hf with z|z
      ·exact z
      ·rw[z] at hk;cases hk
    obtain⟨c,hc⟩:=I.ok.has x (.inl hk);obtain⟨w',z⟩:=I.cell x c hc;refine wpAny_storeName_cell I.ok.kind hk hc z (fun h' Dr hs=>?_);obtain⟨oc,hoc,abG⟩:=id z;refine h { s with heap:=h' } ⟨I.ok,I.os,I.bare,⟨fun b o e n hb hx=>?_,fun b o e n hb hx=>?_,I.base.free,fun b o e hx=>?_,I.base.qI,I.base.wg,I.base.wj⟩,⟨m,hn.sameBut hs (Ne.symm (Vn x c hc)),fun j y v' e1 e2 e3=>?_⟩,fun y c' e=>?_,I.free,I.j4,fun p hp=>?_,tracked ⟨oc,hoc,I.j4 x c hc⟩ hs,by simpa using I.len⟩ ⟨c,hs,.inr hc⟩
    ·exact(hs.2 b (fV (oP (dj e) (I.ok.XR x c hfn hc)))).trans (I.base.keep b o e n hb hx)
    ·obtain⟨sl,e1⟩:=I.base.slot b o e n hb hx;exact⟨sl,(hs.2 b (fV (oP (dj e) (I.ok.XR x c hfn hc)))).trans e1⟩
    ·obtain⟨o',e1⟩:=I.base.there b o e hx;exact⟨o',(hs.2 b (fV (oP (dj e) (I.ok.XR x c hfn hc)))).trans e1⟩
    · by_cases hj:j=i
      ·subst hj;rw[hi] at e1;cases e1;rw[List.getElem?_set_self hiσ] at e2;cases e2;exact⟨u,r,.inr ⟨.inl hk,c,hc,Dr⟩⟩
      · rw[List.getElem?_set_ne (Ne.symm hj)] at e2;obtain⟨u',r',q⟩:=hl j y v' e1 e2 e3;refine⟨u',r',?_⟩;rcases q with q|⟨k,c',e,z'⟩
        ·exact .inl q
        ·refine .inr ⟨k,c',e,z'.sameBut hs ?_⟩;rintro rfl;exact hj (FE hN e1 (I.ok.inj _ _ _ e hc▸hi))
    · by_cases XS:c'=c
      ·subst XS;exact⟨_,Dr⟩
      ·obtain⟨w2,z2⟩:=I.cell y c' e;exact⟨w2,z2.sameBut hs XS⟩
    ·obtain⟨e,n,ne,nf,d⟩:=I.pin p hp;refine⟨(hs.2 p.1 ?_).trans e,n,ne,nf,d⟩;intro q;rw[q,hoc] at e;have q':oc=p.2:=ow e;exact d w' (by rw[←q'];exact abG)
theorem FG{M:Model}{v:V}{Q:Unit→Shared→Prop}(I:Inv X pins σ H s)(hN:X.N.Nodup)(hi:X.N[i]?=some x)(hx:Loc X.env.scope x)(r:RelV v u)(h:∀s',Inv X pins (σ.set i (some v)) H s'→Q () s')(hf:X.fn x=true∨X.env.scope.names.lookup x=some .local:=by first|exact .inl rfl|exact .inr rfl|assumption):wpAny M A (storeName X.env x u) Q E s :=
  BX I hN hi hx r (fun s' I' _=>h s' I') hf
theorem Inv.Yn{s':Shared}{ch:List Addr}(I:Inv X pins σ H s)(ho:s'.os=s.os)(u:Un (Lp X.stack) ch H H' s.heap s'.heap)(cZ:t8 X.prog X.w H' s'.heap)(hg:AllBare s'.gens)(Ri:∀b∈ch,(b∈X.ex∨X.s₀.heap.objs.size≤b)∧b≠X.env.locals∧(∀x c,X.env.cells.lookup x=some c→c≠b)∧∀p∈X.pn++pins,p.1≠b):Inv X pins σ H' s':=by
  obtain⟨h',g',d',t',o'⟩:=s';have e:o'=s.os:=ho;subst e;exact I.call (g':=g') (t':=t') (d':=d') u cZ hg Ri
end
abbrev XK:=Value→Option Addr→Hp→Prop
abbrev St:=List (Option V)
abbrev VK:=V→Hp→Prop
abbrev TE:=St→Hp→VK→Prop
abbrev TT:=St→Hp→(Bool→Hp→Prop)→Prop
abbrev TA:=St→Hp→(List V→Hp→Prop)→Prop
structure Ends where
  nx:St→Hp→Prop
  rt:VK
  bk:St→Hp→Prop:=fun _ _=>False
  ct:St→Hp→Prop:=fun _ _=>False
abbrev TS:=Ends→St→Hp→Prop
def EP(X:Cx)(pins:kJ)(σ:St)(Q:VK)(u:Value)(s':Shared):Prop:=∃v H',Inv X pins σ H' s'∧RelV v u∧Q v H'
def TP(X:Cx)(pins:kJ)(σ:St)(Q:Bool→Hp→Prop)(b:Bool)(s':Shared):Prop:=∃H',Inv X pins σ H' s'∧Q b H'
def AP(X:Cx)(pins:kJ)(σ:St)(Q:List V→Hp→Prop)(us:dO)(s':Shared):Prop:=∃vs H',Inv X pins σ H' s'∧Vals vs us∧Q vs H'
def SP(X:Cx)(pins:kJ)(D:Ends)(f:Flow)(s':Shared):Prop :=
  match f with
  |.next=>∃σ' H',Inv X pins σ' H' s'∧D.nx σ' H'
  |.brk=>∃σ' H',Inv X pins σ' H' s'∧D.bk σ' H'
  |.cont=>∃σ' H',Inv X pins σ' H' s'∧D.ct σ' H'
  |.ret u=>∃v σ' H',Inv X pins σ' H' s'∧RelV v u∧D.rt v H'
def PE(X:Cx)(e:Expr)(t:TE):Prop :=
  ∀(pins:kJ) (s:Shared) (σ:St) (H:Hp) (Q:VK),Inv X pins σ H s→t σ H Q→wpAny (model X.prog X.w) X.A (eval e X.env) (EP X pins σ Q) X.xe s
def PT(X:Cx)(e:Expr)(t:TT):Prop :=
  ∀(pins:kJ) (s:Shared) (σ:St) (H:Hp) (Q:Bool→Hp→Prop),Inv X pins σ H s→t σ H Q→wpAny (model X.prog X.w) X.A (isTrue e X.env (eval e X.env)) (TP X pins σ Q) X.xe s
def PW(X:Cx)(e:Expr)(t:TT):Prop :=
  ∀(whole:Sem Value) (pins:kJ) (s:Shared) (σ:St) (H:Hp) (Q:Bool→Hp→Prop),Inv X pins σ H s→t σ H Q→wpAny (model X.prog X.w) X.A (isTrue e X.env whole) (TP X pins σ Q) X.xe s
theorem PW.pt{X:Cx}{t:TT}(h:PW X e t):PT X e t:=h _
def PA(X:Cx)(es:List Expr)(t:TA):Prop :=
  ∀(pos:Pos) (pins:kJ) (s:Shared) (σ:St) (H:Hp) (Q:List V→Hp→Prop),Inv X pins σ H s→t σ H Q→wpAny (model X.prog X.w) X.A (spliced (backTo pos (starEach es X.env))) (AP X pins σ Q) X.xe s
def PS(X:Cx)(st:Stmt)(t:TS):Prop :=
  ∀(pins:kJ) (s:Shared) (σ:St) (H:Hp) (D:Ends),Inv X pins σ H s→t D σ H→wpAny (model X.prog X.w) X.A (exec st X.env) (SP X pins D) X.xe s
def Bg(X:Cx)(st:List Stmt)(t:TS):Prop :=
  ∀(pins:kJ) (s:Shared) (σ:St) (H:Hp) (D:Ends),Inv X pins σ H s→t D σ H→wpAny (model X.prog X.w) X.A (execs st X.env) (SP X pins D) X.xe s
theorem gx{α:Type}{t:Sem α}{Q Q':α→Shared→Prop}{M:Model}(h:wpAny M A t Q E s)(hQ:∀a s,Q a s→Q' a s):wpAny M A t Q' E s:=mY h hQ fun _ _ x=>x
section
variable {X:Cx}
theorem bin{a b:Expr}{ta tb:TE}(ha:PE X a ta)(hb:PE X b tb){σ:St}{H:Hp}{R:V→V→Hp→Prop}(I:Inv X pins σ H s)(h:ta σ H fun x H1=>tb σ H1 fun y H2=>R x y H2){α:Type}{Q:α→Shared→Prop}{f:Value→Value→Sem α}(hf:∀v u s2 x y H2,Inv X pins σ H2 s2→RelV x v→RelV y u→R x y H2→wpAny (model X.prog X.w) X.A (f v u) Q X.xe s2):wpAny (model X.prog X.w) X.A (eval a X.env) (fun v s₁=>wpAny (model X.prog X.w) X.A (eval b X.env) (fun u s₂=>wpAny (model X.prog X.w) X.A (f v u) Q X.xe s₂) X.xe s₁) X.xe s:=by
  refine gx (ha pins s σ H _ I h) fun v s1 ⟨x,H1,I1,r1,q1⟩=>?_;refine gx (hb pins s1 σ H1 _ I1 q1) fun u s2 ⟨y,H2,I2,r2,q2⟩=>?_;exact hf v u s2 x y H2 I2 r1 r2 q2
def abH(i:Nat):TE:=fun σ H Q=>∃v,σ[i]?=some (some v)∧Q v H
def tC(v:V):TE:=fun _ H Q=>Q v H
theorem kL(hN:X.N[i]?=some x)(hv:FD X.env.scope x)(hd:(x==("__debug__":Str))=false:=by decide)(oA:(x==("__classdict__":Str))=false:=by decide):PE X (.Name x pos) (abH i):=by
  intro pins s σ H Q I h;obtain⟨v,e,h⟩:=h;obtain⟨m,hn,hl⟩:=I.loc;obtain⟨u,r,l⟩:=hl i x v hN e hv;have fin:EP X pins σ Q u s:=⟨v,H,I,r,h⟩
  rcases l with⟨hk,hm⟩|⟨hk,c,hc,JF⟩
  ·exact wpAny_Name (wpAny_loadName_local I.ok.kind hk hn hm fin) hd
  · rcases hk with hk|hk
    ·exact wpAny_Name (wpAny_loadName_cell I.ok.kind hk hc JF fin) hd
    ·exact wpAny_Name (wpAny_loadName_free I.ok.kind hk hc JF fin oA) hd
theorem Vo{i j pos}:PE X (.Constant (.int i) j pos) (tC (.int i)):=fun _ _ _ H _ I h=>wpAny_Constant_int ⟨.int i,H,I.tok _,⟨_,rfl⟩,h⟩
theorem Yo{b j pos}:PE X (.Constant (.bool b) j pos) (tC (.bl b)):=fun _ _ _ H _ I h=>Constant_bool ⟨.bl b,H,I,rfl,h⟩
theorem Vp{j pos}:PE X (.Constant .none j pos) (tC .non):=fun _ _ _ H _ I h=>Constant_none ⟨.non,H,I,rfl,h⟩
def Gl(X:Cx)(x:Str):Prop:=X.env.kindOf x=some .globalImplicit
theorem sx{σ:St}{H:Hp}(I:Inv X pins σ H s)(hg:Gl X x)(hm:X.mg x=some u)(h:Q u s)(hd:(x==("__debug__":Str))=false:=by decide):wpAny (model X.prog X.w) X.A (eval (.Name x pos) X.env) Q E s :=
  Calls.Name_function_global I.ok.kind hg (Calls.loadGlobal_global (by rw[I.ok.glob];exact I.mod.glob.keeps I.bk) hm h) hd
theorem j5{σ:St}{H:Hp}(I:Inv X pins σ H s)(hg:Gl X x)(hm:X.mg x=none)(hv:bootBuiltins x=some u)(h:Q u s)(hn:x≠"__name__":=by decide)(hd:(x==("__debug__":Str))=false:=by decide):wpAny (model X.prog X.w) X.A (eval (.Name x pos) X.env) Q E s:=by
  obtain⟨mb,h1,h2⟩:=I.mod.blt;exact Calls.Name_function_global I.ok.kind hg (Calls.loadGlobal_builtin (by rw[I.ok.glob];exact I.mod.glob.keeps I.bk) hm (by rw[I.ok.blt];exact h1.keeps I.bk) ((h2 x hn).trans hv) h) hd
theorem RB{v:V}(hg:Gl X x)(hm:X.mg x=some u)(r:RelV v u)(hd:(x==("__debug__":Str))=false:=by decide):PE X (.Name x pos) (tC v) :=
  fun _ _ _ H _ I h=>sx I hg hm ⟨v,H,I,r,h⟩ hd
theorem RC{v:V}(hg:Gl X x)(hm:X.mg x=none)(hv:bootBuiltins x=some u)(r:RelV v u)(hn:x≠"__name__":=by decide)(hd:(x==("__debug__":Str))=false:=by decide):PE X (.Name x pos) (tC v) :=
  fun _ _ _ H _ I h=>j5 I hg hm hv ⟨v,H,I,r,h⟩ hn hd
variable {a b:Expr} {ta tb:TE} {pos:Pos}
def PC(X:Cx)(op:CmpOp)(a b:Expr)(t:TE):Prop :=
  ∀(pins:kJ) (s:Shared) (σ:St) (H:Hp) (Q:VK),Inv X pins σ H s→t σ H Q →
   wpAny (model X.prog X.w) X.A (eval a X.env) (fun v s₁=>wpAny (model X.prog X.w) X.A (eval b X.env) (fun u s₂=>wpAny (model X.prog X.w) X.A (compareOp op v u) (EP X pins σ Q) X.xe s₂) X.xe s₁) X.xe s
theorem NB(b:Expr)(h:op≠.In)(h2:op≠.NotIn):behindInMarks op b=false:=by
  have e1:(op==CmpOp.In)=false:=by cases op<;>first|rfl|exact absurd rfl h
  have e2:(op==CmpOp.NotIn)=false:=by cases op<;>first|rfl|exact absurd rfl h2
  cases b<;>simp[behindInMarks,e1,e2]
def tB(t:TE):TT:=fun σ H Q=>t σ H fun x H1=>∃c,x=.bl c∧Q c H1
theorem abI{t:TE}(h:PC X op a b t)(h1:behindInMarks op b=false:=by first|exact NB _ (by decide) (by decide)|rfl):PT X (.Compare a [op] [b] pos) (tB t):=by intro pins s σ H Q I hw;refine wpAny_isTrue_Compare1 (gx (h pins s σ H _ I hw) fun v s1 h1=>gx h1 fun u s2 h2=>gx h2 fun c s3 ⟨x,H1,I1,r1,q1⟩=>?_) h1;obtain⟨d,rfl,q⟩:=q1;cases r1;exact wpAny_truthy_bool ⟨H1,I1,q⟩
theorem Vq{t:TE}(h:PE X e t)(he:∀whole,isTrue e X.env whole=(do let v ←whole;standAt e.pos;holding [v] (truthy v)):=by intro _;rfl):PT X e (tB t):=by intro pins s σ H Q I hw;refine isTrue_plain (gx (h pins s σ H _ I hw) fun v s1 ⟨x,H1,I1,r1,q1⟩=>?_) (he _);obtain⟨d,rfl,q⟩:=q1;cases r1;exact wpAny_truthy_bool ⟨H1,I1,q⟩
variable {tA tB':TT} {rest:List Expr}
def tOr(t u:TT):TT:=fun σ H Q=>t σ H fun c H1=>if c=true then Q true H1 else u σ H1 Q
def abJ(t:TT):TT:=fun σ H Q=>t σ H fun c H1=>Q (!c) H1
theorem pw_or1(ha:PT X a tA):PW X (.BoolOp .Or [a] pos) tA:=by
  intro wh pins s σ H Q I h;refine isTrue_or (gx (ha pins s σ H Q I h) fun c s1 e=>?_);cases c with
  |false=>exact isTrue_or_nil e
  |true=>exact e
theorem pw_or(ha:PT X a tA)(hb:PW X (.BoolOp .Or (b::rest) pos) tB'):PW X (.BoolOp .Or (a::b::rest) pos) (tOr tA tB'):=by
  intro wh pins s σ H Q I h;refine isTrue_or (gx (ha pins s σ H _ I h) fun c s1 ⟨H1,I1,q1⟩=>?_);cases c with
  |true=>exact⟨H1,I1,q1⟩
  |false=>exact hb wh pins s1 σ H1 Q I1 q1
theorem Vr(ha:PT X a tA):PT X (.UnaryOp .Not a pos) (abJ tA):=by intro pins s σ H Q I h;exact isTrue_not (ha pins s σ H (fun c H1=>Q (!c) H1) I h)
def Yp(ta tb:TE):TE:=fun σ H Q=>ta σ H fun x H1=>∃c,x=.bl c∧if c=true then tb σ H1 Q else Q (.bl false) H1
def Yq(ta:TE):TE:=fun σ H Q=>ta σ H fun x H1=>∃c,x=.bl c∧Q (.bl (!c)) H1
theorem Vs{op}{t:TE}(h:PE X a t):PE X (.BoolOp op [a] pos) t:=fun pins s σ H Q I hw=>BoolOp_one (h pins s σ H Q I hw)
theorem Vt(ha:PE X a ta)(hb:PE X (.BoolOp .And (b::rest) pos) tb):PE X (.BoolOp .And (a::b::rest) pos) (Yp ta tb):=by
  intro pins s σ H Q I h;refine BoolOp_and (gx (ha pins s σ H _ I h) fun v s1 ⟨x,H1,I1,r1,q1⟩=>?_);obtain⟨c,rfl,q1⟩:=q1;cases r1;refine wpAny_truthy_bool ?_;cases c with
  |true=>exact hb pins s1 σ H1 Q I1 q1
  |false=>exact⟨.bl false,H1,I1,rfl,q1⟩
theorem Vu(ha:PE X a ta):PE X (.UnaryOp .Not a pos) (Yq ta):=by intro pins s σ H Q I h;refine UnaryOp_ (gx (ha pins s σ H _ I h) fun v s1 ⟨x,H1,I1,r1,q1⟩=>?_);obtain⟨c,rfl,q1⟩:=q1;cases r1;exact not_of (wpAny_truthy_bool ⟨.bl (!c),H1,I1,rfl,q1⟩)
end
def m4(K:PySem.W.Frag)(H:Hp)(a:Addr)(xs:List V):Prop :=
  Rd H a (.lst xs) ∨
    ∃(o:Obj) (its:Array Value) (n:Nat),K.lookup a=some o∧o.cls=.type "list"∧o.dict=none∧o.data=.seq its n∧its.size≤sizeLine∧Vals xs its.toList
def kE(K:PySem.W.Frag)(H:Hp)(a:Addr)(xs:List V):Prop :=
  Rd H a (.tup xs) ∨
    ∃(o:Obj) (its:Array Value) (n:Nat),K.lookup a=some o∧o.cls=.type "tuple"∧o.data=.seq its n∧its.size≤sizeLine∧Vals xs its.toList
def abK:Value→Option V
  |.none=>some .non
  |.bool b=>some (.bl b)
  |.int i _=>some (.int i)
  |.str x _=>some (.str x)
  |.bytes b _=>some (.Nx b)
  |.float b _=>some (.XM b)
  |.ref a=>some (.ref a)
  |.type n=>some (.ty n)
  |_=>none
theorem RelV.abs{x:V}(r:RelV x u):abK u=some x:=by
  cases x with
  |non=>cases r;rfl
  |bl _=>cases r;rfl
  |int _=>obtain⟨t,rfl⟩:=r;rfl
  |str _=>obtain⟨t,rfl⟩:=r;rfl
  |Nx _=>obtain⟨t,rfl⟩:=r;rfl
  |XM _=>obtain⟨t,rfl⟩:=r;rfl
  |ref _=>cases r;rfl
  |ty _=>cases r;rfl
theorem RelV.inj{x y:V}(r:RelV x u)(q:RelV y u):x=y:=ow (r.abs.symm.trans q.abs)
theorem Vals.inj:∀{xs ys:List V} {us:dO},Vals xs us→Vals ys us→xs=ys
  |_,_,_,.nil,.nil=>rfl
  |_,_,_,.cons r t,.cons r' t'=>by rw[r.inj r',Vals.inj t t']
section
variable {X:Cx} {pins:kJ} {σ:St} {H:Hp} {s:Shared} {a:Addr} {xs ys:List V}
theorem m4.of(h:H a=some (.lst xs)):m4 K H a xs:=.inl (.inl h)
theorem kE.of(h:H a=some (.tup xs)):kE K H a xs:=.inl (.inl h)
theorem Inv.list(I:Inv X pins σ H s)(h:m4 X.K H a xs):∃its:dO,Vals xs its∧PlainL s.heap a its.toArray∧xs.length≤sizeLine:=by
  rcases h with h|⟨o,its,n,hk,hc,hd,hs,hz,r⟩
  ·obtain⟨z,its,n,r,e⟩:=h.ok I.cZ;exact⟨its,r,⟨_,n,e,rfl,rfl,rfl⟩,z⟩
  ·refine⟨its.toList,r,⟨o,n,I.xB a o hk,hc,hd,by simpa using hs⟩,?_⟩;have e:=r.length;simp only[ou] at e;omega
theorem Inv.tuple(I:Inv X pins σ H s)(h:kE X.K H a xs):∃its:dO,Vals xs its∧IsTup s.heap a its.toArray∧xs.length≤sizeLine:=by
  rcases h with h|⟨o,its,n,hk,hc,hs,hz,r⟩
  ·obtain⟨z,its,r,p⟩:=h.ok I.cZ;exact⟨its,r,p,z⟩
  ·refine⟨its.toList,r,⟨o,I.xB a o hk,hc,n,by simpa using hs⟩,?_⟩;have e:=r.length;simp only[ou] at e;omega
theorem Inv.FH(I:Inv X pins σ H s)(h:m4 X.K H a xs)(h':m4 X.K H a ys):xs=ys:=by
  obtain⟨its,r,⟨o,n,e,_,_,d⟩,_⟩:=I.list h;obtain⟨its',r',⟨o',n',e',_,_,d'⟩,_⟩:=I.list h';rw[e] at e';cases e';rw[d] at d';injection d' with d1 _;have:its=its':=by simpa using il Array.toList d1
  subst this;exact r.inj r'
theorem Inv.Lr(I:Inv X pins σ H s)(h:kE X.K H a xs)(h':kE X.K H a ys):xs=ys:=by
  obtain⟨its,r,⟨o,e,_,n,d⟩,_⟩:=I.tuple h;obtain⟨its',r',⟨o',e',_,n',d'⟩,_⟩:=I.tuple h';rw[e] at e';cases e';rw[d] at d';injection d' with d1 _;have:its=its':=by simpa using il Array.toList d1
  subst this;exact r.inj r'
end
abbrev Cx.xZ(X:Cx)(E:nD):Cx:={ X with xe:=E }
abbrev Cx.Hv(X:Cx):Cx:=X.xZ fun _ _=>False
theorem Cx.Ok.xZ{X:Cx}(ok:X.Ok)(E:nD):(X.xZ E).Ok :=
  ⟨ok.mod,ok.kind,ok.glob,ok.blt,ok.above,ok.inj,ok.has,ok.XR,ok.hd,ok.frames,ok.Yk,ok.exf,ok.bs,ok.Uv,ok.Lq,ok.Nz,ok.xY,ok.Vl⟩
theorem Cx.Ok.oR{X:Cx}(ok:(X.xZ E).Ok):X.Ok :=
  ⟨ok.mod,ok.kind,ok.glob,ok.blt,ok.above,ok.inj,ok.has,ok.XR,ok.hd,ok.frames,ok.Yk,ok.exf,ok.bs,ok.Uv,ok.Lq,ok.Nz,ok.xY,ok.Vl⟩
section
variable {X:Cx} {pins:kJ} {σ:St} {H:Hp} {s:Shared} {E:nD}
theorem Inv.xZ(I:Inv X pins σ H s)(E:nD):Inv (X.xZ E) pins σ H s:=⟨I.ok.xZ E,I.os,I.bare,I.base,I.loc,I.cell,I.free,I.j4,I.pin,I.cZ,I.len⟩
theorem Inv.oR(I:Inv (X.xZ E) pins σ H s):Inv X pins σ H s:=⟨I.ok.oR,I.os,I.bare,I.base,I.loc,I.cell,I.free,I.j4,I.pin,I.cZ,I.len⟩
theorem SP.oR{D:Ends}{f:Flow}{s':Shared}(h:SP (X.xZ E) pins D f s'):SP X pins D f s':=by
  cases f with
  |next=>obtain⟨σ',H',I,q⟩:=h;exact⟨σ',H',I.oR,q⟩
  |brk=>obtain⟨σ',H',I,q⟩:=h;exact⟨σ',H',I.oR,q⟩
  |cont=>obtain⟨σ',H',I,q⟩:=h;exact⟨σ',H',I.oR,q⟩
  |ret u=>obtain⟨v,σ',H',I,r,q⟩:=h;exact⟨v,σ',H',I.oR,r,q⟩
theorem PE.Hv{t:TE}(h:PE X.Hv e t):PE X e t:=fun pins s σ H Q I hw =>
  mY (h pins s σ H Q (I.xZ _) hw) (fun _ _ ⟨v,H',I',r,q⟩=>⟨v,H',I'.oR,r,q⟩) fun _ _ z=>False.elim z
theorem PT.Hv{t:TT}(h:PT X.Hv e t):PT X e t:=fun pins s σ H Q I hw =>
  mY (h pins s σ H Q (I.xZ _) hw) (fun _ _ ⟨H',I',q⟩=>⟨H',I'.oR,q⟩) fun _ _ z=>False.elim z
theorem Bg.Hv{st:List Stmt}{t:TS}(h:Bg X.Hv st t):Bg X st t:=fun pins s σ H D I hw =>
  mY (h pins s σ H D (I.xZ _) hw) (fun _ _ q=>q.oR) fun _ _ z=>False.elim z
end
section
variable {X:Cx} {st:Stmt} {rest:List Stmt} {t u:TS} {e:Expr} {te:TE} {pos:Pos}
def Yr:TS:=fun D σ H=>D.nx σ H
def abL(t u:TS):TS:=fun D σ H=>t { D with nx:=u D } σ H
theorem RD:Bg X [] Yr:=fun _ _ σ H _ I h=>wpAny_execs_nil ⟨σ,H,I,h⟩
theorem NC(h1:PS X st t)(h2:Bg X rest u):Bg X (st::rest) (abL t u):=by
  intro pins s σ H D I h;refine wpAny_execs_cons (gx (h1 pins s σ H { D with nx:=u D } I h) fun f s1 q=>?_);cases f with
  |next=>obtain⟨σ',H',I',q⟩:=q;exact h2 pins s1 σ' H' D I' q
  |ret v=>exact q
  |brk=>exact q
  |cont=>exact q
theorem RG(h1:PS X st t):Bg X [st] t:=by
  intro pins s σ H D I h;refine wpAny_execs_cons (gx (h1 pins s σ H D I h) fun f s1 q=>?_);cases f with
  |next=>exact wpAny_execs_nil q
  |ret v=>exact q
  |brk=>exact q
  |cont=>exact q
theorem Inv.quiet{σ:St}{H:Hp}(I:Inv X pins σ H s):interactive X.env=false:=by simp[interactive,I.ok.kind]
def Ys(te:TE):TS:=fun D σ H=>te σ H fun _ H1=>D.nx σ H1
theorem JG(he:PE X e te)(hs:swapsWith e none pos.line X.env=pure false:=by rfl):PS X (.Expr e pos) (Ys te):=by intro pins s σ H D I h;exact wpAny_Expr_any (gx (he pins s σ H _ I h) fun v s1 ⟨x,H1,I1,r1,q1⟩=>⟨σ,H1,I1,q1⟩) I.quiet hs
def abM(te:TE):TS:=fun D σ H=>te σ H D.rt
theorem yJ(he:PE X e te):PS X (.Return (some e) pos) (abM te):=by intro pins s σ H D I h;exact wpAny_Return_some (gx (he pins s σ H _ I h) fun v s1 ⟨x,H1,I1,r1,q1⟩=>⟨x,σ,H1,I1,r1,q1⟩)
def abN(c:TT)(t u:TS):TS:=fun D σ H=>c σ H fun b H1=>if b=true then t D σ H1 else u D σ H1
theorem Yt{c:Expr}{a b:List Stmt}{tc:TT}(hc:PT X c tc)(ha:Bg X a t)(hb:Bg X b u):PS X (.If c a b pos) (abN tc t u):=by
  intro pins s σ H D I h;refine wpAny_If (gx (hc pins s σ H _ I h) fun d s1 ⟨H1,I1,q1⟩=>?_);cases d with
  |true=>exact ha pins s1 σ H1 D I1 q1
  |false=>exact hb pins s1 σ H1 D I1 q1
end
abbrev TG:=V→St→Hp→(St→Hp→Prop)→Prop
abbrev RH:=List V→St→Hp→(St→Hp→Prop)→Prop
def PG(X:Cx)(target:Expr)(t:TG):Prop :=
  ∀(pins:kJ) (s:Shared) (σ:St) (H:Hp) (v:V) (u:Value) (Q:St→Hp→Prop),Inv X pins σ H s→RelV v u→t v σ H Q →
   wpAny (model X.prog X.w) X.A (assign target X.env u) (fun _ s'=>∃σ' H',Inv X pins σ' H' s'∧Q σ' H') X.xe s
def Rj(X:Cx)(ts:List Expr)(t:RH):Prop :=
  ∀(pins:kJ) (s:Shared) (σ:St) (H:Hp) (vs:List V) (us:dO) (Q:St→Hp→Prop),Inv X pins σ H s→Vals vs us→t vs σ H Q →
   wpAny (model X.prog X.w) X.A (assignInOrder ((assignEach ts X.env).map (·.2)) us) (fun _ s'=>∃σ' H',Inv X pins σ' H' s'∧Q σ' H') X.xe s
section
variable {X:Cx} {pos:Pos}
def BZ(i:Nat):TG:=fun v σ H Q=>Q (σ.set i (some v)) H
theorem RJ(hN:X.N.Nodup)(hi:X.N[i]?=some x)(hx:Loc X.env.scope x)(hf:X.fn x=true∨X.env.scope.names.lookup x=some .local:=by first|exact .inl rfl|exact .inr rfl|assumption):PG X (.Name x pos) (BZ i):=by intro pins s σ H v u Q I r h;exact wpAny_assign_Name (FG I hN hi hx r (fun s' I'=>⟨_,H,I',h⟩) hf)
def abO:RH:=fun vs σ H Q=>vs=[]∧Q σ H
def Yu(t:TG)(u:RH):RH:=fun vs σ H Q=>∃v r,vs=v::r∧t v σ H fun σ' H'=>u r σ' H' Q
theorem RK:Rj X [] abO:=by intro pins s σ H vs us Q I r h;obtain⟨e,h⟩:=h;subst e;cases r;exact assignInOrder_nil ⟨σ,H,I,h⟩
theorem NF{es:List Expr}{t:TG}{u:RH}(h1:PG X e t)(h2:Rj X es u)(hs:(assignEach (e::es) X.env).map (·.2)=assign e X.env::(assignEach es X.env).map (·.2):=by rfl):Rj X (e::es) (Yu t u):=by
  intro pins s σ H vs us Q I r h;obtain⟨v,vr,e1,h⟩:=h;subst e1;cases r with
  |cons r rr=>rw[hs];refine assignInOrder_cons (gx (h1 pins s σ H _ _ _ I r h) fun _ s1 ⟨σ1,H1,I1,q1⟩=>?_);exact h2 pins s1 σ1 H1 _ _ Q I1 rr q1
def abP(K:PySem.W.Frag)(n:Nat)(t:RH):TG:=fun v σ H Q=>∃a xs,v=.ref a∧kE K H a xs∧xs.length=n∧t xs σ H Q
theorem Vv{es:List Expr}{t:RH}(hc:X.calm=true)(h:Rj X es t)(hn:(assignEach es X.env).length=n:=by rfl)(Ls:(assignEach es X.env).findIdx? (·.1)=none:=by rfl):PG X (.Tuple es k pos) (abP X.K n t):=by
  intro pins s σ H v u Q I r hw;obtain⟨a,xs,e1,hq,hl,hw⟩:=hw;subst e1;cases r;obtain⟨its,rv,ht,hz⟩:=I.tuple hq;refine assign_Tuple_tuple (I.ok.hd hc) ht (by simp[hn,←hl,rv.length]) Ls fun h' hx=>?_;have I1:Inv X pins σ H { s with heap:=h' }:=I.kept (t':=s.toks) fun b o e=>hx b o (fV (dj e)) e;exact h pins _ σ H xs _ Q I1 (by simpa using rv) hw
def Lv(te:TE)(g:TG):TS:=fun D σ H=>te σ H fun x H1=>g x σ H1 D.nx
theorem Vw{te:TE}{g:TG}(he:PE X e te)(hg:PG X tg g)(hs:swapsWithSole [tg] e pos.line X.env=pure false:=by rfl)(hw:swappedStores [tg] e X.env=pure none:=by rfl)(h1:(assignEach [tg] X.env).map (·.2)=[assign tg X.env]:=by rfl):PS X (.Assign [tg] e pos) (Lv te g):=by
  intro pins s σ H D I h;refine wpAny_Assign_stores (gx (he pins s σ H _ I h) fun v s1 ⟨x,H1,I1,r1,q1⟩=>?_) hs hw;rw[h1];exact gx (hg pins s1 σ H1 x v _ I1 r1 q1) fun _ s2 q=>q
theorem Ds{te:TE}(hN:X.N.Nodup)(hi:X.N[i]?=some x)(hx:Loc X.env.scope x)(he:PE X e te)(hs:swapsWith e (some (.Name x pos')) pos.line X.env=pure false:=by rfl)(hf:X.fn x=true∨X.env.scope.names.lookup x=some .local:=by first|exact .inl rfl|exact .inr rfl|assumption):PS X (.Assign [.Name x pos'] e pos) (Lv te (BZ i)):=by
  intro pins s σ H D I h;refine wpAny_Assign_Name (gx (he pins s σ H _ I h) fun v s1 ⟨y,H1,I1,r1,q1⟩=>?_) hs;exact FG I1 hN hi hx r1 (fun s2 I2=>⟨_,H1,I2,q1⟩) hf
end
section
variable {X:Cx} {pos:Pos}
def Vx(c:TT)(tb:TS):TS:=fun D σ H=>∃W:Nat→St→Hp→Prop,(∃m,W m σ H)∧∀m σ H,W m σ H →
  c σ H fun b H1=>if b=true then ∃N:St→Hp→Prop,(∀σ' H',N σ' H'→∃m',m'<m∧W m' σ' H')∧tb { D with nx:=N,ct:=N,bk:=D.nx } σ H1 else D.nx σ H1
theorem NH{c:Expr}{body:List Stmt}{tc:TT}{tb:TS}(hp:PassesOwn (model X.prog X.w) X.A X.env X.xe)(hc:PT X c tc)(hb:Bg X body tb):PS X (.While c body [] pos) (Vx tc tb):=by
  intro pins s σ H D I h;obtain⟨W,⟨m0,w0⟩,turn⟩:=h;refine wpAny_While (codeAny_whileLoop (fun n s'=>∃σ' H',Inv X pins σ' H' s'∧W n σ' H') ?_ m0 ⟨σ,H,I,w0⟩);rintro n s1 ⟨σ1,H1,I1,w1⟩;refine wpAny_passesOwn hp (gx (hc pins s1 σ1 H1 _ I1 (turn n σ1 H1 w1)) fun b s2 ⟨H2,I2,q2⟩=>?_);cases b with
  |true =>
   obtain⟨N,hN,q2⟩:=q2;rw[ay rfl];refine wpAny_passesOwn hp (gx (hb pins s2 σ1 H2 _ I2 q2) fun f s3 q3=>?_);cases f with
   |next=>obtain⟨σ3,H3,I3,n3⟩:=q3;obtain⟨m',hm,w3⟩:=hN σ3 H3 n3;exact⟨m',hm,σ3,H3,I3,w3⟩
   |cont=>obtain⟨σ3,H3,I3,n3⟩:=q3;obtain⟨m',hm,w3⟩:=hN σ3 H3 n3;exact⟨m',hm,σ3,H3,I3,w3⟩
   |brk=>exact q3
   |ret v=>exact q3
  |false=>rw[aZ jx];exact wpAny_execs_nil ⟨σ1,H2,I2,q2⟩
end
structure It where
  go:Nat→Hp→Prop
  NJ:Nat→Hp→V→Hp→Prop
  stop:Nat→Hp→Prop
def iw(X:Cx)(pins:kJ)(H:Hp)(b:Addr):Prop :=
  H b=none∧b≠X.env.locals∧b∉X.fs∧(b∈X.ex∨X.s₀.heap.objs.size≤b)∧(∀x c,X.env.cells.lookup x=some c→c≠b)∧∀p∈X.pn++pins,p.1≠b
theorem Inv.Bh{X:Cx}{σ:St}{H H':Hp}{b:Addr}(I:Inv X pins σ H s)(hb:s.heap.objs.size≤b)(hn:H' b=none):iw X pins H' b:=by
  refine⟨hn,Nat.ne_of_gt (oP I.lt hb),I.Vm hb,.inr (oQ I.sz hb),fun x c e z=>?_,fun p hp z=>?_⟩
  ·obtain⟨v,q⟩:=I.cell x c e;exact absurd (oP q.lt (by rw[z];exact hb)) (Nat.lt_irrefl _)
  ·exact absurd (oP (dj (I.pin p hp).1) (by rw[z];exact hb)) (Nat.lt_irrefl _)
structure Turn (P:Program) (w:World) (K:PySem.W.Frag) (tg:Expr) (J:It) (fp:List Addr) (it:Addr) (tn:Nat→Heap→Prop):Prop where
  mem:it∈fp
  obj:∀i h,tn i h→∀b∈fp,∃o,h.get? b=some o∧∀v,o.data≠.cell v
  keep:∀i h h',tn i h→(∀b∈fp,∀o,h.get? b=some o→h'.get? b=some o)→tn i h'
  item:∀(X:Cx),X.prog=P→X.w=w→X.K=K→X.calm=true→∀(i:Nat) (pins:kJ) (s:Shared) (σ:St) (H:Hp) (E:nD),Inv X pins σ H s→(∀b∈fp,iw X pins H b)→tn i s.heap→J.go i H →
    wpAny (model P w) X.A (pyNext (.ref it)) (fun r s1=>∃u,r=some u ∧
      wpAny (model P w) X.A (letOwnedTupleGo tg (.ref it) u) (fun _ s2=>∃x H',Inv X pins σ H' s2∧RelV x u∧J.NJ i H x H'∧tn (i+1) s2.heap∧∀b∈fp,H' b=none) E s1) E s
  done:∀(X:Cx),X.prog=P→X.w=w→X.K=K→X.calm=true→∀(i:Nat) (pins:kJ) (s:Shared) (σ:St) (H:Hp) (E:nD),Inv X pins σ H s→(∀b∈fp,iw X pins H b)→tn i s.heap→J.stop i H →
    wpAny (model P w) X.A (pyNext (.ref it)) (fun r s1=>r=none∧Inv X pins σ H s1) E s
  self:∀(A:Around) (i:Nat) (s:Shared) (Q:nD) (E:nD),tn i s.heap→Q (.ref it) s→wpAny (model P w) A (pyIter (.ref it)) Q E s
abbrev TI:=St→Hp→(It→Hp→Prop)→Prop
def PIE(X:Cx)(pins:kJ)(σ:St)(tg:Expr)(R:It→Hp→Prop)(itv:Value)(s2:Shared):Prop :=
  ∃(it:Addr) (fp:List Addr) (tn:Nat→Heap→Prop) (J:It) (H':Hp),itv=.ref it∧Inv X pins σ H' s2∧Turn X.prog X.w X.K tg J fp it tn∧tn 0 s2.heap∧(∀b∈fp,iw X pins H' b)∧R J H'
def PI(X:Cx)(tg iter:Expr)(wi:TI):Prop :=
  ∀(pins:kJ) (s:Shared) (σ:St) (H:Hp) (R:It→Hp→Prop),Inv X pins σ H s→wi σ H R →
   wpAny (model X.prog X.w) X.A (eval iter X.env) (fun v s1=>wpAny (model X.prog X.w) X.A (pyIter v) (PIE X pins σ tg R) X.xe s1) X.xe s
theorem NK{M:Model}{it:Addr}{o:Obj}{n:String}{vs:Array Value}{Q:Unit→Shared→Prop}(ho:s.heap.get? it=some o)(hc:o.cls=.type n)(hd:o.data=.fields vs)(hn:["enumerate","zip","dict_itemiterator","dict_reverseitemiterator","odict_iterator","itertools.zip_longest","itertools.pairwise"].contains n=false)(hQ:Q () s):wpAny M A (letOwnedTupleGo tg (.ref it) u) Q E s:=by
  unfold letOwnedTupleGo;cases tg<;>first
    |exact cX hQ
    |(cases u<;>first
        |exact cX hQ
        |(refine bh (wpAny_load ho ?_)
          rw[hc,hd];show wpAny M A (if (["enumerate","zip","dict_itemiterator","dict_reverseitemiterator","odict_iterator","itertools.zip_longest","itertools.pairwise"].contains n&&vs[0]?==some (rawInt _))=true then _ else _) Q E s;rw[aZ (by intro h;rw[hn,Bool.false_and] at h;cases h)];exact cX hQ))
def Itl(K:PySem.W.Frag)(a:Addr):It :=
  ⟨fun i H=>∃xs x,m4 K H a xs∧xs[i]?=some x,fun i H x H'=>H'=H∧∀xs,m4 K H a xs→xs[i]?=some x,fun i H=>∃xs,m4 K H a xs∧xs.length≤i⟩
def Itt(K:PySem.W.Frag)(a:Addr):It :=
  ⟨fun i H=>∃xs x,kE K H a xs∧xs[i]?=some x,fun i H x H'=>H'=H∧∀xs,kE K H a xs→xs[i]?=some x,fun i H=>∃xs,kE K H a xs∧xs.length≤i⟩
def Yv(lo:Int)(n:Nat):It:=⟨fun i _=>i<n,fun i H x H'=>H'=H∧x=.int (lo+i),fun i _=>n≤i⟩
theorem Lw(a it:Addr):Turn P w K tg (Itl K a) [it] it (fun i h=>h.IsListIter it a i) where
  mem:=by simp
  obj:=fun i h st b hb=>by
    have e:b=it:=by simpa using hb
    subst e;obtain⟨o,e,c,d⟩:=st;exact⟨o,e,fun v z=>by rw[d] at z;cases z⟩
  keep:=fun i h h' st k=>st.at fun o e=>k it (by simp) o e
  item:=by intro X hP hw hK hc i pins s σ H E I hf st hg;subst hP hw hK;obtain⟨xs,x,hq,hx⟩:=hg;obtain⟨its,rv,p,hz⟩:=I.list hq;obtain⟨u,hu,ru⟩:=rv.get hx;obtain⟨f0,f1,f2,f3,f4,f5⟩:=hf it (by simp);refine wpAny_pyNext_list_item st p.isList (x:=u) (by simpa using hu) fun h' st' sb=>?_;have I1:Inv X pins σ H { s with heap:=h' }:=I.turned (t':=s.toks) (fun b o hb e=>(sb.2 b hb).trans e) f0 f1 f3 f4 f5;obtain⟨o,e,c,d⟩:=id st';exact⟨u,rfl,NK (s:={ s with heap:=h' }) e c d (by decide) ⟨x,H,I1,ru,⟨rfl,fun ys hy=>by rw[I.FH hy hq];exact hx⟩,st',fun b hb=>(hf b hb).1⟩⟩
  done:=by intro X hP hw hK hc i pins s σ H E I hf st hg;subst hP hw hK;obtain⟨xs,hq,hx⟩:=hg;obtain⟨its,rv,p,hz⟩:=I.list hq;obtain⟨f0,f1,f2,f3,f4,f5⟩:=hf it (by simp);have hl:=rv.length;exact wpAny_pyNext_list_end (I.ok.hd hc) st p.isList (by simp;omega) fun h' eb=>⟨rfl,I.turned (t':=s.toks) (fun b o hb e=>eb b o hb e) f0 f1 f3 f4 f5⟩
  self:=fun _ _ _ _ _ st h=>wpAny_pyIter_listiter st h
theorem Hw(a it:Addr):Turn P w K tg (Itt K a) [it] it (fun i h=>h.IsTupleIter it a i) where
  mem:=by simp
  obj:=fun i h st b hb=>by
    have e:b=it:=by simpa using hb
    subst e;obtain⟨o,e,c,d⟩:=st;exact⟨o,e,fun v z=>by rw[d] at z;cases z⟩
  keep:=fun i h h' st k=>st.at fun o e=>k it (by simp) o e
  item:=by intro X hP hw hK hc i pins s σ H E I hf st hg;subst hP hw hK;obtain⟨xs,x,hq,hx⟩:=hg;obtain⟨its,rv,p,hz⟩:=I.tuple hq;obtain⟨u,hu,ru⟩:=rv.get hx;obtain⟨f0,f1,f2,f3,f4,f5⟩:=hf it (by simp);refine wpAny_pyNext_tuple_item st (show s.heap.IsTuple a its.toArray from p) (x:=u) (by simpa using hu) fun h' st' sb=>?_;have I1:Inv X pins σ H { s with heap:=h' }:=I.turned (t':=s.toks) (fun b o hb e=>(sb.2 b hb).trans e) f0 f1 f3 f4 f5;obtain⟨o,e,c,d⟩:=id st';exact⟨u,rfl,NK (s:={ s with heap:=h' }) e c d (by decide) ⟨x,H,I1,ru,⟨rfl,fun ys hy=>by rw[I.Lr hy hq];exact hx⟩,st',fun b hb=>(hf b hb).1⟩⟩
  done:=by intro X hP hw hK hc i pins s σ H E I hf st hg;subst hP hw hK;obtain⟨xs,hq,hx⟩:=hg;obtain⟨its,rv,p,hz⟩:=I.tuple hq;obtain⟨f0,f1,f2,f3,f4,f5⟩:=hf it (by simp);have hl:=rv.length;exact wpAny_pyNext_tuple_end (I.ok.hd hc) st (show s.heap.IsTuple a its.toArray from p) (by simp;omega) fun h' eb=>⟨rfl,I.turned (t':=s.toks) (fun b o hb e=>eb b o hb e) f0 f1 f3 f4 f5⟩
  self:=fun _ _ _ _ _ st h=>wpAny_pyIter_tupleiter st h
theorem Hx(it:Addr)(lo:Int)(n:Nat):Turn P w K tg (Yv lo n) [it] it (fun i h=>IsRangeIter h it (lo+(i:Nat)*1) ((n:Int)-(i:Nat)) 1) where
  mem:=by simp
  obj:=fun i h st b hb=>by
    have e:b=it:=by simpa using hb
    subst e;exact⟨_,st,fun v z=>by
      have z':Data.fields _=Data.cell v:=z;cases z'⟩
  keep:=fun i h h' st k=>k it (by simp) _ st
  item:=by intro X hP hw hK hc i pins s σ H E I hf st hg;subst hP hw hK;obtain⟨f0,f1,f2,f3,f4,f5⟩:=hf it (by simp);have W:=Walks.range (prog:=X.prog) (w:=X.w) (I.ok.hd hc) it lo 1 n;refine W.item i s _ _ hg st fun v h' tk hv st' kk=>?_;obtain⟨t,rfl⟩:=hv;have I1:Inv X pins σ H { s with heap:=h',toks:=tk }:=I.turned (fun b o hb e=>kk b o (by simpa using hb) e) f0 f1 f3 f4 f5;refine⟨_,rfl,NK (s:={ s with heap:=h',toks:=tk }) (n:="range_iterator") st' rfl rfl (by decide) ⟨.int (lo+i),H,I1,⟨t,?_⟩,⟨rfl,rfl⟩,st',fun b hb=>(hf b hb).1⟩⟩;rw[Int.mul_one]
  done:=by intro X hP hw hK hc i pins s σ H E I hf st hg;subst hP hw hK;obtain⟨f0,f1,f2,f3,f4,f5⟩:=hf it (by simp);exact wpAny_pyNext_range_end (I.ok.hd hc) st (by have:n≤i:=hg;omega) fun h' eb=>⟨rfl,I.turned (t':=s.toks) (fun b o hb e=>eb b o hb e) f0 f1 f3 f4 f5⟩
  self:=fun _ _ _ _ _ st h=>wpAny_pyIter_rangeiter st h
section
variable {X:Cx} {tg:Expr}
def Yw(K:PySem.W.Frag)(tl:TE):TI:=fun σ H R=>tl σ H fun x H1=>∃a,x=.ref a∧(∃xs,m4 K H1 a xs)∧R (Itl K a) H1
def abR(K:PySem.W.Frag)(tl:TE):TI:=fun σ H R=>tl σ H fun x H1=>∃a,x=.ref a∧(∃xs,kE K H1 a xs)∧R (Itt K a) H1
theorem JH{l:Expr}{tl:TE}(hl:PE X l tl):PI X tg l (Yw X.K tl):=by
  intro pins s σ H R I h;refine gx (hl pins s σ H _ I h) fun v s1 ⟨x,H1,I1,r1,q1⟩=>?_;obtain⟨a,e,⟨xs,hq⟩,q⟩:=q1;subst e;cases r1;obtain⟨its,rv,p,hz⟩:=I1.list hq;refine wpAny_pyIter_list p.isList ?_;refine⟨s1.heap.objs.size,[s1.heap.objs.size],_,_,H1,rfl,I1.kept (t':=s1.toks) fun b o e=>eu _ e,Lw a _,⟨_,iu _ rfl,rfl,rfl⟩,fun b hb=>?_,q⟩;have e:b=s1.heap.objs.size:=by simpa using hb
  subst e;exact I1.Bh (cw _) (I1.cZ.fresh (cw _))
theorem Vy{l:Expr}{tl:TE}(hl:PE X l tl):PI X tg l (abR X.K tl):=by
  intro pins s σ H R I h;refine gx (hl pins s σ H _ I h) fun v s1 ⟨x,H1,I1,r1,q1⟩=>?_;obtain⟨a,e,⟨xs,hq⟩,q⟩:=q1;subst e;cases r1;obtain⟨its,rv,p,hz⟩:=I1.tuple hq;refine wpAny_pyIter_tuple (show s1.heap.IsTuple a its.toArray from p) ?_;refine⟨s1.heap.objs.size,[s1.heap.objs.size],_,_,H1,rfl,I1.kept (t':=s1.toks) fun b o e=>eu _ e,Hw a _,⟨_,iu _ rfl,rfl,rfl⟩,fun b hb=>?_,q⟩;have e:b=s1.heap.objs.size:=by simpa using hb
  subst e;exact I1.Bh (cw _) (I1.cZ.fresh (cw _))
theorem FI{σ:St}{H:Hp}{R:It→Hp→Prop}{lo hi:Int}{t u v:Tok}{tk:Nat}(I:Inv X pins σ H s)(h1:-(2^62)≤lo)(h2:lo<2^62)(h3:-(2^62)≤hi)(h4:hi<2^62)(q:R (Yv lo (hi-lo).toNat) H):wpAny (model X.prog X.w) X.A (pyIter (.ref s.heap.objs.size)) (PIE X pins σ tg R) E { s with heap:=s.heap.push { cls:=.type "range",data:=.fields #[.int lo t,.int hi u,.int 1 v] },toks:=tk }:=by
  refine wpAny_pyIter_range (IsRange.new ..) (small_one h1 h2 h3 h4) ?_;have I1:Inv X pins σ H { s with heap:=s.heap.push { cls:=.type "range",data:=.fields #[.int lo t,.int hi u,.int 1 v] },toks:=tk }:=I.kept fun b o e=>eu _ e;refine⟨(s.heap.push { cls:=.type "range",data:=.fields #[.int lo t,.int hi u,.int 1 v] }).objs.size,[(s.heap.push { cls:=.type "range",data:=.fields #[.int lo t,.int hi u,.int 1 v] }).objs.size],_,_,H,rfl,
    I1.kept (t':=tk) fun b o e=>eu _ e,Hx _ lo (hi-lo).toNat,?_,fun b hb=>?_,q⟩
  · have e1:lo+((0:Nat):Int)*1=lo:=by simp
    have e2:(((hi-lo).toNat:Nat):Int)-((0:Nat):Int)=Builtin.Range.rangeSize lo hi 1:=by rw[rangeSize_one];split<;>omega
    show IsRangeIter _ _ (lo+((0:Nat):Int)*1) ((((hi-lo).toNat:Nat):Int)-((0:Nat):Int)) 1;rw[e1,e2];exact iu _ rfl
  · have e:b=(s.heap.push { cls:=.type "range",data:=.fields #[.int lo t,.int hi u,.int 1 v] }).objs.size:=by simpa using hb
    subst e;exact I1.Bh (cw _) (I1.cZ.fresh (cw _))
def Yx(ta:TA):TI:=fun σ H R=>ta σ H fun vs H1=>∃j:Int,vs=[.int j]∧-(2^62)≤j∧j<2^62∧R (Yv 0 j.toNat) H1
def Yy(ta:TA):TI:=fun σ H R=>ta σ H fun vs H1=>∃i j:Int,vs=[.int i,.int j]∧(-(2^62)≤i∧i<2^62∧-(2^62)≤j∧j<2^62)∧R (Yv i (j-i).toNat) H1
theorem Lx{a:Expr}{ta:TA}{p:Pos}(hg:Gl X "range")(hm:X.mg "range"=none)(ha:PA X [a] ta)(hs:starEach [a] X.env=[(false,eval a X.env)]:=by rfl):PI X tg (.Call (.Name "range" p) [a] [] pos) (Yx ta):=by
  intro pins s σ H R I h;refine Call_ (j5 I hg hm boot_range (Ft (gx (ha pos pins s σ H _ I h) fun us s1 ⟨vs,H1,I1,r1,q1⟩=>?_) hs rfl));obtain⟨j,e,q1,q2,q⟩:=q1;subst e;cases r1 with
  |cons r rr=>cases rr;obtain⟨t,rfl⟩:=r;exact call_range_1 (FI I1 (by omega) (by omega) q1 q2 (by simpa using q))
theorem Ly{a b:Expr}{ta:TA}{p:Pos}(hg:Gl X "range")(hm:X.mg "range"=none)(ha:PA X [a,b] ta)(hs:starEach [a,b] X.env=[(false,eval a X.env),(false,eval b X.env)]:=by rfl)(Bi:starEach [b] X.env=[(false,eval b X.env)]:=by rfl):PI X tg (.Call (.Name "range" p) [a,b] [] pos) (Yy ta):=by
  intro pins s σ H R I h;refine Call_ (j5 I hg hm boot_range (Ft (gx (ha pos pins s σ H _ I h) fun us s1 ⟨vs,H1,I1,r1,q1⟩=>?_) (by rw[hs,Bi]) (by rw[Bi];rfl)));obtain⟨i,j,e,⟨q1,q2,q3,q4⟩,q⟩:=q1;subst e;cases r1 with
  |cons r rr =>
   cases rr with
   |cons r' rr=>cases rr;obtain⟨t,rfl⟩:=r;obtain⟨t',rfl⟩:=r';exact call_range_2 (FI I1 q1 q2 q3 q4 q)
def abS(wi:TI)(g:TG)(tb:TS):TS:=fun D σ H=>wi σ H fun J H1=>∃W:Nat→Nat→St→Hp→Prop,(∃m,W 0 m σ H1)∧∀i m σ H,W i m σ H →
  (J.stop i H∧D.nx σ H)∨(J.go i H∧∃N:St→Hp→Prop,(∀σ' H',N σ' H'→∃m',m'<m∧W (i+1) m' σ' H')∧∀x H',J.NJ i H x H'→g x σ H' fun σ2 H2=>tb { D with nx:=N,ct:=N,bk:=D.nx } σ2 H2)
def yK(fp:List Addr)(h:Heap):kJ:=fp.filterMap fun b=>(h.get? b).map fun o=>(b,o)
theorem pY{b:Addr}{o:Obj}(hb:b∈fp)(e:h.get? b=some o):(b,o)∈yK fp h:=List.mem_filterMap.mpr ⟨b,hb,by rw[e];rfl⟩
theorem Lz{p:Addr×Obj}(hp:p∈yK fp h):p.1∈fp∧h.get? p.1=some p.2:=by
  obtain⟨b,hb,e⟩:=List.mem_filterMap.mp hp;cases q:h.get? b with
  |none=>rw[q] at e;cases e
  |some o=>rw[q] at e;have e':(b,o)=p:=ow e;subst e';exact⟨hb,q⟩
theorem Inv.pinned{σ:St}{H:Hp}(I:Inv X pins σ H s)(hf:∀b∈fp,iw X pins H b)(ho:∀b∈fp,∃o,s.heap.get? b=some o∧∀v,o.data≠.cell v):Inv X (pins++yK fp s.heap) σ H s :=
  I.Dq fun p hp=>(mV.mp hp).elim (fun z=>I.pin p (jY _ z)) fun z=>by obtain⟨hb,e⟩:=Lz z;obtain⟨f0,f1,f2,_⟩:=hf p.1 hb;obtain⟨o,e',d⟩:=ho p.1 hb;rw[e] at e';cases e';exact⟨e,f0,f1,f2,d⟩
theorem Inv.pH{pl:kJ}{σ:St}{H:Hp}(I:Inv X (pins++pl) σ H s):Inv X pins σ H s:=I.Dq fun p hp=>I.pin p (jY _ (A6 _ hp))
theorem Vz{iter:Expr}{body:List Stmt}{wi:TI}{g:TG}{tb:TS}(hp:PassesOwn (model X.prog X.w) X.A X.env X.xe)(hc:X.calm=true)(hi:PI X tg iter wi)(hg:PG X tg g)(hb:Bg X body tb)(hs:∀x,foldedSetIterable iter X.env x=pure x:=by intro _;rfl):PS X (.For tg iter body [] pos) (abS wi g tb):=by
  intro pins s σ H D I h;refine wpAny_For (gx (hi pins s σ H _ I h) fun v s1 h1=>gx h1 fun itv s2 h2=>?_) hs;obtain⟨it,fp,tn,J,H2,e,I2,T,Yz,f2,W,⟨m0,w0⟩,turn⟩:=h2;subst e
  -- what stays true of the iterator's objects through the loop
  have stat:∀{H':Hp},(∀b∈fp,H' b=none)→∀b∈fp,iw X pins H' b:=fun hn b hb=>⟨hn b hb,(f2 b hb).2⟩
  refine codeAny_forLoop_any (fun n s'=>∃i σ' H',Inv X pins σ' H' s'∧tn i s'.heap∧(∀b∈fp,H' b=none)∧W i n σ' H') ?_ m0 ⟨0,σ,H2,I2,Yz,fun b hb=>(f2 b hb).1,w0⟩;rintro n s3 ⟨i,σ3,H3,I3,st3,fr3,w3⟩;rcases turn i n σ3 H3 w3 with⟨stop,qn⟩|⟨go,N,hN,step⟩
  ·refine wpAny_passesOwn hp (gx (T.done X rfl rfl rfl hc i pins s3 σ3 H3 X.xe I3 (stat fr3) st3 stop) fun r s4 ⟨hr,I4⟩=>?_);subst hr;exact wpAny_execs_nil ⟨σ3,H3,I4,qn⟩
  · refine wpAny_passesOwn hp (gx (T.item X rfl rfl rfl hc i pins s3 σ3 H3 X.xe I3 (stat fr3) st3 go) fun r s4 ⟨u,hr,h4⟩=>?_);subst hr;refine wpAny_passesOwn hp (gx h4 fun _ s5 ⟨x,H5,I5,r5,y5,st5,fr5⟩=>?_);have I5':=I5.pinned (stat fr5) (T.obj _ _ st5);refine wpAny_passesOwn hp (gx (hg _ s5 σ3 H5 x u _ I5' r5 (step x H5 y5)) fun _ s6 ⟨σ6,H6,I6,q6⟩=>?_);refine wpAny_passesOwn hp (gx (hb _ s6 σ6 H6 _ I6 q6) fun f s7 q7=>?_);have again:∀{σ7:St} {H7:Hp},Inv X (pins++yK fp s5.heap) σ7 H7 s7→N σ7 H7→∃m,m<n∧∃i σ' H',Inv X pins σ' H' s7∧tn i s7.heap∧(∀b∈fp,H' b=none)∧W i m σ' H':=fun {σ7 H7} I7 n7=>by
      obtain⟨m',hm,w7⟩:=hN σ7 H7 n7;refine⟨m',hm,i+1,σ7,H7,I7.pH,T.keep _ _ _ st5 fun b hb o e=>(I7.pin (b,o) (jY _ (jY _ (pY hb e)))).1,fun b hb=>?_,w7⟩;obtain⟨o,e,d⟩:=T.obj _ _ st5 b hb;exact(I7.pin (b,o) (jY _ (jY _ (pY hb e)))).2.1
    cases f with
    |next=>obtain⟨σ7,H7,I7,n7⟩:=q7;exact again I7 n7
    |cont=>obtain⟨σ7,H7,I7,n7⟩:=q7;exact again I7 n7
    |brk=>obtain⟨σ7,H7,I7,q7⟩:=q7;exact⟨σ7,H7,I7.pH,q7⟩
    |ret v=>obtain⟨x7,σ7,H7,I7,r7,q7⟩:=q7;exact⟨x7,σ7,H7,I7.pH,r7,q7⟩
end
abbrev R2:=V→V→Hp→VK→Prop
def qy(X:Cx)(f:Value→Value→Sem Value)(r:R2):Prop :=
  ∀(pins:kJ) (s:Shared) (σ:St) (H:Hp) (x y:V) (v u:Value) (Q:VK),Inv X pins σ H s→RelV x v→RelV y u→r x y H Q →
   wpAny (model X.prog X.w) X.A (f v u) (EP X pins σ Q) X.xe s
def UnR(X:Cx)(f:Value→Sem Value)(r:V→Hp→VK→Prop):Prop :=
  ∀(pins:kJ) (s:Shared) (σ:St) (H:Hp) (x:V) (v:Value) (Q:VK),Inv X pins σ H s→RelV x v→r x H Q →
   wpAny (model X.prog X.w) X.A (f v) (EP X pins σ Q) X.xe s
def qz(X:Cx)(f:Value)(r:List V→Hp→VK→Prop):Prop :=
  ∀(pins:kJ) (s:Shared) (σ:St) (H:Hp) (xs:List V) (us:dO) (Q:VK),Inv X pins σ H s→Vals xs us→r xs H Q →
   wpAny (model X.prog X.w) X.A (call f us) (EP X pins σ Q) X.xe s
def YB(r:R2)(ta tb:TE):TE:=fun σ H Q=>ta σ H fun x H1=>tb σ H1 fun y H2=>r x y H2 Q
def tUn(r:V→Hp→VK→Prop)(ta:TE):TE:=fun σ H Q=>ta σ H fun x H1=>r x H1 Q
def rI(C:Int→Int→Prop)(g:Int→Int→V):R2:=fun x y H Q=>∃i j,x=.int i∧y=.int j∧C i j∧Q (g i j) H
def Rk(g:Int→Int→V):R2:=fun x y H Q=>∃i j,x=.int i∧y=.int j∧Q (g i j) H
def rU(g:Int→V):V→Hp→VK→Prop:=fun x H Q=>∃i,x=.int i∧Q (g i) H
section
variable {X:Cx} {a b c:Expr} {ta tb tc:TE} {pos:Pos}
theorem VA(ha:PE X a ta)(hb:PE X b tb){σ:St}{H:Hp}{R:V→V→Hp→Prop}(I:Inv X pins σ H s)(h:ta σ H fun x H1=>tb σ H1 fun y H2=>R x y H2)(hf:∀v u s2 x y H2,Inv X pins σ H2 s2→RelV x v→RelV y u→R x y H2→wpAny (model X.prog X.w) X.A (f v u) Q X.xe s2):wpAny (model X.prog X.w) X.A (eval a X.env) (fun v s₁=>wpAny (model X.prog X.w) X.A (eval b X.env) (fun u s₂=>wpAny (model X.prog X.w) X.A (f v u) Q X.xe s₂) X.xe s₁) X.xe s:=by
  refine gx (ha pins s σ H _ I h) fun v s1 ⟨x,H1,I1,r1,q1⟩=>?_;refine gx (hb pins s1 σ H1 _ I1 q1) fun u s2 ⟨y,H2,I2,r2,q2⟩=>?_;exact hf v u s2 x y H2 I2 r1 r2 q2
theorem NM{op:Operator}{r:R2}(ho:qy X (binaryOp op) r)(ha:PE X a ta)(hb:PE X b tb):PE X (.BinOp a op b pos) (YB r ta tb):=by intro pins s σ H Q I h;exact wpAny_BinOp (VA ha hb I h fun v u s2 x y H2 I2 rx ry q=>ho pins s2 σ H2 x y v u Q I2 rx ry q)
theorem YC{op:UnaryOp}{r:V→Hp→VK→Prop}(ho:UnR X (unaryOp op) r)(ha:PE X a ta):PE X (.UnaryOp op a pos) (tUn r ta):=by intro pins s σ H Q I h;exact UnaryOp_ (gx (ha pins s σ H _ I h) fun v s1 ⟨x,H1,I1,r1,q1⟩=>ho pins s1 σ H1 x v Q I1 r1 q1)
theorem Ux{C:Int→Int→Prop}{g:Int→Int→Int}(rule:∀(i j:Int) (t u:Tok) (s:Shared) (Q:nD) (E:nD),C i j→Q (.int (g i j) s.toks) { s with toks:=s.toks+1 }→wpAny (model X.prog X.w) X.A (f (.int i t) (.int j u)) Q E s):qy X f (rI C fun i j=>.int (g i j)):=by
  intro pins s σ H x y v u Q I rx ry h;obtain⟨i,j,rfl,rfl,hc,q⟩:=h;obtain⟨t,rfl⟩:=rx;obtain⟨t',rfl⟩:=ry;exact rule i j t t' s _ _ hc ⟨.int (g i j),H,I.tok _,⟨_,rfl⟩,q⟩
theorem VB{g:Int→Int→Int}(rule:∀(i j:Int) (t u:Tok) (s:Shared) (Q:nD) (E:nD),Q (.int (g i j) s.toks) { s with toks:=s.toks+1 }→wpAny (model X.prog X.w) X.A (f (.int i t) (.int j u)) Q E s):qy X f (Rk fun i j=>.int (g i j)):=by
  intro pins s σ H x y v u Q I rx ry h;obtain⟨i,j,rfl,rfl,q⟩:=h;obtain⟨t,rfl⟩:=rx;obtain⟨t',rfl⟩:=ry;exact rule i j t t' s _ _ ⟨.int (g i j),H,I.tok _,⟨_,rfl⟩,q⟩
theorem VC{g:Int→Int→Bool}(rule:∀(i j:Int) (t u:Tok) (s:Shared) (Q:nD) (E:nD),Q (.bool (g i j)) s→wpAny (model X.prog X.w) X.A (f (.int i t) (.int j u)) Q E s):qy X f (Rk fun i j=>.bl (g i j)):=by
  intro pins s σ H x y v u Q I rx ry h;obtain⟨i,j,rfl,rfl,q⟩:=h;obtain⟨t,rfl⟩:=rx;obtain⟨t',rfl⟩:=ry;exact rule i j t t' s _ _ ⟨.bl (g i j),H,I,rfl,q⟩
def YD(i j:Int):Prop:=0<j∧j<1073741824
def VD(i j:Int):Prop:=0≤j∧j≤1000000∧i.natAbs<2^64
def RL(i j:Int):Prop:=(-(2^64)<i∧i<2^64)∨(-(2^64)<j∧j<2^64)
theorem RL.ok{i j:Int}(h:RL i j):IntMulOk i j:=by
  rcases h with⟨h1,h2⟩|⟨h1,h2⟩
  ·exact .of_left (intBits_le_64 h1 h2)
  ·exact .of_right (intBits_le_64 h1 h2)
theorem Hy(k:Nat):(0:Int)≤2^k:=by rw[two_pow_cast];exact Int.natCast_nonneg _
theorem VF:qy X (binaryOp .Add) (Rk fun i j=>.int (i+j)):=VB fun _ _ _ _ _ _ _ q=>add_int q
theorem VG:qy X (binaryOp .Sub) (Rk fun i j=>.int (i-j)):=VB fun _ _ _ _ _ _ _ q=>sub_int q
theorem VH:qy X (binaryOp .Mult) (rI RL fun i j=>.int (i*j)):=Ux fun _ _ _ _ _ _ _ hc q=>mul_int q hc.ok
theorem RM:qy X (binaryOp .FloorDiv) (rI YD fun i j=>.int (i / j)):=Ux fun i j _ _ _ _ _ hc q=>by have h1:(0:Int)<j:=hc.1;have h2:j<1073741824:=hc.2;exact floordiv_int (by omega) (by rw[Int.fdiv_eq_ediv_of_nonneg i (by omega)];exact q) (.inl (PyProof.noPylong_small (by omega)))
theorem VJ:qy X (binaryOp .Mod) (rI (fun _ j=>0<j) fun i j=>.int (i%j)):=Ux fun i j _ _ _ _ _ hc q=>by have h1:(0:Int)<j:=hc;exact mod_int' (by omega) (by rw[Int.fmod_eq_emod_of_nonneg i (by omega)];exact q)
theorem VL:qy X (binaryOp .Pow) (rI VD fun i j=>.int (i^j.toNat)):=Ux fun _ _ _ _ _ _ _ hc q=>pow_int_small hc.1 hc.2.1 hc.2.2 q
theorem VM:qy X (binaryOp .LShift) (rI VD fun i j=>.int (i*2^j.toNat)):=Ux fun _ _ _ _ _ _ _ hc q=>lshift_int_small hc.1 hc.2.1 hc.2.2 q
theorem VN:qy X (binaryOp .RShift) (rI (fun _ j=>0≤j) fun i j=>.int (i / 2^j.toNat)):=Ux fun i j _ _ _ _ _ hc q =>
  rshift_int hc (by rw[Int.fdiv_eq_ediv_of_nonneg i (Hy _)];exact q)
theorem VP:qy X (binaryOp .BitAnd) (Rk fun i j=>.int (Builtin.bitAnd i j)):=VB fun _ _ _ _ _ _ _ q=>and_int q
theorem unI{f:Value→Sem Value}{g:Int→Int}(rule:∀(i:Int) (t:Tok) (s:Shared) (Q:nD) (E:nD),Q (.int (g i) s.toks) { s with toks:=s.toks+1 }→wpAny (model X.prog X.w) X.A (f (.int i t)) Q E s):UnR X f (rU fun i=>.int (g i)):=by
  intro pins s σ H x v Q I rx h;obtain⟨i,rfl,q⟩:=h;obtain⟨t,rfl⟩:=rx;exact rule i t s _ _ ⟨.int (g i),H,I.tok _,⟨_,rfl⟩,q⟩
theorem VQ:UnR X (unaryOp .USub) (rU fun i=>.int (-i)):=unI fun _ _ _ _ _ q=>neg_int q
end
def NP:V→V→Bool
  |.non,.non=>true|.non,.int _=>true|.int _,.non=>true|.non,.bl _=>true|.bl _,.non=>true|.non,.str _=>true|.str _,.non=>true
  |.int _,.int _=>true|.bl _,.bl _=>true|.str _,.str _=>true|.Nx _,.Nx _=>true
  |.int _,.str _=>true|.str _,.int _=>true|.bl _,.str _=>true|.str _,.bl _=>true
  |_,_=>false
def rEq:R2:=fun x y H Q=>NP x y=true∧Q (.bl (decide (x=y))) H
def rNe:R2:=fun x y H Q=>NP x y=true∧Q (.bl (!decide (x=y))) H
theorem Dt{i j:Int}:decide (V.int i=V.int j)=(i==j):=by rw[Bb];simp
theorem Hz{i j:Bool}:decide (V.bl i=V.bl j)=(i==j):=by rw[Bb];simp
theorem Du{i j:Str}:decide (V.str i=V.str j)=(i==j):=by rw[Bb];simp
theorem JJ{i j:Array UInt8}:decide (V.Nx i=V.Nx j)=(i.toList==j.toList):=by rw[Bb];cases i;cases j;simp
section
variable {X:Cx} {a b c:Expr} {ta tb tc:TE} {pos:Pos}
theorem bX{σ:St}{H:Hp}{Q:VK}{k k':Bool}(I:Inv X pins σ H s)(q:Q (.bl k) H)(e:k=k'):EP X pins σ Q (.bool k') s:=by subst e;exact⟨.bl k,H,I,rfl,q⟩
theorem Uy:qy X (compareOp .Eq) rEq:=by
  intro pins s σ H x y v u Q I rx ry h;obtain⟨hs,q⟩:=h;cases x with
  |non =>
   cases rx;cases y with
   |non=>cases ry;exact PySem.EqNone.eq_none_none (bX I q (by simp))
   |bl j=>cases ry;exact PySem.EqNone.eq_none_bool (bX I q (by simp))
   |int j=>obtain⟨t',rfl⟩:=ry;exact PySem.EqNone.eq_none_int (bX I q (by simp))
   |str j=>obtain⟨t',rfl⟩:=ry;exact PySem.EqNone.eq_none_str (bX I q (by simp))
   |_=>exact absurd (show false=true from hs) jx
  |bl i =>
   cases rx;cases y with
   |non=>cases ry;exact PySem.EqNone.eq_bool_none (bX I q (by simp))
   |bl j=>cases ry;exact eq_bool (bX I q Hz)
   |str j=>obtain⟨t',rfl⟩:=ry;exact PySem.EqMixed.eq_bool_str (bX I q (by simp))
   |_=>exact absurd (show false=true from hs) jx
  |int i =>
   obtain⟨t,rfl⟩:=rx;cases y with
   |non=>cases ry;exact PySem.EqNone.eq_int_none (bX I q (by simp))
   |int j=>obtain⟨t',rfl⟩:=ry;exact eq_int (bX I q Dt)
   |str j=>obtain⟨t',rfl⟩:=ry;exact PySem.EqMixed.eq_int_str (bX I q (by simp))
   |_=>exact absurd (show false=true from hs) jx
  |str i =>
   obtain⟨t,rfl⟩:=rx;cases y with
   |non=>cases ry;exact PySem.EqNone.eq_str_none (bX I q (by simp))
   |bl j=>cases ry;exact PySem.EqMixed.eq_str_bool (bX I q (by simp))
   |int j=>obtain⟨t',rfl⟩:=ry;exact PySem.EqMixed.eq_str_int (bX I q (by simp))
   |str j=>obtain⟨t',rfl⟩:=ry;exact eq_str (bX I q Du)
   |_=>exact absurd (show false=true from hs) jx
  |Nx i =>
   obtain⟨t,rfl⟩:=rx;cases y with
   |Nx j=>obtain⟨t',rfl⟩:=ry;exact PySem.W.eq_bytes (bX I q JJ)
   |_=>exact absurd (show false=true from hs) jx
  |_=>cases y<;>exact absurd (show false=true from hs) jx
theorem YF:qy X (compareOp .NotEq) rNe:=by
  intro pins s σ H x y v u Q I rx ry h;obtain⟨hs,q⟩:=h;cases x with
  |non =>
   cases rx;cases y with
   |non=>cases ry;exact PySem.EqNone.ne_none_none (bX I q (by simp))
   |bl j=>cases ry;exact PySem.EqNone.ne_none_bool (bX I q (by simp))
   |int j=>obtain⟨t',rfl⟩:=ry;exact PySem.EqNone.ne_none_int (bX I q (by simp))
   |str j=>obtain⟨t',rfl⟩:=ry;exact PySem.EqNone.ne_none_str (bX I q (by simp))
   |_=>exact absurd (show false=true from hs) jx
  |bl i =>
   cases rx;cases y with
   |non=>cases ry;exact PySem.EqNone.ne_bool_none (bX I q (by simp))
   |bl j=>cases ry;exact ne_bool (bX I q (il not Hz))
   |str j=>obtain⟨t',rfl⟩:=ry;exact PySem.EqMixed.ne_bool_str (bX I q (by simp))
   |_=>exact absurd (show false=true from hs) jx
  |int i =>
   obtain⟨t,rfl⟩:=rx;cases y with
   |non=>cases ry;exact PySem.EqNone.ne_int_none (bX I q (by simp))
   |int j=>obtain⟨t',rfl⟩:=ry;exact ne_int (bX I q (il not Dt))
   |str j=>obtain⟨t',rfl⟩:=ry;exact PySem.EqMixed.ne_int_str (bX I q (by simp))
   |_=>exact absurd (show false=true from hs) jx
  |str i =>
   obtain⟨t,rfl⟩:=rx;cases y with
   |non=>cases ry;exact PySem.EqNone.ne_str_none (bX I q (by simp))
   |bl j=>cases ry;exact PySem.EqMixed.ne_str_bool (bX I q (by simp))
   |int j=>obtain⟨t',rfl⟩:=ry;exact PySem.EqMixed.ne_str_int (bX I q (by simp))
   |str j=>obtain⟨t',rfl⟩:=ry;exact ne_str (bX I q (il not Du))
   |_=>exact absurd (show false=true from hs) jx
  |Nx i =>
   obtain⟨t,rfl⟩:=rx;cases y with
   |Nx j=>obtain⟨t',rfl⟩:=ry;exact PySem.W.ne_bytes (bX I q (il not JJ))
   |_=>exact absurd (show false=true from hs) jx
  |_=>cases y<;>exact absurd (show false=true from hs) jx
theorem Uz:qy X (compareOp .Lt) (Rk fun i j=>.bl (decide (i<j))):=VC fun _ _ _ _ _ _ _ q=>lt_int q
theorem YG:qy X (compareOp .Gt) (Rk fun i j=>.bl (decide (j<i))):=VC fun _ _ _ _ _ _ _ q=>gt_int q
theorem UA:qy X (compareOp .GtE) (Rk fun i j=>.bl (decide (j≤i))):=VC fun _ _ _ _ _ _ _ q=>ge_int q
theorem NQ:qy X (compareOp .Is) (fun x y H Q=>y=.non∧Q (.bl (decide (x=.non))) H):=by
  intro pins s σ H x y v u Q I rx ry h;obtain⟨rfl,q⟩:=h;cases ry;refine is_none_gen (bX I q ?_);cases x<;>first
    |(cases rx;rfl)
    |(obtain⟨t,rfl⟩:=rx;rfl)
theorem JK:qy X (compareOp .IsNot) (fun x y H Q=>y=.non∧Q (.bl (!decide (x=.non))) H):=by
  intro pins s σ H x y v u Q I rx ry h;obtain⟨rfl,q⟩:=h;cases ry;refine isnot_none_gen (bX I q ?_);cases x<;>first
    |(cases rx;rfl)
    |(obtain⟨t,rfl⟩:=rx;rfl)
theorem qy.or{r r':R2}(h:qy X f r)(h':qy X f r'):qy X f (fun x y H Q=>r x y H Q∨r' x y H Q):=by
  intro pins s σ H x y v u Q I rx ry q;rcases q with q|q
  ·exact h pins s σ H x y v u Q I rx ry q
  ·exact h' pins s σ H x y v u Q I rx ry q
theorem lX(b:Expr)(h:op≠.In:=by decide)(h2:op≠.NotIn:=by decide):behindInMarks op b=false:=by
  have e1:(op==CmpOp.In)=false:=by cases op<;>first|rfl|exact absurd rfl h
  have e2:(op==CmpOp.NotIn)=false:=by cases op<;>first|rfl|exact absurd rfl h2
  cases b<;>simp[behindInMarks,e1,e2]
theorem RN{r:R2}(ho:qy X (compareOp op) r)(ha:PE X a ta)(hb:PE X b tb)(hm:behindInMarks op b=false):PE X (.Compare a [op] [b] pos) (YB r ta tb):=by intro pins s σ H Q I h;exact wpAny_Compare1 (VA ha hb I h fun v u s2 x y H2 I2 rx ry q=>ho pins s2 σ H2 x y v u Q I2 rx ry q) hm
def YH(t:TE):TT:=fun σ H Q=>t σ H fun x H'=>∃k,x=.bl k∧Q k H'
theorem RP{r:R2}(ho:qy X (compareOp op) r)(ha:PE X a ta)(hb:PE X b tb)(hm:behindInMarks op b=false):PT X (.Compare a [op] [b] pos) (YH (YB r ta tb)):=by
  intro pins s σ H Q I h;refine wpAny_isTrue_Compare1 (gx (ha pins s σ H _ I h) fun v s1 ⟨x,H1,I1,r1,q1⟩=>gx (hb pins s1 σ H1 _ I1 q1) fun u s2 ⟨y,H2,I2,r2,q2⟩ =>
    gx (ho pins s2 σ H2 x y v u _ I2 r1 r2 q2) fun c s3 ⟨z,H3,I3,r3,k,e,q3⟩=>?_) hm
  subst e;cases r3;exact wpAny_truthy_bool ⟨H3,I3,q3⟩
theorem Dv:(sizeLine:Nat)<2^63:=by rw[jc];decide
theorem vals1{x:V}(r:Vals [x] us):∃u,us=[u]∧RelV x u:=by
  cases r with
  |cons r1 r2=>cases r2;exact⟨_,rfl,r1⟩
theorem vals2{x y:V}(r:Vals [x,y] us):∃u w',us=[u,w']∧RelV x u∧RelV y w':=by
  cases r with
  |cons r1 r2 =>
   cases r2 with
   |cons r3 r4=>cases r4;exact⟨_,_,rfl,r1,r3⟩
theorem LB(hc:X.calm=true):qz X (.builtin "min") (fun xs H Q=>∃i j,xs=[.int i,.int j]∧Q (.int (if j<i then j else i)) H):=by
  intro pins s σ H xs us Q I r h;obtain⟨i,j,rfl,q⟩:=h;obtain⟨u,w',rfl,⟨t,rfl⟩,⟨t',rfl⟩⟩:=vals2 r;refine min_two_ints (I.ok.hd hc) fun h' tk k=>⟨_,H,I.kept k,?_,q⟩
  by_cases hj:j<i
  ·rw[ay hj,ay hj];exact⟨_,rfl⟩
  ·rw[aZ hj,aZ hj];exact⟨_,rfl⟩
end
structure RQ (h:Heap) (x dx C:Addr) (mA:Str→ni):Prop where
  obj:h.get? x=some (instObj C dx)
  ns:h.Ns1 dx mA
  ne:dx≠x
theorem LC{dx:Addr}{mA:Str→ni}(n:h.Ns1 dx mA):∃od,h.get? dx=some od∧∀name,lookIn name od=some (mA name):=by
  obtain⟨o,es,ep,ho,hd,hk,_,hm⟩:=n;refine⟨o,ho,fun name=>?_⟩;have e:=hm name;unfold nsFind findBy at e;rw[←Array.find?_toList] at e;unfold lookIn;rw[hd];dsimp only;split
  ·rename_i y q;rw[q] at e;exact il some e
  · rename_i q;rw[q] at e;have a:es.toList.any (·.refKey)=false:=by
      rw[List.any_eq_false];intro y hy;obtain⟨z,t,VR⟩:=hk y (Array.mem_toList_iff.mp hy);simp[DictEntry.refKey,VR]
    have a':¬ es.toList.any (·.refKey)=true:=by rw[a];exact jx
    rw[aZ a'];exact il some e
theorem RQ.look{x dx:Addr}{mA:Str→ni}(I:RQ h x dx C mA):∃od,PySem.W.InstAt h x (instObj C dx) C (some od)∧∀name,lookIn name od=some (mA name) :=
  let ⟨od,ho,hl⟩:=LC I.ns
  ⟨od,⟨I.obj,rfl,rfl,ho⟩,hl⟩
section
variable {prog:Program} {w:World} {A:Around} {E:nD} {s:Shared} {K:PySem.W.Frag} {x dx C f:Addr} {mA:Str→ni} {name:Str} {v:Value}
theorem NR{Q:Value×dO→Shared→Prop}(X:K.In s.heap)(I:RQ s.heap x dx C mA)(hg:plainGet K C name=true)(hf:PySem.W.findIn K (.ref C) name=some (some (.ref f)))(ht:isFn K (.ref f)=true)(hv:mA name=none)(h:Q (.ref f,[.ref x]) s):wpAny (model prog w) A (getMethod (.ref x) name pl) Q E s:=by
  obtain⟨od,J,hl⟩:=I.look;exact PySem.W.method_fn X J (plainGet_of hg).1 (plainGet_of hg).2 hf (beq_iff_eq.mp ht) (by show(lookIn name od).map (·.isSome)=some false;rw[hl,hv];rfl) h
theorem LD{R:Result→Shared→Prop}(X:K.In s.heap)(hm:makesIn K C=true)(hi:PySem.W.findIn K (.ref C) "__init__"=some (some (.builtin "object.__init__")))(hb:∀self,PySem.W.Looks (model prog w) s.heap (bindSpecial (.builtin "object.__init__") self) (.builtin "object.__init__",[self]))(h:codeAny (model prog w) (A.under (.builtin "type.__call__" ⟨[.ref C],[]⟩)) (.call (.builtin "object.__init__") ⟨[.ref (s.heap.objs.size+1)],[]⟩) (PySem.W.InitBack (s.heap.objs.size+1) R) { s with heap:=(s.heap.push emptyDict).push (instObj C s.heap.objs.size) }):codeAny (model prog w) A (.call (.ref C) ⟨[],[]⟩) R s:=by
  obtain⟨hh,g,d,t,os⟩:=s;exact PySem.W.make_core (makes_of X hm) (PySem.W.looks_findIn X hi) hb (.inr ⟨rfl,rfl⟩) h
end
theorem tf.some_of{v:V}{o:ni}(r:tf (some v) o):∃u,o=some u∧RelV v u:=by
  cases o with
  |none=>exact(show False from r).elim
  |some u=>exact⟨u,rfl,r⟩
theorem tf.none_of{o:ni}(r:tf none o):o=none:=by
  cases o with
  |none=>rfl
  |some u=>exact(show False from r).elim
section
variable {P:Program} {w:World} {H H':Hp} {h h':Heap} {a C dx:Addr} {fs fs':List (Str×V)}
theorem JL(cZ:t8 P w H h)(e:H a=some (.ins C dx fs)):∃mA,RQ h a dx C mA∧(∀f,tf (fs.lookup f) (mA f))∧PySem.Within mA (fs.map (·.1))∧fs.length≤1000∧H dx=some (.own a):=by
  obtain⟨d,z,ne,ob,mA,n,r,q⟩:=(show cx P w H h a (.ins C dx fs) from cZ a _ e)
  exact⟨mA,⟨ob,n,ne⟩,r,q,z,d⟩
end
structure Rl (K:PySem.W.Frag) (C:Addr):Prop where
  pg:plainGet K C Str.empty=true
  hd:hasDictIn K C=true
  po:plainOver K C=true
  sa:PySem.W.findIn K (.ref C) "__setattr__"=some (some (.builtin "object.__setattr__"))
theorem Rl.get(c:Rl K C)(f:Str):plainGet K C f=true:=c.pg
structure Con (K:PySem.W.Frag) (C:Addr) (f:Str) (v:V) (u:Value):Prop where
  at_:PySem.W.findIn K (.ref C) f=some (some u)
  rel:RelV v u
  get:PySem.W.specialIn K u "__get__"=some none
  cp:PySem.W.copiedNames.contains f=false
structure Meth (K:PySem.W.Frag) (C:Addr) (m:Str) (f:Addr):Prop where
  at_:PySem.W.findIn K (.ref C) m=some (some (.ref f))
  fn:isFn K (.ref f)=true
  kp:keepIn K (.ref f)=true
section
variable {X:Cx} {pins:kJ} {σ:St} {H:Hp} {s:Shared} {a C dx:Addr} {fs:List (Str×V)} {f:Str} {v:V} {A:Around} {E:nD}
theorem HB{m:Str}{g:Addr}{Q:Value×dO→Shared→Prop}(I:Inv X pins σ H s)(e:H a=some (.ins C dx fs))(c:Rl X.K C)(k:Meth X.K C m g)(l:fs.lookup m=none)(h:Q (.ref g,[.ref a]) s):wpAny (model X.prog X.w) A (getMethod (.ref a) m pl) Q E s:=by
  obtain⟨mA,O,r,_,_,_⟩:=JL I.cZ e;have hn:mA m=none:=tf.none_of (by rw[←l];exact r m);exact NR I.xB O (c.get m) k.at_ k.fn hn h
theorem Inv.made(I:Inv X pins σ H s):Inv X pins σ (upd (upd H s.heap.objs.size (.own (s.heap.objs.size+1))) (s.heap.objs.size+1) (.ins C s.heap.objs.size [])) { s with heap:=(s.heap.push emptyDict).push (instObj C s.heap.objs.size) }:=by
  have e1:(s.heap.push emptyDict).get? s.heap.objs.size=some emptyDict:=iu s.heap rfl;have e2:((s.heap.push emptyDict).push (instObj C s.heap.objs.size)).get? (s.heap.objs.size+1)=some (instObj C s.heap.objs.size):=by have:=iu (s.heap.push emptyDict) (o:=instObj C s.heap.objs.size) rfl;rwa[Heap.size_push] at this
  have e3:(s.heap.push emptyDict).Ns s.heap.objs.size (fun _=>none):=⟨emptyDict,#[],_,e1,rfl,(fun e he=>absurd he (by simp)),fun _=>rfl⟩
  have I1:=I.laid (a:=s.heap.objs.size) (o:=.own (s.heap.objs.size+1)) (h':=s.heap.push emptyDict) (t':=s.toks) (fun b u q=>eu _ q) (cw _) ⟨_,e1⟩;refine I1.laid (a:=s.heap.objs.size+1) (o:=.ins C s.heap.objs.size []) (t':=s.toks) (fun b u q=>eu _ q) (Nat.le_of_eq (Heap.size_push _ _)) ?_;have ne:s.heap.objs.size≠s.heap.objs.size+1:=fV (Nat.lt_succ_self _);refine⟨by rw[aK ne,aL],sZ _,ne,e2,fun _=>none,(Heap.Ns1.of_empty e3).at fun o q=>eu _ q,fun _=>True.intro,fun y hy=>absurd rfl hy⟩
end
section
variable {X:Cx} {o e value:Expr} {f:Str} {pos pos' abV:Pos} {ta tv:TE}
theorem FJ{m:Str}{apos:Pos}{args:List Expr}{σ:St}{H:Hp}{te:TE}(he:PE X e te)(I:Inv X pins σ H s)(h:te σ H fun x H1=>∃a C dx fs g,x=.ref a∧H1 a=some (.ins C dx fs)∧Rl X.K C∧Meth X.K C m g∧fs.lookup m=none∧∀s1,Inv X pins σ H1 s1→wpAny (model X.prog X.w) X.A (callWith pos (.ref g) [.ref a] (backTo pos (starEach args X.env)) (backToKw pos (keywordEach [] X.env))) Q X.xe s1)(ht:eval (.Call (.Attribute e m apos) args [] pos) X.env=(do
      let ov ←eval e X.env
      standAt apos.atName
      let (f,first) ←holding [ov] (getMethod ov m pl)
      callWith pos f first (backTo pos (starEach args X.env)) (backToKw pos (keywordEach [] X.env)))):wpAny (model X.prog X.w) X.A (eval (.Call (.Attribute e m apos) args [] pos) X.env) Q X.xe s:=by
  refine PySem.W.methodCall_KW (pl:=pl) (gx (he pins s σ H _ I h) fun u s1 hh=>?_) ht;obtain⟨x,H1,I1,rx,a,C,dx,fs,g,ex,ea,c,k,l,q⟩:=hh;subst ex;obtain rfl:u=Value.ref a:=rx;exact HB I1 ea c k l (q s1 I1)
end
section
variable {X:Cx} {pins:kJ} {σ:St} {H:Hp} {s:Shared} {A:Around} {E:nD} {Q:nD} {c:Value} {b:Bool}
inductive t9 (K:PySem.W.Frag) (H:Hp):V→Value→Prop where
  |non:t9 K H .non (.type "NoneType")
  |bl (x:Bool):t9 K H (.bl x) (.type "bool")
  |int (i:Int):t9 K H (.int i) (.type "int")
  |str (x:Str):t9 K H (.str x) (.type "str")
  |XM (x:UInt64):t9 K H (.XM x) (.type "float")
  |lst {a:Addr} {xs:List V} (e:H a=some (.lst xs)):t9 K H (.ref a) (.type "list")
  |t7 {a:Addr} {o:Obj} {xs:List V} (e:H a=some (.t7 o (.lst xs))):t9 K H (.ref a) (.type "list")
  |kl {a:Addr} {o:Obj} (hk:K.lookup a=some o) (hc:o.cls=.type "list"):t9 K H (.ref a) (.type "list")
  |tup {a:Addr} {xs:List V} (e:H a=some (.tup xs)):t9 K H (.ref a) (.type "tuple")
  |dK {a:Addr} {aX:List (Key×V)} (e:H a=some (.dK aX)):t9 K H (.ref a) (.type "dict")
  |dT {a:Addr} {aX:List (List Key×V)} (e:H a=some (.dT aX)):t9 K H (.ref a) (.type "dict")
  |ins {a C dx:Addr} {fs:List (Str×V)} (e:H a=some (.ins C dx fs)) (cl:Rl K C) (ha:PySem.W.findIn K (.ref C) "__class__"=some (some (.builtin "object.__class__")))
      (hn:PySem.W.specialIn K (.builtin "object.__class__") "__get__"=some (some (.builtin "getset_descriptor.__get__"))) (htk:PySem.W.takesIn K (.builtin "object.__class__")=some true)
      (hm:PySem.W.mroIn K C (.type "object")=some true):t9 K H (.ref a) (.ref C)
theorem LG{x:V}{t:Value}(I:Inv X pins σ H s)(rx:RelV x u)(ty:t9 X.K H x t)(e:kitOne X.K t c=some b)(h:∀tk,Q (.bool b) { s with toks:=tk }):wpAny (model X.prog X.w) A (call (.builtin "isinstance") [u,c]) Q E s:=by
  cases ty with
  |non=>cases(show u=Value.none from rx);exact xV PySem.W.kitx_none I.xB True.intro e (fun z=>nomatch z) h
  |bl y=>cases(show u=Value.bool y from rx);exact xV PySem.W.kitx_bool I.xB True.intro e (fun z=>nomatch z) h
  |int i=>obtain⟨t,q⟩:=(show ∃t,u=Value.int i t from rx);cases q;exact xV PySem.W.kitx_int I.xB True.intro e (fun z=>nomatch z) h
  |str y=>obtain⟨t,q⟩:=(show ∃t,u=Value.str y t from rx);cases q;exact xV PySem.W.kitx_str I.xB True.intro e (fun z=>nomatch z) h
  |XM y=>obtain⟨t,q⟩:=(show ∃t,u=Value.float y t from rx);cases q;exact xV PySem.W.kitx_float I.xB True.intro e (fun z=>nomatch z) h
  |@lst a xs ea =>
   cases(show u=Value.ref a from rx);obtain⟨_,_,n,_,h1⟩:=(show cx X.prog X.w H s.heap a (.lst xs) from I.cZ a _ ea)
   exact xV kitx_list I.xB ⟨_,h1,rfl⟩ e (fun z=>nomatch z) h
  |@t7 a ob xs ea =>
   cases(show u=Value.ref a from rx);obtain⟨_,_,_,n,_,h1⟩:=(show cx X.prog X.w H s.heap a (.t7 ob (.lst xs)) from I.cZ a _ ea)
   exact xV kitx_list I.xB ⟨_,h1,rfl⟩ e (fun z=>nomatch z) h
  |@kl a o hk hc=>cases(show u=Value.ref a from rx);exact xV kitx_list I.xB ⟨o,I.xB a o hk,hc⟩ e (fun z=>nomatch z) h
  |@tup a xs ea =>
   cases(show u=Value.ref a from rx);obtain⟨_,_,_,p⟩:=(show cx X.prog X.w H s.heap a (.tup xs) from I.cZ a _ ea)
   obtain⟨o,h1,h2,_⟩:=p;exact xV PySem.W.kitx_tuple I.xB ⟨o,h1,h2⟩ e (fun z=>nomatch z) h
  |@dK a aX ea =>
   cases(show u=Value.ref a from rx);obtain⟨_,_,vs,_,p⟩:=(show cx X.prog X.w H s.heap a (.dK aX) from I.cZ a _ ea)
   obtain⟨o,es,ep,h1,h2,_⟩:=p;exact xV kitx_dict I.xB ⟨o,h1,h2.1⟩ e (fun z=>nomatch z) h
  |@dT a aX ea =>
   cases(show u=Value.ref a from rx);obtain⟨_,_,xs,_,o,es,ep,h1,h2,_⟩:=(show cx X.prog X.w H s.heap a (.dT aX) from I.cZ a _ ea)
   exact xV kitx_dict I.xB ⟨o,h1,h2.1⟩ e (fun z=>nomatch z) h
  |@ins a C dx fs ea cl ha hn htk hm=>cases(show u=Value.ref a from rx);obtain⟨mA,O,_⟩:=JL I.cZ ea;obtain⟨od,J,_⟩:=O.look;exact xV (PySem.W.kitx_own (cl.get _) cl.hd ha hn htk hm) I.xB J e (fun z=>nomatch z) h
end
structure fI (k:Nat) (A:Around):Prop where
  hd:A.handled=none
  dp:A.depth+3*k+5<recursionLimit
  un:A.units+16*k+200<cLine
theorem fI.mono(r:fI k A)(h:j≤k):fI j A:=⟨r.hd,by have:=r.dp;omega,by have:=r.un;omega⟩
theorem fI.deeper(r:fI (k+1) A)(env:Env):fI k (A.deeper env) :=
  ⟨r.hd,by have:=r.dp;show A.depth+1+3*k+5<_;omega,by have:=r.un;show A.units+3+16*k+200<_;omega⟩
theorem fI.in1(r:fI (k+1) A):fI k A.in1 :=
  ⟨r.hd,by have:=r.dp;show A.depth+3*k+5<_;omega,by have:=r.un;show A.units+1+16*k+200<_;omega⟩
theorem fI.depth(r:fI k A):A.depth<recursionLimit:=by have:=r.dp;omega
theorem fI.units(r:fI k A):A.units+64<cLine:=by have:=r.un;omega
def abW:TA:=fun _ H Q=>Q [] H
def YJ(ta:TE)(tr:TA):TA:=fun σ H Q=>ta σ H fun x H1=>tr σ H1 fun xs H2=>Q (x::xs) H2
section
variable {X:Cx} {e:Expr} {es:List Expr} {te:TE} {t:TA} {pos:Pos}
theorem kM:PA X [] abW:=fun _ _ _ _ H Q I h=>Calls.spliced_nil ⟨[],H,I,.nil,h⟩
theorem fj(ha:PE X e te)(hr:PA X es t)(hs:starEach (e::es) X.env=(false,eval e X.env)::starEach es X.env:=by rfl):PA X (e::es) (YJ te t):=by intro pos pins s σ H Q I h;rw[hs];show wpAny _ _ (spliced ((false,eval e X.env)::backTo pos (starEach es X.env))) _ _ s;refine Dk (gx (ha pins s σ H _ I h) fun u s1 ⟨x,H1,I1,r1,q1⟩=>?_);exact gx (hr pos pins s1 σ H1 _ I1 q1) fun us s2 ⟨xs,H2,I2,r2,q2⟩=>⟨x::xs,H2,I2,.cons r1 r2,q2⟩
def abX(t:TA):TE:=fun σ H Q=>t σ H fun xs H1=>xs.length≤sizeLine∧∀p,H1 p=none→Q (.ref p) (upd H1 p (.tup xs))
def abY(t:TA):TE:=fun σ H Q=>t σ H fun xs H1=>xs.length≤sizeLine∧∀p,H1 p=none→Q (.ref p) (upd H1 p (.lst xs))
theorem NT{x1}(h:PA X es t):PE X (.Tuple es x1 pos) (abX t):=by intro pins s σ H Q I hq;refine wpAny_Tuple_spliced (gx (h pos pins s σ H _ I hq) fun us s1 ⟨xs,H1,I1,r,z,q⟩=>⟨by rw[←r.length];exact z,?_⟩);have hf:H1 s1.heap.objs.size=none:=I1.cZ.fresh (cw _);refine⟨.ref s1.heap.objs.size,upd H1 s1.heap.objs.size (.tup xs),I1.laid (t':=s1.toks) (fun b u e=>eu _ e) (cw _) ?_,rfl,q _ hf⟩;exact⟨z,us,r,⟨_,iu _ rfl,rfl,_,rfl⟩⟩
theorem VW(h:PA X es t):PE X (.List es pos) (abY t):=by intro pins s σ H Q I hq;refine wpAny_List_spliced (gx (h pos pins s σ H _ I hq) fun us s1 ⟨xs,H1,I1,r,z,q⟩=>⟨by rw[←r.length];exact z,?_⟩);have hf:H1 s1.heap.objs.size=none:=I1.cZ.fresh (cw _);refine⟨.ref s1.heap.objs.size,upd H1 s1.heap.objs.size (.lst xs),I1.laid (t':=s1.toks) (fun b u e=>eu _ e) (cw _) ?_,rfl,q _ hf⟩;exact⟨z,us,0,r,iu _ rfl⟩
end
abbrev Sp:=List V→Hp→VK→XK→Prop
abbrev LH:=List Env→Hp→Shared→XK→nD
structure HC (P:Program) (w:World) (K:PySem.W.Frag) (mg:Str→ni) (base:Heap) (A:Around) (outer:List Env) (s:Shared) (H:Hp):Prop where
  frames:A.frames=some outer
  mod:Mod K mg base
  bs:∀b o,base.get? b=some o→s.heap.get? b=some o∧H b=none
  Uv:base.objs.size≤s.heap.objs.size
  xY:s.heap.FunFrames base outer
  Vl:∀b∈Lp outer,H b=none
  cZ:t8 P w H s.heap
  bare:AllBare s.gens
def CE(outer:List Env)(P:Program)(w:World)(H:Hp)(s:Shared)(Q:VK)(u:Value)(s':Shared):Prop :=
  ∃v H',s'.os=s.os∧AllBare s'.gens∧Un (Lp outer) [] H H' s.heap s'.heap∧t8 P w H' s'.heap∧RelV v u∧Q v H'
def CR(CX:LH)(outer:List Env)(P:Program)(w:World)(H:Hp)(s:Shared)(Q:VK)(E:XK)(r:Result)(s':Shared):Prop :=
  match r with
  |.ok (.ret u)=>CE outer P w H s Q u s'
  |.ok _=>False
  |.error e=>CX outer H s E e s'
structure cG (P:Program) (w:World) (K:PySem.W.Frag) (mg:Str→ni) (base:Heap) (CX:LH) (k:Nat) (f:Addr) (fd:FuncData) (ps:gs) (sp:Sp):Prop where
  len:∀vs H Q E,sp vs H Q E→vs.length=ps.length
  run:∀(A:Around) (outer:List Env) (s:Shared) (H:Hp) (args:Args) (us:dO) (vs:List V) (Q:VK) (E:XK),fI k A→HC P w K mg base A outer s H→BindsTo s fd args (ps.zip us)→Vals vs us→sp vs H Q E →
    codeAny (model P w) A (.call (.ref f) args) (CR CX outer P w H s Q E) s
theorem cG.imp{base:Heap}{CX:LH}{f:Addr}{ps:gs}{sp sp':Sp}(F:cG P w K mg base CX k f fd ps sp)(h:∀vs H Q E,sp' vs H Q E→sp vs H Q E):cG P w K mg base CX k f fd ps sp' :=
  ⟨fun vs H Q E q=>F.len vs H Q E (h _ _ _ _ q),fun A outer s H args us vs Q E hr he hb hv hs=>F.run A outer s H args us vs Q E hr he hb hv (h _ _ _ _ hs)⟩
section
variable {X:Cx} {pins:kJ} {σ:St} {H:Hp} {s s':Shared}
theorem Inv.NV(I:Inv X pins σ H s):HC X.prog X.w X.K X.mg X.base X.A X.stack s H :=
  ⟨I.ok.frames,I.ok.mod,I.bs,oQ I.ok.Uv I.sz,I.stack,I.JB,I.cZ,I.bare⟩
theorem Inv.after{Q:VK}(I:Inv X pins σ H s)(h:CE X.stack X.prog X.w H s Q u s'):EP X pins σ Q u s':=by obtain⟨v,H',os,bare,un,cZ,r,q⟩:=h;obtain⟨hh,g,d,t,YK⟩:=s';obtain rfl:YK=s.os:=os;exact⟨v,H',I.call (h':=hh) (g':=g) (d':=d) (t':=t) (ch:=[]) un cZ bare (fun b z=>absurd z (by simp)),r,q⟩
end
def UB(sp:Sp)(dvs:List V)(E:XK)(t:TA):TE:=fun σ H Q=>t σ H fun vs H1=>sp (vs++dvs) H1 Q E
def Binds(K:PySem.W.Frag)(fd:FuncData)(ps:gs)(ds:dO):Prop :=
  ∀(s:Shared) (us:dO),K.In s.heap→(us++ds).length=ps.length→BindsTo s fd ⟨us,[]⟩ (ps.zip (us++ds))
theorem Binds.all{ps:gs}(h:∀us:dO,us.length=ps.length→bindArgs fd ⟨us,[]⟩=pure (ps.zip us)):Binds K fd ps []:=fun s us _ hl=>by rw[uE] at hl⊢;exact .of_eq (h us hl)
def Passes(CX:LH)(X:Cx)(E:XK):Prop:=∀(pins:kJ) (σ:St) (H:Hp) (s:Shared) (e:Value) (s':Shared),Inv X pins σ H s→CX X.stack H s E e s'→X.xe e s'
section
variable {X:Cx} {CX:LH} {k:Nat} {f C:Addr} {fd:FuncData} {ps:gs} {sp:Sp} {dvs:List V} {ds:dO} {E:XK} {x m:Str} {p pos apos:Pos} {e o:Expr} {es:List Expr} {ta:TE} {t:TA}
theorem NW{σ:St}{H:Hp}{Q:VK}{vs:List V}(F:cG X.prog X.w X.K X.mg X.base CX k f fd ps sp)(hr:fI k X.A)(hb:Binds X.K fd ps ds)(hd:Vals dvs ds)(hx:Passes CX X E)(I:Inv X pins σ H s)(r:Vals vs us)(h:sp (vs++dvs) H Q E):wpAny (model X.prog X.w) X.A (call (.ref f) us) (EP X pins σ Q) X.xe s:=by
  have r2:Vals (vs++dvs) (us++ds):=r.append hd;have hl:(us++ds).length=ps.length:=by rw[←r2.length];exact F.len _ _ _ _ h
  refine wpAny_call (codeAny_mono (F.run X.A X.stack s H ⟨us,[]⟩ (us++ds) (vs++dvs) Q E hr I.NV (hb s us I.xB hl) r2 h) fun r s' hq=>?_);cases r with
  |error e=>exact hx pins σ H s e s' I hq
  |ok fl =>
   cases fl with
   |ret u=>exact I.after hq
   |next=>exact False.elim hq
   |brk=>exact False.elim hq
   |cont=>exact False.elim hq
theorem RT(F:cG X.prog X.w X.K X.mg X.base CX k f fd ps sp)(hr:fI k X.A)(hg:Gl X x)(hm:X.mg x=some (.ref f))(hk:keepIn X.K (.ref f)=true)(hb:Binds X.K fd ps ds)(hd:Vals dvs ds)(hx:Passes CX X E)(ha:PA X (e::es) t)(ti:(x==("__debug__":Str))=false:=by decide)(he:starEach (e::es) X.env=(false,eval e X.env)::starEach es X.env:=by rfl)(tj:(backTo pos (starEach es X.env)).any (·.1)=false:=by rfl):PE X (.Call (.Name x p) (e::es) [] pos) (UB sp dvs E t):=by
  intro pins s σ H Q I h;refine v8 (sx I hg hm ?_ ti);refine callWith_K (h₀:=X.base) I.ok.mod.kin hk (gx (ha pos pins s σ H _ I h) fun us s1 ⟨vs,H1,I1,r,q⟩=>⟨I1.xB,?_⟩) he tj;exact NW F hr hb hd hx I1 r q
structure Mk (K:PySem.W.Frag) (C f:Addr):Prop where
  makes:makesIn K C=true
  init:PySem.W.findIn K (.ref C) "__init__"=some (some (.ref f))
  fn:isFn K (.ref f)=true
  kp:keepIn K (.ref C)=true
end
section
variable {X:Cx} {CX:LH} {k:Nat} {f C:Addr} {fd:FuncData} {ps ks:gs} {sp:Sp} {E:XK} {x m:Str} {p pos apos ahz:Pos} {e o:Expr} {es:List Expr} {kws:List Keyword} {te ta:TE} {t tk:TA} {nm:Option Str}
structure abZ (K:PySem.W.Frag) (fd:FuncData) (ps ks:gs) (g:dO→dO→dO) (gV:List V→List V→List V):Prop where
  to:∀(s:Shared) (us ws:dO),K.In s.heap→(g us ws).length=ps.length→BindsTo s fd ⟨us,ks.zip ws⟩ (ps.zip (g us ws))
  rel:∀{vs:List V} {us:dO} {zs:List V} {ws:dO},Vals vs us→Vals zs ws→Vals (gV vs zs) (g us ws)
variable {g:dO→dO→dO} {gV:List V→List V→List V}
end
structure aV (N P:gs) (sc:Scope):Prop where
  kind:sc.kind=.function
  co:sc.isCoroutine=false
  gen:sc.isGenerator=false
  nd:N.Nodup
  pre:N.take P.length=P
  par:∀x∈P,sc.names.lookup x=some .local∨sc.names.lookup x=some .cell
  VX:∀y∈sc.names,y.2≠.free
theorem B1{kindOf:Str→Option NameKind}{x:Str}:∀{binds:List (Str×Value)} {m:Str→ni},(∀v,(x,v)∉binds)→bindL kindOf binds m x=m x
  |[],_,_=>rfl
  |(n,v)::r,m,h=>by
   unfold bindL;rw[B1 fun w hw=>h w (ly _ hw)];split
   · have:x≠n:=by rintro rfl;exact h v cY
     simp[this]
   ·rfl
theorem B2{kindOf:Str→Option NameKind}{x:Str}:∀{binds:List (Str×Value)} {m:Str→ni},(∀v,(x,v)∉binds)→bindC kindOf binds m x=m x
  |[],_,_=>rfl
  |(n,v)::r,m,h=>by
   unfold bindC;rw[B2 fun w hw=>h w (ly _ hw)];split
   ·rfl
   · have:x≠n:=by rintro rfl;exact h v cY
     simp[this]
theorem B3{kindOf:Str→Option NameKind}{x:Str}{v:Value}:∀{P:gs} {vs:dO} {i:Nat} {m:Str→ni},P.Nodup→P[i]?=some x→vs[i]?=some v→kindOf x=some .local→bindL kindOf (P.zip vs) m x=some v
  |[],_,_,_,_,h,_,_=>by simp at h
  |_::_,[],_,_,_,_,h,_=>by simp at h
  |p::P,w::vs,0,m,nd,h1,h2,hk=>by simp at h1 h2;subst h1;subst h2;show bindL kindOf ((p,w)::P.zip vs) m p=_;unfold bindL;rw[B1 fun v hv=>(yH.mp nd).1 (List.of_mem_zip hv).1,ay hk];simp
  |p::P,w::vs,i+1,m,nd,h1,h2,hk=>by show bindL kindOf ((p,w)::P.zip vs) m x=_;unfold bindL;exact B3 (i:=i) (yH.mp nd).2 (by simpa using h1) (by simpa using h2) hk
theorem B4{kindOf:Str→Option NameKind}{x:Str}{v:Value}:∀{P:gs} {vs:dO} {i:Nat} {m:Str→ni},P.Nodup→P[i]?=some x→vs[i]?=some v→kindOf x≠some .local→bindC kindOf (P.zip vs) m x=some v
  |[],_,_,_,_,h,_,_=>by simp at h
  |_::_,[],_,_,_,_,h,_=>by simp at h
  |p::P,w::vs,0,m,nd,h1,h2,hk=>by simp at h1 h2;subst h1;subst h2;show bindC kindOf ((p,w)::P.zip vs) m p=_;unfold bindC;rw[B2 fun v hv=>(yH.mp nd).1 (List.of_mem_zip hv).1,aZ hk];simp
  |p::P,w::vs,i+1,m,nd,h1,h2,hk=>by show bindC kindOf ((p,w)::P.zip vs) m x=_;unfold bindC;exact B4 (i:=i) (yH.mp nd).2 (by simpa using h1) (by simpa using h2) hk
def start(N:gs)(vs:List V):St:=vs.map some++List.replicate (N.length-vs.length) none
def x4(CX:LH)(P:Program)(w:World)(K:PySem.W.Frag)(mg:Str→ni)(base:Heap)(N:gs)(qual:Str)(scope:Scope)(f:Addr)(cd:Value)(A:Around)(outer:List Env)(s:Shared)(H:Hp)(E:XK):Cx where
  prog:=P
  w:=w
  K:=K
  mg:=mg
  base:=base
  A:=A.deeper (envOfC qual scope s.heap.objs.size f cd)
  N:=N
  s₀:=s
  H₀:=H
  env:=envOfC qual scope s.heap.objs.size f cd
  outer:=outer
  stack:=envOfC qual scope s.heap.objs.size f cd::outer
  ex:=[]
  calm:=true
  fn:=fun _=>true
  pn:=[]
  xe:=fun e s'=>wpAny (model P w) (A.deeper (envOfC qual scope s.heap.objs.size f cd)) (leaving (envOfC qual scope s.heap.objs.size f cd) e) (fun _ qQ=>CX outer H s E e qQ) (fun e' qQ=>CX outer H s E e' qQ) s'
theorem FK{sc:Scope}(h:sc.names.lookup x=some .cell):∃c,(cellsFrom n sc.names []).lookup x=some c:=by have q:=cellsFrom_some sc.names n [] (.inl h);exact Option.isSome_iff_exists.mp q
theorem B5{CX:LH}{base:Heap}{ps:gs}{f:Addr}{cd:Value}{outer:List Env}{s1:Shared}{H:Hp}{E:XK}{vs:List V}(S:aV N ps scope)(hd:A.handled=none)(e0:HC P w K mg base A outer s H)(hl:vs.length=ps.length)(r:Vals vs us)(x:InCallC s s.heap.objs.size (bindL (envOfC qual scope s.heap.objs.size f cd).kindOf (ps.zip us) fun _=>none) (cellsFrom (s.heap.objs.size+1) scope.names []) (bindC (envOfC qual scope s.heap.objs.size f cd).kindOf (ps.zip us) fun _=>none) s1):Inv (x4 CX P w K mg base N qual scope f cd A outer s H E) [] (start N vs) H s1:=by
  have tj:ps.length≤N.length:=by have:=il List.length S.pre;rw[Dl] at this;omega
  obtain⟨h1,tk,rfl,hk⟩:=x.done;have YL:∀b:Addr,b∉(x4 CX P w K mg base N qual scope f cd A outer s H E).ex:=fun b z=>absurd (show b∈([]:List Addr) from z) (by simp);refine⟨⟨e0.mod,S.kind,rfl,rfl,cw _,fun y z c h1 h2=>?_,fun y hy=>?_,fun y c _ h=>?_,fun _=>hd,Around.frames_deeper e0.frames,.inr ⟨rfl,rfl⟩,fun b z=>absurd z (YL b),e0.bs,e0.Uv,fun b _ _=>YL b,fun b z=>absurd z (YL b),e0.xY,e0.Vl⟩,
    rfl,e0.bare,Un.kept hk,⟨_,x.toInCall.ns,fun i y v h1 h2 h3=>?_⟩,fun y c h=>⟨_,x.cell y c h⟩,e0.cZ.fresh (cw _),fun y c h=>?_,fun p hp=>absurd (show p∈([]:kJ) from hp) (by simp),e0.cZ.kept hk,?_⟩
  ·exact name_of_addr x.apart (PySem.mem_of_lookup h1) (PySem.mem_of_lookup h2)
  · have hy:scope.names.lookup y=some .cell∨scope.names.lookup y=some .free:=hy;rcases hy with hy|hy
    ·exact FK hy
    ·exact absurd rfl (S.VX _ (PySem.mem_of_lookup hy))
  ·exact Nat.le_of_lt (x.above y c (PySem.mem_of_lookup h))
  · have hi:i<vs.length:=by
      unfold start at h2;by_cases hi:i<vs.length
      ·exact hi
      ·rw[Fu (by simpa using hi)] at h2;rw[List.getElem?_replicate] at h2;split at h2<;>cases h2
    have ha:vs[i]?=some v:=by
      unfold start at h2;rw[List.getElem?_append_left (by simpa using hi),qH] at h2;cases e:vs[i]? with
      |none=>rw[e] at h2;cases h2
      |some a=>rw[e] at h2;cases h2;rfl
    obtain⟨u,hu,rv⟩:=r.get ha;have hp:ps[i]?=some y:=by rw[←S.pre,List.getElem?_take_of_lt (by omega)];exact h1
    have ndP:ps.Nodup:=by rw[←S.pre];exact S.nd.sublist (List.take_sublist _ _)
    refine⟨u,rv,?_⟩;rcases S.par y (List.mem_of_getElem? hp) with k|k
    ·exact .inl ⟨k,B3 ndP hp hu k⟩
    ·obtain⟨c,e⟩:=FK (n:=s.heap.objs.size+1) k;refine .inr ⟨.inl k,c,e,?_⟩;have q:=x.cell y c e;rw[B4 ndP hp hu (by show scope.names.lookup y≠_;rw[k];decide)] at q;exact q
  ·exact e0.cZ.fresh (Nat.le_of_lt (x.above y c (PySem.mem_of_lookup h)))
  ·unfold start;show _=N.length;rw[kK,g9,List.length_replicate];omega
theorem UC{CX:LH}{base:Heap}{f:Addr}{name:Str}{body:List Stmt}{dV kV doc eR:Value}{ps:gs}{sp:Sp}(lk:K.lookup f=some ⟨oc,od,.func (fnOf name qual params body scope dV kV doc pm an eR ct),Np⟩)(oA:codeIn K eR qual=true)(S:aV N ps scope)(len:∀vs H Q E,sp vs H Q E→vs.length=ps.length)(yL:∀(A:Around) (outer:List Env) (s:Shared) (H:Hp) (vs:List V) (Q:VK) (E:XK),fI k (A.deeper (envOfC qual scope s.heap.objs.size f eR))→sp vs H Q E→∃t,Bg (x4 CX P w K mg base N qual scope f eR A outer s H E) body t∧t { nx:=fun _ H'=>Q .non H',rt:=Q } (start N vs) H):cG P w K mg base CX (k+1) f (fnOf name qual params body scope dV kV doc pm an eR ct) ps sp:=by
  refine⟨len,fun A outer s H args us vs Q E hr e0 hb r UD=>?_⟩;have hl:=len _ _ _ _ UD;have KX:K.In s.heap:=e0.mod.kin.keeps fun b o e=>(e0.bs b o e).1;have lim:s.heap.NoLimit:=e0.mod.nolimit.keeps fun b o e=>(e0.bs b o e).1;have NX:∀y∈ps.zip us,scope.names.lookup y.1=some .local∨(scope.names.lookup y.1=some .cell∧((cellsFrom (s.heap.objs.size+1) scope.names []).lookup y.1).isSome=true):=fun⟨n,v⟩ hy=>by
    rcases S.par n (List.of_mem_zip hy).1 with q|q
    ·exact .inl q
    ·exact .inr ⟨q,cellsFrom_some _ _ _ (.inl q)⟩
  refine codeAny_call_function hr.depth (KX _ _ lk) rfl S.co S.gen rfl (PySem.W.codeRec_of KX oA) (hb _ _ _ _ ?_);refine wpAny_newFunctionEnv_cells S.kind NX fun env he s1 x=>?_;subst he;refine⟨lim.keeps x.toInCall.keep,codeAny_func ?_⟩;obtain⟨t,ht,hq⟩:=yL A outer s H vs Q E (hr.deeper _) UD;have I:Inv (x4 CX P w K mg base N qual scope f eR A outer s H E) [] (start N vs) H s1:=B5 S hr.hd e0 hl r x;refine mY (ht [] s1 (start N vs) H _ I hq) (fun fl s' hs=>?_) fun e s' hs=>hs;have fin:∀{σ':St} {H':Hp} {v:V} {u:Value},Inv (x4 CX P w K mg base N qual scope f eR A outer s H E) [] σ' H' s'→RelV v u→Q v H'→CE outer P w H s Q u s' :=
    fun {σ' H' v u} J rv q=>⟨v,H',J.os,J.bare,J.base,J.cZ,rv,q⟩
  cases fl with
  |ret u=>obtain⟨v,σ',H',J,rv,q⟩:=hs;exact fin J rv q
  |next=>obtain⟨σ',H',J,q⟩:=hs;exact fin (v:=V.non) (u:=Value.none) J rfl q
  |brk=>obtain⟨_,_,_,q⟩:=hs;exact False.elim q
  |cont=>obtain⟨_,_,_,q⟩:=hs;exact False.elim q
section
variable {X:Cx} {x:Str} {p pos:Pos} {e:Expr} {es:List Expr} {t:TA} {id T:String} {r:List V→Hp→VK→Prop}
def tCB(r:List V→Hp→VK→Prop)(t:TA):TE:=fun σ H Q=>t σ H fun vs H1=>r vs H1 Q
theorem qR(hc:qz X (.builtin id) r)(hg:Gl X x)(hm:X.mg x=none)(hv:bootBuiltins x=some (.builtin id))(ha:PA X (e::es) t)(hn:x≠"__name__":=by decide)(ti:(x==("__debug__":Str))=false:=by decide)(he:starEach (e::es) X.env=(false,eval e X.env)::starEach es X.env:=by rfl)(tj:(backTo pos (starEach es X.env)).any (·.1)=false:=by rfl):PE X (.Call (.Name x p) (e::es) [] pos) (tCB r t):=by
  intro pins s σ H Q I h;refine v8 (j5 I hg hm hv ?_ hn ti);exact PyProof.Rows.callWith_builtin1 (gx (ha pos pins s σ H _ I h) fun us s1 ⟨vs,H1,I1,r1,q1⟩=>hc pins s1 σ H1 vs us Q I1 r1 q1) he tj
theorem B6(hc:qz X (.type T) r)(hg:Gl X x)(hm:X.mg x=none)(hv:bootBuiltins x=some (.type T))(ha:PA X (e::es) t)(hn:x≠"__name__":=by decide)(ti:(x==("__debug__":Str))=false:=by decide)(he:starEach (e::es) X.env=(false,eval e X.env)::starEach es X.env:=by rfl)(tj:(backTo pos (starEach es X.env)).any (·.1)=false:=by rfl):PE X (.Call (.Name x p) (e::es) [] pos) (tCB r t):=by
  intro pins s σ H Q I h;refine v8 (j5 I hg hm hv ?_ hn ti);exact Ft (gx (ha pos pins s σ H _ I h) fun us s1 ⟨vs,H1,I1,r1,q1⟩=>hc pins s1 σ H1 vs us Q I1 r1 q1) he tj
end
end L2
variable {xs:List (List L2.Key×PySem.Addr×PySem.Value)} {F F' H H':L2.Hp} {o:L2.HO} {v y:L2.V} {X:L2.Cx} {σ:L2.St} {vs:List L2.V} {r:L2.R2} {aX:List (List L2.Key×L2.V)}
namespace HT
open PySem PyProof.Rows
def lexLt:aO→aO→Bool
  |[],[]=>false
  |[],_::_=>true
  |_::_,[]=>false
  |x::xs,y::ys=>if x=y then lexLt xs ys else decide (x<y)
theorem nG(x y:Int)(xs ys:aO):lexLt (x::xs) (y::ys)=if x=y then lexLt xs ys else decide (x<y):=rfl
theorem tK:lexLt [] []=false:=rfl
theorem qS(y:Int)(ys:aO):lexLt [] (y::ys)=true:=rfl
theorem j6(x:Int)(xs:aO):lexLt (x::xs) []=false:=rfl
theorem NZ(A:Around)(s:Shared)(a:Int)(t:Tok)(c:Int)(u:Tok):∃e,SeqAt.EqAt A s (.int a t) (.int c u) e∧(e=true↔a=c) :=
  ⟨(a==c),SeqAt.EqAt.int_int a t c u,by simp⟩
theorem N1(A:Around)(s:Shared)(a:Int)(t:Tok)(c:Int)(u:Tok)(prog:Program)(w:World)(E:nD)(Q:nD)(h:Q (.bool (decide (a<c))) s):wpAny (model prog w) A (richCompare .Lt (.int a t) (.int c u)) Q E s :=
  (PyProof.Rows.lt_int h:wpAny (model prog w) A (compareOp .Lt (.int a t) (.int c u)) Q E s)
section
open PySem.SeqAt
open PySem.AutoSeq1 (wpAny_loadPart')
open PySem.MeetsSeq PySem.MeetsSeq2 PySem.MeetsSeq3
theorem Bj(l b:Addr)(items oS:Array Value)(n n2:Nat)(dd Rm:Option Addr)(sl Rn:Array ni)(ns ms:aO)(hi:IntsAre items.toList ns)(hj:IntsAre oS.toList ms):Meets (Builtin.«tuple.__lt__» ⟨[.ref l,.ref b],[]⟩) (fun _ R s=>s.heap.get? l=some { cls:=.type "tuple",dict:=dd,data:=.seq items n,slots:=sl }∧s.heap.get? b=some { cls:=.type "tuple",dict:=Rm,data:=.seq oS n2,slots:=Rn }∧R (.ok (.ret (.bool (lexLt ns ms)))) s) :=
  .of_wp fun prog w A R s h=>by
    obtain⟨hp,g,d,tk,os⟩:=s;obtain⟨hl,hb,h⟩:=h;have f2:=AutoSeq1.sub_tuple_tuple;have z1:items.size=ns.length:=by rw[←hi.length];simp
    have z2:oS.size=ms.length:=by rw[←hj.length];simp
    wp_walk using wpAny_loadPart' hl,wpAny_loadPart' hb,wpAny_forIn_list _ (fun rest b s'=>b.1=none∧s'=⟨hp,g,d,tk,os⟩∧∃(vs ws:dO) (RW XT:aO),rest=vs.zip ws ∧
      IntsAre vs RW∧IntsAre ws XT∧RW.length+oS.size=XT.length+items.size∧R (.ok (.ret (.bool (lexLt RW XT)))) ⟨hp,g,d,tk,os⟩) _
    case turn =>
      rintro⟨y,x⟩ rest b s' ⟨Fm,rfl,vs,ws,RW,XT,hz,hvi,hwi,hlen,hR⟩;cases hvi with
      |nil=>rw[List.zip_nil_left] at hz;cases hz
      |cons a t ab1 =>
       cases hwi with
       |nil=>rw[List.zip_nil_right] at hz;cases hz
       |cons c u ab2 =>
        rw[List.zip_cons_cons] at hz;injection hz with hyx YM;injection hyx with hy hx;subst hy hx;rw[nG] at hR;simp only[mU] at hlen;obtain⟨e,he,YN⟩:=NZ A.in1 ⟨hp,g,d,tk,os⟩ a t c u;refine bh (he prog w _ _ ?_);cases e with
        |true =>
         rw[ay (YN.mp rfl)] at hR
         wp_walk
         exact⟨rfl,rfl,_,_,_,_,YM,ab1,ab2,by omega,hR⟩
        |false =>
         rw[aZ (fun q=>absurd (YN.mpr q) jx)] at hR;have hri:=N1 A.in1 ⟨hp,g,d,tk,os⟩ a t c u prog w
         wp_walk using hri
         exact⟨_,rfl,by simpa using hR⟩
    case fin =>
      rintro⟨b1,b2⟩ s' ⟨Fm,rfl,vs,ws,RW,XT,hz,hvi,hwi,hlen,hR⟩;simp only at Fm;subst Fm;have hv:lexLt RW XT=decide (items.size<oS.size):=by
        cases hvi with
        |nil =>
         cases hwi with
         |nil=>simp only[List.length_nil] at hlen;rw[tK];exact(lL (by omega)).symm
         |cons c u hw=>simp only[List.length_nil,mU] at hlen;rw[qS];exact(nF (by omega)).symm
        |cons a t hv =>
         cases hwi with
         |nil=>simp only[List.length_nil,mU] at hlen;rw[j6];exact(lL (by omega)).symm
         |cons c u hw=>rw[List.zip_cons_cons] at hz;cases hz
      rw[hv] at hR
      wp_walk
      exact⟨_,rfl,by simpa[Builtin.Tuple.tupleCompareSizes] using hR⟩
    case h =>
      exact⟨rfl,rfl,items.toList,oS.toList,ns,ms,rfl,hi,hj,by omega,h⟩
end
section
variable {prog:Program} {w:World} {A:Around} {E:nD} {s:Shared}
theorem yM{l b:Addr}{items oS:Array Value}(hl:IsTup s.heap l items)(hb:IsTup s.heap b oS)(hi:IntsAre items.toList ns)(hj:IntsAre oS.toList ms)(hu:A.units<cLine)(h:Q (.bool (lexLt ns ms)) s):wpAny (model prog w) A (compareOp .Lt (.ref l) (.ref b)) Q E s:=by
  obtain⟨⟨cls,dd,data,sl⟩,ho,hc,n,hd⟩:=id hl;obtain⟨⟨VY,Rm,data2,Rn⟩,LJ,HD,n2,hd2⟩:=id hb;simp only at hc hd HD hd2;subst hc hd HD hd2;exact richCompare_meets_room (op:=.Lt) ⟨_,ho,rfl⟩ ⟨_,LJ,rfl⟩ PySem.F.slot_tuple_lt PySem.F.entry_tuple_lt (PySem.F.args_tuple_lt_2 _ _) (Bj l b items oS n n2 dd Rm sl Rn ns ms hi hj)
    ⟨ho,LJ,show Value.bool (lexLt ns ms)≠Value.notImplemented∧Q (.bool (lexLt ns ms)) s from⟨(fun x=>nomatch x),h⟩⟩ hu
theorem RX{t b:Addr}{vs ws:dO}(ht:IsTup s.heap t vs.toArray)(hb:IsTup s.heap b ws.toArray)(hv:vs≠[])(h1:ws=[]→Q (.ref t) s)(h2:ws≠[]→Q (.ref s.heap.objs.size) { s with heap:=s.heap.push { cls:=.type "tuple",data:=.seq (vs++ws).toArray } })(hsz:vs.length+ws.length≤sizeLine):wpAny (model prog w) A (binaryOp .Add (.ref t) (.ref b)) Q E s:=by
  obtain⟨⟨cls,dd,data,sl⟩,ho,hc,n,hd⟩:=id ht;obtain⟨⟨VY,Rm,data2,Rn⟩,LJ,HD,n2,hd2⟩:=id hb;simp only at hc hd HD hd2;subst hc hd HD hd2;have e:vs.toArray++ws.toArray=(vs++ws).toArray:=by simp
  by_cases hw:ws=[]
  · exact concat_meets ⟨_,ho,rfl⟩ ⟨_,LJ,rfl⟩ noFill_tuple_add seq_tuple_add PySem.F.slot_tuple_add PySem.F.entry_tuple_add (PySem.F.args_tuple_add_2 _ _)
      (tuple_addW1 t b vs.toArray ws.toArray n n2 dd Rm sl Rn (by simpa using hv) (by simp[hw])) ⟨ho,LJ,h1 hw⟩
  · refine concat_meets ⟨_,ho,rfl⟩ ⟨_,LJ,rfl⟩ noFill_tuple_add seq_tuple_add PySem.F.slot_tuple_add PySem.F.entry_tuple_add (PySem.F.args_tuple_add_2 _ _)
      (tuple_addW2 t b vs.toArray ws.toArray n n2 dd Rm sl Rn (by simpa using hv) (by simpa using hw) (by rw[j3,j3];exact hsz)) ⟨ho,LJ,?_⟩
    rw[e];exact h2 hw
def uB(n d:Nat):Option Int→Nat
  |none=>d
  |some v=>if v<0 then(v+(n:Int)).toNat else min v.toNat n
theorem yN(n d:Nat):uB n d none=d:=rfl
theorem sy(n d k:Nat):uB n d (some (k:Int))=min k n:=by show(if (k:Int)<0 then((k:Int)+(n:Int)).toNat else min (k:Int).toNat n)=min k n;rw[aZ (by omega),Dj]
end
end HT
namespace L2
open PySem PySem.Spec PyProof.Rows
abbrev TO:=St→Hp→(Option Int→Hp→Prop)→Prop
def PO(X:Cx)(e:Option Expr)(t:TO):Prop :=
  ∀(pins:kJ) (s:Shared) (σ:St) (H:Hp) (Q:Option Int→Hp→Prop),Inv X pins σ H s→t σ H Q →
   wpAny (model X.prog X.w) X.A (evalPart e X.env) (fun u s'=>∃o H',Inv X pins σ H' s'∧IsPart u o∧Q o H') X.xe s
def RZ:TO:=fun _ H Q=>Q none H
def YQ(t:TE):TO:=fun σ H Q=>t σ H fun x H1=>∃i,x=.int i∧Q (some i) H1
theorem intsAre_of:∀{us:dO},Vals (ns.map V.int) us→IntsAre us ns:=by
  induction ns with
  |nil=>intro us r;rw[jb] at r;cases r;exact .nil
  |cons n ns ih =>
   intro us r;rw[bY] at r;cases r with
   |cons r1 r2=>obtain⟨t,e⟩:=r1;subst e;exact .cons n t (ih r2)
section
variable {X:Cx} {e:Expr} {te:TE} {lo hi:Option Expr} {tl th:TO} {pos p2:Pos}
theorem R0:PO X none RZ:=by intro pins s σ H Q I h;rw[evalPart_none];exact cX ⟨none,H,I,.none,h⟩
theorem R3(h:PE X e te):PO X (some e) (YQ te):=by intro pins s σ H Q I hw;rw[evalPart_some];refine gx (h pins s σ H _ I hw) fun u s1 ⟨x,H1,I1,r1,q1⟩=>?_;obtain⟨i,rfl,q⟩:=q1;obtain⟨t,rfl⟩:=r1;exact⟨some i,H1,I1,.int i t,q⟩
def SlR(X:Cx)(r:V→Option Int→Option Int→Hp→VK→Prop):Prop :=
  ∀(pins:kJ) (s:Shared) (σ:St) (H:Hp) (x:V) (v vl vu:Value) (lo hi:Option Int) (sl:Addr) (Q:VK),Inv X pins σ H s→RelV x v→s.heap.IsSliceOf sl vl vu .none→IsPart vl lo→IsPart vu hi→r x lo hi H Q →
   ∃T id,typeLookup (.type T) "__getitem__"=pure (some (.builtin id))∧s.TypeIs v T∧wpAny (model X.prog X.w) X.A (getItem v (.ref sl)) (EP X pins σ Q) X.xe s
def tSl(r:V→Option Int→Option Int→Hp→VK→Prop)(te:TE)(tl th:TO):TE:=fun σ H Q=>te σ H fun x H1=>tl σ H1 fun l H2=>th σ H2 fun u H3=>r x l u H3 Q
theorem N2{r:V→Option Int→Option Int→Hp→VK→Prop}(hr:SlR X r)(he:PE X e te)(hl:PO X lo tl)(hu:PO X hi th):PE X (.Subscript e (.Slice lo hi none p2) pos) (tSl r te tl th):=by intro pins s σ H Q I h;refine Subscript_ (gx (he pins s σ H _ I h) fun v s1 ⟨x,H1,I1,r1,q1⟩=>?_);refine wpAny_Slice (gx (hl pins s1 σ H1 _ I1 q1) fun vl s2 ⟨l,H2,I2,pl,q2⟩=>gx (hu pins s2 σ H2 _ I2 q2) fun vu s3 ⟨u,H3,I3,pu,q3⟩=>?_);rw[evalPart_none];refine cX ?_;have I4:Inv X pins σ H3 { s3 with heap:=s3.heap.push { cls:=.type "slice",data:=.fields #[vl,vu,.none] } }:=I3.kept (t':=s3.toks) fun b ob q=>eu _ q;obtain⟨T,id,hT,ht,hg⟩:=hr pins { s3 with heap:=s3.heap.push { cls:=.type "slice",data:=.fields #[vl,vu,.none] } } σ H3 x v vl vu l u s3.heap.objs.size Q I4 r1 (Heap.IsSliceOf.new ..) pl pu q3;show wpAny (model X.prog X.w) X.A (subscriptTail e (.Slice lo hi none p2) v (.ref s3.heap.objs.size)) (EP X pins σ Q) X.xe { s3 with heap:=s3.heap.push { cls:=.type "slice",data:=.fields #[vl,vu,.none] } };exact tail_any (ops:=[.ref s3.heap.objs.size,v]) ht hT hg (by with_unfolding_all rfl)
def HF(xs:List V)(lo hi:Option Int):List V:=(xs.drop (HT.uB xs.length 0 lo)).take (HT.uB xs.length xs.length hi-HT.uB xs.length 0 lo)
theorem xC(xs:List V)(lo hi:Option Int):(HF xs lo hi).length≤xs.length:=by unfold HF;rw[Dl,List.length_drop];omega
def YR(K:PySem.W.Frag):R2:=fun x y H Q=>∃a b xs ys,x=.ref a∧y=.ref b∧kE K H a xs∧kE K H b ys∧xs≠[]∧xs.length+ys.length≤sizeLine ∧
  (ys=[]→Q (.ref a) H)∧(ys≠[]→∀p,H p=none→Q (.ref p) (upd H p (.tup (xs++ys))))
theorem Vals.yr{xs:List V}(r:Vals xs us):us=[]↔xs=[]:=by
  cases r with
  |nil=>simp
  |cons _ _=>simp
theorem R4:qy X (binaryOp .Add) (YR X.K):=by intro pins s σ H x y v u Q I rx ry h;obtain⟨a,b,xs,ys,rfl,rfl,ha,hb,hx,hz,q1,q2⟩:=h;cases rx;cases ry;obtain⟨its,r1,p1,_⟩:=I.tuple ha;obtain⟨eO,r2,p2,_⟩:=I.tuple hb;refine HT.RX p1 p2 (fun z=>hx (r1.yr.mp z)) (fun z=>⟨.ref a,H,I,rfl,q1 (r2.yr.mp z)⟩) (fun z=>?_) (by rw[←r1.length,←r2.length];exact hz);refine⟨.ref s.heap.objs.size,_,I.laid (t':=s.toks) (o:=.tup (xs++ys)) (fun b ob q=>eu _ q) (cw _) ?_,rfl,q2 (fun w=>z (r2.yr.mpr w)) _ (I.cZ.fresh (cw _))⟩;exact⟨by rw[kK];exact hz,_,r1.append r2,IsTup.new _ _⟩
end
def XU(n:Nat)(i:Int):Option Nat:=if 0≤i then(if i<n then some i.toNat else none) else if -(n:Int)≤i then some (i+n).toNat else none
def qA{α:Type}(xs:List α)(i:Int):Option α:=(XU xs.length i).bind fun j=>xs[j]?
theorem R5{i:Int}(h:XU n i=some j):seqIndex? i n=some j∧j<n∧-(n:Int)≤i∧i<n:=by
  unfold XU at h;by_cases h0:0≤i
  · rw[ay h0] at h;by_cases h1:i<n
    ·rw[ay h1] at h;have e:i.toNat=j:=ow h;exact⟨by rw[seqIndex_of h0 h1,e],by omega,by omega,h1⟩
    ·rw[aZ h1] at h;cases h
  · rw[aZ h0] at h;by_cases h1:-(n:Int)≤i
    ·rw[ay h1] at h;have e:(i+n).toNat=j:=ow h;exact⟨by rw[seqIndex_neg (by omega) h1,e],by omega,h1,by omega⟩
    ·rw[aZ h1] at h;cases h
theorem JM{α:Type}{xs:List α}{i:Int}{v:α}(h:qA xs i=some v):∃j,seqIndex? i xs.length=some j∧xs[j]?=some v∧j<xs.length∧-(xs.length:Int)≤i∧i<xs.length:=by
  unfold qA at h;cases e:XU xs.length i with
  |none=>rw[e] at h;cases h
  |some j=>rw[e] at h;obtain⟨h1,h2,h3,h4⟩:=R5 e;exact⟨j,h1,h,h2,h3,h4⟩
theorem uH{α:Type}{xs:List α}{v:α}(h:xs[j]?=some v):qA xs (j:Int)=some v:=by
  have hj:j<xs.length:=(xS.mp h).1;have e:XU xs.length (j:Int)=some j:=by unfold XU;rw[ay (by omega),ay (by omega)];simp
  unfold qA;rw[e];exact h
def yt(b:Expr):Prop:=∀o i,subscripted b false o i=operate [o,i] (getItem o i)
def VZ(X:Cx)(r:R2):Prop :=
  ∀(value slice:Expr) (pins:kJ) (s:Shared) (σ:St) (H:Hp) (x y:V) (v u:Value) (Q:VK),Inv X pins σ H s→RelV x v→RelV y u→r x y H Q →
   subscripted slice false v u=operate [v,u] (getItem v u)→wpAny (model X.prog X.w) X.A (subscriptTail value slice v u) (EP X pins σ Q) X.xe s
def MtR(X:Cx)(id:String)(r:V→List V→Hp→VK→Prop):Prop :=
  ∀(pins:kJ) (s:Shared) (σ:St) (H:Hp) (x:V) (xs:List V) (v:Value) (us:dO) (Q:VK),Inv X pins σ H s→RelV x v→Vals xs us→r x xs H Q →
   wpAny (model X.prog X.w) X.A (call (.builtin id) (v::us)) (EP X pins σ Q) X.xe s
section
variable {X:Cx} {a b:Expr} {ta tb:TE} {pos:Pos}
theorem VZ.or{r':R2}(h:VZ X r)(h':VZ X r'):VZ X (fun x y H Q=>r x y H Q∨r' x y H Q):=by
  intro value slice pins s σ H x y v u Q I rx ry q hs;rcases q with q|q
  ·exact h value slice pins s σ H x y v u Q I rx ry q hs
  ·exact h' value slice pins s σ H x y v u Q I rx ry q hs
theorem N3(hr:VZ X r)(ha:PE X a ta)(hb:PE X b tb)(hs:yt b):PE X (.Subscript a b pos) (YB r ta tb):=by intro pins s σ H Q I h;exact Subscript_ (VA ha hb I h fun v u s2 x y H2 I2 rx ry q=>hr a b pins s2 σ H2 x y v u Q I2 rx ry q (hs _ _))
def ab3(K:PySem.W.Frag):R2:=fun x y H Q=>∃p xs i v,x=.ref p∧y=.int i∧m4 K H p xs∧qA xs i=some v∧Q v H
def ab4(K:PySem.W.Frag):R2:=fun x y H Q=>∃p xs i v,x=.ref p∧y=.int i∧kE K H p xs∧qA xs i=some v∧Q v H
theorem JN:VZ X (ab3 X.K):=by
  intro value slice pins s σ H x y v u Q I rx ry h hs;obtain⟨p,xs,i,z,rfl,rfl,hq,he,q⟩:=h;cases rx;obtain⟨t,rfl⟩:=ry;obtain⟨its,r,pl,hz⟩:=I.list hq;obtain⟨j,h1,h2,h3,h4,h5⟩:=JM he;obtain⟨w,ew,N4⟩:=r.get h2;have hl:=r.length;have hn:=Dv;have fin:EP X pins σ Q w s:=⟨z,H,I,N4,q⟩
  by_cases h0:0≤i
  · have hj:i.toNat=j:=by
      rw[seqIndex_of h0 h5] at h1;exact ow h1
    exact item_listR pl.isList h0 (by omega) (by rw[hj];simpa using ew) fin hs
  · have hj:(i+(its.toArray.size:Int)).toNat=j:=by
      rw[seqIndex_neg (by omega) h4] at h1;rw[j3,←hl];exact ow h1
    exact subscriptTail_builtinR (x:=w) pl.isList.typeIs slot_list_getitem.lookup
      (wpAny_getItem_list_neg (Q:=fun r s'=>r=w∧EP X pins σ Q r s') pl.isList (by omega) (by rw[j3]<;>omega) (by omega) (by rw[hj];simpa using ew) ⟨rfl,fin⟩) hs
theorem HG:VZ X (ab4 X.K):=by
  intro value slice pins s σ H x y v u Q I rx ry h hs;obtain⟨p,xs,i,z,rfl,rfl,hq,he,q⟩:=h;cases rx;obtain⟨t,rfl⟩:=ry;obtain⟨its,r,pl,hz⟩:=I.tuple hq;obtain⟨j,h1,h2,h3,h4,h5⟩:=JM he;obtain⟨w,ew,N4⟩:=r.get h2;have hl:=r.length;have hn:=Dv;have fin:EP X pins σ Q w s:=⟨z,H,I,N4,q⟩
  exact subscriptTail_builtinR (x:=w) pl.typeIs slot_tuple_getitem.lookup
    (getItem_tuple (j:=j) (Q:=fun r s'=>r=w∧EP X pins σ Q r s') pl (by omega) (by omega) (by rw[j3,←hl];exact h1) (by simpa using ew) ⟨rfl,fin⟩) hs
theorem Dw(lo hi:Option Int)(n:Nat):(sliceBounds lo hi none n).1=((HT.uB n 0 lo:Nat):Int)∧(sliceBounds lo hi none n).2.1=((HT.uB n n hi:Nat):Int)∧(sliceBounds lo hi none n).2.2=1:=by
  refine⟨?_,?_,rfl⟩
  · cases lo with
    |none=>simp[sliceBounds,HT.uB]
    |some i =>
     simp only[sliceBounds,HT.uB,Option.getD_none,show(1:Int)>0 by decide,gK];by_cases h:i<0
     ·simp only[h,gK]<;>omega
     ·simp only[h,mZ]<;>omega
  · cases hi with
    |none=>simp[sliceBounds,HT.uB]
    |some i =>
     simp only[sliceBounds,HT.uB,Option.getD_none,show(1:Int)>0 by decide,gK];by_cases h:i<0
     ·simp only[h,gK]<;>omega
     ·simp only[h,mZ]<;>omega
theorem Bk(its:dO)(lo hi:Option Int):slicePick its.toArray lo hi none=((its.drop (HT.uB its.length 0 lo)).take (HT.uB its.length its.length hi-HT.uB its.length 0 lo)).toArray:=by obtain⟨h1,h2,h3⟩:=Dw lo hi its.toArray.size;unfold slicePick;rw[h1,h2,h3];simp only[sliceRange_one,pick_run,j3]<;>rfl
def ab5(K:PySem.W.Frag):V→Option Int→Option Int→Hp→VK→Prop:=fun x lo hi H Q=>∃a xs,x=.ref a∧m4 K H a xs∧∀p,H p=none→Q (.ref p) (upd H p (.lst (HF xs lo hi)))
theorem R6:SlR X (ab5 X.K):=by intro pins s σ H x v vl vu lo hi sl Q I rx hs pl pu h;obtain⟨a,xs,rfl,hx,q⟩:=h;cases rx;obtain⟨its,r,ht,hz⟩:=I.list hx;have hlen:=r.length;refine⟨"list",_,slot_list_getitem.lookup,ht.isList.typeIs,?_⟩;refine wpAny_getItem_list_slice ht.isList hs pl pu .none (by simp) ?_ (by rw[j3]<;>omega);rw[Bk,←hlen];refine⟨.ref s.heap.objs.size,_,I.laid (t':=s.toks) (o:=.lst (HF xs lo hi)) (fun b ob q=>eu _ q) (cw _) ?_,rfl,q _ (I.cZ.fresh (cw _))⟩;exact⟨oQ (xC xs lo hi) hz,_,0,(r.drop (HT.uB xs.length 0 lo)).take (HT.uB xs.length xs.length hi-HT.uB xs.length 0 lo),iu _ rfl⟩
def tL:V→Bool
  |.non=>true
  |.bl _=>true
  |.int _=>true
  |.str _=>true
  |_=>false
def R7:V→V→Bool
  |.non,.non=>true
  |.bl a,.bl b=>a==b
  |.bl a,.int b=>(if a then 1 else 0)==b
  |.int a,.bl b=>a==(if b then 1 else 0)
  |.int a,.int b=>a==b
  |.str a,.str b=>a==b
  |_,_=>false
theorem V0{x:V}{v:Value}(ry:RelV y u)(rx:RelV x v)(fy:tL y=true)(fx:tL x=true):SeqAt.EqAt A s u v (R7 y x):=by
  cases y with
  |non =>
   cases ry;cases x with
   |non=>cases rx;exact SeqAt.EqAt.same _
   |bl b=>cases rx;exact SeqAt.EqAt.none_bool b
   |int b=>obtain⟨t,rfl⟩:=rx;exact SeqAt.EqAt.none_int b t
   |str b=>obtain⟨t,rfl⟩:=rx;exact SeqAt.EqAt.none_str b t
   |_=>exact absurd (show false=true from fx) jx
  |bl a =>
   cases ry;cases x with
   |non=>cases rx;exact SeqAt.EqAt.bool_none a
   |bl b=>cases rx;exact SeqAt.EqAt.bool_bool a b
   |int b=>obtain⟨t,rfl⟩:=rx;exact SeqAt.EqAt.bool_int a b t
   |str b=>obtain⟨t,rfl⟩:=rx;exact SeqAt.EqAt.bool_str a b t
   |_=>exact absurd (show false=true from fx) jx
  |int a =>
   obtain⟨t',rfl⟩:=ry;cases x with
   |non=>cases rx;exact SeqAt.EqAt.int_none a t'
   |bl b=>cases rx;exact SeqAt.EqAt.int_bool a t' b
   |int b=>obtain⟨t,rfl⟩:=rx;exact SeqAt.EqAt.int_int a t' b t
   |str b=>obtain⟨t,rfl⟩:=rx;exact SeqAt.EqAt.int_str a t' b t
   |_=>exact absurd (show false=true from fx) jx
  |str a =>
   obtain⟨t',rfl⟩:=ry;cases x with
   |non=>cases rx;exact SeqAt.EqAt.str_none a t'
   |bl b=>cases rx;exact SeqAt.EqAt.str_bool a t' b
   |int b=>obtain⟨t,rfl⟩:=rx;exact SeqAt.EqAt.str_int a t' b t
   |str b=>obtain⟨t,rfl⟩:=rx;exact SeqAt.EqAt.str_str a t' b t
   |_=>exact absurd (show false=true from fx) jx
  |_=>exact absurd (show false=true from fy) jx
def HJ(x:V)(u:Value):Bool:=match u with
  |.none=>R7 .non x
  |.bool b=>R7 (.bl b) x
  |.int i _=>R7 (.int i) x
  |.str z _=>R7 (.str z) x
  |_=>false
theorem N5{x:V}(r:RelV y u)(f:tL y=true):HJ x u=R7 y x:=by
  cases y with
  |non=>cases r;rfl
  |bl b=>cases r;rfl
  |int i=>obtain⟨t,rfl⟩:=r;rfl
  |str z=>obtain⟨t,rfl⟩:=r;rfl
  |_=>exact absurd (show false=true from f) jx
theorem uI{x:V}:∀{xs:List V} {us:dO},Vals xs us→xs.all tL=true→us.any (HJ x)=xs.any fun y=>R7 y x
  |_,_,.nil,_=>rfl
  |y::xs,u::us,.cons r t,f=>by rw[mX,t6] at f;rw[List.any_cons,List.any_cons,N5 r f.1,uI t f.2]
theorem qT{A:Around}{s:Shared}{x:V}{v:Value}(rx:RelV x v)(fx:tL x=true):∀{xs:List V} {us:dO},Vals xs us→xs.all tL=true→∀u∈us,SeqAt.EqAt A s u v (HJ x u)
  |_,_,.nil,_=>fun u hu=>by cases hu
  |y::xs,u::us,.cons r t,f=>fun u' hu=>by
   rw[mX,t6] at f;rcases fR.mp hu with rfl|hu
   ·rw[N5 r f.1];exact V0 r rx f.1 fx
   ·exact qT rx fx t f.2 u' hu
def XW(x:V)(xs:List V):Bool:=xs.any fun y=>R7 y x
def rIn(K:PySem.W.Frag)(neg:Bool):R2:=fun x y H Q=>∃p xs,y=.ref p∧(m4 K H p xs∨kE K H p xs)∧tL x=true∧xs.all tL=true∧Q (.bl (if neg then !XW x xs else XW x xs)) H
theorem LK:qy X (compareOp .In) (rIn X.K false):=by
  intro pins s σ H x y v u Q I rx ry h;obtain⟨p,xs,rfl,hq,fx,fs,q⟩:=h;cases ry;rcases hq with hq|hq
  ·obtain⟨its,r,pl,hz⟩:=I.list hq;refine SeqAt.in_listAt (HJ x) pl.isList (fun w hw=>qT rx fx r fs w (by simpa using hw)) ⟨.bl _,H,I,rfl,?_⟩;rw[show its.toArray.any (HJ x)=its.any (HJ x) by simp,uI r fs];exact q
  ·obtain⟨its,r,pl,hz⟩:=I.tuple hq;refine SeqAt.in_tupleAt (HJ x) pl (fun w hw=>qT rx fx r fs w (by simpa using hw)) ⟨.bl _,H,I,rfl,?_⟩;rw[show its.toArray.any (HJ x)=its.any (HJ x) by simp,uI r fs];exact q
theorem Dx:qy X (compareOp .NotIn) (rIn X.K true):=by
  intro pins s σ H x y v u Q I rx ry h;obtain⟨p,xs,rfl,hq,fx,fs,q⟩:=h;cases ry;rcases hq with hq|hq
  ·obtain⟨its,r,pl,hz⟩:=I.list hq;refine SeqAt.notIn_listAt (HJ x) pl.isList (fun w hw=>qT rx fx r fs w (by simpa using hw)) ⟨.bl _,H,I,rfl,?_⟩;rw[show its.toArray.any (HJ x)=its.any (HJ x) by simp,uI r fs];exact q
  ·obtain⟨its,r,pl,hz⟩:=I.tuple hq;refine SeqAt.notIn_tupleAt (HJ x) pl (fun w hw=>qT rx fx r fs w (by simpa using hw)) ⟨.bl _,H,I,rfl,?_⟩;rw[show its.toArray.any (HJ x)=its.any (HJ x) by simp,uI r fs];exact q
theorem bB:qz X (.builtin "len") (fun xs H Q=>∃p ys,xs=[.ref p]∧(m4 X.K H p ys∨kE X.K H p ys)∧Q (.int ys.length) H):=by
  intro pins s σ H xs us Q I r h;obtain⟨p,ys,rfl,hq,q⟩:=h;obtain⟨u,rfl,rx⟩:=vals1 r;cases rx;have hn:=Dv;rcases hq with hq|hq
  ·obtain⟨its,r',pl,hz⟩:=I.list hq;have hlen:=r'.length;exact Calls.call_len_list pl.isList (by simp only[j3]<;>omega) ⟨.int ys.length,H,I.tok _,⟨s.toks+1,by rw[j3,hlen]⟩,q⟩
  ·obtain⟨its,r',pl,hz⟩:=I.tuple hq;have hlen:=r'.length;exact len_tuple pl (by simp only[j3]<;>omega) ⟨.int ys.length,H,I.tok _,⟨s.toks+1,by rw[j3,hlen]⟩,q⟩
theorem Dy:qz X (.type "list") (fun xs H Q=>∃p ys,xs=[.ref p]∧(m4 X.K H p ys∨kE X.K H p ys)∧∀l,H l=none→Q (.ref l) (upd H l (.lst ys))):=by
  intro pins s σ H xs us Q I r h;obtain⟨p,ys,rfl,hq,q⟩:=h;obtain⟨u,rfl,rx⟩:=vals1 r;cases rx;have fin:∀(its:dO),Vals ys its→ys.length≤sizeLine→∀(h':Heap) (c':Nat),(∀b o',s.heap.get? b=some o'→h'.get? b=some o') →
      h'.get? s.heap.objs.size=some { cls:=.type "list",dict:=none,data:=.seq its.toArray c',slots:=#[] }→EP X pins σ Q (.ref s.heap.objs.size) { s with heap:=h' }:=fun its r' hz h' c' kp e =>
    ⟨.ref s.heap.objs.size,_,I.laid (t':=s.toks) kp (cw _) (show cx X.prog X.w _ h' _ (.lst ys) from⟨hz,its,c',r',e⟩),rfl,q _ (I.cZ.fresh (cw _))⟩
  rcases hq with hq|hq
  ·obtain⟨its,r',pl,hz⟩:=I.list hq;have hlen:=r'.length;obtain⟨o,ho,hc,n,hd⟩:=pl.isList;exact call_list_seq p (.inl rfl) ho hc hd (fun h' c' kp e=>fin its r' hz h' c' kp e) (by simp only[j3]<;>omega)
  ·obtain⟨its,r',pl,hz⟩:=I.tuple hq;have hlen:=r'.length;obtain⟨o,ho,hc,n,hd⟩:=pl;exact call_list_seq p (.inr rfl) ho hc hd (fun h' c' kp e=>fin its r' hz h' c' kp e) (by simp only[j3]<;>omega)
theorem Bl:qz X (.type "tuple") (fun xs H Q=>∃p ys,xs=[.ref p]∧((m4 X.K H p ys∧∀l,H l=none→Q (.ref l) (upd H l (.tup ys)))∨(kE X.K H p ys∧Q (.ref p) H))):=by
  intro pins s σ H xs us Q I r h;obtain⟨p,ys,rfl,h⟩:=h;obtain⟨u,rfl,rx⟩:=vals1 r;cases rx;rcases h with⟨hq,q⟩|⟨hq,q⟩
  · obtain⟨its,r',pl,hz⟩:=I.list hq;have hlen:=r'.length;refine call_tuple_list pl.isList (fun h' kp=>?_) (by simp only[j3]<;>omega);have I1:Inv X pins σ H { s with heap:=h' }:=I.kept (t':=s.toks) kp;have I2:Inv X pins σ (upd H h'.objs.size (.tup ys)) { s with heap:=h'.push { cls:=.type "tuple",data:=.seq its.toArray } } :=
      I1.laid (t':=s.toks) (fun b o e=>eu _ e) (cw _) (show cx X.prog X.w _ _ _ (.tup ys) from⟨hz,its,r',IsTup.new _ _⟩)
    exact⟨.ref h'.objs.size,_,I2,rfl,q _ (I1.cZ.fresh (cw _))⟩
  ·obtain⟨its,r',pl,hz⟩:=I.tuple hq;exact call_tuple_same pl ⟨.ref p,H,I,rfl,q⟩
def tyV(K:PySem.W.Frag)(T:String)(x:V)(H:Hp):Prop:=match x with
  |.str _=>T="str"
  |.int _=>T="int"
  |.ref p=>(T="list"∧∃xs,m4 K H p xs)∨(T="tuple"∧∃o,K.lookup p=some o∧o.cls=.type "tuple"∧o.dict=none) ∨
      (T="dict"∧((∃aX,H p=some (.dK aX))∨∃aX,H p=some (.dT aX)))∨(T="set"∧∃S n,H p=some (.set S n))
  |_=>False
theorem V1{T:String}{x:V}{v:Value}(I:Inv X pins σ H s)(r:RelV x v)(ty:tyV X.K T x H):s.TypeIs v T∧∀a,v=.ref a→∃ob,s.heap.get? a=some ob∧ob.dict=none:=by
  cases x with
  |str z=>obtain⟨t,rfl⟩:=r;cases(show T="str" from ty);exact⟨typeIs_str s z t,fun _ e=>nomatch e⟩
  |int i=>obtain⟨t,rfl⟩:=r;cases(show T="int" from ty);exact⟨typeIs_int s i t,fun _ e=>nomatch e⟩
  |ref p =>
   cases r;rcases ty with⟨rfl,xs,hq⟩|⟨rfl,o,hk,hc,hd⟩|⟨rfl,hk⟩|⟨rfl,S,n,hk⟩
   ·obtain⟨its,_,pl,_⟩:=I.list hq;refine⟨pl.isList.typeIs,fun a e=>?_⟩;cases e;obtain⟨o,n,e,c,hd,_⟩:=pl;exact⟨o,e,hd⟩
   ·refine⟨⟨o,I.xB p o hk,hc⟩,fun a e=>?_⟩;cases e;exact⟨o,I.xB _ o hk,hd⟩
   · have z:∃o,s.heap.get? p=some o∧o.ExactDict:=by
       rcases hk with⟨aX,hk⟩|⟨aX,hk⟩
       ·obtain⟨_,_,_,_,o,_,_,e,ex,_⟩:=I.cZ p _ hk;exact⟨o,e,ex⟩
       ·obtain⟨_,_,_,_,o,_,_,e,ex,_⟩:=I.cZ p _ hk;exact⟨o,e,ex⟩
     obtain⟨o,e,ex⟩:=z;refine⟨⟨o,e,ex.1⟩,fun a e2=>?_⟩;cases e2;exact⟨o,e,ex.2.1⟩
   ·obtain⟨o,_,_,_,e,ex,_⟩:=I.cZ p _ hk;refine⟨⟨o,e,ex.1⟩,fun a e2=>?_⟩;cases e2;exact⟨o,e,ex.2.1⟩
  |_=>exact False.elim ty
def tBM(K:PySem.W.Frag)(T:String)(r:V→List V→Hp→VK→Prop)(to:TE)(t:TA):TE:=fun σ H Q=>to σ H fun x H1=>tyV K T x H1∧t σ H1 fun xs H2=>r x xs H2 Q
variable {o e:Expr} {es:List Expr} {to:TE} {t:TA} {name:Str} {apos j7:Pos} {T id:String} {r:V→List V→Hp→VK→Prop}
theorem YS(pa:PlainAttrs T)(slot:Slot T name id)(hty:typeOf (.builtin id)=pure (.type "method_descriptor"))(hm:MtR X id r)(ho:PE X o to)(ha:PA X (e::es) t)(N6:attributeBase o name X.env (eval o X.env)=eval o X.env:=by rfl)(V2:((backTo j7 (starEach (e::es) X.env)).all (fun x=>!x.1)&&(backToKw j7 (keywordEach [] X.env)).all (fun x=>x.1.isSome)
      && decide ((e::es).length+([]:List Keyword).length+(if ([]:List Keyword).isEmpty then 0 else 1)<30))=true:=by rfl)(hline:(apos.endLine==j7.line)=true:=by rfl)(hs:starEach (e::es) X.env=(false,eval e X.env)::starEach es X.env:=by rfl)(V3:(backTo j7 (starEach es X.env)).any (·.1)=false:=by rfl):PE X (.Call (.Attribute o name apos) (e::es) [] j7) (tBM X.K T r to t):=by
  intro pins s σ H Q I h;refine wpAny_Call_method_late N6 V2 hline rfl (gx (ho pins s σ H _ I h) fun v s1 ⟨x,H1,I1,r1,ty,q1⟩=>?_);obtain⟨h1,h2⟩:=V1 I1 r1 ty;refine⟨T,id,pa,slot,hty,h1,h2,?_⟩;have hA:=ha j7 pins s1 σ H1 _ I1 q1;rw[hs] at hA⊢;refine Calls.callWith_builtin (by show(false||(backTo j7 (starEach es X.env)).any (·.1))=false;rw[V3]<;>rfl) (Calls.evalArgs_plain ?_);exact gx hA fun us s2 ⟨vs,H2,I2,r2,q2⟩=>hm pins s2 σ H2 x vs v us Q I2 r1 r2 q2
end
def MtM(X:Cx)(id:String)(r:V→List V→Hp→VK→Prop):Prop :=
  ∀(pins:kJ) (s:Shared) (σ:St) (H:Hp) (x:V) (xs:List V) (v:Value) (us:dO) (Q:VK),Inv X pins σ H s→RelV x v→Vals xs us→r x xs H Q →
   wpAny (model X.prog X.w) X.A (call (.builtin id) (v::us)) (EP X pins σ Q) X.xe s
theorem Vals.one:∀{x:V} {us:dO},Vals [x] us→∃u,us=[u]∧RelV x u
  |_,_,.cons r .nil=>⟨_,rfl,r⟩
section
variable {X:Cx} {pins:kJ} {σ:St} {H:Hp} {s:Shared} {l b:Addr} {xs ys zs:List V}
theorem Inv.ab7{its its':dO}{f:Array Value→Array Value}(I:Inv X pins σ H s)(hH:H l=some (.lst xs))(e:s.heap.get? l=some { cls:=.type "list",data:=.seq its.toArray n })(hf:f its.toArray=its'.toArray)(hv:Vals ys its')(hz:ys.length≤sizeLine):Inv X pins σ (upd H l (.lst ys)) { s with heap:=s.heap.update l (Obj.mapSeq f),toks:=t' }:=by
  have q:=PySem.IsL.update e f;rw[hf] at q;refine I.write (x:=l) (e:=l) (by rw[hH];exact trivial) (.inl rfl) (fun b' u hb hu=>(Heap.get?_update_other s.heap (Obj.mapSeq f) (Ne.symm hb)).trans hu) ⟨_,q⟩ ?_;exact⟨hz,its',_,hv,q⟩
theorem Inv.ab8{its:dO}(I:Inv X pins σ H s)(hv:Vals ys its)(hz:ys.length≤sizeLine):Inv X pins σ (upd H s.heap.objs.size (.lst ys)) { s with heap:=s.heap.push { cls:=.type "list",data:=.seq its.toArray },toks:=t' } :=
  I.laid (fun _ _ q=>eu _ q) (cw _) ⟨hz,its,0,hv,iu _ rfl⟩
theorem Inv.fresh(I:Inv X pins σ H s):H s.heap.objs.size=none:=I.cZ.fresh (cw _)
theorem Inv.ab9(I:Inv X pins σ H s)(hH:H l=some (.lst xs)):xs.length≤sizeLine∧∃(its:dO) (n:Nat),Vals xs its∧xs.length=its.length∧s.heap.get? l=some { cls:=.type "list",data:=.seq its.toArray n }:=by obtain⟨z,its,n,r,e⟩:=I.cZ l _ hH;exact⟨z,its,n,r,r.length,e⟩
end
section
variable {X:Cx}
def R8:V→List V→Hp→VK→Prop:=fun x vs H Q=>∃l xs y,x=.ref l∧vs=[y]∧H l=some (.lst xs)∧xs.length<sizeLine∧Q .non (upd H l (.lst (xs++[y])))
theorem LM:MtM X "list.append" R8:=by intro pins s σ H x vs v us Q I rx rv h;obtain⟨l,xs,y,rfl,rfl,hH,hz,q⟩:=h;cases rx;obtain⟨u,rfl,ru⟩:=rv.one;obtain⟨z,its,n,r,hl,e⟩:=I.ab9 hH;refine call_meets F.slot_list_append ⟨_,e,rfl⟩ F.entry_list_append (F.args_list_append_2 _ _) (PySem.list_append l its.toArray n u (by rw[j3];omega)) ⟨e,?_⟩;refine⟨.non,_,I.ab7 (its':=its++[u]) hH e (by simp) (r.append (.cons ru .nil)) ?_,rfl,q⟩;rw[kK,List.length_singleton];omega
end
section
variable {κ:Type} [DecidableEq κ]
def tm(aX:List (κ×V))(k:κ):Option V:=(aX.find? fun kv=>decide (kv.1=k)).map (·.2)
def putK(aX:List (κ×V))(k:κ)(v:V):List (κ×V) :=
  if (aX.any fun kv=>decide (kv.1=k))=true then aX.map (fun kv=>if kv.1=k then(kv.1,v) else kv) else aX++[(k,v)]
theorem uJ{p:κ×V}{r:List (κ×V)}{k:κ}(e:p.1=k):tm (p::r) k=some p.2:=by simp[tm,uD,e]
theorem uK{p:κ×V}{r:List (κ×V)}{k:κ}(e:¬ p.1=k):tm (p::r) k=tm r k:=by simp[tm,uD,e]
theorem FL(k:κ):∀aX:List (κ×V),(aX.any fun kv=>decide (kv.1=k))=(tm aX k).isSome
  |[]=>rfl
  |p::r=>by
   rw[List.any_cons];by_cases e:p.1=k
   ·simp only[uJ e,nF e,Bool.true_or,Option.isSome_some]
   ·rw[uK e,lL e,Bool.false_or];exact FL k r
theorem qU(aX:List (κ×V))(k:κ)(v:V):(putK aX k v).length≤aX.length+1:=by
  unfold putK;split
  ·rw[g9];omega
  ·rw[kK,mU,List.length_nil];omega
theorem tf.LN{o:Option V}{u:ni}(r:tf o u):o.isSome=u.isSome:=by
  cases o with
  |none=>cases u with
   |none=>rfl
   |some _=>exact(show False from r).elim
  |some _=>cases u with
   |none=>exact(show False from r).elim
   |some _=>rfl
theorem tf.getD{o:Option V}{u:ni}{d:V}{d':Value}(r:tf o u)(rd:RelV d d'):RelV (o.getD d) (u.getD d'):=by
  cases o with
  |none=>cases u with
   |none=>exact rd
   |some _=>exact(show False from r).elim
  |some _=>cases u with
   |none=>exact(show False from r).elim
   |some _=>exact r
theorem KV.val{aX:List (κ×V)}{vs:List (κ×Value)}(r:KV aX vs)(k:κ):tf (tm aX k) (valueAt vs k):=by
  unfold KV at r;induction r with
  |nil=>exact True.intro
  |@cons p q ps qs h t ih =>
   obtain⟨h1,h2⟩:=h;by_cases e:p.1=k
   · have e':q.1=k:=h1.symm.trans e;have b:valueAt (q::qs) k=some q.2:=by simp[valueAt,uD,e']
     rw[uJ e,b];exact h2
   · have e':¬ q.1=k:=fun z=>e (h1.trans z);have b:valueAt (q::qs) k=valueAt qs k:=by simp[valueAt,uD,e']
     rw[uK e,b];exact ih
theorem KV.any{aX:List (κ×V)}{vs:List (κ×Value)}(r:KV aX vs)(k:κ):(aX.any fun kv=>decide (kv.1=k))=vs.any fun kv=>decide (kv.1=k):=by
  unfold KV at r;induction r with
  |nil=>rfl
  |cons h t ih=>rw[List.any_cons,List.any_cons,ih,h.1]
theorem KV.V4{aX:List (κ×V)}{vs:List (κ×Value)}(r:KV aX vs)(k:κ)(ry:RelV y u):KV (aX.map fun kv=>if kv.1=k then(kv.1,y) else kv) (vs.map fun kv=>if kv.1=k then(kv.1,u) else kv):=by
  unfold KV at r⊢;induction r with
  |nil=>exact .nil
  |@cons p q ps qs h t ih =>
   rw[bY,bY];refine .cons ?_ ih;obtain⟨h1,h2⟩:=h;by_cases e:p.1=k
   ·rw[ay e,ay (h1.symm.trans e)];exact⟨h1,ry⟩
   ·rw[aZ e,aZ (fun z=>e (h1.trans z))];exact⟨h1,h2⟩
theorem KV.put{aX:List (κ×V)}{vs:List (κ×Value)}(r:KV aX vs)(k:κ)(ry:RelV y u):KV (putK aX k y) (stored vs k u):=by
  unfold putK stored;rw[r.any k];by_cases e:(vs.any fun kv=>decide (kv.1=k))=true
  ·rw[ay e,ay e];exact r.V4 k ry
  ·rw[aZ e,aZ e];exact Paired.snoc r ⟨rfl,ry⟩
theorem KV.length{aX:List (κ×V)}{vs:List (κ×Value)}(r:KV aX vs):aX.length=vs.length:=wd r
end
theorem JQ{k:Key}(r:RelV (kV k) u):(fh P w).is k u=true:=by
  cases k with
  |inl i=>obtain⟨t,e⟩:=(show ∃t,u=Value.int i t from r);subst e;exact Fz P w i t
  |inr x=>obtain⟨t,e⟩:=(show ∃t,u=Value.str x t from r);subst e;exact FC P w x t
theorem B7{P:Program}{w:World}:∀{ks:List Key} {us:dO},Vals (ks.map kV) us→ItemsAre (fh P w) ks us
  |[],_,r=>by rw[jb] at r;cases r;exact .nil
  |k::ks,_,r=>by
   rw[bY] at r;cases r with
   |cons h t=>exact .cons (JQ h) (B7 t)
abbrev KT(H:Hp):List (List Key×V)→List (List Key×Addr×Value)→Prop:=Paired fun p q=>p.1=q.1∧H q.2.1=some (.tup (p.1.map kV))∧RelV p.2 q.2.2
theorem KT.val(r:KT H aX xs)(k:List Key):tf (tm aX k) ((atKey xs k).map (·.2)):=by
  induction r with
  |nil=>exact True.intro
  |@cons p q ps qs h t ih =>
   obtain⟨h1,_,h2⟩:=h;by_cases e:p.1=k
   · have e':q.1=k:=h1.symm.trans e;have b:atKey (q::qs) k=some q.2:=by simp[atKey,uD,e']
     rw[uJ e,b];exact h2
   · have e':¬ q.1=k:=fun z=>e (h1.trans z);have b:atKey (q::qs) k=atKey qs k:=by simp[atKey,uD,e']
     rw[uK e,b];exact ih
theorem KT.V4(r:KT H aX xs)(k:List Key)(ry:RelV y u):KT H (aX.map fun kv=>if kv.1=k then(kv.1,y) else kv) (xs.map (putAt k u)):=by
  induction r with
  |nil=>exact .nil
  |@cons p q ps qs h t ih =>
   rw[bY,bY];refine .cons ?_ ih;obtain⟨h1,h2,h3⟩:=h;unfold putAt;by_cases e:p.1=k
   ·rw[ay e,ay (h1.symm.trans e)];exact⟨h1,h2,ry⟩
   ·rw[aZ e,aZ (fun z=>e (h1.trans z))];exact⟨h1,h2,h3⟩
theorem KT.put(r:KT H aX xs)(k:List Key){b:Addr}(hb:H b=some (.tup (k.map kV)))(ry:RelV y u):KT H (putK aX k y) (storedH xs k b u):=by
  have e:(aX.any fun kv=>decide (kv.1=k))=(atKey xs k).isSome:=by rw[FL,(r.val k).LN,Option.isSome_map]
  unfold putK storedH;rw[e];by_cases q:(atKey xs k).isSome=true
  ·rw[ay q,ay q];exact r.V4 k ry
  ·rw[aZ q,aZ q];exact Paired.snoc r ⟨rfl,hb,ry⟩
theorem KT.keeps(r:KT H aX xs)(ht:∀b ys,H b=some (.tup ys)→H' b=some (.tup ys)):KT H' aX xs :=
  Paired.Lk r fun _ _ z=>⟨z.1,ht _ _ z.2.1,z.2.2⟩
section
variable {P:Program} {w:World} {H:Hp} {h:Heap} {a:Addr}
theorem N7{u:HO}(ok:t8 P w H h)(e:Rd H a u):cx P w H h a u:=e.ok ok
theorem FN{aX:List (Key×V)}(ok:t8 P w H h)(e:Rd H a (.dK aX)):aX.length≤sizeLine∧(a==sysModules)=false∧∃vs,KV aX vs∧h.DictOf (fh P w) a vs :=
  show cx P w H h a (.dK aX) from N7 ok e
theorem YT{aX:List (Key×V)}(ok:t8 P w H h)(e:H a=some (.dK aX)):aX.length≤sizeLine∧(a==sysModules)=false∧∃vs,KV aX vs∧h.DictOf (fh P w) a vs:=FN ok (.inl e)
theorem Dz{ks:List Key}(ok:t8 P w H h)(e:H a=some (.tup (ks.map kV))):(tupleKind (fh P w)).is h ks a:=by
  obtain⟨_,its,r,o,h1,h2,n,h3⟩:=(show cx P w H h a (.tup (ks.map kV)) from ok a _ e)
  exact⟨o,its.toArray,n,h1,h2,h3,by simpa using B7 r⟩
theorem FP(ok:t8 P w H h)(e:Rd H a (.dT aX)):aX.length≤sizeLine∧(a==sysModules)=false∧∃xs,KT H aX xs∧h.DictOfH (tupleKind (fh P w)) a xs:=by
  obtain⟨z,y,xs,r,o,es,ep,h1,h2,h3,h4,h5⟩:=(show cx P w H h a (.dT aX) from N7 ok e)
  refine⟨z,y,xs,r,o,es,ep,h1,h2,h3,h4,fun x hx=>?_,h5⟩;have all:∀{l:List (List Key×V)} {m:List (List Key×Addr×Value)},KT H l m→∀x∈m,(tupleKind (fh P w)).is h x.1 x.2.1:=by
    intro l m q;induction q with
    |nil=>intro x hx;exact nomatch hx
    |@cons p q ps qs hq t ih =>
     intro x hx;rcases fR.mp hx with e|hx
     ·subst e;exact Dz ok (by rw[←hq.1];exact hq.2.1)
     ·exact ih x hx
  exact all r x hx
theorem YV(ok:t8 P w H h)(e:H a=some (.dT aX)):aX.length≤sizeLine∧(a==sysModules)=false∧∃xs,KT H aX xs∧h.DictOfH (tupleKind (fh P w)) a xs:=FP ok (.inl e)
end
def LP(H:Hp)(a:Addr)(y:V)(r:Option V):Prop :=
  (∃aX k,Rd H a (.dK aX)∧y=kV k∧r=tm aX k)∨∃aX k b,Rd H a (.dT aX)∧y=.ref b∧H b=some (.tup (k.map kV))∧r=tm aX k
def N8(H:Hp)(a:Addr)(y v:V)(H':Hp):Prop :=
  (∃aX k,H a=some (.dK aX)∧y=kV k∧aX.length<sizeLine∧H'=upd H a (.dK (putK aX k v))) ∨
  ∃aX k b,H a=some (.dT aX)∧y=.ref b∧H b=some (.tup (k.map kV))∧aX.length<sizeLine∧H'=upd H a (.dT (putK aX k v))
theorem N8.t{b:Addr}{k:List Key}(e:H a=some (.dT aX))(eb:H b=some (.tup (k.map kV)))(hl:aX.length<sizeLine):N8 H a (.ref b) v (upd H a (.dT (putK aX k v))):=.inr ⟨aX,k,b,e,rfl,eb,hl,rfl⟩
section
variable {X:Cx} {pins:kJ} {σ:St} {H:Hp} {s:Shared} {a:Addr} {y v:V} {u r:Value} {o:Option V} {A:Around} {E:nD}
theorem Inv.big(I:Inv X pins σ H s):sysModules<s.heap.objs.size:=by have h:mainGlobals<s.heap.objs.size:=(I.mod.glob.keeps I.bk).lt;exact Nat.lt_trans (by decide) h
theorem LQ(hu:A.units+1<cLine)(I:Inv X pins σ H s)(g:LP H a y (some v))(ry:RelV y u)(h:∀w' s',Inv X pins σ H s'→RelV v w'→Q w' s'):wpAny (model X.prog X.w) A (getItem (.ref a) u) Q E s:=by
  rcases g with⟨aX,k,e,ey,l⟩|⟨aX,k,b,e,ey,eb,l⟩
  ·subst ey;obtain⟨z,hd,vs,rel,dd⟩:=FN I.cZ e;obtain⟨w',hw,N4⟩:=tf.some_of (v:=v) (o:=valueAt vs k) (by rw[l];exact rel.val k);exact wpAny_getItem_of (JQ ry) dd.mapOf hw (h w' _ (I.tok _) N4)
  ·subst ey;cases(show u=Value.ref b from ry);obtain⟨z,hd,xs,rel,dd⟩:=FP I.cZ e;obtain⟨w',hw,N4⟩:=tf.some_of (v:=v) (o:=(atKey xs k).map (·.2)) (by rw[l];exact rel.val k);obtain⟨p,hp,XX⟩:=g6.mp hw;refine wpAny_getItem_heap (tupleKind_room_in1 hu) (Dz I.cZ eb) dd hp ?_;rw[XX];exact h w' _ (I.tok _) N4
theorem JR{ob:HO}(I:Inv X pins σ H s)(mu:XO (H a))(hs:Heap.SameBut a s.heap h')(he:∃q,h'.get? a=some q)(new:cx X.prog X.w (upd H a ob) h' a ob):Inv X pins σ (upd H a ob) { s with heap:=h',toks:=t' } :=
  I.write (x:=a) (e:=a) mu (.inl rfl) (fun b q hb z=>(hs.2 b hb).trans z) he new
theorem V5{aX:List (Key×V)}{vs:List (Key×Value)}(z:aX.length≤sizeLine)(hd:(a==sysModules)=false)(rel:KV aX vs)(dd:h'.DictOf (fh P w) a vs):cx P w H' h' a (.dK aX):=⟨z,hd,vs,rel,dd⟩
theorem LR{Q:Unit→Shared→Prop}(hu:A.units+1<cLine)(I:Inv X pins σ H s)(g:N8 H a y v H')(ry:RelV y u)(rv:RelV v r)(h:∀s',Inv X pins σ H' s'→Q () s'):wpAny (model X.prog X.w) A (setItem (.ref a) u r) Q E s:=by
  rcases g with⟨aX,k,e,ey,l,eH⟩|⟨aX,k,b,e,ey,eb,l,eH⟩
  · subst ey eH;obtain⟨z,hd,vs,rel,dd⟩:=YT I.cZ e;have hz:vs.length≤sizeLine:=by rw[←rel.length];exact z
    have hl:(putK aX k v).length≤sizeLine:=by have:=qU aX k v;omega
    refine wpAny_setItem_pairs (hsz:=hz) (JQ ry) dd fun h' dd' hs=>h _ ?_;have he:∃q,h'.get? a=some q:=let ⟨q,_,_,hq,_⟩:=dd';⟨q,hq⟩
    exact JR I (by rw[e];exact True.intro) hs he (V5 hl hd (rel.put k rv) dd')
  · subst ey eH;cases(show u=Value.ref b from ry);obtain⟨z,hd,xs,rel,dd⟩:=YV I.cZ e;have hz:xs.length≤sizeLine:=by rw[←wd rel];exact z
    have hl:(putK aX k v).length≤sizeLine:=by have:=qU aX k v;omega
    refine wpAny_setItem_heap (hsz:=hz) (tupleKind_room_in1 hu) (Dz I.cZ eb) dd fun h' dd' hs=>h _ ?_;obtain⟨q,es,ep,hq,h2,h3,h4,_,h5⟩:=dd';refine JR I (by rw[e];exact True.intro) hs ⟨q,hq⟩ ⟨hl,hd,_,(rel.put k eb rv).keeps fun c ys ec=>?_,q,es,ep,hq,h2,h3,h4,h5⟩;rw[aK (yI ec e (fun z=>nomatch z))];exact ec
end
def V6(i:Expr):Prop:=∀ov iv,subscripted i false ov iv=operate [ov,iv] (getItem ov iv)
theorem R9{prog:Program}{env:Env}{value slice:Expr}{T id:String}(hl:typeLookup (.type T) "__getitem__"=pure (some (.builtin id)))(hs:V6 slice)(h:wpAny (model prog w) A (eval value env) (fun o s₁=>wpAny (model prog w) A (eval slice env) (fun i s₂=>s₂.TypeIs o T∧wpAny (model prog w) A (getItem o i) Q E s₂) E s₁) E s):wpAny (model prog w) A (eval (.Subscript value slice pos) env) Q E s:=by
  refine Subscript_ (mY h (fun o s₁ h₁=>mY h₁ (fun i s₂ h₂=>?_) fun _ _ x=>x) fun _ _ x=>x);obtain⟨hT,h₂⟩:=h₂;unfold subscriptTail;refine bh ?_;rw[getitemInPython_of_ne hT.not_modules];refine bh (wpAny_specialOf hT hl ?_);have fin:wpAny (model prog w) A (subscripted slice false o i) (fun r s₃=>wpAny (model prog w) A (letTemporaryGo value o r>>=fun _=>pure r) Q E s₃) E s₂:=by rw[hs o i];exact wpAny_operating (mY h₂ (fun r s₃ h₃=>bh (wpAny_letTemporaryGo (cX h₃))) fun _ _ x=>x)
  first
    |exact cX (bh fin)
    |exact bh (cX (bh fin))
    |exact bh fin
theorem FQ{o:Option V}(I:Inv X pins σ H s)(g:LP H a y o):s.TypeIs (.ref a) "dict":=by
  rcases g with⟨aX,k,e,_,_⟩|⟨aX,k,b,e,_,_,_⟩
  ·obtain⟨_,_,vs,_,dd⟩:=FN I.cZ e;exact dd.typeIs
  ·obtain⟨_,_,xs,_,dd⟩:=FP I.cZ e;exact dd.typeIs
def YW(td ty:TE):TE:=fun σ H Q=>td σ H fun x H1=>ty σ H1 fun y H2=>∃a v,x=.ref a∧LP H2 a y (some v)∧Q v H2
def YX(td ty tv:TE):TS:=fun D σ H=>tv σ H fun v H1=>td σ H1 fun x H2=>ty σ H2 fun y H3=>∃a H4,x=.ref a∧N8 H3 a y v H4∧D.nx σ H4
section
variable {X:Cx} {o i e value:Expr} {pos pos' abV:Pos} {td ty tv:TE}
theorem Sb(hu:X.A.units+1<cLine)(ho:PE X o td)(hi:PE X i ty)(hs:V6 i):PE X (.Subscript o i pos) (YW td ty):=by intro pins s σ H Q I h;refine R9 PySem.F.slot_dict_getitem.lookup hs (gx (ho pins s σ H _ I h) fun u s1 ⟨x,H1,I1,rx,q1⟩=>gx (hi pins s1 σ H1 _ I1 q1) fun iv s2 ⟨y,H2,I2,ry,a,v,ex,g,q2⟩=>?_);subst ex;obtain rfl:u=Value.ref a:=rx;exact⟨FQ I2 g,LQ hu I2 g ry fun w' s3 I3 N4=>⟨v,H2,I3,N4,q2⟩⟩
theorem Sd(hu:X.A.units+1<cLine)(ho:PE X o td)(hi:PE X i ty)(hv:PE X value tv)(hs:swapsWith value (some (.Subscript o i pos')) pos.line X.env=pure false):PS X (.Assign [.Subscript o i pos'] value pos) (YX td ty tv):=by
  intro pins s σ H D I h;refine wpAny_Assign_Subscript (gx (hv pins s σ H _ I h) fun r s1 ⟨v,H1,I1,rv,q1⟩=>gx (ho pins s1 σ H1 _ I1 q1) fun u s2 ⟨x,H2,I2,rx,q2⟩=>gx (hi pins s2 σ H2 _ I2 q2) fun iv s3 ⟨y,H3,I3,ry,a,H4,ex,g,q3⟩=>?_) hs;subst ex;obtain rfl:u=Value.ref a:=rx;exact LR hu I3 g ry rv fun s4 I4=>⟨σ,H4,I4,q3⟩
end
theorem N9(h:Heap)(hb:sysModules<h.objs.size):cx P w H (h.push { cls:=.type "dict",data:=.dict #[] }) h.objs.size (.dT []) :=
  ⟨sZ _,beq_eq_false_iff_ne.mpr (Ne.symm (fV hb)),[],.nil,_,#[],0,iu _ rfl,⟨rfl,rfl,rfl⟩,rfl,rfl,List.nodup_nil⟩
def V7:TE:=fun _ H Q=>∀p,H p=none→Q (.ref p) (upd H p (.dT []))
section
variable {X:Cx} {pos:Pos}
theorem Oa:PE X (.Dict [] [] pos) V7:=fun pins s σ H Q I h =>
  wpAny_Dict_empty ⟨.ref s.heap.objs.size,_,I.laid (a:=s.heap.objs.size) (o:=.dT []) (t':=s.toks) (fun _ _ q=>eu _ q) (cw _) (N9 s.heap I.big),rfl,h _ (I.cZ.fresh (cw _))⟩
end
structure M1 (X:Cx) (o:Expr) (m:Str) (apos:Pos) (e:Expr) (j7:Pos):Prop where
  base:attributeBase o m X.env (eval o X.env)=eval o X.env
  few:((backTo j7 (starEach [e] X.env)).all (fun x=>!x.1)&&(backToKw j7 (keywordEach [] X.env)).all (fun x=>x.1.isSome)
    && decide (([e]:List Expr).length+([]:List Keyword).length+(if ([]:List Keyword).isEmpty then 0 else 1)<30))=true
  line:(apos.endLine==j7.line)=true
  trees:backTo j7 (starEach [e] X.env)=[(false,eval e X.env)]
structure M2 (X:Cx) (o:Expr) (m:Str) (apos:Pos) (e f:Expr) (j7:Pos):Prop where
  base:attributeBase o m X.env (eval o X.env)=eval o X.env
  few:((backTo j7 (starEach [e,f] X.env)).all (fun x=>!x.1)&&(backToKw j7 (keywordEach [] X.env)).all (fun x=>x.1.isSome)
    && decide (([e,f]:List Expr).length+([]:List Keyword).length+(if ([]:List Keyword).isEmpty then 0 else 1)<30))=true
  line:(apos.endLine==j7.line)=true
  trees:backTo j7 (starEach [e,f] X.env)=[(false,eval e X.env),(false,eval f X.env)]
def IsD(H:Hp)(a:Addr):Prop:=(∃aX,Rd H a (.dK aX))∨∃aX,Rd H a (.dT aX)
theorem V8(I:Inv X pins σ H s)(d:IsD H a):s.TypeIs (.ref a) "dict"∧(∀b,Value.ref a=.ref b→∃ob,s.heap.get? b=some ob∧ob.dict=none)∧(a==sysModules)=false:=by
  rcases d with⟨aX,e⟩|⟨aX,e⟩
  ·obtain⟨_,hd,vs,_,dd⟩:=FN I.cZ e;refine⟨dd.typeIs,fun b q=>?_,hd⟩;cases q;obtain⟨ob,_,_,h1,h2,_⟩:=dd;exact⟨ob,h1,h2.2.1⟩
  ·obtain⟨_,hd,xs,_,dd⟩:=FP I.cZ e;refine⟨dd.typeIs,fun b q=>?_,hd⟩;cases q;obtain⟨ob,_,_,h1,h2,_⟩:=dd;exact⟨ob,h1,h2.2.1⟩
section
variable {X:Cx} {pins:kJ} {σ:St} {H:Hp} {s:Shared} {a:Addr} {y d:V} {u r:Value} {o:Option V} {A:Around} {E:nD}
theorem V9(hu:A.units+1<cLine)(I:Inv X pins σ H s)(g:LP H a y o)(ry:RelV y u)(rd:RelV d r)(h:∀w' s',Inv X pins σ H s'→RelV (o.getD d) w'→Q w' s'):wpAny (model X.prog X.w) A (call (.builtin "dict.get") [.ref a,u,r]) Q E s:=by
  rcases g with⟨aX,k,e,ey,l⟩|⟨aX,k,b,e,ey,eb,l⟩
  ·subst ey;obtain⟨z,hd,vs,rel,dd⟩:=FN I.cZ e;refine call_meetsIn PySem.F.slot_dict_get dd.typeIs PySem.F.entry_dict_get (PySem.F.args_dict_get_3 _ _ _) (meets_dict_get_default (fh X.prog X.w) a (JQ ry) hd r) ⟨_,dd.mapOf,h _ _ (I.tok _) ?_⟩;rw[l];exact(rel.val k).getD rd
  ·subst ey;cases(show u=Value.ref b from ry);obtain⟨z,hd,xs,rel,dd⟩:=FP I.cZ e;refine call_meetsIn PySem.F.slot_dict_get dd.typeIs PySem.F.entry_dict_get (PySem.F.args_dict_get_3 _ _ _) (meetsH_dict_get_default (tupleKind (fh X.prog X.w)) a b hd r) ⟨tupleKind_room_in1 hu,k,xs,Dz I.cZ eb,dd,h _ _ (I.tok _) ?_⟩;rw[l];exact(rel.val k).getD rd
end
def Wa(td ty tx:TE):TE:=fun σ H Q=>td σ H fun x H1=>∃a,x=.ref a∧IsD H1 a∧ty σ H1 fun y H2=>tx σ H2 fun z H3=>∃o,LP H3 a y o∧Q (o.getD z) H3
section
variable {X:Cx} {o e f:Expr} {apos j7:Pos} {td ty tx:TE}
theorem Ob(hu:X.A.units+1<cLine)(ho:PE X o td)(he:PE X e ty)(hf:PE X f tx)(m:M2 X o "get" apos e f j7):PE X (.Call (.Attribute o "get" apos) [e,f] [] j7) (Wa td ty tx):=by
  intro pins s σ H Q I h;refine wpAny_Call_method m.base m.few m.line PySem.F.plainAttrs_dict PySem.F.slot_dict_get PySem.F.type_dict_get (gx (ho pins s σ H _ I h) fun u s1 ⟨x,H1,I1,rx,a,ex,d,q1⟩=>?_);subst ex;obtain rfl:u=Value.ref a:=rx;obtain⟨t1,t2,_⟩:=V8 I1 d;refine⟨t1,t2,?_⟩;rw[m.trees];refine Calls.callWith_builtin rfl (Calls.evalArgs_plain (Dk (gx (he pins s1 σ H1 _ I1 q1) fun iv s2 ⟨y,H2,I2,ry,q2⟩ =>
    Dk (gx (hf pins s2 σ H2 _ I2 q2) fun fv s3 ⟨z,H3,I3,rz,ov,g,q3⟩=>Calls.spliced_nil ?_))))
  exact V9 hu I3 g ry rz fun w' s4 I4 N4=>⟨_,H3,I4,N4,q3⟩
end
end L2
namespace Att
open PySem PySem.W PySem.Calls PyProof.Rows
theorem x5{P:Params}:∀(ns:aO) (vs:dO),WellAll P h vs (ns.map WData.int)→IntsAre vs ns:=by
  intro ns;induction ns with
  |nil=>intro vs w;rw[jb] at w;cases w;exact .nil
  |cons n ns ih =>
   intro vs w;rw[bY] at w;cases w with
   |cons a b=>cases a;exact .cons _ _ (ih _ b)
theorem LS{l:OpenLaw}(hn:l.most=some n){P:Params}{args:List WData}{vals:dO}(Se:l.row.toRowW.claim.pre args=true)(hwl:WellAll P h vals args):∃a vs ns,vals=[Value.ref a]∧args=[WData.list (ns.map WData.int)]∧h.get? a=some { cls:=.type "list",data:=.seq vs.toArray }∧IntsAre vs ns∧ns.length≤n:=by
  have hsh:WShape.hasAll [] args [.list .int]=true:=(pre_splitW Se).1;have hc:l.pre.holds [] { args:=args }=true:=(pre_splitW Se).2;obtain⟨d,r,rfl,h1,h2⟩:=hasAllW_cons hsh;obtain rfl:=hasAllW_nil h2;obtain⟨xs,rfl,h3⟩:=hasW_list h1;obtain⟨ns,rfl⟩:=items_int h3;have hlen:ns.length≤n:=by
    unfold OpenLaw.pre at hc;have h4:(WTm.not (.lt (.lit (.int (n:Int))) (.len (.arg 0)))).holds [] { args:=[.list (ns.map .int)] }=true:=by have h4:=(holds_andW hc).1;rw[hn] at h4;exact h4
    have h5:=condW_of h4 (w_not (w_lt w_lit (w_len_list (w_arg rfl))));rw[g9] at h5;refine Nat.le_of_not_lt fun q=>?_;have q':(n:Int)<((ns.length:Nat):Int):=by omega
    first
      |(rw[nF q'] at h5;exact absurd h5 (by decide))
      |(simp at h5;omega)
  cases hwl with
  |cons w1 w2 =>
   cases w2;cases w1 with
   |list ho tq=>exact⟨_,_,ns,rfl,rfl,ho,x5 ns _ tq,hlen⟩
theorem LV(l:OpenLaw)(args:List WData):l.row.toRowW.claim.post args (.bool true) args=true :=
  postW_of (r:=l.row.toRowW) (X:=(true==true))
    (show WShape.has [] (.bool true) .bool=true by first|rfl|decide|simp[WShape.has,WShape.arms,WShape.armsAll])
    (show(WTm.eq .res (.lit (.bool true))).value [] { args:=args,res:=some (.bool true),after:=args }=some (.bool (true==true)) from w_eq_bool (w_res rfl) w_lit) rfl
theorem FR{l:OpenLaw}{q:Program}{loose:gs}{d:DefRec}(hn:l.most=some n)(YY:d.params.defaults=[])(call:∀(w:World) (s₀ s₁:Shared) (mg mb:Str→ni) (fa:Addr) (o:Obj) (pm cd doc:Value) (a:Addr) (vs:dO) (ns:aO),Ground q loose [] XP w s₀ mg mb s₁.heap→YP w s₁.heap→s₁.heap.get? fa=some o→o.data=.func (docDef d.name d.params d.body d.scope pm cd doc)→s₁.heap.CodeRec cd d.name→mg d.name=some (.ref fa)→s₁.heap.get? a=some { cls:=.type "list",data:=.seq vs.toArray }→IntsAre vs ns→ns.length≤n→s₁.gens=#[]→codeAny (model l.prog w) callerA (.call (.ref fa) ⟨[.ref a],[]⟩) (fun r s'=>r=.ok (.ret (.bool true))∧OldK s₁.heap s'.heap∧s'.os=s₁.os∧AllBare s'.gens) s₁):WalkO q loose XP YP l.row.toRowW d [] (fun f vs=>PySem.call f vs):=by
  intro w s₀ s₁ mg mb G Y fa o pm cd doc dV kV ho hd oA hD YZ hg args vals as Se hlay hrd hwl Wb;obtain rfl:dV=.none:=Dflts.none hD YY;obtain rfl:kV=.none:=Dflts.noKw hD;obtain⟨a,vs,ns,rfl,rfl,Wc,hints,hlen⟩:=LS hn Se hwl;refine enter_call (codeAny_mono (call w s₀ s₁ mg mb fa o pm cd doc a vs ns G Y ho (fd_plain hd) oA YZ Wc hints hlen hg) fun r s' hq=>?_);obtain⟨rfl,h2,h3,h4⟩:=hq;exact⟨.inl ⟨.bool true,.bool true,[],rfl,fun _=>rfl,.bool true,LV l _,fun _=>⟨List.Pairwise.nil,fun _ hm=>(nomatch hm)⟩⟩,h2,h3,h4⟩
end Att
namespace L2
open PySem PySem.Spec PyProof.Rows
theorem sC:∀{vs:dO} {ns:aO},IntsAre vs ns→Vals (ns.map V.int) vs
  |_,_,.nil=>.nil
  |_,_,.cons n t h=>.cons ⟨t,rfl⟩ (sC h)
def Sf(H:Hp):Prop:=∀b,H b=none∨(∃o xs,H b=some (.t7 o (.lst xs))∧xs.length≤sizeLine)∨∃ps,H b=some (.Fj ps)
abbrev i9:LH:=fun _ _ _ _ _ _=>False
abbrev E0:XK:=fun _ _ _=>False
theorem UE:Passes i9 X E0:=fun _ _ _ _ _ _ _ h=>h.elim
structure kG (K:PySem.W.Frag) (x qual:Str) (st:Stmt) (f:Addr) (fd:FuncData):Prop where
  ex:∃(oc:Value) (od:Option Addr) (kV doc pm:Value) (an:Option Addr) (eR ct:Value) (Np:Array ni),
    fd=fnOf x qual (fc st) (dD st) (az st) .none kV doc pm an eR ct∧K.lookup f=some ⟨oc,od,.func fd,Np⟩∧codeIn K eR qual=true
  kp:keepIn K (.ref f)=true
section
variable {P:Program} {w:World} {K:PySem.W.Frag} {mg:Str→ni} {base:Heap}
theorem kG.ok{st:Stmt}{f:Addr}{ps:gs}{sp:Sp}(F:kG K x qual st f fd)(S:aV N ps (az st))(len:∀vs H Q E,sp vs H Q E→vs.length=ps.length)(yL:∀(eR:Value) (A:Around) (outer:List Env) (s:Shared) (H:Hp) (vs:List V) (Q:VK) (E:XK),fI k (A.deeper (envOfC qual (az st) s.heap.objs.size f eR))→sp vs H Q E→∃t,Bg (x4 i9 P w K mg base N qual (az st) f eR A outer s H E).Hv (dD st) t∧t { nx:=fun _ H'=>Q .non H',rt:=Q } (start N vs) H):cG P w K mg base i9 (k+1) f fd ps sp:=by
  obtain⟨oc,od,kV,doc,pm,an,eR,ct,Np,rfl,lk,oA⟩:=F.ex;refine UC lk oA S len fun A outer s H vs Q E hr UD=>?_;obtain⟨t,h,q⟩:=yL eR A outer s H vs Q E hr UD;exact⟨t,h.Hv,q⟩
theorem kG.binds{st:Stmt}{f:Addr}{ps:gs}(F:kG K x qual st f fd)(h:∀(kV doc pm:Value) (an:Option Addr) (eR ct:Value) (us:dO),us.length=ps.length→bindArgs (fnOf x qual (fc st) (dD st) (az st) .none kV doc pm an eR ct) ⟨us,[]⟩=pure (ps.zip us)):Binds K fd ps []:=by
  obtain⟨oc,od,kV,doc,pm,an,eR,ct,Np,rfl,lk,oA⟩:=F.ex;exact .all (h kV doc pm an eR ct)
theorem wo{st:Stmt}{f:Addr}{kV doc eR:Value}(l:K.lookup f=some ⟨oc,od,.func (fnOf x qual (fc st) (dD st) (az st) .none kV doc pm an eR ct),Np⟩)(c:codeIn K eR qual=true)(k:keepIn K (.ref f)=true):kG K x qual st f (fnOf x qual (fc st) (dD st) (az st) .none kV doc pm an eR ct):=⟨⟨oc,od,kV,doc,pm,an,eR,ct,Np,rfl,l,c⟩,k⟩
end
theorem yO(hr:fI k A):A.units+1<cLine:=Fx (Nat.add_le_add_left (by decide:1≤64) _) hr.units
theorem LW(h:n≤1000):n<sizeLine:=Fx h (by decide)
theorem acb{A B:Prop}(h:B):if false=true then A else B:=by rw[aZ jx];exact h
theorem acd{A B:Prop}(h:A):if true=true then A else B:=by rw[ay rfl];exact h
def cF(H H':Hp):Prop:=∀b o,H b=some o→H' b=some o
theorem cF.refl(H:Hp):cF H H:=fun _ _ h=>h
theorem cF.trans{H1 H2:Hp}(a:cF H H1)(b:cF H1 H2):cF H H2:=fun c o h=>b c o (a c o h)
theorem cF.free(e:cF H H'){l:Addr}(h:H' l=Option.none):H l=Option.none:=by
  cases q:H l with
  |none=>rfl
  |some o=>rw[e l o q] at h;cases h
theorem cF.seq{xs:List V}(e:cF H H')(h:m4 K H a xs):m4 K H' a xs:=by
  rcases h with(h|⟨o,h⟩)|h
  ·exact .inl (.inl (e _ _ h))
  ·exact .inl (.inr ⟨o,e _ _ h⟩)
  ·exact .inr h
section
variable {κ:Type} [DecidableEq κ]
theorem DC:∀{l:List κ} {k:κ},l.Nodup→¬ k∈l→(l++[k]).Nodup
  |[],k,_,_=>by simp
  |a::r,k,h,hk=>by
   obtain⟨h1,h2⟩:=yH.mp h;show(a::(r++[k])).Nodup;refine yH.mpr ⟨fun m=>?_,DC h2 fun m=>hk (fR.mpr (Or.inr m))⟩;rcases mV.mp m with q|q
   ·exact h1 q
   ·exact hk (fR.mpr (Or.inl (List.mem_singleton.mp q).symm))
end
def lY(cells:List (Str×Addr)):List (Str×NameKind)→List (Str×Addr)→List (Str×Addr)
  |[],acc=>acc
  |(n,k)::r,acc=>lY cells r (match k,cells.lookup n with|.free,some c=>(n,c)::acc|_,_=>acc)
theorem Bm{env:Env}(h:∀x∈scope.names,x.2=.free→∃c,env.cells.lookup x.1=some c):closureFor scope env=pure (lY env.cells scope.names []):=by
  have go:∀(names:List (Str×NameKind)) (acc:List (Str×Addr)),(∀x∈names,x.2=.free→∃c,env.cells.lookup x.1=some c) →
      (forIn names acc (fun(x:Str×NameKind) (cs:List (Str×Addr))=>if (x.2==NameKind.free)=true then(do let c ←cellOf env x.1;pure (ForInStep.yield ((x.1,c)::cs)):Sem _) else pure (ForInStep.yield cs)):Sem (List (Str×Addr)))=pure (lY env.cells names acc):=by
    intro names;induction names with
    |nil=>intro acc _;rfl
    |cons x r ih =>
     intro acc hx;obtain⟨n,k⟩:=x;rw[List.forIn_cons];by_cases hk:k=.free
     · subst hk;obtain⟨c,hc⟩:=hx (n,.free) cY rfl;have e:cellOf env n=pure c:=by unfold cellOf;rw[hc]
       simp only[beq_self_eq_true,gK,e,pure_bind];rw[ih _ fun y hy=>hx y (ly _ hy)];simp[lY,hc]
     · have hb:(k==NameKind.free)=false:=by simpa using hk
       simp only[hb,t5,mZ,pure_bind];rw[ih _ fun y hy=>hx y (ly _ hy)]
       congr 1
       cases k<;>first|exact absurd rfl hk|rfl
  have g:=go scope.names [] h;unfold closureFor;rw[show(fun(x:Str×NameKind) (r:List (Str×Addr))=>_)=_ from rfl] at g;refine Eq.trans ?_ g
  first|rfl|exact bind_pure _|(simp only[bind_pure];rfl)
theorem yP(cells:List (Str×Addr)):∀(names:List (Str×NameKind)) (acc:List (Str×Addr)) (x:Str) (c:Addr),(∀y d,acc.lookup y=some d→cells.lookup y=some d)→(lY cells names acc).lookup x=some c→cells.lookup x=some c
  |[],acc,x,c,ha,h=>ha x c h
  |(n,k)::r,acc,x,c,ha,h=>by
   refine yP cells r _ x c (fun y d hy=>?_) h;split at hy
   · rename_i e1 e2;rw[yG] at hy;cases hb:y==n with
     |true=>rw[hb] at hy;cases hy;have:y=n:=by simpa using hb
            rw[this];exact e2
     |false=>rw[hb] at hy;exact ha y d hy
   ·exact ha y d hy
theorem xD(cells:List (Str×Addr)):∀(names:List (Str×NameKind)) (acc:List (Str×Addr)) (x:Str) (c:Addr),(∀y d,acc.lookup y=some d→cells.lookup y=some d)→cells.lookup x=some c→acc.lookup x=some c→(lY cells names acc).lookup x=some c
  |[],acc,x,c,ha,hc,h=>h
  |(n,k)::r,acc,x,c,ha,hc,h=>by
   refine xD cells r _ x c (fun y d hy=>?_) hc ?_
   · split at hy
     · rename_i e1 e2;rw[yG] at hy;cases hb:y==n with
       |true=>rw[hb] at hy;cases hy;have:y=n:=by simpa using hb
              rw[this];exact e2
       |false=>rw[hb] at hy;exact ha y d hy
     ·exact ha y d hy
   · split
     · rename_i e1 e2;rw[yG];cases hb:x==n with
       |true=>have:x=n:=by simpa using hb
              rw[this,e2] at hc;rw[hc]
       |false=>exact h
     ·exact h
theorem ua(cells:List (Str×Addr)):∀(names:List (Str×NameKind)) (acc:List (Str×Addr)) (x:Str) (c:Addr),(∀y d,acc.lookup y=some d→cells.lookup y=some d)→cells.lookup x=some c→(x,NameKind.free)∈names→(lY cells names acc).lookup x=some c
  |[],acc,x,c,ha,hc,h=>nomatch h
  |(n,k)::r,acc,x,c,ha,hc,h=>by
   have Ro:∀y d,(match k,cells.lookup n with|.free,some c=>(n,c)::acc|_,_=>acc:List (Str×Addr)).lookup y=some d→cells.lookup y=some d:=fun y d hy=>by
     split at hy
     · rename_i e1 e2;rw[yG] at hy;cases hb:y==n with
       |true=>rw[hb] at hy;cases hy;have:y=n:=by simpa using hb
              rw[this];exact e2
       |false=>rw[hb] at hy;exact ha y d hy
     ·exact ha y d hy
   rcases fR.mp h with e|h
   ·injection e with e1 e2;subst e1 e2;refine xD cells r _ _ c Ro hc ?_;rw[hc];simp[yG]
   ·exact ua cells r _ x c Ro hc h
theorem Y0{a b c:Nat}(h:a<b)(e:c=b+1):a≠c:=by omega
theorem ace{a b c:Nat}(h:a<b)(e:c=b+1):a<c:=by omega
theorem Oc{x d a:Nat}(h:x<d)(h2:d≤a)(e:x=a):False:=by omega
theorem lookup_mem{α:Type}:∀{l:List (Str×α)} {x:Str} {k:α},l.lookup x=some k→(x,k)∈l
  |[],_,_,h=>by simp at h
  |(n,j)::r,x,k,h=>by
   rw[yG] at h;cases hb:x==n with
   |true =>
    rw[hb] at h;have e:x=n:=by simpa using hb
    cases h;rw[e];exact cY
   |false=>rw[hb] at h;exact ly _ (lookup_mem h)
theorem nH{env:Env}:∀(names:List (Str×NameKind)) (x:Str),(names.map fun(n,k)=>if (k==NameKind.free&&env.scope.kind==.function&&env.kindOf n==some .cell) then(n,NameKind.cell) else(n,k)).lookup x=(names.lookup x).map fun k=>if (k==NameKind.free&&env.scope.kind==.function&&env.kindOf x==some .cell) then NameKind.cell else k
  |[],_=>rfl
  |(n,k)::r,x=>by
   have ih:=nH (env:=env) r x;show List.lookup x ((if (k==NameKind.free&&env.scope.kind==.function&&env.kindOf n==some .cell)=true then(n,NameKind.cell) else(n,k))::_)=_;cases hx:x==n with
   |true =>
    have e:x=n:=by simpa using hx
    subst e;by_cases hc:(k==NameKind.free&&env.scope.kind==.function&&env.kindOf x==some .cell)=true
    ·rw[ay hc];simp only[yG,hx,dI,ay hc]
    ·rw[aZ hc];simp only[yG,hx,dI,aZ hc]
   |false =>
    by_cases hc:(k==NameKind.free&&env.scope.kind==.function&&env.kindOf n==some .cell)=true
    ·rw[ay hc];simp only[yG,hx];exact ih
    ·rw[aZ hc];simp only[yG,hx];exact ih
def HK(N tgs:gs)(fi:List Nat):gs:=tgs++fi.map fun j=>N.getD j Str.empty
def qV(nt:Nat)(fi:List Nat)(σ:St):St:=List.replicate nt none++fi.map fun j=>(σ[j]?).getD none
def kN(X:Cx)(tgs:gs)(fi:List Nat)(scope:Scope)(C:Addr)(ex:List Addr)(s:Shared)(H:Hp):Cx :=
  { X with N:=HK X.N tgs fi,s₀:=s,H₀:=H,env:=compEnvC scope (lY X.env.cells scope.names []) C X.env,outer:=X.stack,stack:=X.stack,ex:=ex,fn:=fun _=>false,xe:=fun _ _=>False }
structure dg (X:Cx) (tgs:gs) (fi:List Nat) (scope:Scope):Prop where
  kind:scope.kind=.function
  cell:∀y∈scope.names,y.2≠.cell
  names:∀y∈scope.names,y.2=.local→scope.names.lookup y.1=some .local
  free:∀y∈scope.names,y.2=.free→X.env.kindOf y.1=some .cell∨X.env.kindOf y.1=some .free
  slots:∀j∈fi,∃x,X.N[j]?=some x∧scope.names.lookup x=some .free
def Y1(osc:Scope)(N:gs)(fi:List Nat)(scope:Scope):Bool :=
  (match scope.kind with|.function=>true|_=>false) &&
  (scope.names.all fun y=>match y.2 with
    |.cell=>false
    |.local=>scope.names.lookup y.1==some NameKind.local
    |.free=>(osc.names.lookup y.1==some NameKind.cell)||(osc.names.lookup y.1==some NameKind.free)
    |_=>true) &&
  (fi.all fun j=>match N[j]? with|some x=>scope.names.lookup x==some NameKind.free|none=>false)
theorem dg.of{tgs:gs}(h:Y1 X.env.scope X.N fi scope=true):dg X tgs fi scope:=by
  unfold Y1 at h;simp only[t6,iK] at h;obtain⟨⟨h1,h2⟩,h3⟩:=h;refine⟨?_,fun y hy e=>?_,fun y hy e=>?_,fun y hy e=>?_,fun j hj=>?_⟩
  ·cases hk:scope.kind<;>rw[hk] at h1<;>first|rfl|cases h1
  ·have q:=h2 y hy;rw[e] at q;cases q
  ·have q:=h2 y hy;rw[e] at q;simpa using q
  ·have q:=h2 y hy;rw[e] at q;simp only[Bool.or_eq_true,beq_iff_eq] at q;exact q
  · have q:=h3 j hj;cases e:X.N[j]? with
    |none=>rw[e] at q;cases q
    |some x=>rw[e] at q;exact⟨x,rfl,by simpa using q⟩
section
variable {X:Cx} {pins:kJ} {σ:St} {H:Hp} {s:Shared} {tgs:gs} {fi:List Nat} {scope:Scope}
theorem dg.Y2(B:dg X tgs fi scope)(ok:X.Ok):closureFor scope X.env=pure (lY X.env.cells scope.names []) :=
  Bm fun y hy hf=>ok.has y.1 (B.free y hy hf)
theorem nI{c:Addr}(h:(lY X.env.cells scope.names []).lookup x=some c):X.env.cells.lookup x=some c :=
  yP _ _ _ _ _ (fun _ _ z=>by simp at z) h
theorem Wd(B:dg X tgs fi scope)(I:Inv X pins σ H s)(hC:s.heap.objs.size≤C)(hex:∀b∈ex,iw X pins H b)(jO:∀b∈ex,b<C):(kN X tgs fi scope C ex s H).Ok where
  mod:=I.ok.mod
  kind:=B.kind
  glob:=I.ok.glob
  blt:=I.ok.blt
  above:=hC
  inj:=fun x y c h1 h2=>I.ok.inj x y c (nI h1) (nI h2)
  has:=fun x h=>by
    have e:∀k,(relabel scope X.env).names.lookup x=some k→(k=.cell∨k=.free)→(x,NameKind.free)∈scope.names:=fun k hk hor=>by
      have e1:(scope.names.lookup x).map (fun k=>if (k==NameKind.free&&X.env.scope.kind==.function&&X.env.kindOf x==some .cell) then NameKind.cell else k)=some k:=by rw[←nH];exact hk
      cases hl:scope.names.lookup x with
      |none=>rw[hl] at e1;cases e1
      |some j =>
       rw[hl] at e1;have hm:=lookup_mem hl;have e2:(if (j==NameKind.free&&X.env.scope.kind==.function&&X.env.kindOf x==some .cell) then NameKind.cell else j)=k:=ow e1;by_cases hj:j=.free
       ·rw[hj] at hm;exact hm
       · have hb:(j==NameKind.free)=false:=by simpa using hj
         rw[hb] at e2;simp only[Bool.false_and,t5,mZ] at e2;rcases hor with z|z
         ·exact absurd (e2.trans z) (B.cell _ hm)
         ·exact absurd (e2.trans z) hj
    have hm:(x,NameKind.free)∈scope.names:=by
      rcases h with h|h
      ·exact e _ h (.inl rfl)
      ·exact e _ h (.inr rfl)
    obtain⟨c,hc⟩:=I.ok.has x (B.free _ hm rfl);exact⟨c,ua _ _ _ _ _ (fun _ _ z=>by simp at z) hc hm⟩
  XR:=fun x c h _=>by cases h
  hd:=I.ok.hd
  frames:=I.ok.frames
  Yk:=.inl rfl
  exf:=fun b hb=>⟨fV (jO b hb),fun x c e=>(hex b hb).2.2.2.2.1 x c (nI e)⟩
  bs:=I.bs
  Uv:=oQ I.ok.Uv I.sz
  Lq:=fun b o e hb=>by
    rcases(hex b hb).2.2.2.1 with z|z
    ·exact I.ok.Lq b o e z
    ·exact absurd (oP (dj (I.ok.bs b o e).1) z) (Nat.lt_irrefl _)
  Nz:=fun b hb z=>by
    rcases fR.mp (I.wm b z) with e|e
    ·exact(hex b hb).2.1 e
    ·exact(hex b hb).2.2.1 e
  xY:=I.stack
  Vl:=I.JB
theorem Od(h:(HK N tgs fi)[i]?=some x)(hi:tgs.length≤i):∃j,fi[i-tgs.length]?=some j∧x=N.getD j Str.empty:=by
  unfold HK at h;rw[Fu hi,qH] at h;cases e:fi[i-tgs.length]? with
  |none=>rw[e] at h;cases h
  |some j=>rw[e] at h;exact⟨j,rfl,(ow h).symm⟩
theorem JS{m:Str→ni}(B:dg X tgs fi scope)(I:Inv X pins σ H s)(JF:∀x c,X.env.cells.lookup x=some c→∀v,s.heap.IsCell c v→h'.IsCell c v)(XY:h'.Ns C m):∃m,h'.Ns (kN X tgs fi scope C ex s H).env.locals m∧∀(i:Nat) (x:Str) (v:V),(kN X tgs fi scope C ex s H).N[i]?=some x→(qV tgs.length fi σ)[i]?=some (some v)→FD (kN X tgs fi scope C ex s H).env.scope x→∃u,RelV v u∧Look (kN X tgs fi scope C ex s H).env h' m x u:=by
  refine⟨m,XY,fun i x v e1 e2 e3=>?_⟩;by_cases hi:i<tgs.length
  · exfalso;have e:(qV tgs.length fi σ)[i]?=some none:=by
      unfold qV;rw[List.getElem?_append_left (by simpa using hi)];simp[hi]
    rw[e] at e2;cases e2
  · have Rp:tgs.length≤i:=Nat.le_of_not_lt hi;obtain⟨j,hj,hx⟩:=Od e1 Rp;obtain⟨y,hy,hf⟩:=B.slots j (List.mem_of_getElem? hj);have exy:x=y:=by
      rw[hx,nE,hy];rfl
    subst exy;have eσ:σ[j]?=some (some v):=by
      unfold qV at e2;rw[Fu (by simpa using Rp),List.length_replicate,qH,hj] at e2;have Wf:(σ[j]?).getD none=some v:=ow e2;cases q:σ[j]? with
      |none=>rw[q] at Wf;cases Wf
      |some w'=>rw[q] at Wf;exact il some Wf
    have hkf:=B.free _ (lookup_mem hf) rfl;obtain⟨mm,hn,hl⟩:=I.loc;have vis:FD X.env.scope x:=by
      rcases hkf with z|z
      ·exact .inr (.inl z)
      ·exact .inr (.inr z)
    obtain⟨u,r,l⟩:=hl j x v hy eσ vis;refine⟨u,r,.inr ⟨?_,?_⟩⟩
    · show(relabel scope X.env).names.lookup x=some .cell∨(relabel scope X.env).names.lookup x=some .free;have e:=nH (env:=X.env) scope.names x;rw[hf] at e;have e':(relabel scope X.env).names.lookup x=some (if (NameKind.free==NameKind.free&&X.env.scope.kind==.function&&X.env.kindOf x==some .cell) then NameKind.cell else NameKind.free):=e;rw[e'];split
      ·exact .inl rfl
      ·exact .inr rfl
    · rcases l with⟨z,_⟩|⟨_,c,hc,Sg⟩
      · rcases hkf with q|q
        ·rw[z] at q;cases q
        ·rw[z] at q;cases q
      ·exact⟨c,ua _ _ _ _ _ (fun _ _ z=>by simp at z) hc (lookup_mem hf),JF x c hc _ Sg⟩
theorem Inv.block{m:Str→ni}{more:kJ}(B:dg X tgs fi scope)(I:Inv X pins σ H s)(hC:s.heap.objs.size≤C)(hex:∀b∈ex,iw X pins H b)(jO:∀b∈ex,b<C)(k:∀b o,s.heap.get? b=some o→h'.get? b=some o)(XY:h'.Ns C m)(Y3:∀p∈more,h'.get? p.1=some p.2∧H p.1=none∧p.1≠C∧s.heap.objs.size≤p.1∧∀v,p.2.data≠.cell v) :
    Inv (kN X tgs fi scope C ex s H) (pins++more) (qV tgs.length fi σ) H { s with heap:=h',toks:=t' } where
  ok:=Wd B I hC hex jO
  os:=rfl
  bare:=I.bare
  base:=Un.kept k
  loc:=JS B I (fun x c _ v ⟨o,ho,hd⟩=>⟨o,k c o ho,hd⟩) XY
  cell:=fun x c e=>by obtain⟨v,o,ho,hd⟩:=I.cell x c (nI e);exact⟨v,o,k c o ho,hd⟩
  free:=I.cZ.fresh hC
  j4:=fun x c e=>I.j4 x c (nI e)
  pin:=fun p hp=>by
    have Bn:p∈X.pn++(pins++more):=hp;rw[←Di] at Bn;rcases mV.mp Bn with hp|hp
    · obtain⟨e,n,ne,nf,d⟩:=I.pin p hp;refine⟨k _ _ e,n,fV (oP (dj e) hC),fun z=>?_,d⟩;rcases fR.mp (I.wm _ z) with q|q
      ·exact ne q
      ·exact nf q
    · obtain⟨e,n,ne,sz,d⟩:=Y3 p hp;refine⟨e,n,ne,fun z=>?_,d⟩;rcases fR.mp (I.wm _ z) with q|q
      ·exact absurd (q▸I.lt) (Nat.not_lt.mpr sz)
      ·exact I.Vm sz q
  cZ:=I.cZ.kept k
  len:=by show(qV tgs.length fi σ).length=(HK X.N tgs fi).length;simp[qV,HK]
theorem Inv.forget{pl:kJ}{σ9:St}{H9:Hp}{s9:Shared}(B:dg X tgs fi scope)(I:Inv X pins σ H s)(hex:∀b∈ex,iw X pins H b)(I9:Inv (kN X tgs fi scope C ex s H) pl σ9 H9 s9):Inv (kN X tgs fi scope C ex s H) pl (qV tgs.length fi σ) H9 s9:=by
  obtain⟨m,hn,_⟩:=I9.loc;refine⟨I9.ok,I9.os,I9.bare,I9.base,JS (ex:=ex) B I (fun x c e v ⟨o,ho,hd⟩=>?_) hn,I9.cell,I9.free,I9.j4,I9.pin,I9.cZ,?_⟩
  ·have hx:c∉ex:=fun z=>(hex c z).2.2.2.2.1 x c e rfl;obtain⟨sl,q⟩:=I9.base.any ho (I.j4 x c e) hx;exact⟨_,q,hd⟩
  ·show(qV tgs.length fi σ).length=(HK X.N tgs fi).length;simp[qV,HK]
theorem Inv.Y4(I:Inv X pins σ H s)(hf:iw X pins H a)(h0:X.s₀.heap.objs.size≤a)(new:cx X.prog X.w (upd H a o) s.heap a o):Inv X pins σ (upd H a o) s:=by
  obtain⟨hn,hL,hfs,_,hC,hp⟩:=hf;refine⟨I.ok,I.os,I.bare,⟨I.base.keep,I.base.slot,fun b u e n hx=>?_,I.base.there,fun b xs e=>?_,fun b u xs e=>?_,fun b ps e=>?_⟩,I.loc,I.cell,?_,fun x c e=>?_,fun p Bn=>?_,fun b u e=>?_,I.len⟩
  ·rw[aK (fV (oP (dj e) h0))];exact I.base.free b u e n hx
  ·have q:=I.base.qI b xs e;rw[aK (bN q hn)];exact q
  ·have q:=I.base.wg b u xs e;rw[aK (bN q hn)];exact q
  ·obtain⟨m,q⟩:=I.base.wj b ps e;exact⟨m,by rw[aK (bN q hn)];exact q⟩
  ·rw[aK (Ne.symm hL)];exact I.free
  ·rw[aK (hC x c e)];exact I.j4 x c e
  ·obtain⟨e,n,r⟩:=I.pin p Bn;exact⟨e,by rw[aK (hp p Bn)];exact n,r⟩
  · by_cases hb:b=a
    ·subst hb;rw[aL] at e;cases e;exact new
    ·rw[aK hb] at e;exact(I.cZ b u e).Be (fun _ _ _ q=>q) (fun c q=>by rw[aK (bN q hn)];exact q) fun c xs q=>by rw[aK (bN q hn)];exact q
end
def LX(X:Cx)(ifs:List Expr)(t:TT):Prop :=
  ∀(pins:kJ) (s:Shared) (σ:St) (H:Hp) (Q:Bool→Hp→Prop),Inv X pins σ H s→t σ H Q →
   wpAny (model X.prog X.w) X.A (forIn ifs true fun c r=>if r=true then do let ok ←isTrue c X.env (eval c X.env);pure (ForInStep.yield ok) else pure (ForInStep.yield r)) (TP X pins σ Q) X.xe s
def acg:TT:=fun _ H Q=>Q true H
theorem Oe:LX X [] acg:=fun _ _ _ H _ I h=>wpAny_tests_nil ⟨H,I,h⟩
theorem Og{c:Expr}{t:TT}(h:PT X c t):LX X [c] t:=fun pins s σ H Q I hw=>wpAny_tests_one (h pins s σ H Q I hw)
section
variable {prog:Program} {w:World} {A:Around} {R:Result→Shared→Prop} {s:Shared}
theorem FT{elt target iter:Expr}{ifs:List Expr}{it acc:Value}{env:Env}(I:Nat→Shared→Prop)(turn:∀n s,I n s→wpAny (model prog w) A (pyNext it) (fun r s₁=>match r with
      |none=>R (.ok .next) s₁
      |some v=>wpAny (model prog w) A (letOwnedTupleGo target it v) (fun _ s₁'=>wpAny (model prog w) A (assign target env v) (fun _ s₂ =>
          wpAny (model prog w) A (forIn ifs true fun c r=>if r=true then do let ok ←isTrue c env (eval c env);pure (ForInStep.yield ok) else pure (ForInStep.yield r)) (fun ok s₃ =>
            if ok=true then wpAny (model prog w) A (eval elt env) (fun x s₄ =>
              wpAny (model prog w) A (call (.builtin "list.append") [acc,x]) (fun _ s₅=>∃m,m<n∧I m s₅) (fun _ _=>False) s₄) (fun _ _=>False) s₃
            else ∃m,m<n∧I m s₃) (fun _ _=>False) s₂) (fun _ _=>False) s₁') (fun _ _=>False) s₁) (fun _ _=>False) s)(n:Nat)(h:I n s):codeAny (model prog w) A (.compLoop (.ListComp elt [⟨target,iter,ifs,0⟩] scope pos) 0 it acc env) R s:=by
  refine codeAny_loop rfl I (fun n s hI=>?_) n h;show wpAny _ A ((compTurn (.ListComp elt [⟨target,iter,ifs,0⟩] scope pos) 0 it acc env).onRaise (fun x=>do noteFrame x env;theTreesLotGoes x)) _ _ s;refine wpAny_noted ?_;rw[compTurn_list];refine bh (wpAny_standAt (bh (mY (turn n s hI) (fun r s₁ h₁=>?_) fun _ _ h'=>h'.elim)));cases r with
  |none=>exact cX h₁
  |some v =>
   refine bh (mY h₁ (fun _ s₁' h₁'=>?_) fun _ _ h'=>h'.elim);refine bh (mY h₁' (fun _ s₂ h₂=>bh (mY h₂ (fun ok s₃ h₃=>?_) fun _ _ h'=>h'.elim)) fun _ _ h'=>h'.elim);cases ok with
   |false=>exact cX ⟨rfl,h₃⟩
   |true=>exact bh (bh (mY h₃ (fun x s₄ h₄=>bh (mY h₄ (fun _ s₅ h₅=>cX (cX ⟨rfl,h₅⟩)) fun _ _ h'=>h'.elim)) fun _ _ h'=>h'.elim))
end
def UG(J:It)(σ0:St)(g:TG)(tt:TT)(te:TE)(W:Nat→Nat→List V→Hp→Prop)(Fin:List V→Hp→Prop):Prop :=
  ∀i m ys H,W i m ys H→(J.stop i H∧ys.length≤sizeLine∧Fin ys H) ∨
   (J.go i H∧ys.length<sizeLine∧∃(N:V→Hp→Prop) (N0:Hp→Prop),(∀y H4,N y H4→∃m',m'<m∧W (i+1) m' (ys++[y]) H4)∧(∀H3,N0 H3→∃m',m'<m∧W (i+1) m' ys H3) ∧
     ∀x H',J.NJ i H x H'→g x σ0 H' fun σ2 H2=>tt σ2 H2 fun b H3=>if b=true then te σ2 H3 N else N0 H3)
section
variable {X:Cx} {tg elt iter:Expr} {ifs:List Expr} {tgs:gs} {fi:List Nat} {scope:Scope} {pos:Pos} {g:TG} {tt:TT} {te:TE}
def lobj(its:dO)(n:Nat):Obj:={ cls:=.type "list",data:=.seq its.toArray n }
theorem FU{H2:Hp}{s2:Shared}{J:It}{it:Addr}{tn:Nat→Heap→Prop}{Fin:List V→Hp→Prop}{RR:Value→Addr→Result→Shared→Prop}(hc:X.calm=true)(B:dg X tgs fi scope)(hg:∀C ex s H,PG (kN X tgs fi scope C ex s H) tg g)(ht:∀C ex s H,LX (kN X tgs fi scope C ex s H) ifs tt)(he:∀C ex s H,PE (kN X tgs fi scope C ex s H) elt te)(I2:Inv X pins σ H2 s2)(T:Turn X.prog X.w X.K tg J fp it tn)(st:tn 0 s2.heap)(hf:∀b∈fp,iw X pins H2 b)(W:Nat→Nat→List V→Hp→Prop)(m0:Nat)(w0:W 0 m0 [] H2)(turn:UG J (qV tgs.length fi σ) g tt te W Fin)(hRR:∀D C H' ys s' m',Inv X pins σ (upd H' D (.lst ys)) s'→H' D=none→s'.heap.Ns C m'→iw X pins (upd H' D (.lst ys)) C→Fin ys H'→RR (.ref D) C (.ok .next) s'):wpAny (model X.prog X.w) X.A (newList []) (fun acc s₃=>wpAny (model X.prog X.w) X.A (newFunctionEnv scope X.env.globals (lY X.env.cells scope.names []) [] X.env.qual none .none (some X.env)) (fun Y5 s₄=>codeAny (model X.prog X.w) X.A (.compStart (.ListComp elt [⟨tg,iter,ifs,0⟩] scope pos) 0 (.ref it) acc { Y5 with scope:=relabel scope X.env }) (RR acc Y5.locals) s₄) E s₃) E s2:=by
  refine xU (wpAny_newFunctionEnv B.cell (by intro y hy;simp at hy) (fun h₁ Oh LY=>?_) B.kind);dsimp only at Oh LY⊢;generalize hHp:s2.heap.push { cls:=.type "list",dict:=none,data:=.seq ([]:dO).toArray }=hp at Oh LY⊢;generalize hD:s2.heap.objs.size=D at Oh LY⊢;have hCD:hp.objs.size=D+1:=by rw[←hHp,Heap.size_push,hD]
  generalize hCe:hp.objs.size=C at Oh LY hCD⊢;have Y6:D≠C:=by omega
  have old:∀b o,s2.heap.get? b=some o→h₁.get? b=some o:=fun b o e=>by have hb:b<D:=hD▸dj e;refine LY.extBut b o (Y0 hb hCD) (eu _ ?_);rw[←hHp];exact eu _ e
  have hDo:h₁.get? D=some (lobj [] 0):=by refine LY.extBut D _ Y6 (eu _ ?_);rw[←hHp,←hD];exact iu _ rfl
  have Wg:∀b∈fp,b<D:=fun b hb=>by obtain⟨o,e,_⟩:=T.obj 0 _ st b hb;rw[←hD];exact dj e
  have Y7:D∉fp:=fun z=>Nat.lt_irrefl _ (Wg D z);have aci:H2 D=none:=I2.cZ.fresh (by rw[hD];exact cw _);have ge0:X.s₀.heap.objs.size≤D:=by rw[←hD];exact I2.sz
  have HL:∀(a:Addr),D≤a→∀x c,X.env.cells.lookup x=some c→c≠a:=fun a ha x c e z=>by obtain⟨v,q⟩:=I2.cell x c e;have:=q.lt;rw[hD] at this;exact Oc this ha z
  have Oi:∀(a:Addr),D≤a→∀p∈X.pn++pins,p.1≠a:=fun a ha p Bn z=>by have:=dj (I2.pin p Bn).1;rw[hD] at this;exact Oc this ha z
  have Y8:∀(a:Addr),D≤a→a≠X.env.locals:=fun a ha z=>by have:=I2.lt;rw[hD] at this;exact Oc this ha z.symm
  have fsD:∀(a:Addr),D≤a→a∉X.fs:=fun a ha=>I2.Vm (by rw[hD];exact ha)
  -- the word of the loop
  let Y:Cx:=kN X tgs fi scope C fp s2 H2
  have stF:∀{H:Hp} {pl:kJ},(∀b∈fp,H b=none)→(∀p∈pl,p.1∉fp)→∀b∈fp,iw Y (pins++pl) H b:=fun {H pl} hn tj b hb=>by
    obtain⟨f0,f1,f2,f3,f4,f5⟩:=hf b hb;refine⟨hn b hb,Y0 (Wg b hb) hCD,fun z=>?_,.inl hb,fun x c e=>f4 x c (nI e),fun p Bn z=>?_⟩
    · rcases fR.mp (I2.wm b z) with e|e
      ·exact f1 e
      ·exact f2 e
    · have XX:p∈X.pn++(pins++pl):=Bn;rw[←Di] at XX;rcases mV.mp XX with q|q
      ·exact f5 p q z
      ·exact tj p q (z▸hb)
  have loop:∀s₃:Shared,s₃={ s2 with heap:=h₁,toks:=s2.toks+([]:List (Str×Value)).length } →
      codeAny (model X.prog X.w) X.A (.compLoop (.ListComp elt [⟨tg,iter,ifs,0⟩] scope pos) 0 (.ref it) (.ref D) (compEnvC scope (lY X.env.cells scope.names []) C X.env)) (RR (.ref D) C) s₃:=by
    intro s₃ es₃;subst es₃;refine FT (fun n s'=>∃i H' ys its e,Inv Y (pins++[(D,lobj its e)]) (qV tgs.length fi σ) H' s'∧Vals ys its∧tn i s'.heap∧(∀b∈fp,H' b=none)∧W i n ys H') ?_ m0 ⟨0,H2,[],[],0,?_,.nil,?_,fun b hb=>(hf b hb).1,w0⟩
    rotate_left
    · refine Inv.block (C:=C) B I2 (by omega) hf (fun b hb=>ace (Wg b hb) hCD) old Oh fun p Bn=>?_;have e:p=(D,lobj [] 0):=by simpa using Bn
      subst e;exact⟨hDo,aci,Y6,Nat.le_of_eq hD,fun v z=>by cases z⟩
    ·exact T.keep _ _ _ st fun b hb o e=>old b o e
    rintro n s4 ⟨i,H4,ys,its,e4,I4,rv,st4,fr4,w4⟩;have tj:∀p∈[(D,lobj its e4)],p.1∉fp:=fun p Bn=>by
      have e:p=(D,lobj its e4):=by simpa using Bn
      subst e;exact Y7
    have f4:=stF (pl:=[(D,lobj its e4)]) fr4 tj;rcases turn i n ys H4 w4 with⟨stop,hz,fin⟩|⟨go,hz,N,N0,hN,hN0,step⟩
    · -- the end
      refine gx (T.done Y rfl rfl rfl hc i _ s4 _ H4 _ I4 f4 st4 stop) fun r s5 ⟨hr,I5⟩=>?_;subst hr;have hD5:=(I5.pin (D,lobj its e4) (by simp)).1;have Y9:H4 D=none:=(I5.pin (D,lobj its e4) (by simp)).2.1;have Za:Inv X pins σ H4 s5:=I2.Yn I5.os I5.base I5.cZ I5.bare fun b hb=>by obtain⟨f0,f1,f2,f3,f4,f5⟩:=hf b hb;exact⟨f3,f1,f4,f5⟩
      have fpD:iw X pins H4 D:=⟨Y9,Y8 D (cw _),fsD D (cw _),.inr ge0,HL D (cw _),Oi D (cw _)⟩
      have It:=Za.Y4 (o:=.lst ys) fpD ge0 ⟨hz,its,e4,rv,hD5⟩;obtain⟨m',Ym,_⟩:=I5.loc;refine hRR D C H4 ys s5 m' It Y9 Ym ⟨?_,Y8 C (by omega),fsD C (by omega),.inr (by omega),HL C (by omega),Oi C (by omega)⟩ fin;rw[aK (Ne.symm Y6)];exact I5.free
    · -- a turn
      refine gx (T.item Y rfl rfl rfl hc i _ s4 _ H4 _ I4 f4 st4 go) fun r s5 ⟨u,hr,h5⟩=>?_;subst hr;refine gx h5 fun _ s6 ⟨x,H6,I6,r6,y6,st6,fr6⟩=>?_;have I6':=I6.pinned (stF (pl:=[(D,lobj its e4)]) fr6 tj) (T.obj _ _ st6);refine gx (hg C fp s2 H2 _ s6 _ H6 x u _ I6' r6 (step x H6 y6)) fun _ s7 ⟨σ7,H7,I7,q7⟩=>?_;refine gx (ht C fp s2 H2 _ s7 σ7 H7 _ I7 q7) fun b s8 ⟨H8,I8,q8⟩=>?_;have again:∀{σ9:St} {H9:Hp} {s9:Shared},Inv Y ((pins++[(D,lobj its e4)])++yK fp s6.heap) σ9 H9 s9→tn (i+1) s9.heap∧(∀b∈fp,H9 b=none):=fun {σ9 H9 s9} I9=>by refine⟨T.keep _ _ _ st6 fun b hb o e=>(I9.pin (b,o) (jY _ (jY _ (pY hb e)))).1,fun b hb=>?_⟩;obtain⟨o,e,d⟩:=T.obj _ _ st6 b hb;exact(I9.pin (b,o) (jY _ (jY _ (pY hb e)))).2.1
      cases b with
      |false=>obtain⟨m',hm,w8⟩:=hN0 _ q8;obtain⟨a1,a2⟩:=again I8;exact⟨m',hm,i+1,H8,ys,its,e4,Inv.forget B I2 hf I8.pH,rv,a1,a2,w8⟩
      |true =>
       rw[ay rfl] at q8⊢;refine gx (he C fp s2 H2 _ s8 σ7 H8 _ I8 q8) fun y s9 ⟨yv,H9,I9,r9,q9⟩=>?_;obtain⟨m',hm,w9⟩:=hN yv H9 q9;obtain⟨a1,a2⟩:=again I9;obtain⟨p1,p2,p3,p4,p5⟩:=I9.pin (D,lobj its e4) (by simp);have hsz:its.toArray.size≤sizeLine:=by have:=rv.length;simp only[j3];omega
       refine wpAny_list_append_plain (hsz:=hsz) ⟨e4,p1⟩ fun h₅ hl₅ hs₅=>?_;obtain⟨e5,hD5⟩:=hl₅;have acm:h₅.get? D=some (lobj (its++[y]) e5):=by rw[hD5];simp[lobj]
       have I10:Inv Y pins (qV tgs.length fi σ) H9 { s9 with heap:=h₅ }:=by refine Inv.turned (t':=s9.toks) (it:=D) ((Inv.forget B I2 hf I9.pH).pH) (fun b o hb e=>(hs₅.2 b hb).trans e) p2 Y6 (.inr (Nat.le_of_eq hD)) (fun x c e=>HL D (cw _) x c (nI e)) (Oi D (cw _))
       refine⟨m',hm,i+1,H9,ys++[yv],its++[y],e5,I10.Dq fun p Bn=>?_,Vals.append rv (.cons r9 .nil),T.keep _ _ _ a1 fun b hb o e=>(hs₅.2 b (fun z=>Y7 (z▸hb))).trans e,a2,w9⟩;rcases mV.mp Bn with q|q
       ·exact I10.pin p (jY _ q)
       · have e:p=(D,lobj (its++[y]) e5):=by simpa using q
         subst e;exact⟨acm,p2,Y6,p4,fun v z=>by cases z⟩
  exact codeAny_compStart_list (loop _ rfl) (T.self _ 0 _ _ _ (T.keep _ _ _ st fun b hb o e=>old b o e) (loop _ rfl))
def Oj(wi:TI)(nt:Nat)(fi:List Nat)(g:TG)(tt:TT)(te:TE):TE:=fun σ H Q=>wi σ H fun J H1=>∃W:Nat→Nat→List V→Hp→Prop,(∃m,W 0 m [] H1) ∧
  UG J (qV nt fi σ) g tt te W fun ys H2=>∀p,H2 p=none→Q (.ref p) (upd H2 p (.lst ys))
theorem Sh{wi:TI}(hc:X.calm=true)(B:dg X tgs fi scope)(hi:PI X tg iter wi)(hg:∀C ex s H,PG (kN X tgs fi scope C ex s H) tg g)(ht:∀C ex s H,LX (kN X tgs fi scope C ex s H) ifs tt)(he:∀C ex s H,PE (kN X tgs fi scope C ex s H) elt te)(hs:∀x,foldedSetIterable iter X.env x=pure x:=by intro _;rfl):PE X (.ListComp elt [⟨tg,iter,ifs,0⟩] scope pos) (Oj wi tgs.length fi g tt te):=by
  intro pins s σ H Q I h;rw[eval_ListComp];refine wpAny_comprehension_free (use:=none) rfl hs (B.Y2 I.ok) B.kind B.names (gx (hi pins s σ H _ I h) fun xv s1 h1=>gx h1 fun itv s2 h2=>?_);obtain⟨it,fp,tn,J,H2,e,I2,T,Yz,f2,W,⟨m0,w0⟩,turn⟩:=h2;subst e;refine FU (RR:=fun acc C=>compPost (model X.prog X.w) X.A X.xe none (EP X pins σ Q) acc C) hc B hg ht he I2 T Yz f2 W m0 w0 turn ?_;intro D C H' ys s' m' I' hD hn hC fin;obtain⟨c0,c1,c2,c3,c4,c5⟩:=hC;exact⟨m',hn,fun h' sb=>⟨.ref D,_,I'.turned (t':=s'.toks) (fun b o hb e=>(sb.2 b hb).trans e) c0 c1 c3 c4 c5,rfl,fin D hD⟩⟩
theorem yQ{wi:TI}{FV:Pos}(hc:X.calm=true)(hN:X.N.Nodup)(hx:X.N[i]?=some x)(hl:X.env.scope.names.lookup x=some .local)(B:dg X tgs fi scope)(hi:PI X tg iter wi)(hg:∀C ex s H,PG (kN X tgs fi scope C ex s H) tg g)(ht:∀C ex s H,LX (kN X tgs fi scope C ex s H) ifs tt)(he:∀C ex s H,PE (kN X tgs fi scope C ex s H) elt te)(Wh:swapsWith (.ListComp elt [⟨tg,iter,ifs,0⟩] scope pos) (some (.Name x pos')) FV.line X.env=pure true)(hs:∀x,foldedSetIterable iter X.env x=pure x:=by intro _;rfl):PS X (.Assign [.Name x pos'] (.ListComp elt [⟨tg,iter,ifs,0⟩] scope pos) FV) (Lv (Oj wi tgs.length fi g tt te) (BZ i)):=by
  intro pins s σ H D I h;rw[exec_Assign_Name_used _ _ _ _ Wh];refine bh (wpAny_standAt (bh ?_));show wpAny _ _ (do let _ ←comprehension (.ListComp elt [⟨tg,iter,ifs,0⟩] scope pos) scope X.env _ (newList []) false (eval iter X.env) (some (assign (.Name x pos') X.env))) _ _ s;refine bh (mY (wpAny_comprehension_free (use:=some (assign (.Name x pos') X.env)) (Q:=fun _ s'=>SP X pins D .next s') rfl hs (B.Y2 I.ok) B.kind B.names
    (gx (hi pins s σ H _ I h) fun xv s1 h1=>gx h1 fun itv s2 h2=>?_)) (fun _ s' hq=>cX (cX hq)) fun _ _ e=>e)
  obtain⟨it,fp,tn,J,H2,e,I2,T,Yz,f2,W,⟨m0,w0⟩,turn⟩:=h2;subst e;refine FU (RR:=fun acc C=>compPost (model X.prog X.w) X.A X.xe (some (assign (.Name x pos') X.env)) (fun _ s'=>SP X pins D .next s') acc C) hc B hg ht he I2 T Yz f2 W m0 w0 turn ?_;intro a C H' ys s' m' I' hD hn hC fin;obtain⟨c0,c1,c2,c3,c4,c5⟩:=hC;refine wpAny_assign_Name (BX (v:=.ref a) I' hN hx (.inl hl) rfl (fun qQ I'' ⟨b,sb,hb⟩=>?_) (.inr hl));have hCb:C≠b:=by
    rcases hb with z|z
    ·rw[z];exact c1
    ·exact fun q=>c4 x b z q.symm
  exact⟨m',hn.sameBut sb hCb,fun h' sb'=>⟨_,_,I''.turned (t':=qQ.toks) (fun b o hb e=>(sb'.2 b hb).trans e) c0 c1 c3 c4 c5,fin a hD⟩⟩
end
theorem yR:bootBuiltins "tuple"=some (.type "tuple"):=by decide +kernel
theorem DF:bootBuiltins "list"=some (.type "list"):=by decide +kernel
theorem Wi:bootBuiltins "int"=some (.type "int"):=by decide +kernel
theorem Si:bootBuiltins "bool"=some (.type "bool"):=by decide +kernel
theorem Wj:bootBuiltins "str"=some (.type "str"):=by decide +kernel
theorem Wk:bootBuiltins "set"=some (.type "set"):=by decide +kernel
theorem fJ:bootBuiltins "len"=some (.builtin "len"):=by decide +kernel
theorem yS:bootBuiltins "sum"=some (.builtin "sum"):=by decide +kernel
theorem nr:bootBuiltins "sorted"=some (.builtin "sorted"):=by decide +kernel
theorem Bo:bootBuiltins "isinstance"=some (.builtin "isinstance"):=by decide +kernel
theorem in1_units:A.in1.units=A.units+1:=rfl
theorem all_eq:((List.range (min ns.length ms.length)).all (fun j=>decide (ns[j]?=ms[j]?))&&(ns.length==ms.length))=decide (ns=ms):=by
  rw[Bb];simp only[t6,iK,mW,A8,beq_iff_eq];constructor
  · rintro⟨h,hl⟩;refine List.ext_getElem? fun i=>?_;by_cases hi:i<min ns.length ms.length
    ·exact h i hi
    ·rw[A5 (by omega),A5 (by omega)]
  ·rintro rfl;exact⟨fun _ _=>rfl,rfl⟩
theorem B8{p q:Addr}{FW eO:dO}(h1:IsTup s.heap p FW.toArray)(h2:IsTup s.heap q eO.toArray)(r1:Vals (ns.map V.int) FW)(r2:Vals (ms.map V.int) eO)(hu:A.units<cLine):SeqAt.EqAt A s (.ref p) (.ref q) (decide (ns=ms)):=by
  by_cases e:p=q
  · subst e;obtain⟨o,e1,_,n,d1⟩:=h1;obtain⟨o',e2,_,n',d2⟩:=h2;rw[e1] at e2;cases e2;rw[d1] at d2;injection d2 with d3 _;have e3:FW=eO:=by simpa using il Array.toList d3
    subst e3;have e4:=r1.inj r2;have e5:ns=ms:=by have:=il (List.map fun v=>match v with|V.int i=>i|_=>0) e4;simpa[e9,Function.comp_def] using this
    rw[nF e5];exact SeqAt.EqAt.same _
  · have l1:FW.length=ns.length:=by have:=r1.length;simpa using this.symm
    have l2:eO.length=ms.length:=by have:=r2.length;simpa using this.symm
    have key:=SeqAt.RcAt.tuples (A:=A) (e:=fun j=>decide (ns[j]?=ms[j]?)) (show s.heap.IsTuple p FW.toArray from h1) (show s.heap.IsTuple q eO.toArray from h2) hu (fun j q1 q2=>by
      have q1':j<ns.length:=by simpa[l1] using q1
      have q2':j<ms.length:=by simpa[l2] using q2
      obtain⟨u,Wl,ru⟩:=r1.get (i:=j) (x:=.int ns[j]) (by simp[q1']);obtain⟨v,hv1,rv⟩:=r2.get (i:=j) (x:=.int ms[j]) (by simp[q2']);obtain⟨t,rfl⟩:=ru;obtain⟨t',rfl⟩:=rv;have a1:FW.toArray[j]=.int ns[j] t:=by
        have:FW.toArray[j]?=some (.int ns[j] t):=by simpa using Wl
        rw[A4 q1] at this;exact ow this
      have a2:eO.toArray[j]=.int ms[j] t':=by
        have:eO.toArray[j]?=some (.int ms[j] t'):=by simpa using hv1
        rw[A4 q2] at this;exact ow this
      rw[a1,a2];have e:decide (ns[j]?=ms[j]?)=(ns[j]==ms[j]):=by rw[mS q1',mS q2',Bb];simp
      rw[e];exact SeqAt.EqAt.int_int _ _ _ _)
    rw[show FW.toArray.size=ns.length by simpa using l1,show eO.toArray.size=ms.length by simpa using l2,all_eq] at key;exact SeqAt.EqAt.of_refs e key
section
variable {X:Cx}
theorem nJ:∀ns:aO,HT.lexLt ns ns=false
  |[]=>rfl
  |x::r=>by rw[HT.nG,ay rfl];exact nJ r
theorem Sj{i:Int}{p:Addr}(I:Inv X pins σ H s)(h:kE X.K H a [.int i,.ref p]):∃t,IsTup s.heap a [Value.int i t,Value.ref p].toArray:=by obtain⟨its,rv,ht,_⟩:=I.tuple h;obtain⟨u,v,rfl,ru,rv'⟩:=vals2 rv;obtain⟨t,rfl⟩:=ru;cases rv';exact⟨t,ht⟩
theorem FX:qz X (.builtin "isinstance") (fun xs H Q=>∃x T t b,xs=[x,.ty T]∧t9 X.K H x t∧kitOne X.K t (.type T)=some b∧Q (.bl b) H):=by intro pins s σ H xs us Q I r h;obtain⟨x,T,t,b,rfl,ty,e,q⟩:=h;obtain⟨u,v,rfl,ru,rv⟩:=vals2 r;cases rv;exact LG I ru ty e fun tk=>⟨.bl b,H,I.tok tk,rfl,q⟩
end
end L2
namespace Sl
open PySem PySem.W PyProof.Rows
variable {α β:Type}
def gL(lt:Nat→Nat→Bool):KasT α→α
  |.ret a=>a
  |.ask i j k=>gL lt (k (lt i j))
theorem nu(lt:Nat→Nat→Bool)(f:α→KasT β):∀t:KasT α,gL lt (t.bind f)=gL lt (f (gL lt t))
  |.ret _=>rfl
  |.ask i j k=>nu lt f (k (lt i j))
def pI(n:Nat)(P:α→Prop):KasT α→Prop
  |.ret a=>P a
  |.ask i j k=>i<n∧j<n∧∀b,pI n P (k b)
theorem pI.bind{P:α→Prop}{R:β→Prop}{f:α→KasT β}:∀{t:KasT α},pI n P t→(∀a,P a→pI n R (f a))→pI n R (t.bind f)
  |.ret a,h,hf=>hf a h
  |.ask _ _ _,h,hf=>⟨h.1,h.2.1,fun b=>pI.bind (h.2.2 b) hf⟩
theorem Ol{cmp:Nat→Nat→(Bool→Shared→Prop)→Shared→Prop}{S:Shared→Prop}{lt:Nat→Nat→Bool}{n:Nat}{P:α→Prop}{Q:α→Shared→Prop}(Sn:∀i j C s,i<n→j<n→S s→(∀s',S s'→C (lt i j) s')→cmp i j C s):∀(t:KasT α) (s:Shared),pI n P t→S s→(∀s',S s'→P (gL lt t)→Q (gL lt t) s')→t.kasWp cmp Q s
  |.ret a,s,h,hs,hq=>hq s hs h
  |.ask i j k,s,h,hs,hq=>Sn i j _ s h.1 h.2.1 hs fun s' FY=>Ol Sn (k (lt i j)) s' (h.2.2 _) FY hq
structure bq (n:Nat) (p:Array Nat):Prop where
  perm:p.Perm (List.range n).toArray
theorem bq.size(h:bq n p):p.size=n:=by rw[h.perm.size_eq];simp
theorem bq.lt(h:bq n p)(hn:0<n)(x:Nat):p.getD x 0<n:=by
  by_cases hx:x<p.size
  · have e:p.getD x 0=p[x]:=by simp[Array.getD,hx]
    rw[e];have hm:p[x]∈(List.range n):=by have:=(Dg.mp h.perm).mem_iff (a:=p[x]);simp only[Array.mem_toList_iff] at this;exact this.mp (by simp)
    exact mW.mp hm
  · have e:p.getD x 0=0:=by simp[Array.getD,hx]
    rw[e];exact hn
theorem bq.inj(h:bq n p)(hi:i<n)(hj:j<n)(e:p.getD i 0=p.getD j 0):i=j:=by
  have nd:p.toList.Nodup:=(Dg.mp h.perm).nodup_iff.mpr (by simpa using List.nodup_range);have Rp:i<p.toList.length:=by simpa[h.size] using hi
  have XZ:j<p.toList.length:=by simpa[h.size] using hj
  have Om:i<p.size:=by simpa using Rp
  have hj2:j<p.size:=by simpa using XZ
  simp only[Array.getD,Om,hj2,dif_pos] at e;exact(List.getElem_inj (h₀:=Rp) (h₁:=XZ) nd).mp (by rw[Array.getElem_toList,Array.getElem_toList];exact e)
theorem bq.rev(h:bq n p):bq n (kas_rev p i j):=⟨(mirror_perm _ _ _ _).trans h.perm⟩
theorem bq.bub(h:bq n p):bq n (bubble p i j):=⟨(bubble_perm _ _ _).trans h.perm⟩
theorem bq.id(n:Nat):bq n (List.toArray (List.range n)):=⟨Array.Perm.refl _⟩
theorem uL{q:Array Nat}(h:p[i]?=q[j]?):p.getD i 0=q.getD j 0:=by rw[Array.getD_eq_getD_getElem?,Array.getD_eq_getD_getElem?,h]
theorem JT(hj:j≤p.size)(k:Nat):(kas_rev p i j).getD k 0=if i≤k∧k<j then p.getD (i+j-1-k) 0 else p.getD k 0:=by
  have e:=getElem?_mirror_all (xs:=p) (i:=i) hj k;unfold kas_rev;by_cases h:i≤k∧k<j
  ·rw[ay h] at e⊢;exact uL e
  ·rw[aZ h] at e⊢;exact uL e
theorem JV{src d:Nat}(hs:src<p.size)(hd:d≤src)(k:Nat):(bubble p src d).getD k 0=if k=src-d then p.getD src 0 else if src-d<k∧k≤src then p.getD (k-1) 0 else p.getD k 0:=by
  have e:=getElem?_bubble hs d hd k;by_cases h1:k=src-d
  ·rw[ay h1] at e⊢;exact uL e
  · rw[aZ h1] at e⊢;by_cases h2:src-d<k∧k≤src
    ·rw[ay h2] at e⊢;exact uL e
    ·rw[aZ h2] at e⊢;exact uL e
structure kO (n:Nat) (lt:Nat→Nat→Bool):Prop where
  tr:∀i j k,i<n→j<n→k<n→lt i j=true→lt j k=true→lt i k=true
  Zb:∀i j,i<n→j<n→i≠j→lt i j=false→lt j i=true
def Up(lt:Nat→Nat→Bool)(p:Array Nat)(k:Nat):Prop:=∀i j,i<j→j<k→lt (p.getD i 0) (p.getD j 0)=true
def Down(lt:Nat→Nat→Bool)(p:Array Nat)(k:Nat):Prop:=∀i j,i<j→j<k→lt (p.getD j 0) (p.getD i 0)=true
section
variable {n:Nat} {lt:Nat→Nat→Bool} {p:Array Nat}
theorem Up.snoc(S:kO n lt)(P:bq n p)(hk:1≤k)(hkn:k<n)(h:Up lt p k)(e:lt (p.getD (k-1) 0) (p.getD k 0)=true):Up lt p (k+1):=fun i j wq hj=>by
  have l:=P.lt (by omega:0<n);by_cases Rq:j<k
  ·exact h i j wq Rq
  · have ej:j=k:=by omega
    subst ej;by_cases hi:i=j-1
    ·rw[hi];exact e
    ·exact S.tr _ _ _ (l _) (l _) (l _) (h i (j-1) (by omega) (by omega)) e
theorem Down.snoc(S:kO n lt)(P:bq n p)(hk:1≤k)(hkn:k<n)(h:Down lt p k)(e:lt (p.getD k 0) (p.getD (k-1) 0)=true):Down lt p (k+1):=fun i j wq hj=>by
  have l:=P.lt (by omega:0<n);by_cases Rq:j<k
  ·exact h i j wq Rq
  · have ej:j=k:=by omega
    subst ej;by_cases hi:i=j-1
    ·rw[hi];exact e
    ·exact S.tr _ _ _ (l _) (l _) (l _) e (h i (j-1) (by omega) (by omega))
theorem HM(S:kO n lt)(P:bq n p):∀(f k:Nat),1≤k→k+f=n→Up lt p k→k≤gL lt (kas_asc p f k)∧gL lt (kas_asc p f k)≤n∧Up lt p (gL lt (kas_asc p f k))∧(gL lt (kas_asc p f k)<n→lt (p.getD (gL lt (kas_asc p f k)) 0) (p.getD (gL lt (kas_asc p f k)-1) 0)=true)
  |0,k,h1,h2,h=>⟨cw _,by show k≤n;omega,h,fun z=>absurd (show k<n from z) (by omega)⟩
  |f+1,k,h1,h2,h=>by
   show k≤gL lt (if lt (p.getD k 0) (p.getD (k-1) 0)=true then _ else _)∧_;by_cases c:lt (p.getD k 0) (p.getD (k-1) 0)=true
   · simp only[kas_asc,gL,c,gK];refine⟨cw _,by omega,h,fun _=>?_⟩
     first|exact c|trivial
   · have c':lt (p.getD k 0) (p.getD (k-1) 0)=false:=by simpa using c
     have l:=P.lt (by omega:0<n);have e:lt (p.getD (k-1) 0) (p.getD k 0)=true:=S.Zb _ _ (l _) (l _) (fun z=>by have:=P.inj (by omega) (by omega) z;omega) c';have ih:=HM S P f (k+1) (by omega) (by omega) (h.snoc S P h1 (by omega) e);simp only[kas_asc,gL,c',t5,mZ];exact⟨by omega,ih.2⟩
theorem JW(S:kO n lt)(P:bq n p):∀(f k:Nat),1≤k→k+f=n→Down lt p k→∃m,gL lt (kas_desc f p k 0)=(p,m,0)∧k≤m∧m≤n∧Down lt p m
  |0,k,h1,h2,h=>⟨k,rfl,cw _,by omega,h⟩
  |f+1,k,h1,h2,h=>by
   have l:=P.lt (by omega:0<n);by_cases c:lt (p.getD k 0) (p.getD (k-1) 0)=true
   ·obtain⟨m,e,h3,h4,h5⟩:=JW S P f (k+1) (by omega) (by omega) (h.snoc S P h1 (by omega) c);refine⟨m,?_,by omega,h4,h5⟩;simp only[kas_desc,gL,c,gK,Nat.lt_irrefl,gt_iff_lt,mZ];exact e
   · have c':lt (p.getD k 0) (p.getD (k-1) 0)=false:=by simpa using c
     have e:lt (p.getD (k-1) 0) (p.getD k 0)=true:=S.Zb _ _ (l _) (l _) (fun z=>by have:=P.inj (by omega) (by omega) z;omega) c';refine⟨k,?_,cw _,by omega,h⟩;simp only[kas_desc,gL,c',t5,mZ,e,gK]
theorem Down.rev(P:bq n p)(hk:k≤n)(h:Down lt p k):Up lt (kas_rev p 0 k) k:=fun i j wq hj=>by
  have hz:k≤p.size:=by rw[P.size];exact hk
  rw[JT hz,JT hz,ay (by omega),ay (by omega)];exact h _ _ (by omega) (by omega)
theorem Oo(S:kO n lt)(P:bq n p)(h2:2≤n):∃m q,gL lt (kas_count n p)=(m,q)∧1≤m∧m≤n∧bq n q∧Up lt q m:=by
  have l:=P.lt (by omega:0<n);have a:=HM S P (n-1) 1 (cw _) (by omega) (fun i j wq hj=>by omega);unfold kas_count;rw[nu];generalize hm:gL lt (kas_asc p (n-1) 1)=m at a;obtain⟨a1,a2,a3,a4⟩:=a;by_cases hn:m=n
  ·subst hn;refine⟨m,p,?_,by omega,cw _,P,a3⟩;simp[gL]
  · have hb:(m==n)=false:=by simpa using hn
    simp only[hb,t5,mZ];by_cases h1:m>1
    ·have e:=a3 0 (m-1) (by omega) (by omega);refine⟨m,p,?_,by omega,a2,P,a3⟩;simp only[h1,gK,gL,e]
    · have em:m=1:=by omega
      subst em;simp only[gt_iff_lt,Nat.lt_irrefl,mZ];have d0:Down lt p 2:=fun i j wq hj=>by
        have ei:i=0:=by omega
        have ej:j=1:=by omega
        subst ei ej;exact a4 (by omega)
      obtain⟨m,e,h3,h4,h5⟩:=JW S P (n-2) 2 (by omega) (by omega) d0;unfold kas_descPart;rw[nu];have e':gL lt (kas_desc (n-(1+1)) p (1+1) 0)=(p,m,0):=e;rw[e'];simp only[gt_iff_lt,Nat.lt_irrefl,mZ];unfold kas_tail3;rw[nu];have P':bq n (kas_rev p 0 m):=P.rev;have b:=HM S P' (n-m) m (by omega) (by omega) (h5.rev P h4);exact⟨_,_,rfl,by show 1≤gL lt (kas_asc (kas_rev p 0 m) (n-m) m);omega,b.2.1,P',b.2.2.1⟩
theorem yT(S:kO n lt)(P:bq n p){k:Nat}(hk:k<n)(hU:Up lt p k):∀(f a b:Nat),a≤b→b≤k→b-a≤f→(∀i,i<a→lt (p.getD i 0) (p.getD k 0)=true)→(∀i,b≤i→i<k→lt (p.getD k 0) (p.getD i 0)=true)→gL lt (kas_place p k f a b)≤k∧(∀i,i<gL lt (kas_place p k f a b)→lt (p.getD i 0) (p.getD k 0)=true)∧(∀i,gL lt (kas_place p k f a b)≤i→i<k→lt (p.getD k 0) (p.getD i 0)=true)
  |0,a,b,oT,hbk,hf,hl,hh=>by
   have e:a=b:=by omega
   subst e;exact⟨hbk,hl,hh⟩
  |f+1,a,b,oT,hbk,hf,hl,hh=>by
   have l:=P.lt (by omega:0<n);by_cases Wm:a≥b
   · have e:a=b:=by omega
     subst e;simp only[kas_place,ge_iff_le,cw,gK,gL];exact⟨hbk,hl,hh⟩
   · have jO:a<b:=by omega
     by_cases c:lt (p.getD k 0) (p.getD ((a+b) / 2) 0)=true
     · have ih:=yT S P hk hU f a ((a+b) / 2) (by omega) (by omega) (by omega) hl (fun i h1 h2=>by
         by_cases e:i=(a+b) / 2
         ·rw[e];exact c
         ·exact S.tr _ _ _ (l _) (l _) (l _) c (hU _ _ (by omega) h2))
       simp only[kas_place,Wm,mZ,gL,c,gK];exact ih
     · have c':lt (p.getD k 0) (p.getD ((a+b) / 2) 0)=false:=by simpa using c
       have e:lt (p.getD ((a+b) / 2) 0) (p.getD k 0)=true:=S.Zb _ _ (l _) (l _) (fun z=>by have:=P.inj (by omega) (by omega) z;omega) c';have ih:=yT S P hk hU f ((a+b) / 2+1) b (by omega) hbk (by omega) (fun i h1=>by
         by_cases e':i=(a+b) / 2
         ·rw[e'];exact e
         ·exact S.tr _ _ _ (l _) (l _) (l _) (hU i ((a+b) / 2) (by omega) (by omega)) e) hh
       simp only[kas_place,Wm,mZ,gL,c',t5];exact ih
theorem Oq(S:kO n lt):∀(f:Nat) (p:Array Nat) (k:Nat),bq n p→k+f=n→Up lt p k→bq n (gL lt (kas_bin f p k))∧Up lt (gL lt (kas_bin f p k)) n
  |0,p,k,P,e,h=>by
   have ek:k=n:=by omega
   subst ek;exact⟨P,h⟩
  |f+1,p,k,P,e,h=>by
   have hk:k<n:=by omega
   obtain⟨h1,h2,h3⟩:=yT S P hk h k 0 k (by omega) (cw _) (by omega) (fun i hi=>by omega) (fun i h1 h2=>by omega);show bq n (gL lt ((kas_place p k k 0 k).bind _))∧Up lt (gL lt ((kas_place p k k 0 k).bind _)) n;rw[nu];generalize gL lt (kas_place p k k 0 k)=l at h1 h2 h3;refine Oq S f (bubble p k (k-l)) (k+1) P.bub (by omega) fun i j wq hj=>?_;have hs:k<p.size:=by rw[P.size];exact hk
   rw[JV hs (by omega),JV hs (by omega),show k-(k-l)=l by omega];by_cases c1:i=l
   ·rw[ay c1,aZ (show ¬ j=l by omega),ay (show l<j∧j≤k by omega)];exact h3 _ (by omega) (by omega)
   · rw[aZ c1];by_cases c2:l<i∧i≤k
     ·rw[ay c2,aZ (show ¬ j=l by omega),ay (show l<j∧j≤k by omega)];exact h _ _ (by omega) (by omega)
     · rw[aZ c2];by_cases c3:j=l
       ·rw[ay c3];exact h2 _ (by omega)
       · rw[aZ c3];by_cases c4:l<j∧j≤k
         ·rw[ay c4];exact h _ _ (by omega) (by omega)
         ·rw[aZ c4];exact h _ _ (by omega) (by omega)
theorem JX(S:kO n lt)(h2:2≤n):bq n (gL lt (kas_sort n))∧Up lt (gL lt (kas_sort n)) n:=by
  obtain⟨m,q,e,h1,h3,P,U⟩:=Oo S (bq.id n) h2;unfold kas_sort;rw[nu,e];by_cases hm:m<n
  · simp only[hm,gK];have em:max m 1=m:=by omega
    rw[em];exact Oq S (n-m) q m P (by omega) U
  · simp only[hm,mZ,gL];have em:m=n:=by omega
    subst em;exact⟨P,U⟩
end
section
variable {n:Nat}
theorem DH{p:Array Nat}(hn:0<n)(P:bq n p):∀(f k:Nat),pI n (fun _=>True) (kas_asc p f k)
  |0,_=>True.intro
  |f+1,k=>⟨P.lt hn _,P.lt hn _,fun b=>by
   cases b with
   |true=>exact True.intro
   |false=>exact DH hn P f (k+1)⟩
theorem uM(hn:0<n):∀(f:Nat) (p:Array Nat) (k q:Nat),bq n p→pI n (fun r=>bq n r.1) (kas_desc f p k q)
  |0,_,_,_,P=>P
  |f+1,p,k,q,P=>⟨P.lt hn _,P.lt hn _,fun b=>by
   cases b with
   |true =>
    simp only[gK];split
    ·exact uM hn f _ _ _ P.rev
    ·exact uM hn f _ _ _ P
   |false =>
    simp only[t5,mZ];refine⟨P.lt hn _,P.lt hn _,fun d=>?_⟩;cases d with
    |true=>exact P
    |false=>exact uM hn f _ _ _ P⟩
theorem FZ(hn:0<n)(P:bq n p)(k m:Nat):pI n (fun r=>bq n r.2) (kas_tail3 k m p):=by unfold kas_tail3;exact pI.bind (DH hn (P.rev (i:=0) (j:=k)) _ _) fun a _=>(P.rev (i:=0) (j:=k))
theorem F5(hn:0<n)(P:bq n p)(k m:Nat):pI n (fun r=>bq n r.2) (kas_descPart k m p):=by
  unfold kas_descPart;refine pI.bind (uM hn _ _ _ _ P) fun r hr=>?_;split
  ·exact FZ hn hr.rev _ _
  ·exact FZ hn hr _ _
theorem LZ(hn:0<n)(P:bq n p)(m:Nat):pI n (fun r=>bq n r.2) (kas_count m p):=by
  unfold kas_count;refine pI.bind (DH hn P _ _) fun r _=>?_;split
  ·exact P
  · split
    · refine⟨P.lt hn _,P.lt hn _,fun b=>?_⟩;cases b with
      |true=>exact P
      |false=>exact F5 hn P.rev _ _
    ·exact F5 hn P _ _
theorem wt{p:Array Nat}(hn:0<n)(P:bq n p)(k:Nat):∀(f a b:Nat),pI n (fun _=>True) (kas_place p k f a b)
  |0,_,_=>True.intro
  |f+1,a,b=>by
   unfold kas_place;split
   ·exact True.intro
   · refine⟨P.lt hn _,P.lt hn _,fun c=>?_⟩;cases c with
     |true=>exact wt hn P k f _ _
     |false=>exact wt hn P k f _ _
theorem JY(hn:0<n):∀(f:Nat) (p:Array Nat) (k:Nat),bq n p→pI n (bq n) (kas_bin f p k)
  |0,_,_,P=>P
  |f+1,p,k,P=>pI.bind (wt hn P k _ _ _) fun l _=>JY hn f _ _ P.bub
theorem F6(hn:0<n):pI n (bq n) (kas_sort n):=by
  unfold kas_sort;refine pI.bind (LZ hn (bq.id n) n) fun r hr=>?_;split
  ·exact JY hn _ _ _ hr
  ·exact hr
end
end Sl
namespace L2
open PySem
def x8(h:Heap)(d:Addr)(es:Array DictEntry)(ep:Nat):Prop:=∃o,h.get? d=some o∧o.ExactDict∧o.data=.dict es ep
section
variable {prog:Program} {w:World} {A:Around} {E:nD} {s:Shared}
theorem qB{d:Addr}{es:Array DictEntry}{ep:Nat}(hd:(d==sysModules)=false)(hm:x8 s.heap d es ep)(hQ:Q (.ref s.heap.objs.size) { s with heap:=s.heap.push { cls:=.type "dict_keyiterator",data:=.fields #[.ref d,.int 0 0,.int es.size 0,.int ep 0] } }):wpAny (model prog w) A (pyIter (.ref d)) Q E s:=by
  obtain⟨o,ho,hc,Ot⟩:=id hm;have hT:s.TypeIs (.ref d) "dict":=⟨o,ho,hc.1⟩
  refine wpAny_pyIter_slot hT F.slot_dict_iter (xX F.slot_dict_iter hT F.entry_dict_iter ?_ (F.args_dict_iter_1 _));unfold Builtin.«dict.__iter__»;refine bh ?_;unfold Builtin.Dict.dictSlotNone;refine bh (wpAny_notOrdered_dict hT ?_);show wpAny _ _ (pure (Value.ref d)) _ _ s;refine cX ?_;show wpAny _ _ (Builtin.Dict.showsAll d>>=_) _ _ s;unfold Builtin.Dict.showsAll;rw[aZ (by rw[hd];exact jx)];refine bh (cX ?_);refine bh (wpAny_dictEntries ho Ot ?_);refine bh (wpAny_dictEpoch ho Ot ?_);have hsz:es.size=es.size:=rfl;refine bh (xU (cX ⟨_,rfl,"dict_keyiterator",_,⟨_,iu _ rfl,rfl⟩,F.slot_dict_keyiterator_next.lookup,?_⟩));simpa[rawInt,hsz] using hQ
theorem lN{it d:Addr}{ep:Nat}{es:Array DictEntry}{Q:ni→Shared→Prop}(hit:s.heap.IsKeyIter it d i es.size ep)(hm:x8 s.heap d es ep)(jO:i<es.size)(hQ:∀h',h'.IsKeyIter it d (i+1) es.size ep→Heap.SameBut it s.heap h'→Q (some es[i].key) { s with heap:=h' }):wpAny (model prog w) A (pyNext (.ref it)) Q E s:=by
  obtain⟨o,ho,hc,hd⟩:=id hit;obtain⟨od,Zd,oA,Ze⟩:=id hm;unfold pyNext;refine bh (wpAny_attempt (wpAny_callSpecial?_slot (name:=Str.ofString "__next__") hit.typeIs F.slot_dict_keyiterator_next
    (xX F.slot_dict_keyiterator_next hit.typeIs F.entry_dict_keyiterator_next ?_ (F.args_dict_keyiterator_next_1 _))))
  refine bh (cX ?_);refine bh ?_;refine bh ?_
  first|refine bh (wpAny_typeNameOfWhole_keyiter hit.typeIs (cX ?_))|refine bh (wpAny_typeNameOf_keyiter hit.typeIs (cX ?_))
  refine bh (wpAny_fieldsOf ho hd ?_);have F7:Builtin.Dict_items.ownsTuple "dict_keyiterator"=false:=by decide
  simp only[F7,t5,mZ];show wpAny _ _ (if (Value.ref d==Value.none)=true then _ else _) _ _ s;rw[aZ (show ¬ ((Value.ref d==Value.none)=true) from jx)];refine bh (cX ?_);refine bh (wpAny_dictEntries Zd Ze ?_);have hsz:es.size=es.size:=rfl;rw[aZ (by rw[hsz];simp)];refine bh (cX ?_);refine bh (wpAny_dictEpoch Zd Ze ?_);rw[aZ (by simp)];refine cX ?_;have acp:i<es.size:=jO;simp only[show ¬ ((i:Int)<0) from by omega,mZ,Dj,A4 acp];refine bh ?_
  first|refine bh (wpAny_typeNameOfWhole_keyiter hit.typeIs (cX ?_))|refine bh (wpAny_typeNameOf_keyiter hit.typeIs (cX ?_))
  refine bh (wpAny_isOneOf_keyiter hit.typeIs ?_);show wpAny _ _ (setField (.ref it) 1 (rawInt ((i:Int)+1))>>=_) _ _ s;refine bh (wpAny_setField ho hd (by simp) ?_);have Bp:(s.heap.update it (Obj.mapFields (·.setIfInBounds 1 (rawInt ((i:Int)+1))))).IsKeyIter it d (i+1) es.size ep :=
    ⟨_,A7 _ ho (Obj.isFreed_of_fields (A9 hd _)),(Obj.cls_mapFields ..).trans hc,by rw[A9 hd];simp[rawInt]⟩
  refine bh (wc ?_);refine bh (wpAny_isOneOf_keyiter (s:={ s with heap:=s.heap.update it (Obj.mapFields (·.setIfInBounds 1 (rawInt ((i:Int)+1)))) }) Bp.typeIs ?_);show wpAny _ _ (pure es[i].key) _ _ _;exact cX (cX ⟨_,rfl,cX (hQ _ Bp (v7 ..))⟩)
theorem mQ{it d:Addr}{ep:Nat}{es:Array DictEntry}{Q:ni→Shared→Prop}(hh:A.handled=none)(hit:s.heap.IsKeyIter it d i es.size ep)(hm:x8 s.heap d es ep)(hx:es.size≤i)(hQ:∀h',Heap.ExtBut it s.heap h'→Q none { s with heap:=h' }):wpAny (model prog w) A (pyNext (.ref it)) Q E s:=by
  obtain⟨o,ho,hc,hd⟩:=id hit;obtain⟨od,Zd,oA,Ze⟩:=id hm;unfold pyNext;refine bh (wpAny_attempt (wpAny_callSpecial?_slot (name:=Str.ofString "__next__") hit.typeIs F.slot_dict_keyiterator_next
    (xX F.slot_dict_keyiterator_next hit.typeIs F.entry_dict_keyiterator_next ?_ (F.args_dict_keyiterator_next_1 _))))
  refine bh (cX ?_);refine bh ?_;refine bh ?_
  first|refine bh (wpAny_typeNameOfWhole_keyiter hit.typeIs (cX ?_))|refine bh (wpAny_typeNameOf_keyiter hit.typeIs (cX ?_))
  refine bh (wpAny_fieldsOf ho hd ?_);have F7:Builtin.Dict_items.ownsTuple "dict_keyiterator"=false:=by decide
  simp only[F7,t5,mZ];show wpAny _ _ (if (Value.ref d==Value.none)=true then _ else _) _ _ s;rw[aZ (show ¬ ((Value.ref d==Value.none)=true) from jx)];refine bh (cX ?_);refine bh (wpAny_dictEntries Zd Ze ?_);have hsz:es.size=es.size:=rfl;rw[aZ (by rw[hsz];simp)];refine bh (cX ?_);refine bh (wpAny_dictEpoch Zd Ze ?_);rw[aZ (by simp)];refine cX ?_;have Wm:es.size≤i:=hx;simp only[show ¬ ((i:Int)<0) from by omega,mZ,Dj,Array.getElem?_eq_none Wm];refine bh ?_
  first|refine bh (wpAny_typeNameOfWhole_keyiter hit.typeIs (cX ?_))|refine bh (wpAny_typeNameOf_keyiter hit.typeIs (cX ?_))
  show wpAny _ _ (setField (.ref it) 0 .none>>=_) _ _ s;refine bh (wpAny_setField ho hd (by simp) ?_);show wpAny _ _ (newExc (.type "StopIteration") []>>=_) _ _ _;refine bh ?_;simp only[newExc,newTuple];refine bh (xU ?_ (by size_fits));refine bh (m:=firstArgMember _ _) (uF (a:=Value.none) (by first|rfl|(simp only[firstArgMember];rfl)) ?_);refine xU ?_ (by size_fits);simp only[raiseNew];refine bh (wpAny_handled ?_);rw[show A.in1.handled=none from hh];refine bh (cX (wpAny_throw ?_));refine bh (wpAny_isInstance (T:="StopIteration") (b:=true) ⟨_,iu _ rfl,rfl⟩ isSubtype_stop ?_);exact cX (hQ _ (((v7 ..).extBut.push _).push _))
theorem Bq{d:Addr}(hd:(d==sysModules)=false):MeetsIn prog w (Builtin.«dict.__len__» ⟨[.ref d],[]⟩) (fun _ R s=>∃es ep,x8 s.heap d es ep∧R (.ok (.ret (.int es.size s.toks))) { s with toks:=s.toks+1 }) :=
  .of_wp fun A R s ⟨es,ep,hm,h⟩=>by obtain⟨o,ho,hc,Ot⟩:=hm;show wpAny _ _ (dictSize d>>=_) _ _ s;unfold dictSize;refine bh (bh (wpAny_dictEntries ho Ot (cX ?_)));show wpAny _ _ (Builtin.Dict.pendingCount d>>=_) _ _ s;refine bh (wpAny_pendingCount_other hd ?_);refine wpAny_ret_mkInt ?_;rw[Nat.add_zero];exact h
theorem Sr{d:Addr}{es:Array DictEntry}{ep:Nat}(hd:(d==sysModules)=false)(hm:x8 s.heap d es ep)(pZ:(es.size:Int)<2^63)(h:Q (.int es.size (s.toks+1)) { s with toks:=s.toks+1+1 }):wpAny (model prog w) A (call (.builtin "len") [.ref d]) Q E s:=by
  obtain⟨o,ho,hc,Ot⟩:=id hm;have hT:s.TypeIs (.ref d) "dict":=⟨o,ho,hc.1⟩
  refine Calls.call_function_entry kind_len plain_len entry_len (args_len1 _) ?_;unfold Builtin.«len»;refine bh (m:=oneArg "len" _) (cX ?_);refine bh (m:=callSpecial? (.ref d) (Str.ofString "__len__")) (wpAny_callSpecial?_slot (name:=Str.ofString "__len__") hT F.slot_dict_len
    (call_meetsIn F.slot_dict_len hT F.entry_dict_len (F.args_dict_len_1 _) (Bq hd) ⟨es,ep,hm,?_⟩))
  show wpAny _ _ _ _ _ { s with toks:=s.toks+1 };refine bh (wc (cX ?_));refine bh (wpAny_letGo ?_);show wpAny _ _ (if ((es.size:Nat):Int)<0 then _ else _) _ _ _;rw[aZ (by omega)];show wpAny _ _ (if ((es.size:Nat):Int)≥2^63 then _ else _) _ _ _;rw[aZ (by omega)];exact bh (wpAny_mkInt (cX ⟨_,rfl,h⟩))
end
end L2
namespace L2
open PySem PySem.Spec PyProof.Rows
section
variable {X:Cx} {pins:kJ} {σ:St} {H:Hp} {s:Shared}
theorem Inv.freeze{d:Addr}(I:Inv X pins σ H s)(h:H d=some (.dT aX)):∃o,s.heap.get? d=some o∧Inv X pins σ (upd H d (.t7 o (.dT aX))) s:=by
  obtain⟨z,y,xs,r,o,es,ep,h1,h2,h3,h4,h5⟩:=(show cx X.prog X.w H s.heap d (.dT aX) from I.cZ d _ h)
  refine⟨o,h1,⟨I.ok,I.os,I.bare,⟨I.base.keep,I.base.slot,fun b u e n hx=>?_,I.base.there,fun b xs e=>?_,fun b u xs e=>?_,fun b ps e=>?_⟩,I.loc,I.cell,?_,fun x c e=>?_,fun p hp=>?_,fun b u e=>?_,I.len⟩⟩
  ·have q:=I.base.free b u e n hx;rw[aK (fun z=>by rw[z,h] at q;cases q)];exact q
  ·have q:=I.base.qI b xs e;rw[aK (yI q h (fun z=>nomatch z))];exact q
  ·have q:=I.base.wg b u xs e;rw[aK (yI q h (fun z=>nomatch z))];exact q
  ·obtain⟨m,q⟩:=I.base.wj b ps e;exact⟨m,by rw[aK (yI q h (fun z=>nomatch z))];exact q⟩
  ·have q:=I.free;rw[aK (fun z=>by rw[z,h] at q;cases q)];exact q
  ·have q:=I.j4 x c e;rw[aK (fun z=>by rw[z,h] at q;cases q)];exact q
  ·obtain⟨e,n,rr⟩:=I.pin p hp;exact⟨e,by rw[aK (fun z=>by rw[z,h] at n;cases n)];exact n,rr⟩
  · have ho:∀c,H c=some (.own b)→upd H d (.t7 o (.dT aX)) c=some (.own b):=fun c q=>by
      rw[aK (yI q h (fun z=>nomatch z))];exact q
    have ht:∀c ys,H c=some (.tup ys)→upd H d (.t7 o (.dT aX)) c=some (.tup ys):=fun c ys q=>by rw[aK (yI q h (fun z=>nomatch z))];exact q
    by_cases hb:b=d
    ·subst hb;rw[aL] at e;cases e;exact⟨h1,(I.cZ b _ h).Be (fun _ _ _ q=>q) ho ht⟩
    ·rw[aK hb] at e;exact(I.cZ b u e).Be (fun _ _ _ q=>q) ho ht
end
def Itd(d:Addr)(o:Obj)(aX:List (List Key×V)):It :=
  ⟨fun i H=>H d=some (.t7 o (.dT aX))∧i<aX.length,fun i H x H'=>H'=H∧∃k v b,aX[i]?=some (k,v)∧x=.ref b∧H b=some (.tup (k.map kV)),fun i H=>H d=some (.t7 o (.dT aX))∧aX.length≤i⟩
theorem sD{α β:Type}{F:α→β→Prop}:∀{l:List α} {m:List β} {i:Nat} {x:α},Paired F l m→l[i]?=some x→∃y,m[i]?=some y∧F x y
  |_,_,_,_,.nil,e=>by simp at e
  |_,_,0,_,.cons r _,e=>by simp at e;subst e;exact⟨_,rfl,r⟩
  |_,_,i+1,x,.cons _ t,e=>by obtain⟨y,h1,h2⟩:=sD (i:=i) (x:=x) t (by simpa using e);exact⟨y,by simpa using h1,h2⟩
theorem L0(d it:Addr)(o:Obj)(aX:List (List Key×V))(es:Array DictEntry)(ep:Nat)(hx:o.ExactDict)(hd:o.data=.dict es ep)(hn:es.size=aX.length) :
    Turn P w K (.Name x px) (Itd d o aX) [it] it (fun i h=>h.IsKeyIter it d i es.size ep) where
  mem:=by simp
  obj:=fun i h st b hb=>by
    have e:b=it:=by simpa using hb
    subst e;obtain⟨o,e,c,dd⟩:=st;exact⟨o,e,fun v z=>by rw[dd] at z;cases z⟩
  keep:=fun i h h' st k=>by obtain⟨o,e,r⟩:=st;exact⟨o,k it (by simp) o e,r⟩
  item:=by
    intro X hP hw hK hc i pins s σ H E I hf st hg;subst hP hw hK;obtain⟨hH,hi⟩:=hg;obtain⟨g1,z,y,xs,r,o',es',ep',h1,h2,h3,h4,h5⟩:=(show cx X.prog X.w H s.heap d (.t7 o (.dT aX)) from I.cZ d _ hH)
    rw[g1] at h1;cases h1;rw[hd] at h3;injection h3 with e1 e2;subst e1 e2;obtain⟨f0,f1,f2,f3,f4,f5⟩:=hf it (by simp);refine lN st ⟨o,g1,hx,hd⟩ (by omega) fun h' st' sb=>?_;have I1:Inv X pins σ H { s with heap:=h' }:=I.turned (t':=s.toks) (fun b o hb e=>(sb.2 b hb).trans e) f0 f1 f3 f4 f5;obtain⟨q,hq,hk⟩:=sD (i:=i) (x:=aX[i]) r (by simp[hi]);have UH:es[i]'(by omega)=entryOfKey (tupleKind (fh X.prog X.w)) q:=by
      have e3:es.toList[i]?=some (entryOfKey (tupleKind (fh X.prog X.w)) q):=by rw[h4,qH,hq];rfl
      rw[Array.getElem?_toList,A4 (by omega)] at e3;exact ow e3
    refine⟨_,rfl,?_⟩;have go:∀(u:Value) (Q:Unit→Shared→Prop),Q () { s with heap:=h' }→wpAny (model X.prog X.w) X.A (letOwnedTupleGo (.Name x px) (.ref it) u) Q E { s with heap:=h' }:=fun u Q hq=>cX hq;refine go _ _ ⟨.ref q.2.1,H,I1,?_,⟨rfl,aX[i].1,aX[i].2,q.2.1,by simp[hi],rfl,hk.2.1⟩,st',fun b hb=>(hf b hb).1⟩;rw[UH];rfl
  done:=by
    intro X hP hw hK hc i pins s σ H E I hf st hg;subst hP hw hK;obtain⟨hH,hi⟩:=hg;obtain⟨g1,_⟩:=(show cx X.prog X.w H s.heap d (.t7 o (.dT aX)) from I.cZ d _ hH)
    obtain⟨f0,f1,f2,f3,f4,f5⟩:=hf it (by simp);exact mQ (I.ok.hd hc) st ⟨o,g1,hx,hd⟩ (by omega) fun h' eb=>⟨rfl,I.turned (t':=s.toks) (fun b o hb e=>eb b o hb e) f0 f1 f3 f4 f5⟩
  self:=fun _ _ _ _ _ st h=>wpAny_pyIter_keyiter st h
section
variable {X:Cx}
theorem L1:qz X (.builtin "len") (fun xs H Q=>∃a aX,xs=[V.ref a]∧Rd H a (.dT aX)∧Q (.int aX.length) H):=by
  intro pins s σ H xs us Q I r h;obtain⟨a,aX,rfl,ha,q⟩:=h;obtain⟨u,rfl,ru⟩:=vals1 r;cases ru;obtain⟨z,y,xs,r,o,es,ep,h1,h2,h3,h4,h5⟩:=(show cx X.prog X.w H s.heap a (.dT aX) from ha.ok I.cZ)
  have hn:es.size=aX.length:=by have e1:=il List.length h4;rw[g9,ou] at e1;rw[e1,wd r]
  refine Sr y ⟨o,h1,h2,h3⟩ (by rw[hn];have:=Dv;omega) ?_;rw[hn];exact⟨.int aX.length,H,I.tok _,⟨_,rfl⟩,q⟩
end
end L2
namespace L2
open PySem PySem.Spec PyProof.Rows PySem.W Sl
section
variable {prog:Program} {w:World} {A:Around} {E:nD} {s:Shared}
theorem HN(vs:dO)(h:vs.length<2):((vs.toArray.zip vs.toArray).map (·.2)).toList=(List.toArray ((List.range vs.length).toArray.toList.map fun i=>vs.getD i Value.none)).toList:=by
  cases vs with
  |nil=>simp
  |cons v t =>
   cases t with
   |nil=>simp
   |cons _ _=>simp only[mU] at h;omega
theorem DJ{vs:dO}{P:PySem.Fin→Shared→Prop}{lt:Nat→Nat→Bool}(ho:s.heap.get? a=some (seqObj "list" vs.toArray n))(yU:vs.length<64)(hk:2≤vs.length→∀(h':Heap),(∀b o,b≠a→s.heap.get? b=some o→h'.get? b=some o)→∀Q:SortKind→Shared→Prop,Q κ { s with heap:=h' }→wpAny (model prog w) A (keyKind' vs.toArray) Q E { s with heap:=h' })(jO:∀(h':Heap),(∀b o,b≠a→s.heap.get? b=some o→h'.get? b=some o)→∀i j (C:Bool→Shared→Prop),i<vs.length→j<vs.length→C (lt i j) { s with heap:=h' }→wpAny (model prog w) A (keyLt' κ (vs.getD i Value.none) (vs.getD j Value.none)) C (fun _ _=>False) { s with heap:=h' })(hS:kO vs.length lt)(h:∀p:Array Nat,bq vs.length p→Up lt p vs.length→P (.done (.ret .none)) { s with heap:=sortedHeap s.heap a vs (List.toArray (p.toList.map fun i=>vs.getD i Value.none)) }):wpAny (model prog w) A (Builtin.«list.sort» ⟨[.ref a],[]⟩) P E s:=by
  rw[list_sort_plain];have ha:a<s.heap.objs.size:=dj ho;refine bh (listItems_at ho rfl ?_);refine bh (listUpdate_at ho rfl ?_);obtain⟨e1,Rr⟩:∃e1,(s.heap.update a (Obj.mapSeq fun _=>#[])).get? a=some (seqObj "list" #[] e1):=⟨_,get?_update_seq ho (fun _=>#[])⟩
  refine bh (seqEpoch_at Rr rfl ?_);refine bh (wpAny_newTuple ?_);refine bh (wpAny_newList ?_);refine wc ?_;have ho6:(((s.heap.update a (Obj.mapSeq fun _=>#[])).push (seqObj "tuple" vs.toArray 0)).push (seqObj "list" #[] 0)).get? a=some (seqObj "list" #[] e1):=by rw[Heap.get?_push_ne _ _ _ (by rw[size_push',Heap.size_update];exact fV (Nat.lt_succ_of_lt ha)),Heap.get?_push_ne _ _ _ (by rw[Heap.size_update];exact fV ha)];exact Rr
  have keep:∀b o,b≠a→s.heap.get? b=some o→(((s.heap.update a (Obj.mapSeq fun _=>#[])).push (seqObj "tuple" vs.toArray 0)).push (seqObj "list" #[] 0)).get? b=some o:=fun b o hb e=>by refine eu _ (eu _ ?_);rw[Heap.get?_update_ne _ _ _ _ hb];exact e
  show wpAny (model prog w) A _ P E { s with heap:=((s.heap.update a (Obj.mapSeq fun _=>#[])).push (seqObj "tuple" vs.toArray 0)).push (seqObj "list" #[] 0) };dsimp only;have hsz:vs.toArray.size=vs.length:=by simp
  have fin:∀(out:Array Value),(∃p:Array Nat,bq vs.length p∧Up lt p vs.length∧out=List.toArray (p.toList.map fun i=>vs.getD i Value.none)) →
      P (.done (.ret .none)) { s with heap:=sortedHeap s.heap a vs out }:=by
    rintro out ⟨p,h1,h2,rfl⟩;exact h p h1 h2
  by_cases h2:vs.toArray.size<2
  · rw[ay h2,ay h2];refine bh (cX ?_);rw[StateT.run_pure];refine bh (cX ?_);dsimp only;refine bh (seqEpoch_at ho6 rfl ?_);refine bh (listUpdate_at ho6 rfl ?_ (hsz2:=by rw[Array.size_map];show(pairsOf vs).size≤_;rw[pairsOf_size,jc];omega));simp only[bne_self_eq_false,t5,mZ];refine cX (fin _ ⟨(List.range vs.length).toArray,bq.id _,fun i j wq hj=>?_,?_⟩)
    · have:vs.length<2:=by simpa using h2
      omega
    · have Nq:vs.length<2:=by simpa using h2
      show(vs.toArray.zip vs.toArray).map (·.2)=_;apply Array.toList_inj.mp;exact HN vs Nq
  · rw[aZ h2,aZ h2];have Nq:2≤vs.length:=by rw[hsz] at h2;omega
    refine bh (hk Nq _ keep _ ?_);have hw:(kas_sort vs.length).kasWp (kas_ask prog w A κ vs) (fun p qQ=>bq vs.length p∧Up lt p vs.length∧qQ={ s with heap:=((s.heap.update a (Obj.mapSeq fun _=>#[])).push (seqObj "tuple" vs.toArray 0)).push (seqObj "list" #[] 0) })
        { s with heap:=((s.heap.update a (Obj.mapSeq fun _=>#[])).push (seqObj "tuple" vs.toArray 0)).push (seqObj "list" #[] 0) }:=by
      refine Ol (S:=fun qQ=>qQ={ s with heap:=((s.heap.update a (Obj.mapSeq fun _=>#[])).push (seqObj "tuple" vs.toArray 0)).push (seqObj "list" #[] 0) }) (lt:=lt) (n:=vs.length) (P:=bq vs.length) (fun i j C qQ hi hj hs hc=>?_) _ _ (F6 (by omega)) rfl (fun qQ hs _=>?_)
      ·subst hs;exact jO _ keep i j C hi hj (hc _ rfl)
      ·obtain⟨q1,q2⟩:=JX hS Nq;exact⟨q1,q2,hs⟩
    refine bh (mY (kat_run (ks:=vs) (vs:=vs) (Q:=fun st' qQ=>∃p:Array Nat,arrOf st'=p.map (kas_item (vs.toArray.zip vs.toArray))∧failedOf st'=none∧bq vs.length p∧Up lt p vs.length∧qQ={ s with heap:=((s.heap.update a (Obj.mapSeq fun _=>#[])).push (seqObj "tuple" vs.toArray 0)).push (seqObj "list" #[] 0) })
      rfl Nq yU (fun p st' qQ _ e f g=>⟨p,e,f,g.1,g.2.1,g.2.2⟩) hw) ?_ fun _ _ e=>e)
    rintro⟨⟨⟩,st'⟩ s' ⟨p,Zf,hf,hP,hU,rfl⟩;dsimp only;have Ss:=kat_snds (ks:=vs) (vs:=vs) rfl Zf;have Ou:p.toList.length=vs.length:=by rw[ou];exact hP.size
    refine bh (seqEpoch_at ho6 rfl ?_);refine bh (listUpdate_at ho6 rfl ?_ (hsz2:=by rw[Ss];simp only[j3,g9];rw[Ou,jc];omega));rw[hf];simp only[bne_self_eq_false,t5,mZ];exact cX (fin _ ⟨p,hP,hU,Ss⟩)
theorem L3{l:Addr}{vs:dO}{lt:Nat→Nat→Bool}(hl:s.heap.IsList l vs.toArray)(yU:vs.length<64)(hk:2≤vs.length→∀(h':Heap),(∀b o,s.heap.get? b=some o→h'.get? b=some o)→∀Q:SortKind→Shared→Prop,Q κ { s with heap:=h' }→wpAny (model prog w) A.in1.in1 (keyKind' vs.toArray) Q (fun _ _=>False) { s with heap:=h' })(jO:∀(h':Heap),(∀b o,s.heap.get? b=some o→h'.get? b=some o)→∀i j (C:Bool→Shared→Prop),i<vs.length→j<vs.length→C (lt i j) { s with heap:=h' }→wpAny (model prog w) A.in1.in1 (keyLt' κ (vs.getD i Value.none) (vs.getD j Value.none)) C (fun _ _=>False) { s with heap:=h' })(hS:kO vs.length lt)(h:∀p:Array Nat,bq vs.length p→Up lt p vs.length→Q (.ref (s.heap.objs.size+1)) { s with heap:=sortedAll s.heap vs (List.toArray (p.toList.map fun i=>vs.getD i Value.none)) }):wpAny (model prog w) A (call (.builtin "sorted") [.ref l]) Q E s:=by
  refine Calls.call_function_entry kind_sorted plain_sorted entry_sorted (args_sorted1 _) ?_;unfold Builtin.«sorted»;refine bh (m:=checkCount "sorted" 1 1 _) (cX ?_);refine bh (collect_list hl ?_ (by rw[jc];omega));refine bh (wpAny_newList ?_ (by rw[jc];omega));have hsz:((s.heap.push (seqObj "list" #[] 0)).update s.heap.objs.size (Obj.mapSeq (·++vs.toArray))).objs.size=s.heap.objs.size+1:=by rw[Heap.size_update,size_push']
  have JD:(((s.heap.push (seqObj "list" #[] 0)).update s.heap.objs.size (Obj.mapSeq (·++vs.toArray))).push (seqObj "list" vs.toArray 0)).get? (s.heap.objs.size+1)=some (seqObj "list" vs.toArray 0):=by rw[←hsz];exact iu _ rfl
  have keep:∀b o,s.heap.get? b=some o→(((s.heap.push (seqObj "list" #[] 0)).update s.heap.objs.size (Obj.mapSeq (·++vs.toArray))).push (seqObj "list" vs.toArray 0)).get? b=some o:=fun b o q=>by have jO:b<s.heap.objs.size:=dj q;rw[Heap.get?_push_ne _ _ _ (by rw[hsz];exact fV (Nat.lt_succ_of_lt jO)),Heap.get?_update_ne _ _ _ _ (fV jO),Heap.get?_push_ne _ _ _ (fV jO)];exact q
  have nea:∀b o,s.heap.get? b=some o→b≠s.heap.objs.size+1:=fun b o q=>fV (Nat.lt_succ_of_lt (dj q));show wpAny _ _ _ _ _ { s with heap:=((s.heap.push (seqObj "list" #[] 0)).update s.heap.objs.size (Obj.mapSeq (·++vs.toArray))).push (seqObj "list" vs.toArray 0) };rw[hsz];refine bh (wc (xX slot_list_sort ⟨_,JD,rfl⟩ entry_list_sort ?body (args_list_sort _)))
  case body =>
    refine mY (DJ (A:=A.in1.in1) (E:=fun _ _=>False) (κ:=κ) (lt:=lt) (s:={ s with heap:=((s.heap.push (seqObj "list" #[] 0)).update s.heap.objs.size (Obj.mapSeq (·++vs.toArray))).push (seqObj "list" vs.toArray 0) }) JD yU
      (fun h2 h' kk Q' hq=>hk h2 h' (fun b o e=>kk b o (nea b o e) (keep b o e)) Q' hq)
      (fun h' kk i j C hi hj hc=>jO h' (fun b o e=>kk b o (nea b o e) (keep b o e)) i j C hi hj hc) hS
      (P:=fun f s'=>∃p:Array Nat,bq vs.length p∧Up lt p vs.length∧f=.done (.ret .none)∧s'={ s with heap:=sortedAll s.heap vs (List.toArray (p.toList.map fun i=>vs.getD i Value.none)) })
      (fun p h1 h2=>⟨p,h1,h2,rfl,rfl⟩)) (fun f s' hf=>?_) fun _ _ e=>e.elim
    obtain⟨p,h1,h2,rfl,rfl⟩:=hf;exact⟨_,rfl,cX ⟨_,rfl,h p h1 h2⟩⟩
end
def pJ(d e:Int×aO):Bool:=if d.1=e.1 then HT.lexLt d.2 e.2 else decide (d.1<e.1)
theorem uN:∀{a b c:aO},HT.lexLt a b=true→HT.lexLt b c=true→HT.lexLt a c=true
  |[],[],_,h,_=>by simp[HT.tK] at h
  |[],_::_,[],_,h=>by simp[HT.j6] at h
  |[],_::_,_::_,_,_=>rfl
  |_::_,[],_,h,_=>by simp[HT.j6] at h
  |_::_,_::_,[],_,h=>by simp[HT.j6] at h
  |x::r,y::t,z::u,h1,h2=>by
   rw[HT.nG] at h1 h2⊢;by_cases e1:x=y
   · rw[ay e1] at h1;by_cases e2:y=z
     ·rw[ay e2] at h2;rw[ay (e1.trans e2)];exact uN h1 h2
     ·rw[aZ e2] at h2;rw[aZ (fun q=>e2 (e1.symm.trans q)),e1];exact h2
   · rw[aZ e1] at h1;have l1:x<y:=by simpa using h1
     by_cases e2:y=z
     ·rw[aZ (fun q=>e1 (q.trans e2.symm)),←e2];exact h1
     · rw[aZ e2] at h2;have l2:y<z:=by simpa using h2
       rw[aZ (by omega)];simp;omega
theorem sE:∀{a b:aO},a≠b→HT.lexLt a b=false→HT.lexLt b a=true
  |[],[],h,_=>absurd rfl h
  |[],_::_,_,h=>by simp[HT.qS] at h
  |_::_,[],_,_=>rfl
  |x::r,y::t,hE,h=>by
   rw[HT.nG] at h⊢;by_cases e:x=y
   ·rw[ay e] at h;rw[ay e.symm];exact sE (fun q=>hE (by rw[e,q])) h
   · rw[aZ e] at h;rw[aZ (fun q=>e q.symm)];have:¬ x<y:=by simpa using h
     simp;omega
theorem yV{a b c:Int×aO}(h1:pJ a b=true)(h2:pJ b c=true):pJ a c=true:=by
  unfold pJ at *;by_cases e1:a.1=b.1
  · rw[ay e1] at h1;by_cases e2:b.1=c.1
    ·rw[ay e2] at h2;rw[ay (e1.trans e2)];exact uN h1 h2
    ·rw[aZ e2] at h2;rw[aZ (fun q=>e2 (e1.symm.trans q)),e1];exact h2
  · rw[aZ e1] at h1;have l1:a.1<b.1:=by simpa using h1
    by_cases e2:b.1=c.1
    ·rw[aZ (fun q=>e1 (q.trans e2.symm)),←e2];exact h1
    · rw[aZ e2] at h2;have l2:b.1<c.1:=by simpa using h2
      rw[aZ (by omega)];simp;omega
theorem yu{a b:Int×aO}(hE:a≠b)(h:pJ a b=false):pJ b a=true:=by
  unfold pJ at *;by_cases e:a.1=b.1
  ·rw[ay e] at h;rw[ay e.symm];exact sE (fun q=>hE (Prod.ext e q)) h
  · rw[aZ e] at h;rw[aZ (fun q=>e q.symm)];have:¬ a.1<b.1:=by simpa using h
    simp;omega
def pairAt(H:Hp)(v:V)(d:Int×aO):Prop:=∃a p,v=.ref a∧H a=some (.tup [.int d.1,.ref p])∧H p=some (.tup (d.2.map V.int))
theorem pairAt.same{d:Int×aO}(x:pairAt H v d)(s:cF H H'):pairAt H' v d:=by obtain⟨a,p,e,h1,h2⟩:=x;exact⟨a,p,e,s _ _ h1,s _ _ h2⟩
theorem qW{α:Type}(l:List α)(d:α):(List.range l.length).map (fun i=>l.getD i d)=l:=by
  refine List.ext_getElem? fun i=>?_;rw[qH];by_cases h:i<l.length
  ·rw[List.getElem?_range h,mS h];simp[nE,h]
  ·rw[A5 (by simpa using h),A5 (by simpa using h)];rfl
theorem DK{α:Type}{l:List α}(d:α)(h:bq l.length p):(p.toList.map fun i=>l.getD i d).Perm l:=by
  have h1:p.toList.Perm (List.range l.length):=by simpa using Dg.mp h.perm
  have h2:=h1.map (fun i=>l.getD i d);rw[qW] at h2;exact h2
theorem qX{α:Type}{l:List α}(d:α)(R:α→α→Bool)(hn:bq l.length p)(h:Up (fun i j=>R (l.getD i d) (l.getD j d)) p l.length):(p.toList.map fun i=>l.getD i d).Pairwise (fun a b=>R a b=true):=by
  rw[List.pairwise_iff_getElem];intro i j hi hj wq;simp only[List.getElem_map,Array.getElem_toList];have hs:=hn.size;have XZ:j<p.size:=by simpa using hj
  have Rp:i<p.size:=by simpa using hi
  have q:=h i j wq (by omega);have e1:p.getD i 0=p[i]:=by simp[Array.getD,Rp]
  have e2:p.getD j 0=p[j]:=by simp[Array.getD,XZ]
  rw[e1,e2] at q;exact q
theorem bp{α β:Type}{F:α→β→Prop}{l:List α}{m:List β}(h:Paired F l m)(hi:i<l.length)(d:α)(e:β):F (l.getD i d) (m.getD i e):=by obtain⟨y,h1,h2⟩:=sD (i:=i) (x:=l[i]) h (by simp[hi]);rw[nE,nE,h1,mS hi];exact h2
theorem jz{α β γ:Type}{F:α→β→Prop}(f:γ→α)(g:γ→β):∀{l:List γ},(∀x∈l,F (f x) (g x))→Paired F (l.map f) (l.map g)
  |[],_=>.nil
  |x::r,h=>.cons (h x cY) (jz f g fun y hy=>h y (ly _ hy))
section
variable {X:Cx}
theorem tM(hd:ds.Nodup):kO ds.length (fun i j=>pJ (ds.getD i (0,[])) (ds.getD j (0,[]))) where
  tr:=fun i j k _ _ _ h1 h2=>yV h1 h2
  Zb:=fun i j hi hj hE h=>yu (fun q=>hE (by
    rw[nE,nE,mS hi,mS hj] at q;exact(List.getElem_inj hd).mp q)) h
theorem sF(I:Inv X pins σ H s){d:Int×aO}(r:RelV v u)(h:pairAt H v d):∃a p t its,u=.ref a∧IsTup s.heap a [Value.int d.1 t,Value.ref p].toArray∧IsTup s.heap p its.toArray∧Vals (d.2.map V.int) its:=by
  obtain⟨a,p,rfl,h1,h2⟩:=h;cases r;obtain⟨t,ht⟩:=Sj I (kE.of h1);obtain⟨its,rv,hp,_⟩:=I.tuple (kE.of h2);exact⟨a,p,t,its,rfl,ht,hp,rv⟩
theorem DQ(hu:X.A.units+5<cLine):qz X (.builtin "sorted") (fun xs H Q=>∃p vs ds,xs=[.ref p]∧m4 X.K H p vs∧Paired (pairAt H) vs ds∧ds.Nodup∧vs.length<64∧∀l Zg tu,H l=none→Paired (pairAt H) Zg tu→tu.Perm ds→tu.Pairwise (fun a b=>pJ a b=true)→Q (.ref l) (upd H l (.lst Zg))):=by
  intro pins s σ H xs us Q I r h;obtain⟨p,vs,ds,rfl,hq,hp,A1,yU,h⟩:=h;obtain⟨u,rfl,ru⟩:=vals1 r;cases ru;obtain⟨its,rv,hl,_⟩:=I.list hq;have l1:vs.length=its.length:=rv.length;have l2:vs.length=ds.length:=hp.length;have at_:∀i,i<its.length→∃a q t js,its.getD i Value.none=.ref a∧IsTup s.heap a [Value.int (ds.getD i (0,[])).1 t,Value.ref q].toArray∧IsTup s.heap q js.toArray∧Vals ((ds.getD i (0,[])).2.map V.int) js:=fun i hi =>
    sF I (bp rv (by omega) V.non Value.none) (bp hp (by omega) V.non (0,[]))
  have yW:∀{h':Heap} {a:Addr} {zs:Array Value},(∀b o,s.heap.get? b=some o→h'.get? b=some o)→IsTup s.heap a zs→IsTup h' a zs:=fun {h' a zs} k ⟨o,e,c⟩=>⟨o,k _ _ e,c⟩
  have hS:=tM A1;rw[←l2,l1] at hS;refine L3 (κ:=tuples' true) (lt:=fun i j=>pJ (ds.getD i (0,[])) (ds.getD j (0,[]))) hl.isList (by omega) (fun h2 h' kk Q' hq'=>?_) (fun h' kk i j C hi hj hc=>?_) hS (fun pm hP hU=>?_)
  · have qI:∀(vl:dO),(∀v∈vl,∃a n t q,v=.ref a∧IsTup h' a [Value.int n t,Value.ref q].toArray)→∃fs:dO,KatTups h' vl fs∧fs.length=vl.length∧∀v∈fs,∃n t,v=.int n t:=by
      intro vl;induction vl with
      |nil=>intro _;exact⟨[],trivial,rfl,fun _ z=>nomatch z⟩
      |cons v r ih =>
       intro hv;obtain⟨a,n,t,q,rfl,o,e,c,m,dd⟩:=hv v cY;obtain⟨fs,k1,k2,k3⟩:=ih fun y hy=>hv y (ly _ hy);refine⟨.int n t::fs,⟨⟨a,o,_,m,rfl,e,c,dd,rfl⟩,k1⟩,by simp[k2],fun y hy=>?_⟩;rcases fR.mp hy with z|z
       ·exact⟨n,t,z⟩
       ·exact k3 y z
    obtain⟨fs,k1,k2,k3⟩:=qI its (fun v hv=>by
      obtain⟨i,hi,rfl⟩:=List.mem_iff_getElem.mp hv;obtain⟨a,q,t,js,e1,e2,_⟩:=at_ i hi;rw[nE,mS hi] at e1;exact⟨a,_,t,q,e1,yW kk e2⟩)
    refine kat_kind (s:={ s with heap:=h' }) (T:=.type "int") k1 (by omega) (fun v hv=>?_) rfl ?_
    ·obtain⟨n,t,rfl⟩:=k3 v hv;exact Looks.of_pure rfl
    ·exact hq'
  · obtain⟨a,q,t,js,e1,e2,e3,e4⟩:=at_ i hi;obtain⟨b,q',t',js',f1,f2,f3,f4⟩:=at_ j hj;rw[e1,f1];obtain⟨oa,ga,_,na,da⟩:=yW kk e2;obtain⟨ob,gb,_,nb,db⟩:=yW kk f2;have Wl:X.A.in1.in1.units<cLine:=by rw[in1_units,in1_units];omega
    refine kat_lt (s:={ s with heap:=h' }) ga da gb db ?_;refine kat_cons (SeqAt.EqAt.int_int _ _ _ _ _ _ _ _ (kat_go (fun e=>kat_yes ?_) (fun e=>kat_no ?_)))
    · have wq:(ds.getD i (0,[])).1=(ds.getD j (0,[])).1:=by simpa using e
      have Dr:C (HT.lexLt (ds.getD i (0,[])).2 (ds.getD j (0,[])).2) { s with heap:=h' }:=by have e5:pJ (ds.getD i (0,[])) (ds.getD j (0,[]))=HT.lexLt (ds.getD i (0,[])).2 (ds.getD j (0,[])).2:=ay wq;rw[←e5];exact hc
      refine kat_cons (B8 (s:={ s with heap:=h' }) (yW kk e3) (yW kk f3) e4 f4 Wl _ _ _ _ (kat_go (fun e'=>kat_yes (kat_nil ?_)) (fun e'=>kat_no ?_)))
      · have e6:(ds.getD i (0,[])).2=(ds.getD j (0,[])).2:=by simpa using e'
        rw[e6,nJ] at Dr;exact Dr
      ·refine kat_one _ _ ?_;refine HT.yM (s:={ s with heap:=h' }) (yW kk e3) (yW kk f3) (by simpa using intsAre_of e4) (by simpa using intsAre_of f4) Wl ?_;exact Dr
    · have wq:¬ (ds.getD i (0,[])).1=(ds.getD j (0,[])).1:=by simpa using e
      refine oneLt_int ?_;have e5:pJ (ds.getD i (0,[])) (ds.getD j (0,[]))=decide ((ds.getD i (0,[])).1<(ds.getD j (0,[])).1):=aZ wq;rw[←e5];exact hc
  · have UI:bq ds.length pm:=by rw[←l2,l1];exact hP
    have Wn:bq vs.length pm:=by rw[l1];exact hP
    have hm:∀i∈pm.toList,i<vs.length:=fun i hi=>by
      have:=(Dg.mp hP.perm).mem_iff.mp hi;have h3:i<its.length:=by simpa using this
      omega
    have h1:=h (s.heap.objs.size+1) (pm.toList.map fun i=>vs.getD i V.non) (pm.toList.map fun i=>ds.getD i (0,[])) (I.cZ.fresh (by omega)) (jz _ _ fun i hi=>bp hp (hm i hi) _ _) (DK _ UI)
      (qX (0,[]) pJ UI (by rw[←l2,l1];exact hU))
    obtain⟨e,he⟩:=sortedAll_at s.heap its (List.toArray (pm.toList.map fun i=>its.getD i Value.none));refine⟨.ref (s.heap.objs.size+1),_,I.laid (a:=s.heap.objs.size+1) (o:=.lst (pm.toList.map fun i=>vs.getD i V.non)) (t':=s.toks) (fun b o q=>sortedAll_old q) (by omega) ⟨?_,pm.toList.map fun i=>its.getD i Value.none,e,jz _ _ fun i hi=>bp rv (hm i hi) _ _,he⟩,rfl,h1⟩;rw[g9,ou,Wn.size,jc];omega
end
end L2
namespace L2
open PySem PySem.Spec PyProof.Rows PySem.W
section
variable {X:Cx}
theorem qY(hc:X.calm=true):qz X (.builtin "sum") (fun xs H Q=>∃(p:Addr) (ns:aO),xs=[.ref p]∧m4 X.K H p (ns.map V.int)∧Q (.int ns.sum) H):=by
  intro pins s σ H xs us Q I r h;obtain⟨p,ns,rfl,hq,q⟩:=h;obtain⟨u,rfl,ru⟩:=vals1 r;cases ru;obtain⟨its,rv,hl,_⟩:=I.list hq;have hi:=intsAre_of rv;obtain⟨zs,ez⟩:=hi.allInts.items;refine sum_intListG (xs:=zs) (I.ok.hd hc) (by rw[←ez];exact hl.isList) fun h' tk t' hk=>?_;have e:preSum (numAt zs) zs.size=ns.sum:=by
    have e1:numsOf its=ns:=hi.numsOf;have e2:numsOf (intItems zs).toList=numsOf its:=by rw[←ez]
    rw[nums_intItems] at e2;rw[preSum_eq,Ht (by simp),e2,e1]
  rw[e];exact⟨.int ns.sum,H,I.kept hk,⟨_,rfl⟩,q⟩
end
end L2
namespace L2
open PySem PySem.Spec PyProof.Rows
structure fW (P:Program) (w:World) (K:PySem.W.Frag) (mg:Str→ni) (base:Heap) (k:Nat) (f:Addr) (ps:gs) (sp:Sp):Prop where
  ex:∃fd,cG P w K mg base i9 k f fd ps sp∧Binds K fd ps []∧keepIn K (.ref f)=true
theorem DR{f:Addr}{ps:gs}{sp:Sp}{p:Pos}{es:List Expr}{t:TA}(C:fW X.prog X.w X.K X.mg X.base k f ps sp)(hr:fI k X.A)(hg:Gl X x)(hm:X.mg x=some (.ref f))(ha:PA X (e::es) t)(ti:(x==("__debug__":Str))=false:=by decide)(he:starEach (e::es) X.env=(false,eval e X.env)::starEach es X.env:=by rfl)(tj:(backTo pos (starEach es X.env)).any (·.1)=false:=by rfl):PE X (.Call (.Name x p) (e::es) [] pos) (UB sp [] E0 t):=by
  obtain⟨fd,G,b,kp⟩:=C.ex;exact RT G hr hg hm kp b .nil UE ha ti he tj
theorem fq{p:Addr}(h:H p=none)(o:HO):cF H (upd H p o):=fun b u q=>by rw[aK (bN q h)];exact q
theorem yX(n:Int):∀ms:aO,XW (.int n) (ms.map V.int)=ms.contains n
  |[]=>rfl
  |m::r=>by
   have ih:=yX n r;show(R7 (V.int m) (V.int n)||XW (.int n) (r.map V.int))=_;rw[ih,List.contains_cons]
   congr 1
   show(m==n)=(n==m)
   rw[Bb];simp;exact eq_comm
theorem JZ(h:n≤1000):n≤sizeLine:=Nat.le_of_lt (LW h)
def J0(ns ms:aO):Nat:=(ns.filter fun n=>ms.contains n).length
theorem Wo(ns ms:aO):J0 ns ms≤ns.length:=List.length_filter_le _ _
def Br:aO:=[0,60,90,110,125,137,147]
def bG(hs:dq)(ms:aO):Int:=(hs.map fun h=>h.2*Br.getD (J0 h.1 ms) 0).sum
def Zh:Nat→Int
  |0=>0
  |n+1=>Zh n+60 / (1+n)
theorem abd(h:n≤6):Zh n=Br.getD n 0:=by
  have:n=0∨n=1∨n=2∨n=3∨n=4∨n=5∨n=6:=by omega
  rcases this with rfl|rfl|rfl|rfl|rfl|rfl|rfl<;>decide
theorem Sv(h:n≤6):-(2^64)<Br.getD n 0∧Br.getD n 0<2^64:=by
  have:n=0∨n=1∨n=2∨n=3∨n=4∨n=5∨n=6:=by omega
  rcases this with rfl|rfl|rfl|rfl|rfl|rfl|rfl<;>decide
def cO(count:Int)(ns:aO):Prop:=ns.Pairwise (·<·)∧∀n∈ns,0≤n∧n<count
theorem Ov(n:Nat):((List.range n).map fun i:Nat=>(0:Int)+(i:Int)).Pairwise (·<·):=by rw[Dh];exact List.pairwise_lt_range.imp fun h=>by omega
theorem F8(n:Nat)(p:Int→Bool):cO (n:Int) (((List.range n).map fun i:Nat=>(0:Int)+(i:Int)).filter p):=by refine⟨(Ov n).filter _,fun x hx=>?_⟩;obtain⟨i,hi,rfl⟩:=ja.mp (jy.mp hx).1;have:=mW.mp hi;omega
theorem cO.filter{count:Int}(h:cO count ns)(p:Int→Bool):cO count (ns.filter p):=⟨h.1.filter _,fun x hx=>h.2 x (jy.mp hx).1⟩
theorem B9:∀{ns:aO} {lo:Int} {k:Nat},ns.Pairwise (·<·)→(∀n∈ns,lo≤n∧n<lo+k)→ns.length≤k
  |[],_,_,_,_=>sZ _
  |x::r,lo,k,hp,hb=>by
   obtain⟨h1,h2⟩:=List.pairwise_cons.mp hp;have hx:=hb x cY;cases k with
   |zero=>omega
   |succ k =>
    have ih:=B9 (ns:=r) (lo:=lo+1) (k:=k) h2 fun n hn=>by have a:=h1 n hn;have b:=hb n (ly _ hn);omega
    simp only[mU];omega
theorem cO.Rt{count:Int}(h:cO count ns)(hc:count≤6):ns.length≤6 :=
  B9 (lo:=0) (k:=6) h.1 fun n hn=>by have:=h.2 n hn;omega
def Ow(k:List Key):aO:=k.map fun x=>match x with|.inl i=>i|.inr _=>0
theorem Ca(ns:aO):Ow (ns.map Sum.inl)=ns:=by unfold Ow;rw[e9];exact List.map_id' ns
structure DOk (count:Int) (aX:List (List Key×V)):Prop where
  nd:(aX.map (·.1)).Nodup
  all:∀kv∈aX,∃(ns:aO) (m:Int),kv=(ns.map Sum.inl,.int m)∧cO count ns∧1≤m
structure J1 (count:Int) (hs:dq):Prop where
  ne:hs≠[]
  all:∀h∈hs,cO count h.1∧1≤h.2
  up:hs.Pairwise (fun a b=>pJ ((a.1.length:Int),a.1) ((b.1.length:Int),b.1)=true)
  len:hs.length≤63
end L2
namespace DL
open PySem PySem.Spec PyProof.Rows L2
inductive D where
  |non|bl (b:Bool)|int (i:Int)|str (x:Str)|tup (xs:List D)|lst (xs:List D)|obj (C:Addr)|exc (C:Addr)
def Zi(a C:Addr)(h:Heap):Prop:=∃o,h.get? a=some o∧o.cls=.ref C
def Zj:Str:="Most.order"
def DU:Str:="Most.order.<locals>.<lambda>"
def lZ(K:PySem.W.Frag):Option (Addr×Addr):=(K.find? fun p=>codeIn K (.ref p.1) Zj).bind fun p=>match p.2.data with
  |.fields vs=>(match (vs[11]?:ni) with|some (.ref P)=>some (p.1,P)|_=>none)
  |_=>none
def kP(K:PySem.W.Frag)(F:Hp):Prop:=∀c P,lZ K=some (c,P)→F P=some (.Fj #[.str DU 0])
theorem kP.mono(t:kP K F)(s:cF F F'):kP K F':=fun c P e=>s _ _ (t c P e)
mutual
def Den(K:PySem.W.Frag)(F:Hp):D→V→Prop
  |.non,v=>v=.non
  |.bl b,v=>v=.bl b
  |.int i,v=>v=.int i
  |.str x,v=>v=.str x
  |.tup ds,v=>∃a vs,v=.ref a∧F a=some (.tup vs)∧cy K F ds vs
  |.lst ds,v=>∃a vs,v=.ref a∧m4 K F a vs∧cy K F ds vs
  |.obj C,v=>∃a dx,v=.ref a∧F a=some (.ins C dx [])∧kP K F
  |.exc C,v=>∃a,v=.ref a∧F a=some (.ext (Zi a C))
def cy(K:PySem.W.Frag)(F:Hp):List D→List V→Prop
  |[],vs=>vs=[]
  |d::ds,vs=>∃v r,vs=v::r∧Den K F d v∧cy K F ds r
end
mutual
def D.A2:D→Bool
  |.tup ds=>D.HP ds
  |.lst _=>false
  |.obj _=>false
  |.exc _=>false
  |_=>true
def D.HP:List D→Bool
  |[]=>true
  |d::ds=>D.A2 d&&D.HP ds
end
section
variable {K:PySem.W.Frag} {F F' H:Hp}
theorem aN{ds:List D}:Den K F (.tup ds) v↔∃a vs,v=.ref a∧F a=some (.tup vs)∧cy K F ds vs:=by rw[Den]
theorem aW{ds:List D}:Den K F (.lst ds) v↔∃a vs,v=.ref a∧m4 K F a vs∧cy K F ds vs:=by rw[Den]
theorem hG:Den K F (.obj C) v↔∃a dx,v=.ref a∧F a=some (.ins C dx [])∧kP K F:=by rw[Den]
theorem j8:Den K F (.exc C) v↔∃a,v=.ref a∧F a=some (.ext (Zi a C)):=by rw[Den]
theorem aQ{i:Int}:Den K F (.int i) v↔v=.int i:=by rw[Den]
theorem bS{i:Bool}:Den K F (.bl i) v↔v=.bl i:=by rw[Den]
theorem cV{i:Str}:Den K F (.str i) v↔v=.str i:=by rw[Den]
theorem cf:Den K F .non v↔v=.non:=by rw[Den]
theorem bC:cy K F [] vs↔vs=[]:=by rw[cy]
theorem aP{d:D}{ds:List D}:cy K F (d::ds) vs↔∃v r,vs=v::r∧Den K F d v∧cy K F ds r:=by rw[cy]
theorem qZ:∀{ds:List D} {vs:List V},cy K F ds vs↔Paired (fun d v=>Den K F d v) ds vs
  |[],vs=>by
   rw[bC];constructor
   ·rintro rfl;exact .nil
   ·intro h;cases h;rfl
  |d::ds,vs=>by
   rw[aP];constructor
   ·rintro⟨v,r,rfl,h1,h2⟩;exact .cons h1 (qZ.mp h2)
   · intro h;cases h with
     |cons h1 h2=>exact⟨_,_,rfl,h1,qZ.mpr h2⟩
theorem bu{ds:List D}(h:cy K F ds vs):ds.length=vs.length:=wd (qZ.mp h)
theorem F9:∀{ds:List D} {vs:List V} {i:Nat} {d:D},cy K F ds vs→ds[i]?=some d→∃v,vs[i]?=some v∧Den K F d v
  |[],_,_,_,_,e=>by simp at e
  |x::ds,vs,0,d,h,e=>by obtain⟨v,r,rfl,h1,h2⟩:=aP.mp h;simp at e;subst e;exact⟨v,rfl,h1⟩
  |x::ds,vs,i+1,d,h,e=>by obtain⟨v,r,rfl,h1,h2⟩:=aP.mp h;obtain⟨w,e1,e2⟩:=F9 (i:=i) h2 (by simpa using e);exact⟨w,by simpa using e1,e2⟩
theorem sG:∀{ds:List D} {vs:List V} {i:Nat} {v:V},cy K F ds vs→vs[i]?=some v→∃d,ds[i]?=some d∧Den K F d v
  |[],_,_,_,h,e=>by rw[bC.mp h] at e;simp at e
  |x::ds,vs,0,v,h,e=>by obtain⟨w,r,rfl,h1,h2⟩:=aP.mp h;simp at e;subst e;exact⟨x,rfl,h1⟩
  |x::ds,vs,i+1,v,h,e=>by obtain⟨w,r,rfl,h1,h2⟩:=aP.mp h;obtain⟨d,e1,e2⟩:=sG (i:=i) h2 (by simpa using e);exact⟨d,by simpa using e1,e2⟩
theorem oC:∀{ds es:List D} {vs ws:List V},cy K F ds vs→cy K F es ws→cy K F (ds++es) (vs++ws)
  |[],es,vs,ws,h,h'=>by rw[bC.mp h];exact h'
  |x::ds,es,vs,ws,h,h'=>by obtain⟨v,r,rfl,h1,h2⟩:=aP.mp h;exact aP.mpr ⟨v,r++ws,rfl,h1,oC h2 h'⟩
theorem Ga{d:D}(h:Den K F d v):cy K F [d] [v]:=aP.mpr ⟨v,[],rfl,h,bC.mpr rfl⟩
theorem wu{ds:List D}{d:D}(h:cy K F ds vs)(h':Den K F d v):cy K F (ds++[d]) (vs++[v]):=oC h (Ga h')
theorem Cb:∀{ds:List D} {vs:List V} (n:Nat),cy K F ds vs→cy K F (ds.take n) (vs.take n)
  |_,_,0,_=>bC.mpr rfl
  |[],vs,n+1,h=>by rw[bC.mp h];exact bC.mpr rfl
  |x::ds,vs,n+1,h=>by obtain⟨v,r,rfl,h1,h2⟩:=aP.mp h;exact aP.mpr ⟨v,r.take n,rfl,h1,Cb n h2⟩
theorem Cd:∀{ds:List D} {vs:List V} (n:Nat),cy K F ds vs→cy K F (ds.drop n) (vs.drop n)
  |_,_,0,h=>h
  |[],vs,n+1,h=>by rw[bC.mp h];exact bC.mpr rfl
  |x::ds,vs,n+1,h=>by obtain⟨v,r,rfl,h1,h2⟩:=aP.mp h;exact Cd n h2
theorem uO:∀{ds:List D} {vs:List V},cy K F ds vs→cy K F ds.reverse vs.reverse
  |[],vs,h=>by rw[bC.mp h];exact bC.mpr rfl
  |x::ds,vs,h=>by obtain⟨v,r,rfl,h1,h2⟩:=aP.mp h;rw[List.reverse_cons,List.reverse_cons];exact wu (uO h2) h1
theorem fX:∀(ns:aO),cy K F (ns.map D.int) (ns.map V.int)
  |[]=>bC.mpr rfl
  |n::ns=>aP.mpr ⟨_,_,rfl,aQ.mpr rfl,fX ns⟩
theorem ix:∀{ns:aO} {vs:List V},cy K F (ns.map D.int) vs→vs=ns.map V.int
  |[],vs,h=>bC.mp h
  |n::ns,vs,h=>by obtain⟨v,r,rfl,h1,h2⟩:=aP.mp h;rw[aQ.mp h1,ix h2];rfl
theorem yZ{xs:List V}(e:cF F F')(h:kE K F a xs):kE K F' a xs:=by
  rcases h with(h|⟨o,h⟩)|h
  ·exact .inl (.inl (e _ _ h))
  ·exact .inl (.inr ⟨o,e _ _ h⟩)
  ·exact .inr h
mutual
theorem cz(s:cF F F'):∀(d:D) (v:V),Den K F d v→Den K F' d v
  |.non,v,h=>cf.mpr (cf.mp h)
  |.bl b,v,h=>bS.mpr (bS.mp h)
  |.int i,v,h=>aQ.mpr (aQ.mp h)
  |.str x,v,h=>cV.mpr (cV.mp h)
  |.tup ds,v,h=>by obtain⟨a,vs,e,h1,h2⟩:=aN.mp h;exact aN.mpr ⟨a,vs,e,s _ _ h1,bD s ds vs h2⟩
  |.lst ds,v,h=>by obtain⟨a,vs,e,h1,h2⟩:=aW.mp h;exact aW.mpr ⟨a,vs,e,s.seq h1,bD s ds vs h2⟩
  |.obj C,v,h=>by obtain⟨a,dx,e,h1,h2⟩:=hG.mp h;exact hG.mpr ⟨a,dx,e,s _ _ h1,h2.mono s⟩
  |.exc C,v,h=>by obtain⟨a,e,h1⟩:=j8.mp h;exact j8.mpr ⟨a,e,s _ _ h1⟩
theorem bD(s:cF F F'):∀(ds:List D) (vs:List V),cy K F ds vs→cy K F' ds vs
  |[],vs,h=>bC.mpr (bC.mp h)
  |d::ds,vs,h=>by obtain⟨v,r,e,h1,h2⟩:=aP.mp h;exact aP.mpr ⟨v,r,e,cz s d v h1,bD s ds r h2⟩
end
def Ru:HO→Bool
  |.tup _=>true
  |_=>false
mutual
theorem J2(t:∀a o,H a=some o→Ru o=true→F a=some o):∀(d:D) (v:V),d.A2=true→Den K H d v→Den K F d v
  |.non,v,_,h=>cf.mpr (cf.mp h)
  |.bl b,v,_,h=>bS.mpr (bS.mp h)
  |.int i,v,_,h=>aQ.mpr (aQ.mp h)
  |.str x,v,_,h=>cV.mpr (cV.mp h)
  |.tup ds,v,i,h=>by obtain⟨a,vs,e,h1,h2⟩:=aN.mp h;exact aN.mpr ⟨a,vs,e,t _ _ h1 rfl,y4 t ds vs (by rw[D.A2] at i;exact i) h2⟩
  |.lst ds,v,i,h=>by rw[D.A2] at i;cases i
  |.obj C,v,i,h=>by rw[D.A2] at i;cases i
  |.exc C,v,i,h=>by rw[D.A2] at i;cases i
theorem y4(t:∀a o,H a=some o→Ru o=true→F a=some o):∀(ds:List D) (vs:List V),D.HP ds=true→cy K H ds vs→cy K F ds vs
  |[],vs,_,h=>bC.mpr (bC.mp h)
  |d::ds,vs,i,h=>by obtain⟨v,r,e,h1,h2⟩:=aP.mp h;rw[D.HP,t6] at i;exact aP.mpr ⟨v,r,e,J2 t d v i.1 h1,y4 t ds r i.2 h2⟩
end
theorem y7:∀(ds:List D),D.HP ds=ds.all D.A2
  |[]=>by rw[D.HP];rfl
  |d::ds=>by rw[D.HP,mX,y7 ds]
theorem uP(ds:List D):(D.tup ds).A2=ds.all D.A2:=by rw[D.A2,y7]
theorem sI(i:Int):(D.int i).A2=true:=by rw[D.A2]<;>intros<;>simp_all
theorem Ox(ns:aO):(ns.map D.int).all D.A2=true:=by rw[iK];intro d hd;obtain⟨n,_,rfl⟩:=ja.mp hd;exact sI n
end
def tN:HO→Prop
  |.lst xs=>xs.length≤sizeLine
  |.tup xs=>xs.length≤sizeLine
  |.dT aX=>aX.length≤sizeLine
  |.dK aX=>aX.length≤sizeLine
  |.t7 _ u=>tN u
  |_=>True
structure Base (F H:Hp):Prop where
  sub:cF F H
  tup:∀a o,H a=some o→Ru o=true→F a=some o
  Fp:∀a o,H a=some o→tN o
structure bA (F H F' H':Hp):Prop where
  base:Base F' H'
  jA:cF F F'
  ent:cF H H'
  new:∀a o,F' a=some o→F a=some o∨H a=none∨Ru o=true
theorem bA.refl(b:Base F H):bA F H F H:=⟨b,cF.refl _,cF.refl _,fun _ _ h=>.inl h⟩
theorem bA.trans{F1 H1 F2 H2:Hp}(a:bA F H F1 H1)(b:bA F1 H1 F2 H2):bA F H F2 H2 :=
  ⟨b.base,a.jA.trans b.jA,a.ent.trans b.ent,fun x o h=>by
    rcases b.new x o h with h|h|h
    ·exact a.new x o h
    ·exact .inr (.inl (a.ent.free h))
    ·exact .inr (.inr h)⟩
theorem bA.put(b:Base F H){p:Addr}(hp:H p=none)(o:HO)(ho:tN o):bA F H (upd F p o) (upd H p o) where
  base:={
    sub:=fun a u h=>by
      by_cases e:a=p
      ·subst e;rw[aL] at h;rw[aL];exact h
      ·rw[aK e] at h;rw[aK e];exact b.sub a u h
    tup:=fun a u h t=>by
      by_cases e:a=p
      ·subst e;rw[aL] at h;rw[aL];exact h
      ·rw[aK e] at h;rw[aK e];exact b.tup a u h t
    Fp:=fun a u h=>by
      by_cases e:a=p
      ·subst e;rw[aL] at h;cases h;exact ho
      ·rw[aK e] at h;exact b.Fp a u h }
  jA:=fq (b.sub.free hp) o
  ent:=fq hp o
  new:=fun a u h=>by
    by_cases e:a=p
    ·subst e;exact .inr (.inl hp)
    ·rw[aK e] at h;exact .inl h
theorem bA.own(b:Base F H){p:Addr}(hp:H p=none)(o:HO)(ho:tN o)(ht:Ru o=false):bA F H F (upd H p o) where
  base:={
    sub:=fun a u h=>by rw[aK (bN (b.sub a u h) hp)];exact b.sub a u h
    tup:=fun a u h t=>by
      by_cases e:a=p
      ·subst e;rw[aL] at h;cases h;rw[ht] at t;cases t
      ·rw[aK e] at h;exact b.tup a u h t
    Fp:=fun a u h=>by
      by_cases e:a=p
      ·subst e;rw[aL] at h;cases h;exact ho
      ·rw[aK e] at h;exact b.Fp a u h }
  jA:=cF.refl _
  ent:=fq hp o
  new:=fun a u h=>.inl h
theorem bA.share(b:Base F H){F0 H0:Hp}(g:bA F0 H0 F H){p:Addr}(hp:H p=some o)(h0:H0 p=none):bA F0 H0 (upd F p o) H where
  base:={
    sub:=fun a u h=>by
      by_cases e:a=p
      ·subst e;rw[aL] at h;cases h;exact hp
      ·rw[aK e] at h;exact b.sub a u h
    tup:=fun a u h t=>by
      by_cases e:a=p
      ·subst e;rw[aL];rw[hp] at h;exact h
      ·rw[aK e];exact b.tup a u h t
    Fp:=b.Fp }
  jA:=fun a u h=>by
    by_cases e:a=p
    ·subst e;rw[aL];rw[b.sub a u (g.jA a u h)] at hp;exact hp.symm
    ·rw[aK e];exact g.jA a u h
  ent:=g.ent
  new:=fun a u h=>by
    by_cases e:a=p
    ·subst e;exact .inr (.inl h0)
    ·rw[aK e] at h;exact g.new a u h
theorem bA.write{F0 H0:Hp}(g:bA F0 H0 F H){p:Addr}(h0:H0 p=none)(hF:F p=none)(ho:tN o)(ht:Ru o=false):bA F0 H0 F (upd H p o) where
  base:={
    sub:=fun a u h=>by have e:a≠p:=bN h hF;rw[aK e];exact g.base.sub a u h
    tup:=fun a u h t=>by
      by_cases e:a=p
      ·subst e;rw[aL] at h;cases h;rw[ht] at t;cases t
      ·rw[aK e] at h;exact g.base.tup a u h t
    Fp:=fun a u h=>by
      by_cases e:a=p
      ·subst e;rw[aL] at h;cases h;exact ho
      ·rw[aK e] at h;exact g.base.Fp a u h }
  jA:=g.jA
  ent:=fun a u h=>by rw[aK (bN h h0)];exact g.ent a u h
  new:=g.new
end DL
variable {g:DL.D→DL.D→Option DL.D} {d:DL.D}
namespace DL
open PySem PySem.Spec L2
open PyProof.Rows hiding St
inductive Slot where
  |sh (d:D)|br (d:D)|ol (ds:List D)|ot (aX:List (List Key×D))|ft (aX:List (List Key×D))|ok (aX:List (Key×D))|fk (aX:List (Key×D))|pr (ds rest:List D)|pn (a:Addr) (d:D)
abbrev cP:=List (Option Slot)
def Slot.dir:Slot→Bool
  |.ol _=>true
  |.ot _=>true
  |.ok _=>true
  |_=>false
def Slot.own:Slot→Bool
  |.pr _ _=>true
  |s=>s.dir
theorem Slot.DV{s:Slot}(h:s.dir=true):s.own=true:=by cases s<;>first|rfl|cases h
structure Zc where
  F₀:Hp
  H₀:Hp
  E:Addr→Hp→Prop
def jP{κ:Type}(K:PySem.W.Frag)(F:Hp):List (κ×D)→List (κ×V)→Prop:=Paired fun p q=>p.1=q.1∧Den K F p.2 q.2
theorem jP.mono{κ:Type}(s:cF F F'){aX:List (κ×D)}{ws:List (κ×V)}(h:jP K F aX ws):jP K F' aX ws:=Paired.Lk h fun _ _ q=>⟨q.1,cz s _ _ q.2⟩
def x9(K:PySem.W.Frag)(F:Hp):Slot→HO→Prop
  |.ol ds,o=>∃vs,o=.lst vs∧cy K F ds vs
  |.ot aX,o=>∃ws,o=.dT ws∧jP K F aX ws
  |.ok aX,o=>∃ws,o=.dK ws∧jP K F aX ws
  |.pr ds _,o=>∃vs,o=.lst vs∧cy K F ds vs
  |_,_=>False
theorem x9.Wq{sl:Slot}(h:x9 K F sl o):Ru o=false:=by
  cases sl with
  |ol _=>obtain⟨_,rfl,_⟩:=h;rfl
  |ot _=>obtain⟨_,rfl,_⟩:=h;rfl
  |ok _=>obtain⟨_,rfl,_⟩:=h;rfl
  |pr _ _=>obtain⟨_,rfl,_⟩:=h;rfl
  |_=>exact h.elim
theorem x9.own{sl:Slot}(h:x9 K F sl o):sl.own=true:=by
  cases sl with
  |ol _=>rfl
  |ot _=>rfl
  |ok _=>rfl
  |pr _ _=>rfl
  |_=>exact h.elim
theorem x9.mono(s:cF F F'){sl:Slot}(h:x9 K F sl o):x9 K F' sl o:=by
  cases sl with
  |ol _=>obtain⟨vs,e,q⟩:=h;exact⟨vs,e,bD s _ _ q⟩
  |ot _=>obtain⟨vs,e,q⟩:=h;exact⟨vs,e,q.mono s⟩
  |ok _=>obtain⟨vs,e,q⟩:=h;exact⟨vs,e,q.mono s⟩
  |pr _ _=>obtain⟨vs,e,q⟩:=h;exact⟨vs,e,bD s _ _ q⟩
  |_=>exact h.elim
def eD(K:PySem.W.Frag)(F:Hp)(v:V)(sl:Slot)(p:Addr):Prop :=
  match sl with
  |.pr _ rest=>∃a ws,v=.ref a∧F a=some (.tup (.ref p::ws))∧cy K F rest ws
  |_=>v=.ref p
theorem eD.mono(s:cF F F'){sl:Slot}{p:Addr}(h:eD K F v sl p):eD K F' v sl p:=by
  cases sl with
  |pr ds rest=>obtain⟨a,ws,e,h1,h2⟩:=h;exact⟨a,ws,e,s _ _ h1,bD s _ _ h2⟩
  |_=>exact h
theorem eD.back(s:cF F F'){sl sl':Slot}{p q:Addr}(hd:sl.dir=sl'.dir)(ho:sl.own=true)(Fl:sl'.own=true)(h:eD K F v sl p)(h':eD K F' v sl' q):q=p:=by
  cases hc:sl.dir with
  |true =>
   have e1:v=.ref p:=by cases sl<;>first|exact h|cases hc
   have e2:v=.ref q:=by rw[hc] at hd;cases sl'<;>first|exact h'|cases hd
   rw[e1] at e2;cases e2;rfl
  |false =>
   cases sl with
   |pr ds rest =>
    cases sl' with
    |pr tu UJ=>obtain⟨a,ws,e,h1,_⟩:=h;obtain⟨a',ws',e',UK,_⟩:=h';rw[e] at e';cases e';rw[s _ _ h1] at UK;cases UK;rfl
    |sh _=>cases Fl
    |br _=>cases Fl
    |ft _=>cases Fl
    |fk _=>cases Fl
    |pn _ _=>cases Fl
    |_=>cases hd
   |sh _=>cases ho
   |br _=>cases ho
   |ft _=>cases ho
   |fk _=>cases ho
   |pn _ _=>cases ho
   |_=>cases hc
def j9(K:PySem.W.Frag)(z:Zc)(F H:Hp)(v:V)(sl:Slot):Prop :=
  match sl with
  |.sh d=>Den K F d v
  |.br d=>Den K z.H₀ d v
  |.ft aX=>∃p ob ws,v=.ref p∧F p=some (.t7 ob (.dT ws))∧jP K F aX ws
  |.fk aX=>∃p ob ws,v=.ref p∧F p=some (.t7 ob (.dK ws))∧jP K F aX ws
  |.pn a d=>v=.ref a∧Den K z.H₀ d v
  |sl=>∃p o,eD K F v sl p∧z.H₀ p=none∧F p=none∧H p=some o∧x9 K F sl o
theorem lO{z:Zc}{sl:Slot}(h:sl.own=true):j9 K z F H v sl↔∃p o,eD K F v sl p∧z.H₀ p=none∧F p=none∧H p=some o∧x9 K F sl o:=by
  cases sl with
  |ol _=>exact Iff.rfl
  |ot _=>exact Iff.rfl
  |ok _=>exact Iff.rfl
  |pr _ _=>exact Iff.rfl
  |_=>cases h
theorem wx{z:Zc}{sl:Slot}(h:sl.own=false)(s:cF F F')(q:j9 K z F H v sl):j9 K z F' H' v sl:=by
  cases sl with
  |sh d=>exact cz s d v q
  |br d=>exact q
  |ft aX=>obtain⟨p,ob,ws,e,h1,h2⟩:=q;exact⟨p,ob,ws,e,s _ _ h1,h2.mono s⟩
  |fk aX=>obtain⟨p,ob,ws,e,h1,h2⟩:=q;exact⟨p,ob,ws,e,s _ _ h1,h2.mono s⟩
  |pn a d=>exact q
  |_=>cases h
theorem Ce{K:PySem.W.Frag}(g:bA F H F' H'){p:Addr}(hF:F p=none)(hH:H p=some o)(ht:Ru o=false):F' p=none:=by
  cases e:F' p with
  |none=>rfl
  |some u =>
   have e2:=g.base.sub p u e;rw[g.ent p o hH] at e2;cases e2;rcases g.new p _ e with q|q|q
   ·rw[hF] at q;cases q
   ·rw[hH] at q;cases q
   ·rw[ht] at q;cases q
theorem j9.grow{z:Zc}(g:bA F H F' H'){sl:Slot}(h:j9 K z F H v sl):j9 K z F' H' v sl:=by
  cases ho:sl.own with
  |true=>rw[lO ho] at h⊢;obtain⟨p,o,e,h0,hF,hH,q⟩:=h;exact⟨p,o,e.mono g.jA,h0,Ce (K:=K) g hF hH q.Wq,g.ent _ _ hH,q.mono g.jA⟩
  |false=>exact wx ho g.jA h
structure Rel (K:PySem.W.Frag) (z:Zc) (F H:Hp) (σ:St) (η:cP):Prop where
  mem:bA z.F₀ z.H₀ F H
  len:σ.length=η.length
  at_:∀(i:Nat) sl,η[i]?=some (some sl)→∃v,σ[i]?=some (some v)∧j9 K z F H v sl
  apart:∀(i j:Nat) si sj vi vj p,i≠j→η[i]?=some (some si)→η[j]?=some (some sj)→si.own=true→sj.own=true→σ[i]?=some (some vi)→σ[j]?=some (some vj)→eD K F vi si p→¬ eD K F vj sj p
section
variable {K:PySem.W.Frag} {z:Zc} {F H F' H':Hp} {σ:St} {η:cP}
theorem Rel.base(r:Rel K z F H σ η):Base F H:=r.mem.base
theorem Rel.Zk(r:Rel K z F H σ η)(s:cF F F'){sl:Slot}{p:Addr}(hi:η[i]?=some (some sl))(ho:sl.own=true)(hv:σ[i]?=some (some v))(h:eD K F' v sl p):eD K F v sl p∧∃o,H p=some o∧F p=none∧Ru o=false:=by obtain⟨v',J3,hs⟩:=r.at_ i sl hi;rw[hv] at J3;cases J3;obtain⟨p0,o,e,h0,hF,hH,q⟩:=(lO ho).mp hs;have e2:=e.back s rfl ho ho h;subst e2;exact⟨e,o,hH,hF,q.Wq⟩
theorem Rel.grow(r:Rel K z F H σ η)(g:bA F H F' H'):Rel K z F' H' σ η :=
  ⟨r.mem.trans g,r.len,fun i sl e=>by obtain⟨v,h1,h2⟩:=r.at_ i sl e;exact⟨v,h1,h2.grow g⟩,fun i j si sj vi vj p wq ei ej oi oj hi hj h1 h2 =>
    r.apart i j si sj vi vj p wq ei ej oi oj hi hj (r.Zk g.jA ei oi hi h1).1 (r.Zk g.jA ej oj hj h2).1⟩
theorem Rel.idx(r:Rel K z F H σ η)(h:i<η.length):i<σ.length:=by have:=r.len;omega
theorem q0{α:Type}{l:List (Option α)}{x y:α}(h:(l.set i (some x))[j]?=some (some y)):(i=j∧i<l.length∧x=y)∨(i≠j∧l[j]?=some (some y)):=by
  by_cases e:i=j
  · subst e;by_cases hi:i<l.length
    ·rw[List.getElem?_set_self hi] at h;cases h;exact .inl ⟨rfl,hi,rfl⟩
    ·rw[A5 (by rw[List.length_set];omega)] at h;cases h
  ·rw[List.getElem?_set_ne e] at h;exact .inr ⟨e,h⟩
theorem Rel.Oy(r:Rel K z F H σ η)(i:Nat){sl:Slot}(h:j9 K z F H v sl)(hn:sl.own=true→∀p,eD K F v sl p→∀(j:Nat) s w,η[j]?=some (some s)→s.own=true→σ[j]?=some (some w)→¬ eD K F w s p):Rel K z F H (σ.set i (some v)) (η.set i (some sl)) where
  mem:=r.mem
  len:=by simp[r.len]
  at_:=fun j s e=>by
    rcases q0 e with⟨rfl,hi,rfl⟩|⟨hj,e⟩
    ·exact⟨v,by rw[List.getElem?_set_self (r.idx hi)],h⟩
    ·rw[List.getElem?_set_ne hj];exact r.at_ j s e
  apart:=fun j k sj sk vj vk p Rq ej ek oj ok hj hk h1 h2=>by
    rcases q0 ej with⟨e1,hi,e2⟩|⟨nj,ej⟩
    · subst e1 e2;rcases q0 ek with⟨e3,_,_⟩|⟨nk,ek⟩
      ·exact Rq e3
      ·rw[List.getElem?_set_self (r.idx hi)] at hj;cases hj;rw[List.getElem?_set_ne nk] at hk;exact hn oj p h1 k sk vk ek ok hk h2
    · rw[List.getElem?_set_ne nj] at hj;rcases q0 ek with⟨e1,hi,e2⟩|⟨nk,ek⟩
      ·subst e1 e2;rw[List.getElem?_set_self (r.idx hi)] at hk;cases hk;exact hn ok p h2 j sj vj ej oj hj h1
      ·rw[List.getElem?_set_ne nk] at hk;exact r.apart j k sj sk vj vk p Rq ej ek oj ok hj hk h1 h2
theorem Rel.set(r:Rel K z F H σ η)(i:Nat){sl:Slot}(ho:sl.own=false)(h:j9 K z F H v sl):Rel K z F H (σ.set i (some v)) (η.set i (some sl)) :=
  r.Oy i h (fun z=>by rw[ho] at z;cases z)
theorem Rel.Wr(r:Rel K z F H σ η)(g:bA F H F' H'){p:Addr}(hp:H p=none):∀(j:Nat) s w,η[j]?=some (some s)→s.own=true→σ[j]?=some (some w)→¬ eD K F' w s p:=fun j s w e o hw h=>by obtain⟨_,o',hH,_⟩:=r.Zk g.jA e o hw h;rw[hp] at hH;cases hH
theorem Rel.HQ(r:Rel K z F H σ η)(g:bA F H F' H')(i:Nat){p:Addr}{sl:Slot}(h:j9 K z F' H' v sl)(ha:eD K F' v sl p)(hp:H p=none):Rel K z F' H' (σ.set i (some v)) (η.set i (some sl)) :=
  (r.grow g).Oy i h fun ho q hq=>by have e:q=p:=ha.back (cF.refl _) rfl ho ho hq;subst e;exact r.Wr g hp
theorem Rel.writeAt(r:Rel K z F H σ η){p:Addr}{sl sl':Slot}{o':HO}(hi:η[i]?=some (some sl))(ho:sl.own=true)(hd:sl.dir=sl'.dir)(hv:σ[i]?=some (some v))(hp:eD K F v sl p)(Bn:eD K F v sl' p)(hq:x9 K F sl' o')(hl:tN o'):Rel K z F (upd H p o') σ (η.set i (some sl')):=by
  obtain⟨v',J3,hs⟩:=r.at_ i sl hi;rw[hv] at J3;cases J3;obtain⟨p',o,e,h0,hF,hH,_⟩:=(lO ho).mp hs;have e2:=e.back (cF.refl _) rfl ho ho hp;subst e2;have Fl:sl'.own=true:=hq.own;refine⟨r.mem.write h0 hF hl hq.Wq,by simp[r.len],fun j s e=>?_,fun j k sj sk vj vk q Rq ej ek oj ok hj hk h1 h2=>?_⟩
  · rcases q0 e with⟨rfl,jO,rfl⟩|⟨nj,Zm⟩
    ·exact⟨_,hv,(lO Fl).mpr ⟨p,o',Bn,h0,hF,aL,hq⟩⟩
    · obtain⟨w,hw,FY⟩:=r.at_ j s Zm;refine⟨w,hw,?_⟩;cases HR:s.own with
      |false=>exact wx HR (cF.refl _) FY
      |true =>
       rw[lO HR] at FY⊢;obtain⟨p2,o2,e2,a0,aF,aH,aq⟩:=FY;have hE:p2≠p:=fun z=>by subst z;exact r.apart i j sl s v w p2 nj hi Zm ho HR hv hw hp e2
       exact⟨p2,o2,e2,a0,aF,by rw[aK hE];exact aH,aq⟩
  · have key:∀(j:Nat) sj vj q,(η.set i (some sl'))[j]?=some (some sj)→sj.own=true→σ[j]?=some (some vj)→eD K F vj sj q→∃s,η[j]?=some (some s)∧s.own=true∧eD K F vj s q:=fun j sj vj q ej oj hj hq'=>by
      rcases q0 ej with⟨e1,jO,e2⟩|⟨nj,ej⟩
      ·subst e1 e2;rw[hv] at hj;cases hj;have e3:q=p:=hp.back (cF.refl _) hd ho Fl hq';subst e3;exact⟨sl,hi,ho,hp⟩
      ·exact⟨sj,ej,oj,hq'⟩
    obtain⟨s1,e1,o1,q1⟩:=key j sj vj q ej oj hj h1;obtain⟨s2,e2,o2,q2⟩:=key k sk vk q ek ok hk h2;exact r.apart j k s1 s2 vj vk q Rq e1 e2 o1 o2 hj hk q1 q2
theorem rh{sl:Slot}{p:Addr}(h:sl.dir=true):eD K F v sl p↔v=.ref p:=by cases sl<;>first|exact Iff.rfl|cases h
theorem Rel.write(r:Rel K z F H σ η){p:Addr}{sl sl':Slot}{o':HO}(hi:η[i]?=some (some sl))(ho:sl.dir=true)(hp:σ[i]?=some (some (.ref p)))(hq:x9 K F sl' o')(hl:tN o')(hd':sl'.dir=true:=by rfl):Rel K z F (upd H p o') σ (η.set i (some sl')) :=
  r.writeAt hi (Slot.DV ho) (ho.trans hd'.symm) hp ((rh ho).mpr rfl) ((rh hd').mpr rfl) hq hl
theorem Rel.J4(r:Rel K z F H σ η){p:Addr}{sl sl':Slot}{o':HO}(hi:η[i]?=some (some sl))(ho:sl.dir=true)(hp:σ[i]?=some (some (.ref p)))(hl:tN o')(ht:Ru o'=false)(Fl:sl'.own=false)(FY:j9 K z (upd F p o') (upd H p o') (.ref p) sl'):Rel K z (upd F p o') (upd H p o') σ (η.set i (some sl'))∧cF F (upd F p o'):=by
  obtain⟨v,hv,hs⟩:=r.at_ i sl hi;rw[hp] at hv;cases hv;have F7:=Slot.DV ho;obtain⟨p',o,e,h0,hF,hH,_⟩:=(lO F7).mp hs;have ep:eD K F (.ref p) sl p:=(rh ho).mpr rfl;have e2:=e.back (cF.refl _) rfl F7 F7 ep;subst e2;have Hr:cF F (upd F p o'):=fq hF _;have g1:=r.mem.write h0 hF hl ht;refine⟨⟨g1.share g1.base aL h0,by simp[r.len],fun j s e=>?_,fun j k sj sk vj vk q Rq ej ek oj ok hj hk h1 h2=>?_⟩,Hr⟩
  · rcases q0 e with⟨rfl,jO,rfl⟩|⟨nj,Zm⟩
    ·exact⟨_,hp,FY⟩
    · obtain⟨w,J3,hq⟩:=r.at_ j s Zm;refine⟨w,J3,?_⟩;cases HR:s.own with
      |false=>exact wx HR Hr hq
      |true =>
       rw[lO HR] at hq⊢;obtain⟨p2,o2,e2,a0,aF,aH,aq⟩:=hq;have hE:p2≠p:=fun z=>by subst z;exact r.apart i j _ s _ w p2 nj hi Zm F7 HR hp J3 ep e2
       exact⟨p2,o2,e2.mono Hr,a0,by rw[aK hE];exact aF,by rw[aK hE];exact aH,aq.mono Hr⟩
  · have key:∀(j:Nat) sj,(η.set i (some sl'))[j]?=some (some sj)→sj.own=true→η[j]?=some (some sj):=fun j sj ej oj=>by
      rcases q0 ej with⟨e1,jO,e2⟩|⟨nj,ej⟩
      ·subst e2;rw[Fl] at oj;cases oj
      ·exact ej
    have ej':=key j sj ej oj;have ek':=key k sk ek ok;exact r.apart j k sj sk vj vk q Rq ej' ek' oj ok hj hk (r.Zk Hr ej' oj hj h1).1 (r.Zk Hr ek' ok hk h2).1
theorem Oz{p:Addr}(h:H p=some o):upd H p o=H:=by
  funext b;unfold upd;by_cases e:b=p
  ·rw[ay e,e,h]
  ·rw[aZ e]
theorem Rel.ownAt(r:Rel K z F H σ η){sl:Slot}(hi:η[i]?=some (some sl))(ho:sl.dir=true):∃p o,σ[i]?=some (some (.ref p))∧z.H₀ p=none∧F p=none∧H p=some o∧x9 K F sl o:=by obtain⟨v,hv,hs⟩:=r.at_ i sl hi;obtain⟨p,o,e,a⟩:=(lO (Slot.DV ho)).mp hs;have e2:=(rh ho).mp e;subst e2;exact⟨p,o,hv,a⟩
theorem Rel.share(r:Rel K z F H σ η){ds:List D}(hi:η[i]?=some (some (.ol ds))):∃F',Rel K z F' H σ (η.set i (some (.sh (.lst ds))))∧cF F F':=by obtain⟨p,o,hv,h0,hF,hH,vs,rfl,hq⟩:=r.ownAt hi rfl;have Hr:cF F (upd F p (.lst vs)):=fq hF _;obtain⟨h1,h2⟩:=r.J4 (sl':=.sh (.lst ds)) (o':=.lst vs) hi rfl hv (r.base.Fp _ _ hH) rfl rfl (aW.mpr ⟨p,vs,rfl,m4.of aL,bD Hr _ _ hq⟩);rw[Oz hH] at h1;exact⟨_,h1,h2⟩
def jd(nt:Nat)(fi:List Nat)(η:cP):cP:=List.replicate nt none++fi.map fun j=>(η[j]?).getD none
theorem uQ{α:Type}{nt:Nat}{η:List (Option α)}{s:α}(h:(List.replicate nt none++fi.map fun j=>(η[j]?).getD none)[i]?=some (some s)):∃j,nt≤i∧fi[i-nt]?=some j∧η[j]?=some (some s):=by
  by_cases hi:i<nt
  ·rw[List.getElem?_append_left (by simpa using hi)] at h;rw[List.getElem?_replicate] at h;split at h<;>cases h
  · rw[Fu (by simp;omega),List.length_replicate,qH] at h;cases e:fi[i-nt]? with
    |none=>rw[e] at h;cases h
    |some j =>
     rw[e] at h;refine⟨j,by omega,rfl,?_⟩;have h':(η[j]?).getD none=some s:=ow h;cases q:η[j]? with
     |none=>rw[q] at h';cases h'
     |some o=>rw[q] at h';rw[show o=some s from h']
theorem Ws{α:Type}{nt:Nat}{η:List (Option α)}{s:α}(hi:nt≤i)(hj:fi[i-nt]?=some j)(h:η[j]?=some (some s)):(List.replicate nt none++fi.map fun j=>(η[j]?).getD none)[i]?=some (some s):=by rw[Fu (by simpa using hi),List.length_replicate,qH,hj];show some ((η[j]?).getD none)=_;rw[h];rfl
theorem Rel.block(r:Rel K z F H σ η)(nt:Nat)(hf:fi.Nodup):Rel K z F H (qV nt fi σ) (jd nt fi η) where
  mem:=r.mem
  len:=by simp[qV,jd]
  at_:=fun i sl e=>by obtain⟨j,hi,hj,h⟩:=uQ e;obtain⟨v,hv,hs⟩:=r.at_ j sl h;exact⟨v,Ws hi hj hv,hs⟩
  apart:=fun i j si sj vi vj p wq ei ej oi oj h1 h2 q1 q2=>by obtain⟨a,ha,Ro,ha2⟩:=uQ ei;obtain⟨b,hb,Fm,L4⟩:=uQ ej;obtain⟨a1,ha1,Zn,UK⟩:=uQ h1;obtain⟨b1,hb1,Zo,Nq⟩:=uQ h2;rw[Ro] at Zn;cases Zn;rw[Fm] at Zo;cases Zo;refine r.apart a b si sj vi vj p (fun e=>wq ?_) ha2 L4 oi oj UK Nq q1 q2;subst e;have q:=(List.getElem?_inj (xS.mp Ro).1 hf).mp (Ro.trans Fm.symm);omega
end
inductive Out where
  |nx (η:cP)|rt (s:Slot)|bk (η:cP)|ct (η:cP)
abbrev EF:=cP→Option D
abbrev LF:=cP→Option (List D)
abbrev TF:=cP→Option Bool
abbrev SF:=cP→Option Out
abbrev BF:=D→cP→Option cP
def vE(K:PySem.W.Frag)(z:Zc)(f:EF):TE:=fun σ H Q=>∃η F d,Rel K z F H σ η∧f η=some d∧∀v H' F',bA F H F' H'→Den K F' d v→Q v H'
def vB(K:PySem.W.Frag)(z:Zc)(f:EF):TE:=fun σ H Q=>∃η F d,Rel K z F H σ η∧f η=some d∧∀v H' F',bA F H F' H'→Den K H' d v→Q v H'
def vO(K:PySem.W.Frag)(z:Zc)(f:LF):TE:=fun σ H Q=>∃η F ds,Rel K z F H σ η∧f η=some ds∧∀p vs H' F',bA F H F' H'→H p=none→F' p=none→H' p=some (.lst vs)→cy K F' ds vs→Q (.ref p) H'
def vT(K:PySem.W.Frag)(z:Zc)(f:TF):TT:=fun σ H Q=>∃η F b,Rel K z F H σ η∧f η=some b∧∀H' F',bA F H F' H'→Q b H'
def nK(K:PySem.W.Frag)(F H:Hp):List Bool→List D→List V→Prop
  |[],[],[]=>True
  |m::ms,d::ds,v::vs=>(match m with|true=>Den K F d v|false=>Den K H d v)∧nK K F H ms ds vs
  |_,_,_=>False
def vM(K:PySem.W.Frag)(z:Zc)(ms:List Bool)(f:LF):TA:=fun σ H Q=>∃η F ds,Rel K z F H σ η∧f η=some ds∧∀vs H' F',bA F H F' H'→nK K F' H' ms ds vs→Q vs H'
def Gb(K:PySem.W.Frag)(F H:Hp)(r:Slot)(Q:VK):Prop :=
  match r with
  |.sh d=>∀v H' F',bA F H F' H'→Den K F' d v→Q v H'
  |.ol ds=>∀p vs H' F',bA F H F' H'→H p=none→F' p=none→H' p=some (.lst vs)→cy K F' ds vs→Q (.ref p) H'
  |.pr ds rest=>∀a p vs ws H' F',bA F H F' H'→H p=none→F' p=none→H' p=some (.lst vs)→cy K F' ds vs→F' a=some (.tup (.ref p::ws))→cy K F' rest ws→Q (.ref a) H'
  |.ot aX=>∀p ws H' F',bA F H F' H'→H p=none→F' p=none→H' p=some (.dT ws)→jP K F' aX ws→Q (.ref p) H'
  |_=>False
def L5(K:PySem.W.Frag)(z:Zc)(r:Slot)(Q:VK):Prop :=
  match r with
  |.pn C _=>∀H' F',bA z.F₀ z.H₀ F' H'→z.E C H'
  |r=>Gb K z.F₀ z.H₀ r Q
theorem L5.of{z:Zc}{r:Slot}{Q:VK}(h:Gb K z.F₀ z.H₀ r Q):L5 K z r Q:=by cases r<;>first|exact h|exact False.elim h
def DX(K:PySem.W.Frag)(z:Zc)(F:Hp)(o:Out)(D:Ends):Prop :=
  match o with
  |.nx η'=>∀σ' H' F',Rel K z F' H' σ' η'→cF F F'→D.nx σ' H'
  |.bk η'=>∀σ' H' F',Rel K z F' H' σ' η'→cF F F'→D.bk σ' H'
  |.ct η'=>∀σ' H' F',Rel K z F' H' σ' η'→cF F F'→D.ct σ' H'
  |.rt r=>L5 K z r D.rt
def vS(K:PySem.W.Frag)(z:Zc)(g:SF):TS:=fun D σ H=>∃η F o,Rel K z F H σ η∧g η=some o∧DX K z F o D
def DE(X:Cx)(z:Zc)(e:Expr)(f:EF):Prop:=PE X e (vE X.K z f)
def DB(X:Cx)(z:Zc)(e:Expr)(f:EF):Prop:=PE X e (vB X.K z f)
def DO(X:Cx)(z:Zc)(e:Expr)(f:LF):Prop:=PE X e (vO X.K z f)
def DT(X:Cx)(z:Zc)(e:Expr)(f:TF):Prop:=PT X e (vT X.K z f)
def DW(X:Cx)(z:Zc)(e:Expr)(f:TF):Prop:=PW X e (vT X.K z f)
def DM(X:Cx)(z:Zc)(es:List Expr)(ms:List Bool)(f:LF):Prop:=PA X es (vM X.K z ms f)
def DS(X:Cx)(z:Zc)(st:Stmt)(g:SF):Prop:=PS X st (vS X.K z g)
def L6(X:Cx)(z:Zc)(sts:List Stmt)(g:SF):Prop:=Bg X sts (vS X.K z g)
theorem PE.weak{t t':TE}(h:PE X e t)(k:∀σ H Q,t' σ H Q→t σ H Q):PE X e t':=fun pins s σ H Q I q=>h pins s σ H Q I (k σ H Q q)
theorem PT.weak{t t':TT}(h:PT X e t)(k:∀σ H Q,t' σ H Q→t σ H Q):PT X e t':=fun pins s σ H Q I q=>h pins s σ H Q I (k σ H Q q)
theorem PW.weak{t t':TT}(h:PW X e t)(k:∀σ H Q,t' σ H Q→t σ H Q):PW X e t':=fun wh pins s σ H Q I q=>h wh pins s σ H Q I (k σ H Q q)
theorem PA.weak{e:List Expr}{t t':TA}(h:PA X e t)(k:∀σ H Q,t' σ H Q→t σ H Q):PA X e t':=fun pos pins s σ H Q I q=>h pos pins s σ H Q I (k σ H Q q)
theorem PS.weak{e:Stmt}{t t':TS}(h:PS X e t)(k:∀D σ H,t' D σ H→t D σ H):PS X e t':=fun pins s σ H D I q=>h pins s σ H D I (k D σ H q)
theorem Bg.weak{e:List Stmt}{t t':TS}(h:Bg X e t)(k:∀D σ H,t' D σ H→t D σ H):Bg X e t':=fun pins s σ H D I q=>h pins s σ H D I (k D σ H q)
section
variable {X:Cx} {z:Zc} {e a b:Expr} {f fa fb:EF} {pos:Pos}
theorem DE.bo(h:DE X z e f):DB X z e f:=PE.weak h fun σ H Q ⟨η,F,d,r,e,k⟩=>⟨η,F,d,r,e,fun v H' F' g q=>k v H' F' g (cz g.base.sub d v q)⟩
def eL(f:LF):EF:=fun η=>(f η).map D.lst
theorem DO.sh{f:LF}(h:DO X z e f):DE X z e (eL f):=PE.weak h fun σ H Q ⟨η,F,d,r,e,k⟩=>by
  unfold eL at e;cases q:f η with
  |none=>rw[q] at e;cases e
  |some ds=>rw[q] at e;cases e;refine⟨η,F,ds,r,q,fun p vs H' F' g hp hF hH hd=>?_⟩;have hs:cF F' (upd F' p (.lst vs)):=fq hF _;exact k _ _ _ (g.share g.base hH hp) (aW.mpr ⟨p,vs,rfl,m4.of aL,bD hs _ _ hd⟩)
theorem DO.bo{f:LF}(h:DO X z e f):DB X z e (eL f):=h.sh.bo
def eI(f:EF):EF:=fun η=>(f η).bind fun d=>if d.A2=true then some d else none
def eV(i:Nat):EF:=fun η=>match η[i]? with
  |some (some (.sh d))=>some d
  |some (some (.br d))=>if d.A2=true then some d else none
  |_=>none
def aJ(i:Nat):EF:=fun η=>match η[i]? with
  |some (some (.sh d))=>some d
  |some (some (.br d))=>some d
  |some (some (.ol ds))=>some (.lst ds)
  |some (some (.pr ds rest))=>some (.tup (.lst ds::rest))
  |some (some (.pn _ d))=>some d
  |_=>none
theorem aG(i:Nat)(hN:X.N[i]?=some x:=by rfl)(hv:FD X.env.scope x:=by first|exact Or.inl rfl|exact Or.inr (Or.inl rfl)|exact Or.inr (Or.inr rfl))(hd:(x==("__debug__":Str))=false:=by decide)(oA:(x==("__classdict__":Str))=false:=by decide):DB X z (.Name x pos) (aJ i):=PE.weak (kL hN hv hd oA) fun σ H Q ⟨η,F,d,r,e,k⟩=>by
  unfold aJ at e;split at e
  ·rename_i d' h;cases e;obtain⟨v,hv,hs⟩:=r.at_ i _ h;exact⟨v,hv,k v H F (bA.refl r.base) (cz r.base.sub _ _ hs)⟩
  ·rename_i d' h;cases e;obtain⟨v,hv,hs⟩:=r.at_ i _ h;exact⟨v,hv,k v H F (bA.refl r.base) (cz r.mem.ent _ _ hs)⟩
  ·rename_i ds h;cases e;obtain⟨p,o,hv,h0,hF,hH,vs,rfl,hq⟩:=r.ownAt h rfl;exact⟨_,hv,k _ H F (bA.refl r.base) (aW.mpr ⟨p,vs,rfl,m4.of hH,bD r.base.sub _ _ hq⟩)⟩
  ·rename_i ds rest h;cases e;obtain⟨v,hv,p,o,⟨a,ws,rfl,ha,hr⟩,h0,hF,hH,vs,rfl,hq⟩:=r.at_ i _ h;refine⟨_,hv,k _ H F (bA.refl r.base) (aN.mpr ⟨a,_,rfl,r.base.sub _ _ ha,aP.mpr ⟨_,_,rfl,aW.mpr ⟨p,vs,rfl,m4.of hH,bD r.base.sub _ _ hq⟩,bD r.base.sub _ _ hr⟩⟩)⟩
  ·rename_i a d' h;cases e;obtain⟨v,hv,_,hs⟩:=r.at_ i _ h;exact⟨v,hv,k v H F (bA.refl r.base) (cz r.mem.ent _ _ hs)⟩
  ·cases e
theorem aA(i:Nat)(hN:X.N[i]?=some x:=by rfl)(hv:FD X.env.scope x:=by first|exact Or.inl rfl|exact Or.inr (Or.inl rfl)|exact Or.inr (Or.inr rfl))(hd:(x==("__debug__":Str))=false:=by decide)(oA:(x==("__classdict__":Str))=false:=by decide):DE X z (.Name x pos) (eV i):=PE.weak (kL hN hv hd oA) fun σ H Q ⟨η,F,d,r,e,k⟩=>by
  unfold eV at e;split at e
  ·rename_i d' h;cases e;obtain⟨v,hv,hs⟩:=r.at_ i _ h;exact⟨v,hv,k v H F (bA.refl r.base) hs⟩
  · rename_i d' h;by_cases hi:d'.A2=true
    ·rw[ay hi] at e;cases e;obtain⟨v,hv,hs⟩:=r.at_ i _ h;exact⟨v,hv,k v H F (bA.refl r.base) (J2 r.base.tup _ _ hi (cz r.mem.ent _ _ hs))⟩
    ·rw[aZ hi] at e;cases e
  ·cases e
def eC(d:D):EF:=fun _=>some d
theorem aB{i j pos}:DE X z (.Constant (.int i) j pos) (eC (.int i)):=PE.weak Vo fun σ H Q ⟨η,F,d,r,e,k⟩=>by cases e;exact k _ H F (bA.refl r.base) (aQ.mpr rfl)
theorem uR{i j pos}:DE X z (.Constant (.bool i) j pos) (eC (.bl i)):=PE.weak Yo fun σ H Q ⟨η,F,d,r,e,k⟩=>by cases e;exact k _ H F (bA.refl r.base) (bS.mpr rfl)
theorem ka{j pos}:DE X z (.Constant .none j pos) (eC .non):=PE.weak Vp fun σ H Q ⟨η,F,d,r,e,k⟩=>by cases e;exact k _ H F (bA.refl r.base) (cf.mpr rfl)
def ag(g:D→D→Option D)(fa fb:EF):EF:=fun η=>(fa η).bind fun x=>(fb η).bind fun y=>g x y
theorem wz{fa fb:EF}{η:cP}(h:ag g fa fb η=some d):∃x y,fa η=some x∧fb η=some y∧g x y=some d:=by unfold ag at h;obtain⟨x,h1,h⟩:=eK.mp h;obtain⟨y,h2,h⟩:=eK.mp h;exact⟨x,y,h1,h2,h⟩
def Nr(K:PySem.W.Frag)(g:D→D→Option D)(r:R2):Prop:=∀(F H:Hp) (x y d:D) (v u:V) (Q:VK),Base F H→g x y=some d→Den K H x v→Den K H y u→(∀w,Den K F d w→Q w H)→r v u H Q
theorem y8(hg:Nr K g r):∀σ H Q,vE K z (ag g fa fb) σ H Q→YB r (vB K z fa) (vB K z fb) σ H Q:=fun σ H Q ⟨η,F,d,rl,e,k⟩=>by obtain⟨x,y,h1,h2,h3⟩:=wz e;refine⟨η,F,x,rl,h1,fun v H1 F1 g1 q1=>⟨η,F1,y,rl.grow g1,h2,fun u H2 F2 g2 q2=>?_⟩⟩;exact hg F2 H2 x y d v u Q g2.base h3 (cz g2.ent _ _ q1) q2 fun w q=>k w H2 F2 (g1.trans g2) q
theorem ri{op:Operator}(ho:qy X (binaryOp op) r)(hg:Nr X.K g r)(ha:DB X z a fa)(hb:DB X z b fb):DE X z (.BinOp a op b pos) (ag g fa fb):=PE.weak (NM ho ha hb) (y8 hg)
theorem y9(ho:qy X (compareOp op) r)(hg:Nr X.K g r)(ha:DB X z a fa)(hb:DB X z b fb)(hm:behindInMarks op b=false):DE X z (.Compare a [op] [b] pos) (ag g fa fb):=PE.weak (RN ho ha hb hm) (y8 hg)
def bU(f:EF):TF:=fun η=>(f η).bind fun d=>match d with|.bl b=>some b|_=>none
theorem uS{f:EF}{η:cP}{b:Bool}(h:bU f η=some b):f η=some (.bl b):=by
  unfold bU at h;obtain⟨d,h1,h2⟩:=eK.mp h;cases d with
  |bl c=>cases h2;exact h1
  |_=>cases h2
theorem md(h:DE X z e f)(he:∀whole,isTrue e X.env whole=(do let v ←whole;standAt e.pos;holding [v] (truthy v)):=by intro _;rfl):DT X z e (bU f):=PT.weak (Vq h he) fun σ H Q ⟨η,F,b,r,e,k⟩ =>
  ⟨η,F,_,r,uS e,fun v H' F' g q=>⟨b,bS.mp q,k H' F' g⟩⟩
theorem p6(ho:qy X (compareOp op) r)(hg:Nr X.K g r)(ha:DB X z a fa)(hb:DB X z b fb)(hm:behindInMarks op b=false):DT X z (.Compare a [op] [b] pos) (bU (ag g fa fb)) :=
  PT.weak (RP ho ha hb hm) fun σ H Q ⟨η,F,c,r,e,k⟩=>y8 hg σ H _ ⟨η,F,_,r,uS e,fun v H' F' g q=>⟨c,bS.mp q,k H' F' g⟩⟩
variable {ta tb:TF} {rest:List Expr}
def uT(t:TF):TF:=fun η=>(t η).map (!·)
def mh(t u:TF):TF:=fun η=>(t η).bind fun c=>if c=true then some true else u η
theorem DY(ha:DT X z a ta):DT X z (.UnaryOp .Not a pos) (uT ta):=PT.weak (Vr ha) fun σ H Q ⟨η,F,c,r,e,k⟩=>by unfold uT at e;obtain⟨b,h1,h2⟩:=g6.mp e;subst h2;exact⟨η,F,b,r,h1,k⟩
theorem Sw:∀σ H Q,vT K z (mh ta tb) σ H Q→tOr (vT K z ta) (vT K z tb) σ H Q:=fun σ H Q ⟨η,F,c,r,e,k⟩=>by
  unfold mh at e;obtain⟨b,h1,h2⟩:=eK.mp e;refine⟨η,F,b,r,h1,fun H1 F1 g1=>?_⟩;cases b with
  |false=>exact⟨η,F1,c,r.grow g1,h2,fun H2 F2 g2=>k H2 F2 (g1.trans g2)⟩
  |true=>have e2:some true=some c:=h2;cases e2;exact k H1 F1 g1
theorem oU(ha:DT X z a ta):DW X z (.BoolOp .Or [a] pos) ta:=pw_or1 ha
theorem tO(ha:DT X z a ta)(hb:DW X z (.BoolOp .Or (b::rest) pos) tb):DW X z (.BoolOp .Or (a::b::rest) pos) (mh ta tb):=PW.weak (pw_or ha hb) Sw
theorem DW.t(h:DW X z e ta):DT X z e ta:=PW.pt h
def Gd(fa fb:EF):EF:=fun η=>(bU fa η).bind fun c=>if c=true then fb η else some (.bl false)
def Sx(fa:EF):EF:=fun η=>(bU fa η).map fun c=>.bl (!c)
theorem DZ{op}(h:DE X z a fa):DE X z (.BoolOp op [a] pos) fa:=Vs h
theorem za(ha:DE X z a fa)(hb:DE X z (.BoolOp .And (b::rest) pos) fb):DE X z (.BoolOp .And (a::b::rest) pos) (Gd fa fb):=PE.weak (Vt ha hb) fun σ H Q ⟨η,F,d,r,e,k⟩=>by
  unfold Gd at e;obtain⟨c,h1,h2⟩:=eK.mp e;refine⟨η,F,_,r,uS h1,fun v H1 F1 g1 q=>⟨c,bS.mp q,?_⟩⟩;cases c with
  |true=>exact⟨η,F1,d,r.grow g1,h2,fun v H2 F2 g2 q2=>k v H2 F2 (g1.trans g2) q2⟩
  |false=>have e2:some (D.bl false)=some d:=h2;cases e2;exact k _ H1 F1 g1 (bS.mpr rfl)
theorem Wt(ha:DE X z a fa):DE X z (.UnaryOp .Not a pos) (Sx fa):=PE.weak (Vu ha) fun σ H Q ⟨η,F,d,r,e,k⟩=>by unfold Sx at e;obtain⟨c,h1,h2⟩:=g6.mp e;subst h2;exact⟨η,F,_,r,uS h1,fun v H1 F1 g1 q=>⟨c,bS.mp q,k _ H1 F1 g1 (bS.mpr rfl)⟩⟩
variable {es:List Expr} {ms:List Bool} {fs:LF}
def ao:LF:=fun _=>some []
def ae(f:EF)(fs:LF):LF:=fun η=>(f η).bind fun d=>(fs η).map (d::·)
theorem zb{f:EF}{fs:LF}{η:cP}{l:List D}(h:ae f fs η=some l):∃d r,f η=some d∧fs η=some r∧l=d::r:=by unfold ae at h;obtain⟨d,h1,h⟩:=eK.mp h;obtain⟨r,h2,h⟩:=g6.mp h;exact⟨d,r,h1,h2,h.symm⟩
theorem au:DM X z [] [] ao:=PA.weak kM fun σ H Q ⟨η,F,ds,r,e,k⟩=>by cases e;exact k [] H F (bA.refl r.base) True.intro
theorem aj(ha:DE X z e f)(hr:DM X z es ms fs)(hs:starEach (e::es) X.env=(false,eval e X.env)::starEach es X.env:=by rfl):DM X z (e::es) (true::ms) (ae f fs):=PA.weak (fj ha hr hs) fun σ H Q ⟨η,F,ds,r,e,k⟩=>by obtain⟨d,l,h1,h2,rfl⟩:=zb e;refine⟨η,F,d,r,h1,fun v H1 F1 g1 q1=>⟨η,F1,l,r.grow g1,h2,fun vs H2 F2 g2 q2=>?_⟩⟩;exact k _ H2 F2 (g1.trans g2) ⟨cz g2.jA _ _ q1,q2⟩
theorem cA(ha:DB X z e f)(hr:DM X z es ms fs)(hs:starEach (e::es) X.env=(false,eval e X.env)::starEach es X.env:=by rfl):DM X z (e::es) (false::ms) (ae f fs):=PA.weak (fj ha hr hs) fun σ H Q ⟨η,F,ds,r,e,k⟩=>by obtain⟨d,l,h1,h2,rfl⟩:=zb e;refine⟨η,F,d,r,h1,fun v H1 F1 g1 q1=>⟨η,F1,l,r.grow g1,h2,fun vs H2 F2 g2 q2=>?_⟩⟩;exact k _ H2 F2 (g1.trans g2) ⟨cz g2.ent _ _ q1,q2⟩
theorem sJ{K:PySem.W.Frag}{F H:Hp}:∀{n:Nat} {ds:List D} {vs:List V},nK K F H (List.replicate n true) ds vs→cy K F ds vs
  |0,[],[],_=>bC.mpr rfl
  |0,_::_,_,h=>h.elim
  |0,[],_::_,h=>h.elim
  |n+1,d::ds,v::vs,h=>aP.mpr ⟨v,vs,rfl,h.1,sJ h.2⟩
  |n+1,[],_,h=>h.elim
  |n+1,_::_,[],h=>h.elim
theorem zc{K:PySem.W.Frag}{F H:Hp}(s:cF F H):∀{ms:List Bool} {ds:List D} {vs:List V},nK K F H ms ds vs→cy K H ds vs
  |[],[],[],_=>bC.mpr rfl
  |[],_::_,_,h=>h.elim
  |[],[],_::_,h=>h.elim
  |m :: ms,d::ds,v::vs,h=>aP.mpr ⟨v,vs,rfl,by
     cases m with
     |true=>exact cz s _ _ h.1
     |false=>exact h.1,zc s h.2⟩
  |_::_,[],_,h=>h.elim
  |_::_,_::_,[],h=>h.elim
theorem nL{K:PySem.W.Frag}{F H:Hp}:∀{ms:List Bool} {ds:List D} {vs:List V},nK K F H ms ds vs→ms.length=vs.length∧ms.length=ds.length
  |[],[],[],_=>⟨rfl,rfl⟩
  |[],_::_,_,h=>h.elim
  |[],[],_::_,h=>h.elim
  |m::ms,d::ds,v::vs,h=>by have:=nL h.2;simp[this.1,this.2];omega
  |_::_,[],_,h=>h.elim
  |_::_,_::_,[],h=>h.elim
def fY(fs:LF):EF:=fun η=>(fs η).bind fun ds=>if ds.length≤1000 then some (.tup ds) else none
theorem gy{x1}(h:DM X z es (List.replicate n true) fs):DE X z (.Tuple es x1 pos) (fY fs):=PE.weak (NT h) fun σ H Q ⟨η,F,d,r,e,k⟩=>by
  unfold fY at e;obtain⟨ds,h1,h2⟩:=eK.mp e;by_cases hl:ds.length≤1000
  · rw[ay hl] at h2;cases h2;refine⟨η,F,ds,r,h1,fun vs H' F' g q=>?_⟩;have q:=sJ q;have hz:vs.length≤sizeLine:=by rw[←bu q];exact JZ hl
    refine⟨hz,fun p hp=>?_⟩;have g2:=bA.put g.base hp (.tup vs) hz;exact k _ _ _ (g.trans g2) (aN.mpr ⟨p,vs,rfl,aL,bD g2.jA _ _ q⟩)
  ·rw[aZ hl] at h2;cases h2
def oV(fs:LF):LF:=fun η=>(fs η).bind fun ds=>if ds.length≤1000 then some ds else none
theorem nM(h:DM X z es (List.replicate n true) fs):DO X z (.List es pos) (oV fs):=PE.weak (VW h) fun σ H Q ⟨η,F,d,r,e,k⟩=>by
  unfold oV at e;obtain⟨ds,h1,h2⟩:=eK.mp e;by_cases hl:ds.length≤1000
  · rw[ay hl] at h2;cases h2;refine⟨η,F,_,r,h1,fun vs H' F' g q=>?_⟩;have q:=sJ q;have hz:vs.length≤sizeLine:=by rw[←bu q];exact JZ hl
    refine⟨hz,fun p hp=>?_⟩;have g2:=bA.own g.base hp (.lst vs) hz rfl;exact k p vs _ F' (g.trans g2) (g.ent.free hp) (g.base.sub.free hp) aL q
  ·rw[aZ hl] at h2;cases h2
end
def cK(K:PySem.W.Frag)(ms:List Bool)(Fn:List D→Option Slot):Sp:=fun vs H Q _=>∃F ds r,Base F H∧nK K F H ms ds vs∧Fn ds=some r∧Gb K F H r Q
def eS(n:Nat)(ms:List Bool)(ds:List D):cP:=(List.zipWith (fun m d=>some (match m with|true=>Slot.sh d|false=>Slot.br d)) ms ds)++List.replicate (n-ds.length) none
def jB(n:Nat)(ms:List Bool)(g:SF):List D→Option Slot:=fun ds=>match g (eS n ms ds) with
  |some (.rt r)=>some r
  |some (.nx _)=>some (.sh .non)
  |_=>none
section
variable {K:PySem.W.Frag} {F H:Hp}
theorem J5:∀{ms:List Bool} {ds:List D} {vs:List V},nK K F H ms ds vs→∀(i:Nat) sl,(List.zipWith (fun m d=>some (match m with|true=>Slot.sh d|false=>Slot.br d)) ms ds)[i]?=some (some sl)→sl.own=false∧∃v,(vs.map some)[i]?=some (some v)∧j9 K ⟨F,H,Ez⟩ F H v sl
  |[],[],[],_,i,sl,e=>by simp at e
  |[],_::_,_,h,_,_,_=>h.elim
  |[],[],_::_,h,_,_,_=>h.elim
  |_::_,[],_,h,_,_,_=>h.elim
  |_::_,_::_,[],h,_,_,_=>h.elim
  |m::ms,d::ds,v::vs,h,0,sl,e=>by
   simp at e;subst e;cases m with
   |true=>exact⟨rfl,v,rfl,h.1⟩
   |false=>exact⟨rfl,v,rfl,h.1⟩
  |m::ms,d::ds,v::vs,h,i+1,sl,e=>by obtain⟨h1,w,h2,h3⟩:=J5 h.2 i sl (by simpa using e);exact⟨h1,w,by simpa using h2,h3⟩
theorem sL{Ez:Addr→Hp→Prop}{ms:List Bool}{ds:List D}(b:Base F H)(h:nK K F H ms ds vs):Rel K ⟨F,H,Ez⟩ F H (L2.start N vs) (eS N.length ms ds):=by
  obtain⟨l1,l2⟩:=nL h;have lz:(List.zipWith (fun m d=>some (match m with|true=>Slot.sh d|false=>Slot.br d)) ms ds).length=ds.length:=by rw[List.length_zipWith];omega
  have key:∀(i:Nat) sl,(eS N.length ms ds)[i]?=some (some sl)→sl.own=false∧∃v,(L2.start N vs)[i]?=some (some v)∧j9 K ⟨F,H,Ez⟩ F H v sl:=fun i sl e=>by
    unfold eS at e;by_cases hi:i<ds.length
    ·rw[List.getElem?_append_left (by rw[lz];exact hi)] at e;obtain⟨h1,v,h2,h3⟩:=J5 h i sl e;refine⟨h1,v,?_,h3⟩;unfold L2.start;rw[List.getElem?_append_left (by rw[g9];omega)];exact h2
    ·rw[Fu (by rw[lz];omega),List.getElem?_replicate] at e;split at e<;>cases e
  refine⟨bA.refl b,?_,fun i sl e=>(key i sl e).2,fun i j si sj vi vj p _ e _ o _ _ _ _ _=>by rw[(key i si e).1] at o;cases o⟩;unfold L2.start eS;rw[kK,kK,lz,g9,List.length_replicate,List.length_replicate];omega
end
theorem bL{base:Heap}{st:Stmt}{f:Addr}{ps:gs}{ms:List Bool}{g:SF}(F:kG K x qual st f fd)(S:aV N ps (az st))(D0:ms.length=ps.length)(hb:∀(eR:Value) (A:Around) (outer:List Env) (s:Shared) (H:Hp) (E:XK) (z:Zc),fI k (A.deeper (envOfC qual (az st) s.heap.objs.size f eR))→L6 (x4 i9 P w K mg base N qual (az st) f eR A outer s H E).Hv z (dD st) g):cG P w K mg base i9 (k+1) f fd ps (cK K ms (jB N.length ms g)):=by
  refine F.ok S (fun vs H Q E h=>?_) (fun eR A outer s H vs Q E hr h=>?_)
  ·obtain⟨F,ds,r,_,a,_⟩:=h;rw[←D0,(nL a).1]
  · obtain⟨F,ds,r,b,a,e,q⟩:=h;refine⟨_,hb eR A outer s H E ⟨F,H,fun _ _=>False⟩ hr,?_⟩;have rl:Rel K ⟨F,H,fun _ _=>False⟩ F H (L2.start N vs) (eS N.length ms ds):=sL b a;unfold jB at e;cases o:g (eS N.length ms ds) with
    |none=>rw[o] at e;cases e
    |some o' =>
     rw[o] at e;refine⟨_,F,o',rl,o,?_⟩;cases o' with
     |rt r'=>cases e;exact L5.of (z:=⟨F,H,fun _ _=>False⟩) q
     |nx η'=>cases e;exact fun σ' H' F' r' _=>q .non H' F' r'.mem (cf.mpr rfl)
     |bk _=>cases e
     |ct _=>cases e
section
variable {X:Cx} {z:Zc} {e a b:Expr} {f fa fb:EF} {pos p:Pos} {es:List Expr} {ms:List Bool} {fs:LF}
def ax(Fn:List D→Option Slot)(fs:LF):EF:=fun η=>(fs η).bind fun ds=>(Fn ds).bind fun r=>match r with|.sh d=>some d|.ol ds=>some (.lst ds)|.pr ds rest=>some (.tup (.lst ds::rest))|_=>none
def J6(Fn:List D→Option Slot)(fs:LF):LF:=fun η=>(fs η).bind fun ds=>(Fn ds).bind fun r=>match r with|.ol ds=>some ds|_=>none
theorem aI{ps:gs}{Fn:List D→Option Slot}(C:fW X.prog X.w X.K X.mg X.base k fn ps (cK X.K ms Fn))(hr:fI k X.A)(hg:Gl X x)(hm:X.mg x=some (.ref fn))(ha:DM X z (e::es) ms fs)(ti:(x==("__debug__":Str))=false:=by decide)(he:starEach (e::es) X.env=(false,eval e X.env)::starEach es X.env:=by rfl)(tj:(backTo pos (starEach es X.env)).any (·.1)=false:=by rfl):DE X z (.Call (.Name x p) (e::es) [] pos) (ax Fn fs):=PE.weak (DR C hr hg hm ha ti he tj) fun σ H Q ⟨η,F,d,r,e,k⟩=>by
  unfold ax at e;obtain⟨ds,h1,h⟩:=eK.mp e;obtain⟨s,h2,h⟩:=eK.mp h;refine⟨η,F,ds,r,h1,fun vs H1 F1 g1 q1=>?_⟩;show cK X.K ms Fn (vs++[]) H1 Q E0;rw[uE];refine⟨F1,ds,s,g1.base,q1,h2,?_⟩;cases s with
  |sh d'=>cases h;exact fun v H' F' g2 q2=>k v H' F' (g1.trans g2) q2
  |ol tu=>cases h;intro p vs H' F' g2 hp hF hH hd;have hs:cF F' (upd F' p (.lst vs)):=fq hF _;exact k _ _ _ ((g1.trans g2).share g2.base hH (g1.ent.free hp)) (aW.mpr ⟨p,vs,rfl,m4.of aL,bD hs _ _ hd⟩)
  |pr tu UJ=>cases h;intro a p vs ws H' F' g2 hp hF hH hd ha hr;have hs:cF F' (upd F' p (.lst vs)):=fq hF _;exact k _ _ _ ((g1.trans g2).share g2.base hH (g1.ent.free hp)) (aN.mpr ⟨a,_,rfl,hs _ _ ha,aP.mpr ⟨_,_,rfl,aW.mpr ⟨p,vs,rfl,m4.of aL,bD hs _ _ hd⟩,bD hs _ _ hr⟩⟩)
  |_=>cases h
theorem Sy{ps:gs}{Fn:List D→Option Slot}(C:fW X.prog X.w X.K X.mg X.base k fn ps (cK X.K ms Fn))(hr:fI k X.A)(hg:Gl X x)(hm:X.mg x=some (.ref fn))(ha:DM X z (e::es) ms fs)(ti:(x==("__debug__":Str))=false:=by decide)(he:starEach (e::es) X.env=(false,eval e X.env)::starEach es X.env:=by rfl)(tj:(backTo pos (starEach es X.env)).any (·.1)=false:=by rfl):DO X z (.Call (.Name x p) (e::es) [] pos) (J6 Fn fs):=PE.weak (DR C hr hg hm ha ti he tj) fun σ H Q ⟨η,F,d,r,e,k⟩=>by
  unfold J6 at e;obtain⟨ds,h1,h⟩:=eK.mp e;obtain⟨s,h2,h⟩:=eK.mp h;refine⟨η,F,ds,r,h1,fun vs H1 F1 g1 q1=>?_⟩;show cK X.K ms Fn (vs++[]) H1 Q E0;rw[uE];refine⟨F1,ds,s,g1.base,q1,h2,?_⟩;cases s with
  |ol tu=>cases h;exact fun p vs H' F' g2 hp hF hH hd=>k p vs H' F' (g1.trans g2) (g1.ent.free hp) hF hH hd
  |_=>cases h
def J7(K:PySem.W.Frag)(g:List D→Option D)(r:List V→Hp→VK→Prop):Prop:=∀(F H:Hp) (ds:List D) (d:D) (vs:List V) (Q:VK),Base F H→g ds=some d→cy K H ds vs→(∀w,Den K F d w→Q w H)→r vs H Q
def jQ(g:List D→Option D)(fs:LF):EF:=fun η=>(fs η).bind g
theorem bT{id:String}{g:List D→Option D}{r:List V→Hp→VK→Prop}(hc:qz X (.builtin id) r)(hgd:J7 X.K g r)(hg:Gl X x)(hm:X.mg x=none)(hv:bootBuiltins x=some (.builtin id))(ha:DM X z (e::es) ms fs)(hn:x≠"__name__":=by decide)(ti:(x==("__debug__":Str))=false:=by decide)(he:starEach (e::es) X.env=(false,eval e X.env)::starEach es X.env:=by rfl)(tj:(backTo pos (starEach es X.env)).any (·.1)=false:=by rfl):DE X z (.Call (.Name x p) (e::es) [] pos) (jQ g fs):=PE.weak (qR hc hg hm hv ha hn ti he tj) fun σ H Q ⟨η,F,d,r,e,k⟩=>by
  unfold jQ at e;obtain⟨ds,h1,h⟩:=eK.mp e;exact⟨η,F,ds,r,h1,fun vs H1 F1 g1 q1=>hgd F1 H1 ds d vs Q g1.base h (zc g1.base.sub q1) fun w q=>k w H1 F1 g1 q⟩
theorem Ge(h:cy K F [d] vs):∃v,vs=[v]∧Den K F d v:=by obtain⟨v,r,rfl,h1,h2⟩:=aP.mp h;rw[bC.mp h2];exact⟨v,rfl,h1⟩
def dU:List D→Option D
  |[.lst ds]=>some (.int ds.length)
  |[.tup ds]=>some (.int ds.length)
  |_=>none
theorem fZ:J7 K dU (fun xs H Q=>∃p ys,xs=[.ref p]∧(m4 K H p ys∨kE K H p ys)∧Q (.int ys.length) H):=fun F H ds d vs Q b e h k=>by
  unfold dU at e;split at e
  ·cases e;obtain⟨v,rfl,h'⟩:=Ge h;obtain⟨a,ws,rfl,h1,h2⟩:=aW.mp h';exact⟨a,ws,rfl,.inl h1,k _ (aQ.mpr (by rw[bu h2]))⟩
  ·cases e;obtain⟨v,rfl,h'⟩:=Ge h;obtain⟨a,ws,rfl,h1,h2⟩:=aN.mp h';exact⟨a,ws,rfl,.inr (kE.of h1),k _ (aQ.mpr (by rw[bu h2]))⟩
  ·cases e
def kH:List D→Option aO
  |[]=>some []
  |.int i::ds=>(kH ds).map (i::·)
  |_::_=>none
theorem kb:∀{ds:List D} {ns:aO},kH ds=some ns→ds=ns.map D.int
  |[],ns,h=>by cases h;rfl
  |.int i::ds,ns,h=>by obtain⟨r,h1,h2⟩:=g6.mp h;subst h2;rw[kb h1];rfl
theorem du:∀(ns:aO),kH (ns.map D.int)=some ns
  |[]=>rfl
  |n::ns=>by show(kH (ns.map D.int)).map (n::·)=_;rw[du ns];rfl
def ya:List D→Option D
  |[.lst ds]=>(kH ds).map fun ns=>.int ns.sum
  |_=>none
theorem zf:J7 K ya (fun xs H Q=>∃(p:Addr) (ns:aO),xs=[.ref p]∧m4 K H p (ns.map V.int)∧Q (.int ns.sum) H):=fun F H ds d vs Q b e h k=>by
  unfold ya at e;split at e
  ·obtain⟨ns,h1,rfl⟩:=g6.mp e;obtain⟨v,rfl,h'⟩:=Ge h;obtain⟨a,ws,rfl,h2,h3⟩:=aW.mp h';rw[kb h1] at h3;rw[ix h3] at h2;exact⟨a,ns,rfl,h2,k _ (aQ.mpr rfl)⟩
  ·cases e
def dh:D→Option (List D)
  |.lst ds=>some ds
  |.tup ds=>some ds
  |_=>none
def mj(f:EF):EF:=fun η=>(f η).bind fun d=>(dh d).map D.tup
theorem rj(hx:x="tuple")(hg:Gl X x)(hm:X.mg x=none)(ha:DE X z e f)(hs:starEach [e] X.env=(false,eval e X.env)::starEach [] X.env:=by rfl):DE X z (.Call (.Name x p) [e] [] pos) (mj f):=by
  subst hx;refine PE.weak (B6 Bl hg hm yR (fj ha kM hs) (by decide) (by decide) hs rfl) fun σ H Q ⟨η,F,d,r,e,k⟩=>?_;unfold mj at e;obtain⟨d',h1,h⟩:=eK.mp e;obtain⟨ds,h2,rfl⟩:=g6.mp h;refine⟨η,F,d',r,h1,fun v H1 F1 g1 q1=>?_⟩;cases d' with
  |lst tu =>
   cases h2;obtain⟨a,ws,rfl,h3,h4⟩:=aW.mp q1;have hz:ws.length≤sizeLine:=by
     rcases h3 with(h3|⟨o,h3⟩)|⟨o,its,n,_,_,_,_,hz,hv⟩
     ·exact g1.base.Fp _ _ (g1.base.sub _ _ h3)
     ·exact g1.base.Fp _ _ (g1.base.sub _ _ h3)
     ·rw[hv.length];simpa using hz
   refine⟨a,ws,rfl,.inl ⟨g1.base.sub.seq h3,fun l hl=>?_⟩⟩;have g2:=bA.put g1.base hl (.tup ws) hz;exact k _ _ _ (g1.trans g2) (aN.mpr ⟨l,ws,rfl,aL,bD g2.jA _ _ h4⟩)
  |tup tu=>cases h2;obtain⟨a,ws,rfl,h3,h4⟩:=aN.mp q1;exact⟨a,ws,rfl,.inr ⟨kE.of (g1.base.sub _ _ h3),k _ _ _ g1 q1⟩⟩
  |_=>cases h2
def Gf(f:EF):LF:=fun η=>(f η).bind dh
theorem yw(b:Base F H){a:Addr}{ws:List V}(h:m4 K H a ws):ws.length≤sizeLine:=by
  rcases h with(h3|⟨o,h3⟩)|⟨o,its,n,_,_,_,_,hz,hv⟩
  ·exact b.Fp _ _ h3
  ·exact b.Fp _ _ h3
  ·rw[hv.length];simpa using hz
theorem J8(hx:x="list")(hg:Gl X x)(hm:X.mg x=none)(ha:DE X z e f)(hs:starEach [e] X.env=(false,eval e X.env)::starEach [] X.env:=by rfl):DO X z (.Call (.Name x p) [e] [] pos) (Gf f):=by
  subst hx;refine PE.weak (B6 Dy hg hm DF (fj ha kM hs) (by decide) (by decide) hs rfl) fun σ H Q ⟨η,F,d,r,e,k⟩=>?_;unfold Gf at e;obtain⟨d',h1,h2⟩:=eK.mp e;refine⟨η,F,d',r,h1,fun v H1 F1 g1 q1=>?_⟩;cases d' with
  |lst tu=>cases h2;obtain⟨a,ws,rfl,h3,h4⟩:=aW.mp q1;have UL:=g1.base.sub.seq h3;refine⟨a,ws,rfl,.inl UL,fun l hl=>?_⟩;have g2:=bA.own g1.base hl (.lst ws) (yw g1.base UL) rfl;exact k l ws _ F1 (g1.trans g2) (g1.ent.free hl) (g1.base.sub.free hl) aL h4
  |tup tu=>cases h2;obtain⟨a,ws,rfl,h3,h4⟩:=aN.mp q1;refine⟨a,ws,rfl,.inr (kE.of (g1.base.sub _ _ h3)),fun l hl=>?_⟩;have g2:=bA.own g1.base hl (.lst ws) (show ws.length≤sizeLine from g1.base.Fp _ _ (g1.base.sub _ _ h3)) rfl;exact k l ws _ F1 (g1.trans g2) (g1.ent.free hl) (g1.base.sub.free hl) aL h4
  |_=>cases h2
def iY:D→D→Option D
  |.lst ds,.int i=>qA ds i
  |.tup ds,.int i=>qA ds i
  |_,_=>none
theorem yx{ds:List D}{i:Int}(h:cy K F ds vs)(e:qA ds i=some d):∃v,qA vs i=some v∧Den K F d v:=by unfold qA at e⊢;rw[bu h] at e;obtain⟨j,h1,h2⟩:=eK.mp e;obtain⟨v,h3,h4⟩:=F9 h h2;exact⟨v,by rw[h1];exact h3,h4⟩
theorem lP(ha:DB X z a fa)(hb:DB X z b fb)(hs:yt b:=by intro _ _;rfl):DB X z (.Subscript a b pos) (ag iY fa fb):=PE.weak (N3 (JN.or HG) ha hb hs) fun σ H Q ⟨η,F,d,r,e,k⟩=>by
  obtain⟨x,y,h1,h2,h3⟩:=wz e;refine⟨η,F,x,r,h1,fun v H1 F1 g1 q1=>⟨η,F1,y,r.grow g1,h2,fun u H2 F2 g2 q2=>?_⟩⟩;have q1:=cz g2.ent _ _ q1;unfold iY at h3;split at h3
  ·obtain⟨a,ws,rfl,h4,h5⟩:=aW.mp q1;rw[aQ.mp q2];obtain⟨v,h6,h7⟩:=yx h5 h3;exact .inl ⟨a,ws,_,v,rfl,rfl,h4,h6,k v H2 F2 (g1.trans g2) h7⟩
  ·obtain⟨a,ws,rfl,h4,h5⟩:=aN.mp q1;rw[aQ.mp q2];obtain⟨v,h6,h7⟩:=yx h5 h3;exact .inr ⟨a,ws,_,v,rfl,rfl,kE.of h4,h6,k v H2 F2 (g1.trans g2) h7⟩
  ·cases h3
theorem jR(ha:DE X z a fa)(hb:DB X z b fb)(hs:yt b:=by intro _ _;rfl):DE X z (.Subscript a b pos) (ag iY fa fb):=PE.weak (N3 (JN.or HG) ha hb hs) fun σ H Q ⟨η,F,d,r,e,k⟩=>by
  obtain⟨x,y,h1,h2,h3⟩:=wz e;refine⟨η,F,x,r,h1,fun v H1 F1 g1 q1=>⟨η,F1,y,r.grow g1,h2,fun u H2 F2 g2 q2=>?_⟩⟩;have q1:=cz g2.jA _ _ q1;unfold iY at h3;split at h3
  ·obtain⟨a,ws,rfl,h4,h5⟩:=aW.mp q1;rw[aQ.mp q2];obtain⟨v,h6,h7⟩:=yx h5 h3;exact .inl ⟨a,ws,_,v,rfl,rfl,g2.base.sub.seq h4,h6,k v H2 F2 (g1.trans g2) h7⟩
  ·obtain⟨a,ws,rfl,h4,h5⟩:=aN.mp q1;rw[aQ.mp q2];obtain⟨v,h6,h7⟩:=yx h5 h3;exact .inr ⟨a,ws,_,v,rfl,rfl,kE.of (g2.base.sub _ _ h4),h6,k v H2 F2 (g1.trans g2) h7⟩
  ·cases h3
def L7(cs:aO)(f:EF):EF:=fun η=>(f η).bind fun d=>match d with|.int i=>(qA cs i).map D.int|_=>none
theorem Wu{c:Addr}{cs:aO}(hg:Gl X x)(hm:X.mg x=some (.ref c))(hq:∀H,kE X.K H c (cs.map V.int))(hb:DB X z b fb)(hs:yt b:=by intro _ _;rfl)(hd:(x==("__debug__":Str))=false:=by decide):DE X z (.Subscript (.Name x px) b pos) (L7 cs fb):=PE.weak (N3 HG (RB (v:=.ref c) hg hm rfl hd) hb hs) fun σ H Q ⟨η,F,d,r,e,k⟩=>by
  unfold L7 at e;obtain⟨y,h1,h2⟩:=eK.mp e;refine⟨η,F,y,r,h1,fun u H2 F2 g2 q2=>?_⟩;cases y with
  |int i=>obtain⟨c',h3,h4⟩:=g6.mp h2;subst h4;rw[aQ.mp q2];refine⟨c,_,i,.int c',rfl,rfl,hq H2,?_,k _ H2 F2 g2 (aQ.mpr rfl)⟩;unfold qA at h3⊢;rw[g9];obtain⟨j,h5,h6⟩:=eK.mp h3;rw[h5];show(cs.map V.int)[j]?=_;rw[qH,h6];rfl
  |_=>cases h2
abbrev PF:=cP→Option (Option Int)
def vP(K:PySem.W.Frag)(z:Zc)(f:PF):TO:=fun σ H Q=>∃η F o,Rel K z F H σ η∧f η=some o∧∀H' F',bA F H F' H'→Q o H'
def DP(X:Cx)(z:Zc)(e:Option Expr)(f:PF):Prop:=PO X e (vP X.K z f)
def tP:PF:=fun _=>some none
def oD(f:EF):PF:=fun η=>(f η).bind fun d=>match d with|.int i=>some (some i)|_=>none
theorem PO.weak{e:Option Expr}{t t':TO}(h:PO X e t)(k:∀σ H Q,t' σ H Q→t σ H Q):PO X e t':=fun pins s σ H Q I q=>h pins s σ H Q I (k σ H Q q)
theorem uU:DP X z none tP:=PO.weak R0 fun σ H Q ⟨η,F,o,r,e,k⟩=>by cases e;exact k H F (bA.refl r.base)
theorem p7(h:DB X z e f):DP X z (some e) (oD f):=PO.weak (R3 h) fun σ H Q ⟨η,F,o,r,e,k⟩=>by
  unfold oD at e;obtain⟨d,h1,h2⟩:=eK.mp e;cases d with
  |int i=>cases h2;exact⟨η,F,_,r,h1,fun v H' F' g q=>⟨i,aQ.mp q,k H' F' g⟩⟩
  |_=>cases h2
def cutD(ds:List D)(lo hi:Option Int):List D:=(ds.drop (HT.uB ds.length 0 lo)).take (HT.uB ds.length ds.length hi-HT.uB ds.length 0 lo)
def kQ(f:EF)(pl ph:PF):LF:=fun η=>(f η).bind fun d=>(pl η).bind fun l=>(ph η).bind fun h=>match d with|.lst ds=>some (cutD ds l h)|_=>none
theorem pK{lo hi:Option Expr}{pl ph:PF}(ha:DE X z e f)(hl:DP X z lo pl)(hh:DP X z hi ph):DO X z (.Subscript e (.Slice lo hi none p2) pos) (kQ f pl ph):=PE.weak (N2 R6 ha hl hh) fun σ H Q ⟨η,F,d,r,e,k⟩=>by
  unfold kQ at e;obtain⟨d',h1,e⟩:=eK.mp e;obtain⟨l,h2,e⟩:=eK.mp e;obtain⟨h,h3,e⟩:=eK.mp e;cases d' with
  |lst ds=>cases e;refine⟨η,F,_,r,h1,fun v H1 F1 g1 q1=>⟨η,F1,l,r.grow g1,h2,fun H2 F2 g2=>⟨η,F2,h,(r.grow g1).grow g2,h3,fun H3 F3 g3=>?_⟩⟩⟩;obtain⟨a,ws,rfl,h4,h5⟩:=aW.mp (cz (g2.jA.trans g3.jA) _ _ q1);refine⟨a,ws,rfl,g3.base.sub.seq h4,fun p hp=>?_⟩;have hz:(HF ws l h).length≤sizeLine:=oQ (xC _ _ _) (yw g3.base (g3.base.sub.seq h4));have g4:=bA.own g3.base hp (.lst (HF ws l h)) hz rfl;have Zq:=(g1.trans g2).trans g3;refine k p _ _ F3 (Zq.trans g4) (Zq.ent.free hp) (g3.base.sub.free hp) aL ?_;unfold cutD HF;rw[bu h5];exact Cb _ (Cd _ h5)
  |_=>cases e
theorem Bs(h:n≤10000):n≤sizeLine:=oQ h (by rw[jc];decide)
def Zr(K:PySem.W.Frag):R2:=fun x y H Q=>∃l b xs zs,x=.ref l∧y=.ref b∧m4 K H l xs∧m4 K H b zs∧xs.length+zs.length≤sizeLine∧∀p,H p=none→Q (.ref p) (upd H p (.lst (xs++zs)))
theorem Sz:qy X (binaryOp .Add) (Zr X.K):=by
  intro pins s σ H x y v u Q I rx ry h;obtain⟨l,b,xs,zs,rfl,rfl,hH,hB,hz,q⟩:=h;cases rx;cases ry;obtain⟨its,r,hl,_⟩:=I.list hH;obtain⟨eO,r2,hl2,_⟩:=I.list hB;obtain⟨⟨cls,dd,data,sl⟩,ho,hc,n,hd⟩:=hl.isList;obtain⟨⟨VY,Rm,data2,Rn⟩,LJ,HD,n2,hd2⟩:=hl2.isList;simp only at hc hd HD hd2;subst hc hd HD hd2;have e1:=r.length;have e2:=r2.length;have ea:its.toArray++eO.toArray=(its++eO).toArray:=by simp
  refine concat_meets ⟨_,ho,rfl⟩ ⟨_,LJ,rfl⟩ noFill_list_add seq_list_add PySem.F.slot_list_add PySem.F.entry_list_add (PySem.F.args_list_add_2 _ _) (list_addW l b its.toArray eO.toArray n n2 dd Rm sl Rn (by simp;omega)) ⟨ho,LJ,?_⟩;rw[ea];exact⟨.ref _,_,I.ab8 (t':=s.toks) (r.append r2) (by rw[kK];omega),rfl,q _ I.fresh⟩
def HS:D→D→Option (List D)
  |.lst x,.lst y=>if x.length+y.length≤10000 then some (x++y) else none
  |_,_=>none
def yb(fa fb:EF):LF:=fun η=>(fa η).bind fun x=>(fb η).bind fun y=>HS x y
theorem L8{x y:D}{l:List D}(h:HS x y=some l):∃u v,x=.lst u∧y=.lst v∧u.length+v.length≤10000∧l=u++v:=by
  unfold HS at h;split at h
  · rename_i u v;by_cases hl:u.length+v.length≤10000
    ·rw[ay hl] at h;cases h;exact⟨u,v,rfl,rfl,hl,rfl⟩
    ·rw[aZ hl] at h;cases h
  ·cases h
theorem D1(ha:DE X z a fa)(hb:DE X z b fb):DO X z (.BinOp a .Add b pos) (yb fa fb):=PE.weak (NM Sz ha hb) fun σ H Q ⟨η,F,d,r,e,k⟩=>by unfold yb at e;obtain⟨x,h1,e⟩:=eK.mp e;obtain⟨y,h2,e⟩:=eK.mp e;obtain⟨u,w,rfl,rfl,hl,rfl⟩:=L8 e;refine⟨η,F,_,r,h1,fun v1 H1 F1 g1 q1=>⟨η,F1,_,r.grow g1,h2,fun v2 H2 F2 g2 q2=>?_⟩⟩;obtain⟨a1,vs,rfl,a2,a3⟩:=aW.mp (cz g2.jA _ _ q1);obtain⟨b1,ws,rfl,b2,b3⟩:=aW.mp q2;have l1:=bu a3;have l2:=bu b3;refine⟨a1,b1,vs,ws,rfl,rfl,g2.base.sub.seq a2,g2.base.sub.seq b2,Bs (by omega),fun q hq=>?_⟩;have g3:=bA.own g2.base hq (.lst (vs++ws)) (show(vs++ws).length≤sizeLine by rw[kK];exact Bs (by omega)) rfl;have A3:=g1.trans g2;exact k q _ _ F2 (A3.trans g3) (A3.ent.free hq) (g2.base.sub.free hq) aL (oC a3 b3)
def Nt:D→Option V
  |.non=>some .non
  |.bl b=>some (.bl b)
  |.int i=>some (.int i)
  |.str x=>some (.str x)
  |_=>none
theorem sM{w:V}(h:Den K F d v)(e:Nt d=some w):v=w∧tL w=true:=by
  cases d with
  |non=>cases e;exact⟨cf.mp h,rfl⟩
  |bl _=>cases e;exact⟨bS.mp h,rfl⟩
  |int _=>cases e;exact⟨aQ.mp h,rfl⟩
  |str _=>cases e;exact⟨cV.mp h,rfl⟩
  |_=>cases e
def SD:List D→Option (List V)
  |[]=>some []
  |d::ds=>(Nt d).bind fun v=>(SD ds).map (v::·)
theorem zg{K:PySem.W.Frag}{F:Hp}:∀{ds:List D} {vs ws:List V},cy K F ds vs→SD ds=some ws→vs=ws∧ws.all tL=true
  |[],vs,ws,h,e=>by cases e;exact⟨bC.mp h,rfl⟩
  |d::ds,vs,ws,h,e=>by obtain⟨v,h1,e⟩:=eK.mp e;obtain⟨r,h2,rfl⟩:=g6.mp e;obtain⟨v',r',rfl,h3,h4⟩:=aP.mp h;obtain⟨e1,f1⟩:=sM h3 h1;obtain⟨e2,f2⟩:=zg h4 h2;subst e1 e2;exact⟨rfl,by rw[mX,f1,f2];rfl⟩
theorem wA:∀(ns:aO),SD (ns.map D.int)=some (ns.map V.int)
  |[]=>rfl
  |n::ns=>by show(some (V.int n)).bind _=_;simp[wA ns]
def inD(neg:Bool):D→D→Option D:=fun x y=>(Nt x).bind fun v=>(dh y).bind fun ds=>(SD ds).map fun ws=>.bl (if neg then !XW v ws else XW v ws)
theorem UM(neg:Bool):Nr K (inD neg) (rIn K neg):=fun F H x y d v u Q b e h1 h2 k=>by
  unfold inD at e;obtain⟨v',e1,e⟩:=eK.mp e;obtain⟨ds,e2,e⟩:=eK.mp e;obtain⟨ws,e3,rfl⟩:=g6.mp e;obtain⟨rfl,fv⟩:=sM h1 e1;cases y with
  |lst tu=>cases e2;obtain⟨a,us,rfl,h3,h4⟩:=aW.mp h2;obtain⟨rfl,fw⟩:=zg h4 e3;exact⟨a,us,rfl,.inl h3,fv,fw,k _ (bS.mpr rfl)⟩
  |tup tu=>cases e2;obtain⟨a,us,rfl,h3,h4⟩:=aN.mp h2;obtain⟨rfl,fw⟩:=zg h4 e3;exact⟨a,us,rfl,.inr (kE.of h3),fv,fw,k _ (bS.mpr rfl)⟩
  |_=>cases e2
def iI(C:Int→Int→Bool)(h:Int→Int→D):D→D→Option D
  |.int i,.int j=>if C i j=true then some (h i j) else none
  |_,_=>none
theorem Gg{C:Int→Int→Bool}{C':Int→Int→Prop}{h:Int→Int→Int}(hc:∀i j,C i j=true→C' i j):Nr K (iI C fun i j=>.int (h i j)) (rI C' fun i j=>.int (h i j)):=fun F H x y d v u Q b e h1 h2 k=>by
  unfold iI at e;split at e
  · rename_i i j;by_cases Dr:C i j=true
    ·rw[ay Dr] at e;cases e;exact⟨i,j,aQ.mp h1,aQ.mp h2,hc i j Dr,k _ (aQ.mpr rfl)⟩
    ·rw[aZ Dr] at e;cases e
  ·cases e
theorem OB{h:Int→Int→Int}:Nr K (iI (fun _ _=>true) fun i j=>.int (h i j)) (Rk fun i j=>.int (h i j)):=fun F H x y d v u Q b e h1 h2 k=>by
  unfold iI at e;split at e
  ·rename_i i j;rw[ay rfl] at e;cases e;exact⟨i,j,aQ.mp h1,aQ.mp h2,k _ (aQ.mpr rfl)⟩
  ·cases e
theorem Gh{h:Int→Int→Bool}:Nr K (iI (fun _ _=>true) fun i j=>.bl (h i j)) (Rk fun i j=>.bl (h i j)):=fun F H x y d v u Q b e h1 h2 k=>by
  unfold iI at e;split at e
  ·rename_i i j;rw[ay rfl] at e;cases e;exact⟨i,j,aQ.mp h1,aQ.mp h2,k _ (bS.mpr rfl)⟩
  ·cases e
def ml:=iI (fun _ _=>true) fun i j=>.int (i+j)
def HV:=iI (fun _ _=>true) fun i j=>.int (i-j)
def mulC(i j:Int):Bool:=decide ((-(2^64)<i∧i<2^64)∨(-(2^64)<j∧j<2^64))
def uV:=iI mulC fun i j=>.int (i*j)
def divC(_ j:Int):Bool:=decide (0<j∧j<1073741824)
def L9:=iI divC fun i j=>.int (i / j)
def qJ(_ j:Int):Bool:=decide (0<j)
def oB:=iI qJ fun i j=>.int (i%j)
def powC(i j:Int):Bool:=decide (0≤j∧j≤1000000∧i.natAbs<2^64)
def Wv:=iI powC fun i j=>.int (i^j.toNat)
def Ww:=iI powC fun i j=>.int (i*2^j.toNat)
def Wx(_ j:Int):Bool:=decide (0≤j)
def SG:=iI Wx fun i j=>.int (i / 2^j.toNat)
def J9:=iI (fun _ _=>true) fun i j=>.int (Builtin.bitAnd i j)
def HW:=iI (fun _ _=>true) fun i j=>.bl (decide (i<j))
def Nu:=iI (fun _ _=>true) fun i j=>.bl (decide (j<i))
def Zt:=iI (fun _ _=>true) fun i j=>.bl (decide (j≤i))
theorem SJ{i j:Int}(h:mulC i j=true):RL i j:=by unfold mulC at h;have q:=xT h;exact q
theorem SK{i j:Int}(h:divC i j=true):YD i j:=by unfold divC at h;have q:=xT h;exact q
theorem Ka{i j:Int}(h:powC i j=true):VD i j:=by unfold powC at h;have q:=xT h;exact q
theorem gd(ha:DB X z a fa)(hb:DB X z b fb):DE X z (.BinOp a .Add b pos) (ag ml fa fb):=ri VF OB ha hb
theorem D2(ha:DB X z a fa)(hb:DB X z b fb):DE X z (.BinOp a .Sub b pos) (ag HV fa fb):=ri VG OB ha hb
theorem rm(ha:DB X z a fa)(hb:DB X z b fb):DE X z (.BinOp a .Mult b pos) (ag uV fa fb):=ri VH (Gg fun i j h=>SJ h) ha hb
theorem HX(ha:DB X z a fa)(hb:DB X z b fb):DE X z (.BinOp a .FloorDiv b pos) (ag L9 fa fb):=ri RM (Gg fun i j h=>SK h) ha hb
theorem i3(ha:DB X z a fa)(hb:DB X z b fb):DE X z (.BinOp a .Mod b pos) (ag oB fa fb):=ri VJ (Gg fun i j h=>xT h) ha hb
theorem Wy(ha:DB X z a fa)(hb:DB X z b fb):DE X z (.BinOp a .Pow b pos) (ag Wv fa fb):=ri VL (Gg fun i j h=>Ka h) ha hb
theorem Wz(ha:DB X z a fa)(hb:DB X z b fb):DE X z (.BinOp a .LShift b pos) (ag Ww fa fb):=ri VM (Gg fun i j h=>Ka h) ha hb
theorem WB(ha:DB X z a fa)(hb:DB X z b fb):DE X z (.BinOp a .RShift b pos) (ag SG fa fb):=ri VN (Gg fun i j h=>xT h) ha hb
theorem SM(ha:DB X z a fa)(hb:DB X z b fb):DE X z (.BinOp a .BitAnd b pos) (ag J9 fa fb):=ri VP OB ha hb
def SQ(f:EF):EF:=fun η=>(f η).bind fun d=>match d with|.int i=>some (.int (-i))|_=>none
theorem WC(ha:DB X z a fa):DE X z (.UnaryOp .USub a pos) (SQ fa):=PE.weak (YC VQ ha) fun σ H Q ⟨η,F,d,r,e,k⟩=>by
  unfold SQ at e;obtain⟨d',h1,h2⟩:=eK.mp e;cases d' with
  |int i=>cases h2;exact⟨η,F,_,r,h1,fun v H' F' g q=>⟨i,aQ.mp q,k _ H' F' g (aQ.mpr rfl)⟩⟩
  |_=>cases h2
theorem Zu(ha:DB X z a fa)(hb:DB X z b fb):DE X z (.Compare a [.Lt] [b] pos) (ag HW fa fb):=y9 Uz Gh ha hb (lX _)
theorem Zv(ha:DB X z a fa)(hb:DB X z b fb):DE X z (.Compare a [.GtE] [b] pos) (ag Zt fa fb):=y9 UA Gh ha hb (lX _)
theorem xE(ha:DB X z a fa)(hb:DB X z b fb):DT X z (.Compare a [.Lt] [b] pos) (bU (ag HW fa fb)):=p6 Uz Gh ha hb (lX _)
theorem zh(ha:DB X z a fa)(hb:DB X z b fb):DT X z (.Compare a [.Gt] [b] pos) (bU (ag Nu fa fb)):=p6 YG Gh ha hb (lX _)
theorem Zw(ha:DB X z a fa)(hb:DB X z b fb):DT X z (.Compare a [.GtE] [b] pos) (bU (ag Zt fa fb)):=p6 UA Gh ha hb (lX _)
theorem Kc(ha:DB X z a fa)(hb:DB X z b fb)(hm:behindInMarks .In b=false:=by rfl):DT X z (.Compare a [.In] [b] pos) (bU (ag (inD false) fa fb)):=p6 LK (UM false) ha hb hm
theorem D3(ha:DB X z a fa)(hb:DB X z b fb)(hm:behindInMarks .NotIn b=false:=by rfl):DT X z (.Compare a [.NotIn] [b] pos) (bU (ag (inD true) fa fb)):=p6 Dx (UM true) ha hb hm
def pL:D→D→Option D
  |.non,.non=>some (.bl true)
  |_,.non=>some (.bl false)
  |_,_=>none
def zi:D→D→Option D
  |.non,.non=>some (.bl false)
  |_,.non=>some (.bl true)
  |_,_=>none
theorem D4(h:Den K F d v):v=.non↔d=.non:=by
  cases d with
  |non=>simp[cf.mp h]
  |bl _=>simp[bS.mp h]
  |int _=>simp[aQ.mp h]
  |str _=>simp[cV.mp h]
  |tup _=>obtain⟨a,vs,rfl,_⟩:=aN.mp h;simp
  |lst _=>obtain⟨a,vs,rfl,_⟩:=aW.mp h;simp
  |obj _=>obtain⟨a,vs,rfl,_⟩:=hG.mp h;simp
  |exc _=>obtain⟨a,rfl,_⟩:=j8.mp h;simp
theorem OD:Nr K pL (fun x y H Q=>y=.non∧Q (.bl (decide (x=.non))) H):=fun F H x y d v u Q b e h1 h2 k=>by
  have hy:y=.non:=by cases x<;>cases y<;>first|rfl|cases e
  subst hy;refine⟨cf.mp h2,k _ ?_⟩;have hd:d=.bl (decide (v=.non)):=by have q:=D4 h1;cases x<;>cases e<;>simp[q]
  rw[hd];exact bS.mpr rfl
theorem Kd:Nr K zi (fun x y H Q=>y=.non∧Q (.bl (!decide (x=.non))) H):=fun F H x y d v u Q b e h1 h2 k=>by
  have hy:y=.non:=by cases x<;>cases y<;>first|rfl|cases e
  subst hy;refine⟨cf.mp h2,k _ ?_⟩;have hd:d=.bl (!decide (v=.non)):=by have q:=D4 h1;cases x<;>cases e<;>simp[q]
  rw[hd];exact bS.mpr rfl
theorem OG(ha:DB X z a fa)(hb:DB X z b fb):DE X z (.Compare a [.Is] [b] pos) (ag pL fa fb):=y9 NQ OD ha hb (lX _)
theorem D5(ha:DB X z a fa)(hb:DB X z b fb):DT X z (.Compare a [.Is] [b] pos) (bU (ag pL fa fb)):=p6 NQ OD ha hb (lX _)
theorem SR(ha:DB X z a fa)(hb:DB X z b fb):DE X z (.Compare a [.IsNot] [b] pos) (ag zi fa fb):=y9 JK Kd ha hb (lX _)
theorem SV(ha:DB X z a fa)(hb:DB X z b fb):DT X z (.Compare a [.IsNot] [b] pos) (bU (ag zi fa fb)):=p6 JK Kd ha hb (lX _)
end
def HY(K:PySem.W.Frag)(z:Zc)(F:Hp)(m:Bool)(d:D)(v:V):Prop:=match m with
  |true=>Den K F d v
  |false=>Den K z.H₀ d v
structure Walk (K:PySem.W.Frag) (z:Zc) (F:Hp) (J:It) (m:Bool) (ds:List D):Prop where
  go:∀F' H',cF F F'→bA z.F₀ z.H₀ F' H'→∀i,i<ds.length→J.go i H'
  NJ:∀F' H',cF F F'→bA z.F₀ z.H₀ F' H'→∀(i:Nat) d x Nv,ds[i]?=some d→J.NJ i H' x Nv→∃SW,bA F' H' SW Nv∧HY K z SW m d x
  stop:∀F' H',cF F F'→bA z.F₀ z.H₀ F' H'→J.stop ds.length H'
  len:ds.length≤sizeLine
def vI(K:PySem.W.Frag)(z:Zc)(m:Bool)(f:LF):TI:=fun σ H R=>∃η F ds,Rel K z F H σ η∧f η=some ds∧∀J H' F',bA F H F' H'→Walk K z F' J m ds→R J H'
def DI(X:Cx)(z:Zc)(tg iter:Expr)(m:Bool)(f:LF):Prop:=PI X tg iter (vI X.K z m f)
theorem PI.weak{t t':TI}(h:PI X tg e t)(k:∀σ H R,t' σ H R→t σ H R):PI X tg e t':=fun pins s σ H R I q=>h pins s σ H R I (k σ H R q)
section
variable {K:PySem.W.Frag} {z:Zc} {F:Hp}
theorem Ma{ds:List D}(h:m4 K F a vs)(hd:cy K F ds vs)(hl:ds.length≤sizeLine):Walk K z F (Itl K a) true ds where
  go:=fun F' H' s g i hi=>⟨vs,_,(s.trans g.base.sub).seq h,mS (by rw[←bu hd];exact hi)⟩
  NJ:=fun F' H' s g i d x Nv e y=>by obtain⟨rfl,y⟩:=y;have e2:=y vs ((s.trans g.base.sub).seq h);obtain⟨d',h1,h2⟩:=sG hd e2;rw[e] at h1;cases h1;exact⟨F',bA.refl g.base,cz s _ _ h2⟩
  stop:=fun F' H' s g=>⟨vs,(s.trans g.base.sub).seq h,by rw[bu hd];exact cw _⟩
  len:=hl
theorem OI{ds:List D}(h:kE K F a vs)(hd:cy K F ds vs)(hl:ds.length≤sizeLine):Walk K z F (Itt K a) true ds where
  go:=fun F' H' s g i hi=>⟨vs,_,yZ (s.trans g.base.sub) h,mS (by rw[←bu hd];exact hi)⟩
  NJ:=fun F' H' s g i d x Nv e y=>by obtain⟨rfl,y⟩:=y;have e2:=y vs (yZ (s.trans g.base.sub) h);obtain⟨d',h1,h2⟩:=sG hd e2;rw[e] at h1;cases h1;exact⟨F',bA.refl g.base,cz s _ _ h2⟩
  stop:=fun F' H' s g=>⟨vs,yZ (s.trans g.base.sub) h,by rw[bu hd];exact cw _⟩
  len:=hl
theorem HZ{ds:List D}(h:m4 K z.H₀ a vs)(hd:cy K z.H₀ ds vs)(hl:ds.length≤sizeLine):Walk K z F (Itl K a) false ds where
  go:=fun F' H' s g i hi=>⟨vs,_,g.ent.seq h,mS (by rw[←bu hd];exact hi)⟩
  NJ:=fun F' H' s g i d x Nv e y=>by obtain⟨rfl,y⟩:=y;have e2:=y vs (g.ent.seq h);obtain⟨d',h1,h2⟩:=sG hd e2;rw[e] at h1;cases h1;exact⟨F',bA.refl g.base,h2⟩
  stop:=fun F' H' s g=>⟨vs,g.ent.seq h,by rw[bu hd];exact cw _⟩
  len:=hl
def dk(lo:Int)(n:Nat):List D:=(List.range n).map fun(i:Nat)=>D.int (lo+(i:Int))
theorem zj{lo:Int}(hl:n≤sizeLine):Walk K z F (Yv lo n) true (dk lo n) where
  go:=fun F' H' s g i hi=>by
    have q:i<n:=by simpa[dk] using hi
    exact q
  NJ:=fun F' H' s g i d x Nv e y=>by
    obtain⟨rfl,rfl⟩:=y;refine⟨F',bA.refl g.base,?_⟩;unfold dk at e;rw[qH] at e;obtain⟨j,h1,rfl⟩:=g6.mp e;have h2:j=i:=by have h3:=xS.mp h1;obtain⟨_,h4⟩:=h3;simpa using h4.symm
    subst h2;show Den K F' _ _;exact aQ.mpr rfl
  stop:=fun F' H' s g=>by show n≤_;simp[dk]
  len:=by simpa[dk] using hl
end
section
variable {X:Cx} {z:Zc} {tg e a b:Expr} {f fa fb:EF} {pos p:Pos} {m:Bool}
def cI(f:EF):LF:=fun η=>(f η).bind dh
theorem cD(h:DE X z e f):DI X z tg e true (cI f):=fun pins s σ H R I ⟨η,F,ds,r,e,k⟩=>by
  unfold cI at e;obtain⟨d,h1,h2⟩:=eK.mp e;cases d with
  |lst tu=>cases h2;refine JH h pins s σ H R I ⟨η,F,_,r,h1,fun v H' F' g q=>?_⟩;obtain⟨a,vs,rfl,h3,h4⟩:=aW.mp q;have UL:=g.base.sub.seq h3;exact⟨a,rfl,⟨vs,UL⟩,k _ H' F' g (Ma h3 h4 (by rw[bu h4];exact yw g.base UL))⟩
  |tup tu=>cases h2;refine Vy h pins s σ H R I ⟨η,F,_,r,h1,fun v H' F' g q=>?_⟩;obtain⟨a,vs,rfl,h3,h4⟩:=aN.mp q;have UL:=g.base.sub _ _ h3;exact⟨a,rfl,⟨vs,kE.of UL⟩,k _ H' F' g (OI (kE.of h3) h4 (by rw[bu h4];exact g.base.Fp _ _ UL))⟩
  |_=>cases h2
def Ia(i:Nat):LF:=fun η=>match η[i]? with
  |some (some (.br (.lst ds)))=>some ds
  |_=>none
theorem UN(i:Nat)(hN:X.N[i]?=some x:=by rfl)(hv:FD X.env.scope x:=by first|exact Or.inl rfl|exact Or.inr (Or.inl rfl)|exact Or.inr (Or.inr rfl))(hd:(x==("__debug__":Str))=false:=by decide)(oA:(x==("__classdict__":Str))=false:=by decide):DI X z tg (.Name x pos) false (Ia i):=fun pins s σ H R I ⟨η,F,ds,r,e,k⟩=>by
  unfold Ia at e;split at e
  ·rename_i tu h;cases e;obtain⟨v,J3,hs⟩:=r.at_ i _ h;obtain⟨a,vs,rfl,h3,h4⟩:=aW.mp (show Den X.K z.H₀ (.lst ds) v from hs);refine JH (kL hN hv hd oA) pins s σ H R I ⟨_,J3,a,rfl,⟨vs,r.mem.ent.seq h3⟩,?_⟩;exact k _ H F (bA.refl r.base) (HZ h3 h4 (by rw[bu h4];exact yw r.base (r.mem.ent.seq h3)))
  ·cases e
def eG(f:EF):LF:=fun η=>(f η).bind fun d=>match d with|.int j=>if j≤10000∧-10000≤j then some (dk 0 j.toNat) else none|_=>none
theorem kR(hg:Gl X "range")(hm:X.mg "range"=none)(ha:DB X z a fa)(hs:starEach [a] X.env=[(false,eval a X.env)]:=by rfl):DI X z tg (.Call (.Name "range" p) [a] [] pos) true (eG fa) :=
  PI.weak (Lx hg hm (fj ha kM hs) hs) fun σ H R ⟨η,F,ds,r,e,k⟩=>by
  unfold eG at e;obtain⟨d,h1,h2⟩:=eK.mp e;cases d with
  |int j =>
   by_cases hj:j≤10000∧-10000≤j
   ·have h2:(if j≤10000∧-10000≤j then some (dk 0 j.toNat) else none)=some ds:=h2;rw[ay hj] at h2;cases h2;exact⟨η,F,_,r,h1,fun v H' F' g q=>⟨j,by rw[aQ.mp q],by omega,by omega,k _ H' F' g (zj (Bs (by omega)))⟩⟩
   ·have h2:(if j≤10000∧-10000≤j then some (dk 0 j.toNat) else none)=some ds:=h2;rw[aZ hj] at h2;cases h2
  |_=>cases h2
def oE(fa fb:EF):LF:=fun η=>(fa η).bind fun c=>(fb η).bind fun d=>match c,d with|.int i,.int j=>if j≤10000∧-10000≤j∧i≤10000∧-10000≤i then some (dk i (j-i).toNat) else none|_,_=>none
theorem Cg(hg:Gl X "range")(hm:X.mg "range"=none)(ha:DB X z a fa)(hb:DB X z b fb)(hs:starEach [a,b] X.env=[(false,eval a X.env),(false,eval b X.env)]:=by rfl)(Bi:starEach [b] X.env=[(false,eval b X.env)]:=by rfl):DI X z tg (.Call (.Name "range" p) [a,b] [] pos) true (oE fa fb) :=
  PI.weak (Ly hg hm (fj ha (fj hb kM Bi) (by rw[hs,Bi])) hs Bi) fun σ H R ⟨η,F,ds,r,e,k⟩=>by
  unfold oE at e;obtain⟨c,h1,e⟩:=eK.mp e;obtain⟨d,h2,e⟩:=eK.mp e;cases c with
  |int i =>
   cases d with
   |int j =>
    have e:(if j≤10000∧-10000≤j∧i≤10000∧-10000≤i then some (dk i (j-i).toNat) else none)=some ds:=e;by_cases hj:j≤10000∧-10000≤j∧i≤10000∧-10000≤i
    · rw[ay hj] at e;cases e;refine⟨η,F,_,r,h1,fun v H1 F1 g1 q1=>⟨η,F1,_,r.grow g1,h2,fun u H2 F2 g2 q2=>?_⟩⟩;refine⟨i,j,by rw[aQ.mp q1,aQ.mp q2],⟨by omega,by omega,by omega,by omega⟩,k _ H2 F2 (g1.trans g2) (zj ?_)⟩;have:(j-i).toNat≤20000:=by omega
      exact oQ this (by rw[jc];decide)
    ·rw[aZ hj] at e;cases e
   |_=>cases e
  |_=>cases e
end
def vG(K:PySem.W.Frag)(z:Zc)(m:Bool)(b:BF):TG:=fun v σ H Q=>∃η F d η',Rel K z F H σ η∧HY K z F m d v∧b d η=some η'∧∀σ',Rel K z F H σ' η'→Q σ' H
def DG(X:Cx)(z:Zc)(m:Bool)(tg:Expr)(b:BF):Prop:=PG X tg (vG X.K z m b)
theorem PG.weak{t t':TG}(h:PG X tg t)(k:∀v σ H Q,t' v σ H Q→t v σ H Q):PG X tg t':=fun pins s σ H v u Q I r q=>h pins s σ H v u Q I r (k v σ H Q q)
def mkS(m:Bool)(d:D):Slot:=match m with
  |true=>.sh d
  |false=>.br d
theorem SX(m:Bool)(d:D):(mkS m d).own=false:=by cases m<;>rfl
theorem WD{z:Zc}{m:Bool}(h:HY K z F m d v):j9 K z F H v (mkS m d):=by cases m<;>exact h
def aD(m:Bool)(i:Nat):BF:=fun d η=>some (η.set i (some (mkS m d)))
section
variable {X:Cx} {z:Zc} {m:Bool} {pos:Pos}
theorem aU(i:Nat)(hN:X.N.Nodup)(hi:X.N[i]?=some x:=by rfl)(hx:Loc X.env.scope x:=by first|exact Or.inl rfl|exact Or.inr rfl)(hf:X.fn x=true∨X.env.scope.names.lookup x=some .local:=by first|exact .inl rfl|exact .inr rfl|assumption):DG X z m (.Name x pos) (aD m i) :=
  PG.weak (RJ hN hi hx hf) fun v σ H Q ⟨η,F,d,η',r,h,e,k⟩=>by
  cases e;exact k _ (r.set i (SX m d) (WD h))
def vGs(K:PySem.W.Frag)(z:Zc)(m:Bool)(b:List D→cP→Option cP):RH:=fun vs σ H Q=>∃η F ds η',Rel K z F H σ η∧(match m with|true=>cy K F ds vs|false=>cy K z.H₀ ds vs)∧b ds η=some η'∧∀σ',Rel K z F H σ' η'→Q σ' H
def DGs(X:Cx)(z:Zc)(m:Bool)(tgs:List Expr)(b:List D→cP→Option cP):Prop:=Rj X tgs (vGs X.K z m b)
theorem Rj.weak{tg:List Expr}{t t':RH}(h:Rj X tg t)(k:∀v σ H Q,t' v σ H Q→t v σ H Q):Rj X tg t':=fun pins s σ H v u Q I r q=>h pins s σ H v u Q I r (k v σ H Q q)
def lQ:List D→cP→Option cP:=fun ds η=>match ds with|[]=>some η|_=>none
def bZ(b:BF)(bs:List D→cP→Option cP):List D→cP→Option cP:=fun ds η=>match ds with|d::r=>(b d η).bind fun η'=>bs r η'|[]=>none
theorem kc:DGs X z m [] lQ:=Rj.weak RK fun vs σ H Q ⟨η,F,ds,η',r,h,e,k⟩=>by
  unfold lQ at e;split at e
  · cases e;refine⟨?_,k σ r⟩;cases m with
    |true=>exact bC.mp h
    |false=>exact bC.mp h
  ·cases e
theorem cB{es:List Expr}{b:BF}{bs:List D→cP→Option cP}(h1:DG X z m e b)(h2:DGs X z m es bs)(hs:(assignEach (e::es) X.env).map (·.2)=assign e X.env::(assignEach es X.env).map (·.2):=by rfl):DGs X z m (e::es) (bZ b bs) :=
  Rj.weak (NF h1 h2 hs) fun vs σ H Q ⟨η,F,ds,η',r,h,e,k⟩=>by
  unfold bZ at e;split at e
  · rename_i d rs;obtain⟨η1,e1,e2⟩:=eK.mp e;cases m with
    |true=>obtain⟨v,vr,rfl,q1,q2⟩:=aP.mp h;exact⟨v,vr,rfl,η,F,d,η1,r,q1,e1,fun σ' r'=>⟨η1,F,rs,η',r',q2,e2,k⟩⟩
    |false=>obtain⟨v,vr,rfl,q1,q2⟩:=aP.mp h;exact⟨v,vr,rfl,η,F,d,η1,r,q1,e1,fun σ' r'=>⟨η1,F,rs,η',r',q2,e2,k⟩⟩
  ·cases e
def lR(n:Nat)(bs:List D→cP→Option cP):BF:=fun d η=>match d with|.tup ds=>if ds.length=n then bs ds η else none|_=>none
theorem nO{es:List Expr}{bs:List D→cP→Option cP}(hc:X.calm=true)(h:DGs X z m es bs)(hn:(assignEach es X.env).length=n:=by rfl)(Ls:(assignEach es X.env).findIdx? (·.1)=none:=by rfl):DG X z m (.Tuple es k pos) (lR n bs):=PG.weak (Vv hc h hn Ls) fun v σ H Q ⟨η,F,d,η',r,h,e,k⟩=>by
  unfold lR at e;split at e
  · rename_i ds;by_cases hl:ds.length=n
    · rw[ay hl] at e;cases m with
      |true=>obtain⟨a,vs,rfl,q1,q2⟩:=aN.mp (show Den X.K F (.tup ds) v from h);exact⟨a,vs,rfl,kE.of (r.base.sub _ _ q1),by rw[←bu q2];exact hl,η,F,ds,η',r,q2,e,k⟩
      |false=>obtain⟨a,vs,rfl,q1,q2⟩:=aN.mp (show Den X.K z.H₀ (.tup ds) v from h);exact⟨a,vs,rfl,kE.of (r.mem.ent _ _ q1),by rw[←bu q2];exact hl,η,F,ds,η',r,q2,e,k⟩
    ·rw[aZ hl] at e;cases e
  ·cases e
end
def cE(b:BF)(t:TF)(f:EF):List D→cP→Option (List D)
  |[],_=>some []
  |d::ds,η=>(b d η).bind fun η1=>(t η1).bind fun c=>if c=true then(f η1).bind fun x=>(cE b t f ds η).map (x::·) else cE b t f ds η
def bP(nt:Nat)(fi:List Nat)(l:LF)(b:BF)(t:TF)(f:EF):LF:=fun η=>(l η).bind fun ds=>cE b t f ds (jd nt fi η)
theorem wB{z:Zc}{m:Bool}{nt:Nat}{l:LF}{b:BF}{t:TF}{f:EF}(hf:fi.Nodup):∀σ H Q,vO K z (bP nt fi l b t f) σ H Q→Oj (vI K z m l) nt fi (vG K z m b) (vT K z t) (vE K z f) σ H Q:=fun σ H Q ⟨η,F,ds,r,e,k⟩=>by
  unfold bP at e;obtain⟨xs,h1,h2⟩:=eK.mp e;refine⟨η,F,xs,r,h1,fun J H1 F1 g1 wk=>?_⟩;have r1:=r.grow g1
  -- the word: behind i turns,the items so far are those of a beginning of ds
  refine⟨fun i n ys H'=>n=xs.length-i∧i≤xs.length∧∃F' UO SY,bA F1 H1 F' H'∧ds=UO++SY∧cy K F' UO ys∧UO.length≤i∧cE b t f (xs.drop i) (jd nt fi η)=some SY,⟨xs.length,by simp,sZ _,F1,[],ds,bA.refl g1.base,rfl,bC.mpr rfl,sZ _,by simpa using h2⟩,?_⟩;rintro i n ys H' ⟨rfl,hi,F',UO,SY,g2,hds,q,hl,hc⟩;have A3:=(r1.mem.trans g2)
  have hyl:=bu q;by_cases jO:i<xs.length
  · refine .inr ⟨wk.go F' H' g2.jA A3 i jO,by have:=wk.len;omega,?_⟩;have ed:xs.drop i=xs[i]::xs.drop (i+1):=List.drop_eq_getElem_cons jO;rw[ed] at hc;unfold cE at hc;obtain⟨η1,c1,hc⟩:=eK.mp hc;obtain⟨c,c2,hc⟩:=eK.mp hc;refine⟨fun y H4=>c=true∧∃F4 x X1,bA F1 H1 F4 H4∧Den K F4 x y∧cy K F4 UO ys∧cE b t f (xs.drop (i+1)) (jd nt fi η)=some X1∧SY=x::X1,fun H3=>c=false∧∃F3,bA F1 H1 F3 H3∧cy K F3 UO ys,?_,?_,?_⟩
    ·rintro y H4 ⟨_,F4,x,X1,g4,q1,q2,q3,rfl⟩;exact⟨xs.length-(i+1),by omega,rfl,jO,F4,UO++[x],X1,g4,by rw[hds];simp,wu q2 q1,by simp;omega,q3⟩
    ·rintro H3 ⟨rfl,F3,g3,q2⟩;exact⟨xs.length-(i+1),by omega,rfl,jO,F3,UO,SY,g3,hds,q2,by omega,hc⟩
    · intro x Nv y;obtain⟨SW,g3,it⟩:=wk.NJ F' H' g2.jA A3 i xs[i] x Nv (by simp[jO]) y;have rb:Rel K z SW Nv (qV nt fi σ) (jd nt fi η):=((r1.grow g2).grow g3).block nt hf;refine⟨jd nt fi η,SW,xs[i],η1,rb,it,c1,fun σ' r'=>⟨η1,SW,c,r',c2,fun H3 F3 g4=>?_⟩⟩;cases c with
      |true=>have hc:(f η1).bind (fun x=>(cE b t f (xs.drop (i+1)) (jd nt fi η)).map (x::·))=some SY:=hc;obtain⟨x',c3,hc⟩:=eK.mp hc;obtain⟨X1,c4,c5⟩:=g6.mp hc;refine⟨η1,F3,x',r'.grow g4,c3,fun v H4 F4 g5 q5=>⟨rfl,F4,x',X1,(((g2.trans g3).trans g4).trans g5),q5,bD ((g3.jA.trans g4.jA).trans g5.jA) _ _ q,c4,c5.symm⟩⟩
      |false=>exact⟨rfl,F3,((g2.trans g3).trans g4),bD (g3.jA.trans g4.jA) _ _ q⟩
  · have ei:i=xs.length:=by omega
    subst ei;have WG:SY=[]:=by rw[List.drop_length] at hc;unfold cE at hc;cases hc;rfl
    subst WG;rw[uE] at hds;subst hds;have hz:ys.length≤sizeLine:=by have:=wk.len;omega
    refine .inl ⟨wk.stop F' H' g2.jA A3,hz,fun p hp=>?_⟩;have g3:=bA.own g2.base hp (.lst ys) hz rfl;exact k p ys _ F' ((g1.trans g2).trans g3) ((g1.trans g2).ent.free hp) (g2.base.sub.free hp) aL q
section
variable {X:Cx} {z:Zc} {m:Bool} {pos:Pos} {tg elt iter:Expr} {ifs:List Expr} {tgs:gs} {fi:List Nat} {scope:Scope} {l:LF} {b:BF} {t:TF} {f:EF}
def OJ(X:Cx)(z:Zc)(ifs:List Expr)(t:TF):Prop:=LX X ifs (vT X.K z t)
def eQ:TF:=fun _=>some true
theorem jj:OJ X z [] eQ:=fun pins s σ H Q I ⟨η,F,c,r,e,k⟩=>by cases e;exact Oe pins s σ H Q I (k H F (bA.refl r.base))
theorem jk{c:Expr}(h:DT X z c t):OJ X z [c] t:=Og h
theorem dE(hc:X.calm=true)(B:dg X tgs fi scope)(hf:fi.Nodup)(hi:DI X z tg iter m l)(hg:∀C ex s H,DG (kN X tgs fi scope C ex s H) z m tg b)(ht:∀C ex s H,OJ (kN X tgs fi scope C ex s H) z ifs t)(he:∀C ex s H,DE (kN X tgs fi scope C ex s H) z elt f)(hs:∀x,foldedSetIterable iter X.env x=pure x:=by intro _;rfl):DO X z (.ListComp elt [⟨tg,iter,ifs,0⟩] scope pos) (bP tgs.length fi l b t f) :=
  PE.weak (Sh (g:=vG X.K z m b) (tt:=vT X.K z t) (te:=vE X.K z f) hc B hi (fun C ex s H=>hg C ex s H) (fun C ex s H=>ht C ex s H) (fun C ex s H=>he C ex s H) hs) (wB hf)
end
section
variable {X:Cx} {z:Zc} {e a b:Expr} {f:EF} {fl:LF} {pos:Pos} {st:Stmt} {rest:List Stmt} {g g1 g2:SF}
def dJ:SF:=fun η=>some (.nx η)
def bw(g1 g2:SF):SF:=fun η=>(g1 η).bind fun o=>match o with|.nx η'=>g2 η'|o=>some o
theorem bV:L6 X z [] dJ:=Bg.weak RD fun D σ H ⟨η,F,o,r,e,k⟩=>by cases e;exact k σ H F r (cF.refl _)
theorem av(h:DS X z st g):L6 X z [st] g:=RG h
theorem DX.mono{o:Out}{D:Ends}(h:DX K z F o D)(s:cF F F'):DX K z F' o D:=by
  cases o with
  |nx η'=>exact fun σ' H' F2 r s2=>h σ' H' F2 r (s.trans s2)
  |bk η'=>exact fun σ' H' F2 r s2=>h σ' H' F2 r (s.trans s2)
  |ct η'=>exact fun σ' H' F2 r s2=>h σ' H' F2 r (s.trans s2)
  |rt r=>exact h
theorem ai(h1:DS X z st g1)(h2:L6 X z rest g2):L6 X z (st::rest) (bw g1 g2):=Bg.weak (NC h1 h2) fun D σ H ⟨η,F,o,r,e,k⟩=>by
  unfold bw at e;obtain⟨o1,e1,e2⟩:=eK.mp e;refine⟨η,F,o1,r,e1,?_⟩;cases o1 with
  |nx η'=>exact fun σ' H' F' r' s'=>⟨η',F',o,r',e2,k.mono s'⟩
  |rt r=>cases e2;exact k
  |bk η'=>cases e2;exact k
  |ct η'=>cases e2;exact k
def pX(t:TF)(g1 g2:SF):SF:=fun η=>(t η).bind fun c=>if c=true then g1 η else g2 η
theorem eE{c:Expr}{xs ys:List Stmt}{t:TF}(hc:DT X z c t)(h1:L6 X z xs g1)(h2:L6 X z ys g2):DS X z (.If c xs ys pos) (pX t g1 g2):=PS.weak (Yt hc h1 h2) fun D σ H ⟨η,F,o,r,e,k⟩=>by
  unfold pX at e;obtain⟨c,e1,e2⟩:=eK.mp e;refine⟨η,F,c,r,e1,fun H1 F1 gr=>?_⟩;cases c with
  |true=>exact⟨η,F1,o,r.grow gr,e2,k.mono gr.jA⟩
  |false=>exact⟨η,F1,o,r.grow gr,e2,k.mono gr.jA⟩
def dW(f:EF):SF:=fun η=>(f η).map fun d=>.rt (.sh d)
theorem bQ(h:DE X z e f):DS X z (.Return (some e) pos) (dW f):=PS.weak (yJ h) fun D σ H ⟨η,F,o,r,e,k⟩=>by unfold dW at e;obtain⟨d,e1,rfl⟩:=g6.mp e;exact⟨η,F,d,r,e1,fun v H' F' gr q=>k v H' F' (r.mem.trans gr) q⟩
def kI(f:LF):SF:=fun η=>(f η).map fun d=>.rt (.ol d)
theorem iL(h:DO X z e fl):DS X z (.Return (some e) pos) (kI fl):=PS.weak (yJ h) fun D σ H ⟨η,F,o,r,e,k⟩=>by unfold kI at e;obtain⟨d,e1,rfl⟩:=g6.mp e;exact⟨η,F,d,r,e1,fun p vs H' F' gr h1 h2 h3 h4=>k p vs H' F' (r.mem.trans gr) (r.mem.ent.free h1) h2 h3 h4⟩
def Ci(i:Nat):SF:=fun η=>match η[i]? with
  |some (some (.ol ds))=>some (.rt (.ol ds))
  |_=>none
theorem yy(i:Nat)(hN:X.N[i]?=some x:=by rfl)(hv:FD X.env.scope x:=by first|exact Or.inl rfl|exact Or.inr (Or.inl rfl)|exact Or.inr (Or.inr rfl))(hd:(x==("__debug__":Str))=false:=by decide)(oA:(x==("__classdict__":Str))=false:=by decide):DS X z (.Return (some (.Name x px)) pos) (Ci i):=PS.weak (yJ (kL hN hv hd oA)) fun D σ H ⟨η,F,o,r,e,k⟩=>by
  unfold Ci at e;split at e
  ·rename_i ds h;cases e;obtain⟨p,o,h1,h2,h3,h4,vs,rfl,h5⟩:=r.ownAt h rfl;exact⟨_,h1,k p vs H F r.mem h2 h3 h4 h5⟩
  ·cases e
def cq(i:Nat)(f:EF):SF:=fun η=>(f η).map fun d=>.nx (η.set i (some (.sh d)))
def qC(i:Nat)(f:LF):SF:=fun η=>(f η).map fun ds=>.nx (η.set i (some (.ol ds)))
theorem OL:∀D σ H,vS K z (cq i f) D σ H→Lv (vE K z f) (BZ i) D σ H:=fun D σ H ⟨η,F,o,r,e,k⟩=>by unfold cq at e;obtain⟨d,e1,rfl⟩:=g6.mp e;exact⟨η,F,d,r,e1,fun v H' F' gr q=>k _ H' F' ((r.grow gr).set i rfl q) gr.jA⟩
theorem Cj:∀D σ H,vS K z (qC i fl) D σ H→Lv (vO K z fl) (BZ i) D σ H:=fun D σ H ⟨η,F,o,r,e,k⟩=>by unfold qC at e;obtain⟨d,e1,rfl⟩:=g6.mp e;refine⟨η,F,d,r,e1,fun p vs H' F' gr h1 h2 h3 h4=>k _ H' F' (r.HQ gr i (sl:=.ol d) (p:=p) ⟨p,_,rfl,r.mem.ent.free h1,h2,h3,vs,rfl,h4⟩ rfl h1) gr.jA⟩
theorem bz(hN:X.N.Nodup)(h:DE X z e f)(hi:X.N[i]?=some x:=by rfl)(hx:Loc X.env.scope x:=by first|exact Or.inl rfl|exact Or.inr rfl)(hs:swapsWith e (some (.Name x pos')) pos.line X.env=pure false:=by rfl)(hf:X.fn x=true∨X.env.scope.names.lookup x=some .local:=by first|exact .inl rfl|exact .inr rfl|assumption):DS X z (.Assign [.Name x pos'] e pos) (cq i f):=PS.weak (Ds hN hi hx h hs hf) OL
theorem uW(hN:X.N.Nodup)(h:DO X z e fl)(hi:X.N[i]?=some x:=by rfl)(hx:Loc X.env.scope x:=by first|exact Or.inl rfl|exact Or.inr rfl)(hs:swapsWith e (some (.Name x pos')) pos.line X.env=pure false:=by rfl)(hf:X.fn x=true∨X.env.scope.names.lookup x=some .local:=by first|exact .inl rfl|exact .inr rfl|assumption):DS X z (.Assign [.Name x pos'] e pos) (qC i fl):=PS.weak (Ds hN hi hx h hs hf) Cj
theorem S0{FV:Pos}{m:Bool}{elt iter:Expr}{ifs:List Expr}{tgs:gs}{l:LF}{b:BF}{t:TF}{f:EF}(hc:X.calm=true)(hN:X.N.Nodup)(B:dg X tgs fi scope)(hfi:fi.Nodup)(hit:DI X z tg iter m l)(hg:∀C ex s H,DG (kN X tgs fi scope C ex s H) z m tg b)(ht:∀C ex s H,OJ (kN X tgs fi scope C ex s H) z ifs t)(he:∀C ex s H,DE (kN X tgs fi scope C ex s H) z elt f)(hi:X.N[i]?=some x:=by rfl)(hl:X.env.scope.names.lookup x=some .local:=by rfl)(Wh:swapsWith (.ListComp elt [⟨tg,iter,ifs,0⟩] scope pos) (some (.Name x pos')) FV.line X.env=pure true:=by rfl)(hs:∀x,foldedSetIterable iter X.env x=pure x:=by intro _;rfl):DS X z (.Assign [.Name x pos'] (.ListComp elt [⟨tg,iter,ifs,0⟩] scope pos) FV) (qC i (bP tgs.length fi l b t f)) :=
  PS.weak (yQ (g:=vG X.K z m b) (tt:=vT X.K z t) (te:=vE X.K z f) hc hN hi hl B hit (fun C ex s H=>hg C ex s H) (fun C ex s H=>ht C ex s H) (fun C ex s H=>he C ex s H) Wh hs) fun D σ H h=>wB hfi σ H _ (Cj D σ H h)
def D6(i:Nat)(η:cP):Option cP:=match η[i]? with
  |some (some (.ol ds))=>some (η.set i (some (.sh (.lst ds))))
  |_=>none
def wC(i:Nat)(g:SF):SF:=fun η=>(D6 i η).bind g
theorem Gi{η η':cP}(r:Rel K z F H σ η)(e:D6 i η=some η'):∃F',Rel K z F' H σ η'∧cF F F':=by
  unfold D6 at e;split at e
  ·rename_i ds h;cases e;exact r.share h
  ·cases e
theorem X2(i:Nat){sts:List Stmt}(h:L6 X z sts g):L6 X z sts (wC i g):=Bg.weak h fun D σ H ⟨η,F,o,r,e,k⟩=>by unfold wC at e;obtain⟨η',e1,e2⟩:=eK.mp e;obtain⟨F',r',s⟩:=Gi r e1;exact⟨η',F',o,r',e2,k.mono s⟩
theorem OO(i:Nat)(h:DS X z st g):DS X z st (wC i g):=PS.weak h fun D σ H ⟨η,F,o,r,e,k⟩=>by unfold wC at e;obtain⟨η',e1,e2⟩:=eK.mp e;obtain⟨F',r',s⟩:=Gi r e1;exact⟨η',F',o,r',e2,k.mono s⟩
def ip(b:BF)(g:SF):List D→cP→Option Out
  |[],η=>some (.nx η)
  |d::ds,η=>(b d η).bind fun η1=>(g η1).bind fun o=>match o with
   |.nx η2=>ip b g ds η2
   |.ct η2=>ip b g ds η2
   |.bk η2=>some (.nx η2)
   |.rt r=>some (.rt r)
def kT(l:LF)(b:BF)(g:SF):SF:=fun η=>(l η).bind fun ds=>ip b g ds η
theorem fK{m:Bool}{iter:Expr}{body:List Stmt}{l:LF}{b:BF}(hc:X.calm=true)(hi:DI X z tg iter m l)(hg:DG X z m tg b)(hb:L6 X z body g)(hp:PassesOwn (model X.prog X.w) X.A X.env X.xe:=by exact PassesOwn.never)(hs:∀x,foldedSetIterable iter X.env x=pure x:=by intro _;rfl):DS X z (.For tg iter body [] pos) (kT l b g):=PS.weak (Vz hp hc hi hg hb hs) fun D σ H ⟨η,F,o,r,e,k⟩=>by
  unfold kT at e;obtain⟨ds,e1,e2⟩:=eK.mp e;refine⟨η,F,ds,r,e1,fun J H1 F1 g1 wk=>?_⟩;have r1:=r.grow g1;have k1:=k.mono g1.jA;refine⟨fun i n σ' H'=>n=ds.length-i∧i≤ds.length∧∃η' F',Rel X.K z F' H' σ' η'∧cF F1 F'∧ip b g (ds.drop i) η'=some o,⟨ds.length,by simp,sZ _,η,F1,r1,cF.refl _,by simpa using e2⟩,?_⟩;rintro i n σ' H' ⟨rfl,hi,η',F',r',s',hf⟩;by_cases jO:i<ds.length
  · refine .inr ⟨wk.go F' H' s' r'.mem i jO,fun σ2 H2=>i+1≤ds.length∧∃η2 F2,Rel X.K z F2 H2 σ2 η2∧cF F1 F2∧ip b g (ds.drop (i+1)) η2=some o,fun σ2 H2 h=>⟨ds.length-(i+1),by omega,rfl,h⟩,fun x Nv y=>?_⟩;obtain⟨SW,g3,it⟩:=wk.NJ F' H' s' r'.mem i ds[i] x Nv (by simp[jO]) y;have ed:ds.drop i=ds[i]::ds.drop (i+1):=List.drop_eq_getElem_cons jO;rw[ed] at hf;unfold ip at hf;obtain⟨η1,c1,hf⟩:=eK.mp hf;obtain⟨o1,c2,hf⟩:=eK.mp hf;refine⟨η',SW,ds[i],η1,r'.grow g3,it,c1,fun σ3 r3=>⟨η1,SW,o1,r3,c2,?_⟩⟩;have s3:=s'.trans g3.jA;cases o1 with
    |nx η2=>exact fun σ4 H4 F4 r4 s4=>⟨jO,η2,F4,r4,s3.trans s4,hf⟩
    |ct η2=>exact fun σ4 H4 F4 r4 s4=>⟨jO,η2,F4,r4,s3.trans s4,hf⟩
    |bk η2=>cases hf;exact fun σ4 H4 F4 r4 s4=>k1 σ4 H4 F4 r4 (s3.trans s4)
    |rt rr=>cases hf;exact k1
  · have ei:i=ds.length:=by omega
    subst ei;rw[List.drop_length] at hf;unfold ip at hf;cases hf;exact .inl ⟨wk.stop F' H' s' r'.mem,k1 σ' H' F' r' s'⟩
def iy(t:TF)(g:SF):Nat→cP→Option Out
  |0,_=>none
  |n+1,η=>(t η).bind fun c=>if c=true then(g η).bind fun o=>(match o with
   |.nx η2=>iy t g n η2
   |.ct η2=>iy t g n η2
   |.bk η2=>some (.nx η2)
   |.rt r=>some (.rt r)) else some (.nx η)
def ro(n:Nat)(t:TF)(g:SF):SF:=iy t g n
theorem uX(n:Nat){c:Expr}{body:List Stmt}{t:TF}(hc:DT X z c t)(hb:L6 X z body g)(hp:PassesOwn (model X.prog X.w) X.A X.env X.xe:=by exact PassesOwn.never):DS X z (.While c body [] pos) (ro n t g):=PS.weak (NH hp hc hb) fun D σ H ⟨η,F,o,r,e,k⟩=>by
  refine⟨fun m σ' H'=>∃η' F',Rel X.K z F' H' σ' η'∧cF F F'∧iy t g m η'=some o,⟨n,η,F,r,cF.refl _,e⟩,?_⟩;rintro m σ' H' ⟨η',F',r',s',hw⟩;cases m with
  |zero=>cases hw
  |succ m =>
   unfold iy at hw;obtain⟨c,c1,hw⟩:=eK.mp hw;refine⟨η',F',c,r',c1,fun H1 F1 g1=>?_⟩;cases c with
   |true =>
    refine acd ?_;rw[ay rfl] at hw;obtain⟨o1,c2,hw⟩:=eK.mp hw;refine⟨fun σ2 H2=>∃η2 F2,Rel X.K z F2 H2 σ2 η2∧cF F F2∧iy t g m η2=some o,fun σ2 H2 h=>⟨m,by omega,h⟩,η',F1,o1,r'.grow g1,c2,?_⟩;have s3:=s'.trans g1.jA;cases o1 with
    |nx η2=>exact fun σ4 H4 F4 r4 s4=>⟨η2,F4,r4,s3.trans s4,hw⟩
    |ct η2=>exact fun σ4 H4 F4 r4 s4=>⟨η2,F4,r4,s3.trans s4,hw⟩
    |bk η2=>cases hw;exact fun σ4 H4 F4 r4 s4=>k σ4 H4 F4 r4 (s3.trans s4)
    |rt rr=>cases hw;exact k
   |false=>refine acb ?_;rw[aZ jx] at hw;cases hw;exact k σ' H1 F1 (r'.grow g1) (s'.trans g1.jA)
def dF(i:Nat)(f:EF):SF:=fun η=>(f η).bind fun d=>match η[i]? with
  |some (some (.ol ds))=>if ds.length<10000 then some (.nx (η.set i (some (.ol (ds++[d]))))) else none
  |_=>none
theorem gW(i:Nat){apos j7:Pos}(h:DE X z e f)(hN:X.N[i]?=some x:=by rfl)(hv:FD X.env.scope x:=by first|exact Or.inl rfl|exact Or.inr (Or.inl rfl)|exact Or.inr (Or.inr rfl))(hd:(x==("__debug__":Str))=false:=by decide)(oA:(x==("__classdict__":Str))=false:=by decide)(N6:attributeBase (.Name x px) "append" X.env (eval (.Name x px) X.env)=eval (.Name x px) X.env:=by rfl)(V2:((backTo j7 (starEach [e] X.env)).all (fun x=>!x.1)&&(backToKw j7 (keywordEach [] X.env)).all (fun x=>x.1.isSome)
      && decide (([e]:List Expr).length+([]:List Keyword).length+(if ([]:List Keyword).isEmpty then 0 else 1)<30))=true:=by rfl)(hline:(apos.endLine==j7.line)=true:=by rfl)(hs:starEach [e] X.env=(false,eval e X.env)::starEach [] X.env:=by rfl)(Wh:swapsWith (.Call (.Attribute (.Name x px) "append" apos) [e] [] j7) none pos.line X.env=pure false:=by rfl):DS X z (.Expr (.Call (.Attribute (.Name x px) "append" apos) [e] [] j7) pos) (dF i f) :=
  PS.weak (JG (YS PySem.F.plainAttrs_list PySem.F.slot_list_append PySem.F.type_list_append LM (kL hN hv hd oA) (fj h kM hs) N6 V2 hline hs (by rfl)) Wh) fun D σ H ⟨η,F,o,r,e,k⟩=>by
  unfold dF at e;obtain⟨d,e1,e2⟩:=eK.mp e;split at e2
  · rename_i ds h;by_cases hl:ds.length<10000
    ·rw[ay hl] at e2;cases e2;obtain⟨p,o,h1,h2,h3,h4,vs,rfl,h5⟩:=r.ownAt h rfl;refine⟨_,h1,.inl ⟨rfl,vs,m4.of h4⟩,η,F,d,r,e1,fun v H' F' g1 q=>?_⟩;have r1:=r.grow g1;have h4':=g1.ent _ _ h4;have Gj:=bu h5;refine⟨p,vs,v,rfl,rfl,h4',oP (by omega) (Bs (cw _)),k _ _ F' (r1.write h rfl h1 ⟨vs++[v],rfl,wu (bD g1.jA _ _ h5) q⟩ ?_) g1.jA⟩;show(vs++[v]).length≤sizeLine;rw[kK];exact Bs (by simp;omega)
    ·rw[aZ hl] at e2;cases e2
  ·cases e2
end
mutual
def D.iq:D→Nat→Bool
  |.tup xs,n+1=>D.OQ xs n
  |.tup _,0=>false
  |.lst xs,n+1=>D.OQ xs n
  |.lst _,0=>false
  |.obj _,_=>false
  |.exc _,_=>false
  |.non,_=>true
  |.bl _,_=>true
  |.int _,_=>true
  |.str _,_=>true
def D.OQ:List D→Nat→Bool
  |[],_=>true
  |d::ds,n=>D.iq d n&&D.OQ ds n
end
mutual
def fS:D→D→Bool
  |.non,.non=>true
  |.bl a,.bl b=>a==b
  |.bl a,.int b=>(if a then 1 else 0)==b
  |.int a,.bl b=>a==(if b then 1 else 0)
  |.int a,.int b=>a==b
  |.str a,.str b=>a==b
  |.tup xs,.tup ys=>Ke xs ys
  |.lst xs,.lst ys=>Ke xs ys
  |_,_=>false
def Ke:List D→List D→Bool
  |[],[]=>true
  |x::xs,y::ys=>fS x y&&Ke xs ys
  |_,_=>false
end
theorem uY:∀{xs ys:List D},xs.length≠ys.length→Ke xs ys=false
  |[],[],h=>absurd rfl h
  |[],_::_,_=>by rw[Ke];all_goals (intros;simp_all)
  |_::_,[],_=>by rw[Ke];all_goals (intros;simp_all)
  |x::xs,y::ys,h=>by rw[Ke,uY (xs:=xs) (ys:=ys) (fun e=>h (by simp[e])),Bool.and_false]
theorem uZ:∀{xs ys:List D},xs.length=ys.length→Ke xs ys=(List.range xs.length).all fun j=>fS (xs.getD j .non) (ys.getD j .non)
  |[],[],_=>by rw[Ke];rfl
  |[],_::_,h=>by simp at h
  |_::_,[],h=>by simp at h
  |x::xs,y::ys,h=>by rw[Ke,uZ (xs:=xs) (ys:=ys) (by simpa using h),mU,List.range_succ_eq_map,mX,List.all_map];rfl
mutual
theorem u0:∀(d:D) (n:Nat),d.iq n=true→fS d d=true
  |.non,_,_=>by rw[fS]
  |.bl b,_,_=>by rw[fS];simp
  |.int b,_,_=>by rw[fS];simp
  |.str b,_,_=>by rw[fS];simp
  |.tup xs,0,h=>by rw[D.iq] at h;cases h
  |.tup xs,n+1,h=>by rw[D.iq] at h;rw[fS];exact zk xs n h
  |.lst xs,0,h=>by rw[D.iq] at h;cases h
  |.lst xs,n+1,h=>by rw[D.iq] at h;rw[fS];exact zk xs n h
  |.obj _,_,h=>by rw[D.iq] at h;cases h
  |.exc _,_,h=>by rw[D.iq] at h;cases h
theorem zk:∀(ds:List D) (n:Nat),D.OQ ds n=true→Ke ds ds=true
  |[],_,_=>by rw[Ke]
  |d::ds,n,h=>by rw[D.OQ,t6] at h;rw[Ke,u0 d n h.1,zk ds n h.2];rfl
end
section
variable {X:Cx} {pins:kJ} {σ:St} {H:Hp} {s:Shared}
mutual
theorem D7(I:Inv X pins σ H s):∀(x y:D) (v:V),Den X.K H x v→Den X.K H y v→x=y
  |.non,y,v,h,q=>by have:=(D4 q).mp (cf.mp h);exact this.symm
  |.bl b,y,v,h,q=>by
   rw[bS.mp h] at q;cases y with
   |bl c=>have e:=bS.mp q;injection e with e;rw[e]
   |non=>cases cf.mp q
   |int _=>cases aQ.mp q
   |str _=>cases cV.mp q
   |tup _=>obtain⟨_,_,e,_⟩:=aN.mp q;cases e
   |lst _=>obtain⟨_,_,e,_⟩:=aW.mp q;cases e
   |obj _=>obtain⟨_,_,e,_⟩:=hG.mp q;cases e
   |exc _=>obtain⟨_,e,_⟩:=j8.mp q;cases e
  |.int b,y,v,h,q=>by
   rw[aQ.mp h] at q;cases y with
   |int c=>have e:=aQ.mp q;injection e with e;rw[e]
   |non=>cases cf.mp q
   |bl _=>cases bS.mp q
   |str _=>cases cV.mp q
   |tup _=>obtain⟨_,_,e,_⟩:=aN.mp q;cases e
   |lst _=>obtain⟨_,_,e,_⟩:=aW.mp q;cases e
   |obj _=>obtain⟨_,_,e,_⟩:=hG.mp q;cases e
   |exc _=>obtain⟨_,e,_⟩:=j8.mp q;cases e
  |.str b,y,v,h,q=>by
   rw[cV.mp h] at q;cases y with
   |str c=>have e:=cV.mp q;injection e with e;rw[e]
   |non=>cases cf.mp q
   |bl _=>cases bS.mp q
   |int _=>cases aQ.mp q
   |tup _=>obtain⟨_,_,e,_⟩:=aN.mp q;cases e
   |lst _=>obtain⟨_,_,e,_⟩:=aW.mp q;cases e
   |obj _=>obtain⟨_,_,e,_⟩:=hG.mp q;cases e
   |exc _=>obtain⟨_,e,_⟩:=j8.mp q;cases e
  |.tup xs,y,v,h,q=>by
   obtain⟨a,vs,rfl,h1,h2⟩:=aN.mp h;cases y with
   |tup ys=>obtain⟨b,ws,e,h3,h4⟩:=aN.mp q;cases e;rw[h1] at h3;cases h3;rw[zo I xs ys vs h2 h4]
   |lst ys=>obtain⟨b,ws,e,h3,h4⟩:=aW.mp q;cases e;obtain⟨its,_,⟨o,n,e1,c1,_⟩,_⟩:=I.list h3;obtain⟨its',_,⟨o',e2,c2,_⟩,_⟩:=I.tuple (kE.of h1);rw[e1] at e2;cases e2;rw[c1] at c2;injection c2 with c3;exact absurd c3 (by decide)
   |obj C=>obtain⟨b,dx,e,h3,_⟩:=hG.mp q;cases e;rw[h1] at h3;cases h3
   |exc C=>obtain⟨b,e,h3⟩:=j8.mp q;cases e;rw[h1] at h3;cases h3
   |non=>cases cf.mp q
   |bl _=>cases bS.mp q
   |int _=>cases aQ.mp q
   |str _=>cases cV.mp q
  |.lst xs,y,v,h,q=>by
   obtain⟨a,vs,rfl,h1,h2⟩:=aW.mp h;cases y with
   |lst ys=>obtain⟨b,ws,e,h3,h4⟩:=aW.mp q;cases e;have e:=I.FH h1 h3;subst e;rw[zo I xs ys vs h2 h4]
   |tup ys=>obtain⟨b,ws,e,h3,h4⟩:=aN.mp q;cases e;obtain⟨its,_,⟨o,n,e1,c1,_⟩,_⟩:=I.list h1;obtain⟨its',_,⟨o',e2,c2,_⟩,_⟩:=I.tuple (kE.of h3);rw[e1] at e2;cases e2;rw[c1] at c2;injection c2 with c3;exact absurd c3 (by decide)
   |obj C =>
    obtain⟨b,dx,e,h3,_⟩:=hG.mp q;cases e;obtain⟨its,_,⟨o,n,e1,c1,_⟩,_⟩:=I.list h1;obtain⟨_,_,_,e2,_⟩:=(show cx X.prog X.w H s.heap _ (.ins C dx []) from I.cZ _ _ h3)
    rw[e1] at e2;cases e2;cases c1
   |exc C =>
    obtain⟨b,e,h3⟩:=j8.mp q;cases e;obtain⟨its,_,⟨o,n,e1,c1,_⟩,_⟩:=I.list h1;obtain⟨⟨o2,e2,c2⟩,_⟩:=(show cx X.prog X.w H s.heap _ (.ext _) from I.cZ _ _ h3)
    rw[e1] at e2;cases e2;rw[c1] at c2;cases c2
   |non=>cases cf.mp q
   |bl _=>cases bS.mp q
   |int _=>cases aQ.mp q
   |str _=>cases cV.mp q
  |.exc C,y,v,h,q=>by
   obtain⟨a,rfl,h1⟩:=j8.mp h;cases y with
   |exc C' =>
    obtain⟨b,e,h3⟩:=j8.mp q;cases e;obtain⟨⟨o2,e2,c2⟩,_⟩:=(show cx X.prog X.w H s.heap _ (.ext _) from I.cZ _ _ h1)
    obtain⟨⟨o3,e3,c3⟩,_⟩:=(show cx X.prog X.w H s.heap _ (.ext _) from I.cZ _ _ h3)
    rw[e2] at e3;cases e3;rw[c2] at c3;cases c3;rfl
   |obj C'=>obtain⟨b,dx',e,h3,_⟩:=hG.mp q;cases e;rw[h1] at h3;cases h3
   |tup ys=>obtain⟨b,ws,e,h3,h4⟩:=aN.mp q;cases e;rw[h1] at h3;cases h3
   |lst ys =>
    obtain⟨b,ws,e,h3,h4⟩:=aW.mp q;cases e;obtain⟨its,_,⟨o,n,e1,c1,_⟩,_⟩:=I.list h3;obtain⟨⟨o2,e2,c2⟩,_⟩:=(show cx X.prog X.w H s.heap _ (.ext _) from I.cZ _ _ h1)
    rw[e1] at e2;cases e2;rw[c1] at c2;cases c2
   |non=>cases cf.mp q
   |bl _=>cases bS.mp q
   |int _=>cases aQ.mp q
   |str _=>cases cV.mp q
  |.obj C,y,v,h,q=>by
   obtain⟨a,dx,rfl,h1,_⟩:=hG.mp h;cases y with
   |obj C'=>obtain⟨b,dx',e,h3,_⟩:=hG.mp q;cases e;rw[h1] at h3;cases h3;rfl
   |exc C'=>obtain⟨b,e,h3⟩:=j8.mp q;cases e;rw[h1] at h3;cases h3
   |tup ys=>obtain⟨b,ws,e,h3,h4⟩:=aN.mp q;cases e;rw[h1] at h3;cases h3
   |lst ys =>
    obtain⟨b,ws,e,h3,h4⟩:=aW.mp q;cases e;obtain⟨its,_,⟨o,n,e1,c1,_⟩,_⟩:=I.list h3;obtain⟨_,_,_,e2,_⟩:=(show cx X.prog X.w H s.heap _ (.ins C dx []) from I.cZ _ _ h1)
    rw[e1] at e2;cases e2;cases c1
   |non=>cases cf.mp q
   |bl _=>cases bS.mp q
   |int _=>cases aQ.mp q
   |str _=>cases cV.mp q
theorem zo(I:Inv X pins σ H s):∀(xs ys:List D) (vs:List V),cy X.K H xs vs→cy X.K H ys vs→xs=ys
  |[],ys,vs,h,q=>by
   rw[bC.mp h] at q;cases ys with
   |nil=>rfl
   |cons y ys=>obtain⟨_,_,e,_⟩:=aP.mp q;cases e
  |x::xs,ys,vs,h,q=>by
   obtain⟨v,r,rfl,h1,h2⟩:=aP.mp h;cases ys with
   |nil=>cases bC.mp q
   |cons y ys=>obtain⟨v',r',e,h3,h4⟩:=aP.mp q;cases e;rw[D7 I x y v h1 h3,zo I xs ys r h2 h4]
end
inductive At (H:Hp) (s:Shared):D→Value→Prop where
  |non:At H s .non .none
  |bl (b:Bool):At H s (.bl b) (.bool b)
  |int (i:Int) (t:Tok):At H s (.int i) (.int i t)
  |str (x:Str) (t:Tok):At H s (.str x) (.str x t)
  |tup {xs:List D} {a:Addr} {vs:List V} {its:dO} (h:s.heap.IsTuple a its.toArray) (hv:Vals vs its):At H s (.tup xs) (.ref a)
  |lst {xs:List D} {a:Addr} {vs:List V} {its:dO} (h:s.heap.IsList a its.toArray) (hv:Vals vs its):At H s (.lst xs) (.ref a)
theorem D8{xs ys:List D}{m:Nat}(h1:xs.length=n)(h2:ys.length=m):((List.range (min n m)).all (fun j=>fS (xs.getD j .non) (ys.getD j .non))&&n==m)=Ke xs ys:=by
  subst h1 h2;by_cases e:xs.length=ys.length
  ·rw[uZ e,e,Nat.min_self];simp
  ·rw[uY e];simp[e]
mutual
theorem WH(I:Inv X pins σ H s):∀(x y:D) (n:Nat) (A:Around) (u v:V) (uu vv:Value),x.iq n=true→y.iq n=true→Den X.K H x u→Den X.K H y v→RelV u uu→RelV v vv→A.units+n<cLine→SeqAt.EqAt A s uu vv (fS x y)
  |x,y,n,A,u,v,uu,vv,ox,oy,hx,hy,ru,rv,hu=>by
   have u3:A.units<cLine:=by omega
   cases x with
   |obj C=>rw[D.iq] at ox;cases ox
   |exc C=>rw[D.iq] at ox;cases ox
   |non =>
    rw[cf.mp hx] at ru;cases ru;cases y with
    |obj C=>rw[D.iq] at oy;cases oy
    |exc C=>rw[D.iq] at oy;cases oy
    |non=>rw[cf.mp hy] at rv;cases rv;rw[fS];exact SeqAt.EqAt.same _
    |bl b=>rw[bS.mp hy] at rv;cases rv;rw[fS];exact SeqAt.EqAt.none_bool b;all_goals (intros;simp_all)
    |int b=>rw[aQ.mp hy] at rv;obtain⟨t,rfl⟩:=rv;rw[fS];exact SeqAt.EqAt.none_int b t;all_goals (intros;simp_all)
    |str b=>rw[cV.mp hy] at rv;obtain⟨t,rfl⟩:=rv;rw[fS];exact SeqAt.EqAt.none_str b t;all_goals (intros;simp_all)
    |tup ys=>obtain⟨b,ws,rfl,h3,h4⟩:=aN.mp hy;cases rv;obtain⟨its,_,p,_⟩:=I.tuple (kE.of h3);rw[fS];exact SeqAt.EqAt.none_tuple p u3;all_goals (intros;simp_all)
    |lst ys=>obtain⟨b,ws,rfl,h3,h4⟩:=aW.mp hy;cases rv;obtain⟨its,_,p,_⟩:=I.list h3;rw[fS];exact SeqAt.EqAt.none_list p.isList u3;all_goals (intros;simp_all)
   |bl a =>
    rw[bS.mp hx] at ru;cases ru;cases y with
    |obj C=>rw[D.iq] at oy;cases oy
    |exc C=>rw[D.iq] at oy;cases oy
    |non=>rw[cf.mp hy] at rv;cases rv;rw[fS];exact SeqAt.EqAt.bool_none a;all_goals (intros;simp_all)
    |bl b=>rw[bS.mp hy] at rv;cases rv;rw[fS];exact SeqAt.EqAt.bool_bool a b
    |int b=>rw[aQ.mp hy] at rv;obtain⟨t,rfl⟩:=rv;rw[fS];exact SeqAt.EqAt.bool_int a b t
    |str b=>rw[cV.mp hy] at rv;obtain⟨t,rfl⟩:=rv;rw[fS];exact SeqAt.EqAt.bool_str a b t;all_goals (intros;simp_all)
    |tup ys=>obtain⟨b,ws,rfl,h3,h4⟩:=aN.mp hy;cases rv;obtain⟨its,_,p,_⟩:=I.tuple (kE.of h3);rw[fS];exact SeqAt.EqAt.bool_tuple a p u3;all_goals (intros;simp_all)
    |lst ys=>obtain⟨b,ws,rfl,h3,h4⟩:=aW.mp hy;cases rv;obtain⟨its,_,p,_⟩:=I.list h3;rw[fS];exact SeqAt.EqAt.bool_list a p.isList u3;all_goals (intros;simp_all)
   |int a =>
    rw[aQ.mp hx] at ru;obtain⟨t0,rfl⟩:=ru;cases y with
    |obj C=>rw[D.iq] at oy;cases oy
    |exc C=>rw[D.iq] at oy;cases oy
    |non=>rw[cf.mp hy] at rv;cases rv;rw[fS];exact SeqAt.EqAt.int_none a t0;all_goals (intros;simp_all)
    |bl b=>rw[bS.mp hy] at rv;cases rv;rw[fS];exact SeqAt.EqAt.int_bool a t0 b
    |int b=>rw[aQ.mp hy] at rv;obtain⟨t,rfl⟩:=rv;rw[fS];exact SeqAt.EqAt.int_int a t0 b t
    |str b=>rw[cV.mp hy] at rv;obtain⟨t,rfl⟩:=rv;rw[fS];exact SeqAt.EqAt.int_str a t0 b t;all_goals (intros;simp_all)
    |tup ys=>obtain⟨b,ws,rfl,h3,h4⟩:=aN.mp hy;cases rv;obtain⟨its,_,p,_⟩:=I.tuple (kE.of h3);rw[fS];exact SeqAt.EqAt.int_tuple a t0 p u3;all_goals (intros;simp_all)
    |lst ys=>obtain⟨b,ws,rfl,h3,h4⟩:=aW.mp hy;cases rv;obtain⟨its,_,p,_⟩:=I.list h3;rw[fS];exact SeqAt.EqAt.int_list a t0 p.isList u3;all_goals (intros;simp_all)
   |str a =>
    rw[cV.mp hx] at ru;obtain⟨t0,rfl⟩:=ru;cases y with
    |obj C=>rw[D.iq] at oy;cases oy
    |exc C=>rw[D.iq] at oy;cases oy
    |non=>rw[cf.mp hy] at rv;cases rv;rw[fS];exact SeqAt.EqAt.str_none a t0;all_goals (intros;simp_all)
    |bl b=>rw[bS.mp hy] at rv;cases rv;rw[fS];exact SeqAt.EqAt.str_bool a t0 b;all_goals (intros;simp_all)
    |int b=>rw[aQ.mp hy] at rv;obtain⟨t,rfl⟩:=rv;rw[fS];exact SeqAt.EqAt.str_int a t0 b t;all_goals (intros;simp_all)
    |str b=>rw[cV.mp hy] at rv;obtain⟨t,rfl⟩:=rv;rw[fS];exact SeqAt.EqAt.str_str a t0 b t
    |tup ys=>obtain⟨b,ws,rfl,h3,h4⟩:=aN.mp hy;cases rv;obtain⟨its,_,p,_⟩:=I.tuple (kE.of h3);rw[fS];exact SeqAt.EqAt.str_tuple a t0 p u3;all_goals (intros;simp_all)
    |lst ys=>obtain⟨b,ws,rfl,h3,h4⟩:=aW.mp hy;cases rv;obtain⟨its,_,p,_⟩:=I.list h3;rw[fS];exact SeqAt.EqAt.str_list a t0 p.isList u3;all_goals (intros;simp_all)
   |tup xs =>
    obtain⟨a,vs,rfl,h1,h2⟩:=aN.mp hx;cases ru;obtain⟨its,Gk,p1,_⟩:=I.tuple (kE.of h1);have p1:s.heap.IsTuple a its.toArray:=p1;cases y with
    |obj C=>rw[D.iq] at oy;cases oy
    |exc C=>rw[D.iq] at oy;cases oy
    |non=>rw[cf.mp hy] at rv;cases rv;rw[fS];exact SeqAt.EqAt.tuple_none p1 u3;all_goals (intros;simp_all)
    |bl b=>rw[bS.mp hy] at rv;cases rv;rw[fS];exact SeqAt.EqAt.tuple_bool b p1 u3;all_goals (intros;simp_all)
    |int b=>rw[aQ.mp hy] at rv;obtain⟨t,rfl⟩:=rv;rw[fS];exact SeqAt.EqAt.tuple_int b t p1 u3;all_goals (intros;simp_all)
    |str b=>rw[cV.mp hy] at rv;obtain⟨t,rfl⟩:=rv;rw[fS];exact SeqAt.EqAt.tuple_str b t p1 u3;all_goals (intros;simp_all)
    |lst ys=>obtain⟨b,ws,rfl,h3,h4⟩:=aW.mp hy;cases rv;obtain⟨eO,_,p2,_⟩:=I.list h3;rw[fS];exact SeqAt.EqAt.tuple_list p1 p2.isList u3;all_goals (intros;simp_all)
    |tup ys =>
     obtain⟨b,ws,rfl,h3,h4⟩:=aN.mp hy;cases rv;by_cases oT:a=b
     ·subst oT;rw[D7 I _ _ _ hx hy,u0 _ n oy];exact SeqAt.EqAt.same _
     · obtain⟨eO,Gm,p2,_⟩:=I.tuple (kE.of h3);cases n with
       |zero=>rw[D.iq] at ox;cases ox
       |succ n =>
        rw[D.iq] at ox oy;have key:=SeqAt.RcAt.tuples (A:=A) (e:=fun j=>fS (xs.getD j .non) (ys.getD j .non)) p1 (show s.heap.IsTuple b eO.toArray from p2) u3 (fun j q1 q2 =>
          ub I xs ys n A.in1 vs ws its eO ox oy h2 h4 Gk Gm (by rw[in1_units];omega) j q1 q2)
        rw[D8 (by rw[bu h2,Gk.length];simp) (by rw[bu h4,Gm.length];simp)] at key;rw[fS];exact SeqAt.EqAt.of_refs oT key
   |lst xs =>
    obtain⟨a,vs,rfl,h1,h2⟩:=aW.mp hx;cases ru;obtain⟨its,Gk,p1,_⟩:=I.list h1;have p1:=p1.isList;cases y with
    |obj C=>rw[D.iq] at oy;cases oy
    |exc C=>rw[D.iq] at oy;cases oy
    |non=>rw[cf.mp hy] at rv;cases rv;rw[fS];exact SeqAt.EqAt.list_none p1 u3;all_goals (intros;simp_all)
    |bl b=>rw[bS.mp hy] at rv;cases rv;rw[fS];exact SeqAt.EqAt.list_bool b p1 u3;all_goals (intros;simp_all)
    |int b=>rw[aQ.mp hy] at rv;obtain⟨t,rfl⟩:=rv;rw[fS];exact SeqAt.EqAt.list_int b t p1 u3;all_goals (intros;simp_all)
    |str b=>rw[cV.mp hy] at rv;obtain⟨t,rfl⟩:=rv;rw[fS];exact SeqAt.EqAt.list_str b t p1 u3;all_goals (intros;simp_all)
    |tup ys=>obtain⟨b,ws,rfl,h3,h4⟩:=aN.mp hy;cases rv;obtain⟨eO,_,p2,_⟩:=I.tuple (kE.of h3);rw[fS];exact SeqAt.EqAt.list_tuple p1 (show s.heap.IsTuple b eO.toArray from p2) u3;all_goals (intros;simp_all)
    |lst ys =>
     obtain⟨b,ws,rfl,h3,h4⟩:=aW.mp hy;cases rv;by_cases oT:a=b
     ·subst oT;rw[D7 I _ _ _ hx hy,u0 _ n oy];exact SeqAt.EqAt.same _
     · obtain⟨eO,Gm,p2,_⟩:=I.list h3;have p2:=p2.isList;have l1:xs.length=its.toArray.size:=by rw[bu h2,Gk.length];simp
       have l2:ys.length=eO.toArray.size:=by rw[bu h4,Gm.length];simp
       rw[fS];by_cases hl:its.toArray.size=eO.toArray.size
       · cases n with
         |zero=>rw[D.iq] at ox;cases ox
         |succ n =>
          rw[D.iq] at ox oy;have key:=SeqAt.RcAt.lists (A:=A) (e:=fun j=>fS (xs.getD j .non) (ys.getD j .non)) p1 p2 hl u3 (fun j q1 q2 =>
            ub I xs ys n A.in1 vs ws its eO ox oy h2 h4 Gk Gm (by rw[in1_units];omega) j q1 q2)
          rw[uZ (by omega),l1];exact SeqAt.EqAt.of_refs oT key
       ·rw[uY (by omega)];exact SeqAt.EqAt.of_refs oT (SeqAt.RcAt.lists_lengths p1 p2 (by simpa using hl) u3)
  termination_by x=>sizeOf x
theorem ub(I:Inv X pins σ H s):∀(xs ys:List D) (n:Nat) (A:Around) (vs ws:List V) (its eO:dO),D.OQ xs n=true→D.OQ ys n=true→cy X.K H xs vs→cy X.K H ys ws→Vals vs its→Vals ws eO→A.units+n<cLine→∀j (h1:j<its.toArray.size) (h2:j<eO.toArray.size),SeqAt.EqAt A s its.toArray[j] eO.toArray[j] (fS (xs.getD j .non) (ys.getD j .non))
  |[],ys,n,A,vs,ws,its,eO,ox,oy,hx,hy,ru,rv,hu,j,h1,h2=>by rw[bC.mp hx] at ru;cases ru;simp at h1
  |x::xs,[],n,A,vs,ws,its,eO,ox,oy,hx,hy,ru,rv,hu,j,h1,h2=>by rw[bC.mp hy] at rv;cases rv;simp at h2
  |x::xs,y::ys,n,A,vs,ws,its,eO,ox,oy,hx,hy,ru,rv,hu,j,h1,h2=>by
   obtain⟨v,r,rfl,a1,a2⟩:=aP.mp hx;obtain⟨w,r',rfl,b1,b2⟩:=aP.mp hy;rw[D.OQ,t6] at ox oy;cases ru with
   |cons q1 q2 =>
    cases rv with
    |cons q3 q4 =>
     cases j with
     |zero=>exact WH I x y n A v w _ _ ox.1 oy.1 a1 b1 q1 q3 hu
     |succ j=>have:=ub I xs ys n A r r' _ _ ox.2 oy.2 a2 b2 q2 q4 hu j (by simpa using h1) (by simpa using h2);simpa using this
  termination_by xs=>sizeOf xs
end
end
end DL
abbrev eP:=Option DL.Slot
abbrev dm:=List DL.D
variable {sl:DL.Slot} {η:DL.cP} {Fn:List DL.D→Option DL.Slot}
namespace DL
open PySem PySem.Spec L2
open PyProof.Rows hiding St pairAt
def Ib:D→D→Bool:=fun x y=>match Nt x,Nt y with
  |some a,some b=>NP a b
  |_,_=>false
def Mb:D→D→Bool
  |.tup _,.tup _=>true
  |.lst _,.lst _=>true
  |_,_=>false
def m5:D→D→Option D:=fun x y=>if Ib x y=true then some (.bl (fS x y)) else if Mb x y=true&&(x.iq 8&&y.iq 8) then some (.bl (fS x y)) else none
def qK:D→D→Option D:=fun x y=>if Ib x y=true then some (.bl (!fS x y)) else if Mb x y=true&&(x.iq 8&&y.iq 8) then some (.bl (!fS x y)) else none
theorem OS{x y:D}{a b:V}(ha:Nt x=some a)(hb:Nt y=some b)(h:NP a b=true):fS x y=decide (a=b):=by
  cases x with
  |non =>
   cases ha;cases y with
   |non=>cases hb;rw[fS];simp
   |bl c=>cases hb;rw[fS];simp;all_goals (intros;simp_all)
   |int c=>cases hb;rw[fS];simp;all_goals (intros;simp_all)
   |str c=>cases hb;rw[fS];simp;all_goals (intros;simp_all)
   |_=>cases hb
  |bl d =>
   cases ha;cases y with
   |non=>cases hb;rw[fS];simp;all_goals (intros;simp_all)
   |bl c=>cases hb;rw[fS,Hz]
   |int c=>cases hb;cases h
   |str c=>cases hb;rw[fS];simp;all_goals (intros;simp_all)
   |_=>cases hb
  |int d =>
   cases ha;cases y with
   |non=>cases hb;rw[fS];simp;all_goals (intros;simp_all)
   |bl c=>cases hb;cases h
   |int c=>cases hb;rw[fS,Dt]
   |str c=>cases hb;rw[fS];simp;all_goals (intros;simp_all)
   |_=>cases hb
  |str d =>
   cases ha;cases y with
   |non=>cases hb;rw[fS];simp;all_goals (intros;simp_all)
   |bl c=>cases hb;rw[fS];simp;all_goals (intros;simp_all)
   |int c=>cases hb;rw[fS];simp;all_goals (intros;simp_all)
   |str c=>cases hb;rw[fS,Du]
   |_=>cases hb
  |_=>cases ha
def S1(K:PySem.W.Frag)(neg:Bool):R2:=fun x y H Q=>∃d e,Den K H d x∧Den K H e y∧Mb d e=true∧d.iq 8=true∧e.iq 8=true∧Q (.bl (if neg then !fS d e else fS d e)) H
section
variable {X:Cx}
theorem OU(hu:X.A.units+64<cLine):qy X (compareOp .Eq) (S1 X.K false):=by
  intro pins s σ H x y v u Q I rx ry h;obtain⟨d,e,hd,he,hc,od,oe,q⟩:=h;have u3:X.A.units<cLine:=by omega
  cases d with
  |tup xs =>
   cases e with
   |tup ys =>
    obtain⟨a,vs,rfl,h1,h2⟩:=aN.mp hd;obtain⟨b,ws,rfl,h3,h4⟩:=aN.mp he;cases rx;cases ry;obtain⟨its,Gk,p1,_⟩:=I.tuple (kE.of h1);obtain⟨eO,Gm,p2,_⟩:=I.tuple (kE.of h3);rw[D.iq] at od oe;have key:=SeqAt.RcAt.tuples (A:=X.A) (e:=fun j=>fS (xs.getD j .non) (ys.getD j .non)) (show s.heap.IsTuple a its.toArray from p1) (show s.heap.IsTuple b eO.toArray from p2) u3 (fun j q1 q2 =>
      ub I xs ys 7 X.A.in1 vs ws its eO od oe h2 h4 Gk Gm (by rw[in1_units];omega) j q1 q2)
    rw[D8 (by rw[bu h2,Gk.length];simp) (by rw[bu h4,Gm.length];simp)] at key;exact key _ _ _ _ (bX I q (by rw[fS];rfl))
   |_=>cases hc
  |lst xs =>
   cases e with
   |lst ys =>
    obtain⟨a,vs,rfl,h1,h2⟩:=aW.mp hd;obtain⟨b,ws,rfl,h3,h4⟩:=aW.mp he;cases rx;cases ry;obtain⟨its,Gk,p1,_⟩:=I.list h1;obtain⟨eO,Gm,p2,_⟩:=I.list h3;rw[D.iq] at od oe;have l1:xs.length=its.toArray.size:=by rw[bu h2,Gk.length];simp
    have l2:ys.length=eO.toArray.size:=by rw[bu h4,Gm.length];simp
    by_cases hl:its.toArray.size=eO.toArray.size
    · have key:=SeqAt.RcAt.lists (A:=X.A) (e:=fun j=>fS (xs.getD j .non) (ys.getD j .non)) p1.isList p2.isList hl u3 (fun j q1 q2 =>
        ub I xs ys 7 X.A.in1 vs ws its eO od oe h2 h4 Gk Gm (by rw[in1_units];omega) j q1 q2)
      rw[←l1,←uZ (by omega)] at key;exact key _ _ _ _ (bX I q (by rw[fS];rfl))
    ·exact SeqAt.RcAt.lists_lengths p1.isList p2.isList (by simpa using hl) u3 _ _ _ _ (bX I q (by rw[fS,uY (by omega)];rfl))
   |_=>cases hc
  |_=>cases e<;>cases hc
theorem WK(hu:X.A.units+64<cLine):qy X (compareOp .NotEq) (S1 X.K true):=by
  intro pins s σ H x y v u Q I rx ry h;obtain⟨d,e,hd,he,hc,od,oe,q⟩:=h;have u3:X.A.units<cLine:=by omega
  cases d with
  |tup xs =>
   cases e with
   |tup ys =>
    obtain⟨a,vs,rfl,h1,h2⟩:=aN.mp hd;obtain⟨b,ws,rfl,h3,h4⟩:=aN.mp he;cases rx;cases ry;obtain⟨its,Gk,p1,_⟩:=I.tuple (kE.of h1);obtain⟨eO,Gm,p2,_⟩:=I.tuple (kE.of h3);rw[D.iq] at od oe;have key:=SeqAt.RcNeAt.tuples (A:=X.A) (e:=fun j=>fS (xs.getD j .non) (ys.getD j .non)) (show s.heap.IsTuple a its.toArray from p1) (show s.heap.IsTuple b eO.toArray from p2) u3 (fun j q1 q2 =>
      ub I xs ys 7 X.A.in1 vs ws its eO od oe h2 h4 Gk Gm (by rw[in1_units];omega) j q1 q2)
    rw[D8 (by rw[bu h2,Gk.length];simp) (by rw[bu h4,Gm.length];simp)] at key;exact key _ _ _ _ (bX I q (by rw[fS];rfl))
   |_=>cases hc
  |lst xs =>
   cases e with
   |lst ys =>
    obtain⟨a,vs,rfl,h1,h2⟩:=aW.mp hd;obtain⟨b,ws,rfl,h3,h4⟩:=aW.mp he;cases rx;cases ry;obtain⟨its,Gk,p1,_⟩:=I.list h1;obtain⟨eO,Gm,p2,_⟩:=I.list h3;rw[D.iq] at od oe;have l1:xs.length=its.toArray.size:=by rw[bu h2,Gk.length];simp
    have l2:ys.length=eO.toArray.size:=by rw[bu h4,Gm.length];simp
    by_cases hl:its.toArray.size=eO.toArray.size
    · have key:=SeqAt.RcNeAt.lists (A:=X.A) (e:=fun j=>fS (xs.getD j .non) (ys.getD j .non)) p1.isList p2.isList hl u3 (fun j q1 q2 =>
        ub I xs ys 7 X.A.in1 vs ws its eO od oe h2 h4 Gk Gm (by rw[in1_units];omega) j q1 q2)
      rw[←l1,←uZ (by omega)] at key;exact key _ _ _ _ (bX I q (by rw[fS];rfl))
    ·exact SeqAt.RcNeAt.lists_lengths p1.isList p2.isList (by simpa using hl) u3 _ _ _ _ (bX I q (by rw[fS,uY (by omega)];rfl))
   |_=>cases hc
  |_=>cases e<;>cases hc
theorem Gn{x y:D}(h:Ib x y=true):∃a b,Nt x=some a∧Nt y=some b∧NP a b=true:=by
  unfold Ib at h;split at h
  ·exact⟨_,_,by assumption,by assumption,h⟩
  ·cases h
theorem UQ:Nr K m5 (fun x y H Q=>rEq x y H Q∨S1 K false x y H Q):=fun F H x y d v u Q b e h1 h2 k=>by
  unfold m5 at e;by_cases hs:Ib x y=true
  ·rw[ay hs] at e;cases e;obtain⟨a,b,ha,hb,hc⟩:=Gn hs;obtain⟨rfl,_⟩:=sM h1 ha;obtain⟨rfl,_⟩:=sM h2 hb;refine .inl ⟨hc,k _ ?_⟩;rw[OS ha hb hc];exact bS.mpr rfl
  · rw[aZ hs] at e;by_cases hc:(Mb x y=true&&(x.iq 8&&y.iq 8))=true
    ·rw[ay hc] at e;cases e;simp only[t6,A8] at hc;exact .inr ⟨x,y,h1,h2,hc.1,hc.2.1,hc.2.2,k _ (bS.mpr rfl)⟩
    ·rw[aZ hc] at e;cases e
theorem Zx:Nr K qK (fun x y H Q=>rNe x y H Q∨S1 K true x y H Q):=fun F H x y d v u Q b e h1 h2 k=>by
  unfold qK at e;by_cases hs:Ib x y=true
  ·rw[ay hs] at e;cases e;obtain⟨a,b,ha,hb,hc⟩:=Gn hs;obtain⟨rfl,_⟩:=sM h1 ha;obtain⟨rfl,_⟩:=sM h2 hb;refine .inl ⟨hc,k _ ?_⟩;rw[OS ha hb hc];exact bS.mpr rfl
  · rw[aZ hs] at e;by_cases hc:(Mb x y=true&&(x.iq 8&&y.iq 8))=true
    ·rw[ay hc] at e;cases e;simp only[t6,A8] at hc;exact .inr ⟨x,y,h1,h2,hc.1,hc.2.1,hc.2.2,k _ (bS.mpr rfl)⟩
    ·rw[aZ hc] at e;cases e
variable {z:Zc} {e a b:Expr} {f fa fb:EF} {fl:LF} {pos p:Pos}
theorem OV(hu:X.A.units+64<cLine)(ha:DB X z a fa)(hb:DB X z b fb):DE X z (.Compare a [.Eq] [b] pos) (ag m5 fa fb):=y9 (Uy.or (OU hu)) UQ ha hb (lX _)
theorem tQ(hu:X.A.units+64<cLine)(ha:DB X z a fa)(hb:DB X z b fb):DT X z (.Compare a [.Eq] [b] pos) (bU (ag m5 fa fb)):=p6 (Uy.or (OU hu)) UQ ha hb (lX _)
theorem Ck(hu:X.A.units+64<cLine)(ha:DB X z a fa)(hb:DB X z b fb):DT X z (.Compare a [.NotEq] [b] pos) (bU (ag qK fa fb)):=p6 (YF.or (WK hu)) Zx ha hb (lX _)
def Rv:D→Option String
  |.non=>some "NoneType"
  |.bl _=>some "bool"
  |.int _=>some "int"
  |.str _=>some "str"
  |.tup _=>some "tuple"
  |.lst _=>some "list"
  |.obj _=>none
  |.exc _=>none
def OW(T t:String):Bool:=t==T||(T=="int"&&t=="bool")
def wD(T:String)(f:EF):EF:=fun η=>(f η).bind fun d=>(Rv d).map fun t=>.bl (OW T t)
theorem WL{t:String}(h:Den K H d v)(e:Rv d=some t):t9 K H v (.type t):=by
  cases d with
  |non=>cases e;rw[cf.mp h];exact .non
  |bl b=>cases e;rw[bS.mp h];exact .bl b
  |int b=>cases e;rw[aQ.mp h];exact .int b
  |str b=>cases e;rw[cV.mp h];exact .str b
  |tup xs=>cases e;obtain⟨a,vs,rfl,h1,_⟩:=aN.mp h;exact .tup h1
  |lst xs =>
   cases e;obtain⟨a,vs,rfl,h1,_⟩:=aW.mp h;rcases h1 with(h1|⟨o,h1⟩)|⟨o,its,n,hk,hc,_⟩
   ·exact .lst h1
   ·exact .t7 h1
   ·exact .kl hk hc
  |obj C=>cases e
  |exc C=>cases e
theorem Gp{T:String}(hk:∀(d:D) (t:String),Rv d=some t→kitOne X.K (.type t) (.type T)=some (OW T t))(hv:bootBuiltins x=some (.type T))(hg:Gl X "isinstance")(hm:X.mg "isinstance"=none)(OX:Gl X x)(Md:X.mg x=none)(ha:DB X z e f)(hs:starEach [e,.Name x p] X.env=(false,eval e X.env)::starEach [.Name x p] X.env)(Bi:starEach [.Name x p] X.env=(false,eval (.Name x p) X.env)::starEach [] X.env)(tj:(backTo pos (starEach [.Name x p] X.env)).any (·.1)=false)(hn:x≠"__name__")(ti:(x==("__debug__":Str))=false):DE X z (.Call (.Name "isinstance" p2) [e,.Name x p] [] pos) (wD T f) :=
  PE.weak (qR FX hg hm Bo (fj ha (fj (RC (v:=.ty T) OX Md hv rfl hn ti) kM Bi) hs) (by decide) (by decide) hs tj) fun σ H Q ⟨η,F,d,r,e,k⟩=>by
  unfold wD at e;obtain⟨d',h1,h2⟩:=eK.mp e;obtain⟨t,h3,h4⟩:=g6.mp h2;subst h4;exact⟨η,F,d',r,h1,fun v H' F' g q=>⟨v,T,.type t,OW T t,rfl,WL q h3,hk d' t h3,k _ H' F' g (bS.mpr rfl)⟩⟩
theorem kit_tuple:∀(d:D) (t:String),Rv d=some t→kitOne K (.type t) (.type "tuple")=some (OW "tuple" t):=fun d t h=>by cases d<;>cases h<;>rfl
theorem OY:∀(d:D) (t:String),Rv d=some t→kitOne K (.type t) (.type "list")=some (OW "list" t):=fun d t h=>by cases d<;>cases h<;>rfl
theorem OZ:∀(d:D) (t:String),Rv d=some t→kitOne K (.type t) (.type "bool")=some (OW "bool" t):=fun d t h=>by cases d<;>cases h<;>rfl
theorem S2:∀(d:D) (t:String),Rv d=some t→kitOne K (.type t) (.type "int")=some (OW "int" t):=fun d t h=>by cases d<;>cases h<;>rfl
theorem S3:∀(d:D) (t:String),Rv d=some t→kitOne K (.type t) (.type "str")=some (OW "str" t):=fun d t h=>by cases d<;>cases h<;>rfl
theorem rq(hg:Gl X "isinstance")(hm:X.mg "isinstance"=none)(Md:X.mg "tuple"=none)(ha:DB X z e f)(OX:Gl X "tuple":=by rfl)(hs:starEach [e,.Name "tuple" p] X.env=(false,eval e X.env)::starEach [.Name "tuple" p] X.env:=by rfl):DE X z (.Call (.Name "isinstance" p2) [e,.Name "tuple" p] [] pos) (wD "tuple" f) :=
  Gp kit_tuple yR hg hm OX Md ha hs rfl rfl (by decide) (by decide)
theorem uc(hg:Gl X "isinstance")(hm:X.mg "isinstance"=none)(Md:X.mg "list"=none)(ha:DB X z e f)(OX:Gl X "list":=by rfl)(hs:starEach [e,.Name "list" p] X.env=(false,eval e X.env)::starEach [.Name "list" p] X.env:=by rfl):DE X z (.Call (.Name "isinstance" p2) [e,.Name "list" p] [] pos) (wD "list" f) :=
  Gp OY DF hg hm OX Md ha hs rfl rfl (by decide) (by decide)
theorem ud(hg:Gl X "isinstance")(hm:X.mg "isinstance"=none)(Md:X.mg "bool"=none)(ha:DB X z e f)(OX:Gl X "bool":=by rfl)(hs:starEach [e,.Name "bool" p] X.env=(false,eval e X.env)::starEach [.Name "bool" p] X.env:=by rfl):DE X z (.Call (.Name "isinstance" p2) [e,.Name "bool" p] [] pos) (wD "bool" f) :=
  Gp OZ Si hg hm OX Md ha hs rfl rfl (by decide) (by decide)
theorem Cm(hg:Gl X "isinstance")(hm:X.mg "isinstance"=none)(Md:X.mg "int"=none)(ha:DB X z e f)(OX:Gl X "int":=by rfl)(hs:starEach [e,.Name "int" p] X.env=(false,eval e X.env)::starEach [.Name "int" p] X.env:=by rfl):DE X z (.Call (.Name "isinstance" p2) [e,.Name "int" p] [] pos) (wD "int" f) :=
  Gp S2 Wi hg hm OX Md ha hs rfl rfl (by decide) (by decide)
theorem Cp(hg:Gl X "isinstance")(hm:X.mg "isinstance"=none)(Md:X.mg "str"=none)(ha:DB X z e f)(OX:Gl X "str":=by rfl)(hs:starEach [e,.Name "str" p] X.env=(false,eval e X.env)::starEach [.Name "str" p] X.env:=by rfl):DE X z (.Call (.Name "isinstance" p2) [e,.Name "str" p] [] pos) (wD "str" f) :=
  Gp S3 Wj hg hm OX Md ha hs rfl rfl (by decide) (by decide)
def Zy(a b:Int):Bool:=decide (a≤b)
def gN(ns:aO):aO:=ns.mergeSort Zy
theorem gA(ns:aO):(gN ns).Perm ns:=List.mergeSort_perm ns Zy
theorem zp(ns:aO):(gN ns).Pairwise (·≤·):=by have:=List.pairwise_mergeSort (le:=Zy) (fun a b c h1 h2=>by simp only[Zy,A8] at *;omega) (fun a b=>by simp only[Zy,Bool.or_eq_true,A8];omega) ns;exact this.imp fun h=>xT h
theorem O0(h:ms.Perm ns)(hp:ms.Pairwise (·≤·)):gN ns=ms :=
  List.Perm.eq_of_pairwise (le:=fun a b:Int=>a≤b) (fun a b _ _ h1 h2=>by omega) (zp ns) hp ((gA ns).trans h.symm)
theorem D9:qz X (.builtin "sorted") (fun xs H Q=>∃(p:Addr) (ns:aO),xs=[.ref p]∧m4 X.K H p (ns.map V.int)∧ns.length<64∧∀l,H l=none→Q (.ref l) (upd H l (.lst ((gN ns).map V.int)))):=by
  intro pins s σ H xs us Q I r h;obtain⟨p,ns,rfl,hq,yU,h⟩:=h;obtain⟨u,rfl,ru⟩:=vals1 r;cases ru;obtain⟨its,rv,hl,_⟩:=I.list hq;have hi:=intsAre_of rv;have l1:ns.length=its.length:=by have:=rv.length;simpa using this
  refine sorted_ints (vs:=its) hl.isList hi (by omega) fun out RW ho hp hs=>?_;have e0:=O0 hp hs;subst e0;obtain⟨e,he⟩:=sortedAll_at s.heap its out;have lp:(gN ns).length=ns.length:=(gA ns).length_eq;refine⟨.ref (s.heap.objs.size+1),_,I.laid (a:=s.heap.objs.size+1) (o:=.lst ((gN ns).map V.int)) (t':=s.toks) (fun b o q=>sortedAll_old q) (by omega) ⟨?_,out.toList,e,sC ho,by simpa using he⟩,rfl,h _ (I.cZ.fresh (by omega))⟩;rw[g9,lp,jc];omega
def rA(f:EF):LF:=fun η=>(f η).bind fun d=>(Ic d).bind fun ds=>(kH ds).bind fun ns=>if ns.length<64 then some ((gN ns).map D.int) else none
where Ic:D→Option dm
  |.lst ds=>some ds
  |_=>none
theorem Gq{hu:Prop}(_:hu)(hg:Gl X "sorted")(hm:X.mg "sorted"=none)(ha:DB X z e f)(hs:starEach [e] X.env=(false,eval e X.env)::starEach [] X.env:=by rfl):DO X z (.Call (.Name "sorted" p) [e] [] pos) (rA f) :=
  PE.weak (qR D9 hg hm nr (fj ha kM hs) (by decide) (by decide) hs rfl) fun σ H Q ⟨η,F,d,r,e,k⟩=>by
  unfold rA at e;obtain⟨d',h1,e⟩:=eK.mp e;obtain⟨ds,h2,e⟩:=eK.mp e;obtain⟨ns,h3,e⟩:=eK.mp e;by_cases hl:ns.length<64
  · rw[ay hl] at e;cases e;cases d' with
    |lst tu=>cases h2;refine⟨η,F,_,r,h1,fun v H1 F1 g1 q1=>?_⟩;obtain⟨a,ws,rfl,h4,h5⟩:=aW.mp q1;rw[kb h3] at h5;rw[ix h5] at h4;refine⟨a,ns,rfl,h4,hl,fun l Gj=>?_⟩;have lp:(gN ns).length=ns.length:=(gA ns).length_eq;have g2:=bA.own g1.base Gj (.lst ((gN ns).map V.int)) (show((gN ns).map V.int).length≤sizeLine by rw[g9,lp,jc];omega) rfl;exact k l _ _ F1 (g1.trans g2) (g1.ent.free Gj) (g1.base.sub.free Gj) aL (fX _)
    |_=>cases h2
  ·rw[aZ hl] at e;cases e
def wF:dm→Option xR
  |[]=>some []
  |.tup [.int i,.tup ts]::ds=>(kH ts).bind fun ns=>(wF ds).map ((i,ns)::·)
  |_::_=>none
def fQ(p:Int×aO):D:=.tup [.int p.1,.tup (p.2.map D.int)]
theorem Mf:∀{ds:dm} {ps:xR},wF ds=some ps→ds=ps.map fQ:=by
  intro ds;induction ds with
  |nil=>intro ps h;cases h;rfl
  |cons d ds ih =>
   intro ps h;unfold wF at h;split at h
   ·rename_i heq;cases heq
   ·rename_i i ts tu heq;injection heq with e1 e2;subst e1 e2;obtain⟨ns,h1,h⟩:=eK.mp h;obtain⟨r,h2,h3⟩:=g6.mp h;subst h3;rw[ih h2,kb h1];rfl
   ·cases h
theorem zq:∀(ps:xR),wF (ps.map fQ)=some ps
  |[]=>rfl
  |p::ps=>by show(kH (p.2.map D.int)).bind (fun ns=>(wF (ps.map fQ)).map ((p.1,ns)::·))=_;rw[du,zq ps];rfl
def Mg(a b:Int×aO):Bool:=!pJ b a
theorem Kf(a:Int×aO):pJ a a=false:=by unfold pJ;rw[ay rfl];exact nJ _
def hW(ps:xR):xR:=ps.mergeSort Mg
theorem iz(ps:xR):(hW ps).Perm ps:=List.mergeSort_perm ps Mg
theorem Kg(a b:Int×aO):(Mg a b||Mg b a)=true:=by
  unfold Mg;cases h:pJ b a with
  |false=>rfl
  |true =>
   cases h2:pJ a b with
   |false=>rfl
   |true=>have:=yV h h2;rw[Kf] at this;cases this
theorem O1(a b c:Int×aO)(h1:Mg a b=true)(h2:Mg b c=true):Mg a c=true:=by
  unfold Mg at *;simp only[Bool.not_eq_true'] at *;cases h:pJ c a with
  |false=>rfl
  |true =>
   by_cases e1:a=b
   ·subst e1;rw[h] at h2;cases h2
   ·have q1:=yu (a:=b) (b:=a) (fun z=>e1 z.symm) h1;have q2:=yV h q1;rw[h2] at q2;cases q2
theorem zr{ps:xR}(hd:ps.Nodup):(hW ps).Pairwise (fun a b=>pJ a b=true):=by
  have h:=List.pairwise_mergeSort (le:=Mg) O1 Kg ps;have hn:(hW ps).Nodup:=(iz ps).nodup_iff.mpr hd;refine List.Pairwise.imp₂ (fun a b h1 h2=>?_) h hn;have UK:pJ b a=false:=by unfold Mg at h1;simpa using h1
  exact yu (fun z=>h2 z.symm) UK
theorem u5{ps qs:xR}(hd:ps.Nodup)(h:qs.Perm ps)(hp:qs.Pairwise (fun a b=>pJ a b=true)):hW ps=qs :=
  List.Perm.eq_of_pairwise (le:=fun a b=>pJ a b=true) (fun a b _ _ h1 h2=>by have:=yV h1 h2;rw[Kf] at this;cases this) (zr hd) hp ((iz ps).trans h.symm)
def Ea(f:EF):LF:=fun η=>(f η).bind fun d=>match d with
  |.lst ds=>(wF ds).bind fun ps=>if ps.Nodup∧ps.length<64 then some ((hW ps).map fQ) else none
  |_=>none
theorem zt{p:Int×aO}:Den K F (fQ p) v↔pairAt F v p:=by
  unfold fQ pairAt;constructor
  ·intro h;obtain⟨a,vs,rfl,h1,h2⟩:=aN.mp h;obtain⟨v1,r,rfl,h3,h4⟩:=aP.mp h2;obtain⟨v2,rfl,h5⟩:=Ge h4;rw[aQ.mp h3] at h1;obtain⟨q,ws,rfl,h6,h7⟩:=aN.mp h5;rw[ix h7] at h6;exact⟨a,q,rfl,h1,h6⟩
  ·rintro⟨a,q,rfl,h1,h2⟩;exact aN.mpr ⟨a,_,rfl,h1,aP.mpr ⟨_,_,rfl,aQ.mpr rfl,Ga (aN.mpr ⟨q,_,rfl,h2,fX _⟩)⟩⟩
theorem sN{K:PySem.W.Frag}{F:Hp}:∀{ps:xR} {vs:List V},cy K F (ps.map fQ) vs↔Paired (pairAt F) vs ps
  |[],vs=>by
   rw[jb,bC];constructor
   ·rintro rfl;exact .nil
   ·intro h;cases h;rfl
  |p::ps,vs=>by
   rw[bY,aP];constructor
   ·rintro⟨v,r,rfl,h1,h2⟩;exact .cons (zt.mp h1) (sN.mp h2)
   · intro h;cases h with
     |cons h1 h2=>exact⟨_,_,rfl,zt.mpr h1,sN.mpr h2⟩
theorem Mh(p:Int×aO):(fQ p).A2=true:=by unfold fQ;rw[uP,mX,sI,mX,uP,Ox];rfl
theorem O2(hu:X.A.units+5<cLine)(hg:Gl X "sorted")(hm:X.mg "sorted"=none)(ha:DB X z e f)(hs:starEach [e] X.env=(false,eval e X.env)::starEach [] X.env:=by rfl):DO X z (.Call (.Name "sorted" p) [e] [] pos) (Ea f) :=
  PE.weak (qR (DQ hu) hg hm nr (fj ha kM hs) (by decide) (by decide) hs rfl) fun σ H Q ⟨η,F,d,r,e,k⟩=>by
  unfold Ea at e;obtain⟨d',h1,e⟩:=eK.mp e;cases d' with
  |lst ds =>
   obtain⟨ps,h2,e⟩:=eK.mp e;by_cases hl:ps.Nodup∧ps.length<64
   ·rw[ay hl] at e;cases e;refine⟨η,F,_,r,h1,fun v H1 F1 g1 q1=>?_⟩;obtain⟨a,ws,rfl,h4,h5⟩:=aW.mp q1;rw[Mf h2] at h5;have h6:=sN.mp h5;refine⟨a,ws,ps,rfl,h4,h6,hl.1,by have:=h6.length;omega,fun l Zg tu Gj p1 p2 p3=>?_⟩;have e0:=u5 hl.1 p2 p3;subst e0;have lp:(hW ps).length=ps.length:=(iz ps).length_eq;have lv:=p1.length;have g2:=bA.own g1.base Gj (.lst Zg) (show Zg.length≤sizeLine by rw[lv,lp,jc];omega) rfl;refine k l _ _ F1 (g1.trans g2) (g1.ent.free Gj) (g1.base.sub.free Gj) aL ?_;refine y4 g1.base.tup _ _ ?_ (sN.mpr p1);rw[y7,List.all_map,iK];exact fun q _=>Mh q
   ·rw[aZ hl] at e;cases e
  |_=>cases e
end
section
variable {X:Cx} {z:Zc} {e a b:Expr} {f fa fb fk fv:EF} {fl:LF} {pos p:Pos} {g:SF} {st:Stmt}
theorem Mi:∀D σ H,vS K z (cq i (eL fl)) D σ H→Lv (vO K z fl) (BZ i) D σ H:=fun D σ H ⟨η,F,o,r,e,k⟩=>by unfold cq eL at e;obtain⟨d,e1,rfl⟩:=g6.mp e;obtain⟨ds,e2,rfl⟩:=g6.mp e1;refine⟨η,F,ds,r,e2,fun p vs H' F' gr h1 h2 h3 h4=>?_⟩;have hs:cF F' (upd F' p (.lst vs)):=fq h2 _;have g2:=gr.share gr.base h3 h1;exact k _ H' _ ((r.grow g2).set i rfl (aW.mpr ⟨p,vs,rfl,m4.of aL,bD hs _ _ h4⟩)) g2.jA
theorem Gr{FV:Pos}{m:Bool}{elt iter:Expr}{ifs:List Expr}{tgs:gs}{l:LF}{b:BF}{t:TF}{f:EF}(hc:X.calm=true)(hN:X.N.Nodup)(B:dg X tgs fi scope)(hfi:fi.Nodup)(hit:DI X z tg iter m l)(hg:∀C ex s H,DG (kN X tgs fi scope C ex s H) z m tg b)(ht:∀C ex s H,OJ (kN X tgs fi scope C ex s H) z ifs t)(he:∀C ex s H,DE (kN X tgs fi scope C ex s H) z elt f)(hi:X.N[i]?=some x:=by rfl)(hl:X.env.scope.names.lookup x=some .local:=by rfl)(Wh:swapsWith (.ListComp elt [⟨tg,iter,ifs,0⟩] scope pos) (some (.Name x pos')) FV.line X.env=pure true:=by rfl)(hs:∀x,foldedSetIterable iter X.env x=pure x:=by intro _;rfl):DS X z (.Assign [.Name x pos'] (.ListComp elt [⟨tg,iter,ifs,0⟩] scope pos) FV) (cq i (eL (bP tgs.length fi l b t f))) :=
  PS.weak (yQ (g:=vG X.K z m b) (tt:=vT X.K z t) (te:=vE X.K z f) hc hN hi hl B hit (fun C ex s H=>hg C ex s H) (fun C ex s H=>ht C ex s H) (fun C ex s H=>he C ex s H) Wh hs) fun D σ H h=>wB hfi σ H _ (Mi D σ H h)
def keyOf:D→Option Key
  |.int i=>some (.inl i)
  |.str x=>some (.inr x)
  |_=>none
def keysOf:dm→Option (List Key)
  |[]=>some []
  |d::ds=>(keyOf d).bind fun k=>(keysOf ds).map (k::·)
def Mj:D→Option (List Key)
  |.tup ds=>keysOf ds
  |_=>none
theorem zu{K:PySem.W.Frag}{F:Hp}:∀{ds:dm} {vs:List V} {ks:List Key},cy K F ds vs→keysOf ds=some ks→vs=ks.map kV
  |[],vs,ks,h,e=>by cases e;exact bC.mp h
  |d::ds,vs,ks,h,e=>by
   obtain⟨k,h1,e⟩:=eK.mp e;obtain⟨r,h2,rfl⟩:=g6.mp e;obtain⟨v,r',rfl,h3,h4⟩:=aP.mp h;rw[zu h4 h2];have:v=kV k:=by
     cases d with
     |int i=>cases h1;exact aQ.mp h3
     |str i=>cases h1;exact cV.mp h3
     |_=>cases h1
   rw[this];rfl
theorem xF:∀ns:aO,keysOf (ns.map D.int)=some (ns.map Sum.inl)
  |[]=>rfl
  |n::ns=>by show(some (Sum.inl n:Key)).bind _=_;simp[xF ns]
def Ml:Key→D
  |.inl i=>.int i
  |.inr x=>.str x
theorem zv{K:PySem.W.Frag}{F:Hp}:∀(ks:List Key),cy K F (ks.map Ml) (ks.map kV)
  |[]=>bC.mpr rfl
  |.inl i::ks=>aP.mpr ⟨_,_,rfl,aQ.mpr rfl,zv ks⟩
  |.inr x::ks=>aP.mpr ⟨_,_,rfl,cV.mpr rfl,zv ks⟩
def wG{κ:Type}[DecidableEq κ](aX:List (κ×D))(k:κ):Option D:=(aX.find? fun kv=>decide (kv.1=k)).map (·.2)
def putD{κ:Type}[DecidableEq κ](aX:List (κ×D))(k:κ)(v:D):List (κ×D) :=
  if (aX.any fun kv=>decide (kv.1=k))=true then aX.map fun kv=>if kv.1=k then(kv.1,v) else kv else aX++[(k,v)]
section
variable {κ:Type} [DecidableEq κ] {K:PySem.W.Frag} {F:Hp}
theorem zx:∀{aX:List (κ×D)} {ws:List (κ×V)} (k:κ),jP K F aX ws→(∀d,wG aX k=some d→∃v,tm ws k=some v∧Den K F d v)∧(wG aX k=none→tm ws k=none)
  |[],_,k,.nil=>⟨fun d h=>(by exact absurd h (by simp[wG])),fun _=>rfl⟩
  |p::aX,q::ws,k,.cons h t=>by
   obtain⟨ih1,ih2⟩:=zx k t;by_cases e:p.1=k
   · have e1:wG (p::aX) k=some p.2:=by simp[wG,uD,e]
     have e2:tm (q::ws) k=some q.2:=uJ (by rw[←h.1];exact e);rw[e1,e2];exact⟨fun d hd=>⟨q.2,rfl,by cases hd;exact h.2⟩,fun z=>by cases z⟩
   · have e1:wG (p::aX) k=wG aX k:=by simp[wG,uD,e]
     have e2:tm (q::ws) k=tm ws k:=uK (by rw[←h.1];exact e);rw[e1,e2];exact⟨ih1,ih2⟩
theorem Kh:∀{aX:List (κ×D)} {ws:List (κ×V)} (k:κ),jP K F aX ws→(aX.any fun kv=>decide (kv.1=k))=ws.any fun kv=>decide (kv.1=k)
  |[],_,k,.nil=>rfl
  |p::aX,q::ws,k,.cons h t=>by rw[List.any_cons,List.any_cons,Kh k t,h.1]
theorem Gs{d:D}{v:V}(hd:Den K F d v):∀{aX:List (κ×D)} {ws:List (κ×V)} (k:κ),jP K F aX ws→jP K F (aX.map fun kv=>if kv.1=k then(kv.1,d) else kv) (ws.map fun kv=>if kv.1=k then(kv.1,v) else kv)
  |[],_,k,.nil=>.nil
  |p::aX,q::ws,k,.cons h t=>by
   refine .cons ?_ (Gs hd k t);dsimp only;by_cases e:p.1=k
   · have e2:q.1=k:=by rw[←h.1];exact e
     rw[ay e,ay e2];exact⟨h.1,hd⟩
   · have e2:¬ q.1=k:=by rw[←h.1];exact e
     rw[aZ e,aZ e2];exact h
theorem Gu{d:D}{v:V}(hd:Den K F d v):∀{aX:List (κ×D)} {ws:List (κ×V)} (k:κ),jP K F aX ws→jP K F (aX++[(k,d)]) (ws++[(k,v)])
  |[],_,k,.nil=>.cons ⟨rfl,hd⟩ .nil
  |p::aX,q::ws,k,.cons h t=>.cons h (Gu hd k t)
theorem O3{aX:List (κ×D)}{ws:List (κ×V)}(k:κ)(h:jP K F aX ws)(hd:Den K F d v):jP K F (putD aX k d) (putK ws k v):=by
  unfold putD putK;rw[Kh k h];by_cases e:(ws.any fun kv=>decide (kv.1=k))=true
  ·rw[ay e,ay e];exact Gs hd k h
  ·rw[aZ e,aZ e];exact Gu hd k h
theorem wH{aX:List (κ×D)}{ws:List (κ×V)}(h:jP K F aX ws):aX.length=ws.length:=wd h
end
def dT(i:Nat)(η:cP):Option (List (List Key×D)):=match η[i]? with
  |some (some (.ot aX))=>some aX
  |some (some (.ft aX))=>some aX
  |_=>none
theorem Ki{aX:List (List Key×D)}(r:Rel K z F H σ η)(e:dT i η=some aX):∃p ws,σ[i]?=some (some (.ref p))∧Rd H p (.dT ws)∧jP K F aX ws:=by
  unfold dT at e;split at e
  ·rename_i acs h;cases e;obtain⟨p,o,h1,h2,h3,h4,ws,rfl,h5⟩:=r.ownAt h rfl;exact⟨p,ws,h1,.inl h4,h5⟩
  ·rename_i acs h;cases e;obtain⟨v,h1,p,ob,ws,rfl,h4,h5⟩:=r.at_ i _ h;exact⟨p,ws,h1,.inr ⟨ob,r.base.sub _ _ h4⟩,h5⟩
  ·cases e
theorem Kj(s:cF H H'){p:Addr}{u:HO}(h:Rd H p u):Rd H' p u:=by
  rcases h with h|⟨o,h⟩
  ·exact .inl (s _ _ h)
  ·exact .inr ⟨o,s _ _ h⟩
theorem Kk{F:Hp}{p:Addr}{ws:List (List Key×V)}{ks:List Key}(h:Rd H p (.dT ws))(hd:Den K H d y)(hk:Mj d=some ks):LP H p y (tm ws ks):=by
  cases d with
  |tup ds=>obtain⟨a,vs,rfl,h1,h2⟩:=aN.mp hd;rw[zu h2 hk] at h1;exact .inr ⟨ws,ks,a,h,rfl,h1,rfl⟩
  |_=>cases hk
def zy(i:Nat):SF:=fun η=>some (.nx (η.set i (some (.ot []))))
theorem Gv{dp:Pos}(hN:X.N.Nodup)(hi:X.N[i]?=some x:=by rfl)(hx:Loc X.env.scope x:=by first|exact Or.inl rfl|exact Or.inr rfl)(hs:swapsWith (.Dict [] [] dp) (some (.Name x pos')) pos.line X.env=pure false:=by rfl)(hf:X.fn x=true∨X.env.scope.names.lookup x=some .local:=by first|exact .inl rfl|exact .inr rfl|assumption):DS X z (.Assign [.Name x pos'] (.Dict [] [] dp) pos) (zy i) :=
  PS.weak (Ds hN hi hx Oa hs hf) fun D σ H ⟨η,F,o,r,e,k⟩=>by
  cases e;intro p hp;have g1:=bA.own r.base hp (.dT []) (sZ _) rfl;exact k _ _ F (r.HQ g1 i (sl:=.ot []) (p:=p) ⟨p,_,rfl,r.mem.ent.free hp,r.base.sub.free hp,aL,[],rfl,.nil⟩ rfl hp) g1.jA
def wI(i:Nat)(fk fd:EF):EF:=fun η=>(dT i η).bind fun aX=>(fk η).bind fun k=>(fd η).bind fun d=>(Mj k).map fun ks=>(wG aX ks).getD d
theorem Gw(hu:X.A.units+1<cLine)(i:Nat){apos j7:Pos}{ek ed:Expr}{fd:EF}(hk:DB X z ek fk)(hd:DE X z ed fd)(hN:X.N[i]?=some x:=by rfl)(hv:FD X.env.scope x:=by first|exact Or.inl rfl|exact Or.inr (Or.inl rfl)|exact Or.inr (Or.inr rfl))(m:M2 X (.Name x px) "get" apos ek ed j7:=by exact⟨rfl,rfl,rfl,rfl⟩)(ti:(x==("__debug__":Str))=false:=by decide)(oA:(x==("__classdict__":Str))=false:=by decide):DE X z (.Call (.Attribute (.Name x px) "get" apos) [ek,ed] [] j7) (wI i fk fd) :=
  PE.weak (Ob hu (kL hN hv ti oA) hk hd m) fun σ H Q ⟨η,F,d,r,e,k⟩=>by
  unfold wI at e;obtain⟨aX,h1,e⟩:=eK.mp e;obtain⟨kd,h2,e⟩:=eK.mp e;obtain⟨d0,h3,e⟩:=eK.mp e;obtain⟨ks,h4,rfl⟩:=g6.mp e;obtain⟨p,ws,a1,a2,a3⟩:=Ki r h1;refine⟨_,a1,p,rfl,.inr ⟨ws,a2⟩,η,F,kd,r,h2,fun y H1 F1 g1 q1=>⟨η,F1,d0,r.grow g1,h3,fun w H2 F2 g2 q2=>?_⟩⟩;have A3:=g1.trans g2;refine⟨_,Kk (F:=F2) (Kj A3.ent a2) (cz g2.ent _ _ q1) h4,k _ H2 F2 A3 ?_⟩;obtain⟨b1,b2⟩:=zx ks (a3.mono A3.jA);cases hv:wG aX ks with
  |none=>rw[b2 hv];exact q2
  |some d'=>obtain⟨v,c1,c2⟩:=b1 d' hv;rw[c1];exact c2
def xG(i:Nat)(fk:EF):EF:=fun η=>(dT i η).bind fun aX=>(fk η).bind fun k=>(Mj k).bind fun ks=>wG aX ks
theorem Kl(hu:X.A.units+1<cLine)(i:Nat){ek:Expr}(hk:DB X z ek fk)(hN:X.N[i]?=some x:=by rfl)(hv:FD X.env.scope x:=by first|exact Or.inl rfl|exact Or.inr (Or.inl rfl)|exact Or.inr (Or.inr rfl))(hs:V6 ek:=by intro _ _;rfl)(ti:(x==("__debug__":Str))=false:=by decide)(oA:(x==("__classdict__":Str))=false:=by decide):DE X z (.Subscript (.Name x px) ek pos) (xG i fk) :=
  PE.weak (Sb hu (kL hN hv ti oA) hk hs) fun σ H Q ⟨η,F,d,r,e,k⟩=>by
  unfold xG at e;obtain⟨aX,h1,e⟩:=eK.mp e;obtain⟨kd,h2,e⟩:=eK.mp e;obtain⟨ks,h4,e⟩:=eK.mp e;obtain⟨p,ws,a1,a2,a3⟩:=Ki r h1;refine⟨_,a1,η,F,kd,r,h2,fun y H1 F1 g1 q1=>?_⟩;obtain⟨v,c1,c2⟩:=(zx ks (a3.mono g1.jA)).1 d e;refine⟨p,v,rfl,?_,k _ H1 F1 g1 c2⟩;rw[←c1];exact Kk (F:=F1) (Kj g1.ent a2) q1 h4
def zz(i:Nat):EF:=fun η=>(dT i η).map fun aX=>.int aX.length
theorem O4(i:Nat)(hg:Gl X "len")(hm:X.mg "len"=none)(hN:X.N[i]?=some x:=by rfl)(hv:FD X.env.scope x:=by first|exact Or.inl rfl|exact Or.inr (Or.inl rfl)|exact Or.inr (Or.inr rfl))(hs:starEach [.Name x px] X.env=(false,eval (.Name x px) X.env)::starEach [] X.env:=by rfl)(ti:(x==("__debug__":Str))=false:=by decide)(oA:(x==("__classdict__":Str))=false:=by decide):DE X z (.Call (.Name "len" p) [.Name x px] [] pos) (zz i) :=
  PE.weak (qR L1 hg hm fJ (fj (kL hN hv ti oA) kM hs) (by decide) (by decide) hs rfl) fun σ H Q ⟨η,F,d,r,e,k⟩=>by
  unfold zz at e;obtain⟨aX,h1,rfl⟩:=g6.mp e;obtain⟨q,ws,a1,a2,a3⟩:=Ki r h1;refine⟨_,a1,q,ws,rfl,a2,k _ H F (bA.refl r.base) (aQ.mpr ?_)⟩;rw[wH a3]
def rB(i:Nat)(fk fv:EF):SF:=fun η=>(fv η).bind fun v=>(fk η).bind fun k=>(Mj k).bind fun ks=>match η[i]? with
  |some (some (.ot aX))=>if aX.length<10000 then some (.nx (η.set i (some (.ot (putD aX ks v))))) else none
  |_=>none
theorem zA(hu:X.A.units+1<cLine)(i:Nat){ek ev:Expr}(hk:DB X z ek fk)(hw:DE X z ev fv)(hN:X.N[i]?=some x:=by rfl)(hv:FD X.env.scope x:=by first|exact Or.inl rfl|exact Or.inr (Or.inl rfl)|exact Or.inr (Or.inr rfl))(hs:swapsWith ev (some (.Subscript (.Name x px) ek pos')) pos.line X.env=pure false:=by rfl)(ti:(x==("__debug__":Str))=false:=by decide)(oA:(x==("__classdict__":Str))=false:=by decide):DS X z (.Assign [.Subscript (.Name x px) ek pos'] ev pos) (rB i fk fv) :=
  PS.weak (Sd hu (kL hN hv ti oA) hk hw hs) fun D σ H ⟨η,F,o,r,e,k⟩=>by
  unfold rB at e;obtain⟨dv,h1,e⟩:=eK.mp e;obtain⟨kd,h2,e⟩:=eK.mp e;obtain⟨ks,h3,e⟩:=eK.mp e;split at e
  · rename_i aX h;by_cases hl:aX.length<10000
    · rw[ay hl] at e;cases e;refine⟨η,F,dv,r,h1,fun v H1 F1 g1 q1=>?_⟩;have r1:=r.grow g1;obtain⟨p,o,a1,a2,a3,a4,ws,rfl,a5⟩:=r1.ownAt h rfl;refine⟨_,a1,η,F1,kd,r1,h2,fun y H2 F2 g2 q2=>?_⟩;have r2:=r1.grow g2;have a4':=g2.ent _ _ a4;have hlw:ws.length<10000:=by rw[←wH a5];exact hl
      cases kd with
      |tup ds=>obtain⟨a,vs,rfl,b1,b2⟩:=aN.mp q2;rw[zu b2 h3] at b1;refine⟨p,_,rfl,N8.t a4' b1 (oP hlw (Bs (cw _))),?_⟩;refine k _ _ F2 (r2.write h rfl a1 ⟨putK ws ks v,rfl,O3 ks (a5.mono g2.jA) (cz g2.jA _ _ q1)⟩ ?_) (g1.jA.trans g2.jA);have:=qU ws ks v;exact oQ this (Bs (by omega))
      |_=>cases h3
    ·rw[aZ hl] at e;cases e
  ·cases e
theorem WM{t:TS}(h:PS X st t):PS X st (fun D σ H=>∃d aX,H d=some (.dT aX)∧∀o,t D σ (upd H d (.t7 o (.dT aX)))):=fun pins s σ H D I ⟨d,aX,hd,k⟩=>by obtain⟨o,_,I2⟩:=I.freeze hd;exact h pins s σ _ D I2 (k o)
def O5(i:Nat)(g:SF):SF:=fun η=>match η[i]? with
  |some (some (.ot aX))=>g (η.set i (some (.ft aX)))
  |_=>none
theorem S4(i:Nat)(h:DS X z st g):DS X z st (O5 i g):=PS.weak (WM h) fun D σ H ⟨η,F,o,r,e,k⟩=>by
  unfold O5 at e;split at e
  ·rename_i aX hh;obtain⟨p,o',a1,a2,a3,a4,ws,rfl,a5⟩:=r.ownAt hh rfl;refine⟨p,ws,a4,fun ob=>?_⟩;have Hr:cF F (upd F p (.t7 ob (.dT ws))):=fq a3 _;obtain⟨r1,s1⟩:=r.J4 (sl':=.ft aX) (o':=.t7 ob (.dT ws)) hh rfl a1 (show tN (.dT ws) from r.base.Fp _ _ a4) rfl rfl ⟨p,ob,ws,rfl,aL,a5.mono Hr⟩;exact⟨_,_,o,r1,e,k.mono s1⟩
  ·cases e
theorem O6{l:Expr}{tl:TE}(hl:PE X l tl):PI X (.Name x px) l (fun σ H R=>tl σ H fun v H1=>∃d o aX,v=.ref d∧H1 d=some (.t7 o (.dT aX))∧R (Itd d o aX) H1):=by
  intro pins s σ H R I h;refine gx (hl pins s σ H _ I h) fun v s1 ⟨x,H1,I1,r1,q1⟩=>?_;obtain⟨d,o,aX,e,hd,q⟩:=q1;subst e;cases r1;obtain⟨h0,z,y,xs,r,o',es,ep,h1,h2,h3,h4,h5⟩:=(show cx X.prog X.w H1 s1.heap d (.t7 o (.dT aX)) from I1.cZ d _ hd)
  rw[h1] at h0;cases h0;have hn:es.size=aX.length:=by have e1:=il List.length h4;rw[g9,ou] at e1;rw[e1,wd r]
  refine qB y ⟨_,h1,h2,h3⟩ ?_;refine⟨s1.heap.objs.size,[s1.heap.objs.size],_,_,_,rfl,I1.kept (t':=s1.toks) fun b o e=>eu _ e,L0 d _ _ aX es ep h2 h3 hn,⟨_,iu _ rfl,rfl,rfl⟩,fun b hb=>?_,q⟩;have e:b=s1.heap.objs.size:=by simpa using hb
  subst e;exact I1.Bh (cw _) (I1.cZ.fresh (cw _))
def Eb(i:Nat):LF:=fun η=>match η[i]? with
  |some (some (.ft aX))=>some (aX.map fun kv=>.tup (kv.1.map Ml))
  |_=>none
theorem O7(i:Nat){y:Str}{py:Pos}(hN:X.N[i]?=some x:=by rfl)(hv:FD X.env.scope x:=by first|exact Or.inl rfl|exact Or.inr (Or.inl rfl)|exact Or.inr (Or.inr rfl))(ti:(x==("__debug__":Str))=false:=by decide)(oA:(x==("__classdict__":Str))=false:=by decide):DI X z (.Name y py) (.Name x px) true (Eb i):=PI.weak (O6 (kL hN hv ti oA)) fun σ H R ⟨η,F,ds,r,e,k⟩=>by
  unfold Eb at e;split at e
  · rename_i aX h;cases e;obtain⟨v,a1,p,ob,ws,rfl,a4,a5⟩:=r.at_ i _ h;refine⟨_,a1,p,ob,ws,rfl,r.base.sub _ _ a4,k _ H F (bA.refl r.base) ?_⟩;have ll:=wH a5;have hw:ws.length≤sizeLine:=show tN (.t7 ob (.dT ws)) from r.base.Fp _ _ (r.base.sub _ _ a4)
    refine⟨fun F' H' s g i hi=>⟨g.base.sub _ _ (s _ _ a4),by rw[←ll];simpa using hi⟩,fun F' H' s g i d x Nv e y=>?_,fun F' H' s g=>⟨g.base.sub _ _ (s _ _ a4),by rw[g9,ll];exact cw _⟩,by rw[g9,ll];exact hw⟩;obtain⟨rfl,kk,v,b,h1,rfl,h2⟩:=y;refine⟨F',bA.refl g.base,?_⟩;rw[qH] at e;obtain⟨kv,e1,rfl⟩:=g6.mp e;obtain⟨q,hq,hkv⟩:=sD a5 e1;rw[h1] at hq;cases hq;have hk:kv.1=kk:=hkv.1;rw[hk];exact aN.mpr ⟨b,_,rfl,g.base.tup _ _ h2 rfl,zv _⟩
  ·cases e
end
end DL
namespace DL
open PySem L2
theorem acu{base:Heap}{f:Addr}{ps:gs}{ms:List Bool}:cG P w K mg base i9 k f fd ps (cK K ms (fun _=>none)) where
  len:=fun vs H Q E h=>by obtain⟨F,ds,r,_,_,e,_⟩:=h;cases e
  run:=fun A outer s H args us vs Q E hr he hb hv hs=>by obtain⟨F,ds,r,_,_,e,_⟩:=hs;cases e
theorem mq(i j:Int):ml (.int i) (.int j)=some (.int (i+j)):=rfl
theorem Ie(i j:Int):HV (.int i) (.int j)=some (.int (i-j)):=rfl
theorem O8{i j:Int}(h:mulC i j=true):uV (.int i) (.int j)=some (.int (i*j)):=ay h
theorem div_ii{i j:Int}(h:divC i j=true):L9 (.int i) (.int j)=some (.int (i / j)):=ay h
theorem mv{i j:Int}(h:qJ i j=true):oB (.int i) (.int j)=some (.int (i%j)):=ay h
theorem WN{i j:Int}(h:powC i j=true):Wv (.int i) (.int j)=some (.int (i^j.toNat)):=ay h
theorem WO{i j:Int}(h:powC i j=true):Ww (.int i) (.int j)=some (.int (i*2^j.toNat)):=ay h
theorem tR(i j:Int):HW (.int i) (.int j)=some (.bl (decide (i<j))):=rfl
theorem u6(i j:Int):Nu (.int i) (.int j)=some (.bl (decide (j<i))):=rfl
theorem UR(i j:Int):Zt (.int i) (.int j)=some (.bl (decide (j≤i))):=rfl
theorem S5(ds:dm)(i:Int):iY (.lst ds) (.int i)=qA ds i:=rfl
theorem Ig(ds:dm)(i:Int):iY (.tup ds) (.int i)=qA ds i:=rfl
theorem Ih{i j:Int}(h1:-(2^64)<j)(h2:j<2^64):mulC i j=true:=by unfold mulC;exact nF (.inr ⟨h1,h2⟩)
theorem Ii{i j:Int}(h1:-(2^64)<i)(h2:i<2^64):mulC i j=true:=by unfold mulC;exact nF (.inl ⟨h1,h2⟩)
theorem Ec{i j:Int}(h:0<j):qJ i j=true:=by unfold qJ;exact nF h
theorem yz{n:Int}{S:D}(h:dh S=some (ms.map D.int)):inD false (.int n) S=some (.bl (ms.contains n)):=by unfold inD;rw[h];simp only[Nt,bI,wA,dI];rw[yX];rfl
theorem rC{n:Int}{S:D}(h:dh S=some (ms.map D.int)):inD true (.int n) S=some (.bl (!ms.contains n)):=by unfold inD;rw[h];simp only[Nt,bI,wA,dI];rw[yX];rfl
theorem aE{g1 g2:SF}{η':cP}(h:g1 η=some (.nx η')):bw g1 g2 η=g2 η':=by unfold bw;rw[h];rfl
theorem ue{g1 g2:SF}{r:Slot}(h:g1 η=some (.rt r)):bw g1 g2 η=some (.rt r):=by unfold bw;rw[h];rfl
theorem bF{f:EF}(h:f η=some d):cq i f η=some (.nx (η.set i (some (.sh d)))):=by unfold cq;rw[h];rfl
theorem sO{f:LF}{d:dm}(h:f η=some d):qC i f η=some (.nx (η.set i (some (.ol d)))):=by unfold qC;rw[h];rfl
theorem ke{f:EF}(h:f η=some d):dW f η=some (.rt (.sh d)):=by unfold dW;rw[h];rfl
theorem fT{f:LF}{d:dm}(h:f η=some d):kI f η=some (.rt (.ol d)):=by unfold kI;rw[h];rfl
theorem rD{t:TF}{g1 g2:SF}(h:t η=some true):pX t g1 g2 η=g1 η:=by unfold pX;rw[h];rfl
theorem lS{t:TF}{g1 g2:SF}(h:t η=some false):pX t g1 g2 η=g2 η:=by unfold pX;rw[h];rfl
theorem fL{l:LF}{b:BF}{g:SF}{ds:dm}(h:l η=some ds):kT l b g η=ip b g ds η:=by unfold kT;rw[h];rfl
theorem cC{ms:List Bool}{g:SF}{ds:dm}{r:Slot}(h:g (eS n ms ds)=some (.rt r)):jB n ms g ds=some r:=by unfold jB;rw[h]
theorem S6(ns:aO)(lo hi:Option Int):cutD (ns.map D.int) lo hi=((ns.drop (HT.uB ns.length 0 lo)).take (HT.uB ns.length ns.length hi-HT.uB ns.length 0 lo)).map D.int:=by unfold cutD;rw[g9,←List.map_drop,←List.map_take]
theorem zB{b:BF}{g:SF}(P:Nat→cP→Prop):∀{ds:dm} {η:cP} (n:Nat),P n η→(∀(i:Nat) d η,ds[i]?=some d→P (n+i) η→∃η1 η2,b d η=some η1∧(g η1=some (.nx η2)∨g η1=some (.ct η2))∧P (n+i+1) η2)→∃η',ip b g ds η=some (.nx η')∧P (n+ds.length) η'
  |[],η,n,h0,_=>⟨η,rfl,h0⟩
  |d::ds,η,n,h0,hs=>by
   obtain⟨η1,η2,h1,h2,h3⟩:=hs 0 d η rfl h0;obtain⟨η',h4,h5⟩:=zB P (ds:=ds) (η:=η2) (n+1) h3 (fun i d η hd hp=>by
     have e:n+1+i=n+(i+1):=by omega
     rw[e] at hp⊢;exact hs (i+1) d η (by simpa using hd) hp)
   refine⟨η',?_,by rw[mU,show n+(ds.length+1)=n+1+ds.length by omega];exact h5⟩;unfold ip;rw[h1];rcases h2 with h2|h2<;>(simp only[bI,h2];exact h4)
theorem kU{α β:Type}{b:BF}{g:SF}(q:α→D)(E:β→cP→Prop)(step:β→α→β):∀{xs:List α} {η:cP} (s:β),E s η→(∀x∈xs,∀s η,E s η→∃η1 η2,b (q x) η=some η1∧g η1=some (.nx η2)∧E (step s x) η2)→∃η',ip b g (xs.map q) η=some (.nx η')∧E (xs.foldl step s) η'
  |[],η,s,h0,_=>⟨η,rfl,h0⟩
  |x::xs,η,s,h0,hs=>by obtain⟨η1,η2,h1,h2,h3⟩:=hs x cY s η h0;obtain⟨η',h4,h5⟩:=kU q E step (xs:=xs) (η:=η2) (step s x) h3 (fun y hy=>hs y (ly _ hy));refine⟨η',?_,h5⟩;rw[bY];unfold ip;rw[h1];simp only[bI,h2];exact h4
theorem kW{α β:Type}{b:BF}{g:SF}(q:α→D)(E:Nat→β→cP→Prop)(step:β→α→β):∀{xs:List α} {η:cP} (n:Nat) (s:β),E n s η→(∀(i:Nat) x s η,xs[i]?=some x→E (n+i) s η→∃η1 η2,b (q x) η=some η1∧g η1=some (.nx η2)∧E (n+i+1) (step s x) η2)→∃η',ip b g (xs.map q) η=some (.nx η')∧E (n+xs.length) (xs.foldl step s) η'
  |[],η,n,s,h0,_=>⟨η,rfl,h0⟩
  |x::xs,η,n,s,h0,hs=>by
   obtain⟨η1,η2,h1,h2,h3⟩:=hs 0 x s η rfl h0;obtain⟨η',h4,h5⟩:=kW q E step (xs:=xs) (η:=η2) (n+1) (step s x) h3 (fun i y s η hy he=>by
     have e:n+1+i=n+(i+1):=by omega
     rw[e] at he⊢;exact hs (i+1) y s η (by simpa using hy) he)
   refine⟨η',?_,by rw[mU,xW,show n+(xs.length+1)=n+1+xs.length by omega];exact h5⟩;rw[bY];unfold ip;rw[h1];simp only[bI,h2];exact h4
theorem p8{α:Type}{b:BF}{g:SF}(q:α→D)(P:cP→Prop)(stop:α→eP):∀{xs:List α} {η:cP},P η→(∀x∈xs,∀η,P η→∃η1,b (q x) η=some η1∧((∃r,stop x=some r∧g η1=some (.rt r))∨(stop x=none∧∃η2,g η1=some (.nx η2)∧P η2)))→(∃r,xs.findSome? stop=some r∧ip b g (xs.map q) η=some (.rt r))∨(xs.findSome? stop=none∧∃η',ip b g (xs.map q) η=some (.nx η')∧P η')
  |[],η,h0,_=>.inr ⟨rfl,η,rfl,h0⟩
  |x::xs,η,h0,hs=>by
   obtain⟨η1,h1,h2⟩:=hs x cY η h0;rcases h2 with⟨r,h3,h4⟩|⟨h3,η2,h4,h5⟩
   ·refine .inl ⟨r,by rw[List.findSome?_cons,h3],?_⟩;rw[bY];unfold ip;rw[h1];simp only[bI,h4]
   · have ih:=p8 q P stop (xs:=xs) (η:=η2) h5 (fun y hy=>hs y (ly _ hy));have e:ip b g ((x::xs).map q) η=ip b g (xs.map q) η2:=by
       rw[bY];conv=>lhs;unfold ip
       rw[h1];simp only[bI,h4]
     rw[List.findSome?_cons,h3,e];exact ih
theorem dw{α:Type}{b:BF}{t:TF}{f:EF}{η:cP}(q:α→D)(p:α→Bool)(h:α→D):∀{xs:List α},(∀x∈xs,∃η1,b (q x) η=some η1∧t η1=some (p x)∧(p x=true→f η1=some (h x)))→cE b t f (xs.map q) η=some ((xs.filter p).map h)
  |[],_=>rfl
  |x::xs,hs=>by
   obtain⟨η1,h1,h2,h3⟩:=hs x cY;have ih:=dw q p h (xs:=xs) (fun y hy=>hs y (ly _ hy));rw[bY];unfold cE;rw[h1];simp only[bI,h2];cases hp:p x with
   |true=>rw[ay rfl,h3 hp,ih,Dm,ay hp];rfl
   |false=>rw[aZ (by simp),ih,Dm,aZ (by simp[hp])]
theorem eX{α:Type}{b:BF}{t:TF}{f:EF}(q:α→D)(h:α→D){xs:List α}(hs:∀x∈xs,∃η1,b (q x) η=some η1∧t η1=some true∧f η1=some (h x)):cE b t f (xs.map q) η=some (xs.map h):=by
  have:=dw (b:=b) (t:=t) (f:=f) (η:=η) q (fun _=>true) h (xs:=xs) (fun x hx=>by
    obtain⟨η1,h1,h2,h3⟩:=hs x hx;exact⟨η1,h1,h2,fun _=>h3⟩)
  rw[this,List.filter_eq_self.mpr (fun _ _=>rfl)]
theorem jC(lo:Int)(n:Nat):dk lo n=((List.range n).map fun(i:Nat)=>lo+(i:Int)).map D.int:=by unfold dk;rw[e9];rfl
theorem Ed:∀(ds:dm) (n:Nat),D.OQ ds n=ds.all fun d=>d.iq n
  |[],n=>by rw[D.OQ];rfl
  |d::ds,n=>by rw[D.OQ,Ed ds n,mX]
theorem wJ(ds:dm)(n:Nat):(D.tup ds).iq (n+1)=ds.all fun d=>d.iq n:=by rw[D.iq,Ed]
theorem zC(ds:dm)(n:Nat):(D.lst ds).iq (n+1)=ds.all fun d=>d.iq n:=by rw[D.iq,Ed]
theorem zD(i:Int)(n:Nat):(D.int i).iq n=true:=by rw[D.iq]
theorem S7(ns:aO)(n:Nat):(ns.map D.int).all (fun d=>d.iq n)=true:=by rw[List.all_map,iK];exact fun i _=>zD i n
theorem Gx{ds:dm}(h:(D.lst ds).iq 8=true):qK (.lst ds) (.lst ds)=some (.bl false):=by unfold qK;rw[aZ (by simp[Ib,Nt]),ay (by simp[Mb,h]),u0 _ 8 h];rfl
theorem jl(a b:Int):m5 (.int a) (.int b)=some (.bl (a==b)):=by unfold m5;rw[ay (by rfl),fS]
theorem Ee(a b:Int):qK (.int a) (.int b)=some (.bl (!(a==b))):=by unfold qK;rw[ay (by rfl),fS]
theorem WQ(a b:Bool):qK (.bl a) (.bl b)=some (.bl (!(a==b))):=by unfold qK;rw[ay (by rfl),fS]
end DL
namespace DL
open PySem PySem.Spec L2
open PyProof.Rows hiding St pairAt
section
variable {X:Cx} {z:Zc} {e a b:Expr} {f fa fb fk fv:EF} {fl fs:LF} {pos p:Pos} {g:SF} {st:Stmt} {es:List Expr} {ms:List Bool}
def Km(i:Nat)(fs:LF):SF:=fun η=>(fs η).bind fun rest=>match η[i]? with
  |some (some (.ol ds))=>if rest.length≤1000 then some (.rt (.pr ds rest)) else none
  |_=>none
theorem S8(i:Nat){x1}{tp:Pos}(h:DM X z es (List.replicate n true) fs)(hN:X.N[i]?=some x:=by rfl)(hv:FD X.env.scope x:=by first|exact Or.inl rfl|exact Or.inr (Or.inl rfl)|exact Or.inr (Or.inr rfl))(hd:(x==("__debug__":Str))=false:=by decide)(oA:(x==("__classdict__":Str))=false:=by decide)(hs:starEach (.Name x px::es) X.env=(false,eval (.Name x px) X.env)::starEach es X.env:=by rfl):DS X z (.Return (some (.Tuple (.Name x px::es) x1 tp)) pos) (Km i fs) :=
  PS.weak (yJ (NT (fj (kL hN hv hd oA) h hs))) fun D σ H ⟨η,F,o,r,e,k⟩=>by
  unfold Km at e;obtain⟨rest,h1,e⟩:=eK.mp e;split at e
  · rename_i ds hh;by_cases hl:rest.length≤1000
    · rw[ay hl] at e;cases e;obtain⟨q,o,a1,a2,a3,a4,vs,rfl,a5⟩:=r.ownAt hh rfl;refine⟨_,a1,η,F,rest,r,h1,fun ws H' F' g1 qa=>?_⟩;have qa:=sJ qa;have hz:(V.ref q::ws).length≤sizeLine:=by rw[mU,←bu qa];exact Bs (by omega)
      refine⟨hz,fun t ht=>?_⟩;have g2:=bA.put g1.base ht (.tup (.ref q::ws)) hz;have A3:=g1.trans g2;have hE:q≠t:=fun e=>by rw[←e,g1.ent _ _ a4] at ht;cases ht
      refine k t q vs ws _ _ (r.mem.trans A3) a2 ?_ (A3.ent _ _ a4) (bD A3.jA _ _ a5) aL (bD g2.jA _ _ qa);exact Ce (K:=X.K) A3 a3 a4 rfl
    ·rw[aZ hl] at e;cases e
  ·cases e
end
section
variable {X:Cx} {z:Zc} {e a b:Expr} {f fa fb fk fv:EF} {fl fs:LF} {pos p:Pos} {g:SF} {st:Stmt} {es:List Expr} {ms:List Bool}
def Mm:SF:=fun _=>none
theorem zF:DS X z st Mm:=PS.weak (t:=fun _ _ _=>False) (fun _ _ _ _ _ _ q=>q.elim) fun D σ H ⟨η,F,o,r,e,k⟩=>by cases e
def O9(i:Nat):SF:=fun η=>match η[i]? with
  |some (some (.ot aX))=>some (.rt (.ot aX))
  |_=>none
theorem S9(i:Nat)(hN:X.N[i]?=some x:=by rfl)(hv:FD X.env.scope x:=by first|exact Or.inl rfl|exact Or.inr (Or.inl rfl)|exact Or.inr (Or.inr rfl))(hd:(x==("__debug__":Str))=false:=by decide)(oA:(x==("__classdict__":Str))=false:=by decide):DS X z (.Return (some (.Name x px)) pos) (O9 i) :=
  PS.weak (yJ (kL hN hv hd oA)) fun D σ H ⟨η,F,o,r,e,k⟩=>by
  unfold O9 at e;split at e
  ·rename_i aX hh;cases e;obtain⟨q,o,a1,a2,a3,a4,ws,rfl,a5⟩:=r.ownAt hh rfl;exact⟨_,a1,k q ws _ _ r.mem a2 a3 a4 a5⟩
  ·cases e
def Kn(i:Nat)(Fn:dm→eP)(fs:LF):SF:=fun η=>(fs η).bind fun ds=>(Fn ds).bind fun r=>match r with
  |.ot aX=>some (.nx (η.set i (some (.ot aX))))
  |_=>none
theorem Ta{y:Str}{ap:Pos}{ps:gs}(hNd:X.N.Nodup)(C:fW X.prog X.w X.K X.mg X.base k fn ps (cK X.K ms Fn))(hr:fI k X.A)(hg:Gl X y)(hm:X.mg y=some (.ref fn))(ha:DM X z (e::es) ms fs)(ti:(y==("__debug__":Str))=false:=by decide)(he:starEach (e::es) X.env=(false,eval e X.env)::starEach es X.env:=by rfl)(tj:(backTo pos (starEach es X.env)).any (·.1)=false:=by rfl)(hi:X.N[i]?=some x:=by rfl)(hx:Loc X.env.scope x:=by first|exact Or.inl rfl|exact Or.inr rfl)(hs:swapsWith (.Call (.Name y p) (e::es) [] pos) (some (.Name x pos')) ap.line X.env=pure false:=by rfl)(hf:X.fn x=true∨X.env.scope.names.lookup x=some .local:=by first|exact .inl rfl|exact .inr rfl|assumption):DS X z (.Assign [.Name x pos'] (.Call (.Name y p) (e::es) [] pos) ap) (Kn i Fn fs) :=
  PS.weak (Ds hNd hi hx (DR C hr hg hm ha ti he tj) hs hf) fun D σ H ⟨η,F,o,r,e,k⟩=>by
  unfold Kn at e;obtain⟨ds,h1,h⟩:=eK.mp e;obtain⟨s,h2,h⟩:=eK.mp h;refine⟨η,F,ds,r,h1,fun vs H1 F1 g1 q1=>?_⟩;show cK X.K ms Fn (vs++[]) H1 _ E0;rw[uE];refine⟨F1,ds,s,g1.base,q1,h2,?_⟩;cases s with
  |ot aX=>cases h;intro q ws H' F' g2 hp hF hH hd;have A3:=g1.trans g2;have hp0:=g1.ent.free hp;have ho:eD X.K F' (.ref q) (.ot aX) q:=(rh rfl).mpr rfl;exact k _ _ _ (r.HQ A3 i (p:=q) ⟨q,_,ho,r.mem.ent.free hp0,hF,hH,ws,rfl,hd⟩ ho hp0) A3.jA
  |_=>cases h
end
end DL
namespace NS
open PySem PySem.Spec
def tb(led:Bool)(S:List Nat):SetTable:={ mask:=if S.length<5 then 7 else 31,place:=S.toArray,dummies:=#[],finger:=0,led:=led,moves:=if S.length<5 then 0 else 1,plain:=true }
def tp(led:Bool)(S T:List Nat):SetTable:={ mask:=if S.length<5 then 7 else 31,place:=T.toArray,dummies:=#[],finger:=0,led:=led,moves:=if S.length<5 then 0 else 1,plain:=true }
def subs:List (List Nat):=(List.range 64).map fun m=>(List.range 6).filter fun k=>m.testBit k
def ins(S:List Nat)(k:Nat):List Nat:=S.filter (·<k)++k::S.filter (k<·)
def lo(S:List Nat)(k:Nat):Nat:=(S.filter (·<k)).length
def ck1:Bool:=[true,false].all fun led=>subs.all fun S=>(List.range 6).all fun k=>S.contains k ||
  (((tb led S).freeSlot (k:Int)==some (k,false))&&decide ((tb led S).put k=(tp led S (ins S k),lo S k))&&(tp led S (ins S k)).fits (S.length+1)
    && ((tp led S (ins S k)).tooFull==(S.length==4))&&subs.contains (ins S k)&&((ins S k).length==S.length+1)&&(lo S k≤S.length))
theorem Pa:ck1=true:=by decide +kernel
def ck2:Bool:=[true,false].all fun led=>subs.all fun S=>(List.range 6).all fun k=>S.contains k||S.length != 4 ||
  (decide ((tp led S (ins S k)).relaid (((ins S k).map fun(i:Nat)=>(i:Int)).toArray) (SetTable.grown 5)=some (tb led (ins S k),(List.range 5).toArray))&&(tb led (ins S k)).fits 5)
theorem Pb:ck2=true:=by decide +kernel
def ck3:Bool:=[true,false].all fun led=>subs.all fun S=>(List.range 7).all fun i=>i>S.length ||
  (SetTable.below (tb led S).place (if i=0 then 0 else S.getD (i-1) 0+1)==i)
theorem Pg:ck3=true:=by decide +kernel
end NS
namespace NS
open PySem PySem.Spec PySem.Calls
open PyProof.Rows hiding St pairAt
def ck4:Bool:=subs.all fun S=>(List.range 6).all fun k=>S.contains k||(S.take (lo S k)++k::S.drop (lo S k)==ins S k)
theorem Ph:ck4=true:=by decide +kernel
def ck5:Bool:=(List.range 6).all fun k=>hashInt (k:Int)==(k:Int)
theorem Pj:ck5=true:=by decide +kernel
theorem zG(h:k<6):hashInt (k:Int)=(k:Int):=eq_of_beq (iK.mp Pj k (mW.mpr h))
def ck6:Bool:=[true,false].all fun led=>subs.all fun S=>(tb led S).fits S.length&&S.length≤6&&S.all (·<6)&&decide S.Nodup
theorem Pk:ck6=true:=by decide +kernel
theorem yA(led:Bool):led∈[true,false]:=by cases led<;>simp
theorem pM(h:S∈subs):(tb led S).fits S.length=true∧S.length≤6∧(∀k∈S,k<6)∧S.Nodup:=by have:=iK.mp (iK.mp Pk led (yA led)) S h;simp only[t6,A8,iK] at this;exact⟨this.1.1.1,this.1.1.2,this.1.2,this.2⟩
theorem Mp(h:S∈subs)(hk:k<6)(hn:S.contains k=false):(tb led S).freeSlot (k:Int)=some (k,false)∧(tb led S).put k=(tp led S (ins S k),lo S k)∧(tp led S (ins S k)).fits (S.length+1)=true∧(tp led S (ins S k)).tooFull=(S.length==4)∧ins S k∈subs∧(ins S k).length=S.length+1∧lo S k≤S.length:=by
  have:=iK.mp (iK.mp (iK.mp Pa led (yA led)) S h) k (mW.mpr hk);rw[hn,Bool.false_or] at this;simp only[t6,A8,beq_iff_eq,yF] at this;obtain⟨⟨⟨⟨⟨⟨h1,h2⟩,h3⟩,h4⟩,h5⟩,h6⟩,h7⟩:=this;exact⟨h1,h2,h3,h4,h5,h6,h7⟩
theorem Gy(h:S∈subs)(hk:k<6)(hn:S.contains k=false)(h4:S.length=4):(tp led S (ins S k)).relaid (((ins S k).map fun(i:Nat)=>(i:Int)).toArray) (SetTable.grown 5)=some (tb led (ins S k),(List.range 5).toArray)∧(tb led (ins S k)).fits 5=true:=by
  have:=iK.mp (iK.mp (iK.mp Pb led (yA led)) S h) k (mW.mpr hk);rw[hn,h4] at this;simpa using this
theorem WR(h:S∈subs)(hk:k<6)(hn:S.contains k=false):S.take (lo S k)++k::S.drop (lo S k)=ins S k:=by have:=iK.mp (iK.mp Ph S h) k (mW.mpr hk);rw[hn,Bool.false_or] at this;exact eq_of_beq this
def Ent(l:List (Int×Value))(S:List Nat):Prop:=Paired (fun e (k:Nat)=>∃t,e=((k:Int),Value.int (k:Int) t)) l S
theorem Ent.len(h:Ent l S):l.length=S.length:=wd h
theorem Ent.ins{x:Int×Value}{k:Nat}(hx:∃t,x=((k:Int),Value.int (k:Int) t)):∀{l:List (Int×Value)} {S:List Nat} (n:Nat),Ent l S→Ent (l.take n++x::l.drop n) (S.take n++k::S.drop n)
  |_,_,0,h=>.cons hx h
  |_,_,n+1,.nil=>.cons hx .nil
  |_,_,n+1,.cons h r=>.cons h (Ent.ins hx n r)
theorem Ent.fst(h:Ent l S):l.map (·.1)=S.map fun(i:Nat)=>(i:Int):=by
  induction h with
  |nil=>rfl
  |cons a r ih=>obtain⟨t,rfl⟩:=a;simp[ih]
theorem Ent.mem(h:Ent l S):∀e∈l,∃(k:Nat) (t:Tok),k∈S∧e=((k:Int),Value.int (k:Int) t):=by
  induction h with
  |nil=>intro e he;cases he
  |cons a r ih =>
   intro e he;rcases fR.mp he with rfl|he
   ·obtain⟨t,q⟩:=a;exact⟨_,t,cY,q⟩
   ·obtain⟨k,t,h1,h2⟩:=ih e he;exact⟨k,t,ly _ h1,h2⟩
theorem Ent.acv(h:Ent l S):∀k∈S,∃t:Tok,((k:Int),Value.int (k:Int) t)∈l:=by
  induction h with
  |nil=>intro e he;cases he
  |cons a r ih =>
   intro k he;rcases fR.mp he with rfl|he
   ·obtain⟨t,q⟩:=a;exact⟨t,q▸cY⟩
   ·obtain⟨t,h1⟩:=ih k he;exact⟨t,ly _ h1⟩
def SN(h:Heap)(a:Addr)(led:Bool)(S:List Nat):Prop:=S∈subs∧∃es ep,h.get? a=some { cls:=.type "set",dict:=none,data:=.set es ep (tb led S) }∧Ent es.toList S
section
variable {prog:Program} {w:World} {A:Around} {E:nD} {s:Shared} {a:Addr}
theorem WT{t:Tok}{Q:Bool→Shared→Prop}(hk:k<6)(hS:SN s.heap a led S)(h:∀h',Heap.SameBut a s.heap h'→SN h' a led (if S.contains k=true then S else ins S k)→∀b,Q b { s with heap:=h' }):wpAny (model prog w) A (setAddHashed a (.int (k:Int) t) (hashInt (k:Int))) Q E s:=by
  obtain⟨hs,es,ep,ho,he⟩:=hS;have hlen:es.size=S.length:=by rw[←ou];exact he.len
  obtain⟨hf,h6,tq,A1⟩:=pM (led:=led) hs;have Nw:(tb led S).fits es.size=true:=by rw[hlen];exact hf
  have hb:es.size<scanBound:=by rw[hlen];unfold scanBound;omega
  have hel:ElemsOf (intKind prog w) es.toList:=fun e q=>by obtain⟨k',t',h1,rfl⟩:=he.mem e q;exact⟨⟨(k':Int),intKind_is _ _ _ _,(zG (tq k' h1)).symm⟩,rfl⟩
  have VR:(intKind prog w).is (k:Int) (.int (k:Int) t)=true:=intKind_is _ _ _ _;unfold setAddHashed setAddHashedIn;refine wc (bh (wpAny_setState_of ho rfl Nw ?_));dsimp only;rw[byScan_of (knd:=intKind prog w) (x:=.int (k:Int) t) rfl hb hel];simp only[↓reduceIte];unfold setAddByScan;refine bh ?_;refine bh (wpAny_rule ?_);refine bh (wpAny_setScan_of (knd:=intKind prog w) VR ho rfl Nw hel ?_);cases hr:List.findIdx? (fun e=>(intKind prog w).is (k:Int) e.2) es.toList with
  |some j =>
   dsimp only;obtain⟨hj,hpj,_⟩:=List.findIdx?_eq_some_iff_getElem.mp hr;obtain⟨k',t',h1,h2⟩:=he.mem _ (List.getElem_mem hj);rw[h2] at hpj;have hkk:k=k':=by have XX:Value.isInt (k:Int) (Value.int (k':Int) t')=true:=hpj;simp[Value.isInt] at XX;omega
   have hc:S.contains k=true:=by rw[hkk];exact yF.mpr h1
   refine cX (cX ?_);have:=h s.heap (Heap.SameBut.refl a s.heap) (by rw[ay hc];exact⟨hs,es,ep,ho,he⟩) false;exact this
  |none =>
   dsimp only;have hc:S.contains k=false:=by
     cases hc:S.contains k with
     |false=>rfl
     |true=>obtain⟨t',q⟩:=he.acv k (yF.mp hc);have:=List.findIdx?_eq_none_iff.mp hr _ q;rw[intKind_is] at this;cases this
   rw[aZ (by rw[hc];exact jx)] at h;obtain⟨l1,l2,l3,l4,l5,l6,l7⟩:=Mp (led:=led) hs hk hc;have UH:(SetTable.insertAt es (lo S k) ((k:Int),Value.int (k:Int) t)).size=S.length+1:=by rw[←ou,SetTable.toList_insertAt];have h1:=he.len;rw[kK,mU,Dl,List.length_drop,h1];omega
   have hL:layNew (tb led S) es (hashInt (k:Int)) (.int (k:Int) t)=(SetTable.insertAt es (lo S k) ((k:Int),Value.int (k:Int) t),tp led S (ins S k),false,false):=by unfold layNew;rw[zG hk,l1];dsimp only;rw[l2];dsimp only;unfold SetTable.orStandIn;rw[UH,l3];rfl
   rw[hL];dsimp only;have he1:Ent (SetTable.insertAt es (lo S k) ((k:Int),Value.int (k:Int) t)).toList (ins S k):=by rw[SetTable.toList_insertAt,←WR hs hk hc];exact Ent.ins ⟨t,rfl⟩ _ he
   generalize SetTable.insertAt es (lo S k) ((k:Int),Value.int (k:Int) t)=Ko at UH he1⊢;refine bh (cX ?_);refine bh ?_;rw[hashByValue_scannable 8 rfl];refine cX ?_;rw[show plainKind (Value.int (k:Int) t)=true from rfl];simp only[↓reduceIte,Bool.not_false,Bool.true_and];have hz:Ko.size≤sizeLine:=by rw[UH,jc];omega
   refine bh (wpAny_storeSet_of ho rfl ?_ hz);have WU:=v7 s.heap a (Obj.putSet Ko (tp led S (ins S k)));have Rr:(s.heap.update a (Obj.putSet Ko (tp led S (ins S k)))).get? a=some { cls:=.type "set",dict:=none,data:=.set Ko (ep+1) (tp led S (ins S k)) }:=by exact A7 _ ho rfl
   rw[l4];by_cases h4:S.length=4
   · rw[ay (by rw[h4];rfl)];obtain⟨r1,r2⟩:=Gy (led:=led) hs hk hc h4;have h5:Ko.size=5:=by omega
     have hm:Ko.map (·.1)=((ins S k).map fun(i:Nat)=>(i:Int)).toArray:=by rw[←he1.fst,←Array.toList_map]
     have hR:relayAll (tp led S (ins S k)) Ko (SetTable.grown Ko.size)=(Ko,tb led (ins S k),false):=by
       unfold relayAll;rw[h5,hm,r1];dsimp only;have hfm:(List.range 5).toArray.filterMap (Ko[·]?)=Ko:=by have:=filterMap_getElem?_range Ko;rw[h5] at this;rw[List.filterMap_toArray,this]
       rw[hfm,h5,r2];rfl
     rw[hR];dsimp only;refine bh (cX ?_);refine bh (wpAny_storeSet_of Rr rfl ?_ hz);refine cX (cX (h _ (WU.trans (v7 _ a _)) ⟨l5,Ko,ep+1+1,?_,he1⟩ _));exact A7 _ Rr rfl
   · rw[aZ (by simpa using h4)];have e:tp led S (ins S k)=tb led (ins S k):=by
       unfold tp tb;rw[l6];by_cases h5:S.length<5
       ·rw[ay h5,ay (by omega:S.length+1<5),ay h5,ay (by omega:S.length+1<5)]
       ·rw[aZ h5,aZ (by omega:¬ S.length+1<5),aZ h5,aZ (by omega:¬ S.length+1<5)]
     rw[e] at Rr WU⊢;exact cX (cX (h _ WU ⟨l5,Ko,ep+1,Rr,he1⟩ _))
end
def Mq(val:Nat→Nat):Nat→List Nat
  |0=>[]
  |i+1=>if (Mq val i).contains (val i)=true then Mq val i else ins (Mq val i) (val i)
def Cq(w:World):Bool:=w.params.followText "set-order"
section
variable {prog:Program} {w:World} {A:Around} {R:Result→Shared→Prop} {I:Addr} {fp wr:List Addr} {G:Array GenState→Array GenState→Prop} {n:Nat} {P:Nat→Value→Prop} {St:Nat→Shared→Prop}
theorem SN.kept(x:SN h a led S)(k:∀o,h.get? a=some o→h'.get? a=some o):SN h' a led S:=by obtain⟨h1,es,ep,ho,he⟩:=x;exact⟨h1,es,ep,k _ ho,he⟩
theorem Tb(W:WalksS prog w A.in1 I fp wr G n P St)(S:Addr)(WV:S∉fp)(led:Bool)(val:Nat→Nat)(WW:∀i v,P i v→val i<6∧∃t,v=.int (val i:Int) t):∀(k i:Nat) (s:Shared),n-i=k→i≤n→St i s→SN s.heap S led (Mq val i)→(∀s',Moved (S::wr) G s s'→SN s'.heap S led (Mq val n)→R (.ok (.ret .none)) s')→codeAny (model prog w) A (.builtin "set.update.loop" ⟨[.ref S,.ref I],[]⟩) R s:=by
  have hSw:S∉wr:=fun h=>WV (W.sub _ h);have Bt:∀b∈wr,b∈S::wr:=fun b hb=>ly _ hb;intro k;induction k with
  |zero =>
   intro i s hk hi Ls hS hR;obtain rfl:i=n:=by omega
   refine codeAny_builtin PyProof.Rows.F.entry_set_update_loop ?_;rw[Around.under_plainId PyProof.Rows.F.plain_set_update_loop _];show wpAny _ A.in1 (pyNext (.ref I)>>=_) _ _ s;refine bh (W.done s _ _ Ls fun s' hm=>?_);show wpAny _ A.in1 (ret Value.none) _ _ s';exact cX (hR s' (hm.mono Bt) (hS.kept fun o e=>hm.heap S o hSw e))
  |succ k ih =>
   intro i s hk hi Ls hS hR;have jO:i<n:=by omega
   refine codeAny_builtin PyProof.Rows.F.entry_set_update_loop ?_;rw[Around.under_plainId PyProof.Rows.F.plain_set_update_loop _];show wpAny _ A.in1 (pyNext (.ref I)>>=_) _ _ s;refine bh (W.item i s _ _ jO Ls fun v s' hP acx hm=>?_);obtain⟨h6,t,rfl⟩:=WW i v hP;have Bu:SN s'.heap S led (Mq val i):=hS.kept fun o e=>hm.heap S o hSw e;show wpAny _ A.in1 (holding [Value.int (val i:Int) t] (setAdd S (.int (val i:Int) t))>>=_) _ _ s';refine bh (wc ?_);unfold setAdd;refine wc ?_;refine bh ((intKind prog w).pyHash (k:=(val i:Int)) (intKind_is _ _ _ _) ?_);refine WT (s:={ s' with toks:=s'.toks+1 }) h6 Bu fun h' hsb hS2 b=>?_;refine cX ⟨plainId_quiet PyProof.Rows.F.plain_set_update_loop _,ih (i+1) _ (by omega) jO (W.frame _ s' _ _ acx (Nat.le_succ _) fun b hb o e=>?_) hS2 fun qQ acy acz=>?_⟩
   ·rw[hsb.2 b (fun h:b=S=>WV (by rw[←h];exact hb))];exact e
   ·refine hR qQ (Moved.trans W.gtrans ((hm.mono Bt).then_heap (Nat.le_succ _) fun b o hb e=>?_) acy) acz;rw[hsb.2 b (fun h:b=S=>hb (by rw[h];exact cY))];exact e
end
section
variable {prog:Program} {w:World} {A:Around} {E:nD} {s:Shared}
theorem Tc(a:Value){Q₁:nD}(h:Q₁ (.ref s.heap.objs.size) { s with heap:=s.heap.push { cls:=.type "set",dict:=none,data:=.set #[] 0 (.fresh 0 0 (!Cq w)) } }):codeAny (model prog w) A (.call (.builtin "set.__new__") ⟨[.type "set",a],[]⟩) (wants Q₁ E) s:=by
  refine codeAny_of_tree ?_;show wpAny _ A.in1 (do checkBuiltinCall "set.__new__" ⟨[.type "set",a],[]⟩;again (.builtin "set.__new__" ⟨[.type "set",a],[]⟩)) _ _ s;refine bh (uF (PySem.F.newCall_set_1 a) (cX ⟨plainId_quiet PySem.F.plain_set_new _,codeAny_builtin PySem.F.entry_set_new ?_⟩));rw[Around.under_plainId PySem.F.plain_set_new _];unfold Builtin.«set.__new__» Builtin.Frozenset.newClass;have Bt:=sub_set_self;obtain⟨hp,g,d,tk,os⟩:=s;dsimp only
  wp_walk
  refine wpAny_askSetting (cX ?_);dsimp only;simp only[newObj];refine bh (wpAny_alloc (cX ?_));exact cX h
theorem Ij{l:Addr}{items:Array Value}{val:Nat→Nat}(hh:A.handled=none)(hl:s.heap.IsList l items)(WW:∀i v,items[i]?=some v→val i<6∧∃t,v=.int (val i:Int) t)(h:∀(h':Heap) (tk:Nat),SN h' s.heap.objs.size (!Cq w) (Mq val items.size)→(∀b o,b<s.heap.objs.size→s.heap.get? b=some o→h'.get? b=some o)→Q (.ref s.heap.objs.size) { s with heap:=h',toks:=tk }):wpAny (model prog w) A (call (.type "set") [.ref l]) Q E s:=by
  obtain⟨c,tl,aik⟩:=Fw.mro;have agd:=Fw.made;have Bt:=Fw.sub;refine wpAny_call (codeAny_of_tree ?_);show wpAny _ _ (callAny (.type "set") _) _ _ _;refine cX ⟨Code.quiet_builtin _ (by decide +kernel),codeAny_builtin PySem.F.entry_type_call ?_⟩;rw[Around.under_plain (weight_type_call_type "set" [.ref l] []) rfl];have h1:=Fw.notType;have h2:=Fw.canCreate;have hct:=PySem.F.typeCall_set_1 (.ref l)
  repeat (any_goals (first|assumption|wp_step))
  generalize acA:(!Cq w)=led at h;refine codeAny_mono (Tc (.ref l) (E:=E) (Q₁:=fun obj s₁=>obj=.ref s.heap.objs.size∧s₁={ s with heap:=s.heap.push { cls:=.type "set",dict:=none,data:=.set #[] 0 (.fresh 0 0 led) } }) (by rw[acA];exact⟨rfl,rfl⟩)) fun r s₁ hr=>?_;cases r with
  |error e=>exact hr
  |ok fl =>
   cases fl with
   |ret obj =>
    obtain⟨rfl,rfl⟩:=hr;have hS:(s.heap.push { cls:=.type "set",dict:=none,data:=.set #[] 0 (.fresh 0 0 led) }).get? s.heap.objs.size=some { cls:=.type "set",dict:=none,data:=.set #[] 0 (.fresh 0 0 led) }:=iu _ rfl;have hT:Shared.TypeIs { s with heap:=s.heap.push { cls:=.type "set",dict:=none,data:=.set #[] 0 (.fresh 0 0 led) } } (.ref s.heap.objs.size) "set":=⟨_,hS,rfl⟩
    have hli:=Fw.init.lookup;have hbi:=Fw.init.bind (.ref s.heap.objs.size)
    repeat (any_goals (first|assumption|wp_step))
    refine codeAny_mono (codeAny_call_builtin (R:=wants (fun r s₂=>r=.none∧∃h' tk,s₂={ s with heap:=h',toks:=tk }∧SN h' s.heap.objs.size led (Mq val items.size) ∧
        (∀b o,b<s.heap.objs.size→s.heap.get? b=some o→h'.get? b=some o)) E) Fw.init.plain PySem.F.entry_set_init (check_set_init_1 hT ?_)) fun r₂ s₂ hr₂=>?_
    · obtain⟨ol,hol,Sg,nl,hdl⟩:=hl;obtain⟨ail,Zz,agg,WX⟩:=ol;simp only at Sg hdl;subst Sg;subst hdl;have acC:(s.heap.push { cls:=.type "set",dict:=none,data:=.set #[] 0 (.fresh 0 0 led) }).get? l=some { cls:=.type "list",dict:=Zz,data:=.seq items nl,slots:=WX }:=eu _ hol;have aim:=PySem.F.sub_list_set;have ain:=PySem.F.sub_list_frozenset;have hE:(Value.type "list"==Value.type "dict")=false:=by decide
      have hl1:(s.heap.push { cls:=.type "set",dict:=none,data:=.set #[] 0 (.fresh 0 0 led) }).IsList l items:=⟨_,acC,rfl,nl,rfl⟩
      unfold Builtin.«set.__init__» noKeywords Builtin.Frozenset.updateFrom;generalize hPI:pyIter=PI
      wp_walk
      subst hPI;refine wpAny_pyIter_list hl1 ?_;refine bh (wpAny_runValue ?_);have hlS:l<s.heap.objs.size:=dj hol;have hh3:A.in1.in1.in1.handled=none:=by simp[hh]
      have acD:l≠(s.heap.push { cls:=.type "set",dict:=none,data:=.set #[] 0 (.fresh 0 0 led) }).objs.size:=by rw[Heap.size_push];exact fV (Nat.lt_succ_of_lt hlS)
      have WV:s.heap.objs.size∉[(s.heap.push { cls:=.type "set",dict:=none,data:=.set #[] 0 (.fresh 0 0 led) }).objs.size,l]:=by rw[Heap.size_push];simp only[fR,List.mem_singleton,List.not_mem_nil,or_false,not_or];exact⟨fV (Nat.lt_succ_self _),Nat.ne_of_gt hlS⟩
      refine Tb ((Walks.list hh3 _ l acD items).toS) s.heap.objs.size WV led val WW (items.size-0) 0 _ (by omega) (sZ _)
        ⟨⟨_,iu _ rfl,rfl,rfl⟩,(hl1.push _)⟩ ?hS0 ?hR
      case hS0=>exact⟨(by decide +kernel:([]:List Nat)∈subs),#[],0,eu _ hS,.nil⟩
      case hR =>
        intro s' hm Bu;obtain⟨h',g',d',ZC,YK⟩:=s';have eg:g'=s.gens:=hm.gens;have ed:d'=s.drawn:=hm.drawn;have eo:YK=s.os:=hm.os;subst eg;subst ed;subst eo;show wpAny _ _ _ _ _ _;refine cX ?_;show wpAny _ _ (ret Value.none) _ _ _;refine cX ⟨rfl,h',ZC,rfl,Bu,fun b o hb e=>?_⟩;have hb1:b≠s.heap.objs.size:=fV hb;have L4:b≠(s.heap.push { cls:=.type "set",dict:=none,data:=.set #[] 0 (.fresh 0 0 led) }).objs.size:=by rw[Heap.size_push];exact fV (Nat.lt_succ_of_lt hb)
        exact hm.heap b o (by simp only[fR,List.mem_singleton,List.not_mem_nil,or_false,not_or];exact⟨hb1,L4⟩) (eu _ (eu _ e))
    · cases r₂ with
      |error e=>exact hr₂
      |ok fl₂ =>
       cases fl₂ with
       |ret r =>
        obtain⟨rfl,h',tk,rfl,Bu,ZD⟩:=hr₂
        repeat (any_goals (first|assumption|wp_step))
        exact h _ _ Bu ZD
       |_=>exact hr₂
   |_=>exact hr
end
theorem m6:Slot "set_iterator" "__next__" "set_iterator.__next__" :=
  .of (owner:="set_iterator") (n:="__next__") (by rw[typeLookup_type,Fv];kernel_rfl) (by decide +kernel) (by decide +kernel) (by decide +kernel)
    (by first|exact .inl (by decide +kernel)|exact .inr (by decide +kernel)) (by rw[isSubtype_type];kernel_rfl)
theorem Bv:entryFor table "set_iterator.__next__"=some Builtin.«set_iterator.__next__»:=entryFor_of_tree (by kernel_rfl)
theorem Gz:Manifest.owners.lookup (String.ofList ['r','o','t','a','r','e','t','i','_','t','e','s'].reverse)=some Manifest.sig_set_iterator:=by kernel_rfl
theorem Ef(a:Value):argsOk "set_iterator.__next__" ⟨[a],[]⟩:=by unfold argsOk;rw[signature?_of (id:="set_iterator.__next__") (n:=['_','_','t','x','e','n','_','_']) (o:=['r','o','t','a','r','e','t','i','_','t','e','s']) (by kernel_rfl) Gz];kernel_rfl
theorem u9:Slot "set_iterator" "__iter__" "set_iterator.__iter__" :=
  .of (owner:="set_iterator") (n:="__iter__") (by rw[typeLookup_type,Fv];kernel_rfl) (by decide +kernel) (by decide +kernel) (by decide +kernel)
    (by first|exact .inl (by decide +kernel)|exact .inr (by decide +kernel)) (by rw[isSubtype_type];kernel_rfl)
theorem Bw:entryFor table "set_iterator.__iter__"=some Builtin.«dict_keyiterator.__iter__» :=
  entryFor_alias (id':="dict_keyiterator.__iter__") (by kernel_rfl) rfl (by decide +kernel) (by kernel_rfl)
theorem Eg(a:Value):argsOk "set_iterator.__iter__" ⟨[a],[]⟩:=by unfold argsOk;rw[signature?_of (id:="set_iterator.__iter__") (n:=['_','_','r','e','t','i','_','_']) (o:=['r','o','t','a','r','e','t','i','_','t','e','s']) (by kernel_rfl) Gz];kernel_rfl
theorem zH:entryFor table "set.__iter__"=some Builtin.«frozenset.__iter__» :=
  entryFor_alias (id':="frozenset.__iter__") (by kernel_rfl) rfl (by decide +kernel) (by kernel_rfl)
theorem zI{α:Type}:∀(l:List α) (j:Nat) (h:j<l.length),(l[j]::l.eraseIdx j).Perm l
  |x::r,0,_=>.refl _
  |x::r,j+1,h=>by
   have hj:j<r.length:=by simpa using h
   show(r[j]::x::r.eraseIdx j).Perm (x::r);exact(List.Perm.swap x r[j] (r.eraseIdx j)).trans (.cons x (zI r j hj))
theorem Kp{α:Type}(next:Nat→Nat):∀(fuel k:Nat) (left:List α) (out:Array α),left.length≤fuel→(pickOrder.go next fuel k left out).toList.Perm (out.toList++left)
  |0,k,[],out,_=>by unfold pickOrder.go;simp
  |0,k,x::r,out,h=>by simp at h
  |fuel+1,k,[],out,_=>by unfold pickOrder.go;simp
  |fuel+1,k,x::r,out,h=>by unfold pickOrder.go;have jO:next k%(x::r).length<(x::r).length:=Nat.mod_lt _ (by simp);rw[mS jO];dsimp only;refine(Kp next fuel (k+1) _ _ (by rw[List.length_eraseIdx_of_lt jO];omega)).trans ?_;rw[Array.toList_push,Di];refine List.Perm.append_left _ ?_;exact zI _ _ jO
theorem Mr{α:Type}(next:Nat→Nat)(xs:Array α):(pickOrder next xs).toList.Perm xs.toList:=by unfold pickOrder;have:=Kp next xs.size 0 xs.toList #[] (by simp);simpa using this
def ord(w:World)(a:Addr)(es:Array (Int×Value))(ep:Nat):Array (Int×Value):=if Cq w=true then pickOrder (w.params.setOrder a ep) es else es
theorem GA(w:World)(a:Addr)(es:Array (Int×Value))(ep:Nat):(ord w a es ep).toList.Perm es.toList:=by
  unfold ord;split
  ·exact Mr _ _
  ·exact .refl _
theorem zJ(w:World)(a:Addr)(es:Array (Int×Value))(ep:Nat):(ord w a es ep).size=es.size:=by rw[←ou,(GA w a es ep).length_eq,ou]
def at'(S:List Nat)(i:Nat):Nat:=if i=0 then 0 else S.getD (i-1) 0+1
theorem below_at(h:S∈subs)(hi:i≤S.length):SetTable.below (tb led S).place (at' S i)=i:=by have h6:=(pM (led:=led) h).2.1;have:=iK.mp (iK.mp (iK.mp Pg led (yA led)) S h) i (mW.mpr (by omega));rw[show decide (i>S.length)=false from lL (by omega),Bool.false_or] at this;exact eq_of_beq this
def GB(h:Heap)(it a:Addr)(slot i n ep:Nat):Prop:=∃o,h.get? it=some o∧o.cls=.type "set_iterator"∧o.data=.fields #[.int slot 0,.int i 0,.ref a,.int n 0,.int ep 0]
theorem GB.typeIs{it a slot i n ep}(x:GB s.heap it a slot i n ep):s.TypeIs (.ref it) "set_iterator":=let ⟨o,ho,hc,_⟩:=x;⟨o,ho,hc⟩
def X3(h:Heap)(a:Addr)(led:Bool)(S:List Nat)(es:Array (Int×Value))(ep:Nat):Prop:=h.get? a=some { cls:=.type "set",dict:=none,data:=.set es ep (tb led S) }
section
variable {prog:Program} {w:World} {A:Around} {E:nD} {s:Shared} {it a:Addr} {S:List Nat} {es:Array (Int×Value)} {ep i slot:Nat}
theorem Pl{Q:Option (Value×Nat)→Shared→Prop}(hs:S∈subs)(he:Ent es.toList S)(hS:X3 s.heap a (!Cq w) S es ep)(hi:i≤es.size)(hsl:Cq w=false→slot=at' S i)(h:∀pO,(Cq w=false→pO=at' S (i+1))→Q (((ord w a es ep)[i]?).map fun e=>(e.2,pO)) s):wpAny (model prog w) A (setNext a slot i ep) Q E s:=by
  have hlen:es.size=S.length:=by rw[←ou];exact he.len
  have Nw:(tb (!Cq w) S).fits es.size=true:=by rw[hlen];exact(pM hs).1
  unfold setNext;refine bh (wpAny_setState_of hS rfl Nw ?_);dsimp only;unfold setsByText;refine bh (bh (wpAny_askSetting (cX ?_)));dsimp only;by_cases hb:Cq w=true
  ·rw[ay (show(model prog w).w.params.followText "set-order"=true from hb),aZ (by simp)];refine bh ?_;unfold setWalk;refine bh (wpAny_setState_of hS rfl Nw ?_);dsimp only;unfold setsByText;refine bh (bh (wpAny_askSetting (cX ?_)));dsimp only;rw[ay (show(model prog w).w.params.followText "set-order"=true from hb)];refine bh (wpAny_askSetting (cX ?_));have:=h slot (fun q=>by rw[hb] at q;cases q);unfold ord at this;rw[ay hb] at this;exact cX this
  · have Fm:Cq w=false:=by simpa using hb
    rw[aZ (show ¬ (model prog w).w.params.followText "set-order"=true from hb)];refine Bc (fun oT=>absurd oT jx) (fun _=>?_);rw[Fm] at hS Nw⊢;refine bh (cX ?_);rw[hsl Fm,below_at hs (by omega)];have ZE:ord w a es ep=es:=by unfold ord;rw[aZ hb]
    refine cX ?_;by_cases jO:i<es.size
    · have:=h (at' S (i+1)) (fun _=>rfl);rw[ZE,A4 jO] at this;rw[A4 jO];have hp:(tb (!false) S).place[i]?=some (S.getD i 0):=by
        show S.toArray[i]?=_;rw[List.getElem?_toArray,nE,mS (by omega)];rfl
      rw[hp];exact this
    ·have:=h (at' S (i+1)) (fun _=>rfl);rw[ZE,Array.getElem?_eq_none (by omega)] at this;rw[Array.getElem?_eq_none (by omega)];exact this
theorem Kq{Q:ni→Shared→Prop}(hh:A.handled=none)(hs:S∈subs)(he:Ent es.toList S)(hS:X3 s.heap a (!Cq w) S es ep)(hi:i≤es.size)(hsl:Cq w=false→slot=at' S i)(hit:GB s.heap it a slot i es.size ep)(hQ:∀e pO h',(ord w a es ep)[i]?=some e→(Cq w=false→pO=at' S (i+1))→GB h' it a pO (i+1) es.size ep→Heap.ExtBut it s.heap h'→Q (some e.2) { s with heap:=h' })(hN:∀h',(ord w a es ep)[i]?=none→Heap.ExtBut it s.heap h'→Q none { s with heap:=h' }):wpAny (model prog w) A (pyNext (.ref it)) Q E s:=by
  obtain⟨o,ho,hc,hd⟩:=id hit;have hlen:es.size=S.length:=by rw[←ou];exact he.len
  have Nw:(tb (!Cq w) S).fits es.size=true:=by rw[hlen];exact(pM hs).1
  unfold pyNext;refine bh (wpAny_attempt (wpAny_callSpecial?_slot (name:=Str.ofString "__next__") hit.typeIs m6
    (xX m6 hit.typeIs Bv ?_ (Ef _))))
  unfold Builtin.«set_iterator.__next__»;refine bh (cX ?_);refine bh (wpAny_fieldsOf ho hd ?_);dsimp only;refine bh (wpAny_setEntries_of hS rfl Nw ?_);rw[aZ (by simp)];show wpAny _ _ (setNext a ((slot:Int).toNat) ((i:Int).toNat) ((ep:Int).toNat)>>=_) _ _ s;rw[Dj,Dj,Dj];refine bh (Pl hs he hS hi hsl fun pO h1=>?_);cases hx:(ord w a es ep)[i]? with
  |some e =>
   show wpAny _ _ (setField (.ref it) 0 (rawInt pO)>>=_) _ _ s;refine bh (wpAny_setField ho hd (by simp) ?_);have hg1:=A7 (Obj.mapFields fun x=>x.setIfInBounds 0 (rawInt (pO:Int))) ho (Obj.isFreed_of_fields (A9 hd _));have ZF:=A9 hd (fun x=>x.setIfInBounds 0 (rawInt (pO:Int)));refine bh (wpAny_setField hg1 ZF (by simp) ?_);refine cX ⟨_,rfl,cX (hQ e pO _ hx h1 ⟨_,A7 _ hg1 (Obj.isFreed_of_fields (A9 ZF _)),?_,?_⟩ ?_)⟩
   ·exact(Obj.cls_mapFields ..).trans ((Obj.cls_mapFields ..).trans hc)
   ·rw[A9 ZF];simp[rawInt]
   ·exact((v7 ..).trans (v7 ..)).extBut
  |none=>show wpAny _ _ (setField (.ref it) 2 .none>>=_) _ _ s;refine bh (wpAny_setField ho hd (by simp) ?_);show wpAny _ _ (newExc (.type "StopIteration") []>>=_) _ _ _;refine bh ?_;simp only[newExc,newTuple];refine bh (xU ?_ (by size_fits));refine bh (m:=firstArgMember _ _) (uF (a:=Value.none) (by first|rfl|(simp only[firstArgMember];rfl)) ?_);refine xU ?_ (by size_fits);simp only[raiseNew];refine bh (wpAny_handled ?_);rw[show A.in1.handled=none from hh];refine bh (cX (wpAny_throw ?_));refine bh (wpAny_isInstance (T:="StopIteration") (b:=true) ⟨_,iu _ rfl,rfl⟩ isSubtype_stop ?_);exact cX (hN _ hx (((v7 ..).extBut.push _).push _))
theorem GB.at{it a slot i n ep}(x:GB h it a slot i n ep)(e:∀o,h.get? it=some o→h'.get? it=some o):GB h' it a slot i n ep:=let ⟨o,ho,r⟩:=x;⟨o,e _ ho,r⟩
def StS(w:World)(it a:Addr)(S:List Nat)(es:Array (Int×Value))(ep:Nat)(i:Nat)(h:Heap):Prop:=(∃slot,(Cq w=false→slot=at' S i)∧GB h it a slot i es.size ep)∧X3 h a (!Cq w) S es ep
theorem Ms(hh:A.handled=none)(it a:Addr)(hE:a≠it)(hs:S∈subs)(he:Ent es.toList S) :
    Walks prog w A it [it,a] [it] es.size (fun i v=>∃e,(ord w a es ep)[i]?=some e∧v=e.2) (StS w it a S es ep) where
  sub:=fun b hb=>by simp at hb;simp[hb]
  frame:=fun i h h' ⟨⟨slot,h1,h2⟩,h3⟩ hk=>⟨⟨slot,h1,h2.at fun o e=>hk it (by simp) o e⟩,hk a (by simp) _ h3⟩
  item:=fun i s Q E hi ⟨⟨slot,h1,h2⟩,h3⟩ hQ=>by
    refine Kq hh hs he h3 (by omega) h1 h2 (fun e pO h' hx hsl Bp hx'=>?_) (fun h' hx _=>?_)
    ·exact hQ e.2 h' s.toks ⟨e,hx,rfl⟩ ⟨⟨pO,hsl,Bp⟩,hx' a _ hE h3⟩ fun b o hb e=>hx' b o (fun h=>hb (by simp[h])) e
    ·rw[Array.getElem?_eq_none_iff,zJ] at hx;omega
  done:=fun s Q E ⟨⟨slot,h1,h2⟩,h3⟩ hQ=>by
    refine Kq hh hs he h3 (cw _) h1 h2 (fun e pO h' hx hsl Bp hx'=>?_) (fun h' hx ZG=>hQ h' s.toks fun b o hb e=>ZG b o (fun h=>hb (by simp[h])) e);have:(ord w a es ep)[es.size]?=none:=by rw[Array.getElem?_eq_none_iff,zJ];exact cw _
    rw[this] at hx;cases hx
  self:=fun i s Q E ⟨⟨slot,h1,hit⟩,h3⟩ h=>by refine wpAny_pyIter_slot hit.typeIs u9 (xX u9 hit.typeIs Bw ?_ (Eg _));show wpAny _ _ (ret (.ref it)) _ _ s;exact cX ⟨_,rfl,"set_iterator",_,hit.typeIs,m6.lookup,h⟩
theorem Pm(hs:S∈subs)(he:Ent es.toList S)(hS:X3 s.heap a (!Cq w) S es ep)(hQ:Q (.ref s.heap.objs.size) { s with heap:=s.heap.push { cls:=.type "set_iterator",data:=.fields #[.int 0 0,.int 0 0,.ref a,.int es.size 0,.int ep 0] } }):wpAny (model prog w) A (pyIter (.ref a)) Q E s:=by
  have hT:s.TypeIs (.ref a) "set":=⟨_,hS,rfl⟩
  have hlen:es.size=S.length:=by rw[←ou];exact he.len
  have Nw:(tb (!Cq w) S).fits es.size=true:=by rw[hlen];exact(pM hs).1
  refine wpAny_pyIter_slot hT PySem.F.slot_set_iter (xX PySem.F.slot_set_iter hT zH ?_ (PySem.F.args_set_iter_1 _));unfold Builtin.«frozenset.__iter__»;refine bh (cX ?_);refine bh ?_;unfold Builtin.Frozenset.sizeOf;refine bh (wpAny_setEntries_of hS rfl Nw (cX ?_));refine bh ?_;refine bh (wpAny_setState_of hS rfl Nw ?_);dsimp only;unfold setsByText;refine bh (bh (wpAny_askSetting (cX ?_)));refine cX ?_;refine Bc (fun oT=>absurd oT (by show ¬ ((_&&(false&&_))=true);rw[Bool.false_and,Bool.and_false];exact jx)) (fun _=>?_);refine bh (cX ?_);refine bh (wpAny_setEpoch_of hS rfl Nw ?_);refine bh (xU (cX ⟨_,rfl,"set_iterator",_,⟨_,iu _ rfl,rfl⟩,m6.lookup,?_⟩));simpa[rawInt] using hQ
end
end NS
namespace NS
open PySem PySem.Spec PySem.Calls PySem.W
open PyProof.Rows hiding St pairAt
def ck7:Bool:=subs.all fun S=>S==(List.range 6).filter S.contains
theorem Pn:ck7=true:=by decide +kernel
theorem Ik(h:S∈subs):S=(List.range 6).filter S.contains:=eq_of_beq (iK.mp Pn S h)
theorem Td:j∈ins S k↔j=k∨j∈S:=by
  unfold ins;simp only[mV,jy,fR,A8];constructor
  · rintro(h|h|h)
    ·exact .inr h.1
    ·exact .inl h
    ·exact .inr h.1
  · rintro(h|h)
    ·exact .inr (.inl h)
    · rcases Nat.lt_trichotomy j k with q|q|q
      ·exact .inl ⟨h,q⟩
      ·exact .inr (.inl q)
      ·exact .inr (.inr ⟨h,q⟩)
theorem Kr{val:Nat→Nat}{j:Nat}:∀{n:Nat},j∈Mq val n↔∃i,i<n∧val i=j
  |0=>by simp[Mq]
  |n+1=>by
   have ih:=Kr (val:=val) (j:=j) (n:=n);unfold Mq;split
   · rename_i h;rw[ih];constructor
     ·rintro⟨i,h1,h2⟩;exact⟨i,by omega,h2⟩
     · rintro⟨i,h1,h2⟩;by_cases e:i=n
       ·subst e;have:=yF.mp h;rw[h2] at this;exact ih.mp this
       ·exact⟨i,by omega,h2⟩
   · rw[Td,ih];constructor
     · rintro(h|⟨i,h1,h2⟩)
       ·exact⟨n,by omega,h.symm⟩
       ·exact⟨i,by omega,h2⟩
     · rintro⟨i,h1,h2⟩;by_cases e:i=n
       ·subst e;exact .inl h2.symm
       ·exact .inr ⟨i,by omega,h2⟩
def nameSet(ns:aO):List Nat:=(List.range 6).filter fun k=>ns.contains (k:Int)
theorem WY(hs:Mq (fun i=>(ns.getD i 0).toNat) ns.length∈subs)(h0:∀n∈ns,0≤n∧n<6):Mq (fun i=>(ns.getD i 0).toNat) ns.length=nameSet ns:=by
  rw[Ik hs];unfold nameSet;refine List.filter_congr fun k hk=>?_;rw[Bb,yF,yF,Kr];constructor
  · rintro⟨i,h1,h2⟩;rw[nE,mS h1] at h2;have hm:=List.getElem_mem h1;have:=h0 _ hm;have e:ns[i]=(k:Int):=by simp at h2;omega
    rw[←e];exact hm
  ·intro hm;obtain⟨i,h1,h2⟩:=List.getElem_of_mem hm;refine⟨i,h1,?_⟩;rw[nE,mS h1,h2];simp
def ck8:Bool:=subs.all fun S=>decide ((S.map fun(i:Nat)=>(i:Int)).Pairwise (·≤·))
theorem Pp:ck8=true:=by decide +kernel
section
variable {prog:Program} {w:World} {A:Around} {E:nD} {s:Shared} {a:Addr} {S:List Nat} {es:Array (Int×Value)} {ep:Nat}
theorem Pq{Q:Bool→Shared→Prop}(hT:s.TypeIs (.ref a) "set")(h:Q false s):wpAny (model prog w) A (Builtin.List.listLengthHint (.ref a)) Q E s:=by
  unfold Builtin.List.listLengthHint;refine bh (wpAny_specialOf hT PySem.F.slot_set_len.lookup ?_);generalize X4:("set.__len__":String)=id0
  wp_delta
  rw[show splitId id0=some ("set","__len__") from by subst X4;decide +kernel];subst X4;refine bh (wpAny_isInstance (T:="set") (b:=true) hT (by rw[isSubtype_type];kernel_rfl) ?_);refine Bc (fun oT=>absurd oT (by decide)) (fun _=>?_);refine Bc (fun _=>?_) (fun oT=>absurd (by decide +kernel) oT);refine bh (wpAny_typeOf hT ?_);exact cX h
theorem Te(hs:S∈subs)(he:Ent es.toList S):KdlSrc prog w "set" a a es.size (fun i v=>∃e,(ord w a es ep)[i]?=some e∧v=e.2) (fun h=>X3 h a (!Cq w) S es ep) where
  type:=fun _ hm=>⟨_,hm,rfl⟩
  there:=fun _ hm=>⟨dj hm,dj hm⟩
  keep:=fun _ _ hm hk=>hk a (.inl rfl) _ hm
  notList:=by decide
  notTuple:=by decide
  hint:=fun _ _ _ _ hm hq=>Pq ⟨_,hm,rfl⟩ hq
  iter:=fun _ s hh hm=>⟨_,_,(fun _ _ hq=>Pm hs he hm hq),Ms hh _ a (fV (dj hm)) hs he,⟨⟨0,fun _=>rfl,_,iu _ rfl,rfl,rfl⟩,eu _ hm⟩⟩
theorem Mt{l':List (Int×Value)}(hp:l'.Perm l)(he:Ent l S):∃ns:aO,IntsAre (l'.map (·.2)) ns∧ns.Perm (S.map fun(i:Nat)=>(i:Int)):=by
  have key:∀(q:List (Int×Value)),(∀e∈q,∃t:Tok,e.2=.int e.1 t)→IntsAre (q.map (·.2)) (q.map (·.1)):=by
    intro q;induction q with
    |nil=>intro _;exact .nil
    |cons x r ih=>intro h;obtain⟨t,e⟩:=h x cY;rw[bY,bY,e];exact .cons _ t (ih fun e he=>h e (ly _ he))
  refine⟨l'.map (·.1),key l' fun e hm=>?_,?_⟩
  ·obtain⟨k,t,_,rfl⟩:=he.mem e (hp.mem_iff.mp hm);exact⟨t,rfl⟩
  ·rw[←he.fst];exact hp.map _
theorem Il(hh:A.handled=none)(hs:S∈subs)(he:Ent es.toList S)(hS:X3 s.heap a (!Cq w) S es ep)(h:∀(D:Addr) (h':Heap) (tk:Nat) (out:Array Value) (e:Nat),a<D→(∀b o,s.heap.get? b=some o→h'.get? b=some o)→h'.get? D=some (seqObj "list" out e)→IntsAre out.toList (S.map fun(i:Nat)=>(i:Int))→Q (.ref D) { s with heap:=h',toks:=tk }):wpAny (model prog w) A (call (.builtin "sorted") [.ref a]) Q E s:=by
  have hlen:es.size=S.length:=by rw[←ou];exact he.len
  have h6:=(pM (led:=true) hs).2.1;refine call_function_entry kind_sorted plain_sorted entry_sorted (args_sorted1 _) ?_;unfold Builtin.«sorted»;refine bh (m:=checkCount "sorted" 1 1 _) (cX ?_);refine bh (kdu_collect (A:=A.in1) (Te hs he) hh hS (by rw[hlen,jc];omega) fun h' tk acc hk jD=>?_);have hl:acc.toList.length=es.size:=by rw[ou];exact jD.1
  have hv:acc.toList=(ord w a es ep).toList.map (·.2):=by
    refine List.ext_getElem? fun j=>?_;rw[qH,Array.getElem?_toList,Array.getElem?_toList];cases hj:acc[j]? with
    |some v=>obtain⟨e,h1,h2⟩:=jD.2 j v hj;rw[h1,h2];rfl
    |none=>rw[Array.getElem?_eq_none_iff] at hj;rw[Array.getElem?_eq_none (by rw[zJ,←jD.1];exact hj)];rfl
  obtain⟨ns,hI,hp⟩:=Mt (GA w a es ep) he;rw[←hv] at hI;refine bh (wpAny_newList ?_ (by rw[hl,hlen,jc];omega));have JD:(h'.push (seqObj "list" acc.toList.toArray 0)).get? h'.objs.size=some (seqObj "list" acc.toList.toArray 0):=iu _ rfl;show wpAny _ _ _ _ _ { s with heap:=h'.push (seqObj "list" acc.toList.toArray 0),toks:=tk };refine bh (wc (xX slot_list_sort ⟨_,JD,rfl⟩ entry_list_sort (list_sort_tree (s:={ s with heap:=h'.push (seqObj "list" acc.toList.toArray 0),toks:=tk }) JD hI (by rw[hl,hlen];omega) fun out RW a1 a2 a3=>⟨_,rfl,?_⟩) (args_list_sort _)));have e0:RW=S.map fun(i:Nat)=>(i:Int):=List.Perm.eq_of_pairwise (le:=fun a b:Int=>a≤b) (fun a b _ _ h1 h2=>by omega) a3 (xT (iK.mp Pp S hs)) (a2.trans hp);rw[e0] at a1;obtain⟨e,Rw⟩:=sortedHeap_at (out:=out) JD;refine cX ⟨_,rfl,h h'.objs.size _ tk out e ?_ (fun b o q=>?_) Rw a1⟩
  ·exact dj (hk _ _ hS)
  ·have hb:=dj (hk _ _ q);rw[sortedHeap_old (fV hb) (by rw[size_push'];exact Nat.lt_succ_of_lt hb)];exact eu _ (hk _ _ q)
end
end NS
namespace DL
open PySem PySem.Spec L2 NS
open PyProof.Rows hiding St pairAt
section
variable {X:Cx} {z:Zc} {e a b:Expr} {f fa fb fk fv:EF} {fl fs:LF} {pos p p' pos':Pos} {g:SF} {st:Stmt} {es:List Expr} {ms:List Bool} {te:TE}
def tSS(K:PySem.W.Frag)(te:TE):TE:=fun σ H Q=>te σ H fun x H1=>∃a ns,x=.ref a∧m4 K H1 a (ns.map V.int)∧(∀n∈ns,0≤n∧n<6)∧∀l,H1 l=none→Q (.ref l) (upd H1 l (.lst ((nameSet ns).map fun(k:Nat)=>V.int (k:Int))))
theorem GC{vs:dO}(h:IntsAre vs ns):∀(i:Nat) (v:Value),vs[i]?=some v→ns.getD i 0∈ns∧∃t,v=.int (ns.getD i 0) t:=by
  induction h with
  |nil=>intro i v q;simp at q
  |cons n t r ih =>
   intro i v q;cases i with
   |zero=>simp at q;subst q;exact⟨by simp,t,by simp⟩
   |succ i=>obtain⟨h1,t',h2⟩:=ih i v (by simpa using q);exact⟨by simpa using Or.inr (by simpa using h1),t',by simpa using h2⟩
theorem Im(hc:X.calm=true)(Mu:Gl X "sorted")(D0:X.mg "sorted"=none)(hg:Gl X "set")(hm:X.mg "set"=none)(he:PE X e te)(hs:starEach [e] X.env=(false,eval e X.env)::starEach [] X.env:=by rfl)(Bi:starEach [Expr.Call (.Name "set" p') [e] [] pos'] X.env=(false,eval (.Call (.Name "set" p') [e] [] pos') X.env)::starEach [] X.env:=by rfl):PE X (.Call (.Name "sorted" p) [.Call (.Name "set" p') [e] [] pos'] [] pos) (tSS X.K te):=by
  intro pins s σ H Q I h;refine v8 (j5 I Mu D0 nr ?_ (by decide) (by decide));refine PyProof.Rows.callWith_builtin1 ?_ Bi rfl;rw[Bi];show wpAny _ _ (spliced ((false,eval (.Call (.Name "set" p') [e] [] pos') X.env)::backTo pos (starEach [] X.env))) _ _ s;refine Dk ?_;refine v8 (j5 I hg hm Wk ?_ (by decide) (by decide));refine Ft ?_ hs rfl;rw[hs];show wpAny _ _ (spliced ((false,eval e X.env)::backTo pos' (starEach [] X.env))) _ _ s;refine Dk (gx (he pins s σ H _ I h) fun u s1 ⟨x,H1,I1,r1,q1⟩=>?_);refine Calls.spliced_nil ?_;obtain⟨a,ns,rfl,hq,h0,hk⟩:=q1;cases r1;obtain⟨its,rv,hl,_⟩:=I1.list hq;have hi:=intsAre_of rv;have l1:ns.length=its.length:=by have:=rv.length;simpa using this
  have hh:X.A.handled=none:=I1.ok.hd hc;refine Ij (val:=fun i=>(ns.getD i 0).toNat) hh hl.isList (fun i v hv=>?_) fun h' tk hS ZH=>?_
  ·obtain⟨h1,t,rfl⟩:=GC hi i v (by simpa using hv);have:=h0 _ h1;exact⟨by omega,t,by rw[show((ns.getD i 0).toNat:Int)=ns.getD i 0 from by omega]⟩
  refine Calls.spliced_nil ?_;rw[show its.toArray.size=ns.length from by rw[j3,l1]] at hS;obtain⟨Bt,es,ep,Tf,acG⟩:=hS;refine Il hh Bt acG Tf fun D h2 tk2 out e hD hk2 Rw hio=>?_;rw[WY Bt h0] at hio;have tq:∀b o,s1.heap.get? b=some o→h2.get? b=some o:=fun b o q=>hk2 b o (ZH b o (dj q) q);refine⟨.ref D,_,I1.laid (a:=D) (o:=.lst ((nameSet ns).map fun(k:Nat)=>V.int (k:Int))) (t':=tk2) tq (Nat.le_of_lt hD) ⟨?_,out.toList,e,?_,by simpa using Rw⟩,rfl,hk _ (I1.cZ.fresh (Nat.le_of_lt hD))⟩
  ·rw[g9];refine oQ (List.length_filter_le _ _) ?_;rw[List.length_range,jc];omega
  ·have:=sC hio;rw[e9] at this;exact this
def zK(f:EF):LF:=fun η=>(f η).bind fun d=>match d with
  |.lst ds=>(kH ds).bind fun ns=>if (ns.all fun n=>decide (0≤n)&&decide (n<6))=true then some ((nameSet ns).map fun(k:Nat)=>D.int (k:Int)) else none
  |_=>none
theorem Pr(hc:X.calm=true)(Mu:Gl X "sorted")(D0:X.mg "sorted"=none)(hg:Gl X "set")(hm:X.mg "set"=none)(ha:DB X z e f)(hs:starEach [e] X.env=(false,eval e X.env)::starEach [] X.env:=by rfl)(Bi:starEach [Expr.Call (.Name "set" p') [e] [] pos'] X.env=(false,eval (.Call (.Name "set" p') [e] [] pos') X.env)::starEach [] X.env:=by rfl):DO X z (.Call (.Name "sorted" p) [.Call (.Name "set" p') [e] [] pos'] [] pos) (zK f):=PE.weak (Im hc Mu D0 hg hm ha hs Bi) fun σ H Q ⟨η,F,d,r,e,k⟩=>by
  unfold zK at e;obtain⟨d',h1,e⟩:=eK.mp e;cases d' with
  |lst ds =>
   obtain⟨ns,h3,e⟩:=eK.mp e;by_cases hl:(ns.all fun n=>decide (0≤n)&&decide (n<6))=true
   · rw[ay hl] at e;cases e;refine⟨η,F,_,r,h1,fun v H1 F1 g1 q1=>?_⟩;obtain⟨a,ws,rfl,h4,h5⟩:=aW.mp q1;rw[kb h3] at h5;rw[ix h5] at h4;refine⟨a,ns,rfl,h4,fun n hn=>?_,fun l Gj=>?_⟩
     ·have:=iK.mp hl n hn;simpa using this
     · have hz:((nameSet ns).map fun(k:Nat)=>V.int (k:Int)).length≤sizeLine:=by
         rw[g9];refine oQ (List.length_filter_le _ _) ?_;rw[List.length_range,jc];omega
       have g4:=bA.own g1.base Gj (.lst ((nameSet ns).map fun(k:Nat)=>V.int (k:Int))) hz rfl;refine k l _ _ F1 (g1.trans g4) (g1.ent.free Gj) (g1.base.sub.free Gj) aL ?_;have:=fX (K:=X.K) (F:=F1) ((nameSet ns).map fun(k:Nat)=>(k:Int));rw[e9,e9] at this;exact this
   ·rw[aZ hl] at e;cases e
  |_=>cases e
end
end DL
namespace Sl
open PySem PySem.W PyProof.Rows PySem.Calls
def Ks:Bool→Keyed→Array Keyed→Nat→Nat→Nat→StateT SortSt Sem (Option Nat):=sortPriv% PySem.Builtin.gallop
def Pt:Array Keyed→Array Keyed→StateT SortSt Sem (Array Keyed):=sortPriv% PySem.Builtin.mergeLo
def UT:List Nat:=[0,1,2,7,3,8,12,22,4,9,13,23,16,26,32,42,5,10,14,24,17,27,33,43,19,29,35,45,38,48,52,57,6,11,15,25,18,28,34,44,20,30,36,46,39,49,53,58,21,31,37,47,40,50,54,59,41,51,55,60,56,61,62,63]
def kf(i j:Nat):Bool:=Nat.blt (UT.getD i 0) (UT.getD j 0)
def GD:Array Nat:=(List.range 64).toArray
def Io:Array Nat:=#[0,1,2,4,8,16,3,5,9,17,6,10,18,12,20,24,7,11,19,13,21,25,14,22,26,28,15,23,27,29,30,31,32,33,34,35,36,37,38,39,40,41,42,43,44,45,46,47,48,49,50,51,52,53,54,55,56,57,58,59,60,61,62,63]
def gB:Array Nat:=#[0,1,2,4,8,16,3,5,9,17,6,10,18,12,20,24,7,11,19,13,21,25,14,22,26,28,15,23,27,29,30,31,32,33,34,36,40,48,35,37,41,49,38,42,50,44,52,56,39,43,51,45,53,57,46,54,58,60,47,55,59,61,62,63]
def Bx:Array Nat:=#[0,1,2,4,8,16,32,3,5,9,17,33,6,10,18,34,12,20,36,24,40,48,7,11,19,35,13,21,37,25,41,49,14,22,38,26,42,50,28,44,52,56,15,23,39,27,43,51,29,45,53,57,30,46,54,58,60,31,47,55,59,61,62,63]
def kF(κ:SortKind)(it:Array Keyed)(p:Array Nat)(pend:Array (Nat×Nat×Nat))(g:Nat):SortSt:=SortSt.mk' κ (p.map (kas_item it)) pend g none
def place(p:Array Nat)(lo k:Nat):Nat→Nat→Nat→Nat
  |0,l,_=>l
  |f+1,l,r=>if l≥r then l else if kf (p.getD (lo+k) 0) (p.getD (lo+(l+r) / 2) 0)=true then place p lo k f l ((l+r) / 2) else place p lo k f ((l+r) / 2+1) r
theorem zL(p:Array Nat)(lo k f l r:Nat):place p lo k (f+1) l r=if l≥r then l else if kf (p.getD (lo+k) 0) (p.getD (lo+(l+r) / 2) 0)=true then place p lo k f l ((l+r) / 2) else place p lo k f ((l+r) / 2+1) r:=rfl
def uf(lo:Nat):Nat→Array Nat→Nat→Array Nat
  |0,p,_=>p
  |f+1,p,k=>uf lo f (bubble p (lo+k) (lo+k-(lo+place p lo k k 0 k))) (k+1)
section
variable {prog:Program} {w:World} {A:Around} {E:nD} {κ:SortKind} {it:Array Keyed} {s:Shared} {σ:Type}
def yc(prog:Program)(w:World)(A:Around)(κ:SortKind)(it:Array Keyed)(s:Shared):Prop:=∀i j (C:Bool→Shared→Prop),i<64→j<64→C (kf i j) s→kas_cmp prog w A κ it i j C s
theorem item_at(hi:i<p.size):(p.map (kas_item it))[i]?=some (kas_item it (p.getD i 0)):=by
  have e:p.getD i 0=p[i]:=by simp[Array.getD,hi]
  rw[e];simp[hi]
theorem gC{st:SortSt}{Q:Keyed→SortSt→Shared→Prop}(hi:i<p.size)(h:Q (kas_item it (p.getD i 0)) st s):kasC (model prog w) A E (elem' (p.map (kas_item it)) i) Q st s:=by rw[elem'_eq,item_at hi];exact kasC_pure h
theorem Ip{x y:Nat}{g:Nat}{Q:Option Bool→SortSt→Shared→Prop}(S:yc prog w A κ it s)(hx:x<64)(hy:y<64)(h:Q (some (kf x y)) (kF κ it p pend g) s):kasC (model prog w) A E (lt' (kas_item it x) (kas_item it y)) Q (kF κ it p pend g) s:=by rw[lt'_eq];refine kasC_bind (kasC_get ?_);refine kasC_bind (kasC_lift (wpAny_attempt (mY (S x y (fun b s'=>b=kf x y∧s'=s) hx hy ⟨rfl,rfl⟩) (fun c s' hc=>?_) fun _ _ hF=>hF.elim)));obtain⟨rfl,rfl⟩:=hc;exact kasC_pure h
theorem Pu{g:Nat}{Q:Option Bool→SortSt→Shared→Prop}(S:yc prog w A κ it s)(P:bq 64 p)(hi:i<64)(hj:j<64)(h:Q (some (kf (p.getD i 0) (p.getD j 0))) (kF κ it p pend g) s):kasC (model prog w) A E (ltAt' i j) Q (kF κ it p pend g) s:=by rw[ltAt'_eq];refine kasC_bind (kasC_get ?_);refine kasC_bind (gC (by rw[P.size];exact hi) ?_);refine kasC_bind (gC (by rw[P.size];exact hj) ?_);exact Ip S (P.lt (by decide) _) (P.lt (by decide) _) h
theorem WZ{l:Nat}{g:Nat}{Q:Unit→SortSt→Shared→Prop}(h:Q () (kF κ it (bubble p k (k-l)) pend g) s):kasC (model prog w) A E (moveDown' k l) Q (kF κ it p pend g) s:=by rw[moveDown'_eq];refine kasC_modify ?_;have e1:bubble (p.map (kas_item it)) k (k-l)=(bubble p k (k-l)).map (kas_item it):=kas_swaps_map (kas_item it) (fun i=>k-i) (fun i=>k-i-1) _ p;show Q () (SortSt.mk' κ (bubble (p.map (kas_item it)) k (k-l)) pend g none) s;rw[e1];exact h
theorem dM{β:Type}{a m:Nat}{b:β}{f:Nat→β→StateT σ Sem (ForInStep β)}{Q:β→σ→Shared→Prop}{st:σ}(e:n=m+1)(h:kasC (model prog w) A E (f a b) (fun r st' s'=>match r with|.done b'=>Q b' st' s'|.yield b'=>kasC (model prog w) A E (forIn (List.range' (a+1) m) b' f) Q st' s') st s):kasC (model prog w) A E (forIn (List.range' a n) b f) Q st s:=by
  subst e;rw[List.range'_succ];exact kasC_cons h
theorem UU{β:Type}{a:Nat}{b:β}{f:Nat→β→StateT σ Sem (ForInStep β)}{Q:β→σ→Shared→Prop}{st:σ}(e:n=0)(h:Q b st s):kasC (model prog w) A E (forIn (List.range' a n) b f) Q st s:=by subst e;exact kasC_nil h
theorem Eh{p:Array Nat}{pend:Array (Nat×Nat×Nat)}{g lo k:Nat}{body:Nat→Option Bool×Nat×Nat→StateT SortSt Sem (ForInStep (Option Bool×Nat×Nat))}(h1:∀x l r (R:ForInStep (Option Bool×Nat×Nat)→SortSt→Shared→Prop),l≥r→R (.done (none,l,r)) (kF κ it p pend g) s→kasC (model prog w) A E (body x (none,l,r)) R (kF κ it p pend g) s)(h2:∀x l r (R:ForInStep (Option Bool×Nat×Nat)→SortSt→Shared→Prop),l<r→r≤k→R (.yield (if kf (p.getD (lo+k) 0) (p.getD (lo+(l+r) / 2) 0)=true then(none,l,(l+r) / 2) else(none,(l+r) / 2+1,r))) (kF κ it p pend g) s→kasC (model prog w) A E (body x (none,l,r)) R (kF κ it p pend g) s){R:Option Bool×Nat×Nat→SortSt→Shared→Prop}:∀(f a l r:Nat),r≤k→(∀r',R (none,place p lo k f l r,r') (kF κ it p pend g) s)→kasC (model prog w) A E (forIn (List.range' a f) (none,l,r) body) R (kF κ it p pend g) s
  |0,a,l,r,hr,h=>UU rfl (h r)
  |f+1,a,l,r,hr,h=>by
   refine dM rfl ?_;by_cases q:l≥r
   · have e:place p lo k (f+1) l r=l:=by unfold place;rw[ay q]
     rw[e] at h;exact h1 a l r _ q (h r)
   · refine h2 a l r _ (by omega) hr ?_;by_cases c:kf (p.getD (lo+k) 0) (p.getD (lo+(l+r) / 2) 0)=true
     · rw[ay c];have e:place p lo k (f+1) l r=place p lo k f l ((l+r) / 2):=by rw[zL,aZ q,ay c]
       rw[e] at h;exact Eh h1 h2 f (a+1) l ((l+r) / 2) (by omega) h
     · rw[aZ c];have e:place p lo k (f+1) l r=place p lo k f ((l+r) / 2+1) r:=by rw[zL,aZ q,aZ c]
       rw[e] at h;exact Eh h1 h2 f (a+1) ((l+r) / 2+1) r hr h
theorem GF{pend:Array (Nat×Nat×Nat)}{g lo n:Nat}{body:Nat→Option Bool×Unit→StateT SortSt Sem (ForInStep (Option Bool×Unit))}(hb:∀(k:Nat) (p:Array Nat) (R:ForInStep (Option Bool×Unit)→SortSt→Shared→Prop),k<n→bq 64 p→R (.yield (none,())) (kF κ it (bubble p (lo+k) (lo+k-(lo+place p lo k k 0 k))) pend g) s→kasC (model prog w) A E (body k (none,())) R (kF κ it p pend g) s){R:Option Bool×Unit→SortSt→Shared→Prop}:∀(f k:Nat) (p:Array Nat),k+f≤n→bq 64 p→R (none,()) (kF κ it (uf lo f p k) pend g) s→kasC (model prog w) A E (forIn (List.range' k f) (none,()) body) R (kF κ it p pend g) s
  |0,k,p,_,_,h=>UU rfl h
  |f+1,k,p,hk,P,h=>by refine dM rfl (hb k p _ (by omega) P ?_);exact GF hb f (k+1) _ (by omega) P.bub h
theorem UW{g lo ok:Nat}{Q:Bool→SortSt→Shared→Prop}(S:yc prog w A κ it s)(P:bq 64 p)(hn:lo+n≤64)(cZ:max ok 1≤n)(h:Q true (kF κ it (uf lo (n-max ok 1) p (max ok 1)) pend g) s):kasC (model prog w) A E (binarySort' lo n ok) Q (kF κ it p pend g) s:=by
  rw[binarySort'_eq];refine kasC_bind (kasC_range ?_);refine GF (lo:=lo) (n:=n) (fun k p R hk P hR=>?_) (n-max ok 1) (max ok 1) p (by omega) P ?_
  · refine kasC_bind (kasC_range ?_);refine Eh (lo:=lo) (k:=k) (fun x l r R' hlr X5=>?_) (fun x l r R' hlr hr X5=>?_) (k-0) 0 0 k (cw _) (fun r'=>?_)
    ·dsimp only;rw[ay hlr];exact kasC_pure X5
    · dsimp only;rw[aZ (by omega)];refine kasC_bind (Pu S P (by omega) (by omega) ?_);dsimp only;by_cases c:kf (p.getD (lo+k) 0) (p.getD (lo+(l+r) / 2) 0)=true
      ·rw[ay c] at X5⊢;exact kasC_pure X5
      ·rw[aZ c] at X5⊢;exact kasC_pure X5
    ·dsimp only;refine kasC_bind (WZ (kasC_pure ?_));rw[Nat.sub_zero];exact hR
  ·exact kasC_pure h
theorem rE{b:Bool}{g:Nat}{Q:Option Bool→SortSt→Shared→Prop}(S:yc prog w A κ it s)(P:bq 64 p)(hi:i<64)(hj:j<64)(e:kf (p.getD i 0) (p.getD j 0)=b)(h:Q (some b) (kF κ it p pend g) s):kasC (model prog w) A E (ltAt' i j) Q (kF κ it p pend g) s:=by subst e;exact Pu S P hi hj h
theorem acI:uf 0 28 GD 4=Io:=by decide +kernel
theorem acJ:uf 32 28 Io 4=gB:=by decide +kernel
theorem UX:bq 64 GD:=⟨Array.Perm.refl _⟩
theorem UY:bq 64 Io:=⟨Dg.mpr (by decide +kernel)⟩
theorem qD:bq 64 gB:=⟨Dg.mpr (by decide +kernel)⟩
theorem ZI:bq 64 Bx:=⟨Dg.mpr (by decide +kernel)⟩
theorem Pw{lo:Nat}{g:Nat}{Q:Option Nat→SortSt→Shared→Prop}(S:yc prog w A κ it s)(P:bq 64 p)(hn:lo+(n+5)≤64)(e1:kf (p.getD (lo+1) 0) (p.getD (lo+1-1) 0)=false)(e2:kf (p.getD (lo+(1+1)) 0) (p.getD (lo+(1+1)-1) 0)=false)(e3:kf (p.getD (lo+(1+1+1)) 0) (p.getD (lo+(1+1+1)-1) 0)=false)(e4:kf (p.getD (lo+(1+1+1+1)) 0) (p.getD (lo+(1+1+1+1)-1) 0)=true)(e5:kf (p.getD lo 0) (p.getD (lo+(1+1+1+1)-1) 0)=true)(h:Q (some 4) (kF κ it p pend g) s):kasC (model prog w) A E (countRun' lo (n+5)) Q (kF κ it p pend g) s:=by
  rw[countRun'_eq];refine kasC_bind (kasC_range ?_);refine dM (m:=n+3) (by omega) (kasC_bind (rE S P (by omega) (by omega) e1 (kasC_pure ?_)));refine dM (m:=n+2) (by omega) (kasC_bind (rE S P (by omega) (by omega) e2 (kasC_pure ?_)));refine dM (m:=n+1) (by omega) (kasC_bind (rE S P (by omega) (by omega) e3 (kasC_pure ?_)));refine dM (m:=n) (by omega) (kasC_bind (rE S P (by omega) (by omega) e4 (kasC_pure ?_)));dsimp only;rw[aZ (by simp),ay (by decide)];refine kasC_bind (rE S P (by omega) (by omega) e5 ?_);exact kasC_pure h
end
section
variable {prog:Program} {w:World} {A:Around} {E:nD} {κ:SortKind} {it:Array Keyed} {s:Shared} {σ:Type}
theorem Ct{b:Bool}{y:Nat}{g:Nat}{Q:Option Bool→SortSt→Shared→Prop}(S:yc prog w A κ it s)(P:bq 64 p)(hi:i<64)(hy:y<64)(e:kf y (p.getD i 0)=b)(h:Q (some (!b)) (kF κ it p pend g) s):kasC (model prog w) A E (elem' (p.map (kas_item it)) i>>=fun x=>if false=true then lt' x (kas_item it y) else lt' (kas_item it y) x>>=fun r=>pure (Option.map (fun x=>!x) r)) Q (kF κ it p pend g) s:=by
  refine kasC_bind (gC (by rw[P.size];exact hi) ?_);rw[aZ (by decide)];refine kasC_bind (Ip S hy (P.lt (by decide) _) (kasC_pure ?_));subst e;exact h
theorem Cu{b:Bool}{y:Nat}{g:Nat}{Q:Option Bool→SortSt→Shared→Prop}(S:yc prog w A κ it s)(P:bq 64 p)(hi:i<64)(hy:y<64)(e:kf (p.getD i 0) y=b)(h:Q (some b) (kF κ it p pend g) s):kasC (model prog w) A E (elem' (p.map (kas_item it)) i>>=fun x=>if true=true then lt' x (kas_item it y) else lt' (kas_item it y) x>>=fun r=>pure (Option.map (fun x=>!x) r)) Q (kF κ it p pend g) s:=by
  refine kasC_bind (gC (by rw[P.size];exact hi) ?_);rw[ay rfl];refine Ip S (P.lt (by decide) _) hy ?_;subst e;exact h
theorem W0{g:Nat}{Q:Option Nat→SortSt→Shared→Prop}(S:yc prog w A κ it s)(h:Q (some 6) (kF κ it gB pend g) s):kasC (model prog w) A E (Ks false (kas_item it (gB.getD 32 0)) (gB.map (kas_item it)) 0 32 0) Q (kF κ it gB pend g) s:=by refine kasC_bind (Ct (b:=false) S qD (by decide) (by decide) (by decide) ?_);dsimp only;rw[ay (by decide)];refine kasC_bind (kasC_range (dM (m:=31) rfl ?_));dsimp only;rw[aZ (by decide)];refine kasC_bind (Ct (b:=false) S qD (by decide) (by decide) (by decide) ?_);dsimp only;rw[aZ (by decide)];refine kasC_pure (dM (m:=30) rfl ?_);dsimp only;rw[aZ (by decide)];refine kasC_bind (Ct (b:=false) S qD (by decide) (by decide) (by decide) ?_);dsimp only;rw[aZ (by decide)];refine kasC_pure (dM (m:=29) rfl ?_);dsimp only;rw[aZ (by decide)];refine kasC_bind (Ct (b:=true) S qD (by decide) (by decide) (by decide) ?_);dsimp only;rw[ay (by decide)];refine kasC_pure ?_;dsimp only;refine kasC_bind (kasC_range (dM (m:=31) rfl ?_));dsimp only;rw[aZ (by decide)];refine kasC_bind (Ct (b:=false) S qD (by decide) (by decide) (by decide) ?_);dsimp only;rw[ay (by decide)];refine kasC_pure (dM (m:=30) rfl ?_);dsimp only;rw[aZ (by decide)];refine kasC_bind (Ct (b:=true) S qD (by decide) (by decide) (by decide) ?_);dsimp only;rw[aZ (by decide)];refine kasC_pure (dM (m:=29) rfl ?_);dsimp only;rw[ay (by decide)];refine kasC_pure ?_;dsimp only;exact kasC_pure h
theorem W2{g:Nat}{Q:Option Nat→SortSt→Shared→Prop}(S:yc prog w A κ it s)(h:Q (some 26) (kF κ it gB pend g) s):kasC (model prog w) A E (Ks true (kas_item it (gB.getD 31 0)) (gB.map (kas_item it)) 32 32 31) Q (kF κ it gB pend g) s:=by refine kasC_bind (Cu (b:=false) S qD (by decide) (by decide) (by decide) ?_);dsimp only;rw[aZ (by decide)];refine kasC_bind (kasC_range (dM (m:=31) rfl ?_));dsimp only;rw[aZ (by decide)];refine kasC_bind (Cu (b:=false) S qD (by decide) (by decide) (by decide) ?_);dsimp only;rw[aZ (by decide)];refine kasC_pure (dM (m:=30) rfl ?_);dsimp only;rw[aZ (by decide)];refine kasC_bind (Cu (b:=false) S qD (by decide) (by decide) (by decide) ?_);dsimp only;rw[aZ (by decide)];refine kasC_pure (dM (m:=29) rfl ?_);dsimp only;rw[aZ (by decide)];refine kasC_bind (Cu (b:=true) S qD (by decide) (by decide) (by decide) ?_);dsimp only;rw[ay (by decide)];refine kasC_pure ?_;dsimp only;refine kasC_bind (kasC_range (dM (m:=31) rfl ?_));dsimp only;rw[aZ (by decide)];refine kasC_bind (Cu (b:=false) S qD (by decide) (by decide) (by decide) ?_);dsimp only;rw[aZ (by decide)];refine kasC_pure (dM (m:=30) rfl ?_);dsimp only;rw[aZ (by decide)];refine kasC_bind (Cu (b:=true) S qD (by decide) (by decide) (by decide) ?_);dsimp only;rw[ay (by decide)];refine kasC_pure (dM (m:=29) rfl ?_);dsimp only;rw[ay (by decide)];refine kasC_pure ?_;dsimp only;exact kasC_pure h
end
def gO:Array Nat:=#[3,5,9,17,6,10,18,12,20,24,7,11,19,13,21,25,14,22,26,28,15,23,27,29,30,31]
def gf:Array Nat:=#[32,33,34,36,40,48,35,37,41,49,38,42,50,44,52,56,39,43,51,45,53,57,46,54,58,60]
theorem Px:gB.extract 6 32=gO:=by decide +kernel
theorem Py:gB.extract 32 58=gf:=by decide +kernel
def joined:Nat→Array Nat→Nat→Nat→Nat→Nat→Option (Array Nat)
  |0,_,_,_,_,_=>none
  |f+1,o,ia,ib,ac,bc =>
   if kf (gf.getD ib 0) (gO.getD ia 0)=true then(if ib+1=26 then some (o.push (gf.getD ib 0)++gO.extract ia 26++gf.extract (ib+1) 26) else if bc+1≥7 then none else joined f (o.push (gf.getD ib 0)) ia (ib+1) 0 (bc+1))
   else if ia+1+1=26 then some (o.push (gO.getD ia 0)++gf.extract ib 26++gO.extract (ia+1) 26) else if ac+1≥7 then none else joined f (o.push (gO.getD ia 0)) (ia+1) ib (ac+1) 0
def ny:Array Nat:=#[32,3,5,9,17,33,6,10,18,34,12,20,36,24,40,48,7,11,19,35,13,21,37,25,41,49,14,22,38,26,42,50,28,44,52,56,15,23,39,27,43,51,29,45,53,57,30,46,54,58,60,31]
theorem Mv:joined 52 #[32] 0 1 0 0=some ny:=by decide +kernel
section
variable {prog:Program} {w:World} {A:Around} {E:nD} {κ:SortKind} {it:Array Keyed} {s:Shared} {σ:Type}
theorem zM{st:SortSt}{body:Nat→Option (Array Keyed)×Array Keyed×Nat×Nat×Nat×Nat→StateT SortSt Sem (ForInStep (Option (Array Keyed)×Array Keyed×Nat×Nat×Nat×Nat))}(b1:∀x (o:Array Nat) ia ib ac bc (R:ForInStep (Option (Array Keyed)×Array Keyed×Nat×Nat×Nat×Nat)→SortSt→Shared→Prop),ia+1<26→ib<26→kf (gf.getD ib 0) (gO.getD ia 0)=true→ib+1=26→(∀r,R (.done (some ((o.push (gf.getD ib 0)++gO.extract ia 26++gf.extract (ib+1) 26).map (kas_item it)),r)) st s)→kasC (model prog w) A E (body x (none,o.map (kas_item it),ia,ib,ac,bc)) R st s)(b2:∀x (o:Array Nat) ia ib ac bc (R:ForInStep (Option (Array Keyed)×Array Keyed×Nat×Nat×Nat×Nat)→SortSt→Shared→Prop),ia+1<26→ib<26→kf (gf.getD ib 0) (gO.getD ia 0)=true→¬ ib+1=26→¬ bc+1≥7→R (.yield (none,(o.push (gf.getD ib 0)).map (kas_item it),ia,ib+1,0,bc+1)) st s→kasC (model prog w) A E (body x (none,o.map (kas_item it),ia,ib,ac,bc)) R st s)(a1:∀x (o:Array Nat) ia ib ac bc (R:ForInStep (Option (Array Keyed)×Array Keyed×Nat×Nat×Nat×Nat)→SortSt→Shared→Prop),ia+1<26→ib<26→¬ kf (gf.getD ib 0) (gO.getD ia 0)=true→ia+1+1=26→(∀r,R (.done (some ((o.push (gO.getD ia 0)++gf.extract ib 26++gO.extract (ia+1) 26).map (kas_item it)),r)) st s)→kasC (model prog w) A E (body x (none,o.map (kas_item it),ia,ib,ac,bc)) R st s)(a2:∀x (o:Array Nat) ia ib ac bc (R:ForInStep (Option (Array Keyed)×Array Keyed×Nat×Nat×Nat×Nat)→SortSt→Shared→Prop),ia+1<26→ib<26→¬ kf (gf.getD ib 0) (gO.getD ia 0)=true→¬ ia+1+1=26→¬ ac+1≥7→R (.yield (none,(o.push (gO.getD ia 0)).map (kas_item it),ia+1,ib,ac+1,0)) st s→kasC (model prog w) A E (body x (none,o.map (kas_item it),ia,ib,ac,bc)) R st s){R:Option (Array Keyed)×Array Keyed×Nat×Nat×Nat×Nat→SortSt→Shared→Prop}{out:Array Nat}(hR:∀r,R (some (out.map (kas_item it)),r) st s):∀(f a:Nat) (o:Array Nat) (ia ib ac bc:Nat),ia+1<26→ib<26→joined f o ia ib ac bc=some out→kasC (model prog w) A E (forIn (List.range' a f) (none,o.map (kas_item it),ia,ib,ac,bc) body) R st s
  |0,_,_,_,_,_,_,_,_,h=>nomatch h
  |f+1,a,o,ia,ib,ac,bc,h1,h2,h=>by
   refine dM rfl ?_;unfold joined at h;by_cases c:kf (gf.getD ib 0) (gO.getD ia 0)=true
   · rw[ay c] at h;by_cases e:ib+1=26
     ·rw[ay e] at h;cases h;exact b1 a o ia ib ac bc _ h1 h2 c e hR
     · rw[aZ e] at h;by_cases q:bc+1≥7
       ·rw[ay q] at h;cases h
       ·rw[aZ q] at h;exact b2 a o ia ib ac bc _ h1 h2 c e q (zM b1 b2 a1 a2 hR f (a+1) _ ia (ib+1) 0 (bc+1) h1 (by omega) h)
   · rw[aZ c] at h;by_cases e:ia+1+1=26
     ·rw[ay e] at h;cases h;exact a1 a o ia ib ac bc _ h1 h2 c e hR
     · rw[aZ e] at h;by_cases q:ac+1≥7
       ·rw[ay q] at h;cases h
       ·rw[aZ q] at h;exact a2 a o ia ib ac bc _ h1 h2 c e q (zM b1 b2 a1 a2 hR f (a+1) _ (ia+1) ib (ac+1) 0 (by omega) h2 h)
theorem small(hp:∀x∈p.toList,x<64)(i:Nat):p.getD i 0<64:=by
  by_cases h:i<p.size
  · have e:p.getD i 0=p[i]:=by simp[Array.getD,h]
    rw[e];exact hp _ (by simp)
  · have e:p.getD i 0=0:=by simp[Array.getD,h]
    rw[e];decide
theorem sA(i:Nat):gO.getD i 0<64:=small (by decide) i
theorem sB(i:Nat):gf.getD i 0<64:=small (by decide) i
theorem szA:(gO.map (kas_item it)).size=26:=by rw[Array.size_map];rfl
theorem szB:(gf.map (kas_item it)).size=26:=by rw[Array.size_map];rfl
end
section
variable {prog:Program} {w:World} {A:Around} {E:nD} {κ:SortKind} {it:Array Keyed} {s:Shared} {σ:Type}
theorem Pz{x:Nat}:(#[kas_item it x]:Array Keyed)=(#[x]:Array Nat).map (kas_item it):=by simp
theorem Mw{Q:Array Keyed→SortSt→Shared→Prop}(S:yc prog w A κ it s)(h:Q (ny.map (kas_item it)) (kF κ it gB pend 7) s):kasC (model prog w) A E (Pt (gO.map (kas_item it)) (gf.map (kas_item it))) Q (kF κ it gB pend 7) s:=by
  refine kasC_bind (kasC_lift (wpAny_rule ?_));dsimp only;rw[szA,szB];refine kasC_bind (gC (p:=gf) (by decide) ?_);rw[aZ (by decide),aZ (by decide)];refine kasC_bind (kasC_get ?_);refine kasC_bind (kasC_range (dM (m:=51) rfl ?_));dsimp only;refine kasC_bind (kasC_range ?_);rw[Pz];refine zM (st:=kF κ it gB pend 7) (out:=ny) ?b1 ?b2 ?a1 ?a2 ?fin 52 0 #[gf.getD 0 0] 0 1 0 0 (by decide) (by decide) Mv
  case fin =>
    intro r;dsimp only;exact kasC_pure (kasC_pure h)
  case b1 =>
    intro x o ia ib ac bc R h1 h2 c e hR;dsimp only;refine kasC_bind (gC (p:=gf) h2 (kasC_bind (gC (p:=gO) (Nat.lt_of_succ_lt h1) (kasC_bind (Ip S (sB _) (sA _) ?_)))));dsimp only;rw[ay c];refine kasC_bind (gC (p:=gf) h2 ?_);rw[ay (beq_iff_eq.mpr e)];refine kasC_pure ?_;rw[←Array.map_push,←Array.map_extract,←Array.map_extract,←Array.map_append,←Array.map_append];exact hR _
  case b2 =>
    intro x o ia ib ac bc R h1 h2 c e q hR;dsimp only;refine kasC_bind (gC (p:=gf) h2 (kasC_bind (gC (p:=gO) (Nat.lt_of_succ_lt h1) (kasC_bind (Ip S (sB _) (sA _) ?_)))));dsimp only;rw[ay c];refine kasC_bind (gC (p:=gf) h2 ?_);rw[aZ (fun z=>e (beq_iff_eq.mp z)),aZ (show ¬ bc+1≥gallopOf (kF κ it gB pend 7) from q)];refine kasC_pure ?_;rw[←Array.map_push];exact hR
  case a1 =>
    intro x o ia ib ac bc R h1 h2 c e hR;dsimp only;refine kasC_bind (gC (p:=gf) h2 (kasC_bind (gC (p:=gO) (Nat.lt_of_succ_lt h1) (kasC_bind (Ip S (sB _) (sA _) ?_)))));dsimp only;rw[aZ c];refine kasC_bind (gC (p:=gO) (Nat.lt_of_succ_lt h1) ?_);rw[ay (beq_iff_eq.mpr e)];refine kasC_pure ?_;rw[←Array.map_push,←Array.map_extract,←Array.map_extract,←Array.map_append,←Array.map_append];exact hR _
  case a2 =>
    intro x o ia ib ac bc R h1 h2 c e q hR;dsimp only;refine kasC_bind (gC (p:=gf) h2 (kasC_bind (gC (p:=gO) (Nat.lt_of_succ_lt h1) (kasC_bind (Ip S (sB _) (sA _) ?_)))));dsimp only;rw[aZ c];refine kasC_bind (gC (p:=gO) (Nat.lt_of_succ_lt h1) ?_);rw[aZ (fun z=>e (beq_iff_eq.mp z)),aZ (show ¬ ac+1≥gallopOf (kF κ it gB pend 7) from q)];refine kasC_pure ?_;rw[←Array.map_push];exact hR
end
def putAt(k:Nat)(l:List Nat)(p:Array Nat):Array Nat:=l.zipIdx.foldl (fun a x=>a.setIfInBounds (k+x.2) x.1) p
theorem W3:putAt 6 ny.toList gB=Bx:=by decide +kernel
section
variable {prog:Program} {w:World} {A:Around} {E:nD} {κ:SortKind} {it:Array Keyed} {s:Shared} {σ:Type}
theorem Kt{α β:Type}(f:α→β)(k:Nat):∀(l:List α) (n:Nat) (p:Array α),((l.map f).zipIdx n).foldl (fun(a:Array β) (x:β×Nat)=>a.setIfInBounds (k+x.2) x.1) (p.map f)=((l.zipIdx n).foldl (fun(a:Array α) (x:α×Nat)=>a.setIfInBounds (k+x.2) x.1) p).map f
  |[],n,p=>rfl
  |x::l,n,p=>by
   rw[bY,List.zipIdx_cons,List.zipIdx_cons,xW,xW];have e:(p.map f).setIfInBounds (k+n) (f x)=(p.setIfInBounds (k+n) x).map f:=by apply Array.toList_inj.mp;rw[Array.toList_setIfInBounds,Array.toList_map,Array.toList_map,Array.toList_setIfInBounds,List.map_set]
   show((l.map f).zipIdx (n+1)).foldl _ ((p.map f).setIfInBounds (k+n) (f x))=_;rw[e];exact Kt f k l (n+1) _
theorem Ku{st st':σ}{Q:PUnit→σ→Shared→Prop}(h:Q ⟨⟩ st' s):kasC (model prog w) A E (set st':StateT σ Sem PUnit) Q st s:=by unfold kasC;rw[StateT.run_set];exact cX h
theorem Mx{Q:Bool→SortSt→Shared→Prop}{pw:Nat}(S:yc prog w A κ it s)(h:Q true (kF κ it Bx #[(0,64,pw)] 7) s):kasC (model prog w) A E (mergeAt' 0) Q (kF κ it gB #[(0,32,pw),(32,32,0)] 7) s:=by
  refine kasC_bind (kasC_get ?_);rw[show(pendingOf (kF κ it gB #[(0,32,pw),(32,32,0)] 7))[0]?=some (0,32,pw) from rfl,show(pendingOf (kF κ it gB #[(0,32,pw),(32,32,0)] 7))[0+1]?=some (32,32,0) from rfl];dsimp only;have ep:((pendingOf (kF κ it gB #[(0,32,pw),(32,32,0)] 7)).setIfInBounds 0 (0,32+32,pw)).eraseIdxIfInBounds (0+1)=#[(0,64,pw)]:=by show((#[(0,32,pw),(32,32,0)]:Array (Nat×Nat×Nat)).setIfInBounds 0 (0,32+32,pw)).eraseIdxIfInBounds (0+1)=#[(0,64,pw)];simp
  rw[ep];refine kasC_bind (Ku (st':=kF κ it gB #[(0,64,pw)] 7) ?_);refine kasC_bind (gC (p:=gB) (by decide) ?_);refine kasC_bind (W0 S ?_);dsimp only;rw[aZ (by decide)];refine kasC_bind (gC (p:=gB) (by decide) ?_);refine kasC_bind (W2 S ?_);dsimp only;rw[aZ (by decide),ay (by decide)];have eA:(arrOf (kF κ it gB #[(0,32,pw),(32,32,0)] 7)).extract (0+6) 32=gO.map (kas_item it):=by rw[←Px];exact Array.map_extract.symm
  have eB:(arrOf (kF κ it gB #[(0,32,pw),(32,32,0)] 7)).extract 32 (32+26)=gf.map (kas_item it):=by rw[←Py];exact Array.map_extract.symm
  rw[eA,eB];refine kasC_bind (Mw S ?_);refine kasC_bind (kasC_modify ?_);refine kasC_bind (kasC_get ?_);refine kasC_pure ?_;have e2:(ny.map (kas_item it)).toList.zipIdx.foldl (fun(a:Array Keyed) (x:Keyed×Nat)=>a.setIfInBounds (0+6+x.2) x.1) (gB.map (kas_item it))=Bx.map (kas_item it):=by rw[Array.toList_map,Kt,←W3];rfl
  show Q true (SortSt.mk' κ ((ny.map (kas_item it)).toList.zipIdx.foldl (fun(a:Array Keyed) (x:Keyed×Nat)=>a.setIfInBounds (0+6+x.2) x.1) (gB.map (kas_item it))) #[(0,64,pw)] 7 none) s;rw[e2];exact h
theorem W4{Q:Unit→SortSt→Shared→Prop}(S:yc prog w A κ it s)(h:∀pend,Q () (kF κ it Bx pend 7) s):kasC (model prog w) A E sortRuns' Q (kF κ it GD #[] 7) s:=by
  rw[sortRuns'_eq];refine kasC_bind (kasC_get ?_);have hsz:(arrOf (kF κ it GD #[] 7)).size=64:=by show(GD.map (kas_item it)).size=64;rw[Array.size_map];rfl
  have hmr:minRun' 64 64 0=32:=rfl;dsimp only;rw[hsz,hmr];refine kasC_bind (kasC_range (dM (m:=63) rfl ?_));dsimp only;rw[aZ (by decide)];refine kasC_bind (Pw (n:=59) S UX (by decide) (by decide) (by decide) (by decide) (by decide) (by decide) ?_);dsimp only;rw[ay (by decide)];refine kasC_bind (kasC_lift (wpAny_rule ?_));refine kasC_bind (UW S UX (by decide) (by decide) ?_);rw[show uf 0 (min (64-0) 32-max 4 1) GD (max 4 1)=Io from acI];rw[aZ (by decide)];refine kasC_bind (kasC_get ?_);rw[show(pendingOf (kF κ it Io #[] 7)).back?=none from rfl];dsimp only;refine kasC_bind (kasC_modify (kasC_pure ?_));show kasC _ _ _ (forIn (List.range' (0+1) 63) (none,32) _) _ (kF κ it Io #[(0,32,0)] 7) _;refine dM (m:=62) rfl ?_;dsimp only;rw[aZ (by decide)];refine kasC_bind (Pw (n:=27) S UY (by decide) (by decide) (by decide) (by decide) (by decide) (by decide) ?_);dsimp only;rw[ay (by decide)];refine kasC_bind (kasC_lift (wpAny_rule ?_));refine kasC_bind (UW S UY (by decide) (by decide) ?_);rw[show uf 32 (min (64-32) 32-max 4 1) Io (max 4 1)=gB from acJ];rw[aZ (by decide)];refine kasC_bind (kasC_get ?_);rw[show(pendingOf (kF κ it gB #[(0,32,0)] 7)).back?=some (0,32,0) from rfl];dsimp only;refine kasC_bind (kasC_range (dM (m:=63) rfl ?_));refine kasC_bind (kasC_get ?_);rw[aZ (show ¬ (pendingOf (kF κ it gB #[(0,32,0)] 7)).size>1 from by show ¬ 1>1;decide)];dsimp only;refine kasC_pure ?_;dsimp only;generalize power' 64 (2*0+32) (2*0+32+32+min (64-32) 32) 64=pw;refine kasC_bind (kasC_modify (kasC_bind (kasC_modify (kasC_pure ?_))));have ep:((pendingOf (kF κ it gB #[(0,32,0)] 7)).modify ((pendingOf (kF κ it gB #[(0,32,0)] 7)).size-1) fun x=>(x.fst,x.2.fst,pw)).push (32,min (64-32) 32,0)=#[(0,32,pw),(32,32,0)]:=by show(((#[(0,32,0)]:Array (Nat×Nat×Nat)).modify (1-1) fun x=>(x.fst,x.2.fst,pw)).push (32,min (64-32) 32,0))=#[(0,32,pw),(32,32,0)];simp[Array.modify,Array.modifyM]
  dsimp only;show kasC _ _ _ (forIn (List.range' (0+1+1) 62) (none,64) _) _ (SortSt.mk' κ (gB.map (kas_item it)) (((pendingOf (kF κ it gB #[(0,32,0)] 7)).modify ((pendingOf (kF κ it gB #[(0,32,0)] 7)).size-1) fun x=>(x.fst,x.2.fst,pw)).push (32,min (64-32) 32,0)) 7 none) _;rw[ep];refine dM (m:=61) rfl ?_;dsimp only;rw[ay (by decide)];refine kasC_pure ?_;dsimp only;refine kasC_bind (kasC_range (dM (m:=63) rfl ?_));refine kasC_bind (kasC_get ?_);rw[aZ (show ¬ (pendingOf (SortSt.mk' κ (gB.map (kas_item it)) #[(0,32,pw),(32,32,0)] 7 none)).size≤1 from by show ¬ 2≤1;decide)];refine kasC_bind ?_;show kasC _ _ _ (mergeAt' 0) _ (kF κ it gB #[(0,32,pw),(32,32,0)] 7) _;refine Mx S ?_;rw[aZ (by decide)];refine kasC_pure ?_;dsimp only;refine dM (m:=62) rfl ?_;refine kasC_bind (kasC_get ?_);rw[ay (show(pendingOf (kF κ it Bx #[(0,64,pw)] 7)).size≤1 from cw 1)];refine kasC_pure ?_;dsimp only;exact kasC_pure (h _)
end
end Sl
namespace L2
open PySem PySem.Spec PyProof.Rows PySem.W Sl
section
variable {prog:Program} {w:World} {A:Around} {E:nD} {s:Shared}
theorem zN{kS:Addr}{st:SortSt}{e e1:Nat}{out:dO}{P:PySem.Fin→Shared→Prop}(Ss:(arrOf st).map (·.2)=List.toArray out)(hz:out.length≤64)(hkz:ks.length≤64)(hf:failedOf st=none)(hE:a≠kS)(hk:s.heap.get? kS=some (seqObj "list" ks.toArray e))(ha:s.heap.get? a=some (seqObj "list" #[] e1))(h:∀h3 h4 ck c2,Heap.SameBut kS s.heap h3→h3.get? kS=some (seqObj "list" #[] ck)→Heap.SameBut a h3 h4→h4.get? a=some (seqObj "list" out.toArray c2)→P (.done (.ret .none)) { s with heap:=h4 }):wpAny (model prog w) A (ksk_tail a false e1 (.ref kS) st) P E s:=by
  have s1:=v7 s.heap kS (Obj.mapSeq fun _=>(#[]:Array Value));obtain⟨ck,hck⟩:∃ck,(s.heap.update kS (Obj.mapSeq fun _=>(#[]:Array Value))).get? kS=some (seqObj "list" #[] ck):=⟨_,get?_update_seq hk fun _=>#[]⟩
  have na:(s.heap.update kS (Obj.mapSeq fun _=>(#[]:Array Value))).get? a=some (seqObj "list" #[] e1):=by rw[s1.2 a hE];exact ha
  have s2:=v7 (s.heap.update kS (Obj.mapSeq fun _=>(#[]:Array Value))) a (Obj.mapSeq fun _=>List.toArray out);obtain⟨c2,HD⟩:∃c2,((s.heap.update kS (Obj.mapSeq fun _=>(#[]:Array Value))).update a (Obj.mapSeq fun _=>List.toArray out)).get? a=some (seqObj "list" (List.toArray out) c2):=⟨_,get?_update_seq na fun _=>List.toArray out⟩
  have hsz:(List.toArray out).size=out.length:=by rw[j3]
  unfold ksk_tail
  try dsimp only
  rw[Ss];simp only[t5,mZ];refine bh (listUpdate_at hk rfl ?_ (by rw[j3,jc];omega) (sZ _));refine bh (wpAny_letGo ?_);refine bh (seqEpoch_at na rfl ?_);refine bh (listUpdate_at na rfl ?_ (sZ _) (oQ (Nat.le_of_eq hsz) (by rw[jc];omega)));rw[hf];simp only[bne_self_eq_false,t5,mZ];exact cX (h _ _ ck c2 s1 hck s2 HD)
def GH(prog:Program)(w:World)(A:Around)(E:nD)(κ:SortKind)(lt:Nat→Nat→Bool)(ks vs:dO)(s:Shared):Prop:=∀Q:Unit×SortSt→Shared→Prop,
  (∀(p:Array Nat) (st':SortSt),arrOf st'=p.map (kas_item (ks.toArray.zip vs.toArray))→failedOf st'=none→bq vs.length p→Up lt p vs.length→Q ((),st') s)→wpAny (model prog w) A (sortRuns'.run (SortSt.mk' κ (ks.toArray.zip vs.toArray) #[] 7 none)) Q E s
def W5(prog:Program)(w:World)(A:Around)(κ:SortKind)(lt:Nat→Nat→Bool)(ks:dO)(s:Shared):Prop:=∀i j (C:Bool→Shared→Prop),i<ks.length→j<ks.length→C (lt i j) s→wpAny (model prog w) A (keyLt' κ (ks.getD i Value.none) (ks.getD j Value.none)) C (fun _ _=>False) s
theorem Cv{lt:Nat→Nat→Bool}{vs:dO}(hl:ks.length=vs.length)(h2:2≤vs.length)(yU:vs.length<64)(jO:W5 prog w A κ lt ks s)(hS:kO vs.length lt):GH prog w A E κ lt ks vs s:=by
  intro Q hQ;have hw:(kas_sort vs.length).kasWp (kas_ask prog w A κ ks) (fun p qQ=>bq vs.length p∧Up lt p vs.length∧qQ=s) s:=by
    refine Ol (S:=fun qQ=>qQ=s) (lt:=lt) (n:=vs.length) (P:=bq vs.length) (fun i j C qQ hi hj hs hc=>?_) _ _ (F6 (by omega)) rfl (fun qQ hs _=>?_)
    ·subst hs;exact jO i j C (by omega) (by omega) (hc _ rfl)
    ·obtain⟨q1,q2⟩:=JX hS h2;exact⟨q1,q2,hs⟩
  refine mY (kat_run (ks:=ks) (vs:=vs) (Q:=fun st' qQ=>∃p:Array Nat,arrOf st'=p.map (kas_item (ks.toArray.zip vs.toArray))∧failedOf st'=none∧bq vs.length p∧Up lt p vs.length∧qQ=s)
    hl h2 yU (fun p st' qQ _ e f g=>⟨p,e,f,g.1,g.2.1,g.2.2⟩) hw) ?_ fun _ _ e=>e
  rintro⟨⟨⟩,st'⟩ s' ⟨p,Zf,hf,hP,hU,rfl⟩;exact hQ p st' Zf hf hP hU
theorem GJ{vs:dO}(hl:ks.length=vs.length)(hi:i<ks.length):(kas_item (ks.toArray.zip vs.toArray) i).1=ks.getD i Value.none:=by
  have hv:i<vs.length:=by omega
  unfold kas_item;rw[Array.getD_eq_getD_getElem?,nE];have e:(ks.toArray.zip vs.toArray)[i]?=some (ks[i],vs[i]):=by rw[List.zip_toArray,List.getElem?_toArray,mS (by rw[List.length_zip];omega),List.getElem_zip]
  rw[e,mS hi];rfl
theorem upF:Up kf Bx 64:=by
  have h:((List.range 64).all fun i=>(List.range 64).all fun j=>!(Nat.blt i j)||kf (Bx.getD i 0) (Bx.getD j 0))=true:=by decide +kernel
  intro i j wq hj;have q:=iK.mp (iK.mp h i (mW.mpr (by omega))) j (mW.mpr hj);have e:Nat.blt i j=true:=by rw[Nat.blt_eq];exact wq
  rw[e] at q;simpa using q
theorem W6{vs:dO}(hl:ks.length=vs.length)(yU:vs.length=64)(jO:W5 prog w A κ kf ks s):GH prog w A E κ kf ks vs s:=by
  intro Q hQ;have hsz:(ks.toArray.zip vs.toArray).size=64:=by simp;omega
  have e0:SortSt.mk' κ (ks.toArray.zip vs.toArray) #[] 7 none=kF κ (ks.toArray.zip vs.toArray) GD #[] 7:=by have:=kas_range (ks.toArray.zip vs.toArray);rw[hsz] at this;unfold kF GD;rw[this]
  rw[e0];refine(W4 (Q:=fun r st' s'=>Q (r,st') s') (fun i j C hi hj hC=>?_) (fun pend=>?_):kasC (model prog w) A E sortRuns' _ _ s)
  ·show wpAny (model prog w) A (keyLt' κ (kas_item (ks.toArray.zip vs.toArray) i).1 (kas_item (ks.toArray.zip vs.toArray) j).1) C (fun _ _=>False) s;rw[GJ hl (by omega),GJ hl (by omega)];exact jO i j C (by omega) (by omega) hC
  · refine hQ Bx _ rfl rfl ?_ ?_
    ·rw[yU];exact ZI
    ·rw[yU];exact upF
theorem My(vs ks:dO)(h:vs.length<2)(hl:ks.length=vs.length):((ks.toArray.zip vs.toArray).map (·.2)).toList=vs:=by
  cases vs with
  |nil=>simp
  |cons v t =>
   cases t with
   |nil=>match ks,hl with|[k],_=>simp
   |cons _ _=>simp only[mU] at h;omega
theorem Mz{kS:Addr}{e e1:Nat}{vs:dO}{lt:Nat→Nat→Bool}{P:PySem.Fin→Shared→Prop}(hl:ks.length=vs.length)(yU:vs.length≤64)(hE:a≠kS)(hk:s.heap.get? kS=some (seqObj "list" ks.toArray e))(ha:s.heap.get? a=some (seqObj "list" #[] e1))(kind:2≤vs.length→∀Q:SortKind→Shared→Prop,Q κ s→wpAny (model prog w) A (keyKind' ks.toArray) Q E s)(W7:2≤vs.length→GH prog w A E κ lt ks vs s)(fin:∀p h3 h4 ck c2,bq vs.length p→Up lt p vs.length→Heap.SameBut kS s.heap h3→h3.get? kS=some (seqObj "list" #[] ck)→Heap.SameBut a h3 h4→h4.get? a=some (seqObj "list" (List.toArray (p.toList.map fun i=>vs.getD i Value.none)) c2)→P (.done (.ret .none)) { s with heap:=h4 }):wpAny (model prog w) A (ksk_end a false vs.toArray e1 (.ref kS) (List.toArray ks)) P E s:=by
  unfold ksk_end
  try dsimp only
  simp only[t5,mZ];by_cases h2:vs.toArray.size<2
  · rw[ay h2,ay h2];refine bh (cX ?_);rw[StateT.run_pure];refine bh (cX ?_);dsimp only;have Nq:vs.length<2:=by simpa using h2
    refine zN (ks:=ks) (out:=(List.range vs.length).map fun i=>vs.getD i Value.none) ?_ (by simp;omega) (by omega) rfl hE hk ha fun h3 h4 ck c2 a1 a2 a3 a4=>?_
    ·show(ks.toArray.zip vs.toArray).map (·.2)=_;apply Array.toList_inj.mp;rw[qW];exact My vs ks Nq hl
    ·refine fin (List.range vs.length).toArray h3 h4 ck c2 (bq.id _) (fun i j wq hj=>by omega) a1 a2 a3 ?_;simpa using a4
  · rw[aZ h2,aZ h2];have Nq:2≤vs.length:=by rw[j3] at h2;omega
    refine bh (kind Nq _ ?_);refine bh (W7 Nq _ fun p st' Zf hf hP hU=>?_);dsimp only;have Ou:p.toList.length=vs.length:=by rw[ou];exact hP.size
    refine zN (ks:=ks) (kat_snds hl Zf) (by rw[g9,Ou];exact yU) (by omega) hf hE hk ha fun h3 h4 ck c2 a1 a2 a3 a4=>fin p h3 h4 ck c2 hP hU a1 a2 a3 a4
theorem zO{vs:dO}{f:Value}{lt:Nat→Nat→Bool}{P:PySem.Fin→Shared→Prop}{J:Addr→Nat→dO→Nat→Shared→Prop}(ho:s.heap.get? a=some (seqObj "list" vs.toArray n))(yU:vs.length≤64)(init:∀kS e1 h',a≠kS→s.heap.objs.size≤kS→h'.get? kS=some (seqObj "list" #[] 0)→h'.get? a=some (seqObj "list" #[] e1)→(∀b o,b≠a→s.heap.get? b=some o→h'.get? b=some o)→J kS e1 [] 0 { s with heap:=h' })(get:∀kS e1 ks c s',J kS e1 ks c s'→a≠kS∧s'.heap.get? kS=some (seqObj "list" (List.toArray ks) c)∧s'.heap.get? a=some (seqObj "list" #[] e1))(step:∀kS e1 ks c s' x,J kS e1 ks c s'→vs[ks.length]?=some x→wpAny (model prog w) A (call f [x]) (fun k qQ=>qQ.heap.get? kS=some (seqObj "list" (List.toArray ks) c)∧∀h2 c2,Heap.SameBut kS qQ.heap h2→h2.get? kS=some (seqObj "list" (List.toArray (ks++[k])) c2)→J kS e1 (ks++[k]) c2 { qQ with heap:=h2 }) (fun _ _=>False) s')(kind:∀kS e1 ks c s',J kS e1 ks c s'→ks.length=vs.length→2≤vs.length→∀Q:SortKind→Shared→Prop,Q κ s'→wpAny (model prog w) A (keyKind' (List.toArray ks)) Q E s')(W7:∀kS e1 ks c s',J kS e1 ks c s'→ks.length=vs.length→2≤vs.length→GH prog w A E κ lt ks vs s')(fin:∀kS e1 ks c s' p h3 h4 ck c2,J kS e1 ks c s'→ks.length=vs.length→bq vs.length p→Up lt p vs.length→Heap.SameBut kS s'.heap h3→h3.get? kS=some (seqObj "list" #[] ck)→Heap.SameBut a h3 h4→h4.get? a=some (seqObj "list" (List.toArray (p.toList.map fun i=>vs.getD i Value.none)) c2)→P (.done (.ret .none)) { s' with heap:=h4 }):wpAny (model prog w) A (ksk_tree a f false) P E s:=by
  have ha:a<s.heap.objs.size:=dj ho;obtain⟨e1,Rr⟩:∃e1,(s.heap.update a (Obj.mapSeq fun _=>(#[]:Array Value))).get? a=some (seqObj "list" #[] e1):=⟨_,get?_update_seq ho fun _=>#[]⟩
  have hkS:((s.heap.update a (Obj.mapSeq fun _=>(#[]:Array Value))).push (seqObj "tuple" vs.toArray 0)).objs.size=s.heap.objs.size+1:=by rw[size_push',Heap.size_update]
  unfold ksk_tree;refine bh (listItems_at ho rfl ?_);refine bh (listUpdate_at ho rfl ?_ (by rw[j3,jc];omega) (sZ _));refine bh (seqEpoch_at Rr rfl ?_);refine bh (wpAny_newTuple ?_ (by show vs.length≤_;rw[jc];omega));refine bh (wpAny_newList ?_ (sZ _));refine wc ?_;have j0:=init _ e1 _ (by rw[hkS];exact fV (Nat.lt_succ_of_lt ha)) (by rw[hkS];exact Nat.le_succ _) (iu (((s.heap.update a (Obj.mapSeq fun _=>(#[]:Array Value))).push (seqObj "tuple" vs.toArray 0))) (o:=seqObj "list" #[] 0) rfl)
    (eu _ (eu _ Rr)) (fun b o hb e=>eu _ (eu _ (by rw[Heap.get?_update_ne _ _ _ _ hb];exact e)))
  show wpAny (model prog w) A (ksk_rest a f false vs.toArray e1 (.ref ((s.heap.update a (Obj.mapSeq fun _=>(#[]:Array Value))).push (seqObj "tuple" vs.toArray 0)).objs.size)) P E { s with heap:=((s.heap.update a (Obj.mapSeq fun _=>(#[]:Array Value))).push (seqObj "tuple" vs.toArray 0)).push (seqObj "list" #[] 0) };generalize ((s.heap.update a (Obj.mapSeq fun _=>(#[]:Array Value))).push (seqObj "tuple" vs.toArray 0)).objs.size=kS at j0⊢;generalize ({ s with heap:=((s.heap.update a (Obj.mapSeq fun _=>(#[]:Array Value))).push (seqObj "tuple" vs.toArray 0)).push (seqObj "list" #[] 0) }:Shared)=s1 at j0⊢;unfold ksk_rest;refine bh (wpAny_rule ?_)
  first
    |rw[List.forIn_toArray]
    |(rw[←Array.forIn_toList];simp only[List.toList_toArray])
    |rw[←Array.forIn_toList]
  refine bh (ksk_fold (fun i s'=>∃ks c,List.length ks=i∧J kS e1 ks c s') vs 0 s1 ⟨[],0,rfl,j0⟩ (fun j x s' hx hj=>?_) fun s' hd=>?_)
  · obtain⟨ks,c,hl,hJ⟩:=hj;have hjl:ks.length<64:=by
      have:j<vs.length:=by
        rcases Nat.lt_or_ge j vs.length with q|q
        ·exact q
        ·rw[A5 q] at hx;cases hx
      omega
    refine bh (wpAny_attempt (mY (step kS e1 ks c s' x hJ (by rw[hl,Nat.zero_add];exact hx)) (fun k qQ hk=>?_) fun _ _ hF=>hF.elim));obtain⟨hk,nx⟩:=hk;have sb:=v7 qQ.heap kS (Obj.mapSeq (·.push k));have ea:(List.toArray ks).push k=List.toArray (ks++[k]):=by simp
    obtain⟨c2,HD⟩:∃c2,(qQ.heap.update kS (Obj.mapSeq (·.push k))).get? kS=some (seqObj "list" (List.toArray (ks++[k])) c2):=⟨_,by rw[←ea];exact get?_update_seq hk (·.push k)⟩
    try dsimp only
    refine bh (listUpdate_at hk rfl ?_ (by rw[j3,jc];omega) (oQ (Nat.le_of_eq (Array.size_push ..)) (by rw[j3,jc];omega)));exact cX ⟨rfl,ks++[k],c2,by rw[kK,List.length_singleton,hl],nx _ c2 sb HD⟩
  · obtain⟨ks,c,hl,hJ⟩:=hd;rw[Nat.zero_add] at hl;obtain⟨hE,hk,Ro⟩:=get _ _ _ _ _ hJ
    try dsimp only
    refine bh (listItems_at hk rfl ?_);exact Mz hl yU hE hk Ro (fun h2=>kind _ _ _ _ _ hJ hl h2) (W7 _ _ _ _ _ hJ hl) fun p h3 h4 ck c2 b1 b2 b3 b4 b5 b6=>fin _ _ _ _ _ p h3 h4 ck c2 hJ hl b1 b2 b3 b4 b5 b6
end
section
variable {prog:Program} {w:World} {A:Around} {E:nD} {s:Shared} {d:Addr} {es:Array DictEntry} {ep:Nat}
theorem x8.at(x:x8 h d es ep)(k:∀o,h.get? d=some o→h'.get? d=some o):x8 h' d es ep:=let ⟨o,ho,r⟩:=x;⟨o,k _ ho,r⟩
theorem x8.lt(x:x8 h d es ep):d<h.objs.size:=let ⟨o,ho,r⟩:=x;dj ho
theorem MA(hh:A.handled=none)(I d:Addr)(hE:d≠I)(es:Array DictEntry)(ep:Nat) :
    Walks prog w A I [I,d] [I] es.size (fun i v=>∃e,es[i]?=some e∧v=e.key) (fun i h=>h.IsKeyIter I d i es.size ep∧x8 h d es ep) where
  sub:=fun b hb=>by simp at hb;simp[hb]
  frame:=fun _ _ _ st hk=>⟨st.1.at fun o e=>hk I (by simp) o e,st.2.at fun o e=>hk d (by simp) o e⟩
  item:=fun i s Q E hi st hQ=>by refine lN st.1 st.2 hi fun h' Bp FY=>?_;exact hQ _ h' s.toks ⟨_,A4 hi,rfl⟩ ⟨Bp,st.2.at fun o e=>FY.extBut d o hE e⟩ fun b o hb e=>FY.extBut b o (fun h=>hb (by simp[h])) e
  done:=fun s Q E st hQ=>mQ hh st.1 st.2 (cw _) fun h' ZG=>hQ h' s.toks fun b o hb e=>ZG b o (fun h=>hb (by simp[h])) e
  self:=fun _ _ _ _ st hQ=>wpAny_pyIter_keyiter st.1 hQ
theorem Tg(lo:(d==sysModules)=false):KdlSrc prog w "dict" d d es.size (fun i v=>∃e,es[i]?=some e∧v=e.key) (fun h=>x8 h d es ep) where
  type:=fun _ hm=>let ⟨o,ho,hc,_⟩:=hm;⟨o,ho,hc.1⟩
  there:=fun _ hm=>⟨hm.lt,hm.lt⟩
  keep:=fun _ _ hm hk=>hm.at fun o e=>hk d (.inl rfl) o e
  notList:=by decide
  notTuple:=by decide
  hint:=fun _ _ _ _ hm hq=>kdl_hint_dict (let ⟨o,ho,hc,_⟩:=hm;⟨o,ho,hc.1⟩) hq
  iter:=fun _ _ hh hm=>⟨_,_,(fun _ _ hq=>qB lo hm hq),MA hh _ d (fV hm.lt) es ep,⟨⟨_,iu _ rfl,rfl,rfl⟩,hm.at fun o e=>eu _ e⟩⟩
end
section
variable {X:Cx} {pins:kJ} {σ:St} {H:Hp} {s:Shared} {D:Addr} {o:HO}
theorem Inv.adopt(I:Inv X pins σ H s)(f:iw X pins H D)(h0:X.s₀.heap.objs.size≤D)(new:cx X.prog X.w (upd H D o) s.heap D o):Inv X pins σ (upd H D o) s where
  ok:=I.ok
  os:=I.os
  bare:=I.bare
  base :=
    { keep:=I.base.keep
      slot:=I.base.slot
      free:=fun b u q n hx=>by rw[aK (fV (oP (dj q) h0))];exact I.base.free b u q n hx
      there:=I.base.there
      qI:=fun b xs q=>by have:=I.base.qI b xs q;rw[aK (bN this f.1)];exact this
      wg:=fun b u xs q=>by have:=I.base.wg b u xs q;rw[aK (bN this f.1)];exact this
      wj:=fun b ps q=>by obtain⟨m,e⟩:=I.base.wj b ps q;exact⟨m,by rw[aK (bN e f.1)];exact e⟩ }
  loc:=I.loc
  cell:=I.cell
  free:=by rw[aK (fun z=>f.2.1 z.symm)];exact I.free
  j4:=fun x c e=>by rw[aK (f.2.2.2.2.1 x c e)];exact I.j4 x c e
  pin:=fun p hp=>by obtain⟨a1,a2,a3⟩:=I.pin p hp;exact⟨a1,by rw[aK (f.2.2.2.2.2 p hp)];exact a2,a3⟩
  cZ:=fun b u e=>by
    by_cases hb:b=D
    ·subst hb;rw[aL] at e;cases e;exact new
    ·rw[aK hb] at e;exact(I.cZ b u e).Be (fun c v _ q=>q) (fun c q=>by rw[aK (bN q f.1)];exact q) (fun c xs q=>by rw[aK (bN q f.1)];exact q) fun c q' r=>by rw[aK (bN r f.1)];exact r
  len:=I.len
theorem Inv.xH(I:Inv X pins σ H s){ob:Obj}(f:iw X pins H a)(ho:s.heap.get? a=some ob)(hc:∀v,ob.data≠.cell v):Inv X ((a,ob)::pins) σ H s:=by
  refine⟨I.ok,I.os,I.bare,I.base,I.loc,I.cell,I.free,I.j4,fun p hp=>?_,I.cZ,I.len⟩;rcases mV.mp hp with q|q
  ·exact I.pin p (A6 _ q)
  · rcases fR.mp q with rfl|q
    ·exact⟨ho,f.1,f.2.1,f.2.2.1,hc⟩
    ·exact I.pin p (jY _ q)
theorem Inv.ug{q:Addr×Obj}(I:Inv X (q::pins) σ H s):Inv X pins σ H s:=by
  refine⟨I.ok,I.os,I.bare,I.base,I.loc,I.cell,I.free,I.j4,fun p hp=>I.pin p ?_,I.cZ,I.len⟩;rcases mV.mp hp with z|z
  ·exact A6 _ z
  ·exact jY _ (ly _ z)
theorem PB{f:Addr}{ps:gs}{sp:Sp}{Q:VK}(C:fW X.prog X.w X.K X.mg X.base k f ps sp)(hr:fI k X.A.in1.in1)(I:Inv X pins σ H s)(r:Vals vs us)(h:sp vs H Q E0):wpAny (model X.prog X.w) X.A.in1.in1 (call (.ref f) us) (EP X pins σ Q) E s:=by
  obtain⟨fd,F,hb,kp⟩:=C.ex;have hl:us.length=ps.length:=by rw[←r.length];exact F.len _ _ _ _ h
  have e0:HC X.prog X.w X.K X.mg X.base X.A.in1.in1 X.stack s H:={ I.NV with frames:=I.NV.frames }
  have Fm:=hb s us I.xB (by simpa using hl);rw[uE] at Fm;refine wpAny_call (codeAny_mono (F.run X.A.in1.in1 X.stack s H ⟨us,[]⟩ us vs Q E0 hr e0 Fm r h) fun r s' hq=>?_);cases r with
  |error e=>exact False.elim hq
  |ok fl =>
   cases fl with
   |ret u=>exact I.after hq
   |_=>exact False.elim hq
end
end L2
namespace DL
open PySem PySem.Spec L2 PySem.W Sl
open PyProof.Rows hiding St pairAt
section
variable {X:Cx} {pins:kJ} {σ:St} {H:Hp} {s:Shared}
theorem MB{vk:List V}{Q:SortKind→Shared→Prop}(I:Inv X pins σ H s)(rv:Vals vk ks)(hp:Paired (pairAt H) vk ds)(h2:2≤ks.length)(hq:Q (tuples' true) s):wpAny (model X.prog X.w) A (keyKind' (List.toArray ks)) Q E s:=by
  have l1:vk.length=ks.length:=rv.length;have qI:∀(vl:dO),(∀v∈vl,∃a n t q,v=.ref a∧IsTup s.heap a [Value.int n t,Value.ref q].toArray)→∃fs:dO,KatTups s.heap vl fs∧fs.length=vl.length∧∀v∈fs,∃n t,v=.int n t:=by
    intro vl;induction vl with
    |nil=>intro _;exact⟨[],trivial,rfl,fun _ z=>nomatch z⟩
    |cons v r ih =>
     intro hv;obtain⟨a,n,t,q,rfl,o,e,c,m,dd⟩:=hv v cY;obtain⟨fs,k1,k2,k3⟩:=ih fun y hy=>hv y (ly _ hy);refine⟨.int n t::fs,⟨⟨a,o,_,m,rfl,e,c,dd,rfl⟩,k1⟩,by simp[k2],fun y hy=>?_⟩;rcases fR.mp hy with z|z
     ·exact⟨n,t,z⟩
     ·exact k3 y z
  obtain⟨fs,k1,k2,k3⟩:=qI ks (fun v hv=>by
    obtain⟨i,hi,rfl⟩:=List.mem_iff_getElem.mp hv;obtain⟨a,q,t,js,e1,e2,_⟩:=sF I (bp rv (by omega) V.non Value.none) (bp hp (i:=i) (by omega) V.non (0,[]));rw[nE,mS hi] at e1;exact⟨a,_,t,q,e1,e2⟩)
  refine kat_kind (T:=.type "int") k1 (by omega) (fun v hv=>?_) rfl ?_
  ·obtain⟨n,t,rfl⟩:=k3 v hv;exact Looks.of_pure rfl
  ·exact hq
theorem Ti{vk:List V}{C:Bool→Shared→Prop}(Wl:A.units<cLine)(I:Inv X pins σ H s)(rv:Vals vk ks)(hp:Paired (pairAt H) vk ds)(hi:i<ks.length)(hj:j<ks.length)(hc:C (pJ (ds.getD i (0,[])) (ds.getD j (0,[]))) s):wpAny (model X.prog X.w) A (keyLt' (tuples' true) (ks.getD i Value.none) (ks.getD j Value.none)) C (fun _ _=>False) s:=by
  have l1:vk.length=ks.length:=rv.length;obtain⟨a,q,t,js,e1,e2,e3,e4⟩:=sF I (bp rv (i:=i) (by omega) V.non Value.none) (bp hp (i:=i) (by omega) V.non (0,[]));obtain⟨b,q',t',js',f1,f2,f3,f4⟩:=sF I (bp rv (i:=j) (by omega) V.non Value.none) (bp hp (i:=j) (by omega) V.non (0,[]));rw[e1,f1];obtain⟨oa,ga,_,na,da⟩:=id e2;obtain⟨ob,gb,_,nb,db⟩:=id f2;refine kat_lt ga da gb db ?_;refine kat_cons (SeqAt.EqAt.int_int _ _ _ _ _ _ _ _ (kat_go (fun e=>kat_yes ?_) (fun e=>kat_no ?_)))
  · have wq:(ds.getD i (0,[])).1=(ds.getD j (0,[])).1:=by simpa using e
    have Dr:C (HT.lexLt (ds.getD i (0,[])).2 (ds.getD j (0,[])).2) s:=by have e5:pJ (ds.getD i (0,[])) (ds.getD j (0,[]))=HT.lexLt (ds.getD i (0,[])).2 (ds.getD j (0,[])).2:=ay wq;rw[←e5];exact hc
    refine kat_cons (B8 e3 f3 e4 f4 Wl _ _ _ _ (kat_go (fun e'=>kat_yes (kat_nil ?_)) (fun e'=>kat_no ?_)))
    · have e6:(ds.getD i (0,[])).2=(ds.getD j (0,[])).2:=by simpa using e'
      rw[e6,nJ] at Dr;exact Dr
    ·refine kat_one _ _ ?_;refine HT.yM e3 f3 (by simpa using intsAre_of e4) (by simpa using intsAre_of f4) Wl ?_;exact Dr
  · have wq:¬ (ds.getD i (0,[])).1=(ds.getD j (0,[])).1:=by simpa using e
    refine oneLt_int ?_;have e5:pJ (ds.getD i (0,[])) (ds.getD j (0,[]))=decide ((ds.getD i (0,[])).1<(ds.getD j (0,[])).1):=aZ wq;rw[←e5];exact hc
def Cw(H:Hp)(v:V)(e:Int×aO):Prop:=∃b,v=.ref b∧H b=some (.tup (e.2.map V.int))
end
section
variable {X:Cx} {pins:kJ} {σ:St} {H:Hp} {s:Shared}
theorem iw.re{b:Addr}(f:iw X pins H b)(hn:H' b=none):iw X pins H' b:=⟨hn,f.2⟩
theorem nz{xs:Array Value}:∀v,(seqObj "list" xs n).data≠.cell v:=fun v z=>by cases z
def rF(ds:xR):Prop:=∀(prog:Program) (w:World) (A:Around) (E:nD) (ks vs:dO) (s:Shared),ks.length=ds.length→vs.length=ds.length→2≤ds.length→W5 prog w A (tuples' true) (fun i j=>pJ (ds.getD i (0,[])) (ds.getD j (0,[]))) ks s→GH prog w A E (tuples' true) (fun i j=>pJ (ds.getD i (0,[])) (ds.getD j (0,[]))) ks vs s
theorem rG(A1:ds.Nodup)(yU:ds.length<64):rF ds:=fun prog w A E ks vs s h1 h2 h3 jO=>by refine Cv (by omega) (by omega) (by omega) jO ?_;have:=tM A1;rw[h2];exact this
theorem va{Q:VK}{ps:gs}{kv:List V}{acc:dO}{tk:Nat}(hu:X.A.units+5<cLine)(C:fW X.prog X.w X.K X.mg X.base k fn ps (cK X.K [true] Fn))(hr:fI k X.A.in1.in1)(I:Inv X pins σ H s)(b0:Base F H)(hF:∀e∈ds,Fn [.tup (e.2.map D.int)]=some (.sh (fQ e)))(A1:ds.Nodup)(yU:ds.length≤64)(HR:rF ds)(hk:∀b o,s.heap.get? b=some o→h'.get? b=some o)(Rx:Vals kv acc)(je:Paired (Cw H) kv ds){P:PySem.Fin→Shared→Prop}(W8:∀v s',EP X pins σ Q v s'→P (.done (.ret v)) s')(post:∀p vs H' F',bA F H F' H'→H p=none→F' p=none→H' p=some (.lst vs)→cy X.K F' ((hW ds).map fun e=>D.tup (e.2.map D.int)) vs→Q (.ref p) H'):wpAny (model X.prog X.w) X.A.in1 (newList acc>>=fun l=>holding [l] (call (.builtin "list.sort") [l] [(Str.ofString "key",.ref fn)])>>=fun _=>ret l) P X.xe { s with heap:=h',toks:=tk }:=by
  have l1:=wd je;have hl:acc.length=ds.length:=by rw[←l1];exact(Rx.length).symm
  have lkv:kv.length=ds.length:=l1;refine bh (wpAny_newList ?_ (by rw[hl,jc];omega));have I0:Inv X pins σ H { s with heap:=h',toks:=tk }:=I.kept (t':=tk) hk;have JD:(h'.push (seqObj "list" acc.toArray 0)).get? h'.objs.size=some (seqObj "list" acc.toArray 0):=iu _ rfl;have ZJ:H h'.objs.size=none:=I0.cZ.fresh (cw _);have fD:iw X pins H h'.objs.size:=I0.Bh (cw _) ZJ;have hD0:X.s₀.heap.objs.size≤h'.objs.size:=I0.sz;have hold:∀b o,h'.get? b=some o→b≠h'.objs.size:=fun b o q=>fV (dj q);show wpAny _ _ _ _ _ { s with heap:=h'.push (seqObj "list" acc.toArray 0),toks:=tk };have hsz2:(h'.push (seqObj "list" acc.toArray 0)).objs.size=h'.objs.size+1:=size_push' ..;have I1:Inv X pins σ H { s with heap:=h'.push (seqObj "list" acc.toArray 0),toks:=tk }:=I0.kept (t':=tk) fun b o q=>eu _ q;generalize hDD:h'.objs.size=D at *;refine bh (wc (wpAny_call_entry_kw slot_list_sort ⟨_,JD,rfl⟩ entry_list_sort ?body (ksk_l1 _ _)))
  case body =>
    show wpAny (model X.prog X.w) X.A.in1.in1 (Builtin.«list.sort» ⟨[.ref D],[(Str.ofString "key",.ref fn)]⟩) _ _ _;rw[ksk_t1];refine zO (vs:=acc) (κ:=tuples' true) (lt:=fun i j=>pJ (ds.getD i (0,[])) (ds.getD j (0,[])))
      (J:=fun kS e1 ks c s'=>D≠kS∧∃H' F' vk,Inv X ((kS,seqObj "list" ks.toArray c)::(D,seqObj "list" #[] e1)::pins) σ H' s'∧bA F H F' H'∧Vals vk ks∧Paired (pairAt H') vk (ds.take ks.length) ∧
        iw X ((D,seqObj "list" #[] e1)::pins) H kS) JD (by omega) ?init ?get ?step ?kind ?run ?fin
    case init =>
      intro kS e1 h2 hE hsz g1 g2 keep;have I2:Inv X pins σ H { s with heap:=h2,toks:=tk }:=I0.kept (t':=tk) fun b o q=>keep b o (hold b o q) (eu _ q);have f0:iw X pins H kS:=I1.Bh hsz (I1.cZ.fresh hsz);have fk:iw X ((D,seqObj "list" #[] e1)::pins) H kS:=⟨f0.1,f0.2.1,f0.2.2.1,f0.2.2.2.1,f0.2.2.2.2.1,fun p hp=>by
        rcases mV.mp hp with q|q
        ·exact f0.2.2.2.2.2 p (A6 _ q)
        · rcases fR.mp q with rfl|q
          ·exact hE
          ·exact f0.2.2.2.2.2 p (jY _ q)⟩
      exact⟨hE,H,F,[],(I2.xH fD g2 nz).xH fk g1 nz,bA.refl b0,.nil,by simpa using Paired.nil,fk⟩
    case get =>
      rintro kS e1 ks c s' ⟨hE,H',F',vk,I',_⟩;exact⟨hE,(I'.pin (kS,_) (jY _ cY)).1,(I'.pin (D,_) (jY _ (ly _ cY))).1⟩
    case step =>
      rintro kS e1 ks c s' x ⟨hE,H',F',vk,I',g,rk,hp,fk⟩ hx;have hi:ks.length<acc.length:=by
        rcases Nat.lt_or_ge ks.length acc.length with q|q
        ·exact q
        ·rw[A5 q] at hx;cases hx
      have ra:=bp Rx (i:=ks.length) (by omega) V.non Value.none;obtain⟨b,q1,q2⟩:=bp je (i:=ks.length) (by omega) V.non (0,[]);rw[q1,nE,hx] at ra;have hxb:x=.ref b:=ra;subst hxb;have Om:ks.length<ds.length:=by omega
      have hee:ds.getD ks.length (0,[])=ds[ks.length]:=by rw[nE,mS Om];rfl
      rw[hee] at q2;have den:Den X.K F' (.tup (ds[ks.length].2.map DL.D.int)) (.ref b):=aN.mpr ⟨b,_,rfl,g.base.tup _ _ (g.ent _ _ q2) rfl,fX _⟩;refine mY (PB (Q:=fun v H2=>∃F2,bA F' H' F2 H2∧Den X.K F2 (fQ ds[ks.length]) v) C hr I' (vs:=[.ref b]) (.cons rfl .nil) ⟨F',[.tup (ds[ks.length].2.map DL.D.int)],.sh (fQ ds[ks.length]),g.base,⟨den,trivial⟩,hF _ (List.getElem_mem Om),fun v H2 F2 g2 dn=>⟨F2,g2,dn⟩⟩) (fun k qQ hq=>?_) fun _ _ x=>x;obtain⟨v,H2,I2,rv,F2,g2,dn⟩:=hq;have Tj:=I2.pin (kS,_) (jY _ cY);refine⟨Tj.1,fun h2 c2 sb gk=>⟨hE,H2,F2,vk++[v],?_,g.trans g2,rk.append (.cons rv .nil),?_,fk⟩⟩
      ·have yd:=iw.re fk Tj.2.1;have I3:=Inv.turned (t':=qQ.toks) (h':=h2) (it:=kS) I2.ug (fun b o hb e=>by rw[sb.2 b hb];exact e) yd.1 yd.2.1 yd.2.2.2.1 yd.2.2.2.2.1 yd.2.2.2.2.2;exact I3.xH yd gk nz
      ·rw[kK,List.length_singleton,List.take_succ_eq_append_getElem Om];exact Paired.snoc (Paired.Lk hp fun a b q=>q.same g2.ent) ((zt.mp dn).same g2.base.sub)
    case kind =>
      rintro kS e1 ks c s' ⟨hE,H',F',vk,I',g,rk,hp,fk⟩ hlen h2 Q' hq;exact MB I' rk hp (by omega) hq
    case run =>
      rintro kS e1 ks c s' ⟨hE,H',F',vk,I',g,rk,hp,fk⟩ hlen h2;rw[Ht (by omega)] at hp;refine HR _ _ _ _ _ _ _ (by omega) (by omega) (by omega) (fun i j C' hi hj hC=>?_);exact Ti (by rw[in1_units,in1_units];omega) I' rk hp (by omega) (by omega) hC
    case fin =>
      rintro kS e1 ks c s' p h3 h4 ck c2 ⟨hE,H',F',vk,I',g,rk,hp,fk⟩ hlen hP hU sb1 gk sb2 gD;have Tj:=I'.pin (kS,_) (jY _ cY);have hpD:=I'.pin (D,_) (jY _ (ly _ cY));have yd:iw X pins H' kS:=⟨Tj.2.1,fk.2.1,fk.2.2.1,fk.2.2.2.1,fk.2.2.2.2.1,fun p hp=>fk.2.2.2.2.2 p (by
        rcases mV.mp hp with q|q
        ·exact A6 _ q
        ·exact jY _ (ly _ q))⟩
      have GK:iw X pins H' D:=iw.re fD hpD.2.1;have I4:=Inv.turned (t':=s'.toks) (h':=h3) (it:=kS) I'.ug.ug (fun b o hb e=>by rw[sb1.2 b hb];exact e) yd.1 yd.2.1 yd.2.2.2.1 yd.2.2.2.2.1 yd.2.2.2.2.2;have I5:=Inv.turned (t':=s'.toks) (h':=h4) (it:=D) I4 (fun b o hb e=>by rw[sb2.2 b hb];exact e) GK.1 GK.2.1 GK.2.2.2.1 GK.2.2.2.2.1 GK.2.2.2.2.2;rw[hl] at hP hU;have hm:∀i∈p.toList,i<ds.length:=fun i hi=>by have:=(Dg.mp hP.perm).mem_iff.mp hi;simpa using this
      have GL:(p.toList.map fun i=>kv.getD i V.non).length≤sizeLine:=by rw[g9,ou,hP.size,jc];omega
      have I6:=Inv.adopt (o:=.lst (p.toList.map fun i=>kv.getD i V.non)) I5 GK hD0 ⟨GL,p.toList.map fun i=>acc.getD i Value.none,c2,jz _ _ fun i hi=>bp Rx (by have:=hm i hi;omega) _ _,by simpa using gD⟩;have e0:hW ds=p.toList.map fun i=>ds.getD i (0,[]):=u5 A1 (DK _ hP) (qX (0,[]) pJ hP hU);refine⟨_,rfl,cX (W8 _ _ ⟨.ref D,_,I6,rfl,post D _ _ F' (g.trans (bA.own g.base GK.1 (.lst (p.toList.map fun i=>kv.getD i V.non)) GL rfl)) ZJ (g.base.sub.free GK.1) aL ?_⟩)⟩;rw[e0,e9];refine qZ.mpr (jz _ _ fun i hi=>?_);obtain⟨b,q1,q2⟩:=bp je (i:=i) (by have:=hm i hi;omega) V.non (0,[]);rw[q1];exact aN.mpr ⟨b,_,rfl,g.base.tup _ _ (g.ent _ _ q2) rfl,fX _⟩
theorem Ei{Q:VK}{d:Addr}{ps:gs}{ws:List (List Key×V)}(hc:X.calm=true)(hu:X.A.units+5<cLine)(C:fW X.prog X.w X.K X.mg X.base k fn ps (cK X.K [true] Fn))(hr:fI k X.A.in1.in1)(I:Inv X pins σ H s)(b0:Base F H)(hd:Rd H d (.dT ws))(hw:ws.map (·.1)=ds.map fun e=>e.2.map Sum.inl)(hF:∀e∈ds,Fn [.tup (e.2.map D.int)]=some (.sh (fQ e)))(A1:ds.Nodup)(yU:ds.length<64)(post:∀p vs H' F',bA F H F' H'→H p=none→F' p=none→H' p=some (.lst vs)→cy X.K F' ((hW ds).map fun e=>D.tup (e.2.map D.int)) vs→Q (.ref p) H'):wpAny (model X.prog X.w) X.A (call (.builtin "sorted") [.ref d] [(Str.ofString "key",.ref fn)]) (EP X pins σ Q) X.xe s:=by
  obtain⟨z,y,xs,r,o,es,ep,h1,h2,h3,h4,h5⟩:=(show cx X.prog X.w H s.heap d (.dT ws) from N7 I.cZ hd)
  have hh:X.A.handled=none:=I.ok.hd hc;have lw:ws.length=ds.length:=by have:=il List.length hw;simpa using this
  have lx:xs.length=ws.length:=(wd r).symm;have UH:es.size=ds.length:=by have e1:=il List.length h4;rw[g9,ou] at e1;omega
  -- the keys as values
  have je:Paired (Cw H) (xs.map fun q=>V.ref q.2.1) ds:=by
    have key:∀{l:List (List Key×V)} {m:List (List Key×Addr×Value)} {e:xR},Paired (fun(p:List Key×V) (q:List Key×Addr×Value)=>p.1=q.1∧H q.2.1=some (.tup (p.1.map kV))∧RelV p.2 q.2.2) l m→l.map (·.1)=e.map (fun e=>e.2.map Sum.inl)→Paired (Cw H) (m.map fun q=>V.ref q.2.1) e:=by
      intro l m e hp;induction hp generalizing e with
      |nil=>intro q;cases e with
       |nil=>exact .nil
       |cons _ _=>cases q
      |cons a _ ih =>
       intro q;cases e with
       |nil=>cases q
       |cons e0 er=>rw[bY,bY] at q;injection q with q1 q2;refine .cons ⟨_,rfl,?_⟩ (ih q2);rw[a.2.1,q1,e9];rfl
    exact key r hw
  refine call_function_entry_kw kind_sorted plain_sorted entry_sorted (ksk_s1 _ _) ?_;unfold Builtin.«sorted»;refine bh (m:=checkCount "sorted" 1 1 _) (cX ?_);refine bh (kdu_collect (A:=X.A.in1) (Tg y) hh ⟨o,h1,h2,h3⟩ (by rw[UH,jc];omega) fun h' tk acc hk jD=>?_);have hl:acc.toList.length=ds.length:=by rw[ou,jD.1,UH]
  have hv:acc.toList=xs.map fun q=>Value.ref q.2.1:=by
    have e1:acc.toList=es.toList.map (·.key):=by
      refine List.ext_getElem? fun j=>?_;rw[qH,Array.getElem?_toList,Array.getElem?_toList];cases hj:acc[j]? with
      |some v=>obtain⟨e,q1,q2⟩:=jD.2 j v hj;rw[q1,q2];rfl
      |none=>rw[Array.getElem?_eq_none_iff,jD.1] at hj;rw[Array.getElem?_eq_none hj];rfl
    rw[e1,h4,e9];rfl
  have Rx:Vals (xs.map fun q=>V.ref q.2.1) acc.toList:=by
    rw[hv];clear hv je h4 h5 r lx;induction xs with
    |nil=>exact .nil
    |cons x xs ih=>exact .cons rfl ih
  generalize hV:(xs.map fun q=>V.ref q.2.1)=kv at je Rx;have lkv:kv.length=ds.length:=by rw[←hV,g9];omega
  exact va hu C hr I b0 hF A1 (by omega) (rG A1 yU) hk Rx je (fun v s' q=>⟨_,rfl,q⟩) post
theorem By{Q:VK}{d:Addr}{ps:gs}(hu:X.A.units+5<cLine)(C:fW X.prog X.w X.K X.mg X.base k fn ps (cK X.K [true] Fn))(hr:fI k X.A.in1.in1)(I:Inv X pins σ H s)(b0:Base F H)(hd:m4 X.K H d vs)(je:Paired (Cw H) vs ds)(hF:∀e∈ds,Fn [.tup (e.2.map D.int)]=some (.sh (fQ e)))(A1:ds.Nodup)(yU:ds.length≤64)(HR:rF ds)(post:∀p vs H' F',bA F H F' H'→H p=none→F' p=none→H' p=some (.lst vs)→cy X.K F' ((hW ds).map fun e=>D.tup (e.2.map D.int)) vs→Q (.ref p) H'):wpAny (model X.prog X.w) X.A (call (.builtin "sorted") [.ref d] [(Str.ofString "key",.ref fn)]) (EP X pins σ Q) X.xe s:=by
  obtain⟨its,rv,hl,_⟩:=I.list hd;have l1:vs.length=its.length:=rv.length;have l2:vs.length=ds.length:=wd je;refine call_function_entry_kw kind_sorted plain_sorted entry_sorted (ksk_s1 _ _) ?_;unfold Builtin.«sorted»;refine bh (m:=checkCount "sorted" 1 1 _) (cX ?_);refine bh (collect_list hl.isList ?_ (by rw[jc];omega));have keep:∀b o,s.heap.get? b=some o→((s.heap.push (seqObj "list" #[] 0)).update s.heap.objs.size (Obj.mapSeq (·++its.toArray))).get? b=some o:=fun b o q=>by have jO:b<s.heap.objs.size:=dj q;rw[Heap.get?_update_ne _ _ _ _ (fV jO),Heap.get?_push_ne _ _ _ (fV jO)];exact q
  exact va (tk:=s.toks) hu C hr I b0 hF A1 yU HR keep rv je (fun v s' q=>⟨_,rfl,q⟩) post
end
def sP:List Key→Option aO
  |[]=>some []
  |.inl i::r=>(sP r).map (i::·)
  |_=>none
theorem zP:∀{k:List Key} {t:aO},sP k=some t→k=t.map Sum.inl
  |[],t,h=>by cases h;rfl
  |.inl i::r,t,h=>by obtain⟨u,h1,rfl⟩:=g6.mp h;rw[zP h1];rfl
  |.inr _::_,_,h=>by cases h
def rJ(Fn:dm→eP)(t:aO):Option (Int×aO):=match Fn [.tup (t.map D.int)] with
  |some (.sh (.tup [.int l,.tup us]))=>if kH us=some t then some (l,t) else none
  |_=>none
theorem Cy{t:aO}{e:Int×aO}(h:rJ Fn t=some e):e.2=t∧Fn [.tup (e.2.map D.int)]=some (.sh (fQ e)):=by
  unfold rJ at h;split at h
  · rename_i l us heq;split at h
    ·rename_i hu;cases h;refine⟨rfl,?_⟩;show Fn [.tup (t.map D.int)]=_;rw[heq,kb hu];rfl
    ·cases h
  ·cases h
def vb(Fn:dm→eP):List (List Key×D)→Option xR
  |[]=>some []
  |kv::r=>(sP kv.1).bind fun t=>(rJ Fn t).bind fun e=>(vb Fn r).map (e::·)
theorem zQ{Fn:dm→eP}:∀{aX:List (List Key×D)} {ds:xR},vb Fn aX=some ds→aX.map (·.1)=ds.map (fun e=>e.2.map Sum.inl)∧∀e∈ds,Fn [.tup (e.2.map D.int)]=some (.sh (fQ e))
  |[],ds,h=>by cases h;exact⟨rfl,fun _ z=>nomatch z⟩
  |kv::r,ds,h=>by
   obtain⟨t,h1,h⟩:=eK.mp h;obtain⟨e,h2,h⟩:=eK.mp h;obtain⟨tu,h3,rfl⟩:=g6.mp h;obtain⟨a1,a2⟩:=zQ h3;obtain⟨b1,b2⟩:=Cy h2;refine⟨by rw[bY,bY,a1,zP h1,b1],fun x hx=>?_⟩;rcases fR.mp hx with rfl|hx
   ·exact b2
   ·exact a2 x hx
theorem Iq{κ:Type}{aX:List (κ×D)}{ws:List (κ×V)}(h:jP K F aX ws):aX.map (·.1)=ws.map (·.1):=by
  unfold jP at h;induction h with
  |nil=>rfl
  |cons a _ ih=>rw[bY,bY,a.1,ih]
section
variable {X:Cx} {z:Zc} {pos p px py kp:Pos}
def Ej(i:Nat)(Fn:dm→eP):LF:=fun η=>(dT i η).bind fun aX=>(vb Fn aX).bind fun ds=>if ds.Nodup∧ds.length<64 then some ((hW ds).map fun e=>D.tup (e.2.map D.int)) else none
theorem PD(i:Nat){y:Str}{ps:gs}(hc:X.calm=true)(hu:X.A.units+5<cLine)(C:fW X.prog X.w X.K X.mg X.base k fn ps (cK X.K [true] Fn))(hr:fI (k+2) X.A)(Mu:Gl X "sorted")(D0:X.mg "sorted"=none)(hg:Gl X y)(hm:X.mg y=some (.ref fn))(hN:X.N[i]?=some x:=by rfl)(hv:FD X.env.scope x:=by first|exact Or.inl rfl|exact Or.inr (Or.inl rfl)|exact Or.inr (Or.inr rfl))(ti:(x==("__debug__":Str))=false:=by decide)(oA:(x==("__classdict__":Str))=false:=by decide)(hdy:(y==("__debug__":Str))=false:=by decide)(hs:starEach [Expr.Name x px] X.env=(false,eval (.Name x px) X.env)::starEach [] X.env:=by rfl):DO X z (.Call (.Name "sorted" p) [.Name x px] [⟨some "key",.Name y py,kp⟩] pos) (Ej i Fn):=by
  intro pins s σ H Q I ⟨η,F,tu,rl,e,kk⟩;unfold Ej at e;obtain⟨aX,h1,e⟩:=eK.mp e;obtain⟨ds,h2,e⟩:=eK.mp e;by_cases hl:ds.Nodup∧ds.length<64
  ·rw[ay hl] at e;cases e;obtain⟨q,ws,h3,h4,h5⟩:=Ki rl h1;obtain⟨a1,a2⟩:=zQ h2;refine v8 (j5 I Mu D0 nr ?_ (by decide) (by decide));refine PyProof.Rows.callWith_kw ?_ (by rw[hs];rfl) (by rw[hs];rfl) rfl rfl;refine gx (fj (kL hN hv ti oA) kM hs pos pins s σ H (fun vs H1=>vs=[.ref q]∧H1=H) I ⟨_,h3,⟨rfl,rfl⟩⟩) fun us s1 ⟨vs,H1,I1,r1,e1,e2⟩=>?_;subst e1 e2;obtain⟨u,rfl,ru⟩:=vals1 r1;cases ru;show wpAny _ _ (evalAll ((do let v ←eval (.Name y py) X.env;standAt pos;pure v)::[])) _ _ s1;refine wpAny_evalAll_cons (bh (sx I1 hg hm (bh (wpAny_standAt (cX ?_))) hdy));refine wpAny_evalAll_nil ?_;exact Ei hc hu C hr.in1.in1 I1 rl.base h4 ((Iq h5).symm.trans a1) a2 hl.1 hl.2 fun p vs H' F' g q1 q2 q3 q4=>kk p vs H' F' g q1 q2 q3 q4
  ·rw[aZ hl] at e;cases e
end
end DL
namespace DL
open PySem PySem.Spec L2
open PyProof.Rows hiding St pairAt
section
variable {X:Cx} {z:Zc} {e:Expr} {f:EF} {pos:Pos}
def xI(f:EF):SF:=fun η=>(f η).map fun _=>.nx η
theorem Ek(h:DE X z e f)(hs:swapsWith e none pos.line X.env=pure false:=by rfl):DS X z (.Expr e pos) (xI f):=PS.weak (JG h hs) fun D σ H ⟨η,F,o,r,e,k⟩=>by unfold xI at e;obtain⟨d,h1,rfl⟩:=g6.mp e;exact⟨η,F,d,r,h1,fun v H' F' g q=>k σ H' F' (r.grow g) g.jA⟩
theorem Tn{n:Int}(hg:Gl X x)(hm:∃t,X.mg x=some (.int n t))(hd:(x==("__debug__":Str))=false:=by decide):DE X z (.Name x pos) (eC (.int n)):=by intro pins s σ H Q I ⟨η,F,d,r,e,k⟩;cases e;obtain⟨t,hm⟩:=hm;exact sx I hg hm ⟨.int n,H,I,⟨t,rfl⟩,k _ H F (bA.refl r.base) (aQ.mpr rfl)⟩ hd
end
end DL
namespace DL
open PySem L2
def MC:D→D→Option D
  |.tup x,.tup y=>if x.length+y.length≤1000 then some (.tup (x++y)) else none
  |_,_=>none
def Kv(f:EF):EF:=fun η=>(f η).bind fun d=>match d with|.int j=>if j≤1000∧-1000≤j then some (.tup (dk 0 j.toNat)) else none|_=>none
def GN:dm→Option (List aO)
  |[]=>some []
  |.tup ts::ds=>(kH ts).bind fun ns=>(GN ds).map (ns::·)
  |_::_=>none
def cQ(t:aO):D:=.tup (t.map D.int)
theorem PH:∀{ds:dm} {ts:List aO},GN ds=some ts→ds=ts.map cQ:=by
  intro ds;induction ds with
  |nil=>intro ts h;cases h;rfl
  |cons d ds ih =>
   intro ts h;cases d with
   |tup us=>obtain⟨ns,h1,h⟩:=eK.mp h;obtain⟨r,h2,h3⟩:=g6.mp h;subst h3;rw[ih h2,kb h1];rfl
   |_=>cases h
theorem wK:∀(ts:List aO),GN (ts.map cQ)=some ts
  |[]=>rfl
  |t::ts=>by show(kH (t.map D.int)).bind (fun ns=>(GN (ts.map cQ)).map (ns::·))=_;rw[du,wK ts];rfl
def dY:aO→List aO
  |ns=>ns.foldl (fun told n=>told++told.map fun some=>some++[n]) [[]]
def zR:List aO:=dY [0,1,2,3,4,5]
def zS(Fn:dm→eP):List aO→Option xR
  |[]=>some []
  |t::r=>(rJ Fn t).bind fun e=>(zS Fn r).map (e::·)
theorem Cz{Fn:dm→eP}:∀{ts:List aO} {ds:xR},zS Fn ts=some ds→ds.map (·.2)=ts∧∀e∈ds,Fn [.tup (e.2.map D.int)]=some (.sh (fQ e))
  |[],ds,h=>by cases h;exact⟨rfl,fun _ z=>nomatch z⟩
  |t::r,ds,h=>by
   obtain⟨e,h2,h⟩:=eK.mp h;obtain⟨tu,h3,rfl⟩:=g6.mp h;obtain⟨a1,a2⟩:=Cz h3;obtain⟨b1,b2⟩:=Cy h2;refine⟨by rw[bY,a1,b1],fun x hx=>?_⟩;rcases fR.mp hx with rfl|hx
   ·exact b2
   ·exact a2 x hx
def vd(f:EF)(Fn:dm→eP):LF:=fun η=>(f η).bind fun d=>match d with
  |.lst ds=>(GN ds).bind fun ts=>(zS Fn ts).bind fun es=>if es.Nodup∧(es.length<64∨es=zR.map fun t=>((t.length:Int),t)) then some ((hW es).map fun e=>D.tup (e.2.map D.int)) else none
  |_=>none
end DL
namespace L2
open PySem PySem.Spec PyProof.Rows PySem.W Sl
section
variable {prog:Program} {w:World} {A:Around} {E:nD} {s:Shared} {r:Addr} {b:Int} {t u v:Tok} {n:Nat}
theorem El{R:dO→Shared→Prop}(hh:A.handled=none)(hr:IsRange s.heap r 0 b 1 t u v)(Hr:Builtin.Range.small 0 b 1=true)(hn:Builtin.Range.rangeSize 0 b 1=n)(hlen:n≤2^24)(h:∀(h':Heap) (tk:Nat) (acc:Array Value),(∀b o,s.heap.get? b=some o→h'.get? b=some o)→ItemsOf (fun i v=>∃t,v=.int ((0:Int)+(i:Int)*1) t) acc n→R acc.toList { s with heap:=h',toks:=tk }):wpAny (model prog w) A (collect (.ref r)) R E s:=by
  unfold collect;refine bh (wpAny_runValue (codeAny_builtin entry_proto_collect' ?_));rw[Around.under_plainId PySem.F.plain_proto_collect _];refine bh (xU ?_);refine cX ⟨plainId_quiet PySem.F.plain_list_iadd _,codeAny_builtin entry_list_iadd' ?_⟩;rw[Around.under_plainId PySem.F.plain_list_iadd _];have hS:(s.heap.push { cls:=.type "list",data:=.seq ([]:dO).toArray }).get? s.heap.objs.size=some { cls:=.type "list",data:=.seq #[] }:=iu _ rfl;have key:=wpAny_extend_range (prog:=prog) (w:=w) (A:=A) (s:={ s with heap:=s.heap.push { cls:=.type "list",data:=.seq ([]:dO).toArray } })
    (R:=fun(q:Result) (s':Shared)=>∃(h':Heap) (tk:Nat) (jZ:Array Value) (c':Nat),q=.ok (.ret (.ref s.heap.objs.size))∧s'={ s with heap:=h',toks:=tk } ∧
      (∀b o,s.heap.get? b=some o→h'.get? b=some o)∧h'.get? s.heap.objs.size=some { cls:=.type "list",dict:=none,data:=.seq jZ c',slots:=#[] }∧ItemsOf (fun i v=>∃t,v=.int ((0:Int)+(i:Int)*1) t) jZ n)
    hh (eu _ hr) Hr hn hlen s.heap.objs.size (.ref s.heap.objs.size) 0 hS
    (fun h' tk jZ c' hk Bu jD=>⟨h',tk,jZ,c',rfl,rfl,fun b o e=>hk b o (fV (dj e)) (eu _ e),Bu,jD⟩)
  have fin:∀(h':Heap) (tk:Nat) (jZ:Array Value) (c':Nat),(∀b o,s.heap.get? b=some o→h'.get? b=some o)→h'.get? s.heap.objs.size=some { cls:=.type "list",dict:=none,data:=.seq jZ c',slots:=#[] }→ItemsOf (fun i v=>∃t,v=.int ((0:Int)+(i:Int)*1) t) jZ n →
      ∀{m:Obj→Sem dO},(∀Q:dO→Shared→Prop,Q jZ.toList { s with heap:=h',toks:=tk }→wpAny (model prog w) A (m { cls:=.type "list",dict:=none,data:=.seq jZ c',slots:=#[] }) Q E { s with heap:=h',toks:=tk })→wpAny (model prog w) A (load s.heap.objs.size>>=m) R E { s with heap:=h',toks:=tk } :=
    fun h' tk jZ c' hk Bu jD m hm=>bh (wpAny_load Bu (hm _ (h h' tk jZ hk jD)))
  refine mY key (fun fi s' x=>?_) fun e s' x=>?_
  · cases fi with
    |done f=>obtain⟨h',tk,jZ,c',e,rfl,hk,Bu,jD⟩:=x;cases e;exact fin h' tk jZ c' hk Bu jD fun Q hQ=>cX hQ
    |again c₁=>refine⟨x.1,codeAny_mono x.2 fun q s₂ y=>?_⟩;obtain⟨h',tk,jZ,c',rfl,rfl,hk,Bu,jD⟩:=y;exact fin h' tk jZ c' hk Bu jD fun Q hQ=>cX hQ
  ·obtain⟨_,_,_,_,e',_⟩:=x;cases e'
theorem Ir(Hr:Builtin.Range.small 0 b 1=true)(hn:Builtin.Range.rangeSize 0 b 1=n)(hlen:n≤2^24)(hz:n≤sizeLine)(r:Addr)(t u v:Tok):Meets (Builtin.«tuple.__new__» ⟨[.type "tuple",.ref r],[]⟩) (fun A R s=>A.handled=none∧IsRange s.heap r 0 b 1 t u v∧∀(s':Shared) (acc:Array Value),(∀b o,s.heap.get? b=some o→s'.heap.get? b=some o)→s'.gens=s.gens→s'.drawn=s.drawn→s'.os=s.os→ItemsOf (fun i v=>∃t,v=.int ((0:Int)+(i:Int)*1) t) acc n→R (.ok (.ret (.ref s'.heap.objs.size))) { s' with heap:=s'.heap.push { cls:=.type "tuple",data:=.seq acc } }) :=
  .of_wp fun prog w A R s h=>by
    obtain⟨hh,hr,h⟩:=h;have Bt:=sub_tuple_self;have ago:=init_tuple_lookup;have hmh:=madeHere_tuple;have hT:s.TypeIs (.ref r) "range":=⟨_,hr,rfl⟩
    have hh1:A.in1.handled=none:=hh
    wp_walk using wpAny_typeOf hT,El (n:=n) hh1 hr Hr hn hlen
    intro h' tk acc hk jD;have hz':acc.toList.toArray.size≤sizeLine:=by simp only[Array.toArray_toList];rw[jD.1];exact hz
    refine bh (cX (bh ?_));unfold Builtin.Tuple.tupleExact;refine xU ?_ hz';refine cX ⟨_,rfl,?_⟩;have e:acc.toList.toArray=acc:=by simp
    rw[e];exact h { s with heap:=h',toks:=tk } acc hk rfl rfl rfl jD
theorem wL(hh:A.handled=none)(hr:IsRange s.heap r 0 b 1 t u v)(Hr:Builtin.Range.small 0 b 1=true)(hn:Builtin.Range.rangeSize 0 b 1=n)(hlen:n≤2^24)(hz:n≤sizeLine)(h:∀(h':Heap) (tk:Nat) (acc:Array Value),(∀b o,s.heap.get? b=some o→h'.get? b=some o)→ItemsOf (fun i v=>∃t,v=.int ((0:Int)+(i:Int)*1) t) acc n→Q (.ref h'.objs.size) { s with heap:=h'.push { cls:=.type "tuple",data:=.seq acc },toks:=tk }):wpAny (model prog w) A (call (.type "tuple") [.ref r]) Q E s:=by
  refine callType_new PySem.F.called_tuple (by decide) (PySem.F.typeCall_tuple_1 _) (PySem.F.newCall_tuple_1 _) (fun obj=>PySem.F.args_object_init_2 obj _) PySem.F.entry_tuple_new
    (Ir Hr hn hlen hz r t u v) ⟨hh,hr,fun s' acc hk hg hd hos jD=>⟨⟨_,iu _ rfl,rfl⟩,?_⟩⟩
  obtain⟨h',g',d',ZC,YK⟩:=s';have e1:g'=s.gens:=hg;have e2:d'=s.drawn:=hd;have e3:YK=s.os:=hos;subst e1 e2 e3;exact h h' ZC acc hk jD
end
section
variable {X:Cx}
def ZK(K:PySem.W.Frag):R2:=fun x y H Q=>∃a b ys,x=.ref a∧y=.ref b∧kE K H a []∧kE K H b ys∧Q (.ref b) H
theorem Tp:qy X (binaryOp .Add) (ZK X.K):=by
  intro pins s σ H x y v u Q I rx ry h;obtain⟨a,b,ys,rfl,rfl,ha,hb,q⟩:=h;cases rx;cases ry;obtain⟨its,r1,p1,_⟩:=I.tuple ha;obtain⟨eO,r2,p2,_⟩:=I.tuple hb;have e0:its=[]:=r1.yr.mpr rfl;subst e0;obtain⟨⟨cls,dd,data,sl⟩,ho,hc,n,hd⟩:=id p1;obtain⟨⟨VY,Rm,data2,Rn⟩,LJ,HD,n2,hd2⟩:=id p2;simp only at hc hd HD hd2;subst hc hd HD hd2;exact concat_meets ⟨_,ho,rfl⟩ ⟨_,LJ,rfl⟩ noFill_tuple_add seq_tuple_add PySem.F.slot_tuple_add PySem.F.entry_tuple_add (PySem.F.args_tuple_add_2 _ _)
    (tuple_addW0 a b ([]:dO).toArray eO.toArray n n2 dd Rm sl Rn rfl) ⟨ho,LJ,⟨.ref b,H,I,rfl,q⟩⟩
end
section
variable {prog:Program} {w:World} {A:Around} {E:nD} {s:Shared}
theorem GO{fin:Bool}{Q:Bool→Shared→Prop}:∀{ns ms:aO} {xs ys:dO} (i:Nat),Vals (ns.map V.int) xs→Vals (ms.map V.int) ys→fin=decide (ns.length<ms.length)→Q (HT.lexLt ns ms) s→KatLex prog w A true fin Q (xs.zip ys) i s
  |[],[],_,_,i,.nil,.nil,hf,h=>kat_nil (by rw[hf];exact h)
  |[],m::ms,_,_,i,.nil,.cons _ _,hf,h=>kat_nil (by rw[hf];exact h)
  |n::ns,[],_,_,i,.cons _ _,.nil,hf,h=>kat_nil (by rw[hf];exact h)
  |n::ns,m::ms,_,_,i,.cons rx tx,.cons ry ty,hf,h=>by
   obtain⟨t,rfl⟩:=rx;obtain⟨u,rfl⟩:=ry;rw[HT.nG] at h;refine kat_cons (SeqAt.EqAt.int_int _ _ _ _ _ _ _ _ (kat_go (fun e=>kat_yes ?_) (fun e=>kat_no ?_)))
   · have e':n=m:=by simpa using e
     rw[ay e'] at h;exact GO (i+1) tx ty (by rw[hf];simp) h
   · have e':¬ n=m:=by simpa using e
     rw[aZ e'] at h;cases hi:(true&&i==0) with
     |true=>exact oneLt_int h
     |false=>exact kat_one _ _ (PyProof.Rows.lt_int h)
end
def oF(H:Hp)(v:V)(t:aO):Prop:=∃b,v=.ref b∧H b=some (.tup (t.map V.int))
section
variable {X:Cx}
theorem Iu(hd:ts.Nodup):kO ts.length (fun i j=>HT.lexLt (ts.getD i []) (ts.getD j [])) where
  tr:=fun i j k _ _ _ h1 h2=>uN h1 h2
  Zb:=fun i j hi hj hE h=>sE (fun q=>hE (by
    rw[nE,nE,mS hi,mS hj] at q;exact(List.getElem_inj hd).mp q)) h
end
end L2
namespace DL
open PySem PySem.Spec L2 PySem.W Sl
open PyProof.Rows hiding St pairAt
section
variable {X:Cx} {z:Zc} {e a b:Expr} {f fa fb:EF} {pos p p' pos' py kp:Pos}
theorem MD{x y:D}(h:MC x y=some d):∃u v,x=.tup u∧y=.tup v∧u.length+v.length≤1000∧d=.tup (u++v):=by
  unfold MC at h;split at h
  · rename_i u v;by_cases hl:u.length+v.length≤1000
    ·rw[ay hl] at h;cases h;exact⟨u,v,rfl,rfl,hl,rfl⟩
    ·rw[aZ hl] at h;cases h
  ·cases h
theorem Tq(ha:DE X z a fa)(hb:DE X z b fb):DE X z (.BinOp a .Add b pos) (ag MC fa fb):=PE.weak (NM (Tp.or R4) ha hb) fun σ H Q ⟨η,F,d,r,e,k⟩=>by
  unfold ag at e;obtain⟨x,h1,e⟩:=eK.mp e;obtain⟨y,h2,e⟩:=eK.mp e;obtain⟨u,w,rfl,rfl,hl,rfl⟩:=MD e;refine⟨η,F,_,r,h1,fun v1 H1 F1 g1 q1=>⟨η,F1,_,r.grow g1,h2,fun v2 H2 F2 g2 q2=>?_⟩⟩;obtain⟨a1,vs,rfl,a2,a3⟩:=aN.mp (cz g2.jA _ _ q1);obtain⟨b1,ws,rfl,b2,b3⟩:=aN.mp q2;have l1:=bu a3;have l2:=bu b3;have A3:=g1.trans g2;cases u with
  |nil=>have e0:vs=[]:=bC.mp a3;subst e0;exact .inl ⟨a1,b1,ws,rfl,rfl,kE.of (g2.base.sub _ _ a2),kE.of (g2.base.sub _ _ b2),k _ H2 F2 A3 q2⟩
  |cons x u =>
   refine .inr ⟨a1,b1,vs,ws,rfl,rfl,kE.of (g2.base.sub _ _ a2),kE.of (g2.base.sub _ _ b2),fun z=>?_,Bs (by omega),fun z=>?_,fun _ p hp=>?_⟩
   ·rw[z] at l1;cases l1
   ·rw[z] at l2;have:w=[]:=List.eq_nil_of_length_eq_zero l2;subst this;exact k _ H2 F2 A3 (by rw[uE];exact aN.mpr ⟨a1,vs,rfl,a2,a3⟩)
   ·have g3:=bA.put g2.base hp (.tup (vs++ws)) (show(vs++ws).length≤sizeLine by rw[kK];exact Bs (by omega));exact k _ _ _ (A3.trans g3) (aN.mpr ⟨p,_,rfl,aL,bD g3.jA _ _ (oC a3 b3)⟩)
theorem Iv{acc:Array Value}(h:ItemsOf (fun i v=>∃t,v=.int ((0:Int)+(i:Int)*1) t) acc n):Vals ((List.range n).map fun(i:Nat)=>V.int (0+(i:Int))) acc.toList:=by
  obtain⟨hs,ha⟩:=h;have key:∀(l:dO) (k:Nat),(∀(i:Nat) (v:Value),l[i]?=some v→∃t,v=Value.int ((0:Int)+((k+i:Nat):Int)*1) t)→Vals ((List.range' k l.length).map fun(i:Nat)=>V.int (0+(i:Int))) l:=by
    intro l;induction l with
    |nil=>intro k _;exact .nil
    |cons v l ih=>intro k hv;rw[mU,List.range'_succ,bY];obtain⟨t,e⟩:=hv 0 v rfl;refine .cons ⟨t,by rw[e];simp⟩ (ih (k+1) fun i v' hi=>?_);obtain⟨t',e'⟩:=hv (i+1) v' (by simpa using hi);exact⟨t',by rw[e',show k+(i+1)=k+1+i by omega]⟩
  have q:=key acc.toList 0 fun i v hi=>by obtain⟨t,e⟩:=ha i v (by simpa using hi);exact⟨t,by rw[e,Nat.zero_add]⟩
  rw[ou,hs,←List.range_eq_range'] at q;exact q
theorem Iw(n:Nat):cy K F (dk 0 n) ((List.range n).map fun(i:Nat)=>V.int (0+(i:Int))):=by have:=fX (K:=K) (F:=F) ((List.range n).map fun(i:Nat)=>(0:Int)+(i:Int));rw[e9,e9] at this;exact this
theorem Tr(hc:X.calm=true)(hg:Gl X "tuple")(hm:X.mg "tuple"=none)(hmr:X.mg "range"=none)(ha:DB X z e f)(hgr:Gl X "range":=by rfl)(hs:starEach [e] X.env=(false,eval e X.env)::starEach [] X.env:=by rfl)(Bi:starEach [Expr.Call (.Name "range" p') [e] [] pos'] X.env=(false,eval (.Call (.Name "range" p') [e] [] pos') X.env)::starEach [] X.env:=by rfl):DE X z (.Call (.Name "tuple" p) [.Call (.Name "range" p') [e] [] pos'] [] pos) (Kv f):=by
  intro pins s σ H Q I ⟨η,F,d,r,e0,k⟩;unfold Kv at e0;obtain⟨d',h1,e0⟩:=eK.mp e0;refine v8 (j5 I hg hm yR ?_ (by decide) (by decide));refine Ft ?_ Bi rfl;rw[Bi];show wpAny _ _ (spliced ((false,eval (.Call (.Name "range" p') [e] [] pos') X.env)::backTo pos (starEach [] X.env))) _ _ s;refine Dk ?_;refine v8 (j5 I hgr hmr boot_range ?_ (by decide) (by decide));refine Ft ?_ hs rfl;rw[hs];show wpAny _ _ (spliced ((false,eval e X.env)::backTo pos' (starEach [] X.env))) _ _ s;cases d' with
  |int j =>
   by_cases hj:j≤1000∧-1000≤j
   · have e1:d=.tup (dk 0 j.toNat):=by
       have:=e0;simp only[ay hj] at this;exact(ow this).symm
     subst e1;refine Dk (gx (ha pins s σ H (fun v H'=>v=.int j∧∃F',bA F H F' H') I ⟨η,F,_,r,h1,fun v H' F' g q=>⟨aQ.mp q,F',g⟩⟩) fun u s1 ⟨x,H1,I1,r1,q1⟩=>?_);obtain⟨rfl,F1,g1⟩:=q1;obtain⟨t,rfl⟩:=r1;refine Calls.spliced_nil ?_;refine call_range_1 ?_;refine Calls.spliced_nil ?_;have hh:X.A.handled=none:=I1.ok.hd hc;have hn:Builtin.Range.rangeSize 0 j 1=((j.toNat:Nat):Int):=by rw[rangeSize_one];split<;>omega
     refine wL hh (IsRange.new ..) (small_one (by omega) (by omega) (by omega) (by omega)) hn (by omega) (by rw[jc];omega) fun h' tk acc hk jD=>?_;have hv:=Iv jD;have keep:∀b o,s1.heap.get? b=some o→h'.get? b=some o:=fun b o q=>hk b o (eu _ q);have hsz:s1.heap.objs.size≤h'.objs.size:=by have:=hk _ _ (iu s1.heap (o:={ cls:=.type "range",data:=.fields #[.int 0 s1.toks,.int j t,.int 1 (s1.toks+1)] }) rfl);exact Nat.le_of_lt (dj this)
     have hlen:((List.range j.toNat).map fun(i:Nat)=>V.int (0+(i:Int))).length≤sizeLine:=by rw[g9,List.length_range,jc];omega
     have JC:=I1.cZ.fresh hsz;have g2:=bA.put g1.base JC (.tup ((List.range j.toNat).map fun(i:Nat)=>V.int (0+(i:Int)))) hlen;have ea:acc=acc.toList.toArray:=by simp
     refine⟨.ref h'.objs.size,_,I1.laid (a:=h'.objs.size) (o:=.tup ((List.range j.toNat).map fun(i:Nat)=>V.int (0+(i:Int)))) (t':=tk) (fun b o q=>eu _ (keep b o q)) hsz ⟨hlen,acc.toList,hv,?_⟩,rfl,k _ _ _ (g1.trans g2) (aN.mpr ⟨_,_,rfl,aL,Iw _⟩)⟩;rw[←ea];exact IsTup.new _ _
   ·simp only[aZ hj] at e0;cases e0
  |_=>cases e0
theorem zU{K:PySem.W.Frag}{F:Hp}:∀{ts:List aO} {vs:List V},cy K F (ts.map cQ) vs↔Paired (oF F) vs ts
  |[],vs=>by
   rw[jb,bC];constructor
   ·rintro rfl;exact .nil
   ·intro h;cases h;rfl
  |t::ts,vs=>by
   rw[bY,aP];constructor
   ·rintro⟨v,r,rfl,h1,h2⟩;obtain⟨a,ws,rfl,h3,h4⟩:=aN.mp h1;rw[ix h4] at h3;exact .cons ⟨a,rfl,h3⟩ (zU.mp h2)
   · intro h;cases h with
     |cons h1 h2=>obtain⟨b,rfl,h3⟩:=h1;exact⟨_,_,rfl,aN.mpr ⟨b,_,rfl,h3,fX _⟩,zU.mpr h2⟩
theorem ZL{a b:aO}:pJ (0,a) (0,b)=HT.lexLt a b:=ay rfl
def lA:xR:=zR.map fun t=>((t.length:Int),t)
theorem ZM:((List.range 64).all fun i=>(List.range 64).all fun j=>pJ (lA.getD i (0,[])) (lA.getD j (0,[]))==kf i j)=true:=by decide +kernel
theorem PJ:lA.length=64:=by decide +kernel
theorem GP:rF lA:=fun prog w A E ks vs s h1 h2 h3 jO Q hQ=>by have eq:∀i j,i<64→j<64→pJ (lA.getD i (0,[])) (lA.getD j (0,[]))=kf i j:=fun i j hi hj=>eq_of_beq (iK.mp (iK.mp ZM i (mW.mpr hi)) j (mW.mpr hj));rw[PJ] at h1 h2;refine W6 (by omega) h2 (fun i j C hi hj hC=>jO i j C hi hj (by show C (pJ (lA.getD i (0,[])) (lA.getD j (0,[]))) s;rw[eq i j (by omega) (by omega)];exact hC)) Q fun p st' a1 a2 a3 a4=>hQ p st' a1 a2 a3 fun i j wq hj=>?_;rw[h2] at a3;show pJ (lA.getD (p.getD i 0) (0,[])) (lA.getD (p.getD j 0) (0,[]))=true;rw[eq _ _ (a3.lt (by decide) _) (a3.lt (by decide) _)];exact a4 i j wq hj
theorem MF{y:Str}{ps:gs}(hc:X.calm=true)(hu:X.A.units+5<cLine)(C:fW X.prog X.w X.K X.mg X.base k fn ps (cK X.K [true] Fn))(hr:fI (k+2) X.A)(Mu:Gl X "sorted")(D0:X.mg "sorted"=none)(hg:Gl X y)(hm:X.mg y=some (.ref fn))(ha:DE X z e f)(hdy:(y==("__debug__":Str))=false:=by decide)(hs:starEach [e] X.env=(false,eval e X.env)::starEach [] X.env:=by rfl):DO X z (.Call (.Name "sorted" p) [e] [⟨some "key",.Name y py,kp⟩] pos) (vd f Fn):=by
  intro pins s σ H Q I ⟨η,F,tu,rl,e0,kk⟩;unfold vd at e0;obtain⟨d',h1,e0⟩:=eK.mp e0;cases d' with
  |lst ds0 =>
   obtain⟨ts,h2,e0⟩:=eK.mp e0;obtain⟨ds,h3,e0⟩:=eK.mp e0;by_cases hl:ds.Nodup∧(ds.length<64∨ds=zR.map fun t=>((t.length:Int),t))
   · rw[ay hl] at e0;cases e0;obtain⟨a1,a2⟩:=Cz h3;have HR:rF ds∧ds.length≤64:=by
       rcases hl.2 with q|q
       ·exact⟨rG hl.1 q,by omega⟩
       ·rw[q];exact⟨GP,Nat.le_of_eq PJ⟩
     refine v8 (j5 I Mu D0 nr ?_ (by decide) (by decide));refine PyProof.Rows.callWith_kw ?_ (by rw[hs];rfl) (by rw[hs];rfl) rfl rfl;refine gx (fj ha kM hs pos pins s σ H (fun vs H1=>∃v F1,vs=[v]∧bA F H F1 H1∧Den X.K F1 (.lst ds0) v) I ⟨η,F,_,rl,h1,fun v H1 F1 g1 q1=>⟨v,F1,rfl,g1,q1⟩⟩) fun us s1 ⟨vs,H1,I1,r1,q1⟩=>?_;obtain⟨v,F1,rfl,g1,q1⟩:=q1;obtain⟨q,ws,rfl,h4,h5⟩:=aW.mp q1;obtain⟨u,rfl,ru⟩:=vals1 r1;cases ru;rw[PH h2] at h5;have je:Paired (Cw H1) ws ds:=by
       have h6:=zU.mp h5;rw[←a1] at h6;have key:∀{l:List V} {m:xR},Paired (oF F1) l (m.map (·.2))→Paired (Cw H1) l m:=by
         intro l m;induction m generalizing l with
         |nil=>intro h;cases h;exact .nil
         |cons x m ih =>
          intro h;cases h with
          |cons h1 h2=>obtain⟨b,rfl,h3⟩:=h1;exact .cons ⟨b,rfl,g1.base.sub _ _ h3⟩ (ih h2)
       exact key h6
     show wpAny _ _ (evalAll ((do let v ←eval (.Name y py) X.env;standAt pos;pure v)::[])) _ _ s1;refine wpAny_evalAll_cons (bh (sx I1 hg hm (bh (wpAny_standAt (cX ?_))) hdy));refine wpAny_evalAll_nil ?_;exact By hu C hr.in1.in1 I1 g1.base (g1.base.sub.seq h4) je a2 hl.1 HR.2 HR.1 fun p vs H' F' g q1 q2 q3 q4=>kk p vs H' F' (g1.trans g) (g1.ent.free q1) q2 q3 q4
   ·rw[aZ hl] at e0;cases e0
  |_=>cases e0
end
end DL
namespace DL
open PySem PySem.Spec L2
open PyProof.Rows hiding St pairAt
def minD:dm→Option D
  |[.int i,.int j]=>some (.int (if j<i then j else i))
  |_=>none
def Ts(f:EF)(b:BF):SF:=fun η=>(f η).bind fun d=>(b d η).map .nx
section
variable {X:Cx} {z:Zc} {e a b:Expr} {f fa fb fk:EF} {pos p:Pos} {K:PySem.W.Frag}
theorem W9:J7 K minD (fun xs H Q=>∃i j,xs=[.int i,.int j]∧Q (.int (if j<i then j else i)) H):=fun F H ds d vs Q b e h k=>by
  unfold minD at e;split at e
  ·rename_i i j;cases e;obtain⟨v,r,rfl,h1,h2⟩:=aP.mp h;obtain⟨w,rfl,h3⟩:=Ge h2;exact⟨i,j,by rw[aQ.mp h1,aQ.mp h3],k _ (aQ.mpr rfl)⟩
  ·cases e
theorem Xa{bf:BF}(he:DE X z e f)(hg:DG X z true tg bf)(hs:swapsWithSole [tg] e pos.line X.env=pure false:=by rfl)(hw:swappedStores [tg] e X.env=pure none:=by rfl)(h1:(assignEach [tg] X.env).map (·.2)=[assign tg X.env]:=by rfl):DS X z (.Assign [tg] e pos) (Ts f bf):=PS.weak (Vw he hg hs hw h1) fun D σ H ⟨η,F,o,r,e,k⟩=>by
  unfold Ts at e;obtain⟨d,e1,e2⟩:=eK.mp e;obtain⟨η',e3,rfl⟩:=g6.mp e2;exact⟨η,F,d,r,e1,fun v H1 F1 g1 q1=>⟨η,F1,d,η',r.grow g1,q1,e3,fun σ' r'=>k σ' H1 F1 r' g1.jA⟩⟩
end
end DL
namespace RV
open PySem PySem.Spec PySem.Calls
open PyProof.Rows hiding St pairAt
theorem jf:Slot "reversed" "__next__" "reversed.__next__" :=
  .of (owner:="reversed") (n:="__next__") (by rw[typeLookup_type,Fv];kernel_rfl) (by decide +kernel) (by decide +kernel) (by decide +kernel)
    (by first|exact .inl (by decide +kernel)|exact .inr (by decide +kernel)) (by rw[isSubtype_type];kernel_rfl)
theorem tS:Slot "reversed" "__iter__" "reversed.__iter__" :=
  .of (owner:="reversed") (n:="__iter__") (by rw[typeLookup_type,Fv];kernel_rfl) (by decide +kernel) (by decide +kernel) (by decide +kernel)
    (by first|exact .inl (by decide +kernel)|exact .inr (by decide +kernel)) (by rw[isSubtype_type];kernel_rfl)
theorem oW:Slot "reversed" "__length_hint__" "reversed.__length_hint__" :=
  .of (owner:="reversed") (n:="__length_hint__") (by rw[typeLookup_type,Fv];kernel_rfl) (by decide +kernel) (by decide +kernel) (by decide +kernel)
    (by first|exact .inl (by decide +kernel)|exact .inr (by decide +kernel)) (by rw[isSubtype_type];kernel_rfl)
theorem Bz:Slot "reversed" "__init__" "object.__init__" :=
  .of (owner:="object") (n:="__init__") (by rw[typeLookup_type,Fv];kernel_rfl) (by decide +kernel) (by decide +kernel) (by decide +kernel)
    (by first|exact .inl (by decide +kernel)|exact .inr (by decide +kernel)) (by rw[isSubtype_type];kernel_rfl)
theorem rK:entryFor table "reversed.__next__"=some Builtin.«reversed.__next__»:=entryFor_of_tree (by kernel_rfl)
theorem zV:entryFor table "reversed.__length_hint__"=some Builtin.«reversed.__length_hint__»:=entryFor_of_tree (by kernel_rfl)
theorem zW:entryFor table "reversed.__iter__"=some Builtin.«dict_keyiterator.__iter__» :=
  entryFor_alias (id':="dict_keyiterator.__iter__") (by kernel_rfl) (by first|rfl|decide +kernel|(unfold String.splitOn;simp +decide [String.splitOnAux])) (by decide +kernel) (by kernel_rfl)
theorem tT(a:Value):argsOk "reversed.__next__" ⟨[a],[]⟩:=by unfold argsOk;kernel_rfl
theorem BD(a:Value):argsOk "reversed.__iter__" ⟨[a],[]⟩:=by unfold argsOk;kernel_rfl
theorem BE(a:Value):argsOk "reversed.__length_hint__" ⟨[a],[]⟩:=by unfold argsOk;kernel_rfl
theorem Iy:TypeCalled "reversed" "reversed.__new__" "object.__init__" :=
  ⟨by decide +kernel,by decide +kernel,⟨_,_,F.mro_reversed⟩,F.made_reversed,by decide +kernel,by rw[isSubtype_type];kernel_rfl,Bz⟩
theorem Em:typeLookup (.type "tuple") "__reversed__"=pure none:=by rw[typeLookup_type,Fv];kernel_rfl
theorem Iz:typeLookup (.type "reversed") "__len__"=pure none:=by rw[typeLookup_type,Fv];kernel_rfl
theorem sub_tuple_dict:isSubtype (.type "tuple") (.type "dict")=pure false:=by rw[isSubtype_type];kernel_rfl
section
variable {prog:Program} {w:World} {A:Around} {E:nD} {s:Shared} {t r:Addr} {items:Array Value}
def PK(t:Addr)(i:Int):Obj:={ cls:=.type "reversed",data:=.fields #[.ref t,rawInt i] }
theorem PL(t:Addr)(items:Array Value)(pZ:(items.size:Int)<2^63):Meets (Builtin.«reversed.__new__» ⟨[.type "reversed",.ref t],[]⟩) (fun A R s=>IsTup s.heap t items∧∀tk,R (.ok (.ret (.ref s.heap.objs.size))) { s with heap:=s.heap.push (PK t ((items.size:Int)-1)),toks:=tk }) :=
  .of_wp fun prog w A R s h=>by
    obtain⟨ht,h⟩:=h;unfold Builtin.«reversed.__new__»;refine bh (uF (newClass_reversed _) ?_)
    try dsimp only
    refine bh (uF (a:=()) (by first|rfl|kernel_rfl) ?_);refine bh (uF (a:=()) (by first|rfl|kernel_rfl) ?_)
    try dsimp only
    refine bh (wpAny_specialOf ht.typeIs Em ?_)
    try dsimp only
    refine bh ?_
    wp_delta
    refine bh (wpAny_isInstance ht.typeIs sub_tuple_dict ?_);rw[aZ jx];refine bh (wpAny_specialOf ht.typeIs slot_tuple_getitem.lookup ?_);dsimp only;rw[ay (by decide +kernel)];refine cX ?_;rw[aZ (by decide)];refine bh (len_tuple ht pZ ?_);refine bh (uF (a:=some (items.size:Int)) rfl ?_);dsimp only;refine bh ?_;show wpAny _ _ (newObj (.type "reversed") (.fields #[.ref t,rawInt ((items.size:Int)-1)])) _ _ _;refine xU ?_;exact cX ⟨_,rfl,h _⟩
theorem tD(ht:IsTup s.heap t items)(pZ:(items.size:Int)<2^63)(h:∀tk,Q (.ref s.heap.objs.size) { s with heap:=s.heap.push (PK t ((items.size:Int)-1)),toks:=tk }):wpAny (model prog w) A (call (.type "reversed") [.ref t]) Q E s :=
  callType_new Iy (by decide) (F.typeCall_reversed_1 _) (F.newCall_reversed_1 _) (fun obj=>F.args_object_init_2 obj _) F.entry_reversed_new
    (PL t items pZ) ⟨ht,fun tk=>⟨⟨_,iu _ rfl,rfl⟩,h tk⟩⟩
def tE(h:Heap)(r t:Addr)(i:Int):Prop:=∃o,h.get? r=some o∧o.cls=.type "reversed"∧o.data=.fields #[.ref t,rawInt i]
theorem tE.typeIs{i:Int}(x:tE s.heap r t i):s.TypeIs (.ref r) "reversed":=let ⟨o,ho,hc,_⟩:=x;⟨o,ho,hc⟩
theorem tE.at{i:Int}(x:tE h r t i)(e:∀o,h.get? r=some o→h'.get? r=some o):tE h' r t i:=let ⟨o,ho,q⟩:=x;⟨o,e _ ho,q⟩
theorem next_item{x:Value}{Q:ni→Shared→Prop}(hit:tE s.heap r t (i:Int))(ht:IsTup s.heap t items)(hx:items[i]?=some x)(pZ:(items.size:Int)<2^63)(hQ:∀h' tk,tE h' r t ((i:Int)-1)→Heap.SameBut r s.heap h'→Q (some x) { s with heap:=h',toks:=tk }):wpAny (model prog w) A (pyNext (.ref r)) Q E s:=by
  obtain⟨o,ho,hc,hd⟩:=id hit;have hi:i<items.size:=(Array.getElem?_eq_some_iff.mp hx).1;unfold pyNext;refine bh (wpAny_attempt (wpAny_callSpecial?_slot (name:=Str.ofString "__next__") hit.typeIs jf
    (xX jf hit.typeIs rK ?_ (tT _))))
  unfold Builtin.«reversed.__next__»;refine bh (uF (a:=(Value.ref r,[])) rfl ?_)
  try dsimp only
  refine bh (wpAny_field ho hd (x:=.ref t) rfl ?_);refine bh (wpAny_field ho hd (x:=rawInt (i:Int)) rfl ?_);show wpAny _ _ (if (i:Int)<0 then _ else _) _ _ s;rw[aZ (by omega)];refine bh (wpAny_specialOf ht.typeIs slot_tuple_getitem.lookup ?_);rw[aZ (by simp)];refine bh (wpAny_mkInt ?_);refine bh (wpAny_attempt (getItem_tuple (s:={ s with toks:=s.toks+1 }) (j:=i) ht (by omega) (by omega) (by unfold seqIndex?;simp;omega) hx ?_))
  try dsimp only
  refine bh (wpAny_field (s:={ s with toks:=s.toks+1 }) ho hd (x:=rawInt (i:Int)) rfl ?_);show wpAny _ _ (setField (.ref r) 1 (rawInt ((i:Int)-1))>>=_) _ _ _;refine bh (wpAny_setField (s:={ s with toks:=s.toks+1 }) ho hd (by simp) ?_);refine cX ⟨x,rfl,cX (hQ _ _ ?_ (v7 ..))⟩;exact⟨_,A7 _ ho (Obj.isFreed_of_fields (A9 hd _)),(Obj.cls_mapFields ..).trans hc,by
    rw[A9 hd];simp⟩
theorem next_end{Q:ni→Shared→Prop}(hh:A.handled=none)(hit:tE s.heap r t (-1))(hQ:∀h',Heap.ExtBut r s.heap h'→Q none { s with heap:=h' }):wpAny (model prog w) A (pyNext (.ref r)) Q E s:=by
  obtain⟨o,ho,hc,hd⟩:=id hit;unfold pyNext;refine bh (wpAny_attempt (wpAny_callSpecial?_slot (name:=Str.ofString "__next__") hit.typeIs jf
    (xX jf hit.typeIs rK ?_ (tT _))))
  unfold Builtin.«reversed.__next__»;refine bh (uF (a:=(Value.ref r,[])) rfl ?_)
  try dsimp only
  refine bh (wpAny_field ho hd (x:=.ref t) rfl ?_);refine bh (wpAny_field ho hd (x:=rawInt (-1)) rfl ?_);show wpAny _ _ (if (-1:Int)<0 then _ else _) _ _ s;rw[ay (by decide)];refine bh (wpAny_rule ?_);refine bh ?_
  wp_delta
  refine bh (wpAny_setField ho hd (by simp) ?_);have hg1:=A7 (Obj.mapFields fun x=>x.setIfInBounds 1 (rawInt (-1))) ho (Obj.isFreed_of_fields (A9 hd _));have ZF:=A9 hd (fun x=>x.setIfInBounds 1 (rawInt (-1)));refine wpAny_setField hg1 ZF (by simp) ?_
  first
  |show wpAny _ _ (newExc (.type "StopIteration") []>>=_) _ _ _
  |(refine bh ?_;show wpAny _ _ (newExc (.type "StopIteration") []>>=_) _ _ _)
  refine bh ?_;simp only[newExc,newTuple];refine bh (xU ?_ (by size_fits));refine bh (m:=firstArgMember _ _) (uF (a:=Value.none) (by first|rfl|(simp only[firstArgMember];rfl)) ?_);refine xU ?_ (by size_fits);simp only[raiseNew];refine bh (wpAny_handled ?_)
  first|rw[show A.in1.handled=none from hh]|rw[hh]
  refine bh (cX (wpAny_throw ?_));refine bh (wpAny_isInstance (T:="StopIteration") (b:=true) ⟨_,iu _ rfl,rfl⟩ isSubtype_stop ?_);exact cX (hQ _ ((((v7 ..).trans (v7 ..)).extBut.push _).push _))
theorem CB{i:Int}(hit:tE s.heap r t i)(h:Q (.ref r) s):wpAny (model prog w) A (pyIter (.ref r)) Q E s:=by refine wpAny_pyIter_slot hit.typeIs tS (xX tS hit.typeIs zW ?_ (BD _));show wpAny _ _ (ret (.ref r)) _ _ s;exact cX ⟨_,rfl,"reversed",_,hit.typeIs,jf.lookup,h⟩
theorem MG(hh:A.handled=none)(r t:Addr)(hE:t≠r)(items:Array Value)(pZ:(items.size:Int)<2^63) :
    Walks prog w A r [r,t] [r] items.size (fun i v=>items[items.size-1-i]?=some v) (fun i h=>i≤items.size∧tE h r t ((items.size:Int)-1-(i:Int))∧IsTup h t items) where
  sub:=fun b hb=>by simp at hb;simp[hb]
  frame:=fun _ _ _ x hk=>⟨x.1,x.2.1.at fun o e=>hk r (by simp) o e,let ⟨o,ho,q⟩:=x.2.2;⟨o,hk t (by simp) o ho,q⟩⟩
  item:=fun i s Q E hi x hQ=>by
    have e:(items.size:Int)-1-(i:Int)=((items.size-1-i:Nat):Int):=by omega
    have hit:=x.2.1;rw[e] at hit;have hx:items[items.size-1-i]?=some (items[items.size-1-i]'(by omega)):=A4 (by omega);refine next_item hit x.2.2 hx pZ fun h' tk Bp FY=>?_;have e2:((items.size-1-i:Nat):Int)-1=(items.size:Int)-1-((i+1:Nat):Int):=by omega
    rw[e2] at Bp;exact hQ _ h' tk hx ⟨hi,Bp,x.2.2.extBut FY.extBut hE⟩ fun b o hb eo=>FY.extBut b o (fun h=>hb (by simp[h])) eo
  done:=fun s Q E x hQ=>by
    have e:(items.size:Int)-1-(items.size:Int)=-1:=by omega
    have hit:=x.2.1;rw[e] at hit;exact next_end hh hit fun h' ZG=>hQ h' s.toks fun b o hb eo=>ZG b o (fun h=>hb (by simp[h])) eo
  self:=fun _ _ _ _ x hQ=>CB x.2.1 hQ
theorem PN{Q:Bool→Shared→Prop}(hit:tE s.heap r t ((items.size:Int)-1))(ht:IsTup s.heap t items)(hz:items.size≤sizeLine)(pZ:(items.size:Int)<2^63)(h:∀b tk,Q b { s with toks:=tk }):wpAny (model prog w) A (Builtin.List.listLengthHint (.ref r)) Q E s:=by
  have hT:=hit.typeIs;obtain⟨o,ho,hc,hd⟩:=id hit;unfold Builtin.List.listLengthHint;refine bh (wpAny_specialOf hT Iz ?_);dsimp only;refine Bc (fun oT=>absurd oT (by decide)) (fun _=>?_);refine Bc (fun oT=>absurd oT (by decide)) (fun _=>?_);refine bh (wpAny_specialOf hT oW.lookup ?_);generalize X4:("reversed.__length_hint__":String)=id0;dsimp only;rw[show splitId id0=some ("reversed","__length_hint__") from by subst X4;decide +kernel];subst X4;refine bh (wpAny_isInstance (T:="reversed") (b:=true) hT F.sub_reversed_self ?_);refine Bc (fun oT=>absurd oT (by decide)) (fun _=>?_);refine Bc (fun oT=>absurd oT (by decide +kernel)) (fun _=>?_);refine bh (wpAny_rule ?_);refine bh (uF (oW.bind _) ?_);refine bh (wpAny_attempt (xX oW hT zV ?_ (BE _)));unfold Builtin.«reversed.__length_hint__»;refine bh (uF (a:=Value.ref r) rfl ?_);refine bh (wpAny_field ho hd (x:=.ref t) rfl ?_);refine Bc (fun oT=>absurd oT (show ¬ ((Value.ref t==Value.none)=true) from jx)) (fun _=>?_);refine bh (len_tuple ht pZ ?_);refine bh (uF (a:=some (items.size:Int)) rfl ?_);dsimp only;refine bh (wpAny_field (s:={ s with toks:=s.toks+1+1 }) ho hd (x:=rawInt ((items.size:Int)-1)) rfl ?_);show wpAny _ _ (if (items.size:Int)<(items.size:Int)-1+1 then _ else _) _ _ _;rw[aZ (by omega)];refine bh (wpAny_mkInt (cX ⟨_,rfl,?_⟩));dsimp only;refine bh (uF (a:=some ((items.size:Int)-1+1)) rfl ?_);dsimp only;have f1:Builtin.List.listFitsIndex ((items.size:Int)-1+1)=true:=by unfold Builtin.List.listFitsIndex;simp only[t6,A8];omega
  have f2:Builtin.List.listTooLong ((items.size:Int)-1+1).toNat=false:=by unfold Builtin.List.listTooLong;exact lL (by omega)
  rw[aZ (by rw[f1];decide),aZ (by omega),aZ (by rw[f2];decide)];exact cX (h _ _)
theorem IA{R:Result→Shared→Prop}(hh:A.handled=none)(hit:tE s.heap r t ((items.size:Int)-1))(ht:IsTup s.heap t items)(hE:t≠r)(hz:items.size≤sizeLine)(pZ:(items.size:Int)<2^63)(S:Addr)(ZN:S≠r)(hSt:S≠t)(res:Value)(c₀:Nat)(hS:s.heap.get? S=some { cls:=.type "list",data:=.seq #[] c₀ })(hR:∀h' tk jZ c',(∀b o,b≠S→b≠r→s.heap.get? b=some o→h'.get? b=some o)→h'.get? S=some { cls:=.type "list",dict:=none,data:=.seq jZ c',slots:=#[] }→ItemsOf (fun i v=>items[items.size-1-i]?=some v) jZ items.size→R (.ok (.ret res)) { s with heap:=h',toks:=tk }) :
    wpAny (model prog w) A.in1 (Builtin.List.listExtendWith (.ref S) (.ref r) res)
      (fun fin s'=>match fin with|.done f=>R (.ok f) s'|.again c'=>c'.quiet=true∧codeAny (model prog w) A c' R s') (fun e s'=>R (.error e) s') s:=by
  have WV:S∉[r,t]:=by simp only[fR,List.not_mem_nil,or_false,not_or];exact⟨ZN,hSt⟩
  have W:=MG (prog:=prog) (w:=w) (A:=A.in1) hh r t hE items pZ;have key:∀(h:Heap) (c₁ tk:Nat),(0≤items.size∧tE h r t ((items.size:Int)-1-((0:Nat):Int))∧IsTup h t items)→(∀b o,b≠S→s.heap.get? b=some o→h.get? b=some o) →
      h.get? S=some { cls:=.type "list",data:=.seq #[] c₁ }→codeAny (model prog w) A (.builtin "list.extend.loop" ⟨[.ref S,.ref r,res],[]⟩) R { s with heap:=h,toks:=tk }:=by
    intro h c₁ tk Ls hk hS₁;refine codeAny_extend_loopS W.toS hz S WV res items.size 0 _ #[] c₁ rfl (sZ _) Ls hS₁ (ItemsOf.nil _) fun s' jZ c' hm Bu jD=>?_;rw[Moved.eq_with hm];refine hR s'.heap s'.toks jZ c' (fun b o hb hr e=>hm.heap b o (fun PQ=>?_) (hk b o hb e)) Bu jD;rcases fR.mp PQ with e'|PQ
    ·exact hb e'
    ·exact hr (List.mem_singleton.mp PQ)
  unfold Builtin.List.listExtendWith;refine bh (wpAny_typeOf (T:="reversed") hit.typeIs ?_);have h1:Builtin.List.listSameRef (.ref S) (.ref r)=false:=by simp[Builtin.List.listSameRef,ZN]
  have h2:(Value.type "reversed"==Value.type "list")=false:=by decide
  have h3:(Value.type "reversed"==Value.type "tuple")=false:=by decide
  simp only[h1,h2,h3,Bool.or_false,t5,mZ];refine bh (CB hit ?_);refine bh (wc (PN hit ht hz pZ fun b tk=>?_));have st0:0≤items.size∧tE s.heap r t ((items.size:Int)-1-((0:Nat):Int))∧IsTup s.heap t items:=⟨sZ _,by simpa using hit,ht⟩
  refine Bc (fun _=>?_) (fun _=>cX ⟨plainId_quiet PySem.F.plain_extend_loop _,key _ c₀ _ st0 (fun b o _ e=>e) hS⟩);refine bh (wpAny_rule ?_);refine bh ?_;show wpAny _ _ (updateSeq S (·.push .none)>>=fun _=>updateSeq S (·.pop)) _ _ _;refine bh (wpAny_updateSeq (s:={ s with toks:=tk }) hS rfl ?_);have hS₂:=A7 (Obj.mapSeq (·.push Value.none)) hS rfl;refine wpAny_updateSeq (hz:=by seq_fits) hS₂ rfl ?_;have hS₃:=A7 (Obj.mapSeq (·.pop)) hS₂ rfl;refine cX ⟨plainId_quiet PySem.F.plain_extend_loop _,key _ _ _ ?_ (fun b o hb e=>?_) hS₃⟩
  ·refine W.frame 0 _ _ st0 fun b hb o e=>?_;have hbS:b≠S:=fun h=>WV (h▸hb);exact(Heap.get?_update_other _ _ (Ne.symm hbS)).trans ((Heap.get?_update_other _ _ (Ne.symm hbS)).trans e)
  ·exact(Heap.get?_update_other _ _ (Ne.symm hb)).trans ((Heap.get?_update_other _ _ (Ne.symm hb)).trans e)
theorem PR{R:Result→Shared→Prop}(hh:A.handled=none)(hit:tE s.heap r t ((items.size:Int)-1))(ht:IsTup s.heap t items)(hE:t≠r)(hz:items.size≤sizeLine)(pZ:(items.size:Int)<2^63)(S:Addr)(ZN:S≠r)(hSt:S≠t)(hS:s.heap.get? S=some { cls:=.type "list",data:=.seq #[] })(hR:∀h' tk jZ c',(∀b o,b≠S→b≠r→s.heap.get? b=some o→h'.get? b=some o)→h'.get? S=some { cls:=.type "list",dict:=none,data:=.seq jZ c',slots:=#[] }→ItemsOf (fun i v=>items[items.size-1-i]?=some v) jZ items.size→R (.ok (.ret .none)) { s with heap:=h',toks:=tk }) :
    wpAny (model prog w) A.in1 (Builtin.«list.__init__» ⟨[.ref S,.ref r],[]⟩)
      (fun fin s'=>match fin with|.done f=>R (.ok f) s'|.again c'=>c'.quiet=true∧codeAny (model prog w) A c' R s') (fun e s'=>R (.error e) s') s:=by
  show wpAny _ _ (do let old ←Builtin.List.listItems (.ref S);Builtin.List.listUpdate (.ref S) (fun _=>#[]);letGo old.toList.reverse;Builtin.List.listExtendWith (.ref S) (.ref r) .none) _ _ s;refine bh ?_;unfold Builtin.List.listItems;refine bh (wpAny_seqItems hS rfl (cX ?_));show wpAny _ _ (updateSeq S (fun _=>#[])>>=fun _=>letGo (#[]:Array Value).toList.reverse>>=fun _=>Builtin.List.listExtendWith (.ref S) (.ref r) .none) _ _ s;refine bh (wpAny_updateSeq hS rfl ?_);have hS₂:=A7 (Obj.mapSeq (fun _=>(#[]:Array Value))) hS rfl;have oth:∀b o,b≠S→s.heap.get? b=some o→(s.heap.update S (Obj.mapSeq (fun _=>(#[]:Array Value)))).get? b=some o :=
    fun b o hb e=>(Heap.get?_update_other _ _ (Ne.symm hb)).trans e
  refine bh (wpAny_letGo ?_);refine IA hh (hit.at fun o e=>oth r o ZN.symm e) (let ⟨o,ho,q⟩:=ht;⟨o,oth t o hSt.symm ho,q⟩) hE hz pZ S ZN hSt .none _ hS₂ (fun h' tk jZ c' hk Bu jD=>?_);exact hR h' tk jZ c' (fun b o hb hr e=>hk b o hb hr (oth b o hb e)) Bu jD
theorem BG(hh:A.handled=none)(hit:tE s.heap r t ((items.size:Int)-1))(ht:IsTup s.heap t items)(hE:t≠r)(hz:items.size≤sizeLine)(pZ:(items.size:Int)<2^63)(hQ:∀h' tk jZ c',(∀b o,b≠r→s.heap.get? b=some o→h'.get? b=some o)→h'.get? s.heap.objs.size=some { cls:=.type "list",dict:=none,data:=.seq jZ c',slots:=#[] }→ItemsOf (fun i v=>items[items.size-1-i]?=some v) jZ items.size→Q (.ref s.heap.objs.size) { s with heap:=h',toks:=tk }):wpAny (model prog w) A (call (.type "list") [.ref r]) Q E s:=by
  refine callType_codes (Q₁:=fun obj s₁=>obj=.ref s.heap.objs.size∧s₁={ s with heap:=s.heap.push { cls:=.type "list",data:=.seq #[] } }) PySem.F.called_list (PySem.F.typeCall_list_1 _) PySem.F.entry_list_init
    (code_list_new _ ⟨rfl,rfl⟩) fun obj s₁ h₁=>?_
  obtain⟨rfl,rfl⟩:=h₁;have hS:(s.heap.push { cls:=.type "list",data:=.seq #[] }).get? s.heap.objs.size=some { cls:=.type "list",data:=.seq #[] }:=iu _ rfl;have l1:r<s.heap.objs.size:=let ⟨_,ho,_⟩:=hit;dj ho
  have l2:t<s.heap.objs.size:=let ⟨_,ho,_⟩:=ht;dj ho
  refine⟨⟨_,hS,rfl⟩,PySem.F.args_list_init_2 _ _,PR (A:=A.in1) hh (hit.at fun o e=>eu _ e) (ht.push _) hE hz pZ _ (Nat.ne_of_gt l1) (Nat.ne_of_gt l2) hS (fun h' tk jZ c' hk Bu jD=>?_)⟩;exact⟨rfl,hQ h' tk jZ c' (fun b o hr e=>hk b o (fV (dj e)) hr (eu _ e)) Bu jD⟩
end
end RV
namespace DL
open PySem PySem.Spec L2 NS RV
open PyProof.Rows hiding St pairAt
section
variable {X:Cx} {z:Zc} {e a b:Expr} {f fa fb fk fv:EF} {fl fs:LF} {pos p p' pos':Pos} {g:SF} {st:Stmt} {es:List Expr} {ms:List Bool} {te:TE}
theorem boot_reversed:bootBuiltins "reversed"=some (.type "reversed"):=by decide +kernel
def ZO(K:PySem.W.Frag)(te:TE):TE:=fun σ H Q=>te σ H fun x H1=>∃a ws,x=.ref a∧kE K H1 a ws∧∀l,H1 l=none→Q (.ref l) (upd H1 l (.lst ws.reverse))
theorem PV:∀{xs:List V} {us:dO},Vals xs us→Vals xs.reverse us.reverse:=fun {xs us} h=>by
  induction h with
  |nil=>exact .nil
  |cons r t ih=>rw[List.reverse_cons,List.reverse_cons];exact ih.append (.cons r .nil)
theorem MH{acc:Array Value}{its:dO}(h:ItemsOf (fun i v=>its.toArray[its.toArray.size-1-i]?=some v) acc its.toArray.size):acc.toList=its.reverse:=by
  obtain⟨h1,h2⟩:=h;have h1:acc.size=its.length:=h1.trans j3;refine List.ext_getElem? fun i=>?_;by_cases hi:i<its.length
  · have Rp:i<acc.size:=by omega
    have:=h2 i acc[i] (A4 Rp);rw[List.getElem?_reverse hi,Array.getElem?_toList,A4 Rp,←this];simp
  ·rw[A5 (by rw[ou];omega),A5 (by rw[List.length_reverse];omega)]
theorem Tt(hc:X.calm=true)(Mu:Gl X "list")(D0:X.mg "list"=none)(hg:Gl X "reversed")(hm:X.mg "reversed"=none)(he:PE X e te)(hs:starEach [e] X.env=(false,eval e X.env)::starEach [] X.env:=by rfl)(Bi:starEach [Expr.Call (.Name "reversed" p') [e] [] pos'] X.env=(false,eval (.Call (.Name "reversed" p') [e] [] pos') X.env)::starEach [] X.env:=by rfl):PE X (.Call (.Name "list" p) [.Call (.Name "reversed" p') [e] [] pos'] [] pos) (ZO X.K te):=by
  intro pins s σ H Q I h;refine v8 (j5 I Mu D0 DF ?_ (by decide) (by decide));refine Ft ?_ Bi rfl;rw[Bi];show wpAny _ _ (spliced ((false,eval (.Call (.Name "reversed" p') [e] [] pos') X.env)::backTo pos (starEach [] X.env))) _ _ s;refine Dk ?_;refine v8 (j5 I hg hm boot_reversed ?_ (by decide) (by decide));refine Ft ?_ hs rfl;rw[hs];show wpAny _ _ (spliced ((false,eval e X.env)::backTo pos' (starEach [] X.env))) _ _ s;refine Dk (gx (he pins s σ H _ I h) fun u s1 ⟨x,H1,I1,r1,q1⟩=>?_);refine Calls.spliced_nil ?_;obtain⟨a,ws,rfl,hq,hk⟩:=q1;cases r1;obtain⟨its,rv,ht,hz⟩:=I1.tuple hq;have hh:X.A.handled=none:=I1.ok.hd hc;have hz1:its.toArray.size≤sizeLine:=by have:=rv.length;rw[j3,←this];exact hz
  have pZ:(its.toArray.size:Int)<2^63:=by
    have h2:sizeLine<2^63:=by rw[jc];decide
    omega
  refine tD ht pZ fun tk=>?_;refine Calls.spliced_nil ?_;have jO:a<s1.heap.objs.size:=let ⟨_,ho,_⟩:=ht;dj ho
  refine BG (t:=a) (items:=its.toArray) hh ⟨_,iu _ rfl,rfl,rfl⟩ (ht.push _) (fV jO) hz1 pZ fun h' ZC acc c' hk2 Rw jD=>?_;have keep:∀b o,s1.heap.get? b=some o→h'.get? b=some o:=fun b o q=>hk2 b o (fV (dj q)) (eu _ q);have hsz:s1.heap.objs.size≤(s1.heap.push (PK a ((its.toArray.size:Int)-1))).objs.size:=by rw[Heap.size_push];exact Nat.le_succ _
  have ea:acc=its.reverse.toArray:=by rw[←MH jD]
  rw[ea] at Rw
  refine⟨.ref _,_,I1.laid (o:=.lst ws.reverse) (t':=ZC) keep hsz ⟨?_,its.reverse,c',PV rv,Rw⟩,rfl,hk _ (I1.cZ.fresh hsz)⟩;rw[List.length_reverse];exact hz
def Kw(f:EF):LF:=fun η=>(f η).bind fun d=>match d with|.tup ds=>some ds.reverse|_=>none
theorem Tv(hc:X.calm=true)(Mu:Gl X "list")(D0:X.mg "list"=none)(hg:Gl X "reversed")(hm:X.mg "reversed"=none)(ha:DE X z e f)(hs:starEach [e] X.env=(false,eval e X.env)::starEach [] X.env:=by rfl)(Bi:starEach [Expr.Call (.Name "reversed" p') [e] [] pos'] X.env=(false,eval (.Call (.Name "reversed" p') [e] [] pos') X.env)::starEach [] X.env:=by rfl):DO X z (.Call (.Name "list" p) [.Call (.Name "reversed" p') [e] [] pos'] [] pos) (Kw f):=PE.weak (Tt hc Mu D0 hg hm ha hs Bi) fun σ H Q ⟨η,F,d,r,e,k⟩=>by
  unfold Kw at e;obtain⟨d',h1,e⟩:=eK.mp e;cases d' with
  |tup ds=>cases e;refine⟨η,F,_,r,h1,fun v H1 F1 g1 q1=>?_⟩;obtain⟨a,ws,rfl,h3,h4⟩:=aN.mp q1;refine⟨a,ws,rfl,kE.of (g1.base.sub _ _ h3),fun l hl=>?_⟩;have g2:=bA.own g1.base hl (.lst ws.reverse) (show ws.reverse.length≤sizeLine by rw[List.length_reverse];exact g1.base.Fp _ _ (g1.base.sub _ _ h3)) rfl;exact k l ws.reverse _ F1 (g1.trans g2) (g1.ent.free hl) (g1.base.sub.free hl) aL (uO h4)
  |_=>cases e
end
end DL
namespace DL
open PySem PySem.Spec L2
open PyProof.Rows hiding St pairAt
structure ZP (K:PySem.W.Frag) (C:Addr):Prop where
  makes:makesIn K C=true
  init:PySem.W.findIn K (.ref C) "__init__"=some (some (.builtin "object.__init__"))
  kp:keepIn K (.ref C)=true
structure agr (K:PySem.W.Frag) (C:Addr):Prop where
  cl:Rl K C
  ha:PySem.W.findIn K (.ref C) "__class__"=some (some (.builtin "object.__class__"))
  hn:PySem.W.specialIn K (.builtin "object.__class__") "__get__"=some (some (.builtin "getset_descriptor.__get__"))
  htk:PySem.W.takesIn K (.builtin "object.__class__")=some true
  hm:PySem.W.mroIn K C (.type "object")=some true
section
variable {X:Cx} {z:Zc} {e a b o:Expr} {f fa fb fk fv fo:EF} {fl fs:LF} {pos p p' pos' apos:Pos} {g:SF} {st:Stmt} {es:List Expr} {ms:List Bool} {te:TE} {C:Addr} {x m:Str}
theorem MJ{Q:VK}(M:ZP X.K C)(I:Inv X pins σ H s)(h:∀x dx,H x=none→H dx=none→dx≠x→Q (.ref x) (upd (upd H dx (.own x)) x (.ins C dx []))):wpAny (model X.prog X.w) X.A (call (.ref C) []) (EP X pins σ Q) X.xe s:=by
  have hq:=h (s.heap.objs.size+1) s.heap.objs.size (I.cZ.fresh (Nat.le_succ _)) (I.cZ.fresh (cw _)) (fV (Nat.lt_succ_self _));have I2:=Inv.made (C:=C) I;have Y:=makes_of (M:=model X.prog X.w) I.xB M.makes;refine wpAny_call (LD I.xB M.makes M.init (fun self=>PySem.W.Looks.of_pure (PySem.W.oi_bind self)) ?_);have hx:((s.heap.push emptyDict).push (instObj C s.heap.objs.size)).get? (s.heap.objs.size+1)=some (instObj C s.heap.objs.size):=by have:=iu (s.heap.push emptyDict) (o:=instObj C s.heap.objs.size) rfl;rwa[Heap.size_push] at this
  have t1:PySem.W.Looks (model X.prog X.w) ((s.heap.push emptyDict).push (instObj C s.heap.objs.size)) (typeOf (.ref (s.heap.objs.size+1))) (.ref C):=(PySem.W.Looks.ld hx).andThen .now;have t2:PySem.W.Looks (model X.prog X.w) ((s.heap.push emptyDict).push (instObj C s.heap.objs.size)) (isInstance (.ref (s.heap.objs.size+1)) (.type "object")) true:=t1.andThen (Y.top.keeps fun b o e=>eu _ (eu _ e));refine codeAny_call_builtin PySem.W.oi_plain PySem.W.entry_oi (@PySem.W.check_slot (model X.prog X.w) _ _ _ "object.__init__" "object" "__init__" (.ref (s.heap.objs.size+1)) [] [] _ PySem.W.oi_kind PySem.W.oi_split t2 (PySem.W.oi_args (.ref (s.heap.objs.size+1))) ?_);rw[oi_run];exact cX (And.intro rfl ⟨.ref (s.heap.objs.size+1),_,I2,rfl,hq⟩)
def Tw(C:Addr):EF:=fun _=>some (.obj C)
theorem zX(hz:kP X.K z.F₀)(M:ZP X.K C)(hg:Gl X x)(hm:X.mg x=some (.ref C))(ti:(x==("__debug__":Str))=false:=by decide):DE X z (.Call (.Name x p) [] [] pos) (Tw C):=by
  intro pins s σ H Q I ⟨η,F,d,r,e0,k⟩;cases e0;refine v8 (sx I hg hm ?_ ti);refine PySem.W.callWith_K0 I.xB M.kp (MJ M I fun x dx hx hdx ne=>?_);have g1:=bA.put r.base hdx (.own x) True.intro;have hx1:(upd H dx (.own x)) x=none:=by rw[aK (Ne.symm ne)];exact hx
  have g2:=bA.put g1.base hx1 (.ins C dx []) True.intro;exact k _ _ _ (g1.trans g2) (hG.mpr ⟨x,dx,rfl,aL,(hz.mono r.mem.jA).mono (g1.trans g2).jA⟩)
def lT(tb:List (Addr×(dm→eP)))(fo:EF)(fs:LF):EF:=fun η=>(fo η).bind fun d=>match d with
  |.obj C=>(tb.lookup C).bind fun Fn=>ax Fn (ae (eC d) fs) η
  |_=>none
def PX(X:Cx)(m:Str)(ms:List Bool)(C:Addr)(Fn:dm→eP):Prop :=
  ∃f k ps,Rl X.K C∧Meth X.K C m f∧fW X.prog X.w X.K X.mg X.base k f ps (cK X.K (true::ms) Fn)∧fI k X.A
def GQ(X:Cx)(m:Str)(ms:List Bool)(tb:List (Addr×(dm→eP))):Prop:=∀C Fn,tb.lookup C=some Fn→PX X m ms C Fn
theorem ve:GQ X m ms []:=fun _ _ h=>nomatch h
theorem eF{tb:List (Addr×(dm→eP))}(h:PX X m ms C Fn)(r:GQ X m ms tb):GQ X m ms ((C,Fn)::tb):=fun C' Fn' q=>by
  rw[yG] at q;split at q
  ·rename_i hb;cases q;rw[beq_iff_eq.mp hb];exact h
  ·exact r C' Fn' q
theorem PY{tb:List (Addr×(dm→eP))}{Q:VK}{ds:dm}(hT:GQ X m ms tb)(ho:DE X z o fo)(ha:DM X z (e::es) ms fs)(Ls:starEach (e::es) X.env=(false,eval e X.env)::starEach es X.env)(tj:(backTo pos (starEach es X.env)).any (·.1)=false)(ht:eval (.Call (.Attribute o m apos) (e::es) [] pos) X.env=(do
      let ov ←eval o X.env
      standAt apos.atName
      let (f,first) ←holding [ov] (getMethod ov m pl)
      callWith pos f first (backTo pos (starEach (e::es) X.env)) (backToKw pos (keywordEach [] X.env))))(I:Inv X pins σ H s)(r:Rel X.K z F H σ η)(h1:fo η=some (.obj C))(h2:tb.lookup C=some Fn)(h3:fs η=some ds)(h4:Fn (.obj C::ds)=some sl)(k:∀H1 F1,bA F H F1 H1→Gb X.K F1 H1 sl Q):wpAny (model X.prog X.w) X.A (eval (.Call (.Attribute o m apos) (e::es) [] pos) X.env) (EP X pins σ Q) X.xe s:=by
  obtain⟨f,n,ps,hc,hm,hC,hr⟩:=hT C Fn h2;obtain⟨fd,G,hb,kp⟩:=hC.ex;refine FJ ho I ⟨η,F,.obj C,r,h1,fun v H1 F1 g1 q1=>?_⟩ ht;obtain⟨a,dx,rfl,hF,_⟩:=hG.mp q1;refine⟨a,C,dx,[],f,rfl,g1.base.sub _ _ hF,hc,hm,rfl,fun s1 I1=>?_⟩;refine callWith_K (first:=[.ref a]) (h₀:=X.base) I.ok.mod.kin hm.kp (gx (ha pos pins s1 σ H1 (fun vs H2=>∃F2,bA F1 H1 F2 H2∧nK X.K F2 H2 ms ds vs) I1 ⟨η,F1,ds,r.grow g1,h3,fun vs H2 F2 g2 q2=>⟨F2,g2,q2⟩⟩) fun us s2 ⟨vs,H2,I2,rv,F2,g2,q2⟩=>⟨I2.xB,?_⟩) Ls tj;refine NW (us:=.ref a::us) (vs:=.ref a::vs) (dvs:=[]) (ds:=[]) G hr hb .nil UE I2 (.cons rfl rv) ?_;show cK X.K (true::ms) Fn (.ref a::vs++[]) H2 Q E0;rw[uE];refine⟨F2,.obj C::ds,sl,g2.base,⟨cz g2.jA _ _ q1,q2⟩,h4,k H2 F2 (g1.trans g2)⟩
theorem PZ{fs:LF}{ds:dm}(h:(ae (eC d) fs) η=some ds):∃tu,fs η=some tu∧ds=d::tu:=by
  unfold ae eC at h;simp only[bI] at h;cases q:fs η with
  |none=>rw[q] at h;cases h
  |some tu=>rw[q] at h;exact⟨tu,rfl,(ow h).symm⟩
theorem vf{tb:List (Addr×(dm→eP))}(hT:GQ X m ms tb)(ho:DE X z o fo)(ha:DM X z (e::es) ms fs)(Ls:starEach (e::es) X.env=(false,eval e X.env)::starEach es X.env:=by rfl)(tj:(backTo pos (starEach es X.env)).any (·.1)=false:=by rfl)(ht:eval (.Call (.Attribute o m apos) (e::es) [] pos) X.env=(do
      let ov ←eval o X.env
      standAt apos.atName
      let (f,first) ←holding [ov] (getMethod ov m pl)
      callWith pos f first (backTo pos (starEach (e::es) X.env)) (backToKw pos (keywordEach [] X.env))):=by rfl):DE X z (.Call (.Attribute o m apos) (e::es) [] pos) (lT tb fo fs):=by
  intro pins s σ H Q I ⟨η,F,d,r,e0,k⟩;unfold lT at e0;obtain⟨d',h1,e0⟩:=eK.mp e0;cases d' with
  |obj C =>
   obtain⟨Fn,h2,e0⟩:=eK.mp e0;unfold ax at e0;obtain⟨ds,h3,e0⟩:=eK.mp e0;obtain⟨sl,h4,e0⟩:=eK.mp e0;obtain⟨tu,h5,rfl⟩:=PZ h3;refine PY (pl:=pl) hT ho ha Ls tj ht I r h1 h2 h5 h4 fun H1 F1 g1=>?_;cases sl with
   |sh d'=>cases e0;exact fun v H' F' g2 q2=>k v H' F' (g1.trans g2) q2
   |ol SY=>cases e0;intro p vs H' F' g2 hp hF hH hd;have hs:cF F' (upd F' p (.lst vs)):=fq hF _;exact k _ _ _ ((g1.trans g2).share g2.base hH (g1.ent.free hp)) (aW.mpr ⟨p,vs,rfl,m4.of aL,bD hs _ _ hd⟩)
   |pr SY ags=>cases e0;intro a p vs ws H' F' g2 hp hF hH hd Ro hr';have hs:cF F' (upd F' p (.lst vs)):=fq hF _;exact k _ _ _ ((g1.trans g2).share g2.base hH (g1.ent.free hp)) (aN.mpr ⟨a,_,rfl,hs _ _ Ro,aP.mpr ⟨_,_,rfl,aW.mpr ⟨p,vs,rfl,m4.of aL,bD hs _ _ hd⟩,bD hs _ _ hr'⟩⟩)
   |_=>cases e0
  |_=>cases e0
end
def UZ(i j:Int):Prop:=i.natAbs.log2<100000∧j.natAbs.log2<100000
def U0(_ j:Int):Prop:=0<j∧j.natAbs.log2<9000
theorem Kx{a:Int}(h:a.natAbs.log2<100000):Builtin.Int.intBits a≤2^20:=by
  have e:(2:Nat)^20=1048576:=by decide
  unfold Builtin.Int.intBits;split<;>omega
section
variable {X:Cx}
theorem Tx:qy X (binaryOp .Mult) (rI UZ fun i j=>.int (i*j)):=Ux fun _ _ _ _ _ _ _ hc q=>mul_int q (.of_bits (Kx hc.1) (Kx hc.2))
theorem P0:qy X (binaryOp .FloorDiv) (rI U0 fun i j=>.int (i / j)):=Ux fun i j _ _ _ _ _ hc q=>by have h1:(0:Int)<j:=hc.1;exact floordiv_int (by omega) (by rw[Int.fdiv_eq_ediv_of_nonneg i (by omega)];exact q) (.inl (PyProof.noPylong_of_log2 hc.2))
end
def CC(i j:Int):Bool:=decide (i.natAbs.log2<100000∧j.natAbs.log2<100000)
def rL:=iI CC fun i j=>.int (i*j)
def CD(_ j:Int):Bool:=decide (0<j∧j.natAbs.log2<9000)
def GR:=iI CD fun i j=>.int (i / j)
theorem P1{i j:Int}(h:CC i j=true):UZ i j:=by unfold CC at h;have q:=xT h;exact q
theorem P2{i j:Int}(h:CD i j=true):U0 i j:=by unfold CD at h;have q:=xT h;exact q
section
variable {X:Cx} {z:Zc} {e a b:Expr} {f fa fb fk:EF} {pos p:Pos} {K:PySem.W.Frag}
theorem p9(ha:DB X z a fa)(hb:DB X z b fb):DE X z (.BinOp a .Mult b pos) (ag rL fa fb):=ri Tx (Gg fun i j h=>P1 h) ha hb
theorem Ky(ha:DB X z a fa)(hb:DB X z b fb):DE X z (.BinOp a .FloorDiv b pos) (ag GR fa fb):=ri P0 (Gg fun i j h=>P2 h) ha hb
end
theorem IB{f g:Addr}{oc':Value}{od':Option Addr}{x' q':Str}{ar ar':Arguments}{b b':List Stmt}{sc sc':Scope}{kV dc cd kV' dc' pm' cd' ct':Value}{an':Option Addr}{sl sl':Array ni}(hq:q≠q')(e:(some (some (Value.ref f)))=some (some (Value.ref g)))(l:K.lookup f=some ⟨oc,od,.func (fnOf x q ar b sc .none kV dc pm an cd ct),sl⟩)(l':K.lookup g=some ⟨oc',od',.func (fnOf x' q' ar' b' sc' .none kV' dc' pm' an' cd' ct'),sl'⟩):False:=by
  cases e;have h:=l.symm.trans l';injection h with h;injection h with _ _ h _;injection h with h;exact hq (il FuncData.qualname h)
section
variable {X:Cx} {z:Zc} {e a b:Expr} {f fa fb fk fv:EF} {fl:LF} {pos p:Pos} {g:SF} {st:Stmt}
def dK(i:Nat)(η:cP):Option (List (Key×D)):=match η[i]? with
  |some (some (.ok aX))=>some aX
  |some (some (.fk aX))=>some aX
  |_=>none
end
end DL
namespace L2
open PySem PySem.Spec PyProof.Rows DL
theorem MK{mb:Str→ni}{CX:LH}{fa:Addr}{sp:Sp}{s₁:Shared}{vs:dO}{c T:Addr}(KX:K.In s₁.heap)(XY:s₁.heap.Ns mainGlobals mg)(hb:s₁.heap.Ns builtinsNs mb)(hbb:∀x:Str,x≠"__name__"→mb x=bootBuiltins x)(acW:s₁.heap.NoLimit)(hg:s₁.gens=#[])(ha:s₁.heap.get? a=some { cls:=.type "list",data:=.seq vs.toArray })(hi:IntsAre vs ns)(hl:ns.length≤sizeLine)(hr:fI k callerA)(hT:s₁.heap.TableAt c T #[])(hTK:K.lookup T=none)(hTn:∀c' P,lZ K=some (c',P)→P=T)(hbt:s₁.heap.BuiltinsAt mg T)(F:∀base:Heap,K.In base→base.Ns mainGlobals mg→base.BuiltinsAt mg T→cG P w K mg base CX k fa fd [x] sp)(nP:∀(s:Shared) (u:Value),BindsTo s fd ⟨[u],[]⟩ [(x,u)])(UD:∀H:Hp,Sf H→kP K H→m4 K H a (ns.map V.int)→sp [.ref a] H (fun v _=>v=.bl true) fun _ _ _=>False)(hCX:∀H e s',CX [] H s₁ (fun _ _ _=>False) e s'→False):codeAny (model P w) callerA (.call (.ref fa) ⟨[.ref a],[]⟩) (fun r s'=>r=.ok (.ret (.bool true))∧OldK s₁.heap s'.heap∧s'.os=s₁.os∧AllBare s'.gens) s₁:=by
  have rv:=sC hi;have ac0:=hi.length;have aT:a≠T:=fun e=>by have:=hT.2;rw[←e,ha] at this;cases this
  have core:∀H:Hp,Sf H→m4 K H a (ns.map V.int)→t8 P w H s₁.heap→(∀b,H b≠none→b=a∨b=T)→H T=some (.Fj #[.str DU 0])→(H a≠none→K.lookup a=none) →
      codeAny (model P w) callerA (.call (.ref fa) ⟨[.ref a],[]⟩) (fun r s'=>r=.ok (.ret (.bool true))∧OldK s₁.heap s'.heap∧s'.os=s₁.os∧AllBare s'.gens) s₁:=by
    intro H hO hS cZ hA hHT hK;have En:∀{b:Addr} {o:Obj},s₁.heap.get? b=some o→H b=none→(Bf s₁.heap H).get? b=some o:=fun e n=>Ny e n;have YL:∀{b:Addr} {o:Obj} {es:Array DictEntry} {ep:Nat},s₁.heap.get? b=some o→o.data=.dict es ep→H b=none:=fun {b o es ep} e d=>by
      cases q:H b with
      |none=>rfl
      |some u =>
       rcases hA b (by rw[q];simp) with e'|e'
       ·subst e';rw[ha] at e;cases e;have d':Data.seq vs.toArray _=Data.dict es ep:=d;cases d'
       ·subst e';rw[hT.2] at e;cases e;have d':Data.fields #[]=Data.dict es ep:=d;cases d'
    have nsK:∀{b:Addr} {m:Str→ni},s₁.heap.Ns b m→(Bf s₁.heap H).Ns b m:=fun {b m} ⟨o,es,ep,e,d,r⟩=>⟨o,es,ep,En e (YL e d),d,r⟩
    have hKb:K.In (Bf s₁.heap H):=fun b o e=>En (KX b o e) (by
      cases q:H b with
      |none=>rfl
      |some u =>
       rcases hA b (by rw[q];simp) with e'|e'
       ·subst e';rw[hK (by rw[q];simp)] at e;cases e
       ·subst e';rw[hTK] at e;cases e)
    have hM:Mod K mg (Bf s₁.heap H):=⟨hKb,nsK XY,⟨mb,nsK hb,hbb⟩,let ⟨mc,h1,h2⟩:=acW;⟨mc,nsK h1,h2⟩⟩
    have e0:HC P w K mg (Bf s₁.heap H) callerA [] s₁ H:=⟨rfl,hM,fun b o e=>RA e,Nat.le_of_eq (Ln _ _),trivial,fun b hb=>absurd (show b∈([]:List Addr) from hb) (by simp),cZ,.of_eq hg⟩
    have hBT:(Bf s₁.heap H).BuiltinsAt mg T:=by
      obtain⟨bm,o,b1,b2,b3,b4,b5,b6,b7,b8⟩:=hbt;refine⟨bm,o,b1,b2,b3,b4,En b5 ?_,b6,b7,b8⟩;cases q:H bm with
      |none=>rfl
      |some u =>
       rcases hA bm (by rw[q];simp) with e'|e'
       ·subst e';rw[ha] at b5;cases b5;injection b6 with b6;exact absurd b6 (by decide)
       ·exact absurd e' b4
    have P4:kP K H:=fun c' P' e=>by rw[hTn c' P' e];exact hHT
    refine codeAny_mono ((F _ hKb (nsK XY) hBT).run callerA [] s₁ H ⟨[.ref a],[]⟩ [.ref a] [.ref a] _ _ hr e0 (nP s₁ (.ref a)) (.cons rfl .nil) (UD H hO P4 hS)) fun r s' h=>?_;cases r with
    |error e=>exact(hCX H e s' h).elim
    |ok fl =>
     cases fl with
     |next=>exact False.elim h
     |brk=>exact False.elim h
     |cont=>exact False.elim h
     |ret u =>
      obtain⟨v,H',os,bare,un,ZQ,r',q⟩:=h;have q':v=.bl true:=q;subst q';obtain rfl:u=Value.bool true:=r';have P5:∀b o,s₁.heap.get? b=some o→∃o',s'.heap.get? b=some o':=fun b o e=>un.there b o e (by simp);refine⟨rfl,⟨fun b o e=>?_,P5⟩,os,bare⟩;cases q:H b with
      |none=>exact .inl (un.keep b o e q (by intro z;exact absurd (show b∈([]:List Addr) from z) (by simp)) (by simp))
      |some u =>
       rcases hO b with z|⟨ob,xs,z,_⟩|⟨ps,z⟩
       ·rw[q] at z;cases z
       ·have z2:=un.wg b ob _ z;obtain⟨e1,_⟩:=cZ b _ z;obtain⟨e2,_⟩:=ZQ b _ z2;rw[e] at e1;cases e1;exact .inl e2
       · rcases hA b (by rw[q];simp) with e'|e'
         · exfalso;subst e';obtain⟨_,_,_,e1,_⟩:=(show cx P w H s₁.heap b (.Fj ps) from cZ b _ z)
           rw[ha] at e1;cases e1
         · subst e';have eo:=hT.2;rw[e] at eo;cases eo;obtain⟨more,z2⟩:=un.wj b _ z;obtain⟨_,qs,_,e2,_⟩:=(show cx P w H' s'.heap b (.Fj _) from ZQ b _ z2)
           exact .inr (.inl ⟨hT.isCodeTable,rfl,#[],qs,rfl,by rw[e2];simp⟩)
  have U1:∀H:Hp,cx P w H s₁.heap T (.Fj #[.str DU 0]):=fun H=>⟨DU,#[],rfl,hT.2,trivial,fun pos v e=>by cases e⟩
  cases hk:K.lookup a with
  |some o =>
   have e:=KX a o hk;rw[ha] at e;cases e;refine core (fun b=>if b=T then some (.Fj #[.str DU 0]) else none) (fun b=>?_) (.inr ⟨_,vs.toArray,_,hk,rfl,rfl,rfl,by rw[j3,ac0];exact hl,by simpa using rv⟩) (fun b u z=>?_) (fun b z=>?_) (ay rfl) fun z=>absurd (aZ aT) z
   · by_cases hb:b=T
     ·exact .inr (.inr ⟨_,ay hb⟩)
     ·exact .inl (aZ hb)
   · by_cases hb:b=T
     ·have z':=(ay hb).symm.trans z;cases z';subst hb;exact U1 _
     ·have z':=(aZ hb).symm.trans z;cases z'
   · by_cases hb:b=T
     ·exact .inr hb
     ·exact absurd (aZ hb) z
  |none =>
   refine core (fun b=>if b=a then some (.t7 { cls:=.type "list",data:=.seq vs.toArray } (.lst (ns.map V.int))) else if b=T then some (.Fj #[.str DU 0]) else none) (fun b=>?_) (.inl (.inr ⟨{ cls:=.type "list",data:=.seq vs.toArray },ay rfl⟩)) (fun b u z=>?_) (fun b z=>?_) ?_ fun _=>hk
   · by_cases hb:b=a
     ·exact .inr (.inl ⟨_,_,ay hb,by rw[g9];exact hl⟩)
     · by_cases L4:b=T
       ·exact .inr (.inr ⟨_,(aZ hb).trans (ay L4)⟩)
       ·exact .inl ((aZ hb).trans (aZ L4))
   · by_cases hb:b=a
     ·have z':=(ay hb).symm.trans z;cases z';subst hb;exact⟨ha,by rw[g9];exact hl,vs,_,rv,ha⟩
     · have z':=(aZ hb).symm.trans z;by_cases L4:b=T
       ·have z2:=(ay L4).symm.trans z';cases z2;subst L4;exact U1 _
       ·have z2:=(aZ L4).symm.trans z';cases z2
   · by_cases hb:b=a
     ·exact .inl hb
     · by_cases L4:b=T
       ·exact .inr L4
       ·exact absurd ((aZ hb).trans (aZ L4)) z
   ·exact(aZ (Ne.symm aT)).trans (ay rfl)
theorem P6{l:PySem.W.OpenLaw}{q:Program}{loose:gs}{d:DefRec}{K:Params→PySem.W.Frag}{CX:World→LH}{sp:World→Sp}(hn:l.most=some n)(hn2:n≤sizeLine)(YY:d.params.defaults=[])(hr:fI k callerA)(hY:∀(w:World) (h:Heap),YP w h→(K w.params).In h)(hYT:∀(w:World) (h:Heap),YP w h→∃c T,h.TableAt c T #[]∧(K w.params).lookup T=none∧lZ (K w.params)=some (c,T))(F:∀(w:World) (mg:Str→ni) (fa:Addr) (h:Heap),YP w h→(K w.params).In h→h.Ns mainGlobals mg→mg d.name=some (.ref fa)→∃fd:FuncData,(∀(s:Shared) (u:Value),BindsTo s fd ⟨[u],[]⟩ [(x,u)])∧∀(base:Heap) (c T:Addr),lZ (K w.params)=some (c,T)→(K w.params).In base→base.Ns mainGlobals mg→base.BuiltinsAt mg T→cG l.prog w (K w.params) mg base (CX w) k fa fd [x] (sp w))(UD:∀(w:World) (H:Hp) (a:Addr) (ns:aO),ns.length≤n→Sf H→kP (K w.params) H→m4 (K w.params) H a (ns.map V.int)→sp w [.ref a] H (fun v _=>v=.bl true) fun _ _ _=>False)(hCX:∀(w:World) (H:Hp) (s:Shared) (e:Value) (s':Shared),CX w [] H s (fun _ _ _=>False) e s'→False):PySem.W.WalkO q loose XP YP l.row.toRowW d [] (fun f vs=>PySem.call f vs):=by
  refine Att.FR hn YY fun w s₀ s₁ mg mb fa o pm cd doc a vs ns G Y ho hd oA YZ Wc hints hlen hg=>?_;have KX:=hY w _ Y;obtain⟨c,T,hT,hTK,hTn⟩:=hYT w _ Y;obtain⟨fd,hb,hF⟩:=F w mg fa _ Y KX G.T.g YZ;have hbt:s₁.heap.BuiltinsAt mg T:=by
    obtain⟨bm,ob,b1,b2,b3,b4,b5,b6⟩:=G.T.bmain;refine⟨bm,ob,b1,b2,fun q=>?_,fun q=>?_,b3,b4,b5,b6⟩
    ·obtain⟨o',es,ep,e',d',_⟩:=G.T.g;rw[←q,b3] at e';cases e';rw[b6] at d';cases d'
    ·have e':=hT.2;rw[←q,b3] at e';cases e';cases b4
  exact MK KX G.T.g G.T.b G.T.builtins G.T.nolimit hg Wc hints (oQ hlen hn2) hr hT hTK (fun c' P' e=>by rw[hTn] at e;cases e;rfl) hbt (fun base h1 h2 h3=>hF base c T hTn h1 h2 h3) hb (fun H hO hTb hS=>UD w H a ns hlen hO hTb hS) fun H e s'=>hCX w H s₁ e s'
end L2
namespace DL
open PySem PySem.Spec L2
open PyProof.Rows hiding St pairAt
def GU(K:PySem.W.Frag)(ms:List Bool)(Fn:dm→eP):Sp:=fun vs H Q _=>∃F ds r,Base F H∧kP K F∧nK K F H ms ds vs∧Fn ds=some r∧Gb K F H r Q
theorem Kz{base:Heap}{st:Stmt}{f:Addr}{ps:gs}{ms:List Bool}{g:SF}(F:kG K x qual st f fd)(S:aV N ps (az st))(D0:ms.length=ps.length)(hb:∀(eR:Value) (A:Around) (outer:List Env) (s:Shared) (H:Hp) (E:XK) (z:Zc),kP K z.F₀→fI k (A.deeper (envOfC qual (az st) s.heap.objs.size f eR))→L6 (x4 i9 P w K mg base N qual (az st) f eR A outer s H E).Hv z (dD st) g):cG P w K mg base i9 (k+1) f fd ps (GU K ms (jB N.length ms g)):=by
  refine F.ok S (fun vs H Q E h=>?_) (fun eR A outer s H vs Q E hr h=>?_)
  ·obtain⟨F,ds,r,_,_,a,_⟩:=h;rw[←D0,(nL a).1]
  · obtain⟨F,ds,r,b,tb,a,e,q⟩:=h;refine⟨_,hb eR A outer s H E ⟨F,H,fun _ _=>False⟩ tb hr,?_⟩;have rl:Rel K ⟨F,H,fun _ _=>False⟩ F H (L2.start N vs) (eS N.length ms ds):=sL b a;unfold jB at e;cases o:g (eS N.length ms ds) with
    |none=>rw[o] at e;cases e
    |some o' =>
     rw[o] at e;refine⟨_,F,o',rl,o,?_⟩;cases o' with
     |rt r'=>cases e;exact L5.of (z:=⟨F,H,fun _ _=>False⟩) q
     |nx η'=>cases e;exact fun σ' H' F' r' _=>q .non H' F' r'.mem (cf.mpr rfl)
     |bk _=>cases e
     |ct _=>cases e
theorem Tz{E:XK}(hO:Sf H)(hT:kP K H)(hS:m4 K H a (ns.map V.int))(h:Fn [.lst (ns.map D.int)]=some (.sh (.bl true))):GU K [true] Fn [.ref a] H (fun v _=>v=.bl true) E:=by
  have b:Base H H:=⟨cF.refl _,fun _ _ h _=>h,fun c o hc=>by
    rcases hO c with z|⟨ob,xs,z,hl⟩|⟨ps,z⟩
    ·rw[hc] at z;cases z
    ·rw[hc] at z;cases z;exact hl
    ·rw[hc] at z;cases z;exact True.intro⟩
  have ha:nK K H H [true] [.lst (ns.map D.int)] [.ref a]:=⟨aW.mpr ⟨a,_,rfl,hS,fX _⟩,True.intro⟩
  exact⟨H,_,_,b,hT,ha,h,fun v H' F' _ q=>bS.mp q⟩
def Xb(K:PySem.W.Frag):Sp:=fun vs H Q E=>∀Fn:dm→eP,(∀ns:aO,ns.length≤63→Fn [.lst (ns.map D.int)]=some (.sh (.bl true)))→GU K [true] Fn vs H Q E
end DL
namespace L2
open PySem PySem.Spec PyProof.Rows PySem.W
theorem IC{c v:Value}:∀(l:dO),TriplesOk l→codeAmong pos' (l++[rawInt pos.line,rawInt pos.col,c])=some v→codeAmong pos' l=some v∨v=c:=by
  intro l h
  fun_induction TriplesOk l with
  |case1 =>
   intro e;simp only[List.nil_append,codeAmong,rawInt] at e;split at e
   ·cases e;exact .inr rfl
   ·cases e
  |case2 a t b u x rest ih =>
   intro e;simp only[List.cons_append,codeAmong] at e⊢;split at e
   ·rename_i hc;rw[ay hc];exact .inl e
   ·rename_i hc;rw[aZ hc];exact ih h e
  |case3 l h1 h2=>exact h.elim
section
variable {X:Cx} {pins:kJ} {σ:St} {H:Hp} {s:Shared}
theorem Inv.tabled{T c':Addr}{qs:Array Value}{tk:Nat}(I:Inv X pins σ H s)(hT:H T=some (.Fj #[.str q 0]))(eT:s.heap.get? T=some (tabObj qs))(ht:TriplesOk qs.toList)(hcs:∀pos v,codeAmong pos qs.toList=some v→∃c,v=.ref c∧H c=some (.Hu q))(hx:Heap.ExtBut T s.heap h')(hc:s.heap.objs.size≤c')(TB:h'.CodeRec (.ref c') q)(hg:h'.get? T=some (tabObj (qs++#[rawInt pos.line,rawInt pos.col,.ref c']))):Inv X pins σ (upd H c' (.Hu q)) { s with heap:=h',toks:=tk }:=by
  have ZR:H c'=none:=I.cZ.fresh hc;have cT:c'≠T:=fun e=>by rw[e,hT] at ZR;cases ZR
  have hco:∃o,h'.get? c'=some o:=by obtain⟨c2,o2,_,_,e2,g2,_⟩:=TB;cases e2;exact⟨o2,g2⟩
  have ne:∀b u,H b=some u→b≠c':=fun b u e z=>by rw[z,ZR] at e;cases e
  have old:∀b o,s.heap.get? b=some o→b≠c':=fun b o e=>fV (oP (dj e) hc);refine I.un ⟨fun b o e n _ _=>hx b o (fun z=>by rw[z,hT] at n;cases n) e,fun b o e n _ _=>⟨o.slots,hx b o (fun z=>by rw[z,hT] at n;cases n) e⟩,fun b o e n _=>by rw[aK (old b o e)];exact n,fun b o e _=>?_,fun b xs e=>by rw[aK (ne b _ e)];exact e,fun b o u e=>by rw[aK (ne b _ e)];exact e,fun b ps e=>⟨#[],by rw[aK (ne b _ e),e];simp⟩⟩ fun b u e=>?_
  · by_cases z:b=T
    ·rw[z];exact⟨_,hg⟩
    ·exact⟨o,hx b o z e⟩
  · by_cases z:b=c'
    ·subst z;rw[aL] at e;cases e;exact TB
    · rw[aK z] at e;by_cases zT:b=T
      · subst zT;rw[hT] at e;cases e;refine⟨q,_,rfl,hg,?_,fun pos' v hv=>?_⟩
        ·have:=TriplesOk_snoc pos.line pos.col (.ref c') qs.toList ht;simpa using this
        · have J3:codeAmong pos' (qs.toList++[rawInt pos.line,rawInt pos.col,.ref c'])=some v:=by simpa using hv
          rcases IC _ ht J3 with J3|rfl
          ·obtain⟨c,e1,e2⟩:=hcs pos' v J3;exact⟨c,e1,by rw[aK (ne c _ e2)];exact e2⟩
          ·exact⟨c',rfl,aL⟩
      · refine(I.cZ b u e).Be (fun c v Dr r=>hx c v ?_ r) (fun c r=>by rw[aK (ne c _ r)];exact r) (fun c xs r=>by rw[aK (ne c _ r)];exact r) fun c q' r=>by rw[aK (ne c _ r)];exact r
        rcases Dr with rfl|Dr
        ·exact zT
        ·intro z;rw[z,hT] at Dr;cases Dr
theorem P7{c T:Addr}{body:Expr}(I:Inv X pins σ H s)(KC:X.env.code=.ref c)(hc:codeHdIn X.K c T=true)(hT:H T=some (.Fj #[.str q 0]))(Sg:closureFor scope X.env=pure [])(hb:X.base.BuiltinsAt X.mg T)(h:∀f c' Fq H' s',Inv X ((f,kla_obj "<lambda>" q params body scope [] ((X.mg "__name__").getD .none) c' Fq)::pins) σ H' s'→(H'=H∨H c'=none∧H'=upd H c' (.Hu q))→H' c'=some (.Hu q)→Q (.ref f) s'):wpAny (model X.prog X.w) X.A (makeFunction "<lambda>" q params (.expr body) scope X.env [] [] [] pos pos.line) Q E s:=by
  obtain⟨q',qs,e0,eT,ht,hcs⟩:=(show cx X.prog X.w H s.heap T (.Fj #[.str q 0]) from I.cZ T _ hT)
  have eq:q=q':=by have:=il (fun a:Array Value=>a[0]?) e0;simp at this;exact this
  subst eq;have C:CodeHd s.heap c T:=codeHd_of_K I.xB hc;have hg:s.heap.Ns mainGlobals X.mg:=by obtain⟨o,es,ep,e,d,r⟩:=I.ok.mod.glob;exact⟨o,es,ep,I.bk _ _ e,d,r⟩
  have Fm:s.heap.BuiltinsAt X.mg T:=by obtain⟨bm,o,b1,b2,b3,b4,b5,b6⟩:=hb;exact⟨bm,o,b1,b2,b3,b4,I.bk _ _ b5,b6⟩
  have hgT:mainGlobals≠T:=fun z=>by obtain⟨o,es,ep,e,d,_⟩:=hg;rw[z,eT] at e;cases e;cases d
  cases hcm:codeAmong pos qs.toList with
  |none=>refine kla_makeFunction Sg I.ok.glob hg KC C eT ht hcm hgT Fm fun c' Fq h' tk hx Wm jO TB ac3=>?_;have I1:=I.tabled (tk:=tk) hT eT ht hcs hx Wm TB ac3;have ZR:H c'=none:=I.cZ.fresh Wm;have I2:Inv X pins σ (upd H c' (.Hu q)) { s with heap:=h'.push (kla_obj "<lambda>" q params body scope [] ((X.mg "__name__").getD .none) c' Fq),toks:=tk }:=I1.kept (t':=tk) fun b o e=>eu _ e;refine h _ c' Fq _ _ (I2.xH (I1.Bh (cw _) (I1.cZ.fresh (cw _))) (iu _ rfl) fun v z=>by cases z) (.inr ⟨ZR,rfl⟩) aL
  |some cv=>obtain⟨c',rfl,hH⟩:=hcs pos cv hcm;refine kla_makeFunctionHit Sg I.ok.glob hg KC C eT ht hcm Fm fun Fq h' tk hk hsz=>?_;have I1:Inv X pins σ H { s with heap:=h',toks:=tk }:=I.kept (t':=tk) hk;have I2:Inv X pins σ H { s with heap:=h'.push (kla_obj "<lambda>" q params body scope [] ((X.mg "__name__").getD .none) c' Fq),toks:=tk }:=I1.kept (t':=tk) fun b o e=>eu _ e;exact h _ c' Fq _ _ (I2.xH (I1.Bh (cw _) (I1.cZ.fresh (cw _))) (iu _ rfl) fun v z=>by cases z) (.inl rfl) hH
end
theorem TC{base:Heap}{f c':Addr}{body:Expr}{Fq:Value}{ps:gs}{t:TE}{outer:List Env}{Q:VK}(hr:fI (k+1) A)(e0:HC P w K mg base A outer s H)(ho:s.heap.get? f=some (kla_obj "<lambda>" q params body scope [] pm c' Fq))(oA:s.heap.CodeRec (.ref c') q)(S:aV N ps scope)(hb:bindArgs (kla_fn "<lambda>" q params body scope [] pm (.ref c') Fq) ⟨us,[]⟩=pure (ps.zip us))(r:Vals vs us)(hl:vs.length=ps.length)(yL:PE (x4 i9 P w K mg base N q scope f (.ref c') A outer s H E0).Hv body t)(ht:t (start N vs) H Q):codeAny (model P w) A (.call (.ref f) ⟨us,[]⟩) (CR i9 outer P w H s Q E0) s:=by
  have lim:s.heap.NoLimit:=e0.mod.nolimit.keeps fun b o e=>(e0.bs b o e).1;have NX:∀y∈ps.zip us,scope.names.lookup y.1=some .local∨(scope.names.lookup y.1=some .cell∧((cellsFrom (s.heap.objs.size+1) scope.names []).lookup y.1).isSome=true):=fun⟨n,v⟩ hy=>by
    rcases S.par n (List.of_mem_zip hy).1 with q|q
    ·exact .inl q
    ·exact .inr ⟨q,cellsFrom_some _ _ _ (.inl q)⟩
  refine kla_callFunE hr.depth ho rfl S.co S.gen rfl oA ?_;rw[hb];refine cX ?_;refine wpAny_newFunctionEnv_cells S.kind NX fun env he s1 x=>?_;subst he;refine⟨lim.keeps x.toInCall.keep,kla_codeExpr ?_⟩;have I:Inv (x4 i9 P w K mg base N q scope f (.ref c') A outer s H E0) [] (start N vs) H s1:=B5 S hr.hd e0 hl r x;refine mY (yL.Hv [] s1 (start N vs) H Q I ht) (fun u s' hs=>?_) fun e s' hs=>hs;obtain⟨v,H',J,rv,q⟩:=hs;exact⟨v,H',J.os,J.bare,J.base,J.cZ,rv,q⟩
end L2
namespace DL
open PySem PySem.Spec L2 PySem.W Sl
open PyProof.Rows hiding St pairAt
section
variable {X:Cx} {pins:kJ} {σ:St} {H:Hp} {s:Shared}
theorem zY(I:Inv X pins σ H s){t:aO}(r:RelV v u)(h:oF H v t):∃a js,u=.ref a∧IsTup s.heap a js.toArray∧Vals (t.map V.int) js:=by obtain⟨a,rfl,e⟩:=h;obtain⟨js,r1,p1,_⟩:=I.tuple (kE.of e);exact⟨a,js,r,p1,r1⟩
theorem P8{vk:List V}{Q:SortKind→Shared→Prop}(I:Inv X pins σ H s)(rv:Vals vk ks)(hp:Paired (oF H) vk ts)(hE:∀t∈ts,t≠[])(h2:2≤ks.length)(hq:Q (tuples' true) s):wpAny (model X.prog X.w) A (keyKind' (List.toArray ks)) Q E s:=by
  have l1:vk.length=ks.length:=rv.length;have l2:vk.length=ts.length:=hp.length;have qI:∀(vl:dO),(∀v∈vl,∃a n t js,v=.ref a∧IsTup s.heap a (Value.int n t::js).toArray)→∃fs:dO,KatTups s.heap vl fs∧fs.length=vl.length∧∀v∈fs,∃n t,v=.int n t:=by
    intro vl;induction vl with
    |nil=>intro _;exact⟨[],trivial,rfl,fun _ z=>nomatch z⟩
    |cons v r ih =>
     intro hv;obtain⟨a,n,t,js,rfl,o,e,c,m,dd⟩:=hv v cY;obtain⟨fs,k1,k2,k3⟩:=ih fun y hy=>hv y (ly _ hy);refine⟨.int n t::fs,⟨⟨a,o,_,m,rfl,e,c,dd,rfl⟩,k1⟩,by simp[k2],fun y hy=>?_⟩;rcases fR.mp hy with z|z
     ·exact⟨n,t,z⟩
     ·exact k3 y z
  obtain⟨fs,k1,k2,k3⟩:=qI ks (fun v hv=>by
    obtain⟨i,hi,rfl⟩:=List.mem_iff_getElem.mp hv;obtain⟨a,js,e1,e2,e3⟩:=zY I (bp rv (i:=i) (by omega) V.non Value.none) (bp hp (i:=i) (by omega) V.non []);rw[nE,mS hi] at e1;have hti:i<ts.length:=by omega
    have en:ts.getD i []≠[]:=by rw[nE,mS hti];exact hE _ (List.getElem_mem hti)
    generalize ts.getD i []=tt at e3 en;cases tt with
    |nil=>exact absurd rfl en
    |cons n tt =>
     cases e3 with
     |cons r1 r2 =>
      obtain⟨t,rfl⟩:=r1;exact⟨a,n,t,_,e1,e2⟩)
  refine kat_kind (T:=.type "int") k1 (by omega) (fun v hv=>?_) rfl ?_
  ·obtain⟨n,t,rfl⟩:=k3 v hv;exact Looks.of_pure rfl
  ·exact hq
theorem Xc{vk:List V}{C:Bool→Shared→Prop}(I:Inv X pins σ H s)(rv:Vals vk ks)(hp:Paired (oF H) vk ts)(hi:i<ks.length)(hj:j<ks.length)(hc:C (HT.lexLt (ts.getD i []) (ts.getD j [])) s):wpAny (model X.prog X.w) A (keyLt' (tuples' true) (ks.getD i Value.none) (ks.getD j Value.none)) C (fun _ _=>False) s:=by
  have l1:vk.length=ks.length:=rv.length;obtain⟨a,js,e1,e2,e3⟩:=zY I (bp rv (i:=i) (by omega) V.non Value.none) (bp hp (i:=i) (by omega) V.non []);obtain⟨b,js',f1,f2,f3⟩:=zY I (bp rv (i:=j) (by omega) V.non Value.none) (bp hp (i:=j) (by omega) V.non []);rw[e1,f1];obtain⟨oa,ga,_,na,da⟩:=id e2;obtain⟨ob,gb,_,nb,db⟩:=id f2;refine kat_lt ga da gb db ?_;refine GO 0 e3 f3 ?_ hc;have a1:=e3.length;have a2:=f3.length;rw[g9] at a1 a2;rw[j3,j3,a1,a2]
theorem oF.same{t:aO}(x:oF H v t)(s:cF H H'):oF H' v t:=by obtain⟨b,e,h⟩:=x;exact⟨b,e,s _ _ h⟩
def ML(a b:aO×aO):Bool:=!HT.lexLt b.1 a.1
def nQ(es:List (aO×aO)):List (aO×aO):=es.mergeSort ML
theorem oG(es:List (aO×aO)):(nQ es).Perm es:=List.mergeSort_perm es ML
theorem vg(a b:aO×aO):ML a b=Mg (0,a.1) (0,b.1):=by unfold ML Mg;rw[ZL]
theorem MN(hd:(es.map (·.1)).Nodup):(nQ es).Pairwise (fun a b=>HT.lexLt a.1 b.1=true):=by
  have h:=List.pairwise_mergeSort (le:=ML) (fun a b c=>by rw[vg,vg,vg];exact O1 _ _ _) (fun a b=>by rw[vg,vg];exact Kg _ _) es;have hn:((nQ es).map (·.1)).Nodup:=((oG es).map _).nodup_iff.mpr hd;have Ym:(nQ es).Pairwise fun a b=>a.1≠b.1:=by have:=Dh.mp hn;exact this
  refine List.Pairwise.imp₂ (fun a b h1 h2=>?_) h Ym;have UK:HT.lexLt b.1 a.1=false:=by unfold ML at h1;simpa using h1
  exact sE (fun z=>h2 z.symm) UK
theorem MP{qs:List (aO×aO)}(hd:(es.map (·.1)).Nodup)(h:qs.Perm es)(hp:qs.Pairwise (fun a b=>HT.lexLt a.1 b.1=true)):nQ es=qs :=
  List.Perm.eq_of_pairwise (le:=fun a b=>HT.lexLt a.1 b.1=true) (fun a b _ _ h1 h2=>by have:=uN h1 h2;rw[nJ] at this;cases this) (MN hd) hp ((oG es).trans h.symm)
structure ZS (X:Cx) (k:Nat) (q:Str) (params:Arguments) (body:Expr) (scope:Scope) (g:EF):Prop where
  ex:∃N ps,aV N ps scope∧ps.length=1∧N.length=1∧(∀(pm cd ct:Value) (us:dO),us.length=ps.length→bindArgs (kla_fn "<lambda>" q params body scope [] pm cd ct) ⟨us,[]⟩=pure (ps.zip us)) ∧
    ∀(f c':Addr) (A:Around) (outer:List Env) (s:Shared) (H:Hp) (z:Zc),fI k (A.deeper (envOfC q scope s.heap.objs.size f (.ref c')))→DE (x4 i9 X.prog X.w X.K X.mg X.base N q scope f (.ref c') A outer s H E0).Hv z body g
theorem P9{f c':Addr}{body:Expr}{Fq:Value}{g:EF}{d':D}{Q:VK}(L:ZS X k q params body scope g)(hr:fI (k+1) X.A.in1.in1)(I:Inv X pins σ H s)(Qa:(f,kla_obj "<lambda>" q params body scope [] pm c' Fq)∈X.pn++pins)(hc:H c'=some (.Hu q))(r:RelV v u)(b:Base F H)(hd:Den X.K F d v)(hg:g [some (.sh d)]=some d')(h:∀v H' F',bA F H F' H'→Den X.K F' d' v→Q v H'):wpAny (model X.prog X.w) X.A.in1.in1 (call (.ref f) [u]) (EP X pins σ Q) E s:=by
  obtain⟨N,ps,S,Ou,hN,hb,yL⟩:=L.ex;have e0:HC X.prog X.w X.K X.mg X.base X.A.in1.in1 X.stack s H:={ I.NV with frames:=I.NV.frames }
  have ho:=(I.pin _ Qa).1;have rl:Rel X.K ⟨F,H,fun _ _=>False⟩ F H (L2.start N [v]) (eS N.length [true] [d]):=sL b ⟨hd,trivial⟩;have est:eS N.length [true] [d]=[some (.sh d)]:=by unfold eS;rw[hN];rfl
  refine wpAny_call (codeAny_mono (TC hr e0 ho (I.cZ c' _ hc) S (hb _ _ _ [u] (by rw[Ou];rfl)) (.cons r .nil) (by rw[Ou];rfl) (yL f c' X.A.in1.in1 X.stack s H ⟨F,H,fun _ _=>False⟩ (hr.deeper _)) ⟨_,F,d',rl,by rw[est];exact hg,h⟩) fun r s' hq=>?_);cases r with
  |error e=>exact False.elim hq
  |ok fl =>
   cases fl with
   |ret u=>exact I.after hq
   |_=>exact False.elim hq
theorem Eo{Q:VK}{f c':Addr}{body:Expr}{Fq:Value}{g:EF}{kv:List V}{acc:dO}{tk:Nat}(hu:X.A.units+5<cLine)(L:ZS X k q params body scope g)(hr:fI (k+1) X.A.in1.in1)(I:Inv X pins σ H s)(Qa:(f,kla_obj "<lambda>" q params body scope [] pm c' Fq)∈X.pn++pins)(XS:H c'=some (.Hu q))(b0:Base F H)(hF:∀e∈es,g [some (.sh (.tup (e.2.map D.int)))]=some (.tup (e.1.map D.int)))(A1:(es.map (·.1)).Nodup)(yU:es.length<64)(hE:∀e∈es,e.1≠[])(hk:∀b o,s.heap.get? b=some o→h'.get? b=some o)(Rx:Vals kv acc)(je:Paired (fun v (e:aO×aO)=>oF H v e.2) kv es){P:PySem.Fin→Shared→Prop}(W8:∀v s',EP X pins σ Q v s'→P (.done (.ret v)) s')(post:∀p vs H' F',bA F H F' H'→H p=none→F' p=none→H' p=some (.lst vs)→cy X.K F' ((nQ es).map fun e=>D.tup (e.2.map D.int)) vs→Q (.ref p) H'):wpAny (model X.prog X.w) X.A.in1 (newList acc>>=fun l=>holding [l] (call (.builtin "list.sort") [l] [(Str.ofString "key",.ref f)])>>=fun _=>ret l) P X.xe { s with heap:=h',toks:=tk }:=by
  have l1:=wd je;have hl:acc.length=es.length:=by rw[←l1];exact(Rx.length).symm
  have lkv:kv.length=es.length:=l1;refine bh (wpAny_newList ?_ (by rw[hl,jc];omega));have I0:Inv X pins σ H { s with heap:=h',toks:=tk }:=I.kept (t':=tk) hk;have JD:(h'.push (seqObj "list" acc.toArray 0)).get? h'.objs.size=some (seqObj "list" acc.toArray 0):=iu _ rfl;have ZJ:H h'.objs.size=none:=I0.cZ.fresh (cw _);have fD:iw X pins H h'.objs.size:=I0.Bh (cw _) ZJ;have hD0:X.s₀.heap.objs.size≤h'.objs.size:=I0.sz;have hold:∀b o,h'.get? b=some o→b≠h'.objs.size:=fun b o q=>fV (dj q);show wpAny _ _ _ _ _ { s with heap:=h'.push (seqObj "list" acc.toArray 0),toks:=tk };have hsz2:(h'.push (seqObj "list" acc.toArray 0)).objs.size=h'.objs.size+1:=size_push' ..;have I1:Inv X pins σ H { s with heap:=h'.push (seqObj "list" acc.toArray 0),toks:=tk }:=I0.kept (t':=tk) fun b o q=>eu _ q;generalize hDD:h'.objs.size=D at *;refine bh (wc (wpAny_call_entry_kw slot_list_sort ⟨_,JD,rfl⟩ entry_list_sort ?body (ksk_l1 _ _)))
  case body =>
    show wpAny (model X.prog X.w) X.A.in1.in1 (Builtin.«list.sort» ⟨[.ref D],[(Str.ofString "key",.ref f)]⟩) _ _ _;rw[ksk_t1];refine zO (vs:=acc) (κ:=tuples' true) (lt:=fun i j=>HT.lexLt ((es.map (·.1)).getD i []) ((es.map (·.1)).getD j []))
      (J:=fun kS e1 ks c s'=>D≠kS∧∃H' F' vk,Inv X ((kS,seqObj "list" ks.toArray c)::(D,seqObj "list" #[] e1)::pins) σ H' s'∧bA F H F' H'∧Vals vk ks∧Paired (oF H') vk ((es.map (·.1)).take ks.length) ∧
        iw X ((D,seqObj "list" #[] e1)::pins) H kS) JD (by omega) ?init ?get ?step ?kind ?run ?fin
    case init =>
      intro kS e1 h2 hE hsz g1 g2 keep;have I2:Inv X pins σ H { s with heap:=h2,toks:=tk }:=I0.kept (t':=tk) fun b o q=>keep b o (hold b o q) (eu _ q);have f0:iw X pins H kS:=I1.Bh hsz (I1.cZ.fresh hsz);have fk:iw X ((D,seqObj "list" #[] e1)::pins) H kS:=⟨f0.1,f0.2.1,f0.2.2.1,f0.2.2.2.1,f0.2.2.2.2.1,fun p hp=>by
        rcases mV.mp hp with q|q
        ·exact f0.2.2.2.2.2 p (A6 _ q)
        · rcases fR.mp q with rfl|q
          ·exact hE
          ·exact f0.2.2.2.2.2 p (jY _ q)⟩
      exact⟨hE,H,F,[],(I2.xH fD g2 nz).xH fk g1 nz,bA.refl b0,.nil,by simpa using Paired.nil,fk⟩
    case get =>
      rintro kS e1 ks c s' ⟨hE,H',F',vk,I',_⟩;exact⟨hE,(I'.pin (kS,_) (jY _ cY)).1,(I'.pin (D,_) (jY _ (ly _ cY))).1⟩
    case step =>
      rintro kS e1 ks c s' x ⟨hE,H',F',vk,I',g',rk,hp,fk⟩ hx;have hi:ks.length<acc.length:=by
        rcases Nat.lt_or_ge ks.length acc.length with q|q
        ·exact q
        ·rw[A5 q] at hx;cases hx
      have ra:=bp Rx (i:=ks.length) (by omega) V.non Value.none;obtain⟨b,q1,q2⟩:=bp je (i:=ks.length) (by omega) V.non ([],[]);rw[q1,nE,hx] at ra;have hxb:x=.ref b:=ra;subst hxb;have Om:ks.length<es.length:=by omega
      have hee:es.getD ks.length ([],[])=es[ks.length]:=by rw[nE,mS Om];rfl
      rw[hee] at q2;have den:Den X.K F' (.tup (es[ks.length].2.map DL.D.int)) (.ref b):=aN.mpr ⟨b,_,rfl,g'.base.tup _ _ (g'.ent _ _ q2) rfl,fX _⟩;have ZT:(f,kla_obj "<lambda>" q params body scope [] pm c' Fq)∈X.pn++((kS,seqObj "list" ks.toArray c)::(D,seqObj "list" #[] e1)::pins):=by
        rcases mV.mp Qa with z|z
        ·exact A6 _ z
        ·exact jY _ (ly _ (ly _ z))
      refine mY (P9 (Q:=fun v H2=>∃F2,bA F' H' F2 H2∧Den X.K F2 (.tup (es[ks.length].1.map DL.D.int)) v) L hr I' ZT (g'.ent _ _ XS) (v:=.ref b) rfl g'.base den (hF _ (List.getElem_mem Om)) fun v H2 F2 g2 dn=>⟨F2,g2,dn⟩) (fun k qQ hq=>?_) fun _ _ x=>x;obtain⟨v,H2,I2,rv,F2,g2,dn⟩:=hq;have Tj:=I2.pin (kS,_) (jY _ cY);refine⟨Tj.1,fun h2 c2 sb gk=>⟨hE,H2,F2,vk++[v],?_,g'.trans g2,rk.append (.cons rv .nil),?_,fk⟩⟩
      ·have yd:=iw.re fk Tj.2.1;have I3:=Inv.turned (t':=qQ.toks) (h':=h2) (it:=kS) I2.ug (fun b o hb e=>by rw[sb.2 b hb];exact e) yd.1 yd.2.1 yd.2.2.2.1 yd.2.2.2.2.1 yd.2.2.2.2.2;exact I3.xH yd gk nz
      · have hi3:ks.length<(es.map (·.1)).length:=by rw[g9];exact Om
        rw[kK,List.length_singleton,List.take_succ_eq_append_getElem hi3];refine Paired.snoc (Paired.Lk hp fun a b q=>DL.oF.same q g2.ent) ?_;obtain⟨a,ws,rfl,w1,w2⟩:=aN.mp dn;rw[ix w2] at w1;exact⟨a,rfl,by rw[List.getElem_map];exact g2.base.sub _ _ w1⟩
    case kind =>
      rintro kS e1 ks c s' ⟨ZU,H',F',vk,I',g',rk,hp,fk⟩ hlen h2 Q' hq;exact P8 I' rk hp (fun t ht=>by
        have:=List.mem_of_mem_take ht;obtain⟨e,he,rfl⟩:=ja.mp this;exact hE e he) (by omega) hq
    case run =>
      rintro kS e1 ks c s' ⟨ZU,H',F',vk,I',g',rk,hp,fk⟩ hlen h2;rw[Ht (by rw[g9];omega)] at hp;have hS:=Iu A1;rw[g9] at hS;refine Cv (by omega) (by omega) (by omega) (fun i j C' hi hj hC=>?_) (by rw[hl];exact hS);exact Xc I' rk hp hi hj hC
    case fin =>
      rintro kS e1 ks c s' p h3 h4 ck c2 ⟨ZU,H',F',vk,I',g',rk,hp,fk⟩ hlen hP hU sb1 gk sb2 gD;have Tj:=I'.pin (kS,_) (jY _ cY);have hpD:=I'.pin (D,_) (jY _ (ly _ cY));have yd:iw X pins H' kS:=⟨Tj.2.1,fk.2.1,fk.2.2.1,fk.2.2.2.1,fk.2.2.2.2.1,fun p hp=>fk.2.2.2.2.2 p (by
        rcases mV.mp hp with q|q
        ·exact A6 _ q
        ·exact jY _ (ly _ q))⟩
      have GK:iw X pins H' D:=iw.re fD hpD.2.1;have I4:=Inv.turned (t':=s'.toks) (h':=h3) (it:=kS) I'.ug.ug (fun b o hb e=>by rw[sb1.2 b hb];exact e) yd.1 yd.2.1 yd.2.2.2.1 yd.2.2.2.2.1 yd.2.2.2.2.2;have I5:=Inv.turned (t':=s'.toks) (h':=h4) (it:=D) I4 (fun b o hb e=>by rw[sb2.2 b hb];exact e) GK.1 GK.2.1 GK.2.2.2.1 GK.2.2.2.2.1 GK.2.2.2.2.2;rw[hl] at hP hU;have hm:∀i∈p.toList,i<es.length:=fun i hi=>by have:=(Dg.mp hP.perm).mem_iff.mp hi;simpa using this
      have GL:(p.toList.map fun i=>kv.getD i V.non).length≤sizeLine:=by rw[g9,ou,hP.size,jc];omega
      have I6:=Inv.adopt (o:=.lst (p.toList.map fun i=>kv.getD i V.non)) I5 GK hD0 ⟨GL,p.toList.map fun i=>acc.getD i Value.none,c2,jz _ _ fun i hi=>bp Rx (by have:=hm i hi;omega) _ _,by simpa using gD⟩;have dgm:∀i,(es.map (·.1)).getD i []=(es.getD i ([],[])).1:=fun i=>by rw[nE,nE,qH];cases es[i]?<;>rfl
      simp only[dgm] at hU;have e0:nQ es=p.toList.map fun i=>es.getD i ([],[]):=MP A1 (DK _ hP) (qX ([],[]) (fun a b=>HT.lexLt a.1 b.1) hP hU);refine⟨_,rfl,cX (W8 _ _ ⟨.ref D,_,I6,rfl,post D _ _ F' (g'.trans (bA.own g'.base GK.1 (.lst (p.toList.map fun i=>kv.getD i V.non)) GL rfl)) ZJ (g'.base.sub.free GK.1) aL ?_⟩)⟩;rw[e0,e9];refine qZ.mpr (jz _ _ fun i hi=>?_);obtain⟨b,q1,q2⟩:=bp je (i:=i) (by have:=hm i hi;omega) V.non ([],[]);rw[q1];exact aN.mpr ⟨b,_,rfl,g'.base.tup _ _ (g'.ent _ _ q2) rfl,fX _⟩
theorem Ep{Q:VK}{f c' d:Addr}{body:Expr}{Fq:Value}{g:EF}(hu:X.A.units+5<cLine)(L:ZS X k q params body scope g)(hr:fI (k+1) X.A.in1.in1)(I:Inv X pins σ H s)(Qa:(f,kla_obj "<lambda>" q params body scope [] pm c' Fq)∈X.pn++pins)(XS:H c'=some (.Hu q))(b0:Base F H)(hd:m4 X.K H d vs)(je:Paired (fun v (e:aO×aO)=>oF H v e.2) vs es)(hF:∀e∈es,g [some (.sh (.tup (e.2.map D.int)))]=some (.tup (e.1.map D.int)))(A1:(es.map (·.1)).Nodup)(yU:es.length<64)(hE:∀e∈es,e.1≠[])(post:∀p vs H' F',bA F H F' H'→H p=none→F' p=none→H' p=some (.lst vs)→cy X.K F' ((nQ es).map fun e=>D.tup (e.2.map D.int)) vs→Q (.ref p) H'):wpAny (model X.prog X.w) X.A (call (.builtin "sorted") [.ref d] [(Str.ofString "key",.ref f)]) (EP X pins σ Q) X.xe s:=by
  obtain⟨its,rv,hl,_⟩:=I.list hd;have l1:vs.length=its.length:=rv.length;have l2:vs.length=es.length:=wd je;refine call_function_entry_kw kind_sorted plain_sorted entry_sorted (ksk_s1 _ _) ?_;unfold Builtin.«sorted»;refine bh (m:=checkCount "sorted" 1 1 _) (cX ?_);refine bh (collect_list hl.isList ?_ (by rw[jc];omega));have keep:∀b o,s.heap.get? b=some o→((s.heap.push (seqObj "list" #[] 0)).update s.heap.objs.size (Obj.mapSeq (·++its.toArray))).get? b=some o:=fun b o q=>by have jO:b<s.heap.objs.size:=dj q;rw[Heap.get?_update_ne _ _ _ _ (fV jO),Heap.get?_push_ne _ _ _ (fV jO)];exact q
  exact Eo (tk:=s.toks) hu L hr I Qa XS b0 hF A1 yU hE keep rv je (fun v s' q=>⟨_,rfl,q⟩) post
end
end DL
namespace DL
open PySem PySem.Spec L2 PySem.W
open PyProof.Rows hiding St pairAt
def CF(g:EF):dm→Option (List (aO×aO))
  |[]=>some []
  |.tup ts::ds=>(kH ts).bind fun ns=>match g [some (.sh (.tup ts))] with
   |some (.tup ks)=>(kH ks).bind fun kk=>(CF g ds).map ((kk,ns)::·)
   |_=>none
  |_::_=>none
theorem Qb{g:EF}:∀{ds:dm} {es:List (aO×aO)},CF g ds=some es→ds=(es.map fun e=>D.tup (e.2.map D.int))∧∀e∈es,g [some (.sh (.tup (e.2.map D.int)))]=some (.tup (e.1.map D.int)):=by
  intro ds;induction ds with
  |nil=>intro es h;cases h;exact⟨rfl,fun _ z=>nomatch z⟩
  |cons d ds ih =>
   intro es h;unfold CF at h;split at h
   ·rename_i heq;cases heq
   · rename_i ts tu heq;cases heq;obtain⟨ns,h1,h⟩:=eK.mp h;split at h
     · rename_i ks hg;obtain⟨kk,h2,h⟩:=eK.mp h;obtain⟨r,h3,h4⟩:=g6.mp h;subst h4;obtain⟨i1,i2⟩:=ih h3;have e1:=kb h1;have e2:=kb h2;subst e1 e2;refine⟨by rw[i1];rfl,fun e he=>?_⟩;rcases fR.mp he with rfl|he
       ·exact hg
       ·exact i2 e he
     ·cases h
   ·cases h
def zZ(i:Nat)(η:cP):Bool:=match η[i]? with
  |some (some (.sh (.obj _)))=>true
  |_=>false
def rM(f g:EF):LF:=fun η=>if zZ 0 η=true then((f η).bind fun d=>match d with
    |.lst ds=>(CF g ds).bind fun es=>if (es.map (·.1)).Nodup∧es.length<64∧(es.all fun e=>!e.1.isEmpty)=true then some ((nQ es).map fun e=>D.tup (e.2.map D.int)) else none
    |_=>none) else none
theorem MQ(h:zZ i η=true):∃C,η[i]?=some (some (.sh (.obj C))):=by
  unfold zZ at h;split at h
  ·rename_i C e;exact⟨C,e⟩
  ·cases h
section
variable {X:Cx} {z:Zc} {e:Expr} {f:EF} {pos p:Pos}
theorem IE{c T:Addr}{body:Expr}{lp kp:Pos}{g:EF}(hu:X.A.units+5<cLine)(L:ZS X k DU params body scope g)(hr:fI (k+3) X.A)(Mu:Gl X "sorted")(D0:X.mg "sorted"=none)(ha:DE X z e f)(KC:X.env.code=.ref c)(hc:codeHdIn X.K c T=true)(hT:lZ X.K=some (c,T))(hB:X.base.BuiltinsAt X.mg T)(Sg:closureFor scope X.env=pure [])(ac4:eval (.Lambda params body scope lp) X.env=(do
      let dv ←evalAll []
      let kdv ←holding dv (evalAllOpt [])
      makeFunction "<lambda>" DU params (.expr body) scope X.env dv kdv [] lp lp.line))(hs:starEach [e] X.env=(false,eval e X.env)::starEach [] X.env:=by rfl):DO X z (.Call (.Name "sorted" p) [e] [⟨some "key",.Lambda params body scope lp,kp⟩] pos) (rM f g):=by
  intro pins s σ H Q I ⟨η,F,tu,rl,e0,kk⟩;unfold rM at e0;by_cases ZV:zZ 0 η=true
  · obtain⟨C,ZW⟩:=MQ ZV;rw[ay ZV] at e0;obtain⟨d',h1,e0⟩:=eK.mp e0;cases d' with
    |lst ds0 =>
     obtain⟨es,h2,e0⟩:=eK.mp e0;by_cases hl:(es.map (·.1)).Nodup∧es.length<64∧(es.all fun e=>!e.1.isEmpty)=true
     · rw[ay hl] at e0;cases e0;obtain⟨a1,a2⟩:=Qb h2;have hE:∀e∈es,e.1≠[]:=fun e he z=>by
         have:=iK.mp hl.2.2 e he;rw[z] at this;simp at this
       obtain⟨vs0,_,ac5⟩:=rl.at_ 0 _ ZW;obtain⟨_,_,_,_,P4⟩:=hG.mp (show Den X.K F (.obj C) vs0 from ac5);have hFT:=P4 c T hT;refine v8 (j5 I Mu D0 nr ?_ (by decide) (by decide));refine PyProof.Rows.callWith_kw ?_ (by rw[hs];rfl) (by rw[hs];rfl) rfl rfl;refine gx (fj ha kM hs pos pins s σ H (fun vs H1=>∃v F1,vs=[v]∧bA F H F1 H1∧Den X.K F1 (.lst ds0) v) I ⟨η,F,_,rl,h1,fun v H1 F1 g1 q1=>⟨v,F1,rfl,g1,q1⟩⟩) fun us s1 ⟨vs,H1,I1,r1,q1⟩=>?_;obtain⟨v,F1,rfl,g1,q1⟩:=q1;obtain⟨q,ws,rfl,h4,h5⟩:=aW.mp q1;obtain⟨u,rfl,ru⟩:=vals1 r1;cases ru;rw[a1] at h5;show wpAny _ _ (evalAll ((do let v ←eval (.Lambda params body scope lp) X.env;standAt pos;pure v)::[])) _ _ s1;refine wpAny_evalAll_cons (bh ?_);rw[ac4];refine bh (wpAny_evalAll_nil (bh (wc (cX ?_))));refine P7 I1 KC hc (g1.base.sub _ _ (g1.jA _ _ hFT)) Sg hB fun fl c' Fq H2 s2 I2 hH ac6=>?_;refine bh (wpAny_standAt (cX ?_));refine wpAny_evalAll_nil ?_;have g2:bA F1 H1 F1 H2:=by
         rcases hH with rfl|⟨hn,rfl⟩
         ·exact bA.refl g1.base
         ·exact bA.own g1.base hn (.Hu DU) True.intro rfl
       have je:Paired (fun v (e:aO×aO)=>oF H2 v e.2) ws es:=by
         have key:∀{l:List V} {m:List (aO×aO)},cy X.K F1 (m.map fun e=>D.tup (e.2.map D.int)) l→Paired (fun v (e:aO×aO)=>oF H2 v e.2) l m:=by
           intro l m;induction m generalizing l with
           |nil=>intro h;rw[bC.mp h];exact .nil
           |cons x m ih=>intro h;obtain⟨v,r,rfl,h1,h2⟩:=aP.mp h;obtain⟨a,xs,rfl,h3,h4⟩:=aN.mp h1;rw[ix h4] at h3;exact .cons ⟨a,rfl,g2.base.sub _ _ (g2.jA _ _ h3)⟩ (ih h2)
         exact key h5
       have hr2:fI (k+1) X.A.in1.in1:=hr.in1.in1;refine gx (Ep (Q:=Q) hu L hr2 I2 (jY _ cY) ac6 g2.base (g2.base.sub.seq (cF.seq g2.jA h4)) je a2 hl.1 hl.2.1 hE fun p vs H' F' g q1 q2 q3 q4=>kk p vs H' F' ((g1.trans g2).trans g) ((g1.trans g2).ent.free q1) q2 q3 q4) fun u s3 ⟨v,H3,I3,r,qq⟩=>⟨v,H3,I3.ug,r,qq⟩
     ·rw[aZ hl] at e0;cases e0
    |_=>cases e0
  ·rw[aZ ZV] at e0;cases e0
end
theorem TH{base:Heap}{st:Stmt}{f:Addr}{ps:gs}{ms:List Bool}{g:SF}{kV doc eR:Value}(lk:K.lookup f=some ⟨oc,od,.func (fnOf x qual (fc st) (dD st) (az st) .none kV doc pm an eR ct),Np⟩)(oA:codeIn K eR qual=true)(S:aV N ps (az st))(D0:ms.length=ps.length)(hb:∀(A:Around) (outer:List Env) (s:Shared) (H:Hp) (E:XK) (z:Zc),fI k (A.deeper (envOfC qual (az st) s.heap.objs.size f eR))→L6 (x4 i9 P w K mg base N qual (az st) f eR A outer s H E).Hv z (dD st) g):cG P w K mg base i9 (k+1) f (fnOf x qual (fc st) (dD st) (az st) .none kV doc pm an eR ct) ps (cK K ms (jB N.length ms g)):=by
  refine UC lk oA S (fun vs H Q E h=>?_) (fun A outer s H vs Q E hr h=>?_)
  ·obtain⟨F,ds,r,_,a,_⟩:=h;rw[←D0,(nL a).1]
  · obtain⟨F,ds,r,b,a,e,q⟩:=h;refine⟨_,Bg.Hv (hb A outer s H E ⟨F,H,fun _ _=>False⟩ hr),?_⟩;have rl:Rel K ⟨F,H,fun _ _=>False⟩ F H (L2.start N vs) (eS N.length ms ds):=sL b a;unfold jB at e;cases o:g (eS N.length ms ds) with
    |none=>rw[o] at e;cases e
    |some o' =>
     rw[o] at e;refine⟨_,F,o',rl,o,?_⟩;cases o' with
     |rt r'=>cases e;exact L5.of (z:=⟨F,H,fun _ _=>False⟩) q
     |nx η'=>cases e;exact fun σ' H' F' r' _=>q .non H' F' r'.mem (cf.mpr rfl)
     |bk _=>cases e
     |ct _=>cases e
end DL
namespace L2
open PySem PySem.Spec PyProof.Rows PySem.W
def ZX(outer:List Env)(h0:Heap)(ea:Addr)(C:Value)(H':Hp)(h':Heap):Prop :=
  ∃B a0,Heap.FlyingW B outer ea C a0 h'∧(∀b o,h0.get? b=some o→b∉Lp outer→∃o',B.get? b=some o')∧∀b o,H' b=some o→∃o',B.get? b=some o'
def CXf(P:Program)(w:World):LH:=fun outer H s E e s' =>
  ∃(ea C:Addr) (H':Hp),e=.ref ea∧s'.os=s.os∧AllBare s'.gens∧Un (Lp outer) [] H H' s.heap s'.heap∧t8 P w H' s'.heap∧ZX outer s.heap ea (.ref C) H' s'.heap∧E (.ref C) none H'
section
variable {P:Program} {w:World} {K:PySem.W.Frag} {mg:Str→ni} {base:Heap} {N:gs} {qual:Str} {scope:Scope} {f:Addr} {cd:Value} {A:Around} {outer:List Env} {s₀:Shared} {H₀:Hp} {E:XK}
  {pins:kJ} {σ:St} {H:Hp} {s:Shared}
end
end L2
namespace PySem.W
open PySem PySem.Spec PySem.Calls PyProof.Rows Builtin Builtin.ObjectAttr Builtin.Getset_descriptor
section
variable {prog:Program} {w:World} {A:Around} {E:nD} {s:Shared} {K:Frag} {x C D:Addr} {ox:Obj} {od:Obj} {odo:Option Obj} {name:Str}
structure agv (K:Frag) (C:Addr):Prop where
  cl:(clsIn K C).isSome=true
  ga:findIn K (.ref C) "__getattribute__"=some (some (.builtin "BaseException.__getattribute__"))
  gt:findIn K (.ref C) "__getattr__"=some none
  ha:findIn K (.ref C) "__class__"=some (some (.builtin "object.__class__"))
  hn:specialIn K (.builtin "object.__class__") "__get__"=some (some (.builtin "getset_descriptor.__get__"))
  htk:takesIn K (.builtin "object.__class__")=some true
  hm:mroIn K C (.type "object")=some true
  hb:mroIn K C (.type "BaseException")=some true
end
end PySem.W
namespace DL
open PySem PySem.Spec L2
open PyProof.Rows hiding St pairAt
structure ai9 (P:Program) (w:World) (K:PySem.W.Frag) (mg:Str→ni) (base:Heap) (k:Nat) (f:Addr) (ps:gs) (sp:Sp):Prop where
  ex:∃fd,cG P w K mg base (CXf P w) k f fd ps sp∧Binds K fd ps []∧keepIn K (.ref f)=true
def X4(H:Hp)(p:Addr):Hp:=fun b=>if b=p then none else H b
section
variable {X:Cx} {z:Zc} {e e2 o:Expr} {es es2:List Expr} {fs fs2:LF} {fo:EF} {ms ms2:List Bool} {pos p apos:Pos} {m:Str}
theorem GV{ps:gs}(hz:kP X.K z.F₀)(C:fW X.prog X.w X.K X.mg X.base k fn ps (GU X.K ms Fn))(hr:fI k X.A)(hg:Gl X x)(hm:X.mg x=some (.ref fn))(ha:DM X z (e::es) ms fs)(ti:(x==("__debug__":Str))=false:=by decide)(he:starEach (e::es) X.env=(false,eval e X.env)::starEach es X.env:=by rfl)(tj:(backTo pos (starEach es X.env)).any (·.1)=false:=by rfl):DE X z (.Call (.Name x p) (e::es) [] pos) (ax Fn fs):=PE.weak (DR C hr hg hm ha ti he tj) fun σ H Q ⟨η,F,d,r,e,k⟩=>by
  unfold ax at e;obtain⟨ds,h1,h⟩:=eK.mp e;obtain⟨s,h2,h⟩:=eK.mp h;refine⟨η,F,ds,r,h1,fun vs H1 F1 g1 q1=>?_⟩;show GU X.K ms Fn (vs++[]) H1 Q E0;rw[uE];refine⟨F1,ds,s,g1.base,(hz.mono r.mem.jA).mono g1.jA,q1,h2,?_⟩;cases s with
  |sh d'=>cases h;exact fun v H' F' g2 q2=>k v H' F' (g1.trans g2) q2
  |ol tu=>cases h;intro p vs H' F' g2 hp hF hH hd;have hs:cF F' (upd F' p (.lst vs)):=fq hF _;exact k _ _ _ ((g1.trans g2).share g2.base hH (g1.ent.free hp)) (aW.mpr ⟨p,vs,rfl,m4.of aL,bD hs _ _ hd⟩)
  |pr tu UJ=>cases h;intro a p vs ws H' F' g2 hp hF hH hd ha hr;have hs:cF F' (upd F' p (.lst vs)):=fq hF _;exact k _ _ _ ((g1.trans g2).share g2.base hH (g1.ent.free hp)) (aN.mpr ⟨a,_,rfl,hs _ _ ha,aP.mpr ⟨_,_,rfl,aW.mpr ⟨p,vs,rfl,m4.of aL,bD hs _ _ hd⟩,bD hs _ _ hr⟩⟩)
  |_=>cases h
end
end DL
namespace nR
open PySem L2 DL NS
def top(i:Nat):Stmt:=PySem.Challenge.pw_fairbench_k64_whole_order_and_parts_of_h.main.body.getD i (.Pass ⟨0,0,0,0⟩)
abbrev qb:Stmt:=top 8
abbrev rN:Stmt:=top 9
abbrev z0:Stmt:=top 10
abbrev mw:Stmt:=top 11
abbrev mx:Stmt:=top 12
abbrev kg:Stmt:=top 13
abbrev kX:Stmt:=top 14
abbrev wM:Stmt:=top 17
abbrev oX:Stmt:=top 18
abbrev uh:Stmt:=top 19
abbrev oY:Stmt:=top 20
abbrev oZ:Stmt:=top 21
abbrev kh:Stmt:=top 22
abbrev qc:Stmt:=top 24
abbrev g7:Stmt:=top 25
abbrev nS:Stmt:=top 26
abbrev kY:Stmt:=top 27
abbrev ki:Stmt:=top 28
abbrev iA:Stmt:=top 29
abbrev my:Stmt:=top 30
abbrev mz:Stmt:=top 31
abbrev rO:Stmt:=top 32
abbrev ui:Stmt:=top 34
abbrev wN:Stmt:=top 35
abbrev z3:Stmt:=top 36
abbrev jE:Stmt:=top 37
abbrev jF:Stmt:=top 43
abbrev qd:Stmt:=top 44
abbrev qe:Stmt:=top 45
abbrev pd:Stmt:=top 46
abbrev pe:Stmt:=top 47
abbrev mB:Stmt:=top 48
abbrev kZ:Stmt:=top 49
abbrev la:Stmt:=top 50
abbrev wO:Stmt:=top 52
abbrev Er:Stmt:=top 53
abbrev Qc:Stmt:=top 54
abbrev Es:Stmt:=top 55
abbrev s_same:Stmt:=top 56
abbrev IG:Stmt:=top 57
abbrev II:Stmt:=top 58
abbrev m7:Stmt:=top 59
abbrev pf:Stmt:=inClass (top 39) 2
abbrev bM:Stmt:=inClass (top 40) 0
abbrev nT:Stmt:=inClass (top 39) 1
abbrev eY:Stmt:=inClass (top 41) 0
abbrev eZ:Stmt:=inClass (top 42) 0
structure ye where
  kj:Addr
  iB:Addr
  pP:Addr
  jm:Addr
  jn:Addr
  hX:Addr
  iM:Addr
  jS:Addr
  lB:Addr
  qf:Addr
  de:Addr
  gX:Addr
  fu:Addr
  m8:Addr
  eJ:Addr
  gg:Addr
  iN:Addr
  hZ:Addr
  cR:Addr
  jo:Addr
  e7:Addr
  jT:Addr
  lb:Addr
  sQ:Addr
  vh:Addr
  gE:Addr
  dz:Addr
  dZ:Addr
  iO:Addr
  lC:Addr
  lD:Addr
  jq:Addr
  iP:Addr
  iQ:Addr
  iR:Addr
  oH:Addr
  KD:Addr
  yB:Addr
  mC:Addr
  z4:Addr
  z5:Addr
  KG:Addr
  lE:Addr
  nU:Addr
  km:Addr
  mD:Addr
  mE:Addr
  gu:Addr
  bj:Addr
  aR:Addr
  aS:Addr
  Ry:Addr
  TJ:Addr
structure xJ (a:ye):Prop where
  Et:a.bj≠a.aR
  Eu:a.bj≠a.aS
  BH:a.aR≠a.aS
def jU:aO:=[0,60,90,110,125,137,147]
structure Txt (K:PySem.W.Frag) (mg:Str→ni) (a:ye):Prop where
  kj:mg "heaps_of"=some (.ref a.kj)
  iB:mg "ballots"=some (.ref a.iB)
  pP:mg "rank"=some (.ref a.pP)
  jm:mg "check_count"=some (.ref a.jm)
  jn:mg "check_names"=some (.ref a.jn)
  hX:mg "check_ballots"=some (.ref a.hX)
  iM:mg "put_together"=some (.ref a.iM)
  jS:mg "worth"=some (.ref a.jS)
  lB:mg "exchanges"=some (.ref a.lB)
  qf:mg "mended"=some (.ref a.qf)
  de:mg "in_common"=some (.ref a.de)
  gX:mg "exchanged"=some (.ref a.gX)
  fu:mg "best_exchange"=some (.ref a.fu)
  m8:mg "left_out"=some (.ref a.m8)
  eJ:mg "left_out_together"=some (.ref a.eJ)
  gg:mg "are_enough"=some (.ref a.gg)
  iN:mg "with_too_few"=some (.ref a.iN)
  hZ:mg "with_none_but"=some (.ref a.hZ)
  cR:mg "heaps_naming_all"=some (.ref a.cR)
  jo:mg "largest_few"=some (.ref a.jo)
  e7:mg "sets_to_ask"=some (.ref a.e7)
  jT:mg "sets_of"=some (.ref a.jT)
  lb:mg "lowest"=some (.ref a.lb)
  sQ:mg "added"=some (.ref a.sQ)
  vh:mg "less"=some (.ref a.vh)
  gE:mg "common_divisor"=some (.ref a.gE)
  dz:mg "ballots_naming"=some (.ref a.dz)
  dZ:mg "names_of"=some (.ref a.dZ)
  iO:mg "unseated"=some (.ref a.iO)
  lC:mg "next_turn"=some (.ref a.lC)
  lD:mg "next_load"=some (.ref a.lD)
  jq:mg "comes_ahead"=some (.ref a.jq)
  iP:mg "load_of_name"=some (.ref a.iP)
  iQ:mg "load_of_heap"=some (.ref a.iQ)
  iR:mg "_law_cell_at"=some (.ref a.iR)
  oH:mg "_law_mixed"=some (.ref a.oH)
  KD:mg "_law_set"=some (.ref a.KD)
  yB:mg "_law_heaps"=some (.ref a.yB)
  mC:mg "_law_same"=some (.ref a.mC)
  z4:mg "_law_rows"=some (.ref a.z4)
  z5:mg "_law_told"=some (.ref a.z5)
  KG:mg "law"=some (.ref a.KG)
  bj:mg "Most"=some (.ref a.bj)
  aR:mg "Turns"=some (.ref a.aR)
  aS:mg "Loads"=some (.ref a.aS)
  vm:Rl K a.bj
  vn:ZP K a.bj
  tU:Meth K a.bj "bench" a.lE
  tV:Meth K a.bj "order" a.nU
  z6:Meth K a.bj "seated" a.km
  rP:Rl K a.aR
  rQ:ZP K a.aR
  rR:Meth K a.aR "bench" a.lE
  rS:Meth K a.aR "order" a.mD
  yf:Meth K a.aR "seated" a.km
  rT:Rl K a.aS
  rV:ZP K a.aS
  rW:Meth K a.aS "bench" a.lE
  rX:Meth K a.aS "order" a.mE
  yg:Meth K a.aS "seated" a.km
  gu:mg "SIXTIETHS"=some (.ref a.gu)
  GW:∀H,kE K H a.gu (jU.map V.int)
  Ew:∃t,mg "MOST_NAMES"=some (.int 6 t)
  IJ:mg "bool"=none
  U2:mg "int"=none
  cu:mg "isinstance"=none
  jg:mg "len"=none
  wQ:mg "list"=none
  ZY:mg "min"=none
  lF:mg "range"=none
  IK:mg "reversed"=none
  ZZ:mg "set"=none
  nV:mg "sorted"=none
  U3:mg "str"=none
  GX:mg "sum"=none
  m9:mg "tuple"=none
  ac7:PySem.W.codeHdIn K a.Ry a.TJ=true
  ac8:lZ K=some (a.Ry,a.TJ)
section
variable {P:Program} {w:World} {K:PySem.W.Frag} {mg:Str→ni} {base:Heap} {f:Addr} {fd:FuncData} {a:ye}
theorem ac9:(["names","together"]:gs).Nodup:=by decide +kernel
theorem ada:(["heap"]:gs).Nodup:=by decide +kernel
theorem Z0:(["names","many"]:gs).Nodup:=by decide +kernel
theorem Z1:(["named","many","names"]:gs).Nodup:=by decide +kernel
theorem adb:(["name","two"]:gs).Nodup:=by decide +kernel
theorem ade:(["name","leaving"]:gs).Nodup:=by decide +kernel
theorem adf:(["heap","bench","names"]:gs).Nodup:=by decide +kernel
theorem adg:(["name","few"]:gs).Nodup:=by decide +kernel
theorem adh:(["heap","others"]:gs).Nodup:=by decide +kernel
theorem Z2:(["heap","names"]:gs).Nodup:=by decide +kernel
theorem Z3:(["few","size"]:gs).Nodup:=by decide +kernel
theorem Z4:(["some","name"]:gs).Nodup:=by decide +kernel
theorem U4:(["names","many","name"]:gs).Nodup:=by decide +kernel
theorem Z5:(["row"]:gs).Nodup:=by decide +kernel
theorem Z6:(["name","rows"]:gs).Nodup:=by decide +kernel
theorem Z7:(["_law_name","_law_bits"]:gs).Nodup:=by decide +kernel
theorem Z8:(["_law_name","_law_cell"]:gs).Nodup:=by decide +kernel
theorem agw:(["_law_names"]:gs).Nodup:=by decide +kernel
theorem Z9:(["_law_names"]:gs).Nodup:=by decide +kernel
theorem U5:(["_law_size","_law_names","_law_found"]:gs).Nodup:=by decide +kernel
theorem aac:(["_law_way","_law_count","_law_heaps_here"]:gs).Nodup:=by decide +kernel
theorem aad:(["_law_way","_law_count","_law_heaps_here","_law_some"]:gs).Nodup:=by decide +kernel
theorem U6:(["_law_names","_law_many"]:gs).Nodup:=by decide +kernel
theorem aae:(["_law_name","_law_there"]:gs).Nodup:=by decide +kernel
theorem aaf:(["name","heaps"]:gs).Nodup:=by decide +kernel
theorem jG:aV ["rows","names","many"] ["rows"] (az kg):=⟨rfl,rfl,rfl,by decide +kernel,rfl,by decide +kernel,by decide +kernel⟩
def i5:SF:=(pX (bU (ag HW (aJ 2) (eC (.int 0)))) Mm dJ)
def ko:SF:=(bw (kT (cI (eV 0)) (lR 2 (bZ (aD true 1) (bZ (aD true 2) lQ))) i5) (pX (bU (ag m5 (jQ ya (ae (eL (bP 2 [] (cI (eV 0)) (lR 2 (bZ (aD true 0) (bZ (aD true 1) lQ))) eQ (eV 1))) ao)) (eC (.int 0)))) Mm dJ))
def h8:dm→eP:=jB 3 [true] ko
theorem uj(F:kG K "check_ballots" "check_ballots" kg f fd)(T:Txt K mg a):cG P w K mg base i9 1 f fd ["rows"] (cK K [true] h8) :=
  bL F jG rfl (fun eR A outer s H E z hr=>by
    have hu:=hr.units;exact(ai (fK rfl (cD (aA 0)) (nO rfl (cB (aU 1 jG.nd) (cB (aU 2 jG.nd) kc))) (av (eE (xE (aG 2) (DE.bo aB)) (av zF) bV))) (av (eE (tQ hu (DE.bo (bT (qY rfl) zf rfl T.GX yS (cA (DE.bo (DO.sh (dE rfl (tgs:=["names","many"]) (fi:=[]) (dg.of rfl) (by decide) (cD (aA 0)) (fun _ _ _ _=>(nO rfl (cB (aU 0 Z0) (cB (aU 1 Z0) kc)))) (fun _ _ _ _=>jj) (fun _ _ _ _=>(aA 1))))) au))) (DE.bo aB)) (av zF) bV))))
theorem wR:aV ["count"] ["count"] (az mw):=⟨rfl,rfl,rfl,by decide +kernel,rfl,by decide +kernel,by decide +kernel⟩
def mF:SF:=(pX (mh (bU (ag HW (aJ 0) (eC (.int 1)))) (bU (ag Nu (aJ 0) (eC (.int 6))))) Mm dJ)
def jr:dm→eP:=jB 1 [true] mF
theorem wU(F:kG K "check_count" "check_count" mw f fd)(T:Txt K mg a):cG P w K mg base i9 1 f fd ["count"] (cK K [true] jr) :=
  bL F wR rfl (fun eR A outer s H E z hr=>by
    have hu:=hr.units;exact(av (eE (DW.t (tO (xE (aG 0) (DE.bo aB)) (oU (zh (aG 0) (DE.bo (Tn rfl T.Ew)))))) (av zF) bV)))
theorem iS:aV ["count","rows","names","many","name"] ["count","rows"] (az mx):=⟨rfl,rfl,rfl,by decide +kernel,rfl,by decide +kernel,by decide +kernel⟩
def kr:SF:=(pX (mh (bU (ag HW (aJ 4) (eC (.int 0)))) (bU (ag Zt (aJ 4) (aJ 0)))) Mm dJ)
def oI:SF:=(kT (cI (eV 2)) (aD true 4) kr)
def yh:SF:=(kT (cI (eV 1)) (lR 2 (bZ (aD true 2) (bZ (aD true 3) lQ))) oI)
def jt:dm→eP:=jB 5 [true,true] yh
theorem wV(F:kG K "check_names" "check_names" mx f fd)(T:Txt K mg a):cG P w K mg base i9 1 f fd ["count","rows"] (cK K [true,true] jt) :=
  bL F iS rfl (fun eR A outer s H E z hr=>by
    have hu:=hr.units;exact(av (fK rfl (cD (aA 1)) (nO rfl (cB (aU 2 iS.nd) (cB (aU 3 iS.nd) kc))) (av (fK rfl (cD (aA 2)) (aU 4 iS.nd) (av (eE (DW.t (tO (xE (aG 4) (DE.bo aB)) (oU (Zw (aG 4) (aG 0))))) (av zF) bV)))))))
theorem fz:aV ["rows","together","row","many","names"] ["rows"] (az kX):=⟨rfl,rfl,rfl,by decide +kernel,rfl,by decide +kernel,by decide +kernel⟩
def gF:SF:=(pX (bU (ag Nu (aJ 3) (eC (.int 0)))) (bw (cq 4 (mj (eL (zK (aJ 2))))) (rB 1 (aJ 4) (ag ml (wI 1 (aJ 4) (eC (.int 0))) (aJ 3)))) dJ)
def lg:SF:=(bw (zy 1) (bw (kT (cI (eV 0)) (lR 2 (bZ (aD true 2) (bZ (aD true 3) lQ))) gF) (O9 1)))
def iT:dm→eP:=jB 5 [true] lg
theorem vo(F:kG K "put_together" "put_together" kX f fd)(T:Txt K mg a):cG P w K mg base i9 1 f fd ["rows"] (cK K [true] iT) :=
  bL F fz rfl (fun eR A outer s H E z hr=>by
    have hu:=hr.units;exact(ai (Gv (i:=1) fz.nd) (ai (fK rfl (cD (aA 0)) (nO rfl (cB (aU 2 fz.nd) (cB (aU 3 fz.nd) kc))) (av (eE (zh (aG 3) (DE.bo aB)) (ai (bz (i:=4) fz.nd (rj rfl rfl T.m9 (DO.sh (Pr rfl rfl T.nV rfl T.ZZ (aG 2))))) (av (zA (yO hr) 1 (aG 4) (gd (DE.bo (Gw (yO hr) 1 (aG 4) aB)) (aG 3))))) bV))) (av (S9 1)))))
theorem MR:aV ["names"] ["names"] (az z0):=⟨rfl,rfl,rfl,by decide +kernel,rfl,by decide +kernel,by decide +kernel⟩
def GY:SF:=(dW (fY (ae (jQ dU (ae (aJ 0) ao)) (ae (eV 0) ao))))
def iC:dm→eP:=jB 1 [true] GY
theorem MS(F:kG K "rank" "rank" z0 f fd)(T:Txt K mg a):cG P w K mg base i9 1 f fd ["names"] (cK K [true] iC) :=
  bL F MR rfl (fun eR A outer s H E z hr=>by
    have hu:=hr.units;exact(av (bQ (gy (n:=2) (aj (bT bB fZ rfl T.jg fJ (cA (aG 0) au)) (aj (aA 0) au))))))
theorem tW:aV ["count","rows","together"] ["count","rows"] (az qb):=⟨rfl,rfl,rfl,by decide +kernel,rfl,by decide +kernel,by decide +kernel⟩
def qg:SF:=(bw (xI (ax jr (ae (eV 0) ao))) (bw (xI (ax jt (ae (eV 0) (ae (eV 1) ao)))) (bw (xI (ax h8 (ae (eV 1) ao))) (bw (Kn 2 iT (ae (eV 1) ao)) (kI (bP 1 [2] (cI (eL (Ej 2 iC))) (aD true 0) eQ (fY (ae (eV 0) (ae (xG 1 (aJ 0)) ao)))))))))
def iU:dm→eP:=jB 3 [true,true] qg
theorem BI(F:kG K "heaps_of" "heaps_of" qb f fd)(T:Txt K mg a)(vp:fW P w K mg base 1 a.hX ["rows"] (cK K [true] h8))(yi:fW P w K mg base 1 a.jm ["count"] (cK K [true] jr))(yj:fW P w K mg base 1 a.jn ["count","rows"] (cK K [true,true] jt))(wW:fW P w K mg base 1 a.iM ["rows"] (cK K [true] iT))(z7:fW P w K mg base 1 a.pP ["names"] (cK K [true] iC)):cG P w K mg base i9 4 f fd ["count","rows"] (cK K [true,true] iU) :=
  bL F tW rfl (fun eR A outer s H E z hr=>by
    have hu:=hr.units;exact(ai (Ek (aI yi (hr.mono (by decide)) rfl T.jm (aj (aA 0) au))) (ai (Ek (aI yj (hr.mono (by decide)) rfl T.jn (aj (aA 0) (aj (aA 1) au)))) (ai (Ek (aI vp (hr.mono (by decide)) rfl T.hX (aj (aA 1) au))) (ai (Ta (i:=2) tW.nd wW (hr.mono (by decide)) rfl T.iM (aj (aA 1) au)) (av (iL (dE rfl (tgs:=["names"]) (fi:=[2]) (dg.of rfl) (by decide) (cD (DO.sh (PD 2 rfl (Fx (Nat.add_le_add_left (by decide:5≤64) _) hr.units) z7 (hr.mono (by decide)) rfl T.nV rfl T.pP))) (fun _ _ _ _=>(aU 0 ac9)) (fun _ _ _ _=>jj) (fun _ _ _ _=>(gy (n:=2) (aj (aA 0) (aj (Kl (yO hr) 1 (aG 0)) au))))))))))))
theorem Ex:aV ["heaps"] ["heaps"] (az rN):=⟨rfl,rfl,rfl,by decide +kernel,rfl,by decide +kernel,by decide +kernel⟩
def rY:SF:=(dW (jQ ya (ae (eL (bP 1 [] (cI (eV 0)) (aD true 0) eQ (ag iY (eV 0) (eC (.int 1))))) ao)))
def iD:dm→eP:=jB 1 [true] rY
theorem Ey(F:kG K "ballots" "ballots" rN f fd)(T:Txt K mg a):cG P w K mg base i9 1 f fd ["heaps"] (cK K [true] iD) :=
  bL F Ex rfl (fun eR A outer s H E z hr=>by
    have hu:=hr.units;exact(av (bQ (bT (qY rfl) zf rfl T.GX yS (cA (DE.bo (DO.sh (dE rfl (tgs:=["heap"]) (fi:=[]) (dg.of rfl) (by decide) (cD (aA 0)) (fun _ _ _ _=>(aU 0 ada)) (fun _ _ _ _=>jj) (fun _ _ _ _=>(jR (aA 0) (DE.bo aB)))))) au)))))
theorem z8:aV ["one","two"] ["one","two"] (az oY):=⟨rfl,rfl,rfl,by decide +kernel,rfl,by decide +kernel,by decide +kernel⟩
def pj:SF:=(dW (jQ dU (ae (eL (bP 1 [1] (cI (eV 0)) (aD true 0) (bU (ag (inD false) (aJ 0) (aJ 1))) (eV 0))) ao)))
def bO:dm→eP:=jB 2 [true,true] pj
theorem z9(F:kG K "in_common" "in_common" oY f fd)(T:Txt K mg a):cG P w K mg base i9 1 f fd ["one","two"] (cK K [true,true] bO) :=
  bL F z8 rfl (fun eR A outer s H E z hr=>by
    have hu:=hr.units;exact(av (bQ (bT bB fZ rfl T.jg fJ (cA (DE.bo (DO.sh (dE rfl (tgs:=["name"]) (fi:=[1]) (dg.of rfl) (by decide) (cD (aA 0)) (fun _ _ _ _=>(aU 0 adb)) (fun _ _ _ _=>(jk (Kc (aG 0) (aG 1)))) (fun _ _ _ _=>(aA 0))))) au)))))
theorem IL:aV ["heaps","names"] ["heaps","names"] (az wM):=⟨rfl,rfl,rfl,by decide +kernel,rfl,by decide +kernel,by decide +kernel⟩
def wX:SF:=(dW (jQ ya (ae (eL (bP 2 [1] (cI (eV 0)) (lR 2 (bZ (aD true 0) (bZ (aD true 1) lQ))) eQ (ag uV (aJ 1) (L7 jU (ax bO (ae (eV 0) (ae (eV 2) ao))))))) ao)))
def gh:dm→eP:=jB 2 [true,true] wX
theorem IQ(F:kG K "worth" "worth" wM f fd)(T:Txt K mg a)(fN:fW P w K mg base 1 a.de ["one","two"] (cK K [true,true] bO)):cG P w K mg base i9 2 f fd ["heaps","names"] (cK K [true,true] gh) :=
  bL F IL rfl (fun eR A outer s H E z hr=>by
    have hu:=hr.units;exact(av (bQ (bT (qY rfl) zf rfl T.GX yS (cA (DE.bo (DO.sh (dE rfl (tgs:=["named","many"]) (fi:=[1]) (dg.of rfl) (by decide) (cD (aA 0)) (fun _ _ _ _=>(nO rfl (cB (aU 0 Z1) (cB (aU 1 Z1) kc)))) (fun _ _ _ _=>jj) (fun _ _ _ _=>(rm (aG 1) (DE.bo (Wu rfl T.gu (fun H=>T.GW H) (DE.bo (aI fN (hr.mono (by decide)) rfl T.de (aj (aA 0) (aj (aA 2) au))))))))))) au)))))
theorem rZ:aV ["bench","leaving","coming","staying"] ["bench","leaving","coming"] (az oZ):=⟨rfl,rfl,rfl,by decide +kernel,rfl,by decide +kernel,by decide +kernel⟩
def pk:SF:=(bw (cq 3 (eL (bP 1 [1] (cI (eV 0)) (aD true 0) (bU (ag qK (aJ 0) (aJ 1))) (eV 0)))) (dW (mj (eL (rA (eL (yb (eV 3) (eL (oV (ae (eV 2) ao))))))))))
def gY:dm→eP:=jB 4 [true,true,true] pk
theorem Aa(F:kG K "exchanged" "exchanged" oZ f fd)(T:Txt K mg a):cG P w K mg base i9 1 f fd ["bench","leaving","coming"] (cK K [true,true,true] gY) :=
  bL F rZ rfl (fun eR A outer s H E z hr=>by
    have hu:=hr.units;exact(ai (Gr (i:=3) rfl rZ.nd (tgs:=["name"]) (fi:=[1]) (dg.of rfl) (by decide) (cD (aA 0)) (fun _ _ _ _=>(aU 0 ade)) (fun _ _ _ _=>(jk (Ck hu (aG 0) (aG 1)))) (fun _ _ _ _=>(aA 0))) (av (bQ (rj rfl rfl T.m9 (DO.sh (Gq (Fx (Nat.add_le_add_left (by decide:5≤64) _) hr.units) rfl T.nV (DE.bo (DO.sh (D1 (aA 3) (DO.sh (nM (n:=1) (aj (aA 2) au)))))))))))))
theorem gi:aV ["count","heaps","bench","before","told","leaving","coming","after"] ["count","heaps","bench"] (az oX):=⟨rfl,rfl,rfl,by decide +kernel,rfl,by decide +kernel,by decide +kernel⟩
def ju:SF:=(pX (bU (ag (inD true) (aJ 6) (aJ 2))) (bw (cq 7 (ax gh (ae (eV 1) (ae (ax gY (ae (eV 2) (ae (eV 5) (ae (eV 6) ao)))) ao)))) (dF 4 (fY (ae (eV 5) (ae (eV 6) (ae (ag HV (aJ 7) (aJ 3)) ao)))))) dJ)
def jv:SF:=(kT (eG (aJ 0)) (aD true 6) ju)
def pq:SF:=(bw (cq 3 (ax gh (ae (eV 1) (ae (eV 2) ao)))) (bw (qC 4 (oV ao)) (bw (kT (cI (eV 2)) (aD true 5) jv) (Ci 4))))
def lG:dm→eP:=jB 8 [true,true,true] pq
theorem Ab(F:kG K "exchanges" "exchanges" oX f fd)(T:Txt K mg a)(pv:fW P w K mg base 1 a.gX ["bench","leaving","coming"] (cK K [true,true,true] gY))(pQ:fW P w K mg base 2 a.jS ["heaps","names"] (cK K [true,true] gh)):cG P w K mg base i9 3 f fd ["count","heaps","bench"] (cK K [true,true,true] lG) :=
  bL F gi rfl (fun eR A outer s H E z hr=>by
    have hu:=hr.units;exact(ai (bz (i:=3) gi.nd (aI pQ (hr.mono (by decide)) rfl T.jS (aj (aA 1) (aj (aA 2) au)))) (ai (uW (i:=4) gi.nd (nM (n:=0) au)) (ai (fK rfl (cD (aA 2)) (aU 5 gi.nd) (av (fK rfl (kR rfl T.lF (aG 0)) (aU 6 gi.nd) (av (eE (D3 (aG 6) (aG 2)) (ai (bz (i:=7) gi.nd (aI pQ (hr.mono (by decide)) rfl T.jS (aj (aA 1) (aj (aI pv (hr.mono (by decide)) rfl T.gX (aj (aA 2) (aj (aA 5) (aj (aA 6) au)))) au)))) (av (gW 4 (gy (n:=3) (aj (aA 5) (aj (aA 6) (aj (D2 (aG 7) (aG 3)) au))))))) bV))))) (av (yy 4))))))
theorem dA:aV ["count","heaps","bench","best","most","exchange"] ["count","heaps","bench"] (az kh):=⟨rfl,rfl,rfl,by decide +kernel,rfl,by decide +kernel,by decide +kernel⟩
def i6:SF:=(pX (bU (ag Nu (ag iY (aJ 5) (eC (.int 2))) (aJ 4))) (bw (cq 3 (eV 5)) (cq 4 (ag iY (eV 5) (eC (.int 2))))) dJ)
def ku:SF:=(bw (cq 3 (eC .non)) (bw (cq 4 (eC (.int 0))) (bw (kT (cI (ax lG (ae (eV 0) (ae (eV 1) (ae (eV 2) ao))))) (aD true 5) i6) (dW (eV 3)))))
def fA:dm→eP:=jB 6 [true,true,true] ku
theorem uk(F:kG K "best_exchange" "best_exchange" kh f fd)(T:Txt K mg a)(BJ:fW P w K mg base 3 a.lB ["count","heaps","bench"] (cK K [true,true,true] lG)):cG P w K mg base i9 4 f fd ["count","heaps","bench"] (cK K [true,true,true] fA) :=
  bL F dA rfl (fun eR A outer s H E z hr=>by
    have hu:=hr.units;exact(ai (bz (i:=3) dA.nd ka) (ai (bz (i:=4) dA.nd aB) (ai (fK rfl (cD (aI BJ (hr.mono (by decide)) rfl T.lB (aj (aA 0) (aj (aA 1) (aj (aA 2) au))))) (aU 5 dA.nd) (av (eE (zh (lP (aG 5) (DE.bo aB)) (aG 4)) (ai (bz (i:=3) dA.nd (aA 5)) (av (bz (i:=4) dA.nd (jR (aA 5) (DE.bo aB))))) bV))) (av (bQ (aA 3)))))))
theorem jV:aV ["count","heaps","bench","made","left","best"] ["count","heaps","bench"] (az uh):=⟨rfl,rfl,rfl,by decide +kernel,rfl,by decide +kernel,by decide +kernel⟩
def nc:SF:=(bw (dF 3 (eV 5)) (bw (cq 4 (ax gY (ae (eV 4) (ae (ag iY (eV 5) (eC (.int 0))) (ae (ag iY (eV 5) (eC (.int 1))) ao))))) (cq 5 (ax fA (ae (eV 0) (ae (eV 1) (ae (eV 4) ao)))))))
def kx:TF:=(bU (ag zi (aJ 5) (eC .non)))
def um:SF:=(bw (qC 3 (oV ao)) (bw (cq 4 (eV 2)) (bw (cq 5 (ax fA (ae (eV 0) (ae (eV 1) (ae (eV 4) ao))))) (bw (ro 100 kx nc) (Km 3 (ae (eV 4) ao))))))
def qh:dm→eP:=jB 6 [true,true,true] um
theorem GZ(F:kG K "mended" "mended" uh f fd)(T:Txt K mg a)(oJ:fW P w K mg base 4 a.fu ["count","heaps","bench"] (cK K [true,true,true] fA))(pv:fW P w K mg base 1 a.gX ["bench","leaving","coming"] (cK K [true,true,true] gY)):cG P w K mg base i9 5 f fd ["count","heaps","bench"] (cK K [true,true,true] qh) :=
  bL F jV rfl (fun eR A outer s H E z hr=>by
    have hu:=hr.units;exact(ai (uW (i:=3) jV.nd (nM (n:=0) au)) (ai (bz (i:=4) jV.nd (aA 2)) (ai (bz (i:=5) jV.nd (aI oJ (hr.mono (by decide)) rfl T.fu (aj (aA 0) (aj (aA 1) (aj (aA 4) au))))) (ai (uX 100 (SV (aG 5) (DE.bo ka)) (ai (gW 3 (aA 5)) (ai (bz (i:=4) jV.nd (aI pv (hr.mono (by decide)) rfl T.gX (aj (aA 4) (aj (jR (aA 5) (DE.bo aB)) (aj (jR (aA 5) (DE.bo aB)) au))))) (av (bz (i:=5) jV.nd (aI oJ (hr.mono (by decide)) rfl T.fu (aj (aA 0) (aj (aA 1) (aj (aA 4) au))))))))) (av (S8 3 (n:=1) (aj (aA 4) au))))))))
theorem yk:aV ["some","heaps","bench","names"] ["some","heaps","bench","names"] (az nS):=⟨rfl,rfl,rfl,by decide +kernel,rfl,by decide +kernel,by decide +kernel⟩
def nW:SF:=(dW (ag Zt (ag uV (jQ dU (ae (aJ 2) ao)) (ax iD (ae (eV 0) ao))) (ag uV (jQ dU (ae (aJ 3) ao)) (ax iD (ae (eV 1) ao)))))
def dN:dm→eP:=jB 4 [true,true,true,true] nW
theorem yl(F:kG K "are_enough" "are_enough" nS f fd)(T:Txt K mg a)(oK:fW P w K mg base 1 a.iB ["heaps"] (cK K [true] iD)):cG P w K mg base i9 2 f fd ["some","heaps","bench","names"] (cK K [true,true,true,true] dN) :=
  bL F yk rfl (fun eR A outer s H E z hr=>by
    have hu:=hr.units;exact(av (bQ (Zv (DE.bo (rm (DE.bo (bT bB fZ rfl T.jg fJ (cA (aG 2) au))) (DE.bo (aI oK (hr.mono (by decide)) rfl T.iB (aj (aA 0) au))))) (DE.bo (rm (DE.bo (bT bB fZ rfl T.jg fJ (cA (aG 3) au))) (DE.bo (aI oK (hr.mono (by decide)) rfl T.iB (aj (aA 1) au)))))))))
theorem ng:aV ["names","told","name"] ["names"] (az rO):=⟨rfl,rfl,rfl,by decide +kernel,rfl,by decide +kernel,by decide +kernel⟩
def jh:SF:=(cq 1 (eL (yb (eV 1) (eL (bP 1 [2] (cI (eV 1)) (aD true 0) eQ (ag MC (eV 0) (fY (ae (eV 1) ao))))))))
def lU:SF:=(bw (cq 1 (eL (oV (ae (fY ao) ao)))) (bw (kT (cI (eV 0)) (aD true 2) jh) (kI (vd (eV 1) iC))))
def iE:dm→eP:=jB 3 [true] lU
theorem EA(F:kG K "sets_of" "sets_of" rO f fd)(T:Txt K mg a)(z7:fW P w K mg base 1 a.pP ["names"] (cK K [true] iC)):cG P w K mg base i9 4 f fd ["names"] (cK K [true] iE) :=
  bL F ng rfl (fun eR A outer s H E z hr=>by
    have hu:=hr.units;exact(ai (bz (i:=1) ng.nd (DO.sh (nM (n:=1) (aj (gy (n:=0) au) au)))) (ai (fK rfl (cD (aA 0)) (aU 2 ng.nd) (av (bz (i:=1) ng.nd (DO.sh (D1 (aA 1) (DO.sh (dE rfl (tgs:=["some"]) (fi:=[2]) (dg.of rfl) (by decide) (cD (aA 1)) (fun _ _ _ _=>(aU 0 Z4)) (fun _ _ _ _=>jj) (fun _ _ _ _=>(Tq (aA 0) (gy (n:=1) (aj (aA 1) au))))))))))) (av (iL (MF rfl (Fx (Nat.add_le_add_left (by decide:5≤64) _) hr.units) z7 (hr.mono (by decide)) rfl T.nV rfl T.pP (aA 1)))))))
theorem wY:aV ["count"] ["count"] (az mz):=⟨rfl,rfl,rfl,by decide +kernel,rfl,by decide +kernel,by decide +kernel⟩
def mG:SF:=(kI (kQ (ax iE (ae (Kv (aJ 0)) ao)) (oD (eC (.int 1))) tP))
def di:dm→eP:=jB 1 [true] mG
theorem wZ(F:kG K "sets_to_ask" "sets_to_ask" mz f fd)(T:Txt K mg a)(sd:fW P w K mg base 4 a.jT ["names"] (cK K [true] iE)):cG P w K mg base i9 5 f fd ["count"] (cK K [true] di) :=
  bL F wY rfl (fun eR A outer s H E z hr=>by
    have hu:=hr.units;exact(av (iL (pK (aI sd (hr.mono (by decide)) rfl T.jT (aj (Tr rfl rfl T.m9 T.lF (aG 0)) au)) (p7 (DE.bo aB)) uU))))
theorem qL:aV ["heaps","names"] ["heaps","names"] (az iA):=⟨rfl,rfl,rfl,by decide +kernel,rfl,by decide +kernel,by decide +kernel⟩
def iF:SF:=(kI (bP 1 [1] (cI (eV 0)) (aD true 0) (bU (ag m5 (ax bO (ae (ag iY (eV 0) (eC (.int 0))) (ae (eV 1) ao))) (jQ dU (ae (aJ 1) ao)))) (eV 0)))
def cS:dm→eP:=jB 2 [true,true] iF
theorem qM(F:kG K "heaps_naming_all" "heaps_naming_all" iA f fd)(T:Txt K mg a)(fN:fW P w K mg base 1 a.de ["one","two"] (cK K [true,true] bO)):cG P w K mg base i9 2 f fd ["heaps","names"] (cK K [true,true] cS) :=
  bL F qL rfl (fun eR A outer s H E z hr=>by
    have hu:=hr.units;exact(av (iL (dE rfl (tgs:=["heap"]) (fi:=[1]) (dg.of rfl) (by decide) (cD (aA 0)) (fun _ _ _ _=>(aU 0 Z2)) (fun _ _ _ _=>(jk (tQ hu (DE.bo (aI fN (hr.mono (by decide)) rfl T.de (aj (jR (aA 0) (DE.bo aB)) (aj (aA 1) au)))) (DE.bo (bT bB fZ rfl T.jg fJ (cA (aG 1) au)))))) (fun _ _ _ _=>(aA 0))))))
theorem oM:aV ["heaps","bench","names","agreeing"] ["heaps","bench","names"] (az kY):=⟨rfl,rfl,rfl,by decide +kernel,rfl,by decide +kernel,by decide +kernel⟩
def lh:SF:=(bw (cq 3 (ax cS (ae (eV 0) (ae (eV 2) ao)))) (kI (bP 1 [1,2] (cI (eV 3)) (aD true 0) (bU (ag HW (ax bO (ae (ag iY (eV 0) (eC (.int 0))) (ae (eV 1) ao))) (jQ dU (ae (aJ 2) ao)))) (eV 0))))
def gj:dm→eP:=jB 4 [true,true,true] lh
theorem vq(F:kG K "with_too_few" "with_too_few" kY f fd)(T:Txt K mg a)(iG:fW P w K mg base 2 a.cR ["heaps","names"] (cK K [true,true] cS))(fN:fW P w K mg base 1 a.de ["one","two"] (cK K [true,true] bO)):cG P w K mg base i9 3 f fd ["heaps","bench","names"] (cK K [true,true,true] gj) :=
  bL F oM rfl (fun eR A outer s H E z hr=>by
    have hu:=hr.units;exact(ai (bz (i:=3) oM.nd (aI iG (hr.mono (by decide)) rfl T.cR (aj (aA 0) (aj (aA 2) au)))) (av (iL (dE rfl (tgs:=["heap"]) (fi:=[1,2]) (dg.of rfl) (by decide) (cD (aA 3)) (fun _ _ _ _=>(aU 0 adf)) (fun _ _ _ _=>(jk (xE (DE.bo (aI fN (hr.mono (by decide)) rfl T.de (aj (jR (aA 0) (DE.bo aB)) (aj (aA 1) au)))) (DE.bo (bT bB fZ rfl T.jg fJ (cA (aG 2) au)))))) (fun _ _ _ _=>(aA 0)))))))
theorem tX:aV ["count","heaps","bench","names"] ["count","heaps","bench"] (az qc):=⟨rfl,rfl,rfl,by decide +kernel,rfl,by decide +kernel,by decide +kernel⟩
def ky:SF:=(pX (bU (ax dN (ae (ax gj (ae (eV 1) (ae (eV 2) (ae (eV 3) ao)))) (ae (eV 1) (ae (eV 2) (ae (eV 3) ao)))))) (dW (eV 3)) dJ)
def qi:SF:=(bw (kT (cI (ax di (ae (eV 0) ao))) (aD true 3) ky) (dW (eC .non)))
def kz:dm→eP:=jB 4 [true,true,true] qi
theorem BK(F:kG K "left_out" "left_out" qc f fd)(T:Txt K mg a)(nX:fW P w K mg base 2 a.gg ["some","heaps","bench","names"] (cK K [true,true,true,true] dN))(mH:fW P w K mg base 5 a.e7 ["count"] (cK K [true] di))(w5:fW P w K mg base 3 a.iN ["heaps","bench","names"] (cK K [true,true,true] gj)):cG P w K mg base i9 6 f fd ["count","heaps","bench"] (cK K [true,true,true] kz) :=
  bL F tX rfl (fun eR A outer s H E z hr=>by
    have hu:=hr.units;exact(ai (fK rfl (cD (aI mH (hr.mono (by decide)) rfl T.e7 (aj (aA 0) au))) (aU 3 tX.nd) (av (eE (md (aI nX (hr.mono (by decide)) rfl T.gg (aj (aI w5 (hr.mono (by decide)) rfl T.iN (aj (aA 1) (aj (aA 2) (aj (aA 3) au)))) (aj (aA 1) (aj (aA 2) (aj (aA 3) au)))))) (av (bQ (aA 3))) bV))) (av (bQ ka))))
theorem pR:aV ["bench","names","size"] ["bench","names"] (az my):=⟨rfl,rfl,rfl,by decide +kernel,rfl,by decide +kernel,by decide +kernel⟩
def mI:SF:=(bw (cq 2 (jQ minD (ae (jQ dU (ae (aJ 0) ao)) (ae (ag HV (jQ dU (ae (aJ 1) ao)) (eC (.int 1))) ao)))) (kI (bP 1 [2] (cI (ax iE (ae (eV 0) ao))) (aD true 0) (bU (ag m5 (jQ dU (ae (aJ 0) ao)) (aJ 1))) (eV 0))))
def gP:dm→eP:=jB 3 [true,true] mI
theorem w6(F:kG K "largest_few" "largest_few" my f fd)(T:Txt K mg a)(sd:fW P w K mg base 4 a.jT ["names"] (cK K [true] iE)):cG P w K mg base i9 5 f fd ["bench","names"] (cK K [true,true] gP) :=
  bL F pR rfl (fun eR A outer s H E z hr=>by
    have hu:=hr.units;exact(ai (bz (i:=2) pR.nd (bT (LB rfl) W9 rfl T.ZY PyProof.Rows.boot_min (cA (DE.bo (bT bB fZ rfl T.jg fJ (cA (aG 0) au))) (cA (DE.bo (D2 (DE.bo (bT bB fZ rfl T.jg fJ (cA (aG 1) au))) (DE.bo aB))) au)))) (av (iL (dE rfl (tgs:=["few"]) (fi:=[2]) (dg.of rfl) (by decide) (cD (aI sd (hr.mono (by decide)) rfl T.jT (aj (aA 0) au))) (fun _ _ _ _=>(aU 0 Z3)) (fun _ _ _ _=>(jk (tQ hu (DE.bo (bT bB fZ rfl T.jg fJ (cA (aG 0) au))) (aG 1)))) (fun _ _ _ _=>(aA 0)))))))
theorem nY:aV ["heaps","bench","names","few","others"] ["heaps","bench","names","few"] (az ki):=⟨rfl,rfl,rfl,by decide +kernel,rfl,by decide +kernel,by decide +kernel⟩
def kA:SF:=(bw (cq 4 (eL (bP 1 [3] (cI (eV 1)) (aD true 0) (bU (ag (inD true) (aJ 0) (aJ 1))) (eV 0)))) (kI (bP 1 [4] (cI (ax cS (ae (eV 0) (ae (eV 2) ao)))) (aD true 0) (bU (ag m5 (ax bO (ae (ag iY (eV 0) (eC (.int 0))) (ae (eV 1) ao))) (eC (.int 0)))) (eV 0))))
def fB:dm→eP:=jB 5 [true,true,true,true] kA
theorem uo(F:kG K "with_none_but" "with_none_but" ki f fd)(T:Txt K mg a)(iG:fW P w K mg base 2 a.cR ["heaps","names"] (cK K [true,true] cS))(fN:fW P w K mg base 1 a.de ["one","two"] (cK K [true,true] bO)):cG P w K mg base i9 3 f fd ["heaps","bench","names","few"] (cK K [true,true,true,true] fB) :=
  bL F nY rfl (fun eR A outer s H E z hr=>by
    have hu:=hr.units;exact(ai (bz (i:=4) nY.nd (DO.sh (dE rfl (tgs:=["name"]) (fi:=[3]) (dg.of rfl) (by decide) (cD (aA 1)) (fun _ _ _ _=>(aU 0 adg)) (fun _ _ _ _=>(jk (D3 (aG 0) (aG 1)))) (fun _ _ _ _=>(aA 0))))) (av (iL (dE rfl (tgs:=["heap"]) (fi:=[4]) (dg.of rfl) (by decide) (cD (aI iG (hr.mono (by decide)) rfl T.cR (aj (aA 0) (aj (aA 2) au)))) (fun _ _ _ _=>(aU 0 adh)) (fun _ _ _ _=>(jk (tQ hu (DE.bo (aI fN (hr.mono (by decide)) rfl T.de (aj (jR (aA 0) (DE.bo aB)) (aj (aA 1) au)))) (DE.bo aB)))) (fun _ _ _ _=>(aA 0)))))))
theorem gG:aV ["count","heaps","bench","names","few"] ["count","heaps","bench"] (az g7):=⟨rfl,rfl,rfl,by decide +kernel,rfl,by decide +kernel,by decide +kernel⟩
def gn:SF:=(pX (bU (ax dN (ae (ax fB (ae (eV 1) (ae (eV 2) (ae (eV 3) (ae (eV 4) ao))))) (ae (eV 1) (ae (eV 2) (ae (eV 3) ao)))))) (dW (eV 3)) dJ)
def dP:SF:=(kT (cI (ax gP (ae (eV 2) (ae (eV 3) ao)))) (aD true 4) gn)
def g8:SF:=(bw (kT (cI (ax di (ae (eV 0) ao))) (aD true 3) dP) (dW (eC .non)))
def dr:dm→eP:=jB 5 [true,true,true] g8
theorem qj(F:kG K "left_out_together" "left_out_together" g7 f fd)(T:Txt K mg a)(nX:fW P w K mg base 2 a.gg ["some","heaps","bench","names"] (cK K [true,true,true,true] dN))(ym:fW P w K mg base 5 a.jo ["bench","names"] (cK K [true,true] gP))(mH:fW P w K mg base 5 a.e7 ["count"] (cK K [true] di))(vt:fW P w K mg base 3 a.hZ ["heaps","bench","names","few"] (cK K [true,true,true,true] fB)):cG P w K mg base i9 6 f fd ["count","heaps","bench"] (cK K [true,true,true] dr) :=
  bL F gG rfl (fun eR A outer s H E z hr=>by
    have hu:=hr.units;exact(ai (fK rfl (cD (aI mH (hr.mono (by decide)) rfl T.e7 (aj (aA 0) au))) (aU 3 gG.nd) (av (fK rfl (cD (aI ym (hr.mono (by decide)) rfl T.jo (aj (aA 2) (aj (aA 3) au)))) (aU 4 gG.nd) (av (eE (md (aI nX (hr.mono (by decide)) rfl T.gg (aj (aI vt (hr.mono (by decide)) rfl T.hZ (aj (aA 1) (aj (aA 2) (aj (aA 3) (aj (aA 4) au))))) (aj (aA 1) (aj (aA 2) (aj (aA 3) au)))))) (av (bQ (aA 3))) bV))))) (av (bQ ka))))
theorem fU:aV ["one","two","rest"] ["one","two"] (az jE):=⟨rfl,rfl,rfl,by decide +kernel,rfl,by decide +kernel,by decide +kernel⟩
def fC:SF:=(bw (cq 2 (ag oB (aJ 0) (aJ 1))) (bw (cq 0 (eV 1)) (cq 1 (eV 2))))
def fE:TF:=(bU (ag Nu (aJ 1) (eC (.int 0))))
def jI:SF:=(bw (ro 20000 fE fC) (dW (eV 0)))
def gH:dm→eP:=jB 3 [true,true] jI
theorem tF(F:kG K "common_divisor" "common_divisor" jE f fd)(T:Txt K mg a):cG P w K mg base i9 1 f fd ["one","two"] (cK K [true,true] gH) :=
  bL F fU rfl (fun eR A outer s H E z hr=>by
    have hu:=hr.units;exact(ai (uX 20000 (zh (aG 1) (DE.bo aB)) (ai (bz (i:=2) fU.nd (i3 (aG 0) (aG 1))) (ai (bz (i:=0) fU.nd (aA 1)) (av (bz (i:=1) fU.nd (aA 2)))))) (av (bQ (aA 0)))))
theorem xK:aV ["top","bottom","divisor"] ["top","bottom"] (az ui):=⟨rfl,rfl,rfl,by decide +kernel,rfl,by decide +kernel,by decide +kernel⟩
def uq:SF:=(bw (cq 2 (ax gH (ae (eV 0) (ae (eV 1) ao)))) (dW (fY (ae (ag GR (aJ 0) (aJ 2)) (ae (ag GR (aJ 1) (aJ 2)) ao)))))
def lj:dm→eP:=jB 3 [true,true] uq
theorem G0(F:kG K "lowest" "lowest" ui f fd)(T:Txt K mg a)(ur:fW P w K mg base 1 a.gE ["one","two"] (cK K [true,true] gH)):cG P w K mg base i9 2 f fd ["top","bottom"] (cK K [true,true] lj) :=
  bL F xK rfl (fun eR A outer s H E z hr=>by
    have hu:=hr.units;exact(ai (bz (i:=2) xK.nd (aI ur (hr.mono (by decide)) rfl T.gE (aj (aA 0) (aj (aA 1) au)))) (av (bQ (gy (n:=2) (aj (Ky (aG 0) (aG 2)) (aj (Ky (aG 1) (aG 2)) au)))))))
theorem IU:aV ["one","two"] ["one","two"] (az wN):=⟨rfl,rfl,rfl,by decide +kernel,rfl,by decide +kernel,by decide +kernel⟩
def xa:SF:=(dW (ax lj (ae (ag ml (ag rL (ag iY (aJ 0) (eC (.int 0))) (ag iY (aJ 1) (eC (.int 1)))) (ag rL (ag iY (aJ 1) (eC (.int 0))) (ag iY (aJ 0) (eC (.int 1))))) (ae (ag rL (ag iY (aJ 0) (eC (.int 1))) (ag iY (aJ 1) (eC (.int 1)))) ao))))
def nA:dm→eP:=jB 2 [true,true] xa
theorem IV(F:kG K "added" "added" wN f fd)(T:Txt K mg a)(uv:fW P w K mg base 2 a.lb ["top","bottom"] (cK K [true,true] lj)):cG P w K mg base i9 3 f fd ["one","two"] (cK K [true,true] nA) :=
  bL F IU rfl (fun eR A outer s H E z hr=>by
    have hu:=hr.units;exact(av (bQ (aI uv (hr.mono (by decide)) rfl T.lb (aj (gd (DE.bo (p9 (lP (aG 0) (DE.bo aB)) (lP (aG 1) (DE.bo aB)))) (DE.bo (p9 (lP (aG 1) (DE.bo aB)) (lP (aG 0) (DE.bo aB))))) (aj (p9 (lP (aG 0) (DE.bo aB)) (lP (aG 1) (DE.bo aB))) au))))))
theorem MT:aV ["one","two"] ["one","two"] (az z3):=⟨rfl,rfl,rfl,by decide +kernel,rfl,by decide +kernel,by decide +kernel⟩
def Ac:SF:=(dW (ag HW (ag rL (ag iY (aJ 0) (eC (.int 0))) (ag iY (aJ 1) (eC (.int 1)))) (ag rL (ag iY (aJ 1) (eC (.int 0))) (ag iY (aJ 0) (eC (.int 1))))))
def vw:dm→eP:=jB 2 [true,true] Ac
theorem MV(F:kG K "less" "less" z3 f fd)(T:Txt K mg a):cG P w K mg base i9 1 f fd ["one","two"] (cK K [true,true] vw) :=
  bL F MT rfl (fun eR A outer s H E z hr=>by
    have hu:=hr.units;exact(av (bQ (Zu (DE.bo (p9 (lP (aG 0) (DE.bo aB)) (lP (aG 1) (DE.bo aB)))) (DE.bo (p9 (lP (aG 1) (DE.bo aB)) (lP (aG 0) (DE.bo aB))))))))
theorem tG:aV ["heaps","name"] ["heaps","name"] (az jF):=⟨rfl,rfl,rfl,by decide +kernel,rfl,by decide +kernel,by decide +kernel⟩
def jJ:SF:=(dW (jQ ya (ae (eL (bP 2 [1] (cI (eV 0)) (lR 2 (bZ (aD true 0) (bZ (aD true 1) lQ))) (bU (ag (inD false) (aJ 2) (aJ 0))) (eV 1))) ao)))
def cN:dm→eP:=jB 2 [true,true] jJ
theorem tI(F:kG K "ballots_naming" "ballots_naming" jF f fd)(T:Txt K mg a):cG P w K mg base i9 1 f fd ["heaps","name"] (cK K [true,true] cN) :=
  bL F tG rfl (fun eR A outer s H E z hr=>by
    have hu:=hr.units;exact(av (bQ (bT (qY rfl) zf rfl T.GX yS (cA (DE.bo (DO.sh (dE rfl (tgs:=["names","many"]) (fi:=[1]) (dg.of rfl) (by decide) (cD (aA 0)) (fun _ _ _ _=>(nO rfl (cB (aU 0 U4) (cB (aU 1 U4) kc)))) (fun _ _ _ _=>(jk (Kc (aG 2) (aG 0)))) (fun _ _ _ _=>(aA 1))))) au)))))
theorem BL:aV ["rows"] ["rows"] (az qd):=⟨rfl,rfl,rfl,by decide +kernel,rfl,by decide +kernel,by decide +kernel⟩
def gI:SF:=(kI (bP 1 [] (Ia 0) (aD false 0) eQ (ag iY (eV 0) (eC (.int 0)))))
def bH:dm→eP:=jB 1 [false] gI
theorem BM(F:kG K "names_of" "names_of" qd f fd)(T:Txt K mg a):cG P w K mg base i9 1 f fd ["rows"] (cK K [false] bH) :=
  bL F BL rfl (fun eR A outer s H E z hr=>by
    have hu:=hr.units;exact(av (iL (dE rfl (tgs:=["row"]) (fi:=[]) (dg.of rfl) (by decide) (UN 0) (fun _ _ _ _=>(aU 0 Z5)) (fun _ _ _ _=>jj) (fun _ _ _ _=>(jR (aA 0) (DE.bo aB)))))))
theorem BO:aV ["count","rows"] ["count","rows"] (az qe):=⟨rfl,rfl,rfl,by decide +kernel,rfl,by decide +kernel,by decide +kernel⟩
def kB:SF:=(kI (bP 1 [1] (eG (aJ 0)) (aD true 0) (bU (ag (inD true) (aJ 0) (ax bH (ae (aJ 1) ao)))) (eV 0)))
def fF:dm→eP:=jB 2 [true,false] kB
theorem BP(F:kG K "unseated" "unseated" qe f fd)(T:Txt K mg a)(iV:fW P w K mg base 1 a.dZ ["rows"] (cK K [false] bH)):cG P w K mg base i9 2 f fd ["count","rows"] (cK K [true,false] fF) :=
  bL F BO rfl (fun eR A outer s H E z hr=>by
    have hu:=hr.units;exact(av (iL (dE rfl (tgs:=["name"]) (fi:=[1]) (dg.of rfl) (by decide) (kR rfl T.lF (aG 0)) (fun _ _ _ _=>(aU 0 Z6)) (fun _ _ _ _=>(jk (D3 (aG 0) (DE.bo (aI iV (hr.mono (by decide)) rfl T.dZ (cA (aG 1) au)))))) (fun _ _ _ _=>(aA 0))))))
theorem gp:aV ["count","heaps","rows","before","best","name","growth"] ["count","heaps","rows"] (az pd):=⟨rfl,rfl,rfl,by decide +kernel,rfl,by decide +kernel,by decide +kernel⟩
def cj:SF:=(bw (cq 6 (ag HV (ax gh (ae (eV 1) (ae (eL (yb (ax bH (ae (aJ 2) ao)) (eL (oV (ae (eV 5) ao))))) ao))) (aJ 3))) (pX (mh (bU (ag pL (aJ 4) (eC .non))) (bU (ag Nu (aJ 6) (ag iY (aJ 4) (eC (.int 1)))))) (cq 4 (fY (ae (eV 5) (ae (eV 6) ao)))) dJ))
def pA:SF:=(bw (cq 3 (ax gh (ae (eV 1) (ae (ax bH (ae (aJ 2) ao)) ao)))) (bw (cq 4 (eC .non)) (bw (kT (cI (ax fF (ae (eV 0) (ae (aJ 2) ao)))) (aD true 5) cj) (dW (eV 4)))))
def lH:dm→eP:=jB 7 [true,true,false] pA
theorem Ad(F:kG K "next_turn" "next_turn" pd f fd)(T:Txt K mg a)(iV:fW P w K mg base 1 a.dZ ["rows"] (cK K [false] bH))(qk:fW P w K mg base 2 a.iO ["count","rows"] (cK K [true,false] fF))(pQ:fW P w K mg base 2 a.jS ["heaps","names"] (cK K [true,true] gh)):cG P w K mg base i9 3 f fd ["count","heaps","rows"] (cK K [true,true,false] lH) :=
  bL F gp rfl (fun eR A outer s H E z hr=>by
    have hu:=hr.units;exact(ai (bz (i:=3) gp.nd (aI pQ (hr.mono (by decide)) rfl T.jS (aj (aA 1) (aj (aI iV (hr.mono (by decide)) rfl T.dZ (cA (aG 2) au)) au)))) (ai (bz (i:=4) gp.nd ka) (ai (fK rfl (cD (aI qk (hr.mono (by decide)) rfl T.iO (aj (aA 0) (cA (aG 2) au)))) (aU 5 gp.nd) (ai (bz (i:=6) gp.nd (D2 (DE.bo (aI pQ (hr.mono (by decide)) rfl T.jS (aj (aA 1) (aj (DO.sh (D1 (aI iV (hr.mono (by decide)) rfl T.dZ (cA (aG 2) au)) (DO.sh (nM (n:=1) (aj (aA 5) au))))) au)))) (aG 3))) (av (eE (DW.t (tO (D5 (aG 4) (DE.bo ka)) (oU (zh (aG 6) (lP (aG 4) (DE.bo aB)))))) (av (bz (i:=4) gp.nd (gy (n:=2) (aj (aA 5) (aj (aA 6) au))))) bV)))) (av (bQ (aA 4)))))))
theorem xc:aV ["one","two"] ["one","two"] (az mB):=⟨rfl,rfl,rfl,by decide +kernel,rfl,by decide +kernel,by decide +kernel⟩
def mJ:SF:=(bw (pX (mh (bU (ag pL (aJ 0) (eC .non))) (bU (ag pL (aJ 1) (eC .non)))) (dW (ag zi (aJ 0) (eC .non))) dJ) (dW (ax vw (ae (eV 0) (ae (eV 1) ao)))))
def gQ:dm→eP:=jB 2 [true,true] mJ
theorem xf(F:kG K "comes_ahead" "comes_ahead" mB f fd)(T:Txt K mg a)(Qd:fW P w K mg base 1 a.vh ["one","two"] (cK K [true,true] vw)):cG P w K mg base i9 2 f fd ["one","two"] (cK K [true,true] gQ) :=
  bL F xc rfl (fun eR A outer s H E z hr=>by
    have hu:=hr.units;exact(ai (eE (DW.t (tO (D5 (aG 0) (DE.bo ka)) (oU (D5 (aG 1) (DE.bo ka))))) (av (bQ (SR (aG 0) (DE.bo ka)))) bV) (av (bQ (aI Qd (hr.mono (by decide)) rfl T.vh (aj (aA 0) (aj (aA 1) au)))))))
theorem fG:aV ["names","rows","load","name","brought"] ["names","rows"] (az la):=⟨rfl,rfl,rfl,by decide +kernel,rfl,by decide +kernel,by decide +kernel⟩
def jK:SF:=(pX (bU (ag (inD false) (aJ 3) (aJ 0))) (cq 2 (eV 4)) dJ)
def lq:SF:=(bw (cq 2 (fY (ae (eC (.int 0)) (ae (eC (.int 1)) ao)))) (bw (kT (Ia 1) (lR 2 (bZ (aD false 3) (bZ (aD false 4) lQ))) jK) (dW (eV 2))))
def iW:dm→eP:=jB 5 [true,false] lq
theorem vx(F:kG K "load_of_heap" "load_of_heap" la f fd)(T:Txt K mg a):cG P w K mg base i9 1 f fd ["names","rows"] (cK K [true,false] iW) :=
  bL F fG rfl (fun eR A outer s H E z hr=>by
    have hu:=hr.units;exact(ai (bz (i:=2) fG.nd (gy (n:=2) (aj aB (aj aB au)))) (ai (fK rfl (UN 1) (nO rfl (cB (aU 3 fG.nd) (cB (aU 4 fG.nd) kc))) (av (eE (Kc (aG 3) (aG 0)) (av (bz (i:=2) fG.nd (aA 4))) bV))) (av (bQ (aA 2))))))
theorem df:aV ["heaps","rows","name","many_in_all","together","names","many","load"] ["heaps","rows","name"] (az kZ):=⟨rfl,rfl,rfl,by decide +kernel,rfl,by decide +kernel,by decide +kernel⟩
def dB:SF:=(pX (bU (ag (inD false) (aJ 2) (aJ 5))) (bw (cq 7 (ax iW (ae (eV 5) (ae (aJ 1) ao)))) (cq 4 (ax nA (ae (eV 4) (ae (fY (ae (ag rL (aJ 6) (ag iY (aJ 7) (eC (.int 0)))) (ae (ag iY (eV 7) (eC (.int 1))) ao))) ao))))) dJ)
def lr:SF:=(bw (cq 3 (ax cN (ae (eV 0) (ae (eV 2) ao)))) (bw (pX (bU (ag m5 (aJ 3) (eC (.int 0)))) (dW (eC .non)) dJ) (bw (cq 4 (fY (ae (eC (.int 1)) (ae (eC (.int 1)) ao)))) (bw (kT (cI (eV 0)) (lR 2 (bZ (aD true 5) (bZ (aD true 6) lQ))) dB) (dW (ax lj (ae (ag iY (eV 4) (eC (.int 0))) (ae (ag rL (aJ 3) (ag iY (aJ 4) (eC (.int 1)))) ao))))))))
def iX:dm→eP:=jB 8 [true,false,true] lr
theorem vy(F:kG K "load_of_name" "load_of_name" kZ f fd)(T:Txt K mg a)(MX:fW P w K mg base 3 a.sQ ["one","two"] (cK K [true,true] nA))(jL:fW P w K mg base 1 a.dz ["heaps","name"] (cK K [true,true] cN))(xg:fW P w K mg base 1 a.iQ ["names","rows"] (cK K [true,false] iW))(uv:fW P w K mg base 2 a.lb ["top","bottom"] (cK K [true,true] lj)):cG P w K mg base i9 4 f fd ["heaps","rows","name"] (cK K [true,false,true] iX) :=
  bL F df rfl (fun eR A outer s H E z hr=>by
    have hu:=hr.units;exact(ai (bz (i:=3) df.nd (aI jL (hr.mono (by decide)) rfl T.dz (aj (aA 0) (aj (aA 2) au)))) (ai (eE (tQ hu (aG 3) (DE.bo aB)) (av (bQ ka)) bV) (ai (bz (i:=4) df.nd (gy (n:=2) (aj aB (aj aB au)))) (ai (fK rfl (cD (aA 0)) (nO rfl (cB (aU 5 df.nd) (cB (aU 6 df.nd) kc))) (av (eE (Kc (aG 2) (aG 5)) (ai (bz (i:=7) df.nd (aI xg (hr.mono (by decide)) rfl T.iQ (aj (aA 5) (cA (aG 1) au)))) (av (bz (i:=4) df.nd (aI MX (hr.mono (by decide)) rfl T.sQ (aj (aA 4) (aj (gy (n:=2) (aj (p9 (aG 6) (lP (aG 7) (DE.bo aB))) (aj (jR (aA 7) (DE.bo aB)) au))) au)))))) bV))) (av (bQ (aI uv (hr.mono (by decide)) rfl T.lb (aj (jR (aA 4) (DE.bo aB)) (aj (p9 (aG 3) (lP (aG 4) (DE.bo aB))) au))))))))))
theorem iH:aV ["count","heaps","rows","best","name","load"] ["count","heaps","rows"] (az pe):=⟨rfl,rfl,rfl,by decide +kernel,rfl,by decide +kernel,by decide +kernel⟩
def mK:SF:=(bw (cq 5 (ax iX (ae (eV 1) (ae (aJ 2) (ae (eV 4) ao))))) (pX (mh (bU (ag pL (aJ 3) (eC .non))) (bU (ax gQ (ae (eV 5) (ae (ag iY (eV 3) (eC (.int 1))) ao))))) (cq 3 (fY (ae (eV 4) (ae (eV 5) ao)))) dJ))
def pB:SF:=(bw (cq 3 (eC .non)) (bw (kT (cI (ax fF (ae (eV 0) (ae (aJ 2) ao)))) (aD true 4) mK) (dW (eV 3))))
def lI:dm→eP:=jB 6 [true,true,false] pB
theorem Ae(F:kG K "next_load" "next_load" pe f fd)(T:Txt K mg a)(yn:fW P w K mg base 2 a.jq ["one","two"] (cK K [true,true] gQ))(xi:fW P w K mg base 4 a.iP ["heaps","rows","name"] (cK K [true,false,true] iX))(qk:fW P w K mg base 2 a.iO ["count","rows"] (cK K [true,false] fF)):cG P w K mg base i9 5 f fd ["count","heaps","rows"] (cK K [true,true,false] lI) :=
  bL F iH rfl (fun eR A outer s H E z hr=>by
    have hu:=hr.units;exact(ai (bz (i:=3) iH.nd ka) (ai (fK rfl (cD (aI qk (hr.mono (by decide)) rfl T.iO (aj (aA 0) (cA (aG 2) au)))) (aU 4 iH.nd) (ai (bz (i:=5) iH.nd (aI xi (hr.mono (by decide)) rfl T.iP (aj (aA 1) (cA (aG 2) (aj (aA 4) au))))) (av (eE (DW.t (tO (D5 (aG 3) (DE.bo ka)) (oU (md (aI yn (hr.mono (by decide)) rfl T.jq (aj (aA 5) (aj (jR (aA 3) (DE.bo aB)) au))))))) (av (bz (i:=3) iH.nd (gy (n:=2) (aj (aA 4) (aj (aA 5) au))))) bV)))) (av (bQ (aA 3))))))
theorem IW:aV ["_law_script","_law_k"] ["_law_script","_law_k"] (az wO):=⟨rfl,rfl,rfl,by decide +kernel,rfl,by decide +kernel,by decide +kernel⟩
def xj:SF:=(bw (pX (bU (ag HW (aJ 1) (jQ dU (ae (aJ 0) ao)))) (dW (ag iY (eV 0) (aJ 1))) dJ) (dW (eC (.int 0))))
def e8:dm→eP:=jB 2 [true,true] xj
theorem IX(F:kG K "_law_cell_at" "_law_cell_at" wO f fd)(T:Txt K mg a):cG P w K mg base i9 1 f fd ["_law_script","_law_k"] (cK K [true,true] e8) :=
  bL F IW rfl (fun eR A outer s H E z hr=>by
    have hu:=hr.units;exact(ai (eE (xE (aG 1) (DE.bo (bT bB fZ rfl T.jg fJ (cA (aG 0) au)))) (av (bQ (jR (aA 0) (aG 1)))) bV) (av (bQ aB))))
theorem Af:aV ["_law_cell","_law_place","_law_number"] ["_law_cell","_law_place"] (az Er):=⟨rfl,rfl,rfl,by decide +kernel,rfl,by decide +kernel,by decide +kernel⟩
def KJ:SF:=(bw (cq 2 (ag oB (ag ml (ag ml (ag uV (ag oB (aJ 0) (eC (.int 2147483629))) (eC (.int 16807))) (ag uV (eC (.int 69621)) (aJ 1))) (eC (.int 11))) (eC (.int 2147483629)))) (bw (cq 2 (ag oB (ag ml (ag ml (ag uV (aJ 2) (aJ 2)) (ag uV (eC (.int 48271)) (aJ 1))) (eC (.int 7))) (eC (.int 2147483629)))) (dW (ag oB (ag ml (ag uV (aJ 2) (aJ 2)) (eC (.int 69621))) (eC (.int 2147483587))))))
def lJ:dm→eP:=jB 3 [true,true] KJ
theorem Qe(F:kG K "_law_mixed" "_law_mixed" Er f fd)(T:Txt K mg a):cG P w K mg base i9 1 f fd ["_law_cell","_law_place"] (cK K [true,true] lJ) :=
  bL F Af rfl (fun eR A outer s H E z hr=>by
    have hu:=hr.units;exact(ai (bz (i:=2) Af.nd (i3 (DE.bo (gd (DE.bo (gd (DE.bo (rm (DE.bo (i3 (aG 0) (DE.bo aB))) (DE.bo aB))) (DE.bo (rm (DE.bo aB) (aG 1))))) (DE.bo aB))) (DE.bo aB))) (ai (bz (i:=2) Af.nd (i3 (DE.bo (gd (DE.bo (gd (DE.bo (rm (aG 2) (aG 2))) (DE.bo (rm (DE.bo aB) (aG 1))))) (DE.bo aB))) (DE.bo aB))) (av (bQ (i3 (DE.bo (gd (DE.bo (rm (aG 2) (aG 2))) (DE.bo aB))) (DE.bo aB)))))))
theorem Xd:aV ["_law_bits","_law_count"] ["_law_bits","_law_count"] (az Qc):=⟨rfl,rfl,rfl,by decide +kernel,rfl,by decide +kernel,by decide +kernel⟩
def Ku:SF:=(dW (mj (eL (bP 1 [0] (eG (aJ 1)) (aD true 0) (bU (ag m5 (ag J9 (ag SG (aJ 1) (aJ 0)) (eC (.int 1))) (eC (.int 1)))) (eV 0)))))
def CG:dm→eP:=jB 2 [true,true] Ku
theorem Xe(F:kG K "_law_set" "_law_set" Qc f fd)(T:Txt K mg a):cG P w K mg base i9 1 f fd ["_law_bits","_law_count"] (cK K [true,true] CG) :=
  bL F Xd rfl (fun eR A outer s H E z hr=>by
    have hu:=hr.units;exact(av (bQ (rj rfl rfl T.m9 (DO.sh (dE rfl (tgs:=["_law_name"]) (fi:=[0]) (dg.of rfl) (by decide) (kR rfl T.lF (aG 1)) (fun _ _ _ _=>(aU 0 Z7)) (fun _ _ _ _=>(jk (tQ hu (DE.bo (SM (DE.bo (WB (aG 1) (aG 0))) (DE.bo aB))) (DE.bo aB)))) (fun _ _ _ _=>(aA 0))))))))
theorem ji:aV ["_law_script","_law_at","_law_most","_law_count","_law_kind","_law_size","_law_found","_law_cell","_law_rows_here","_law_names","_law_many"] ["_law_script","_law_at","_law_most","_law_count"] (az Es):=⟨rfl,rfl,rfl,by decide +kernel,rfl,by decide +kernel,by decide +kernel⟩
def pS:SF:=(bw (cq 9 (ax CG (ae (ag oB (ax lJ (ae (eV 7) (ae (eC (.int 1)) ao))) (ag Ww (eC (.int 1)) (aJ 3))) (ae (eV 3) ao)))) (bw (pX (bU (ag m5 (ag oB (ag L9 (aJ 4) (eC (.int 4))) (eC (.int 3))) (eC (.int 1)))) (cq 9 (mj (eL (bP 1 [7] (cI (eV 9)) (aD true 0) (bU (ag m5 (ag L9 (aJ 0) (eC (.int 2))) (ag oB (ax lJ (ae (eV 1) (ae (eC (.int 3)) ao))) (eC (.int 3))))) (eV 0))))) dJ) (bw (cq 10 (ag ml (eC (.int 1)) (ag oB (ag L9 (aJ 7) (eC (.int 7))) (aJ 5)))) (bw (pX (bU (ag m5 (ag oB (aJ 7) (eC (.int 5))) (eC (.int 1)))) (cq 10 (eC (.int 6))) dJ) (rB 6 (aJ 9) (ag ml (wI 6 (aJ 9) (eC (.int 0))) (aJ 10)))))))
def KL:SF:=(bw (cq 4 (ax lJ (ae (ax e8 (ae (eV 0) (ae (eV 1) ao))) (ae (eC (.int 5)) ao)))) (bw (cq 5 (ag iY (eL (oV (ae (eC (.int 3)) (ae (eC (.int 10)) (ae (eC (.int 100)) (ae (ag Wv (eC (.int 10)) (eC (.int 30))) ao)))))) (ag oB (aJ 4) (eC (.int 4))))) (bw (zy 6) (bw (kT (cI (eL (kQ (eV 0) (oD (ag ml (aJ 1) (eC (.int 1)))) (oD (ag ml (ag ml (aJ 1) (eC (.int 1))) (aJ 2)))))) (aD true 7) pS) (bw (pX (bU (ag m5 (zz 6) (eC (.int 0)))) (rB 6 (fY (ae (eC (.int 0)) ao)) (eC (.int 1))) dJ) (bw (O5 6 (cq 8 (eL (Ea (eL (bP 1 [] (Eb 6) (aD true 0) eQ (fY (ae (jQ dU (ae (aJ 0) ao)) (ae (eV 0) ao))))))))) (kI (bP 2 [6] (cI (eV 8)) (lR 2 (bZ (aD true 0) (bZ (aD true 1) lQ))) eQ (fY (ae (eV 1) (ae (xG 2 (aJ 1)) ao)))))))))))
def yC:dm→eP:=jB 11 [true,true,true,true] KL
theorem Qf(F:kG K "_law_heaps" "_law_heaps" Es f fd)(T:Txt K mg a)(nC:fW P w K mg base 1 a.iR ["_law_script","_law_k"] (cK K [true,true] e8))(vz:fW P w K mg base 1 a.oH ["_law_cell","_law_place"] (cK K [true,true] lJ))(aag:fW P w K mg base 1 a.KD ["_law_bits","_law_count"] (cK K [true,true] CG)):cG P w K mg base i9 2 f fd ["_law_script","_law_at","_law_most","_law_count"] (cK K [true,true,true,true] yC) :=
  bL F ji rfl (fun eR A outer s H E z hr=>by
    have hu:=hr.units;exact(ai (bz (i:=4) ji.nd (aI vz (hr.mono (by decide)) rfl T.oH (aj (aI nC (hr.mono (by decide)) rfl T.iR (aj (aA 0) (aj (aA 1) au))) (aj aB au)))) (ai (bz (i:=5) ji.nd (jR (DO.sh (nM (n:=4) (aj aB (aj aB (aj aB (aj (Wy (DE.bo aB) (DE.bo aB)) au)))))) (DE.bo (i3 (aG 4) (DE.bo aB))))) (ai (Gv (i:=6) ji.nd) (ai (fK rfl (cD (DO.sh (pK (aA 0) (p7 (DE.bo (gd (aG 1) (DE.bo aB)))) (p7 (DE.bo (gd (DE.bo (gd (aG 1) (DE.bo aB))) (aG 2))))))) (aU 7 ji.nd) (ai (bz (i:=9) ji.nd (aI aag (hr.mono (by decide)) rfl T.KD (aj (i3 (DE.bo (aI vz (hr.mono (by decide)) rfl T.oH (aj (aA 7) (aj aB au)))) (DE.bo (Wz (DE.bo aB) (aG 3)))) (aj (aA 3) au)))) (ai (eE (tQ hu (DE.bo (i3 (DE.bo (HX (aG 4) (DE.bo aB))) (DE.bo aB))) (DE.bo aB)) (av (bz (i:=9) ji.nd (rj rfl rfl T.m9 (DO.sh (dE rfl (tgs:=["_law_name"]) (fi:=[7]) (dg.of rfl) (by decide) (cD (aA 9)) (fun _ _ _ _=>(aU 0 Z8)) (fun _ _ _ _=>(jk (tQ hu (DE.bo (HX (aG 0) (DE.bo aB))) (DE.bo (i3 (DE.bo (aI vz (hr.mono (by decide)) rfl T.oH (aj (aA 1) (aj aB au)))) (DE.bo aB)))))) (fun _ _ _ _=>(aA 0))))))) bV) (ai (bz (i:=10) ji.nd (gd (DE.bo aB) (DE.bo (i3 (DE.bo (HX (aG 7) (DE.bo aB))) (aG 5))))) (ai (eE (tQ hu (DE.bo (i3 (aG 7) (DE.bo aB))) (DE.bo aB)) (av (bz (i:=10) ji.nd aB)) bV) (av (zA (yO hr) 6 (aG 9) (gd (DE.bo (Gw (yO hr) 6 (aG 9) aB)) (aG 10))))))))) (ai (eE (tQ hu (DE.bo (O4 6 rfl T.jg)) (DE.bo aB)) (av (zA (yO hr) 6 (DE.bo (gy (n:=1) (aj aB au))) aB)) bV) (ai (S4 6 (bz (i:=8) ji.nd (DO.sh (O2 (Fx (Nat.add_le_add_left (by decide:5≤64) _) hr.units) rfl T.nV (DE.bo (DO.sh (dE rfl (tgs:=["_law_names"]) (fi:=[]) (dg.of rfl) (by decide) (O7 6) (fun _ _ _ _=>(aU 0 Z9)) (fun _ _ _ _=>jj) (fun _ _ _ _=>(gy (n:=2) (aj (bT bB fZ rfl T.jg fJ (cA (aG 0) au)) (aj (aA 0) au))))))))))) (av (iL (dE rfl (tgs:=["_law_size","_law_names"]) (fi:=[6]) (dg.of rfl) (by decide) (cD (aA 8)) (fun _ _ _ _=>(nO rfl (cB (aU 0 U5) (cB (aU 1 U5) kc)))) (fun _ _ _ _=>jj) (fun _ _ _ _=>(gy (n:=2) (aj (aA 1) (aj (Kl (yO hr) 2 (aG 1)) au))))))))))))))
theorem KN:aV ["_law_found","_law_due","_law_k"] ["_law_found","_law_due"] (az s_same):=⟨rfl,rfl,rfl,by decide +kernel,rfl,by decide +kernel,by decide +kernel⟩
def Ag(Fr:dm→eP):SF:=(pX (uT (bU (ax Fr (ae (ag iY (aJ 0) (aJ 2)) (ae (ag iY (aJ 1) (aJ 2)) ao))))) (dW (eC (.bl false))) dJ)
def g_same(Fr:dm→eP):SF:=(bw (pX (mh (bU (wD "tuple" (aJ 1))) (bU (wD "list" (aJ 1)))) (bw (pX (mh (bU (ag qK (wD "tuple" (aJ 0)) (wD "tuple" (aJ 1)))) (bU (ag qK (wD "list" (aJ 0)) (wD "list" (aJ 1))))) (dW (eC (.bl false))) dJ) (bw (pX (bU (ag qK (jQ dU (ae (aJ 0) ao)) (jQ dU (ae (aJ 1) ao)))) (dW (eC (.bl false))) dJ) (bw (kT (eG (jQ dU (ae (aJ 1) ao))) (aD true 2) (Ag Fr)) (dW (eC (.bl true)))))) dJ) (bw (pX (bU (wD "bool" (aJ 1))) (dW (Gd (wD "bool" (aJ 0)) (ag m5 (aJ 0) (aJ 1)))) dJ) (bw (pX (bU (wD "int" (aJ 1))) (dW (Gd (wD "int" (aJ 0)) (Gd (Sx (wD "bool" (aJ 0))) (ag m5 (aJ 0) (aJ 1))))) dJ) (bw (pX (bU (wD "str" (aJ 1))) (dW (Gd (wD "str" (aJ 0)) (ag m5 (aJ 0) (aJ 1)))) dJ) (dW (Gd (ag pL (aJ 1) (eC .non)) (ag pL (aJ 0) (eC .non))))))))
def gJ:Nat→dm→eP
  |0=>fun _=>none
  |n+1=>jB 3 [false,false] (g_same (gJ n))
theorem step_same{Fr:dm→eP}(F:kG K "_law_same" "_law_same" s_same f fd)(T:Txt K mg a)(Cr:fW P w K mg base k a.mC ["_law_found","_law_due"] (cK K [false,false] Fr)):cG P w K mg base i9 (k+1) f fd ["_law_found","_law_due"] (cK K [false,false] (jB 3 [false,false] (g_same Fr))) :=
  bL F KN rfl (fun eR A outer s H E z hr=>by
    have hu:=hr.units;exact(ai (eE (DW.t (tO (md (rq rfl T.cu T.m9 (aG 1))) (oU (md (uc rfl T.cu T.wQ (aG 1)))))) (ai (eE (DW.t (tO (Ck hu (DE.bo (rq rfl T.cu T.m9 (aG 0))) (DE.bo (rq rfl T.cu T.m9 (aG 1)))) (oU (Ck hu (DE.bo (uc rfl T.cu T.wQ (aG 0))) (DE.bo (uc rfl T.cu T.wQ (aG 1))))))) (av (bQ uR)) bV) (ai (eE (Ck hu (DE.bo (bT bB fZ rfl T.jg fJ (cA (aG 0) au))) (DE.bo (bT bB fZ rfl T.jg fJ (cA (aG 1) au)))) (av (bQ uR)) bV) (ai (fK rfl (kR rfl T.lF (DE.bo (bT bB fZ rfl T.jg fJ (cA (aG 1) au)))) (aU 2 KN.nd) (av (eE (DY (md (aI Cr hr rfl T.mC (cA (lP (aG 0) (aG 2)) (cA (lP (aG 1) (aG 2)) au))))) (av (bQ uR)) bV))) (av (bQ uR))))) bV) (ai (eE (md (ud rfl T.cu T.IJ (aG 1))) (av (bQ (za (ud rfl T.cu T.IJ (aG 0)) (DZ (OV hu (aG 0) (aG 1)))))) bV) (ai (eE (md (Cm rfl T.cu T.U2 (aG 1))) (av (bQ (za (Cm rfl T.cu T.U2 (aG 0)) (za (Wt (ud rfl T.cu T.IJ (aG 0))) (DZ (OV hu (aG 0) (aG 1))))))) bV) (ai (eE (md (Cp rfl T.cu T.U3 (aG 1))) (av (bQ (za (Cp rfl T.cu T.U3 (aG 0)) (DZ (OV hu (aG 0) (aG 1)))))) bV) (av (bQ (za (OG (aG 1) (DE.bo ka)) (DZ (OG (aG 0) (DE.bo ka)))))))))))
theorem G3(F:kG K "_law_same" "_law_same" s_same a.mC fd)(T:Txt K mg a)(b:Binds K fd ["_law_found","_law_due"] [])(kp:keepIn K (.ref a.mC)=true):∀n,fW P w K mg base (1+n) a.mC ["_law_found","_law_due"] (cK K [false,false] (gJ n))
  |0=>⟨fd,acu,b,kp⟩
  |n+1=>⟨fd,step_same F T  (G3 F T b kp  n),b,kp⟩
theorem ql:aV ["_law_heaps_here","_law_cell","_law_rows_here","_law_k","_law_cut","_law_part","_law_names","_law_many"] ["_law_heaps_here","_law_cell"] (az IG):=⟨rfl,rfl,rfl,by decide +kernel,rfl,by decide +kernel,by decide +kernel⟩
def vA:SF:=(bw (Ts (ag iY (eV 0) (aJ 3)) (lR 2 (bZ (aD true 6) (bZ (aD true 7) lQ)))) (bw (cq 5 (ag oB (ax lJ (ae (eV 1) (ae (eV 3) ao))) (ag ml (aJ 7) (eC (.int 1))))) (bw (dF 2 (fY (ae (eL (Gf (eV 6))) (ae (eV 5) ao)))) (bw (dF 2 (fY (ae (eL (Kw (eV 6))) (ae (ag HV (aJ 7) (aJ 5)) ao)))) (dF 2 (fY (ae (eL (kQ (eL (Gf (eV 6))) tP (oD (eC (.int 1))))) (ae (eC (.int 0)) ao))))))))
def IY:SF:=(bw (qC 2 (oV ao)) (bw (kT (eG (jQ dU (ae (aJ 0) ao))) (aD true 3) vA) (bw (cq 4 (ag oB (aJ 1) (ag ml (jQ dU (ae (aJ 2) ao)) (eC (.int 1))))) (wC 2 (kI (yb (eL (kQ (eV 2) (oD (aJ 4)) tP)) (eL (kQ (eV 2) tP (oD (aJ 4))))))))))
def xk:dm→eP:=jB 8 [true,true] IY
theorem TK(F:kG K "_law_rows" "_law_rows" IG f fd)(T:Txt K mg a)(vz:fW P w K mg base 1 a.oH ["_law_cell","_law_place"] (cK K [true,true] lJ)):cG P w K mg base i9 2 f fd ["_law_heaps_here","_law_cell"] (cK K [true,true] xk) :=
  bL F ql rfl (fun eR A outer s H E z hr=>by
    have hu:=hr.units;exact(ai (uW (i:=2) ql.nd (nM (n:=0) au)) (ai (fK rfl (kR rfl T.lF (DE.bo (bT bB fZ rfl T.jg fJ (cA (aG 0) au)))) (aU 3 ql.nd) (ai (Xa (jR (aA 0) (aG 3)) (nO rfl (cB (aU 6 ql.nd) (cB (aU 7 ql.nd) kc)))) (ai (bz (i:=5) ql.nd (i3 (DE.bo (aI vz (hr.mono (by decide)) rfl T.oH (aj (aA 1) (aj (aA 3) au)))) (DE.bo (gd (aG 7) (DE.bo aB))))) (ai (gW 2 (gy (n:=2) (aj (DO.sh (J8 rfl rfl T.wQ (aA 6))) (aj (aA 5) au)))) (ai (gW 2 (gy (n:=2) (aj (DO.sh (Tv rfl rfl T.wQ rfl T.IK (aA 6))) (aj (D2 (aG 7) (aG 5)) au)))) (av (gW 2 (gy (n:=2) (aj (DO.sh (pK (DO.sh (J8 rfl rfl T.wQ (aA 6))) uU (p7 (DE.bo aB)))) (aj aB au)))))))))) (ai (bz (i:=4) ql.nd (i3 (aG 1) (DE.bo (gd (DE.bo (bT bB fZ rfl T.jg fJ (cA (aG 2) au))) (DE.bo aB))))) (av (OO 2 (iL (D1 (DO.sh (pK (aA 2) (p7 (aG 4)) uU)) (DO.sh (pK (aA 2) uU (p7 (aG 4))))))))))))
theorem pT:aV ["self","count","heaps","rows"] ["self","count","heaps"] (az eZ):=⟨rfl,rfl,rfl,by decide +kernel,rfl,by decide +kernel,by decide +kernel⟩
def h9:SF:=(dF 3 (ax lI (ae (eV 1) (ae (eV 2) (ae (aJ 3) ao)))))
def dQ:TF:=(bU (ag HW (jQ dU (ae (aJ 3) ao)) (aJ 1)))
def mL:SF:=(bw (qC 3 (oV ao)) (bw (ro 100 dQ h9) (Ci 3)))
def bJ:dm→eP:=jB 4 [true,true,true] mL
theorem xm(F:kG K "order" "Loads.order" eZ f fd)(T:Txt K mg a)(BQ:fW P w K mg base 5 a.lD ["count","heaps","rows"] (cK K [true,true,false] lI)):cG P w K mg base i9 6 f fd ["self","count","heaps"] (cK K [true,true,true] bJ) :=
  bL F pT rfl (fun eR A outer s H E z hr=>by
    have hu:=hr.units;exact(ai (uW (i:=3) pT.nd (nM (n:=0) au)) (ai (uX 100 (xE (DE.bo (bT bB fZ rfl T.jg fJ (cA (aG 3) au))) (aG 1)) (av (gW 3 (aI BQ (hr.mono (by decide)) rfl T.lD (aj (aA 1) (aj (aA 2) (cA (aG 3) au))))))) (av (yy 3)))))
theorem qE:aV ["self","count","heaps","rows"] ["self","count","heaps"] (az bM):=⟨rfl,rfl,rfl,by decide +kernel,rfl,by decide +kernel,by decide +kernel⟩
def nZ:SF:=(bw (cq 3 (eL (bP 1 [2] (eG (aJ 1)) (aD true 0) eQ (fY (ae (eV 0) (ae (ax cN (ae (eV 1) (ae (eV 0) ao))) ao)))))) (kI (rM (eV 3) (fY (ae (SQ (ag iY (aJ 0) (eC (.int 1)))) (ae (ag iY (eV 0) (eC (.int 0))) ao))))))
def bR:dm→eP:=jB 4 [true,true,true] nZ
theorem yo{kV doc:Value}(lk:K.lookup f=some ⟨oc,od,.func (fnOf "order" "Most.order" (fc bM) (dD bM) (az bM) .none kV doc pm an (.ref a.Ry) ct),Np⟩)(oA:codeIn K (.ref a.Ry) "Most.order"=true)(T:Txt K mg a)(hB:base.BuiltinsAt mg a.TJ)(jL:fW P w K mg base 1 a.dz ["heaps","name"] (cK K [true,true] cN)):cG P w K mg base i9 6 f (fnOf "order" "Most.order" (fc bM) (dD bM) (az bM) .none kV doc pm an (.ref a.Ry) ct) ["self","count","heaps"] (cK K [true,true,true] bR) :=
  TH lk oA qE rfl (fun A outer s H E z hr=>by
    have hu:=hr.units;exact(ai (Gr (i:=3) rfl qE.nd (tgs:=["name"]) (fi:=[2]) (dg.of rfl) (by decide) (kR rfl T.lF (aG 1)) (fun _ _ _ _=>(aU 0 aaf)) (fun _ _ _ _=>jj) (fun _ _ _ _=>(gy (n:=2) (aj (aA 0) (aj (aI jL (hr.mono (by decide)) rfl T.dz (aj (aA 1) (aj (aA 0) au))) au))))) (av (iL (IE (k:=1) (Fx (Nat.add_le_add_left (by decide:5≤64) _) hr.units) (ZS.mk ⟨["row"],["row"],⟨rfl,rfl,rfl,by decide +kernel,rfl,by decide +kernel,by decide +kernel⟩,rfl,rfl,(fun pm cd ct us hl=>match us,hl with|[_],_=>rfl),fun fl cl A outer s H z hr=>(by
      have hu:=hr.units;exact(gy (n:=2) (aj (WC (lP (aG 0) (DE.bo aB))) (aj (jR (aA 0) (DE.bo aB)) au))))⟩) (hr.mono (by decide)) rfl T.nV (aA 3) rfl T.ac7 T.ac8 hB rfl rfl)))))
theorem pU:aV ["self","count","heaps","rows"] ["self","count","heaps"] (az eY):=⟨rfl,rfl,rfl,by decide +kernel,rfl,by decide +kernel,by decide +kernel⟩
def ic:SF:=(dF 3 (ax lH (ae (eV 1) (ae (eV 2) (ae (aJ 3) ao)))))
def dR:TF:=(bU (ag HW (jQ dU (ae (aJ 3) ao)) (aJ 1)))
def mM:SF:=(bw (qC 3 (oV ao)) (bw (ro 100 dR ic) (Ci 3)))
def bK:dm→eP:=jB 4 [true,true,true] mM
theorem xn(F:kG K "order" "Turns.order" eY f fd)(T:Txt K mg a)(BR:fW P w K mg base 3 a.lC ["count","heaps","rows"] (cK K [true,true,false] lH)):cG P w K mg base i9 4 f fd ["self","count","heaps"] (cK K [true,true,true] bK) :=
  bL F pU rfl (fun eR A outer s H E z hr=>by
    have hu:=hr.units;exact(ai (uW (i:=3) pU.nd (nM (n:=0) au)) (ai (uX 100 (xE (DE.bo (bT bB fZ rfl T.jg fJ (cA (aG 3) au))) (aG 1)) (av (gW 3 (aI BR (hr.mono (by decide)) rfl T.lC (aj (aA 1) (aj (aA 2) (cA (aG 3) au))))))) (av (yy 3)))))
theorem yp:aV ["self","count","heaps","places"] ["self","count","heaps","places"] (az nT):=⟨rfl,rfl,rfl,by decide +kernel,rfl,by decide +kernel,by decide +kernel⟩
def n4(a:ye):SF:=(bw (pX (mh (bU (ag HW (aJ 3) (eC (.int 1)))) (bU (ag Nu (aJ 3) (aJ 1)))) Mm dJ) (kI (J6 bH (ae (eL (kQ (lT [(a.bj,bR),(a.aR,bK),(a.aS,bJ)] (eV 0) (ae (eV 1) (ae (eV 2) ao))) tP (oD (aJ 3)))) ao))))
def gq(a:ye):dm→eP:=jB 4 [true,true,true,true] (n4 a)
theorem yq(F:kG K "seated" "Way.seated" nT f fd)(T:Txt K mg a)(mN:fW P w K mg base 6 a.mE ["self","count","heaps"] (cK K [true,true,true] bJ))(n5:fW P w K mg base 6 a.nU ["self","count","heaps"] (cK K [true,true,true] bR))(mO:fW P w K mg base 4 a.mD ["self","count","heaps"] (cK K [true,true,true] bK))(iV:fW P w K mg base 1 a.dZ ["rows"] (cK K [false] bH)):cG P w K mg base i9 7 f fd ["self","count","heaps","places"] (cK K [true,true,true,true] (gq a)) :=
  bL F yp rfl (fun eR A outer s H E z hr=>by
    have hu:=hr.units;exact(ai (eE (DW.t (tO (xE (aG 3) (DE.bo aB)) (oU (zh (aG 3) (aG 1))))) (av zF) bV) (av (iL (Sy iV (hr.mono (by decide)) rfl T.dZ (cA (DE.bo (DO.sh (pK (vf (eF ⟨_,_,_,T.vm,T.tV,n5,hr.mono (by decide)⟩ (eF ⟨_,_,_,T.rP,T.rS,mO,hr.mono (by decide)⟩ (eF ⟨_,_,_,T.rT,T.rX,mN,hr.mono (by decide)⟩ ve))) (aA 0) (aj (aA 1) (aj (aA 2) au))) uU (p7 (aG 3))))) au))))))
theorem Ah:aV ["self","count","heaps","places"] ["self","count","heaps","places"] (az pf):=⟨rfl,rfl,rfl,by decide +kernel,rfl,by decide +kernel,by decide +kernel⟩
def pC(a:ye):SF:=(dW (mj (eL (rA (lT [(a.bj,(gq a)),(a.aR,(gq a)),(a.aS,(gq a))] (eV 0) (ae (eV 1) (ae (eV 2) (ae (eV 3) ao))))))))
def bE(a:ye):dm→eP:=jB 4 [true,true,true,true] (pC a)
theorem Ai(F:kG K "bench" "Way.bench" pf f fd)(T:Txt K mg a)(n8:fW P w K mg base 7 a.km ["self","count","heaps","places"] (cK K [true,true,true,true] (gq a))):cG P w K mg base i9 8 f fd ["self","count","heaps","places"] (cK K [true,true,true,true] (bE a)) :=
  bL F Ah rfl (fun eR A outer s H E z hr=>by
    have hu:=hr.units;exact(av (bQ (rj rfl rfl T.m9 (DO.sh (Gq (Fx (Nat.add_le_add_left (by decide:5≤64) _) hr.units) rfl T.nV (DE.bo (vf (eF ⟨_,_,_,T.vm,T.z6,n8,hr.mono (by decide)⟩ (eF ⟨_,_,_,T.rP,T.yf,n8,hr.mono (by decide)⟩ (eF ⟨_,_,_,T.rT,T.yg,n8,hr.mono (by decide)⟩ ve))) (aA 0) (aj (aA 1) (aj (aA 2) (aj (aA 3) au)))))))))))
theorem vC:aV ["_law_count","_law_heaps_here","_law_places","_law_ways","_law_found","_law_bench","_law_some"] ["_law_count","_law_heaps_here","_law_places"] (az II):=⟨rfl,rfl,rfl,by decide +kernel,rfl,by decide +kernel,by decide +kernel⟩
def vD(a:ye):SF:=(dF 4 (eL (bP 1 [0,1,6] (cI (eV 3)) (aD true 0) eQ (lT [(a.bj,(bE a)),(a.aR,(bE a)),(a.aS,(bE a))] (eV 0) (ae (eV 1) (ae (eV 2) (ae (eV 3) ao)))))))
def IZ(a:ye):SF:=(bw (cq 3 (eL (oV (ae (Tw a.bj) (ae (Tw a.aR) (ae (Tw a.aS) ao)))))) (bw (qC 4 (bP 1 [0,1] (cI (eV 3)) (aD true 0) eQ (lT [(a.bj,bR),(a.aR,bK),(a.aS,bJ)] (eV 0) (ae (eV 1) (ae (eV 2) ao))))) (bw (cq 5 (lT [(a.bj,(bE a)),(a.aR,(bE a)),(a.aS,(bE a))] (ag iY (eV 3) (ag oB (aJ 2) (eC (.int 3)))) (ae (eV 0) (ae (eV 1) (ae (eV 2) ao))))) (bw (dF 4 (ax qh (ae (eV 0) (ae (eV 1) (ae (eV 5) ao))))) (bw (dF 4 (eL (oV (ae (ax kz (ae (eV 0) (ae (eV 1) (ae (eV 5) ao)))) (ae (ax dr (ae (eV 0) (ae (eV 1) (ae (eV 5) ao)))) ao))))) (bw (kT (oE (eC (.int 1)) (ag ml (aJ 0) (eC (.int 1)))) (aD true 6) (vD a)) (Ci 4)))))))
def Aj(a:ye):dm→eP:=jB 7 [true,true,true] (IZ a)
theorem TL(F:kG K "_law_told" "_law_told" II f fd)(T:Txt K mg a)(mN:fW P w K mg base 6 a.mE ["self","count","heaps"] (cK K [true,true,true] bJ))(n5:fW P w K mg base 6 a.nU ["self","count","heaps"] (cK K [true,true,true] bR))(mO:fW P w K mg base 4 a.mD ["self","count","heaps"] (cK K [true,true,true] bK))(gZ:fW P w K mg base 8 a.lE ["self","count","heaps","places"] (cK K [true,true,true,true] (bE a)))(EB:fW P w K mg base 6 a.m8 ["count","heaps","bench"] (cK K [true,true,true] kz))(qN:fW P w K mg base 6 a.eJ ["count","heaps","bench"] (cK K [true,true,true] dr))(Ja:fW P w K mg base 5 a.qf ["count","heaps","bench"] (cK K [true,true,true] qh)):cG P w K mg base i9 9 f fd ["_law_count","_law_heaps_here","_law_places"] (GU K [true,true,true] (Aj a)) :=
  Kz F vC rfl (fun eR A outer s H E z hz hr=>by
    have hu:=hr.units;exact(ai (bz (i:=3) vC.nd (DO.sh (nM (n:=3) (aj (zX hz T.vn rfl T.bj) (aj (zX hz T.rQ rfl T.aR) (aj (zX hz T.rV rfl T.aS) au)))))) (ai (S0 (i:=4) rfl vC.nd (tgs:=["_law_way"]) (fi:=[0,1]) (dg.of rfl) (by decide) (cD (aA 3)) (fun _ _ _ _=>(aU 0 aac)) (fun _ _ _ _=>jj) (fun _ _ _ _=>(vf (eF ⟨_,_,_,T.vm,T.tV,n5,hr.mono (by decide)⟩ (eF ⟨_,_,_,T.rP,T.rS,mO,hr.mono (by decide)⟩ (eF ⟨_,_,_,T.rT,T.rX,mN,hr.mono (by decide)⟩ ve))) (aA 0) (aj (aA 1) (aj (aA 2) au))))) (ai (bz (i:=5) vC.nd (vf (eF ⟨_,_,_,T.vm,T.tU,gZ,hr.mono (by decide)⟩ (eF ⟨_,_,_,T.rP,T.rR,gZ,hr.mono (by decide)⟩ (eF ⟨_,_,_,T.rT,T.rW,gZ,hr.mono (by decide)⟩ ve))) (jR (aA 3) (DE.bo (i3 (aG 2) (DE.bo aB)))) (aj (aA 0) (aj (aA 1) (aj (aA 2) au))))) (ai (gW 4 (aI Ja (hr.mono (by decide)) rfl T.qf (aj (aA 0) (aj (aA 1) (aj (aA 5) au))))) (ai (gW 4 (DO.sh (nM (n:=2) (aj (aI EB (hr.mono (by decide)) rfl T.m8 (aj (aA 0) (aj (aA 1) (aj (aA 5) au)))) (aj (aI qN (hr.mono (by decide)) rfl T.eJ (aj (aA 0) (aj (aA 1) (aj (aA 5) au)))) au))))) (ai (fK rfl (Cg rfl T.lF (DE.bo aB) (DE.bo (gd (aG 0) (DE.bo aB)))) (aU 6 vC.nd) (av (gW 4 (DO.sh (dE rfl (tgs:=["_law_way"]) (fi:=[0,1,6]) (dg.of rfl) (by decide) (cD (aA 3)) (fun _ _ _ _=>(aU 0 aad)) (fun _ _ _ _=>jj) (fun _ _ _ _=>(vf (eF ⟨_,_,_,T.vm,T.tU,gZ,hr.mono (by decide)⟩ (eF ⟨_,_,_,T.rP,T.rR,gZ,hr.mono (by decide)⟩ (eF ⟨_,_,_,T.rT,T.rW,gZ,hr.mono (by decide)⟩ ve))) (aA 0) (aj (aA 1) (aj (aA 2) (aj (aA 3) au)))))))))) (av (yy 4)))))))))
theorem iJ:aV ["_law_script","_law_count","_law_heaps_here","_law_one","_law_two","_law_drawn","_law_told_here","_law_places","_law_k","_law_here","_law_there"] ["_law_script"] (az m7):=⟨rfl,rfl,rfl,by decide +kernel,rfl,by decide +kernel,by decide +kernel⟩
def sR(a:ye):SF:=(bw (cq 9 (ag iY (ag iY (eV 6) (ag ml (eC (.int 4)) (aJ 7))) (aJ 8))) (bw (cq 10 (ag iY (ag iY (eV 6) (ag ml (eC (.int 5)) (aJ 7))) (aJ 8))) (pX (mh (bU (ag Nu (jQ dU (ae (eL (bP 1 [10] (cI (eV 9)) (aD true 0) (bU (ag (inD true) (aJ 0) (aJ 1))) (eV 0))) ao)) (eC (.int 0)))) (bU (ag qK (jQ dU (ae (aJ 10) ao)) (ag ml (aJ 7) (eC (.int 1)))))) (dW (eC (.bl false))) dJ)))
def sS(a:ye):SF:=(kT (eG (eC (.int 3))) (aD true 8) (sR a))
def EC(a:ye):SF:=(bw (cq 1 (ag ml (eC (.int 1)) (ag oB (ax e8 (ae (eV 0) (ae (eC (.int 0)) ao))) (eC (.int 6))))) (bw (cq 2 (ax yC (ae (eV 0) (ae (eC (.int 4)) (ae (eC (.int 12)) (ae (eV 1) ao)))))) (bw (cq 3 (ax iU (ae (eV 1) (ae (ax xk (ae (eV 2) (ae (ax e8 (ae (eV 0) (ae (eC (.int 1)) ao))) ao))) ao)))) (bw (cq 4 (ax iU (ae (eV 1) (ae (ax xk (ae (eV 2) (ae (ax e8 (ae (eV 0) (ae (eC (.int 2)) ao))) ao))) ao)))) (bw (pX (mh (uT (bU (ax (gJ 6) (ae (aJ 3) (ae (aJ 2) ao))))) (uT (bU (ax (gJ 6) (ae (aJ 4) (ae (aJ 2) ao)))))) (dW (eC (.bl false))) dJ) (bw (pX (uT (bU (ax (gJ 6) (ae (ax iD (ae (eV 3) ao)) (ae (jQ ya (ae (eL (bP 2 [] (cI (eV 2)) (lR 2 (bZ (aD true 0) (bZ (aD true 1) lQ))) eQ (eV 1))) ao)) ao))))) (dW (eC (.bl false))) dJ) (bw (cq 5 (ag ml (eC (.int 1)) (ag oB (ax e8 (ae (eV 0) (ae (eC (.int 3)) ao))) (aJ 1)))) (bw (cq 6 (ax (Aj a) (ae (eV 1) (ae (eV 3) (ae (eV 5) ao))))) (bw (pX (bU (ag qK (ax (Aj a) (ae (eV 1) (ae (eV 4) (ae (eV 5) ao)))) (aJ 6))) (dW (eC (.bl false))) dJ) (bw (kT (oE (eC (.int 1)) (aJ 1)) (aD true 7) (sS a)) (dW (eC (.bl true)))))))))))))
def ED(a:ye):dm→eP:=jB 11 [true] (EC a)
theorem Qg(F:kG K "law" "law" m7 f fd)(T:Txt K mg a)(nC:fW P w K mg base 1 a.iR ["_law_script","_law_k"] (cK K [true,true] e8))(TN:fW P w K mg base 2 a.yB ["_law_script","_law_at","_law_most","_law_count"] (cK K [true,true,true,true] yC))(Qh:fW P w K mg base 2 a.z4 ["_law_heaps_here","_law_cell"] (cK K [true,true] xk))(Jb:fW P w K mg base 7 a.mC ["_law_found","_law_due"] (cK K [false,false] (gJ 6)))(Qi:fW P w K mg base 9 a.z5 ["_law_count","_law_heaps_here","_law_places"] (GU K [true,true,true] (Aj a)))(oK:fW P w K mg base 1 a.iB ["heaps"] (cK K [true] iD))(vF:fW P w K mg base 4 a.kj ["count","rows"] (cK K [true,true] iU)):cG P w K mg base i9 10 f fd ["_law_script"] (GU K [true] (ED a)) :=
  Kz F iJ rfl (fun eR A outer s H E z hz hr=>by
    have hu:=hr.units;exact(ai (bz (i:=1) iJ.nd (gd (DE.bo aB) (DE.bo (i3 (DE.bo (aI nC (hr.mono (by decide)) rfl T.iR (aj (aA 0) (aj aB au)))) (DE.bo aB))))) (ai (bz (i:=2) iJ.nd (aI TN (hr.mono (by decide)) rfl T.yB (aj (aA 0) (aj aB (aj aB (aj (aA 1) au)))))) (ai (bz (i:=3) iJ.nd (aI vF (hr.mono (by decide)) rfl T.kj (aj (aA 1) (aj (aI Qh (hr.mono (by decide)) rfl T.z4 (aj (aA 2) (aj (aI nC (hr.mono (by decide)) rfl T.iR (aj (aA 0) (aj aB au))) au))) au)))) (ai (bz (i:=4) iJ.nd (aI vF (hr.mono (by decide)) rfl T.kj (aj (aA 1) (aj (aI Qh (hr.mono (by decide)) rfl T.z4 (aj (aA 2) (aj (aI nC (hr.mono (by decide)) rfl T.iR (aj (aA 0) (aj aB au))) au))) au)))) (ai (eE (DW.t (tO (DY (md (aI Jb (hr.mono (by decide)) rfl T.mC (cA (aG 3) (cA (aG 2) au))))) (oU (DY (md (aI Jb (hr.mono (by decide)) rfl T.mC (cA (aG 4) (cA (aG 2) au)))))))) (av (bQ uR)) bV) (ai (eE (DY (md (aI Jb (hr.mono (by decide)) rfl T.mC (cA (DE.bo (aI oK (hr.mono (by decide)) rfl T.iB (aj (aA 3) au))) (cA (DE.bo (bT (qY rfl) zf rfl T.GX yS (cA (DE.bo (DO.sh (dE rfl (tgs:=["_law_names","_law_many"]) (fi:=[]) (dg.of rfl) (by decide) (cD (aA 2)) (fun _ _ _ _=>(nO rfl (cB (aU 0 U6) (cB (aU 1 U6) kc)))) (fun _ _ _ _=>jj) (fun _ _ _ _=>(aA 1))))) au))) au))))) (av (bQ uR)) bV) (ai (bz (i:=5) iJ.nd (gd (DE.bo aB) (DE.bo (i3 (DE.bo (aI nC (hr.mono (by decide)) rfl T.iR (aj (aA 0) (aj aB au)))) (aG 1))))) (ai (bz (i:=6) iJ.nd (GV hz Qi (hr.mono (by decide)) rfl T.z5 (aj (aA 1) (aj (aA 3) (aj (aA 5) au))))) (ai (eE (Ck hu (DE.bo (GV hz Qi (hr.mono (by decide)) rfl T.z5 (aj (aA 1) (aj (aA 4) (aj (aA 5) au))))) (aG 6)) (av (bQ uR)) bV) (ai (fK rfl (Cg rfl T.lF (DE.bo aB) (aG 1)) (aU 7 iJ.nd) (av (fK rfl (kR rfl T.lF (DE.bo aB)) (aU 8 iJ.nd) (ai (bz (i:=9) iJ.nd (jR (jR (aA 6) (DE.bo (gd (DE.bo aB) (aG 7)))) (aG 8))) (ai (bz (i:=10) iJ.nd (jR (jR (aA 6) (DE.bo (gd (DE.bo aB) (aG 7)))) (aG 8))) (av (eE (DW.t (tO (zh (DE.bo (bT bB fZ rfl T.jg fJ (cA (DE.bo (DO.sh (dE rfl (tgs:=["_law_name"]) (fi:=[10]) (dg.of rfl) (by decide) (cD (aA 9)) (fun _ _ _ _=>(aU 0 aae)) (fun _ _ _ _=>(jk (D3 (aG 0) (aG 1)))) (fun _ _ _ _=>(aA 0))))) au))) (DE.bo aB)) (oU (Ck hu (DE.bo (bT bB fZ rfl T.jg fJ (cA (aG 10) au))) (DE.bo (gd (aG 7) (DE.bo aB))))))) (av (bQ uR)) bV))))))) (av (bQ uR)))))))))))))
end
theorem Qj(ns:aO)(k:Nat):e8 [.lst (ns.map D.int),.int (k:Int)]=some (.sh (.int (ns.getD k 0))):=by
  by_cases h:k<ns.length
  · have h1:(k:Int)<((ns.map D.int).length:Nat):=by simp;omega
    have h2:qA (ns.map D.int) (k:Int)=some (.int ns[k]):=uH (by simp[h])
    simp[e8,jB,eS,xj,bw,pX,bU,ag,aJ,eV,jQ,ae,ao,dU,dW,eC,HW,iI,iY,dJ,h,h2]
  ·simp[e8,jB,eS,xj,bw,pX,bU,ag,aJ,eV,jQ,ae,ao,dU,dW,eC,HW,iI,iY,dJ,h]
def pV(c p:Int):Int :=
  ((((c%2147483629*16807+69621*p+11)%2147483629*((c%2147483629*16807+69621*p+11)%2147483629)+48271*p+7)%2147483629)*(((c%2147483629*16807+69621*p+11)%2147483629*((c%2147483629*16807+69621*p+11)%2147483629)+48271*p+7)%2147483629)+69621)%2147483587
theorem yD(c p:Int):lJ [.int c,.int p]=some (.sh (.int (pV c p))):=by have a1:mulC (c%2147483629) 16807=true:=Ih (by decide) (by decide);have a2:mulC 69621 p=true:=Ii (by decide) (by decide);have a3:mulC 48271 p=true:=Ii (by decide) (by decide);have a4:∀x:Int,mulC (x%2147483629) (x%2147483629)=true:=fun x=>Ih (by have:=Ba x (show(2147483629:Int)≠0 by decide);omega) (by have:=Fy x (show(0:Int)<2147483629 by decide);omega);have m1:∀x:Int,qJ x 2147483629=true:=fun x=>rfl;have m2:∀x:Int,qJ x 2147483587=true:=fun x=>rfl;simp[lJ,jB,eS,KJ,bw,cq,dW,ag,aJ,eC,oB,ml,uV,iI,a1,a2,a3,a4,m1,m2,pV]
def EE(b:Int)(c:Int):aO:=((List.range c.toNat).map fun(i:Nat)=>(0:Int)+(i:Int)).filter fun z=>Builtin.bitAnd (b / 2^z.toNat) 1==1
theorem KP(b:Int)(h0:0≤c):cO c (EE b c):=by
  have q:=F8 c.toNat (fun z=>Builtin.bitAnd (b / 2^z.toNat) 1==1)
  have e:((c.toNat:Nat):Int)=c:=by omega
  rw[e] at q;exact q
theorem aah(b:Int)(h0:0≤c)(h6:c≤6):CG [.int b,.int c]=some (.sh (.tup ((EE b c).map D.int))):=by
  have hr:(if c≤10000∧-10000≤c then some (dk 0 c.toNat) else none)=some (dk 0 c.toNat):=ay ⟨by omega,by omega⟩;have hc:cE (aD true 0) (bU (ag m5 (ag J9 (ag SG (aJ 1) (aJ 0)) (eC (.int 1))) (eC (.int 1)))) (eV 0) (dk 0 c.toNat) [none,some (.sh (.int b))]=some ((EE b c).map D.int):=by
    rw[jC];refine dw D.int (fun z=>Builtin.bitAnd (b / 2^z.toNat) 1==1) D.int fun z hz=>?_;obtain⟨i,_,rfl⟩:=ja.mp hz;have hs:Wx b (0+(i:Int))=true:=by unfold Wx;exact nF (by omega)
    refine⟨[some (.sh (.int (0+(i:Int)))),some (.sh (.int b))],rfl,?_,fun _=>rfl⟩;simp only[Int.zero_add] at hs⊢;simp[bU,ag,aJ,eC,SG,J9,iI,hs,jl]
  simp[CG,jB,eS,Ku,dW,mj,eL,bP,eG,aJ,jd,hr,hc,dh]
theorem aai(h1:1≤c)(h6:c≤6):powC 1 c=true∧(2:Int)≤2^c.toNat∧(2:Int)^c.toNat≤64:=by
  have:c=1∨c=2∨c=3∨c=4∨c=5∨c=6:=by omega
  rcases this with rfl|rfl|rfl|rfl|rfl|rfl<;>exact⟨by decide,by decide,by decide⟩
def enc(p:aO×Int):List Key×D:=(p.1.map Sum.inl,.int p.2)
theorem KQ{a:aO}(h:a.map (Sum.inl:Int→Key)=b.map Sum.inl):a=b:=by have:=il Ow h;rwa[Ca,Ca] at this
def gR(ps:dq)(k:aO):Option Int:=(ps.find? fun p=>decide (p.1=k)).map (·.2)
def mP(ps:dq)(k:aO)(m:Int):dq :=
  if (ps.any fun p=>decide (p.1=k))=true then ps.map fun p=>if p.1=k then(p.1,m) else p else ps++[(k,m)]
theorem KR(p:aO×Int)(k:aO):decide ((enc p).1=k.map Sum.inl)=decide (p.1=k):=by
  have:((enc p).1=k.map Sum.inl)↔p.1=k:=⟨fun h=>KQ h,fun h=>by rw[←h];rfl⟩
  simp[this]
theorem se(k:aO):∀ps:dq,wG (ps.map enc) (k.map Sum.inl)=(gR ps k).map D.int
  |[]=>rfl
  |p::ps=>by
   have ih:=se k ps;unfold wG gR at *;rw[bY,uD,uD,KR];cases decide (p.1=k) with
   |true=>rfl
   |false=>exact ih
theorem KS(k:aO):∀ps:dq,((ps.map enc).any fun kv=>decide (kv.1=k.map Sum.inl))=ps.any fun p=>decide (p.1=k)
  |[]=>rfl
  |p::ps=>by rw[bY,List.any_cons,List.any_cons,KS k ps,KR]
theorem Ak(ps:dq)(k:aO)(m:Int):putD (ps.map enc) (k.map Sum.inl) (.int m)=(mP ps k m).map enc:=by
  unfold putD mP;rw[KS];by_cases h:(ps.any fun p=>decide (p.1=k))=true
  · rw[ay h,ay h,e9,e9];refine t4 fun p _=>?_;show(if (enc p).1=k.map Sum.inl then((enc p).1,D.int m) else enc p)=enc (if p.1=k then(p.1,m) else p);by_cases e:p.1=k
    ·rw[ay e,ay (show(enc p).1=k.map Sum.inl by rw[←e];rfl)];rfl
    ·rw[aZ e,aZ (show ¬ (enc p).1=k.map Sum.inl from fun z=>e (KQ z))]
  ·rw[aZ h,aZ h,v9];rfl
structure uw (c:Int) (ps:dq):Prop where
  nd:(ps.map (·.1)).Nodup
  all:∀p∈ps,cO c p.1∧1≤p.2
theorem Qk{k:aO}{m:Int}(h:gR ps k=some m):(k,m)∈ps:=by
  unfold gR at h;obtain⟨p,h1,h2⟩:=g6.mp h;have h3:=List.find?_some h1;have h4:=List.mem_of_find?_eq_some h1;obtain⟨a,b⟩:=p;have e1:a=k:=by simpa using h3
  have e2:b=m:=h2;subst e1 e2;exact h4
theorem EG:∀{ps:dq} {k:aO} {m:Int},(ps.map (·.1)).Nodup→(k,m)∈ps→gR ps k=some m
  |[],_,_,_,h=>nomatch h
  |p::r,k,m,nd,h=>by
   rw[bY] at nd;obtain⟨h1,h2⟩:=yH.mp nd;unfold gR;rcases fR.mp h with e|e
   ·rw[←e,uD];simp
   ·have:¬ p.1=k:=fun z=>h1 (ja.mpr ⟨(k,m),e,z.symm⟩);rw[uD];simp only[this,decide_false];exact EG h2 e
theorem MY(ps:dq)(k:aO)(m:Int):(mP ps k m).map (·.1)=if (ps.any fun p=>decide (p.1=k))=true then ps.map (·.1) else ps.map (·.1)++[k]:=by
  unfold mP;by_cases h:(ps.any fun p=>decide (p.1=k))=true
  ·rw[ay h,ay h,e9];refine t4 fun p _=>?_;show(if p.1=k then(p.1,m) else p).1=p.1;split<;>rfl
  ·rw[aZ h,aZ h,v9];rfl
theorem vH(ps:dq)(k:aO)(m:Int):(mP ps k m).length≤ps.length+1:=by unfold mP;split<;>simp
theorem uw.put(h:uw c ps){k:aO}{m:Int}(hs:cO c k)(hm:1≤m):uw c (mP ps k m):=by
  refine⟨?_,fun p hp=>?_⟩
  · rw[MY];by_cases q:(ps.any fun p=>decide (p.1=k))=true
    ·rw[ay q];exact h.nd
    ·rw[aZ q];refine DC h.nd fun hk=>q ?_;obtain⟨p,h1,h2⟩:=ja.mp hk;exact Dn.mpr ⟨p,h1,nF h2⟩
  · unfold mP at hp;split at hp
    · obtain⟨p',h1,h2⟩:=ja.mp hp;by_cases e:p'.1=k
      ·rw[ay e] at h2;rw[←h2,e];exact⟨hs,hm⟩
      ·rw[aZ e] at h2;rw[←h2];exact h.all p' h1
    · rcases mV.mp hp with q|q
      ·exact h.all p q
      · have e:p=(k,m):=by simpa using q
        rw[e];exact⟨hs,hm⟩
theorem uw.get(h:uw c ps)(k:aO):0≤(gR ps k).getD 0:=by
  cases e:gR ps k with
  |none=>exact Int.le_refl _
  |some m=>have:=(h.all _ (Qk e)).2;simp only[sY];omega
theorem G4(o:Option Int):(o.map D.int).getD (.int 0)=.int (o.getD 0):=by cases o<;>rfl
theorem sU(k:aO):Mj (.tup (k.map D.int))=some (k.map Sum.inl):=xF k
def ah(h:aO×Int):D:=.tup [.tup (h.1.map D.int),.int h.2]
def qm(kind c z:Int):aO:=if kind / 4%3==1 then(EE (pV z 1%2^c.toNat) c).filter (fun n=>n / 2==pV z 3%3) else EE (pV z 1%2^c.toNat) c
def vJ(size z:Int):Int:=if z%5==1 then 6 else 1+z / 7%size
theorem MZ(kind z:Int)(h0:0≤c):cO c (qm kind c z):=by
  unfold qm;split
  ·exact(KP _ h0).filter _
  ·exact KP _ h0
theorem Ql{size:Int}(hs:0<size)(z:Int):1≤vJ size z:=by unfold vJ;have:=Ba (z / 7) (show size≠0 by omega);split<;>omega
def CH(kind size c:Int)(ps:dq)(z:Int):dq:=mP ps (qm kind c z) ((gR ps (qm kind c z)).getD 0+vJ size z)
def ak(rs:dq):Int:=(rs.map fun r=>r.2).sum
theorem Al{a:aO}(h:a.Perm b):a.sum=b.sum:=by
  induction h with
  |nil=>rfl
  |cons x _ ih=>rw[wa,wa,ih]
  |swap x y l=>simp only[wa];omega
  |trans _ _ i j=>rw[i,j]
theorem jW(p:aO×Int)(ps:dq)(k:aO):gR (p::ps) k=if p.1=k then some p.2 else gR ps k:=by
  unfold gR;rw[uD];by_cases e:p.1=k
  ·rw[ay e];simp[e]
  ·rw[aZ e];simp[e]
theorem xo{k:aO}:gR ps k=none↔k∉ps.map (·.1):=by
  induction ps with
  |nil=>simp[gR]
  |cons p ps ih =>
   rw[jW];by_cases e:p.1=k
   ·simp[e]
   · rw[aZ e,ih,bY,fR];constructor
     · rintro h (q|q)
       ·exact e q.symm
       ·exact h q
     ·exact fun h q=>h (.inr q)
theorem KW(hp:uw c ps)(k:aO)(m:Int):ak (mP ps k ((gR ps k).getD 0+m))=ak ps+m:=by
  have key:∀(ps:dq),(ps.map (·.1)).Nodup→∀v,k∈ps.map (·.1)→ak (ps.map fun p=>if p.1=k then(p.1,(gR ps k).getD 0+v) else p)=ak ps+v:=by
    intro ps;induction ps with
    |nil=>intro _ v h;nomatch h
    |cons p ps ih =>
     intro nd v h;rw[bY] at nd;obtain⟨n1,n2⟩:=yH.mp nd;unfold ak at ih⊢;rw[bY,bY,bY,wa,wa,jW];by_cases e:p.1=k
     · rw[ay e,ay e];have:(ps.map fun x=>if x.1=k then(x.1,(some p.2:Option Int).getD 0+v) else x)=ps:=by
         refine(t4 fun x hx=>?_).trans (List.map_id _);exact aZ fun z=>n1 (ja.mpr ⟨x,hx,z.trans e.symm⟩)
       rw[this];show p.2+v+_=_;omega
     · rw[aZ e,aZ e];have hk:k∈ps.map (·.1):=by
         rcases fR.mp h with z|z
         ·exact absurd z.symm e
         ·exact z
       have:=ih n2 v hk;omega
  by_cases h:k∈ps.map (·.1)
  · unfold mP;have h':(ps.any fun p=>decide (p.1=k))=true:=by
      obtain⟨p,h1,h2⟩:=ja.mp h;exact Dn.mpr ⟨p,h1,nF h2⟩
    rw[ay h'];exact key ps hp.nd m h
  · unfold mP;have h':¬ (ps.any fun p=>decide (p.1=k))=true:=fun z=>h (by
      obtain⟨p,h1,h2⟩:=Dn.mp z;exact ja.mpr ⟨p,h1,xT h2⟩)
    rw[aZ h',xo.mpr h];unfold ak;rw[v9,List.sum_append];simp
theorem Xf{S A M:D}{kind size:Int}(h1:1≤c)(h6:c≤6)(hs:0<size)(z:Int)(hl:ps.length<10000)(o8 o9 sf:eP):pS [some (.sh S),some (.sh A),some (.sh M),some (.sh (.int c)),some (.sh (.int kind)),some (.sh (.int size)),some (.ot (ps.map enc)),some (.sh (.int z)),o8,o9,sf]=some (.nx [some (.sh S),some (.sh A),some (.sh M),some (.sh (.int c)),some (.sh (.int kind)),some (.sh (.int size)),some (.ot ((CH kind size c ps z).map enc)),some (.sh (.int z)),o8,some (.sh (.tup ((qm kind c z).map D.int))),some (.sh (.int (vJ size z)))]):=by
  obtain⟨p1,p2,p3⟩:=aai h1 h6;have hm:∀y,qJ y (2^c.toNat)=true:=fun y=>by unfold qJ;exact nF (by omega)
  have Md:∀y,qJ y size=true:=fun y=>by unfold qJ;exact nF hs
  have d1:∀y,divC y 4=true:=fun y=>rfl;have d2:∀y,divC y 2=true:=fun y=>rfl;have d3:∀y,divC y 7=true:=fun y=>rfl;have m1:∀y,qJ y 3=true:=fun y=>rfl;have m2:∀y,qJ y 5=true:=fun y=>rfl;have TQ:CG [.int (pV z 1%2^c.toNat),.int c]=some (.sh (.tup ((EE (pV z 1%2^c.toNat) c).map D.int))):=aah _ (by omega) h6;have Sn:cE (aD true 0) (bU (ag m5 (ag L9 (aJ 0) (eC (.int 2))) (ag oB (ax lJ (ae (eV 1) (ae (eC (.int 3)) ao))) (eC (.int 3))))) (eV 0) ((EE (pV z 1%2^c.toNat) c).map D.int) [none,some (.sh (.int z))] =
      some (((EE (pV z 1%2^c.toNat) c).filter (fun n=>n / 2==pV z 3%3)).map D.int):=by
    refine dw D.int (fun n=>n / 2==pV z 3%3) D.int fun n _=>⟨[some (.sh (.int n)),some (.sh (.int z))],rfl,?_,fun _=>rfl⟩
    simp[bU,ag,aJ,eC,eV,div_ii (d2 _),mv (m1 _),ax,ae,ao,yD,jl]
  have Xg:∀(k:aO) (m:Int),putD (ps.map enc) (k.map Sum.inl) (.int m)=(mP ps k m).map enc:=Ak ps;by_cases q1:kind / 4%3=1<;>by_cases q2:z%5=1 <;>
    simp[pS,bw,cq,pX,dJ,bU,ag,aJ,eV,eC,ax,ae,ao,yD,WO p1,mv (hm _),mv (Md _),div_ii (d1 _),div_ii (d3 _),mv (m1 _),mv (m2 _),mq,TQ,jl,q1,q2,mj,eL,bP,cI,dh,jd,Sn,rB,wI,dT,sU,se,G4,hl,Xg,CH,qm,vJ]
theorem Xh{S A M:D}{kind size:Int}(h1:1≤c)(h6:c≤6)(hs:0<size)(zs:aO)(hz:zs.length≤1000){B:Int}(hM:∀z,vJ size z≤B):∃(ps:dq) (o7 o9 sf:eP),uw c ps∧ps.length≤zs.length∧ak ps≤(zs.length:Int)*B∧ip (aD true 7) pS (zs.map D.int) [some (.sh S),some (.sh A),some (.sh M),some (.sh (.int c)),some (.sh (.int kind)),some (.sh (.int size)),some (.ot []),none,none,none,none]=some (.nx [some (.sh S),some (.sh A),some (.sh M),some (.sh (.int c)),some (.sh (.int kind)),some (.sh (.int size)),some (.ot (ps.map enc)),o7,none,o9,sf]):=by
  obtain⟨η',e,ps,o7,o9,sf,hp,hl,hmm,rfl⟩:=zB (b:=aD true 7) (g:=pS) (ds:=zs.map D.int)
    (η:=[some (.sh S),some (.sh A),some (.sh M),some (.sh (.int c)),some (.sh (.int kind)),some (.sh (.int size)),some (.ot []),none,none,none,none])
    (fun i η=>∃(ps:dq) (o7 o9 sf:eP),uw c ps∧ps.length≤i∧ak ps≤(i:Int)*B∧η=[some (.sh S),some (.sh A),some (.sh M),some (.sh (.int c)),some (.sh (.int kind)),some (.sh (.int size)),some (.ot (ps.map enc)),o7,none,o9,sf]) 0
    ⟨[],none,none,none,⟨List.nodup_nil,fun _ h=>nomatch h⟩,sZ _,by simp[ak],rfl⟩ (fun i d η hd ⟨ps,o7,o9,sf,hp,hl,hmm,e⟩=>by
      subst e;rw[qH] at hd;obtain⟨z,hz1,rfl⟩:=g6.mp hd;have hi:=(xS.mp hz1).1;refine⟨_,_,rfl,.inl (Xf h1 h6 hs z (by omega) none o9 sf),CH kind size c ps z,_,_,_,hp.put (MZ _ _ (by omega)) ?_,?_,?_,rfl⟩
      ·have:=hp.get (qm kind c z);have:=Ql hs z;omega
      ·have:=vH ps (qm kind c z) ((gR ps (qm kind c z)).getD 0+vJ size z);show(CH kind size c ps z).length≤_;unfold CH;omega
      · unfold CH;rw[KW hp];have:=hM z;have e2:((0+i+1:Nat):Int)*B=(i:Int)*B+B:=by rw[Int.natCast_add,Int.add_mul];simp
        rw[e2];have e3:((0+i:Nat):Int)*B=(i:Int)*B:=by simp
        omega)
  exact⟨ps,o7,o9,sf,hp,by simpa using hl,by simpa using hmm,e⟩
theorem aaj{k:Int}:∃s:Int,(0<s∧s≤10^30)∧qA [D.int 3,D.int 10,D.int 100,D.int (10^30)] (k%4)=some (.int s):=by
  have h0:=Ba k (show(4:Int)≠0 by decide);have h4:=Fy k (show(0:Int)<4 by decide);have:k%4=0∨k%4=1∨k%4=2∨k%4=3:=by omega
  rcases this with e|e|e|e<;>rw[e]
  ·exact⟨3,⟨by decide,by decide⟩,rfl⟩
  ·exact⟨10,⟨by decide,by decide⟩,rfl⟩
  ·exact⟨100,⟨by decide,by decide⟩,rfl⟩
  ·exact⟨10^30,⟨by decide,by decide⟩,rfl⟩
def n9(p:aO×Int):Int×aO:=((p.1.length:Int),p.1)
def cJ(ps:dq):dq:=(hW (ps.map n9)).map fun q=>(q.2,(gR ps q.2).getD 0)
theorem vK(h:uw c ps):(ps.map n9).Nodup:=by have q:=h.nd;unfold List.Nodup at q⊢;rw[Dh] at q⊢;exact q.imp fun {a b} oT e=>oT (by injection e)
theorem og(h:uw c ps){q:Int×aO}(hq:q∈hW (ps.map n9)):∃m,(q.2,m)∈ps∧gR ps q.2=some m∧q.1=(q.2.length:Int):=by obtain⟨p,h1,rfl⟩:=ja.mp ((iz _).mem_iff.mp hq);exact⟨p.2,h1,EG h.nd h1,rfl⟩
theorem M0(h:uw c ps)(hE:ps≠[])(hl:ps.length≤63):J1 c (cJ ps):=by
  have hlen:(hW (ps.map n9)).length=ps.length:=by rw[(iz _).length_eq,g9]
  refine⟨fun e=>hE ?_,fun x hx=>?_,?_,?_⟩
  · have:(hW (ps.map n9)).length=0:=by
      have:=il List.length e;simpa[cJ] using this
    exact List.eq_nil_of_length_eq_zero (by omega)
  ·obtain⟨q,hq,rfl⟩:=ja.mp hx;obtain⟨m,h1,h2,_⟩:=og h hq;have:=h.all _ h1;rw[h2];exact this
  ·unfold cJ;rw[Dh];refine List.Pairwise.imp_of_mem (fun {a b} ha hb oT=>?_) (zr (vK h));obtain⟨_,_,_,e1⟩:=og h ha;obtain⟨_,_,_,e2⟩:=og h hb;rw[←e1,←e2];exact oT
  ·unfold cJ;rw[g9,hlen];exact hl
theorem Xi(ps:dq){η:cP}:cE (aD true 0) eQ (fY (ae (jQ dU (ae (aJ 0) ao)) (ae (eV 0) ao))) ((ps.map enc).map fun kv=>.tup (kv.1.map Ml)) [none]=some ((ps.map n9).map fQ):=by
  rw[e9,e9];refine eX (fun p=>.tup (((enc p).1).map Ml)) (fQ∘n9) fun p _=>⟨[some (.sh (.tup (p.1.map D.int)))],?_,rfl,?_⟩
  · have:((enc p).1).map Ml=p.1.map D.int:=by
      show(p.1.map Sum.inl).map Ml=_;rw[e9];rfl
    rw[this];rfl
  ·simp[fY,ae,ao,jQ,dU,aJ,eV,fQ,n9]
theorem aak(h:uw c ps):cE (lR 2 (bZ (aD true 0) (bZ (aD true 1) lQ))) eQ (fY (ae (eV 1) (ae (xG 2 (aJ 1)) ao))) ((hW (ps.map n9)).map fQ) [none,none,some (.ft (ps.map enc))]=some ((cJ ps).map ah):=by
  unfold cJ;rw[e9];refine eX fQ _ fun q hq=>⟨[some (.sh (.int q.1)),some (.sh (.tup (q.2.map D.int))),some (.ft (ps.map enc))],rfl,rfl,?_⟩
  obtain⟨m,_,h2,_⟩:=og h hq;simp[fY,ae,ao,eV,aJ,xG,dT,sU,se,h2,ah]
theorem lV(hp:uw c ps):(cJ ps).Perm ps:=by
  unfold cJ;refine((iz _).map _).trans ?_;rw[e9];have:ps.map ((fun q:Int×aO=>(q.2,(gR ps q.2).getD 0))∘n9)=ps:=by refine(t4 fun p hm=>?_).trans (List.map_id _);show(p.1,(gR ps p.1).getD 0)=p;rw[EG hp.nd (show(p.1,p.2)∈ps from hm)];rfl
  rw[this]
theorem TR(ns:aO)(a m:Nat)(h1:1≤c)(h6:c≤6)(hn:ns.length≤63)(ha:1≤a):∃hs,yC [.lst (ns.map D.int),.int a,.int m,.int c]=some (.ol (hs.map ah))∧J1 c hs∧∃ps,uw c ps∧hs=cJ ps∧ps.length≤63∧ak ps≤((m:Nat):Int)*10^30+1:=by
  obtain⟨s,⟨hs,hsM⟩,es⟩:=aaj (k:=pV (ns.getD a 0) 5);have hp:powC 10 30=true:=by decide
  have zl:((ns.drop (HT.uB ns.length 0 (some ((a:Int)+1)))).take (HT.uB ns.length ns.length (some ((a:Int)+1+(m:Int)))-HT.uB ns.length 0 (some ((a:Int)+1)))).length≤62:=by
    rw[Dl,List.length_drop];have e:((a:Int)+1)=((a+1:Nat):Int):=by omega
    rw[e,HT.sy];omega
  have zm:((ns.drop (HT.uB ns.length 0 (some ((a:Int)+1)))).take (HT.uB ns.length ns.length (some ((a:Int)+1+(m:Int)))-HT.uB ns.length 0 (some ((a:Int)+1)))).length≤m:=by
    rw[Dl,List.length_drop];have e:((a:Int)+1)=((a+1:Nat):Int):=by omega
    have e':((a:Int)+1+(m:Int))=((a+1+m:Nat):Int):=by omega
    rw[e',e,HT.sy,HT.sy];omega
  have hM:∀z,vJ s z≤10^30:=fun z=>by
    unfold vJ;split
    ·decide
    ·have:=Fy (z / 7) hs;omega
  obtain⟨ps,o7,o9,sf,hP,hL,hSm,e4⟩:=Xh (S:=.lst (ns.map D.int)) (A:=.int a) (M:=.int m) (kind:=pV (ns.getD a 0) 5) h1 h6 hs _ (oQ zl (by decide)) hM
  -- the heap of the first name alone,where there is none
  let M3:=if ps.length=0 then mP ps [0] 1 else ps
  have UI:uw c M3:=by
    show uw c (if ps.length=0 then mP ps [0] 1 else ps);split
    · exact hP.put ⟨List.pairwise_singleton _ _,fun n hn=>by have:n=0:=by simpa using hn
                                                             omega⟩ (Int.le_refl 1)
    ·exact hP
  have hN':M3≠[]:=by
    show(if ps.length=0 then mP ps [0] 1 else ps)≠[];split
    ·rename_i e0;have:ps=[]:=List.eq_nil_of_length_eq_zero e0;subst this;simp[mP]
    ·rename_i e0;intro e;rw[e] at e0;exact e0 rfl
  have hL':M3.length≤63:=by show(if ps.length=0 then mP ps [0] 1 else ps).length≤63;have:=vH ps [0] 1;split<;>omega
  have Bu:ak M3≤((m:Nat):Int)*10^30+1:=by
    have h1:ak ps≤((m:Nat):Int)*10^30:=Int.le_trans hSm (Int.mul_le_mul_of_nonneg_right (Int.ofNat_le.mpr zm) (by decide));show ak (if ps.length=0 then mP ps [0] 1 else ps)≤_;split
    ·rename_i e0;have:ps=[]:=List.eq_nil_of_length_eq_zero e0;subst this;have e1:ak (mP [] [0] 1)=1:=rfl;have e2:ak []=0:=rfl;rw[e1];omega
    ·omega
  refine⟨cJ M3,cC ?_,M0 UI hN' hL',M3,UI,rfl,hL',Bu⟩;have hs0:eS 11 [true,true,true,true] [D.lst (ns.map D.int),.int a,.int m,.int c]=[some (.sh (.lst (ns.map D.int))),some (.sh (.int a)),some (.sh (.int m)),some (.sh (.int c)),none,none,none,none,none,none,none]:=rfl;rw[hs0];unfold KL;rw[aE (bF (d:=.int (pV (ns.getD a 0) 5)) (by simp[ax,ae,ao,eV,eC,Qj,yD]))];rw[aE (bF (d:=.int s) (by
    have e30:(30:Int).toNat=30:=rfl;have hm4:∀y,qJ y 4=true:=fun y=>rfl;simp only[ag,eL,oV,ae,ao,eC,aJ,WN hp,ig,ik,cg,cL,bI,dI,mv (hm4 _),S5,e30];rw[ay (by decide)];exact es))]
  rw[aE (show zy 6 _=some (.nx _) from rfl)];rw[aE (by
    refine(fL (ds:=_) ?_).trans e4;simp only[cI,eL,kQ,eV,oD,ag,aJ,eC,ig,ik,cg,cL,bI,mq,dI,dh,S6])]
  rw[aE (η':=[some (.sh (.lst (ns.map D.int))),some (.sh (.int a)),some (.sh (.int m)),some (.sh (.int c)),some (.sh (.int (pV (ns.getD a 0) 5))),some (.sh (.int s)),some (.ot (M3.map enc)),o7,none,o9,sf]) (by
    have hk:Mj (.tup [.int 0])=some (([0]:aO).map Sum.inl):=rfl;have Xg:putD (ps.map enc) (([0]:aO).map Sum.inl) (.int 1)=(mP ps [0] 1).map enc:=Ak ps [0] 1;have hl:ps.length<10000:=by omega
    show _=some (Out.nx [_,_,_,_,_,_,some (.ot ((if ps.length=0 then mP ps [0] 1 else ps).map enc)),_,_,_,_]);by_cases e0:ps.length=0
    ·rw[rD (by simp[bU,ag,zz,dT,eC,jl,e0]),ay e0];simp[rB,eC,fY,ae,ao,hk,hl];exact Xg
    ·rw[lS (by simp[bU,ag,zz,dT,eC,jl];simpa using e0),aZ e0];rfl)]
  have A1:=vK UI;have adj:(M3.map n9).length<64:=by rw[g9];omega
  rw[aE (η':=[some (.sh (.lst (ns.map D.int))),some (.sh (.int a)),some (.sh (.int m)),some (.sh (.int c)),some (.sh (.int (pV (ns.getD a 0) 5))),some (.sh (.int s)),some (.ft (M3.map enc)),o7,some (.sh (.lst ((hW (M3.map n9)).map fQ))),o9,sf]) (by
    show cq 8 _ [_,_,_,_,_,_,some (.ft (M3.map enc)),_,_,_,_]=_;rw[bF (d:=.lst ((hW (M3.map n9)).map fQ)) (by
      have hk:=Xi M3 (η:=[]);simp only[eL,Ea,bP,Eb,cg,cL,bI,jd,jb,uE,List.replicate,hk,dI,zq,A1,adj,and_self,gK])]
    rfl)]
  refine fT ?_;have ho:=aak UI;simp only[bP,cI,eV,cg,cL,bI,dh,jd,bY,jb,sY];exact ho
theorem Jc{x:Int}(h0:0≤x)(h:x<2^n)(hn:1≤n):x.natAbs.log2<n:=by
  by_cases e:x=0
  ·subst e;have:(0:Int).natAbs.log2=0:=rfl;omega
  · have h1:x.natAbs≠0:=by omega
    refine(Nat.log2_lt h1).mpr ?_;have h2:((x.natAbs:Nat):Int)<((2^n:Nat):Int):=by rw[Int.natAbs_of_nonneg h0];simpa using h
    exact Int.ofNat_lt.mp h2
theorem Qm{a b:Int}(hb:0<b)(oT:b≤a):2*(a%b)<a:=by
  have h1:=Fy a hb;have h2:=Ba a (show b≠0 by omega);have h3:=Int.mul_ediv_add_emod a b;have h4:1≤a / b:=by rw[Int.le_ediv_iff_mul_le hb];omega
  have h5:b≤b*(a / b):=by have:=Int.mul_le_mul_of_nonneg_left h4 (show 0≤b by omega);omega
  omega
def Jd:Nat→Int→Int→Option Int
  |0,_,_=>none
  |n+1,a,b=>if 0<b then Jd n b (a%b) else some a
theorem G5{a b:Int}(ha:0≤a)(hb:0≤b):Int.gcd a b=Int.gcd b (a%b):=by
  obtain⟨x,rfl⟩:∃x:Nat,a=(x:Int):=⟨a.toNat,by omega⟩
  obtain⟨y,rfl⟩:∃y:Nat,b=(y:Int):=⟨b.toNat,by omega⟩
  have e:(x:Int)%(y:Int)=((x%y:Nat):Int):=by omega
  rw[e];show Nat.gcd x y=Nat.gcd y (x%y);rw[Nat.gcd_comm x y,Nat.gcd_rec y x,Nat.gcd_comm]
theorem KY:∀(k:Nat) (a b:Int),0≤a→0≤b→b<2^k→∀n,2*k+1≤n→Jd n a b=some ((Int.gcd a b:Nat):Int)
  |0,a,b,ha,hb,hk,n,hn=>by
   have:b=0:=by have:(2:Int)^0=1:=rfl;omega
   subst this;obtain⟨m,rfl⟩:∃m,n=m+1:=⟨n-1,by omega⟩
   unfold Jd;rw[aZ (by decide),Int.gcd_zero_right,Int.natAbs_of_nonneg ha]
  |k+1,a,b,ha,hb,hk,n,hn=>by
   obtain⟨m,rfl⟩:∃m,n=m+1:=⟨n-1,by omega⟩
   unfold Jd;by_cases h0:0<b
   · rw[ay h0];obtain⟨m',rfl⟩:∃m',m=m'+1:=⟨m-1,by omega⟩
     unfold Jd;have r0:=Ba a (show b≠0 by omega);have rb:=Fy a h0;have e1:=G5 ha hb;by_cases h1:0<a%b
     · rw[ay h1];have s0:=Ba b (show a%b≠0 by omega);have hh:=Qm h1 (by omega:a%b≤b);have hp:(2:Int)^(k+1)=2*2^k:=by rw[Int.pow_succ];omega
       have ih:=KY k (a%b) (b%(a%b)) r0 s0 (by omega) m' (by omega);rw[ih,e1,G5 hb r0]
     · rw[aZ h1];have:a%b=0:=by omega
       rw[e1,this,Int.gcd_zero_right,Int.natAbs_of_nonneg hb]
   · rw[aZ h0];have:b=0:=by omega
     subst this;rw[Int.gcd_zero_right,Int.natAbs_of_nonneg ha]
theorem U7:∀(n:Nat) (a b:Int) (o:eP) (x:Int),Jd n a b=some x→∃c o',iy fE fC n [some (.sh (.int a)),some (.sh (.int b)),o]=some (.nx [some (.sh (.int x)),some (.sh (.int c)),o'])
  |0,a,b,o,x,h=>by cases h
  |n+1,a,b,o,x,h=>by
   unfold Jd at h;unfold iy;by_cases h0:0<b
   · rw[ay h0] at h;obtain⟨c,o',ih⟩:=U7 n b (a%b) (some (.sh (.int (a%b)))) x h;have hm:qJ a b=true:=Ec h0;refine⟨c,o',?_⟩;simp only[fE,bU,ag,aJ,eC,cg,cL,bI,u6,nF h0,gK];have hb:fC [some (.sh (.int a)),some (.sh (.int b)),o]=some (.nx [some (.sh (.int b)),some (.sh (.int (a%b))),some (.sh (.int (a%b)))]):=by
       unfold fC;refine(aE (bF (d:=.int (a%b)) ?_)).trans ?_
       ·simp only[ag,aJ,cg,cL,bI,mv hm]
       refine(aE (bF (d:=.int b) rfl)).trans ?_;exact bF (d:=.int (a%b)) rfl
     rw[hb];exact ih
   ·rw[aZ h0] at h;cases h;refine⟨b,o,?_⟩;simp only[fE,bU,ag,aJ,eC,cg,cL,bI,u6,lL h0];rfl
theorem aal{a b:Int}(ha:0≤a)(hb:0≤b)(hk:b<2^8000):gH [.int a,.int b]=some (.sh (.int ((Int.gcd a b:Nat):Int))):=by obtain⟨c,o',h⟩:=U7 20000 a b none _ (KY 8000 a b ha hb hk 20000 (by decide));refine cC ?_;show jI [some (.sh (.int a)),some (.sh (.int b)),none]=_;unfold jI;refine(aE (show ro 20000 _ _ _=some (.nx _) from h)).trans ?_;rfl
def lu(r:Rat):D:=.tup [.int r.num,.int (r.den:Int)]
theorem Je{a b:Int}(hb:0<b):a / ((Int.gcd a b:Nat):Int)=(Rat.divInt a b).num∧b / ((Int.gcd a b:Nat):Int)=((Rat.divInt a b).den:Int):=by
  constructor
  ·rw[Rat.num_divInt,Int.sign_eq_one_of_pos hb,Int.one_mul,Int.gcd_comm]
  · rw[Rat.den_divInt,aZ (by omega),Int.gcd_comm];obtain⟨y,rfl⟩:∃y:Nat,b=(y:Int):=⟨b.toNat,by omega⟩
    rw[Int.natAbs_natCast,Int.natCast_ediv]
theorem TV{a b:Int}(hb:0<b):0<((Int.gcd a b:Nat):Int):=by
  have:Int.gcd a b≠0:=fun e=>by have:=(Int.gcd_eq_zero_iff.mp e).2;omega
  omega
theorem Xj{a b:Int}(hb:0<b):((Int.gcd a b:Nat):Int)≤b:=Int.le_of_dvd hb (Int.gcd_dvd_right ..)
theorem aam{a b:Int}(h:CD a b=true):GR (.int a) (.int b)=some (.int (a / b)):=by unfold GR iI;simp only[h,gK]
theorem Am{a b:Int}(h:CC a b=true):rL (.int a) (.int b)=some (.int (a*b)):=by unfold rL iI;simp only[h,gK]
theorem G6{a b:Int}(ha:0≤a)(hb:0<b)(hk:b<2^8000):lj [.int a,.int b]=some (.sh (lu (Rat.divInt a b))):=by
  have hg:=aal ha (oz hb) hk;obtain⟨e1,e2⟩:=Je (a:=a) hb;have g0:=TV (a:=a) hb;have g1:=Xj (a:=a) hb;have hc:∀y,CD y ((Int.gcd a b:Nat):Int)=true:=fun y=>by unfold CD;refine nF ⟨g0,?_⟩;have:=Jc (n:=8000) (oz g0) (v5 g1 hk) (by decide);omega
  refine cC ?_;show uq [some (.sh (.int a)),some (.sh (.int b)),none]=_;unfold uq;refine(aE (bF (d:=.int ((Int.gcd a b:Nat):Int)) ?_)).trans ?_
  ·simp only[ax,ae,ao,eV,cg,cL,bI,dI,hg]
  refine ke ?_;simp only[fY,ae,ao,ag,aJ,ig,ik,cg,cL,bI,dI,aam (hc _),e1,e2];rfl
theorem qo{i j:Int}(hi:0≤i)(hj:0≤j)(Om:i<2^9000)(hj2:j<2^9000):CC i j=true:=by unfold CC;have h1:=Jc hi Om (by decide);have h2:=Jc hj hj2 (by decide);exact nF ⟨by omega,by omega⟩
theorem eU{a b:Nat}(h:a≤b):(2:Int)^a≤2^b:=by
  have:=Nat.pow_le_pow_right (n:=2) (by decide) h;have e:∀n:Nat,(2:Int)^n=((2^n:Nat):Int):=fun n=>by simp
  rw[e,e];exact Int.ofNat_le.mpr this
theorem jM{x y:Int}{a b:Nat}(hx:0≤x)(hy:0≤y)(h1:x<2^a)(h2:y<2^b):x*y<2^(a+b):=by rw[Int.pow_add];have p1:(0:Int)<2^a:=v5 hx h1;have p2:(0:Int)<2^b:=v5 hy h2;have:=Int.mul_le_mul_of_nonneg_right (oz h1) hy;have:=Int.mul_lt_mul_of_pos_left h2 p1;omega
theorem den_pos(r:Rat):(0:Int)<(r.den:Int):=by have:=r.den_nz;omega
theorem An(m:Int)(y:Rat):Rat.divInt (m*y.num) y.den=(m:Rat)*y:=by
  have h:=den_pos y;have e:y=Rat.divInt y.num y.den:=(Rat.num_divInt_den y).symm;have e2:(m:Rat)=Rat.divInt m 1:=by have:=Rat.num_divInt_den (m:Rat);rw[Rat.num_intCast,Rat.den_intCast] at this;exact this.symm
  conv=>rhs;rw[e,e2,Rat.divInt_mul_divInt]
  rw[Int.one_mul]
theorem Jf(x y:Rat)(m:Int):Rat.divInt (x.num*(y.den:Int)+m*y.num*(x.den:Int)) ((x.den:Int)*(y.den:Int))=x+(m:Rat)*y:=by
  rw[←An m y]
  conv=>rhs;rw[←Rat.num_divInt_den x]
  rw[Rat.divInt_add_divInt _ _ (by have:=den_pos x;omega) (by have:=den_pos y;omega)]
theorem TX{x y:Rat}{m:Int}(hm:0≤m)(hx0:0≤x.num)(hy0:0≤y.num)(hx1:x.num<2^3900)(hx2:(x.den:Int)<2^3900)(hy1:m*y.num<2^3900)(hy2:(y.den:Int)<2^3900):nA [lu x,.tup [.int (m*y.num),.int (y.den:Int)]]=some (.sh (lu (x+(m:Rat)*y))):=by
  have dx:=den_pos x;have dy:=den_pos y;have hmy:0≤m*y.num:=Int.mul_nonneg hm hy0;have big:∀{z:Int},z<2^3900→z<2^9000:=fun h=>qG h (eU (by decide));have m1:=qo hx0 (oz dy) (big hx1) (big hy2);have m2:=qo hmy (oz dx) (big hy1) (big hx2);have m3:=qo (oz dx) (oz dy) (big hx2) (big hy2);have hl:=G6 (a:=x.num*(y.den:Int)+m*y.num*(x.den:Int)) (b:=(x.den:Int)*(y.den:Int)) (by
    have a1:=Int.mul_nonneg hx0 (oz dy);have a2:=Int.mul_nonneg hmy (oz dx);omega) (Int.mul_pos dx dy) (qG (jM (oz dx) (oz dy) hx2 hy2) (eU (by decide)))
  rw[Jf] at hl;refine cC ?_;show xa [some (.sh (lu x)),some (.sh (.tup [.int (m*y.num),.int (y.den:Int)]))]=_;unfold xa;refine ke ?_;have a0:qA [D.int x.num,.int (x.den:Int)] 0=some (.int x.num):=rfl;have a1:qA [D.int x.num,.int (x.den:Int)] 1=some (.int (x.den:Int)):=rfl;have b0:qA [D.int (m*y.num),.int (y.den:Int)] 0=some (.int (m*y.num)):=rfl;have b1:qA [D.int (m*y.num),.int (y.den:Int)] 1=some (.int (y.den:Int)):=rfl;simp only[ax,ae,ao,ag,aJ,eC,lu,Ig,a0,a1,b0,b1,cg,cL,bI,dI,Am m1,Am m2,Am m3,mq];simp only[hl,lu,bI]
def bW:Option Rat→Option Rat→Bool
  |none,_=>false
  |some _,none=>true
  |some x,some y=>decide (x<y)
def dX:Option Rat→D
  |none=>.non
  |some r=>lu r
def Bd(r:Rat):Prop:=0≤r.num∧r.num<2^3900∧(r.den:Int)<2^3900
def BdO:Option Rat→Prop
  |none=>True
  |some r=>Bd r
theorem Xk{x y:Rat}(hx:Bd x)(hy:Bd y):vw [lu x,lu y]=some (.sh (.bl (decide (x<y)))):=by obtain⟨x0,x1,x2⟩:=hx;obtain⟨y0,y1,y2⟩:=hy;have dx:=den_pos x;have dy:=den_pos y;have big:∀{z:Int},z<2^3900→z<2^9000:=fun h=>qG h (eU (by decide));have m1:=qo x0 (oz dy) (big x1) (big y2);have m2:=qo y0 (oz dx) (big y1) (big x2);refine cC ?_;show Ac [some (.sh (lu x)),some (.sh (lu y))]=_;unfold Ac;refine ke ?_;have a0:qA [D.int x.num,.int (x.den:Int)] 0=some (.int x.num):=rfl;have a1:qA [D.int x.num,.int (x.den:Int)] 1=some (.int (x.den:Int)):=rfl;have b0:qA [D.int y.num,.int (y.den:Int)] 0=some (.int y.num):=rfl;have b1:qA [D.int y.num,.int (y.den:Int)] 1=some (.int (y.den:Int)):=rfl;simp only[ag,aJ,eC,lu,Ig,a0,a1,b0,b1,cg,cL,bI,Am m1,Am m2,tR,←Rat.lt_iff]
theorem TY{x y:Option Rat}(hx:BdO x)(hy:BdO y):gQ [dX x,dX y]=some (.sh (.bl (bW x y))):=by
  refine cC ?_;show mJ [some (.sh (dX x)),some (.sh (dX y))]=_;unfold mJ;cases x with
  |none=>exact ue ((rD rfl).trans rfl)
  |some x =>
   cases y with
   |none=>exact ue ((rD rfl).trans rfl)
   |some y=>refine(aE ((lS rfl).trans rfl)).trans ?_;refine ke ?_;simp only[ax,ae,ao,eV,dX,cg,cL,bI,dI,Xk hx hy,bW]
def dS(r:Int×Option Rat):D:=.tup [.int r.1,dX r.2]
def G7(names:aO)(rows:uC):Option Rat:=rows.foldl (fun x r=>if names.contains r.1=true then r.2 else x) (some 0)
theorem xq(x:Option Rat):(dX x).A2=true:=by
  cases x with
  |none=>rfl
  |some r=>unfold dX lu;rw[uP,mX,sI,mX,sI];rfl
theorem aan(names:aO)(rows:uC):iW [.tup (names.map D.int),.lst (rows.map dS)]=some (.sh (dX (G7 names rows))):=by
  refine cC ?_;show lq [some (.sh (.tup (names.map D.int))),some (.br (.lst (rows.map dS))),none,none,none]=_;unfold lq;have e0:dX (some 0)=.tup [.int 0,.int 1]:=rfl;refine(aE (bF (d:=dX (some 0)) rfl)).trans ?_;obtain⟨η',e,o3,o4,rfl⟩:=kU (b:=lR 2 (bZ (aD false 3) (bZ (aD false 4) lQ))) (g:=jK) dS (fun(x:Option Rat) η=>∃o3 o4,η=[some (.sh (.tup (names.map D.int))),some (.br (.lst (rows.map dS))),some (.sh (dX x)),o3,o4])
    (fun x r=>if names.contains r.1=true then r.2 else x) (xs:=rows) (η:=[some (.sh (.tup (names.map D.int))),some (.br (.lst (rows.map dS))),some (.sh (dX (some 0))),none,none]) (some 0) ⟨none,none,rfl⟩ (fun r _ x η ⟨o3,o4,e⟩=>by
      subst e;refine⟨[some (.sh (.tup (names.map D.int))),some (.br (.lst (rows.map dS))),some (.sh (dX x)),some (.br (.int r.1)),some (.br (dX r.2))],[some (.sh (.tup (names.map D.int))),some (.br (.lst (rows.map dS))),some (.sh (dX (if names.contains r.1=true then r.2 else x))),some (.br (.int r.1)),some (.br (dX r.2))],rfl,?_,_,_,rfl⟩;unfold jK;have q:=yz (n:=r.1) (S:=.tup (names.map D.int)) (ms:=names) rfl;cases hc:names.contains r.1 with
      |true =>
       rw[hc] at q;refine(rD ?_).trans ?_
       ·simp only[bU,ag,aJ,cg,cL,bI,q]
       ·refine(bF (d:=dX r.2) ?_).trans rfl;simp only[eV,cg,cL,xq,gK]
      |false =>
       rw[hc] at q;refine(lS ?_).trans rfl;simp only[bU,ag,aJ,cg,cL,bI,q])
  refine(aE ((fL (ds:=rows.map dS) rfl).trans e)).trans ?_;rfl
def aY(hs:dq)(n:Int):dq:=hs.filter fun h=>h.1.contains n
theorem dG(h:aO×Int)(l:dq):ak (h::l)=h.2+ak l:=by unfold ak;rw[bY,wa]
theorem aao(hs:dq)(n:Int):cN [.lst (hs.map ah),.int n]=some (.sh (.int (ak (aY hs n)))):=by
  refine cC ?_;show jJ [some (.sh (.lst (hs.map ah))),some (.sh (.int n))]=_;unfold jJ;refine ke ?_;have q:cE (lR 2 (bZ (aD true 0) (bZ (aD true 1) lQ))) (bU (ag (inD false) (aJ 2) (aJ 0))) (eV 1) (hs.map ah) (List.replicate 2 none++[some (.sh (.int n))])=some (((aY hs n).map fun r=>r.2).map D.int):=by
    have e:((aY hs n).map fun r=>r.2).map D.int=(hs.filter fun h=>h.1.contains n).map fun h=>D.int h.2:=by unfold aY;rw[e9];rfl
    rw[e];refine dw ah (fun h=>h.1.contains n) (fun h=>D.int h.2) fun h _=>⟨[some (.sh (.tup (h.1.map D.int))),some (.sh (.int h.2)),some (.sh (.int n))],rfl,?_,fun _=>rfl⟩
    have q:=yz (n:=n) (S:=.tup (h.1.map D.int)) (ms:=h.1) rfl;simp only[bU,ag,aJ,cg,cL,bI,q]
  simp only[jQ,ae,ao,eL,bP,cI,eV,cg,cL,bI,dI,dh,jd,bY,jb,sY];rw[q];simp only[bI,dI,ya,du,ak]
def ie(P:Int)(t:Rat):Prop:=∃z:Int,(P:Rat)*t=(z:Rat)
theorem ie.add{P:Int}{s t:Rat}(h:ie P s)(h':ie P t):ie P (s+t):=by obtain⟨a,ha⟩:=h;obtain⟨b,hb⟩:=h';exact⟨a+b,by rw[Rat.mul_add,ha,hb,Rat.intCast_add]⟩
theorem ie.mul{P:Int}{t:Rat}(m:Int)(h:ie P t):ie P ((m:Rat)*t):=by obtain⟨a,ha⟩:=h;exact⟨m*a,by rw[←Rat.mul_assoc,Rat.mul_comm (P:Rat) m,Rat.mul_assoc,ha,uG]⟩
theorem ie.one(P:Int):ie P 1:=⟨P,by rw[Rat.mul_one]⟩
theorem ie.den{P:Int}(hP:0<P){t:Rat}(h:ie P t):(t.den:Int)≤P:=by
  obtain⟨z,hz⟩:=h;have UI:(P:Rat)≠0:=fun e=>by have:=Rat.intCast_eq_zero_iff.mp e;omega
  have e:t=Rat.divInt z P:=by have h1:=An 1 t;rw[Rat.divInt_eq_div,←hz];grind
  rw[e,Rat.den_divInt,aZ (by omega)];have h2:P.natAbs / P.gcd z≤P.natAbs:=Nat.div_le_self _ _;have h3:((P.natAbs:Nat):Int)=P:=Int.natAbs_of_nonneg (by omega);have h4:((P.natAbs / P.gcd z:Nat):Int)≤((P.natAbs:Nat):Int):=Int.ofNat_le.mpr h2;omega
theorem Jg{t:Rat}{T:Int}(h:t≤(T:Rat)):t.num≤T*(t.den:Int):=by have:=(Rat.le_iff t (T:Rat)).mp h;rw[Rat.num_intCast,Rat.den_intCast] at this;simpa using this
theorem Qn{t:Rat}(h:0≤t):0≤t.num:=Rat.num_nonneg.mpr h
theorem Qo{P T:Int}{t:Rat}(hP:0<P)(Wn:P<2^3300)(hT:0≤T)(hT2:T<2^200)(h:ie P t)(h0:0≤t)(h1:t≤(T:Rat)):Bd t:=by have hd:=h.den hP;have dp:=den_pos t;have hn:=Jg h1;refine⟨Qn h0,?_,v5 hd (qG Wn (eU (by decide)))⟩;have h2:T*(t.den:Int)<2^(200+3300):=jM hT (oz dp) hT2 (v5 hd Wn);exact v5 hn (qG h2 (eU (by decide)))
structure sV (hs:dq) (rows:uC) (P:Int):Prop where
  pos:0<P
  lt:P<2^3300
  heap:∀h∈hs,∃x,G7 h.1 rows=some x∧ie P x∧0≤x∧x≤6
def xh(rows:uC)(h:aO×Int):Rat:=(G7 h.1 rows).getD 0
def qO(rows:uC)(l:dq)(t:Rat):Rat:=l.foldl (fun t h=>t+(h.2:Rat)*xh rows h) t
theorem EH{hs:dq}{rows:uC}{P:Int}(ok:sV hs rows P):∀{l:dq},(∀h∈l,h∈hs∧1≤h.2)→∀{t:Rat} {T:Int},ie P t→0≤t→t≤(T:Rat)→ie P (qO rows l t)∧0≤qO rows l t∧qO rows l t≤((T+6*ak l:Int):Rat)
  |[],_,t,T,h1,h2,h3=>⟨h1,h2,by show t≤_;simpa[ak] using h3⟩
  |h::l,hl,t,T,h1,h2,h3=>by
   obtain⟨hm,h5⟩:=hl h cY;obtain⟨x,e,w,x0,x6⟩:=ok.heap h hm;have ex:xh rows h=x:=by unfold xh;rw[e];rfl
   have T1:(0:Rat)≤(h.2:Rat):=by have:=Hs.mpr (show(0:Int)≤h.2 by omega);simpa using this
   have p1:0≤(h.2:Rat)*x:=Rat.mul_nonneg T1 x0;have p2:(h.2:Rat)*x≤(h.2:Rat)*6:=Rat.mul_le_mul_of_nonneg_left x6 T1;have ih:=EH ok (l:=l) (fun y hy=>hl y (ly _ hy)) (t:=t+(h.2:Rat)*x) (T:=T+6*h.2) (h1.add (w.mul h.2)) (by grind) (by
     rw[Rat.intCast_add,uG];have:((6:Int):Rat)=6:=rfl;grind)
   have e2:qO rows (h::l) t=qO rows l (t+(h.2:Rat)*x):=by show qO rows l (t+(h.2:Rat)*xh rows h)=_;rw[ex]
   rw[e2];refine⟨ih.1,ih.2.1,?_⟩;have e3:T+6*h.2+6*ak l=T+6*ak (h::l):=by rw[dG];omega
   rw[←e3];exact ih.2.2
def ef(hs:dq)(rows:uC)(n:Int):Option Rat:=if ak (aY hs n)=0 then none else some (qO rows (aY hs n) 1 / (ak (aY hs n):Rat))
theorem xM(h:aO×Int)(l:dq)(n:Int):aY (h::l) n=if h.1.contains n=true then h::aY l n else aY l n:=by unfold aY;rw[Dm]
theorem qp{l:dq}(h:∀x∈l,1≤x.2):0≤ak l:=by
  induction l with
  |nil=>exact Int.le_refl _
  |cons x l ih=>have:=h x cY;have:=ih fun y hy=>h y (ly _ hy);rw[dG];omega
theorem CJ{l:dq}(h:∀x∈l,1≤x.2)(n:Int):ak (aY l n)≤ak l:=by
  induction l with
  |nil=>exact Int.le_refl _
  |cons x l ih =>
   have:=h x cY;have:=ih fun y hy=>h y (ly _ hy);rw[xM];split
   ·rw[dG,dG];omega
   ·rw[dG];omega
theorem Ao{hs:dq}{rows:uC}{P:Int}(ok:sV hs rows P)(n:Int)(A:D)(o3:eP):∀(l:dq),(∀h∈l,h∈hs∧1≤h.2)→∀(t:Rat) (T:Int),ie P t→0≤t→t≤(T:Rat)→0≤T→T+6*ak l<2^190→(∀h∈l,h.2<2^190)→∀(o5 o6 o7:eP),∃Rz Jh Qp,ip (lR 2 (bZ (aD true 5) (bZ (aD true 6) lQ))) dB (l.map ah) [some (.sh A),some (.br (.lst (rows.map dS))),some (.sh (.int n)),o3,some (.sh (lu t)),o5,o6,o7]=some (.nx [some (.sh A),some (.br (.lst (rows.map dS))),some (.sh (.int n)),o3,some (.sh (lu (qO rows (aY l n) t))),Rz,Jh,Qp])
  |[],_,t,T,_,_,_,_,_,_,o5,o6,o7=>⟨o5,o6,o7,rfl⟩
  |h::l,hl,t,T,h1,h2,h3,hT,hB,hM,o5,o6,o7=>by
   obtain⟨hm,h5⟩:=hl h cY;have Gj:∀y∈l,y∈hs∧1≤y.2:=fun y hy=>hl y (ly _ hy);have hM':∀y∈l,y.2<2^190:=fun y hy=>hM y (ly _ hy);have sn:=qp (l:=l) fun y hy=>(Gj y hy).2;rw[dG] at hB;rw[bY];unfold ip;have nP:lR 2 (bZ (aD true 5) (bZ (aD true 6) lQ)) (ah h) [some (.sh A),some (.br (.lst (rows.map dS))),some (.sh (.int n)),o3,some (.sh (lu t)),o5,o6,o7]=some [some (.sh A),some (.br (.lst (rows.map dS))),some (.sh (.int n)),o3,some (.sh (lu t)),some (.sh (.tup (h.1.map D.int))),some (.sh (.int h.2)),o7]:=rfl;rw[nP];have q:=yz (n:=n) (S:=.tup (h.1.map D.int)) (ms:=h.1) rfl;rw[xM];cases hc:h.1.contains n with
   |false =>
    rw[hc] at q;obtain⟨a,b,c,e⟩:=Ao ok n A o3 l Gj t T h1 h2 h3 hT (by omega) hM' (some (.sh (.tup (h.1.map D.int)))) (some (.sh (.int h.2))) o7;refine⟨a,b,c,?_⟩;have hg:dB [some (.sh A),some (.br (.lst (rows.map dS))),some (.sh (.int n)),o3,some (.sh (lu t)),some (.sh (.tup (h.1.map D.int))),some (.sh (.int h.2)),o7]=some (.nx [some (.sh A),some (.br (.lst (rows.map dS))),some (.sh (.int n)),o3,some (.sh (lu t)),some (.sh (.tup (h.1.map D.int))),some (.sh (.int h.2)),o7]):=by unfold dB;refine(lS ?_).trans rfl;simp only[bU,ag,aJ,cg,cL,bI,q]
    simp only[bI,hg];rw[aZ (by decide)];exact e
   |true =>
    rw[hc] at q;obtain⟨x,ex,w,x0,x6⟩:=ok.heap h hm;have exh:xh rows h=x:=by unfold xh;rw[ex];rfl
    have T1:(0:Rat)≤(h.2:Rat):=by have:=Hs.mpr (show(0:Int)≤h.2 by omega);simpa using this
    have p1:0≤(h.2:Rat)*x:=Rat.mul_nonneg T1 x0;have p2:(h.2:Rat)*x≤(h.2:Rat)*6:=Rat.mul_le_mul_of_nonneg_left x6 T1;have hT':T<2^200:=qG (show T<2^190 by omega) (eU (by decide));have bt:=Qo ok.pos ok.lt hT hT' h1 h2 h3;have bx:=Qo (T:=6) ok.pos ok.lt (by decide) (qG (show(6:Int)<2^3 by decide) (eU (by decide))) w x0 x6;have xd:=w.den ok.pos;have hxn:x.num≤6*(x.den:Int):=Jg x6;have dp:=den_pos x;have ado:x.num<2^(3+3300):=v5 hxn (jM (by decide) (oz dp) (by decide) (v5 xd ok.lt));have hmx:h.2*x.num<2^(190+3303):=jM (by omega) bx.1 (hM h cY) ado;have adp:h.2*x.num<2^3900:=qG hmx (eU (by decide));have had:=TX (x:=t) (y:=x) (m:=h.2) (by omega) bt.1 bx.1 bt.2.1 bt.2.2 adp bx.2.2;have Wb:=aan h.1 rows;rw[ex] at Wb;have hmu:=qo (i:=h.2) (j:=x.num) (by omega) bx.1 (qG (hM h cY) (eU (by decide))) (qG bx.2.1 (eU (by decide)));obtain⟨a,b,c,e⟩:=Ao ok n A o3 l Gj (t+(h.2:Rat)*x) (T+6*h.2) (h1.add (w.mul h.2)) (by grind) (by
      rw[Rat.intCast_add,uG];have:((6:Int):Rat)=6:=rfl;grind) (by omega) (by omega) hM' (some (.sh (.tup (h.1.map D.int)))) (some (.sh (.int h.2))) (some (.sh (dX (some x))))
    refine⟨a,b,c,?_⟩;have a0:qA [D.int x.num,.int (x.den:Int)] 0=some (.int x.num):=rfl;have a1:qA [D.int x.num,.int (x.den:Int)] 1=some (.int (x.den:Int)):=rfl;have hg:dB [some (.sh A),some (.br (.lst (rows.map dS))),some (.sh (.int n)),o3,some (.sh (lu t)),some (.sh (.tup (h.1.map D.int))),some (.sh (.int h.2)),o7]=some (.nx [some (.sh A),some (.br (.lst (rows.map dS))),some (.sh (.int n)),o3,some (.sh (lu (t+(h.2:Rat)*x))),some (.sh (.tup (h.1.map D.int))),some (.sh (.int h.2)),some (.sh (dX (some x)))]):=by
      unfold dB;refine(rD ?_).trans ?_
      ·simp only[bU,ag,aJ,cg,cL,bI,q]
      refine(aE (bF (d:=dX (some x)) ?_)).trans ?_
      ·simp only[ax,ae,ao,eV,aJ,cg,cL,bI,dI,Wb]
      refine(bF (d:=lu (t+(h.2:Rat)*x)) ?_).trans rfl;have et:fY (ae (ag rL (aJ 6) (ag iY (aJ 7) (eC (.int 0)))) (ae (ag iY (eV 7) (eC (.int 1))) ao)) [some (.sh A),some (.br (.lst (rows.map dS))),some (.sh (.int n)),o3,some (.sh (lu t)),some (.sh (.tup (h.1.map D.int))),some (.sh (.int h.2)),some (.sh (dX (some x)))]=some (.tup [.int (h.2*x.num),.int (x.den:Int)]):=by simp only[fY,ae,ao,ag,aJ,eV,eC,dX,lu,Ig,a0,a1,cg,cL,bI,dI,Am hmu];rfl
      have key:∀{f g:EF} {η:cP} {u v d:D},f η=some u→g η=some v→nA [u,v]=some (.sh d)→ax nA (ae f (ae g ao)) η=some d:=fun k1 k2 k3=>by simp only[ax,ae,ao,k1,k2,bI,dI,k3]
      exact key (f:=eV 4) rfl et had
    simp only[bI,hg];rw[ay trivial];have e2:qO rows (h::aY l n) t=qO rows (aY l n) (t+(h.2:Rat)*x):=by show qO rows (aY l n) (t+(h.2:Rat)*xh rows h)=_;rw[exh]
    rw[e2];exact e
theorem aap{P:Int}(ok:sV hs rows P)(hh:∀h∈hs,1≤h.2)(hS:ak hs<2^110)(n:Int):iX [.lst (hs.map ah),.lst (rows.map dS),.int n]=some (.sh (dX (ef hs rows n))):=by
  have sn:=qp hh;have nn:=CJ hh n;have nn0:=qp (l:=aY hs n) fun x hx=>hh x (jy.mp hx).1;have hM:∀h∈hs,h.2<2^190:=fun h hm=>by
    have key:∀{l:dq},(∀x∈l,1≤x.2)→h∈l→h.2≤ak l:=by
      intro l;induction l with
      |nil=>intro _ z;nomatch z
      |cons y l ih =>
       intro hy z;have h0:=qp (l:=l) fun x hx=>hy x (ly _ hx);have h1:=hy y cY;rw[dG];rcases fR.mp z with rfl|z
       ·omega
       ·have:=ih (fun x hx=>hy x (ly _ hx)) z;omega
    exact v5 (key hh hm) (qG hS (eU (by decide)))
  have hT:(1:Int)+6*ak hs<2^190:=by
    have h1:(6:Int)*ak hs<2^(3+110):=jM (by decide) sn (by decide) hS;have h2:(2:Int)^113+1≤2^190:=by decide
    have e:(3+110:Nat)=113:=rfl;rw[e] at h1;omega
  refine cC ?_;show lr [some (.sh (.lst (hs.map ah))),some (.br (.lst (rows.map dS))),some (.sh (.int n)),none,none,none,none,none]=_;unfold lr;refine(aE (bF (d:=.int (ak (aY hs n))) ?_)).trans ?_
  ·simp only[ax,ae,ao,eV,cg,cL,bI,dI,aao]
  simp only[ig,ik];unfold ef;by_cases h0:ak (aY hs n)=0
  ·rw[ay h0];refine ue ((rD ?_).trans rfl);simp[bU,ag,aJ,eC,jl,h0]
  rw[aZ h0];refine(aE ((lS ?_).trans rfl)).trans ?_
  ·simp[bU,ag,aJ,eC,jl,h0]
  refine(aE (bF (d:=lu 1) rfl)).trans ?_;simp only[ig,ik];obtain⟨o5,o6,o7,e⟩:=Ao ok n (.lst (hs.map ah)) (some (.sh (.int (ak (aY hs n))))) hs (fun h hm=>⟨hm,hh h hm⟩) 1 1 (ie.one P) (by decide) (by decide) (by decide) hT hM none none none;refine(aE ((fL (ds:=hs.map ah) rfl).trans e)).trans ?_
  -- the last step
  obtain⟨w,t0,t1⟩:=EH ok (l:=aY hs n) (fun h hm=>⟨(jy.mp hm).1,hh h (jy.mp hm).1⟩) (t:=1) (T:=1) (ie.one P) (by decide) (by decide);generalize qO rows (aY hs n) 1=t at w t0 t1;have hTT:(1:Int)+6*ak (aY hs n)<2^200:=qG (show(1:Int)+6*ak (aY hs n)<2^190 by omega) (eU (by decide));have bt:=Qo ok.pos ok.lt (by omega) hTT w t0 t1;have dp:=den_pos t;have hN2:ak (aY hs n)<2^110:=by omega
  have hmu:=qo (i:=ak (aY hs n)) (j:=(t.den:Int)) nn0 (oz dp) (qG hN2 (eU (by decide))) (qG bt.2.2 (eU (by decide)));have hl:=G6 (a:=t.num) (b:=ak (aY hs n)*(t.den:Int)) bt.1 (Int.mul_pos (by omega) dp) (qG (jM nn0 (oz dp) hN2 bt.2.2) (eU (by decide)));have ed:Rat.divInt t.num (ak (aY hs n)*(t.den:Int))=t / (ak (aY hs n):Rat):=by
    have hN:(ak (aY hs n):Rat)≠0:=fun e=>h0 (Rat.intCast_eq_zero_iff.mp e);have hd:((t.den:Int):Rat)≠0:=fun e=>by have:=Rat.intCast_eq_zero_iff.mp e;omega
    have e1:t=((t.num:Int):Rat) / ((t.den:Int):Rat):=by rw[←Rat.divInt_eq_div,Rat.num_divInt_den]
    rw[Rat.divInt_eq_div,uG]
    conv=>rhs;rw[e1]
    grind
  rw[ed] at hl;refine ke ?_;have a0:qA [D.int t.num,.int (t.den:Int)] 0=some (.int t.num):=rfl;have a1:qA [D.int t.num,.int (t.den:Int)] 1=some (.int (t.den:Int)):=rfl;simp only[ax,ae,ao,ag,eV,aJ,eC,lu,Ig,a0,a1,cg,cL,bI,dI,Am hmu,dX];simp only[hl,lu,bI]
theorem T2(rows:uC):bH [.lst (rows.map dS)]=some (.ol ((rows.map fun r=>r.1).map D.int)):=by
  refine cC ?_;show gI [some (.br (.lst (rows.map dS)))]=_;unfold gI;refine fT ?_;have q:cE (aD false 0) eQ (ag iY (eV 0) (eC (.int 0))) (rows.map dS) (List.replicate 1 none++[])=some ((rows.map fun r=>r.1).map D.int):=by
    rw[e9];refine eX dS _ fun r _=>⟨[some (.br (dS r))],rfl,rfl,?_⟩
    have him:(dS r).A2=true:=by unfold dS;rw[uP,mX,sI,mX,xq];rfl
    have a0:iY (dS r) (.int 0)=some (.int r.1):=rfl;simp only[ag,eV,eC,cg,him,gK,bI,a0,Function.comp]
  simp only[bP,Ia,cg,bI,jd,jb,q]
def i7(c:Int)(rows:uC):aO:=((List.range c.toNat).map fun(i:Nat)=>(0:Int)+(i:Int)).filter fun n=>!(rows.map fun r=>r.1).contains n
theorem Ji(h0:0≤c)(h6:c≤6)(rows:uC):fF [.int c,.lst (rows.map dS)]=some (.ol ((i7 c rows).map D.int)):=by
  refine cC ?_;show kB [some (.sh (.int c)),some (.br (.lst (rows.map dS)))]=_;unfold kB;refine fT ?_;have hr:(if c≤10000∧-10000≤c then some (dk 0 c.toNat) else none)=some ((((List.range c.toNat).map fun(i:Nat)=>(0:Int)+(i:Int))).map D.int):=by rw[ay ⟨by omega,by omega⟩,jC]
  have q:cE (aD true 0) (bU (ag (inD true) (aJ 0) (ax bH (ae (aJ 1) ao)))) (eV 0) ((((List.range c.toNat).map fun(i:Nat)=>(0:Int)+(i:Int))).map D.int) (List.replicate 1 none++[some (.br (.lst (rows.map dS)))])=some ((i7 c rows).map D.int):=by
    unfold i7;have key:=dw (b:=aD true 0) (t:=bU (ag (inD true) (aJ 0) (ax bH (ae (aJ 1) ao)))) (f:=eV 0) (η:=List.replicate 1 none++[some (.br (.lst (rows.map dS)))]) (xs:=(List.range c.toNat).map fun(i:Nat)=>(0:Int)+(i:Int)) D.int (fun n=>!(rows.map fun r=>r.1).contains n) D.int;refine key fun n _=>⟨[some (.sh (.int n)),some (.br (.lst (rows.map dS)))],rfl,?_,fun _=>rfl⟩
    have q:=rC (n:=n) (S:=.lst ((rows.map fun r=>r.1).map D.int)) (ms:=rows.map fun r=>r.1) rfl;simp only[bU,ag,aJ,ax,ae,ao,cg,cL,bI,dI,T2,q]
  simp only[bP,eG,aJ,cg,cL,bI,hr,jd,bY,jb,sY,q]
def iZ(f:Int→Option Rat)(best:Option (Int×Option Rat))(n:Int):Option (Int×Option Rat):=match best with
  |none=>some (n,f n)
  |some b=>if bW (f n) b.2=true then some (n,f n) else some b
def KZ(f:Int→Option Rat)(l:aO):Option (Int×Option Rat):=l.foldl (iZ f) none
def K0:Option (Int×Option Rat)→D
  |none=>.non
  |some b=>dS b
theorem G8(f:Int→Option Rat):∀(l:aO) (s:Option (Int×Option Rat)) {b:Int×Option Rat},(∀y,s=some y→y.2=f y.1)→l.foldl (iZ f) s=some b→b.2=f b.1∧(s=some b∨b.1∈l)
  |[],s,b,hs,h=>⟨hs b h,.inl h⟩
  |n::l,s,b,hs,h=>by
   rw[xW] at h;have FY:∀y,iZ f s n=some y→y.2=f y.1:=fun y hy=>by
     unfold iZ at hy;split at hy
     ·cases hy;rfl
     · split at hy
       ·cases hy;rfl
       ·cases hy;exact hs _ rfl
   obtain⟨h1,h2⟩:=G8 f l (iZ f s n) FY h;refine⟨h1,?_⟩;rcases h2 with h2|h2
   · unfold iZ at h2;split at h2
     ·cases h2;exact .inr (by simp)
     · split at h2
       ·cases h2;exact .inr (by simp)
       ·cases h2;exact .inl rfl
   ·exact .inr (by simp[h2])
theorem Xl(h0:0≤c)(h6:c≤6){P:Int}(ok:sV hs rows P)(hh:∀h∈hs,1≤h.2)(hS:ak hs<2^110)(hB:∀n,BdO (ef hs rows n)):lI [.int c,.lst (hs.map ah),.lst (rows.map dS)]=some (.sh (K0 (KZ (ef hs rows) (i7 c rows)))):=by
  refine cC ?_;show pB [some (.sh (.int c)),some (.sh (.lst (hs.map ah))),some (.br (.lst (rows.map dS))),none,none,none]=_;unfold pB;refine(aE (bF (d:=.non) rfl)).trans ?_
  let st (s:Option (Int×Option Rat)) (o4 o5:eP):cP:=[some (.sh (.int c)),some (.sh (.lst (hs.map ah))),some (.br (.lst (rows.map dS))),some (.sh (K0 s)),o4,o5]
  obtain⟨η',e,o4,o5,hb,rfl⟩:=kU (b:=aD true 4) (g:=mK) D.int (fun(s:Option (Int×Option Rat)) η=>∃o4 o5,(∀y,s=some y→y.2=ef hs rows y.1)∧η=st s o4 o5)
    (iZ (ef hs rows)) (xs:=i7 c rows) (η:=st none none none) none ⟨none,none,(fun _ z=>nomatch z),rfl⟩ (fun n _ s η ⟨o4,o5,hb,e⟩=>by
      subst e;refine⟨st s (some (.sh (.int n))) o5,st (iZ (ef hs rows) s n) (some (.sh (.int n))) (some (.sh (dX (ef hs rows n)))),rfl,?_,_,_,?_,rfl⟩
      · unfold mK;have hl:=aap ok hh hS n;refine(aE (η':=st s (some (.sh (.int n))) (some (.sh (dX (ef hs rows n))))) ((bF (d:=dX (ef hs rows n)) ?_).trans rfl)).trans ?_
        ·simp only[st,ax,ae,ao,eV,aJ,cg,cL,bI,dI,hl]
        have TQ:cq 3 (fY (ae (eV 4) (ae (eV 5) ao))) (st s (some (.sh (.int n))) (some (.sh (dX (ef hs rows n)))))=some (.nx (st (some (n,ef hs rows n)) (some (.sh (.int n))) (some (.sh (dX (ef hs rows n)))))):=rfl;cases s with
        |none=>refine(rD ?_).trans TQ;rfl
        |some b =>
         have ha:=TY (x:=ef hs rows n) (y:=b.2) (hB n) (by rw[hb b rfl];exact hB _);have a1:iY (dS b) (.int 1)=some (dX b.2):=rfl;have ht:mh (bU (ag pL (aJ 3) (eC .non))) (bU (ax gQ (ae (eV 5) (ae (ag iY (eV 3) (eC (.int 1))) ao)))) (st (some b) (some (.sh (.int n))) (some (.sh (dX (ef hs rows n)))))=some (bW (ef hs rows n) b.2):=by have n0:pL (dS b) .non=some (.bl false):=rfl;simp only[st,K0,mh,bU,ag,ax,ae,ao,eV,aJ,eC,cg,cL,bI,dI,n0,a1,ha];rfl
         cases hc:bW (ef hs rows n) b.2 with
         |true =>
          have es:iZ (ef hs rows) (some b) n=some (n,ef hs rows n):=by show(if bW (ef hs rows n) b.2=true then some (n,ef hs rows n) else some b)=_;rw[ay hc]
          rw[es];rw[hc] at ht;exact(rD ht).trans TQ
         |false =>
          have es:iZ (ef hs rows) (some b) n=some b:=by show(if bW (ef hs rows n) b.2=true then some (n,ef hs rows n) else some b)=_;rw[aZ (by rw[hc];decide)]
          rw[es];rw[hc] at ht;exact(lS ht).trans rfl
      · intro y hy;unfold iZ at hy;split at hy
        ·cases hy;rfl
        · split at hy
          ·cases hy;rfl
          ·cases hy;exact hb _ rfl)
  refine(aE ((fL (ds:=(i7 c rows).map D.int) ?_).trans e)).trans ?_
  ·simp only[st,cI,ax,ae,ao,eV,aJ,ig,ik,cg,cL,bI,dI,Ji h0 h6,dh]
  ·rfl
theorem Ap{a b c:Option Rat}(h1:bW b a=false)(h2:bW c b=false):bW c a=false:=by cases a<;>cases b<;>cases c<;>simp_all [bW];grind
theorem T3{a b:Option Rat}(h1:bW a b=false)(h2:bW b a=false):a=b:=by cases a<;>cases b<;>simp_all [bW];grind
theorem T4(a:Option Rat):bW a a=false:=by cases a<;>simp[bW]
theorem Aq(f:Int→Option Rat):∀(l:aO) (s:Option (Int×Option Rat)) {b:Int×Option Rat},l.foldl (iZ f) s=some b→(∀m∈l,bW (f m) b.2=false)∧∀y,s=some y→bW y.2 b.2=false
  |[],s,b,h=>⟨(fun _ z=>nomatch z),fun y hy=>by
   have:s=some b:=h;rw[this] at hy;cases hy;exact T4 _⟩
  |n::l,s,b,h=>by
   obtain⟨i1,i2⟩:=Aq f l (iZ f s n) h;have key:bW (f n) b.2=false∧∀y,s=some y→bW y.2 b.2=false:=by
     cases s with
     |none=>exact⟨i2 _ rfl,fun _ z=>nomatch z⟩
     |some y =>
      by_cases hc:bW (f n) y.2=true
      · have:=i2 (n,f n) (ay hc);refine⟨this,fun y' hy=>?_⟩;cases hy;have h3:bW y.2 (f n)=false:=by
          cases e:bW y.2 (f n) with
          |false=>rfl
          |true=>exfalso;revert hc e;cases y.2<;>cases f n<;>simp[bW];grind
        exact Ap this h3
      ·have:=i2 y (aZ hc);refine⟨Ap this (by simpa using hc),fun y' hy=>?_⟩;cases hy;exact this
   refine⟨fun m hm=>?_,key.2⟩;rcases fR.mp hm with rfl|hm
   ·exact key.1
   ·exact i1 m hm
theorem Ar(f:Int→Option Rat):∀(l:aO) (s:Option (Int×Option Rat)) {b:Int×Option Rat},l.Pairwise (·<·)→(∀y,s=some y→∀m∈l,y.1<m)→l.foldl (iZ f) s=some b→(∀m∈l,f m=b.2→b.1≤m)∧∀y,s=some y→y.2=b.2→b.1≤y.1
  |[],s,b,_,_,h=>⟨(fun _ z=>nomatch z),fun y hy _=>by
   have:s=some b:=h;rw[this] at hy;cases hy;exact Int.le_refl _⟩
  |n::l,s,b,hp,hs,h=>by
   have Bn:=List.pairwise_cons.mp hp;have FY:∀y,iZ f s n=some y→∀m∈l,y.1<m:=fun y hy m hm=>by
     unfold iZ at hy;split at hy
     ·cases hy;exact Bn.1 m hm
     · split at hy
       ·cases hy;exact Bn.1 m hm
       ·cases hy;exact hs _ rfl m (ly _ hm)
   obtain⟨i1,i2⟩:=Ar f l (iZ f s n) Bn.2 FY h;obtain⟨j1,j2⟩:=Aq f l (iZ f s n) h;cases s with
   |none =>
    refine⟨fun m hm e=>?_,fun _ z=>nomatch z⟩;rcases fR.mp hm with rfl|hm
    ·exact i2 (m,f m) rfl e
    ·exact i1 m hm e
   |some y =>
    by_cases hc:bW (f n) y.2=true
    · have e0:iZ f (some y) n=some (n,f n):=ay hc;have k2:=i2 (n,f n) e0;have k3:=j2 (n,f n) e0;refine⟨fun m hm e=>?_,fun y' hy e=>?_⟩
      · rcases fR.mp hm with rfl|hm
        ·exact k2 e
        ·exact i1 m hm e
      ·cases hy;rw[e] at hc;rw[hc] at k3;cases k3
    · have e0:iZ f (some y) n=some y:=aZ hc;have k2:=i2 y e0;have k3:=j2 y e0;refine⟨fun m hm e=>?_,fun y' hy e=>?_⟩
      · rcases fR.mp hm with rfl|hm
        ·have e2:y.2=b.2:=T3 k3 (by rw[←e];simpa using hc);have:=k2 e2;have:=hs y rfl m cY;omega
        ·exact i1 m hm e
      ·cases hy;exact k2 e
theorem M4(f:Int→Option Rat){l:aO}(h:l≠[]):∃b,KZ f l=some b:=by
  have key:∀(l:aO) (y:Int×Option Rat),∃b,l.foldl (iZ f) (some y)=some b:=by
    intro l;induction l with
    |nil=>intro y;exact⟨y,rfl⟩
    |cons n l ih =>
     intro y;rw[xW];unfold iZ;simp only;split
     ·exact ih _
     ·exact ih _
  cases l with
  |nil=>exact absurd rfl h
  |cons n l=>exact key l (n,f n)
theorem vL(names:aO)(rows:uC)(r:Int×Option Rat):G7 names (rows++[r])=if names.contains r.1=true then r.2 else G7 names rows:=by unfold G7;rw[List.foldl_append];rfl
theorem abq{n:Int}:n∈i7 c rows↔(0≤n∧n<c)∧n∉rows.map fun r=>r.1:=by
  unfold i7;rw[jy,ja];constructor
  ·rintro⟨⟨i,hi,rfl⟩,h⟩;have:=mW.mp hi;refine⟨by omega,?_⟩;simpa using h
  ·rintro⟨⟨h0,h1⟩,h⟩;refine⟨⟨n.toNat,mW.mpr (by omega),by omega⟩,?_⟩;simpa using h
theorem Qq(c:Int)(rows:uC):(i7 c rows).Pairwise (·<·):=by unfold i7;refine List.Pairwise.filter _ ?_;rw[Dh];exact List.pairwise_lt_range.imp fun h=>by omega
theorem Xm(c:Int)(rows:uC):(i7 c rows).Nodup:=(Qq c rows).imp fun h=>by omega
theorem G9(c:Int)(rows:uC)(r:Int×Option Rat):i7 c (rows++[r])=(i7 c rows).erase r.1:=by
  rw[List.Nodup.erase_eq_filter (Xm c rows)];unfold i7;rw[List.filter_filter];refine List.filter_congr fun n _=>?_;rw[v9,Bb];simp;constructor
  ·rintro⟨a,b⟩;exact⟨b,a⟩
  ·rintro⟨a,b⟩;exact⟨b,a⟩
def Jj:Option Rat→Int
  |none=>1
  |some r=>(r.den:Int)
def xN:uC→Int
  |[]=>1
  |r::l=>Jj r.2*xN l
theorem ux(r:Int×Option Rat):∀l:uC,xN (l++[r])=xN l*Jj r.2
  |[]=>by show Jj r.2*1=1*Jj r.2;omega
  |x::l=>by show Jj x.2*xN (l++[r])=Jj x.2*xN l*Jj r.2;rw[ux r l,Int.mul_assoc]
structure Sq (c:Int) (hs:dq) (rows:uC) (L:Option Rat) (P:Int):Prop where
  pr:P=xN rows
  pos:0<P
  pb:P≤2^(105*(2^rows.length-1))
  heap:∀h∈hs,∃x,G7 h.1 rows=some x∧ie P x∧0≤x∧x≤(rows.length:Rat)∧∀l,L=some l→x≤l
  cnt:(i7 c rows).length+rows.length=c.toNat
  mn:∀m∈i7 c rows,bW (ef hs rows m) L=false
theorem K1(h:k≤5):105*(2^k-1)≤3255:=by
  have:k=0∨k=1∨k=2∨k=3∨k=4∨k=5:=by omega
  rcases this with rfl|rfl|rfl|rfl|rfl|rfl<;>decide
theorem Sq.ok{P:Int}(s:Sq c hs rows L P)(h5:rows.length≤5):sV hs rows P:=by
  refine⟨s.pos,?_,fun h hm=>?_⟩
  · have h1:=s.pb;have h2:(2:Int)^(105*(2^rows.length-1))≤2^3255:=eU (K1 h5);have h3:(2:Int)^3255<2^3300:=by decide +kernel
    exact v5 (Int.le_trans h1 h2) h3
  · obtain⟨x,e,w,x0,x1,_⟩:=s.heap h hm;refine⟨x,e,w,x0,?_⟩;have:(rows.length:Rat)≤6:=by
      have:=Hs.mpr (show((rows.length:Nat):Int)≤6 by omega);rw[Rat.intCast_natCast] at this;exact this
    grind
theorem Qr{rows:uC}{K:Rat}:∀{l:dq},(∀h∈l,1≤h.2∧xh rows h≤K)→∀t:Rat,qO rows l t≤t+K*(ak l:Rat)
  |[],_,t=>by have e:ak []=0:=rfl;rw[e];show t≤t+K*((0:Int):Rat);have:((0:Int):Rat)=0:=rfl;grind
  |h::l,hl,t=>by
   obtain⟨h1,h2⟩:=hl h cY;have ih:=Qr (rows:=rows) (K:=K) (l:=l) (fun y hy=>hl y (ly _ hy)) (t+(h.2:Rat)*xh rows h);have T1:(0:Rat)≤(h.2:Rat):=by have:=Hs.mpr (show(0:Int)≤h.2 by omega);simpa using this
   have p2:(h.2:Rat)*xh rows h≤(h.2:Rat)*K:=Rat.mul_le_mul_of_nonneg_left h2 T1;have e:qO rows (h::l) t=qO rows l (t+(h.2:Rat)*xh rows h):=rfl;rw[e,dG,Rat.intCast_add];grind
theorem Ha{rows rows':uC}:∀{l:dq},(∀h∈l,1≤h.2∧xh rows h≤xh rows' h)→∀{t t':Rat},t≤t'→qO rows l t≤qO rows' l t'
  |[],_,t,t',h=>h
  |h::l,hl,t,t',ht=>by
   obtain⟨h1,h2⟩:=hl h cY;have T1:(0:Rat)≤(h.2:Rat):=by have:=Hs.mpr (show(0:Int)≤h.2 by omega);simpa using this
   have p2:(h.2:Rat)*xh rows h≤(h.2:Rat)*xh rows' h:=Rat.mul_le_mul_of_nonneg_left h2 T1;have ih:=Ha (rows:=rows) (rows':=rows') (l:=l) (fun y hy=>hl y (ly _ hy)) (t:=t+(h.2:Rat)*xh rows h) (t':=t'+(h.2:Rat)*xh rows' h) (by grind);exact ih
theorem Hb{a b n:Rat}(hn:0<n)(h:a≤b):a / n≤b / n:=by rw[Rat.div_def,Rat.div_def];exact Rat.mul_le_mul_of_nonneg_right h (Rat.le_of_lt (Rat.inv_pos.mpr hn))
theorem Qs(hh:∀h∈hs,1≤h.2){rows':uC}(h:∀h∈hs,xh rows h≤xh rows' h)(n:Int):bW (ef hs rows' n) (ef hs rows n)=false:=by
  unfold ef;by_cases h0:ak (aY hs n)=0
  ·rw[ay h0];rfl
  · rw[aZ h0,aZ h0];have nn0:=qp (l:=aY hs n) fun x hx=>hh x (jy.mp hx).1;have hn:(0:Rat)<(ak (aY hs n):Rat):=by
      have:=Rat.intCast_lt_intCast.mpr (show(0:Int)<ak (aY hs n) by omega);simpa using this
    have:=Hb hn (Ha (rows:=rows) (rows':=rows') (l:=aY hs n) (fun x hx=>⟨hh x (jy.mp hx).1,h x (jy.mp hx).1⟩) (t:=1) (t':=1) Rat.le_refl);unfold bW;exact lL (Rat.not_lt.mpr this)
theorem Xn{P T:Int}{t:Rat}(hP:0<P)(Wn:P<2^3400)(hT:0≤T)(hT2:T<2^200)(h:ie P t)(h0:0≤t)(h1:t≤(T:Rat)):Bd t:=by have hd:=h.den hP;have dp:=den_pos t;have hn:=Jg h1;refine⟨Qn h0,?_,v5 hd (qG Wn (eU (by decide)))⟩;have h2:T*(t.den:Int)<2^(200+3400):=jM hT (oz dp) hT2 (v5 hd Wn);exact v5 hn (qG h2 (eU (by decide)))
theorem Qt(hh:∀h∈hs,1≤h.2)(hN:ak hs≤2^105){P:Int}(s:Sq c hs rows L P)(h5:rows.length≤5)(n:Int){y:Rat}(e:ef hs rows n=some y):0≤y∧y≤((rows.length+1:Nat):Rat)∧Bd y∧(y.den:Int)≤P*2^105:=by
  have ok:=s.ok h5;have nle:=CJ hh n;have nn0:=qp (l:=aY hs n) fun x hx=>hh x (jy.mp hx).1;unfold ef at e;by_cases h0:ak (aY hs n)=0
  ·rw[ay h0] at e;cases e
  rw[aZ h0] at e;have hn:(0:Rat)<(ak (aY hs n):Rat):=by have:=Rat.intCast_lt_intCast.mpr (show(0:Int)<ak (aY hs n) by omega);simpa using this
  have hn1:(1:Rat)≤(ak (aY hs n):Rat):=by have:=Hs.mpr (show(1:Int)≤ak (aY hs n) by omega);simpa using this
  obtain⟨w,t0,_⟩:=EH ok (l:=aY hs n) (fun h hm=>⟨(jy.mp hm).1,hh h (jy.mp hm).1⟩) (t:=1) (T:=1) (ie.one P) (by decide) (by decide);have tl:=Qr (rows:=rows) (K:=(rows.length:Rat)) (l:=aY hs n) (fun h hm=>⟨hh h (jy.mp hm).1,by
    obtain⟨x,e,_,_,x1,_⟩:=s.heap h (jy.mp hm).1;unfold xh;rw[e];exact x1⟩) 1
  generalize qO rows (aY hs n) 1=t at e w t0 tl;have ey:y=t / (ak (aY hs n):Rat):=(ow e).symm;have eN:y*(ak (aY hs n):Rat)=t:=by rw[ey];grind
  have y0:0≤y:=by rw[ey,Rat.div_def];exact Rat.mul_nonneg t0 (Rat.le_of_lt (Rat.inv_pos.mpr hn))
  have e1:((rows.length+1:Nat):Rat)=(rows.length:Rat)+1:=by simp
  have y1:y≤((rows.length+1:Nat):Rat):=by
    have h1:t≤((rows.length:Rat)+1)*(ak (aY hs n):Rat):=by grind
    have h2:=Hb hn h1;rw[←ey] at h2;have h3:((rows.length:Rat)+1)*(ak (aY hs n):Rat) / (ak (aY hs n):Rat)=(rows.length:Rat)+1:=by grind
    rw[h3] at h2;rw[e1];exact h2
  have wy:ie (P*ak (aY hs n)) y:=by obtain⟨z,hz⟩:=w;refine⟨z,?_⟩;rw[uG,←hz,←eN];grind
  have pN:0<P*ak (aY hs n):=Int.mul_pos ok.pos (by omega);have pN2:P*ak (aY hs n)≤P*2^105:=Int.mul_le_mul_of_nonneg_left (by omega) (oz ok.pos);have hP5:P≤2^3255:=Int.le_trans s.pb (eU (K1 h5));have pN3:P*2^105≤2^3360:=by have h1:P*2^105≤2^3255*2^105:=Int.mul_le_mul_of_nonneg_right hP5 (by decide +kernel);rw[←Int.pow_add] at h1;exact h1
  have h36:(2:Int)^3360<2^3400:=by decide +kernel
  refine⟨y0,y1,Xn (T:=6) pN (by omega) (by decide) (qG (show(6:Int)<2^3 by decide) (eU (by decide))) wy y0 ?_,Int.le_trans (wy.den pN) pN2⟩;have h6:((rows.length+1:Nat):Rat)≤6:=by have:=Hs.mpr (show(((rows.length+1:Nat)):Int)≤6 by omega);rw[Rat.intCast_natCast] at this;exact this
  have e6:((6:Int):Rat)=6:=rfl;grind
theorem T5(h0:0≤c)(h6:c≤6)(hh:∀h∈hs,1≤h.2)(hN:ak hs≤2^105){P:Int}(s:Sq c hs rows L P)(hl:(rows.length:Int)<c):∃n y,KZ (ef hs rows) (i7 c rows)=some (n,y)∧y=ef hs rows n∧n∈i7 c rows∧(∀m∈i7 c rows,bW (ef hs rows m) y=false)∧(∀m∈i7 c rows,ef hs rows m=y→n≤m)∧bW y L=false∧∃P',Sq c hs (rows++[(n,y)]) y P':=by
  have h5:rows.length≤5:=by omega
  have hE:i7 c rows≠[]:=fun e=>by have:=s.cnt;rw[e] at this;simp at this;omega
  obtain⟨⟨n,y⟩,e⟩:=M4 (ef hs rows) hE;obtain⟨e1,e2⟩:=G8 (ef hs rows) (i7 c rows) none (fun _ z=>nomatch z) e;have hn:n∈i7 c rows:=e2.resolve_left fun z=>nomatch z;have e1:y=ef hs rows n:=e1;obtain⟨m1,_⟩:=Aq (ef hs rows) (i7 c rows) none e;obtain⟨f1,_⟩:=Ar (ef hs rows) (i7 c rows) none (Qq c rows) (fun _ z=>nomatch z) e;have hL:bW y L=false:=by rw[e1];exact s.mn n hn
  refine⟨n,y,e,e1,hn,m1,f1,hL,?_⟩
  -- the new state
  have hx:∀h∈hs,xh rows h≤xh (rows++[(n,y)]) h:=fun h hm=>by
    obtain⟨x,ex,_,_,_,xl⟩:=s.heap h hm;unfold xh;rw[vL,ex];by_cases hc:h.1.contains n=true
    · rw[ay hc];cases y with
      |none =>
       exfalso;have hz:ak (aY hs n)=0:=by
         unfold ef at e1;split at e1
         ·assumption
         ·cases e1
       have hp:1≤ak (aY hs n):=by
         have X6:h∈aY hs n:=jy.mpr ⟨hm,hc⟩;have key:∀{l:dq},(∀x∈l,1≤x.2)→h∈l→1≤ak l:=by
           intro l;induction l with
           |nil=>intro _ z;nomatch z
           |cons z l ih=>intro hy hz;have a0:=qp (l:=l) fun x hx=>hy x (ly _ hx);have a1:=hy z cY;rw[dG];omega
         exact key (fun x hx=>hh x (jy.mp hx).1) X6
       omega
      |some y' =>
       show x≤y';cases L with
       |none=>exfalso;simp[bW] at hL
       |some l =>
        have:=xl l rfl;have h2:¬ y'<l:=by simpa[bW] using hL
        have:=Rat.not_lt.mp h2;grind
    ·rw[aZ hc];exact Rat.le_refl
  have aas:(i7 c (rows++[(n,y)])).length+(rows++[(n,y)]).length=c.toNat:=by rw[G9,List.length_erase_of_mem hn,kK];have:=s.cnt;have:1≤(i7 c rows).length:=List.length_pos_of_mem hn;simp;omega
  have hmn:∀m∈i7 c (rows++[(n,y)]),bW (ef hs (rows++[(n,y)]) m) y=false:=fun m hm=>by rw[G9] at hm;exact Ap (m1 m (List.mem_of_mem_erase hm)) (Qs hh hx m)
  have T6:(rows++[(n,y)]).length=rows.length+1:=by simp
  cases y with
  |none =>
   refine⟨P,by rw[ux,s.pr];show xN rows=xN rows*1;omega,s.pos,?_,fun h hm=>?_,aas,hmn⟩
   ·rw[T6];refine Int.le_trans s.pb (eU ?_);have:2^rows.length≤2^(rows.length+1):=Nat.pow_le_pow_right (by decide) (by omega);omega
   · obtain⟨x,ex,w,x0,x1,xl⟩:=s.heap h hm;have hc:¬ h.1.contains n=true:=fun hc=>by
       have:=hx h hm;have hz:ak (aY hs n)=0:=by
         unfold ef at e1;split at e1
         ·assumption
         ·cases e1
       have hp:1≤ak (aY hs n):=by
         have X6:h∈aY hs n:=jy.mpr ⟨hm,hc⟩;have key:∀{l:dq},(∀x∈l,1≤x.2)→h∈l→1≤ak l:=by
           intro l;induction l with
           |nil=>intro _ z;nomatch z
           |cons z l ih=>intro hy hz;have a0:=qp (l:=l) fun x hx=>hy x (ly _ hx);have a1:=hy z cY;rw[dG];omega
         exact key (fun x hx=>hh x (jy.mp hx).1) X6
       omega
     refine⟨x,by rw[vL,aZ hc];exact ex,w,x0,?_,fun l hl=>nomatch hl⟩;rw[T6];have e1:((rows.length+1:Nat):Rat)=(rows.length:Rat)+1:=by simp
     grind
  |some y' =>
   obtain⟨y0,y1,bd,hd⟩:=Qt hh hN s h5 n e1.symm;have dp:=den_pos y';refine⟨P*(y'.den:Int),by rw[ux,s.pr];rfl,Int.mul_pos s.pos dp,?_,fun h hm=>?_,aas,hmn⟩
   · rw[T6];have h1:P*(y'.den:Int)≤P*(P*2^105):=Int.mul_le_mul_of_nonneg_left hd (oz s.pos);have h2:P*(P*2^105)≤2^(105*(2^rows.length-1))*(2^(105*(2^rows.length-1))*2^105):=by
       have aat:(0:Int)≤2^105:=by decide +kernel
       have a1:P*2^105≤2^(105*(2^rows.length-1))*2^105:=Int.mul_le_mul_of_nonneg_right s.pb aat;have a2:0≤P*2^105:=Int.mul_nonneg (oz s.pos) aat;have a3:(0:Int)≤2^(105*(2^rows.length-1)):=Int.le_trans (oz s.pos) s.pb;exact Int.le_trans (Int.mul_le_mul_of_nonneg_right s.pb a2) (Int.mul_le_mul_of_nonneg_left a1 a3)
     rw[←Int.pow_add,←Int.pow_add] at h2;have h3:105*(2^rows.length-1)+(105*(2^rows.length-1)+105)≤105*(2^(rows.length+1)-1):=by have q1:1≤2^rows.length:=Nat.one_le_two_pow;rw[Nat.pow_succ];omega
     exact Int.le_trans h1 (Int.le_trans h2 (eU h3))
   · obtain⟨x,ex,w,x0,x1,xl⟩:=s.heap h hm;have e1':((rows.length+1:Nat):Rat)=(rows.length:Rat)+1:=by simp
     rw[vL,T6];by_cases hc:h.1.contains n=true
     · rw[ay hc];refine⟨y',rfl,⟨P*y'.num,?_⟩,y0,y1,fun l hl=>?_⟩
       · rw[uG,uG];have e2:((y'.den:Int):Rat)*y'=((y'.num:Int):Rat):=by
           have hd0:((y'.den:Int):Rat)≠0:=fun e=>by have:=Rat.intCast_eq_zero_iff.mp e;omega
           have e3:y'=((y'.num:Int):Rat) / ((y'.den:Int):Rat):=by rw[←Rat.divInt_eq_div,Rat.num_divInt_den]
           conv=>lhs;rhs;rw[e3]
           grind
         rw[Rat.mul_assoc,e2]
       ·cases hl;exact Rat.le_refl
     · rw[aZ hc];refine⟨x,ex,?_,x0,by grind,fun l hl=>?_⟩
       ·obtain⟨z,hz⟩:=w;refine⟨z*(y'.den:Int),?_⟩;rw[uG,uG,←hz];grind
       · cases hl;have:=hx h hm;unfold xh at this;rw[vL,aZ hc,ex] at this;cases L with
         |none=>exfalso;simp[bW] at hL
         |some l' =>
          have q1:=xl l' rfl;have h2:¬ y'<l':=by simpa[bW] using hL
          have:=Rat.not_lt.mp h2;grind
inductive Run (c:Int) (hs:dq):uC→Option Rat→uC→Prop
  |done {rows:uC} {L:Option Rat} (h:(rows.length:Int)=c):Run c hs rows L []
  |step {rows:uC} {L:Option Rat} {P:Int} {n:Int} {y:Option Rat} {rest:uC} (s:Sq c hs rows L P) (hl:(rows.length:Int)<c) (e:KZ (ef hs rows) (i7 c rows)=some (n,y)) (ey:y=ef hs rows n) (hn:n∈i7 c rows)
      (m1:∀m∈i7 c rows,bW (ef hs rows m) y=false) (m2:∀m∈i7 c rows,ef hs rows m=y→n≤m) (hL:bW y L=false) (t:Run c hs (rows++[(n,y)]) y rest):Run c hs rows L ((n,y)::rest)
theorem Qu{c:Int}(h0:0≤c)(h6:c≤6){hs:dq}(hh:∀h∈hs,1≤h.2)(hN:ak hs≤2^105):∀(k:Nat) {rows:uC} {L:Option Rat} {P:Int},Sq c hs rows L P→(rows.length:Int)+k=c→∃rest,Run c hs rows L rest∧rest.length=k
  |0,rows,L,P,s,h=>⟨[],.done (by omega),rfl⟩
  |k+1,rows,L,P,s,h=>by obtain⟨n,y,e,ey,hn,m1,m2,hL,P',s'⟩:=T5 h0 h6 hh hN s (by omega);obtain⟨rest,t,hl⟩:=Qu h0 h6 hh hN k s' (by simp;omega);exact⟨(n,y)::rest,.step s (by omega) e ey hn m1 m2 hL t,by simp[hl]⟩
theorem T7(hh:∀h∈hs,1≤h.2)(hN:ak hs≤2^105){P:Int}(s:Sq c hs rows L P)(h5:rows.length≤5)(n:Int):BdO (ef hs rows n):=by
  cases e:ef hs rows n with
  |none=>trivial
  |some y=>exact(Qt hh hN s h5 n e).2.2.1
theorem adt{x:Int}(h:x≤2^105):x<2^110:=by
  have:(2:Int)^105<2^110:=by decide +kernel
  omega
theorem T8(h0:0≤c)(h6:c≤6)(hh:∀h∈hs,1≤h.2)(hN:ak hs≤2^105)(S:D)(t:Run c hs rows L rest):∀n:Nat,rest.length<n→rows.length≤6→iy dQ h9 n [some (.sh S),some (.sh (.int c)),some (.sh (.lst (hs.map ah))),some (.ol (rows.map dS))]=some (.nx [some (.sh S),some (.sh (.int c)),some (.sh (.lst (hs.map ah))),some (.ol ((rows++rest).map dS))]):=by
  induction t with
  |@done rows L h =>
   intro n hn _;obtain⟨m,rfl⟩:∃m,n=m+1:=⟨n-1,by omega⟩
   unfold iy;have ht:dQ [some (.sh S),some (.sh (.int c)),some (.sh (.lst (hs.map ah))),some (.ol (rows.map dS))]=some false:=by simp only[dQ,bU,ag,jQ,ae,ao,aJ,dU,cg,cL,bI,dI,tR,g9];rw[lL (by omega)]
   rw[ht];simp
  |@step rows L P nm y rest s hl e ey hn m1 m2 hL t ih =>
   intro n hn h6';obtain⟨m,rfl⟩:∃m,n=m+1:=⟨n-1,by omega⟩
   have h5:rows.length≤5:=by omega
   unfold iy;have ht:dQ [some (.sh S),some (.sh (.int c)),some (.sh (.lst (hs.map ah))),some (.ol (rows.map dS))]=some true:=by simp only[dQ,bU,ag,jQ,ae,ao,aJ,dU,cg,cL,bI,dI,tR,g9];rw[nF (by omega)]
   have rn:=Xl h0 h6 (s.ok h5) hh (adt hN) (T7 hh hN s h5);rw[e] at rn;have hlen:(rows.map dS).length<10000:=by rw[g9];omega
   have hg:h9 [some (.sh S),some (.sh (.int c)),some (.sh (.lst (hs.map ah))),some (.ol (rows.map dS))]=some (.nx [some (.sh S),some (.sh (.int c)),some (.sh (.lst (hs.map ah))),some (.ol ((rows++[(nm,y)]).map dS))]):=by simp only[h9,dF,ax,ae,ao,eV,aJ,cg,cL,bI,dI,rn,K0,hlen,gK,ig,ik,v9,bY,jb]
   rw[ht];simp only[bI,gK,hg];have:=ih m (by simp at hn;omega) (by simp;omega);rw[this];simp
theorem T9(h0:0≤c)(h6:c≤6)(hh:∀h∈hs,1≤h.2)(hN:ak hs≤2^105)(S:D)(t:Run c hs [] L rest)(hl:rest.length≤6):bJ [S,.int c,.lst (hs.map ah)]=some (.ol (rest.map dS)):=by
  refine cC ?_;show mL [some (.sh S),some (.sh (.int c)),some (.sh (.lst (hs.map ah))),none]=_;unfold mL;refine(aE (sO (d:=[]) rfl)).trans ?_;have:=T8 h0 h6 hh hN S t 100 (by omega) (by simp);refine(aE (show ro 100 _ _ _=some (.nx _) from this)).trans ?_;rfl
theorem Qv(h0:0≤c)(hh:∀h∈hs,1≤h.2):Sq c hs [] (some 0) 1:=by
  have hp:∀h∈hs,∃x,G7 h.1 []=some x∧ie 1 x∧0≤x∧x≤6:=fun h _=>⟨0,rfl,⟨0,by rw[Rat.mul_zero];rfl⟩,Rat.le_refl,by decide⟩
  have ok:sV hs [] 1:=⟨by decide,by decide +kernel,hp⟩
  refine⟨rfl,by decide,by decide,fun h _=>⟨0,rfl,⟨0,by rw[Rat.mul_zero];rfl⟩,Rat.le_refl,by decide,fun l hl=>by cases hl;exact Rat.le_refl⟩,?_,fun m _=>?_⟩
  ·unfold i7;have e:(((List.range c.toNat).map fun(i:Nat)=>(0:Int)+(i:Int)).filter fun n=>!(([]:uC).map fun r=>r.1).contains n)=(List.range c.toNat).map fun(i:Nat)=>(0:Int)+(i:Int):=List.filter_eq_self.mpr fun _ _=>rfl;rw[e];simp
  · unfold ef;by_cases q:ak (aY hs m)=0
    ·rw[ay q];rfl
    · rw[aZ q];obtain⟨_,t0,_⟩:=EH ok (l:=aY hs m) (fun h hm=>⟨(jy.mp hm).1,hh h (jy.mp hm).1⟩) (t:=1) (T:=1) (ie.one 1) (by decide) (by decide);have nn0:=qp (l:=aY hs m) fun x hx=>hh x (jy.mp hx).1;have hn:(0:Rat)<(ak (aY hs m):Rat):=by
        have:=Rat.intCast_lt_intCast.mpr (show(0:Int)<ak (aY hs m) by omega);simpa using this
      unfold bW;refine lL (Rat.not_lt.mpr ?_);rw[Rat.div_def];exact Rat.mul_nonneg t0 (Rat.le_of_lt (Rat.inv_pos.mpr hn))
theorem adu{S:D}(h:dh S=some (ms.map D.int)):cE (aD true 0) (bU (ag (inD false) (aJ 0) (aJ 1))) (eV 0) (ns.map D.int) [none,some (.sh S)]=some ((ns.filter fun n=>ms.contains n).map D.int):=by
  refine dw D.int (fun n=>ms.contains n) D.int fun n _=>⟨[some (.sh (.int n)),some (.sh S)],rfl,?_,fun _=>rfl⟩
  have q:=yz (n:=n) h;simp only[bU,ag,aJ,cg,cL,bI,q]
theorem Ua{S:D}(h:dh S=some (ms.map D.int)):bO [.tup (ns.map D.int),S]=some (.sh (.int (J0 ns ms))):=by have q:=adu (ns:=ns) h;refine cC ?_;show pj [some (.sh (.tup (ns.map D.int))),some (.sh S)]=_;unfold pj;refine ke ?_;simp only[jQ,ae,ao,eL,bP,cI,eV,cg,cL,bI,dh,jd,bY,jb,sY];have q':cE (aD true 0) (bU (ag (inD false) (aJ 0) (aJ 1))) (eV 0) (ns.map D.int) (List.replicate 1 none++[some (.sh S)])=some ((ns.filter fun n=>ms.contains n).map D.int):=q;rw[q'];simp[dU,J0]
theorem vN{S:D}(h:dh S=some (ms.map D.int))(h6:∀x∈hs,x.1.length≤6):gh [.lst (hs.map ah),S]=some (.sh (.int (bG hs ms))):=by
  refine cC ?_;show wX [some (.sh (.lst (hs.map ah))),some (.sh S)]=_;unfold wX;refine ke ?_;have q:cE (lR 2 (bZ (aD true 0) (bZ (aD true 1) lQ))) eQ (ag uV (aJ 1) (L7 jU (ax bO (ae (eV 0) (ae (eV 2) ao))))) (hs.map ah) [none,none,some (.sh S)]=some (hs.map fun x=>D.int (x.2*Br.getD (J0 x.1 ms) 0)):=by
    refine eX ah _ fun x hx=>⟨[some (.sh (.tup (x.1.map D.int))),some (.sh (.int x.2)),some (.sh S)],rfl,rfl,?_⟩
    have hle:J0 x.1 ms≤6:=oQ (Wo _ _) (h6 x hx);have Rw:qA jU ((J0 x.1 ms:Nat):Int)=some (Br.getD (J0 x.1 ms) 0):=by refine uH ?_;have:jU=Br:=rfl;rw[this,nE,mS (by show _<7;omega)];rfl
    obtain⟨l1,l2⟩:=Sv hle;simp only[ag,aJ,L7,ax,ae,ao,eV,cg,cL,bI,dI,Ua h,Rw,O8 (Ih l1 l2)]
  have q':cE (lR 2 (bZ (aD true 0) (bZ (aD true 1) lQ))) eQ (ag uV (aJ 1) (L7 jU (ax bO (ae (eV 0) (ae (eV 2) ao))))) (hs.map ah) (List.replicate 2 none++[some (.sh S)])=some (hs.map fun x=>D.int (x.2*Br.getD (J0 x.1 ms) 0)):=q;simp only[jQ,ae,ao,eL,bP,cI,eV,cg,cL,bI,dh,jd,bY,jb,sY,q',dI,ya];have e:(hs.map fun x=>D.int (x.2*Br.getD (J0 x.1 ms) 0))=(hs.map fun x=>x.2*Br.getD (J0 x.1 ms) 0).map D.int:=by rw[e9];rfl
  rw[e,du];rfl
def qF(f:Int→Int→Bool)(b:Int)(l:aO):Int:=l.foldl (fun b x=>if f b x=true then x else b) b
def U8(f:Int→Int→Bool):aO→Int
  |[]=>0
  |n::l=>qF f n l
theorem CK(f:Int→Int→Bool):∀(l:aO) (b:Int),qF f b l∈b::l
  |[],b=>cY
  |x::l,b=>by
   show qF f (if f b x=true then x else b) l∈_;have:=CK f l (if f b x=true then x else b);rcases fR.mp this with e|m
   · rw[e];split
     ·simp
     ·simp
   ·simp[m]
theorem M5(f:Int→Int→Bool){l:aO}(h:l≠[]):U8 f l∈l:=by
  cases l with
  |nil=>exact absurd rfl h
  |cons n l=>exact CK f l n
def xr(c:Int)(S:aO):aO:=((List.range c.toNat).map fun(i:Nat)=>(0:Int)+(i:Int)).filter fun n=>!S.contains n
def cW(r:Int×Int):D:=.tup [.int r.1,.int r.2]
theorem As(rows:List (Int×Int)):bH [.lst (rows.map cW)]=some (.ol ((rows.map fun r=>r.1).map D.int)):=by
  refine cC ?_;show gI [some (.br (.lst (rows.map cW)))]=_;unfold gI;refine fT ?_;have adv:∀r:Int×Int,iY (cW r) (.int 0)=some (.int r.1):=fun _=>rfl;have key:∀(b:BF) (f:EF) (η:cP),(∀r∈rows,∃η1,b (cW r) η=some η1∧f η1=some (.int r.1))→cE b eQ f (rows.map cW) η=some (rows.map fun r=>D.int r.1):=fun b f η h=>eX cW (fun r=>D.int r.1) fun r hr=>by obtain⟨η1,h1,h2⟩:=h r hr;exact⟨η1,h1,rfl,h2⟩
  have e:((rows.map fun r=>r.1).map D.int)=rows.map fun r=>D.int r.1:=by rw[e9];rfl
  rw[e];simp only[bP,Ia,cg,bI,jd,jb];refine key _ _ _ fun r _=>⟨_,rfl,?_⟩
  simp only[eI,ag,aJ,eV,eC,cg,bI,adv];rfl
theorem Xo(h0:0≤c)(h6:c≤6)(rows:List (Int×Int)):fF [.int c,.lst (rows.map cW)]=some (.ol ((xr c (rows.map fun r=>r.1)).map D.int)):=by
  refine cC ?_;show kB [some (.sh (.int c)),some (.br (.lst (rows.map cW)))]=_;unfold kB;refine fT ?_;have hr:(if c≤10000∧-10000≤c then some (dk 0 c.toNat) else none)=some ((((List.range c.toNat).map fun(i:Nat)=>(0:Int)+(i:Int))).map D.int):=by rw[ay ⟨by omega,by omega⟩,jC]
  have q:cE (aD true 0) (bU (ag (inD true) (aJ 0) (ax bH (ae (aJ 1) ao)))) (eV 0) ((((List.range c.toNat).map fun(i:Nat)=>(0:Int)+(i:Int))).map D.int) (List.replicate 1 none++[some (.br (.lst (rows.map cW)))])=some ((xr c (rows.map fun r=>r.1)).map D.int):=by
    unfold xr;have key:=dw (b:=aD true 0) (t:=bU (ag (inD true) (aJ 0) (ax bH (ae (aJ 1) ao)))) (f:=eV 0) (η:=List.replicate 1 none++[some (.br (.lst (rows.map cW)))]) (xs:=(List.range c.toNat).map fun(i:Nat)=>(0:Int)+(i:Int)) D.int (fun n=>!(rows.map fun r=>r.1).contains n) D.int;refine key fun n _=>⟨[some (.sh (.int n)),some (.br (.lst (rows.map cW)))],rfl,?_,fun _=>rfl⟩
    have q:=rC (n:=n) (S:=.lst ((rows.map fun r=>r.1).map D.int)) (ms:=rows.map fun r=>r.1) rfl;simp only[bU,ag,aJ,ax,ae,ao,cg,cL,bI,dI,As,q]
  simp only[bP,eG,aJ,cg,cL,bI,hr,jd,bY,jb,sY,q]
def sW(hs:dq)(S:aO)(n:Int):Int:=bG hs (S++[n])-bG hs S
theorem Hc{rows:List (Int×Int)}(h6:∀x∈hs,x.1.length≤6)(hr:rows.length≤10)(x:Int)(o4:D)(o6:eP):cq 6 (ag HV (ax gh (ae (eV 1) (ae (eL (yb (ax bH (ae (aJ 2) ao)) (eL (oV (ae (eV 5) ao))))) ao))) (aJ 3)) [some (.sh (.int c)),some (.sh (.lst (hs.map ah))),some (.br (.lst (rows.map cW))),some (.sh (.int (bG hs (rows.map fun r=>r.1)))),some (.sh o4),some (.sh (.int x)),o6]=some (.nx [some (.sh (.int c)),some (.sh (.lst (hs.map ah))),some (.br (.lst (rows.map cW))),some (.sh (.int (bG hs (rows.map fun r=>r.1)))),some (.sh o4),some (.sh (.int x)),some (.sh (.int (sW hs (rows.map fun r=>r.1) x)))]):=by
  have hw:=vN (hs:=hs) (ms:=(rows.map fun r=>r.1)++[x]) (S:=.lst ((rows.map fun r=>r.1).map D.int++[.int x])) (by simp[dh]) h6;refine(bF (d:=.int (sW hs (rows.map fun r=>r.1) x)) ?_).trans rfl;have hl:((rows.map fun r=>r.1).map D.int).length+[D.int x].length≤10000:=by simp;omega
  have adw:eL (yb (ax bH (ae (aJ 2) ao)) (eL (oV (ae (eV 5) ao)))) [some (.sh (.int c)),some (.sh (.lst (hs.map ah))),some (.br (.lst (rows.map cW))),some (.sh (.int (bG hs (rows.map fun r=>r.1)))),some (.sh o4),some (.sh (.int x)),o6]=some (.lst ((rows.map fun r=>r.1).map D.int++[.int x])):=by
    have h1k:[D.int x].length≤1000:=by simp
    simp only[eL,yb,oV,ax,ae,ao,eV,aJ,cg,cL,bI,dI,As,h1k,gK,HS,hl]
  have key:∀{f g:EF} {η:cP} {u v d:D},f η=some u→g η=some v→gh [u,v]=some (.sh d)→ax gh (ae f (ae g ao)) η=some d:=fun k1 k2 k3=>by simp only[ax,ae,ao,k1,k2,bI,dI,k3]
  have hc:=key (f:=eV 1) rfl adw hw;unfold ag;rw[hc];rfl
theorem Jk{c:Int}{hs:dq}{rows:List (Int×Int)}(h6:∀x∈hs,x.1.length≤6)(hr:rows.length≤10):∀(l:aO) (b:Int) (o5 o6:eP),∃Rz Jh,ip (aD true 5) cj (l.map D.int) [some (.sh (.int c)),some (.sh (.lst (hs.map ah))),some (.br (.lst (rows.map cW))),some (.sh (.int (bG hs (rows.map fun r=>r.1)))),some (.sh (cW (b,sW hs (rows.map fun r=>r.1) b))),o5,o6]=some (.nx [some (.sh (.int c)),some (.sh (.lst (hs.map ah))),some (.br (.lst (rows.map cW))),some (.sh (.int (bG hs (rows.map fun r=>r.1)))),some (.sh (cW (qF (fun b x=>decide (sW hs (rows.map fun r=>r.1) b<sW hs (rows.map fun r=>r.1) x)) b l,sW hs (rows.map fun r=>r.1) (qF (fun b x=>decide (sW hs (rows.map fun r=>r.1) b<sW hs (rows.map fun r=>r.1) x)) b l)))),Rz,Jh])
  |[],b,o5,o6=>⟨o5,o6,rfl⟩
  |x::l,b,o5,o6=>by
   have hg0:=fun(o4:D)=>Hc (c:=c) h6 hr x o4 o6;rw[bY];unfold ip;have nP:aD true 5 (.int x) [some (.sh (.int c)),some (.sh (.lst (hs.map ah))),some (.br (.lst (rows.map cW))),some (.sh (.int (bG hs (rows.map fun r=>r.1)))),some (.sh (cW (b,sW hs (rows.map fun r=>r.1) b))),o5,o6]=some [some (.sh (.int c)),some (.sh (.lst (hs.map ah))),some (.br (.lst (rows.map cW))),some (.sh (.int (bG hs (rows.map fun r=>r.1)))),some (.sh (cW (b,sW hs (rows.map fun r=>r.1) b))),some (.sh (.int x)),o6]:=rfl;rw[nP];generalize hgw:sW hs (rows.map fun r=>r.1)=G at *;have hix:iY (cW (b,G b)) (.int 1)=some (.int (G b)):=rfl;have ht:mh (bU (ag pL (aJ 4) (eC .non))) (bU (ag Nu (aJ 6) (ag iY (aJ 4) (eC (.int 1))))) [some (.sh (.int c)),some (.sh (.lst (hs.map ah))),some (.br (.lst (rows.map cW))),some (.sh (.int (bG hs (rows.map fun r=>r.1)))),some (.sh (cW (b,G b))),some (.sh (.int x)),some (.sh (.int (G x)))]=some (decide (G b<G x)):=by have e1:pL (cW (b,G b)) .non=some (.bl false):=rfl;simp only[mh,bU,ag,aJ,eC,cg,cL,bI,e1,hix,u6];rfl
   by_cases hc:G b<G x
   · obtain⟨p,q,ih⟩:=Jk h6 hr l x (some (.sh (.int x))) (some (.sh (.int (G x))));rw[hgw] at ih;refine⟨p,q,?_⟩;have hg:cj [some (.sh (.int c)),some (.sh (.lst (hs.map ah))),some (.br (.lst (rows.map cW))),some (.sh (.int (bG hs (rows.map fun r=>r.1)))),some (.sh (cW (b,G b))),some (.sh (.int x)),o6]=some (.nx [some (.sh (.int c)),some (.sh (.lst (hs.map ah))),some (.br (.lst (rows.map cW))),some (.sh (.int (bG hs (rows.map fun r=>r.1)))),some (.sh (cW (x,G x))),some (.sh (.int x)),some (.sh (.int (G x)))]):=by
       unfold cj;refine(aE (hg0 _)).trans ?_;refine(rD (by rw[ht,nF hc])).trans ?_;exact(bF (d:=cW (x,G x)) rfl).trans rfl
     simp only[bI,hg];rw[ih];have e:qF (fun b x=>decide (G b<G x)) b (x::l)=qF (fun b x=>decide (G b<G x)) x l:=by show qF _ (if decide (G b<G x)=true then x else b) l=_;rw[ay (nF hc)]
     rw[e]
   · obtain⟨p,q,ih⟩:=Jk h6 hr l b (some (.sh (.int x))) (some (.sh (.int (G x))));rw[hgw] at ih;refine⟨p,q,?_⟩;have hg:cj [some (.sh (.int c)),some (.sh (.lst (hs.map ah))),some (.br (.lst (rows.map cW))),some (.sh (.int (bG hs (rows.map fun r=>r.1)))),some (.sh (cW (b,G b))),some (.sh (.int x)),o6]=some (.nx [some (.sh (.int c)),some (.sh (.lst (hs.map ah))),some (.br (.lst (rows.map cW))),some (.sh (.int (bG hs (rows.map fun r=>r.1)))),some (.sh (cW (b,G b))),some (.sh (.int x)),some (.sh (.int (G x)))]):=by
       unfold cj;refine(aE (hg0 _)).trans ?_;exact(lS (by rw[ht,lL hc])).trans rfl
     simp only[bI,hg];rw[ih];have e:qF (fun b x=>decide (G b<G x)) b (x::l)=qF (fun b x=>decide (G b<G x)) b l:=by show qF _ (if decide (G b<G x)=true then x else b) l=_;rw[aZ (by rw[lL hc];decide)]
     rw[e]
def sg(c:Int)(hs:dq)(S:aO):Int:=U8 (fun b x=>decide (sW hs S b<sW hs S x)) (xr c S)
theorem Jl(h0:0≤c)(h6c:c≤6){rows:List (Int×Int)}(h6:∀x∈hs,x.1.length≤6)(hr:rows.length≤10)(hE:xr c (rows.map fun r=>r.1)≠[]):lH [.int c,.lst (hs.map ah),.lst (rows.map cW)]=some (.sh (cW (sg c hs (rows.map fun r=>r.1),sW hs (rows.map fun r=>r.1) (sg c hs (rows.map fun r=>r.1))))):=by
  obtain⟨n,l,en⟩:∃n l,xr c (rows.map fun r=>r.1)=n::l:=by
    cases e:xr c (rows.map fun r=>r.1) with
    |nil=>exact absurd e hE
    |cons n l=>exact⟨n,l,rfl⟩
  have hw0:=vN (hs:=hs) (ms:=rows.map fun r=>r.1) (S:=.lst ((rows.map fun r=>r.1).map D.int)) rfl h6;have hu:=Xo h0 h6c rows;rw[en] at hu;refine cC ?_;show pA [some (.sh (.int c)),some (.sh (.lst (hs.map ah))),some (.br (.lst (rows.map cW))),none,none,none,none]=_;unfold pA;refine(aE (bF (d:=.int (bG hs (rows.map fun r=>r.1))) ?_)).trans ?_
  ·simp only[ax,ae,ao,eV,aJ,cg,cL,bI,dI,As,hw0]
  refine(aE (bF (d:=.non) rfl)).trans ?_;simp only[ig,ik];have hl:cI (ax fF (ae (eV 0) (ae (aJ 2) ao))) [some (.sh (.int c)),some (.sh (.lst (hs.map ah))),some (.br (.lst (rows.map cW))),some (.sh (.int (bG hs (rows.map fun r=>r.1)))),some (.sh .non),none,none]=some ((n::l).map D.int):=by simp only[cI,ax,ae,ao,eV,aJ,cg,cL,bI,dI,hu,dh]
  obtain⟨p,q,hw⟩:=Jk (c:=c) h6 hr l n (some (.sh (.int n))) (some (.sh (.int (sW hs (rows.map fun r=>r.1) n))));have adx:ip (aD true 5) cj ((n::l).map D.int) [some (.sh (.int c)),some (.sh (.lst (hs.map ah))),some (.br (.lst (rows.map cW))),some (.sh (.int (bG hs (rows.map fun r=>r.1)))),some (.sh .non),none,none]=ip (aD true 5) cj (l.map D.int) [some (.sh (.int c)),some (.sh (.lst (hs.map ah))),some (.br (.lst (rows.map cW))),some (.sh (.int (bG hs (rows.map fun r=>r.1)))),some (.sh (cW (n,sW hs (rows.map fun r=>r.1) n))),some (.sh (.int n)),some (.sh (.int (sW hs (rows.map fun r=>r.1) n)))]:=by
    rw[bY]
    conv=>lhs;unfold ip
    have nP:aD true 5 (.int n) [some (.sh (.int c)),some (.sh (.lst (hs.map ah))),some (.br (.lst (rows.map cW))),some (.sh (.int (bG hs (rows.map fun r=>r.1)))),some (.sh .non),none,none]=some [some (.sh (.int c)),some (.sh (.lst (hs.map ah))),some (.br (.lst (rows.map cW))),some (.sh (.int (bG hs (rows.map fun r=>r.1)))),some (.sh .non),some (.sh (.int n)),none]:=rfl;rw[nP];have hg:cj [some (.sh (.int c)),some (.sh (.lst (hs.map ah))),some (.br (.lst (rows.map cW))),some (.sh (.int (bG hs (rows.map fun r=>r.1)))),some (.sh .non),some (.sh (.int n)),none]=some (.nx [some (.sh (.int c)),some (.sh (.lst (hs.map ah))),some (.br (.lst (rows.map cW))),some (.sh (.int (bG hs (rows.map fun r=>r.1)))),some (.sh (cW (n,sW hs (rows.map fun r=>r.1) n))),some (.sh (.int n)),some (.sh (.int (sW hs (rows.map fun r=>r.1) n)))]):=by
      unfold cj;refine(aE (Hc (c:=c) h6 hr n .non none)).trans ?_;refine(rD ?_).trans ?_
      ·rfl
      exact(bF (d:=cW (n,sW hs (rows.map fun r=>r.1) n)) rfl).trans rfl
    simp only[bI,hg]
  refine(aE ((fL hl).trans (adx.trans hw))).trans ?_;refine ke ?_;have e:qF (fun b x=>decide (sW hs (rows.map fun r=>r.1) b<sW hs (rows.map fun r=>r.1) x)) n l=sg c hs (rows.map fun r=>r.1):=by unfold sg;rw[en];rfl
  rw[e];rfl
def rowsOf{α:Type}(g:aO→Int→α):aO→aO→List (Int×α)
  |_,[]=>[]
  |S,n::l=>(n,g S n)::rowsOf g (S++[n]) l
theorem xO{α:Type}(g:aO→Int→α)(n:Int):∀(l S:aO),rowsOf g S (l++[n])=rowsOf g S l++[(n,g (S++l) n)]
  |[],S=>by rw[uE];rfl
  |x::l,S=>by
   show(x,g S x)::rowsOf g (S++[x]) (l++[n])=(x,g S x)::rowsOf g (S++[x]) l++[(n,g (S++x::l) n)]
   rw[xO g n l (S++[x])];simp
theorem kC{α:Type}(g:aO→Int→α):∀(l S:aO),((rowsOf g S l).map fun r=>r.1)=l
  |[],_=>rfl
  |x::l,S=>by show x::((rowsOf g (S++[x]) l).map fun r=>r.1)=_;rw[kC g l]
theorem oh{α:Type}(g:aO→Int→α)(l S:aO):(rowsOf g S l).length=l.length:=by have:=il List.length (kC g l S);rwa[g9] at this
theorem Hd{S:aO}{n:Int}:n∈xr c S↔(0≤n∧n<c)∧n∉S:=by
  unfold xr;rw[jy,ja];constructor
  ·rintro⟨⟨i,hi,rfl⟩,h⟩;have:=mW.mp hi;exact⟨by omega,by simpa using h⟩
  ·rintro⟨⟨h1,h2⟩,h3⟩;exact⟨⟨n.toNat,mW.mpr (by omega),by omega⟩,by simpa using h3⟩
structure Jm (c:Int) (S:aO):Prop where
  nd:S.Nodup
  rg:∀n∈S,0≤n∧n<c
theorem Jm.ne{S:aO}(h:Jm c S)(hl:(S.length:Int)<c):xr c S≠[]:=fun e=>by
  have:=List.Nodup.length_le_of_subset (l₁:=(List.range c.toNat).map fun(i:Nat)=>(i:Int)) (l₂:=S) (by
    refine List.Pairwise.map (R:=fun a b:Nat=>a≠b) _ (fun a b oT e=>oT (by omega)) List.nodup_range) fun x hx=>by obtain⟨i,hi,rfl⟩:=ja.mp hx;have:=mW.mp hi;refine Classical.byContradiction fun hn=>?_;have:((i:Nat):Int)∈xr c S:=Hd.mpr ⟨by omega,hn⟩;rw[e] at this;nomatch this
  simp at this;omega
theorem Jm.snoc{S:aO}(h:Jm c S){n:Int}(hn:n∈xr c S):Jm c (S++[n]):=by
  obtain⟨a,b⟩:=Hd.mp hn;refine⟨List.nodup_append.mpr ⟨h.nd,by simp,fun x hx z hz=>?_⟩,fun x hx=>?_⟩
  ·simp at hz;subst hz;intro e;subst e;exact b hx
  · rcases mV.mp hx with hx|hx
    ·exact h.rg x hx
    ·simp at hx;subst hx;exact a
def M6(c:Int)(hs:dq):Nat→aO→aO
  |0,S=>S
  |k+1,S=>M6 c hs k (S++[sg c hs S])
theorem CL{S:aO}(h:Jm c S)(hl:(S.length:Int)<c):sg c hs S∈xr c S:=M5 _ (h.ne hl)
theorem He{c:Int}(h0:0≤c)(c6:c≤6){hs:dq}(h6:∀x∈hs,x.1.length≤6)(A:D):∀(k:Nat) {S:aO} (n:Nat),Jm c S→(S.length:Int)+k=c→k<n→iy dR ic n [some (.sh A),some (.sh (.int c)),some (.sh (.lst (hs.map ah))),some (.ol ((rowsOf (sW hs) [] S).map cW))]=some (.nx [some (.sh A),some (.sh (.int c)),some (.sh (.lst (hs.map ah))),some (.ol ((rowsOf (sW hs) [] (M6 c hs k S)).map cW))])
  |0,S,n,hS,e,hn=>by
   obtain⟨m,rfl⟩:∃m,n=m+1:=⟨n-1,by omega⟩
   unfold iy;have ht:dR [some (.sh A),some (.sh (.int c)),some (.sh (.lst (hs.map ah))),some (.ol ((rowsOf (sW hs) [] S).map cW))]=some false:=by simp only[dR,bU,ag,jQ,ae,ao,aJ,dU,cg,cL,bI,dI,tR,g9,oh];rw[lL (by omega)]
   rw[ht];rfl
  |k+1,S,n,hS,e,hn=>by
   obtain⟨m,rfl⟩:∃m,n=m+1:=⟨n-1,by omega⟩
   have PQ:=CL (hs:=hs) hS (by omega);unfold iy;have ht:dR [some (.sh A),some (.sh (.int c)),some (.sh (.lst (hs.map ah))),some (.ol ((rowsOf (sW hs) [] S).map cW))]=some true:=by simp only[dR,bU,ag,jQ,ae,ao,aJ,dU,cg,cL,bI,dI,tR,g9,oh];rw[nF (by omega)]
   have rn:=Jl h0 c6 (hs:=hs) (rows:=rowsOf (sW hs) [] S) h6 (by rw[oh];omega) (by rw[kC];exact hS.ne (by omega));rw[kC] at rn;have hlen:((rowsOf (sW hs) [] S).map cW).length<10000:=by rw[g9,oh];omega
   have hsn:rowsOf (sW hs) [] (S++[sg c hs S])=rowsOf (sW hs) [] S++[(sg c hs S,sW hs S (sg c hs S))]:=xO _ _ _ _;have hg:ic [some (.sh A),some (.sh (.int c)),some (.sh (.lst (hs.map ah))),some (.ol ((rowsOf (sW hs) [] S).map cW))]=some (.nx [some (.sh A),some (.sh (.int c)),some (.sh (.lst (hs.map ah))),some (.ol ((rowsOf (sW hs) [] (S++[sg c hs S])).map cW))]):=by rw[hsn];simp only[ic,dF,ax,ae,ao,eV,aJ,cg,cL,bI,dI,rn,hlen,gK,ig,ik,v9,bY,jb]
   rw[ht];simp only[bI,gK,hg];exact He h0 c6 h6 A k m (hS.snoc PQ) (by simp;omega) (by omega)
theorem Qw(h0:0≤c)(c6:c≤6)(h6:∀x∈hs,x.1.length≤6)(A:D):bK [A,.int c,.lst (hs.map ah)]=some (.ol ((rowsOf (sW hs) [] (M6 c hs c.toNat [])).map cW)):=by refine cC ?_;show mM [some (.sh A),some (.sh (.int c)),some (.sh (.lst (hs.map ah))),none]=_;unfold mM;refine(aE (sO (d:=[]) rfl)).trans ?_;have hw:=He h0 c6 h6 A c.toNat (S:=[]) 100 ⟨by simp,fun _ z=>nomatch z⟩ (by simp;omega) (by omega);refine(aE (show ro 100 _ _ _=some (.nx _) from hw)).trans ?_;rfl
abbrev nB(hs:dq)(n:Int):Int:=ak (aY hs n)
def eM(hs:dq)(n:Int):aO×aO:=([-(nB hs n),n],[n,nB hs n])
def gM:EF:=fY (ae (SQ (ag iY (aJ 0) (eC (.int 1)))) (ae (ag iY (eV 0) (eC (.int 0))) ao))
theorem aav(n b:Int):gM [some (.sh (.tup ([n,b].map D.int)))]=some (.tup ([-b,n].map D.int)):=rfl
theorem U9(hs:dq):∀l:aO,CF gM (l.map fun n=>D.tup ((eM hs n).2.map D.int))=some (l.map (eM hs))
  |[]=>rfl
  |n::l=>by
   have ih:=U9 hs l;rw[bY,bY];show(kH ([n,nB hs n].map D.int)).bind _=_;rw[du];show(match gM [some (.sh (.tup ([n,nB hs n].map D.int)))] with
     |some (.tup ks)=>(kH ks).bind fun kk=>(CF gM (l.map fun n=>D.tup ((eM hs n).2.map D.int))).map ((kk,[n,nB hs n])::·)
     |_=>none)=_
   rw[aav];show(kH ([-(nB hs n),n].map D.int)).bind _=_;rw[du,ih];rfl
def fO(c:Int):aO:=(List.range c.toNat).map fun(i:Nat)=>(0:Int)+(i:Int)
theorem CM(c:Int):(fO c).Nodup:=List.Pairwise.map (R:=fun a b:Nat=>a≠b) _ (fun a b oT e=>oT (by omega)) List.nodup_range
theorem Jn{n:Int}:n∈fO c↔0≤n∧n<c:=by
  unfold fO;rw[ja];constructor
  ·rintro⟨i,hi,rfl⟩;have:=mW.mp hi;omega
  ·rintro⟨h1,h2⟩;exact⟨n.toNat,mW.mpr (by omega),by omega⟩
def Jo(c:Int)(hs:dq):aO:=(nQ ((fO c).map (eM hs))).map fun e=>e.1.getD 1 0
theorem aaw(c:Int)(hs:dq):nQ ((fO c).map (eM hs))=(Jo c hs).map (eM hs):=by unfold Jo;rw[e9];refine(List.map_id _).symm.trans (t4 fun e he=>?_);have:=(oG _).mem_iff.mp he;obtain⟨n,_,rfl⟩:=ja.mp this;rfl
theorem xt(c:Int)(hs:dq):(Jo c hs).Perm (fO c):=by
  have h1:=(oG ((fO c).map (eM hs))).map fun e=>e.1.getD 1 0;rw[e9] at h1;have e:(fO c).map ((fun e:aO×aO=>e.1.getD 1 0)∘eM hs)=fO c:=by refine(t4 fun n _=>?_).trans (List.map_id _);rfl
  rw[e] at h1;exact h1
theorem Qx(c:Int)(hs:dq):(((fO c).map (eM hs)).map (·.1)).Nodup:=by
  rw[e9];have:=CM c;unfold List.Nodup at this⊢;rw[Dh];exact this.imp fun oT e=>oT (by
    have e':[-(nB hs _),_]=[-(nB hs _),_]:=e;injection e' with _ e2;injection e2)
theorem Xp(h0:0≤c)(c6:c≤6)(hs:dq)(C:PySem.Addr):bR [.obj C,.int c,.lst (hs.map ah)]=some (.ol (((Jo c hs).map fun n=>(n,nB hs n)).map cW)):=by
  refine cC ?_;show nZ [some (.sh (.obj C)),some (.sh (.int c)),some (.sh (.lst (hs.map ah))),none]=_;unfold nZ;have hr:(if c≤10000∧-10000≤c then some (dk 0 c.toNat) else none)=some ((fO c).map D.int):=by rw[ay ⟨by omega,by omega⟩,jC];rfl
  have q:cE (aD true 0) eQ (fY (ae (eV 0) (ae (ax cN (ae (eV 1) (ae (eV 0) ao))) ao))) ((fO c).map D.int) (List.replicate 1 none++[some (.sh (.lst (hs.map ah)))])=some ((fO c).map fun n=>D.tup ((eM hs n).2.map D.int)):=by
    refine eX D.int _ fun n _=>⟨[some (.sh (.int n)),some (.sh (.lst (hs.map ah)))],rfl,rfl,?_⟩
    simp only[fY,ax,ae,ao,eV,cg,cL,bI,dI,aao];rfl
  refine(aE (bF (d:=.lst ((fO c).map fun n=>D.tup ((eM hs n).2.map D.int))) ?_)).trans ?_
  ·simp only[eL,bP,eG,aJ,cg,cL,bI,dI,hr,jd,bY,jb,sY,q]
  refine fT ?_;have hl:(((fO c).map (eM hs)).map (·.1)).Nodup∧((fO c).map (eM hs)).length<64∧(((fO c).map (eM hs)).all fun e=>!e.1.isEmpty)=true:=by refine⟨Qx c hs,by rw[g9];unfold fO;rw[g9,List.length_range];omega,?_⟩;rw[List.all_map,iK];intro n _;rfl
  have ZV:zZ 0 [some (.sh (.obj C)),some (.sh (.int c)),some (.sh (.lst (hs.map ah))),some (.sh (.lst ((fO c).map fun n=>D.tup ((eM hs n).2.map D.int))))]=true:=rfl;show rM (eV 3) gM [some (.sh (.obj C)),some (.sh (.int c)),some (.sh (.lst (hs.map ah))),some (.sh (.lst ((fO c).map fun n=>D.tup ((eM hs n).2.map D.int))))]=_;unfold rM;rw[ay ZV];simp only[eV,cg,cL,bI,U9];rw[ay hl,aaw,e9,e9];rfl
theorem Hf(c:Int)(hs:dq):∀(k:Nat) (S:aO),(M6 c hs k S).length=S.length+k
  |0,S=>rfl
  |k+1,S=>by show(M6 c hs k (S++[sg c hs S])).length=_;rw[Hf c hs k];simp;omega
theorem Qy(h0:0≤c)(hs:dq):((Jo c hs).length:Int)=c:=by rw[(xt c hs).length_eq];unfold fO;rw[g9,List.length_range];omega
theorem Hg{x:D}{xs:dm}{t:String}(hx:dh x=some xs)(hix:∀i,iY x (.int i)=qA xs i)(hlen:dU [x]=some (.int xs.length))(hty:Rv x=some t)(ht:t="tuple"∨t="list")(hl:xs.length≤1000)(tq:∀y∈xs,gJ n [y,y]=some (.sh (.bl true))):gJ (n+1) [x,x]=some (.sh (.bl true)):=by
  refine cC ?_;show g_same (gJ n) [some (.br x),some (.br x),none]=_;unfold g_same;have e1:∀T o,(wD T (aJ 1)) [some (Slot.br x),some (Slot.br x),o]=some (.bl (OW T t)):=fun T o=>by simp only[wD,aJ,cg,cL,bI,hty,dI]
  have e0:∀T o,(wD T (aJ 0)) [some (Slot.br x),some (Slot.br x),o]=some (.bl (OW T t)):=fun T o=>by simp only[wD,aJ,cg,cL,bI,hty,dI]
  have hor:mh (bU (wD "tuple" (aJ 1))) (bU (wD "list" (aJ 1))) [some (Slot.br x),some (Slot.br x),none]=some true:=by simp only[mh,bU,e1,bI];rcases ht with rfl|rfl<;>rfl
  obtain⟨η',e,o2,rfl⟩:=zB (b:=aD true 2) (g:=Ag (gJ n)) (ds:=dk 0 xs.length) (η:=[some (.br x),some (.br x),none]) (fun _ η=>∃o2,η=[some (.br x),some (.br x),o2]) 0 ⟨none,rfl⟩ (fun i d η hd ⟨o2,e⟩=>by
    subst e;rw[jC,qH,qH] at hd;obtain⟨j,hj,rfl⟩:=g6.mp hd;obtain⟨j',XZ,rfl⟩:=g6.mp hj;have hjl:j'<xs.length:=by have h1:=List.mem_of_getElem? XZ;simpa using h1
    refine⟨[some (.br x),some (.br x),some (.sh (.int (0+(j':Int))))],[some (.br x),some (.br x),some (.sh (.int (0+(j':Int))))],rfl,.inl ?_,_,rfl⟩;unfold Ag;have Rw:qA xs (0+(j':Int))=some xs[j']:=by rw[Int.zero_add];exact uH (by simp[hjl])
    have hc:=tq xs[j'] (by simp);refine(lS ?_).trans rfl;simp only[uT,bU,ax,ae,ao,ag,aJ,cg,cL,bI,dI,hix,Rw,hc,Bool.not_true])
  refine ue ((rD hor).trans ?_);refine(aE (η':=[some (.br x),some (.br x),none]) ((lS ?_).trans rfl)).trans ?_
  ·simp only[mh,bU,ag,e0,e1,bI,WQ];simp
  refine(aE (η':=[some (.br x),some (.br x),none]) ((lS ?_).trans rfl)).trans ?_
  ·simp only[bU,ag,jQ,ae,ao,aJ,cg,cL,bI,dI,hlen,Ee];simp
  refine(aE ((fL (ds:=dk 0 xs.length) ?_).trans e)).trans rfl;simp only[eG,jQ,ae,ao,aJ,cg,cL,bI,dI,hlen];rw[ay ⟨by omega,by omega⟩]
  congr 1
theorem same_int(n:Nat)(i:Int):gJ (n+1) [.int i,.int i]=some (.sh (.bl true)):=by refine cC ?_;show g_same (gJ n) [some (.br (.int i)),some (.br (.int i)),none]=_;unfold g_same;refine(aE (η':=[some (.br (.int i)),some (.br (.int i)),none]) ((lS rfl).trans rfl)).trans ?_;refine(aE (η':=[some (.br (.int i)),some (.br (.int i)),none]) ((lS rfl).trans rfl)).trans ?_;refine ue ((rD rfl).trans (ke ?_));simp[Gd,Sx,bU,wD,aJ,Rv,OW,ag,jl]
theorem Hh{xs:dm}(hl:xs.length≤1000)(tq:∀y∈xs,gJ n [y,y]=some (.sh (.bl true))):gJ (n+1) [.tup xs,.tup xs]=some (.sh (.bl true)):=Hg rfl (fun _=>rfl) rfl rfl (.inl rfl) hl tq
theorem Qz{xs:dm}(hl:xs.length≤1000)(tq:∀y∈xs,gJ n [y,y]=some (.sh (.bl true))):gJ (n+1) [.lst xs,.lst xs]=some (.sh (.bl true)):=Hg rfl (fun _=>rfl) rfl rfl (.inr rfl) hl tq
def mR(bench:aO)(o i:Int):aO:=gN (bench.filter (fun n=>!(n==o))++[i])
theorem aax{o:Int}:cE (aD true 0) (bU (ag qK (aJ 0) (aJ 1))) (eV 0) (bench.map D.int) [none,some (.sh (.int o))]=some ((bench.filter fun n=>!(n==o)).map D.int):=by
  refine dw D.int (fun n=>!(n==o)) D.int fun n _=>⟨[some (.sh (.int n)),some (.sh (.int o))],rfl,?_,fun _=>rfl⟩
  simp only[bU,ag,aJ,cg,cL,bI,Ee]
theorem xP(hb:bench.length≤6)(o i:Int):gY [.tup (bench.map D.int),.int o,.int i]=some (.sh (.tup ((mR bench o i).map D.int))):=by
  refine cC ?_;show pk [some (.sh (.tup (bench.map D.int))),some (.sh (.int o)),some (.sh (.int i)),none]=_;unfold pk;have q:cE (aD true 0) (bU (ag qK (aJ 0) (aJ 1))) (eV 0) (bench.map D.int) (List.replicate 1 none++[some (.sh (.int o))])=some ((bench.filter fun n=>!(n==o)).map D.int):=aax;refine(aE (bF (d:=.lst ((bench.filter fun n=>!(n==o)).map D.int)) ?_)).trans ?_
  ·simp only[eL,bP,cI,eV,cg,cL,bI,dh,jd,bY,jb,sY,q,dI]
  · refine ke ?_;have hl:(bench.filter fun n=>!(n==o)).length≤6:=oQ (List.length_filter_le _ _) hb;have e:(bench.filter fun n=>!(n==o)).map D.int++[D.int i]=((bench.filter fun n=>!(n==o))++[i]).map D.int:=by simp
    simp only[mj,eL,rA,yb,oV,ae,ao,eV,ig,ik,cg,cL,bI,dI,mU,List.length_nil,HS,rA.Ic];rw[ay (by decide)];simp only[bI,dI];rw[ay (by simp;omega),e];simp only[bI,dI,du];rw[ay (by simp;omega)];rfl
def lK(c:Int)(bench:aO):aO:=((List.range c.toNat).map fun(i:Nat)=>(0:Int)+(i:Int)).filter fun i=>!bench.contains i
def K2(hs:dq)(bench:aO)(o i:Int):Int:=bG hs (mR bench o i)-bG hs bench
def Au(hs:dq)(bench:aO)(o i:Int):Int×Int×Int:=(o,i,K2 hs bench o i)
def CN(c:Int)(hs:dq)(bench:aO):List (Int×Int×Int):=bench.flatMap fun o=>(lK c bench).map fun i=>Au hs bench o i
def qt(x:Int×Int×Int):D:=.tup [.int x.1,.int x.2.1,.int x.2.2]
theorem oN{α β:Type}(p:α→Bool)(f:α→β):∀(l:List α) (acc:List β),l.foldl (fun s x=>if p x=true then s++[f x] else s) acc=acc++(l.filter p).map f
  |[],acc=>by simp
  |x::l,acc=>by
   rw[xW,oN p f l];by_cases h:p x=true
   ·rw[ay h,Dm,ay h,bY,Di];rfl
   ·rw[aZ h,Dm,aZ h]
theorem foldl_append{α β:Type}(f:α→List β):∀(l:List α) (acc:List β),l.foldl (fun s x=>s++f x) acc=acc++l.flatMap f
  |[],acc=>by simp
  |x::l,acc=>by rw[xW,foldl_append f l,List.flatMap_cons,Di]
theorem QB{c:Int}{hs:dq}(h6:c≤6){bench:aO}:∀(l:aO),(l.flatMap fun o=>(lK c bench).map fun i=>Au hs bench o i).length≤6*l.length
  |[]=>by simp
  |o::l=>by
   rw[List.flatMap_cons,kK,g9,mU];have:=QB (hs:=hs) h6 (bench:=bench) l;have h2:(lK c bench).length≤6:=by unfold lK;exact oQ (List.length_filter_le _ _) (by simp;omega)
   omega
theorem K3:oV ao η=some []:=rfl
theorem Xq{f:EF}(h:f η=some (.int c))(h0:0≤c)(h6:c≤6):eG f η=some ((((List.range c.toNat).map fun(i:Nat)=>(0:Int)+(i:Int))).map D.int):=by unfold eG;rw[h];show(if c≤10000∧-10000≤c then some (dk 0 c.toNat) else none)=_;rw[ay ⟨by omega,by omega⟩,jC]
theorem QC(h0:0≤c)(h6:c≤6)(hh:∀x∈hs,x.1.length≤6)(hb:bench.length≤6)(o:Int)(acc:List (Int×Int×Int))(jD:acc.length≤1000)(o6 o7:eP):∃Jh Qp,jv [some (.sh (.int c)),some (.sh (.lst (hs.map ah))),some (.sh (.tup (bench.map D.int))),some (.sh (.int (bG hs bench))),some (.ol (acc.map qt)),some (.sh (.int o)),o6,o7]=some (.nx [some (.sh (.int c)),some (.sh (.lst (hs.map ah))),some (.sh (.tup (bench.map D.int))),some (.sh (.int (bG hs bench))),some (.ol ((acc++(lK c bench).map fun i=>Au hs bench o i).map qt)),some (.sh (.int o)),Jh,Qp]):=by
  obtain⟨η',e,Jh,Qp,_,rfl⟩:=kW (b:=aD true 6) (g:=ju) D.int (fun n (s:List (Int×Int×Int)) η=>∃o6 o7,s.length≤1000+n∧η=[some (.sh (.int c)),some (.sh (.lst (hs.map ah))),some (.sh (.tup (bench.map D.int))),some (.sh (.int (bG hs bench))),some (.ol (s.map qt)),some (.sh (.int o)),o6,o7])
    (fun s i=>if (!bench.contains i)=true then s++[Au hs bench o i] else s) (xs:=(List.range c.toNat).map fun(i:Nat)=>(0:Int)+(i:Int))
    (η:=[some (.sh (.int c)),some (.sh (.lst (hs.map ah))),some (.sh (.tup (bench.map D.int))),some (.sh (.int (bG hs bench))),some (.ol (acc.map qt)),some (.sh (.int o)),o6,o7]) 0 acc ⟨o6,o7,by omega,rfl⟩ (fun n i s η hi ⟨o6,o7,hs1,e⟩=>by
      subst e;have hn:n<6:=by have:=(xS.mp hi).1;simp at this;omega
      have X6:inD true (.int i) (.tup (bench.map D.int))=some (.bl (!bench.contains i)):=rC rfl;have hw:=vN (hs:=hs) (S:=.tup ((mR bench o i).map D.int)) (ms:=mR bench o i) rfl hh;by_cases q:(!bench.contains i)=true
      · refine⟨[some (.sh (.int c)),some (.sh (.lst (hs.map ah))),some (.sh (.tup (bench.map D.int))),some (.sh (.int (bG hs bench))),some (.ol (s.map qt)),some (.sh (.int o)),some (.sh (.int i)),o7],
          [some (.sh (.int c)),some (.sh (.lst (hs.map ah))),some (.sh (.tup (bench.map D.int))),some (.sh (.int (bG hs bench))),some (.ol ((s++[Au hs bench o i]).map qt)),some (.sh (.int o)),some (.sh (.int i)),some (.sh (.int (bG hs (mR bench o i))))],rfl,?_,some (.sh (.int i)),some (.sh (.int (bG hs (mR bench o i)))),?_,?_⟩
        · unfold ju;refine(rD ?_).trans ?_
          ·simp only[bU,ag,aJ,cg,cL,bI,X6,q]
          · refine(aE (bF (d:=.int (bG hs (mR bench o i))) ?_)).trans ?_
            ·simp only[ax,ae,ao,eV,cg,cL,bI,dI,xP hb,hw]
            · have hl:(s.map qt).length<10000:=by rw[g9];omega
              simp only[dF,fY,ae,ao,eV,ag,aJ,ig,ik,cg,cL,bI,dI,Ie,mU,List.length_nil];rw[ay (by decide)];simp only[bI];rw[ay hl];simp[qt,Au,K2]
        ·rw[ay q,kK];simp;omega
        ·rw[ay q]
      · refine⟨[some (.sh (.int c)),some (.sh (.lst (hs.map ah))),some (.sh (.tup (bench.map D.int))),some (.sh (.int (bG hs bench))),some (.ol (s.map qt)),some (.sh (.int o)),some (.sh (.int i)),o7],_,rfl,?_,some (.sh (.int i)),o7,?_,rfl⟩
        ·unfold ju;rw[aZ q];refine(lS ?_).trans rfl;simp only[bU,ag,aJ,cg,cL,bI,X6,Bool.eq_false_iff.mpr q]
        ·rw[aZ q];omega)
  refine⟨Jh,Qp,?_⟩;unfold jv;refine(fL (Xq rfl h0 h6)).trans ?_;refine e.trans ?_;rw[oN];rfl
theorem aay(h0:0≤c)(h6:c≤6)(hh:∀x∈hs,x.1.length≤6)(hb:bench.length≤6):lG [.int c,.lst (hs.map ah),.tup (bench.map D.int)]=some (.ol ((CN c hs bench).map qt)):=by
  refine cC ?_;show pq [some (.sh (.int c)),some (.sh (.lst (hs.map ah))),some (.sh (.tup (bench.map D.int))),none,none,none,none,none]=_;unfold pq;have hw:=vN (hs:=hs) (S:=.tup (bench.map D.int)) (ms:=bench) rfl hh;refine(aE (bF (d:=.int (bG hs bench)) ?_)).trans ?_
  ·simp only[ax,ae,ao,eV,cg,cL,bI,dI,hw]
  refine(aE (sO K3)).trans ?_;obtain⟨η',e,o5,o6,o7,_,rfl⟩:=kW (b:=aD true 5) (g:=jv) D.int (fun n (s:List (Int×Int×Int)) η=>∃o5 o6 o7,s.length≤6*n∧η=[some (.sh (.int c)),some (.sh (.lst (hs.map ah))),some (.sh (.tup (bench.map D.int))),some (.sh (.int (bG hs bench))),some (.ol (s.map qt)),o5,o6,o7])
    (fun s o=>s++(lK c bench).map fun i=>Au hs bench o i) (xs:=bench)
    (η:=[some (.sh (.int c)),some (.sh (.lst (hs.map ah))),some (.sh (.tup (bench.map D.int))),some (.sh (.int (bG hs bench))),some (.ol []),none,none,none]) 0 [] ⟨none,none,none,by simp,rfl⟩ (fun n o s η ho ⟨o5,o6,o7,hl,e⟩=>by
      subst e;have hn:n<6:=by have:=(xS.mp ho).1;omega
      obtain⟨Jh,Qp,e2⟩:=QC h0 h6 hh hb o s (by omega) o6 o7;refine⟨_,_,rfl,e2,some (.sh (.int o)),Jh,Qp,?_,rfl⟩;have h2:=QB (c:=c) (hs:=hs) h6 (bench:=bench) [o];simp only[List.flatMap_cons,List.flatMap_nil,uE,mU,List.length_nil] at h2;rw[kK];omega)
  refine(aE ((fL (ds:=bench.map D.int) rfl).trans e)).trans ?_;rw[foldl_append];rfl
def CP:Option (Int×Int×Int)→Int
  |none=>0
  |some x=>x.2.2
def gS(s:Option (Int×Int×Int))(x:Int×Int×Int):Option (Int×Int×Int):=if CP s<x.2.2 then some x else s
def pW(l:List (Int×Int×Int)):Option (Int×Int×Int):=l.foldl gS none
theorem Hi:∀(l:List (Int×Int×Int)) (s:Option (Int×Int×Int)) {x:Int×Int×Int},l.foldl gS s=some x→s=some x∨x∈l
  |[],s,x,h=>.inl h
  |y::l,s,x,h=>by
   rcases Hi l (gS s y) h with q|q
   · unfold gS at q;split at q
     ·cases q;exact .inr cY
     ·exact .inl q
   ·exact .inr (ly _ q)
theorem Hj:∀(l:List (Int×Int×Int)) (s:Option (Int×Int×Int)),(∀y,s=some y→0<y.2.2)→∀x,l.foldl gS s=some x→0<x.2.2
  |[],s,hs,x,h=>hs x h
  |y::l,s,hs,x,h=>by
   refine Hj l (gS s y) (fun z hz=>?_) x h;unfold gS at hz;split at hz
   · rename_i jO;cases hz;cases s with
     |none=>exact jO
     |some w=>have h1:=hs w rfl;simp only[CP] at jO;omega
   ·exact hs z hz
def uy:Option (Int×Int×Int)→D
  |none=>.non
  |some x=>qt x
theorem Xr{x:Int×Int×Int}(h:x∈CN c hs bench):x.1∈bench∧x.2.1∈lK c bench∧x.2.2=K2 hs bench x.1 x.2.1:=by unfold CN at h;obtain⟨o,ho,h⟩:=List.mem_flatMap.mp h;obtain⟨i,hi,rfl⟩:=ja.mp h;exact⟨ho,hi,rfl⟩
theorem Jp{i:Int}(h:i∈lK c bench):0≤i∧i<c∧i∉bench:=by unfold lK at h;obtain⟨h1,h2⟩:=jy.mp h;obtain⟨k,hk,rfl⟩:=ja.mp h1;have:=mW.mp hk;refine⟨by omega,by omega,fun hm=>?_⟩;have h3:bench.contains (0+(k:Int))=true:=yF.mpr hm;rw[h3] at h2;cases h2
theorem Ub(h:cO c bench){o i:Int}(hi:i∈lK c bench):cO c (mR bench o i):=by
  obtain⟨h0,h1,hn⟩:=Jp hi;have hp:(mR bench o i).Perm (bench.filter (fun n=>!(n==o))++[i]):=gA _;refine⟨?_,fun n hm=>?_⟩
  · have A1:(bench.filter (fun n=>!(n==o))++[i]).Nodup:=by
      refine DC ?_ fun hm=>hn (jy.mp hm).1;have:bench.Nodup:=h.1.imp fun oT=>by omega
      exact this.filter _
    have ady:=hp.nodup_iff.mpr A1;exact List.Pairwise.imp₂ (fun a b h1 h2=>by omega) (zp _) ady
  · rcases mV.mp (hp.mem_iff.mp hm) with q|q
    ·exact h.2 n (jy.mp q).1
    · have:n=i:=by simpa using q
      omega
def subs:Nat→List aO
  |0=>[[]]
  |n+1=>subs n++(subs n).map (·++[(n:Int)])
theorem Hk:∀n,(subs n).length=2^n
  |0=>rfl
  |n+1=>by rw[subs,kK,g9,Hk n,Nat.pow_succ];omega
theorem Av:∀(n:Nat) {b:aO},cO (n:Int) b→b∈subs n
  |0,b,h=>by
   cases b with
   |nil=>simp[subs]
   |cons x r=>have:=h.2 x cY;omega
  |n+1,b,h=>by
   rw[subs];by_cases hl:(n:Int)∈b
   · have hE:b≠[]:=fun e=>by rw[e] at hl;simp at hl
     obtain⟨l,x,rfl⟩:∃l x,b=l++[x]:=⟨b.dropLast,b.getLast hE,(List.dropLast_concat_getLast hE).symm⟩
     have hpw:=List.pairwise_append.mp h.1;have hx:x=(n:Int):=by
       rcases mV.mp hl with q|q
       ·have h1:=hpw.2.2 _ q x (by simp);have h2:=h.2 x (by simp);omega
       · have:(n:Int)=x:=by simpa using q
         omega
     subst hx;refine jY _ (ja.mpr ⟨l,Av n ⟨hpw.1,fun y hy=>?_⟩,rfl⟩);have h1:=hpw.2.2 y hy (n:Int) (by simp);have h2:=h.2 y (by simp[hy]);omega
   ·refine A6 _ (Av n ⟨h.1,fun y hy=>?_⟩);have h2:=h.2 y hy;have:y≠(n:Int):=fun e=>hl (e▸hy);omega
theorem filter_lt{α:Type}{p q:α→Bool}{x:α}:∀{l:List α},(∀y,p y=true→q y=true)→x∈l→q x=true→p x=false→(l.filter p).length<(l.filter q).length
  |y::l,hpq,hx,hq,hp=>by
   have mono:∀l:List α,(l.filter p).length≤(l.filter q).length:=by
     intro l;induction l with
     |nil=>simp
     |cons z l ih =>
      rw[Dm,Dm];by_cases h1:p z=true
      ·rw[ay h1,ay (hpq z h1)];simp;exact ih
      · rw[aZ h1];split
        ·simp;omega
        ·exact ih
   rw[Dm,Dm];rcases fR.mp hx with e|e
   ·subst e;rw[aZ (by rw[hp];simp),ay hq];have:=mono l;simp;omega
   · have ih:=filter_lt hpq e hq hp;by_cases h1:p y=true
     ·rw[ay h1,ay (hpq y h1)];simp;exact ih
     · rw[aZ h1];split
       ·simp;omega
       ·exact ih
def K4(hs:dq)(b:aO):Nat:=((subs 6).filter fun s=>decide (bG hs b<bG hs s)).length
theorem QD(hs:dq)(b:aO):K4 hs b≤64:=by have:=List.length_filter_le (fun s=>decide (bG hs b<bG hs s)) (subs 6);rw[Hk] at this;exact this
theorem QF{b':aO}(hc:c≤6)(hb:cO c b')(h:bG hs b<bG hs b'):K4 hs b'<K4 hs b:=by refine filter_lt (x:=b') (fun y hy=>?_) (Av 6 ⟨hb.1,fun n hn=>by have:=hb.2 n hn;omega⟩) (nF h) (lL (Int.lt_irrefl _));have h3:bG hs b'<bG hs y:=xT hy;exact nF (Int.lt_trans h h3)
inductive Trace (c:Int) (hs:dq):aO→List (Int×Int×Int)→aO→Prop
  |done (b:aO):Trace c hs b [] b
  |step {b:aO} {x:Int×Int×Int} {rows:List (Int×Int×Int)} {left:aO} (h:pW (CN c hs b)=some x) (t:Trace c hs (mR b x.1 x.2.1) rows left):Trace c hs b (x::rows) left
theorem CQ(hb:cO c b){x:Int×Int×Int}(h:pW (CN c hs b)=some x):cO c (mR b x.1 x.2.1)∧bG hs b<bG hs (mR b x.1 x.2.1)∧x∈CN c hs b:=by
  have hm:x∈CN c hs b:=by
    rcases Hi _ _ h with q|q
    ·cases q
    ·exact q
  obtain⟨_,hi,hg⟩:=Xr hm;have hp:=Hj _ none (fun y hy=>by cases hy) x h;refine⟨Ub hb hi,?_,hm⟩;rw[hg] at hp;unfold K2 at hp;omega
theorem CT{c:Int}(hc:c≤6){hs:dq}:∀(n:Nat) {b:aO},cO c b→K4 hs b<n→∃rows left,Trace c hs b rows left∧pW (CN c hs left)=none∧cO c left∧rows.length<n
  |0,b,_,h=>by omega
  |n+1,b,hb,h=>by
   cases e:pW (CN c hs b) with
   |none=>exact⟨[],b,.done b,e,hb,by simp⟩
   |some x=>obtain⟨h1,h2,_⟩:=CQ hb e;have h3:=QF hc h1 h2;obtain⟨rows,left,t,e2,ok,hl⟩:=CT hc (hs:=hs) n h1 (by omega);exact⟨x::rows,left,.step e t,e2,ok,by simp;omega⟩
theorem QG(x:Int×Int×Int):qA [D.int x.1,.int x.2.1,.int x.2.2] 2=some (.int x.2.2):=rfl
theorem Xs(x:Int×Int×Int):qA [D.int x.1,.int x.2.1,.int x.2.2] 0=some (.int x.1):=rfl
theorem Xu(x:Int×Int×Int):qA [D.int x.1,.int x.2.1,.int x.2.2] 1=some (.int x.2.1):=rfl
theorem QH(h0:0≤c)(h6:c≤6)(hh:∀x∈hs,x.1.length≤6)(hb:bench.length≤6):fA [.int c,.lst (hs.map ah),.tup (bench.map D.int)]=some (.sh (uy (pW (CN c hs bench)))):=by
  refine cC ?_;show ku [some (.sh (.int c)),some (.sh (.lst (hs.map ah))),some (.sh (.tup (bench.map D.int))),none,none,none]=_;unfold ku;refine(aE (bF (d:=.non) rfl)).trans ?_;refine(aE (bF (d:=.int 0) rfl)).trans ?_;obtain⟨η',e,o5,rfl⟩:=kU (b:=aD true 5) (g:=i6) qt (fun(s:Option (Int×Int×Int)) η=>∃o5,η=[some (.sh (.int c)),some (.sh (.lst (hs.map ah))),some (.sh (.tup (bench.map D.int))),some (.sh (uy s)),some (.sh (.int (CP s))),o5])
    gS (xs:=CN c hs bench) (η:=[some (.sh (.int c)),some (.sh (.lst (hs.map ah))),some (.sh (.tup (bench.map D.int))),some (.sh .non),some (.sh (.int 0)),none]) none ⟨none,rfl⟩ (fun x _ s η ⟨o5,e⟩=>by
      subst e;refine⟨[some (.sh (.int c)),some (.sh (.lst (hs.map ah))),some (.sh (.tup (bench.map D.int))),some (.sh (uy s)),some (.sh (.int (CP s))),some (.sh (qt x))],
        [some (.sh (.int c)),some (.sh (.lst (hs.map ah))),some (.sh (.tup (bench.map D.int))),some (.sh (uy (gS s x))),some (.sh (.int (CP (gS s x)))),some (.sh (qt x))],rfl,?_,_,rfl⟩
      unfold i6;by_cases q:CP s<x.2.2
      · have eb:gS s x=some x:=ay q;rw[eb];refine(rD ?_).trans ?_
        ·simp only[bU,ag,aJ,eC,cg,cL,bI,qt,Ig,QG,u6,nF q]
        ·refine(aE (bF (d:=qt x) rfl)).trans ?_;exact bF (d:=.int x.2.2) rfl
      ·have eb:gS s x=s:=aZ q;rw[eb];refine(lS ?_).trans rfl;simp only[bU,ag,aJ,eC,cg,cL,bI,qt,Ig,QG,u6,lL q])
  refine(aE ((fL (ds:=(CN c hs bench).map qt) ?_).trans e)).trans rfl;have ep:=aay (c:=c) (hs:=hs) h0 h6 hh hb;simp only[cI,ax,ae,ao,eV,ig,ik,cg,cL,bI,dI,ep,dh]
theorem Uc(h0:0≤c)(h6:c≤6)(hh:∀x∈hs,x.1.length≤6)(B:D){left:aO}{rows:List (Int×Int×Int)}(t:Trace c hs b rows left):∀(n:Nat) (made:List (Int×Int×Int)),cO c b→pW (CN c hs left)=none→rows.length<n→made.length+rows.length≤1000→iy kx nc n [some (.sh (.int c)),some (.sh (.lst (hs.map ah))),some (.sh B),some (.ol (made.map qt)),some (.sh (.tup (b.map D.int))),some (.sh (uy (pW (CN c hs b))))]=some (.nx [some (.sh (.int c)),some (.sh (.lst (hs.map ah))),some (.sh B),some (.ol ((made++rows).map qt)),some (.sh (.tup (left.map D.int))),some (.sh .non)]):=by
  induction t with
  |done b =>
   intro n made hb he hn hm;cases n with
   |zero=>omega
   |succ n=>unfold iy;rw[he];simp[kx,bU,ag,aJ,eC,zi,uy]
  |@step b x rows left h t ih =>
   intro n made hb he hn hm;cases n with
   |zero=>omega
   |succ n =>
    obtain⟨Fm,_,_⟩:=CQ hb h;have hl6:=hb.Rt h6;have adB:=Fm.Rt h6;unfold iy;have ht:kx [some (.sh (.int c)),some (.sh (.lst (hs.map ah))),some (.sh B),some (.ol (made.map qt)),some (.sh (.tup (b.map D.int))),some (.sh (uy (pW (CN c hs b))))]=some true:=by rw[h];simp[kx,bU,ag,aJ,eC,zi,uy,qt]
    have hg:nc [some (.sh (.int c)),some (.sh (.lst (hs.map ah))),some (.sh B),some (.ol (made.map qt)),some (.sh (.tup (b.map D.int))),some (.sh (uy (pW (CN c hs b))))] =
        some (.nx [some (.sh (.int c)),some (.sh (.lst (hs.map ah))),some (.sh B),some (.ol ((made++[x]).map qt)),some (.sh (.tup ((mR b x.1 x.2.1).map D.int))),some (.sh (uy (pW (CN c hs (mR b x.1 x.2.1)))))]):=by
      rw[h];unfold nc;have hlen:(made.map qt).length<10000:=by rw[g9];omega
      refine(aE (η':=[some (.sh (.int c)),some (.sh (.lst (hs.map ah))),some (.sh B),some (.ol ((made++[x]).map qt)),some (.sh (.tup (b.map D.int))),some (.sh (uy (some x)))]) ?_).trans ?_
      ·simp only[dF,eV,cg,cL,bI];rw[ay hlen];simp[uy]
      · refine(aE (bF (d:=.tup ((mR b x.1 x.2.1).map D.int)) ?_)).trans ?_
        ·simp only[ax,ae,ao,eV,ag,eC,uy,qt,Ig,Xs,Xu,cg,cL,bI,dI,xP hl6]
        ·refine(bF (d:=uy (pW (CN c hs (mR b x.1 x.2.1)))) ?_).trans rfl;have rb:=QH (c:=c) (hs:=hs) h0 h6 hh adB;simp only[ax,ae,ao,eV,ig,ik,cg,cL,bI,dI,rb]
    rw[ht];simp only[bI,gK,hg];have:=ih n (made++[x]) Fm he (by simp at hn;omega) (by simp at hm⊢;omega);rw[this];simp
theorem QI(h0:0≤c)(h6:c≤6)(hh:∀x∈hs,x.1.length≤6){left:aO}{rows:List (Int×Int×Int)}(hb:cO c b)(t:Trace c hs b rows left)(he:pW (CN c hs left)=none)(hl:rows.length<100):qh [.int c,.lst (hs.map ah),.tup (b.map D.int)]=some (.pr (rows.map qt) [.tup (left.map D.int)]):=by
  refine cC ?_;show um [some (.sh (.int c)),some (.sh (.lst (hs.map ah))),some (.sh (.tup (b.map D.int))),none,none,none]=_;unfold um;refine(aE (sO K3)).trans ?_;refine(aE (bF (d:=.tup (b.map D.int)) rfl)).trans ?_;have rb:=QH (c:=c) (hs:=hs) h0 h6 hh (hb.Rt h6);refine(aE (bF (d:=uy (pW (CN c hs b))) ?_)).trans ?_
  ·simp only[ax,ae,ao,eV,ig,ik,cg,cL,bI,dI,rb]
  refine(aE (Uc h0 h6 hh (.tup (b.map D.int)) t 100 [] hb he hl (by simp;omega))).trans ?_;simp[Km,ae,ao,eV]
def M7(e:Int×aO):xR→xR
  |[]=>[e]
  |x::r=>if pJ e x=true then e::x::r else x::M7 e r
def xu:xR→xR
  |[]=>[]
  |x::r=>M7 x (xu r)
theorem xx(e:Int×aO):∀l,(M7 e l).Perm (e::l)
  |[]=>.refl _
  |x::r=>by
   unfold M7;split
   ·exact .refl _
   ·exact((xx e r).cons x).trans (.swap e x r)
theorem sm:∀l,(xu l).Perm l
  |[]=>.refl _
  |x::r=>(xx x _).trans ((sm r).cons x)
theorem K5{e:Int×aO}:∀{l:xR},l.Pairwise (fun a b=>pJ a b=true)→e∉l→(M7 e l).Pairwise (fun a b=>pJ a b=true)
  |[],_,_=>List.pairwise_singleton _ _
  |x::r,h,hn=>by
   obtain⟨h1,h2⟩:=List.pairwise_cons.mp h;unfold M7;split
   · rename_i q;refine List.pairwise_cons.mpr ⟨fun y hy=>?_,h⟩;rcases fR.mp hy with rfl|hy
     ·exact q
     ·exact yV q (h1 y hy)
   · rename_i q;have q2:pJ x e=true:=yu (fun z=>hn (by rw[z];exact cY)) (by simpa using q);refine List.pairwise_cons.mpr ⟨fun y hy=>?_,K5 h2 fun z=>hn (ly _ z)⟩;rcases fR.mp ((xx e r).mem_iff.mp hy) with rfl|hy
     ·exact q2
     ·exact h1 y hy
theorem CV:∀{l:xR},l.Nodup→(xu l).Pairwise (fun a b=>pJ a b=true)
  |[],_=>List.Pairwise.nil
  |x::r,h=>by obtain⟨h1,h2⟩:=yH.mp h;exact K5 (CV h2) fun z=>h1 ((sm r).mem_iff.mp z)
theorem QJ{l:xR}(h:l.Nodup):hW l=xu l:=u5 h (sm l) (CV h)
def rk(t:aO):Int×aO:=((t.length:Int),t)
def fP(c:Nat):aO:=(List.range c).map fun(i:Nat)=>(0:Int)+(i:Int)
def jN(c:Nat):List aO:=(xu ((dY (fP c)).map rk)).map (·.2)
def om(c:Nat):List aO:=(jN c).drop 1
def Ud(c:Nat):List aO:=(fP (2^c)).map fun b=>EE b c
def sq(c:Nat)(k:Int):List aO:=(Ud c).filter fun t=>((t.length:Int)==k)
def K6(c:Nat):List aO:=(List.range c).flatMap fun(i:Nat)=>(xu ((sq c (1+(i:Int))).map fun t=>(0,t))).map (·.2)
def QK(c:Nat):Bool:=decide (K6 c=om c)&&(decide ((dY (fP c)).map rk).Nodup&&(decide ((dY (fP c)).length<64∨(dY (fP c)).map rk=zR.map fun t=>((t.length:Int),t)) &&
  (((List.range c).all fun(i:Nat)=>decide (sq c (1+(i:Int))).Nodup&&decide ((sq c (1+(i:Int))).length<64))&&((om c).all fun t=>decide (1≤t.length∧t.Pairwise (·<·)∧∀n∈t,0≤n∧n<(c:Int))&&decide ((om c).length≤63)))))
theorem Ue:∀c:Nat,1≤c→c≤6→QK c=true:=by
  intro c h1 h6;have:c=1∨c=2∨c=3∨c=4∨c=5∨c=6:=by omega
  rcases this with rfl|rfl|rfl|rfl|rfl|rfl<;>decide +kernel
structure Xv (c:Nat):Prop where
  law:K6 c=om c
  nd:((dY (fP c)).map rk).Nodup
  few:(dY (fP c)).length<64∨(dY (fP c)).map rk=zR.map fun t=>((t.length:Int),t)
  size:∀i:Nat,i<c→(sq c (1+(i:Int))).Nodup∧(sq c (1+(i:Int))).length<64
  all:∀t∈om c,1≤t.length∧cO (c:Int) t
  len:(om c).length≤63
theorem EI{c:Nat}(h1:1≤c)(h6:c≤6):Xv c:=by
  have h:=Ue c h1 h6;unfold QK at h;simp only[t6,A8,iK] at h;obtain⟨a,b,d,e,f⟩:=h;refine⟨a,b,d,fun i hi=>e i (mW.mpr hi),fun t ht=>?_,?_⟩
  ·obtain⟨⟨g1,g2,g3⟩,_⟩:=f t ht;exact⟨g1,g2,g3⟩
  · cases hz:om c with
    |nil=>simp
    |cons x r=>rw[←hz];exact(f x (by rw[hz];exact cY)).2
theorem QL(t:aO):iC [.tup (t.map D.int)]=some (.sh (fQ (rk t))):=by simp[iC,jB,eS,GY,dW,fY,ae,ao,jQ,dU,aJ,eV,fQ,rk]
theorem K7(ts:List aO):zS iC ts=some (ts.map rk):=by
  induction ts with
  |nil=>rfl
  |cons p ps ih =>
   have e2:rJ iC p=some (rk p):=by unfold rJ;rw[QL];simp only[fQ];rw[ay (show kH ((rk p).2.map D.int)=some p from du p)];rfl
   rw[bY];unfold zS;rw[e2,bI,ih];rfl
theorem Aw(told:List aO)(n:Int):(told++told.map fun some=>some++[n]).length=2*told.length:=by simp;omega
theorem CW{N:D}(told:List aO)(n:Int)(ht:∀t∈told,t.length≤100)(hl:told.length≤1000):jh [some (.sh N),some (.sh (.lst (told.map cQ))),some (.sh (.int n))]=some (.nx [some (.sh N),some (.sh (.lst ((told++told.map fun some=>some++[n]).map cQ))),some (.sh (.int n))]):=by
  unfold jh;have q:cE (aD true 0) eQ (ag MC (eV 0) (fY (ae (eV 1) ao))) (told.map cQ) (List.replicate 1 none++[some (.sh (.int n))])=some ((told.map fun some=>some++[n]).map cQ):=by
    rw[e9];refine eX cQ _ fun t hm=>⟨[some (.sh (cQ t)),some (.sh (.int n))],rfl,rfl,?_⟩
    have hz:(t.map D.int).length+[D.int n].length≤1000:=by have:=ht t hm;rw[g9];simp;omega
    simp only[ag,eV,fY,ae,ao,cg,cL,bI,dI];rw[ay (by simp)];simp only[bI,cQ,MC,hz,gK,Function.comp,v9,bY,jb]
  refine bF (d:=.lst ((told++told.map fun some=>some++[n]).map cQ)) ?_;have hz:(told.map cQ).length+((told.map fun some=>some++[n]).map cQ).length≤10000:=by simp only[g9];omega
  simp only[eL,yb,bP,cI,eV,cg,cL,bI,dI,dh,jd,bY,jb,sY,q,HS,hz,gK,v9]
theorem QM{c:Nat}(h1:1≤c)(h6:c≤6):iE [.tup ((fP c).map D.int)]=some (.ol ((jN c).map cQ)):=by
  have hk:=EI h1 h6;have h00:∀t∈([[]]:List aO),t.length≤0:=fun t ht=>by
    have e:t=[]:=by simpa using ht
    rw[e];exact cw _
  obtain⟨η',e,o2,_,rfl⟩:=kW (b:=aD true 2) (g:=jh) D.int (fun i (told:List aO) η=>∃o2,(told.length=2^i∧∀t∈told,t.length≤i)∧η=[some (.sh (.tup ((fP c).map D.int))),some (.sh (.lst (told.map cQ))),o2]) (fun told n=>told++told.map fun some=>some++[n]) (xs:=fP c)
    (η:=[some (.sh (.tup ((fP c).map D.int))),some (.sh (.lst (([[]]:List aO).map cQ))),none]) 0 [[]] ⟨none,⟨rfl,h00⟩,rfl⟩ (fun i n told η hn ⟨o2,⟨hl,ht⟩,e⟩=>by
      subst e;have hi:i<c:=by have:=(xS.mp hn).1;simpa[fP] using this
      rw[Nat.zero_add] at hl ht⊢;have hp:2^i≤2^6:=Nat.pow_le_pow_right (by decide) (by omega);refine⟨_,_,rfl,CW told n (fun t h=>by have:=ht t h;omega) (by omega),_,⟨by rw[Aw,hl,Nat.pow_succ];omega,fun t h=>?_⟩,rfl⟩;rcases mV.mp h with q|q
      ·have:=ht t q;omega
      ·obtain⟨u,hu,rfl⟩:=ja.mp q;have:=ht u hu;simp;omega)
  refine cC ?_;show lU [some (.sh (.tup ((fP c).map D.int))),none,none]=_;unfold lU;refine(aE (bF (d:=.lst (([[]]:List aO).map cQ)) rfl)).trans ?_;refine(aE ((fL (ds:=(fP c).map D.int) rfl).trans e)).trans ?_;refine fT ?_;have hc:((dY (fP c)).map rk).Nodup∧(((dY (fP c)).map rk).length<64∨(dY (fP c)).map rk=zR.map fun t=>((t.length:Int),t)):=⟨hk.nd,by rw[g9];exact hk.few⟩
  have es:(fP c).foldl (fun told n=>told++told.map fun some=>some++[n]) [[]]=dY (fP c):=rfl;simp only[vd,eV,cg,cL,bI,es,wK,K7];rw[ay hc,QJ hk.nd];unfold jN;rw[e9];rfl
theorem K8{c:Nat}(h1:1≤c)(h6:c≤6):di [.int (c:Int)]=some (.ol ((om c).map cQ)):=by
  refine cC ?_;show mG [some (.sh (.int (c:Int)))]=_;unfold mG;refine fT ?_;have hr:(if (c:Int)≤1000∧-1000≤(c:Int) then some (D.tup (dk 0 (c:Int).toNat)) else none)=some (.tup ((fP c).map D.int)):=by rw[ay ⟨by omega,by omega⟩,Dj,jC];rfl
  simp only[kQ,ax,ae,ao,Kv,aJ,cg,bI,hr,dI,QM h1 h6,oD,eC,tP];unfold cutD om;have e1:HT.uB ((jN c).map cQ).length 0 (some (1:Int))=min 1 ((jN c).map cQ).length:=HT.sy _ _ 1;rw[e1,HT.yN,g9,←List.map_drop,←List.map_take]
  congr 2
  by_cases hz:(jN c).length=0
  ·have:jN c=[]:=List.eq_nil_of_length_eq_zero hz;rw[this];rfl
  ·rw[Nat.min_eq_left (by omega),Ht (by rw[List.length_drop];omega)]
theorem xA(hs:dq):iD [.lst (hs.map ah)]=some (.sh (.int (ak hs))):=by
  refine cC ?_;show rY [some (.sh (.lst (hs.map ah)))]=_;unfold rY;refine ke ?_;have q:cE (aD true 0) eQ (ag iY (eV 0) (eC (.int 1))) (hs.map ah) (List.replicate 1 none++[])=some ((hs.map fun r=>r.2).map D.int):=by rw[e9];exact eX ah (D.int∘fun r=>r.2) fun x _=>⟨[some (.sh (ah x))],rfl,rfl,rfl⟩
  simp only[jQ,ae,ao,eL,bP,cI,eV,cg,bI,dh,jd,jb,q,dI,ya,du];rfl
def gT(T:aO)(h:aO×Int):Bool:=((J0 h.1 T:Nat):Int)==(T.length:Int)
def sX(b T:aO)(h:aO×Int):Bool:=decide (((J0 h.1 b:Nat):Int)<(T.length:Int))
def X7(hs:dq)(b T:aO):Bool:=decide ((T.length:Int)*ak hs≤(b.length:Int)*ak ((hs.filter (gT T)).filter (sX b T)))
theorem Hl(hs:dq)(T:aO):cS [.lst (hs.map ah),.tup (T.map D.int)]=some (.ol ((hs.filter (gT T)).map ah)):=by
  refine cC ?_;show iF [some (.sh (.lst (hs.map ah))),some (.sh (.tup (T.map D.int)))]=_;unfold iF;refine fT ?_;have q:cE (aD true 0) (bU (ag m5 (ax bO (ae (ag iY (eV 0) (eC (.int 0))) (ae (eV 1) ao))) (jQ dU (ae (aJ 1) ao)))) (eV 0) (hs.map ah) (List.replicate 1 none++[some (.sh (.tup (T.map D.int)))])=some ((hs.filter (gT T)).map ah):=by
    refine dw ah (gT T) ah fun x _=>⟨[some (.sh (ah x)),some (.sh (.tup (T.map D.int)))],rfl,?_,fun _=>rfl⟩
    have hx:iY (ah x) (.int 0)=some (.tup (x.1.map D.int)):=rfl;have hi:=Ua (ns:=x.1) (ms:=T) (S:=.tup (T.map D.int)) rfl;simp only[bU,ag,ax,jQ,ae,ao,eV,aJ,eC,cg,cL,bI,dI,hx,hi,dU,g9,jl];rfl
  simp only[bP,cI,eV,cg,cL,bI,dh,jd,bY,jb,sY,q]
theorem aaz(hs:dq)(b T:aO):gj [.lst (hs.map ah),.tup (b.map D.int),.tup (T.map D.int)]=some (.ol (((hs.filter (gT T)).filter (sX b T)).map ah)):=by
  refine cC ?_;show lh [some (.sh (.lst (hs.map ah))),some (.sh (.tup (b.map D.int))),some (.sh (.tup (T.map D.int))),none]=_;unfold lh;refine(aE (bF (d:=.lst ((hs.filter (gT T)).map ah)) ?_)).trans ?_
  ·simp only[ax,ae,ao,eV,cg,cL,bI,dI,Hl]
  refine fT ?_;have q:cE (aD true 0) (bU (ag HW (ax bO (ae (ag iY (eV 0) (eC (.int 0))) (ae (eV 1) ao))) (jQ dU (ae (aJ 2) ao)))) (eV 0) ((hs.filter (gT T)).map ah) (List.replicate 1 none++[some (.sh (.tup (b.map D.int))),some (.sh (.tup (T.map D.int)))])=some (((hs.filter (gT T)).filter (sX b T)).map ah):=by
    refine dw ah (sX b T) ah fun x _=>⟨[some (.sh (ah x)),some (.sh (.tup (b.map D.int))),some (.sh (.tup (T.map D.int)))],rfl,?_,fun _=>rfl⟩
    have hx:iY (ah x) (.int 0)=some (.tup (x.1.map D.int)):=rfl;have hi:=Ua (ns:=x.1) (ms:=b) (S:=.tup (b.map D.int)) rfl;simp only[bU,ag,ax,jQ,ae,ao,eV,aJ,eC,cg,cL,bI,dI,hx,hi,dU,g9,tR];rfl
  simp only[bP,cI,eV,ig,ik,cg,cL,bI,dh,jd,bY,jb,sY,q]
theorem CY{T:aO}(h:T.length≤6)(x:Int):uV (.int ((T.length:Nat):Int)) (.int x)=some (.int ((T.length:Int)*x)):=O8 (Ii (by omega) (by omega))
theorem EJ{fa fb:EF}{x y r:D}(h1:fa η=some x)(h2:fb η=some y)(h3:g x y=some r):ag g fa fb η=some r:=by unfold ag;rw[h1,bI,h2,bI];exact h3
theorem K9{f:EF}{S:D}(h:f η=some (.tup (ms.map D.int))):jQ dU (ae f ao) η=some (.int ((ms.length:Nat):Int)):=by simp only[jQ,ae,ao,h,bI,dI,dU,g9]
theorem Hm(La hs:dq){T:aO}(hb:b.length≤6)(hT:T.length≤6):dN [.lst (La.map ah),.lst (hs.map ah),.tup (b.map D.int),.tup (T.map D.int)]=some (.sh (.bl (decide ((T.length:Int)*ak hs≤(b.length:Int)*ak La)))):=by
  refine cC ?_;show nW [some (.sh (.lst (La.map ah))),some (.sh (.lst (hs.map ah))),some (.sh (.tup (b.map D.int))),some (.sh (.tup (T.map D.int)))]=_;unfold nW;refine ke ?_;refine EJ (EJ (K9 (S:=.non) (ms:=b) rfl) (y:=.int (ak La)) ?_ (CY hb _)) (EJ (K9 (S:=.non) (ms:=T) rfl) (y:=.int (ak hs)) ?_ (CY hT _)) (UR _ _)
  ·simp only[ax,ae,ao,eV,cg,bI,dI,xA]
  ·simp only[ax,ae,ao,eV,cg,cL,bI,dI,xA]
theorem Ug{C:D}(hs:dq){T:aO}(hb:b.length≤6)(hT:T.length≤6):ky [some (.sh C),some (.sh (.lst (hs.map ah))),some (.sh (.tup (b.map D.int))),some (.sh (cQ T))]=if X7 hs b T=true then some (.rt (.sh (cQ T))) else some (.nx [some (.sh C),some (.sh (.lst (hs.map ah))),some (.sh (.tup (b.map D.int))),some (.sh (cQ T))]):=by
  unfold ky;have e:bU (ax dN (ae (ax gj (ae (eV 1) (ae (eV 2) (ae (eV 3) ao)))) (ae (eV 1) (ae (eV 2) (ae (eV 3) ao))))) [some (.sh C),some (.sh (.lst (hs.map ah))),some (.sh (.tup (b.map D.int))),some (.sh (cQ T))]=some (X7 hs b T):=by simp only[bU,ax,ae,ao,eV,cg,cL,bI,dI,cQ,aaz,Hm _ hs hb hT];rfl
  cases q:X7 hs b T with
  |true=>rw[q] at e;exact(rD e).trans rfl
  |false=>rw[q] at e;exact(lS e).trans rfl
def pD(c:Nat)(hs:dq)(b:aO):Option aO:=(om c).find? (X7 hs b)
def lW:Option aO→D
  |none=>.non
  |some T=>cQ T
theorem find_some{α β:Type}(p:α→Bool)(f:α→β):∀l:List α,l.findSome? (fun x=>if p x=true then some (f x) else none)=(l.find? p).map f
  |[]=>rfl
  |x::l=>by
   rw[List.findSome?_cons,uD];cases h:p x with
   |true=>rfl
   |false=>exact find_some p f l
theorem M8{c:Nat}(h1:1≤c)(h6:c≤6)(hs:dq)(hb:b.length≤6):kz [.int (c:Int),.lst (hs.map ah),.tup (b.map D.int)]=some (.sh (lW (pD c hs b))):=by
  have hk:=EI h1 h6;refine cC ?_;show qi [some (.sh (.int (c:Int))),some (.sh (.lst (hs.map ah))),some (.sh (.tup (b.map D.int))),none]=_;unfold qi;have hl:cI (ax di (ae (eV 0) ao)) [some (.sh (.int (c:Int))),some (.sh (.lst (hs.map ah))),some (.sh (.tup (b.map D.int))),none]=some ((om c).map cQ):=by simp only[cI,ax,ae,ao,eV,cg,bI,dI,K8 h1 h6,dh]
  have key:=p8 (b:=aD true 3) (g:=ky) cQ (fun η=>∃o3,η=[some (.sh (.int (c:Int))),some (.sh (.lst (hs.map ah))),some (.sh (.tup (b.map D.int))),o3]) (fun T=>if X7 hs b T=true then some (Slot.sh (cQ T)) else none)
    (xs:=om c) (η:=[some (.sh (.int (c:Int))),some (.sh (.lst (hs.map ah))),some (.sh (.tup (b.map D.int))),none]) ⟨none,rfl⟩ (fun T hT η ⟨o3,e⟩=>by
      subst e;refine⟨[some (.sh (.int (c:Int))),some (.sh (.lst (hs.map ah))),some (.sh (.tup (b.map D.int))),some (.sh (cQ T))],rfl,?_⟩;have q:=Ug (C:=.int (c:Int)) hs hb ((hk.all T hT).2.Rt (by omega));cases e:X7 hs b T with
      |true=>rw[e] at q;exact .inl ⟨_,rfl,q⟩
      |false=>rw[e] at q;exact .inr ⟨rfl,_,q,_,rfl⟩)
  rw[find_some] at key;rcases key with⟨r,a1,a2⟩|⟨a1,η',a2,o3,rfl⟩
  ·refine ue ((fL hl).trans (a2.trans ?_));obtain⟨T,b1,rfl⟩:=g6.mp a1;unfold pD;rw[b1];rfl
  ·refine(aE ((fL hl).trans a2)).trans ?_;unfold pD;rw[Option.map_eq_none_iff.mp a1];rfl
theorem Jq(h:cO c ns):ns.Nodup:=h.1.imp fun oT e=>by omega
theorem CZ:∀{ns:aO} {told:List aO},ns.Nodup→told.Nodup→(∀t∈told,∀n∈ns,n∉t)→(ns.foldl (fun told n=>told++told.map fun some=>some++[n]) told).Nodup
  |[],told,_,h,_=>h
  |n::ns,told,hn,h,hd=>by
   obtain⟨h1,h2⟩:=yH.mp hn;rw[xW];refine CZ h2 ?_ fun t ht m hm=>?_
   · refine List.nodup_append.mpr ⟨h,?_,fun a ha b hb e=>?_⟩
     ·unfold List.Nodup at h⊢;rw[Dh];exact h.imp fun oT e=>oT (by simpa using e)
     ·obtain⟨v,hv,rfl⟩:=ja.mp hb;exact hd a ha n cY (by rw[e];simp)
   · rcases mV.mp ht with q|q
     ·exact hd t q m (ly _ hm)
     · obtain⟨v,hv,rfl⟩:=ja.mp q;intro z;rcases mV.mp z with z|z
       ·exact hd v hv m (ly _ hm) z
       · have:m=n:=by simpa using z
         exact h1 (this▸hm)
theorem Ax:∀(ns:aO) (told:List aO),(ns.foldl (fun told n=>told++told.map fun some=>some++[n]) told).length=2^ns.length*told.length
  |[],told=>by simp
  |n::ns,told=>by rw[xW,Ax ns,Aw,mU,Nat.pow_succ,Nat.mul_assoc]
theorem M9(c6:c≤6)(hb:cO c b)(h6:b.length=6):b=[0,1,2,3,4,5]:=by
  have key:∀(l:aO) (lo:Int) (k:Nat),l.Pairwise (·<·)→(∀n∈l,lo≤n∧n<lo+k)→l.length=k→l=(List.range k).map fun(i:Nat)=>lo+(i:Int):=by
    intro l;induction l with
    |nil=>intro lo k _ _ h;subst h;rfl
    |cons x r ih =>
     intro lo k hp hb hk;cases k with
     |zero=>simp at hk
     |succ k =>
      obtain⟨h1,h2⟩:=List.pairwise_cons.mp hp;have hx:=hb x cY;have hr:∀n∈r,lo+1≤n∧n<lo+1+k:=fun n hn=>by have a:=h1 n hn;have b:=hb n (ly _ hn);omega
      have ZD:r.length=k:=by simpa using hk
      have e:=ih (lo+1) k h2 hr ZD;have hx0:x=lo:=by
        cases k with
        |zero=>omega
        |succ k =>
         -- the least of the rest is lo+1
         rw[e] at h1;have:=h1 (lo+1+((0:Nat):Int)) (ja.mpr ⟨0,mW.mpr (by omega),rfl⟩);omega
      rw[e,hx0,List.range_succ_eq_map,bY,e9]
      congr 1
      ·simp
      · refine t4 fun i _=>?_;show lo+1+(i:Int)=lo+((i+1:Nat):Int)
        omega
  have:=key b 0 6 hb.1 (fun n hn=>by have:=hb.2 n hn;omega) h6;rw[this];rfl
theorem Nb(c6:c≤6)(hb:cO c b):∃L:List aO,iE [.tup (b.map D.int)]=some (.ol (L.map cQ))∧L.Perm (dY b):=by
  have h6:=hb.Rt c6;have adC:=Jq hb;obtain⟨η',e,o2,_,rfl⟩:=kW (b:=aD true 2) (g:=jh) D.int (fun i (told:List aO) η=>∃o2,(told.length=2^i∧∀t∈told,t.length≤i)∧η=[some (.sh (.tup (b.map D.int))),some (.sh (.lst (told.map cQ))),o2]) (fun told n=>told++told.map fun some=>some++[n]) (xs:=b)
    (η:=[some (.sh (.tup (b.map D.int))),some (.sh (.lst (([[]]:List aO).map cQ))),none]) 0 [[]] ⟨none,⟨rfl,fun t ht=>by
      have e:t=[]:=by simpa using ht
      subst e;exact cw _⟩,rfl⟩ (fun i n told η hn ⟨o2,⟨hl,ht⟩,e⟩=>by
      subst e;have hi:i<b.length:=(xS.mp hn).1;rw[Nat.zero_add] at hl ht⊢;have hp:2^i≤2^6:=Nat.pow_le_pow_right (by decide) (by omega);refine⟨_,_,rfl,CW told n (fun t h=>by have:=ht t h;omega) (by omega),_,⟨by rw[Aw,hl,Nat.pow_succ];omega,fun t h=>?_⟩,rfl⟩;rcases mV.mp h with q|q
      ·have:=ht t q;omega
      ·obtain⟨u,hu,rfl⟩:=ja.mp q;have:=ht u hu;simp;omega)
  have A1:((dY b).map rk).Nodup:=by
    have:=CZ (ns:=b) (told:=[[]]) adC (by simp) (fun t ht m _=>by
      have e:t=[]:=by simpa using ht
      subst e;simp)
    unfold List.Nodup at this⊢;rw[Dh];exact this.imp fun oT e=>oT (by injection e)
  have hlen:(dY b).length=2^b.length:=by have:=Ax b [[]];unfold dY;rw[this];simp
  have hc:((dY b).map rk).Nodup∧(((dY b).map rk).length<64∨(dY b).map rk=zR.map fun t=>((t.length:Int),t)):=by
    refine⟨A1,?_⟩;by_cases q:b.length=6
    ·right;rw[M9 c6 hb q];rfl
    ·left;rw[g9,hlen];have:2^b.length≤2^5:=Nat.pow_le_pow_right (by decide) (by omega);omega
  refine⟨(hW ((dY b).map rk)).map (·.2),cC ?_,?_⟩
  ·show lU [some (.sh (.tup (b.map D.int))),none,none]=_;unfold lU;refine(aE (bF (d:=.lst (([[]]:List aO).map cQ)) rfl)).trans ?_;refine(aE ((fL (ds:=b.map D.int) rfl).trans e)).trans ?_;refine fT ?_;have es:b.foldl (fun told n=>told++told.map fun some=>some++[n]) [[]]=dY b:=rfl;simp only[vd,eV,cg,cL,bI,es,wK,K7];rw[ay hc,e9];rfl
  ·refine((iz _).map _).trans ?_;rw[e9];have:(dY b).map ((fun x=>x.2)∘rk)=dY b:=(t4 fun _ _=>rfl).trans (List.map_id _);rw[this]
def jw(b few:aO)(h:aO×Int):Bool:=((J0 h.1 (b.filter fun n=>!few.contains n):Nat):Int)==0
def nh(hs:dq)(b T:aO)(q:aO×Int→Bool):Bool:=decide ((T.length:Int)*ak hs≤(b.length:Int)*ak ((hs.filter (gT T)).filter q))
def Ay(b T:aO):Int:=if (T.length:Int)-1<(b.length:Int) then(T.length:Int)-1 else(b.length:Int)
def Va(b T:aO):List aO:=(dY b).filter fun t=>(t.length:Int)==Ay b T
def Nc(hs:dq)(b T:aO):Bool:=(Va b T).any fun few=>nh hs b T (jw b few)
theorem Xw(hs:dq)(b T few:aO):fB [.lst (hs.map ah),.tup (b.map D.int),.tup (T.map D.int),.tup (few.map D.int)]=some (.ol (((hs.filter (gT T)).filter (jw b few)).map ah)):=by
  refine cC ?_;show kA [some (.sh (.lst (hs.map ah))),some (.sh (.tup (b.map D.int))),some (.sh (.tup (T.map D.int))),some (.sh (.tup (few.map D.int))),none]=_;unfold kA;have q1:cE (aD true 0) (bU (ag (inD true) (aJ 0) (aJ 1))) (eV 0) (b.map D.int) (List.replicate 1 none++[some (.sh (.tup (few.map D.int)))])=some ((b.filter fun n=>!few.contains n).map D.int):=by
    refine dw D.int (fun n=>!few.contains n) D.int fun n _=>⟨[some (.sh (.int n)),some (.sh (.tup (few.map D.int)))],rfl,?_,fun _=>rfl⟩
    have q:=rC (n:=n) (ms:=few) (S:=.tup (few.map D.int)) rfl;simp only[bU,ag,aJ,cg,cL,bI,q]
  refine(aE (bF (d:=.lst ((b.filter fun n=>!few.contains n).map D.int)) ?_)).trans ?_
  ·simp only[eL,bP,cI,eV,cg,cL,bI,dh,jd,bY,jb,sY,q1,dI]
  refine fT ?_;have q:cE (aD true 0) (bU (ag m5 (ax bO (ae (ag iY (eV 0) (eC (.int 0))) (ae (eV 1) ao))) (eC (.int 0)))) (eV 0) ((hs.filter (gT T)).map ah) (List.replicate 1 none++[some (.sh (.lst ((b.filter fun n=>!few.contains n).map D.int)))])=some (((hs.filter (gT T)).filter (jw b few)).map ah):=by
    refine dw ah (jw b few) ah fun x _=>⟨[some (.sh (ah x)),some (.sh (.lst ((b.filter fun n=>!few.contains n).map D.int)))],rfl,?_,fun _=>rfl⟩
    have hx:iY (ah x) (.int 0)=some (.tup (x.1.map D.int)):=rfl;have hi:=Ua (ns:=x.1) (ms:=b.filter fun n=>!few.contains n) (S:=.lst ((b.filter fun n=>!few.contains n).map D.int)) rfl;simp only[bU,ag,ax,ae,ao,eV,eC,cg,cL,bI,dI,hx,hi,jl];rfl
  simp only[bP,cI,ax,ae,ao,eV,ig,ik,cg,cL,bI,dI,Hl,dh,jd,bY,jb,sY,q]
theorem Nf(c6:c≤6)(hb:cO c b)(T:aO):∃L:List aO,gP [.tup (b.map D.int),.tup (T.map D.int)]=some (.ol (L.map cQ))∧L.Perm (Va b T):=by
  obtain⟨L,e,hp⟩:=Nb c6 hb;refine⟨L.filter fun t=>(t.length:Int)==Ay b T,cC ?_,hp.filter _⟩;show mI [some (.sh (.tup (b.map D.int))),some (.sh (.tup (T.map D.int))),none]=_;unfold mI;refine(aE (bF (d:=.int (Ay b T)) ?_)).trans ?_
  ·simp only[jQ,ae,ao,aJ,ag,eC,dU,cg,cL,bI,dI,g9,Ie,minD];rfl
  refine fT ?_;have q:cE (aD true 0) (bU (ag m5 (jQ dU (ae (aJ 0) ao)) (aJ 1))) (eV 0) (L.map cQ) (List.replicate 1 none++[some (.sh (.int (Ay b T)))])=some ((L.filter fun t=>(t.length:Int)==Ay b T).map cQ):=by
    refine dw cQ (fun t=>(t.length:Int)==Ay b T) cQ fun t _=>⟨[some (.sh (cQ t)),some (.sh (.int (Ay b T)))],rfl,?_,fun _=>rfl⟩
    simp only[bU,ag,jQ,ae,ao,aJ,cg,cL,bI,dI,cQ,dU,g9,jl]
  simp only[bP,cI,ax,ae,ao,eV,ig,ik,cg,cL,bI,dI,e,dh,jd,bY,jb,sY,q]
theorem Xx{C:D}(c6:c≤6)(hs:dq){T:aO}(hb:cO c b)(hT:T.length≤6)(o4:eP):∃Vb,dP [some (.sh C),some (.sh (.lst (hs.map ah))),some (.sh (.tup (b.map D.int))),some (.sh (cQ T)),o4]=if Nc hs b T=true then some (.rt (.sh (cQ T))) else some (.nx [some (.sh C),some (.sh (.lst (hs.map ah))),some (.sh (.tup (b.map D.int))),some (.sh (cQ T)),Vb]):=by
  have hb6:=hb.Rt c6;obtain⟨L,e,hp⟩:=Nf c6 hb T;have hl:cI (ax gP (ae (eV 2) (ae (eV 3) ao))) [some (.sh C),some (.sh (.lst (hs.map ah))),some (.sh (.tup (b.map D.int))),some (.sh (cQ T)),o4]=some (L.map cQ):=by simp only[cI,ax,ae,ao,eV,cg,cL,bI,dI,cQ,e,dh]
  have key:=p8 (b:=aD true 4) (g:=gn) cQ (fun η=>∃o4,η=[some (.sh C),some (.sh (.lst (hs.map ah))),some (.sh (.tup (b.map D.int))),some (.sh (cQ T)),o4]) (fun few=>if nh hs b T (jw b few)=true then some (Slot.sh (cQ T)) else none)
    (xs:=L) (η:=[some (.sh C),some (.sh (.lst (hs.map ah))),some (.sh (.tup (b.map D.int))),some (.sh (cQ T)),o4]) ⟨o4,rfl⟩ (fun few hf η ⟨o4,e⟩=>by
      subst e;refine⟨[some (.sh C),some (.sh (.lst (hs.map ah))),some (.sh (.tup (b.map D.int))),some (.sh (cQ T)),some (.sh (cQ few))],rfl,?_⟩;unfold gn;have ht:bU (ax dN (ae (ax fB (ae (eV 1) (ae (eV 2) (ae (eV 3) (ae (eV 4) ao))))) (ae (eV 1) (ae (eV 2) (ae (eV 3) ao))))) [some (.sh C),some (.sh (.lst (hs.map ah))),some (.sh (.tup (b.map D.int))),some (.sh (cQ T)),some (.sh (cQ few))]=some (nh hs b T (jw b few)):=by simp only[bU,ax,ae,ao,eV,cg,cL,bI,dI,cQ,Xw,Hm _ hs hb6 hT];rfl
      cases q:nh hs b T (jw b few) with
      |true=>rw[q] at ht;exact .inl ⟨_,rfl,(rD ht).trans rfl⟩
      |false=>rw[q] at ht;exact .inr ⟨rfl,_,(lS ht).trans rfl,_,rfl⟩)
  have adD:Nc hs b T=L.any fun few=>nh hs b T (jw b few):=by unfold Nc;rw[Bb,Dn,Dn];exact⟨fun⟨x,h1,h2⟩=>⟨x,hp.mem_iff.mpr h1,h2⟩,fun⟨x,h1,h2⟩=>⟨x,hp.mem_iff.mp h1,h2⟩⟩
  unfold dP;rw[adD];rcases key with⟨r,a1,a2⟩|⟨a1,η',a2,Vb,rfl⟩
  · refine⟨none,?_⟩;obtain⟨few,hf,h2⟩:=List.exists_of_findSome?_eq_some a1;have hq:nh hs b T (jw b few)=true:=by
      cases q:nh hs b T (jw b few) with
      |true=>rfl
      |false=>rw[q,aZ (by decide)] at h2;cases h2
    rw[hq,ay rfl] at h2;cases h2;rw[ay (Dn.mpr ⟨few,hf,hq⟩)];exact(fL hl).trans a2
  · refine⟨Vb,?_⟩;have hn:(L.any fun few=>nh hs b T (jw b few))=false:=by
      cases q:L.any fun few=>nh hs b T (jw b few) with
      |false=>rfl
      |true=>obtain⟨x,h1,h2⟩:=Dn.mp q;have:=List.findSome?_eq_none_iff.mp a1 x h1;rw[h2,ay rfl] at this;cases this
    rw[hn,aZ (by decide)];exact(fL hl).trans a2
def pE(c:Nat)(hs:dq)(b:aO):Option aO:=(om c).find? (Nc hs b)
theorem Uh{c:Nat}(h1:1≤c)(h6:c≤6)(hs:dq)(hb:cO (c:Int) b):dr [.int (c:Int),.lst (hs.map ah),.tup (b.map D.int)]=some (.sh (lW (pE c hs b))):=by
  have hk:=EI h1 h6;refine cC ?_;show g8 [some (.sh (.int (c:Int))),some (.sh (.lst (hs.map ah))),some (.sh (.tup (b.map D.int))),none,none]=_;unfold g8;have hl:cI (ax di (ae (eV 0) ao)) [some (.sh (.int (c:Int))),some (.sh (.lst (hs.map ah))),some (.sh (.tup (b.map D.int))),none,none]=some ((om c).map cQ):=by simp only[cI,ax,ae,ao,eV,cg,bI,dI,K8 h1 h6,dh]
  have key:=p8 (b:=aD true 3) (g:=dP) cQ (fun η=>∃o3 o4,η=[some (.sh (.int (c:Int))),some (.sh (.lst (hs.map ah))),some (.sh (.tup (b.map D.int))),o3,o4]) (fun T=>if Nc hs b T=true then some (Slot.sh (cQ T)) else none)
    (xs:=om c) (η:=[some (.sh (.int (c:Int))),some (.sh (.lst (hs.map ah))),some (.sh (.tup (b.map D.int))),none,none]) ⟨none,none,rfl⟩ (fun T hT η ⟨o3,o4,e⟩=>by
      subst e;refine⟨[some (.sh (.int (c:Int))),some (.sh (.lst (hs.map ah))),some (.sh (.tup (b.map D.int))),some (.sh (cQ T)),o4],rfl,?_⟩;obtain⟨Vb,q⟩:=Xx (C:=.int (c:Int)) (c:=(c:Int)) (by omega) hs hb ((hk.all T hT).2.Rt (by omega)) o4;cases e:Nc hs b T with
      |true=>rw[e,ay rfl] at q;exact .inl ⟨_,rfl,q⟩
      |false=>rw[e,aZ (by decide)] at q;exact .inr ⟨rfl,_,q,_,_,rfl⟩)
  rw[find_some] at key;rcases key with⟨r,a1,a2⟩|⟨a1,η',a2,o3,o4,rfl⟩
  ·refine ue ((fL hl).trans (a2.trans ?_));obtain⟨T,b1,rfl⟩:=g6.mp a1;unfold pE;rw[b1];rfl
  ·refine(aE ((fL hl).trans a2)).trans ?_;unfold pE;rw[Option.map_eq_none_iff.mp a1];rfl
def dC(r:aO×Int):D:=.tup [.lst (r.1.map D.int),.int r.2]
def gw(ns:aO):aO:=(NS.nameSet ns).map fun(k:Nat)=>(k:Int)
def kD(c:Int)(rs:dq):Prop:=∀r∈rs,(∀n∈r.1,0≤n∧n<c)∧0≤r.2
def jX(ps:dq)(r:aO×Int):dq:=if 0<r.2 then mP ps (gw r.1) ((gR ps (gw r.1)).getD 0+r.2) else ps
def qu(rs:dq):dq:=rs.foldl jX []
theorem Az(h0:0≤c)(h:∀n∈ns,0≤n∧n<c):cO c (gw ns):=by
  refine⟨?_,fun n hn=>?_⟩
  ·unfold gw NS.nameSet;rw[Dh];exact(List.pairwise_lt_range.filter _).imp fun h=>by omega
  ·obtain⟨k,hk,rfl⟩:=ja.mp hn;have:=(jy.mp hk).2;exact h _ (yF.mp this)
theorem QN{ms:List Bool}{g:SF}{ds:dm}(h:g (eS n ms ds)=some (.nx η)):jB n ms g ds=some (.sh .non):=by unfold jB;rw[h]
theorem Ui(h1:1≤c)(h6:c≤6):jr [.int c]=some (.sh .non):=by refine QN (η:=[some (.sh (.int c))]) ?_;show mF [some (.sh (.int c))]=_;unfold mF;refine(lS ?_).trans rfl;have a1:decide (c<1)=false:=lL (by omega);have a2:decide (6<c)=false:=lL (by omega);simp only[mh,bU,ag,aJ,eC,cg,bI,tR,u6,a1,a2];rfl
theorem Ng(h:kD c rs):jt [.int c,.lst (rs.map dC)]=some (.sh .non):=by
  obtain⟨η',e,o2,o3,o4,rfl⟩:=kU (b:=lR 2 (bZ (aD true 2) (bZ (aD true 3) lQ))) (g:=oI) dC (fun(_:Unit) η=>∃o2 o3 o4,η=[some (.sh (.int c)),some (.sh (.lst (rs.map dC))),o2,o3,o4]) (fun _ _=>()) (xs:=rs) (η:=[some (.sh (.int c)),some (.sh (.lst (rs.map dC))),none,none,none]) () ⟨_,_,_,rfl⟩ (fun x hx s η ⟨o2,o3,o4,e⟩=>by
    subst e;obtain⟨η',e,Vb,rfl⟩:=kU (b:=aD true 4) (g:=kr) D.int (fun(_:Unit) η=>∃o4,η=[some (.sh (.int c)),some (.sh (.lst (rs.map dC))),some (.sh (.lst (x.1.map D.int))),some (.sh (.int x.2)),o4]) (fun _ _=>()) (xs:=x.1) (η:=[some (.sh (.int c)),some (.sh (.lst (rs.map dC))),some (.sh (.lst (x.1.map D.int))),some (.sh (.int x.2)),o4]) () ⟨_,rfl⟩ (fun n hn s η ⟨o4,e⟩=>by
      subst e;refine⟨[some (.sh (.int c)),some (.sh (.lst (rs.map dC))),some (.sh (.lst (x.1.map D.int))),some (.sh (.int x.2)),some (.sh (.int n))],[some (.sh (.int c)),some (.sh (.lst (rs.map dC))),some (.sh (.lst (x.1.map D.int))),some (.sh (.int x.2)),some (.sh (.int n))],rfl,?_,_,rfl⟩;unfold kr;refine(lS ?_).trans rfl;have:=(h x hx).1 n hn;have a1:decide (n<0)=false:=lL (by omega);have a2:decide (c≤n)=false:=lL (by omega);simp only[mh,bU,ag,aJ,eC,cg,cL,bI,tR,UR,a1,a2];rfl)
    refine⟨[some (.sh (.int c)),some (.sh (.lst (rs.map dC))),some (.sh (.lst (x.1.map D.int))),some (.sh (.int x.2)),o4],_,rfl,(fL (ds:=x.1.map D.int) rfl).trans e,_,_,_,rfl⟩)
  exact QN ((fL (ds:=rs.map dC) rfl).trans e)
theorem Xy(rs:dq):cE (lR 2 (bZ (aD true 0) (bZ (aD true 1) lQ))) eQ (eV 1) (rs.map dC) [none,none]=some ((rs.map fun r=>r.2).map D.int):=by rw[e9];exact eX dC (D.int∘fun r=>r.2) fun x _=>⟨[some (.sh (.lst (x.1.map D.int))),some (.sh (.int x.2))],rfl,rfl,rfl⟩
theorem Hn(h:kD c rs)(hs:ak rs≠0):h8 [.lst (rs.map dC)]=some (.sh .non):=by
  obtain⟨η',e,o1,o2,rfl⟩:=kU (b:=lR 2 (bZ (aD true 1) (bZ (aD true 2) lQ))) (g:=i5) dC (fun(_:Unit) η=>∃o1 o2,η=[some (.sh (.lst (rs.map dC))),o1,o2]) (fun _ _=>()) (xs:=rs) (η:=[some (.sh (.lst (rs.map dC))),none,none]) () ⟨_,_,rfl⟩ (fun x hx s η ⟨o1,o2,e⟩=>by
    subst e;refine⟨[some (.sh (.lst (rs.map dC))),some (.sh (.lst (x.1.map D.int))),some (.sh (.int x.2))],[some (.sh (.lst (rs.map dC))),some (.sh (.lst (x.1.map D.int))),some (.sh (.int x.2))],rfl,?_,_,_,rfl⟩;unfold i5;refine(lS ?_).trans rfl;have a1:decide (x.2<0)=false:=lL (by have:=(h x hx).2;omega);simp only[bU,ag,aJ,eC,cg,cL,bI,tR,a1])
  refine QN (η:=[some (.sh (.lst (rs.map dC))),o1,o2]) ?_;show ko [some (.sh (.lst (rs.map dC))),none,none]=_;unfold ko;refine(aE ((fL (ds:=rs.map dC) rfl).trans e)).trans ?_;refine(lS ?_).trans rfl;have q:cE (lR 2 (bZ (aD true 0) (bZ (aD true 1) lQ))) eQ (eV 1) (rs.map dC) (List.replicate 2 none++[])=some ((rs.map fun r=>r.2).map D.int):=Xy rs;simp only[bU,ag,jQ,ae,ao,eL,bP,cI,eV,cg,bI,dh,jd,jb,q,dI,ya,du,eC,jl];have:((rs.map fun r=>r.2).sum==0)=false:=by unfold ak at hs;simpa using hs
  exact il some this
theorem yE(h0:0≤c)(h:kD c rs)(hp:uw c ps):uw c (rs.foldl jX ps)∧(rs.foldl jX ps).length≤ps.length+rs.length:=by
  induction rs generalizing ps with
  |nil=>exact⟨hp,cw _⟩
  |cons r rs ih =>
   have hr:=h r cY;have h1:uw c (jX ps r):=by
     unfold jX;split
     ·exact hp.put (Az h0 hr.1) (by have:=hp.get (gw r.1);omega)
     ·exact hp
   have h2:(jX ps r).length≤ps.length+1:=by
     unfold jX;split
     ·exact vH _ _ _
     ·omega
   obtain⟨a,b⟩:=ih (fun x hx=>h x (ly _ hx)) h1;refine⟨a,?_⟩;rw[xW,mU];omega
theorem Uj(h6:c≤6){R:D}{x:aO×Int}(hx:(∀n∈x.1,0≤n∧n<c)∧0≤x.2)(hl:ps.length<10000)(o4:eP):∃Vb,gF [some (.sh R),some (.ot (ps.map enc)),some (.sh (.lst (x.1.map D.int))),some (.sh (.int x.2)),o4]=some (.nx [some (.sh R),some (.ot ((jX ps x).map enc)),some (.sh (.lst (x.1.map D.int))),some (.sh (.int x.2)),Vb]):=by
  unfold gF;by_cases q:0<x.2
  · have hs:zK (aJ 2) [some (.sh R),some (.ot (ps.map enc)),some (.sh (.lst (x.1.map D.int))),some (.sh (.int x.2)),o4]=some ((gw x.1).map D.int):=by
      have ha:(x.1.all fun n=>decide (0≤n)&&decide (n<6))=true:=iK.mpr fun n hn=>by have:=hx.1 n hn;simp;omega
      simp only[zK,aJ,cg,cL,bI,du,ha,gK];unfold gw;rw[e9];rfl
    refine⟨some (.sh (.tup ((gw x.1).map D.int))),?_⟩;refine(rD (by simp[bU,ag,aJ,eC,u6,q])).trans ?_;refine(aE (bF (d:=.tup ((gw x.1).map D.int)) ?_)).trans ?_
    ·simp only[mj,eL,hs,dI,bI,dh]
    ·have hp:=Ak ps (gw x.1) ((gR ps (gw x.1)).getD 0+x.2);simp only[ig,ik,rB,ag,wI,dT,aJ,eC,cg,cL,bI,sU,se,dI,G4,mq,hp,g9,hl,gK,jX,q]
  · refine⟨o4,?_⟩;refine(lS (by simp[bU,ag,aJ,eC,u6];omega)).trans ?_;have:jX ps x=ps:=by unfold jX;rw[aZ q]
    rw[this];rfl
theorem Jr(h0:0≤c)(h6:c≤6)(h:kD c rs)(hl:rs.length≤1000):iT [.lst (rs.map dC)]=some (.ot ((qu rs).map enc)):=by
  obtain⟨η',e,o2,o3,o4,ha,rfl⟩:=kW (b:=lR 2 (bZ (aD true 2) (bZ (aD true 3) lQ))) (g:=gF) dC (fun i (ps:dq) η=>∃o2 o3 o4,ps.length≤i∧η=[some (.sh (.lst (rs.map dC))),some (.ot (ps.map enc)),o2,o3,o4]) jX (xs:=rs) (η:=[some (.sh (.lst (rs.map dC))),some (.ot []),none,none,none]) 0 [] ⟨_,_,_,sZ _,rfl⟩ (fun i x ps η hx ⟨o2,o3,o4,hp,e⟩=>by
    subst e;have hi:=(xS.mp hx).1;obtain⟨Vb,q⟩:=Uj h6 (R:=.lst (rs.map dC)) (x:=x) (h x (List.mem_of_getElem? hx)) (ps:=ps) (by omega) o4;refine⟨_,_,rfl,q,_,_,_,?_,rfl⟩;unfold jX;split
    ·exact oQ (vH _ _ _) (by omega)
    ·omega)
  refine cC ?_;show lg [some (.sh (.lst (rs.map dC))),none,none,none,none]=_;unfold lg;refine(aE (show zy 1 _=some (.nx _) from rfl)).trans ?_;refine(aE ((fL (ds:=rs.map dC) rfl).trans e)).trans ?_;rfl
theorem Ho(t:aO):sP (t.map Sum.inl)=some t:=by
  induction t with
  |nil=>rfl
  |cons x t ih=>show(sP (t.map Sum.inl)).map (x::·)=_;rw[ih];rfl
theorem QO(ps:dq):vb iC (ps.map enc)=some (ps.map n9):=by
  induction ps with
  |nil=>rfl
  |cons p ps ih =>
   have e1:sP (enc p).1=some p.1:=Ho p.1;have e2:rJ iC p.1=some (n9 p):=by unfold rJ;rw[QL];simp only[fQ,rk];rw[ay (du _)];rfl
   rw[bY];unfold vb;rw[e1,bI,e2,bI,ih];rfl
theorem Nh(h1:1≤c)(h6:c≤6)(h:kD c rs)(hs:ak rs≠0)(hl:rs.length≤1000)(hk:(qu rs).length<64):iU [.int c,.lst (rs.map dC)]=some (.ol ((cJ (qu rs)).map ah)):=by
  have hP:uw c (qu rs):=(yE (ps:=[]) (by omega) h ⟨List.nodup_nil,fun _ h=>nomatch h⟩).1;refine cC ?_;show qg [some (.sh (.int c)),some (.sh (.lst (rs.map dC))),none]=_;unfold qg;refine(aE (η':=[some (.sh (.int c)),some (.sh (.lst (rs.map dC))),none]) ?_).trans ?_
  ·simp only[xI,ax,ae,ao,eV,cg,bI,dI,Ui h1 h6]
  refine(aE (η':=[some (.sh (.int c)),some (.sh (.lst (rs.map dC))),none]) ?_).trans ?_
  ·simp only[xI,ax,ae,ao,eV,cg,cL,bI,dI,Ng h]
  refine(aE (η':=[some (.sh (.int c)),some (.sh (.lst (rs.map dC))),none]) ?_).trans ?_
  ·simp only[xI,ax,ae,ao,eV,cg,cL,bI,dI,Hn h hs]
  refine(aE (η':=[some (.sh (.int c)),some (.sh (.lst (rs.map dC))),some (.ot ((qu rs).map enc))]) ?_).trans ?_
  ·simp only[Kn,ae,ao,eV,cg,cL,bI,dI,Jr (c:=c) (by omega) h6 h hl,ig,ik]
  refine fT ?_;have hn:((qu rs).map n9).Nodup∧((qu rs).map n9).length<64:=⟨vK hP,by rw[g9];exact hk⟩
  have hq:cE (aD true 0) eQ (fY (ae (eV 0) (ae (xG 1 (aJ 0)) ao))) ((hW ((qu rs).map n9)).map fun e=>D.tup (e.2.map D.int)) [none,some (.ot ((qu rs).map enc))]=some ((cJ (qu rs)).map ah):=by
    unfold cJ;rw[e9];refine eX (fun e:Int×aO=>D.tup (e.2.map D.int)) _ fun q hq=>⟨[some (.sh (.tup (q.2.map D.int))),some (.ot ((qu rs).map enc))],rfl,rfl,?_⟩
    obtain⟨m,_,h2,_⟩:=og hP hq;simp[fY,ae,ao,eV,aJ,xG,dT,sU,se,h2,ah]
  simp only[bP,cI,eL,Ej,dT,cg,cL,bI,QO,hn,and_self,gK,dI,dh,jd,bY,jb,sY];exact hq
theorem QP(ps:dq)(k k':aO)(m:Int):gR (mP ps k m) k'=if k'=k then some m else gR ps k':=by
  unfold mP;by_cases h:(ps.any fun p=>decide (p.1=k))=true
  · rw[ay h];have h':k∈ps.map (·.1):=by
      obtain⟨p,h1,h2⟩:=Dn.mp h;exact ja.mpr ⟨p,h1,xT h2⟩
    clear h;induction ps with
    |nil=>nomatch h'
    |cons p ps ih =>
     rw[bY,jW,jW];by_cases e:p.1=k
     · rw[ay e];by_cases e':k'=k
       ·rw[ay e',ay (by show p.1=k';rw[e,e'])]
       · rw[aZ e',aZ (show ¬ p.1=k' from fun z=>e' (z.symm.trans e)),aZ (show ¬ p.1=k' from fun z=>e' (z.symm.trans e))];by_cases q:k∈ps.map (·.1)
         ·rw[ih q,aZ e']
         · have:(ps.map fun p=>if p.1=k then(p.1,m) else p)=ps:=by
             refine(t4 fun x hx=>?_).trans (List.map_id _);exact aZ fun z=>q (ja.mpr ⟨x,hx,z⟩)
           rw[this]
     · rw[aZ e];have q:k∈ps.map (·.1):=by
         rcases fR.mp h' with z|z
         ·exact absurd z.symm e
         ·exact z
       rw[ih q];by_cases e':k'=k
       ·rw[ay e',aZ (show ¬ p.1=k' from fun z=>e (z.trans e')),ay e']
       ·rw[aZ e',aZ e']
  · rw[aZ h];have hn:k∉ps.map (·.1):=fun z=>h (by
      obtain⟨p,h1,h2⟩:=ja.mp z;exact Dn.mpr ⟨p,h1,nF h2⟩)
    clear h;induction ps with
    |nil =>
     rw[List.nil_append,jW];by_cases e':k'=k
     ·rw[ay e',ay e'.symm]
     ·rw[aZ e',aZ (show ¬ k=k' from fun z=>e' z.symm)]
    |cons p ps ih =>
     rw[List.cons_append,jW,jW,ih fun z=>hn (ly _ z)];by_cases e':k'=k
     ·have:¬ p.1=k':=fun z=>hn (by rw[bY,←e',←z];exact cY);rw[ay e',aZ this,ay e']
     ·rw[aZ e',aZ e']
def eW(rs:dq)(k:aO):Int:=(rs.map fun r=>if gw r.1=k then r.2 else 0).sum
theorem Uk(h:kD c rs)(k:aO):∀(ps:dq) (s:Int),0≤s→gR ps k=(if 0<s then some s else none)→gR (rs.foldl jX ps) k=(if 0<s+eW rs k then some (s+eW rs k) else none):=by
  induction rs with
  |nil=>intro ps s _ e;simp only[List.foldl_nil,eW,jb,List.sum_nil,Int.add_zero];exact e
  |cons r rs ih =>
   intro ps s hs e;have h2:=(h r cY).2;have e0:eW (r::rs) k=(if gw r.1=k then r.2 else 0)+eW rs k:=by unfold eW;rw[bY,wa]
   rw[xW,e0,←Int.add_assoc];refine ih (fun x hx=>h x (ly _ hx)) _ _ (by split<;>omega) ?_;unfold jX;by_cases q:0<r.2
   · rw[ay q,QP];by_cases ek:gw r.1=k
     · have hv:(gR ps k).getD 0=s:=by
         rw[e];by_cases s0:0<s
         ·rw[ay s0];rfl
         ·rw[aZ s0];show(0:Int)=s;omega
       rw[ay ek.symm,ay ek,ek,hv,ay (show 0<s+r.2 by omega)]
     ·rw[aZ (fun z=>ek z.symm),aZ ek,Int.add_zero];exact e
   · rw[aZ q];have:r.2=0:=by omega
     rw[this,ite_self,Int.add_zero];exact e
theorem QQ(h:kD c rs)(k:aO):gR (qu rs) k=(if 0<eW rs k then some (eW rs k) else none):=by have:=Uk h k [] 0 (Int.le_refl _) rfl;rw[Int.zero_add] at this;exact this
theorem mem_keys{k:aO}:k∈ps.map (·.1)↔gR ps k≠none:=by rw[Ne,xo];simp
theorem keys_perm{d:Int}{qs:dq}(hp:uw c ps)(hq:uw d qs)(h:∀k,gR ps k=gR qs k):(ps.map n9).Perm (qs.map n9):=by
  have:(ps.map (·.1)).Perm (qs.map (·.1)):=(List.perm_ext_iff_of_nodup hp.nd hq.nd).mpr fun k=>by rw[mem_keys,mem_keys,h]
  have e:∀l:dq,l.map n9=(l.map (·.1)).map fun k=>((k.length:Int),k):=fun l=>by rw[e9];rfl
  rw[e,e];exact this.map _
theorem Ni{d:Int}{qs:dq}(hp:uw c ps)(hq:uw d qs)(h:∀k,gR ps k=gR qs k):cJ ps=cJ qs:=by unfold cJ;have e:hW (ps.map n9)=hW (qs.map n9):=u5 (vK hp) ((iz _).trans (keys_perm hp hq h).symm) (zr (vK hq));rw[e];exact t4 fun q _=>by rw[h]
theorem Ul(h0:0≤c)(h:kD c rs):∀{ps:dq},uw c ps→ak (rs.foldl jX ps)=ak ps+ak rs:=by
  induction rs with
  |nil=>intro ps _;simp[ak]
  |cons r rs ih =>
   intro ps hp;have hr:=h r cY;have hr1:kD c [r]:=fun x hx=>by
     have e:x=r:=by simpa using hx
     rw[e];exact hr
   have h1:uw c (jX ps r):=(yE (rs:=[r]) h0 hr1 hp).1;rw[xW,ih (fun x hx=>h x (ly _ hx)) h1];have e:ak (jX ps r)=ak ps+r.2:=by
     unfold jX;by_cases q:0<r.2
     ·rw[ay q];exact KW hp _ _
     ·rw[aZ q];omega
   rw[e];unfold ak;rw[bY,wa];omega
theorem Nj(h0:0≤c)(h:kD c rs):ak (cJ (qu rs))=ak rs:=by have hP:=(yE (ps:=[]) h0 h ⟨List.nodup_nil,fun _ h=>nomatch h⟩).1;have e1:ak (cJ (qu rs))=ak (qu rs):=Al ((lV hP).map _);rw[e1];have:=Ul h0 h (ps:=[]) ⟨List.nodup_nil,fun _ h=>nomatch h⟩;show ak (rs.foldl jX [])=_;rw[this];simp[ak]
theorem uz(a b:dq)(k:aO):eW (a++b) k=eW a k+eW b k:=by unfold eW;rw[v9,List.sum_append]
theorem sr(a:aO×Int)(b:dq)(k:aO):eW (a::b) k=(if gw a.1=k then a.2 else 0)+eW b k:=by unfold eW;rw[bY,wa]
theorem Dc(h:∀n∈ns,0≤n∧n<6)(n:Int):n∈gw ns↔n∈ns:=by
  unfold gw NS.nameSet;rw[ja];constructor
  ·rintro⟨k,hk,rfl⟩;exact yF.mp (jy.mp hk).2
  ·intro hn;have:=h n hn;refine⟨n.toNat,jy.mpr ⟨mW.mpr (by omega),yF.mpr ?_⟩,by omega⟩;rw[Int.toNat_of_nonneg this.1];exact hn
theorem Js(c6:c≤6)(h:cO c ns):gw ns=ns:=by
  have h6:∀n∈ns,0≤n∧n<6:=fun n hn=>⟨(h.2 n hn).1,by have:=(h.2 n hn).2;omega⟩
  have hs:=Az (c:=6) (by decide) h6;have hp:(gw ns).Perm ns:=(List.perm_ext_iff_of_nodup (Jq hs) (Jq h)).mpr fun n=>Dc h6 n;exact hp.eq_of_pairwise (le:=(·<·)) (fun a b _ _ h1 h2=>absurd h1 (by omega)) hs.1 h.1
theorem Lb{c:Int}:∀{ps:dq},uw c ps→∀k,gR ps k=(if 0<(ps.map fun h=>if h.1=k then h.2 else 0).sum then some (ps.map fun h=>if h.1=k then h.2 else 0).sum else none)
  |[],_,k=>rfl
  |p::ps,h,k=>by
   have hn:=h.nd;rw[bY,yH] at hn;have h':uw c ps:=⟨hn.2,fun y hy=>h.all y (ly _ hy)⟩
   have ih:=Lb h' k;have hp:=(h.all p cY).2;rw[jW,bY,wa];by_cases q:p.1=k
   · have e0:gR ps k=none:=xo.mpr (by rw[←q];exact hn.1);have e1:(ps.map fun h=>if h.1=k then h.2 else 0).sum=0:=by
       have hz:∀y∈ps,(if y.1=k then y.2 else 0)=0:=fun y hy=>by rw[aZ fun e=>hn.1 (by rw[q,←e];exact List.mem_map_of_mem (f:=(·.1)) hy)]
       rw[t4 hz];clear ih hn h' h e0 hz;induction ps with
       |nil=>rfl
       |cons _ _ ih=>rw[bY,wa,ih];rfl
     rw[ay q,ay q,e1,ay (by omega)];simp
   ·rw[aZ q,aZ q,Int.zero_add];exact ih
theorem QR{α:Type}(row:α→D)(nm:α→Int)(him:∀x,(row x).A2=true)(h0:∀x,iY (row x) (.int 0)=some (.int (nm x)))(l:List α):bH [.lst (l.map row)]=some (.ol ((l.map nm).map D.int)):=by
  refine cC ?_;show gI [some (.br (.lst (l.map row)))]=_;unfold gI;refine fT ?_;have q:cE (aD false 0) eQ (ag iY (eV 0) (eC (.int 0))) (l.map row) (List.replicate 1 none++[])=some ((l.map nm).map D.int):=by
    rw[e9];refine eX row _ fun r _=>⟨[some (.br (row r))],rfl,rfl,?_⟩
    simp only[ag,eV,eC,cg,him,gK,bI,h0,Function.comp]
  simp only[bP,Ia,cg,bI,jd,jb,q]
structure tY (Fo:dm→eP) (C:Addr) (c:Int) (H:D) (rows:dm) (names:aO):Prop where
  len:(names.length:Int)=c
  at_:Fo [.obj C,.int c,H]=some (.ol rows)
  nm:∀k:Nat,bH [.lst (rows.take k)]=some (.ol ((names.take k).map D.int))
  sok:Jm c names
  okd:(D.lst rows).iq 7=true
theorem AA{α:Type}{Fo:dm→eP}{H:D}(row:α→D)(nm:α→Int)(him:∀x,(row x).A2=true)(h0:∀x,iY (row x) (.int 0)=some (.int (nm x)))(ho:∀x,(row x).iq 6=true)(l:List α)(hl:(l.length:Int)=c)(h:Fo [.obj C,.int c,H]=some (.ol (l.map row)))(hs:Jm c (l.map nm)):tY Fo C c H (l.map row) (l.map nm):=by
  refine⟨by rw[g9];exact hl,h,fun k=>?_,hs,?_⟩
  ·rw[←List.map_take,←List.map_take];exact QR row nm him h0 _
  ·rw[zC,List.all_map,iK];exact fun x _=>ho x
theorem QS(r:Int×Option Rat):(dS r).A2=true:=by unfold dS;rw[uP,mX,sI,mX,xq];rfl
theorem Lc(r:Int×Int):(cW r).iq 6=true:=by unfold cW;rw[wJ];simp only[mX,List.all_nil,zD,Bool.and_true]
theorem QT(x:Option Rat):(dX x).iq 5=true:=by
  cases x with
  |none=>show D.non.iq 5=true;rw[D.iq]
  |some r=>show(D.tup [.int r.num,.int (r.den:Int)]).iq 5=true;rw[wJ];simp only[mX,List.all_nil,zD,Bool.and_true]
theorem Um(r:Int×Option Rat):(dS r).iq 6=true:=by unfold dS;rw[wJ,mX,zD,mX,QT];rfl
theorem Uo(t:Run c hs rows L rest):Jm c (rows.map fun r=>r.1)→Jm c ((rows++rest).map fun r=>r.1):=by
  induction t with
  |done h=>intro s;rw[uE];exact s
  |@step rows L P n y rest s hl e ey hn m1 m2 hL t ih =>
   intro k;have h1:Jm c ((rows++[(n,y)]).map fun r=>r.1):=by rw[v9];exact k.snoc hn
   have h2:=ih h1;rw[Di] at h2;exact h2
theorem Ld{c:Int}{hs:dq}:∀(k:Nat) {S:aO},Jm c S→(S.length:Int)+k=c→Jm c (M6 c hs k S)
  |0,S,h,e=>h
  |k+1,S,h,e=>Ld k (h.snoc (CL h (by omega))) (by simp;omega)
theorem Le(c:Int):Jm c []:=⟨by simp,fun _ z=>nomatch z⟩
def qP(a:ye)(k:Int):Addr:=if k=0 then a.bj else if k=1 then a.aR else a.aS
def EK(k:Int):dm→eP:=if k=0 then bR else if k=1 then bK else bJ
theorem Jt{α:Type}{a:ye}(hA:xJ a)(k:Int)(x y w:α):List.lookup (qP a k) [(a.bj,x),(a.aR,y),(a.aS,w)]=some (if k=0 then x else if k=1 then y else w):=by
  have h1:(a.aR==a.bj)=false:=by simpa using fun e=>hA.Et e.symm
  have h2:(a.aS==a.bj)=false:=by simpa using fun e=>hA.Eu e.symm
  have h3:(a.aS==a.aR)=false:=by simpa using fun e=>hA.BH e.symm
  unfold qP;by_cases h:k=0
  ·simp[h,List.lookup]
  · by_cases h':k=1
    ·simp[h',List.lookup,h1]
    ·simp[h,h',List.lookup,h2,h3]
theorem EL{α:Type}{a:ye}(hA:xJ a)(k:Int)(x:α):List.lookup (qP a k) [(a.bj,x),(a.aR,x),(a.aS,x)]=some x:=by
  rw[Jt hA k x x x];split
  ·rfl
  ·split<;>rfl
theorem Uq(a:ye)(h0:0≤c)(c6:c≤6)(h6:∀x∈hs,x.1.length≤6)(hh:∀h∈hs,1≤h.2)(hN:ak hs≤2^105)(k:Int):∃rows names,tY (EK k) (qP a k) c (.lst (hs.map ah)) rows names:=by
  unfold EK;by_cases h:k=0
  · rw[ay h];refine⟨_,_,AA cW (fun r=>r.1) (fun _=>rfl) (fun _=>rfl) Lc _ (by rw[g9];exact Qy h0 hs) (Xp h0 c6 hs _) ?_⟩;have e:((Jo c hs).map fun n=>(n,nB hs n)).map (fun r=>r.1)=Jo c hs:=by
      rw[e9];exact(t4 fun n _=>rfl).trans (List.map_id _)
    rw[e];exact⟨(xt c hs).nodup_iff.mpr (CM c),fun n hn=>Jn.mp ((xt c hs).mem_iff.mp hn)⟩
  · rw[aZ h];by_cases h':k=1
    · rw[ay h'];refine⟨_,_,AA cW (fun r=>r.1) (fun _=>rfl) (fun _=>rfl) Lc _ ?_ (Qw h0 c6 h6 _) ?_⟩
      ·rw[oh,Hf];simp;omega
      ·rw[kC];exact Ld _ (Le c) (by simp;omega)
    · rw[aZ h'];obtain⟨rest,t,hrl⟩:=Qu h0 c6 hh hN c.toNat (Qv h0 hh) (by simp;omega)
      refine⟨_,_,AA dS (fun r=>r.1) QS (fun _=>rfl) Um _ (by omega) (T9 h0 c6 hh hN _ t (by omega)) ?_⟩;exact Uo t (Le c)
theorem Ju(ds:dm)(k:Nat):cutD ds none (some (k:Int))=ds.take k:=by
  unfold cutD;rw[HT.yN,HT.sy,List.drop_zero,Nat.sub_zero];by_cases h:k≤ds.length
  ·rw[Nat.min_eq_left h]
  ·rw[Nat.min_eq_right (by omega),Ht (cw _),Ht (by omega)]
theorem QV{a:ye}(hA:xJ a){k:Int}{H:D}{rows:dm}{names:aO}(o:tY (EK k) (qP a k) c H rows names)(n1:1≤n)(n2:(n:Int)≤c):gq a [.obj (qP a k),.int c,H,.int (n:Int)]=some (.ol ((names.take n).map D.int)):=by
  refine cC ?_;show n4 a [some (.sh (.obj (qP a k))),some (.sh (.int c)),some (.sh H),some (.sh (.int (n:Int)))]=_;unfold n4;refine(aE ((lS ?_).trans rfl)).trans ?_
  ·have e1:decide ((n:Int)<1)=false:=lL (by omega);have e2:decide ((n:Int)>c)=false:=lL (by omega);simp only[mh,bU,ag,aJ,eC,cg,cL,bI,tR,u6,e1,e2];rfl
  refine fT ?_;have lk':List.lookup (qP a k) [(a.bj,bR),(a.aR,bK),(a.aS,bJ)]=some (EK k):=Jt hA k bR bK bJ;simp only[J6,eL,kQ,lT,ax,eV,aJ,eC,tP,oD,ae,ao,cg,cL,bI,dI,lk',o.at_,Ju,o.nm]
def tJ(names:aO)(n:Nat):D:=.tup ((gN (names.take n)).map D.int)
theorem Lf{a:ye}(hA:xJ a){k:Int}{H:D}{rows:dm}{names:aO}(o:tY (EK k) (qP a k) c H rows names)(c6:c≤6)(n1:1≤n)(n2:(n:Int)≤c):bE a [.obj (qP a k),.int c,H,.int (n:Int)]=some (.sh (tJ names n)):=by
  refine cC ?_;show pC a [some (.sh (.obj (qP a k))),some (.sh (.int c)),some (.sh H),some (.sh (.int (n:Int)))]=_;unfold pC;refine ke ?_;have hl:(names.take n).length<64:=by have:=o.len;rw[Dl];omega
  simp only[mj,eL,rA,lT,ax,eV,eC,ae,ao,cg,cL,bI,dI,EL hA k,QV hA o n1 n2,rA.Ic,dh,du,ay hl];rfl
theorem QW(nd:ns.Nodup)(h:∀n∈ns,0≤n∧n<c):cO c (gN ns):=by refine⟨?_,fun n hn=>h n ((gA ns).mem_iff.mp hn)⟩;have nd':=(gA ns).nodup_iff.mpr nd;exact((zp ns).and nd').imp fun⟨h1,h2⟩=>by omega
theorem tY.set{Fo:dm→eP}{H:D}{rows:dm}{names:aO}(o:tY Fo C c H rows names)(n:Nat):cO c (gN (names.take n)) :=
  QW (o.sok.nd.sublist (List.take_sublist _ _)) fun x hx=>o.sok.rg x (List.mem_of_mem_take hx)
theorem ER(t:aO)(n:Nat):(cQ t).iq (n+1)=true:=by show(D.tup (t.map D.int)).iq (n+1)=true;rw[wJ];exact S7 _ _
theorem QX(o:Option aO)(n:Nat):(lW o).iq (n+1)=true:=by
  cases o with
  |none=>show D.non.iq (n+1)=true;rw[D.iq]
  |some T=>exact ER T n
theorem Xz(x:Int×Int×Int)(n:Nat):(qt x).iq (n+1)=true:=by unfold qt;rw[wJ];simp only[mX,List.all_nil,zD,Bool.and_true]
theorem XA(names:aO)(n m:Nat):(tJ names n).iq (m+1)=true:=ER _ m
def vQ(names:Int→aO)(n:Nat):D:=.lst [tJ (names 0) n,tJ (names 1) n,tJ (names 2) n]
def cc(names:Int→aO)(c:Nat):dm:=(List.range c).map fun i=>vQ names (i+1)
theorem QY(names:Int→aO)(n:Nat):(vQ names n).iq 7=true:=by unfold vQ;rw[zC];simp only[mX,List.all_nil,XA _ _ 5,Bool.and_true]
theorem AF{α:Type}{b:BF}{t:TF}{f:EF}{x y z u v w:D}(g:cP→D→cP)(hb:∀d,b d η=some (g η d))(ht:∀d,t (g η d)=some true)(h0:f (g η x)=some u)(h1:f (g η y)=some v)(h2:f (g η z)=some w):cE b t f [x,y,z] η=some [u,v,w]:=by simp only[cE,hb,ht,h0,h1,h2,bI,gK,dI]
theorem Dd{a:ye}(hA:xJ a){c:Int}(c6:c≤6){H:D}{rows:Int→dm}{names:Int→aO}(o:∀k,tY (EK k) (qP a k) c H (rows k) (names k))(p5 P:D)(T0:dm)(hT:T0.length=5):∀(k j:Nat),(j:Int)+k=c→∀o6:eP,∃Jh,ip (aD true 6) (vD a) ((List.range' (j+1) k).map fun(i:Nat)=>D.int (i:Int)) [some (.sh (.int c)),some (.sh H),some (.sh P),some (.sh (.lst [.obj a.bj,.obj a.aR,.obj a.aS])),some (.ol (T0++cc names j)),some (.sh p5),o6]=some (.nx [some (.sh (.int c)),some (.sh H),some (.sh P),some (.sh (.lst [.obj a.bj,.obj a.aR,.obj a.aS])),some (.ol (T0++cc names (j+k))),some (.sh p5),Jh])
  |0,j,e,o6=>⟨o6,rfl⟩
  |k+1,j,e,o6=>by
   obtain⟨Jh,ih⟩:=Dd hA c6 o p5 P T0 hT k (j+1) (by omega) (some (.sh (.int ((j+1:Nat):Int))));refine⟨Jh,?_⟩;have e1:List.range' (j+1) (k+1)=(j+1)::List.range' (j+1+1) k:=by rw[List.range'_succ]
   rw[e1,bY];unfold ip;have hg:vD a [some (.sh (.int c)),some (.sh H),some (.sh P),some (.sh (.lst [.obj a.bj,.obj a.aR,.obj a.aS])),some (.ol (T0++cc names j)),some (.sh p5),some (.sh (.int ((j+1:Nat):Int)))]=some (.nx [some (.sh (.int c)),some (.sh H),some (.sh P),some (.sh (.lst [.obj a.bj,.obj a.aR,.obj a.aS])),some (.ol (T0++cc names (j+1))),some (.sh p5),some (.sh (.int ((j+1:Nat):Int)))]):=by
     unfold vD;have hb:∀k:Int,lT [(a.bj,bE a),(a.aR,bE a),(a.aS,bE a)] (eV 0) (ae (eV 1) (ae (eV 2) (ae (eV 3) ao))) [some (.sh (.obj (qP a k))),some (.sh (.int c)),some (.sh H),some (.sh (.int ((j+1:Nat):Int)))]=some (tJ (names k) (j+1)):=fun k=>by simp only[lT,ax,eV,eC,ae,ao,cg,cL,bI,dI,EL hA k,Lf hA (o k) c6 (n:=j+1) (by omega) (by omega)]
     have q:cE (aD true 0) eQ (lT [(a.bj,bE a),(a.aR,bE a),(a.aS,bE a)] (eV 0) (ae (eV 1) (ae (eV 2) (ae (eV 3) ao)))) [.obj a.bj,.obj a.aR,.obj a.aS] (List.replicate 1 none++[some (.sh (.int c)),some (.sh H),some (.sh (.int ((j+1:Nat):Int)))])=some [tJ (names 0) (j+1),tJ (names 1) (j+1),tJ (names 2) (j+1)] :=
       AF (α:=Nat) (fun _ d=>[some (.sh d),some (.sh (.int c)),some (.sh H),some (.sh (.int ((j+1:Nat):Int)))]) (fun _=>rfl) (fun _=>rfl) (hb 0) (hb 1) (hb 2)
     have hl:(T0++cc names j).length<10000:=by unfold cc;rw[kK,g9,List.length_range,hT];omega
     have er:cc names (j+1)=cc names j++[vQ names (j+1)]:=by unfold cc;rw[List.range_succ,v9];rfl
     have hx:eL (bP 1 [0,1,6] (cI (eV 3)) (aD true 0) eQ (lT [(a.bj,bE a),(a.aR,bE a),(a.aS,bE a)] (eV 0) (ae (eV 1) (ae (eV 2) (ae (eV 3) ao))))) [some (.sh (.int c)),some (.sh H),some (.sh P),some (.sh (.lst [.obj a.bj,.obj a.aR,.obj a.aS])),some (.ol (T0++cc names j)),some (.sh p5),some (.sh (.int ((j+1:Nat):Int)))]=some (vQ names (j+1)):=by refine(il (Option.map D.lst) (?_:bP 1 [0,1,6] _ _ _ _ _=some [tJ (names 0) (j+1),tJ (names 1) (j+1),tJ (names 2) (j+1)])).trans rfl;exact q
     rw[er,←Di];unfold dF;rw[hx];simp only[bI,cg,cL,hl,gK,ig,ik]
   have nP:aD true 6 (.int ((j+1:Nat):Int)) [some (.sh (.int c)),some (.sh H),some (.sh P),some (.sh (.lst [.obj a.bj,.obj a.aR,.obj a.aS])),some (.ol (T0++cc names j)),some (.sh p5),o6]=some [some (.sh (.int c)),some (.sh H),some (.sh P),some (.sh (.lst [.obj a.bj,.obj a.aR,.obj a.aS])),some (.ol (T0++cc names j)),some (.sh p5),some (.sh (.int ((j+1:Nat):Int)))]:=rfl;rw[nP];simp only[bI,hg];rw[ih,show j+1+k=j+(k+1) by omega]
theorem XB{a:ye}(hA:xJ a){cn:Nat}(n1:1≤cn)(n6:cn≤6)(h6:∀x∈hs,x.1.length≤6){rows:Int→dm}(o:∀k,tY (EK k) (qP a k) (cn:Int) (.lst (hs.map ah)) (rows k) (names k)){p:Nat}(p1:1≤p)(p2:p≤cn):∃T0:dm,T0.length=5∧Aj a [.int (cn:Int),.lst (hs.map ah),.int (p:Int)]=some (.ol (T0++cc names cn))∧(D.lst (T0++cc names cn)).iq 8=true:=by
  have c0:(0:Int)≤(cn:Int):=by omega
  have c6:(cn:Int)≤6:=by omega
  obtain⟨b,hb⟩:∃b,b=gN ((names ((p:Int)%3)).take p):=⟨_,rfl⟩
  have hbs:cO (cn:Int) b:=by rw[hb];exact(o ((p:Int)%3)).set p
  obtain⟨mr,left,tr,he,HR,hlen⟩:=CT c6 (hs:=hs) 65 hbs (Nat.lt_succ_of_le (QD hs b));have hm:=QI c0 c6 h6 hbs tr he (by omega);have Wb:=M8 n1 n6 hs (b:=b) (hbs.Rt c6);have jO:=Uh n1 n6 hs hbs;refine⟨[.lst (rows 0),.lst (rows 1),.lst (rows 2),.tup [.lst (mr.map qt),.tup (left.map D.int)],.lst [lW (pD cn hs b),lW (pE cn hs b)]],rfl,?_,?_⟩
  · refine cC ?_;show IZ a [some (.sh (.int (cn:Int))),some (.sh (.lst (hs.map ah))),some (.sh (.int (p:Int))),none,none,none,none]=_;unfold IZ;refine(aE (bF (d:=.lst [.obj a.bj,.obj a.aR,.obj a.aS]) rfl)).trans ?_;simp only[ig,ik];have hq:∀k:Int,lT [(a.bj,bR),(a.aR,bK),(a.aS,bJ)] (eV 0) (ae (eV 1) (ae (eV 2) ao)) [some (.sh (.obj (qP a k))),some (.sh (.int (cn:Int))),some (.sh (.lst (hs.map ah)))]=some (.lst (rows k)):=fun k=>by
      have lk':List.lookup (qP a k) [(a.bj,bR),(a.aR,bK),(a.aS,bJ)]=some (EK k):=Jt hA k bR bK bJ;simp only[lT,ax,eV,eC,ae,ao,cg,cL,bI,dI,lk',(o k).at_]
    have q:cE (aD true 0) eQ (lT [(a.bj,bR),(a.aR,bK),(a.aS,bJ)] (eV 0) (ae (eV 1) (ae (eV 2) ao))) [.obj a.bj,.obj a.aR,.obj a.aS] (List.replicate 1 none++[some (.sh (.int (cn:Int))),some (.sh (.lst (hs.map ah)))])=some [.lst (rows 0),.lst (rows 1),.lst (rows 2)] :=
      AF (α:=Nat) (fun _ d=>[some (.sh d),some (.sh (.int (cn:Int))),some (.sh (.lst (hs.map ah)))]) (fun _=>rfl) (fun _=>rfl) (hq 0) (hq 1) (hq 2)
    refine(aE (sO (d:=[.lst (rows 0),.lst (rows 1),.lst (rows 2)]) ?_)).trans ?_
    ·exact q
    simp only[ig,ik];refine(aE (bF (d:=.tup (b.map D.int)) ?_)).trans ?_
    · have hix:ag iY (eV 3) (ag oB (aJ 2) (eC (.int 3))) [some (.sh (.int (cn:Int))),some (.sh (.lst (hs.map ah))),some (.sh (.int (p:Int))),some (.sh (.lst [.obj a.bj,.obj a.aR,.obj a.aS])),some (.ol [.lst (rows 0),.lst (rows 1),.lst (rows 2)]),none,none]=some (.obj (qP a ((p:Int)%3))):=by
        have hm3:oB (.int (p:Int)) (.int 3)=some (.int ((p:Int)%3)):=mv rfl;have h3:(p:Int)%3=0∨(p:Int)%3=1∨(p:Int)%3=2:=by omega
        simp only[ag,eV,aJ,eC,cg,cL,bI,hm3];rcases h3 with h|h|h<;>rw[h]<;>rfl
      have hbn:=Lf hA (o ((p:Int)%3)) c6 p1 (by omega);unfold lT;rw[hix];simp only[ax,eV,eC,ae,ao,cg,cL,bI,dI,EL hA,hbn,tJ,hb]
    simp only[ig,ik];refine(aE (η':=[some (.sh (.int (cn:Int))),some (.sh (.lst (hs.map ah))),some (.sh (.int (p:Int))),some (.sh (.lst [.obj a.bj,.obj a.aR,.obj a.aS])),some (.ol [.lst (rows 0),.lst (rows 1),.lst (rows 2),.tup [.lst (mr.map qt),.tup (left.map D.int)]]),some (.sh (.tup (b.map D.int))),none]) ?_).trans ?_
    ·simp only[dF,ax,eV,ae,ao,cg,cL,bI,dI,hm,mU,List.length_nil];rfl
    refine(aE (η':=[some (.sh (.int (cn:Int))),some (.sh (.lst (hs.map ah))),some (.sh (.int (p:Int))),some (.sh (.lst [.obj a.bj,.obj a.aR,.obj a.aS])),some (.ol [.lst (rows 0),.lst (rows 1),.lst (rows 2),.tup [.lst (mr.map qt),.tup (left.map D.int)],.lst [lW (pD cn hs b),lW (pE cn hs b)]]),some (.sh (.tup (b.map D.int))),none]) ?_).trans ?_
    · have hx:eL (oV (ae (ax kz (ae (eV 0) (ae (eV 1) (ae (eV 5) ao)))) (ae (ax dr (ae (eV 0) (ae (eV 1) (ae (eV 5) ao)))) ao))) [some (.sh (.int (cn:Int))),some (.sh (.lst (hs.map ah))),some (.sh (.int (p:Int))),some (.sh (.lst [.obj a.bj,.obj a.aR,.obj a.aS])),some (.ol [.lst (rows 0),.lst (rows 1),.lst (rows 2),.tup [.lst (mr.map qt),.tup (left.map D.int)]]),some (.sh (.tup (b.map D.int))),none]=some (.lst [lW (pD cn hs b),lW (pE cn hs b)]):=by
        simp only[eL,oV,ax,eV,ae,ao,cg,cL,bI,dI,Wb,jO];rfl
      unfold dF;rw[hx];rfl
    obtain⟨o6,hlp⟩:=Dd hA c6 o (.tup (b.map D.int)) (.int (p:Int)) [.lst (rows 0),.lst (rows 1),.lst (rows 2),.tup [.lst (mr.map qt),.tup (left.map D.int)],.lst [lW (pD cn hs b),lW (pE cn hs b)]] rfl cn 0 (by omega) none;rw[show 0+cn=cn from Nat.zero_add cn] at hlp;refine(aE (η':=[some (.sh (.int (cn:Int))),some (.sh (.lst (hs.map ah))),some (.sh (.int (p:Int))),some (.sh (.lst [.obj a.bj,.obj a.aR,.obj a.aS])),some (.ol ([.lst (rows 0),.lst (rows 1),.lst (rows 2),.tup [.lst (mr.map qt),.tup (left.map D.int)],.lst [lW (pD cn hs b),lW (pE cn hs b)]]++cc names cn)),some (.sh (.tup (b.map D.int))),o6]) ?_).trans rfl;have hr:oE (eC (.int 1)) (ag ml (aJ 0) (eC (.int 1))) [some (.sh (.int (cn:Int))),some (.sh (.lst (hs.map ah))),some (.sh (.int (p:Int))),some (.sh (.lst [.obj a.bj,.obj a.aR,.obj a.aS])),some (.ol [.lst (rows 0),.lst (rows 1),.lst (rows 2),.tup [.lst (mr.map qt),.tup (left.map D.int)],.lst [lW (pD cn hs b),lW (pE cn hs b)]]),some (.sh (.tup (b.map D.int))),none]=some ((List.range' (0+1) cn).map fun(i:Nat)=>D.int (i:Int)):=by
      have h4:(cn:Int)+1≤10000∧-10000≤(cn:Int)+1∧(1:Int)≤10000∧(-10000:Int)≤1:=by omega
      have e:((cn:Int)+1-1).toNat=cn:=by omega
      simp only[oE,ag,eC,aJ,cg,cL,bI,mq,h4,and_self,gK,e];unfold dk;rw[List.range'_eq_map_range,e9];refine il some (t4 fun i _=>?_);show D.int (1+(i:Int))=D.int (((0+1+i:Nat)):Int)
      congr 1
    exact(il (Option.bind · _) hr).trans hlp
  · rw[zC,List.all_append,t6];constructor
    · have e1:(D.tup [.lst (mr.map qt),.tup (left.map D.int)]).iq 7=true:=by
        rw[wJ,mX,zC,List.all_map,mX,List.all_nil,Bool.and_true,t6];exact⟨iK.mpr fun x _=>Xz x 4,ER left 5⟩
      have e2:(D.lst [lW (pD cn hs b),lW (pE cn hs b)]).iq 7=true:=by rw[zC];simp only[mX,List.all_nil,QX _ 5,Bool.and_true]
      simp only[mX,List.all_nil,(o 0).okd,(o 1).okd,(o 2).okd,e1,e2,Bool.and_true]
    ·unfold cc;rw[List.all_map,iK];exact fun i _=>QY names (i+1)
def oO(x:Int)(i:Nat)(m:Int):Int:=pV x (i:Int)%(m+1)
def vR(x:Int)(i:Nat)(h:aO×Int):dq:=[(h.1,oO x i h.2),(h.1.reverse,h.2-oO x i h.2),(h.1.take 1,0)]
def gU(x:Int):Nat→dq→dq
  |_,[]=>[]
  |i,h::l=>vR x i h++gU x (i+1) l
theorem QZ(x:Int)(i:Nat){m:Int}(h:1≤m):0≤oO x i m∧oO x i m≤m:=by unfold oO;have h1:=Ba (pV x (i:Int)) (show m+1≠0 by omega);have h2:=Fy (pV x (i:Int)) (show 0<m+1 by omega);omega
theorem Jv(c6:c≤6)(hs:cO c ns)(hm:∀n,n∈ms↔n∈ns):gw ms=ns:=by
  have r:∀n∈ms,0≤n∧n<c:=fun n hn=>hs.2 n ((hm n).mp hn);have c0:0≤c∨c<0:=by omega
  rcases c0 with c0|c0
  · have h1:=Az c0 r;have key:∀{l l':aO},l.Pairwise (·<·)→l'.Pairwise (·<·)→(∀n,n∈l↔n∈l')→l=l':=fun {l l'} p p' e =>
      List.Perm.eq_of_pairwise (le:=fun a b:Int=>a<b) (fun a b _ _ h1 h2=>by omega) p p' ((List.perm_ext_iff_of_nodup (p.imp fun h=>by omega) (p'.imp fun h=>by omega)).mpr e)
    refine key h1.1 hs.1 fun n=>?_;rw[Dc (fun n hn=>by have:=r n hn;omega),hm]
  · have e:ns=[]:=by
      cases q:ns with
      |nil=>rfl
      |cons y l=>have:=hs.2 y (by rw[q];exact cY);omega
    have e2:ms=[]:=by
      cases q:ms with
      |nil=>rfl
      |cons y l=>have:=r y (by rw[q];exact cY);omega
    rw[e,e2];rfl
theorem De{c:Int}(c6:c≤6)(x:Int):∀(l:dq) (i:Nat),(∀h∈l,cO c h.1∧1≤h.2)→kD c (gU x i l)∧(gU x i l).length=3*l.length∧∀k,eW (gU x i l) k=(l.map fun h=>if h.1=k then h.2 else 0).sum
  |[],i,_=>⟨(fun _ z=>nomatch z),rfl,fun _=>rfl⟩
  |h::l,i,hh=>by
   obtain⟨h1,h2,h3⟩:=De c6 x l (i+1) fun y hy=>hh y (ly _ hy);obtain⟨hs,hm⟩:=hh h cY;obtain⟨p1,p2⟩:=QZ x i hm;refine⟨fun r hr=>?_,?_,fun k=>?_⟩
   · rcases mV.mp (show r∈vR x i h++gU x (i+1) l from hr) with hr|hr
     · unfold vR at hr;simp only[fR,List.not_mem_nil,or_false] at hr;rcases hr with rfl|rfl|rfl
       ·exact⟨hs.2,p1⟩
       ·refine⟨fun n hn=>hs.2 n (List.mem_reverse.mp hn),?_⟩;show 0≤h.2-oO x i h.2;omega
       ·exact⟨fun n hn=>hs.2 n (List.mem_of_mem_take hn),Int.le_refl _⟩
     ·exact h1 r hr
   ·show(vR x i h++gU x (i+1) l).length=_;rw[kK,h2,mU];show 3+_=_;omega
   · show eW (vR x i h++gU x (i+1) l) k=_;rw[uz,h3,bY,wa];unfold vR;have e1:gw h.1=h.1:=Js c6 hs;have e2:gw h.1.reverse=h.1:=Jv c6 hs fun n=>List.mem_reverse;have e0:eW [] k=0:=rfl;rw[sr,sr,sr,e0];show(if gw h.1=k then oO x i h.2 else 0)+((if gw h.1.reverse=k then h.2-oO x i h.2 else 0)+((if gw (h.1.take 1)=k then(0:Int) else 0)+0))+_=_;rw[e1,e2];have e4:(if gw (h.1.take 1)=k then(0:Int) else 0)=0:=by split<;>rfl
     rw[e4];by_cases q:h.1=k
     ·rw[ay q,ay q,ay q];omega
     ·rw[aZ q,aZ q,aZ q];omega
theorem Nk{S:D}(x:Int){h:aO×Int}(hi:hs[i]?=some h)(hm:1≤h.2)(rs:dq)(hl:rs.length≤1000)(o4 o5 o6 o7:eP):vA [some (.sh (.lst (hs.map ah))),some (.sh (.int x)),some (.ol (rs.map dC)),some (.sh (.int (i:Int))),o4,o5,o6,o7]=some (.nx [some (.sh (.lst (hs.map ah))),some (.sh (.int x)),some (.ol ((rs++vR x i h).map dC)),some (.sh (.int (i:Int))),o4,some (.sh (.int (oO x i h.2))),some (.sh (.tup (h.1.map D.int))),some (.sh (.int h.2))]):=by
  unfold vA;have a1:qA (hs.map ah) (i:Int)=some (ah h):=uH (by rw[qH,hi];rfl)
  refine(aE (η':=[some (.sh (.lst (hs.map ah))),some (.sh (.int x)),some (.ol (rs.map dC)),some (.sh (.int (i:Int))),o4,o5,some (.sh (.tup (h.1.map D.int))),some (.sh (.int h.2))]) ?_).trans ?_
  ·simp only[Ts,ag,eV,aJ,cg,cL,bI,S5,a1];rfl
  have adG:qJ (pV x (i:Int)) (h.2+1)=true:=Ec (by omega);refine(aE (bF (d:=.int (oO x i h.2)) ?_)).trans ?_
  ·simp only[ag,ax,eV,aJ,eC,ae,ao,cg,cL,bI,dI,yD,mq,mv adG,oO]
  simp only[ig,ik];have hap:∀{f:EF} {ds:dm} {d:D} {Rz:eP},ds.length≤9000→f [some (.sh (.lst (hs.map ah))),some (.sh (.int x)),some (.ol ds),some (.sh (.int (i:Int))),o4,Rz,some (.sh (.tup (h.1.map D.int))),some (.sh (.int h.2))]=some d→dF 2 f [some (.sh (.lst (hs.map ah))),some (.sh (.int x)),some (.ol ds),some (.sh (.int (i:Int))),o4,Rz,some (.sh (.tup (h.1.map D.int))),some (.sh (.int h.2))]=some (.nx [some (.sh (.lst (hs.map ah))),some (.sh (.int x)),some (.ol (ds++[d])),some (.sh (.int (i:Int))),o4,Rz,some (.sh (.tup (h.1.map D.int))),some (.sh (.int h.2))]):=fun {f ds d Rz} Gj hf=>by
    have adI:ds.length<10000:=by omega
    unfold dF;rw[hf];simp only[bI,cg,cL,adI,gK,ig,ik]
  refine(aE (hap (d:=dC (h.1,oO x i h.2)) (by rw[g9];omega) rfl)).trans ?_;refine(aE (hap (d:=dC (h.1.reverse,h.2-oO x i h.2)) (by rw[kK,g9];simp;omega) ?_)).trans ?_
  ·simp only[fY,ae,ao,eL,Kw,eV,aJ,ag,cg,cL,bI,dI,Ie];simp only[dC,List.map_reverse];rfl
  refine(hap (d:=dC (h.1.take 1,0)) (by rw[kK,kK,g9];simp;omega) ?_).trans ?_
  · have adJ:cutD (h.1.map D.int) none (some 1)=(h.1.take 1).map D.int:=by
      have:=Ju (h.1.map D.int) 1;rw[←List.map_take] at this;exact this
    simp only[fY,ae,ao,eL,kQ,Gf,eV,eC,tP,oD,dh,cg,cL,bI,dI,adJ];rfl
  ·unfold vR;simp only[v9,bY,jb,Di,List.cons_append,List.nil_append]
theorem Df(x:Int){hs:dq}(hh:∀h∈hs,1≤h.2)(hl:hs.length≤63)(o4:eP):∀(post pre:dq),hs=pre++post→∀(rs:dq) (o3 o5 o6 o7:eP),rs.length=3*pre.length→∃o3' Rz Jh Qp,ip (aD true 3) vA ((List.range' pre.length post.length).map fun(i:Nat)=>D.int (i:Int)) [some (.sh (.lst (hs.map ah))),some (.sh (.int x)),some (.ol (rs.map dC)),o3,o4,o5,o6,o7]=some (.nx [some (.sh (.lst (hs.map ah))),some (.sh (.int x)),some (.ol ((rs++gU x pre.length post).map dC)),o3',o4,Rz,Jh,Qp])
  |[],pre,e,rs,o3,o5,o6,o7,_=>⟨o3,o5,o6,o7,by show _=some (Out.nx [_,_,some (.ol ((rs++[]).map dC)),_,_,_,_,_]);rw[uE];rfl⟩
  |h::post,pre,e,rs,o3,o5,o6,o7,hr=>by
   have hlen:=il List.length e;rw[kK,mU] at hlen;have hi:hs[pre.length]?=some h:=by rw[e,Fu (cw _),Nat.sub_self];rfl
   have hb:=Nk (S:=.non) x hi (hh h (by rw[e];simp)) rs (by omega) o4 o5 o6 o7;have e1:(pre++[h]).length=pre.length+1:=by simp
   obtain⟨a,b,d,f,ih⟩:=Df x hh hl o4 post (pre++[h]) (by rw[e];simp) (rs++vR x pre.length h) (some (.sh (.int ((pre.length:Nat):Int)))) (some (.sh (.int (oO x pre.length h.2)))) (some (.sh (.tup (h.1.map D.int)))) (some (.sh (.int h.2))) (by rw[kK,hr,e1];show _+3=_;omega);rw[e1] at ih;refine⟨a,b,d,f,?_⟩;have e2:List.range' pre.length (h::post).length=pre.length::List.range' (pre.length+1) post.length:=by rw[mU,List.range'_succ]
   rw[e2,bY];unfold ip;have nP:aD true 3 (.int ((pre.length:Nat):Int)) [some (.sh (.lst (hs.map ah))),some (.sh (.int x)),some (.ol (rs.map dC)),o3,o4,o5,o6,o7]=some [some (.sh (.lst (hs.map ah))),some (.sh (.int x)),some (.ol (rs.map dC)),some (.sh (.int ((pre.length:Nat):Int))),o4,o5,o6,o7]:=rfl;rw[nP];simp only[bI,hb];rw[ih,Di];rfl
def AG{α:Type}(l:List α)(k:Nat):List α:=l.drop k++l.take k
theorem XC(x:Int)(hh:∀h∈hs,1≤h.2)(hl:hs.length≤63)(hk:(gU x 0 hs).length=3*hs.length):∃k:Nat,xk [.lst (hs.map ah),.int x]=some (.ol ((AG (gU x 0 hs) k).map dC)):=by
  obtain⟨o3,o5,o6,o7,e⟩:=Df x hh hl none hs [] rfl [] none none none none rfl;have hmc:qJ x (((gU x 0 hs).length:Int)+1)=true:=Ec (by omega);have hn:=Ba x (show((gU x 0 hs).length:Int)+1≠0 by omega);refine⟨(x%(((gU x 0 hs).length:Int)+1)).toNat,cC ?_⟩;show IY [some (.sh (.lst (hs.map ah))),some (.sh (.int x)),none,none,none,none,none,none]=_;unfold IY;refine(aE (sO (d:=[]) rfl)).trans ?_;simp only[ig,ik];refine(aE (η':=[some (.sh (.lst (hs.map ah))),some (.sh (.int x)),some (.ol ((gU x 0 hs).map dC)),o3,none,o5,o6,o7]) ?_).trans ?_
  · have hr:eG (jQ dU (ae (aJ 0) ao)) [some (.sh (.lst (hs.map ah))),some (.sh (.int x)),some (.ol []),none,none,none,none,none]=some ((List.range' 0 hs.length).map fun(i:Nat)=>D.int (i:Int)):=by
      have h1:((hs.length:Nat):Int)≤10000∧-10000≤((hs.length:Nat):Int):=by omega
      simp only[eG,jQ,dU,aJ,ae,ao,cg,cL,bI,dI,g9,h1,and_self,gK,Dj];unfold dk;rw[←List.range_eq_range'];refine il some (t4 fun i _=>?_);show D.int (0+(i:Int))=_;rw[Int.zero_add]
    exact(il (Option.bind · _) hr).trans e
  refine(aE (bF (d:=.int (x%(((gU x 0 hs).length:Int)+1))) ?_)).trans ?_
  ·simp only[ag,jQ,dU,aJ,eC,ae,ao,cg,cL,bI,dI,g9,mq,mv hmc]
  simp only[ig,ik];obtain⟨k,hkk⟩:∃k:Nat,x%(((gU x 0 hs).length:Int)+1)=(k:Int):=⟨(x%(((gU x 0 hs).length:Int)+1)).toNat,by omega⟩
  rw[hkk,Dj];have Wb:cutD ((gU x 0 hs).map dC) (some (k:Int)) none=((gU x 0 hs).drop k).map dC:=by
    unfold cutD;rw[HT.yN,HT.sy,g9,←List.map_drop,←List.map_take]
    congr 1
    by_cases ZD:k≤(gU x 0 hs).length
    ·rw[Nat.min_eq_left ZD];exact Ht (by rw[List.length_drop];omega)
    ·rw[Nat.min_eq_right (by omega),List.drop_of_length_le (cw _),List.drop_of_length_le (show(gU x 0 hs).length≤k by omega)];simp
  have hhi:cutD ((gU x 0 hs).map dC) none (some (k:Int))=((gU x 0 hs).take k).map dC:=by rw[Ju,←List.map_take]
  have hz:(((gU x 0 hs).drop k).map dC).length+(((gU x 0 hs).take k).map dC).length≤10000:=by rw[g9,g9,List.length_drop,Dl];omega
  simp only[wC,D6,kI,yb,eL,kQ,eV,aJ,tP,oD,cg,cL,ig,ik,bI,dI,Wb,hhi,HS,hz,gK];unfold AG;rw[v9]
theorem Q0(l:dq)(k:Nat)(q:aO):eW (AG l k) q=eW l q:=by unfold AG;have:=uz (l.take k) (l.drop k) q;rw[List.take_append_drop] at this;rw[uz,this];omega
theorem Nm{l:dq}(h:kD c l)(k:Nat):kD c (AG l k):=fun r hr=>by
  rcases mV.mp (show r∈l.drop k++l.take k from hr) with z|z
  ·exact h r (List.mem_of_mem_drop z)
  ·exact h r (List.mem_of_mem_take z)
theorem Q5{α:Type}(l:List α)(k:Nat):(AG l k).length=l.length:=by unfold AG;rw[kK,List.length_drop,Dl];omega
theorem Jw(c0:0≤c)(hP:uw c ps)(hl:ps.length≤63)(hE:cJ ps≠[])(a:kD c rs)(d:∀k,eW rs k=((cJ ps).map fun h=>if h.1=k then h.2 else 0).sum):ak rs≠0∧(qu rs).length<64∧cJ (qu rs)=cJ ps:=by
  have Hq:=lV hP;have tq:∀h∈cJ ps,cO c h.1∧1≤h.2:=fun h hh=>hP.all h (Hq.mem_iff.mp hh);have hT:uw c (qu rs):=(yE (ps:=[]) c0 a ⟨List.nodup_nil,fun _ h=>nomatch h⟩).1;have Tf:∀k,gR (qu rs) k=gR ps k:=fun k=>by
    have e:eW rs k=(ps.map fun h=>if h.1=k then h.2 else 0).sum:=by rw[d k];exact Al (Hq.map _)
    rw[QQ a k,Lb hP k,e]
  have he:=Ni hT hP Tf;have hkp:=(keys_perm hT hP Tf).length_eq;rw[g9,g9] at hkp;refine⟨?_,by omega,he⟩;have e:=Nj c0 a;rw[he] at e;rw[←e];have key:∀{l:dq},(∀h∈l,cO c h.1∧1≤h.2)→(l.length:Int)≤ak l:=by
    intro l;induction l with
    |nil=>intro _;exact Int.le_refl _
    |cons y l ih =>
     intro hy;have h1:=ih fun z hz=>hy z (ly _ hz);have h2:=(hy y cY).2;have e:ak (y::l)=y.2+ak l:=by unfold ak;rw[bY,wa]
     rw[mU,e];omega
  have h1:=key tq;have h2:1≤(cJ ps).length:=by
    cases q:cJ ps with
    |nil=>exact absurd q hE
    |cons _ _=>simp
  omega
theorem Q6(c1:1≤c)(c6:c≤6)(hP:uw c ps)(hl:ps.length≤63)(hE:cJ ps≠[])(x:Int):∃R:dm,xk [.lst ((cJ ps).map ah),.int x]=some (.ol R)∧iU [.int c,.lst R]=some (.ol ((cJ ps).map ah)):=by
  have Hq:=lV hP;have tq:∀h∈cJ ps,cO c h.1∧1≤h.2:=fun h hh=>hP.all h (Hq.mem_iff.mp hh);have hlen:(cJ ps).length≤63:=by rw[Hq.length_eq];exact hl
  obtain⟨a,b,d⟩:=De c6 x (cJ ps) 0 tq;obtain⟨k,hk⟩:=XC x (fun h hm=>(tq h hm).2) hlen b;have a':=Nm a k;obtain⟨m1,m2,m3⟩:=Jw (by omega) hP hl hE a' fun q=>by rw[Q0];exact d q
  have hof:=Nh c1 c6 a' m1 (by rw[Q5,b];omega) m2;rw[m3] at hof;exact⟨_,hk,hof⟩
theorem Jx(c6:c≤6)(hh:∀x∈hs,cO c x.1)(hl:hs.length≤1000):gJ 6 [.lst (hs.map ah),.lst (hs.map ah)]=some (.sh (.bl true)):=by
  refine Qz (by rw[g9];exact hl) fun y hy=>?_;obtain⟨h,hm,rfl⟩:=ja.mp hy;refine Hh (n:=4) (by simp) fun z hz=>?_;rcases fR.mp hz with rfl|hz
  ·refine Hh (n:=3) (by rw[g9];have:=(hh h hm).Rt c6;omega) fun u hu=>?_;obtain⟨n,_,rfl⟩:=ja.mp hu;exact same_int 2 n
  · have e:z=.int h.2:=by simpa using hz
    rw[e];exact same_int 3 _
theorem Nn(names:Int→aO){c:Nat}(h:i<c):(cc names c)[i]?=some (vQ names (i+1)):=by unfold cc;rw[qH,List.getElem?_range h];rfl
theorem Lg{T0:dm}(hT:T0.length=5){c p:Nat}(p1:1≤p)(p2:p≤c):qA (T0++cc names c) ((4+p:Nat):Int)=some (vQ names p):=by refine uH ?_;rw[Fu (by omega),hT,show 4+p-5=p-1 by omega,Nn names (by omega),show p-1+1=p by omega]
theorem Q7(names:Int→aO)(n:Nat){k:Int}(hk:k=0∨k=1∨k=2):qA [tJ (names 0) n,tJ (names 1) n,tJ (names 2) n] k=some (tJ (names k) n):=by rcases hk with rfl|rfl|rfl<;>rfl
def Fs(S:D)(c:Int)(hs:dq)(d:Int)(T:dm)(o7 o8 o9 sf:eP):cP :=
  [some (.sh S),some (.sh (.int c)),some (.sh (.lst (hs.map ah))),some (.sh (.lst (hs.map ah))),some (.sh (.lst (hs.map ah))),some (.sh (.int d)),some (.sh (.lst T)),o7,o8,o9,sf]
theorem Ur{lf:LF}(h:lf η=some []):bU (ag Nu (jQ dU (ae (eL lf) ao)) (eC (.int 0))) η=some false:=by simp only[bU,ag,jQ,ae,ao,eL,eC,h,dI,bI,dU];rfl
theorem Us(a:ye){Fo:Int→dm→eP}{C:Int→Addr}{c:Nat}{H:D}{rows:Int→dm}(o:∀k,tY (Fo k) (C k) (c:Int) H (rows k) (names k)){T0:dm}(hT:T0.length=5)(S:D)(hs:dq)(d:Int){p:Nat}(p1:1≤p)(p2:p<c){k:Int}(hk:k=0∨k=1∨k=2)(o9 sf:eP):sR a (Fs S (c:Int) hs d (T0++cc names c) (some (.sh (.int (p:Int)))) (some (.sh (.int k))) o9 sf)=some (.nx (Fs S (c:Int) hs d (T0++cc names c) (some (.sh (.int (p:Int)))) (some (.sh (.int k))) (some (.sh (tJ (names k) p))) (some (.sh (tJ (names k) (p+1)))))):=by
  unfold sR;have t1:=Lg (names:=names) hT p1 (Nat.le_of_lt p2);have t2:=Lg (names:=names) (c:=c) hT (p:=p+1) (by omega) (by omega);have e4:(4:Int)+(p:Int)=((4+p:Nat):Int):=by omega
  have e5:(5:Int)+(p:Int)=((4+(p+1):Nat):Int):=by omega
  refine(aE (bF (d:=tJ (names k) p) ?_)).trans ?_
  ·simp only[Fs,ag,eV,aJ,eC,cg,cL,bI,mq,S5,e4,t1,vQ,Q7 names p hk]
  refine(aE (bF (d:=tJ (names k) (p+1)) ?_)).trans ?_
  ·simp only[Fs,ag,eV,aJ,eC,ig,ik,cg,cL,bI,mq,S5,e5,t2,vQ,Q7 names (p+1) hk]
  unfold Fs;simp only[ig,ik];refine(lS ?_).trans rfl;have Bt:∀n∈gN ((names k).take p),n∈gN ((names k).take (p+1)):=fun n hn=>by
    have hn:=(gA _).mem_iff.mp hn;refine(gA _).mem_iff.mpr ?_;have e:(names k).take p=((names k).take (p+1)).take p:=by rw[List.take_take,Nat.min_eq_left (by omega)]
    rw[e] at hn;exact List.mem_of_mem_take hn
  have q:cE (aD true 0) (bU (ag (inD true) (aJ 0) (aJ 1))) (eV 0) ((gN ((names k).take p)).map D.int) (List.replicate 1 none++[some (.sh (tJ (names k) (p+1)))])=some (((gN ((names k).take p)).filter fun n=>!(gN ((names k).take (p+1))).contains n).map D.int):=by
    refine dw D.int (fun n=>!(gN ((names k).take (p+1))).contains n) D.int fun n _=>⟨[some (.sh (.int n)),some (.sh (tJ (names k) (p+1)))],rfl,?_,fun _=>rfl⟩
    have hi:=rC (n:=n) (S:=tJ (names k) (p+1)) (ms:=gN ((names k).take (p+1))) rfl;simp only[bU,ag,aJ,cg,cL,bI,hi]
  have WG:((gN ((names k).take p)).filter fun n=>!(gN ((names k).take (p+1))).contains n)=[]:=by rw[List.filter_eq_nil_iff];intro n hn;have:=yF.mpr (Bt n hn);rw[this];decide
  rw[WG] at q;have hlen:(((gN ((names k).take (p+1))).map D.int).length:Int)=(p:Int)+1:=by have:=(o k).len;rw[g9,(gA _).length_eq,Dl];omega
  have e1:bU (ag Nu (jQ dU (ae (eL (bP 1 [10] (cI (eV 9)) (aD true 0) (bU (ag (inD true) (aJ 0) (aJ 1))) (eV 0))) ao)) (eC (.int 0))) [some (.sh S),some (.sh (.int (c:Int))),some (.sh (.lst (hs.map ah))),some (.sh (.lst (hs.map ah))),some (.sh (.lst (hs.map ah))),some (.sh (.int d)),some (.sh (.lst (T0++cc names c))),some (.sh (.int (p:Int))),some (.sh (.int k)),some (.sh (tJ (names k) p)),some (.sh (tJ (names k) (p+1)))]=some false:=by have hc:bP 1 [10] (cI (eV 9)) (aD true 0) (bU (ag (inD true) (aJ 0) (aJ 1))) (eV 0) [some (.sh S),some (.sh (.int (c:Int))),some (.sh (.lst (hs.map ah))),some (.sh (.lst (hs.map ah))),some (.sh (.lst (hs.map ah))),some (.sh (.int d)),some (.sh (.lst (T0++cc names c))),some (.sh (.int (p:Int))),some (.sh (.int k)),some (.sh (tJ (names k) p)),some (.sh (tJ (names k) (p+1)))]=some []:=q;exact Ur hc
  have e2:bU (ag qK (jQ dU (ae (aJ 10) ao)) (ag ml (aJ 7) (eC (.int 1)))) [some (.sh S),some (.sh (.int (c:Int))),some (.sh (.lst (hs.map ah))),some (.sh (.lst (hs.map ah))),some (.sh (.lst (hs.map ah))),some (.sh (.int d)),some (.sh (.lst (T0++cc names c))),some (.sh (.int (p:Int))),some (.sh (.int k)),some (.sh (tJ (names k) p)),some (.sh (tJ (names k) (p+1)))]=some false:=by simp only[bU,ag,jQ,dU,tJ,aJ,eC,ae,ao,cg,cL,bI,dI,mq,hlen,Ee];simp
  unfold mh;rw[e1,e2];rfl
theorem Q8(a:ye)(hA:xJ a)(ns:aO)(hl:ns.length≤63):ED a [.lst (ns.map D.int)]=some (.sh (.bl true)):=by
  have hr:∀(j:Int) (k:Nat),j=(k:Int)→e8 [.lst (ns.map D.int),.int j]=some (.sh (.int (ns.getD k 0))):=fun j k e=>by rw[e];exact Qj ns k
  have hm6:∀y,qJ y 6=true:=fun y=>rfl;have h1:=Ba (ns.getD 0 0) (show(6:Int)≠0 by decide);have h2:=Fy (ns.getD 0 0) (show(0:Int)<6 by decide);obtain⟨cn,hc⟩:∃cn:Nat,(cn:Int)=1+ns.getD 0 0%6:=⟨(1+ns.getD 0 0%6).toNat,by omega⟩
  have n1:1≤cn:=by omega
  have n6:cn≤6:=by omega
  have c1:(1:Int)≤(cn:Int):=by omega
  have c6:(cn:Int)≤6:=by omega
  have h0:(0:Int)≤(cn:Int):=by omega
  obtain⟨hs,eh,cZ,ps,hP,Ou,tj,hSm⟩:=TR ns 4 12 c1 c6 hl (by decide);have hhs:∀x∈hs,cO (cn:Int) x.1:=fun x hx=>(cZ.all x hx).1;have h6:∀x∈hs,x.1.length≤6:=fun x hx=>(cZ.all x hx).1.Rt c6;have hh:∀h∈hs,1≤h.2:=fun h hm=>(cZ.all h hm).2;have hsl:hs.length≤63:=by rw[Ou,(lV hP).length_eq];exact tj
  have hE:cJ ps≠[]:=by rw[←Ou];exact cZ.ne
  have hN:ak hs≤2^105:=by
    have e:ak hs=ak ps:=by rw[Ou];exact Al ((lV hP).map _)
    rw[e];refine Int.le_trans hSm ?_;decide +kernel
  have XD:=Uq a h0 c6 h6 hh hN;obtain⟨rows,names,o⟩:∃(rows:Int→dm) (names:Int→aO),∀k,tY (EK k) (qP a k) (cn:Int) (.lst (hs.map ah)) (rows k) (names k):=⟨fun k=>(XD k).choose,fun k=>(XD k).choose_spec.choose,fun k=>(XD k).choose_spec.choose_spec⟩
  obtain⟨R1,e1,e1'⟩:=Q6 c1 c6 hP tj hE (ns.getD 1 0);obtain⟨R2,e2,Wf⟩:=Q6 c1 c6 hP tj hE (ns.getD 2 0);rw[←Ou] at e1 e1' e2 Wf;have hq1:=Ba (ns.getD 3 0) (show(cn:Int)≠0 by omega);have hq2:=Fy (ns.getD 3 0) (show(0:Int)<(cn:Int) by omega);obtain⟨p,hp⟩:∃p:Nat,(p:Int)=1+ns.getD 3 0%(cn:Int):=⟨(1+ns.getD 3 0%(cn:Int)).toNat,by omega⟩
  obtain⟨T0,hT,Vc,adL⟩:=XB hA n1 n6 h6 o (p:=p) (by omega) (by omega);have aaA:=Jx c6 hhs (by omega);refine cC ?_;show EC a [some (.sh (.lst (ns.map D.int))),none,none,none,none,none,none,none,none,none,none]=_;unfold EC;refine(aE (bF (d:=.int (cn:Int)) ?_)).trans ?_
  ·simp only[ag,eC,ax,ae,ao,eV,cg,bI,dI,hr 0 0 rfl,mv (hm6 _),mq,hc]
  simp only[ig,ik];refine(aE (bF (d:=.lst (hs.map ah)) ?_)).trans ?_
  ·have e4:((4:Nat):Int)=4:=rfl;have e12:((12:Nat):Int)=12:=rfl;rw[e4,e12] at eh;simp only[ax,eC,ae,ao,eV,cg,cL,bI,dI,eh]
  simp only[ig,ik];refine(aE (bF (d:=.lst (hs.map ah)) ?_)).trans ?_
  ·simp only[ax,eC,ae,ao,eV,cg,cL,bI,dI,hr 1 1 rfl,e1,e1']
  simp only[ig,ik];refine(aE (bF (d:=.lst (hs.map ah)) ?_)).trans ?_
  ·simp only[ax,eC,ae,ao,eV,cg,cL,bI,dI,hr 2 2 rfl,e2,Wf]
  simp only[ig,ik];refine(aE ((lS ?_).trans rfl)).trans ?_
  ·simp only[mh,uT,bU,ax,aJ,ae,ao,cg,cL,bI,dI,aaA];rfl
  refine(aE ((lS ?_).trans rfl)).trans ?_
  · have q:cE (lR 2 (bZ (aD true 0) (bZ (aD true 1) lQ))) eQ (eV 1) (hs.map ah) (List.replicate 2 none++[])=some ((hs.map fun r=>r.2).map D.int):=by
      rw[e9];exact eX ah (D.int∘fun r=>r.2) fun x _=>⟨[some (.sh (.tup (x.1.map D.int))),some (.sh (.int x.2))],rfl,rfl,rfl⟩
    have hs1:gJ 6 [.int (ak hs),.int (hs.map fun r=>r.2).sum]=some (.sh (.bl true)):=same_int 5 _;simp only[uT,bU,ax,jQ,eL,bP,cI,eV,ae,ao,cg,cL,bI,dI,dh,jd,jb,q,ya,du,xA,hs1];rfl
  refine(aE (bF (d:=.int (p:Int)) ?_)).trans ?_
  ·have hmc:qJ (ns.getD 3 0) (cn:Int)=true:=Ec (by omega);simp only[ag,eC,ax,ae,ao,eV,aJ,cg,cL,bI,dI,hr 3 3 rfl,mv hmc,mq,hp]
  simp only[ig,ik];refine(aE (bF (d:=.lst (T0++cc names cn)) ?_)).trans ?_
  ·simp only[ax,ae,ao,eV,cg,cL,bI,dI,Vc]
  simp only[ig,ik];refine(aE ((lS ?_).trans rfl)).trans ?_
  ·simp only[bU,ag,ax,ae,ao,eV,aJ,cg,cL,bI,dI,Vc,Gx adL]
  -- one place more
  have inner:∀(q:Nat),1≤q→q<cn→∀(ks:aO),(∀k∈ks,k=0∨k=1∨k=2)→∀(o8 o9 sf:eP),∃o8' o9' XE,ip (aD true 8) (sR a) (ks.map D.int) (Fs (.lst (ns.map D.int)) (cn:Int) hs (p:Int) (T0++cc names cn) (some (.sh (.int (q:Int)))) o8 o9 sf)=some (.nx (Fs (.lst (ns.map D.int)) (cn:Int) hs (p:Int) (T0++cc names cn) (some (.sh (.int (q:Int)))) o8' o9' XE)):=by
    intro q q1 q2 ks;induction ks with
    |nil=>intro _ o8 o9 sf;exact⟨o8,o9,sf,rfl⟩
    |cons k ks ih=>intro hk o8 o9 sf;obtain⟨a8,a9,Vd,hi⟩:=ih (fun y hy=>hk y (ly _ hy)) (some (.sh (.int k))) (some (.sh (tJ (names k) q))) (some (.sh (tJ (names k) (q+1))));refine⟨a8,a9,Vd,?_⟩;rw[bY];unfold ip;have nP:aD true 8 (.int k) (Fs (.lst (ns.map D.int)) (cn:Int) hs (p:Int) (T0++cc names cn) (some (.sh (.int (q:Int)))) o8 o9 sf)=some (Fs (.lst (ns.map D.int)) (cn:Int) hs (p:Int) (T0++cc names cn) (some (.sh (.int (q:Int)))) (some (.sh (.int k))) o9 sf):=rfl;rw[nP];simp only[bI,Us a o hT (.lst (ns.map D.int)) hs (p:Int) q1 q2 (hk k cY) o9 sf];exact hi
  have outer:∀(l:List Nat),(∀q∈l,1≤q∧q<cn)→∀(o7 o8 o9 sf:eP),∃Qp o8' o9' XE,ip (aD true 7) (sS a) (l.map fun(q:Nat)=>D.int (q:Int)) (Fs (.lst (ns.map D.int)) (cn:Int) hs (p:Int) (T0++cc names cn) o7 o8 o9 sf)=some (.nx (Fs (.lst (ns.map D.int)) (cn:Int) hs (p:Int) (T0++cc names cn) Qp o8' o9' XE)):=by
    intro l;induction l with
    |nil=>intro _ o7 o8 o9 sf;exact⟨o7,o8,o9,sf,rfl⟩
    |cons q l ih =>
     intro hq o7 o8 o9 sf;obtain⟨q1,q2⟩:=hq q cY;obtain⟨a8,a9,Vd,hi⟩:=inner q q1 q2 [0,1,2] (fun k hk=>by simpa using hk) o8 o9 sf;obtain⟨b7,b8,b9,b10,hj⟩:=ih (fun y hy=>hq y (ly _ hy)) (some (.sh (.int (q:Int)))) a8 a9 Vd;refine⟨b7,b8,b9,b10,?_⟩;rw[bY];unfold ip;have nP:aD true 7 (.int (q:Int)) (Fs (.lst (ns.map D.int)) (cn:Int) hs (p:Int) (T0++cc names cn) o7 o8 o9 sf)=some (Fs (.lst (ns.map D.int)) (cn:Int) hs (p:Int) (T0++cc names cn) (some (.sh (.int (q:Int)))) o8 o9 sf):=rfl;rw[nP];have hg:sS a (Fs (.lst (ns.map D.int)) (cn:Int) hs (p:Int) (T0++cc names cn) (some (.sh (.int (q:Int)))) o8 o9 sf)=some (.nx (Fs (.lst (ns.map D.int)) (cn:Int) hs (p:Int) (T0++cc names cn) (some (.sh (.int (q:Int)))) a8 a9 Vd)):=by unfold sS kT;exact hi
     simp only[bI,hg];exact hj
  obtain⟨o7,o8,o9,sf,hlp⟩:=outer (List.range' 1 (cn-1)) (fun q hq=>by
    obtain⟨i,hi,rfl⟩:=List.mem_range'.mp hq;omega) none none none none
  refine(aE (η':=Fs (.lst (ns.map D.int)) (cn:Int) hs (p:Int) (T0++cc names cn) o7 o8 o9 sf) ?_).trans rfl;unfold kT;have hrg:oE (eC (.int 1)) (aJ 1) (Fs (.lst (ns.map D.int)) (cn:Int) hs (p:Int) (T0++cc names cn) none none none none)=some ((List.range' 1 (cn-1)).map fun(q:Nat)=>D.int (q:Int)):=by
    have h4:(cn:Int)≤10000∧-10000≤(cn:Int)∧(1:Int)≤10000∧(-10000:Int)≤1:=by omega
    have e:((cn:Int)-1).toNat=cn-1:=by omega
    simp only[oE,Fs,eC,aJ,cg,cL,bI,h4,and_self,gK,e];unfold dk;rw[List.range'_eq_map_range,e9];refine il some (t4 fun i _=>?_);show D.int (1+(i:Int))=D.int (((1+i:Nat)):Int)
    congr 1
  exact(il (Option.bind · _) hrg).trans hlp
theorem ar1{P:dO→Prop}(h:∀x0:Value,P [x0]):∀us:dO,us.length=1→P us
  |[x0],_=>h x0
theorem ar2{P:dO→Prop}(h:∀x0 x1:Value,P [x0,x1]):∀us:dO,us.length=2→P us
  |[x0,x1],_=>h x0 x1
theorem ar3{P:dO→Prop}(h:∀x0 x1 x2:Value,P [x0,x1,x2]):∀us:dO,us.length=3→P us
  |[x0,x1,x2],_=>h x0 x1 x2
theorem ar4{P:dO→Prop}(h:∀x0 x1 x2 x3:Value,P [x0,x1,x2,x3]):∀us:dO,us.length=4→P us
  |[x0,x1,x2,x3],_=>h x0 x1 x2 x3
structure DN (K:PySem.W.Frag) (x:Str) (st:Stmt) (f:Addr):Prop where
  a:nsIn K mainGlobals x=some (some (.ref f))
  e:∃fd,kG K x x st f fd
structure DM (K:PySem.W.Frag) (C:Addr) (x q:Str) (st:Stmt) (f:Addr):Prop where
  a:PySem.W.findIn K (.ref C) x=some (some (.ref f))
  i:isFn K (.ref f)=true
  e:∃fd,kG K x q st f fd
section
variable {K:PySem.W.Frag} {x q:Str} {st:Stmt} {f C:Addr} {oc:Value} {od an:Option Addr} {Np:Array ni} {kV doc pm eR ct:Value}
theorem cU(a:nsIn K mainGlobals x=some (some (.ref f)))(l:K.lookup f=some ⟨oc,od,.func (fnOf x x (fc st) (dD st) (az st) .none kV doc pm an eR ct),Np⟩)(c:codeIn K eR x=true)(k:keepIn K (.ref f)=true):DN K x st f:=⟨a,_,wo l c k⟩
theorem Ve(a:PySem.W.findIn K (.ref C) x=some (some (.ref f)))(i:isFn K (.ref f)=true)(l:K.lookup f=some ⟨oc,od,.func (fnOf x q (fc st) (dD st) (az st) .none kV doc pm an eR ct),Np⟩)(c:codeIn K eR q=true)(k:keepIn K (.ref f)=true):DM K C x q st f:=⟨a,i,_,wo l c k⟩
end
theorem cm(P:Program)(w:World)(base:Heap){f:Addr}{ps:gs}{sp:Sp}(h:cG P w K mg base i9 n f fd ps sp)(b:Binds K fd ps [])(k:keepIn K (.ref f)=true):fW P w K mg base n f ps sp:=⟨fd,h,b,k⟩
theorem Vf{ps:gs}(h:∀x0:Value,bindArgs fd ⟨[x0],[]⟩=pure (ps.zip [x0]))(us:dO)(hl:us.length=1):bindArgs fd ⟨us,[]⟩=pure (ps.zip us):=ar1 (P:=fun us=>bindArgs fd ⟨us,[]⟩=pure (ps.zip us)) h us hl
theorem EV{ps:gs}(h:∀x0 x1:Value,bindArgs fd ⟨[x0,x1],[]⟩=pure (ps.zip [x0,x1]))(us:dO)(hl:us.length=2):bindArgs fd ⟨us,[]⟩=pure (ps.zip us):=ar2 (P:=fun us=>bindArgs fd ⟨us,[]⟩=pure (ps.zip us)) h us hl
theorem Lh{ps:gs}(h:∀x0 x1 x2:Value,bindArgs fd ⟨[x0,x1,x2],[]⟩=pure (ps.zip [x0,x1,x2]))(us:dO)(hl:us.length=3):bindArgs fd ⟨us,[]⟩=pure (ps.zip us):=ar3 (P:=fun us=>bindArgs fd ⟨us,[]⟩=pure (ps.zip us)) h us hl
theorem ba4{ps:gs}(h:∀x0 x1 x2 x3:Value,bindArgs fd ⟨[x0,x1,x2,x3],[]⟩=pure (ps.zip [x0,x1,x2,x3]))(us:dO)(hl:us.length=4):bindArgs fd ⟨us,[]⟩=pure (ps.zip us):=ar4 (P:=fun us=>bindArgs fd ⟨us,[]⟩=pure (ps.zip us)) h us hl
theorem all_mk{l:PySem.W.OpenLaw}{fa f0 f1 f2 f3 f4 f5 f6 f7 f8 f9 f10 f11 f12 f13 f14 f15 f16 f17 f18 f19 f20 f21 f22 f23 f24 f25 f26 f27 f28 f29 f30 f31 f32 f33 f34 f35 f36 f37 f38 f39 f40 f41 f42 f43 f44 f45 f46 gu bj aR aS:Addr}(X:K.In h)(G:h.Ns mainGlobals mg)(hfa:mg "law"=some (.ref fa))(d0:DN K "heaps_of" qb f0)(d1:DN K "ballots" rN f1)(d2:DN K "rank" z0 f2)(d3:DN K "check_count" mw f3)(d4:DN K "check_names" mx f4)(d5:DN K "check_ballots" kg f5)(d6:DN K "put_together" kX f6)(d7:DN K "worth" wM f7)(d8:DN K "exchanges" oX f8)(d9:DN K "mended" uh f9)(d10:DN K "in_common" oY f10)(d11:DN K "exchanged" oZ f11)(d12:DN K "best_exchange" kh f12)(d13:DN K "left_out" qc f13)(d14:DN K "left_out_together" g7 f14)(d15:DN K "are_enough" nS f15)(d16:DN K "with_too_few" kY f16)(d17:DN K "with_none_but" ki f17)(d18:DN K "heaps_naming_all" iA f18)(d19:DN K "largest_few" my f19)(d20:DN K "sets_to_ask" mz f20)(d21:DN K "sets_of" rO f21)(d22:DN K "lowest" ui f22)(d23:DN K "added" wN f23)(d24:DN K "less" z3 f24)(d25:DN K "common_divisor" jE f25)(d26:DN K "ballots_naming" jF f26)(d27:DN K "names_of" qd f27)(d28:DN K "unseated" qe f28)(d29:DN K "next_turn" pd f29)(d30:DN K "next_load" pe f30)(d31:DN K "comes_ahead" mB f31)(d32:DN K "load_of_name" kZ f32)(d33:DN K "load_of_heap" la f33)(d34:DN K "_law_cell_at" wO f34)(d35:DN K "_law_mixed" Er f35)(d36:DN K "_law_set" Qc f36)(d37:DN K "_law_heaps" Es f37)(d38:DN K "_law_same" s_same f38)(d39:DN K "_law_rows" IG f39)(d40:DN K "_law_told" II f40){adQ aaF:Option Addr}{adR:Array ni}{adS aaG aaH aaI XF aaJ:Value}(a41:nsIn K mainGlobals "law"=some (some (.ref f41)))(l41:K.lookup f41=some ⟨adS,adQ,.func (fnOf "law" "law" (fc m7) (dD m7) (az m7) .none aaG aaH aaI aaF XF aaJ),adR⟩)(c41:codeIn K XF "law"=true)(k41:keepIn K (.ref f41)=true)(d42:DM K bj "bench" "Way.bench" pf f42){adW adX:Option Addr}{adY:Array ni}{adZ ad0 ad1 ad2 XG ad3:Value}(XH:PySem.W.findIn K (.ref bj) "order"=some (some (.ref f43)))(i43:isFn K (.ref f43)=true)(X8:K.lookup f43=some ⟨adZ,adW,.func (fnOf "order" "Most.order" (fc bM) (dD bM) (az bM) .none ad0 ad1 ad2 adX XG ad3),adY⟩)(c43:codeIn K XG "Most.order"=true)(k43:keepIn K (.ref f43)=true)(d44:DM K bj "seated" "Way.seated" nT f44){ad5 ad6:Option Addr}{ad7:Array ni}{ad8 ad9 aea aeb aaL aec:Value}(X9:PySem.W.findIn K (.ref aR) "order"=some (some (.ref f45)))(i45:isFn K (.ref f45)=true)(l45:K.lookup f45=some ⟨ad8,ad5,.func (fnOf "order" "Turns.order" (fc eY) (dD eY) (az eY) .none ad9 aea aeb ad6 aaL aec),ad7⟩)(c45:codeIn K aaL "Turns.order"=true)(k45:keepIn K (.ref f45)=true){aef aeg:Option Addr}{aeh:Array ni}{aei aej aek ael aaO aem:Value}(a46:PySem.W.findIn K (.ref aS) "order"=some (some (.ref f46)))(i46:isFn K (.ref f46)=true)(l46:K.lookup f46=some ⟨aei,aef,.func (fnOf "order" "Loads.order" (fc eZ) (dD eZ) (az eZ) .none aej aek ael aeg aaO aem),aeh⟩)(c46:codeIn K aaO "Loads.order"=true)(k46:keepIn K (.ref f46)=true){EW:Option Addr}{xQ:Nat}{EX:Array ni}{vU vV vW vX vY vZ v3:Tok}(su:nsIn K mainGlobals "SIXTIETHS"=some (some (.ref gu)))(sv:K.lookup gu=some ⟨.type "tuple",EW,.seq #[.int 0 vU,.int 60 vV,.int 90 vW,.int 110 vX,.int 125 vY,.int 137 vZ,.int 147 v3] xQ,EX⟩){tZ:Tok}(qw:nsIn K mainGlobals "MOST_NAMES"=some (some (.int 6 tZ)))(Jy:nsIn K mainGlobals "bool"=some none)(Q9:nsIn K mainGlobals "int"=some none)(qx:nsIn K mainGlobals "isinstance"=some none)(Ra:nsIn K mainGlobals "len"=some none)(Jz:nsIn K mainGlobals "list"=some none)(Rb:nsIn K mainGlobals "min"=some none)(EY:nsIn K mainGlobals "range"=some none)(uA:nsIn K mainGlobals "reversed"=some none)(Rc:nsIn K mainGlobals "set"=some none)(AH:nsIn K mainGlobals "sorted"=some none)(Rf:nsIn K mainGlobals "str"=some none)(Rg:nsIn K mainGlobals "sum"=some none)(EZ:nsIn K mainGlobals "tuple"=some none)(JA:nsIn K mainGlobals "Most"=some (some (.ref bj)))(Fb:nsIn K mainGlobals "Turns"=some (some (.ref aR)))(Fc:nsIn K mainGlobals "Loads"=some (some (.ref aS)))(Fd:plainGet K bj Str.empty=true)(Fe:hasDictIn K bj=true)(Ff:plainOver K bj=true)(Fg:PySem.W.findIn K (.ref bj) "__setattr__"=some (some (.builtin "object.__setattr__")))(vn:makesIn K bj=true)(Fh:PySem.W.findIn K (.ref bj) "__init__"=some (some (.builtin "object.__init__")))(Fi:keepIn K (.ref bj)=true)(AI:plainGet K aR Str.empty=true)(AJ:hasDictIn K aR=true)(AK:plainOver K aR=true)(AO:PySem.W.findIn K (.ref aR) "__setattr__"=some (some (.builtin "object.__setattr__")))(rQ:makesIn K aR=true)(AQ:PySem.W.findIn K (.ref aR) "__init__"=some (some (.builtin "object.__init__")))(AR:keepIn K (.ref aR)=true)(pF:PySem.W.findIn K (.ref aR) "bench"=some (some (.ref f42)))(oo:PySem.W.findIn K (.ref aR) "seated"=some (some (.ref f44)))(AU:plainGet K aS Str.empty=true)(AV:hasDictIn K aS=true)(AW:plainOver K aS=true)(AX:PySem.W.findIn K (.ref aS) "__setattr__"=some (some (.builtin "object.__setattr__")))(rV:makesIn K aS=true)(AY:PySem.W.findIn K (.ref aS) "__init__"=some (some (.builtin "object.__init__")))(AZ:keepIn K (.ref aS)=true)(pG:PySem.W.findIn K (.ref aS) "bench"=some (some (.ref f42)))(oq:PySem.W.findIn K (.ref aS) "seated"=some (some (.ref f44))){Ry TJ:Addr}(XI:XG=.ref Ry)(aaS:h.get? TJ=some (PySem.W.tabObj #[]))(Ut:lZ K=some (Ry,TJ))(XJ:PySem.W.codeHdIn K Ry TJ=true):∃fd:FuncData,(∀(s:Shared) (v:Value),BindsTo s fd ⟨[v],[]⟩ [("_law_script",v)])∧∀(base:Heap) (c T:Addr),lZ K=some (c,T)→K.In base→base.Ns mainGlobals mg→base.BuiltinsAt mg T→cG l.prog w K mg base i9 10 fa fd ["_law_script"] (Xb K):=by
  subst XI;have e:=hfa.symm.trans (mg_of X G a41);cases e;obtain⟨a0,_,E0⟩:=d0;obtain⟨a1,_,E1⟩:=d1;obtain⟨a2,_,E2⟩:=d2;obtain⟨a3,_,E3⟩:=d3;obtain⟨a4,_,E4⟩:=d4;obtain⟨a5,_,E5⟩:=d5;obtain⟨a6,_,E6⟩:=d6;obtain⟨a7,_,E7⟩:=d7;obtain⟨a8,_,E8⟩:=d8;obtain⟨a9,_,E9⟩:=d9;obtain⟨Vd,_,E10⟩:=d10;obtain⟨a11,_,E11⟩:=d11;obtain⟨a12,_,E12⟩:=d12;obtain⟨a13,_,E13⟩:=d13;obtain⟨a14,_,E14⟩:=d14;obtain⟨a15,_,E15⟩:=d15;obtain⟨a16,_,E16⟩:=d16;obtain⟨a17,_,E17⟩:=d17;obtain⟨a18,_,E18⟩:=d18;obtain⟨a19,_,E19⟩:=d19;obtain⟨a20,_,E20⟩:=d20;obtain⟨a21,_,E21⟩:=d21;obtain⟨a22,_,E22⟩:=d22;obtain⟨a23,_,E23⟩:=d23;obtain⟨a24,_,E24⟩:=d24;obtain⟨a25,_,E25⟩:=d25;obtain⟨a26,_,E26⟩:=d26;obtain⟨a27,_,E27⟩:=d27;obtain⟨a28,_,E28⟩:=d28;obtain⟨a29,_,E29⟩:=d29;obtain⟨a30,_,E30⟩:=d30;obtain⟨a31,_,E31⟩:=d31;obtain⟨a32,_,E32⟩:=d32;obtain⟨a33,_,E33⟩:=d33;obtain⟨a34,_,E34⟩:=d34;obtain⟨a35,_,E35⟩:=d35;obtain⟨a36,_,E36⟩:=d36;obtain⟨a37,_,E37⟩:=d37;obtain⟨a38,_,E38⟩:=d38;obtain⟨a39,_,E39⟩:=d39;obtain⟨a40,_,E40⟩:=d40;obtain⟨a42,i42,_,Yb⟩:=d42;obtain⟨a44,i44,_,Yc⟩:=d44;have m:∀{x v},nsIn K mainGlobals x=some (some v)→mg x=some v:=mg_of X G;have mn:∀{x},nsIn K mainGlobals x=some none→mg x=none:=PySem.W.mg_none_of X G
  let a:ye:=⟨f0,f1,f2,f3,f4,f5,f6,f7,f8,f9,f10,f11,f12,f13,f14,f15,f16,f17,f18,f19,f20,f21,f22,f23,f24,f25,f26,f27,f28,f29,f30,f31,f32,f33,f34,f35,f36,f37,f38,f39,f40,fa,f42,f43,f44,f45,f46,gu,bj,aR,aS,Ry,TJ⟩
  have T:Txt K mg a:=⟨m a0,m a1,m a2,m a3,m a4,m a5,m a6,m a7,m a8,m a9,m Vd,m a11,m a12,m a13,m a14,m a15,m a16,m a17,m a18,m a19,m a20,m a21,m a22,m a23,m a24,m a25,m a26,m a27,m a28,m a29,m a30,m a31,m a32,m a33,m a34,m a35,m a36,m a37,m a38,m a39,m a40,m a41,m JA,m Fb,m Fc,⟨Fd,Fe,Ff,Fg⟩,⟨vn,Fh,Fi⟩,⟨a42,i42,Yb.kp⟩,⟨XH,i43,k43⟩,⟨a44,i44,Yc.kp⟩,⟨AI,AJ,AK,AO⟩,⟨rQ,AQ,AR⟩,⟨pF,i42,Yb.kp⟩,⟨X9,i45,k45⟩,⟨oo,i44,Yc.kp⟩,⟨AU,AV,AW,AX⟩,⟨rV,AY,AZ⟩,⟨pG,i42,Yb.kp⟩,⟨a46,i46,k46⟩,⟨oq,i44,Yc.kp⟩,m su,(fun H=>.inr ⟨_,_,xQ,sv,rfl,rfl,(by show 7≤sizeLine;decide),(.cons ⟨vU,rfl⟩ (.cons ⟨vV,rfl⟩ (.cons ⟨vW,rfl⟩ (.cons ⟨vX,rfl⟩ (.cons ⟨vY,rfl⟩ (.cons ⟨vZ,rfl⟩ (.cons ⟨v3,rfl⟩ .nil)))))))⟩),⟨tZ,m qw⟩,mn Jy,mn Q9,mn qx,mn Ra,mn Jz,mn Rb,mn EY,mn uA,mn Rc,mn AH,mn Rf,mn Rg,mn EZ,XJ,Ut⟩
  have b0:=E0.binds (ps:=["count","rows"]) fun _ _ _ _ _ _=>EV fun _ _=>rfl;have b1:=E1.binds (ps:=["heaps"]) fun _ _ _ _ _ _=>Vf fun _=>rfl;have b2:=E2.binds (ps:=["names"]) fun _ _ _ _ _ _=>Vf fun _=>rfl;have b3:=E3.binds (ps:=["count"]) fun _ _ _ _ _ _=>Vf fun _=>rfl;have b4:=E4.binds (ps:=["count","rows"]) fun _ _ _ _ _ _=>EV fun _ _=>rfl;have b5:=E5.binds (ps:=["rows"]) fun _ _ _ _ _ _=>Vf fun _=>rfl;have b6:=E6.binds (ps:=["rows"]) fun _ _ _ _ _ _=>Vf fun _=>rfl;have b7:=E7.binds (ps:=["heaps","names"]) fun _ _ _ _ _ _=>EV fun _ _=>rfl;have b8:=E8.binds (ps:=["count","heaps","bench"]) fun _ _ _ _ _ _=>Lh fun _ _ _=>rfl;have b9:=E9.binds (ps:=["count","heaps","bench"]) fun _ _ _ _ _ _=>Lh fun _ _ _=>rfl;have b10:=E10.binds (ps:=["one","two"]) fun _ _ _ _ _ _=>EV fun _ _=>rfl;have b11:=E11.binds (ps:=["bench","leaving","coming"]) fun _ _ _ _ _ _=>Lh fun _ _ _=>rfl;have b12:=E12.binds (ps:=["count","heaps","bench"]) fun _ _ _ _ _ _=>Lh fun _ _ _=>rfl;have b13:=E13.binds (ps:=["count","heaps","bench"]) fun _ _ _ _ _ _=>Lh fun _ _ _=>rfl;have b14:=E14.binds (ps:=["count","heaps","bench"]) fun _ _ _ _ _ _=>Lh fun _ _ _=>rfl;have b15:=E15.binds (ps:=["some","heaps","bench","names"]) fun _ _ _ _ _ _=>ba4 fun _ _ _ _=>rfl;have b16:=E16.binds (ps:=["heaps","bench","names"]) fun _ _ _ _ _ _=>Lh fun _ _ _=>rfl;have b17:=E17.binds (ps:=["heaps","bench","names","few"]) fun _ _ _ _ _ _=>ba4 fun _ _ _ _=>rfl;have b18:=E18.binds (ps:=["heaps","names"]) fun _ _ _ _ _ _=>EV fun _ _=>rfl;have b19:=E19.binds (ps:=["bench","names"]) fun _ _ _ _ _ _=>EV fun _ _=>rfl;have b20:=E20.binds (ps:=["count"]) fun _ _ _ _ _ _=>Vf fun _=>rfl;have b21:=E21.binds (ps:=["names"]) fun _ _ _ _ _ _=>Vf fun _=>rfl;have b22:=E22.binds (ps:=["top","bottom"]) fun _ _ _ _ _ _=>EV fun _ _=>rfl;have b23:=E23.binds (ps:=["one","two"]) fun _ _ _ _ _ _=>EV fun _ _=>rfl;have b24:=E24.binds (ps:=["one","two"]) fun _ _ _ _ _ _=>EV fun _ _=>rfl;have b25:=E25.binds (ps:=["one","two"]) fun _ _ _ _ _ _=>EV fun _ _=>rfl;have b26:=E26.binds (ps:=["heaps","name"]) fun _ _ _ _ _ _=>EV fun _ _=>rfl;have b27:=E27.binds (ps:=["rows"]) fun _ _ _ _ _ _=>Vf fun _=>rfl;have b28:=E28.binds (ps:=["count","rows"]) fun _ _ _ _ _ _=>EV fun _ _=>rfl;have b29:=E29.binds (ps:=["count","heaps","rows"]) fun _ _ _ _ _ _=>Lh fun _ _ _=>rfl;have b30:=E30.binds (ps:=["count","heaps","rows"]) fun _ _ _ _ _ _=>Lh fun _ _ _=>rfl;have b31:=E31.binds (ps:=["one","two"]) fun _ _ _ _ _ _=>EV fun _ _=>rfl;have b32:=E32.binds (ps:=["heaps","rows","name"]) fun _ _ _ _ _ _=>Lh fun _ _ _=>rfl;have b33:=E33.binds (ps:=["names","rows"]) fun _ _ _ _ _ _=>EV fun _ _=>rfl;have b34:=E34.binds (ps:=["_law_script","_law_k"]) fun _ _ _ _ _ _=>EV fun _ _=>rfl;have b35:=E35.binds (ps:=["_law_cell","_law_place"]) fun _ _ _ _ _ _=>EV fun _ _=>rfl;have b36:=E36.binds (ps:=["_law_bits","_law_count"]) fun _ _ _ _ _ _=>EV fun _ _=>rfl;have b37:=E37.binds (ps:=["_law_script","_law_at","_law_most","_law_count"]) fun _ _ _ _ _ _=>ba4 fun _ _ _ _=>rfl;have b38:=E38.binds (ps:=["_law_found","_law_due"]) fun _ _ _ _ _ _=>EV fun _ _=>rfl;have b39:=E39.binds (ps:=["_law_heaps_here","_law_cell"]) fun _ _ _ _ _ _=>EV fun _ _=>rfl;have b40:=E40.binds (ps:=["_law_count","_law_heaps_here","_law_places"]) fun _ _ _ _ _ _=>Lh fun _ _ _=>rfl;have E41:=wo (st:=m7) l41 c41 k41;have b42:=Yb.binds (ps:=["self","count","heaps","places"]) fun _ _ _ _ _ _=>ba4 fun _ _ _ _=>rfl;have E43:=wo (st:=bM) X8 c43 k43;have b43:=E43.binds (ps:=["self","count","heaps"]) fun _ _ _ _ _ _=>Lh fun _ _ _=>rfl;have b44:=Yc.binds (ps:=["self","count","heaps","places"]) fun _ _ _ _ _ _=>ba4 fun _ _ _ _=>rfl;have E45:=wo (st:=eY) l45 c45 k45;have b45:=E45.binds (ps:=["self","count","heaps"]) fun _ _ _ _ _ _=>Lh fun _ _ _=>rfl;have E46:=wo (st:=eZ) l46 c46 k46;have b46:=E46.binds (ps:=["self","count","heaps"]) fun _ _ _ _ _ _=>Lh fun _ _ _=>rfl;have BU:bj≠aR:=fun e=>by rw[e] at XH;exact IB (by decide) (XH.symm.trans X9) X8 l45
  have BV:bj≠aS:=fun e=>by rw[e] at XH;exact IB (by decide) (XH.symm.trans a46) X8 l46
  have A0:aR≠aS:=fun e=>by rw[e] at X9;exact IB (by decide) (X9.symm.trans a46) l45 l46
  have hA:xJ a:=⟨BU,BV,A0⟩
  refine⟨fnOf "law" "law" (fc m7) (dD m7) (az m7) .none aaG aaH aaI aaF XF aaJ,fun s v=>.of_eq rfl,fun base c0 T0 t0 _ _ hB=>?_⟩;have hB0:base.BuiltinsAt mg a.TJ:=by have e:=Ut.symm.trans t0;cases e;exact hB
  have C5:=cm l.prog w base (uj E5 T) b5 E5.kp;have C3:=cm l.prog w base (wU E3 T) b3 E3.kp;have C4:=cm l.prog w base (wV E4 T) b4 E4.kp;have C6:=cm l.prog w base (vo E6 T) b6 E6.kp;have C2:=cm l.prog w base (MS E2 T) b2 E2.kp;have C0:=cm l.prog w base (BI E0 T C5 C3 C4 C6 C2) b0 E0.kp;have C1:=cm l.prog w base (Ey E1 T) b1 E1.kp;have C10:=cm l.prog w base (z9 E10 T) b10 E10.kp;have C7:=cm l.prog w base (IQ E7 T C10) b7 E7.kp;have C11:=cm l.prog w base (Aa E11 T) b11 E11.kp;have C8:=cm l.prog w base (Ab E8 T C11 C7) b8 E8.kp;have C12:=cm l.prog w base (uk E12 T C8) b12 E12.kp;have C9:=cm l.prog w base (GZ E9 T C12 C11) b9 E9.kp;have C15:=cm l.prog w base (yl E15 T C1) b15 E15.kp;have C21:=cm l.prog w base (EA E21 T C2) b21 E21.kp;have C20:=cm l.prog w base (wZ E20 T C21) b20 E20.kp;have C18:=cm l.prog w base (qM E18 T C10) b18 E18.kp;have C16:=cm l.prog w base (vq E16 T C18 C10) b16 E16.kp;have C13:=cm l.prog w base (BK E13 T C15 C20 C16) b13 E13.kp;have C19:=cm l.prog w base (w6 E19 T C21) b19 E19.kp;have C17:=cm l.prog w base (uo E17 T C18 C10) b17 E17.kp;have C14:=cm l.prog w base (qj E14 T C15 C19 C20 C17) b14 E14.kp;have C25:=cm l.prog w base (tF E25 T) b25 E25.kp;have C22:=cm l.prog w base (G0 E22 T C25) b22 E22.kp;have C23:=cm l.prog w base (IV E23 T C22) b23 E23.kp;have C24:=cm l.prog w base (MV E24 T) b24 E24.kp;have C26:=cm l.prog w base (tI E26 T) b26 E26.kp;have C27:=cm l.prog w base (BM E27 T) b27 E27.kp;have C28:=cm l.prog w base (BP E28 T C27) b28 E28.kp;have C29:=cm l.prog w base (Ad E29 T C27 C28 C7) b29 E29.kp;have C31:=cm l.prog w base (xf E31 T C24) b31 E31.kp;have C33:=cm l.prog w base (vx E33 T) b33 E33.kp;have C32:=cm l.prog w base (vy E32 T C23 C26 C33 C22) b32 E32.kp;have C30:=cm l.prog w base (Ae E30 T C31 C32 C28) b30 E30.kp;have C34:=cm l.prog w base (IX E34 T) b34 E34.kp;have C35:=cm l.prog w base (Qe E35 T) b35 E35.kp;have C36:=cm l.prog w base (Xe E36 T) b36 E36.kp;have C37:=cm l.prog w base (Qf E37 T C34 C35 C36) b37 E37.kp;have C38:fW l.prog w K mg base 7 a.mC ["_law_found","_law_due"] (cK K [false,false] (gJ 6)):=G3 E38 T b38 E38.kp  6;have C39:=cm l.prog w base (TK E39 T C35) b39 E39.kp;have C46:=cm l.prog w base (xm E46 T C30) b46 k46;have C43:=cm l.prog w base (yo X8 c43 T hB0 C26) b43 k43;have C45:=cm l.prog w base (xn E45 T C29) b45 k45;have C44:=cm l.prog w base (yq Yc T C46 C43 C45 C27) b44 Yc.kp;have C42:=cm l.prog w base (Ai Yb T C44) b42 Yb.kp;have C40:=cm l.prog w base (TL E40 T C46 C43 C45 C42 C13 C14 C9) b40 E40.kp;exact(Qg E41 T C34 C37 C39 C38 C40 C1 C0).imp fun vs H Q E q=>q (ED a) fun ns hl=>Q8 a hA ns hl
theorem Uu{c T cM fM:Addr}{sl:Array ni}{kV dc:Value}(X:K.In h)(aC:nsIn K mainGlobals "Most"=some (some (.ref cM)))(aM:PySem.W.findIn K (.ref cM) "order"=some (some (.ref fM)))(lM:K.lookup fM=some ⟨oc,od,.func (fnOf "order" "Most.order" (fc bM) (dD bM) (az bM) .none kV dc pm an (.ref c) ct),sl⟩)(tn:lZ K=some (c,T))(hd:PySem.W.codeHdIn K c T=true)(ln:K.lookup T=none)(hP:h.get? T=some (PySem.W.tabObj #[])):∃c T,h.TableAt c T #[]∧K.lookup T=none∧lZ K=some (c,T) :=
  ⟨c,T,(PySem.W.codeHd_of_K X hd).tab hP,ln,tn⟩
theorem walk{l:PySem.W.OpenLaw}{q:Program}{loose:gs}{d:DefRec}{K:Params→PySem.W.Frag}(hn:l.most=some 63)(YY:d.params.defaults=[])(hY:∀(w:World) (h:Heap),YP w h→(K w.params).In h)(hYT:∀(w:World) (h:Heap),YP w h→∃c T,h.TableAt c T #[]∧(K w.params).lookup T=none∧lZ (K w.params)=some (c,T))(F:∀(w:World) (mg:Str→ni) (fa:Addr) (h:Heap),YP w h→(K w.params).In h→h.Ns mainGlobals mg→mg d.name=some (.ref fa)→∃fd:FuncData,(∀(s:Shared) (u:Value),BindsTo s fd ⟨[u],[]⟩ [("_law_script",u)])∧∀(base:Heap) (c T:Addr),lZ (K w.params)=some (c,T)→(K w.params).In base→base.Ns mainGlobals mg→base.BuiltinsAt mg T→cG l.prog w (K w.params) mg base i9 10 fa fd ["_law_script"] (Xb (K w.params))):PySem.W.WalkO q loose XP YP l.row.toRowW d [] (fun f vs=>PySem.call f vs) :=
  L2.P6 (n:=63) (k:=10) (x:="_law_script") (CX:=fun _=>i9) (sp:=fun w=>Xb (K w.params)) hn (by decide) YY ⟨rfl,by decide,by decide⟩ hY hYT F (fun _ H a ns hl hO hT hS=>fun Fn hF=>Tz hO hT hS (hF ns hl)) fun _ _ _ _ _ z=>z
end nR
open PySem PySem.W PyProof.Rows
set_option maxRecDepth 100000 in
set_option maxHeartbeats 0 in
theorem PySem.Challenge.cw_fairbench_k64_whole_order_and_parts_of_h_holds : PySem.Challenge.rw_fairbench_k64_whole_order_and_parts_of_h.Holds := by
  w_on;o_law
  refine holds_open (r:=PySem.Challenge.rw_fairbench_k64_whole_order_and_parts_of_h.row) (q:=HH.qv) (loose:=[]) (Xt:=fun s=>xlAt HH.qv [] s&&recOk (RowW.records PySem.Challenge.rw_fairbench_k64_whole_order_and_parts_of_h.row.toRowW) s)
    (XP:=XL HH.qv []) (Yf:=(kmHook HH.KH HH.Rh HH.Dp [280]).obs) (Ya:=(kmHook HH.KH HH.Rh HH.Dp [280]).val) (YP:=(kmHook HH.KH HH.Rh HH.Dp [280]).says) (N:=6904) HH.Yi (kmHook HH.KH HH.Rh HH.Dp [280]).of (kmHook HH.KH HH.Rh HH.Dp [280]).keeps
    (fun s h=>xl_of s (Bool.and_eq_true_iff.mp h).1) XL.keeps (by rfl) (by rfl) (by rfl)
    (fun s h=>recFacts_of (Bool.and_eq_true_iff.mp h).2) (by rfl)
    (by first|assumption|decide +kernel)
    (by decide +kernel) ⟨rfl,rfl,rfl,rfl,rfl,by decide +kernel⟩ ?hw ?hc
  (case hw=>w_witness2)
  k_fill
  refine nR.walk (l:=PySem.Challenge.rw_fairbench_k64_whole_order_and_parts_of_h) rfl rfl (fun w h Y=>km_in_of Y) ?TT ?F
  case TT =>
    intro w h Y;have KX:=km_in_of Y;refine' nR.Uu KX ?afr ?afs ?aft ?afu ?afv ?afw ?afx
    (case afr|afs|aft=>k_is)
    (case afx=>exact km_tabs_of Y _ cY)
    (case afu|afv|afw=>kernel_rfl)
  case F =>
    intro w mg fa h Y KX G YZ;refine' nR.all_mk KX G YZ (nR.cU ?a0 ?l0 ?c0 ?k0) (nR.cU ?a1 ?l1 ?c1 ?k1) (nR.cU ?a2 ?l2 ?c2 ?k2) (nR.cU ?a3 ?l3 ?c3 ?k3) (nR.cU ?a4 ?l4 ?c4 ?k4) (nR.cU ?a5 ?l5 ?c5 ?k5) (nR.cU ?a6 ?l6 ?c6 ?k6) (nR.cU ?a7 ?l7 ?c7 ?k7) (nR.cU ?a8 ?l8 ?c8 ?k8) (nR.cU ?a9 ?l9 ?c9 ?k9) (nR.cU ?Vd ?l10 ?c10 ?k10) (nR.cU ?a11 ?l11 ?c11 ?k11) (nR.cU ?a12 ?l12 ?c12 ?k12) (nR.cU ?a13 ?l13 ?c13 ?k13) (nR.cU ?a14 ?l14 ?c14 ?k14) (nR.cU ?a15 ?l15 ?c15 ?k15) (nR.cU ?a16 ?l16 ?c16 ?k16) (nR.cU ?a17 ?l17 ?c17 ?k17) (nR.cU ?a18 ?l18 ?c18 ?k18) (nR.cU ?a19 ?l19 ?c19 ?k19) (nR.cU ?a20 ?l20 ?c20 ?k20) (nR.cU ?a21 ?l21 ?c21 ?k21) (nR.cU ?a22 ?l22 ?c22 ?k22) (nR.cU ?a23 ?l23 ?c23 ?k23) (nR.cU ?a24 ?l24 ?c24 ?k24) (nR.cU ?a25 ?l25 ?c25 ?k25) (nR.cU ?a26 ?l26 ?c26 ?k26) (nR.cU ?a27 ?l27 ?c27 ?k27) (nR.cU ?a28 ?l28 ?c28 ?k28) (nR.cU ?a29 ?l29 ?c29 ?k29) (nR.cU ?a30 ?l30 ?c30 ?k30) (nR.cU ?a31 ?l31 ?c31 ?k31) (nR.cU ?a32 ?l32 ?c32 ?k32) (nR.cU ?a33 ?l33 ?c33 ?k33) (nR.cU ?a34 ?l34 ?c34 ?k34) (nR.cU ?a35 ?l35 ?c35 ?k35) (nR.cU ?a36 ?l36 ?c36 ?k36) (nR.cU ?a37 ?l37 ?c37 ?k37) (nR.cU ?a38 ?l38 ?c38 ?k38) (nR.cU ?a39 ?l39 ?c39 ?k39) (nR.cU ?a40 ?l40 ?c40 ?k40) ?a41 ?l41 ?c41 ?k41 (nR.Ve ?a42 ?i42 ?l42 ?c42 ?k42) ?XH ?i43 ?X8 ?c43 ?k43 (nR.Ve ?a44 ?i44 ?l44 ?c44 ?k44) ?X9 ?i45 ?l45 ?c45 ?k45 ?a46 ?i46 ?l46 ?c46 ?k46 ?su ?sv ?qw ?Jy ?Q9 ?qx ?Ra ?Jz ?Rb ?EY ?uA ?Rc ?AH ?Rf ?Rg ?EZ ?JA ?Fb ?Fc ?Fd ?Fe ?Ff ?Fg ?vn ?Fh ?Fi ?AI ?AJ ?AK ?AO ?rQ ?AQ ?AR ?pF ?oo ?AU ?AV ?AW ?AX ?rV ?AY ?AZ ?pG ?oq ?XI ?aaS ?Ut ?XJ
    (case JA|Fb|Fc|a0|l0|c0|k0|a1|l1|c1|k1|a2|l2|c2|k2|a3|l3|c3|k3|a4|l4|c4|k4|a5|l5|c5|k5|a6|l6|c6|k6|a7|l7|c7|k7|a8|l8|c8|k8|a9|l9|c9|k9|Vd|l10|c10|k10|a11|l11|c11|k11|a12|l12|c12|k12|a13|l13|c13|k13|a14|l14|c14|k14|a15|l15|c15|k15|a16|l16|c16|k16|a17|l17|c17|k17|a18|l18|c18|k18|a19|l19|c19|k19|a20|l20|c20|k20|a21|l21|c21|k21|a22|l22|c22|k22|a23|l23|c23|k23|a24|l24|c24|k24|a25|l25|c25|k25|a26|l26|c26|k26|a27|l27|c27|k27|a28|l28|c28|k28|a29|l29|c29|k29|a30|l30|c30|k30|a31|l31|c31|k31|a32|l32|c32|k32|a33|l33|c33|k33|a34|l34|c34|k34|a35|l35|c35|k35|a36|l36|c36|k36|a37|l37|c37|k37|a38|l38|c38|k38|a39|l39|c39|k39|a40|l40|c40|k40|a41|l41|c41|k41|a42|i42|l42|c42|k42|XH|i43|X8|c43|k43|a44|i44|l44|c44|k44|X9|i45|l45|c45|k45|a46|i46|l46|c46|k46|su|sv|qw|Jy|Q9|qx|Ra|Jz|Rb|EY|uA|Rc|AH|Rf|Rg|EZ|Fd|Fe|Ff|Fg|vn|Fh|Fi|AI|AJ|AK|AO|rQ|AQ|AR|pF|oo|AU|AV|AW|AX|rV|AY|AZ|pG|oq=>k_is)
    (case XI=>rfl)
    (case aaS=>exact km_tabs_of Y _ cY)
    (case Ut|XJ=>kernel_rfl)
