import PyProof.Rows.All
import KE.KNestM
import KE.KSortTup
import KE.KSortKey
import KE.KIsAll
import KE.KLam
import KE.KItem
import OpenK.KOwn
import OpenK.KRaise
import KE.KDictSum
import KE.KRevIter
import KE.KRevSl
import PyProof.StrLawsTight
import PyProof.Rows.StrItems
import KE.KPairComp
import KE.KItemsList
import PySem.Challenge.RW_fairbench_k64_whole_order_and_parts_of_h
set_option Elab.async false
set_option linter.all false
set_option maxRecDepth 100000
set_option maxHeartbeats 4000000
noncomputable section
abbrev dq:=List (List Int×Int)
abbrev kH:=List (PySem.Addr×PySem.Obj)
abbrev uF:=List (Int×Option Rat)
abbrev xX:=List (Int×List Int)
abbrev aO:=List Int
abbrev ef:=List PySem.Value
abbrev lr:=PySem.Value→PySem.Shared→Prop
abbrev gq:=List PySem.Str
abbrev mR:=Option PySem.Value
theorem cj {α:Type} {a:α} {l:List α}:(a::l)[0]?=some a:=rfl
theorem cN {α:Type} {a:α} {l:List α} {i:Nat}:(a::l)[i+1]?=l[i]?:=rfl
theorem bJ {α β:Type} {a:α} {f:α→Option β}:(some a).bind f=f a:=rfl
theorem eJ:type_of% @Option.bind_eq_some_iff:=@Option.bind_eq_some_iff
theorem bA:type_of% @PySem.wpAny_bind:=@PySem.wpAny_bind
theorem dN {α β:Type} {a:α} {f:α→β}:(some a).map f=some (f a):=rfl
theorem kz:type_of% @PySem.Heap.get?_push_of_some:=@PySem.Heap.get?_push_of_some
theorem g9:type_of% @List.length_map:=@List.length_map
theorem lJ:type_of% @List.mem_cons_of_mem:=@List.mem_cons_of_mem
theorem bh:type_of% @if_neg:=@if_neg
theorem de:type_of% @List.mem_cons_self:=@List.mem_cons_self
theorem az:type_of% @if_pos:=@if_pos
theorem bj:type_of% @PySem.wpAny_pure:=@PySem.wpAny_pure
theorem bY:type_of% @List.map_cons:=@List.map_cons
theorem gZ:type_of% @Option.map_eq_some_iff:=@Option.map_eq_some_iff
theorem cu:type_of% @Nat.le_refl:=@Nat.le_refl
theorem il:type_of% @PySem.Heap.get?_push_size:=@PySem.Heap.get?_push_size
theorem dg:type_of% @PySem.Heap.lt_size:=@PySem.Heap.lt_size
theorem ic {α:Type} {x a:α} {l:List α}:(x::l).set 0 a=a::l:=rfl
theorem ie {α:Type} {x a:α} {l:List α} {i:Nat}:(x::l).set (i+1) a=x::l.set i a:=rfl
theorem jV:type_of% @List.mem_append_right:=@List.mem_append_right
theorem nD:type_of% @List.getD_eq_getElem?_getD:=@List.getD_eq_getElem?_getD
theorem mV:type_of% @List.getElem?_eq_getElem:=@List.getElem?_eq_getElem
theorem iH:type_of% @List.all_eq_true:=@List.all_eq_true
theorem e8:type_of% @List.map_map:=@List.map_map
theorem gw:type_of% @List.mem_cons:=@List.mem_cons
theorem kI:type_of% @List.length_append:=@List.length_append
theorem fT:type_of% @Nat.ne_of_lt:=@Nat.ne_of_lt
theorem kC:type_of% @List.size_toArray:=@List.size_toArray
theorem lK:type_of% @Bool.false_ne_true:=@Bool.false_ne_true
theorem jw:type_of% @List.mem_filter:=@List.mem_filter
theorem oo:type_of% @Array.length_toList:=@Array.length_toList
theorem lL:type_of% @decide_eq_false:=@decide_eq_false
theorem mW:type_of% @List.length_cons:=@List.length_cons
theorem oN:type_of% @Nat.lt_of_lt_of_le:=@Nat.lt_of_lt_of_le
theorem i9:type_of% @List.mem_map:=@List.mem_map
theorem ja:type_of% @List.map_nil:=@List.map_nil
theorem mX:type_of% @List.mem_append:=@List.mem_append
theorem mY:type_of% @List.mem_range:=@List.mem_range
theorem oq:type_of% @Option.some.inj:=@Option.some.inj
theorem qF:type_of% @Int.lt_of_lt_of_le:=@Int.lt_of_lt_of_le
theorem v9:type_of% @List.getElem?_eq_some_iff:=@List.getElem?_eq_some_iff
theorem nE:type_of% @decide_eq_true:=@decide_eq_true
theorem mZ:type_of% @List.all_cons:=@List.all_cons
theorem qG:type_of% @List.getElem?_map:=@List.getElem?_map
theorem kD:type_of% @PySem.sizeLine_eq:=@PySem.sizeLine_eq
theorem t8:type_of% @List.map_congr_left:=@List.map_congr_left
theorem g6:type_of% @congrArg:=@congrArg
theorem ou:type_of% @Int.le_of_lt:=@Int.le_of_lt
theorem tf:type_of% @Option.getD_some:=@Option.getD_some
theorem gx:type_of% @if_true:=@if_true
theorem A8:type_of% @Array.getElem?_eq_getElem:=@Array.getElem?_eq_getElem
theorem t9:type_of% @Bool.and_eq_true:=@Bool.and_eq_true
theorem wa:type_of% @Int.lt_of_le_of_lt:=@Int.lt_of_le_of_lt
theorem wc:type_of% @PySem.Heap.SameBut.update:=@PySem.Heap.SameBut.update
theorem yJ:type_of% @List.contains_iff_mem:=@List.contains_iff_mem
theorem ti:type_of% @PySem.wpAny_ite_split:=@PySem.wpAny_ite_split
theorem pU:type_of% @Nat.le_trans:=@Nat.le_trans
theorem De:type_of% @Array.perm_iff_toList_perm:=@Array.perm_iff_toList_perm
theorem wd:type_of% @PySem.wpAny_Call_Name_kw:=@PySem.wpAny_Call_Name_kw
theorem uG:type_of% @List.find?_cons:=@List.find?_cons
theorem uH:type_of% @List.append_nil:=@List.append_nil
theorem xY:type_of% @of_decide_eq_true:=@of_decide_eq_true
theorem Ft:type_of% @PyProof.Rows.callWith_type1:=@PyProof.Rows.callWith_type1
theorem A9:type_of% @List.mem_append_left:=@List.mem_append_left
theorem Fu:type_of% @List.getElem?_append_right:=@List.getElem?_append_right
theorem yK:type_of% @Bool.false_eq_true:=@Bool.false_eq_true
theorem wg:type_of% @List.map_append:=@List.map_append
theorem Ba:type_of% @PySem.Heap.get?_update_self:=@PySem.Heap.get?_update_self
theorem qQ:type_of% @Nat.zero_le:=@Nat.zero_le
theorem Df:type_of% @List.getElem?_eq_none:=@List.getElem?_eq_none
theorem xZ:type_of% @PySem.W.kia_one:=@PySem.W.kia_one
theorem x4:type_of% @List.foldl_cons:=@List.foldl_cons
theorem x5:type_of% @PySem.wpAny_call_entry:=@PySem.wpAny_call_entry
theorem pV:type_of% @PySem.wpAny_mono:=@PySem.wpAny_mono
theorem wj:type_of% @List.sum_cons:=@List.sum_cons
theorem Bb:type_of% @decide_eq_true_eq:=@decide_eq_true_eq
theorem yL:type_of% @List.nodup_cons:=@List.nodup_cons
theorem wm:type_of% @PySem.wpAny_holding:=@PySem.wpAny_holding
theorem wo:type_of% @PySem.Paired.length:=@PySem.Paired.length
theorem pD:type_of% @if_false:=@if_false
theorem Dg:type_of% @List.pairwise_map:=@List.pairwise_map
theorem Dh:type_of% @List.append_assoc:=@List.append_assoc
theorem Bc:type_of% @Int.emod_nonneg:=@Int.emod_nonneg
theorem Be:type_of% @Bool.eq_iff_iff:=@Bool.eq_iff_iff
theorem Fv:type_of% @PySem.builtinLookup_eq_fast:=@PySem.builtinLookup_eq_fast
theorem Ho:type_of% @Rat.intCast_le_intCast:=@Rat.intCast_le_intCast
theorem Hq:type_of% @List.take_of_length_le:=@List.take_of_length_le
theorem Di:type_of% @PySem.Calls.spliced_cons:=@PySem.Calls.spliced_cons
theorem Dj:type_of% @List.length_take:=@List.length_take
theorem Dk:type_of% @List.filter_cons:=@List.filter_cons
theorem Dl:type_of% @List.any_eq_true:=@List.any_eq_true
theorem Fw:type_of% @PySem.F.called_set:=@PySem.F.called_set
theorem Fx:type_of% @Nat.lt_of_le_of_lt:=@Nat.lt_of_le_of_lt
theorem Fy:type_of% @Int.emod_lt_of_pos:=@Int.emod_lt_of_pos
theorem Dm:type_of% @Rat.intCast_mul:=@Rat.intCast_mul
open PySem.W (instObj methodObj lookIn plainGet isFn plainGet_of makesIn emptyDict makes_of hasDictIn plainOver keepIn kitOne kia_one kitx_list kitx_dict callWith_K cellsFrom_some fnOf codeIn oi_run nsIn mg_of km_in_of km_tabs_of)
variable {ks us vs:List PySem.Value} {C a fn:PySem.Addr} {b bench ms ns:aO} {ct oc pm u:PySem.Value} {P:PySem.Program} {w:PySem.World} {h h':PySem.Heap} {i j k n t':Nat} {q qual x:PySem.Str} {e tg:PySem.Expr} {N:List PySem.Str} {A:PySem.Around} {E Q:PySem.Value→PySem.Shared→Prop} {s:PySem.Shared} {pins:List (PySem.Addr×PySem.Obj)} {f:PySem.Value→PySem.Value→PySem.Sem PySem.Value} {p2 pos pos' px:PySem.Pos} {op:PySem.CmpOp} {c:Int} {es:List (aO×aO)} {l:List (Int×PySem.Value)} {p:Array Nat} {ex fp:List PySem.Addr} {pl:PySem.Sem Bool} {mg:PySem.Str→Option PySem.Value} {fd:PySem.FuncData} {hs ps rs:dq} {scope:PySem.Scope} {params:PySem.Arguments} {an od:Option PySem.Addr} {Hm:Array (Option PySem.Value)} {XP:(PySem.Str→Option PySem.Value)→PySem.Heap→Prop} {YP:PySem.World→PySem.Heap→Prop} {S fi:List Nat} {κ:PyProof.Rows.SortKind} {W:Array Nat→Prop} {ds:xX} {led:Bool} {pend:Array (Nat×Nat×Nat)} {ts:List aO} {rest rows:uF} {L:Option Rat} {names:Int→aO}
namespace L2
open PySem
def inClass(s:Stmt)(j:Nat):Stmt:=match s with
  |.ClassDef _ _ _ body _ _ _ _ _ _ _=>body.getD j (.Pass ⟨0,0,0,0⟩)
  |_=>.Pass ⟨0,0,0,0⟩
def e9(s:Stmt):Arguments:=match s with
  |.FunctionDef _ a _ _ _ _ _ _ _ _=>a
  |_=>{ posonlyargs:=[],args:=[],vararg:=none,kwonlyargs:=[],kw_defaults:=[],kwarg:=none,defaults:=[] }
def dD(s:Stmt):List Stmt:=match s with
  |.FunctionDef _ _ b _ _ _ _ _ _ _=>b
  |_=>[]
def ay(s:Stmt):Scope:=match s with
  |.FunctionDef _ _ _ _ _ _ sc _ _ _=>sc
  |_=>{ kind:=.function,names:=[],isGenerator:=false,isCoroutine:=false }
end L2
namespace HH
open PySem PySem.W PyProof.Rows L2
def ni(i:Nat):Stmt:=PySem.Challenge.pw_fairbench_k64_whole_order_and_parts_of_h.main.body.getD i (.Pass ⟨0,0,0,0⟩)
abbrev sH(x:String)(t:Nat):Value:=.str (Str.ofString x) t
abbrev rH(a:Nat):Value:=.ref a
abbrev jH(i:Int)(t:Nat):Value:=.int i t
def eH(P:Params)(x:String)(t:Nat)(v:Value):DictEntry:=⟨PyData.keyHash P (Str.ofString x),.str (Str.ofString x) t,v⟩
def tH(l:Array Value):Obj:={ cls:=.type "tuple",data:=.seq l }
def cH(l:Array Value):Obj:={ cls:=.type "code",data:=.fields l }
def dH(l:Array DictEntry)(n:Nat):Obj:={ cls:=.type "dict",data:=.dict l n }
def fH(x q:String)(s:Stmt)(m:String)(t c:Nat):Obj:={ cls:=.type "function",data:=.func { name:=x,qualname:=q,params:=e9 s,body:=.stmts (dD s),scope:=ay s,globals:=3,closure:=[],defaults:=.none,kwdefaults:=.none,pyModule:=.str (Str.ofString m) t,code:=.ref c } }
def KH:Params→PySem.W.Frag:=fun P=>(nat_lit 2,{ cls:=.none,data:=.dict #[] }) ::
(nat_lit 3,dH #[eH P "__name__" 165 (sH "law_fairbench_k64_whole_order_and_parts_of_h" 702),eH P "__doc__" 166 .none,eH P "__package__" 167 .none,eH P "__loader__" 168 (.builtin "__main__.__loader__#opaque"),eH P "__spec__" 169 .none,eH P "__annotations__" 170 (rH 6),eH P "__builtins__" 171 (rH 4),eH P "__file__" 173 (sH "/claim/cut.py" 172),eH P "__cached__" 174 .none,eH P "BenchError" 206 (rH 24),eH P "NoCount" 222 (rH 37),eH P "NoName" 238 (rH 49),eH P "NoHeap" 254 (rH 61),eH P "NoPlaces" 270 (rH 73),eH P "MOST_NAMES" 274 (jH 6 273),eH P "heaps_of" 280 (rH 80),eH P "ballots" 286 (rH 85),eH P "rank" 293 (rH 92),eH P "check_count" 300 (rH 99),eH P "check_names" 311 (rH 106),eH P "check_ballots" 317 (rH 111),eH P "put_together" 328 (rH 118),eH P "SIXTIETHS" 338 (rH 119),eH P "worth" 344 (rH 124),eH P "exchanges" 358 (rH 131),eH P "mended" 370 (rH 138),eH P "in_common" 376 (rH 143),eH P "exchanged" 382 (rH 148),eH P "best_exchange" 394 (rH 155),eH P "left_out" 406 (rH 162),eH P "left_out_together" 417 (rH 169),eH P "are_enough" 427 (rH 176),eH P "with_too_few" 433 (rH 181),eH P "with_none_but" 439 (rH 186),eH P "heaps_naming_all" 445 (rH 191),eH P "largest_few" 451 (rH 196),eH P "sets_to_ask" 458 (rH 203),eH P "sets_of" 464 (rH 208),eH P "lowest" 475 (rH 215),eH P "added" 483 (rH 222),eH P "less" 491 (rH 229),eH P "common_divisor" 500 (rH 236),eH P "Way" 551 (rH 267),eH P "Most" 573 (rH 286),eH P "Turns" 599 (rH 305),eH P "Loads" 625 (rH 324),eH P "ballots_naming" 631 (rH 331),eH P "names_of" 637 (rH 336),eH P "unseated" 643 (rH 341),eH P "next_turn" 656 (rH 348),eH P "next_load" 668 (rH 355),eH P "comes_ahead" 676 (rH 362),eH P "load_of_name" 690 (rH 369),eH P "load_of_heap" 701 (rH 376),eH P "_law_cell_at" 711 (rH 383),eH P "_law_mixed" 720 (rH 390),eH P "_law_set" 726 (rH 395),eH P "_law_heaps" 732 (rH 400),eH P "_law_same" 741 (rH 407),eH P "_law_rows" 755 (rH 414),eH P "_law_told" 761 (rH 419),eH P "law" 767 (rH 424)] 62) ::
(nat_lit 15,tH #[.type "ValueError"]) ::
(nat_lit 22,tH #[]) ::
(nat_lit 23,dH #[eH P "__module__" 196 (sH "fairbench.errors" 187),eH P "__firstlineno__" 200 (jH 2 199),eH P "__static_attributes__" 201 (rH 22),eH P "__weakref__" 203 (rH 25),eH P "__doc__" 204 .none] 3) ::
(nat_lit 24,{ cls:=.type "type",data:=.cls { name:="BenchError",bases:=[.type "ValueError"],mro:=[rH 24,.type "ValueError",.type "Exception",.type "BaseException",.type "object"],ns:=23,qualname:="BenchError",subclasses:=[rH 37,rH 49,rH 61,rH 73] },slots:=#[some (rH 15),none,some (sH "BenchError" 189),some (sH "BenchError" 197),some (.builtin "ValueError.__new__"),some (.bool true)] }) ::
(nat_lit 25,{ cls:=.type "getset_descriptor",data:=.fields #[sH "__weakref__" 202,rH 24,.builtin "ExceptionGroup.__weakref__",.none] }) ::
(nat_lit 28,tH #[rH 24]) ::
(nat_lit 35,tH #[]) ::
(nat_lit 36,dH #[eH P "__module__" 214 (sH "fairbench.errors" 187),eH P "__firstlineno__" 218 (jH 4 217),eH P "__static_attributes__" 219 (rH 35),eH P "__doc__" 220 .none] 2) ::
(nat_lit 37,{ cls:=.type "type",data:=.cls { name:="NoCount",bases:=[rH 24],mro:=[rH 37,rH 24,.type "ValueError",.type "Exception",.type "BaseException",.type "object"],ns:=36,qualname:="NoCount" },slots:=#[some (rH 28),none,some (sH "NoCount" 207),some (sH "NoCount" 215),some (.builtin "ValueError.__new__"),some (.bool true)] }) ::
(nat_lit 40,tH #[rH 24]) ::
(nat_lit 47,tH #[]) ::
(nat_lit 48,dH #[eH P "__module__" 230 (sH "fairbench.errors" 187),eH P "__firstlineno__" 234 (jH 6 233),eH P "__static_attributes__" 235 (rH 47),eH P "__doc__" 236 .none] 2) ::
(nat_lit 49,{ cls:=.type "type",data:=.cls { name:="NoName",bases:=[rH 24],mro:=[rH 49,rH 24,.type "ValueError",.type "Exception",.type "BaseException",.type "object"],ns:=48,qualname:="NoName" },slots:=#[some (rH 40),none,some (sH "NoName" 223),some (sH "NoName" 231),some (.builtin "ValueError.__new__"),some (.bool true)] }) ::
(nat_lit 52,tH #[rH 24]) ::
(nat_lit 59,tH #[]) ::
(nat_lit 60,dH #[eH P "__module__" 246 (sH "fairbench.errors" 187),eH P "__firstlineno__" 250 (jH 8 249),eH P "__static_attributes__" 251 (rH 59),eH P "__doc__" 252 .none] 2) ::
(nat_lit 61,{ cls:=.type "type",data:=.cls { name:="NoHeap",bases:=[rH 24],mro:=[rH 61,rH 24,.type "ValueError",.type "Exception",.type "BaseException",.type "object"],ns:=60,qualname:="NoHeap" },slots:=#[some (rH 52),none,some (sH "NoHeap" 239),some (sH "NoHeap" 247),some (.builtin "ValueError.__new__"),some (.bool true)] }) ::
(nat_lit 64,tH #[rH 24]) ::
(nat_lit 71,tH #[]) ::
(nat_lit 72,dH #[eH P "__module__" 262 (sH "fairbench.errors" 187),eH P "__firstlineno__" 266 (jH 10 265),eH P "__static_attributes__" 267 (rH 71),eH P "__doc__" 268 .none] 2) ::
(nat_lit 73,{ cls:=.type "type",data:=.cls { name:="NoPlaces",bases:=[rH 24],mro:=[rH 73,rH 24,.type "ValueError",.type "Exception",.type "BaseException",.type "object"],ns:=72,qualname:="NoPlaces" },slots:=#[some (rH 64),none,some (sH "NoPlaces" 255),some (sH "NoPlaces" 263),some (.builtin "ValueError.__new__"),some (.bool true)] }) ::
(nat_lit 76,tH #[]) ::
(nat_lit 79,cH #[sH "heaps_of" 275,sH "heaps_of" 276,sH "/claim/cut.py" 277,jH 14 0,jH 2 0,jH 0 0,jH 0 0,jH 3 0,rH 76,.bool true,jH 181 0,rH 77,.none,.none,.none,rH 78,jH 278 0,jH 14 0,sH "/claim/cut.py" 279]) ::
(nat_lit 80,fH "heaps_of" "heaps_of" (ni 8) "fairbench.heaps" 271 79) ::
(nat_lit 81,tH #[]) ::
(nat_lit 84,cH #[sH "ballots" 281,sH "ballots" 282,sH "/claim/cut.py" 283,jH 20 0,jH 1 0,jH 0 0,jH 0 0,jH 3 0,rH 81,.bool true,jH 181 0,rH 82,.none,.none,.none,rH 83,jH 284 0,jH 20 0,sH "/claim/cut.py" 285]) ::
(nat_lit 85,fH "ballots" "ballots" (ni 9) "fairbench.heaps" 271 84) ::
(nat_lit 86,tH #[]) ::
(nat_lit 88,tH #[sH "names" 290]) ::
(nat_lit 89,tH #[]) ::
(nat_lit 91,cH #[sH "rank" 287,sH "rank" 288,sH "/claim/cut.py" 289,jH 22 0,jH 1 0,jH 0 0,jH 0 0,jH 3 0,rH 86,.bool true,jH 181 0,rH 87,.none,rH 88,rH 89,rH 90,jH 291 0,jH 22 0,sH "/claim/cut.py" 292]) ::
(nat_lit 92,fH "rank" "rank" (ni 10) "fairbench.heaps" 271 91) ::
(nat_lit 93,tH #[]) ::
(nat_lit 95,tH #[sH "count" 297]) ::
(nat_lit 96,tH #[]) ::
(nat_lit 98,cH #[sH "check_count" 294,sH "check_count" 295,sH "/claim/cut.py" 296,jH 24 0,jH 1 0,jH 0 0,jH 0 0,jH 3 0,rH 93,.bool true,jH 181 0,rH 94,.none,rH 95,rH 96,rH 97,jH 298 0,jH 24 0,sH "/claim/cut.py" 299]) ::
(nat_lit 99,fH "check_count" "check_count" (ni 11) "fairbench.heaps" 271 98) ::
(nat_lit 100,tH #[]) ::
(nat_lit 102,tH #[sH "count" 304,sH "rows" 305,sH "names" 306,sH "many" 307,sH "name" 308]) ::
(nat_lit 103,tH #[]) ::
(nat_lit 105,cH #[sH "check_names" 301,sH "check_names" 302,sH "/claim/cut.py" 303,jH 27 0,jH 2 0,jH 0 0,jH 0 0,jH 3 0,rH 100,.bool true,jH 181 0,rH 101,.none,rH 102,rH 103,rH 104,jH 309 0,jH 27 0,sH "/claim/cut.py" 310]) ::
(nat_lit 106,fH "check_names" "check_names" (ni 12) "fairbench.heaps" 271 105) ::
(nat_lit 107,tH #[]) ::
(nat_lit 110,cH #[sH "check_ballots" 312,sH "check_ballots" 313,sH "/claim/cut.py" 314,jH 32 0,jH 1 0,jH 0 0,jH 0 0,jH 3 0,rH 107,.bool true,jH 181 0,rH 108,.none,.none,.none,rH 109,jH 315 0,jH 32 0,sH "/claim/cut.py" 316]) ::
(nat_lit 111,fH "check_ballots" "check_ballots" (ni 13) "fairbench.heaps" 271 110) ::
(nat_lit 112,tH #[]) ::
(nat_lit 114,tH #[sH "rows" 321,sH "together" 322,sH "row" 323,sH "many" 324,sH "names" 325]) ::
(nat_lit 115,tH #[]) ::
(nat_lit 117,cH #[sH "put_together" 318,sH "put_together" 319,sH "/claim/cut.py" 320,jH 38 0,jH 1 0,jH 0 0,jH 0 0,jH 3 0,rH 112,.bool true,jH 181 0,rH 113,.none,rH 114,rH 115,rH 116,jH 326 0,jH 38 0,sH "/claim/cut.py" 327]) ::
(nat_lit 118,fH "put_together" "put_together" (ni 14) "fairbench.heaps" 271 117) ::
(nat_lit 119,tH #[jH 0 331,jH 60 332,jH 90 333,jH 110 334,jH 125 335,jH 137 336,jH 147 337]) ::
(nat_lit 120,tH #[]) ::
(nat_lit 123,cH #[sH "worth" 339,sH "worth" 340,sH "/claim/cut.py" 341,jH 47 0,jH 2 0,jH 0 0,jH 0 0,jH 3 0,rH 120,.bool true,jH 181 0,rH 121,.none,.none,.none,rH 122,jH 342 0,jH 47 0,sH "/claim/cut.py" 343]) ::
(nat_lit 124,fH "worth" "worth" (ni 17) "fairbench.worth" 329 123) ::
(nat_lit 125,tH #[]) ::
(nat_lit 127,tH #[sH "count" 348,sH "heaps" 349,sH "bench" 350,sH "before" 351,sH "told" 352,sH "leaving" 353,sH "coming" 354,sH "after" 355]) ::
(nat_lit 128,tH #[]) ::
(nat_lit 130,cH #[sH "exchanges" 345,sH "exchanges" 346,sH "/claim/cut.py" 347,jH 49 0,jH 3 0,jH 0 0,jH 0 0,jH 3 0,rH 125,.bool true,jH 181 0,rH 126,.none,rH 127,rH 128,rH 129,jH 356 0,jH 49 0,sH "/claim/cut.py" 357]) ::
(nat_lit 131,fH "exchanges" "exchanges" (ni 18) "fairbench.worth" 329 130) ::
(nat_lit 132,tH #[]) ::
(nat_lit 134,tH #[sH "count" 362,sH "heaps" 363,sH "bench" 364,sH "made" 365,sH "left" 366,sH "best" 367]) ::
(nat_lit 135,tH #[]) ::
(nat_lit 137,cH #[sH "mended" 359,sH "mended" 360,sH "/claim/cut.py" 361,jH 58 0,jH 3 0,jH 0 0,jH 0 0,jH 3 0,rH 132,.bool true,jH 181 0,rH 133,.none,rH 134,rH 135,rH 136,jH 368 0,jH 58 0,sH "/claim/cut.py" 369]) ::
(nat_lit 138,fH "mended" "mended" (ni 19) "fairbench.worth" 329 137) ::
(nat_lit 139,tH #[]) ::
(nat_lit 142,cH #[sH "in_common" 371,sH "in_common" 372,sH "/claim/cut.py" 373,jH 67 0,jH 2 0,jH 0 0,jH 0 0,jH 3 0,rH 139,.bool true,jH 181 0,rH 140,.none,.none,.none,rH 141,jH 374 0,jH 67 0,sH "/claim/cut.py" 375]) ::
(nat_lit 143,fH "in_common" "in_common" (ni 20) "fairbench.worth" 329 142) ::
(nat_lit 144,tH #[]) ::
(nat_lit 147,cH #[sH "exchanged" 377,sH "exchanged" 378,sH "/claim/cut.py" 379,jH 69 0,jH 3 0,jH 0 0,jH 0 0,jH 3 0,rH 144,.bool true,jH 181 0,rH 145,.none,.none,.none,rH 146,jH 380 0,jH 69 0,sH "/claim/cut.py" 381]) ::
(nat_lit 148,fH "exchanged" "exchanged" (ni 21) "fairbench.worth" 329 147) ::
(nat_lit 149,tH #[]) ::
(nat_lit 151,tH #[sH "count" 386,sH "heaps" 387,sH "bench" 388,sH "best" 389,sH "most" 390,sH "exchange" 391]) ::
(nat_lit 152,tH #[]) ::
(nat_lit 154,cH #[sH "best_exchange" 383,sH "best_exchange" 384,sH "/claim/cut.py" 385,jH 72 0,jH 3 0,jH 0 0,jH 0 0,jH 3 0,rH 149,.bool true,jH 181 0,rH 150,.none,rH 151,rH 152,rH 153,jH 392 0,jH 72 0,sH "/claim/cut.py" 393]) ::
(nat_lit 155,fH "best_exchange" "best_exchange" (ni 22) "fairbench.worth" 329 154) ::
(nat_lit 156,tH #[]) ::
(nat_lit 158,tH #[sH "count" 400,sH "heaps" 401,sH "bench" 402,sH "names" 403]) ::
(nat_lit 159,tH #[]) ::
(nat_lit 161,cH #[sH "left_out" 397,sH "left_out" 398,sH "/claim/cut.py" 399,jH 81 0,jH 3 0,jH 0 0,jH 0 0,jH 3 0,rH 156,.bool true,jH 181 0,rH 157,.none,rH 158,rH 159,rH 160,jH 404 0,jH 81 0,sH "/claim/cut.py" 405]) ::
(nat_lit 162,fH "left_out" "left_out" (ni 24) "fairbench.looks" 395 161) ::
(nat_lit 163,tH #[]) ::
(nat_lit 165,tH #[sH "count" 410,sH "heaps" 411,sH "bench" 412,sH "names" 413,sH "few" 414]) ::
(nat_lit 166,tH #[]) ::
(nat_lit 168,cH #[sH "left_out_together" 407,sH "left_out_together" 408,sH "/claim/cut.py" 409,jH 86 0,jH 3 0,jH 0 0,jH 0 0,jH 3 0,rH 163,.bool true,jH 181 0,rH 164,.none,rH 165,rH 166,rH 167,jH 415 0,jH 86 0,sH "/claim/cut.py" 416]) ::
(nat_lit 169,fH "left_out_together" "left_out_together" (ni 25) "fairbench.looks" 395 168) ::
(nat_lit 170,tH #[]) ::
(nat_lit 172,tH #[sH "some" 421,sH "heaps" 422,sH "bench" 423,sH "names" 424]) ::
(nat_lit 173,tH #[]) ::
(nat_lit 175,cH #[sH "are_enough" 418,sH "are_enough" 419,sH "/claim/cut.py" 420,jH 92 0,jH 4 0,jH 0 0,jH 0 0,jH 3 0,rH 170,.bool true,jH 181 0,rH 171,.none,rH 172,rH 173,rH 174,jH 425 0,jH 92 0,sH "/claim/cut.py" 426]) ::
(nat_lit 176,fH "are_enough" "are_enough" (ni 26) "fairbench.looks" 395 175) ::
(nat_lit 177,tH #[]) ::
(nat_lit 180,cH #[sH "with_too_few" 428,sH "with_too_few" 429,sH "/claim/cut.py" 430,jH 94 0,jH 3 0,jH 0 0,jH 0 0,jH 3 0,rH 177,.bool true,jH 181 0,rH 178,.none,.none,.none,rH 179,jH 431 0,jH 94 0,sH "/claim/cut.py" 432]) ::
(nat_lit 181,fH "with_too_few" "with_too_few" (ni 27) "fairbench.looks" 395 180) ::
(nat_lit 182,tH #[]) ::
(nat_lit 185,cH #[sH "with_none_but" 434,sH "with_none_but" 435,sH "/claim/cut.py" 436,jH 97 0,jH 4 0,jH 0 0,jH 0 0,jH 3 0,rH 182,.bool true,jH 181 0,rH 183,.none,.none,.none,rH 184,jH 437 0,jH 97 0,sH "/claim/cut.py" 438]) ::
(nat_lit 186,fH "with_none_but" "with_none_but" (ni 28) "fairbench.looks" 395 185) ::
(nat_lit 187,tH #[]) ::
(nat_lit 190,cH #[sH "heaps_naming_all" 440,sH "heaps_naming_all" 441,sH "/claim/cut.py" 442,jH 100 0,jH 2 0,jH 0 0,jH 0 0,jH 3 0,rH 187,.bool true,jH 181 0,rH 188,.none,.none,.none,rH 189,jH 443 0,jH 100 0,sH "/claim/cut.py" 444]) ::
(nat_lit 191,fH "heaps_naming_all" "heaps_naming_all" (ni 29) "fairbench.looks" 395 190) ::
(nat_lit 192,tH #[]) ::
(nat_lit 195,cH #[sH "largest_few" 446,sH "largest_few" 447,sH "/claim/cut.py" 448,jH 102 0,jH 2 0,jH 0 0,jH 0 0,jH 3 0,rH 192,.bool true,jH 181 0,rH 193,.none,.none,.none,rH 194,jH 449 0,jH 102 0,sH "/claim/cut.py" 450]) ::
(nat_lit 196,fH "largest_few" "largest_few" (ni 30) "fairbench.looks" 395 195) ::
(nat_lit 197,tH #[]) ::
(nat_lit 199,tH #[sH "count" 455]) ::
(nat_lit 200,tH #[]) ::
(nat_lit 202,cH #[sH "sets_to_ask" 452,sH "sets_to_ask" 453,sH "/claim/cut.py" 454,jH 105 0,jH 1 0,jH 0 0,jH 0 0,jH 3 0,rH 197,.bool true,jH 181 0,rH 198,.none,rH 199,rH 200,rH 201,jH 456 0,jH 105 0,sH "/claim/cut.py" 457]) ::
(nat_lit 203,fH "sets_to_ask" "sets_to_ask" (ni 31) "fairbench.looks" 395 202) ::
(nat_lit 204,tH #[]) ::
(nat_lit 207,cH #[sH "sets_of" 459,sH "sets_of" 460,sH "/claim/cut.py" 461,jH 107 0,jH 1 0,jH 0 0,jH 0 0,jH 3 0,rH 204,.bool true,jH 181 0,rH 205,.none,.none,.none,rH 206,jH 462 0,jH 107 0,sH "/claim/cut.py" 463]) ::
(nat_lit 208,fH "sets_of" "sets_of" (ni 32) "fairbench.looks" 395 207) ::
(nat_lit 209,tH #[]) ::
(nat_lit 211,tH #[sH "top" 470,sH "bottom" 471,sH "divisor" 472]) ::
(nat_lit 212,tH #[]) ::
(nat_lit 214,cH #[sH "lowest" 467,sH "lowest" 468,sH "/claim/cut.py" 469,jH 113 0,jH 2 0,jH 0 0,jH 0 0,jH 3 0,rH 209,.bool true,jH 181 0,rH 210,.none,rH 211,rH 212,rH 213,jH 473 0,jH 113 0,sH "/claim/cut.py" 474]) ::
(nat_lit 215,fH "lowest" "lowest" (ni 34) "fairbench.shares" 465 214) ::
(nat_lit 216,tH #[]) ::
(nat_lit 218,tH #[sH "one" 479,sH "two" 480]) ::
(nat_lit 219,tH #[]) ::
(nat_lit 221,cH #[sH "added" 476,sH "added" 477,sH "/claim/cut.py" 478,jH 116 0,jH 2 0,jH 0 0,jH 0 0,jH 3 0,rH 216,.bool true,jH 181 0,rH 217,.none,rH 218,rH 219,rH 220,jH 481 0,jH 116 0,sH "/claim/cut.py" 482]) ::
(nat_lit 222,fH "added" "added" (ni 35) "fairbench.shares" 465 221) ::
(nat_lit 223,tH #[]) ::
(nat_lit 225,tH #[sH "one" 487,sH "two" 488]) ::
(nat_lit 226,tH #[]) ::
(nat_lit 228,cH #[sH "less" 484,sH "less" 485,sH "/claim/cut.py" 486,jH 118 0,jH 2 0,jH 0 0,jH 0 0,jH 3 0,rH 223,.bool true,jH 181 0,rH 224,.none,rH 225,rH 226,rH 227,jH 489 0,jH 118 0,sH "/claim/cut.py" 490]) ::
(nat_lit 229,fH "less" "less" (ni 36) "fairbench.shares" 465 228) ::
(nat_lit 230,tH #[]) ::
(nat_lit 232,tH #[sH "one" 495,sH "two" 496,sH "rest" 497]) ::
(nat_lit 233,tH #[]) ::
(nat_lit 235,cH #[sH "common_divisor" 492,sH "common_divisor" 493,sH "/claim/cut.py" 494,jH 120 0,jH 2 0,jH 0 0,jH 0 0,jH 3 0,rH 230,.bool true,jH 181 0,rH 231,.none,rH 232,rH 233,rH 234,jH 498 0,jH 120 0,sH "/claim/cut.py" 499]) ::
(nat_lit 236,fH "common_divisor" "common_divisor" (ni 37) "fairbench.shares" 465 235) ::
(nat_lit 244,tH #[]) ::
(nat_lit 246,tH #[sH "self" 518,sH "count" 519,sH "heaps" 520]) ::
(nat_lit 247,tH #[]) ::
(nat_lit 249,cH #[sH "order" 515,sH "Way.order" 516,sH "/claim/cut.py" 517,jH 129 0,jH 3 0,jH 0 0,jH 0 0,jH 3 0,rH 244,.bool true,jH 181 0,rH 245,.none,rH 246,rH 247,rH 248,jH 521 0,jH 129 0,sH "/claim/cut.py" 522]) ::
(nat_lit 250,fH "order" "Way.order" (inClass (ni 39) 0) "fairbench.ways" 501 249) ::
(nat_lit 251,tH #[]) ::
(nat_lit 253,tH #[sH "self" 527,sH "count" 528,sH "heaps" 529,sH "places" 530]) ::
(nat_lit 254,tH #[]) ::
(nat_lit 256,cH #[sH "seated" 524,sH "Way.seated" 525,sH "/claim/cut.py" 526,jH 132 0,jH 4 0,jH 0 0,jH 0 0,jH 3 0,rH 251,.bool true,jH 181 0,rH 252,.none,rH 253,rH 254,rH 255,jH 531 0,jH 132 0,sH "/claim/cut.py" 532]) ::
(nat_lit 257,fH "seated" "Way.seated" (inClass (ni 39) 1) "fairbench.ways" 501 256) ::
(nat_lit 258,tH #[]) ::
(nat_lit 260,tH #[sH "self" 537,sH "count" 538,sH "heaps" 539,sH "places" 540]) ::
(nat_lit 261,tH #[]) ::
(nat_lit 263,cH #[sH "bench" 534,sH "Way.bench" 535,sH "/claim/cut.py" 536,jH 137 0,jH 4 0,jH 0 0,jH 0 0,jH 3 0,rH 258,.bool true,jH 181 0,rH 259,.none,rH 260,rH 261,rH 262,jH 541 0,jH 137 0,sH "/claim/cut.py" 542]) ::
(nat_lit 264,fH "bench" "Way.bench" (inClass (ni 39) 2) "fairbench.ways" 501 263) ::
(nat_lit 265,tH #[]) ::
(nat_lit 266,dH #[eH P "__module__" 510 (sH "fairbench.ways" 501),eH P "__firstlineno__" 514 (jH 127 513),eH P "order" 523 (rH 250),eH P "seated" 533 (rH 257),eH P "bench" 543 (rH 264),eH P "__static_attributes__" 544 (rH 265),eH P "__dict__" 546 (rH 268),eH P "__weakref__" 548 (rH 269),eH P "__doc__" 549 .none] 4) ::
(nat_lit 267,{ cls:=.type "type",data:=.cls { name:="Way",bases:=[.type "object"],mro:=[rH 267,.type "object"],ns:=266,qualname:="Way",subclasses:=[rH 286,rH 305,rH 324] },slots:=#[none,none,some (sH "Way" 503),some (sH "Way" 511),some (.builtin "object.__new__"),some (.bool true)] }) ::
(nat_lit 268,{ cls:=.type "getset_descriptor",data:=.fields #[sH "__dict__" 545,rH 267,.builtin "function.__dict__",.builtin "function.__dict__#set"] }) ::
(nat_lit 269,{ cls:=.type "getset_descriptor",data:=.fields #[sH "__weakref__" 547,rH 267,.builtin "ExceptionGroup.__weakref__",.none] }) ::
(nat_lit 272,tH #[rH 267]) ::
(nat_lit 279,tH #[]) ::
(nat_lit 282,cH #[sH "order" 564,sH "Most.order" 565,sH "/claim/cut.py" 566,jH 141 0,jH 3 0,jH 0 0,jH 0 0,jH 3 0,rH 279,.bool true,jH 181 0,rH 280,.none,.none,.none,rH 281,jH 567 0,jH 141 0,sH "/claim/cut.py" 568]) ::
(nat_lit 283,fH "order" "Most.order" (inClass (ni 40) 0) "fairbench.ways" 501 282) ::
(nat_lit 284,tH #[]) ::
(nat_lit 285,dH #[eH P "__module__" 559 (sH "fairbench.ways" 501),eH P "__firstlineno__" 563 (jH 139 562),eH P "order" 569 (rH 283),eH P "__static_attributes__" 570 (rH 284),eH P "__doc__" 571 .none] 2) ::
(nat_lit 286,{ cls:=.type "type",data:=.cls { name:="Most",bases:=[rH 267],mro:=[rH 286,rH 267,.type "object"],ns:=285,qualname:="Most" },slots:=#[some (rH 272),none,some (sH "Most" 552),some (sH "Most" 560),some (.builtin "object.__new__"),some (.bool true)] }) ::
(nat_lit 289,tH #[rH 267]) ::
(nat_lit 296,tH #[]) ::
(nat_lit 298,tH #[sH "self" 589,sH "count" 590,sH "heaps" 591,sH "rows" 592]) ::
(nat_lit 299,tH #[]) ::
(nat_lit 301,cH #[sH "order" 586,sH "Turns.order" 587,sH "/claim/cut.py" 588,jH 146 0,jH 3 0,jH 0 0,jH 0 0,jH 3 0,rH 296,.bool true,jH 181 0,rH 297,.none,rH 298,rH 299,rH 300,jH 593 0,jH 146 0,sH "/claim/cut.py" 594]) ::
(nat_lit 302,fH "order" "Turns.order" (inClass (ni 41) 0) "fairbench.ways" 501 301) ::
(nat_lit 303,tH #[]) ::
(nat_lit 304,dH #[eH P "__module__" 581 (sH "fairbench.ways" 501),eH P "__firstlineno__" 585 (jH 144 584),eH P "order" 595 (rH 302),eH P "__static_attributes__" 596 (rH 303),eH P "__doc__" 597 .none] 2) ::
(nat_lit 305,{ cls:=.type "type",data:=.cls { name:="Turns",bases:=[rH 267],mro:=[rH 305,rH 267,.type "object"],ns:=304,qualname:="Turns" },slots:=#[some (rH 289),none,some (sH "Turns" 574),some (sH "Turns" 582),some (.builtin "object.__new__"),some (.bool true)] }) ::
(nat_lit 308,tH #[rH 267]) ::
(nat_lit 315,tH #[]) ::
(nat_lit 317,tH #[sH "self" 615,sH "count" 616,sH "heaps" 617,sH "rows" 618]) ::
(nat_lit 318,tH #[]) ::
(nat_lit 320,cH #[sH "order" 612,sH "Loads.order" 613,sH "/claim/cut.py" 614,jH 153 0,jH 3 0,jH 0 0,jH 0 0,jH 3 0,rH 315,.bool true,jH 181 0,rH 316,.none,rH 317,rH 318,rH 319,jH 619 0,jH 153 0,sH "/claim/cut.py" 620]) ::
(nat_lit 321,fH "order" "Loads.order" (inClass (ni 42) 0) "fairbench.ways" 501 320) ::
(nat_lit 322,tH #[]) ::
(nat_lit 323,dH #[eH P "__module__" 607 (sH "fairbench.ways" 501),eH P "__firstlineno__" 611 (jH 151 610),eH P "order" 621 (rH 321),eH P "__static_attributes__" 622 (rH 322),eH P "__doc__" 623 .none] 2) ::
(nat_lit 324,{ cls:=.type "type",data:=.cls { name:="Loads",bases:=[rH 267],mro:=[rH 324,rH 267,.type "object"],ns:=323,qualname:="Loads" },slots:=#[some (rH 308),none,some (sH "Loads" 600),some (sH "Loads" 608),some (.builtin "object.__new__"),some (.bool true)] }) ::
(nat_lit 327,tH #[]) ::
(nat_lit 330,cH #[sH "ballots_naming" 626,sH "ballots_naming" 627,sH "/claim/cut.py" 628,jH 158 0,jH 2 0,jH 0 0,jH 0 0,jH 3 0,rH 327,.bool true,jH 181 0,rH 328,.none,.none,.none,rH 329,jH 629 0,jH 158 0,sH "/claim/cut.py" 630]) ::
(nat_lit 331,fH "ballots_naming" "ballots_naming" (ni 43) "fairbench.ways" 501 330) ::
(nat_lit 332,tH #[]) ::
(nat_lit 335,cH #[sH "names_of" 632,sH "names_of" 633,sH "/claim/cut.py" 634,jH 160 0,jH 1 0,jH 0 0,jH 0 0,jH 3 0,rH 332,.bool true,jH 181 0,rH 333,.none,.none,.none,rH 334,jH 635 0,jH 160 0,sH "/claim/cut.py" 636]) ::
(nat_lit 336,fH "names_of" "names_of" (ni 44) "fairbench.ways" 501 335) ::
(nat_lit 337,tH #[]) ::
(nat_lit 340,cH #[sH "unseated" 638,sH "unseated" 639,sH "/claim/cut.py" 640,jH 162 0,jH 2 0,jH 0 0,jH 0 0,jH 3 0,rH 337,.bool true,jH 181 0,rH 338,.none,.none,.none,rH 339,jH 641 0,jH 162 0,sH "/claim/cut.py" 642]) ::
(nat_lit 341,fH "unseated" "unseated" (ni 45) "fairbench.ways" 501 340) ::
(nat_lit 342,tH #[]) ::
(nat_lit 344,tH #[sH "count" 647,sH "heaps" 648,sH "rows" 649,sH "before" 650,sH "best" 651,sH "name" 652,sH "growth" 653]) ::
(nat_lit 345,tH #[]) ::
(nat_lit 347,cH #[sH "next_turn" 644,sH "next_turn" 645,sH "/claim/cut.py" 646,jH 164 0,jH 3 0,jH 0 0,jH 0 0,jH 3 0,rH 342,.bool true,jH 181 0,rH 343,.none,rH 344,rH 345,rH 346,jH 654 0,jH 164 0,sH "/claim/cut.py" 655]) ::
(nat_lit 348,fH "next_turn" "next_turn" (ni 46) "fairbench.ways" 501 347) ::
(nat_lit 349,tH #[]) ::
(nat_lit 351,tH #[sH "count" 660,sH "heaps" 661,sH "rows" 662,sH "best" 663,sH "name" 664,sH "load" 665]) ::
(nat_lit 352,tH #[]) ::
(nat_lit 354,cH #[sH "next_load" 657,sH "next_load" 658,sH "/claim/cut.py" 659,jH 172 0,jH 3 0,jH 0 0,jH 0 0,jH 3 0,rH 349,.bool true,jH 181 0,rH 350,.none,rH 351,rH 352,rH 353,jH 666 0,jH 172 0,sH "/claim/cut.py" 667]) ::
(nat_lit 355,fH "next_load" "next_load" (ni 47) "fairbench.ways" 501 354) ::
(nat_lit 356,tH #[]) ::
(nat_lit 358,tH #[sH "one" 672,sH "two" 673]) ::
(nat_lit 359,tH #[]) ::
(nat_lit 361,cH #[sH "comes_ahead" 669,sH "comes_ahead" 670,sH "/claim/cut.py" 671,jH 179 0,jH 2 0,jH 0 0,jH 0 0,jH 3 0,rH 356,.bool true,jH 181 0,rH 357,.none,rH 358,rH 359,rH 360,jH 674 0,jH 179 0,sH "/claim/cut.py" 675]) ::
(nat_lit 362,fH "comes_ahead" "comes_ahead" (ni 48) "fairbench.ways" 501 361) ::
(nat_lit 363,tH #[]) ::
(nat_lit 365,tH #[sH "heaps" 680,sH "rows" 681,sH "name" 682,sH "many_in_all" 683,sH "together" 684,sH "names" 685,sH "many" 686,sH "load" 687]) ::
(nat_lit 366,tH #[]) ::
(nat_lit 368,cH #[sH "load_of_name" 677,sH "load_of_name" 678,sH "/claim/cut.py" 679,jH 183 0,jH 3 0,jH 0 0,jH 0 0,jH 3 0,rH 363,.bool true,jH 181 0,rH 364,.none,rH 365,rH 366,rH 367,jH 688 0,jH 183 0,sH "/claim/cut.py" 689]) ::
(nat_lit 369,fH "load_of_name" "load_of_name" (ni 49) "fairbench.ways" 501 368) ::
(nat_lit 370,tH #[]) ::
(nat_lit 372,tH #[sH "names" 694,sH "rows" 695,sH "load" 696,sH "name" 697,sH "brought" 698]) ::
(nat_lit 373,tH #[]) ::
(nat_lit 375,cH #[sH "load_of_heap" 691,sH "load_of_heap" 692,sH "/claim/cut.py" 693,jH 193 0,jH 2 0,jH 0 0,jH 0 0,jH 3 0,rH 370,.bool true,jH 181 0,rH 371,.none,rH 372,rH 373,rH 374,jH 699 0,jH 193 0,sH "/claim/cut.py" 700]) ::
(nat_lit 376,fH "load_of_heap" "load_of_heap" (ni 50) "fairbench.ways" 501 375) ::
(nat_lit 377,tH #[]) ::
(nat_lit 379,tH #[sH "_law_script" 707,sH "_law_k" 708]) ::
(nat_lit 380,tH #[]) ::
(nat_lit 382,cH #[sH "_law_cell_at" 704,sH "_law_cell_at" 705,sH "/claim/cut.py" 706,jH 200 0,jH 2 0,jH 0 0,jH 0 0,jH 3 0,rH 377,.bool true,jH 181 0,rH 378,.none,rH 379,rH 380,rH 381,jH 709 0,jH 200 0,sH "/claim/cut.py" 710]) ::
(nat_lit 383,fH "_law_cell_at" "_law_cell_at" (ni 52) "law_fairbench_k64_whole_order_and_parts_of_h" 702 382) ::
(nat_lit 384,tH #[]) ::
(nat_lit 386,tH #[sH "_law_cell" 715,sH "_law_place" 716,sH "_law_number" 717]) ::
(nat_lit 387,tH #[]) ::
(nat_lit 389,cH #[sH "_law_mixed" 712,sH "_law_mixed" 713,sH "/claim/cut.py" 714,jH 204 0,jH 2 0,jH 0 0,jH 0 0,jH 3 0,rH 384,.bool true,jH 181 0,rH 385,.none,rH 386,rH 387,rH 388,jH 718 0,jH 204 0,sH "/claim/cut.py" 719]) ::
(nat_lit 390,fH "_law_mixed" "_law_mixed" (ni 53) "law_fairbench_k64_whole_order_and_parts_of_h" 702 389) ::
(nat_lit 391,tH #[]) ::
(nat_lit 394,cH #[sH "_law_set" 721,sH "_law_set" 722,sH "/claim/cut.py" 723,jH 208 0,jH 2 0,jH 0 0,jH 0 0,jH 3 0,rH 391,.bool true,jH 181 0,rH 392,.none,.none,.none,rH 393,jH 724 0,jH 208 0,sH "/claim/cut.py" 725]) ::
(nat_lit 395,fH "_law_set" "_law_set" (ni 54) "law_fairbench_k64_whole_order_and_parts_of_h" 702 394) ::
(nat_lit 396,tH #[]) ::
(nat_lit 399,cH #[sH "_law_heaps" 727,sH "_law_heaps" 728,sH "/claim/cut.py" 729,jH 210 0,jH 4 0,jH 0 0,jH 0 0,jH 3 0,rH 396,.bool true,jH 181 0,rH 397,.none,.none,.none,rH 398,jH 730 0,jH 210 0,sH "/claim/cut.py" 731]) ::
(nat_lit 400,fH "_law_heaps" "_law_heaps" (ni 55) "law_fairbench_k64_whole_order_and_parts_of_h" 702 399) ::
(nat_lit 401,tH #[]) ::
(nat_lit 403,tH #[sH "_law_found" 736,sH "_law_due" 737,sH "_law_k" 738]) ::
(nat_lit 404,tH #[]) ::
(nat_lit 406,cH #[sH "_law_same" 733,sH "_law_same" 734,sH "/claim/cut.py" 735,jH 226 0,jH 2 0,jH 0 0,jH 0 0,jH 3 0,rH 401,.bool true,jH 181 0,rH 402,.none,rH 403,rH 404,rH 405,jH 739 0,jH 226 0,sH "/claim/cut.py" 740]) ::
(nat_lit 407,fH "_law_same" "_law_same" (ni 56) "law_fairbench_k64_whole_order_and_parts_of_h" 702 406) ::
(nat_lit 408,tH #[]) ::
(nat_lit 410,tH #[sH "_law_heaps_here" 745,sH "_law_cell" 746,sH "_law_rows_here" 747,sH "_law_k" 748,sH "_law_names" 749,sH "_law_many" 750,sH "_law_part" 751,sH "_law_cut" 752]) ::
(nat_lit 411,tH #[]) ::
(nat_lit 413,cH #[sH "_law_rows" 742,sH "_law_rows" 743,sH "/claim/cut.py" 744,jH 243 0,jH 2 0,jH 0 0,jH 0 0,jH 3 0,rH 408,.bool true,jH 181 0,rH 409,.none,rH 410,rH 411,rH 412,jH 753 0,jH 243 0,sH "/claim/cut.py" 754]) ::
(nat_lit 414,fH "_law_rows" "_law_rows" (ni 57) "law_fairbench_k64_whole_order_and_parts_of_h" 702 413) ::
(nat_lit 415,tH #[]) ::
(nat_lit 418,cH #[sH "_law_told" 756,sH "_law_told" 757,sH "/claim/cut.py" 758,jH 253 0,jH 3 0,jH 0 0,jH 0 0,jH 3 0,rH 415,.bool true,jH 181 0,rH 416,.none,.none,.none,rH 417,jH 759 0,jH 253 0,sH "/claim/cut.py" 760]) ::
(nat_lit 419,fH "_law_told" "_law_told" (ni 58) "law_fairbench_k64_whole_order_and_parts_of_h" 702 418) ::
(nat_lit 420,tH #[]) ::
(nat_lit 423,cH #[sH "law" 762,sH "law" 763,sH "/claim/cut.py" 764,jH 262 0,jH 1 0,jH 0 0,jH 0 0,jH 3 0,rH 420,.bool true,jH 181 0,rH 421,.none,.none,.none,rH 422,jH 765 0,jH 262 0,sH "/claim/cut.py" 766]) ::
(nat_lit 424,fH "law" "law" (ni 59) "law_fairbench_k64_whole_order_and_parts_of_h" 702 423)::[]
def Ri:List Addr:=[2,3,15,22,23,24,25,28,35,36,37,40,47,48,49,52,59,60,61,64,71,72,73,76,79,80,81,84,85,86,88,89,91,92,93,95,96,98,99,100,102,103,105,106,107,110,111,112,114,115,117,118,119,120,123,124,125,127,128,130,131,132,134,135,137,138,139,142,143,144,147,148,149,151,152,154,155,156,158,159,161,162,163,165,166,168,169,170,172,173,175,176,177,180,181,182,185,186,187,190,191,192,195,196,197,199,200,202,203,204,207,208,209,211,212,214,215,216,218,219,221,222,223,225,226,228,229,230,232,233,235,236,244,246,247,249,250,251,253,254,256,257,258,260,261,263,264,265,266,267,268,269,272,279,282,283,284,285,286,289,296,298,299,301,302,303,304,305,308,315,317,318,320,321,322,323,324,327,330,331,332,335,336,337,340,341,342,344,345,347,348,349,351,352,354,355,356,358,359,361,362,363,365,366,368,369,370,372,373,375,376,377,379,380,382,383,384,386,387,389,390,391,394,395,396,399,400,401,403,404,406,407,408,410,411,413,414,415,418,419,420,423,424]
def qv:Program:={ PySem.Challenge.pw_fairbench_k64_whole_order_and_parts_of_h with main:={ PySem.Challenge.pw_fairbench_k64_whole_order_and_parts_of_h.main with body:=(PySem.Challenge.pw_fairbench_k64_whole_order_and_parts_of_h.main.body.zipIdx.filter fun x=>!([0,6,15,23,33,38,51].contains x.2)).map (·.1) } }
theorem Dn:∀P,Ri=(KH P).map (·.1):=fun _=>by kernel_rfl
def zE(w:World):Option Shared:=openEnds treeTable PySem.Challenge.rw_fairbench_k64_whole_order_and_parts_of_h.row.prog w 6904
def y1(s:Shared):=seen ((recsOf qv).map (·.name)) (ownsOf qv) [] { s with gens:=#[] }
def y3(s:Shared):Bool:=s.heap.keysOk (looseW qv []) ((recsOf qv).map (·.name)) ((litsOf qv).map (·.1)) ((clssOf qv (looseW qv [])).map (·.name))&&s.heap.accountedOkI (importedModules PySem.Challenge.rw_fairbench_k64_whole_order_and_parts_of_h.row.prog.main.body)&&s.heap.isNs mainGlobals&&s.heap.isNs builtinsNs&&tablesOk qv s.heap&&(xlAt qv [] s&&recOk (RowW.records PySem.Challenge.rw_fairbench_k64_whole_order_and_parts_of_h.row.toRowW) s)&&s.gens.size==0
theorem d0:drecsOf qv=[]:=by kernel_rfl
theorem d1:dclssOf qv []=[]:=by kernel_rfl
theorem d2:wclssOf qv []=[]:=by kernel_rfl
theorem Ye:∀w,(zE w).map y1=some (expectedOf qv):=by intro w;kernel_rfl
theorem Yg:∀w,(zE w).map (fun s=>(s.heap.bltView,tabsOk qv s))=some (bltViewBooted,true):=by intro w;kernel_rfl
theorem Yh:∀w,(zE w).map (fun s=>(y3 s,plainSeenE qv (looseW qv []) s,wideSeen qv s))=some (true,plainGoodE qv (looseW qv []),wideGood qv):=by intro w;kernel_rfl
theorem Yi:∀w,(zE w).map (kmHook KH Ri Dn [280]).obs=some ((kmHook KH Ri Dn [280]).val w):=by intro w;kernel_rfl
theorem Yj:LeftO PySem.Challenge.rw_fairbench_k64_whole_order_and_parts_of_h.row.prog qv [] (fun s=>xlAt qv [] s&&recOk (RowW.records PySem.Challenge.rw_fairbench_k64_whole_order_and_parts_of_h.row.toRowW) s) (kmHook KH Ri Dn [280]).obs (kmHook KH Ri Dn [280]).val 6904:=by
  intro w;have h1:=Ye w;have h2:=Yh w;have h3:=Yg w;have h4:=Yi w;unfold zE at h1 h2 h3 h4;cases h:openEnds treeTable PySem.Challenge.rw_fairbench_k64_whole_order_and_parts_of_h.row.prog w 6904 with
  |none=>rw[h] at h1;cases h1
  |some s =>
   rw[h] at h1 h2 h3 h4;have e1:=oq h1;have e3:=oq h3;have e2:=oq h2;have p:pinSeenD qv (drecsOf qv) s=pinGoodD (drecsOf qv):=by rw[d0];rfl
   have q:plainSeenD qv [] s=plainGoodD qv []:=by unfold plainSeenD plainGoodD;rw[d1];rfl
   have r:clsSeenW qv [] s=clsGoodW qv []:=by unfold clsSeenW clsGoodW;rw[d2];rfl
   exact g6 some (Prod.ext (Prod.ext e1 (Prod.ext (g6 (·.1) e3) (Prod.ext (g6 (·.1) e2) (Prod.ext (g6 (·.2) e3) (Prod.ext p (Prod.ext (g6 (·.2.1) e2) (Prod.ext q (Prod.ext (g6 (·.2.2) e2) r)))))))) (oq h4))
end HH
namespace L2
open PySem PySem.Spec PyProof.Rows
abbrev Key:=Sum Int Str
def BU:Key→Value→Bool
  |.inl k,v=>Value.isInt k v
  |.inr x,v=>Value.isStrOf x v
def abr(w:World):Key→Int
  |.inl k=>hashInt k
  |.inr x=>hashStr w x
theorem fc:∀{k:Key} {v:Value},BU k v=true→(∃i t,k=Sum.inl i∧v=Value.int i t)∨(∃x t,k=Sum.inr x∧v=Value.str x t)
  |.inl i,v,h=>by obtain⟨t,e⟩:=Value.isInt_shape (k:=i) (v:=v) h;exact .inl ⟨i,t,rfl,e⟩
  |.inr x,v,h=>by obtain⟨t,e⟩:=Value.isStrOf_shape (x:=x) (v:=v) h;exact .inr ⟨x,t,rfl,e⟩
theorem Lj(i:Int)(t:Tok):BU (.inl i) (.int i t)=true:=by simp[BU,Value.isInt]
theorem Lk(x:Str)(t:Tok):BU (.inr x) (.str x t)=true:=by simp[BU,Value.isStrOf]
theorem Vh(a b:Int):decide ((Sum.inl a:Key)=Sum.inl b)=(a==b):=by
  by_cases e:a=b
  ·subst e;simp
  ·have h:¬ (Sum.inl a:Key)=Sum.inl b:=fun q=>e (Sum.inl.inj q);rw[lL h];exact(beq_eq_false_iff_ne.mpr e).symm
theorem Vi(a b:Str):decide ((Sum.inr a:Key)=Sum.inr b)=decide (a=b):=by
  by_cases e:a=b
  ·subst e;simp
  ·have h:¬ (Sum.inr a:Key)=Sum.inr b:=fun q=>e (Sum.inr.inj q);rw[lL h,lL e]
theorem Vj(a:Int)(b:Str):decide ((Sum.inl a:Key)=Sum.inr b)=false:=lL (fun q=>nomatch q)
theorem Vk(a:Str)(b:Int):decide ((Sum.inr a:Key)=Sum.inl b)=false:=lL (fun q=>nomatch q)
def fe(prog:Program)(w:World):PySem.KeyKind prog w Key where
  is:=BU
  hash:=abr w
  inj:=fun v a b ha hb=>by
    rcases fc ha with⟨i,t,rfl,rfl⟩|⟨x,t,rfl,rfl⟩
    · rcases fc hb with⟨j,u,rfl,e⟩|⟨y,u,rfl,e⟩
      ·injection e with e1 _;rw[e1]
      ·exact nomatch e
    · rcases fc hb with⟨j,u,rfl,e⟩|⟨y,u,rfl,e⟩
      ·exact nomatch e
      ·injection e with e1 _;rw[e1]
  byValue:=fun k v h=>by rcases fc h with⟨i,t,rfl,rfl⟩|⟨x,t,rfl,rfl⟩<;>rfl
  pyHash:=fun hv h=>by
    rcases fc hv with⟨i,t,rfl,rfl⟩|⟨x,t,rfl,rfl⟩
    ·exact wpAny_pyHash_int h
    ·exact wpAny_pyHash_str h
  eqBool:=fun hu hv h=>by
    rcases fc hu with⟨i,t,rfl,rfl⟩|⟨x,t,rfl,rfl⟩
    · rcases fc hv with⟨j,u,rfl,rfl⟩|⟨y,u,rfl,rfl⟩
      ·rw[Vh] at h;exact wpAny_eqBool_int h
      ·rw[Vj] at h;exact SeqAt.EqAt.int_str i t y u _ _ _ _ h
    · rcases fc hv with⟨j,u,rfl,rfl⟩|⟨y,u,rfl,rfl⟩
      ·rw[Vk] at h;exact SeqAt.EqAt.str_int x t j u _ _ _ _ h
      ·rw[Vi] at h;exact wpAny_eqBool_str h
  «strs»:=fun k x t v h=>by
    rcases fc h with⟨i,u,rfl,e⟩|⟨y,u,rfl,e⟩
    ·exact nomatch e
    ·injection e with e1 _;subst e1;cases v<;>rfl
theorem Fz(prog:Program)(w:World)(i:Int)(t:Tok):(fe prog w).is (.inl i) (.int i t)=true:=Lj i t
theorem FC(prog:Program)(w:World)(x:Str)(t:Tok):(fe prog w).is (.inr x) (.str x t)=true:=Lk x t
inductive V where
  |non|bl (b:Bool)|int (i:Int)|str (x:Str)|Nv (b:Array UInt8)|XJ (b:UInt64)|ref (a:Addr)|ty (n:String)
  deriving DecidableEq
def RelV:V→Value→Prop
  |.non,u=>u=Value.none
  |.bl b,u=>u=Value.bool b
  |.int i,u=>∃t,u=Value.int i t
  |.str x,u=>∃t,u=Value.str x t
  |.Nv b,u=>∃t,u=Value.bytes b t
  |.XJ b,u=>∃t,u=Value.float b t
  |.ref a,u=>u=Value.ref a
  |.ty n,u=>u=Value.type n
abbrev Vals:List V→ef→Prop:=Paired RelV
theorem Vals.length{xs:List V}(r:Vals xs us):xs.length=us.length:=wo r
theorem Vals.get:∀{xs:List V} {us:ef} {i:Nat} {x:V},Vals xs us→xs[i]?=some x→∃u,us[i]?=some u∧RelV x u
  |_,_,_,_,.nil,e=>by simp at e
  |_,_,0,_,.cons r _,e=>by simp at e;subst e;exact⟨_,rfl,r⟩
  |_,_,i+1,x,.cons _ t,e=>by obtain⟨u,h1,h2⟩:=Vals.get (i:=i) (x:=x) t (by simpa using e);exact⟨u,by simpa using h1,h2⟩
theorem Vals.append:∀{xs ys:List V} {us ws:ef},Vals xs us→Vals ys ws→Vals (xs++ys) (us++ws)
  |_,_,_,_,.nil,s=>s
  |_,_,_,_,.cons r t,s=>.cons r (Vals.append t s)
theorem Vals.take:∀{xs:List V} {us:ef} (n:Nat),Vals xs us→Vals (xs.take n) (us.take n)
  |_,_,0,_=>.nil
  |_,_,_+1,.nil=>.nil
  |_,_,n+1,.cons r t=>.cons r (Vals.take n t)
theorem Vals.drop:∀{xs:List V} {us:ef} (n:Nat),Vals xs us→Vals (xs.drop n) (us.drop n)
  |_,_,0,r=>r
  |_,_,_+1,.nil=>.nil
  |_,_,n+1,.cons _ t=>Vals.drop n t
def tj:Option V→mR→Prop
  |some v,some u=>RelV v u
  |none,none=>True
  |_,_=>False
def KV{κ:Type}:List (κ×V)→List (κ×Value)→Prop:=Paired fun(p:κ×V) (q:κ×Value)=>p.1=q.1∧RelV p.2 q.2
def kV:Key→V
  |.inl i=>.int i
  |.inr x=>.str x
inductive HO where
  /-- a list -/
  |lst (xs:List V)
  /-- a tuple (never changes) -/
  |tup (xs:List V)
  /-- a dict whose keys are ints and texts;one whose keys are tuples of ints and texts (the empty one is both) -/
  |dK (aX:List (Key×V))|dT (aX:List (List Key×V))
  /-- a set of ints: its members,its size -/
  |set (S:Int→Bool) (n:Nat)
  /-- an instance of the class at C,its dict at dx,its attributes -/
  |ins (C dx:Addr) (fs:List (Str×V))
  /-- the dict of the instance at x -/
  |own (x:Addr)
  /-- the dict of an exception -/
  |xd (fs:List (Str×V))
  /-- a bound method,f of x -/
  |met (f x:Addr)
  /-- a range object lo,lo+1,.. below hi -/
  |rng (lo hi:Int)
  /-- a thing that is known to the object (the script;a dict while a loop walks it): read,never written while it is so -/
  |ua (o:Obj) (u:HO)
  /-- a code object's table -/
  |Fj (ps:Array Value)
  /-- a code record,its name -/
  |Hr (q:Str)
  /-- any other thing,by what is true of its one object (a def of afs own: ag8 a S n:=HO.ext fun h=>..) -/
  |ext (φ:Heap→Prop)
abbrev Hp:=Addr→Option HO
def upd(H:Hp)(a:Addr)(o:HO):Hp:=fun b=>if b=a then some o else H b
theorem aL{H:Hp}{o:HO}:upd H a o a=some o:=by unfold upd;rw[az rfl]
theorem aK{H:Hp}{b:Addr}{o:HO}(h:b≠a):upd H a o b=H b:=by unfold upd;rw[bh h]
theorem yM{H:Hp}{b:Addr}{o u:HO}(h:H a=some o)(h':H b=some u)(d:o≠u):a≠b:=by intro e;subst e;rw[h] at h';exact d (oq h')
theorem bO{H:Hp}{b:Addr}{o:HO}(h:H a=some o)(h':H b=none):a≠b:=by intro e;subst e;rw[h] at h';cases h'
section
variable (P:Program) (w:World)
def cy(H:Hp)(h:Heap)(a:Addr):HO→Prop
  |.lst xs=>xs.length≤sizeLine∧∃(its:ef) (n:Nat),Vals xs its∧h.get? a=some { cls:=.type "list",data:=.seq its.toArray n }
  |.tup xs=>xs.length≤sizeLine∧∃its:ef,Vals xs its∧IsTup h a its.toArray
  |.dK aX=>aX.length≤sizeLine∧(a==sysModules)=false∧∃vs,KV aX vs∧h.DictOf (fe P w) a vs
  |.dT aX=>aX.length≤sizeLine∧(a==sysModules)=false∧∃xs:List (List Key×Addr×Value),
      Paired (fun(p:List Key×V) (q:List Key×Addr×Value)=>p.1=q.1∧H q.2.1=some (.tup (p.1.map kV))∧RelV p.2 q.2.2) aX xs ∧
      ∃o es ep,h.get? a=some o∧o.ExactDict∧o.data=.dict es ep∧es.toList=xs.map (entryOfKey (tupleKind (fe P w)))∧(xs.map (·.1)).Nodup
  |.set S n=>h.SetOf (intKind P w) a S n
  |.ins C dx fs=>H dx=some (.own a)∧fs.length≤1000∧dx≠a∧h.get? a=some (instObj C dx) ∧
      ∃mA,h.Ns1 dx mA∧(∀f,tj (fs.lookup f) (mA f))∧PySem.Within mA (fs.map (·.1))
  |.own _=>∃o,h.get? a=some o
  |.xd fs=>∃mA,h.Ns1 a mA∧∀f,tj (fs.lookup f) (mA f)
  |.rng lo hi=>∃t u v,h.get? a=some { cls:=.type "range",data:=.fields #[.int lo t,.int hi u,.int 1 v] }
  |.ua o u=>h.get? a=some o∧cy H h a u
  |.Fj ps=>∃(q:Str) (qs:Array Value),ps=#[.str q 0]∧h.get? a=some { cls:=.none,data:=.fields qs }∧TriplesOk qs.toList∧∀pos v,codeAmong pos qs.toList=some v→∃c,v=.ref c∧H c=some (.Hr q)
  |.Hr q=>h.CodeRec (.ref a) q
  |.met f x=>h.get? a=some (methodObj (.ref f) (.ref x))
  |.ext φ=>φ h∧(∃o,h.get? a=some o)∧∀h1 h2:Heap,φ h1→(∀o,h1.get? a=some o→h2.get? a=some o)→φ h2
def ub(H:Hp)(h:Heap):Prop:=∀a o,H a=some o→cy P w H h a o
end
section
variable {P:Program} {w:World} {H H':Hp} {h h':Heap} {a:Addr} {o:HO}
theorem cy.lt(x:cy P w H h a o):a<h.objs.size:=by
  cases o with
  |lst xs=>obtain⟨_,_,_,_,e⟩:=x;exact dg e
  |tup xs=>obtain⟨_,_,_,p⟩:=x;exact p.lt
  |dK aX=>obtain⟨_,_,_,_,o,_,_,e,_⟩:=x;exact dg e
  |dT aX=>obtain⟨_,_,_,_,o,_,_,e,_⟩:=x;exact dg e
  |set S n=>obtain⟨o,_,_,_,e,_⟩:=x;exact dg e
  |ins C dx fs=>obtain⟨_,_,_,e,_⟩:=x;exact dg e
  |own y=>obtain⟨_,e⟩:=x;exact dg e
  |xd fs=>obtain⟨_,⟨_,_,_,e,_⟩,_⟩:=x;exact dg e
  |rng lo hi=>obtain⟨_,_,_,e⟩:=x;exact dg e
  |ua ob u=>obtain⟨e,_⟩:=x;exact dg e
  |Fj ps=>obtain⟨_,_,_,e,_⟩:=x;exact dg e
  |Hr q=>obtain⟨_,_,_,_,e,g,_⟩:=x;cases e;exact dg g
  |met f y=>exact dg (show h.get? a=some _ from x)
  |ext φ=>obtain⟨_,⟨_,e⟩,_⟩:=x;exact dg e
theorem Paired.Ln{α β:Type}{F G:α→β→Prop}:∀{l₁:List α} {l₂:List β},Paired F l₁ l₂→(∀a b,F a b→G a b)→Paired G l₁ l₂
  |_,_,.nil,_=>.nil
  |_,_,.cons r t,f=>.cons (f _ _ r) (Paired.Ln t f)
theorem cy.pW(x:cy P w H h a o)(k:∀b u,(b=a∨H b=some (.own a))→h.get? b=some u→h'.get? b=some u)(ho:∀b,H b=some (.own a)→H' b=some (.own a))(ht:∀b xs,H b=some (.tup xs)→H' b=some (.tup xs))(ow:∀b q,H b=some (.Hr q)→H' b=some (.Hr q):=by
      intro b q hb
      first
        |exact hb
        |(rw[aK (bO hb (by assumption))];exact hb)
        |(rw[aK (yM hb (by assumption) (fun z=>nomatch z))];exact hb)
        |(rw[aK (by rintro rfl;simp_all [XM])];exact hb)):cy P w H' h' a o:=by
  induction o with
  |lst xs=>obtain⟨z,its,n,r,e⟩:=x;exact⟨z,its,n,r,k _ _ (.inl rfl) e⟩
  |tup xs=>obtain⟨z,its,r,ob,e,c⟩:=x;exact⟨z,its,r,ob,k _ _ (.inl rfl) e,c⟩
  |dK aX=>obtain⟨z,y,vs,r,ob,es,ep,e,c⟩:=x;exact⟨z,y,vs,r,ob,es,ep,k _ _ (.inl rfl) e,c⟩
  |dT aX=>obtain⟨z,y,xs,r,ob,es,ep,e,c⟩:=x;exact⟨z,y,xs,Paired.Ln r fun p q z=>⟨z.1,ht _ _ z.2.1,z.2.2⟩,ob,es,ep,k _ _ (.inl rfl) e,c⟩
  |set S n=>obtain⟨ob,es,ep,t,e,c⟩:=x;exact⟨ob,es,ep,t,k _ _ (.inl rfl) e,c⟩
  |ins C dx fs=>obtain⟨d,z,ne,e,mA,⟨od,es,ep,e2,c⟩,r⟩:=x;exact⟨ho _ d,z,ne,k _ _ (.inl rfl) e,mA,⟨od,es,ep,k _ _ (.inr d) e2,c⟩,r⟩
  |own y=>obtain⟨ob,e⟩:=x;exact⟨ob,k _ _ (.inl rfl) e⟩
  |xd fs=>obtain⟨mA,⟨od,es,ep,e,c⟩,r⟩:=x;exact⟨mA,⟨od,es,ep,k _ _ (.inl rfl) e,c⟩,r⟩
  |rng lo hi=>obtain⟨t,u,v,e⟩:=x;exact⟨t,u,v,k _ _ (.inl rfl) e⟩
  |ua ob u ih=>obtain⟨e,q⟩:=x;exact⟨k _ _ (.inl rfl) e,ih q⟩
  |Fj ps=>obtain⟨q,qs,e0,e,ht,hc⟩:=x;refine⟨q,qs,e0,k a _ (.inl rfl) e,ht,fun pos v hv=>?_⟩;obtain⟨c,e1,hH⟩:=hc pos v hv;exact⟨c,e1,ow _ _ hH⟩
  |Hr q=>obtain⟨c,o2,vs2,t2,e2,g2,r2⟩:=x;cases e2;exact⟨_,o2,vs2,t2,rfl,k _ _ (.inl rfl) g2,r2⟩
  |met f y=>have e:h.get? a=some (methodObj (.ref f) (.ref y)):=x;show h'.get? a=some (methodObj (.ref f) (.ref y));exact k a _ (.inl rfl) e
  |ext φ=>obtain⟨p,⟨o,e⟩,st⟩:=x;exact⟨st _ _ p fun o q=>k _ _ (.inl rfl) q,⟨o,k _ _ (.inl rfl) e⟩,st⟩
theorem ub.lt(x:ub P w H h)(e:H a=some o):a<h.objs.size:=(x a o e).lt
theorem ub.fresh(x:ub P w H h)(e:h.objs.size≤a):H a=none:=by
  cases q:H a with
  |none=>rfl
  |some u=>exact absurd (oN (x.lt q) e) (Nat.lt_irrefl _)
theorem ub.kept(x:ub P w H h)(k:∀b u,h.get? b=some u→h'.get? b=some u):ub P w H h':=fun a o e =>
  (x a o e).pW (fun b u _ q=>k b u q) (fun _ q=>q) fun _ _ q=>q
theorem ub.laid(x:ub P w H h)(k:∀b u,h.get? b=some u→h'.get? b=some u)(hp:h.objs.size≤a)(new:cy P w (upd H a o) h' a o):ub P w (upd H a o) h':=fun b u e=>by
  have hn:=x.fresh hp;by_cases hb:b=a
  ·subst hb;rw[aL] at e;cases e;exact new
  ·rw[aK hb] at e;exact(x b u e).pW (fun c v _ q=>k c v q) (fun c q=>by rw[aK (bO q hn)];exact q) fun c xs q=>by rw[aK (bO q hn)];exact q
end
def Rd(H:Hp)(a:Addr)(u:HO):Prop:=H a=some u∨∃o,H a=some (.ua o u)
theorem Rd.ok{H:Hp}{u:HO}(r:Rd H a u)(x:ub P w H h):cy P w H h a u:=by
  rcases r with r|⟨o,r⟩
  ·exact x a u r
  ·obtain⟨_,q⟩:=x a _ r;exact q
def XM:Option HO→Prop
  |some (.lst _)=>True
  |some (.dK _)=>True
  |some (.dT _)=>True
  |some (.set _ _)=>True
  |some (.ins _ _ _)=>True
  |some (.ext _)=>True
  |_=>False
section
variable {P:Program} {w:World} {H:Hp} {h h':Heap} {x e:Addr} {o':HO}
theorem ub.write(ok:ub P w H h)(mu:XM (H x))(he:e=x∨H e=some (.own x))(k:∀b u,b≠e→h.get? b=some u→h'.get? b=some u)(XO:∃u,h'.get? e=some u)(new:cy P w (upd H x o') h' x o'):ub P w (upd H x o') h':=fun b u q=>by
  have Yk:∀c y,H c=some (.own y)→c≠x:=fun c y r z=>by subst z;rw[r] at mu;exact mu
  have abu:∀c xs,H c=some (.tup xs)→c≠x:=fun c xs r z=>by subst z;rw[r] at mu;exact mu
  by_cases hb:b=x
  ·subst hb;rw[aL] at q;cases q;exact new
  · rw[aK hb] at q;by_cases Vl:b=e
    · have q':H b=some (.own x):=by
        rcases he with z|z
        ·exact absurd (Vl.trans z) hb
        ·rw[Vl];exact z
      rw[q] at q';cases q';obtain⟨v,hv⟩:=XO;exact⟨v,by rw[Vl];exact hv⟩
    · refine(ok b u q).pW (fun c v hc r=>k c v ?_ r) (fun c r=>by rw[aK (Yk c b r)];exact r) fun c xs r=>by rw[aK (abu c xs r)];exact r
      rcases hc with rfl|hc
      ·exact Vl
      · rintro rfl;rcases he with z|z
        ·exact Yk c b hc z
        ·rw[hc] at z;cases z;exact hb rfl
end
structure Un (fs ex:List Addr) (H H':Hp) (h h':Heap):Prop where
  keep:∀b o,h.get? b=some o→H b=none→b∉fs→b∉ex→h'.get? b=some o
  slot:∀b o,h.get? b=some o→H b=none→b∈fs→b∉ex→∃sl,h'.get? b=some { o with slots:=sl }
  free:∀b o,h.get? b=some o→H b=none→b∉ex→H' b=none
  there:∀b o,h.get? b=some o→b∉ex→∃o',h'.get? b=some o'
  qH:∀b xs,H b=some (.tup xs)→H' b=some (.tup xs)
  wq:∀b o u,H b=some (.ua o u)→H' b=some (.ua o u)
  wt:∀b ps,H b=some (.Fj ps)→∃more,H' b=some (.Fj (ps++more))
section
variable {fs fs' ex ex':List Addr} {H H1 H2:Hp} {h h1 h2 h':Heap} {a x e:Addr} {o:HO}
theorem Un.any(u:Un fs ex H H1 h h1){b:Addr}{ob:Obj}(q:h.get? b=some ob)(n:H b=none)(hx:b∉ex):∃sl,h1.get? b=some { ob with slots:=sl }:=by
  by_cases hb:b∈fs
  ·exact u.slot b ob q n hb hx
  ·exact⟨ob.slots,u.keep b ob q n hb hx⟩
theorem Un.kept(k:∀b u,h.get? b=some u→h'.get? b=some u):Un fs ex H H h h' :=
  ⟨fun b ob q _ _ _=>k b ob q,fun b ob q _ _ _=>⟨ob.slots,k b ob q⟩,fun _ _ _ n _=>n,fun b ob q _=>⟨ob,k b ob q⟩,fun _ _ q=>q,fun _ _ _ q=>q,fun _ ps q=>⟨#[],by rw[q];simp⟩⟩
theorem Un.refl:Un fs ex H H h h:=Un.kept fun _ _ q=>q
theorem Un.laid(k:∀b u,h.get? b=some u→h'.get? b=some u)(hp:h.objs.size≤a)(hn:H a=none):Un fs ex H (upd H a o) h h' where
  keep:=fun b u q _ _ _=>k b u q
  slot:=fun b u q _ _ _=>⟨u.slots,k b u q⟩
  free:=fun b u q n _=>by rw[aK (fT (oN (dg q) hp))];exact n
  there:=fun b u q _=>⟨u,k b u q⟩
  qH:=fun b xs q=>by rw[aK (bO q hn)];exact q
  wq:=fun b u xs q=>by rw[aK (bO q hn)];exact q
  wt:=fun b ps q=>⟨#[],by rw[aK (bO q hn),q];simp⟩
theorem Un.write(mu:XM (H x))(he:e=x∨H e=some (.own x))(k:∀b u,b≠e→h.get? b=some u→h'.get? b=some u)(XO:∃u,h'.get? e=some u):Un fs ex H (upd H x o) h h':=by
  have hx:∀b,H b=none→b≠x:=fun b n z=>by subst z;rw[n] at mu;exact mu
  have hb:∀b,H b=none→b≠e:=fun b n z=>by
    subst z;rcases he with r|r
    ·exact hx b n r
    ·rw[n] at r;cases r
  have hm:∀b u,H b=some u→¬ XM (some u)→b≠x:=fun b u q nm z=>by subst z;rw[q] at mu;exact nm mu
  refine⟨fun b u q n _ _=>k b u (hb b n) q,fun b u q n _ _=>⟨u.slots,k b u (hb b n) q⟩,fun b u q n _=>by rw[aK (hx b n)];exact n,fun b u q _=>?_,
    fun b xs q=>by rw[aK (hm b _ q fun z=>z)];exact q,fun b u xs q=>by rw[aK (hm b _ q fun z=>z)];exact q,fun b ps q=>⟨#[],by rw[aK (hm b _ q fun z=>z),q];simp⟩⟩
  by_cases Vl:b=e
  ·subst Vl;exact XO
  ·exact⟨u,k b u Vl q⟩
end
def trk(h:Heap)(H:Hp):List Addr:=(List.range h.objs.size).filter fun a=>(H a).isSome
def Bf(h:Heap)(H:Hp):Heap:=PySem.W.hideAll h (trk h H)
theorem Lp(h:Heap)(H:Hp):(Bf h H).objs.size=h.objs.size:=PySem.W.hideAll_size _ _
theorem Nw{H:Hp}{b:Addr}{o:Obj}(e:h.get? b=some o)(n:H b=none):(Bf h H).get? b=some o :=
  PySem.W.hideAll_get _ e fun hm=>by have q:(H b).isSome=true:=(jw.mp hm).2;rw[n] at q;simp at q
theorem RA{H:Hp}{b:Addr}{o:Obj}(e:(Bf h H).get? b=some o):h.get? b=some o∧H b=none:=by
  have e':h.get? b=some o:=PySem.W.of_hideAll (trk h H) e;refine⟨e',?_⟩;cases q:H b with
  |none=>rfl
  |some x=>have hm:b∈trk h H:=jw.mpr ⟨mY.mpr (dg e'),by simp[q]⟩;have z:(Bf h H).get? b=none:=PySem.W.hideAll_none (trk h H) hm;rw[z] at e;cases e
structure Mod (K:PySem.W.Frag) (mg:Str→mR) (base:Heap):Prop where
  kin:K.In base
  glob:base.Ns mainGlobals mg
  blt:∃mb,base.Ns builtinsNs mb∧∀x:Str,x≠"__name__"→mb x=bootBuiltins x
  nolimit:base.NoLimit
structure Cx where
  prog:Program
  w:World
  K:PySem.W.Frag
  mg:Str→mR
  base:Heap
  A:Around
  N:gq
  s₀:Shared
  H₀:Hp
  env:Env
  outer:List Env
  stack:List Env
  ex:List Addr
  fn:Str→Bool
  calm:Bool
  pn:kH
  xe:lr
def Lq(l:List Env):List Addr:=l.filterMap (·.frame)
abbrev Cx.fs(X:Cx):List Addr:=Lq X.outer
def FD(sc:Scope)(x:Str):Prop:=sc.names.lookup x=some .local∨sc.names.lookup x=some .cell∨sc.names.lookup x=some .free
def Loc(sc:Scope)(x:Str):Prop:=sc.names.lookup x=some .local∨sc.names.lookup x=some .cell
def Look(env:Env)(h:Heap)(m:Str→mR)(x:Str)(u:Value):Prop :=
  (env.kindOf x=some .local∧m x=some u)∨((env.kindOf x=some .cell∨env.kindOf x=some .free)∧∃c,env.cells.lookup x=some c∧h.IsCell c (some u))
structure Cx.Ok (X:Cx):Prop where
  mod:Mod X.K X.mg X.base
  kind:X.env.scope.kind=.function
  glob:X.env.globals=mainGlobals
  blt:X.env.builtins=builtinsNs
  above:X.s₀.heap.objs.size≤X.env.locals
  inj:∀x y c,X.env.cells.lookup x=some c→X.env.cells.lookup y=some c→x=y
  has:∀x,(X.env.kindOf x=some .cell∨X.env.kindOf x=some .free)→∃c,X.env.cells.lookup x=some c
  XQ:∀x c,X.fn x=true→X.env.cells.lookup x=some c→X.s₀.heap.objs.size≤c
  hd:X.calm=true→X.A.handled=none
  frames:X.A.frames=some X.stack
  Yl:X.stack=X.outer∨(X.stack=X.env::X.outer∧X.env.frame=some X.env.locals)
  exf:∀b∈X.ex,b≠X.env.locals∧∀x c,X.env.cells.lookup x=some c→c≠b
  bs:∀b o,X.base.get? b=some o→X.s₀.heap.get? b=some o∧X.H₀ b=none
  Uv:X.base.objs.size≤X.s₀.heap.objs.size
  Lr:∀b o,X.base.get? b=some o→b∉X.ex
  Nx:∀b∈X.ex,b∉X.fs
  x8:X.s₀.heap.FunFrames X.base X.outer
  Vm:∀b∈X.fs,X.H₀ b=none
structure Inv (X:Cx) (pins:kH) (σ:List (Option V)) (H:Hp) (s:Shared):Prop where
  ok:X.Ok
  os:s.os=X.s₀.os
  bare:AllBare s.gens
  base:Un X.fs X.ex X.H₀ H X.s₀.heap s.heap
  loc:∃m,s.heap.Ns X.env.locals m∧∀(i:Nat) (x:Str) (v:V),X.N[i]?=some x→σ[i]?=some (some v)→FD X.env.scope x→∃u,RelV v u∧Look X.env s.heap m x u
  cell:∀x c,X.env.cells.lookup x=some c→∃v,s.heap.IsCell c v
  free:H X.env.locals=none
  jW:∀x c,X.env.cells.lookup x=some c→H c=none
  pin:∀p∈X.pn++pins,s.heap.get? p.1=some p.2∧H p.1=none∧p.1≠X.env.locals∧p.1∉X.fs∧∀v,p.2.data≠.cell v
  cY:ub X.prog X.w H s.heap
  len:σ.length=X.N.length
section
variable {X:Cx} {pins:kH} {σ:List (Option V)} {H H':Hp} {s:Shared} {h':Heap}
theorem Cx.Ok.abw(ok:X.Ok){b:Addr}{o:Obj}(e:X.base.get? b=some o):b∉X.fs:=fun hb=>by have:=(ok.x8.mem hb).1;rw[e] at this;cases this
theorem Inv.bs(I:Inv X pins σ H s):∀b o,X.base.get? b=some o→s.heap.get? b=some o∧H b=none:=fun b o e =>
  ⟨I.base.keep b o (I.ok.bs b o e).1 (I.ok.bs b o e).2 (I.ok.abw e) (I.ok.Lr b o e),I.base.free b o (I.ok.bs b o e).1 (I.ok.bs b o e).2 (I.ok.Lr b o e)⟩
theorem Inv.bk(I:Inv X pins σ H s):∀b o,X.base.get? b=some o→s.heap.get? b=some o:=fun b o e=>(I.bs b o e).1
theorem Inv.mod(I:Inv X pins σ H s):Mod X.K X.mg X.base:=I.ok.mod
theorem Inv.xH(I:Inv X pins σ H s):X.K.In s.heap:=I.ok.mod.kin.keeps I.bk
theorem Inv.lt(I:Inv X pins σ H s):X.env.locals<s.heap.objs.size:=let ⟨_,hn,_⟩:=I.loc;hn.lt
theorem Inv.sz(I:Inv X pins σ H s):X.s₀.heap.objs.size≤s.heap.objs.size:=pU I.ok.above (Nat.le_of_lt I.lt)
theorem Inv.Vn(I:Inv X pins σ H s)(h:s.heap.objs.size≤a):a∉X.fs:=fun hb=>by obtain⟨_,o,ho,_⟩:=I.ok.x8.mem hb;exact absurd (oN (dg ho) (pU I.sz h)) (Nat.lt_irrefl _)
theorem Inv.Vo(I:Inv X pins σ H s):∀x c,X.env.cells.lookup x=some c→c≠X.env.locals:=fun x c e z=>by obtain⟨v,o,ho,hd⟩:=I.cell x c e;obtain⟨m,⟨o',es,ep,Fl,hd',_⟩,_⟩:=I.loc;rw[z,Fl] at ho;cases ho;rw[hd'] at hd;cases hd
theorem Inv.x8(I:Inv X pins σ H s):s.heap.FunFrames X.base X.outer:=by
  have all:∀(l:List Env),(∀b∈Lq l,b∈X.fs)→X.s₀.heap.FunFrames X.base l→s.heap.FunFrames X.base l:=by
    intro l;induction l with
    |nil=>intro _ _;trivial
    |cons env r ih=>intro hs hl;obtain⟨hk,⟨L,o,hf,hn,ho,hd⟩,hr⟩:=hl;have hL:L∈X.fs:=hs L (by unfold Lq;rw[List.filterMap_cons,hf];exact de);obtain⟨sl,e⟩:=I.base.slot L o ho (I.ok.Vm L hL) hL fun z=>I.ok.Nx L z hL;exact⟨hk,⟨L,_,hf,hn,e,hd⟩,ih (fun b hb=>hs b (by unfold Lq;rw[List.filterMap_cons,hf];exact lJ _ hb)) hr⟩
  exact all X.outer (fun _ hb=>hb) I.ok.x8
theorem Inv.stack(I:Inv X pins σ H s):s.heap.FunFrames X.base X.stack:=by
  rcases I.ok.Yl with e|⟨e,hf⟩
  ·rw[e];exact I.x8
  ·rw[e];obtain⟨m,hn,_⟩:=I.loc;refine .cons (by rw[I.ok.kind];decide) hf hn ?_ I.x8;exact Heap.get?_none_of_le (pU I.ok.Uv I.ok.above)
theorem Inv.wu(I:Inv X pins σ H s):∀b∈Lq X.stack,b∈X.env.locals::X.fs:=fun b hb=>by
  rcases I.ok.Yl with e|⟨e,hf⟩
  ·rw[e] at hb;exact lJ _ hb
  ·rw[e] at hb;unfold Lq at hb;rw[List.filterMap_cons,hf] at hb;exact hb
theorem Inv.JC(I:Inv X pins σ H s):∀b∈Lq X.stack,H b=none:=fun b hb=>by
  rcases gw.mp (I.wu b hb) with e|hb
  ·rw[e];exact I.free
  ·obtain⟨_,o,ho,_⟩:=I.ok.x8.mem hb;exact I.base.free b o ho (I.ok.Vm b hb) fun z=>I.ok.Nx b z hb
theorem Inv.step{g':Array GenState}{t':Nat}{d':Drawn}{ch:List Addr}(I:Inv X pins σ H s)(Rj:∀b∈ch,(b∈X.ex∨X.s₀.heap.objs.size≤b)∧b≠X.env.locals∧(∀x c,X.env.cells.lookup x=some c→c≠b)∧∀p∈X.pn++pins,p.1≠b)(keep:∀b o,b≠X.env.locals→b∉X.fs→b∉ch→s.heap.get? b=some o→H b=none→h'.get? b=some o)(slot:∀b o,b≠X.env.locals→b∈X.fs→b∉ch→s.heap.get? b=some o→H b=none→∃sl,h'.get? b=some { o with slots:=sl })(free:∀b o,b∉ch→s.heap.get? b=some o→H b=none→H' b=none)(there:∀b o,b∉ch→s.heap.get? b=some o→∃o',h'.get? b=some o')(qH:∀b xs,H b=some (.tup xs)→H' b=some (.tup xs))(wq:∀b o u,H b=some (.ua o u)→H' b=some (.ua o u))(wt:∀b ps,H b=some (.Fj ps)→∃more,H' b=some (.Fj (ps++more)))(ns:∀m,s.heap.Ns X.env.locals m→h'.Ns X.env.locals m)(cY:ub X.prog X.w H' h')(hg:AllBare g'):Inv X pins σ H' { s with heap:=h',gens:=g',drawn:=d',toks:=t' }:=by
  have neL:∀b o,X.s₀.heap.get? b=some o→b≠X.env.locals:=fun b o e=>fT (oN (dg e) I.ok.above);have neC:∀b o,X.s₀.heap.get? b=some o→b∉X.ex→b∉ch:=fun b o e hx hb=>by
    rcases(Rj b hb).1 with z|z
    ·exact hx z
    ·exact absurd (oN (dg e) z) (Nat.lt_irrefl _)
  have cellK:∀x c,X.env.cells.lookup x=some c→∀v,s.heap.IsCell c v→h'.IsCell c v:=fun x c e v ⟨o,ho,hd⟩=>by
    have Ym:c∉ch:=fun z=>(Rj c z).2.2.1 x c e rfl;by_cases hc:c∈X.fs
    ·obtain⟨sl,q⟩:=slot c o (I.Vo x c e) hc Ym ho (I.jW x c e);exact⟨_,q,hd⟩
    ·exact⟨o,keep c o (I.Vo x c e) hc Ym ho (I.jW x c e),hd⟩
  refine⟨I.ok,I.os,hg,⟨fun b o e n hb hx=>?_,fun b o e n hb hx=>?_,fun b o e n hx=>?_,fun b o e hx=>?_,fun b xs e=>qH b xs (I.base.qH b xs e),fun b o xs e=>wq b o xs (I.base.wq b o xs e),fun b ps e=>?_⟩,?_,fun x c e=>?_,?_,fun x c e=>?_,fun p hp=>?_,cY,I.len⟩
  ·exact keep b o (neL b o e) hb (neC b o e hx) (I.base.keep b o e n hb hx) (I.base.free b o e n hx)
  ·obtain⟨sl,e1⟩:=I.base.slot b o e n hb hx;obtain⟨sl',e2⟩:=slot b _ (neL b o e) hb (neC b o e hx) e1 (I.base.free b o e n hx);exact⟨sl',e2⟩
  ·obtain⟨o',e1⟩:=I.base.there b o e hx;exact free b o' (neC b o e hx) e1 (I.base.free b o e n hx)
  ·obtain⟨o',e1⟩:=I.base.there b o e hx;exact there b o' (neC b o e hx) e1
  ·obtain⟨m1,e1⟩:=I.base.wt b ps e;obtain⟨m2,e2⟩:=wt b _ e1;exact⟨m1++m2,by rw[e2,Array.append_assoc]⟩
  · obtain⟨m,hn,hl⟩:=I.loc;refine⟨m,ns m hn,fun i x v e1 e2 e3=>?_⟩;obtain⟨u,r,l⟩:=hl i x v e1 e2 e3;refine⟨u,r,?_⟩;rcases l with l|⟨k,c,e,z⟩
    ·exact .inl l
    ·exact .inr ⟨k,c,e,cellK x c e _ z⟩
  ·obtain⟨v,z⟩:=I.cell x c e;exact⟨v,cellK x c e v z⟩
  ·obtain⟨m,⟨o,_,_,ho,_⟩,_⟩:=I.loc;exact free _ o (fun z=>(Rj _ z).2.1 rfl) ho I.free
  ·obtain⟨v,o,ho,hd⟩:=I.cell x c e;exact free c o (fun z=>(Rj c z).2.2.1 x c e rfl) ho (I.jW x c e)
  ·obtain⟨e,n,ne,nf,d⟩:=I.pin p hp;have Ym:p.1∉ch:=fun z=>(Rj p.1 z).2.2.2 p hp rfl;exact⟨keep p.1 p.2 ne nf Ym e n,free p.1 p.2 Ym e n,ne,nf,d⟩
theorem Inv.un(I:Inv X pins σ H s)(u:Un X.fs [] H H' s.heap h')(cY:ub X.prog X.w H' h'):Inv X pins σ H' { s with heap:=h',toks:=t' }:=by
  obtain⟨m,⟨o,es,ep,ho,r⟩,_⟩:=id I.loc;obtain⟨sl,hL⟩:=u.any ho I.free (by simp);exact I.step (g':=s.gens) (d':=s.drawn) (ch:=[]) (fun _ z=>nomatch z) (fun b o _ hb _ e n=>u.keep b o e n hb (by simp)) (fun b o _ hb _ e n=>u.slot b o e n hb (by simp)) (fun b o _ e n=>u.free b o e n (by simp)) (fun b o _ e=>u.there b o e (by simp)) u.qH u.wq u.wt (fun m' hm=>by
    obtain⟨o',es',ep',Fl,r'⟩:=hm;rw[ho] at Fl;cases Fl;exact⟨_,es',ep',hL,r'⟩) cY I.bare
theorem Inv.call{g':Array GenState}{d':Drawn}{ch:List Addr}(I:Inv X pins σ H s)(u:Un (Lq X.stack) ch H H' s.heap h')(cY:ub X.prog X.w H' h')(hg:AllBare g')(Rj:∀b∈ch,(b∈X.ex∨X.s₀.heap.objs.size≤b)∧b≠X.env.locals∧(∀x c,X.env.cells.lookup x=some c→c≠b)∧∀p∈X.pn++pins,p.1≠b):Inv X pins σ H' { s with heap:=h',gens:=g',drawn:=d',toks:=t' }:=by
  obtain⟨m,⟨o,es,ep,ho,r⟩,_⟩:=id I.loc;obtain⟨sl,hL⟩:=u.any ho I.free fun z=>(Rj _ z).2.1 rfl;exact I.step (ch:=ch) Rj (fun b o hL hb hc e n=>u.keep b o e n (fun z=>(gw.mp (I.wu b z)).elim hL hb) hc) (fun b o _ _ hc e n=>u.any e n hc) (fun b o hc e n=>u.free b o e n hc) (fun b o hc e=>u.there b o e hc) u.qH u.wq u.wt (fun m' hm=>by
    obtain⟨o',es',ep',Fl,r'⟩:=hm;rw[ho] at Fl;cases Fl;exact⟨_,es',ep',hL,r'⟩) cY hg
theorem Inv.turned{it:Addr}(I:Inv X pins σ H s)(k:∀b o,b≠it→s.heap.get? b=some o→h'.get? b=some o)(hn:H it=none)(hL:it≠X.env.locals)(h1:it∈X.ex∨X.s₀.heap.objs.size≤it)(h2:∀x c,X.env.cells.lookup x=some c→c≠it)(h3:∀p∈X.pn++pins,p.1≠it):Inv X pins σ H { s with heap:=h',toks:=t' }:=by
  have nit:∀b u,H b=some u→b≠it:=fun b u e z=>by rw[z,hn] at e;cases e
  refine I.step (g':=s.gens) (d':=s.drawn) (ch:=[it]) (fun b hb=>?_) (fun b o _ _ hc e _=>k b o (fun z=>hc (by simp[z])) e) (fun b o _ _ hc e _=>⟨o.slots,k b o (fun z=>hc (by simp[z])) e⟩) (fun _ _ _ _ n=>n)
    (fun b o hc e=>⟨o,k b o (fun z=>hc (by simp[z])) e⟩) (fun _ _ e=>e) (fun _ _ _ e=>e) (fun b ps e=>⟨#[],by rw[e];simp⟩) (fun m hm=>?_) (fun b u e=>?_) I.bare
  · have e:b=it:=by simpa using hb
    subst e;exact⟨h1,hL,h2,h3⟩
  ·obtain⟨o,es,ep,ho,r⟩:=hm;exact⟨o,es,ep,k _ o (Ne.symm hL) ho,r⟩
  · refine(I.cY b u e).pW (fun c v hc q=>k c v ?_ q) (fun _ q=>q) fun _ _ q=>q;rcases hc with z|z
    ·rw[z];exact nit b u e
    ·exact nit c _ z
theorem Inv.tok(I:Inv X pins σ H s)(t:Nat):Inv X pins σ H { s with toks:=t }:=I.un (h':=s.heap) (t':=t) Un.refl I.cY
theorem Inv.kept(I:Inv X pins σ H s)(k:∀b u,s.heap.get? b=some u→h'.get? b=some u):Inv X pins σ H { s with heap:=h',toks:=t' }:=I.un (Un.kept k) (I.cY.kept k)
theorem Inv.laid{o:HO}(I:Inv X pins σ H s)(k:∀b u,s.heap.get? b=some u→h'.get? b=some u)(hp:s.heap.objs.size≤a)(new:cy X.prog X.w (upd H a o) h' a o):Inv X pins σ (upd H a o) { s with heap:=h',toks:=t' }:=I.un (Un.laid k hp (I.cY.fresh hp)) (I.cY.laid k hp new)
theorem Inv.write{x e:Addr}{o:HO}(I:Inv X pins σ H s)(mu:XM (H x))(he:e=x∨H e=some (.own x))(k:∀b u,b≠e→s.heap.get? b=some u→h'.get? b=some u)(XO:∃u,h'.get? e=some u)(new:cy X.prog X.w (upd H x o) h' x o):Inv X pins σ (upd H x o) { s with heap:=h',toks:=t' }:=I.un (Un.write mu he k XO) (I.cY.write mu he k XO new)
theorem Inv.Dp{Uw:kH}(I:Inv X pins σ H s)(h:∀p∈Uw,s.heap.get? p.1=some p.2∧H p.1=none∧p.1≠X.env.locals∧p.1∉X.fs∧∀v,p.2.data≠.cell v):Inv X Uw σ H s :=
  ⟨I.ok,I.os,I.bare,I.base,I.loc,I.cell,I.free,I.jW,fun p hp=>(mX.mp hp).elim (fun z=>I.pin p (A9 _ z)) (h p),I.cY,I.len⟩
theorem FE(hN:N.Nodup)(a:N[i]?=some x)(b:N[j]?=some x):i=j:=by obtain⟨h1,e1⟩:=v9.mp a;obtain⟨h2,e2⟩:=v9.mp b;exact(List.getElem_inj hN).mp (e1.trans e2.symm)
theorem BV{M:Model}{v:V}{Q:Unit→Shared→Prop}(I:Inv X pins σ H s)(hN:X.N.Nodup)(hi:X.N[i]?=some x)(hx:Loc X.env.scope x)(r:RelV v u)(h:∀s',Inv X pins (σ.set i (some v)) H s'→(∃a,Heap.SameBut a s.heap s'.heap∧(a=X.env.locals∨X.env.cells.lookup x=some a))→Q () s')(hf:X.fn x=true∨X.env.scope.names.lookup x=some .local:=by first|exact .inl rfl|exact .inr rfl|assumption):wpAny M A (storeName X.env x u) Q E s:=by
  obtain⟨m,hn,hl⟩:=id I.loc;have abx:(X.env.scope.kind==.class||(X.env.scope.kind==.module&&X.env.locals != X.env.globals))=false:=by rw[I.ok.kind];rfl
  have hiσ:i<σ.length:=by rw[I.len];exact(v9.mp hi).1
  have Vo:=I.Vo;have tracked:∀{a:Addr} {h':Heap},(∃o,s.heap.get? a=some o∧H a=none)→Heap.SameBut a s.heap h'→ub X.prog X.w H h':=fun {a h'} ha hs b ob e=>by
    obtain⟨_,_,JD⟩:=ha;refine(I.cY b ob e).pW (fun c w' hc q=>(hs.2 c ?_).trans q) (fun _ q=>q) fun _ _ q=>q;rintro rfl;rcases hc with rfl|hc
    ·rw[JD] at e;cases e
    ·rw[JD] at hc;cases hc
  rcases hx with hk|hk
  · refine wpAny_storeName_local hk hn (fun h' Yn hs=>?_) abx;obtain⟨oL,_,_,Ny,_⟩:=id hn;refine h _ ⟨I.ok,I.os,I.bare,⟨fun b o e n hb hx=>?_,fun b o e n hb hx=>?_,I.base.free,fun b o e hx=>?_,I.base.qH,I.base.wq,I.base.wt⟩,⟨_,Yn,fun j y v' e1 e2 e3=>?_⟩,fun y c e=>?_,I.free,I.jW,fun p hp=>?_,tracked ⟨oL,Ny,I.free⟩ hs,by simpa using I.len⟩ ⟨_,hs,.inl rfl⟩
    ·exact(hs.2 b (fT (oN (dg e) I.ok.above))).trans (I.base.keep b o e n hb hx)
    ·obtain⟨sl,e1⟩:=I.base.slot b o e n hb hx;exact⟨sl,(hs.2 b (fT (oN (dg e) I.ok.above))).trans e1⟩
    ·obtain⟨o',e1⟩:=I.base.there b o e hx;exact⟨o',(hs.2 b (fT (oN (dg e) I.ok.above))).trans e1⟩
    · by_cases hj:j=i
      ·subst hj;rw[hi] at e1;cases e1;rw[List.getElem?_set_self hiσ] at e2;cases e2;exact⟨u,r,.inl ⟨hk,by simp⟩⟩
      · rw[List.getElem?_set_ne (Ne.symm hj)] at e2;obtain⟨u',r',q⟩:=hl j y v' e1 e2 e3;refine⟨u',r',?_⟩;rcases q with⟨k,e⟩|⟨k,c,e,z⟩
        ·refine .inl ⟨k,?_⟩;have:y≠x:=fun e=>hj (FE hN e1 (e▸hi));simp[this,e]
        ·exact .inr ⟨k,c,e,z.sameBut hs (Vo y c e)⟩
    ·obtain⟨w',z⟩:=I.cell y c e;exact⟨w',z.sameBut hs (Vo y c e)⟩
    ·obtain⟨e,n,ne,nf,d⟩:=I.pin p hp;exact⟨(hs.2 p.1 ne).trans e,n,ne,nf,d⟩
  · have hfn:X.fn x=true:=by
      rcases hf with z|z
      ·exact z
      ·rw[z] at hk;cases hk
    obtain⟨c,hc⟩:=I.ok.has x (.inl hk);obtain⟨w',z⟩:=I.cell x c hc;refine wpAny_storeName_cell I.ok.kind hk hc z (fun h' Dq hs=>?_);obtain⟨oc,hoc,abz⟩:=id z;refine h { s with heap:=h' } ⟨I.ok,I.os,I.bare,⟨fun b o e n hb hx=>?_,fun b o e n hb hx=>?_,I.base.free,fun b o e hx=>?_,I.base.qH,I.base.wq,I.base.wt⟩,⟨m,hn.sameBut hs (Ne.symm (Vo x c hc)),fun j y v' e1 e2 e3=>?_⟩,fun y c' e=>?_,I.free,I.jW,fun p hp=>?_,tracked ⟨oc,hoc,I.jW x c hc⟩ hs,by simpa using I.len⟩ ⟨c,hs,.inr hc⟩
    ·exact(hs.2 b (fT (oN (dg e) (I.ok.XQ x c hfn hc)))).trans (I.base.keep b o e n hb hx)
    ·obtain⟨sl,e1⟩:=I.base.slot b o e n hb hx;exact⟨sl,(hs.2 b (fT (oN (dg e) (I.ok.XQ x c hfn hc)))).trans e1⟩
    ·obtain⟨o',e1⟩:=I.base.there b o e hx;exact⟨o',(hs.2 b (fT (oN (dg e) (I.ok.XQ x c hfn hc)))).trans e1⟩
    · by_cases hj:j=i
      ·subst hj;rw[hi] at e1;cases e1;rw[List.getElem?_set_self hiσ] at e2;cases e2;exact⟨u,r,.inr ⟨.inl hk,c,hc,Dq⟩⟩
      · rw[List.getElem?_set_ne (Ne.symm hj)] at e2;obtain⟨u',r',q⟩:=hl j y v' e1 e2 e3;refine⟨u',r',?_⟩;rcases q with q|⟨k,c',e,z'⟩
        ·exact .inl q
        ·refine .inr ⟨k,c',e,z'.sameBut hs ?_⟩;rintro rfl;exact hj (FE hN e1 (I.ok.inj _ _ _ e hc▸hi))
    · by_cases XR:c'=c
      ·subst XR;exact⟨_,Dq⟩
      ·obtain⟨w2,z2⟩:=I.cell y c' e;exact⟨w2,z2.sameBut hs XR⟩
    ·obtain⟨e,n,ne,nf,d⟩:=I.pin p hp;refine⟨(hs.2 p.1 ?_).trans e,n,ne,nf,d⟩;intro q;rw[q,hoc] at e;have q':oc=p.2:=oq e;exact d w' (by rw[←q'];exact abz)
theorem FG{M:Model}{v:V}{Q:Unit→Shared→Prop}(I:Inv X pins σ H s)(hN:X.N.Nodup)(hi:X.N[i]?=some x)(hx:Loc X.env.scope x)(r:RelV v u)(h:∀s',Inv X pins (σ.set i (some v)) H s'→Q () s')(hf:X.fn x=true∨X.env.scope.names.lookup x=some .local:=by first|exact .inl rfl|exact .inr rfl|assumption):wpAny M A (storeName X.env x u) Q E s :=
  BV I hN hi hx r (fun s' I' _=>h s' I') hf
theorem Inv.Yo{s':Shared}{ch:List Addr}(I:Inv X pins σ H s)(ho:s'.os=s.os)(u:Un (Lq X.stack) ch H H' s.heap s'.heap)(cY:ub X.prog X.w H' s'.heap)(hg:AllBare s'.gens)(Rj:∀b∈ch,(b∈X.ex∨X.s₀.heap.objs.size≤b)∧b≠X.env.locals∧(∀x c,X.env.cells.lookup x=some c→c≠b)∧∀p∈X.pn++pins,p.1≠b):Inv X pins σ H' s':=by
  obtain⟨h',g',d',t',o'⟩:=s';have e:o'=s.os:=ho;subst e;exact I.call (g':=g') (t':=t') (d':=d') u cY hg Rj
end
abbrev XK:=Value→Option Addr→Hp→Prop
abbrev St:=List (Option V)
abbrev VK:=V→Hp→Prop
abbrev TE:=St→Hp→VK→Prop
abbrev TT:=St→Hp→(Bool→Hp→Prop)→Prop
abbrev TA:=St→Hp→(List V→Hp→Prop)→Prop
structure Ends where
  nx:St→Hp→Prop
  rt:VK
  bk:St→Hp→Prop:=fun _ _=>False
  ct:St→Hp→Prop:=fun _ _=>False
abbrev TS:=Ends→St→Hp→Prop
def EP(X:Cx)(pins:kH)(σ:St)(Q:VK)(u:Value)(s':Shared):Prop:=∃v H',Inv X pins σ H' s'∧RelV v u∧Q v H'
def TP(X:Cx)(pins:kH)(σ:St)(Q:Bool→Hp→Prop)(b:Bool)(s':Shared):Prop:=∃H',Inv X pins σ H' s'∧Q b H'
def AP(X:Cx)(pins:kH)(σ:St)(Q:List V→Hp→Prop)(us:ef)(s':Shared):Prop:=∃vs H',Inv X pins σ H' s'∧Vals vs us∧Q vs H'
def SP(X:Cx)(pins:kH)(D:Ends)(f:Flow)(s':Shared):Prop :=
  match f with
  |.next=>∃σ' H',Inv X pins σ' H' s'∧D.nx σ' H'
  |.brk=>∃σ' H',Inv X pins σ' H' s'∧D.bk σ' H'
  |.cont=>∃σ' H',Inv X pins σ' H' s'∧D.ct σ' H'
  |.ret u=>∃v σ' H',Inv X pins σ' H' s'∧RelV v u∧D.rt v H'
def PE(X:Cx)(e:Expr)(t:TE):Prop :=
  ∀(pins:kH) (s:Shared) (σ:St) (H:Hp) (Q:VK),Inv X pins σ H s→t σ H Q→wpAny (model X.prog X.w) X.A (eval e X.env) (EP X pins σ Q) X.xe s
def PT(X:Cx)(e:Expr)(t:TT):Prop :=
  ∀(pins:kH) (s:Shared) (σ:St) (H:Hp) (Q:Bool→Hp→Prop),Inv X pins σ H s→t σ H Q→wpAny (model X.prog X.w) X.A (isTrue e X.env (eval e X.env)) (TP X pins σ Q) X.xe s
def PW(X:Cx)(e:Expr)(t:TT):Prop :=
  ∀(whole:Sem Value) (pins:kH) (s:Shared) (σ:St) (H:Hp) (Q:Bool→Hp→Prop),Inv X pins σ H s→t σ H Q→wpAny (model X.prog X.w) X.A (isTrue e X.env whole) (TP X pins σ Q) X.xe s
theorem PW.pt{X:Cx}{t:TT}(h:PW X e t):PT X e t:=h _
def PA(X:Cx)(es:List Expr)(t:TA):Prop :=
  ∀(pos:Pos) (pins:kH) (s:Shared) (σ:St) (H:Hp) (Q:List V→Hp→Prop),Inv X pins σ H s→t σ H Q→wpAny (model X.prog X.w) X.A (spliced (backTo pos (starEach es X.env))) (AP X pins σ Q) X.xe s
def PS(X:Cx)(st:Stmt)(t:TS):Prop :=
  ∀(pins:kH) (s:Shared) (σ:St) (H:Hp) (D:Ends),Inv X pins σ H s→t D σ H→wpAny (model X.prog X.w) X.A (exec st X.env) (SP X pins D) X.xe s
def Bg(X:Cx)(st:List Stmt)(t:TS):Prop :=
  ∀(pins:kH) (s:Shared) (σ:St) (H:Hp) (D:Ends),Inv X pins σ H s→t D σ H→wpAny (model X.prog X.w) X.A (execs st X.env) (SP X pins D) X.xe s
theorem gT{α:Type}{t:Sem α}{Q Q':α→Shared→Prop}{M:Model}(h:wpAny M A t Q E s)(hQ:∀a s,Q a s→Q' a s):wpAny M A t Q' E s:=pV h hQ fun _ _ x=>x
section
variable {X:Cx}
theorem bin{a b:Expr}{ta tb:TE}(ha:PE X a ta)(hb:PE X b tb){σ:St}{H:Hp}{R:V→V→Hp→Prop}(I:Inv X pins σ H s)(h:ta σ H fun x H1=>tb σ H1 fun y H2=>R x y H2){α:Type}{Q:α→Shared→Prop}{f:Value→Value→Sem α}(hf:∀v u s2 x y H2,Inv X pins σ H2 s2→RelV x v→RelV y u→R x y H2→wpAny (model X.prog X.w) X.A (f v u) Q X.xe s2):wpAny (model X.prog X.w) X.A (eval a X.env) (fun v s₁=>wpAny (model X.prog X.w) X.A (eval b X.env) (fun u s₂=>wpAny (model X.prog X.w) X.A (f v u) Q X.xe s₂) X.xe s₁) X.xe s:=by
  refine gT (ha pins s σ H _ I h) fun v s1 ⟨x,H1,I1,r1,q1⟩=>?_;refine gT (hb pins s1 σ H1 _ I1 q1) fun u s2 ⟨y,H2,I2,r2,q2⟩=>?_;exact hf v u s2 x y H2 I2 r1 r2 q2
def abA(i:Nat):TE:=fun σ H Q=>∃v,σ[i]?=some (some v)∧Q v H
def tC(v:V):TE:=fun _ H Q=>Q v H
theorem kJ(hN:X.N[i]?=some x)(hv:FD X.env.scope x)(hd:(x==("__debug__":Str))=false:=by decide)(ow:(x==("__classdict__":Str))=false:=by decide):PE X (.Name x pos) (abA i):=by
  intro pins s σ H Q I h;obtain⟨v,e,h⟩:=h;obtain⟨m,hn,hl⟩:=I.loc;obtain⟨u,r,l⟩:=hl i x v hN e hv;have fin:EP X pins σ Q u s:=⟨v,H,I,r,h⟩
  rcases l with⟨hk,hm⟩|⟨hk,c,hc,JF⟩
  ·exact wpAny_Name (wpAny_loadName_local I.ok.kind hk hn hm fin) hd
  · rcases hk with hk|hk
    ·exact wpAny_Name (wpAny_loadName_cell I.ok.kind hk hc JF fin) hd
    ·exact wpAny_Name (wpAny_loadName_free I.ok.kind hk hc JF fin ow) hd
theorem Vp{i j pos}:PE X (.Constant (.int i) j pos) (tC (.int i)):=fun _ _ _ H _ I h=>wpAny_Constant_int ⟨.int i,H,I.tok _,⟨_,rfl⟩,h⟩
theorem Yp{b j pos}:PE X (.Constant (.bool b) j pos) (tC (.bl b)):=fun _ _ _ H _ I h=>Constant_bool ⟨.bl b,H,I,rfl,h⟩
theorem Vq{j pos}:PE X (.Constant .none j pos) (tC .non):=fun _ _ _ H _ I h=>Constant_none ⟨.non,H,I,rfl,h⟩
def Gl(X:Cx)(x:Str):Prop:=X.env.kindOf x=some .globalImplicit
theorem sC{σ:St}{H:Hp}(I:Inv X pins σ H s)(hg:Gl X x)(hm:X.mg x=some u)(h:Q u s)(hd:(x==("__debug__":Str))=false:=by decide):wpAny (model X.prog X.w) X.A (eval (.Name x pos) X.env) Q E s :=
  Calls.Name_function_global I.ok.kind hg (Calls.loadGlobal_global (by rw[I.ok.glob];exact I.mod.glob.keeps I.bk) hm h) hd
theorem jX{σ:St}{H:Hp}(I:Inv X pins σ H s)(hg:Gl X x)(hm:X.mg x=none)(hv:bootBuiltins x=some u)(h:Q u s)(hn:x≠"__name__":=by decide)(hd:(x==("__debug__":Str))=false:=by decide):wpAny (model X.prog X.w) X.A (eval (.Name x pos) X.env) Q E s:=by
  obtain⟨mb,h1,h2⟩:=I.mod.blt;exact Calls.Name_function_global I.ok.kind hg (Calls.loadGlobal_builtin (by rw[I.ok.glob];exact I.mod.glob.keeps I.bk) hm (by rw[I.ok.blt];exact h1.keeps I.bk) ((h2 x hn).trans hv) h) hd
theorem RB{v:V}(hg:Gl X x)(hm:X.mg x=some u)(r:RelV v u)(hd:(x==("__debug__":Str))=false:=by decide):PE X (.Name x pos) (tC v) :=
  fun _ _ _ H _ I h=>sC I hg hm ⟨v,H,I,r,h⟩ hd
theorem RC{v:V}(hg:Gl X x)(hm:X.mg x=none)(hv:bootBuiltins x=some u)(r:RelV v u)(hn:x≠"__name__":=by decide)(hd:(x==("__debug__":Str))=false:=by decide):PE X (.Name x pos) (tC v) :=
  fun _ _ _ H _ I h=>jX I hg hm hv ⟨v,H,I,r,h⟩ hn hd
variable {a b:Expr} {ta tb:TE} {pos:Pos}
def PC(X:Cx)(op:CmpOp)(a b:Expr)(t:TE):Prop :=
  ∀(pins:kH) (s:Shared) (σ:St) (H:Hp) (Q:VK),Inv X pins σ H s→t σ H Q →
   wpAny (model X.prog X.w) X.A (eval a X.env) (fun v s₁=>wpAny (model X.prog X.w) X.A (eval b X.env) (fun u s₂=>wpAny (model X.prog X.w) X.A (compareOp op v u) (EP X pins σ Q) X.xe s₂) X.xe s₁) X.xe s
theorem Nz(b:Expr)(h:op≠.In)(h2:op≠.NotIn):behindInMarks op b=false:=by
  have e1:(op==CmpOp.In)=false:=by cases op<;>first|rfl|exact absurd rfl h
  have e2:(op==CmpOp.NotIn)=false:=by cases op<;>first|rfl|exact absurd rfl h2
  cases b<;>simp[behindInMarks,e1,e2]
def tB(t:TE):TT:=fun σ H Q=>t σ H fun x H1=>∃c,x=.bl c∧Q c H1
theorem abB{t:TE}(h:PC X op a b t)(h1:behindInMarks op b=false:=by first|exact Nz _ (by decide) (by decide)|rfl):PT X (.Compare a [op] [b] pos) (tB t):=by intro pins s σ H Q I hw;refine wpAny_isTrue_Compare1 (gT (h pins s σ H _ I hw) fun v s1 h1=>gT h1 fun u s2 h2=>gT h2 fun c s3 ⟨x,H1,I1,r1,q1⟩=>?_) h1;obtain⟨d,rfl,q⟩:=q1;cases r1;exact wpAny_truthy_bool ⟨H1,I1,q⟩
theorem Vr{t:TE}(h:PE X e t)(he:∀whole,isTrue e X.env whole=(do let v ←whole;standAt e.pos;holding [v] (truthy v)):=by intro _;rfl):PT X e (tB t):=by intro pins s σ H Q I hw;refine isTrue_plain (gT (h pins s σ H _ I hw) fun v s1 ⟨x,H1,I1,r1,q1⟩=>?_) (he _);obtain⟨d,rfl,q⟩:=q1;cases r1;exact wpAny_truthy_bool ⟨H1,I1,q⟩
variable {tA tB':TT} {rest:List Expr}
def tOr(t u:TT):TT:=fun σ H Q=>t σ H fun c H1=>if c=true then Q true H1 else u σ H1 Q
def abC(t:TT):TT:=fun σ H Q=>t σ H fun c H1=>Q (!c) H1
theorem pw_or1(ha:PT X a tA):PW X (.BoolOp .Or [a] pos) tA:=by
  intro wh pins s σ H Q I h;refine isTrue_or (gT (ha pins s σ H Q I h) fun c s1 e=>?_);cases c with
  |false=>exact isTrue_or_nil e
  |true=>exact e
theorem pw_or(ha:PT X a tA)(hb:PW X (.BoolOp .Or (b::rest) pos) tB'):PW X (.BoolOp .Or (a::b::rest) pos) (tOr tA tB'):=by
  intro wh pins s σ H Q I h;refine isTrue_or (gT (ha pins s σ H _ I h) fun c s1 ⟨H1,I1,q1⟩=>?_);cases c with
  |true=>exact⟨H1,I1,q1⟩
  |false=>exact hb wh pins s1 σ H1 Q I1 q1
theorem Vs(ha:PT X a tA):PT X (.UnaryOp .Not a pos) (abC tA):=by intro pins s σ H Q I h;exact isTrue_not (ha pins s σ H (fun c H1=>Q (!c) H1) I h)
def Yq(ta tb:TE):TE:=fun σ H Q=>ta σ H fun x H1=>∃c,x=.bl c∧if c=true then tb σ H1 Q else Q (.bl false) H1
def Yr(ta:TE):TE:=fun σ H Q=>ta σ H fun x H1=>∃c,x=.bl c∧Q (.bl (!c)) H1
theorem Vt{op}{t:TE}(h:PE X a t):PE X (.BoolOp op [a] pos) t:=fun pins s σ H Q I hw=>BoolOp_one (h pins s σ H Q I hw)
theorem Vu(ha:PE X a ta)(hb:PE X (.BoolOp .And (b::rest) pos) tb):PE X (.BoolOp .And (a::b::rest) pos) (Yq ta tb):=by
  intro pins s σ H Q I h;refine BoolOp_and (gT (ha pins s σ H _ I h) fun v s1 ⟨x,H1,I1,r1,q1⟩=>?_);obtain⟨c,rfl,q1⟩:=q1;cases r1;refine wpAny_truthy_bool ?_;cases c with
  |true=>exact hb pins s1 σ H1 Q I1 q1
  |false=>exact⟨.bl false,H1,I1,rfl,q1⟩
theorem Vv(ha:PE X a ta):PE X (.UnaryOp .Not a pos) (Yr ta):=by intro pins s σ H Q I h;refine UnaryOp_ (gT (ha pins s σ H _ I h) fun v s1 ⟨x,H1,I1,r1,q1⟩=>?_);obtain⟨c,rfl,q1⟩:=q1;cases r1;exact not_of (wpAny_truthy_bool ⟨.bl (!c),H1,I1,rfl,q1⟩)
end
def m4(K:PySem.W.Frag)(H:Hp)(a:Addr)(xs:List V):Prop :=
  Rd H a (.lst xs) ∨
    ∃(o:Obj) (its:Array Value) (n:Nat),K.lookup a=some o∧o.cls=.type "list"∧o.dict=none∧o.data=.seq its n∧its.size≤sizeLine∧Vals xs its.toList
def kA(K:PySem.W.Frag)(H:Hp)(a:Addr)(xs:List V):Prop :=
  Rd H a (.tup xs) ∨
    ∃(o:Obj) (its:Array Value) (n:Nat),K.lookup a=some o∧o.cls=.type "tuple"∧o.data=.seq its n∧its.size≤sizeLine∧Vals xs its.toList
def abD:Value→Option V
  |.none=>some .non
  |.bool b=>some (.bl b)
  |.int i _=>some (.int i)
  |.str x _=>some (.str x)
  |.bytes b _=>some (.Nv b)
  |.float b _=>some (.XJ b)
  |.ref a=>some (.ref a)
  |.type n=>some (.ty n)
  |_=>none
theorem RelV.abs{x:V}(r:RelV x u):abD u=some x:=by
  cases x with
  |non=>cases r;rfl
  |bl _=>cases r;rfl
  |int _=>obtain⟨t,rfl⟩:=r;rfl
  |str _=>obtain⟨t,rfl⟩:=r;rfl
  |Nv _=>obtain⟨t,rfl⟩:=r;rfl
  |XJ _=>obtain⟨t,rfl⟩:=r;rfl
  |ref _=>cases r;rfl
  |ty _=>cases r;rfl
theorem RelV.inj{x y:V}(r:RelV x u)(q:RelV y u):x=y:=oq (r.abs.symm.trans q.abs)
theorem Vals.inj:∀{xs ys:List V} {us:ef},Vals xs us→Vals ys us→xs=ys
  |_,_,_,.nil,.nil=>rfl
  |_,_,_,.cons r t,.cons r' t'=>by rw[r.inj r',Vals.inj t t']
section
variable {X:Cx} {pins:kH} {σ:St} {H:Hp} {s:Shared} {a:Addr} {xs ys:List V}
theorem m4.of{K:PySem.W.Frag}(h:H a=some (.lst xs)):m4 K H a xs:=.inl (.inl h)
theorem kA.of{K:PySem.W.Frag}(h:H a=some (.tup xs)):kA K H a xs:=.inl (.inl h)
theorem Inv.list(I:Inv X pins σ H s)(h:m4 X.K H a xs):∃its:ef,Vals xs its∧PlainL s.heap a its.toArray∧xs.length≤sizeLine:=by
  rcases h with h|⟨o,its,n,hk,hc,hd,hs,hz,r⟩
  ·obtain⟨z,its,n,r,e⟩:=h.ok I.cY;exact⟨its,r,⟨_,n,e,rfl,rfl,rfl⟩,z⟩
  ·refine⟨its.toList,r,⟨o,n,I.xH a o hk,hc,hd,by simpa using hs⟩,?_⟩;have e:=r.length;simp only[oo] at e;omega
theorem Inv.tuple(I:Inv X pins σ H s)(h:kA X.K H a xs):∃its:ef,Vals xs its∧IsTup s.heap a its.toArray∧xs.length≤sizeLine:=by
  rcases h with h|⟨o,its,n,hk,hc,hs,hz,r⟩
  ·obtain⟨z,its,r,p⟩:=h.ok I.cY;exact⟨its,r,p,z⟩
  ·refine⟨its.toList,r,⟨o,I.xH a o hk,hc,n,by simpa using hs⟩,?_⟩;have e:=r.length;simp only[oo] at e;omega
theorem Inv.FH(I:Inv X pins σ H s)(h:m4 X.K H a xs)(h':m4 X.K H a ys):xs=ys:=by
  obtain⟨its,r,⟨o,n,e,_,_,d⟩,_⟩:=I.list h;obtain⟨its',r',⟨o',n',e',_,_,d'⟩,_⟩:=I.list h';rw[e] at e';cases e';rw[d] at d';injection d' with d1 _;have:its=its':=by simpa using g6 Array.toList d1
  subst this;exact r.inj r'
theorem Inv.Ls(I:Inv X pins σ H s)(h:kA X.K H a xs)(h':kA X.K H a ys):xs=ys:=by
  obtain⟨its,r,⟨o,e,_,n,d⟩,_⟩:=I.tuple h;obtain⟨its',r',⟨o',e',_,n',d'⟩,_⟩:=I.tuple h';rw[e] at e';cases e';rw[d] at d';injection d' with d1 _;have:its=its':=by simpa using g6 Array.toList d1
  subst this;exact r.inj r'
end
abbrev Cx.x9(X:Cx)(E:lr):Cx:={ X with xe:=E }
abbrev Cx.Hs(X:Cx):Cx:=X.x9 fun _ _=>False
theorem Cx.Ok.x9{X:Cx}(ok:X.Ok)(E:lr):(X.x9 E).Ok :=
  ⟨ok.mod,ok.kind,ok.glob,ok.blt,ok.above,ok.inj,ok.has,ok.XQ,ok.hd,ok.frames,ok.Yl,ok.exf,ok.bs,ok.Uv,ok.Lr,ok.Nx,ok.x8,ok.Vm⟩
theorem Cx.Ok.oO{X:Cx}(ok:(X.x9 E).Ok):X.Ok :=
  ⟨ok.mod,ok.kind,ok.glob,ok.blt,ok.above,ok.inj,ok.has,ok.XQ,ok.hd,ok.frames,ok.Yl,ok.exf,ok.bs,ok.Uv,ok.Lr,ok.Nx,ok.x8,ok.Vm⟩
section
variable {X:Cx} {pins:kH} {σ:St} {H:Hp} {s:Shared} {E:lr}
theorem Inv.x9(I:Inv X pins σ H s)(E:lr):Inv (X.x9 E) pins σ H s:=⟨I.ok.x9 E,I.os,I.bare,I.base,I.loc,I.cell,I.free,I.jW,I.pin,I.cY,I.len⟩
theorem Inv.oO(I:Inv (X.x9 E) pins σ H s):Inv X pins σ H s:=⟨I.ok.oO,I.os,I.bare,I.base,I.loc,I.cell,I.free,I.jW,I.pin,I.cY,I.len⟩
theorem SP.oO{D:Ends}{f:Flow}{s':Shared}(h:SP (X.x9 E) pins D f s'):SP X pins D f s':=by
  cases f with
  |next=>obtain⟨σ',H',I,q⟩:=h;exact⟨σ',H',I.oO,q⟩
  |brk=>obtain⟨σ',H',I,q⟩:=h;exact⟨σ',H',I.oO,q⟩
  |cont=>obtain⟨σ',H',I,q⟩:=h;exact⟨σ',H',I.oO,q⟩
  |ret u=>obtain⟨v,σ',H',I,r,q⟩:=h;exact⟨v,σ',H',I.oO,r,q⟩
theorem PE.Hs{t:TE}(h:PE X.Hs e t):PE X e t:=fun pins s σ H Q I hw =>
  pV (h pins s σ H Q (I.x9 _) hw) (fun _ _ ⟨v,H',I',r,q⟩=>⟨v,H',I'.oO,r,q⟩) fun _ _ z=>False.elim z
theorem PT.Hs{t:TT}(h:PT X.Hs e t):PT X e t:=fun pins s σ H Q I hw =>
  pV (h pins s σ H Q (I.x9 _) hw) (fun _ _ ⟨H',I',q⟩=>⟨H',I'.oO,q⟩) fun _ _ z=>False.elim z
theorem Bg.Hs{st:List Stmt}{t:TS}(h:Bg X.Hs st t):Bg X st t:=fun pins s σ H D I hw =>
  pV (h pins s σ H D (I.x9 _) hw) (fun _ _ q=>q.oO) fun _ _ z=>False.elim z
end
section
variable {X:Cx} {st:Stmt} {rest:List Stmt} {t u:TS} {e:Expr} {te:TE} {pos:Pos}
def Ys:TS:=fun D σ H=>D.nx σ H
def abE(t u:TS):TS:=fun D σ H=>t { D with nx:=u D } σ H
theorem RD:Bg X [] Ys:=fun _ _ σ H _ I h=>wpAny_execs_nil ⟨σ,H,I,h⟩
theorem NB(h1:PS X st t)(h2:Bg X rest u):Bg X (st::rest) (abE t u):=by
  intro pins s σ H D I h;refine wpAny_execs_cons (gT (h1 pins s σ H { D with nx:=u D } I h) fun f s1 q=>?_);cases f with
  |next=>obtain⟨σ',H',I',q⟩:=q;exact h2 pins s1 σ' H' D I' q
  |ret v=>exact q
  |brk=>exact q
  |cont=>exact q
theorem RG(h1:PS X st t):Bg X [st] t:=by
  intro pins s σ H D I h;refine wpAny_execs_cons (gT (h1 pins s σ H D I h) fun f s1 q=>?_);cases f with
  |next=>exact wpAny_execs_nil q
  |ret v=>exact q
  |brk=>exact q
  |cont=>exact q
theorem Inv.quiet{σ:St}{H:Hp}(I:Inv X pins σ H s):interactive X.env=false:=by simp[interactive,I.ok.kind]
def Yt(te:TE):TS:=fun D σ H=>te σ H fun _ H1=>D.nx σ H1
theorem JG(he:PE X e te)(hs:swapsWith e none pos.line X.env=pure false:=by rfl):PS X (.Expr e pos) (Yt te):=by intro pins s σ H D I h;exact wpAny_Expr_any (gT (he pins s σ H _ I h) fun v s1 ⟨x,H1,I1,r1,q1⟩=>⟨σ,H1,I1,q1⟩) I.quiet hs
def abF(te:TE):TS:=fun D σ H=>te σ H D.rt
theorem yN(he:PE X e te):PS X (.Return (some e) pos) (abF te):=by intro pins s σ H D I h;exact wpAny_Return_some (gT (he pins s σ H _ I h) fun v s1 ⟨x,H1,I1,r1,q1⟩=>⟨x,σ,H1,I1,r1,q1⟩)
def abG(c:TT)(t u:TS):TS:=fun D σ H=>c σ H fun b H1=>if b=true then t D σ H1 else u D σ H1
theorem Yu{c:Expr}{a b:List Stmt}{tc:TT}(hc:PT X c tc)(ha:Bg X a t)(hb:Bg X b u):PS X (.If c a b pos) (abG tc t u):=by
  intro pins s σ H D I h;refine wpAny_If (gT (hc pins s σ H _ I h) fun d s1 ⟨H1,I1,q1⟩=>?_);cases d with
  |true=>exact ha pins s1 σ H1 D I1 q1
  |false=>exact hb pins s1 σ H1 D I1 q1
end
abbrev TG:=V→St→Hp→(St→Hp→Prop)→Prop
abbrev RH:=List V→St→Hp→(St→Hp→Prop)→Prop
def PG(X:Cx)(target:Expr)(t:TG):Prop :=
  ∀(pins:kH) (s:Shared) (σ:St) (H:Hp) (v:V) (u:Value) (Q:St→Hp→Prop),Inv X pins σ H s→RelV v u→t v σ H Q →
   wpAny (model X.prog X.w) X.A (assign target X.env u) (fun _ s'=>∃σ' H',Inv X pins σ' H' s'∧Q σ' H') X.xe s
def Rk(X:Cx)(ts:List Expr)(t:RH):Prop :=
  ∀(pins:kH) (s:Shared) (σ:St) (H:Hp) (vs:List V) (us:ef) (Q:St→Hp→Prop),Inv X pins σ H s→Vals vs us→t vs σ H Q →
   wpAny (model X.prog X.w) X.A (assignInOrder ((assignEach ts X.env).map (·.2)) us) (fun _ s'=>∃σ' H',Inv X pins σ' H' s'∧Q σ' H') X.xe s
section
variable {X:Cx} {pos:Pos}
def BW(i:Nat):TG:=fun v σ H Q=>Q (σ.set i (some v)) H
theorem RJ(hN:X.N.Nodup)(hi:X.N[i]?=some x)(hx:Loc X.env.scope x)(hf:X.fn x=true∨X.env.scope.names.lookup x=some .local:=by first|exact .inl rfl|exact .inr rfl|assumption):PG X (.Name x pos) (BW i):=by intro pins s σ H v u Q I r h;exact wpAny_assign_Name (FG I hN hi hx r (fun s' I'=>⟨_,H,I',h⟩) hf)
def abH:RH:=fun vs σ H Q=>vs=[]∧Q σ H
def Yv(t:TG)(u:RH):RH:=fun vs σ H Q=>∃v r,vs=v::r∧t v σ H fun σ' H'=>u r σ' H' Q
theorem RK:Rk X [] abH:=by intro pins s σ H vs us Q I r h;obtain⟨e,h⟩:=h;subst e;cases r;exact assignInOrder_nil ⟨σ,H,I,h⟩
theorem NC{es:List Expr}{t:TG}{u:RH}(h1:PG X e t)(h2:Rk X es u)(hs:(assignEach (e::es) X.env).map (·.2)=assign e X.env::(assignEach es X.env).map (·.2):=by rfl):Rk X (e::es) (Yv t u):=by
  intro pins s σ H vs us Q I r h;obtain⟨v,vr,e1,h⟩:=h;subst e1;cases r with
  |cons r rr=>rw[hs];refine assignInOrder_cons (gT (h1 pins s σ H _ _ _ I r h) fun _ s1 ⟨σ1,H1,I1,q1⟩=>?_);exact h2 pins s1 σ1 H1 _ _ Q I1 rr q1
def abI(K:PySem.W.Frag)(n:Nat)(t:RH):TG:=fun v σ H Q=>∃a xs,v=.ref a∧kA K H a xs∧xs.length=n∧t xs σ H Q
theorem Vw{es:List Expr}{t:RH}(hc:X.calm=true)(h:Rk X es t)(hn:(assignEach es X.env).length=n:=by rfl)(Vx:(assignEach es X.env).findIdx? (·.1)=none:=by rfl):PG X (.Tuple es k pos) (abI X.K n t):=by
  intro pins s σ H v u Q I r hw;obtain⟨a,xs,e1,hq,hl,hw⟩:=hw;subst e1;cases r;obtain⟨its,rv,ht,hz⟩:=I.tuple hq;refine assign_Tuple_tuple (I.ok.hd hc) ht (by simp[hn,←hl,rv.length]) Vx fun h' hx=>?_;have I1:Inv X pins σ H { s with heap:=h' }:=I.kept (t':=s.toks) fun b o e=>hx b o (fT (dg e)) e;exact h pins _ σ H xs _ Q I1 (by simpa using rv) hw
def Lv(te:TE)(g:TG):TS:=fun D σ H=>te σ H fun x H1=>g x σ H1 D.nx
theorem Vy{te:TE}{g:TG}(he:PE X e te)(hg:PG X tg g)(hs:swapsWithSole [tg] e pos.line X.env=pure false:=by rfl)(hw:swappedStores [tg] e X.env=pure none:=by rfl)(h1:(assignEach [tg] X.env).map (·.2)=[assign tg X.env]:=by rfl):PS X (.Assign [tg] e pos) (Lv te g):=by
  intro pins s σ H D I h;refine wpAny_Assign_stores (gT (he pins s σ H _ I h) fun v s1 ⟨x,H1,I1,r1,q1⟩=>?_) hs hw;rw[h1];exact gT (hg pins s1 σ H1 x v _ I1 r1 q1) fun _ s2 q=>q
theorem Dr{te:TE}(hN:X.N.Nodup)(hi:X.N[i]?=some x)(hx:Loc X.env.scope x)(he:PE X e te)(hs:swapsWith e (some (.Name x pos')) pos.line X.env=pure false:=by rfl)(hf:X.fn x=true∨X.env.scope.names.lookup x=some .local:=by first|exact .inl rfl|exact .inr rfl|assumption):PS X (.Assign [.Name x pos'] e pos) (Lv te (BW i)):=by
  intro pins s σ H D I h;refine wpAny_Assign_Name (gT (he pins s σ H _ I h) fun v s1 ⟨y,H1,I1,r1,q1⟩=>?_) hs;exact FG I1 hN hi hx r1 (fun s2 I2=>⟨_,H1,I2,q1⟩) hf
end
section
variable {X:Cx} {pos:Pos}
def Vz(c:TT)(tb:TS):TS:=fun D σ H=>∃W:Nat→St→Hp→Prop,(∃m,W m σ H)∧∀m σ H,W m σ H →
  c σ H fun b H1=>if b=true then ∃N:St→Hp→Prop,(∀σ' H',N σ' H'→∃m',m'<m∧W m' σ' H')∧tb { D with nx:=N,ct:=N,bk:=D.nx } σ H1 else D.nx σ H1
theorem NF{c:Expr}{body:List Stmt}{tc:TT}{tb:TS}(hp:PassesOwn (model X.prog X.w) X.A X.env X.xe)(hc:PT X c tc)(hb:Bg X body tb):PS X (.While c body [] pos) (Vz tc tb):=by
  intro pins s σ H D I h;obtain⟨W,⟨m0,w0⟩,turn⟩:=h;refine wpAny_While (codeAny_whileLoop (fun n s'=>∃σ' H',Inv X pins σ' H' s'∧W n σ' H') ?_ m0 ⟨σ,H,I,w0⟩);rintro n s1 ⟨σ1,H1,I1,w1⟩;refine wpAny_passesOwn hp (gT (hc pins s1 σ1 H1 _ I1 (turn n σ1 H1 w1)) fun b s2 ⟨H2,I2,q2⟩=>?_);cases b with
  |true =>
   obtain⟨N,hN,q2⟩:=q2;rw[az rfl];refine wpAny_passesOwn hp (gT (hb pins s2 σ1 H2 _ I2 q2) fun f s3 q3=>?_);cases f with
   |next=>obtain⟨σ3,H3,I3,n3⟩:=q3;obtain⟨m',hm,w3⟩:=hN σ3 H3 n3;exact⟨m',hm,σ3,H3,I3,w3⟩
   |cont=>obtain⟨σ3,H3,I3,n3⟩:=q3;obtain⟨m',hm,w3⟩:=hN σ3 H3 n3;exact⟨m',hm,σ3,H3,I3,w3⟩
   |brk=>exact q3
   |ret v=>exact q3
  |false=>rw[bh lK];exact wpAny_execs_nil ⟨σ1,H2,I2,q2⟩
end
structure It where
  go:Nat→Hp→Prop
  NH:Nat→Hp→V→Hp→Prop
  stop:Nat→Hp→Prop
def ip(X:Cx)(pins:kH)(H:Hp)(b:Addr):Prop :=
  H b=none∧b≠X.env.locals∧b∉X.fs∧(b∈X.ex∨X.s₀.heap.objs.size≤b)∧(∀x c,X.env.cells.lookup x=some c→c≠b)∧∀p∈X.pn++pins,p.1≠b
theorem Inv.Bh{X:Cx}{σ:St}{H H':Hp}{b:Addr}(I:Inv X pins σ H s)(hb:s.heap.objs.size≤b)(hn:H' b=none):ip X pins H' b:=by
  refine⟨hn,Nat.ne_of_gt (oN I.lt hb),I.Vn hb,.inr (pU I.sz hb),fun x c e z=>?_,fun p hp z=>?_⟩
  ·obtain⟨v,q⟩:=I.cell x c e;exact absurd (oN q.lt (by rw[z];exact hb)) (Nat.lt_irrefl _)
  ·exact absurd (oN (dg (I.pin p hp).1) (by rw[z];exact hb)) (Nat.lt_irrefl _)
structure Turn (P:Program) (w:World) (K:PySem.W.Frag) (tg:Expr) (J:It) (fp:List Addr) (it:Addr) (tn:Nat→Heap→Prop):Prop where
  mem:it∈fp
  obj:∀i h,tn i h→∀b∈fp,∃o,h.get? b=some o∧∀v,o.data≠.cell v
  keep:∀i h h',tn i h→(∀b∈fp,∀o,h.get? b=some o→h'.get? b=some o)→tn i h'
  item:∀(X:Cx),X.prog=P→X.w=w→X.K=K→X.calm=true→∀(i:Nat) (pins:kH) (s:Shared) (σ:St) (H:Hp) (E:lr),Inv X pins σ H s→(∀b∈fp,ip X pins H b)→tn i s.heap→J.go i H →
    wpAny (model P w) X.A (pyNext (.ref it)) (fun r s1=>∃u,r=some u ∧
      wpAny (model P w) X.A (letOwnedTupleGo tg (.ref it) u) (fun _ s2=>∃x H',Inv X pins σ H' s2∧RelV x u∧J.NH i H x H'∧tn (i+1) s2.heap∧∀b∈fp,H' b=none) E s1) E s
  done:∀(X:Cx),X.prog=P→X.w=w→X.K=K→X.calm=true→∀(i:Nat) (pins:kH) (s:Shared) (σ:St) (H:Hp) (E:lr),Inv X pins σ H s→(∀b∈fp,ip X pins H b)→tn i s.heap→J.stop i H →
    wpAny (model P w) X.A (pyNext (.ref it)) (fun r s1=>r=none∧Inv X pins σ H s1) E s
  self:∀(A:Around) (i:Nat) (s:Shared) (Q:lr) (E:lr),tn i s.heap→Q (.ref it) s→wpAny (model P w) A (pyIter (.ref it)) Q E s
abbrev TI:=St→Hp→(It→Hp→Prop)→Prop
def PIE(X:Cx)(pins:kH)(σ:St)(tg:Expr)(R:It→Hp→Prop)(itv:Value)(s2:Shared):Prop :=
  ∃(it:Addr) (fp:List Addr) (tn:Nat→Heap→Prop) (J:It) (H':Hp),itv=.ref it∧Inv X pins σ H' s2∧Turn X.prog X.w X.K tg J fp it tn∧tn 0 s2.heap∧(∀b∈fp,ip X pins H' b)∧R J H'
def PI(X:Cx)(tg iter:Expr)(wi:TI):Prop :=
  ∀(pins:kH) (s:Shared) (σ:St) (H:Hp) (R:It→Hp→Prop),Inv X pins σ H s→wi σ H R →
   wpAny (model X.prog X.w) X.A (eval iter X.env) (fun v s1=>wpAny (model X.prog X.w) X.A (pyIter v) (PIE X pins σ tg R) X.xe s1) X.xe s
theorem NJ{M:Model}{it:Addr}{o:Obj}{n:String}{vs:Array Value}{Q:Unit→Shared→Prop}(ho:s.heap.get? it=some o)(hc:o.cls=.type n)(hd:o.data=.fields vs)(hn:["enumerate","zip","dict_itemiterator","dict_reverseitemiterator","odict_iterator","itertools.zip_longest","itertools.pairwise"].contains n=false)(hQ:Q () s):wpAny M A (letOwnedTupleGo tg (.ref it) u) Q E s:=by
  unfold letOwnedTupleGo;cases tg<;>first
    |exact bj hQ
    |(cases u<;>first
        |exact bj hQ
        |(refine bA (wpAny_load ho ?_)
          rw[hc,hd];show wpAny M A (if (["enumerate","zip","dict_itemiterator","dict_reverseitemiterator","odict_iterator","itertools.zip_longest","itertools.pairwise"].contains n&&vs[0]?==some (rawInt _))=true then _ else _) Q E s;rw[bh (by intro h;rw[hn,Bool.false_and] at h;cases h)];exact bj hQ))
def Itl(K:PySem.W.Frag)(a:Addr):It :=
  ⟨fun i H=>∃xs x,m4 K H a xs∧xs[i]?=some x,fun i H x H'=>H'=H∧∀xs,m4 K H a xs→xs[i]?=some x,fun i H=>∃xs,m4 K H a xs∧xs.length≤i⟩
def Itt(K:PySem.W.Frag)(a:Addr):It :=
  ⟨fun i H=>∃xs x,kA K H a xs∧xs[i]?=some x,fun i H x H'=>H'=H∧∀xs,kA K H a xs→xs[i]?=some x,fun i H=>∃xs,kA K H a xs∧xs.length≤i⟩
def Yw(lo:Int)(n:Nat):It:=⟨fun i _=>i<n,fun i H x H'=>H'=H∧x=.int (lo+i),fun i _=>n≤i⟩
theorem Lw{K:PySem.W.Frag}(a it:Addr):Turn P w K tg (Itl K a) [it] it (fun i h=>h.IsListIter it a i) where
  mem:=by simp
  obj:=fun i h st b hb=>by
    have e:b=it:=by simpa using hb
    subst e;obtain⟨o,e,c,d⟩:=st;exact⟨o,e,fun v z=>by rw[d] at z;cases z⟩
  keep:=fun i h h' st k=>st.at fun o e=>k it (by simp) o e
  item:=by intro X hP hw hK hc i pins s σ H E I hf st hg;subst hP hw hK;obtain⟨xs,x,hq,hx⟩:=hg;obtain⟨its,rv,p,hz⟩:=I.list hq;obtain⟨u,hu,ru⟩:=rv.get hx;obtain⟨f0,f1,f2,f3,f4,f5⟩:=hf it (by simp);refine wpAny_pyNext_list_item st p.isList (x:=u) (by simpa using hu) fun h' st' sb=>?_;have I1:Inv X pins σ H { s with heap:=h' }:=I.turned (t':=s.toks) (fun b o hb e=>(sb.2 b hb).trans e) f0 f1 f3 f4 f5;obtain⟨o,e,c,d⟩:=id st';exact⟨u,rfl,NJ (s:={ s with heap:=h' }) e c d (by decide) ⟨x,H,I1,ru,⟨rfl,fun ys hy=>by rw[I.FH hy hq];exact hx⟩,st',fun b hb=>(hf b hb).1⟩⟩
  done:=by intro X hP hw hK hc i pins s σ H E I hf st hg;subst hP hw hK;obtain⟨xs,hq,hx⟩:=hg;obtain⟨its,rv,p,hz⟩:=I.list hq;obtain⟨f0,f1,f2,f3,f4,f5⟩:=hf it (by simp);have hl:=rv.length;exact wpAny_pyNext_list_end (I.ok.hd hc) st p.isList (by simp;omega) fun h' eb=>⟨rfl,I.turned (t':=s.toks) (fun b o hb e=>eb b o hb e) f0 f1 f3 f4 f5⟩
  self:=fun _ _ _ _ _ st h=>wpAny_pyIter_listiter st h
theorem Ht{K:PySem.W.Frag}(a it:Addr):Turn P w K tg (Itt K a) [it] it (fun i h=>h.IsTupleIter it a i) where
  mem:=by simp
  obj:=fun i h st b hb=>by
    have e:b=it:=by simpa using hb
    subst e;obtain⟨o,e,c,d⟩:=st;exact⟨o,e,fun v z=>by rw[d] at z;cases z⟩
  keep:=fun i h h' st k=>st.at fun o e=>k it (by simp) o e
  item:=by intro X hP hw hK hc i pins s σ H E I hf st hg;subst hP hw hK;obtain⟨xs,x,hq,hx⟩:=hg;obtain⟨its,rv,p,hz⟩:=I.tuple hq;obtain⟨u,hu,ru⟩:=rv.get hx;obtain⟨f0,f1,f2,f3,f4,f5⟩:=hf it (by simp);refine wpAny_pyNext_tuple_item st (show s.heap.IsTuple a its.toArray from p) (x:=u) (by simpa using hu) fun h' st' sb=>?_;have I1:Inv X pins σ H { s with heap:=h' }:=I.turned (t':=s.toks) (fun b o hb e=>(sb.2 b hb).trans e) f0 f1 f3 f4 f5;obtain⟨o,e,c,d⟩:=id st';exact⟨u,rfl,NJ (s:={ s with heap:=h' }) e c d (by decide) ⟨x,H,I1,ru,⟨rfl,fun ys hy=>by rw[I.Ls hy hq];exact hx⟩,st',fun b hb=>(hf b hb).1⟩⟩
  done:=by intro X hP hw hK hc i pins s σ H E I hf st hg;subst hP hw hK;obtain⟨xs,hq,hx⟩:=hg;obtain⟨its,rv,p,hz⟩:=I.tuple hq;obtain⟨f0,f1,f2,f3,f4,f5⟩:=hf it (by simp);have hl:=rv.length;exact wpAny_pyNext_tuple_end (I.ok.hd hc) st (show s.heap.IsTuple a its.toArray from p) (by simp;omega) fun h' eb=>⟨rfl,I.turned (t':=s.toks) (fun b o hb e=>eb b o hb e) f0 f1 f3 f4 f5⟩
  self:=fun _ _ _ _ _ st h=>wpAny_pyIter_tupleiter st h
theorem Hu{K:PySem.W.Frag}(it:Addr)(lo:Int)(n:Nat):Turn P w K tg (Yw lo n) [it] it (fun i h=>IsRangeIter h it (lo+(i:Nat)*1) ((n:Int)-(i:Nat)) 1) where
  mem:=by simp
  obj:=fun i h st b hb=>by
    have e:b=it:=by simpa using hb
    subst e;exact⟨_,st,fun v z=>by
      have z':Data.fields _=Data.cell v:=z;cases z'⟩
  keep:=fun i h h' st k=>k it (by simp) _ st
  item:=by intro X hP hw hK hc i pins s σ H E I hf st hg;subst hP hw hK;obtain⟨f0,f1,f2,f3,f4,f5⟩:=hf it (by simp);have W:=Walks.range (prog:=X.prog) (w:=X.w) (I.ok.hd hc) it lo 1 n;refine W.item i s _ _ hg st fun v h' tk hv st' kk=>?_;obtain⟨t,rfl⟩:=hv;have I1:Inv X pins σ H { s with heap:=h',toks:=tk }:=I.turned (fun b o hb e=>kk b o (by simpa using hb) e) f0 f1 f3 f4 f5;refine⟨_,rfl,NJ (s:={ s with heap:=h',toks:=tk }) (n:="range_iterator") st' rfl rfl (by decide) ⟨.int (lo+i),H,I1,⟨t,?_⟩,⟨rfl,rfl⟩,st',fun b hb=>(hf b hb).1⟩⟩;rw[Int.mul_one]
  done:=by intro X hP hw hK hc i pins s σ H E I hf st hg;subst hP hw hK;obtain⟨f0,f1,f2,f3,f4,f5⟩:=hf it (by simp);exact wpAny_pyNext_range_end (I.ok.hd hc) st (by have:n≤i:=hg;omega) fun h' eb=>⟨rfl,I.turned (t':=s.toks) (fun b o hb e=>eb b o hb e) f0 f1 f3 f4 f5⟩
  self:=fun _ _ _ _ _ st h=>wpAny_pyIter_rangeiter st h
section
variable {X:Cx} {tg:Expr}
def Yx(K:PySem.W.Frag)(tl:TE):TI:=fun σ H R=>tl σ H fun x H1=>∃a,x=.ref a∧(∃xs,m4 K H1 a xs)∧R (Itl K a) H1
def abK(K:PySem.W.Frag)(tl:TE):TI:=fun σ H R=>tl σ H fun x H1=>∃a,x=.ref a∧(∃xs,kA K H1 a xs)∧R (Itt K a) H1
theorem JH{l:Expr}{tl:TE}(hl:PE X l tl):PI X tg l (Yx X.K tl):=by
  intro pins s σ H R I h;refine gT (hl pins s σ H _ I h) fun v s1 ⟨x,H1,I1,r1,q1⟩=>?_;obtain⟨a,e,⟨xs,hq⟩,q⟩:=q1;subst e;cases r1;obtain⟨its,rv,p,hz⟩:=I1.list hq;refine wpAny_pyIter_list p.isList ?_;refine⟨s1.heap.objs.size,[s1.heap.objs.size],_,_,H1,rfl,I1.kept (t':=s1.toks) fun b o e=>kz _ e,Lw a _,⟨_,il _ rfl,rfl,rfl⟩,fun b hb=>?_,q⟩;have e:b=s1.heap.objs.size:=by simpa using hb
  subst e;exact I1.Bh (cu _) (I1.cY.fresh (cu _))
theorem VA{l:Expr}{tl:TE}(hl:PE X l tl):PI X tg l (abK X.K tl):=by
  intro pins s σ H R I h;refine gT (hl pins s σ H _ I h) fun v s1 ⟨x,H1,I1,r1,q1⟩=>?_;obtain⟨a,e,⟨xs,hq⟩,q⟩:=q1;subst e;cases r1;obtain⟨its,rv,p,hz⟩:=I1.tuple hq;refine wpAny_pyIter_tuple (show s1.heap.IsTuple a its.toArray from p) ?_;refine⟨s1.heap.objs.size,[s1.heap.objs.size],_,_,H1,rfl,I1.kept (t':=s1.toks) fun b o e=>kz _ e,Ht a _,⟨_,il _ rfl,rfl,rfl⟩,fun b hb=>?_,q⟩;have e:b=s1.heap.objs.size:=by simpa using hb
  subst e;exact I1.Bh (cu _) (I1.cY.fresh (cu _))
theorem FI{σ:St}{H:Hp}{R:It→Hp→Prop}{lo hi:Int}{t u v:Tok}{tk:Nat}(I:Inv X pins σ H s)(h1:-(2^62)≤lo)(h2:lo<2^62)(h3:-(2^62)≤hi)(h4:hi<2^62)(q:R (Yw lo (hi-lo).toNat) H):wpAny (model X.prog X.w) X.A (pyIter (.ref s.heap.objs.size)) (PIE X pins σ tg R) E { s with heap:=s.heap.push { cls:=.type "range",data:=.fields #[.int lo t,.int hi u,.int 1 v] },toks:=tk }:=by
  refine wpAny_pyIter_range (IsRange.new ..) (small_one h1 h2 h3 h4) ?_;have I1:Inv X pins σ H { s with heap:=s.heap.push { cls:=.type "range",data:=.fields #[.int lo t,.int hi u,.int 1 v] },toks:=tk }:=I.kept fun b o e=>kz _ e;refine⟨(s.heap.push { cls:=.type "range",data:=.fields #[.int lo t,.int hi u,.int 1 v] }).objs.size,[(s.heap.push { cls:=.type "range",data:=.fields #[.int lo t,.int hi u,.int 1 v] }).objs.size],_,_,H,rfl,
    I1.kept (t':=tk) fun b o e=>kz _ e,Hu _ lo (hi-lo).toNat,?_,fun b hb=>?_,q⟩
  · have e1:lo+((0:Nat):Int)*1=lo:=by simp
    have e2:(((hi-lo).toNat:Nat):Int)-((0:Nat):Int)=Builtin.Range.rangeSize lo hi 1:=by rw[rangeSize_one];split<;>omega
    show IsRangeIter _ _ (lo+((0:Nat):Int)*1) ((((hi-lo).toNat:Nat):Int)-((0:Nat):Int)) 1;rw[e1,e2];exact il _ rfl
  · have e:b=(s.heap.push { cls:=.type "range",data:=.fields #[.int lo t,.int hi u,.int 1 v] }).objs.size:=by simpa using hb
    subst e;exact I1.Bh (cu _) (I1.cY.fresh (cu _))
def Yy(ta:TA):TI:=fun σ H R=>ta σ H fun vs H1=>∃j:Int,vs=[.int j]∧-(2^62)≤j∧j<2^62∧R (Yw 0 j.toNat) H1
def Yz(ta:TA):TI:=fun σ H R=>ta σ H fun vs H1=>∃i j:Int,vs=[.int i,.int j]∧(-(2^62)≤i∧i<2^62∧-(2^62)≤j∧j<2^62)∧R (Yw i (j-i).toNat) H1
theorem Lx{a:Expr}{ta:TA}{p:Pos}(hg:Gl X "range")(hm:X.mg "range"=none)(ha:PA X [a] ta)(hs:starEach [a] X.env=[(false,eval a X.env)]:=by rfl):PI X tg (.Call (.Name "range" p) [a] [] pos) (Yy ta):=by
  intro pins s σ H R I h;refine Call_ (jX I hg hm boot_range (Ft (gT (ha pos pins s σ H _ I h) fun us s1 ⟨vs,H1,I1,r1,q1⟩=>?_) hs rfl));obtain⟨j,e,q1,q2,q⟩:=q1;subst e;cases r1 with
  |cons r rr=>cases rr;obtain⟨t,rfl⟩:=r;exact call_range_1 (FI I1 (by omega) (by omega) q1 q2 (by simpa using q))
theorem Ly{a b:Expr}{ta:TA}{p:Pos}(hg:Gl X "range")(hm:X.mg "range"=none)(ha:PA X [a,b] ta)(hs:starEach [a,b] X.env=[(false,eval a X.env),(false,eval b X.env)]:=by rfl)(Bi:starEach [b] X.env=[(false,eval b X.env)]:=by rfl):PI X tg (.Call (.Name "range" p) [a,b] [] pos) (Yz ta):=by
  intro pins s σ H R I h;refine Call_ (jX I hg hm boot_range (Ft (gT (ha pos pins s σ H _ I h) fun us s1 ⟨vs,H1,I1,r1,q1⟩=>?_) (by rw[hs,Bi]) (by rw[Bi];rfl)));obtain⟨i,j,e,⟨q1,q2,q3,q4⟩,q⟩:=q1;subst e;cases r1 with
  |cons r rr =>
   cases rr with
   |cons r' rr=>cases rr;obtain⟨t,rfl⟩:=r;obtain⟨t',rfl⟩:=r';exact call_range_2 (FI I1 q1 q2 q3 q4 q)
def abL(wi:TI)(g:TG)(tb:TS):TS:=fun D σ H=>wi σ H fun J H1=>∃W:Nat→Nat→St→Hp→Prop,(∃m,W 0 m σ H1)∧∀i m σ H,W i m σ H →
  (J.stop i H∧D.nx σ H)∨(J.go i H∧∃N:St→Hp→Prop,(∀σ' H',N σ' H'→∃m',m'<m∧W (i+1) m' σ' H')∧∀x H',J.NH i H x H'→g x σ H' fun σ2 H2=>tb { D with nx:=N,ct:=N,bk:=D.nx } σ2 H2)
def yO(fp:List Addr)(h:Heap):kH:=fp.filterMap fun b=>(h.get? b).map fun o=>(b,o)
theorem pX{b:Addr}{o:Obj}(hb:b∈fp)(e:h.get? b=some o):(b,o)∈yO fp h:=List.mem_filterMap.mpr ⟨b,hb,by rw[e];rfl⟩
theorem Lz{p:Addr×Obj}(hp:p∈yO fp h):p.1∈fp∧h.get? p.1=some p.2:=by
  obtain⟨b,hb,e⟩:=List.mem_filterMap.mp hp;cases q:h.get? b with
  |none=>rw[q] at e;cases e
  |some o=>rw[q] at e;have e':(b,o)=p:=oq e;subst e';exact⟨hb,q⟩
theorem Inv.pinned{σ:St}{H:Hp}(I:Inv X pins σ H s)(hf:∀b∈fp,ip X pins H b)(ho:∀b∈fp,∃o,s.heap.get? b=some o∧∀v,o.data≠.cell v):Inv X (pins++yO fp s.heap) σ H s :=
  I.Dp fun p hp=>(mX.mp hp).elim (fun z=>I.pin p (jV _ z)) fun z=>by obtain⟨hb,e⟩:=Lz z;obtain⟨f0,f1,f2,_⟩:=hf p.1 hb;obtain⟨o,e',d⟩:=ho p.1 hb;rw[e] at e';cases e';exact⟨e,f0,f1,f2,d⟩
theorem Inv.pE{pl:kH}{σ:St}{H:Hp}(I:Inv X (pins++pl) σ H s):Inv X pins σ H s:=I.Dp fun p hp=>I.pin p (jV _ (A9 _ hp))
theorem VB{iter:Expr}{body:List Stmt}{wi:TI}{g:TG}{tb:TS}(hp:PassesOwn (model X.prog X.w) X.A X.env X.xe)(hc:X.calm=true)(hi:PI X tg iter wi)(hg:PG X tg g)(hb:Bg X body tb)(hs:∀x,foldedSetIterable iter X.env x=pure x:=by intro _;rfl):PS X (.For tg iter body [] pos) (abL wi g tb):=by
  intro pins s σ H D I h;refine wpAny_For (gT (hi pins s σ H _ I h) fun v s1 h1=>gT h1 fun itv s2 h2=>?_) hs;obtain⟨it,fp,tn,J,H2,e,I2,T,YB,f2,W,⟨m0,w0⟩,turn⟩:=h2;subst e
  -- what stays true of the iterator's objects through the loop
  have stat:∀{H':Hp},(∀b∈fp,H' b=none)→∀b∈fp,ip X pins H' b:=fun hn b hb=>⟨hn b hb,(f2 b hb).2⟩
  refine codeAny_forLoop_any (fun n s'=>∃i σ' H',Inv X pins σ' H' s'∧tn i s'.heap∧(∀b∈fp,H' b=none)∧W i n σ' H') ?_ m0 ⟨0,σ,H2,I2,YB,fun b hb=>(f2 b hb).1,w0⟩;rintro n s3 ⟨i,σ3,H3,I3,st3,fr3,w3⟩;rcases turn i n σ3 H3 w3 with⟨stop,qn⟩|⟨go,N,hN,step⟩
  ·refine wpAny_passesOwn hp (gT (T.done X rfl rfl rfl hc i pins s3 σ3 H3 X.xe I3 (stat fr3) st3 stop) fun r s4 ⟨hr,I4⟩=>?_);subst hr;exact wpAny_execs_nil ⟨σ3,H3,I4,qn⟩
  · refine wpAny_passesOwn hp (gT (T.item X rfl rfl rfl hc i pins s3 σ3 H3 X.xe I3 (stat fr3) st3 go) fun r s4 ⟨u,hr,h4⟩=>?_);subst hr;refine wpAny_passesOwn hp (gT h4 fun _ s5 ⟨x,H5,I5,r5,y5,st5,fr5⟩=>?_);have I5':=I5.pinned (stat fr5) (T.obj _ _ st5);refine wpAny_passesOwn hp (gT (hg _ s5 σ3 H5 x u _ I5' r5 (step x H5 y5)) fun _ s6 ⟨σ6,H6,I6,q6⟩=>?_);refine wpAny_passesOwn hp (gT (hb _ s6 σ6 H6 _ I6 q6) fun f s7 q7=>?_);have again:∀{σ7:St} {H7:Hp},Inv X (pins++yO fp s5.heap) σ7 H7 s7→N σ7 H7→∃m,m<n∧∃i σ' H',Inv X pins σ' H' s7∧tn i s7.heap∧(∀b∈fp,H' b=none)∧W i m σ' H':=fun {σ7 H7} I7 n7=>by
      obtain⟨m',hm,w7⟩:=hN σ7 H7 n7;refine⟨m',hm,i+1,σ7,H7,I7.pE,T.keep _ _ _ st5 fun b hb o e=>(I7.pin (b,o) (jV _ (jV _ (pX hb e)))).1,fun b hb=>?_,w7⟩;obtain⟨o,e,d⟩:=T.obj _ _ st5 b hb;exact(I7.pin (b,o) (jV _ (jV _ (pX hb e)))).2.1
    cases f with
    |next=>obtain⟨σ7,H7,I7,n7⟩:=q7;exact again I7 n7
    |cont=>obtain⟨σ7,H7,I7,n7⟩:=q7;exact again I7 n7
    |brk=>obtain⟨σ7,H7,I7,q7⟩:=q7;exact⟨σ7,H7,I7.pE,q7⟩
    |ret v=>obtain⟨x7,σ7,H7,I7,r7,q7⟩:=q7;exact⟨x7,σ7,H7,I7.pE,r7,q7⟩
end
abbrev R2:=V→V→Hp→VK→Prop
def qw(X:Cx)(f:Value→Value→Sem Value)(r:R2):Prop :=
  ∀(pins:kH) (s:Shared) (σ:St) (H:Hp) (x y:V) (v u:Value) (Q:VK),Inv X pins σ H s→RelV x v→RelV y u→r x y H Q →
   wpAny (model X.prog X.w) X.A (f v u) (EP X pins σ Q) X.xe s
def UnR(X:Cx)(f:Value→Sem Value)(r:V→Hp→VK→Prop):Prop :=
  ∀(pins:kH) (s:Shared) (σ:St) (H:Hp) (x:V) (v:Value) (Q:VK),Inv X pins σ H s→RelV x v→r x H Q →
   wpAny (model X.prog X.w) X.A (f v) (EP X pins σ Q) X.xe s
def qx(X:Cx)(f:Value)(r:List V→Hp→VK→Prop):Prop :=
  ∀(pins:kH) (s:Shared) (σ:St) (H:Hp) (xs:List V) (us:ef) (Q:VK),Inv X pins σ H s→Vals xs us→r xs H Q →
   wpAny (model X.prog X.w) X.A (call f us) (EP X pins σ Q) X.xe s
def YC(r:R2)(ta tb:TE):TE:=fun σ H Q=>ta σ H fun x H1=>tb σ H1 fun y H2=>r x y H2 Q
def tUn(r:V→Hp→VK→Prop)(ta:TE):TE:=fun σ H Q=>ta σ H fun x H1=>r x H1 Q
def rI(C:Int→Int→Prop)(g:Int→Int→V):R2:=fun x y H Q=>∃i j,x=.int i∧y=.int j∧C i j∧Q (g i j) H
def Rl(g:Int→Int→V):R2:=fun x y H Q=>∃i j,x=.int i∧y=.int j∧Q (g i j) H
def rU(g:Int→V):V→Hp→VK→Prop:=fun x H Q=>∃i,x=.int i∧Q (g i) H
section
variable {X:Cx} {a b c:Expr} {ta tb tc:TE} {pos:Pos}
theorem VC(ha:PE X a ta)(hb:PE X b tb){σ:St}{H:Hp}{R:V→V→Hp→Prop}(I:Inv X pins σ H s)(h:ta σ H fun x H1=>tb σ H1 fun y H2=>R x y H2)(hf:∀v u s2 x y H2,Inv X pins σ H2 s2→RelV x v→RelV y u→R x y H2→wpAny (model X.prog X.w) X.A (f v u) Q X.xe s2):wpAny (model X.prog X.w) X.A (eval a X.env) (fun v s₁=>wpAny (model X.prog X.w) X.A (eval b X.env) (fun u s₂=>wpAny (model X.prog X.w) X.A (f v u) Q X.xe s₂) X.xe s₁) X.xe s:=by
  refine gT (ha pins s σ H _ I h) fun v s1 ⟨x,H1,I1,r1,q1⟩=>?_;refine gT (hb pins s1 σ H1 _ I1 q1) fun u s2 ⟨y,H2,I2,r2,q2⟩=>?_;exact hf v u s2 x y H2 I2 r1 r2 q2
theorem NK{op:Operator}{r:R2}(ho:qw X (binaryOp op) r)(ha:PE X a ta)(hb:PE X b tb):PE X (.BinOp a op b pos) (YC r ta tb):=by intro pins s σ H Q I h;exact wpAny_BinOp (VC ha hb I h fun v u s2 x y H2 I2 rx ry q=>ho pins s2 σ H2 x y v u Q I2 rx ry q)
theorem YD{op:UnaryOp}{r:V→Hp→VK→Prop}(ho:UnR X (unaryOp op) r)(ha:PE X a ta):PE X (.UnaryOp op a pos) (tUn r ta):=by intro pins s σ H Q I h;exact UnaryOp_ (gT (ha pins s σ H _ I h) fun v s1 ⟨x,H1,I1,r1,q1⟩=>ho pins s1 σ H1 x v Q I1 r1 q1)
theorem Ux{C:Int→Int→Prop}{g:Int→Int→Int}(rule:∀(i j:Int) (t u:Tok) (s:Shared) (Q:lr) (E:lr),C i j→Q (.int (g i j) s.toks) { s with toks:=s.toks+1 }→wpAny (model X.prog X.w) X.A (f (.int i t) (.int j u)) Q E s):qw X f (rI C fun i j=>.int (g i j)):=by
  intro pins s σ H x y v u Q I rx ry h;obtain⟨i,j,rfl,rfl,hc,q⟩:=h;obtain⟨t,rfl⟩:=rx;obtain⟨t',rfl⟩:=ry;exact rule i j t t' s _ _ hc ⟨.int (g i j),H,I.tok _,⟨_,rfl⟩,q⟩
theorem VD{g:Int→Int→Int}(rule:∀(i j:Int) (t u:Tok) (s:Shared) (Q:lr) (E:lr),Q (.int (g i j) s.toks) { s with toks:=s.toks+1 }→wpAny (model X.prog X.w) X.A (f (.int i t) (.int j u)) Q E s):qw X f (Rl fun i j=>.int (g i j)):=by
  intro pins s σ H x y v u Q I rx ry h;obtain⟨i,j,rfl,rfl,q⟩:=h;obtain⟨t,rfl⟩:=rx;obtain⟨t',rfl⟩:=ry;exact rule i j t t' s _ _ ⟨.int (g i j),H,I.tok _,⟨_,rfl⟩,q⟩
theorem VF{g:Int→Int→Bool}(rule:∀(i j:Int) (t u:Tok) (s:Shared) (Q:lr) (E:lr),Q (.bool (g i j)) s→wpAny (model X.prog X.w) X.A (f (.int i t) (.int j u)) Q E s):qw X f (Rl fun i j=>.bl (g i j)):=by
  intro pins s σ H x y v u Q I rx ry h;obtain⟨i,j,rfl,rfl,q⟩:=h;obtain⟨t,rfl⟩:=rx;obtain⟨t',rfl⟩:=ry;exact rule i j t t' s _ _ ⟨.bl (g i j),H,I,rfl,q⟩
def YF(i j:Int):Prop:=0<j∧j<1073741824
def VG(i j:Int):Prop:=0≤j∧j≤1000000∧i.natAbs<2^64
def RL(i j:Int):Prop:=(-(2^64)<i∧i<2^64)∨(-(2^64)<j∧j<2^64)
theorem RL.ok{i j:Int}(h:RL i j):IntMulOk i j:=by
  rcases h with⟨h1,h2⟩|⟨h1,h2⟩
  ·exact .of_left (intBits_le_64 h1 h2)
  ·exact .of_right (intBits_le_64 h1 h2)
theorem Hv(k:Nat):(0:Int)≤2^k:=by rw[two_pow_cast];exact Int.natCast_nonneg _
theorem VH:qw X (binaryOp .Add) (Rl fun i j=>.int (i+j)):=VD fun _ _ _ _ _ _ _ q=>add_int q
theorem VJ:qw X (binaryOp .Sub) (Rl fun i j=>.int (i-j)):=VD fun _ _ _ _ _ _ _ q=>sub_int q
theorem VL:qw X (binaryOp .Mult) (rI RL fun i j=>.int (i*j)):=Ux fun _ _ _ _ _ _ _ hc q=>mul_int q hc.ok
theorem RM:qw X (binaryOp .FloorDiv) (rI YF fun i j=>.int (i / j)):=Ux fun i j _ _ _ _ _ hc q=>by have h1:(0:Int)<j:=hc.1;have h2:j<1073741824:=hc.2;exact floordiv_int (by omega) (by rw[Int.fdiv_eq_ediv_of_nonneg i (by omega)];exact q) (.inl (PyProof.noPylong_small (by omega)))
theorem VM:qw X (binaryOp .Mod) (rI (fun _ j=>0<j) fun i j=>.int (i%j)):=Ux fun i j _ _ _ _ _ hc q=>by have h1:(0:Int)<j:=hc;exact mod_int' (by omega) (by rw[Int.fmod_eq_emod_of_nonneg i (by omega)];exact q)
theorem VN:qw X (binaryOp .Pow) (rI VG fun i j=>.int (i^j.toNat)):=Ux fun _ _ _ _ _ _ _ hc q=>pow_int_small hc.1 hc.2.1 hc.2.2 q
theorem VP:qw X (binaryOp .LShift) (rI VG fun i j=>.int (i*2^j.toNat)):=Ux fun _ _ _ _ _ _ _ hc q=>lshift_int_small hc.1 hc.2.1 hc.2.2 q
theorem VQ:qw X (binaryOp .RShift) (rI (fun _ j=>0≤j) fun i j=>.int (i / 2^j.toNat)):=Ux fun i j _ _ _ _ _ hc q =>
  rshift_int hc (by rw[Int.fdiv_eq_ediv_of_nonneg i (Hv _)];exact q)
theorem VR:qw X (binaryOp .BitAnd) (Rl fun i j=>.int (Builtin.bitAnd i j)):=VD fun _ _ _ _ _ _ _ q=>and_int q
theorem unI{f:Value→Sem Value}{g:Int→Int}(rule:∀(i:Int) (t:Tok) (s:Shared) (Q:lr) (E:lr),Q (.int (g i) s.toks) { s with toks:=s.toks+1 }→wpAny (model X.prog X.w) X.A (f (.int i t)) Q E s):UnR X f (rU fun i=>.int (g i)):=by
  intro pins s σ H x v Q I rx h;obtain⟨i,rfl,q⟩:=h;obtain⟨t,rfl⟩:=rx;exact rule i t s _ _ ⟨.int (g i),H,I.tok _,⟨_,rfl⟩,q⟩
theorem VW:UnR X (unaryOp .USub) (rU fun i=>.int (-i)):=unI fun _ _ _ _ _ q=>neg_int q
end
def NM:V→V→Bool
  |.non,.non=>true|.non,.int _=>true|.int _,.non=>true|.non,.bl _=>true|.bl _,.non=>true|.non,.str _=>true|.str _,.non=>true
  |.int _,.int _=>true|.bl _,.bl _=>true|.str _,.str _=>true|.Nv _,.Nv _=>true
  |.int _,.str _=>true|.str _,.int _=>true|.bl _,.str _=>true|.str _,.bl _=>true
  |_,_=>false
def rEq:R2:=fun x y H Q=>NM x y=true∧Q (.bl (decide (x=y))) H
def rNe:R2:=fun x y H Q=>NM x y=true∧Q (.bl (!decide (x=y))) H
theorem Ds{i j:Int}:decide (V.int i=V.int j)=(i==j):=by rw[Be];simp
theorem Hw{i j:Bool}:decide (V.bl i=V.bl j)=(i==j):=by rw[Be];simp
theorem Dt{i j:Str}:decide (V.str i=V.str j)=(i==j):=by rw[Be];simp
theorem JJ{i j:Array UInt8}:decide (V.Nv i=V.Nv j)=(i.toList==j.toList):=by rw[Be];cases i;cases j;simp
section
variable {X:Cx} {a b c:Expr} {ta tb tc:TE} {pos:Pos}
theorem bZ{σ:St}{H:Hp}{Q:VK}{k k':Bool}(I:Inv X pins σ H s)(q:Q (.bl k) H)(e:k=k'):EP X pins σ Q (.bool k') s:=by subst e;exact⟨.bl k,H,I,rfl,q⟩
theorem Uy:qw X (compareOp .Eq) rEq:=by
  intro pins s σ H x y v u Q I rx ry h;obtain⟨hs,q⟩:=h;cases x with
  |non =>
   cases rx;cases y with
   |non=>cases ry;exact PySem.EqNone.eq_none_none (bZ I q (by simp))
   |bl j=>cases ry;exact PySem.EqNone.eq_none_bool (bZ I q (by simp))
   |int j=>obtain⟨t',rfl⟩:=ry;exact PySem.EqNone.eq_none_int (bZ I q (by simp))
   |str j=>obtain⟨t',rfl⟩:=ry;exact PySem.EqNone.eq_none_str (bZ I q (by simp))
   |_=>exact absurd (show false=true from hs) lK
  |bl i =>
   cases rx;cases y with
   |non=>cases ry;exact PySem.EqNone.eq_bool_none (bZ I q (by simp))
   |bl j=>cases ry;exact eq_bool (bZ I q Hw)
   |str j=>obtain⟨t',rfl⟩:=ry;exact PySem.EqMixed.eq_bool_str (bZ I q (by simp))
   |_=>exact absurd (show false=true from hs) lK
  |int i =>
   obtain⟨t,rfl⟩:=rx;cases y with
   |non=>cases ry;exact PySem.EqNone.eq_int_none (bZ I q (by simp))
   |int j=>obtain⟨t',rfl⟩:=ry;exact eq_int (bZ I q Ds)
   |str j=>obtain⟨t',rfl⟩:=ry;exact PySem.EqMixed.eq_int_str (bZ I q (by simp))
   |_=>exact absurd (show false=true from hs) lK
  |str i =>
   obtain⟨t,rfl⟩:=rx;cases y with
   |non=>cases ry;exact PySem.EqNone.eq_str_none (bZ I q (by simp))
   |bl j=>cases ry;exact PySem.EqMixed.eq_str_bool (bZ I q (by simp))
   |int j=>obtain⟨t',rfl⟩:=ry;exact PySem.EqMixed.eq_str_int (bZ I q (by simp))
   |str j=>obtain⟨t',rfl⟩:=ry;exact eq_str (bZ I q Dt)
   |_=>exact absurd (show false=true from hs) lK
  |Nv i =>
   obtain⟨t,rfl⟩:=rx;cases y with
   |Nv j=>obtain⟨t',rfl⟩:=ry;exact PySem.W.eq_bytes (bZ I q JJ)
   |_=>exact absurd (show false=true from hs) lK
  |_=>cases y<;>exact absurd (show false=true from hs) lK
theorem YG:qw X (compareOp .NotEq) rNe:=by
  intro pins s σ H x y v u Q I rx ry h;obtain⟨hs,q⟩:=h;cases x with
  |non =>
   cases rx;cases y with
   |non=>cases ry;exact PySem.EqNone.ne_none_none (bZ I q (by simp))
   |bl j=>cases ry;exact PySem.EqNone.ne_none_bool (bZ I q (by simp))
   |int j=>obtain⟨t',rfl⟩:=ry;exact PySem.EqNone.ne_none_int (bZ I q (by simp))
   |str j=>obtain⟨t',rfl⟩:=ry;exact PySem.EqNone.ne_none_str (bZ I q (by simp))
   |_=>exact absurd (show false=true from hs) lK
  |bl i =>
   cases rx;cases y with
   |non=>cases ry;exact PySem.EqNone.ne_bool_none (bZ I q (by simp))
   |bl j=>cases ry;exact ne_bool (bZ I q (g6 not Hw))
   |str j=>obtain⟨t',rfl⟩:=ry;exact PySem.EqMixed.ne_bool_str (bZ I q (by simp))
   |_=>exact absurd (show false=true from hs) lK
  |int i =>
   obtain⟨t,rfl⟩:=rx;cases y with
   |non=>cases ry;exact PySem.EqNone.ne_int_none (bZ I q (by simp))
   |int j=>obtain⟨t',rfl⟩:=ry;exact ne_int (bZ I q (g6 not Ds))
   |str j=>obtain⟨t',rfl⟩:=ry;exact PySem.EqMixed.ne_int_str (bZ I q (by simp))
   |_=>exact absurd (show false=true from hs) lK
  |str i =>
   obtain⟨t,rfl⟩:=rx;cases y with
   |non=>cases ry;exact PySem.EqNone.ne_str_none (bZ I q (by simp))
   |bl j=>cases ry;exact PySem.EqMixed.ne_str_bool (bZ I q (by simp))
   |int j=>obtain⟨t',rfl⟩:=ry;exact PySem.EqMixed.ne_str_int (bZ I q (by simp))
   |str j=>obtain⟨t',rfl⟩:=ry;exact ne_str (bZ I q (g6 not Dt))
   |_=>exact absurd (show false=true from hs) lK
  |Nv i =>
   obtain⟨t,rfl⟩:=rx;cases y with
   |Nv j=>obtain⟨t',rfl⟩:=ry;exact PySem.W.ne_bytes (bZ I q (g6 not JJ))
   |_=>exact absurd (show false=true from hs) lK
  |_=>cases y<;>exact absurd (show false=true from hs) lK
theorem Uz:qw X (compareOp .Lt) (Rl fun i j=>.bl (decide (i<j))):=VF fun _ _ _ _ _ _ _ q=>lt_int q
theorem YH:qw X (compareOp .Gt) (Rl fun i j=>.bl (decide (j<i))):=VF fun _ _ _ _ _ _ _ q=>gt_int q
theorem UA:qw X (compareOp .GtE) (Rl fun i j=>.bl (decide (j≤i))):=VF fun _ _ _ _ _ _ _ q=>ge_int q
theorem NP:qw X (compareOp .Is) (fun x y H Q=>y=.non∧Q (.bl (decide (x=.non))) H):=by
  intro pins s σ H x y v u Q I rx ry h;obtain⟨rfl,q⟩:=h;cases ry;refine is_none_gen (bZ I q ?_);cases x<;>first
    |(cases rx;rfl)
    |(obtain⟨t,rfl⟩:=rx;rfl)
theorem JK:qw X (compareOp .IsNot) (fun x y H Q=>y=.non∧Q (.bl (!decide (x=.non))) H):=by
  intro pins s σ H x y v u Q I rx ry h;obtain⟨rfl,q⟩:=h;cases ry;refine isnot_none_gen (bZ I q ?_);cases x<;>first
    |(cases rx;rfl)
    |(obtain⟨t,rfl⟩:=rx;rfl)
theorem qw.or{r r':R2}(h:qw X f r)(h':qw X f r'):qw X f (fun x y H Q=>r x y H Q∨r' x y H Q):=by
  intro pins s σ H x y v u Q I rx ry q;rcases q with q|q
  ·exact h pins s σ H x y v u Q I rx ry q
  ·exact h' pins s σ H x y v u Q I rx ry q
theorem lX(b:Expr)(h:op≠.In:=by decide)(h2:op≠.NotIn:=by decide):behindInMarks op b=false:=by
  have e1:(op==CmpOp.In)=false:=by cases op<;>first|rfl|exact absurd rfl h
  have e2:(op==CmpOp.NotIn)=false:=by cases op<;>first|rfl|exact absurd rfl h2
  cases b<;>simp[behindInMarks,e1,e2]
theorem RN{r:R2}(ho:qw X (compareOp op) r)(ha:PE X a ta)(hb:PE X b tb)(hm:behindInMarks op b=false):PE X (.Compare a [op] [b] pos) (YC r ta tb):=by intro pins s σ H Q I h;exact wpAny_Compare1 (VC ha hb I h fun v u s2 x y H2 I2 rx ry q=>ho pins s2 σ H2 x y v u Q I2 rx ry q) hm
def YJ(t:TE):TT:=fun σ H Q=>t σ H fun x H'=>∃k,x=.bl k∧Q k H'
theorem RP{r:R2}(ho:qw X (compareOp op) r)(ha:PE X a ta)(hb:PE X b tb)(hm:behindInMarks op b=false):PT X (.Compare a [op] [b] pos) (YJ (YC r ta tb)):=by
  intro pins s σ H Q I h;refine wpAny_isTrue_Compare1 (gT (ha pins s σ H _ I h) fun v s1 ⟨x,H1,I1,r1,q1⟩=>gT (hb pins s1 σ H1 _ I1 q1) fun u s2 ⟨y,H2,I2,r2,q2⟩ =>
    gT (ho pins s2 σ H2 x y v u _ I2 r1 r2 q2) fun c s3 ⟨z,H3,I3,r3,k,e,q3⟩=>?_) hm
  subst e;cases r3;exact wpAny_truthy_bool ⟨H3,I3,q3⟩
theorem Du:(sizeLine:Nat)<2^63:=by rw[kD];decide
theorem vals1{x:V}(r:Vals [x] us):∃u,us=[u]∧RelV x u:=by
  cases r with
  |cons r1 r2=>cases r2;exact⟨_,rfl,r1⟩
theorem vals2{x y:V}(r:Vals [x,y] us):∃u w',us=[u,w']∧RelV x u∧RelV y w':=by
  cases r with
  |cons r1 r2 =>
   cases r2 with
   |cons r3 r4=>cases r4;exact⟨_,_,rfl,r1,r3⟩
theorem LB(hc:X.calm=true):qx X (.builtin "min") (fun xs H Q=>∃i j,xs=[.int i,.int j]∧Q (.int (if j<i then j else i)) H):=by
  intro pins s σ H xs us Q I r h;obtain⟨i,j,rfl,q⟩:=h;obtain⟨u,w',rfl,⟨t,rfl⟩,⟨t',rfl⟩⟩:=vals2 r;refine min_two_ints (I.ok.hd hc) fun h' tk k=>⟨_,H,I.kept k,?_,q⟩
  by_cases hj:j<i
  ·rw[az hj,az hj];exact⟨_,rfl⟩
  ·rw[bh hj,bh hj];exact⟨_,rfl⟩
end
structure RQ (h:Heap) (x dx C:Addr) (mA:Str→mR):Prop where
  obj:h.get? x=some (instObj C dx)
  ns:h.Ns1 dx mA
  ne:dx≠x
theorem LC{dx:Addr}{mA:Str→mR}(n:h.Ns1 dx mA):∃od,h.get? dx=some od∧∀name,lookIn name od=some (mA name):=by
  obtain⟨o,es,ep,ho,hd,hk,_,hm⟩:=n;refine⟨o,ho,fun name=>?_⟩;have e:=hm name;unfold nsFind findBy at e;rw[←Array.find?_toList] at e;unfold lookIn;rw[hd];dsimp only;split
  ·rename_i y q;rw[q] at e;exact g6 some e
  · rename_i q;rw[q] at e;have a:es.toList.any (·.refKey)=false:=by
      rw[List.any_eq_false];intro y hy;obtain⟨z,t,VX⟩:=hk y (Array.mem_toList_iff.mp hy);simp[DictEntry.refKey,VX]
    have a':¬ es.toList.any (·.refKey)=true:=by rw[a];exact lK
    rw[bh a'];exact g6 some e
theorem RQ.look{x dx:Addr}{mA:Str→mR}(I:RQ h x dx C mA):∃od,PySem.W.InstAt h x (instObj C dx) C (some od)∧∀name,lookIn name od=some (mA name) :=
  let ⟨od,ho,hl⟩:=LC I.ns
  ⟨od,⟨I.obj,rfl,rfl,ho⟩,hl⟩
section
variable {prog:Program} {w:World} {A:Around} {E:lr} {s:Shared} {K:PySem.W.Frag} {x dx C f:Addr} {mA:Str→mR} {name:Str} {v:Value}
theorem NQ{Q:Value×ef→Shared→Prop}(X:K.In s.heap)(I:RQ s.heap x dx C mA)(hg:plainGet K C name=true)(hf:PySem.W.findIn K (.ref C) name=some (some (.ref f)))(ht:isFn K (.ref f)=true)(hv:mA name=none)(h:Q (.ref f,[.ref x]) s):wpAny (model prog w) A (getMethod (.ref x) name pl) Q E s:=by
  obtain⟨od,J,hl⟩:=I.look;exact PySem.W.method_fn X J (plainGet_of hg).1 (plainGet_of hg).2 hf (beq_iff_eq.mp ht) (by show(lookIn name od).map (·.isSome)=some false;rw[hl,hv];rfl) h
theorem LD{R:Result→Shared→Prop}(X:K.In s.heap)(hm:makesIn K C=true)(hi:PySem.W.findIn K (.ref C) "__init__"=some (some (.builtin "object.__init__")))(hb:∀self,PySem.W.Looks (model prog w) s.heap (bindSpecial (.builtin "object.__init__") self) (.builtin "object.__init__",[self]))(h:codeAny (model prog w) (A.under (.builtin "type.__call__" ⟨[.ref C],[]⟩)) (.call (.builtin "object.__init__") ⟨[.ref (s.heap.objs.size+1)],[]⟩) (PySem.W.InitBack (s.heap.objs.size+1) R) { s with heap:=(s.heap.push emptyDict).push (instObj C s.heap.objs.size) }):codeAny (model prog w) A (.call (.ref C) ⟨[],[]⟩) R s:=by
  obtain⟨hh,g,d,t,os⟩:=s;exact PySem.W.make_core (makes_of X hm) (PySem.W.looks_findIn X hi) hb (.inr ⟨rfl,rfl⟩) h
end
theorem tj.some_of{v:V}{o:mR}(r:tj (some v) o):∃u,o=some u∧RelV v u:=by
  cases o with
  |none=>exact(show False from r).elim
  |some u=>exact⟨u,rfl,r⟩
theorem tj.none_of{o:mR}(r:tj none o):o=none:=by
  cases o with
  |none=>rfl
  |some u=>exact(show False from r).elim
section
variable {P:Program} {w:World} {H H':Hp} {h h':Heap} {a C dx:Addr} {fs fs':List (Str×V)}
theorem JL(cY:ub P w H h)(e:H a=some (.ins C dx fs)):∃mA,RQ h a dx C mA∧(∀f,tj (fs.lookup f) (mA f))∧PySem.Within mA (fs.map (·.1))∧fs.length≤1000∧H dx=some (.own a):=by
  obtain⟨d,z,ne,ob,mA,n,r,q⟩:=(show cy P w H h a (.ins C dx fs) from cY a _ e)
  exact⟨mA,⟨ob,n,ne⟩,r,q,z,d⟩
end
structure Rm (K:PySem.W.Frag) (C:Addr):Prop where
  pg:plainGet K C Str.empty=true
  hd:hasDictIn K C=true
  po:plainOver K C=true
  sa:PySem.W.findIn K (.ref C) "__setattr__"=some (some (.builtin "object.__setattr__"))
theorem Rm.get{K:PySem.W.Frag}(c:Rm K C)(f:Str):plainGet K C f=true:=c.pg
structure Con (K:PySem.W.Frag) (C:Addr) (f:Str) (v:V) (u:Value):Prop where
  at_:PySem.W.findIn K (.ref C) f=some (some u)
  rel:RelV v u
  get:PySem.W.specialIn K u "__get__"=some none
  cp:PySem.W.copiedNames.contains f=false
structure Meth (K:PySem.W.Frag) (C:Addr) (m:Str) (f:Addr):Prop where
  at_:PySem.W.findIn K (.ref C) m=some (some (.ref f))
  fn:isFn K (.ref f)=true
  kp:keepIn K (.ref f)=true
section
variable {X:Cx} {pins:kH} {σ:St} {H:Hp} {s:Shared} {a C dx:Addr} {fs:List (Str×V)} {f:Str} {v:V} {A:Around} {E:lr}
theorem Hx{m:Str}{g:Addr}{Q:Value×ef→Shared→Prop}(I:Inv X pins σ H s)(e:H a=some (.ins C dx fs))(c:Rm X.K C)(k:Meth X.K C m g)(l:fs.lookup m=none)(h:Q (.ref g,[.ref a]) s):wpAny (model X.prog X.w) A (getMethod (.ref a) m pl) Q E s:=by
  obtain⟨mA,O,r,_,_,_⟩:=JL I.cY e;have hn:mA m=none:=tj.none_of (by rw[←l];exact r m);exact NQ I.xH O (c.get m) k.at_ k.fn hn h
theorem Inv.made(I:Inv X pins σ H s):Inv X pins σ (upd (upd H s.heap.objs.size (.own (s.heap.objs.size+1))) (s.heap.objs.size+1) (.ins C s.heap.objs.size [])) { s with heap:=(s.heap.push emptyDict).push (instObj C s.heap.objs.size) }:=by
  have e1:(s.heap.push emptyDict).get? s.heap.objs.size=some emptyDict:=il s.heap rfl;have e2:((s.heap.push emptyDict).push (instObj C s.heap.objs.size)).get? (s.heap.objs.size+1)=some (instObj C s.heap.objs.size):=by have:=il (s.heap.push emptyDict) (o:=instObj C s.heap.objs.size) rfl;rwa[Heap.size_push] at this
  have e3:(s.heap.push emptyDict).Ns s.heap.objs.size (fun _=>none):=⟨emptyDict,#[],_,e1,rfl,(fun e he=>absurd he (by simp)),fun _=>rfl⟩
  have I1:=I.laid (a:=s.heap.objs.size) (o:=.own (s.heap.objs.size+1)) (h':=s.heap.push emptyDict) (t':=s.toks) (fun b u q=>kz _ q) (cu _) ⟨_,e1⟩;refine I1.laid (a:=s.heap.objs.size+1) (o:=.ins C s.heap.objs.size []) (t':=s.toks) (fun b u q=>kz _ q) (Nat.le_of_eq (Heap.size_push _ _)) ?_;have ne:s.heap.objs.size≠s.heap.objs.size+1:=fT (Nat.lt_succ_self _);refine⟨by rw[aK ne,aL],qQ _,ne,e2,fun _=>none,(Heap.Ns1.of_empty e3).at fun o q=>kz _ q,fun _=>True.intro,fun y hy=>absurd rfl hy⟩
end
section
variable {X:Cx} {o e value:Expr} {f:Str} {pos pos' abO:Pos} {ta tv:TE}
theorem FJ{m:Str}{apos:Pos}{args:List Expr}{σ:St}{H:Hp}{te:TE}(he:PE X e te)(I:Inv X pins σ H s)(h:te σ H fun x H1=>∃a C dx fs g,x=.ref a∧H1 a=some (.ins C dx fs)∧Rm X.K C∧Meth X.K C m g∧fs.lookup m=none∧∀s1,Inv X pins σ H1 s1→wpAny (model X.prog X.w) X.A (callWith pos (.ref g) [.ref a] (backTo pos (starEach args X.env)) (backToKw pos (keywordEach [] X.env))) Q X.xe s1)(ht:eval (.Call (.Attribute e m apos) args [] pos) X.env=(do
      let ov ←eval e X.env
      standAt apos.atName
      let (f,first) ←holding [ov] (getMethod ov m pl)
      callWith pos f first (backTo pos (starEach args X.env)) (backToKw pos (keywordEach [] X.env)))):wpAny (model X.prog X.w) X.A (eval (.Call (.Attribute e m apos) args [] pos) X.env) Q X.xe s:=by
  refine PySem.W.methodCall_KW (pl:=pl) (gT (he pins s σ H _ I h) fun u s1 hh=>?_) ht;obtain⟨x,H1,I1,rx,a,C,dx,fs,g,ex,ea,c,k,l,q⟩:=hh;subst ex;obtain rfl:u=Value.ref a:=rx;exact Hx I1 ea c k l (q s1 I1)
end
section
variable {X:Cx} {pins:kH} {σ:St} {H:Hp} {s:Shared} {A:Around} {E:lr} {Q:lr} {c:Value} {b:Bool}
inductive uc (K:PySem.W.Frag) (H:Hp):V→Value→Prop where
  |non:uc K H .non (.type "NoneType")
  |bl (x:Bool):uc K H (.bl x) (.type "bool")
  |int (i:Int):uc K H (.int i) (.type "int")
  |str (x:Str):uc K H (.str x) (.type "str")
  |XJ (x:UInt64):uc K H (.XJ x) (.type "float")
  |lst {a:Addr} {xs:List V} (e:H a=some (.lst xs)):uc K H (.ref a) (.type "list")
  |ua {a:Addr} {o:Obj} {xs:List V} (e:H a=some (.ua o (.lst xs))):uc K H (.ref a) (.type "list")
  |kl {a:Addr} {o:Obj} (hk:K.lookup a=some o) (hc:o.cls=.type "list"):uc K H (.ref a) (.type "list")
  |tup {a:Addr} {xs:List V} (e:H a=some (.tup xs)):uc K H (.ref a) (.type "tuple")
  |dK {a:Addr} {aX:List (Key×V)} (e:H a=some (.dK aX)):uc K H (.ref a) (.type "dict")
  |dT {a:Addr} {aX:List (List Key×V)} (e:H a=some (.dT aX)):uc K H (.ref a) (.type "dict")
  |ins {a C dx:Addr} {fs:List (Str×V)} (e:H a=some (.ins C dx fs)) (cl:Rm K C) (ha:PySem.W.findIn K (.ref C) "__class__"=some (some (.builtin "object.__class__")))
      (hn:PySem.W.specialIn K (.builtin "object.__class__") "__get__"=some (some (.builtin "getset_descriptor.__get__"))) (htk:PySem.W.takesIn K (.builtin "object.__class__")=some true)
      (hm:PySem.W.mroIn K C (.type "object")=some true):uc K H (.ref a) (.ref C)
theorem LG{x:V}{t:Value}(I:Inv X pins σ H s)(rx:RelV x u)(ty:uc X.K H x t)(e:kitOne X.K t c=some b)(h:∀tk,Q (.bool b) { s with toks:=tk }):wpAny (model X.prog X.w) A (call (.builtin "isinstance") [u,c]) Q E s:=by
  cases ty with
  |non=>cases(show u=Value.none from rx);exact xZ PySem.W.kitx_none I.xH True.intro e (fun z=>nomatch z) h
  |bl y=>cases(show u=Value.bool y from rx);exact xZ PySem.W.kitx_bool I.xH True.intro e (fun z=>nomatch z) h
  |int i=>obtain⟨t,q⟩:=(show ∃t,u=Value.int i t from rx);cases q;exact xZ PySem.W.kitx_int I.xH True.intro e (fun z=>nomatch z) h
  |str y=>obtain⟨t,q⟩:=(show ∃t,u=Value.str y t from rx);cases q;exact xZ PySem.W.kitx_str I.xH True.intro e (fun z=>nomatch z) h
  |XJ y=>obtain⟨t,q⟩:=(show ∃t,u=Value.float y t from rx);cases q;exact xZ PySem.W.kitx_float I.xH True.intro e (fun z=>nomatch z) h
  |@lst a xs ea =>
   cases(show u=Value.ref a from rx);obtain⟨_,_,n,_,h1⟩:=(show cy X.prog X.w H s.heap a (.lst xs) from I.cY a _ ea)
   exact xZ kitx_list I.xH ⟨_,h1,rfl⟩ e (fun z=>nomatch z) h
  |@ua a ob xs ea =>
   cases(show u=Value.ref a from rx);obtain⟨_,_,_,n,_,h1⟩:=(show cy X.prog X.w H s.heap a (.ua ob (.lst xs)) from I.cY a _ ea)
   exact xZ kitx_list I.xH ⟨_,h1,rfl⟩ e (fun z=>nomatch z) h
  |@kl a o hk hc=>cases(show u=Value.ref a from rx);exact xZ kitx_list I.xH ⟨o,I.xH a o hk,hc⟩ e (fun z=>nomatch z) h
  |@tup a xs ea =>
   cases(show u=Value.ref a from rx);obtain⟨_,_,_,p⟩:=(show cy X.prog X.w H s.heap a (.tup xs) from I.cY a _ ea)
   obtain⟨o,h1,h2,_⟩:=p;exact xZ PySem.W.kitx_tuple I.xH ⟨o,h1,h2⟩ e (fun z=>nomatch z) h
  |@dK a aX ea =>
   cases(show u=Value.ref a from rx);obtain⟨_,_,vs,_,p⟩:=(show cy X.prog X.w H s.heap a (.dK aX) from I.cY a _ ea)
   obtain⟨o,es,ep,h1,h2,_⟩:=p;exact xZ kitx_dict I.xH ⟨o,h1,h2.1⟩ e (fun z=>nomatch z) h
  |@dT a aX ea =>
   cases(show u=Value.ref a from rx);obtain⟨_,_,xs,_,o,es,ep,h1,h2,_⟩:=(show cy X.prog X.w H s.heap a (.dT aX) from I.cY a _ ea)
   exact xZ kitx_dict I.xH ⟨o,h1,h2.1⟩ e (fun z=>nomatch z) h
  |@ins a C dx fs ea cl ha hn htk hm=>cases(show u=Value.ref a from rx);obtain⟨mA,O,_⟩:=JL I.cY ea;obtain⟨od,J,_⟩:=O.look;exact xZ (PySem.W.kitx_own (cl.get _) cl.hd ha hn htk hm) I.xH J e (fun z=>nomatch z) h
end
structure fG (k:Nat) (A:Around):Prop where
  hd:A.handled=none
  dp:A.depth+3*k+5<recursionLimit
  un:A.units+16*k+200<cLine
theorem fG.mono(r:fG k A)(h:j≤k):fG j A:=⟨r.hd,by have:=r.dp;omega,by have:=r.un;omega⟩
theorem fG.deeper(r:fG (k+1) A)(env:Env):fG k (A.deeper env) :=
  ⟨r.hd,by have:=r.dp;show A.depth+1+3*k+5<_;omega,by have:=r.un;show A.units+3+16*k+200<_;omega⟩
theorem fG.in1(r:fG (k+1) A):fG k A.in1 :=
  ⟨r.hd,by have:=r.dp;show A.depth+3*k+5<_;omega,by have:=r.un;show A.units+1+16*k+200<_;omega⟩
theorem fG.depth(r:fG k A):A.depth<recursionLimit:=by have:=r.dp;omega
theorem fG.units(r:fG k A):A.units+64<cLine:=by have:=r.un;omega
def abP:TA:=fun _ H Q=>Q [] H
def YK(ta:TE)(tr:TA):TA:=fun σ H Q=>ta σ H fun x H1=>tr σ H1 fun xs H2=>Q (x::xs) H2
section
variable {X:Cx} {e:Expr} {es:List Expr} {te:TE} {t:TA} {pos:Pos}
theorem kK:PA X [] abP:=fun _ _ _ _ H Q I h=>Calls.spliced_nil ⟨[],H,I,.nil,h⟩
theorem fh(ha:PE X e te)(hr:PA X es t)(hs:starEach (e::es) X.env=(false,eval e X.env)::starEach es X.env:=by rfl):PA X (e::es) (YK te t):=by intro pos pins s σ H Q I h;rw[hs];show wpAny _ _ (spliced ((false,eval e X.env)::backTo pos (starEach es X.env))) _ _ s;refine Di (gT (ha pins s σ H _ I h) fun u s1 ⟨x,H1,I1,r1,q1⟩=>?_);exact gT (hr pos pins s1 σ H1 _ I1 q1) fun us s2 ⟨xs,H2,I2,r2,q2⟩=>⟨x::xs,H2,I2,.cons r1 r2,q2⟩
def abQ(t:TA):TE:=fun σ H Q=>t σ H fun xs H1=>xs.length≤sizeLine∧∀p,H1 p=none→Q (.ref p) (upd H1 p (.tup xs))
def abR(t:TA):TE:=fun σ H Q=>t σ H fun xs H1=>xs.length≤sizeLine∧∀p,H1 p=none→Q (.ref p) (upd H1 p (.lst xs))
theorem NR{x1}(h:PA X es t):PE X (.Tuple es x1 pos) (abQ t):=by intro pins s σ H Q I hq;refine wpAny_Tuple_spliced (gT (h pos pins s σ H _ I hq) fun us s1 ⟨xs,H1,I1,r,z,q⟩=>⟨by rw[←r.length];exact z,?_⟩);have hf:H1 s1.heap.objs.size=none:=I1.cY.fresh (cu _);refine⟨.ref s1.heap.objs.size,upd H1 s1.heap.objs.size (.tup xs),I1.laid (t':=s1.toks) (fun b u e=>kz _ e) (cu _) ?_,rfl,q _ hf⟩;exact⟨z,us,r,⟨_,il _ rfl,rfl,_,rfl⟩⟩
theorem VY(h:PA X es t):PE X (.List es pos) (abR t):=by intro pins s σ H Q I hq;refine wpAny_List_spliced (gT (h pos pins s σ H _ I hq) fun us s1 ⟨xs,H1,I1,r,z,q⟩=>⟨by rw[←r.length];exact z,?_⟩);have hf:H1 s1.heap.objs.size=none:=I1.cY.fresh (cu _);refine⟨.ref s1.heap.objs.size,upd H1 s1.heap.objs.size (.lst xs),I1.laid (t':=s1.toks) (fun b u e=>kz _ e) (cu _) ?_,rfl,q _ hf⟩;exact⟨z,us,0,r,il _ rfl⟩
end
abbrev Sp:=List V→Hp→VK→XK→Prop
abbrev LH:=List Env→Hp→Shared→XK→lr
structure Hy (P:Program) (w:World) (K:PySem.W.Frag) (mg:Str→mR) (base:Heap) (A:Around) (outer:List Env) (s:Shared) (H:Hp):Prop where
  frames:A.frames=some outer
  mod:Mod K mg base
  bs:∀b o,base.get? b=some o→s.heap.get? b=some o∧H b=none
  Uv:base.objs.size≤s.heap.objs.size
  x8:s.heap.FunFrames base outer
  Vm:∀b∈Lq outer,H b=none
  cY:ub P w H s.heap
  bare:AllBare s.gens
def CE(outer:List Env)(P:Program)(w:World)(H:Hp)(s:Shared)(Q:VK)(u:Value)(s':Shared):Prop :=
  ∃v H',s'.os=s.os∧AllBare s'.gens∧Un (Lq outer) [] H H' s.heap s'.heap∧ub P w H' s'.heap∧RelV v u∧Q v H'
def CR(CX:LH)(outer:List Env)(P:Program)(w:World)(H:Hp)(s:Shared)(Q:VK)(E:XK)(r:Result)(s':Shared):Prop :=
  match r with
  |.ok (.ret u)=>CE outer P w H s Q u s'
  |.ok _=>False
  |.error e=>CX outer H s E e s'
structure cI (P:Program) (w:World) (K:PySem.W.Frag) (mg:Str→mR) (base:Heap) (CX:LH) (k:Nat) (f:Addr) (fd:FuncData) (ps:gq) (sp:Sp):Prop where
  len:∀vs H Q E,sp vs H Q E→vs.length=ps.length
  run:∀(A:Around) (outer:List Env) (s:Shared) (H:Hp) (args:Args) (us:ef) (vs:List V) (Q:VK) (E:XK),fG k A→Hy P w K mg base A outer s H→BindsTo s fd args (ps.zip us)→Vals vs us→sp vs H Q E →
    codeAny (model P w) A (.call (.ref f) args) (CR CX outer P w H s Q E) s
theorem cI.imp{K:PySem.W.Frag}{base:Heap}{CX:LH}{f:Addr}{ps:gq}{sp sp':Sp}(F:cI P w K mg base CX k f fd ps sp)(h:∀vs H Q E,sp' vs H Q E→sp vs H Q E):cI P w K mg base CX k f fd ps sp' :=
  ⟨fun vs H Q E q=>F.len vs H Q E (h _ _ _ _ q),fun A outer s H args us vs Q E hr he hb hv hs=>F.run A outer s H args us vs Q E hr he hb hv (h _ _ _ _ hs)⟩
section
variable {X:Cx} {pins:kH} {σ:St} {H:Hp} {s s':Shared}
theorem Inv.NT(I:Inv X pins σ H s):Hy X.prog X.w X.K X.mg X.base X.A X.stack s H :=
  ⟨I.ok.frames,I.ok.mod,I.bs,pU I.ok.Uv I.sz,I.stack,I.JC,I.cY,I.bare⟩
theorem Inv.after{Q:VK}(I:Inv X pins σ H s)(h:CE X.stack X.prog X.w H s Q u s'):EP X pins σ Q u s':=by obtain⟨v,H',os,bare,un,cY,r,q⟩:=h;obtain⟨hh,g,d,t,os'⟩:=s';obtain rfl:os'=s.os:=os;exact⟨v,H',I.call (h':=hh) (g':=g) (d':=d) (t':=t) (ch:=[]) un cY bare (fun b z=>absurd z (by simp)),r,q⟩
end
def UB(sp:Sp)(dvs:List V)(E:XK)(t:TA):TE:=fun σ H Q=>t σ H fun vs H1=>sp (vs++dvs) H1 Q E
def Binds(K:PySem.W.Frag)(fd:FuncData)(ps:gq)(ds:ef):Prop :=
  ∀(s:Shared) (us:ef),K.In s.heap→(us++ds).length=ps.length→BindsTo s fd ⟨us,[]⟩ (ps.zip (us++ds))
theorem Binds.all{K:PySem.W.Frag}{ps:gq}(h:∀us:ef,us.length=ps.length→bindArgs fd ⟨us,[]⟩=pure (ps.zip us)):Binds K fd ps []:=fun s us _ hl=>by rw[uH] at hl⊢;exact .of_eq (h us hl)
def Passes(CX:LH)(X:Cx)(E:XK):Prop:=∀(pins:kH) (σ:St) (H:Hp) (s:Shared) (e:Value) (s':Shared),Inv X pins σ H s→CX X.stack H s E e s'→X.xe e s'
section
variable {X:Cx} {CX:LH} {k:Nat} {f C:Addr} {fd:FuncData} {ps:gq} {sp:Sp} {dvs:List V} {ds:ef} {E:XK} {x m:Str} {p pos apos:Pos} {e o:Expr} {es:List Expr} {ta:TE} {t:TA}
theorem NV{σ:St}{H:Hp}{Q:VK}{vs:List V}(F:cI X.prog X.w X.K X.mg X.base CX k f fd ps sp)(hr:fG k X.A)(hb:Binds X.K fd ps ds)(hd:Vals dvs ds)(hx:Passes CX X E)(I:Inv X pins σ H s)(r:Vals vs us)(h:sp (vs++dvs) H Q E):wpAny (model X.prog X.w) X.A (call (.ref f) us) (EP X pins σ Q) X.xe s:=by
  have r2:Vals (vs++dvs) (us++ds):=r.append hd;have hl:(us++ds).length=ps.length:=by rw[←r2.length];exact F.len _ _ _ _ h
  refine wpAny_call (codeAny_mono (F.run X.A X.stack s H ⟨us,[]⟩ (us++ds) (vs++dvs) Q E hr I.NT (hb s us I.xH hl) r2 h) fun r s' hq=>?_);cases r with
  |error e=>exact hx pins σ H s e s' I hq
  |ok fl =>
   cases fl with
   |ret u=>exact I.after hq
   |next=>exact False.elim hq
   |brk=>exact False.elim hq
   |cont=>exact False.elim hq
theorem RT(F:cI X.prog X.w X.K X.mg X.base CX k f fd ps sp)(hr:fG k X.A)(hg:Gl X x)(hm:X.mg x=some (.ref f))(hk:keepIn X.K (.ref f)=true)(hb:Binds X.K fd ps ds)(hd:Vals dvs ds)(hx:Passes CX X E)(ha:PA X (e::es) t)(tm:(x==("__debug__":Str))=false:=by decide)(he:starEach (e::es) X.env=(false,eval e X.env)::starEach es X.env:=by rfl)(tq:(backTo pos (starEach es X.env)).any (·.1)=false:=by rfl):PE X (.Call (.Name x p) (e::es) [] pos) (UB sp dvs E t):=by
  intro pins s σ H Q I h;refine wd (sC I hg hm ?_ tm);refine callWith_K (h₀:=X.base) I.ok.mod.kin hk (gT (ha pos pins s σ H _ I h) fun us s1 ⟨vs,H1,I1,r,q⟩=>⟨I1.xH,?_⟩) he tq;exact NV F hr hb hd hx I1 r q
structure Mk (K:PySem.W.Frag) (C f:Addr):Prop where
  makes:makesIn K C=true
  init:PySem.W.findIn K (.ref C) "__init__"=some (some (.ref f))
  fn:isFn K (.ref f)=true
  kp:keepIn K (.ref C)=true
end
section
variable {X:Cx} {CX:LH} {k:Nat} {f C:Addr} {fd:FuncData} {ps ks:gq} {sp:Sp} {E:XK} {x m:Str} {p pos apos ahf:Pos} {e o:Expr} {es:List Expr} {kws:List Keyword} {te ta:TE} {t tk:TA} {nm:Option Str}
structure abT (K:PySem.W.Frag) (fd:FuncData) (ps ks:gq) (g:ef→ef→ef) (gV:List V→List V→List V):Prop where
  to:∀(s:Shared) (us ws:ef),K.In s.heap→(g us ws).length=ps.length→BindsTo s fd ⟨us,ks.zip ws⟩ (ps.zip (g us ws))
  rel:∀{vs:List V} {us:ef} {zs:List V} {ws:ef},Vals vs us→Vals zs ws→Vals (gV vs zs) (g us ws)
variable {g:ef→ef→ef} {gV:List V→List V→List V}
end
structure aV (N P:gq) (sc:Scope):Prop where
  kind:sc.kind=.function
  co:sc.isCoroutine=false
  gen:sc.isGenerator=false
  nd:N.Nodup
  pre:N.take P.length=P
  par:∀x∈P,sc.names.lookup x=some .local∨sc.names.lookup x=some .cell
  VZ:∀y∈sc.names,y.2≠.free
theorem BX{kindOf:Str→Option NameKind}{x:Str}:∀{binds:List (Str×Value)} {m:Str→mR},(∀v,(x,v)∉binds)→bindL kindOf binds m x=m x
  |[],_,_=>rfl
  |(n,v)::r,m,h=>by
   unfold bindL;rw[BX fun w hw=>h w (lJ _ hw)];split
   · have:x≠n:=by rintro rfl;exact h v de
     simp[this]
   ·rfl
theorem BZ{kindOf:Str→Option NameKind}{x:Str}:∀{binds:List (Str×Value)} {m:Str→mR},(∀v,(x,v)∉binds)→bindC kindOf binds m x=m x
  |[],_,_=>rfl
  |(n,v)::r,m,h=>by
   unfold bindC;rw[BZ fun w hw=>h w (lJ _ hw)];split
   ·rfl
   · have:x≠n:=by rintro rfl;exact h v de
     simp[this]
theorem B1{kindOf:Str→Option NameKind}{x:Str}{v:Value}:∀{P:gq} {vs:ef} {i:Nat} {m:Str→mR},P.Nodup→P[i]?=some x→vs[i]?=some v→kindOf x=some .local→bindL kindOf (P.zip vs) m x=some v
  |[],_,_,_,_,h,_,_=>by simp at h
  |_::_,[],_,_,_,_,h,_=>by simp at h
  |p::P,w::vs,0,m,nd,h1,h2,hk=>by simp at h1 h2;subst h1;subst h2;show bindL kindOf ((p,w)::P.zip vs) m p=_;unfold bindL;rw[BX fun v hv=>(yL.mp nd).1 (List.of_mem_zip hv).1,az hk];simp
  |p::P,w::vs,i+1,m,nd,h1,h2,hk=>by show bindL kindOf ((p,w)::P.zip vs) m x=_;unfold bindL;exact B1 (i:=i) (yL.mp nd).2 (by simpa using h1) (by simpa using h2) hk
theorem B2{kindOf:Str→Option NameKind}{x:Str}{v:Value}:∀{P:gq} {vs:ef} {i:Nat} {m:Str→mR},P.Nodup→P[i]?=some x→vs[i]?=some v→kindOf x≠some .local→bindC kindOf (P.zip vs) m x=some v
  |[],_,_,_,_,h,_,_=>by simp at h
  |_::_,[],_,_,_,_,h,_=>by simp at h
  |p::P,w::vs,0,m,nd,h1,h2,hk=>by simp at h1 h2;subst h1;subst h2;show bindC kindOf ((p,w)::P.zip vs) m p=_;unfold bindC;rw[BZ fun v hv=>(yL.mp nd).1 (List.of_mem_zip hv).1,bh hk];simp
  |p::P,w::vs,i+1,m,nd,h1,h2,hk=>by show bindC kindOf ((p,w)::P.zip vs) m x=_;unfold bindC;exact B2 (i:=i) (yL.mp nd).2 (by simpa using h1) (by simpa using h2) hk
def start(N:gq)(vs:List V):St:=vs.map some++List.replicate (N.length-vs.length) none
def ya(CX:LH)(P:Program)(w:World)(K:PySem.W.Frag)(mg:Str→mR)(base:Heap)(N:gq)(qual:Str)(scope:Scope)(f:Addr)(cd:Value)(A:Around)(outer:List Env)(s:Shared)(H:Hp)(E:XK):Cx where
  prog:=P
  w:=w
  K:=K
  mg:=mg
  base:=base
  A:=A.deeper (envOfC qual scope s.heap.objs.size f cd)
  N:=N
  s₀:=s
  H₀:=H
  env:=envOfC qual scope s.heap.objs.size f cd
  outer:=outer
  stack:=envOfC qual scope s.heap.objs.size f cd::outer
  ex:=[]
  calm:=true
  fn:=fun _=>true
  pn:=[]
  xe:=fun e s'=>wpAny (model P w) (A.deeper (envOfC qual scope s.heap.objs.size f cd)) (leaving (envOfC qual scope s.heap.objs.size f cd) e) (fun _ wx=>CX outer H s E e wx) (fun e' wx=>CX outer H s E e' wx) s'
theorem FK{sc:Scope}(h:sc.names.lookup x=some .cell):∃c,(cellsFrom n sc.names []).lookup x=some c:=by have q:=cellsFrom_some sc.names n [] (.inl h);exact Option.isSome_iff_exists.mp q
theorem B3{CX:LH}{K:PySem.W.Frag}{base:Heap}{ps:gq}{f:Addr}{cd:Value}{outer:List Env}{s1:Shared}{H:Hp}{E:XK}{vs:List V}(S:aV N ps scope)(hd:A.handled=none)(e0:Hy P w K mg base A outer s H)(hl:vs.length=ps.length)(r:Vals vs us)(x:InCallC s s.heap.objs.size (bindL (envOfC qual scope s.heap.objs.size f cd).kindOf (ps.zip us) fun _=>none) (cellsFrom (s.heap.objs.size+1) scope.names []) (bindC (envOfC qual scope s.heap.objs.size f cd).kindOf (ps.zip us) fun _=>none) s1):Inv (ya CX P w K mg base N qual scope f cd A outer s H E) [] (start N vs) H s1:=by
  have tq:ps.length≤N.length:=by have:=g6 List.length S.pre;rw[Dj] at this;omega
  obtain⟨h1,tk,rfl,hk⟩:=x.done;have YL:∀b:Addr,b∉(ya CX P w K mg base N qual scope f cd A outer s H E).ex:=fun b z=>absurd (show b∈([]:List Addr) from z) (by simp);refine⟨⟨e0.mod,S.kind,rfl,rfl,cu _,fun y z c h1 h2=>?_,fun y hy=>?_,fun y c _ h=>?_,fun _=>hd,Around.frames_deeper e0.frames,.inr ⟨rfl,rfl⟩,fun b z=>absurd z (YL b),e0.bs,e0.Uv,fun b _ _=>YL b,fun b z=>absurd z (YL b),e0.x8,e0.Vm⟩,
    rfl,e0.bare,Un.kept hk,⟨_,x.toInCall.ns,fun i y v h1 h2 h3=>?_⟩,fun y c h=>⟨_,x.cell y c h⟩,e0.cY.fresh (cu _),fun y c h=>?_,fun p hp=>absurd (show p∈([]:kH) from hp) (by simp),e0.cY.kept hk,?_⟩
  ·exact name_of_addr x.apart (PySem.mem_of_lookup h1) (PySem.mem_of_lookup h2)
  · have hy:scope.names.lookup y=some .cell∨scope.names.lookup y=some .free:=hy;rcases hy with hy|hy
    ·exact FK hy
    ·exact absurd rfl (S.VZ _ (PySem.mem_of_lookup hy))
  ·exact Nat.le_of_lt (x.above y c (PySem.mem_of_lookup h))
  · have hi:i<vs.length:=by
      unfold start at h2;by_cases hi:i<vs.length
      ·exact hi
      ·rw[Fu (by simpa using hi)] at h2;rw[List.getElem?_replicate] at h2;split at h2<;>cases h2
    have ha:vs[i]?=some v:=by
      unfold start at h2;rw[List.getElem?_append_left (by simpa using hi),qG] at h2;cases e:vs[i]? with
      |none=>rw[e] at h2;cases h2
      |some a=>rw[e] at h2;cases h2;rfl
    obtain⟨u,hu,rv⟩:=r.get ha;have hp:ps[i]?=some y:=by rw[←S.pre,List.getElem?_take_of_lt (by omega)];exact h1
    have ndP:ps.Nodup:=by rw[←S.pre];exact S.nd.sublist (List.take_sublist _ _)
    refine⟨u,rv,?_⟩;rcases S.par y (List.mem_of_getElem? hp) with k|k
    ·exact .inl ⟨k,B1 ndP hp hu k⟩
    ·obtain⟨c,e⟩:=FK (n:=s.heap.objs.size+1) k;refine .inr ⟨.inl k,c,e,?_⟩;have q:=x.cell y c e;rw[B2 ndP hp hu (by show scope.names.lookup y≠_;rw[k];decide)] at q;exact q
  ·exact e0.cY.fresh (Nat.le_of_lt (x.above y c (PySem.mem_of_lookup h)))
  ·unfold start;show _=N.length;rw[kI,g9,List.length_replicate];omega
theorem UC{CX:LH}{K:PySem.W.Frag}{base:Heap}{f:Addr}{name:Str}{body:List Stmt}{dV kV doc eQ:Value}{ps:gq}{sp:Sp}(lk:K.lookup f=some ⟨oc,od,.func (fnOf name qual params body scope dV kV doc pm an eQ ct),Hm⟩)(ow:codeIn K eQ qual=true)(S:aV N ps scope)(len:∀vs H Q E,sp vs H Q E→vs.length=ps.length)(yP:∀(A:Around) (outer:List Env) (s:Shared) (H:Hp) (vs:List V) (Q:VK) (E:XK),fG k (A.deeper (envOfC qual scope s.heap.objs.size f eQ))→sp vs H Q E→∃t,Bg (ya CX P w K mg base N qual scope f eQ A outer s H E) body t∧t { nx:=fun _ H'=>Q .non H',rt:=Q } (start N vs) H):cI P w K mg base CX (k+1) f (fnOf name qual params body scope dV kV doc pm an eQ ct) ps sp:=by
  refine⟨len,fun A outer s H args us vs Q E hr e0 hb r UD=>?_⟩;have hl:=len _ _ _ _ UD;have KX:K.In s.heap:=e0.mod.kin.keeps fun b o e=>(e0.bs b o e).1;have lim:s.heap.NoLimit:=e0.mod.nolimit.keeps fun b o e=>(e0.bs b o e).1;have NW:∀y∈ps.zip us,scope.names.lookup y.1=some .local∨(scope.names.lookup y.1=some .cell∧((cellsFrom (s.heap.objs.size+1) scope.names []).lookup y.1).isSome=true):=fun⟨n,v⟩ hy=>by
    rcases S.par n (List.of_mem_zip hy).1 with q|q
    ·exact .inl q
    ·exact .inr ⟨q,cellsFrom_some _ _ _ (.inl q)⟩
  refine codeAny_call_function hr.depth (KX _ _ lk) rfl S.co S.gen rfl (PySem.W.codeRec_of KX ow) (hb _ _ _ _ ?_);refine wpAny_newFunctionEnv_cells S.kind NW fun env he s1 x=>?_;subst he;refine⟨lim.keeps x.toInCall.keep,codeAny_func ?_⟩;obtain⟨t,ht,hq⟩:=yP A outer s H vs Q E (hr.deeper _) UD;have I:Inv (ya CX P w K mg base N qual scope f eQ A outer s H E) [] (start N vs) H s1:=B3 S hr.hd e0 hl r x;refine pV (ht [] s1 (start N vs) H _ I hq) (fun fl s' hs=>?_) fun e s' hs=>hs;have fin:∀{σ':St} {H':Hp} {v:V} {u:Value},Inv (ya CX P w K mg base N qual scope f eQ A outer s H E) [] σ' H' s'→RelV v u→Q v H'→CE outer P w H s Q u s' :=
    fun {σ' H' v u} J rv q=>⟨v,H',J.os,J.bare,J.base,J.cY,rv,q⟩
  cases fl with
  |ret u=>obtain⟨v,σ',H',J,rv,q⟩:=hs;exact fin J rv q
  |next=>obtain⟨σ',H',J,q⟩:=hs;exact fin (v:=V.non) (u:=Value.none) J rfl q
  |brk=>obtain⟨_,_,_,q⟩:=hs;exact False.elim q
  |cont=>obtain⟨_,_,_,q⟩:=hs;exact False.elim q
section
variable {X:Cx} {x:Str} {p pos:Pos} {e:Expr} {es:List Expr} {t:TA} {id T:String} {r:List V→Hp→VK→Prop}
def tCB(r:List V→Hp→VK→Prop)(t:TA):TE:=fun σ H Q=>t σ H fun vs H1=>r vs H1 Q
theorem qR(hc:qx X (.builtin id) r)(hg:Gl X x)(hm:X.mg x=none)(hv:bootBuiltins x=some (.builtin id))(ha:PA X (e::es) t)(hn:x≠"__name__":=by decide)(tm:(x==("__debug__":Str))=false:=by decide)(he:starEach (e::es) X.env=(false,eval e X.env)::starEach es X.env:=by rfl)(tq:(backTo pos (starEach es X.env)).any (·.1)=false:=by rfl):PE X (.Call (.Name x p) (e::es) [] pos) (tCB r t):=by
  intro pins s σ H Q I h;refine wd (jX I hg hm hv ?_ hn tm);exact PyProof.Rows.callWith_builtin1 (gT (ha pos pins s σ H _ I h) fun us s1 ⟨vs,H1,I1,r1,q1⟩=>hc pins s1 σ H1 vs us Q I1 r1 q1) he tq
theorem B4(hc:qx X (.type T) r)(hg:Gl X x)(hm:X.mg x=none)(hv:bootBuiltins x=some (.type T))(ha:PA X (e::es) t)(hn:x≠"__name__":=by decide)(tm:(x==("__debug__":Str))=false:=by decide)(he:starEach (e::es) X.env=(false,eval e X.env)::starEach es X.env:=by rfl)(tq:(backTo pos (starEach es X.env)).any (·.1)=false:=by rfl):PE X (.Call (.Name x p) (e::es) [] pos) (tCB r t):=by
  intro pins s σ H Q I h;refine wd (jX I hg hm hv ?_ hn tm);exact Ft (gT (ha pos pins s σ H _ I h) fun us s1 ⟨vs,H1,I1,r1,q1⟩=>hc pins s1 σ H1 vs us Q I1 r1 q1) he tq
end
end L2
variable {xs:List (List L2.Key×PySem.Addr×PySem.Value)} {F F' H H':L2.Hp} {o:L2.HO} {v y:L2.V} {X:L2.Cx} {σ:L2.St} {r:L2.R2} {aX:List (List L2.Key×L2.V)}
namespace HT
open PySem PyProof.Rows
def lexLt:aO→aO→Bool
  |[],[]=>false
  |[],_::_=>true
  |_::_,[]=>false
  |x::xs,y::ys=>if x=y then lexLt xs ys else decide (x<y)
theorem nF(x y:Int)(xs ys:aO):lexLt (x::xs) (y::ys)=if x=y then lexLt xs ys else decide (x<y):=rfl
theorem tN:lexLt [] []=false:=rfl
theorem qS(y:Int)(ys:aO):lexLt [] (y::ys)=true:=rfl
theorem jY(x:Int)(xs:aO):lexLt (x::xs) []=false:=rfl
theorem NX(A:Around)(s:Shared)(a:Int)(t:Tok)(c:Int)(u:Tok):∃e,SeqAt.EqAt A s (.int a t) (.int c u) e∧(e=true↔a=c) :=
  ⟨(a==c),SeqAt.EqAt.int_int a t c u,by simp⟩
theorem NZ(A:Around)(s:Shared)(a:Int)(t:Tok)(c:Int)(u:Tok)(prog:Program)(w:World)(E:lr)(Q:lr)(h:Q (.bool (decide (a<c))) s):wpAny (model prog w) A (richCompare .Lt (.int a t) (.int c u)) Q E s :=
  (PyProof.Rows.lt_int h:wpAny (model prog w) A (compareOp .Lt (.int a t) (.int c u)) Q E s)
section
open PySem.SeqAt
open PySem.AutoSeq1 (wpAny_loadPart')
open PySem.MeetsSeq PySem.MeetsSeq2 PySem.MeetsSeq3
theorem Bj(l b:Addr)(items oP:Array Value)(n n2:Nat)(dd Rn:Option Addr)(sl Ro:Array mR)(ns ms:aO)(hi:IntsAre items.toList ns)(hj:IntsAre oP.toList ms):Meets (Builtin.«tuple.__lt__» ⟨[.ref l,.ref b],[]⟩) (fun _ R s=>s.heap.get? l=some { cls:=.type "tuple",dict:=dd,data:=.seq items n,slots:=sl }∧s.heap.get? b=some { cls:=.type "tuple",dict:=Rn,data:=.seq oP n2,slots:=Ro }∧R (.ok (.ret (.bool (lexLt ns ms)))) s) :=
  .of_wp fun prog w A R s h=>by
    obtain⟨hp,g,d,tk,os⟩:=s;obtain⟨hl,hb,h⟩:=h;have f2:=AutoSeq1.sub_tuple_tuple;have z1:items.size=ns.length:=by rw[←hi.length];simp
    have z2:oP.size=ms.length:=by rw[←hj.length];simp
    wp_walk using wpAny_loadPart' hl,wpAny_loadPart' hb,wpAny_forIn_list _ (fun rest b s'=>b.1=none∧s'=⟨hp,g,d,tk,os⟩∧∃(vs ws:ef) (RW XS:aO),rest=vs.zip ws ∧
      IntsAre vs RW∧IntsAre ws XS∧RW.length+oP.size=XS.length+items.size∧R (.ok (.ret (.bool (lexLt RW XS)))) ⟨hp,g,d,tk,os⟩) _
    case turn =>
      rintro⟨y,x⟩ rest b s' ⟨Fm,rfl,vs,ws,RW,XS,hz,hvi,hwi,hlen,hR⟩;cases hvi with
      |nil=>rw[List.zip_nil_left] at hz;cases hz
      |cons a t abV =>
       cases hwi with
       |nil=>rw[List.zip_nil_right] at hz;cases hz
       |cons c u abW =>
        rw[List.zip_cons_cons] at hz;injection hz with hyx YM;injection hyx with hy hx;subst hy hx;rw[nF] at hR;simp only[mW] at hlen;obtain⟨e,he,YN⟩:=NX A.in1 ⟨hp,g,d,tk,os⟩ a t c u;refine bA (he prog w _ _ ?_);cases e with
        |true =>
         rw[az (YN.mp rfl)] at hR
         wp_walk
         exact⟨rfl,rfl,_,_,_,_,YM,abV,abW,by omega,hR⟩
        |false =>
         rw[bh (fun q=>absurd (YN.mpr q) lK)] at hR;have hri:=NZ A.in1 ⟨hp,g,d,tk,os⟩ a t c u prog w
         wp_walk using hri
         exact⟨_,rfl,by simpa using hR⟩
    case fin =>
      rintro⟨b1,b2⟩ s' ⟨Fm,rfl,vs,ws,RW,XS,hz,hvi,hwi,hlen,hR⟩;simp only at Fm;subst Fm;have hv:lexLt RW XS=decide (items.size<oP.size):=by
        cases hvi with
        |nil =>
         cases hwi with
         |nil=>simp only[List.length_nil] at hlen;rw[tN];exact(lL (by omega)).symm
         |cons c u hw=>simp only[List.length_nil,mW] at hlen;rw[qS];exact(nE (by omega)).symm
        |cons a t hv =>
         cases hwi with
         |nil=>simp only[List.length_nil,mW] at hlen;rw[jY];exact(lL (by omega)).symm
         |cons c u hw=>rw[List.zip_cons_cons] at hz;cases hz
      rw[hv] at hR
      wp_walk
      exact⟨_,rfl,by simpa[Builtin.Tuple.tupleCompareSizes] using hR⟩
    case h =>
      exact⟨rfl,rfl,items.toList,oP.toList,ns,ms,rfl,hi,hj,by omega,h⟩
end
section
variable {prog:Program} {w:World} {A:Around} {E:lr} {s:Shared}
theorem yQ{l b:Addr}{items oP:Array Value}(hl:IsTup s.heap l items)(hb:IsTup s.heap b oP)(hi:IntsAre items.toList ns)(hj:IntsAre oP.toList ms)(hu:A.units<cLine)(h:Q (.bool (lexLt ns ms)) s):wpAny (model prog w) A (compareOp .Lt (.ref l) (.ref b)) Q E s:=by
  obtain⟨⟨cls,dd,data,sl⟩,ho,hc,n,hd⟩:=id hl;obtain⟨⟨V0,Rn,data2,Ro⟩,LJ,N1,n2,hd2⟩:=id hb;simp only at hc hd N1 hd2;subst hc hd N1 hd2;exact richCompare_meets_room (op:=.Lt) ⟨_,ho,rfl⟩ ⟨_,LJ,rfl⟩ PySem.F.slot_tuple_lt PySem.F.entry_tuple_lt (PySem.F.args_tuple_lt_2 _ _) (Bj l b items oP n n2 dd Rn sl Ro ns ms hi hj)
    ⟨ho,LJ,show Value.bool (lexLt ns ms)≠Value.notImplemented∧Q (.bool (lexLt ns ms)) s from⟨(fun x=>nomatch x),h⟩⟩ hu
theorem RX{t b:Addr}{ws:ef}(ht:IsTup s.heap t vs.toArray)(hb:IsTup s.heap b ws.toArray)(hv:vs≠[])(h1:ws=[]→Q (.ref t) s)(h2:ws≠[]→Q (.ref s.heap.objs.size) { s with heap:=s.heap.push { cls:=.type "tuple",data:=.seq (vs++ws).toArray } })(hsz:vs.length+ws.length≤sizeLine):wpAny (model prog w) A (binaryOp .Add (.ref t) (.ref b)) Q E s:=by
  obtain⟨⟨cls,dd,data,sl⟩,ho,hc,n,hd⟩:=id ht;obtain⟨⟨V0,Rn,data2,Ro⟩,LJ,N1,n2,hd2⟩:=id hb;simp only at hc hd N1 hd2;subst hc hd N1 hd2;have e:vs.toArray++ws.toArray=(vs++ws).toArray:=by simp
  by_cases hw:ws=[]
  · exact concat_meets ⟨_,ho,rfl⟩ ⟨_,LJ,rfl⟩ noFill_tuple_add seq_tuple_add PySem.F.slot_tuple_add PySem.F.entry_tuple_add (PySem.F.args_tuple_add_2 _ _)
      (tuple_addW1 t b vs.toArray ws.toArray n n2 dd Rn sl Ro (by simpa using hv) (by simp[hw])) ⟨ho,LJ,h1 hw⟩
  · refine concat_meets ⟨_,ho,rfl⟩ ⟨_,LJ,rfl⟩ noFill_tuple_add seq_tuple_add PySem.F.slot_tuple_add PySem.F.entry_tuple_add (PySem.F.args_tuple_add_2 _ _)
      (tuple_addW2 t b vs.toArray ws.toArray n n2 dd Rn sl Ro (by simpa using hv) (by simpa using hw) (by rw[kC,kC];exact hsz)) ⟨ho,LJ,?_⟩
    rw[e];exact h2 hw
def uE(n d:Nat):Option Int→Nat
  |none=>d
  |some v=>if v<0 then(v+(n:Int)).toNat else min v.toNat n
theorem yR(n d:Nat):uE n d none=d:=rfl
theorem sD(n d k:Nat):uE n d (some (k:Int))=min k n:=by show(if (k:Int)<0 then((k:Int)+(n:Int)).toNat else min (k:Int).toNat n)=min k n;rw[bh (by omega),Int.toNat_natCast]
end
end HT
namespace L2
open PySem PySem.Spec PyProof.Rows
abbrev TO:=St→Hp→(Option Int→Hp→Prop)→Prop
def PO(X:Cx)(e:Option Expr)(t:TO):Prop :=
  ∀(pins:kH) (s:Shared) (σ:St) (H:Hp) (Q:Option Int→Hp→Prop),Inv X pins σ H s→t σ H Q →
   wpAny (model X.prog X.w) X.A (evalPart e X.env) (fun u s'=>∃o H',Inv X pins σ H' s'∧IsPart u o∧Q o H') X.xe s
def RZ:TO:=fun _ H Q=>Q none H
def YQ(t:TE):TO:=fun σ H Q=>t σ H fun x H1=>∃i,x=.int i∧Q (some i) H1
theorem intsAre_of:∀{us:ef},Vals (ns.map V.int) us→IntsAre us ns:=by
  induction ns with
  |nil=>intro us r;rw[ja] at r;cases r;exact .nil
  |cons n ns ih =>
   intro us r;rw[bY] at r;cases r with
   |cons r1 r2=>obtain⟨t,e⟩:=r1;subst e;exact .cons n t (ih r2)
section
variable {X:Cx} {e:Expr} {te:TE} {lo hi:Option Expr} {tl th:TO} {pos p2:Pos}
theorem R0:PO X none RZ:=by intro pins s σ H Q I h;rw[evalPart_none];exact bj ⟨none,H,I,.none,h⟩
theorem R3(h:PE X e te):PO X (some e) (YQ te):=by intro pins s σ H Q I hw;rw[evalPart_some];refine gT (h pins s σ H _ I hw) fun u s1 ⟨x,H1,I1,r1,q1⟩=>?_;obtain⟨i,rfl,q⟩:=q1;obtain⟨t,rfl⟩:=r1;exact⟨some i,H1,I1,.int i t,q⟩
def SlR(X:Cx)(r:V→Option Int→Option Int→Hp→VK→Prop):Prop :=
  ∀(pins:kH) (s:Shared) (σ:St) (H:Hp) (x:V) (v vl vu:Value) (lo hi:Option Int) (sl:Addr) (Q:VK),Inv X pins σ H s→RelV x v→s.heap.IsSliceOf sl vl vu .none→IsPart vl lo→IsPart vu hi→r x lo hi H Q →
   ∃T id,typeLookup (.type T) "__getitem__"=pure (some (.builtin id))∧s.TypeIs v T∧wpAny (model X.prog X.w) X.A (getItem v (.ref sl)) (EP X pins σ Q) X.xe s
def tSl(r:V→Option Int→Option Int→Hp→VK→Prop)(te:TE)(tl th:TO):TE:=fun σ H Q=>te σ H fun x H1=>tl σ H1 fun l H2=>th σ H2 fun u H3=>r x l u H3 Q
theorem N2{r:V→Option Int→Option Int→Hp→VK→Prop}(hr:SlR X r)(he:PE X e te)(hl:PO X lo tl)(hu:PO X hi th):PE X (.Subscript e (.Slice lo hi none p2) pos) (tSl r te tl th):=by intro pins s σ H Q I h;refine Subscript_ (gT (he pins s σ H _ I h) fun v s1 ⟨x,H1,I1,r1,q1⟩=>?_);refine wpAny_Slice (gT (hl pins s1 σ H1 _ I1 q1) fun vl s2 ⟨l,H2,I2,pl,q2⟩=>gT (hu pins s2 σ H2 _ I2 q2) fun vu s3 ⟨u,H3,I3,pu,q3⟩=>?_);rw[evalPart_none];refine bj ?_;have I4:Inv X pins σ H3 { s3 with heap:=s3.heap.push { cls:=.type "slice",data:=.fields #[vl,vu,.none] } }:=I3.kept (t':=s3.toks) fun b ob q=>kz _ q;obtain⟨T,id,hT,ht,hg⟩:=hr pins { s3 with heap:=s3.heap.push { cls:=.type "slice",data:=.fields #[vl,vu,.none] } } σ H3 x v vl vu l u s3.heap.objs.size Q I4 r1 (Heap.IsSliceOf.new ..) pl pu q3;show wpAny (model X.prog X.w) X.A (subscriptTail e (.Slice lo hi none p2) v (.ref s3.heap.objs.size)) (EP X pins σ Q) X.xe { s3 with heap:=s3.heap.push { cls:=.type "slice",data:=.fields #[vl,vu,.none] } };exact tail_any (ops:=[.ref s3.heap.objs.size,v]) ht hT hg (by with_unfolding_all rfl)
def Hz(xs:List V)(lo hi:Option Int):List V:=(xs.drop (HT.uE xs.length 0 lo)).take (HT.uE xs.length xs.length hi-HT.uE xs.length 0 lo)
theorem xI(xs:List V)(lo hi:Option Int):(Hz xs lo hi).length≤xs.length:=by unfold Hz;rw[Dj,List.length_drop];omega
def YR(K:PySem.W.Frag):R2:=fun x y H Q=>∃a b xs ys,x=.ref a∧y=.ref b∧kA K H a xs∧kA K H b ys∧xs≠[]∧xs.length+ys.length≤sizeLine ∧
  (ys=[]→Q (.ref a) H)∧(ys≠[]→∀p,H p=none→Q (.ref p) (upd H p (.tup (xs++ys))))
theorem Vals.yx{xs:List V}(r:Vals xs us):us=[]↔xs=[]:=by
  cases r with
  |nil=>simp
  |cons _ _=>simp
theorem R4:qw X (binaryOp .Add) (YR X.K):=by intro pins s σ H x y v u Q I rx ry h;obtain⟨a,b,xs,ys,rfl,rfl,ha,hb,hx,hz,q1,q2⟩:=h;cases rx;cases ry;obtain⟨its,r1,p1,_⟩:=I.tuple ha;obtain⟨eK,r2,p2,_⟩:=I.tuple hb;refine HT.RX p1 p2 (fun z=>hx (r1.yx.mp z)) (fun z=>⟨.ref a,H,I,rfl,q1 (r2.yx.mp z)⟩) (fun z=>?_) (by rw[←r1.length,←r2.length];exact hz);refine⟨.ref s.heap.objs.size,_,I.laid (t':=s.toks) (o:=.tup (xs++ys)) (fun b ob q=>kz _ q) (cu _) ?_,rfl,q2 (fun w=>z (r2.yx.mpr w)) _ (I.cY.fresh (cu _))⟩;exact⟨by rw[kI];exact hz,_,r1.append r2,IsTup.new _ _⟩
end
def XT(n:Nat)(i:Int):Option Nat:=if 0≤i then(if i<n then some i.toNat else none) else if -(n:Int)≤i then some (i+n).toNat else none
def qy{α:Type}(xs:List α)(i:Int):Option α:=(XT xs.length i).bind fun j=>xs[j]?
theorem R5{i:Int}(h:XT n i=some j):seqIndex? i n=some j∧j<n∧-(n:Int)≤i∧i<n:=by
  unfold XT at h;by_cases h0:0≤i
  · rw[az h0] at h;by_cases h1:i<n
    ·rw[az h1] at h;have e:i.toNat=j:=oq h;exact⟨by rw[seqIndex_of h0 h1,e],by omega,by omega,h1⟩
    ·rw[bh h1] at h;cases h
  · rw[bh h0] at h;by_cases h1:-(n:Int)≤i
    ·rw[az h1] at h;have e:(i+n).toNat=j:=oq h;exact⟨by rw[seqIndex_neg (by omega) h1,e],by omega,h1,by omega⟩
    ·rw[bh h1] at h;cases h
theorem JM{α:Type}{xs:List α}{i:Int}{v:α}(h:qy xs i=some v):∃j,seqIndex? i xs.length=some j∧xs[j]?=some v∧j<xs.length∧-(xs.length:Int)≤i∧i<xs.length:=by
  unfold qy at h;cases e:XT xs.length i with
  |none=>rw[e] at h;cases h
  |some j=>rw[e] at h;obtain⟨h1,h2,h3,h4⟩:=R5 e;exact⟨j,h1,h,h2,h3,h4⟩
theorem uI{α:Type}{xs:List α}{v:α}(h:xs[j]?=some v):qy xs (j:Int)=some v:=by
  have hj:j<xs.length:=(v9.mp h).1;have e:XT xs.length (j:Int)=some j:=by unfold XT;rw[az (by omega),az (by omega)];simp
  unfold qy;rw[e];exact h
def yy(b:Expr):Prop:=∀o i,subscripted b false o i=operate [o,i] (getItem o i)
def V1(X:Cx)(r:R2):Prop :=
  ∀(value slice:Expr) (pins:kH) (s:Shared) (σ:St) (H:Hp) (x y:V) (v u:Value) (Q:VK),Inv X pins σ H s→RelV x v→RelV y u→r x y H Q →
   subscripted slice false v u=operate [v,u] (getItem v u)→wpAny (model X.prog X.w) X.A (subscriptTail value slice v u) (EP X pins σ Q) X.xe s
def MtR(X:Cx)(id:String)(r:V→List V→Hp→VK→Prop):Prop :=
  ∀(pins:kH) (s:Shared) (σ:St) (H:Hp) (x:V) (xs:List V) (v:Value) (us:ef) (Q:VK),Inv X pins σ H s→RelV x v→Vals xs us→r x xs H Q →
   wpAny (model X.prog X.w) X.A (call (.builtin id) (v::us)) (EP X pins σ Q) X.xe s
section
variable {X:Cx} {a b:Expr} {ta tb:TE} {pos:Pos}
theorem V1.or{r':R2}(h:V1 X r)(h':V1 X r'):V1 X (fun x y H Q=>r x y H Q∨r' x y H Q):=by
  intro value slice pins s σ H x y v u Q I rx ry q hs;rcases q with q|q
  ·exact h value slice pins s σ H x y v u Q I rx ry q hs
  ·exact h' value slice pins s σ H x y v u Q I rx ry q hs
theorem N3(hr:V1 X r)(ha:PE X a ta)(hb:PE X b tb)(hs:yy b):PE X (.Subscript a b pos) (YC r ta tb):=by intro pins s σ H Q I h;exact Subscript_ (VC ha hb I h fun v u s2 x y H2 I2 rx ry q=>hr a b pins s2 σ H2 x y v u Q I2 rx ry q (hs _ _))
def abX(K:PySem.W.Frag):R2:=fun x y H Q=>∃p xs i v,x=.ref p∧y=.int i∧m4 K H p xs∧qy xs i=some v∧Q v H
def abY(K:PySem.W.Frag):R2:=fun x y H Q=>∃p xs i v,x=.ref p∧y=.int i∧kA K H p xs∧qy xs i=some v∧Q v H
theorem JN:V1 X (abX X.K):=by
  intro value slice pins s σ H x y v u Q I rx ry h hs;obtain⟨p,xs,i,z,rfl,rfl,hq,he,q⟩:=h;cases rx;obtain⟨t,rfl⟩:=ry;obtain⟨its,r,pl,hz⟩:=I.list hq;obtain⟨j,h1,h2,h3,h4,h5⟩:=JM he;obtain⟨w,ew,N4⟩:=r.get h2;have hl:=r.length;have hn:=Du;have fin:EP X pins σ Q w s:=⟨z,H,I,N4,q⟩
  by_cases h0:0≤i
  · have hj:i.toNat=j:=by
      rw[seqIndex_of h0 h5] at h1;exact oq h1
    exact item_listR pl.isList h0 (by omega) (by rw[hj];simpa using ew) fin hs
  · have hj:(i+(its.toArray.size:Int)).toNat=j:=by
      rw[seqIndex_neg (by omega) h4] at h1;rw[kC,←hl];exact oq h1
    exact subscriptTail_builtinR (x:=w) pl.isList.typeIs slot_list_getitem.lookup
      (wpAny_getItem_list_neg (Q:=fun r s'=>r=w∧EP X pins σ Q r s') pl.isList (by omega) (by rw[kC]<;>omega) (by omega) (by rw[hj];simpa using ew) ⟨rfl,fin⟩) hs
theorem HB:V1 X (abY X.K):=by
  intro value slice pins s σ H x y v u Q I rx ry h hs;obtain⟨p,xs,i,z,rfl,rfl,hq,he,q⟩:=h;cases rx;obtain⟨t,rfl⟩:=ry;obtain⟨its,r,pl,hz⟩:=I.tuple hq;obtain⟨j,h1,h2,h3,h4,h5⟩:=JM he;obtain⟨w,ew,N4⟩:=r.get h2;have hl:=r.length;have hn:=Du;have fin:EP X pins σ Q w s:=⟨z,H,I,N4,q⟩
  exact subscriptTail_builtinR (x:=w) pl.typeIs slot_tuple_getitem.lookup
    (getItem_tuple (j:=j) (Q:=fun r s'=>r=w∧EP X pins σ Q r s') pl (by omega) (by omega) (by rw[kC,←hl];exact h1) (by simpa using ew) ⟨rfl,fin⟩) hs
theorem Dv(lo hi:Option Int)(n:Nat):(sliceBounds lo hi none n).1=((HT.uE n 0 lo:Nat):Int)∧(sliceBounds lo hi none n).2.1=((HT.uE n n hi:Nat):Int)∧(sliceBounds lo hi none n).2.2=1:=by
  refine⟨?_,?_,rfl⟩
  · cases lo with
    |none=>simp[sliceBounds,HT.uE]
    |some i =>
     simp only[sliceBounds,HT.uE,Option.getD_none,show(1:Int)>0 by decide,gx];by_cases h:i<0
     ·simp only[h,gx]<;>omega
     ·simp only[h,pD]<;>omega
  · cases hi with
    |none=>simp[sliceBounds,HT.uE]
    |some i =>
     simp only[sliceBounds,HT.uE,Option.getD_none,show(1:Int)>0 by decide,gx];by_cases h:i<0
     ·simp only[h,gx]<;>omega
     ·simp only[h,pD]<;>omega
theorem Bk(its:ef)(lo hi:Option Int):slicePick its.toArray lo hi none=((its.drop (HT.uE its.length 0 lo)).take (HT.uE its.length its.length hi-HT.uE its.length 0 lo)).toArray:=by obtain⟨h1,h2,h3⟩:=Dv lo hi its.toArray.size;unfold slicePick;rw[h1,h2,h3];simp only[sliceRange_one,pick_run,kC]<;>rfl
def abZ(K:PySem.W.Frag):V→Option Int→Option Int→Hp→VK→Prop:=fun x lo hi H Q=>∃a xs,x=.ref a∧m4 K H a xs∧∀p,H p=none→Q (.ref p) (upd H p (.lst (Hz xs lo hi)))
theorem R6:SlR X (abZ X.K):=by intro pins s σ H x v vl vu lo hi sl Q I rx hs pl pu h;obtain⟨a,xs,rfl,hx,q⟩:=h;cases rx;obtain⟨its,r,ht,hz⟩:=I.list hx;have hlen:=r.length;refine⟨"list",_,slot_list_getitem.lookup,ht.isList.typeIs,?_⟩;refine wpAny_getItem_list_slice ht.isList hs pl pu .none (by simp) ?_ (by rw[kC]<;>omega);rw[Bk,←hlen];refine⟨.ref s.heap.objs.size,_,I.laid (t':=s.toks) (o:=.lst (Hz xs lo hi)) (fun b ob q=>kz _ q) (cu _) ?_,rfl,q _ (I.cY.fresh (cu _))⟩;exact⟨pU (xI xs lo hi) hz,_,0,(r.drop (HT.uE xs.length 0 lo)).take (HT.uE xs.length xs.length hi-HT.uE xs.length 0 lo),il _ rfl⟩
def tO:V→Bool
  |.non=>true
  |.bl _=>true
  |.int _=>true
  |.str _=>true
  |_=>false
def R7:V→V→Bool
  |.non,.non=>true
  |.bl a,.bl b=>a==b
  |.bl a,.int b=>(if a then 1 else 0)==b
  |.int a,.bl b=>a==(if b then 1 else 0)
  |.int a,.int b=>a==b
  |.str a,.str b=>a==b
  |_,_=>false
theorem V2{x:V}{v:Value}(ry:RelV y u)(rx:RelV x v)(fy:tO y=true)(fx:tO x=true):SeqAt.EqAt A s u v (R7 y x):=by
  cases y with
  |non =>
   cases ry;cases x with
   |non=>cases rx;exact SeqAt.EqAt.same _
   |bl b=>cases rx;exact SeqAt.EqAt.none_bool b
   |int b=>obtain⟨t,rfl⟩:=rx;exact SeqAt.EqAt.none_int b t
   |str b=>obtain⟨t,rfl⟩:=rx;exact SeqAt.EqAt.none_str b t
   |_=>exact absurd (show false=true from fx) lK
  |bl a =>
   cases ry;cases x with
   |non=>cases rx;exact SeqAt.EqAt.bool_none a
   |bl b=>cases rx;exact SeqAt.EqAt.bool_bool a b
   |int b=>obtain⟨t,rfl⟩:=rx;exact SeqAt.EqAt.bool_int a b t
   |str b=>obtain⟨t,rfl⟩:=rx;exact SeqAt.EqAt.bool_str a b t
   |_=>exact absurd (show false=true from fx) lK
  |int a =>
   obtain⟨t',rfl⟩:=ry;cases x with
   |non=>cases rx;exact SeqAt.EqAt.int_none a t'
   |bl b=>cases rx;exact SeqAt.EqAt.int_bool a t' b
   |int b=>obtain⟨t,rfl⟩:=rx;exact SeqAt.EqAt.int_int a t' b t
   |str b=>obtain⟨t,rfl⟩:=rx;exact SeqAt.EqAt.int_str a t' b t
   |_=>exact absurd (show false=true from fx) lK
  |str a =>
   obtain⟨t',rfl⟩:=ry;cases x with
   |non=>cases rx;exact SeqAt.EqAt.str_none a t'
   |bl b=>cases rx;exact SeqAt.EqAt.str_bool a t' b
   |int b=>obtain⟨t,rfl⟩:=rx;exact SeqAt.EqAt.str_int a t' b t
   |str b=>obtain⟨t,rfl⟩:=rx;exact SeqAt.EqAt.str_str a t' b t
   |_=>exact absurd (show false=true from fx) lK
  |_=>exact absurd (show false=true from fy) lK
def HC(x:V)(u:Value):Bool:=match u with
  |.none=>R7 .non x
  |.bool b=>R7 (.bl b) x
  |.int i _=>R7 (.int i) x
  |.str z _=>R7 (.str z) x
  |_=>false
theorem N5{x:V}(r:RelV y u)(f:tO y=true):HC x u=R7 y x:=by
  cases y with
  |non=>cases r;rfl
  |bl b=>cases r;rfl
  |int i=>obtain⟨t,rfl⟩:=r;rfl
  |str z=>obtain⟨t,rfl⟩:=r;rfl
  |_=>exact absurd (show false=true from f) lK
theorem uJ{x:V}:∀{xs:List V} {us:ef},Vals xs us→xs.all tO=true→us.any (HC x)=xs.any fun y=>R7 y x
  |_,_,.nil,_=>rfl
  |y::xs,u::us,.cons r t,f=>by rw[mZ,t9] at f;rw[List.any_cons,List.any_cons,N5 r f.1,uJ t f.2]
theorem qT{A:Around}{s:Shared}{x:V}{v:Value}(rx:RelV x v)(fx:tO x=true):∀{xs:List V} {us:ef},Vals xs us→xs.all tO=true→∀u∈us,SeqAt.EqAt A s u v (HC x u)
  |_,_,.nil,_=>fun u hu=>by cases hu
  |y::xs,u::us,.cons r t,f=>fun u' hu=>by
   rw[mZ,t9] at f;rcases gw.mp hu with rfl|hu
   ·rw[N5 r f.1];exact V2 r rx f.1 fx
   ·exact qT rx fx t f.2 u' hu
def XU(x:V)(xs:List V):Bool:=xs.any fun y=>R7 y x
def rIn(K:PySem.W.Frag)(neg:Bool):R2:=fun x y H Q=>∃p xs,y=.ref p∧(m4 K H p xs∨kA K H p xs)∧tO x=true∧xs.all tO=true∧Q (.bl (if neg then !XU x xs else XU x xs)) H
theorem LK:qw X (compareOp .In) (rIn X.K false):=by
  intro pins s σ H x y v u Q I rx ry h;obtain⟨p,xs,rfl,hq,fx,fs,q⟩:=h;cases ry;rcases hq with hq|hq
  ·obtain⟨its,r,pl,hz⟩:=I.list hq;refine SeqAt.in_listAt (HC x) pl.isList (fun w hw=>qT rx fx r fs w (by simpa using hw)) ⟨.bl _,H,I,rfl,?_⟩;rw[show its.toArray.any (HC x)=its.any (HC x) by simp,uJ r fs];exact q
  ·obtain⟨its,r,pl,hz⟩:=I.tuple hq;refine SeqAt.in_tupleAt (HC x) pl (fun w hw=>qT rx fx r fs w (by simpa using hw)) ⟨.bl _,H,I,rfl,?_⟩;rw[show its.toArray.any (HC x)=its.any (HC x) by simp,uJ r fs];exact q
theorem Dw:qw X (compareOp .NotIn) (rIn X.K true):=by
  intro pins s σ H x y v u Q I rx ry h;obtain⟨p,xs,rfl,hq,fx,fs,q⟩:=h;cases ry;rcases hq with hq|hq
  ·obtain⟨its,r,pl,hz⟩:=I.list hq;refine SeqAt.notIn_listAt (HC x) pl.isList (fun w hw=>qT rx fx r fs w (by simpa using hw)) ⟨.bl _,H,I,rfl,?_⟩;rw[show its.toArray.any (HC x)=its.any (HC x) by simp,uJ r fs];exact q
  ·obtain⟨its,r,pl,hz⟩:=I.tuple hq;refine SeqAt.notIn_tupleAt (HC x) pl (fun w hw=>qT rx fx r fs w (by simpa using hw)) ⟨.bl _,H,I,rfl,?_⟩;rw[show its.toArray.any (HC x)=its.any (HC x) by simp,uJ r fs];exact q
theorem bC:qx X (.builtin "len") (fun xs H Q=>∃p ys,xs=[.ref p]∧(m4 X.K H p ys∨kA X.K H p ys)∧Q (.int ys.length) H):=by
  intro pins s σ H xs us Q I r h;obtain⟨p,ys,rfl,hq,q⟩:=h;obtain⟨u,rfl,rx⟩:=vals1 r;cases rx;have hn:=Du;rcases hq with hq|hq
  ·obtain⟨its,r',pl,hz⟩:=I.list hq;have hlen:=r'.length;exact Calls.call_len_list pl.isList (by simp only[kC]<;>omega) ⟨.int ys.length,H,I.tok _,⟨s.toks+1,by rw[kC,hlen]⟩,q⟩
  ·obtain⟨its,r',pl,hz⟩:=I.tuple hq;have hlen:=r'.length;exact len_tuple pl (by simp only[kC]<;>omega) ⟨.int ys.length,H,I.tok _,⟨s.toks+1,by rw[kC,hlen]⟩,q⟩
theorem Dx:qx X (.type "list") (fun xs H Q=>∃p ys,xs=[.ref p]∧(m4 X.K H p ys∨kA X.K H p ys)∧∀l,H l=none→Q (.ref l) (upd H l (.lst ys))):=by
  intro pins s σ H xs us Q I r h;obtain⟨p,ys,rfl,hq,q⟩:=h;obtain⟨u,rfl,rx⟩:=vals1 r;cases rx;have fin:∀(its:ef),Vals ys its→ys.length≤sizeLine→∀(h':Heap) (c':Nat),(∀b o',s.heap.get? b=some o'→h'.get? b=some o') →
      h'.get? s.heap.objs.size=some { cls:=.type "list",dict:=none,data:=.seq its.toArray c',slots:=#[] }→EP X pins σ Q (.ref s.heap.objs.size) { s with heap:=h' }:=fun its r' hz h' c' kp e =>
    ⟨.ref s.heap.objs.size,_,I.laid (t':=s.toks) kp (cu _) (show cy X.prog X.w _ h' _ (.lst ys) from⟨hz,its,c',r',e⟩),rfl,q _ (I.cY.fresh (cu _))⟩
  rcases hq with hq|hq
  ·obtain⟨its,r',pl,hz⟩:=I.list hq;have hlen:=r'.length;obtain⟨o,ho,hc,n,hd⟩:=pl.isList;exact call_list_seq p (.inl rfl) ho hc hd (fun h' c' kp e=>fin its r' hz h' c' kp e) (by simp only[kC]<;>omega)
  ·obtain⟨its,r',pl,hz⟩:=I.tuple hq;have hlen:=r'.length;obtain⟨o,ho,hc,n,hd⟩:=pl;exact call_list_seq p (.inr rfl) ho hc hd (fun h' c' kp e=>fin its r' hz h' c' kp e) (by simp only[kC]<;>omega)
theorem Bl:qx X (.type "tuple") (fun xs H Q=>∃p ys,xs=[.ref p]∧((m4 X.K H p ys∧∀l,H l=none→Q (.ref l) (upd H l (.tup ys)))∨(kA X.K H p ys∧Q (.ref p) H))):=by
  intro pins s σ H xs us Q I r h;obtain⟨p,ys,rfl,h⟩:=h;obtain⟨u,rfl,rx⟩:=vals1 r;cases rx;rcases h with⟨hq,q⟩|⟨hq,q⟩
  · obtain⟨its,r',pl,hz⟩:=I.list hq;have hlen:=r'.length;refine call_tuple_list pl.isList (fun h' kp=>?_) (by simp only[kC]<;>omega);have I1:Inv X pins σ H { s with heap:=h' }:=I.kept (t':=s.toks) kp;have I2:Inv X pins σ (upd H h'.objs.size (.tup ys)) { s with heap:=h'.push { cls:=.type "tuple",data:=.seq its.toArray } } :=
      I1.laid (t':=s.toks) (fun b o e=>kz _ e) (cu _) (show cy X.prog X.w _ _ _ (.tup ys) from⟨hz,its,r',IsTup.new _ _⟩)
    exact⟨.ref h'.objs.size,_,I2,rfl,q _ (I1.cY.fresh (cu _))⟩
  ·obtain⟨its,r',pl,hz⟩:=I.tuple hq;exact call_tuple_same pl ⟨.ref p,H,I,rfl,q⟩
def tyV(K:PySem.W.Frag)(T:String)(x:V)(H:Hp):Prop:=match x with
  |.str _=>T="str"
  |.int _=>T="int"
  |.ref p=>(T="list"∧∃xs,m4 K H p xs)∨(T="tuple"∧∃o,K.lookup p=some o∧o.cls=.type "tuple"∧o.dict=none) ∨
      (T="dict"∧((∃aX,H p=some (.dK aX))∨∃aX,H p=some (.dT aX)))∨(T="set"∧∃S n,H p=some (.set S n))
  |_=>False
theorem V3{T:String}{x:V}{v:Value}(I:Inv X pins σ H s)(r:RelV x v)(ty:tyV X.K T x H):s.TypeIs v T∧∀a,v=.ref a→∃ob,s.heap.get? a=some ob∧ob.dict=none:=by
  cases x with
  |str z=>obtain⟨t,rfl⟩:=r;cases(show T="str" from ty);exact⟨typeIs_str s z t,fun _ e=>nomatch e⟩
  |int i=>obtain⟨t,rfl⟩:=r;cases(show T="int" from ty);exact⟨typeIs_int s i t,fun _ e=>nomatch e⟩
  |ref p =>
   cases r;rcases ty with⟨rfl,xs,hq⟩|⟨rfl,o,hk,hc,hd⟩|⟨rfl,hk⟩|⟨rfl,S,n,hk⟩
   ·obtain⟨its,_,pl,_⟩:=I.list hq;refine⟨pl.isList.typeIs,fun a e=>?_⟩;cases e;obtain⟨o,n,e,c,hd,_⟩:=pl;exact⟨o,e,hd⟩
   ·refine⟨⟨o,I.xH p o hk,hc⟩,fun a e=>?_⟩;cases e;exact⟨o,I.xH _ o hk,hd⟩
   · have z:∃o,s.heap.get? p=some o∧o.ExactDict:=by
       rcases hk with⟨aX,hk⟩|⟨aX,hk⟩
       ·obtain⟨_,_,_,_,o,_,_,e,ex,_⟩:=I.cY p _ hk;exact⟨o,e,ex⟩
       ·obtain⟨_,_,_,_,o,_,_,e,ex,_⟩:=I.cY p _ hk;exact⟨o,e,ex⟩
     obtain⟨o,e,ex⟩:=z;refine⟨⟨o,e,ex.1⟩,fun a e2=>?_⟩;cases e2;exact⟨o,e,ex.2.1⟩
   ·obtain⟨o,_,_,_,e,ex,_⟩:=I.cY p _ hk;refine⟨⟨o,e,ex.1⟩,fun a e2=>?_⟩;cases e2;exact⟨o,e,ex.2.1⟩
  |_=>exact False.elim ty
def tBM(K:PySem.W.Frag)(T:String)(r:V→List V→Hp→VK→Prop)(to:TE)(t:TA):TE:=fun σ H Q=>to σ H fun x H1=>tyV K T x H1∧t σ H1 fun xs H2=>r x xs H2 Q
variable {o e:Expr} {es:List Expr} {to:TE} {t:TA} {name:Str} {apos jZ:Pos} {T id:String} {r:V→List V→Hp→VK→Prop}
theorem YS(pa:PlainAttrs T)(slot:Slot T name id)(hty:typeOf (.builtin id)=pure (.type "method_descriptor"))(hm:MtR X id r)(ho:PE X o to)(ha:PA X (e::es) t)(N6:attributeBase o name X.env (eval o X.env)=eval o X.env:=by rfl)(V4:((backTo jZ (starEach (e::es) X.env)).all (fun x=>!x.1)&&(backToKw jZ (keywordEach [] X.env)).all (fun x=>x.1.isSome)
      && decide ((e::es).length+([]:List Keyword).length+(if ([]:List Keyword).isEmpty then 0 else 1)<30))=true:=by rfl)(hline:(apos.endLine==jZ.line)=true:=by rfl)(hs:starEach (e::es) X.env=(false,eval e X.env)::starEach es X.env:=by rfl)(V5:(backTo jZ (starEach es X.env)).any (·.1)=false:=by rfl):PE X (.Call (.Attribute o name apos) (e::es) [] jZ) (tBM X.K T r to t):=by
  intro pins s σ H Q I h;refine wpAny_Call_method_late N6 V4 hline rfl (gT (ho pins s σ H _ I h) fun v s1 ⟨x,H1,I1,r1,ty,q1⟩=>?_);obtain⟨h1,h2⟩:=V3 I1 r1 ty;refine⟨T,id,pa,slot,hty,h1,h2,?_⟩;have hA:=ha jZ pins s1 σ H1 _ I1 q1;rw[hs] at hA⊢;refine Calls.callWith_builtin (by show(false||(backTo jZ (starEach es X.env)).any (·.1))=false;rw[V5]<;>rfl) (Calls.evalArgs_plain ?_);exact gT hA fun us s2 ⟨vs,H2,I2,r2,q2⟩=>hm pins s2 σ H2 x vs v us Q I2 r1 r2 q2
end
def MtM(X:Cx)(id:String)(r:V→List V→Hp→VK→Prop):Prop :=
  ∀(pins:kH) (s:Shared) (σ:St) (H:Hp) (x:V) (xs:List V) (v:Value) (us:ef) (Q:VK),Inv X pins σ H s→RelV x v→Vals xs us→r x xs H Q →
   wpAny (model X.prog X.w) X.A (call (.builtin id) (v::us)) (EP X pins σ Q) X.xe s
theorem Vals.one:∀{x:V} {us:ef},Vals [x] us→∃u,us=[u]∧RelV x u
  |_,_,.cons r .nil=>⟨_,rfl,r⟩
section
variable {X:Cx} {pins:kH} {σ:St} {H:Hp} {s:Shared} {l b:Addr} {xs ys zs:List V}
theorem Inv.ab1{its its':ef}{f:Array Value→Array Value}(I:Inv X pins σ H s)(hH:H l=some (.lst xs))(e:s.heap.get? l=some { cls:=.type "list",data:=.seq its.toArray n })(hf:f its.toArray=its'.toArray)(hv:Vals ys its')(hz:ys.length≤sizeLine):Inv X pins σ (upd H l (.lst ys)) { s with heap:=s.heap.update l (Obj.mapSeq f),toks:=t' }:=by
  have q:=PySem.IsL.update e f;rw[hf] at q;refine I.write (x:=l) (e:=l) (by rw[hH];exact trivial) (.inl rfl) (fun b' u hb hu=>(Heap.get?_update_other s.heap (Obj.mapSeq f) (Ne.symm hb)).trans hu) ⟨_,q⟩ ?_;exact⟨hz,its',_,hv,q⟩
theorem Inv.ab2{its:ef}(I:Inv X pins σ H s)(hv:Vals ys its)(hz:ys.length≤sizeLine):Inv X pins σ (upd H s.heap.objs.size (.lst ys)) { s with heap:=s.heap.push { cls:=.type "list",data:=.seq its.toArray },toks:=t' } :=
  I.laid (fun _ _ q=>kz _ q) (cu _) ⟨hz,its,0,hv,il _ rfl⟩
theorem Inv.fresh(I:Inv X pins σ H s):H s.heap.objs.size=none:=I.cY.fresh (cu _)
theorem Inv.ab3(I:Inv X pins σ H s)(hH:H l=some (.lst xs)):xs.length≤sizeLine∧∃(its:ef) (n:Nat),Vals xs its∧xs.length=its.length∧s.heap.get? l=some { cls:=.type "list",data:=.seq its.toArray n }:=by obtain⟨z,its,n,r,e⟩:=I.cY l _ hH;exact⟨z,its,n,r,r.length,e⟩
end
section
variable {X:Cx}
def R8:V→List V→Hp→VK→Prop:=fun x vs H Q=>∃l xs y,x=.ref l∧vs=[y]∧H l=some (.lst xs)∧xs.length<sizeLine∧Q .non (upd H l (.lst (xs++[y])))
theorem LM:MtM X "list.append" R8:=by intro pins s σ H x vs v us Q I rx rv h;obtain⟨l,xs,y,rfl,rfl,hH,hz,q⟩:=h;cases rx;obtain⟨u,rfl,ru⟩:=rv.one;obtain⟨z,its,n,r,hl,e⟩:=I.ab3 hH;refine call_meets F.slot_list_append ⟨_,e,rfl⟩ F.entry_list_append (F.args_list_append_2 _ _) (PySem.list_append l its.toArray n u (by rw[kC];omega)) ⟨e,?_⟩;refine⟨.non,_,I.ab1 (its':=its++[u]) hH e (by simp) (r.append (.cons ru .nil)) ?_,rfl,q⟩;rw[kI,List.length_singleton];omega
end
section
variable {κ:Type} [DecidableEq κ]
def tu(aX:List (κ×V))(k:κ):Option V:=(aX.find? fun kv=>decide (kv.1=k)).map (·.2)
def putK(aX:List (κ×V))(k:κ)(v:V):List (κ×V) :=
  if (aX.any fun kv=>decide (kv.1=k))=true then aX.map (fun kv=>if kv.1=k then(kv.1,v) else kv) else aX++[(k,v)]
theorem uK{p:κ×V}{r:List (κ×V)}{k:κ}(e:p.1=k):tu (p::r) k=some p.2:=by simp[tu,uG,e]
theorem uL{p:κ×V}{r:List (κ×V)}{k:κ}(e:¬ p.1=k):tu (p::r) k=tu r k:=by simp[tu,uG,e]
theorem FL(k:κ):∀aX:List (κ×V),(aX.any fun kv=>decide (kv.1=k))=(tu aX k).isSome
  |[]=>rfl
  |p::r=>by
   rw[List.any_cons];by_cases e:p.1=k
   ·simp only[uK e,nE e,Bool.true_or,Option.isSome_some]
   ·rw[uL e,lL e,Bool.false_or];exact FL k r
theorem qU(aX:List (κ×V))(k:κ)(v:V):(putK aX k v).length≤aX.length+1:=by
  unfold putK;split
  ·rw[g9];omega
  ·rw[kI,mW,List.length_nil];omega
theorem tj.LN{o:Option V}{u:mR}(r:tj o u):o.isSome=u.isSome:=by
  cases o with
  |none=>cases u with
   |none=>rfl
   |some _=>exact(show False from r).elim
  |some _=>cases u with
   |none=>exact(show False from r).elim
   |some _=>rfl
theorem tj.getD{o:Option V}{u:mR}{d:V}{d':Value}(r:tj o u)(rd:RelV d d'):RelV (o.getD d) (u.getD d'):=by
  cases o with
  |none=>cases u with
   |none=>exact rd
   |some _=>exact(show False from r).elim
  |some _=>cases u with
   |none=>exact(show False from r).elim
   |some _=>exact r
theorem KV.val{aX:List (κ×V)}{vs:List (κ×Value)}(r:KV aX vs)(k:κ):tj (tu aX k) (valueAt vs k):=by
  unfold KV at r;induction r with
  |nil=>exact True.intro
  |@cons p q ps qs h t ih =>
   obtain⟨h1,h2⟩:=h;by_cases e:p.1=k
   · have e':q.1=k:=h1.symm.trans e;have b:valueAt (q::qs) k=some q.2:=by simp[valueAt,uG,e']
     rw[uK e,b];exact h2
   · have e':¬ q.1=k:=fun z=>e (h1.trans z);have b:valueAt (q::qs) k=valueAt qs k:=by simp[valueAt,uG,e']
     rw[uL e,b];exact ih
theorem KV.any{aX:List (κ×V)}{vs:List (κ×Value)}(r:KV aX vs)(k:κ):(aX.any fun kv=>decide (kv.1=k))=vs.any fun kv=>decide (kv.1=k):=by
  unfold KV at r;induction r with
  |nil=>rfl
  |cons h t ih=>rw[List.any_cons,List.any_cons,ih,h.1]
theorem KV.V6{aX:List (κ×V)}{vs:List (κ×Value)}(r:KV aX vs)(k:κ)(ry:RelV y u):KV (aX.map fun kv=>if kv.1=k then(kv.1,y) else kv) (vs.map fun kv=>if kv.1=k then(kv.1,u) else kv):=by
  unfold KV at r⊢;induction r with
  |nil=>exact .nil
  |@cons p q ps qs h t ih =>
   rw[bY,bY];refine .cons ?_ ih;obtain⟨h1,h2⟩:=h;by_cases e:p.1=k
   ·rw[az e,az (h1.symm.trans e)];exact⟨h1,ry⟩
   ·rw[bh e,bh (fun z=>e (h1.trans z))];exact⟨h1,h2⟩
theorem KV.put{aX:List (κ×V)}{vs:List (κ×Value)}(r:KV aX vs)(k:κ)(ry:RelV y u):KV (putK aX k y) (stored vs k u):=by
  unfold putK stored;rw[r.any k];by_cases e:(vs.any fun kv=>decide (kv.1=k))=true
  ·rw[az e,az e];exact r.V6 k ry
  ·rw[bh e,bh e];exact Paired.snoc r ⟨rfl,ry⟩
theorem KV.length{aX:List (κ×V)}{vs:List (κ×Value)}(r:KV aX vs):aX.length=vs.length:=wo r
end
theorem JQ{k:Key}(r:RelV (kV k) u):(fe P w).is k u=true:=by
  cases k with
  |inl i=>obtain⟨t,e⟩:=(show ∃t,u=Value.int i t from r);subst e;exact Fz P w i t
  |inr x=>obtain⟨t,e⟩:=(show ∃t,u=Value.str x t from r);subst e;exact FC P w x t
theorem B5{P:Program}{w:World}:∀{ks:List Key} {us:ef},Vals (ks.map kV) us→ItemsAre (fe P w) ks us
  |[],_,r=>by rw[ja] at r;cases r;exact .nil
  |k::ks,_,r=>by
   rw[bY] at r;cases r with
   |cons h t=>exact .cons (JQ h) (B5 t)
abbrev KT(H:Hp):List (List Key×V)→List (List Key×Addr×Value)→Prop:=Paired fun p q=>p.1=q.1∧H q.2.1=some (.tup (p.1.map kV))∧RelV p.2 q.2.2
theorem KT.val(r:KT H aX xs)(k:List Key):tj (tu aX k) ((atKey xs k).map (·.2)):=by
  induction r with
  |nil=>exact True.intro
  |@cons p q ps qs h t ih =>
   obtain⟨h1,_,h2⟩:=h;by_cases e:p.1=k
   · have e':q.1=k:=h1.symm.trans e;have b:atKey (q::qs) k=some q.2:=by simp[atKey,uG,e']
     rw[uK e,b];exact h2
   · have e':¬ q.1=k:=fun z=>e (h1.trans z);have b:atKey (q::qs) k=atKey qs k:=by simp[atKey,uG,e']
     rw[uL e,b];exact ih
theorem KT.V6(r:KT H aX xs)(k:List Key)(ry:RelV y u):KT H (aX.map fun kv=>if kv.1=k then(kv.1,y) else kv) (xs.map (putAt k u)):=by
  induction r with
  |nil=>exact .nil
  |@cons p q ps qs h t ih =>
   rw[bY,bY];refine .cons ?_ ih;obtain⟨h1,h2,h3⟩:=h;unfold putAt;by_cases e:p.1=k
   ·rw[az e,az (h1.symm.trans e)];exact⟨h1,h2,ry⟩
   ·rw[bh e,bh (fun z=>e (h1.trans z))];exact⟨h1,h2,h3⟩
theorem KT.put(r:KT H aX xs)(k:List Key){b:Addr}(hb:H b=some (.tup (k.map kV)))(ry:RelV y u):KT H (putK aX k y) (storedH xs k b u):=by
  have e:(aX.any fun kv=>decide (kv.1=k))=(atKey xs k).isSome:=by rw[FL,(r.val k).LN,Option.isSome_map]
  unfold putK storedH;rw[e];by_cases q:(atKey xs k).isSome=true
  ·rw[az q,az q];exact r.V6 k ry
  ·rw[bh q,bh q];exact Paired.snoc r ⟨rfl,hb,ry⟩
theorem KT.keeps(r:KT H aX xs)(ht:∀b ys,H b=some (.tup ys)→H' b=some (.tup ys)):KT H' aX xs :=
  Paired.Ln r fun _ _ z=>⟨z.1,ht _ _ z.2.1,z.2.2⟩
section
variable {P:Program} {w:World} {H:Hp} {h:Heap} {a:Addr}
theorem N7{u:HO}(ok:ub P w H h)(e:Rd H a u):cy P w H h a u:=e.ok ok
theorem FN{aX:List (Key×V)}(ok:ub P w H h)(e:Rd H a (.dK aX)):aX.length≤sizeLine∧(a==sysModules)=false∧∃vs,KV aX vs∧h.DictOf (fe P w) a vs :=
  show cy P w H h a (.dK aX) from N7 ok e
theorem YT{aX:List (Key×V)}(ok:ub P w H h)(e:H a=some (.dK aX)):aX.length≤sizeLine∧(a==sysModules)=false∧∃vs,KV aX vs∧h.DictOf (fe P w) a vs:=FN ok (.inl e)
theorem Dy{ks:List Key}(ok:ub P w H h)(e:H a=some (.tup (ks.map kV))):(tupleKind (fe P w)).is h ks a:=by
  obtain⟨_,its,r,o,h1,h2,n,h3⟩:=(show cy P w H h a (.tup (ks.map kV)) from ok a _ e)
  exact⟨o,its.toArray,n,h1,h2,h3,by simpa using B5 r⟩
theorem FP(ok:ub P w H h)(e:Rd H a (.dT aX)):aX.length≤sizeLine∧(a==sysModules)=false∧∃xs,KT H aX xs∧h.DictOfH (tupleKind (fe P w)) a xs:=by
  obtain⟨z,y,xs,r,o,es,ep,h1,h2,h3,h4,h5⟩:=(show cy P w H h a (.dT aX) from N7 ok e)
  refine⟨z,y,xs,r,o,es,ep,h1,h2,h3,h4,fun x hx=>?_,h5⟩;have all:∀{l:List (List Key×V)} {m:List (List Key×Addr×Value)},KT H l m→∀x∈m,(tupleKind (fe P w)).is h x.1 x.2.1:=by
    intro l m q;induction q with
    |nil=>intro x hx;exact nomatch hx
    |@cons p q ps qs hq t ih =>
     intro x hx;rcases gw.mp hx with e|hx
     ·subst e;exact Dy ok (by rw[←hq.1];exact hq.2.1)
     ·exact ih x hx
  exact all r x hx
theorem YV(ok:ub P w H h)(e:H a=some (.dT aX)):aX.length≤sizeLine∧(a==sysModules)=false∧∃xs,KT H aX xs∧h.DictOfH (tupleKind (fe P w)) a xs:=FP ok (.inl e)
end
def LP(H:Hp)(a:Addr)(y:V)(r:Option V):Prop :=
  (∃aX k,Rd H a (.dK aX)∧y=kV k∧r=tu aX k)∨∃aX k b,Rd H a (.dT aX)∧y=.ref b∧H b=some (.tup (k.map kV))∧r=tu aX k
def N8(H:Hp)(a:Addr)(y v:V)(H':Hp):Prop :=
  (∃aX k,H a=some (.dK aX)∧y=kV k∧aX.length<sizeLine∧H'=upd H a (.dK (putK aX k v))) ∨
  ∃aX k b,H a=some (.dT aX)∧y=.ref b∧H b=some (.tup (k.map kV))∧aX.length<sizeLine∧H'=upd H a (.dT (putK aX k v))
theorem N8.t{b:Addr}{k:List Key}(e:H a=some (.dT aX))(eb:H b=some (.tup (k.map kV)))(hl:aX.length<sizeLine):N8 H a (.ref b) v (upd H a (.dT (putK aX k v))):=.inr ⟨aX,k,b,e,rfl,eb,hl,rfl⟩
section
variable {X:Cx} {pins:kH} {σ:St} {H:Hp} {s:Shared} {a:Addr} {y v:V} {u r:Value} {o:Option V} {A:Around} {E:lr}
theorem Inv.big(I:Inv X pins σ H s):sysModules<s.heap.objs.size:=by have h:mainGlobals<s.heap.objs.size:=(I.mod.glob.keeps I.bk).lt;exact Nat.lt_trans (by decide) h
theorem LQ(hu:A.units+1<cLine)(I:Inv X pins σ H s)(g:LP H a y (some v))(ry:RelV y u)(h:∀w' s',Inv X pins σ H s'→RelV v w'→Q w' s'):wpAny (model X.prog X.w) A (getItem (.ref a) u) Q E s:=by
  rcases g with⟨aX,k,e,ey,l⟩|⟨aX,k,b,e,ey,eb,l⟩
  ·subst ey;obtain⟨z,hd,vs,rel,dd⟩:=FN I.cY e;obtain⟨w',hw,N4⟩:=tj.some_of (v:=v) (o:=valueAt vs k) (by rw[l];exact rel.val k);exact wpAny_getItem_of (JQ ry) dd.mapOf hw (h w' _ (I.tok _) N4)
  ·subst ey;cases(show u=Value.ref b from ry);obtain⟨z,hd,xs,rel,dd⟩:=FP I.cY e;obtain⟨w',hw,N4⟩:=tj.some_of (v:=v) (o:=(atKey xs k).map (·.2)) (by rw[l];exact rel.val k);obtain⟨p,hp,XW⟩:=gZ.mp hw;refine wpAny_getItem_heap (tupleKind_room_in1 hu) (Dy I.cY eb) dd hp ?_;rw[XW];exact h w' _ (I.tok _) N4
theorem JR{ob:HO}(I:Inv X pins σ H s)(mu:XM (H a))(hs:Heap.SameBut a s.heap h')(he:∃q,h'.get? a=some q)(new:cy X.prog X.w (upd H a ob) h' a ob):Inv X pins σ (upd H a ob) { s with heap:=h',toks:=t' } :=
  I.write (x:=a) (e:=a) mu (.inl rfl) (fun b q hb z=>(hs.2 b hb).trans z) he new
theorem V7{aX:List (Key×V)}{vs:List (Key×Value)}(z:aX.length≤sizeLine)(hd:(a==sysModules)=false)(rel:KV aX vs)(dd:h'.DictOf (fe P w) a vs):cy P w H' h' a (.dK aX):=⟨z,hd,vs,rel,dd⟩
theorem LR{Q:Unit→Shared→Prop}(hu:A.units+1<cLine)(I:Inv X pins σ H s)(g:N8 H a y v H')(ry:RelV y u)(rv:RelV v r)(h:∀s',Inv X pins σ H' s'→Q () s'):wpAny (model X.prog X.w) A (setItem (.ref a) u r) Q E s:=by
  rcases g with⟨aX,k,e,ey,l,eH⟩|⟨aX,k,b,e,ey,eb,l,eH⟩
  · subst ey eH;obtain⟨z,hd,vs,rel,dd⟩:=YT I.cY e;have hz:vs.length≤sizeLine:=by rw[←rel.length];exact z
    have hl:(putK aX k v).length≤sizeLine:=by have:=qU aX k v;omega
    refine wpAny_setItem_pairs (hsz:=hz) (JQ ry) dd fun h' dd' hs=>h _ ?_;have he:∃q,h'.get? a=some q:=let ⟨q,_,_,hq,_⟩:=dd';⟨q,hq⟩
    exact JR I (by rw[e];exact True.intro) hs he (V7 hl hd (rel.put k rv) dd')
  · subst ey eH;cases(show u=Value.ref b from ry);obtain⟨z,hd,xs,rel,dd⟩:=YV I.cY e;have hz:xs.length≤sizeLine:=by rw[←wo rel];exact z
    have hl:(putK aX k v).length≤sizeLine:=by have:=qU aX k v;omega
    refine wpAny_setItem_heap (hsz:=hz) (tupleKind_room_in1 hu) (Dy I.cY eb) dd fun h' dd' hs=>h _ ?_;obtain⟨q,es,ep,hq,h2,h3,h4,_,h5⟩:=dd';refine JR I (by rw[e];exact True.intro) hs ⟨q,hq⟩ ⟨hl,hd,_,(rel.put k eb rv).keeps fun c ys ec=>?_,q,es,ep,hq,h2,h3,h4,h5⟩;rw[aK (yM ec e (fun z=>nomatch z))];exact ec
end
def V8(i:Expr):Prop:=∀ov iv,subscripted i false ov iv=operate [ov,iv] (getItem ov iv)
theorem R9{prog:Program}{env:Env}{value slice:Expr}{T id:String}(hl:typeLookup (.type T) "__getitem__"=pure (some (.builtin id)))(hs:V8 slice)(h:wpAny (model prog w) A (eval value env) (fun o s₁=>wpAny (model prog w) A (eval slice env) (fun i s₂=>s₂.TypeIs o T∧wpAny (model prog w) A (getItem o i) Q E s₂) E s₁) E s):wpAny (model prog w) A (eval (.Subscript value slice pos) env) Q E s:=by
  refine Subscript_ (pV h (fun o s₁ h₁=>pV h₁ (fun i s₂ h₂=>?_) fun _ _ x=>x) fun _ _ x=>x);obtain⟨hT,h₂⟩:=h₂;unfold subscriptTail;refine bA ?_;rw[getitemInPython_of_ne hT.not_modules];refine bA (wpAny_specialOf hT hl ?_);have fin:wpAny (model prog w) A (subscripted slice false o i) (fun r s₃=>wpAny (model prog w) A (letTemporaryGo value o r>>=fun _=>pure r) Q E s₃) E s₂:=by rw[hs o i];exact wpAny_operating (pV h₂ (fun r s₃ h₃=>bA (wpAny_letTemporaryGo (bj h₃))) fun _ _ x=>x)
  first
    |exact bj (bA fin)
    |exact bA (bj (bA fin))
    |exact bA fin
theorem FQ{o:Option V}(I:Inv X pins σ H s)(g:LP H a y o):s.TypeIs (.ref a) "dict":=by
  rcases g with⟨aX,k,e,_,_⟩|⟨aX,k,b,e,_,_,_⟩
  ·obtain⟨_,_,vs,_,dd⟩:=FN I.cY e;exact dd.typeIs
  ·obtain⟨_,_,xs,_,dd⟩:=FP I.cY e;exact dd.typeIs
def YW(td ty:TE):TE:=fun σ H Q=>td σ H fun x H1=>ty σ H1 fun y H2=>∃a v,x=.ref a∧LP H2 a y (some v)∧Q v H2
def YX(td ty tv:TE):TS:=fun D σ H=>tv σ H fun v H1=>td σ H1 fun x H2=>ty σ H2 fun y H3=>∃a H4,x=.ref a∧N8 H3 a y v H4∧D.nx σ H4
section
variable {X:Cx} {o i e value:Expr} {pos pos' abO:Pos} {td ty tv:TE}
theorem Sb(hu:X.A.units+1<cLine)(ho:PE X o td)(hi:PE X i ty)(hs:V8 i):PE X (.Subscript o i pos) (YW td ty):=by intro pins s σ H Q I h;refine R9 PySem.F.slot_dict_getitem.lookup hs (gT (ho pins s σ H _ I h) fun u s1 ⟨x,H1,I1,rx,q1⟩=>gT (hi pins s1 σ H1 _ I1 q1) fun iv s2 ⟨y,H2,I2,ry,a,v,ex,g,q2⟩=>?_);subst ex;obtain rfl:u=Value.ref a:=rx;exact⟨FQ I2 g,LQ hu I2 g ry fun w' s3 I3 N4=>⟨v,H2,I3,N4,q2⟩⟩
theorem Sd(hu:X.A.units+1<cLine)(ho:PE X o td)(hi:PE X i ty)(hv:PE X value tv)(hs:swapsWith value (some (.Subscript o i pos')) pos.line X.env=pure false):PS X (.Assign [.Subscript o i pos'] value pos) (YX td ty tv):=by
  intro pins s σ H D I h;refine wpAny_Assign_Subscript (gT (hv pins s σ H _ I h) fun r s1 ⟨v,H1,I1,rv,q1⟩=>gT (ho pins s1 σ H1 _ I1 q1) fun u s2 ⟨x,H2,I2,rx,q2⟩=>gT (hi pins s2 σ H2 _ I2 q2) fun iv s3 ⟨y,H3,I3,ry,a,H4,ex,g,q3⟩=>?_) hs;subst ex;obtain rfl:u=Value.ref a:=rx;exact LR hu I3 g ry rv fun s4 I4=>⟨σ,H4,I4,q3⟩
end
theorem N9(h:Heap)(hb:sysModules<h.objs.size):cy P w H (h.push { cls:=.type "dict",data:=.dict #[] }) h.objs.size (.dT []) :=
  ⟨qQ _,beq_eq_false_iff_ne.mpr (Ne.symm (fT hb)),[],.nil,_,#[],0,il _ rfl,⟨rfl,rfl,rfl⟩,rfl,rfl,List.nodup_nil⟩
def V9:TE:=fun _ H Q=>∀p,H p=none→Q (.ref p) (upd H p (.dT []))
section
variable {X:Cx} {pos:Pos}
theorem Oa:PE X (.Dict [] [] pos) V9:=fun pins s σ H Q I h =>
  wpAny_Dict_empty ⟨.ref s.heap.objs.size,_,I.laid (a:=s.heap.objs.size) (o:=.dT []) (t':=s.toks) (fun _ _ q=>kz _ q) (cu _) (N9 s.heap I.big),rfl,h _ (I.cY.fresh (cu _))⟩
end
structure M1 (X:Cx) (o:Expr) (m:Str) (apos:Pos) (e:Expr) (jZ:Pos):Prop where
  base:attributeBase o m X.env (eval o X.env)=eval o X.env
  few:((backTo jZ (starEach [e] X.env)).all (fun x=>!x.1)&&(backToKw jZ (keywordEach [] X.env)).all (fun x=>x.1.isSome)
    && decide (([e]:List Expr).length+([]:List Keyword).length+(if ([]:List Keyword).isEmpty then 0 else 1)<30))=true
  line:(apos.endLine==jZ.line)=true
  trees:backTo jZ (starEach [e] X.env)=[(false,eval e X.env)]
structure M2 (X:Cx) (o:Expr) (m:Str) (apos:Pos) (e f:Expr) (jZ:Pos):Prop where
  base:attributeBase o m X.env (eval o X.env)=eval o X.env
  few:((backTo jZ (starEach [e,f] X.env)).all (fun x=>!x.1)&&(backToKw jZ (keywordEach [] X.env)).all (fun x=>x.1.isSome)
    && decide (([e,f]:List Expr).length+([]:List Keyword).length+(if ([]:List Keyword).isEmpty then 0 else 1)<30))=true
  line:(apos.endLine==jZ.line)=true
  trees:backTo jZ (starEach [e,f] X.env)=[(false,eval e X.env),(false,eval f X.env)]
def IsD(H:Hp)(a:Addr):Prop:=(∃aX,Rd H a (.dK aX))∨∃aX,Rd H a (.dT aX)
theorem Wa(I:Inv X pins σ H s)(d:IsD H a):s.TypeIs (.ref a) "dict"∧(∀b,Value.ref a=.ref b→∃ob,s.heap.get? b=some ob∧ob.dict=none)∧(a==sysModules)=false:=by
  rcases d with⟨aX,e⟩|⟨aX,e⟩
  ·obtain⟨_,hd,vs,_,dd⟩:=FN I.cY e;refine⟨dd.typeIs,fun b q=>?_,hd⟩;cases q;obtain⟨ob,_,_,h1,h2,_⟩:=dd;exact⟨ob,h1,h2.2.1⟩
  ·obtain⟨_,hd,xs,_,dd⟩:=FP I.cY e;refine⟨dd.typeIs,fun b q=>?_,hd⟩;cases q;obtain⟨ob,_,_,h1,h2,_⟩:=dd;exact⟨ob,h1,h2.2.1⟩
section
variable {X:Cx} {pins:kH} {σ:St} {H:Hp} {s:Shared} {a:Addr} {y d:V} {u r:Value} {o:Option V} {A:Around} {E:lr}
theorem Wb(hu:A.units+1<cLine)(I:Inv X pins σ H s)(g:LP H a y o)(ry:RelV y u)(rd:RelV d r)(h:∀w' s',Inv X pins σ H s'→RelV (o.getD d) w'→Q w' s'):wpAny (model X.prog X.w) A (call (.builtin "dict.get") [.ref a,u,r]) Q E s:=by
  rcases g with⟨aX,k,e,ey,l⟩|⟨aX,k,b,e,ey,eb,l⟩
  ·subst ey;obtain⟨z,hd,vs,rel,dd⟩:=FN I.cY e;refine call_meetsIn PySem.F.slot_dict_get dd.typeIs PySem.F.entry_dict_get (PySem.F.args_dict_get_3 _ _ _) (meets_dict_get_default (fe X.prog X.w) a (JQ ry) hd r) ⟨_,dd.mapOf,h _ _ (I.tok _) ?_⟩;rw[l];exact(rel.val k).getD rd
  ·subst ey;cases(show u=Value.ref b from ry);obtain⟨z,hd,xs,rel,dd⟩:=FP I.cY e;refine call_meetsIn PySem.F.slot_dict_get dd.typeIs PySem.F.entry_dict_get (PySem.F.args_dict_get_3 _ _ _) (meetsH_dict_get_default (tupleKind (fe X.prog X.w)) a b hd r) ⟨tupleKind_room_in1 hu,k,xs,Dy I.cY eb,dd,h _ _ (I.tok _) ?_⟩;rw[l];exact(rel.val k).getD rd
end
def Wc(td ty tx:TE):TE:=fun σ H Q=>td σ H fun x H1=>∃a,x=.ref a∧IsD H1 a∧ty σ H1 fun y H2=>tx σ H2 fun z H3=>∃o,LP H3 a y o∧Q (o.getD z) H3
section
variable {X:Cx} {o e f:Expr} {apos jZ:Pos} {td ty tx:TE}
theorem Ob(hu:X.A.units+1<cLine)(ho:PE X o td)(he:PE X e ty)(hf:PE X f tx)(m:M2 X o "get" apos e f jZ):PE X (.Call (.Attribute o "get" apos) [e,f] [] jZ) (Wc td ty tx):=by
  intro pins s σ H Q I h;refine wpAny_Call_method m.base m.few m.line PySem.F.plainAttrs_dict PySem.F.slot_dict_get PySem.F.type_dict_get (gT (ho pins s σ H _ I h) fun u s1 ⟨x,H1,I1,rx,a,ex,d,q1⟩=>?_);subst ex;obtain rfl:u=Value.ref a:=rx;obtain⟨t1,t2,_⟩:=Wa I1 d;refine⟨t1,t2,?_⟩;rw[m.trees];refine Calls.callWith_builtin rfl (Calls.evalArgs_plain (Di (gT (he pins s1 σ H1 _ I1 q1) fun iv s2 ⟨y,H2,I2,ry,q2⟩ =>
    Di (gT (hf pins s2 σ H2 _ I2 q2) fun fv s3 ⟨z,H3,I3,rz,ov,g,q3⟩=>Calls.spliced_nil ?_))))
  exact Wb hu I3 g ry rz fun w' s4 I4 N4=>⟨_,H3,I4,N4,q3⟩
end
end L2
namespace Att
open PySem PySem.W PySem.Calls PyProof.Rows
theorem yb{P:Params}:∀(ns:aO) (vs:ef),WellAll P h vs (ns.map WData.int)→IntsAre vs ns:=by
  intro ns;induction ns with
  |nil=>intro vs w;rw[ja] at w;cases w;exact .nil
  |cons n ns ih =>
   intro vs w;rw[bY] at w;cases w with
   |cons a b=>cases a;exact .cons _ _ (ih _ b)
theorem LS{l:OpenLaw}(hn:l.most=some n){P:Params}{args:List WData}{vals:ef}(Se:l.row.toRowW.claim.pre args=true)(hwl:WellAll P h vals args):∃a vs ns,vals=[Value.ref a]∧args=[WData.list (ns.map WData.int)]∧h.get? a=some { cls:=.type "list",data:=.seq vs.toArray }∧IntsAre vs ns∧ns.length≤n:=by
  have hsh:WShape.hasAll [] args [.list .int]=true:=(pre_splitW Se).1;have hc:l.pre.holds [] { args:=args }=true:=(pre_splitW Se).2;obtain⟨d,r,rfl,h1,h2⟩:=hasAllW_cons hsh;obtain rfl:=hasAllW_nil h2;obtain⟨xs,rfl,h3⟩:=hasW_list h1;obtain⟨ns,rfl⟩:=items_int h3;have hlen:ns.length≤n:=by
    unfold OpenLaw.pre at hc;have h4:(WTm.not (.lt (.lit (.int (n:Int))) (.len (.arg 0)))).holds [] { args:=[.list (ns.map .int)] }=true:=by have h4:=(holds_andW hc).1;rw[hn] at h4;exact h4
    have h5:=condW_of h4 (w_not (w_lt w_lit (w_len_list (w_arg rfl))));rw[g9] at h5;refine Nat.le_of_not_lt fun q=>?_;have q':(n:Int)<((ns.length:Nat):Int):=by omega
    first
      |(rw[nE q'] at h5;exact absurd h5 (by decide))
      |(simp at h5;omega)
  cases hwl with
  |cons w1 w2 =>
   cases w2;cases w1 with
   |list ho tD=>exact⟨_,_,ns,rfl,rfl,ho,yb ns _ tD,hlen⟩
theorem LV(l:OpenLaw)(args:List WData):l.row.toRowW.claim.post args (.bool true) args=true :=
  postW_of (r:=l.row.toRowW) (X:=(true==true))
    (show WShape.has [] (.bool true) .bool=true by first|rfl|decide|simp[WShape.has,WShape.arms,WShape.armsAll])
    (show(WTm.eq .res (.lit (.bool true))).value [] { args:=args,res:=some (.bool true),after:=args }=some (.bool (true==true)) from w_eq_bool (w_res rfl) w_lit) rfl
theorem FR{l:OpenLaw}{q:Program}{loose:gq}{d:DefRec}(hn:l.most=some n)(YY:d.params.defaults=[])(call:∀(w:World) (s₀ s₁:Shared) (mg mb:Str→mR) (fa:Addr) (o:Obj) (pm cd doc:Value) (a:Addr) (vs:ef) (ns:aO),Ground q loose [] XP w s₀ mg mb s₁.heap→YP w s₁.heap→s₁.heap.get? fa=some o→o.data=.func (docDef d.name d.params d.body d.scope pm cd doc)→s₁.heap.CodeRec cd d.name→mg d.name=some (.ref fa)→s₁.heap.get? a=some { cls:=.type "list",data:=.seq vs.toArray }→IntsAre vs ns→ns.length≤n→s₁.gens=#[]→codeAny (model l.prog w) callerA (.call (.ref fa) ⟨[.ref a],[]⟩) (fun r s'=>r=.ok (.ret (.bool true))∧OldK s₁.heap s'.heap∧s'.os=s₁.os∧AllBare s'.gens) s₁):WalkO q loose XP YP l.row.toRowW d [] (fun f vs=>PySem.call f vs):=by
  intro w s₀ s₁ mg mb G Y fa o pm cd doc dV kV ho hd ow hD YZ hg args vals as Se hlay hrd hwl Wd;obtain rfl:dV=.none:=Dflts.none hD YY;obtain rfl:kV=.none:=Dflts.noKw hD;obtain⟨a,vs,ns,rfl,rfl,Wf,hints,hlen⟩:=LS hn Se hwl;refine enter_call (codeAny_mono (call w s₀ s₁ mg mb fa o pm cd doc a vs ns G Y ho (fd_plain hd) ow YZ Wf hints hlen hg) fun r s' hq=>?_);obtain⟨rfl,h2,h3,h4⟩:=hq;exact⟨.inl ⟨.bool true,.bool true,[],rfl,fun _=>rfl,.bool true,LV l _,fun _=>⟨List.Pairwise.nil,fun _ hm=>(nomatch hm)⟩⟩,h2,h3,h4⟩
end Att
namespace L2
open PySem PySem.Spec PyProof.Rows
theorem sE:∀{vs:ef} {ns:aO},IntsAre vs ns→Vals (ns.map V.int) vs
  |_,_,.nil=>.nil
  |_,_,.cons n t h=>.cons ⟨t,rfl⟩ (sE h)
def Sf(H:Hp):Prop:=∀b,H b=none∨(∃o xs,H b=some (.ua o (.lst xs))∧xs.length≤sizeLine)∨∃ps,H b=some (.Fj ps)
abbrev i7:LH:=fun _ _ _ _ _ _=>False
abbrev E0:XK:=fun _ _ _=>False
theorem UE:Passes i7 X E0:=fun _ _ _ _ _ _ _ h=>h.elim
structure kE (K:PySem.W.Frag) (x qual:Str) (st:Stmt) (f:Addr) (fd:FuncData):Prop where
  ex:∃(oc:Value) (od:Option Addr) (kV doc pm:Value) (an:Option Addr) (eQ ct:Value) (Hm:Array mR),
    fd=fnOf x qual (e9 st) (dD st) (ay st) .none kV doc pm an eQ ct∧K.lookup f=some ⟨oc,od,.func fd,Hm⟩∧codeIn K eQ qual=true
  kp:keepIn K (.ref f)=true
section
variable {P:Program} {w:World} {K:PySem.W.Frag} {mg:Str→mR} {base:Heap}
theorem kE.ok{st:Stmt}{f:Addr}{ps:gq}{sp:Sp}(F:kE K x qual st f fd)(S:aV N ps (ay st))(len:∀vs H Q E,sp vs H Q E→vs.length=ps.length)(yP:∀(eQ:Value) (A:Around) (outer:List Env) (s:Shared) (H:Hp) (vs:List V) (Q:VK) (E:XK),fG k (A.deeper (envOfC qual (ay st) s.heap.objs.size f eQ))→sp vs H Q E→∃t,Bg (ya i7 P w K mg base N qual (ay st) f eQ A outer s H E).Hs (dD st) t∧t { nx:=fun _ H'=>Q .non H',rt:=Q } (start N vs) H):cI P w K mg base i7 (k+1) f fd ps sp:=by
  obtain⟨oc,od,kV,doc,pm,an,eQ,ct,Hm,rfl,lk,ow⟩:=F.ex;refine UC lk ow S len fun A outer s H vs Q E hr UD=>?_;obtain⟨t,h,q⟩:=yP eQ A outer s H vs Q E hr UD;exact⟨t,h.Hs,q⟩
theorem kE.binds{st:Stmt}{f:Addr}{ps:gq}(F:kE K x qual st f fd)(h:∀(kV doc pm:Value) (an:Option Addr) (eQ ct:Value) (us:ef),us.length=ps.length→bindArgs (fnOf x qual (e9 st) (dD st) (ay st) .none kV doc pm an eQ ct) ⟨us,[]⟩=pure (ps.zip us)):Binds K fd ps []:=by
  obtain⟨oc,od,kV,doc,pm,an,eQ,ct,Hm,rfl,lk,ow⟩:=F.ex;exact .all (h kV doc pm an eQ ct)
theorem wz{st:Stmt}{f:Addr}{kV doc eQ:Value}(l:K.lookup f=some ⟨oc,od,.func (fnOf x qual (e9 st) (dD st) (ay st) .none kV doc pm an eQ ct),Hm⟩)(c:codeIn K eQ qual=true)(k:keepIn K (.ref f)=true):kE K x qual st f (fnOf x qual (e9 st) (dD st) (ay st) .none kV doc pm an eQ ct):=⟨⟨oc,od,kV,doc,pm,an,eQ,ct,Hm,rfl,l,c⟩,k⟩
end
theorem yS(hr:fG k A):A.units+1<cLine:=Fx (Nat.add_le_add_left (by decide:1≤64) _) hr.units
theorem LW(h:n≤1000):n<sizeLine:=Fx h (by decide)
theorem ab5{A B:Prop}(h:B):if false=true then A else B:=by rw[bh lK];exact h
theorem ab6{A B:Prop}(h:A):if true=true then A else B:=by rw[az rfl];exact h
def cG(H H':Hp):Prop:=∀b o,H b=some o→H' b=some o
theorem cG.refl(H:Hp):cG H H:=fun _ _ h=>h
theorem cG.trans{H1 H2:Hp}(a:cG H H1)(b:cG H1 H2):cG H H2:=fun c o h=>b c o (a c o h)
theorem cG.free(e:cG H H'){l:Addr}(h:H' l=Option.none):H l=Option.none:=by
  cases q:H l with
  |none=>rfl
  |some o=>rw[e l o q] at h;cases h
theorem cG.seq{K:PySem.W.Frag}{xs:List V}(e:cG H H')(h:m4 K H a xs):m4 K H' a xs:=by
  rcases h with(h|⟨o,h⟩)|h
  ·exact .inl (.inl (e _ _ h))
  ·exact .inl (.inr ⟨o,e _ _ h⟩)
  ·exact .inr h
section
variable {κ:Type} [DecidableEq κ]
theorem Dz:∀{l:List κ} {k:κ},l.Nodup→¬ k∈l→(l++[k]).Nodup
  |[],k,_,_=>by simp
  |a::r,k,h,hk=>by
   obtain⟨h1,h2⟩:=yL.mp h;show(a::(r++[k])).Nodup;refine yL.mpr ⟨fun m=>?_,Dz h2 fun m=>hk (gw.mpr (Or.inr m))⟩;rcases mX.mp m with q|q
   ·exact h1 q
   ·exact hk (gw.mpr (Or.inl (List.mem_singleton.mp q).symm))
end
def lY(cells:List (Str×Addr)):List (Str×NameKind)→List (Str×Addr)→List (Str×Addr)
  |[],acc=>acc
  |(n,k)::r,acc=>lY cells r (match k,cells.lookup n with|.free,some c=>(n,c)::acc|_,_=>acc)
theorem Bm{env:Env}(h:∀x∈scope.names,x.2=.free→∃c,env.cells.lookup x.1=some c):closureFor scope env=pure (lY env.cells scope.names []):=by
  have go:∀(names:List (Str×NameKind)) (acc:List (Str×Addr)),(∀x∈names,x.2=.free→∃c,env.cells.lookup x.1=some c) →
      (forIn names acc (fun(x:Str×NameKind) (cs:List (Str×Addr))=>if (x.2==NameKind.free)=true then(do let c ←cellOf env x.1;pure (ForInStep.yield ((x.1,c)::cs)):Sem _) else pure (ForInStep.yield cs)):Sem (List (Str×Addr)))=pure (lY env.cells names acc):=by
    intro names;induction names with
    |nil=>intro acc _;rfl
    |cons x r ih =>
     intro acc hx;obtain⟨n,k⟩:=x;rw[List.forIn_cons];by_cases hk:k=.free
     · subst hk;obtain⟨c,hc⟩:=hx (n,.free) de rfl;have e:cellOf env n=pure c:=by unfold cellOf;rw[hc]
       simp only[beq_self_eq_true,gx,e,pure_bind];rw[ih _ fun y hy=>hx y (lJ _ hy)];simp[lY,hc]
     · have hb:(k==NameKind.free)=false:=by simpa using hk
       simp only[hb,yK,pD,pure_bind];rw[ih _ fun y hy=>hx y (lJ _ hy)]
       congr 1
       cases k<;>first|exact absurd rfl hk|rfl
  have g:=go scope.names [] h;unfold closureFor;rw[show(fun(x:Str×NameKind) (r:List (Str×Addr))=>_)=_ from rfl] at g;refine Eq.trans ?_ g
  first|rfl|exact bind_pure _|(simp only[bind_pure];rfl)
theorem yT(cells:List (Str×Addr)):∀(names:List (Str×NameKind)) (acc:List (Str×Addr)) (x:Str) (c:Addr),(∀y d,acc.lookup y=some d→cells.lookup y=some d)→(lY cells names acc).lookup x=some c→cells.lookup x=some c
  |[],acc,x,c,ha,h=>ha x c h
  |(n,k)::r,acc,x,c,ha,h=>by
   refine yT cells r _ x c (fun y d hy=>?_) h;split at hy
   · rename_i e1 e2;rw[List.lookup_cons] at hy;cases hb:y==n with
     |true=>rw[hb] at hy;cases hy;have:y=n:=by simpa using hb
            rw[this];exact e2
     |false=>rw[hb] at hy;exact ha y d hy
   ·exact ha y d hy
theorem xJ(cells:List (Str×Addr)):∀(names:List (Str×NameKind)) (acc:List (Str×Addr)) (x:Str) (c:Addr),(∀y d,acc.lookup y=some d→cells.lookup y=some d)→cells.lookup x=some c→acc.lookup x=some c→(lY cells names acc).lookup x=some c
  |[],acc,x,c,ha,hc,h=>h
  |(n,k)::r,acc,x,c,ha,hc,h=>by
   refine xJ cells r _ x c (fun y d hy=>?_) hc ?_
   · split at hy
     · rename_i e1 e2;rw[List.lookup_cons] at hy;cases hb:y==n with
       |true=>rw[hb] at hy;cases hy;have:y=n:=by simpa using hb
              rw[this];exact e2
       |false=>rw[hb] at hy;exact ha y d hy
     ·exact ha y d hy
   · split
     · rename_i e1 e2;rw[List.lookup_cons];cases hb:x==n with
       |true=>have:x=n:=by simpa using hb
              rw[this,e2] at hc;rw[hc]
       |false=>exact h
     ·exact h
theorem ud(cells:List (Str×Addr)):∀(names:List (Str×NameKind)) (acc:List (Str×Addr)) (x:Str) (c:Addr),(∀y d,acc.lookup y=some d→cells.lookup y=some d)→cells.lookup x=some c→(x,NameKind.free)∈names→(lY cells names acc).lookup x=some c
  |[],acc,x,c,ha,hc,h=>nomatch h
  |(n,k)::r,acc,x,c,ha,hc,h=>by
   have UG:∀y d,(match k,cells.lookup n with|.free,some c=>(n,c)::acc|_,_=>acc:List (Str×Addr)).lookup y=some d→cells.lookup y=some d:=fun y d hy=>by
     split at hy
     · rename_i e1 e2;rw[List.lookup_cons] at hy;cases hb:y==n with
       |true=>rw[hb] at hy;cases hy;have:y=n:=by simpa using hb
              rw[this];exact e2
       |false=>rw[hb] at hy;exact ha y d hy
     ·exact ha y d hy
   rcases gw.mp h with e|h
   ·injection e with e1 e2;subst e1 e2;refine xJ cells r _ _ c UG hc ?_;rw[hc];simp[List.lookup_cons]
   ·exact ud cells r _ x c UG hc h
theorem Y0{a b c:Nat}(h:a<b)(e:c=b+1):a≠c:=by omega
theorem ab7{a b c:Nat}(h:a<b)(e:c=b+1):a<c:=by omega
theorem Oc{x d a:Nat}(h:x<d)(h2:d≤a)(e:x=a):False:=by omega
theorem lookup_mem{α:Type}:∀{l:List (Str×α)} {x:Str} {k:α},l.lookup x=some k→(x,k)∈l
  |[],_,_,h=>by simp at h
  |(n,j)::r,x,k,h=>by
   rw[List.lookup_cons] at h;cases hb:x==n with
   |true =>
    rw[hb] at h;have e:x=n:=by simpa using hb
    cases h;rw[e];exact de
   |false=>rw[hb] at h;exact lJ _ (lookup_mem h)
theorem qV{env:Env}:∀(names:List (Str×NameKind)) (x:Str),(names.map fun(n,k)=>if (k==NameKind.free&&env.scope.kind==.function&&env.kindOf n==some .cell) then(n,NameKind.cell) else(n,k)).lookup x=(names.lookup x).map fun k=>if (k==NameKind.free&&env.scope.kind==.function&&env.kindOf x==some .cell) then NameKind.cell else k:=by
  intro names x;induction names with
  |nil=>rfl
  |cons p r ih =>
   rcases p with⟨n,k⟩
   have one:∀c:Bool,(if c=true then(n,NameKind.cell) else(n,k))=(n,if c=true then NameKind.cell else k):=fun c=>by cases c<;>rfl
   simp only[bY,one,List.lookup_cons];by_cases e:x=n
   ·subst e;simp only[beq_self_eq_true,dN]
   · have f:(x==n)=false:=by simpa using e
     simp only[f];exact ih
def HD(N tgs:gq)(fi:List Nat):gq:=tgs++fi.map fun j=>N.getD j Str.empty
def qW(nt:Nat)(fi:List Nat)(σ:St):St:=List.replicate nt none++fi.map fun j=>(σ[j]?).getD none
def kL(X:Cx)(tgs:gq)(fi:List Nat)(scope:Scope)(C:Addr)(ex:List Addr)(s:Shared)(H:Hp):Cx :=
  { X with N:=HD X.N tgs fi,s₀:=s,H₀:=H,env:=compEnvC scope (lY X.env.cells scope.names []) C X.env,outer:=X.stack,stack:=X.stack,ex:=ex,fn:=fun _=>false,xe:=fun _ _=>False }
structure dh (X:Cx) (tgs:gq) (fi:List Nat) (scope:Scope):Prop where
  kind:scope.kind=.function
  cell:∀y∈scope.names,y.2≠.cell
  names:∀y∈scope.names,y.2=.local→scope.names.lookup y.1=some .local
  free:∀y∈scope.names,y.2=.free→X.env.kindOf y.1=some .cell∨X.env.kindOf y.1=some .free
  slots:∀j∈fi,∃x,X.N[j]?=some x∧scope.names.lookup x=some .free
def Y1(osc:Scope)(N:gq)(fi:List Nat)(scope:Scope):Bool :=
  (match scope.kind with|.function=>true|_=>false) &&
  (scope.names.all fun y=>match y.2 with
    |.cell=>false
    |.local=>scope.names.lookup y.1==some NameKind.local
    |.free=>(osc.names.lookup y.1==some NameKind.cell)||(osc.names.lookup y.1==some NameKind.free)
    |_=>true) &&
  (fi.all fun j=>match N[j]? with|some x=>scope.names.lookup x==some NameKind.free|none=>false)
theorem dh.of{tgs:gq}(h:Y1 X.env.scope X.N fi scope=true):dh X tgs fi scope:=by
  unfold Y1 at h;simp only[t9,iH] at h;obtain⟨⟨h1,h2⟩,h3⟩:=h;refine⟨?_,fun y hy e=>?_,fun y hy e=>?_,fun y hy e=>?_,fun j hj=>?_⟩
  ·cases hk:scope.kind<;>rw[hk] at h1<;>first|rfl|cases h1
  ·have q:=h2 y hy;rw[e] at q;cases q
  ·have q:=h2 y hy;rw[e] at q;simpa using q
  ·have q:=h2 y hy;rw[e] at q;simp only[Bool.or_eq_true,beq_iff_eq] at q;exact q
  · have q:=h3 j hj;cases e:X.N[j]? with
    |none=>rw[e] at q;cases q
    |some x=>rw[e] at q;exact⟨x,rfl,by simpa using q⟩
section
variable {X:Cx} {pins:kH} {σ:St} {H:Hp} {s:Shared} {tgs:gq} {fi:List Nat} {scope:Scope}
theorem dh.Y2(B:dh X tgs fi scope)(ok:X.Ok):closureFor scope X.env=pure (lY X.env.cells scope.names []) :=
  Bm fun y hy hf=>ok.has y.1 (B.free y hy hf)
theorem nG{c:Addr}(h:(lY X.env.cells scope.names []).lookup x=some c):X.env.cells.lookup x=some c :=
  yT _ _ _ _ _ (fun _ _ z=>by simp at z) h
theorem Wg(B:dh X tgs fi scope)(I:Inv X pins σ H s)(hC:s.heap.objs.size≤C)(hex:∀b∈ex,ip X pins H b)(jL:∀b∈ex,b<C):(kL X tgs fi scope C ex s H).Ok where
  mod:=I.ok.mod
  kind:=B.kind
  glob:=I.ok.glob
  blt:=I.ok.blt
  above:=hC
  inj:=fun x y c h1 h2=>I.ok.inj x y c (nG h1) (nG h2)
  has:=fun x h=>by
    have e:∀k,(relabel scope X.env).names.lookup x=some k→(k=.cell∨k=.free)→(x,NameKind.free)∈scope.names:=fun k hk hor=>by
      have e1:(scope.names.lookup x).map (fun k=>if (k==NameKind.free&&X.env.scope.kind==.function&&X.env.kindOf x==some .cell) then NameKind.cell else k)=some k:=by rw[←qV];exact hk
      cases hl:scope.names.lookup x with
      |none=>rw[hl] at e1;cases e1
      |some j =>
       rw[hl] at e1;have hm:=lookup_mem hl;have e2:(if (j==NameKind.free&&X.env.scope.kind==.function&&X.env.kindOf x==some .cell) then NameKind.cell else j)=k:=oq e1;by_cases hj:j=.free
       ·rw[hj] at hm;exact hm
       · have hb:(j==NameKind.free)=false:=by simpa using hj
         rw[hb] at e2;simp only[Bool.false_and,yK,pD] at e2;rcases hor with z|z
         ·exact absurd (e2.trans z) (B.cell _ hm)
         ·exact absurd (e2.trans z) hj
    have hm:(x,NameKind.free)∈scope.names:=by
      rcases h with h|h
      ·exact e _ h (.inl rfl)
      ·exact e _ h (.inr rfl)
    obtain⟨c,hc⟩:=I.ok.has x (B.free _ hm rfl);exact⟨c,ud _ _ _ _ _ (fun _ _ z=>by simp at z) hc hm⟩
  XQ:=fun x c h _=>by cases h
  hd:=I.ok.hd
  frames:=I.ok.frames
  Yl:=.inl rfl
  exf:=fun b hb=>⟨fT (jL b hb),fun x c e=>(hex b hb).2.2.2.2.1 x c (nG e)⟩
  bs:=I.bs
  Uv:=pU I.ok.Uv I.sz
  Lr:=fun b o e hb=>by
    rcases(hex b hb).2.2.2.1 with z|z
    ·exact I.ok.Lr b o e z
    ·exact absurd (oN (dg (I.ok.bs b o e).1) z) (Nat.lt_irrefl _)
  Nx:=fun b hb z=>by
    rcases gw.mp (I.wu b z) with e|e
    ·exact(hex b hb).2.1 e
    ·exact(hex b hb).2.2.1 e
  x8:=I.stack
  Vm:=I.JC
theorem Od(h:(HD N tgs fi)[i]?=some x)(hi:tgs.length≤i):∃j,fi[i-tgs.length]?=some j∧x=N.getD j Str.empty:=by
  unfold HD at h;rw[Fu hi,qG] at h;cases e:fi[i-tgs.length]? with
  |none=>rw[e] at h;cases h
  |some j=>rw[e] at h;exact⟨j,rfl,(oq h).symm⟩
theorem JS{m:Str→mR}(B:dh X tgs fi scope)(I:Inv X pins σ H s)(JF:∀x c,X.env.cells.lookup x=some c→∀v,s.heap.IsCell c v→h'.IsCell c v)(XX:h'.Ns C m):∃m,h'.Ns (kL X tgs fi scope C ex s H).env.locals m∧∀(i:Nat) (x:Str) (v:V),(kL X tgs fi scope C ex s H).N[i]?=some x→(qW tgs.length fi σ)[i]?=some (some v)→FD (kL X tgs fi scope C ex s H).env.scope x→∃u,RelV v u∧Look (kL X tgs fi scope C ex s H).env h' m x u:=by
  refine⟨m,XX,fun i x v e1 e2 e3=>?_⟩;by_cases hi:i<tgs.length
  · exfalso;have e:(qW tgs.length fi σ)[i]?=some none:=by
      unfold qW;rw[List.getElem?_append_left (by simpa using hi)];simp[hi]
    rw[e] at e2;cases e2
  · have Rp:tgs.length≤i:=Nat.le_of_not_lt hi;obtain⟨j,hj,hx⟩:=Od e1 Rp;obtain⟨y,hy,hf⟩:=B.slots j (List.mem_of_getElem? hj);have exy:x=y:=by
      rw[hx,nD,hy];rfl
    subst exy;have eσ:σ[j]?=some (some v):=by
      unfold qW at e2;rw[Fu (by simpa using Rp),List.length_replicate,qG,hj] at e2;have Wh:(σ[j]?).getD none=some v:=oq e2;cases q:σ[j]? with
      |none=>rw[q] at Wh;cases Wh
      |some w'=>rw[q] at Wh;exact g6 some Wh
    have hkf:=B.free _ (lookup_mem hf) rfl;obtain⟨mm,hn,hl⟩:=I.loc;have vis:FD X.env.scope x:=by
      rcases hkf with z|z
      ·exact .inr (.inl z)
      ·exact .inr (.inr z)
    obtain⟨u,r,l⟩:=hl j x v hy eσ vis;refine⟨u,r,.inr ⟨?_,?_⟩⟩
    · show(relabel scope X.env).names.lookup x=some .cell∨(relabel scope X.env).names.lookup x=some .free;have e:=qV (env:=X.env) scope.names x;rw[hf] at e;have e':(relabel scope X.env).names.lookup x=some (if (NameKind.free==NameKind.free&&X.env.scope.kind==.function&&X.env.kindOf x==some .cell) then NameKind.cell else NameKind.free):=e;rw[e'];split
      ·exact .inl rfl
      ·exact .inr rfl
    · rcases l with⟨z,_⟩|⟨_,c,hc,XY⟩
      · rcases hkf with q|q
        ·rw[z] at q;cases q
        ·rw[z] at q;cases q
      ·exact⟨c,ud _ _ _ _ _ (fun _ _ z=>by simp at z) hc (lookup_mem hf),JF x c hc _ XY⟩
theorem Inv.block{m:Str→mR}{more:kH}(B:dh X tgs fi scope)(I:Inv X pins σ H s)(hC:s.heap.objs.size≤C)(hex:∀b∈ex,ip X pins H b)(jL:∀b∈ex,b<C)(k:∀b o,s.heap.get? b=some o→h'.get? b=some o)(XX:h'.Ns C m)(Y3:∀p∈more,h'.get? p.1=some p.2∧H p.1=none∧p.1≠C∧s.heap.objs.size≤p.1∧∀v,p.2.data≠.cell v) :
    Inv (kL X tgs fi scope C ex s H) (pins++more) (qW tgs.length fi σ) H { s with heap:=h',toks:=t' } where
  ok:=Wg B I hC hex jL
  os:=rfl
  bare:=I.bare
  base:=Un.kept k
  loc:=JS B I (fun x c _ v ⟨o,ho,hd⟩=>⟨o,k c o ho,hd⟩) XX
  cell:=fun x c e=>by obtain⟨v,o,ho,hd⟩:=I.cell x c (nG e);exact⟨v,o,k c o ho,hd⟩
  free:=I.cY.fresh hC
  jW:=fun x c e=>I.jW x c (nG e)
  pin:=fun p hp=>by
    have Bn:p∈X.pn++(pins++more):=hp;rw[←Dh] at Bn;rcases mX.mp Bn with hp|hp
    · obtain⟨e,n,ne,nf,d⟩:=I.pin p hp;refine⟨k _ _ e,n,fT (oN (dg e) hC),fun z=>?_,d⟩;rcases gw.mp (I.wu _ z) with q|q
      ·exact ne q
      ·exact nf q
    · obtain⟨e,n,ne,sz,d⟩:=Y3 p hp;refine⟨e,n,ne,fun z=>?_,d⟩;rcases gw.mp (I.wu _ z) with q|q
      ·exact absurd (q▸I.lt) (Nat.not_lt.mpr sz)
      ·exact I.Vn sz q
  cY:=I.cY.kept k
  len:=by show(qW tgs.length fi σ).length=(HD X.N tgs fi).length;simp[qW,HD]
theorem Inv.forget{pl:kH}{σ9:St}{H9:Hp}{s9:Shared}(B:dh X tgs fi scope)(I:Inv X pins σ H s)(hex:∀b∈ex,ip X pins H b)(I9:Inv (kL X tgs fi scope C ex s H) pl σ9 H9 s9):Inv (kL X tgs fi scope C ex s H) pl (qW tgs.length fi σ) H9 s9:=by
  obtain⟨m,hn,_⟩:=I9.loc;refine⟨I9.ok,I9.os,I9.bare,I9.base,JS (ex:=ex) B I (fun x c e v ⟨o,ho,hd⟩=>?_) hn,I9.cell,I9.free,I9.jW,I9.pin,I9.cY,?_⟩
  ·have hx:c∉ex:=fun z=>(hex c z).2.2.2.2.1 x c e rfl;obtain⟨sl,q⟩:=I9.base.any ho (I.jW x c e) hx;exact⟨_,q,hd⟩
  ·show(qW tgs.length fi σ).length=(HD X.N tgs fi).length;simp[qW,HD]
theorem Inv.Y4(I:Inv X pins σ H s)(hf:ip X pins H a)(h0:X.s₀.heap.objs.size≤a)(new:cy X.prog X.w (upd H a o) s.heap a o):Inv X pins σ (upd H a o) s:=by
  obtain⟨hn,hL,hfs,_,hC,hp⟩:=hf;refine⟨I.ok,I.os,I.bare,⟨I.base.keep,I.base.slot,fun b u e n hx=>?_,I.base.there,fun b xs e=>?_,fun b u xs e=>?_,fun b ps e=>?_⟩,I.loc,I.cell,?_,fun x c e=>?_,fun p Bn=>?_,fun b u e=>?_,I.len⟩
  ·rw[aK (fT (oN (dg e) h0))];exact I.base.free b u e n hx
  ·have q:=I.base.qH b xs e;rw[aK (bO q hn)];exact q
  ·have q:=I.base.wq b u xs e;rw[aK (bO q hn)];exact q
  ·obtain⟨m,q⟩:=I.base.wt b ps e;exact⟨m,by rw[aK (bO q hn)];exact q⟩
  ·rw[aK (Ne.symm hL)];exact I.free
  ·rw[aK (hC x c e)];exact I.jW x c e
  ·obtain⟨e,n,r⟩:=I.pin p Bn;exact⟨e,by rw[aK (hp p Bn)];exact n,r⟩
  · by_cases hb:b=a
    ·subst hb;rw[aL] at e;cases e;exact new
    ·rw[aK hb] at e;exact(I.cY b u e).pW (fun _ _ _ q=>q) (fun c q=>by rw[aK (bO q hn)];exact q) fun c xs q=>by rw[aK (bO q hn)];exact q
end
def LX(X:Cx)(ifs:List Expr)(t:TT):Prop :=
  ∀(pins:kH) (s:Shared) (σ:St) (H:Hp) (Q:Bool→Hp→Prop),Inv X pins σ H s→t σ H Q →
   wpAny (model X.prog X.w) X.A (forIn ifs true fun c r=>if r=true then do let ok ←isTrue c X.env (eval c X.env);pure (ForInStep.yield ok) else pure (ForInStep.yield r)) (TP X pins σ Q) X.xe s
def ab9:TT:=fun _ H Q=>Q true H
theorem Oe:LX X [] ab9:=fun _ _ _ H _ I h=>wpAny_tests_nil ⟨H,I,h⟩
theorem Og{c:Expr}{t:TT}(h:PT X c t):LX X [c] t:=fun pins s σ H Q I hw=>wpAny_tests_one (h pins s σ H Q I hw)
def UH(J:It)(σ0:St)(g:TG)(tt:TT)(te:TE)(W:Nat→Nat→List V→Hp→Prop)(Fin:List V→Hp→Prop):Prop :=
  ∀i m ys H,W i m ys H→(J.stop i H∧ys.length≤sizeLine∧Fin ys H) ∨
   (J.go i H∧ys.length<sizeLine∧∃(N:V→Hp→Prop) (N0:Hp→Prop),(∀y H4,N y H4→∃m',m'<m∧W (i+1) m' (ys++[y]) H4)∧(∀H3,N0 H3→∃m',m'<m∧W (i+1) m' ys H3) ∧
     ∀x H',J.NH i H x H'→g x σ0 H' fun σ2 H2=>tt σ2 H2 fun b H3=>if b=true then te σ2 H3 N else N0 H3)
section
variable {X:Cx} {tg elt iter:Expr} {ifs:List Expr} {tgs:gq} {fi:List Nat} {scope:Scope} {pos:Pos} {g:TG} {tt:TT} {te:TE}
def lobj(its:ef)(n:Nat):Obj:={ cls:=.type "list",data:=.seq its.toArray n }
theorem FT{H2:Hp}{s2:Shared}{J:It}{it:Addr}{tn:Nat→Heap→Prop}{Fin:List V→Hp→Prop}{RR:Value→Addr→Result→Shared→Prop}(hc:X.calm=true)(B:dh X tgs fi scope)(hg:∀C ex s H,PG (kL X tgs fi scope C ex s H) tg g)(ht:∀C ex s H,LX (kL X tgs fi scope C ex s H) ifs tt)(he:∀C ex s H,PE (kL X tgs fi scope C ex s H) elt te)(I2:Inv X pins σ H2 s2)(T:Turn X.prog X.w X.K tg J fp it tn)(st:tn 0 s2.heap)(hf:∀b∈fp,ip X pins H2 b)(W:Nat→Nat→List V→Hp→Prop)(m0:Nat)(w0:W 0 m0 [] H2)(turn:UH J (qW tgs.length fi σ) g tt te W Fin)(hRR:∀D C H' ys s' m',Inv X pins σ (upd H' D (.lst ys)) s'→H' D=none→s'.heap.Ns C m'→ip X pins (upd H' D (.lst ys)) C→Fin ys H'→RR (.ref D) C (.ok .next) s'):wpAny (model X.prog X.w) X.A (newList []) (fun acc s₃=>wpAny (model X.prog X.w) X.A (newFunctionEnv scope X.env.globals (lY X.env.cells scope.names []) [] X.env.qual none .none (some X.env)) (fun Y5 s₄=>codeAny (model X.prog X.w) X.A (.compStart (.ListComp elt [⟨tg,iter,ifs,0⟩] scope pos) 0 (.ref it) acc { Y5 with scope:=relabel scope X.env }) (RR acc Y5.locals) s₄) E s₃) E s2:=by
  refine wpAny_newObj_type (wpAny_newFunctionEnv B.cell (by intro y hy;simp at hy) (fun h₁ Oh LY=>?_) B.kind);dsimp only at Oh LY⊢;generalize hHp:s2.heap.push { cls:=.type "list",dict:=none,data:=.seq ([]:ef).toArray }=hp at Oh LY⊢;generalize hD:s2.heap.objs.size=D at Oh LY⊢;have hCD:hp.objs.size=D+1:=by rw[←hHp,Heap.size_push,hD]
  generalize hCe:hp.objs.size=C at Oh LY hCD⊢;have Y6:D≠C:=by omega
  have old:∀b o,s2.heap.get? b=some o→h₁.get? b=some o:=fun b o e=>by have hb:b<D:=hD▸dg e;refine LY.extBut b o (Y0 hb hCD) (kz _ ?_);rw[←hHp];exact kz _ e
  have hDo:h₁.get? D=some (lobj [] 0):=by refine LY.extBut D _ Y6 (kz _ ?_);rw[←hHp,←hD];exact il _ rfl
  have Wi:∀b∈fp,b<D:=fun b hb=>by obtain⟨o,e,_⟩:=T.obj 0 _ st b hb;rw[←hD];exact dg e
  have Y7:D∉fp:=fun z=>Nat.lt_irrefl _ (Wi D z);have acb:H2 D=none:=I2.cY.fresh (by rw[hD];exact cu _);have ge0:X.s₀.heap.objs.size≤D:=by rw[←hD];exact I2.sz
  have HF:∀(a:Addr),D≤a→∀x c,X.env.cells.lookup x=some c→c≠a:=fun a ha x c e z=>by obtain⟨v,q⟩:=I2.cell x c e;have:=q.lt;rw[hD] at this;exact Oc this ha z
  have Oi:∀(a:Addr),D≤a→∀p∈X.pn++pins,p.1≠a:=fun a ha p Bn z=>by have:=dg (I2.pin p Bn).1;rw[hD] at this;exact Oc this ha z
  have Y8:∀(a:Addr),D≤a→a≠X.env.locals:=fun a ha z=>by have:=I2.lt;rw[hD] at this;exact Oc this ha z.symm
  have fsD:∀(a:Addr),D≤a→a∉X.fs:=fun a ha=>I2.Vn (by rw[hD];exact ha)
  -- the word of the loop
  let Y:Cx:=kL X tgs fi scope C fp s2 H2
  have stF:∀{H:Hp} {pl:kH},(∀b∈fp,H b=none)→(∀p∈pl,p.1∉fp)→∀b∈fp,ip Y (pins++pl) H b:=fun {H pl} hn tq b hb=>by
    obtain⟨f0,f1,f2,f3,f4,f5⟩:=hf b hb;refine⟨hn b hb,Y0 (Wi b hb) hCD,fun z=>?_,.inl hb,fun x c e=>f4 x c (nG e),fun p Bn z=>?_⟩
    · rcases gw.mp (I2.wu b z) with e|e
      ·exact f1 e
      ·exact f2 e
    · have XW:p∈X.pn++(pins++pl):=Bn;rw[←Dh] at XW;rcases mX.mp XW with q|q
      ·exact f5 p q z
      ·exact tq p q (z▸hb)
  have loop:∀s₃:Shared,s₃={ s2 with heap:=h₁,toks:=s2.toks+([]:List (Str×Value)).length } →
      codeAny (model X.prog X.w) X.A (.compLoop (.ListComp elt [⟨tg,iter,ifs,0⟩] scope pos) 0 (.ref it) (.ref D) (compEnvC scope (lY X.env.cells scope.names []) C X.env)) (RR (.ref D) C) s₃:=by
    intro s₃ es₃;subst es₃;have quit:∀{α:Type} {m:Sem α} {Q Q':α→Shared→Prop} {E':lr} {s':Shared},wpAny (model X.prog X.w) X.A m Q (fun _ _=>False) s'→(∀a t,Q a t→Q' a t)→wpAny (model X.prog X.w) X.A m Q' E' s':=fun h k=>pV h k fun _ _ f=>f.elim;refine codeAny_loop rfl (fun n s'=>∃i H' ys its e,Inv Y (pins++[(D,lobj its e)]) (qW tgs.length fi σ) H' s'∧Vals ys its∧tn i s'.heap∧(∀b∈fp,H' b=none)∧W i n ys H') ?_ m0 ⟨0,H2,[],[],0,?_,.nil,?_,fun b hb=>(hf b hb).1,w0⟩
    rotate_left
    · refine Inv.block (C:=C) B I2 (by omega) hf (fun b hb=>ab7 (Wi b hb) hCD) old Oh fun p Bn=>?_;have e:p=(D,lobj [] 0):=by simpa using Bn
      subst e;exact⟨hDo,acb,Y6,Nat.le_of_eq hD,fun v z=>by cases z⟩
    ·exact T.keep _ _ _ st fun b hb o e=>old b o e
    rintro n s4 ⟨i,H4,ys,its,e4,I4,rv,st4,fr4,w4⟩;refine wpAny_noted ?_;rw[compTurn_list];refine bA (wpAny_standAt (bA ?_));have tq:∀p∈[(D,lobj its e4)],p.1∉fp:=fun p Bn=>by
      have e:p=(D,lobj its e4):=by simpa using Bn
      subst e;exact Y7
    have f4:=stF (pl:=[(D,lobj its e4)]) fr4 tq;rcases turn i n ys H4 w4 with⟨stop,hz,fin⟩|⟨go,hz,N,N0,hN,hN0,step⟩
    · -- the end
      refine gT (T.done Y rfl rfl rfl hc i _ s4 _ H4 _ I4 f4 st4 stop) fun r s5 ⟨hr,I5⟩=>?_;subst hr;refine bj ?_;have hD5:=(I5.pin (D,lobj its e4) (by simp)).1;have Y9:H4 D=none:=(I5.pin (D,lobj its e4) (by simp)).2.1;have Za:Inv X pins σ H4 s5:=I2.Yo I5.os I5.base I5.cY I5.bare fun b hb=>by obtain⟨f0,f1,f2,f3,f4,f5⟩:=hf b hb;exact⟨f3,f1,f4,f5⟩
      have fpD:ip X pins H4 D:=⟨Y9,Y8 D (cu _),fsD D (cu _),.inr ge0,HF D (cu _),Oi D (cu _)⟩
      have It:=Za.Y4 (o:=.lst ys) fpD ge0 ⟨hz,its,e4,rv,hD5⟩;obtain⟨m',Yn,_⟩:=I5.loc;refine hRR D C H4 ys s5 m' It Y9 Yn ⟨?_,Y8 C (by omega),fsD C (by omega),.inr (by omega),HF C (by omega),Oi C (by omega)⟩ fin;rw[aK (Ne.symm Y6)];exact I5.free
    · -- a turn
      refine gT (T.item Y rfl rfl rfl hc i _ s4 _ H4 _ I4 f4 st4 go) fun r s5 ⟨u,hr,h5⟩=>?_;subst hr;refine bA (gT h5 fun _ s6 ⟨x,H6,I6,r6,y6,st6,fr6⟩=>bA ?_);have I6':=I6.pinned (stF (pl:=[(D,lobj its e4)]) fr6 tq) (T.obj _ _ st6);refine quit (hg C fp s2 H2 _ s6 _ H6 x u _ I6' r6 (step x H6 y6)) fun _ s7 ⟨σ7,H7,I7,q7⟩=>bA (quit (ht C fp s2 H2 _ s7 σ7 H7 _ I7 q7) fun b s8 ⟨H8,I8,q8⟩=>?_);have again:∀{σ9:St} {H9:Hp} {s9:Shared},Inv Y ((pins++[(D,lobj its e4)])++yO fp s6.heap) σ9 H9 s9→tn (i+1) s9.heap∧(∀b∈fp,H9 b=none):=fun {σ9 H9 s9} I9=>by refine⟨T.keep _ _ _ st6 fun b hb o e=>(I9.pin (b,o) (jV _ (jV _ (pX hb e)))).1,fun b hb=>?_⟩;obtain⟨o,e,d⟩:=T.obj _ _ st6 b hb;exact(I9.pin (b,o) (jV _ (jV _ (pX hb e)))).2.1
      cases b with
      |false=>obtain⟨m',hm,w8⟩:=hN0 _ q8;obtain⟨a1,a2⟩:=again I8;exact bj ⟨rfl,m',hm,i+1,H8,ys,its,e4,Inv.forget B I2 hf I8.pE,rv,a1,a2,w8⟩
      |true =>
       rw[az rfl] at q8;refine bA (bA (quit (he C fp s2 H2 _ s8 σ7 H8 _ I8 q8) fun y s9 ⟨yv,H9,I9,r9,q9⟩=>bA ?_));obtain⟨m',hm,w9⟩:=hN yv H9 q9;obtain⟨a1,a2⟩:=again I9;obtain⟨p1,p2,p3,p4,p5⟩:=I9.pin (D,lobj its e4) (by simp);have hsz:its.toArray.size≤sizeLine:=by have:=rv.length;simp only[kC];omega
       refine wpAny_list_append_plain (hsz:=hsz) ⟨e4,p1⟩ fun h₅ hl₅ hs₅=>bj (bj ⟨rfl,?_⟩);obtain⟨e5,hD5⟩:=hl₅;have acf:h₅.get? D=some (lobj (its++[y]) e5):=by rw[hD5];simp[lobj]
       have I10:Inv Y pins (qW tgs.length fi σ) H9 { s9 with heap:=h₅ }:=by refine Inv.turned (t':=s9.toks) (it:=D) ((Inv.forget B I2 hf I9.pE).pE) (fun b o hb e=>(hs₅.2 b hb).trans e) p2 Y6 (.inr (Nat.le_of_eq hD)) (fun x c e=>HF D (cu _) x c (nG e)) (Oi D (cu _))
       refine⟨m',hm,i+1,H9,ys++[yv],its++[y],e5,I10.Dp fun p Bn=>?_,Vals.append rv (.cons r9 .nil),T.keep _ _ _ a1 fun b hb o e=>(hs₅.2 b (fun z=>Y7 (z▸hb))).trans e,a2,w9⟩;rcases mX.mp Bn with q|q
       ·exact I10.pin p (jV _ q)
       · have e:p=(D,lobj (its++[y]) e5):=by simpa using q
         subst e;exact⟨acf,p2,Y6,p4,fun v z=>by cases z⟩
  exact codeAny_compStart_list (loop _ rfl) (T.self _ 0 _ _ _ (T.keep _ _ _ st fun b hb o e=>old b o e) (loop _ rfl))
def Oj(wi:TI)(nt:Nat)(fi:List Nat)(g:TG)(tt:TT)(te:TE):TE:=fun σ H Q=>wi σ H fun J H1=>∃W:Nat→Nat→List V→Hp→Prop,(∃m,W 0 m [] H1) ∧
  UH J (qW nt fi σ) g tt te W fun ys H2=>∀p,H2 p=none→Q (.ref p) (upd H2 p (.lst ys))
theorem Sg{wi:TI}(hc:X.calm=true)(B:dh X tgs fi scope)(hi:PI X tg iter wi)(hg:∀C ex s H,PG (kL X tgs fi scope C ex s H) tg g)(ht:∀C ex s H,LX (kL X tgs fi scope C ex s H) ifs tt)(he:∀C ex s H,PE (kL X tgs fi scope C ex s H) elt te)(hs:∀x,foldedSetIterable iter X.env x=pure x:=by intro _;rfl):PE X (.ListComp elt [⟨tg,iter,ifs,0⟩] scope pos) (Oj wi tgs.length fi g tt te):=by
  intro pins s σ H Q I h;rw[eval_ListComp];refine wpAny_comprehension_free (use:=none) rfl hs (B.Y2 I.ok) B.kind B.names (gT (hi pins s σ H _ I h) fun xv s1 h1=>gT h1 fun itv s2 h2=>?_);obtain⟨it,fp,tn,J,H2,e,I2,T,YB,f2,W,⟨m0,w0⟩,turn⟩:=h2;subst e;refine FT (RR:=fun acc C=>compPost (model X.prog X.w) X.A X.xe none (EP X pins σ Q) acc C) hc B hg ht he I2 T YB f2 W m0 w0 turn ?_;intro D C H' ys s' m' I' hD hn hC fin;obtain⟨c0,c1,c2,c3,c4,c5⟩:=hC;exact⟨m',hn,fun h' sb=>⟨.ref D,_,I'.turned (t':=s'.toks) (fun b o hb e=>(sb.2 b hb).trans e) c0 c1 c3 c4 c5,rfl,fin D hD⟩⟩
theorem yU{wi:TI}{FU:Pos}(hc:X.calm=true)(hN:X.N.Nodup)(hx:X.N[i]?=some x)(hl:X.env.scope.names.lookup x=some .local)(B:dh X tgs fi scope)(hi:PI X tg iter wi)(hg:∀C ex s H,PG (kL X tgs fi scope C ex s H) tg g)(ht:∀C ex s H,LX (kL X tgs fi scope C ex s H) ifs tt)(he:∀C ex s H,PE (kL X tgs fi scope C ex s H) elt te)(Wj:swapsWith (.ListComp elt [⟨tg,iter,ifs,0⟩] scope pos) (some (.Name x pos')) FU.line X.env=pure true)(hs:∀x,foldedSetIterable iter X.env x=pure x:=by intro _;rfl):PS X (.Assign [.Name x pos'] (.ListComp elt [⟨tg,iter,ifs,0⟩] scope pos) FU) (Lv (Oj wi tgs.length fi g tt te) (BW i)):=by
  intro pins s σ H D I h;rw[exec_Assign_Name_used _ _ _ _ Wj];refine bA (wpAny_standAt (bA ?_));show wpAny _ _ (do let _ ←comprehension (.ListComp elt [⟨tg,iter,ifs,0⟩] scope pos) scope X.env _ (newList []) false (eval iter X.env) (some (assign (.Name x pos') X.env))) _ _ s;refine bA (pV (wpAny_comprehension_free (use:=some (assign (.Name x pos') X.env)) (Q:=fun _ s'=>SP X pins D .next s') rfl hs (B.Y2 I.ok) B.kind B.names
    (gT (hi pins s σ H _ I h) fun xv s1 h1=>gT h1 fun itv s2 h2=>?_)) (fun _ s' hq=>bj (bj hq)) fun _ _ e=>e)
  obtain⟨it,fp,tn,J,H2,e,I2,T,YB,f2,W,⟨m0,w0⟩,turn⟩:=h2;subst e;refine FT (RR:=fun acc C=>compPost (model X.prog X.w) X.A X.xe (some (assign (.Name x pos') X.env)) (fun _ s'=>SP X pins D .next s') acc C) hc B hg ht he I2 T YB f2 W m0 w0 turn ?_;intro a C H' ys s' m' I' hD hn hC fin;obtain⟨c0,c1,c2,c3,c4,c5⟩:=hC;refine wpAny_assign_Name (BV (v:=.ref a) I' hN hx (.inl hl) rfl (fun wx I'' ⟨b,sb,hb⟩=>?_) (.inr hl));have hCb:C≠b:=by
    rcases hb with z|z
    ·rw[z];exact c1
    ·exact fun q=>c4 x b z q.symm
  exact⟨m',hn.sameBut sb hCb,fun h' sb'=>⟨_,_,I''.turned (t':=wx.toks) (fun b o hb e=>(sb'.2 b hb).trans e) c0 c1 c3 c4 c5,fin a hD⟩⟩
end
theorem yV:bootBuiltins "tuple"=some (.type "tuple"):=by decide +kernel
theorem DC:bootBuiltins "list"=some (.type "list"):=by decide +kernel
theorem Wk:bootBuiltins "int"=some (.type "int"):=by decide +kernel
theorem Sh:bootBuiltins "bool"=some (.type "bool"):=by decide +kernel
theorem Wl:bootBuiltins "str"=some (.type "str"):=by decide +kernel
theorem Wm:bootBuiltins "set"=some (.type "set"):=by decide +kernel
theorem fI:bootBuiltins "len"=some (.builtin "len"):=by decide +kernel
theorem yW:bootBuiltins "sum"=some (.builtin "sum"):=by decide +kernel
theorem nq:bootBuiltins "sorted"=some (.builtin "sorted"):=by decide +kernel
theorem Bo:bootBuiltins "isinstance"=some (.builtin "isinstance"):=by decide +kernel
theorem in1_units:A.in1.units=A.units+1:=rfl
theorem all_eq:((List.range (min ns.length ms.length)).all (fun j=>decide (ns[j]?=ms[j]?))&&(ns.length==ms.length))=decide (ns=ms):=by
  rw[Be];simp only[t9,iH,mY,Bb,beq_iff_eq];constructor
  · rintro⟨h,hl⟩;refine List.ext_getElem? fun i=>?_;by_cases hi:i<min ns.length ms.length
    ·exact h i hi
    ·rw[Df (by omega),Df (by omega)]
  ·rintro rfl;exact⟨fun _ _=>rfl,rfl⟩
theorem B6{p q:Addr}{FV eK:ef}(h1:IsTup s.heap p FV.toArray)(h2:IsTup s.heap q eK.toArray)(r1:Vals (ns.map V.int) FV)(r2:Vals (ms.map V.int) eK)(hu:A.units<cLine):SeqAt.EqAt A s (.ref p) (.ref q) (decide (ns=ms)):=by
  by_cases e:p=q
  · subst e;obtain⟨o,e1,_,n,d1⟩:=h1;obtain⟨o',e2,_,n',d2⟩:=h2;rw[e1] at e2;cases e2;rw[d1] at d2;injection d2 with d3 _;have e3:FV=eK:=by simpa using g6 Array.toList d3
    subst e3;have e4:=r1.inj r2;have e5:ns=ms:=by have:=g6 (List.map fun v=>match v with|V.int i=>i|_=>0) e4;simpa[e8,Function.comp_def] using this
    rw[nE e5];exact SeqAt.EqAt.same _
  · have l1:FV.length=ns.length:=by have:=r1.length;simpa using this.symm
    have l2:eK.length=ms.length:=by have:=r2.length;simpa using this.symm
    have key:=SeqAt.RcAt.tuples (A:=A) (e:=fun j=>decide (ns[j]?=ms[j]?)) (show s.heap.IsTuple p FV.toArray from h1) (show s.heap.IsTuple q eK.toArray from h2) hu (fun j q1 q2=>by
      have q1':j<ns.length:=by simpa[l1] using q1
      have q2':j<ms.length:=by simpa[l2] using q2
      obtain⟨u,Wn,ru⟩:=r1.get (i:=j) (x:=.int ns[j]) (by simp[q1']);obtain⟨v,hv1,rv⟩:=r2.get (i:=j) (x:=.int ms[j]) (by simp[q2']);obtain⟨t,rfl⟩:=ru;obtain⟨t',rfl⟩:=rv;have a1:FV.toArray[j]=.int ns[j] t:=by
        have:FV.toArray[j]?=some (.int ns[j] t):=by simpa using Wn
        rw[A8 q1] at this;exact oq this
      have a2:eK.toArray[j]=.int ms[j] t':=by
        have:eK.toArray[j]?=some (.int ms[j] t'):=by simpa using hv1
        rw[A8 q2] at this;exact oq this
      rw[a1,a2];have e:decide (ns[j]?=ms[j]?)=(ns[j]==ms[j]):=by rw[mV q1',mV q2',Be];simp
      rw[e];exact SeqAt.EqAt.int_int _ _ _ _)
    rw[show FV.toArray.size=ns.length by simpa using l1,show eK.toArray.size=ms.length by simpa using l2,all_eq] at key;exact SeqAt.EqAt.of_refs e key
section
variable {X:Cx}
theorem nH:∀ns:aO,HT.lexLt ns ns=false
  |[]=>rfl
  |x::r=>by rw[HT.nF,az rfl];exact nH r
theorem Si{i:Int}{p:Addr}(I:Inv X pins σ H s)(h:kA X.K H a [.int i,.ref p]):∃t,IsTup s.heap a [Value.int i t,Value.ref p].toArray:=by obtain⟨its,rv,ht,_⟩:=I.tuple h;obtain⟨u,v,rfl,ru,rv'⟩:=vals2 rv;obtain⟨t,rfl⟩:=ru;cases rv';exact⟨t,ht⟩
theorem FW:qx X (.builtin "isinstance") (fun xs H Q=>∃x T t b,xs=[x,.ty T]∧uc X.K H x t∧kitOne X.K t (.type T)=some b∧Q (.bl b) H):=by intro pins s σ H xs us Q I r h;obtain⟨x,T,t,b,rfl,ty,e,q⟩:=h;obtain⟨u,v,rfl,ru,rv⟩:=vals2 r;cases rv;exact LG I ru ty e fun tk=>⟨.bl b,H,I.tok tk,rfl,q⟩
end
end L2
namespace Sj
open PySem PySem.W PyProof.Rows
variable {α β:Type}
def fU(lt:Nat→Nat→Bool):KasT α→α
  |.ret a=>a
  |.ask i j k=>fU lt (k (lt i j))
theorem nu(lt:Nat→Nat→Bool)(f:α→KasT β):∀t:KasT α,fU lt (t.bind f)=fU lt (f (fU lt t))
  |.ret _=>rfl
  |.ask i j k=>nu lt f (k (lt i j))
def pF(n:Nat)(P:α→Prop):KasT α→Prop
  |.ret a=>P a
  |.ask i j k=>i<n∧j<n∧∀b,pF n P (k b)
theorem pF.bind{P:α→Prop}{R:β→Prop}{f:α→KasT β}:∀{t:KasT α},pF n P t→(∀a,P a→pF n R (f a))→pF n R (t.bind f)
  |.ret a,h,hf=>hf a h
  |.ask _ _ _,h,hf=>⟨h.1,h.2.1,fun b=>pF.bind (h.2.2 b) hf⟩
theorem Ol{cmp:Nat→Nat→(Bool→Shared→Prop)→Shared→Prop}{S:Shared→Prop}{lt:Nat→Nat→Bool}{n:Nat}{P:α→Prop}{Q:α→Shared→Prop}(Sl:∀i j C s,i<n→j<n→S s→(∀s',S s'→C (lt i j) s')→cmp i j C s):∀(t:KasT α) (s:Shared),pF n P t→S s→(∀s',S s'→P (fU lt t)→Q (fU lt t) s')→t.kasWp cmp Q s
  |.ret a,s,h,hs,hq=>hq s hs h
  |.ask i j k,s,h,hs,hq=>Sl i j _ s h.1 h.2.1 hs fun s' JT=>Ol Sl (k (lt i j)) s' (h.2.2 _) JT hq
structure bp (n:Nat) (p:Array Nat):Prop where
  perm:p.Perm (List.range n).toArray
theorem bp.size(h:bp n p):p.size=n:=by rw[h.perm.size_eq];simp
theorem bp.lt(h:bp n p)(hn:0<n)(x:Nat):p.getD x 0<n:=by
  by_cases hx:x<p.size
  · have e:p.getD x 0=p[x]:=by simp[Array.getD,hx]
    rw[e];have hm:p[x]∈(List.range n):=by have:=(De.mp h.perm).mem_iff (a:=p[x]);simp only[Array.mem_toList_iff] at this;exact this.mp (by simp)
    exact mY.mp hm
  · have e:p.getD x 0=0:=by simp[Array.getD,hx]
    rw[e];exact hn
theorem bp.inj(h:bp n p)(hi:i<n)(hj:j<n)(e:p.getD i 0=p.getD j 0):i=j:=by
  have nd:p.toList.Nodup:=(De.mp h.perm).nodup_iff.mpr (by simpa using List.nodup_range);have Rp:i<p.toList.length:=by simpa[h.size] using hi
  have XZ:j<p.toList.length:=by simpa[h.size] using hj
  have Om:i<p.size:=by simpa using Rp
  have hj2:j<p.size:=by simpa using XZ
  simp only[Array.getD,Om,hj2,dif_pos] at e;exact(List.getElem_inj (h₀:=Rp) (h₁:=XZ) nd).mp (by rw[Array.getElem_toList,Array.getElem_toList];exact e)
theorem bp.rev(h:bp n p):bp n (kas_rev p i j):=⟨(mirror_perm _ _ _ _).trans h.perm⟩
theorem bp.bub(h:bp n p):bp n (bubble p i j):=⟨(bubble_perm _ _ _).trans h.perm⟩
theorem bp.id(n:Nat):bp n (List.toArray (List.range n)):=⟨Array.Perm.refl _⟩
theorem uM{q:Array Nat}(h:p[i]?=q[j]?):p.getD i 0=q.getD j 0:=by rw[Array.getD_eq_getD_getElem?,Array.getD_eq_getD_getElem?,h]
theorem JV(hj:j≤p.size)(k:Nat):(kas_rev p i j).getD k 0=if i≤k∧k<j then p.getD (i+j-1-k) 0 else p.getD k 0:=by
  have e:=getElem?_mirror_all (xs:=p) (i:=i) hj k;unfold kas_rev;by_cases h:i≤k∧k<j
  ·rw[az h] at e⊢;exact uM e
  ·rw[bh h] at e⊢;exact uM e
theorem JW{src d:Nat}(hs:src<p.size)(hd:d≤src)(k:Nat):(bubble p src d).getD k 0=if k=src-d then p.getD src 0 else if src-d<k∧k≤src then p.getD (k-1) 0 else p.getD k 0:=by
  have e:=getElem?_bubble hs d hd k;by_cases h1:k=src-d
  ·rw[az h1] at e⊢;exact uM e
  · rw[bh h1] at e⊢;by_cases h2:src-d<k∧k≤src
    ·rw[az h2] at e⊢;exact uM e
    ·rw[bh h2] at e⊢;exact uM e
structure lZ (n:Nat) (lt:Nat→Nat→Bool):Prop where
  tr:∀i j k,i<n→j<n→k<n→lt i j=true→lt j k=true→lt i k=true
  Zb:∀i j,i<n→j<n→i≠j→lt i j=false→lt j i=true
def Up(lt:Nat→Nat→Bool)(p:Array Nat)(k:Nat):Prop:=∀i j,i<j→j<k→lt (p.getD i 0) (p.getD j 0)=true
def Down(lt:Nat→Nat→Bool)(p:Array Nat)(k:Nat):Prop:=∀i j,i<j→j<k→lt (p.getD j 0) (p.getD i 0)=true
section
variable {n:Nat} {lt:Nat→Nat→Bool} {p:Array Nat}
theorem Up.snoc(S:lZ n lt)(P:bp n p)(hk:1≤k)(hkn:k<n)(h:Up lt p k)(e:lt (p.getD (k-1) 0) (p.getD k 0)=true):Up lt p (k+1):=fun i j wA hj=>by
  have l:=P.lt (by omega:0<n);by_cases Rq:j<k
  ·exact h i j wA Rq
  · have ej:j=k:=by omega
    subst ej;by_cases hi:i=j-1
    ·rw[hi];exact e
    ·exact S.tr _ _ _ (l _) (l _) (l _) (h i (j-1) (by omega) (by omega)) e
theorem Down.snoc(S:lZ n lt)(P:bp n p)(hk:1≤k)(hkn:k<n)(h:Down lt p k)(e:lt (p.getD k 0) (p.getD (k-1) 0)=true):Down lt p (k+1):=fun i j wA hj=>by
  have l:=P.lt (by omega:0<n);by_cases Rq:j<k
  ·exact h i j wA Rq
  · have ej:j=k:=by omega
    subst ej;by_cases hi:i=j-1
    ·rw[hi];exact e
    ·exact S.tr _ _ _ (l _) (l _) (l _) e (h i (j-1) (by omega) (by omega))
theorem HG(S:lZ n lt)(P:bp n p):∀(f k:Nat),1≤k→k+f=n→Up lt p k→k≤fU lt (kas_asc p f k)∧fU lt (kas_asc p f k)≤n∧Up lt p (fU lt (kas_asc p f k))∧(fU lt (kas_asc p f k)<n→lt (p.getD (fU lt (kas_asc p f k)) 0) (p.getD (fU lt (kas_asc p f k)-1) 0)=true)
  |0,k,h1,h2,h=>⟨cu _,by show k≤n;omega,h,fun z=>absurd (show k<n from z) (by omega)⟩
  |f+1,k,h1,h2,h=>by
   show k≤fU lt (if lt (p.getD k 0) (p.getD (k-1) 0)=true then _ else _)∧_;by_cases c:lt (p.getD k 0) (p.getD (k-1) 0)=true
   · simp only[kas_asc,fU,c,gx];refine⟨cu _,by omega,h,fun _=>?_⟩
     first|exact c|trivial
   · have c':lt (p.getD k 0) (p.getD (k-1) 0)=false:=by simpa using c
     have l:=P.lt (by omega:0<n);have e:lt (p.getD (k-1) 0) (p.getD k 0)=true:=S.Zb _ _ (l _) (l _) (fun z=>by have:=P.inj (by omega) (by omega) z;omega) c';have ih:=HG S P f (k+1) (by omega) (by omega) (h.snoc S P h1 (by omega) e);simp only[kas_asc,fU,c',yK,pD];exact⟨by omega,ih.2⟩
theorem JX(S:lZ n lt)(P:bp n p):∀(f k:Nat),1≤k→k+f=n→Down lt p k→∃m,fU lt (kas_desc f p k 0)=(p,m,0)∧k≤m∧m≤n∧Down lt p m
  |0,k,h1,h2,h=>⟨k,rfl,cu _,by omega,h⟩
  |f+1,k,h1,h2,h=>by
   have l:=P.lt (by omega:0<n);by_cases c:lt (p.getD k 0) (p.getD (k-1) 0)=true
   ·obtain⟨m,e,h3,h4,h5⟩:=JX S P f (k+1) (by omega) (by omega) (h.snoc S P h1 (by omega) c);refine⟨m,?_,by omega,h4,h5⟩;simp only[kas_desc,fU,c,gx,Nat.lt_irrefl,gt_iff_lt,pD];exact e
   · have c':lt (p.getD k 0) (p.getD (k-1) 0)=false:=by simpa using c
     have e:lt (p.getD (k-1) 0) (p.getD k 0)=true:=S.Zb _ _ (l _) (l _) (fun z=>by have:=P.inj (by omega) (by omega) z;omega) c';refine⟨k,?_,cu _,by omega,h⟩;simp only[kas_desc,fU,c',yK,pD,e,gx]
theorem Down.rev(P:bp n p)(hk:k≤n)(h:Down lt p k):Up lt (kas_rev p 0 k) k:=fun i j wA hj=>by
  have hz:k≤p.size:=by rw[P.size];exact hk
  rw[JV hz,JV hz,az (by omega),az (by omega)];exact h _ _ (by omega) (by omega)
theorem Oo(S:lZ n lt)(P:bp n p)(h2:2≤n):∃m q,fU lt (kas_count n p)=(m,q)∧1≤m∧m≤n∧bp n q∧Up lt q m:=by
  have l:=P.lt (by omega:0<n);have a:=HG S P (n-1) 1 (cu _) (by omega) (fun i j wA hj=>by omega);unfold kas_count;rw[nu];generalize hm:fU lt (kas_asc p (n-1) 1)=m at a;obtain⟨a1,a2,a3,a4⟩:=a;by_cases hn:m=n
  ·subst hn;refine⟨m,p,?_,by omega,cu _,P,a3⟩;simp[fU]
  · have hb:(m==n)=false:=by simpa using hn
    simp only[hb,yK,pD];by_cases h1:m>1
    ·have e:=a3 0 (m-1) (by omega) (by omega);refine⟨m,p,?_,by omega,a2,P,a3⟩;simp only[h1,gx,fU,e]
    · have em:m=1:=by omega
      subst em;simp only[gt_iff_lt,Nat.lt_irrefl,pD];have d0:Down lt p 2:=fun i j wA hj=>by
        have ei:i=0:=by omega
        have ej:j=1:=by omega
        subst ei ej;exact a4 (by omega)
      obtain⟨m,e,h3,h4,h5⟩:=JX S P (n-2) 2 (by omega) (by omega) d0;unfold kas_descPart;rw[nu];have e':fU lt (kas_desc (n-(1+1)) p (1+1) 0)=(p,m,0):=e;rw[e'];simp only[gt_iff_lt,Nat.lt_irrefl,pD];unfold kas_tail3;rw[nu];have P':bp n (kas_rev p 0 m):=P.rev;have b:=HG S P' (n-m) m (by omega) (by omega) (h5.rev P h4);exact⟨_,_,rfl,by show 1≤fU lt (kas_asc (kas_rev p 0 m) (n-m) m);omega,b.2.1,P',b.2.2.1⟩
theorem yX(S:lZ n lt)(P:bp n p){k:Nat}(hk:k<n)(hU:Up lt p k):∀(f a b:Nat),a≤b→b≤k→b-a≤f→(∀i,i<a→lt (p.getD i 0) (p.getD k 0)=true)→(∀i,b≤i→i<k→lt (p.getD k 0) (p.getD i 0)=true)→fU lt (kas_place p k f a b)≤k∧(∀i,i<fU lt (kas_place p k f a b)→lt (p.getD i 0) (p.getD k 0)=true)∧(∀i,fU lt (kas_place p k f a b)≤i→i<k→lt (p.getD k 0) (p.getD i 0)=true)
  |0,a,b,uN,hbk,hf,hl,hh=>by
   have e:a=b:=by omega
   subst e;exact⟨hbk,hl,hh⟩
  |f+1,a,b,uN,hbk,hf,hl,hh=>by
   have l:=P.lt (by omega:0<n);by_cases Zd:a≥b
   · have e:a=b:=by omega
     subst e;simp only[kas_place,ge_iff_le,cu,gx,fU];exact⟨hbk,hl,hh⟩
   · have jL:a<b:=by omega
     by_cases c:lt (p.getD k 0) (p.getD ((a+b) / 2) 0)=true
     · have ih:=yX S P hk hU f a ((a+b) / 2) (by omega) (by omega) (by omega) hl (fun i h1 h2=>by
         by_cases e:i=(a+b) / 2
         ·rw[e];exact c
         ·exact S.tr _ _ _ (l _) (l _) (l _) c (hU _ _ (by omega) h2))
       simp only[kas_place,Zd,pD,fU,c,gx];exact ih
     · have c':lt (p.getD k 0) (p.getD ((a+b) / 2) 0)=false:=by simpa using c
       have e:lt (p.getD ((a+b) / 2) 0) (p.getD k 0)=true:=S.Zb _ _ (l _) (l _) (fun z=>by have:=P.inj (by omega) (by omega) z;omega) c';have ih:=yX S P hk hU f ((a+b) / 2+1) b (by omega) hbk (by omega) (fun i h1=>by
         by_cases e':i=(a+b) / 2
         ·rw[e'];exact e
         ·exact S.tr _ _ _ (l _) (l _) (l _) (hU i ((a+b) / 2) (by omega) (by omega)) e) hh
       simp only[kas_place,Zd,pD,fU,c',yK];exact ih
theorem Oq(S:lZ n lt):∀(f:Nat) (p:Array Nat) (k:Nat),bp n p→k+f=n→Up lt p k→bp n (fU lt (kas_bin f p k))∧Up lt (fU lt (kas_bin f p k)) n
  |0,p,k,P,e,h=>by
   have ek:k=n:=by omega
   subst ek;exact⟨P,h⟩
  |f+1,p,k,P,e,h=>by
   have hk:k<n:=by omega
   obtain⟨h1,h2,h3⟩:=yX S P hk h k 0 k (by omega) (cu _) (by omega) (fun i hi=>by omega) (fun i h1 h2=>by omega);show bp n (fU lt ((kas_place p k k 0 k).bind _))∧Up lt (fU lt ((kas_place p k k 0 k).bind _)) n;rw[nu];generalize fU lt (kas_place p k k 0 k)=l at h1 h2 h3;refine Oq S f (bubble p k (k-l)) (k+1) P.bub (by omega) fun i j wA hj=>?_;have hs:k<p.size:=by rw[P.size];exact hk
   rw[JW hs (by omega),JW hs (by omega),show k-(k-l)=l by omega];by_cases c1:i=l
   ·rw[az c1,bh (show ¬ j=l by omega),az (show l<j∧j≤k by omega)];exact h3 _ (by omega) (by omega)
   · rw[bh c1];by_cases c2:l<i∧i≤k
     ·rw[az c2,bh (show ¬ j=l by omega),az (show l<j∧j≤k by omega)];exact h _ _ (by omega) (by omega)
     · rw[bh c2];by_cases c3:j=l
       ·rw[az c3];exact h2 _ (by omega)
       · rw[bh c3];by_cases c4:l<j∧j≤k
         ·rw[az c4];exact h _ _ (by omega) (by omega)
         ·rw[bh c4];exact h _ _ (by omega) (by omega)
theorem JY(S:lZ n lt)(h2:2≤n):bp n (fU lt (kas_sort n))∧Up lt (fU lt (kas_sort n)) n:=by
  obtain⟨m,q,e,h1,h3,P,U⟩:=Oo S (bp.id n) h2;unfold kas_sort;rw[nu,e];by_cases hm:m<n
  · simp only[hm,gx];have em:max m 1=m:=by omega
    rw[em];exact Oq S (n-m) q m P (by omega) U
  · simp only[hm,pD,fU];have em:m=n:=by omega
    subst em;exact⟨P,U⟩
end
section
variable {n:Nat}
theorem DF{p:Array Nat}(hn:0<n)(P:bp n p):∀(f k:Nat),pF n (fun _=>True) (kas_asc p f k)
  |0,_=>True.intro
  |f+1,k=>⟨P.lt hn _,P.lt hn _,fun b=>by
   cases b with
   |true=>exact True.intro
   |false=>exact DF hn P f (k+1)⟩
theorem uO(hn:0<n):∀(f:Nat) (p:Array Nat) (k q:Nat),bp n p→pF n (fun r=>bp n r.1) (kas_desc f p k q)
  |0,_,_,_,P=>P
  |f+1,p,k,q,P=>⟨P.lt hn _,P.lt hn _,fun b=>by
   cases b with
   |true =>
    simp only[gx];split
    ·exact uO hn f _ _ _ P.rev
    ·exact uO hn f _ _ _ P
   |false =>
    simp only[yK,pD];refine⟨P.lt hn _,P.lt hn _,fun d=>?_⟩;cases d with
    |true=>exact P
    |false=>exact uO hn f _ _ _ P⟩
theorem FX(hn:0<n)(P:bp n p)(k m:Nat):pF n (fun r=>bp n r.2) (kas_tail3 k m p):=by unfold kas_tail3;exact pF.bind (DF hn (P.rev (i:=0) (j:=k)) _ _) fun a _=>(P.rev (i:=0) (j:=k))
theorem FY(hn:0<n)(P:bp n p)(k m:Nat):pF n (fun r=>bp n r.2) (kas_descPart k m p):=by
  unfold kas_descPart;refine pF.bind (uO hn _ _ _ _ P) fun r hr=>?_;split
  ·exact FX hn hr.rev _ _
  ·exact FX hn hr _ _
theorem LZ(hn:0<n)(P:bp n p)(m:Nat):pF n (fun r=>bp n r.2) (kas_count m p):=by
  unfold kas_count;refine pF.bind (DF hn P _ _) fun r _=>?_;split
  ·exact P
  · split
    · refine⟨P.lt hn _,P.lt hn _,fun b=>?_⟩;cases b with
      |true=>exact P
      |false=>exact FY hn P.rev _ _
    ·exact FY hn P _ _
theorem wB{p:Array Nat}(hn:0<n)(P:bp n p)(k:Nat):∀(f a b:Nat),pF n (fun _=>True) (kas_place p k f a b)
  |0,_,_=>True.intro
  |f+1,a,b=>by
   unfold kas_place;split
   ·exact True.intro
   · refine⟨P.lt hn _,P.lt hn _,fun c=>?_⟩;cases c with
     |true=>exact wB hn P k f _ _
     |false=>exact wB hn P k f _ _
theorem JZ(hn:0<n):∀(f:Nat) (p:Array Nat) (k:Nat),bp n p→pF n (bp n) (kas_bin f p k)
  |0,_,_,P=>P
  |f+1,p,k,P=>pF.bind (wB hn P k _ _ _) fun l _=>JZ hn f _ _ P.bub
theorem FZ(hn:0<n):pF n (bp n) (kas_sort n):=by
  unfold kas_sort;refine pF.bind (LZ hn (bp.id n) n) fun r hr=>?_;split
  ·exact JZ hn _ _ _ hr
  ·exact hr
end
end Sj
namespace L2
open PySem
def yc(h:Heap)(d:Addr)(es:Array DictEntry)(ep:Nat):Prop:=∃o,h.get? d=some o∧o.ExactDict∧o.data=.dict es ep
section
variable {prog:Program} {w:World} {A:Around} {E:lr} {s:Shared}
theorem qz{d:Addr}{es:Array DictEntry}{ep:Nat}(hd:(d==sysModules)=false)(hm:yc s.heap d es ep)(hQ:Q (.ref s.heap.objs.size) { s with heap:=s.heap.push { cls:=.type "dict_keyiterator",data:=.fields #[.ref d,.int 0 0,.int es.size 0,.int ep 0] } }):wpAny (model prog w) A (pyIter (.ref d)) Q E s:=by
  have Wo:=hm;obtain⟨o,ho,hc,hq⟩:=Wo;have hT:s.TypeIs (.ref d) "dict":=⟨o,ho,hc.1⟩
  have pW:∀{R:Unit→Shared→Prop} {F:lr},R () s→wpAny (model prog w) A.in1 (Builtin.Dict.showsAll d) R F s:=fun r=>by unfold Builtin.Dict.showsAll;rw[hd];exact bj r
  refine wpAny_pyIter_slot hT F.slot_dict_iter (x5 F.slot_dict_iter hT F.entry_dict_iter ?_ (F.args_dict_iter_1 _));refine bA (bA (wpAny_notOrdered_dict hT (bj ?_)));refine bA (bj (bA (pW (bA (wpAny_dictEntries ho hq (bA (wpAny_dictEpoch ho hq ?_)))))));exact bA (wpAny_newObj_type (bj ⟨_,rfl,_,_,⟨_,il _ rfl,rfl⟩,F.slot_dict_keyiterator_next.lookup,by simpa[rawInt] using hQ⟩))
theorem lN{it d:Addr}{ep:Nat}{es:Array DictEntry}{Q:mR→Shared→Prop}(hit:s.heap.IsKeyIter it d i es.size ep)(hm:yc s.heap d es ep)(jL:i<es.size)(hQ:∀h',h'.IsKeyIter it d (i+1) es.size ep→Heap.SameBut it s.heap h'→Q (some es[i].key) { s with heap:=h' }):wpAny (model prog w) A (pyNext (.ref it)) Q E s:=by
  have hT:=hit.typeIs;have L0:=hit;have Wo:=hm;obtain⟨o,ho,hc,hd⟩:=L0;obtain⟨od,Ze,ow,Zf⟩:=Wo;refine bA (wpAny_attempt (wpAny_callSpecial?_slot hT F.slot_dict_keyiterator_next (x5 F.slot_dict_keyiterator_next hT F.entry_dict_keyiterator_next ?_ (F.args_dict_keyiterator_next_1 _))));unfold Builtin.«dict_keyiterator.__next__»
  wp_walk using wpAny_typeNameOfWhole_keyiter hT,wpAny_fieldsOf ho hd,wpAny_dictEntries Ze Zf,wpAny_dictEpoch Ze Zf
  rw[show(if (i:Int)<0 then none else es[(i:Int).toNat]?)=some es[i] by rw[bh (by omega),Int.toNat_natCast,A8 jL]];refine bA (bA (wpAny_typeNameOfWhole_keyiter hT (bj (bA (wpAny_isOneOf_keyiter hT (bA ?_))))));have up:∀(f:Obj→Obj),f=Obj.mapFields (·.setIfInBounds 1 (rawInt ((i:Int)+1)))→(s.heap.update it f).IsKeyIter it d (i+1) es.size ep:=fun f e=>by subst e;exact⟨_,Ba _ ho (Obj.isFreed_of_fields (Obj.data_mapFields hd _)),(Obj.cls_mapFields ..).trans hc,(Obj.data_mapFields hd _).trans (by simp[rawInt])⟩
  refine wpAny_setField (i:=1) (x:=rawInt ((i:Int)+1)) ho hd (by simp) (bA (wm ?_));have hT1:=(up _ rfl).typeIs (s:={ s with heap:=s.heap.update it (Obj.mapFields (·.setIfInBounds 1 (rawInt ((i:Int)+1)))) });exact bA (wpAny_isOneOf_keyiter hT1 (bj (bj ⟨_,rfl,bj (hQ _ (up _ rfl) (wc ..))⟩)))
theorem mS{it d:Addr}{ep:Nat}{es:Array DictEntry}{Q:mR→Shared→Prop}(hh:A.handled=none)(hit:s.heap.IsKeyIter it d i es.size ep)(hm:yc s.heap d es ep)(hx:es.size≤i)(hQ:∀h',Heap.ExtBut it s.heap h'→Q none { s with heap:=h' }):wpAny (model prog w) A (pyNext (.ref it)) Q E s:=by
  have hT:=hit.typeIs;have Wo:=hm;obtain⟨o,ho,hc,hd⟩:=hit;obtain⟨od,Ze,ow,Zf⟩:=Wo;refine bA (wpAny_attempt (wpAny_callSpecial?_slot hT F.slot_dict_keyiterator_next (x5 F.slot_dict_keyiterator_next hT F.entry_dict_keyiterator_next ?_ (F.args_dict_keyiterator_next_1 _))));unfold Builtin.«dict_keyiterator.__next__»
  wp_walk using wpAny_typeNameOfWhole_keyiter hT,wpAny_fieldsOf ho hd,wpAny_dictEntries Ze Zf,wpAny_dictEpoch Ze Zf
  rw[show(if (i:Int)<0 then none else es[(i:Int).toNat]?)=none by rw[bh (by omega),Int.toNat_natCast,Array.getElem?_eq_none hx]];refine bA (bA (wpAny_typeNameOfWhole_keyiter hT (bj (bA (wpAny_setField (i:=0) (x:=.none) ho hd (by simp) ?_)))));have s1:=wc s.heap it (Obj.mapFields (·.setIfInBounds 0 Value.none))
  wp_walk
  unfold raiseNew;have hh1:A.in1.handled=none:=by simpa using hh
  refine bA (wpAny_handled ?_);rw[hh1];refine bA (bj (wpAny_throw ?_));refine bA (wpAny_isInstance ⟨_,il _ rfl,rfl⟩ isSubtype_stop (bj (hQ _ fun b o n e=>?_)));exact kz _ (kz _ (s1.extBut b o n e))
theorem Bp{d:Addr}(hd:(d==sysModules)=false):MeetsIn prog w (Builtin.«dict.__len__» ⟨[.ref d],[]⟩) (fun _ R s=>∃es ep,yc s.heap d es ep∧R (.ok (.ret (.int es.size s.toks))) { s with toks:=s.toks+1 }) :=
  .of_wp fun A R s ⟨es,ep,hm,h⟩=>by obtain⟨o,ho,hc,hq⟩:=hm;refine bA (bA (wpAny_notOrdered_dict ⟨o,ho,hc.1⟩ (bj ?_)));exact bA (bj (bA (bA (wpAny_dictEntries ho hq (bj (bA (wpAny_pendingCount_other hd (wpAny_ret_mkInt h))))))))
theorem Sn{d:Addr}{es:Array DictEntry}{ep:Nat}(hd:(d==sysModules)=false)(hm:yc s.heap d es ep)(qX:(es.size:Int)<2^63)(h:Q (.int es.size (s.toks+1)) { s with toks:=s.toks+1+1 }):wpAny (model prog w) A (call (.builtin "len") [.ref d]) Q E s:=by
  have Wo:=hm;obtain⟨o,ho,hc,hq⟩:=Wo;have hT:s.TypeIs (.ref d) "dict":=⟨o,ho,hc.1⟩
  have lo:¬ ((es.size:Int)<0):=by omega
  have hi:¬ ((es.size:Int)≥2^63):=by omega
  refine Calls.call_function_entry kind_len plain_len entry_len (args_len1 _) (bA (bj (bA ?_)));refine wpAny_callSpecial?_slot hT F.slot_dict_len (call_meetsIn F.slot_dict_len hT F.entry_dict_len (F.args_dict_len_1 _) (Bp hd) ⟨es,ep,hm,?_⟩);refine bA (wm (bj (bA (wpAny_letGo ?_))));simp only[lo,hi,pD];exact bA (wpAny_mkInt (bj ⟨_,rfl,h⟩))
end
end L2
namespace L2
open PySem PySem.Spec PyProof.Rows
section
variable {X:Cx} {pins:kH} {σ:St} {H:Hp} {s:Shared}
theorem Inv.freeze{d:Addr}(I:Inv X pins σ H s)(h:H d=some (.dT aX)):∃o,s.heap.get? d=some o∧Inv X pins σ (upd H d (.ua o (.dT aX))) s:=by
  obtain⟨z,y,xs,r,o,es,ep,h1,h2,h3,h4,h5⟩:=(show cy X.prog X.w H s.heap d (.dT aX) from I.cY d _ h)
  refine⟨o,h1,⟨I.ok,I.os,I.bare,⟨I.base.keep,I.base.slot,fun b u e n hx=>?_,I.base.there,fun b xs e=>?_,fun b u xs e=>?_,fun b ps e=>?_⟩,I.loc,I.cell,?_,fun x c e=>?_,fun p hp=>?_,fun b u e=>?_,I.len⟩⟩
  ·have q:=I.base.free b u e n hx;rw[aK (fun z=>by rw[z,h] at q;cases q)];exact q
  ·have q:=I.base.qH b xs e;rw[aK (yM q h (fun z=>nomatch z))];exact q
  ·have q:=I.base.wq b u xs e;rw[aK (yM q h (fun z=>nomatch z))];exact q
  ·obtain⟨m,q⟩:=I.base.wt b ps e;exact⟨m,by rw[aK (yM q h (fun z=>nomatch z))];exact q⟩
  ·have q:=I.free;rw[aK (fun z=>by rw[z,h] at q;cases q)];exact q
  ·have q:=I.jW x c e;rw[aK (fun z=>by rw[z,h] at q;cases q)];exact q
  ·obtain⟨e,n,rr⟩:=I.pin p hp;exact⟨e,by rw[aK (fun z=>by rw[z,h] at n;cases n)];exact n,rr⟩
  · have ho:∀c,H c=some (.own b)→upd H d (.ua o (.dT aX)) c=some (.own b):=fun c q=>by
      rw[aK (yM q h (fun z=>nomatch z))];exact q
    have ht:∀c ys,H c=some (.tup ys)→upd H d (.ua o (.dT aX)) c=some (.tup ys):=fun c ys q=>by rw[aK (yM q h (fun z=>nomatch z))];exact q
    by_cases hb:b=d
    ·subst hb;rw[aL] at e;cases e;exact⟨h1,(I.cY b _ h).pW (fun _ _ _ q=>q) ho ht⟩
    ·rw[aK hb] at e;exact(I.cY b u e).pW (fun _ _ _ q=>q) ho ht
end
def Itd(d:Addr)(o:Obj)(aX:List (List Key×V)):It :=
  ⟨fun i H=>H d=some (.ua o (.dT aX))∧i<aX.length,fun i H x H'=>H'=H∧∃k v b,aX[i]?=some (k,v)∧x=.ref b∧H b=some (.tup (k.map kV)),fun i H=>H d=some (.ua o (.dT aX))∧aX.length≤i⟩
theorem sF{α β:Type}{F:α→β→Prop}:∀{l:List α} {m:List β} {i:Nat} {x:α},Paired F l m→l[i]?=some x→∃y,m[i]?=some y∧F x y
  |_,_,_,_,.nil,e=>by simp at e
  |_,_,0,_,.cons r _,e=>by simp at e;subst e;exact⟨_,rfl,r⟩
  |_,_,i+1,x,.cons _ t,e=>by obtain⟨y,h1,h2⟩:=sF (i:=i) (x:=x) t (by simpa using e);exact⟨y,by simpa using h1,h2⟩
theorem L1{K:PySem.W.Frag}(d it:Addr)(o:Obj)(aX:List (List Key×V))(es:Array DictEntry)(ep:Nat)(hx:o.ExactDict)(hd:o.data=.dict es ep)(hn:es.size=aX.length) :
    Turn P w K (.Name x px) (Itd d o aX) [it] it (fun i h=>h.IsKeyIter it d i es.size ep) where
  mem:=by simp
  obj:=fun i h st b hb=>by
    have e:b=it:=by simpa using hb
    subst e;obtain⟨o,e,c,dd⟩:=st;exact⟨o,e,fun v z=>by rw[dd] at z;cases z⟩
  keep:=fun i h h' st k=>by obtain⟨o,e,r⟩:=st;exact⟨o,k it (by simp) o e,r⟩
  item:=by
    intro X hP hw hK hc i pins s σ H E I hf st hg;subst hP hw hK;obtain⟨hH,hi⟩:=hg;obtain⟨g1,z,y,xs,r,o',es',ep',h1,h2,h3,h4,h5⟩:=(show cy X.prog X.w H s.heap d (.ua o (.dT aX)) from I.cY d _ hH)
    rw[g1] at h1;cases h1;rw[hd] at h3;injection h3 with e1 e2;subst e1 e2;obtain⟨f0,f1,f2,f3,f4,f5⟩:=hf it (by simp);refine lN st ⟨o,g1,hx,hd⟩ (by omega) fun h' st' sb=>?_;have I1:Inv X pins σ H { s with heap:=h' }:=I.turned (t':=s.toks) (fun b o hb e=>(sb.2 b hb).trans e) f0 f1 f3 f4 f5;obtain⟨q,hq,hk⟩:=sF (i:=i) (x:=aX[i]) r (by simp[hi]);have UI:es[i]'(by omega)=entryOfKey (tupleKind (fe X.prog X.w)) q:=by
      have e3:es.toList[i]?=some (entryOfKey (tupleKind (fe X.prog X.w)) q):=by rw[h4,qG,hq];rfl
      rw[Array.getElem?_toList,A8 (by omega)] at e3;exact oq e3
    refine⟨_,rfl,?_⟩;have go:∀(u:Value) (Q:Unit→Shared→Prop),Q () { s with heap:=h' }→wpAny (model X.prog X.w) X.A (letOwnedTupleGo (.Name x px) (.ref it) u) Q E { s with heap:=h' }:=fun u Q hq=>bj hq;refine go _ _ ⟨.ref q.2.1,H,I1,?_,⟨rfl,aX[i].1,aX[i].2,q.2.1,by simp[hi],rfl,hk.2.1⟩,st',fun b hb=>(hf b hb).1⟩;rw[UI];rfl
  done:=by
    intro X hP hw hK hc i pins s σ H E I hf st hg;subst hP hw hK;obtain⟨hH,hi⟩:=hg;obtain⟨g1,_⟩:=(show cy X.prog X.w H s.heap d (.ua o (.dT aX)) from I.cY d _ hH)
    obtain⟨f0,f1,f2,f3,f4,f5⟩:=hf it (by simp);exact mS (I.ok.hd hc) st ⟨o,g1,hx,hd⟩ (by omega) fun h' eb=>⟨rfl,I.turned (t':=s.toks) (fun b o hb e=>eb b o hb e) f0 f1 f3 f4 f5⟩
  self:=fun _ _ _ _ _ st h=>wpAny_pyIter_keyiter st h
section
variable {X:Cx}
theorem L3:qx X (.builtin "len") (fun xs H Q=>∃a aX,xs=[V.ref a]∧Rd H a (.dT aX)∧Q (.int aX.length) H):=by
  intro pins s σ H xs us Q I r h;obtain⟨a,aX,rfl,ha,q⟩:=h;obtain⟨u,rfl,ru⟩:=vals1 r;cases ru;obtain⟨z,y,xs,r,o,es,ep,h1,h2,h3,h4,h5⟩:=(show cy X.prog X.w H s.heap a (.dT aX) from ha.ok I.cY)
  have hn:es.size=aX.length:=by have e1:=g6 List.length h4;rw[g9,oo] at e1;rw[e1,wo r]
  refine Sn y ⟨o,h1,h2,h3⟩ (by rw[hn];have:=Du;omega) ?_;rw[hn];exact⟨.int aX.length,H,I.tok _,⟨_,rfl⟩,q⟩
end
end L2
namespace L2
open PySem PySem.Spec PyProof.Rows PySem.W Sj
section
variable {prog:Program} {w:World} {A:Around} {E:lr} {s:Shared}
theorem HJ(vs:ef)(h:vs.length<2):((vs.toArray.zip vs.toArray).map (·.2)).toList=(List.toArray ((List.range vs.length).toArray.toList.map fun i=>vs.getD i Value.none)).toList:=by
  cases vs with
  |nil=>simp
  |cons v t =>
   cases t with
   |nil=>simp
   |cons _ _=>simp only[mW] at h;omega
theorem HK{P:PySem.Fin→Shared→Prop}{Good:ef→Prop}(ho:s.heap.get? a=some (seqObj "list" vs.toArray n))(tE:vs.length<64)(core:∀h':Heap,(∀b o,b≠a→s.heap.get? b=some o→h'.get? b=some o)→∀R:Unit×SortSt→Shared→Prop,(∀st out,(arrOf st).map (·.2)=List.toArray out→out.length=vs.length→failedOf st=none→Good out→R ((),st) { s with heap:=h' })→wpAny (model prog w) A (if vs.toArray.size<2 then pure general' else keyKind' vs.toArray) (fun k s'=>wpAny (model prog w) A (StateT.run (if vs.toArray.size<2 then pure () else sortRuns') (SortSt.mk' k (vs.toArray.zip vs.toArray) #[] 7 none)) R E s') E { s with heap:=h' })(fin:∀out,Good out→P (.done (.ret .none)) { s with heap:=sortedHeap s.heap a vs (List.toArray out) }):wpAny (model prog w) A (Builtin.«list.sort» ⟨[.ref a],[]⟩) P E s:=by
  have em:=get?_update_seq ho fun _=>(#[]:Array Value)
  have em2:=kz (seqObj "list" #[] 0) (kz (seqObj "tuple" vs.toArray 0) em);rw[list_sort_plain];refine bA (listItems_at ho rfl (bA (listUpdate_at ho rfl (bA (seqEpoch_at em rfl (bA (wpAny_newTuple (bA (wpAny_newList (wm ?_))))))))));have dist:∀{α β:Type} (c:Prop) [Decidable c] (x y:Sem α) (f:α→Sem β),(if c then x>>=f else y>>=f)=(if c then x else y)>>=f:=fun c _ x y f=>by split<;>rfl
  dsimp only;rw[dist];refine bA (pV (core _ (fun b o n e=>kz _ (kz _ ((Heap.get?_update_ne _ _ _ _ n).trans e))) _ fun st out so lo fo g=>?_) (fun k s' r=>bA r) fun _ _ e=>e);refine bA (seqEpoch_at em2 rfl (bA (listUpdate_at em2 rfl ?_ (qQ _) ?_)))
  ·dsimp only;rw[fo,so,bne_self_eq_false];exact bj (fin out g)
  ·rw[so,kC,lo,kD];omega
theorem L4{lt:Nat→Nat→Bool}{R:Unit×SortSt→Shared→Prop}(tE:vs.length<64)(hk:2≤vs.length→∀Q:SortKind→Shared→Prop,Q κ s→wpAny (model prog w) A (keyKind' vs.toArray) Q E s)(jL:∀i j (C:Bool→Shared→Prop),i<vs.length→j<vs.length→C (lt i j) s→wpAny (model prog w) A (keyLt' κ (vs.getD i Value.none) (vs.getD j Value.none)) C (fun _ _=>False) s)(few:vs.length<2→W (List.range vs.length).toArray)(many:2≤vs.length→W (fU lt (kas_sort vs.length)))(hR:∀st p,bp vs.length p→W p→(arrOf st).map (·.2)=List.toArray (p.toList.map fun i=>vs.getD i Value.none)→failedOf st=none→R ((),st) s):wpAny (model prog w) A (if vs.toArray.size<2 then pure general' else keyKind' vs.toArray) (fun k s'=>wpAny (model prog w) A (StateT.run (if vs.toArray.size<2 then pure () else sortRuns') (SortSt.mk' k (vs.toArray.zip vs.toArray) #[] 7 none)) R E s') E s:=by
  rcases Nat.lt_or_ge vs.length 2 with l|l
  ·have l':vs.toArray.size<2:=l;simp only[l',gx];exact bj (bj (hR _ _ (bp.id _) (few l) (Array.toList_inj.mp (HJ vs l)) rfl))
  · have l':¬ vs.toArray.size<2:=Nat.not_lt.mpr l;simp only[l',pD];refine hk l _ (pV (kat_run (ks:=vs) (G:=fun p s'=>bp vs.length p∧W p∧s'=s) (Q:=fun st s'=>R ((),st) s') rfl l tE (fun p st s' _ e f g=>?_) (Ol (S:=fun s'=>s'=s) (lt:=lt) (n:=vs.length) (P:=bp vs.length) (fun i j C s' hi hj e hc=>?_) _ _ (FZ (by omega)) rfl fun s' e q=>⟨q,many l,e⟩)) (fun _ _ r=>r) fun _ _ e=>e)
    ·obtain⟨g1,g2,rfl⟩:=g;exact hR st p g1 g2 (kat_snds rfl e) f
    ·subst e;exact jL i j C hi hj (hc _ rfl)
theorem DH{P:PySem.Fin→Shared→Prop}{lt:Nat→Nat→Bool}(ho:s.heap.get? a=some (seqObj "list" vs.toArray n))(tE:vs.length<64)(hk:2≤vs.length→∀(h':Heap),(∀b o,b≠a→s.heap.get? b=some o→h'.get? b=some o)→∀Q:SortKind→Shared→Prop,Q κ { s with heap:=h' }→wpAny (model prog w) A (keyKind' vs.toArray) Q E { s with heap:=h' })(jL:∀(h':Heap),(∀b o,b≠a→s.heap.get? b=some o→h'.get? b=some o)→∀i j (C:Bool→Shared→Prop),i<vs.length→j<vs.length→C (lt i j) { s with heap:=h' }→wpAny (model prog w) A (keyLt' κ (vs.getD i Value.none) (vs.getD j Value.none)) C (fun _ _=>False) { s with heap:=h' })(few:vs.length<2→W (List.range vs.length).toArray)(many:2≤vs.length→W (fU lt (kas_sort vs.length)))(h:∀p:Array Nat,bp vs.length p→W p→P (.done (.ret .none)) { s with heap:=sortedHeap s.heap a vs (List.toArray (p.toList.map fun i=>vs.getD i Value.none)) }):wpAny (model prog w) A (Builtin.«list.sort» ⟨[.ref a],[]⟩) P E s :=
  HK (Good:=fun out=>∃p,bp vs.length p∧W p∧out=p.toList.map fun i=>vs.getD i Value.none) ho tE
    (fun h' kp R hR=>L4 (s:={ s with heap:=h' }) (κ:=κ) (lt:=lt) (W:=W) tE (fun l=>hk l h' kp) (jL h' kp) few many fun st p g1 g2 g3 g4=>hR st _ g3 (by rw[g9,oo];exact g1.size) g4 ⟨p,g1,g2,rfl⟩)
    (by rintro _ ⟨p,g1,g2,rfl⟩;exact h p g1 g2)
theorem DJ{l:Addr}{Good:Array Value→Prop}(tE:vs.length<64)(items:∀R:ef→Shared→Prop,R vs { s with heap:=(s.heap.push (seqObj "list" #[] 0)).update s.heap.objs.size (Obj.mapSeq (·++vs.toArray)) }→wpAny (model prog w) A.in1 (collect (.ref l)) R E s)(sorts:∀(s1:Shared) (a:Addr),s1.heap.get? a=some (seqObj "list" vs.toArray 0)→s1={ s with heap:=s1.heap }→(∀b o,s.heap.get? b=some o→b≠a∧s1.heap.get? b=some o)→∀P:PySem.Fin→Shared→Prop,(∀out,Good out→P (.done (.ret .none)) { s1 with heap:=sortedHeap s1.heap a vs out })→wpAny (model prog w) A.in1.in1 (Builtin.«list.sort» ⟨[.ref a],[]⟩) P (fun _ _=>False) s1)(h:∀out,Good out→Q (.ref (s.heap.objs.size+1)) { s with heap:=sortedAll s.heap vs out }):wpAny (model prog w) A (call (.builtin "sorted") [.ref l]) Q E s:=by
  refine Calls.call_function_entry kind_sorted plain_sorted entry_sorted (args_sorted1 _) (bA (bj (bA (items _ (bA (wpAny_newList ?_ (by rw[kD];omega)))))));have z:((s.heap.push (seqObj "list" #[] 0)).update s.heap.objs.size (Obj.mapSeq (·++vs.toArray))).objs.size=s.heap.objs.size+1:=(Heap.size_update ..).trans (size_push' ..);have new:=il ((s.heap.push (seqObj "list" #[] 0)).update s.heap.objs.size (Obj.mapSeq (·++vs.toArray))) (o:=seqObj "list" vs.toArray 0) rfl;dsimp only;rw[z] at new⊢;refine bA (wm (x5 slot_list_sort ⟨_,new,rfl⟩ entry_list_sort (pV (sorts _ _ new rfl (fun b o e=>?_) (fun f s'=>∃out,Good out∧f=.done (.ret .none)∧s'={ s with heap:=sortedAll s.heap vs out }) fun out g=>⟨out,g,rfl,rfl⟩) (fun f s' r=>?_) fun _ _ e=>e.elim) (args_list_sort _)))
  ·have lt:=dg e;exact⟨fT (Nat.lt_succ_of_lt lt),kz _ ((Heap.get?_update_ne _ _ _ _ (fT lt)).trans (kz _ e))⟩
  ·obtain⟨out,g,rfl,rfl⟩:=r;exact⟨_,rfl,bj ⟨_,rfl,h out g⟩⟩
theorem L5{l:Addr}{lt:Nat→Nat→Bool}(hl:s.heap.IsList l vs.toArray)(tE:vs.length<64)(hk:2≤vs.length→∀(h':Heap),(∀b o,s.heap.get? b=some o→h'.get? b=some o)→∀Q:SortKind→Shared→Prop,Q κ { s with heap:=h' }→wpAny (model prog w) A.in1.in1 (keyKind' vs.toArray) Q (fun _ _=>False) { s with heap:=h' })(jL:∀(h':Heap),(∀b o,s.heap.get? b=some o→h'.get? b=some o)→∀i j (C:Bool→Shared→Prop),i<vs.length→j<vs.length→C (lt i j) { s with heap:=h' }→wpAny (model prog w) A.in1.in1 (keyLt' κ (vs.getD i Value.none) (vs.getD j Value.none)) C (fun _ _=>False) { s with heap:=h' })(few:vs.length<2→W (List.range vs.length).toArray)(many:2≤vs.length→W (fU lt (kas_sort vs.length)))(h:∀p:Array Nat,bp vs.length p→W p→Q (.ref (s.heap.objs.size+1)) { s with heap:=sortedAll s.heap vs (List.toArray (p.toList.map fun i=>vs.getD i Value.none)) }):wpAny (model prog w) A (call (.builtin "sorted") [.ref l]) Q E s:=by
  refine DJ (Good:=fun out=>∃p:Array Nat,bp vs.length p∧W p∧out=List.toArray (p.toList.map fun i=>vs.getD i Value.none)) tE (fun R r=>collect_list hl r (by rw[kD];omega)) (fun s1 a ha e kp P hP=>?_) (by rintro _ ⟨p,g1,g2,rfl⟩;exact h p g1 g2);rw[e] at ha⊢;have up:∀h':Heap,(∀b o,b≠a→s1.heap.get? b=some o→h'.get? b=some o)→∀b o,s.heap.get? b=some o→h'.get? b=some o:=fun h' k b o q=>k b o (kp b o q).1 (kp b o q).2;exact DH (κ:=κ) (lt:=lt) (W:=W) ha tE (fun l h' k=>hk l h' (up h' k)) (fun h' k=>jL h' (up h' k)) few many fun p g1 g2=>e▸hP _ ⟨p,g1,g2,rfl⟩
theorem L6{l:Addr}{lt:Nat→Nat→Bool}(hl:s.heap.IsList l vs.toArray)(tE:vs.length<64)(hk:2≤vs.length→∀(h':Heap),(∀b o,s.heap.get? b=some o→h'.get? b=some o)→∀Q:SortKind→Shared→Prop,Q κ { s with heap:=h' }→wpAny (model prog w) A.in1.in1 (keyKind' vs.toArray) Q (fun _ _=>False) { s with heap:=h' })(jL:∀(h':Heap),(∀b o,s.heap.get? b=some o→h'.get? b=some o)→∀i j (C:Bool→Shared→Prop),i<vs.length→j<vs.length→C (lt i j) { s with heap:=h' }→wpAny (model prog w) A.in1.in1 (keyLt' κ (vs.getD i Value.none) (vs.getD j Value.none)) C (fun _ _=>False) { s with heap:=h' })(hS:lZ vs.length lt)(h:∀p:Array Nat,bp vs.length p→Up lt p vs.length→Q (.ref (s.heap.objs.size+1)) { s with heap:=sortedAll s.heap vs (List.toArray (p.toList.map fun i=>vs.getD i Value.none)) }):wpAny (model prog w) A (call (.builtin "sorted") [.ref l]) Q E s :=
  L5 (W:=fun p=>Up lt p vs.length) hl tE hk jL (fun l i j wA hj=>by omega) (fun l=>(JY hS l).2) h
end
def pG(d e:Int×aO):Bool:=if d.1=e.1 then HT.lexLt d.2 e.2 else decide (d.1<e.1)
theorem uP:∀{a b c:aO},HT.lexLt a b=true→HT.lexLt b c=true→HT.lexLt a c=true
  |[],[],_,h,_=>by simp[HT.tN] at h
  |[],_::_,[],_,h=>by simp[HT.jY] at h
  |[],_::_,_::_,_,_=>rfl
  |_::_,[],_,h,_=>by simp[HT.jY] at h
  |_::_,_::_,[],_,h=>by simp[HT.jY] at h
  |x::r,y::t,z::u,h1,h2=>by
   rw[HT.nF] at h1 h2⊢;by_cases e1:x=y
   · rw[az e1] at h1;by_cases e2:y=z
     ·rw[az e2] at h2;rw[az (e1.trans e2)];exact uP h1 h2
     ·rw[bh e2] at h2;rw[bh (fun q=>e2 (e1.symm.trans q)),e1];exact h2
   · rw[bh e1] at h1;have l1:x<y:=by simpa using h1
     by_cases e2:y=z
     ·rw[bh (fun q=>e1 (q.trans e2.symm)),←e2];exact h1
     · rw[bh e2] at h2;have l2:y<z:=by simpa using h2
       rw[bh (by omega)];simp;omega
theorem sG:∀{a b:aO},a≠b→HT.lexLt a b=false→HT.lexLt b a=true
  |[],[],h,_=>absurd rfl h
  |[],_::_,_,h=>by simp[HT.qS] at h
  |_::_,[],_,_=>rfl
  |x::r,y::t,iJ,h=>by
   rw[HT.nF] at h⊢;by_cases e:x=y
   ·rw[az e] at h;rw[az e.symm];exact sG (fun q=>iJ (by rw[e,q])) h
   · rw[bh e] at h;rw[bh (fun q=>e q.symm)];have:¬ x<y:=by simpa using h
     simp;omega
theorem yZ{a b c:Int×aO}(h1:pG a b=true)(h2:pG b c=true):pG a c=true:=by
  unfold pG at *;by_cases e1:a.1=b.1
  · rw[az e1] at h1;by_cases e2:b.1=c.1
    ·rw[az e2] at h2;rw[az (e1.trans e2)];exact uP h1 h2
    ·rw[bh e2] at h2;rw[bh (fun q=>e2 (e1.symm.trans q)),e1];exact h2
  · rw[bh e1] at h1;have l1:a.1<b.1:=by simpa using h1
    by_cases e2:b.1=c.1
    ·rw[bh (fun q=>e1 (q.trans e2.symm)),←e2];exact h1
    · rw[bh e2] at h2;have l2:b.1<c.1:=by simpa using h2
      rw[bh (by omega)];simp;omega
theorem yz{a b:Int×aO}(iJ:a≠b)(h:pG a b=false):pG b a=true:=by
  unfold pG at *;by_cases e:a.1=b.1
  ·rw[az e] at h;rw[az e.symm];exact sG (fun q=>iJ (Prod.ext e q)) h
  · rw[bh e] at h;rw[bh (fun q=>e q.symm)];have:¬ a.1<b.1:=by simpa using h
    simp;omega
def pairAt(H:Hp)(v:V)(d:Int×aO):Prop:=∃a p,v=.ref a∧H a=some (.tup [.int d.1,.ref p])∧H p=some (.tup (d.2.map V.int))
theorem pairAt.same{d:Int×aO}(x:pairAt H v d)(s:cG H H'):pairAt H' v d:=by obtain⟨a,p,e,h1,h2⟩:=x;exact⟨a,p,e,s _ _ h1,s _ _ h2⟩
theorem qY{α:Type}(l:List α)(d:α):(List.range l.length).map (fun i=>l.getD i d)=l:=by
  refine List.ext_getElem? fun i=>?_;rw[qG];by_cases h:i<l.length
  ·rw[List.getElem?_range h,mV h];simp[nD,h]
  ·rw[Df (by simpa using h),Df (by simpa using h)];rfl
theorem DK{α:Type}{l:List α}(d:α)(h:bp l.length p):(p.toList.map fun i=>l.getD i d).Perm l:=by
  have h1:p.toList.Perm (List.range l.length):=by simpa using De.mp h.perm
  have h2:=h1.map (fun i=>l.getD i d);rw[qY] at h2;exact h2
theorem qZ{α:Type}{l:List α}(d:α)(R:α→α→Bool)(hn:bp l.length p)(h:Up (fun i j=>R (l.getD i d) (l.getD j d)) p l.length):(p.toList.map fun i=>l.getD i d).Pairwise (fun a b=>R a b=true):=by
  rw[List.pairwise_iff_getElem];intro i j hi hj wA;simp only[List.getElem_map,Array.getElem_toList];have hs:=hn.size;have XZ:j<p.size:=by simpa using hj
  have Rp:i<p.size:=by simpa using hi
  have q:=h i j wA (by omega);have e1:p.getD i 0=p[i]:=by simp[Array.getD,Rp]
  have e2:p.getD j 0=p[j]:=by simp[Array.getD,XZ]
  rw[e1,e2] at q;exact q
theorem bq{α β:Type}{F:α→β→Prop}{l:List α}{m:List β}(h:Paired F l m)(hi:i<l.length)(d:α)(e:β):F (l.getD i d) (m.getD i e):=by obtain⟨y,h1,h2⟩:=sF (i:=i) (x:=l[i]) h (by simp[hi]);rw[nD,nD,h1,mV hi];exact h2
theorem jx{α β γ:Type}{F:α→β→Prop}(f:γ→α)(g:γ→β):∀{l:List γ},(∀x∈l,F (f x) (g x))→Paired F (l.map f) (l.map g)
  |[],_=>.nil
  |x::r,h=>.cons (h x de) (jx f g fun y hy=>h y (lJ _ hy))
section
variable {X:Cx}
theorem tP(hd:ds.Nodup):lZ ds.length (fun i j=>pG (ds.getD i (0,[])) (ds.getD j (0,[]))) where
  tr:=fun i j k _ _ _ h1 h2=>yZ h1 h2
  Zb:=fun i j hi hj iJ h=>yz (fun q=>iJ (by
    rw[nD,nD,mV hi,mV hj] at q;exact(List.getElem_inj hd).mp q)) h
theorem sI(I:Inv X pins σ H s){d:Int×aO}(r:RelV v u)(h:pairAt H v d):∃a p t its,u=.ref a∧IsTup s.heap a [Value.int d.1 t,Value.ref p].toArray∧IsTup s.heap p its.toArray∧Vals (d.2.map V.int) its:=by
  obtain⟨a,p,rfl,h1,h2⟩:=h;cases r;obtain⟨t,ht⟩:=Si I (kA.of h1);obtain⟨its,rv,hp,_⟩:=I.tuple (kA.of h2);exact⟨a,p,t,its,rfl,ht,hp,rv⟩
theorem DQ(hu:X.A.units+5<cLine):qx X (.builtin "sorted") (fun xs H Q=>∃p vs ds,xs=[.ref p]∧m4 X.K H p vs∧Paired (pairAt H) vs ds∧ds.Nodup∧vs.length<64∧∀l Zg tF,H l=none→Paired (pairAt H) Zg tF→tF.Perm ds→tF.Pairwise (fun a b=>pG a b=true)→Q (.ref l) (upd H l (.lst Zg))):=by
  intro pins s σ H xs us Q I r h;obtain⟨p,vs,ds,rfl,hq,hp,A5,tE,h⟩:=h;obtain⟨u,rfl,ru⟩:=vals1 r;cases ru;obtain⟨its,rv,hl,_⟩:=I.list hq;have l1:vs.length=its.length:=rv.length;have l2:vs.length=ds.length:=hp.length;have at_:∀i,i<its.length→∃a q t js,its.getD i Value.none=.ref a∧IsTup s.heap a [Value.int (ds.getD i (0,[])).1 t,Value.ref q].toArray∧IsTup s.heap q js.toArray∧Vals ((ds.getD i (0,[])).2.map V.int) js:=fun i hi =>
    sI I (bq rv (by omega) V.non Value.none) (bq hp (by omega) V.non (0,[]))
  have y4:∀{h':Heap} {a:Addr} {zs:Array Value},(∀b o,s.heap.get? b=some o→h'.get? b=some o)→IsTup s.heap a zs→IsTup h' a zs:=fun {h' a zs} k ⟨o,e,c⟩=>⟨o,k _ _ e,c⟩
  have hS:=tP A5;rw[←l2,l1] at hS;refine L6 (κ:=tuples' true) (lt:=fun i j=>pG (ds.getD i (0,[])) (ds.getD j (0,[]))) hl.isList (by omega) (fun h2 h' kk Q' hq'=>?_) (fun h' kk i j C hi hj hc=>?_) hS (fun pm hP hU=>?_)
  · have qH:∀(vl:ef),(∀v∈vl,∃a n t q,v=.ref a∧IsTup h' a [Value.int n t,Value.ref q].toArray)→∃fs:ef,KatTups h' vl fs∧fs.length=vl.length∧∀v∈fs,∃n t,v=.int n t:=by
      intro vl;induction vl with
      |nil=>intro _;exact⟨[],trivial,rfl,fun _ z=>nomatch z⟩
      |cons v r ih =>
       intro hv;obtain⟨a,n,t,q,rfl,o,e,c,m,dd⟩:=hv v de;obtain⟨fs,k1,k2,k3⟩:=ih fun y hy=>hv y (lJ _ hy);refine⟨.int n t::fs,⟨⟨a,o,_,m,rfl,e,c,dd,rfl⟩,k1⟩,by simp[k2],fun y hy=>?_⟩;rcases gw.mp hy with z|z
       ·exact⟨n,t,z⟩
       ·exact k3 y z
    obtain⟨fs,k1,k2,k3⟩:=qH its (fun v hv=>by
      obtain⟨i,hi,rfl⟩:=List.mem_iff_getElem.mp hv;obtain⟨a,q,t,js,e1,e2,_⟩:=at_ i hi;rw[nD,mV hi] at e1;exact⟨a,_,t,q,e1,y4 kk e2⟩)
    refine kat_kind (s:={ s with heap:=h' }) (T:=.type "int") k1 (by omega) (fun v hv=>?_) rfl ?_
    ·obtain⟨n,t,rfl⟩:=k3 v hv;exact Looks.of_pure rfl
    ·exact hq'
  · obtain⟨a,q,t,js,e1,e2,e3,e4⟩:=at_ i hi;obtain⟨b,q',t',js',f1,f2,f3,f4⟩:=at_ j hj;rw[e1,f1];obtain⟨oa,ga,_,na,da⟩:=y4 kk e2;obtain⟨ob,gb,_,nb,db⟩:=y4 kk f2;have Wn:X.A.in1.in1.units<cLine:=by rw[in1_units,in1_units];omega
    refine kat_lt (s:={ s with heap:=h' }) ga da gb db ?_;refine kat_cons (SeqAt.EqAt.int_int _ _ _ _ _ _ _ _ (kat_go (fun e=>kat_yes ?_) (fun e=>kat_no ?_)))
    · have wA:(ds.getD i (0,[])).1=(ds.getD j (0,[])).1:=by simpa using e
      have Dq:C (HT.lexLt (ds.getD i (0,[])).2 (ds.getD j (0,[])).2) { s with heap:=h' }:=by have e5:pG (ds.getD i (0,[])) (ds.getD j (0,[]))=HT.lexLt (ds.getD i (0,[])).2 (ds.getD j (0,[])).2:=az wA;rw[←e5];exact hc
      refine kat_cons (B6 (s:={ s with heap:=h' }) (y4 kk e3) (y4 kk f3) e4 f4 Wn _ _ _ _ (kat_go (fun e'=>kat_yes (kat_nil ?_)) (fun e'=>kat_no ?_)))
      · have e6:(ds.getD i (0,[])).2=(ds.getD j (0,[])).2:=by simpa using e'
        rw[e6,nH] at Dq;exact Dq
      ·refine kat_one _ _ ?_;refine HT.yQ (s:={ s with heap:=h' }) (y4 kk e3) (y4 kk f3) (by simpa using intsAre_of e4) (by simpa using intsAre_of f4) Wn ?_;exact Dq
    · have wA:¬ (ds.getD i (0,[])).1=(ds.getD j (0,[])).1:=by simpa using e
      refine oneLt_int ?_;have e5:pG (ds.getD i (0,[])) (ds.getD j (0,[]))=decide ((ds.getD i (0,[])).1<(ds.getD j (0,[])).1):=bh wA;rw[←e5];exact hc
  · have UJ:bp ds.length pm:=by rw[←l2,l1];exact hP
    have Wq:bp vs.length pm:=by rw[l1];exact hP
    have hm:∀i∈pm.toList,i<vs.length:=fun i hi=>by
      have:=(De.mp hP.perm).mem_iff.mp hi;have h3:i<its.length:=by simpa using this
      omega
    have h1:=h (s.heap.objs.size+1) (pm.toList.map fun i=>vs.getD i V.non) (pm.toList.map fun i=>ds.getD i (0,[])) (I.cY.fresh (by omega)) (jx _ _ fun i hi=>bq hp (hm i hi) _ _) (DK _ UJ)
      (qZ (0,[]) pG UJ (by rw[←l2,l1];exact hU))
    obtain⟨e,he⟩:=sortedAll_at s.heap its (List.toArray (pm.toList.map fun i=>its.getD i Value.none));refine⟨.ref (s.heap.objs.size+1),_,I.laid (a:=s.heap.objs.size+1) (o:=.lst (pm.toList.map fun i=>vs.getD i V.non)) (t':=s.toks) (fun b o q=>sortedAll_old q) (by omega) ⟨?_,pm.toList.map fun i=>its.getD i Value.none,e,jx _ _ fun i hi=>bq rv (hm i hi) _ _,he⟩,rfl,h1⟩;rw[g9,oo,Wq.size,kD];omega
end
end L2
namespace L2
open PySem PySem.Spec PyProof.Rows PySem.W
section
variable {X:Cx}
theorem q0(hc:X.calm=true):qx X (.builtin "sum") (fun xs H Q=>∃(p:Addr) (ns:aO),xs=[.ref p]∧m4 X.K H p (ns.map V.int)∧Q (.int ns.sum) H):=by
  intro pins s σ H xs us Q I r h;obtain⟨p,ns,rfl,hq,q⟩:=h;obtain⟨u,rfl,ru⟩:=vals1 r;cases ru;obtain⟨its,rv,hl,_⟩:=I.list hq;have hi:=intsAre_of rv;obtain⟨zs,ez⟩:=hi.allInts.items;refine sum_intListG (xs:=zs) (I.ok.hd hc) (by rw[←ez];exact hl.isList) fun h' tk t' hk=>?_;have e:preSum (numAt zs) zs.size=ns.sum:=by
    have e1:numsOf its=ns:=hi.numsOf;have e2:numsOf (intItems zs).toList=numsOf its:=by rw[←ez]
    rw[nums_intItems] at e2;rw[preSum_eq,Hq (by simp),e2,e1]
  rw[e];exact⟨.int ns.sum,H,I.kept hk,⟨_,rfl⟩,q⟩
end
end L2
namespace L2
open PySem PySem.Spec PyProof.Rows
structure fV (P:Program) (w:World) (K:PySem.W.Frag) (mg:Str→mR) (base:Heap) (k:Nat) (f:Addr) (ps:gq) (sp:Sp):Prop where
  ex:∃fd,cI P w K mg base i7 k f fd ps sp∧Binds K fd ps []∧keepIn K (.ref f)=true
theorem DR{f:Addr}{ps:gq}{sp:Sp}{p:Pos}{es:List Expr}{t:TA}(C:fV X.prog X.w X.K X.mg X.base k f ps sp)(hr:fG k X.A)(hg:Gl X x)(hm:X.mg x=some (.ref f))(ha:PA X (e::es) t)(tm:(x==("__debug__":Str))=false:=by decide)(he:starEach (e::es) X.env=(false,eval e X.env)::starEach es X.env:=by rfl)(tq:(backTo pos (starEach es X.env)).any (·.1)=false:=by rfl):PE X (.Call (.Name x p) (e::es) [] pos) (UB sp [] E0 t):=by
  obtain⟨fd,G,b,kp⟩:=C.ex;exact RT G hr hg hm kp b .nil UE ha tm he tq
theorem fj{p:Addr}(h:H p=none)(o:HO):cG H (upd H p o):=fun b u q=>by rw[aK (bO q h)];exact q
theorem y7(n:Int):∀ms:aO,XU (.int n) (ms.map V.int)=ms.contains n
  |[]=>rfl
  |m::r=>by
   have ih:=y7 n r;show(R7 (V.int m) (V.int n)||XU (.int n) (r.map V.int))=_;rw[ih,List.contains_cons]
   congr 1
   show(m==n)=(n==m)
   rw[Be];simp;exact eq_comm
theorem J0(h:n≤1000):n≤sizeLine:=Nat.le_of_lt (LW h)
def J1(ns ms:aO):Nat:=(ns.filter fun n=>ms.contains n).length
theorem Wr(ns ms:aO):J1 ns ms≤ns.length:=List.length_filter_le _ _
def Bq:aO:=[0,60,90,110,125,137,147]
def bH(hs:dq)(ms:aO):Int:=(hs.map fun h=>h.2*Bq.getD (J1 h.1 ms) 0).sum
def Zh:Nat→Int
  |0=>0
  |n+1=>Zh n+60 / (1+n)
theorem aa6(h:n≤6):Zh n=Bq.getD n 0:=by
  have:n=0∨n=1∨n=2∨n=3∨n=4∨n=5∨n=6:=by omega
  rcases this with rfl|rfl|rfl|rfl|rfl|rfl|rfl<;>decide
theorem Sr(h:n≤6):-(2^64)<Bq.getD n 0∧Bq.getD n 0<2^64:=by
  have:n=0∨n=1∨n=2∨n=3∨n=4∨n=5∨n=6:=by omega
  rcases this with rfl|rfl|rfl|rfl|rfl|rfl|rfl<;>decide
def cP(count:Int)(ns:aO):Prop:=ns.Pairwise (·<·)∧∀n∈ns,0≤n∧n<count
theorem Ot(n:Nat):((List.range n).map fun i:Nat=>(0:Int)+(i:Int)).Pairwise (·<·):=by rw[Dg];exact List.pairwise_lt_range.imp fun h=>by omega
theorem F5(n:Nat)(p:Int→Bool):cP (n:Int) (((List.range n).map fun i:Nat=>(0:Int)+(i:Int)).filter p):=by refine⟨(Ot n).filter _,fun x hx=>?_⟩;obtain⟨i,hi,rfl⟩:=i9.mp (jw.mp hx).1;have:=mY.mp hi;omega
theorem cP.filter{count:Int}(h:cP count ns)(p:Int→Bool):cP count (ns.filter p):=⟨h.1.filter _,fun x hx=>h.2 x (jw.mp hx).1⟩
theorem B7:∀{ns:aO} {lo:Int} {k:Nat},ns.Pairwise (·<·)→(∀n∈ns,lo≤n∧n<lo+k)→ns.length≤k
  |[],_,_,_,_=>qQ _
  |x::r,lo,k,hp,hb=>by
   obtain⟨h1,h2⟩:=List.pairwise_cons.mp hp;have hx:=hb x de;cases k with
   |zero=>omega
   |succ k =>
    have ih:=B7 (ns:=r) (lo:=lo+1) (k:=k) h2 fun n hn=>by have a:=h1 n hn;have b:=hb n (lJ _ hn);omega
    simp only[mW];omega
theorem cP.Rr{count:Int}(h:cP count ns)(hc:count≤6):ns.length≤6 :=
  B7 (lo:=0) (k:=6) h.1 fun n hn=>by have:=h.2 n hn;omega
def Ou(k:List Key):aO:=k.map fun x=>match x with|.inl i=>i|.inr _=>0
theorem B8(ns:aO):Ou (ns.map Sum.inl)=ns:=by unfold Ou;rw[e8];exact List.map_id' ns
structure DOk (count:Int) (aX:List (List Key×V)):Prop where
  nd:(aX.map (·.1)).Nodup
  all:∀kv∈aX,∃(ns:aO) (m:Int),kv=(ns.map Sum.inl,.int m)∧cP count ns∧1≤m
structure J2 (count:Int) (hs:dq):Prop where
  ne:hs≠[]
  all:∀h∈hs,cP count h.1∧1≤h.2
  up:hs.Pairwise (fun a b=>pG ((a.1.length:Int),a.1) ((b.1.length:Int),b.1)=true)
  len:hs.length≤63
end L2
namespace DL
open PySem PySem.Spec PyProof.Rows L2
inductive D where
  |non|bl (b:Bool)|int (i:Int)|str (x:Str)|tup (xs:List D)|lst (xs:List D)|obj (C:Addr)|exc (C:Addr)
def Zi(a C:Addr)(h:Heap):Prop:=∃o,h.get? a=some o∧o.cls=.ref C
def Zj:Str:="Most.order"
def DU:Str:="Most.order.<locals>.<lambda>"
def md(K:PySem.W.Frag):Option (Addr×Addr):=(K.find? fun p=>codeIn K (.ref p.1) Zj).bind fun p=>match p.2.data with
  |.fields vs=>(match (vs[11]?:mR) with|some (.ref P)=>some (p.1,P)|_=>none)
  |_=>none
def kM(K:PySem.W.Frag)(F:Hp):Prop:=∀c P,md K=some (c,P)→F P=some (.Fj #[.str DU 0])
theorem kM.mono{K:PySem.W.Frag}(t:kM K F)(s:cG F F'):kM K F':=fun c P e=>s _ _ (t c P e)
mutual
def Den(K:PySem.W.Frag)(F:Hp):D→V→Prop
  |.non,v=>v=.non
  |.bl b,v=>v=.bl b
  |.int i,v=>v=.int i
  |.str x,v=>v=.str x
  |.tup ds,v=>∃a vs,v=.ref a∧F a=some (.tup vs)∧cz K F ds vs
  |.lst ds,v=>∃a vs,v=.ref a∧m4 K F a vs∧cz K F ds vs
  |.obj C,v=>∃a dx,v=.ref a∧F a=some (.ins C dx [])∧kM K F
  |.exc C,v=>∃a,v=.ref a∧F a=some (.ext (Zi a C))
def cz(K:PySem.W.Frag)(F:Hp):List D→List V→Prop
  |[],vs=>vs=[]
  |d::ds,vs=>∃v r,vs=v::r∧Den K F d v∧cz K F ds r
end
mutual
def D.A6:D→Bool
  |.tup ds=>D.HL ds
  |.lst _=>false
  |.obj _=>false
  |.exc _=>false
  |_=>true
def D.HL:List D→Bool
  |[]=>true
  |d::ds=>D.A6 d&&D.HL ds
end
section
variable {K:PySem.W.Frag} {F F' H:Hp}
theorem aN{ds:List D}:Den K F (.tup ds) v↔∃a vs,v=.ref a∧F a=some (.tup vs)∧cz K F ds vs:=by rw[Den]
theorem aW{ds:List D}:Den K F (.lst ds) v↔∃a vs,v=.ref a∧m4 K F a vs∧cz K F ds vs:=by rw[Den]
theorem hE:Den K F (.obj C) v↔∃a dx,v=.ref a∧F a=some (.ins C dx [])∧kM K F:=by rw[Den]
theorem j3:Den K F (.exc C) v↔∃a,v=.ref a∧F a=some (.ext (Zi a C)):=by rw[Den]
theorem aQ{i:Int}:Den K F (.int i) v↔v=.int i:=by rw[Den]
theorem bT{i:Bool}:Den K F (.bl i) v↔v=.bl i:=by rw[Den]
theorem cW{i:Str}:Den K F (.str i) v↔v=.str i:=by rw[Den]
theorem cg:Den K F .non v↔v=.non:=by rw[Den]
theorem bD{vs:List V}:cz K F [] vs↔vs=[]:=by rw[cz]
theorem aP{d:D}{ds:List D}{vs:List V}:cz K F (d::ds) vs↔∃v r,vs=v::r∧Den K F d v∧cz K F ds r:=by rw[cz]
theorem rh:∀{ds:List D} {vs:List V},cz K F ds vs↔Paired (fun d v=>Den K F d v) ds vs
  |[],vs=>by
   rw[bD];constructor
   ·rintro rfl;exact .nil
   ·intro h;cases h;rfl
  |d::ds,vs=>by
   rw[aP];constructor
   ·rintro⟨v,r,rfl,h1,h2⟩;exact .cons h1 (rh.mp h2)
   · intro h;cases h with
     |cons h1 h2=>exact⟨_,_,rfl,h1,rh.mpr h2⟩
theorem bu{ds:List D}{vs:List V}(h:cz K F ds vs):ds.length=vs.length:=wo (rh.mp h)
theorem F6:∀{ds:List D} {vs:List V} {i:Nat} {d:D},cz K F ds vs→ds[i]?=some d→∃v,vs[i]?=some v∧Den K F d v
  |[],_,_,_,_,e=>by simp at e
  |x::ds,vs,0,d,h,e=>by obtain⟨v,r,rfl,h1,h2⟩:=aP.mp h;simp at e;subst e;exact⟨v,rfl,h1⟩
  |x::ds,vs,i+1,d,h,e=>by obtain⟨v,r,rfl,h1,h2⟩:=aP.mp h;obtain⟨w,e1,e2⟩:=F6 (i:=i) h2 (by simpa using e);exact⟨w,by simpa using e1,e2⟩
theorem sJ:∀{ds:List D} {vs:List V} {i:Nat} {v:V},cz K F ds vs→vs[i]?=some v→∃d,ds[i]?=some d∧Den K F d v
  |[],_,_,_,h,e=>by rw[bD.mp h] at e;simp at e
  |x::ds,vs,0,v,h,e=>by obtain⟨w,r,rfl,h1,h2⟩:=aP.mp h;simp at e;subst e;exact⟨x,rfl,h1⟩
  |x::ds,vs,i+1,v,h,e=>by obtain⟨w,r,rfl,h1,h2⟩:=aP.mp h;obtain⟨d,e1,e2⟩:=sJ (i:=i) h2 (by simpa using e);exact⟨d,by simpa using e1,e2⟩
theorem oA:∀{ds es:List D} {vs ws:List V},cz K F ds vs→cz K F es ws→cz K F (ds++es) (vs++ws)
  |[],es,vs,ws,h,h'=>by rw[bD.mp h];exact h'
  |x::ds,es,vs,ws,h,h'=>by obtain⟨v,r,rfl,h1,h2⟩:=aP.mp h;exact aP.mpr ⟨v,r++ws,rfl,h1,oA h2 h'⟩
theorem F7{d:D}(h:Den K F d v):cz K F [d] [v]:=aP.mpr ⟨v,[],rfl,h,bD.mpr rfl⟩
theorem wC{ds:List D}{vs:List V}{d:D}(h:cz K F ds vs)(h':Den K F d v):cz K F (ds++[d]) (vs++[v]):=oA h (F7 h')
theorem B9:∀{ds:List D} {vs:List V} (n:Nat),cz K F ds vs→cz K F (ds.take n) (vs.take n)
  |_,_,0,_=>bD.mpr rfl
  |[],vs,n+1,h=>by rw[bD.mp h];exact bD.mpr rfl
  |x::ds,vs,n+1,h=>by obtain⟨v,r,rfl,h1,h2⟩:=aP.mp h;exact aP.mpr ⟨v,r.take n,rfl,h1,B9 n h2⟩
theorem Ca:∀{ds:List D} {vs:List V} (n:Nat),cz K F ds vs→cz K F (ds.drop n) (vs.drop n)
  |_,_,0,h=>h
  |[],vs,n+1,h=>by rw[bD.mp h];exact bD.mpr rfl
  |x::ds,vs,n+1,h=>by obtain⟨v,r,rfl,h1,h2⟩:=aP.mp h;exact Ca n h2
theorem uQ:∀{ds:List D} {vs:List V},cz K F ds vs→cz K F ds.reverse vs.reverse
  |[],vs,h=>by rw[bD.mp h];exact bD.mpr rfl
  |x::ds,vs,h=>by obtain⟨v,r,rfl,h1,h2⟩:=aP.mp h;rw[List.reverse_cons,List.reverse_cons];exact wC (uQ h2) h1
theorem fW:∀(ns:aO),cz K F (ns.map D.int) (ns.map V.int)
  |[]=>bD.mpr rfl
  |n::ns=>aP.mpr ⟨_,_,rfl,aQ.mpr rfl,fW ns⟩
theorem iq:∀{ns:aO} {vs:List V},cz K F (ns.map D.int) vs→vs=ns.map V.int
  |[],vs,h=>bD.mp h
  |n::ns,vs,h=>by obtain⟨v,r,rfl,h1,h2⟩:=aP.mp h;rw[aQ.mp h1,iq h2];rfl
theorem y8{xs:List V}(e:cG F F')(h:kA K F a xs):kA K F' a xs:=by
  rcases h with(h|⟨o,h⟩)|h
  ·exact .inl (.inl (e _ _ h))
  ·exact .inl (.inr ⟨o,e _ _ h⟩)
  ·exact .inr h
mutual
theorem cA(s:cG F F'):∀(d:D) (v:V),Den K F d v→Den K F' d v
  |.non,v,h=>cg.mpr (cg.mp h)
  |.bl b,v,h=>bT.mpr (bT.mp h)
  |.int i,v,h=>aQ.mpr (aQ.mp h)
  |.str x,v,h=>cW.mpr (cW.mp h)
  |.tup ds,v,h=>by obtain⟨a,vs,e,h1,h2⟩:=aN.mp h;exact aN.mpr ⟨a,vs,e,s _ _ h1,bE s ds vs h2⟩
  |.lst ds,v,h=>by obtain⟨a,vs,e,h1,h2⟩:=aW.mp h;exact aW.mpr ⟨a,vs,e,s.seq h1,bE s ds vs h2⟩
  |.obj C,v,h=>by obtain⟨a,dx,e,h1,h2⟩:=hE.mp h;exact hE.mpr ⟨a,dx,e,s _ _ h1,h2.mono s⟩
  |.exc C,v,h=>by obtain⟨a,e,h1⟩:=j3.mp h;exact j3.mpr ⟨a,e,s _ _ h1⟩
theorem bE(s:cG F F'):∀(ds:List D) (vs:List V),cz K F ds vs→cz K F' ds vs
  |[],vs,h=>bD.mpr (bD.mp h)
  |d::ds,vs,h=>by obtain⟨v,r,e,h1,h2⟩:=aP.mp h;exact aP.mpr ⟨v,r,e,cA s d v h1,bE s ds r h2⟩
end
def Rt:HO→Bool
  |.tup _=>true
  |_=>false
mutual
theorem J3(t:∀a o,H a=some o→Rt o=true→F a=some o):∀(d:D) (v:V),d.A6=true→Den K H d v→Den K F d v
  |.non,v,_,h=>cg.mpr (cg.mp h)
  |.bl b,v,_,h=>bT.mpr (bT.mp h)
  |.int i,v,_,h=>aQ.mpr (aQ.mp h)
  |.str x,v,_,h=>cW.mpr (cW.mp h)
  |.tup ds,v,i,h=>by obtain⟨a,vs,e,h1,h2⟩:=aN.mp h;exact aN.mpr ⟨a,vs,e,t _ _ h1 rfl,y9 t ds vs (by rw[D.A6] at i;exact i) h2⟩
  |.lst ds,v,i,h=>by rw[D.A6] at i;cases i
  |.obj C,v,i,h=>by rw[D.A6] at i;cases i
  |.exc C,v,i,h=>by rw[D.A6] at i;cases i
theorem y9(t:∀a o,H a=some o→Rt o=true→F a=some o):∀(ds:List D) (vs:List V),D.HL ds=true→cz K H ds vs→cz K F ds vs
  |[],vs,_,h=>bD.mpr (bD.mp h)
  |d::ds,vs,i,h=>by obtain⟨v,r,e,h1,h2⟩:=aP.mp h;rw[D.HL,t9] at i;exact aP.mpr ⟨v,r,e,J3 t d v i.1 h1,y9 t ds r i.2 h2⟩
end
theorem za:∀(ds:List D),D.HL ds=ds.all D.A6
  |[]=>by rw[D.HL];rfl
  |d::ds=>by rw[D.HL,mZ,za ds]
theorem uR(ds:List D):(D.tup ds).A6=ds.all D.A6:=by rw[D.A6,za]
theorem sL(i:Int):(D.int i).A6=true:=by rw[D.A6]<;>intros<;>simp_all
theorem Ov(ns:aO):(ns.map D.int).all D.A6=true:=by rw[iH];intro d hd;obtain⟨n,_,rfl⟩:=i9.mp hd;exact sL n
end
def tQ:HO→Prop
  |.lst xs=>xs.length≤sizeLine
  |.tup xs=>xs.length≤sizeLine
  |.dT aX=>aX.length≤sizeLine
  |.dK aX=>aX.length≤sizeLine
  |.ua _ u=>tQ u
  |_=>True
structure Base (F H:Hp):Prop where
  sub:cG F H
  tup:∀a o,H a=some o→Rt o=true→F a=some o
  Fp:∀a o,H a=some o→tQ o
structure bB (F H F' H':Hp):Prop where
  base:Base F' H'
  jy:cG F F'
  ent:cG H H'
  new:∀a o,F' a=some o→F a=some o∨H a=none∨Rt o=true
theorem bB.refl(b:Base F H):bB F H F H:=⟨b,cG.refl _,cG.refl _,fun _ _ h=>.inl h⟩
theorem bB.trans{F1 H1 F2 H2:Hp}(a:bB F H F1 H1)(b:bB F1 H1 F2 H2):bB F H F2 H2 :=
  ⟨b.base,a.jy.trans b.jy,a.ent.trans b.ent,fun x o h=>by
    rcases b.new x o h with h|h|h
    ·exact a.new x o h
    ·exact .inr (.inl (a.ent.free h))
    ·exact .inr (.inr h)⟩
theorem bB.put(b:Base F H){p:Addr}(hp:H p=none)(o:HO)(ho:tQ o):bB F H (upd F p o) (upd H p o) where
  base:={
    sub:=fun a u h=>by
      by_cases e:a=p
      ·subst e;rw[aL] at h;rw[aL];exact h
      ·rw[aK e] at h;rw[aK e];exact b.sub a u h
    tup:=fun a u h t=>by
      by_cases e:a=p
      ·subst e;rw[aL] at h;rw[aL];exact h
      ·rw[aK e] at h;rw[aK e];exact b.tup a u h t
    Fp:=fun a u h=>by
      by_cases e:a=p
      ·subst e;rw[aL] at h;cases h;exact ho
      ·rw[aK e] at h;exact b.Fp a u h }
  jy:=fj (b.sub.free hp) o
  ent:=fj hp o
  new:=fun a u h=>by
    by_cases e:a=p
    ·subst e;exact .inr (.inl hp)
    ·rw[aK e] at h;exact .inl h
theorem bB.own(b:Base F H){p:Addr}(hp:H p=none)(o:HO)(ho:tQ o)(ht:Rt o=false):bB F H F (upd H p o) where
  base:={
    sub:=fun a u h=>by rw[aK (bO (b.sub a u h) hp)];exact b.sub a u h
    tup:=fun a u h t=>by
      by_cases e:a=p
      ·subst e;rw[aL] at h;cases h;rw[ht] at t;cases t
      ·rw[aK e] at h;exact b.tup a u h t
    Fp:=fun a u h=>by
      by_cases e:a=p
      ·subst e;rw[aL] at h;cases h;exact ho
      ·rw[aK e] at h;exact b.Fp a u h }
  jy:=cG.refl _
  ent:=fj hp o
  new:=fun a u h=>.inl h
theorem bB.share(b:Base F H){F0 H0:Hp}(g:bB F0 H0 F H){p:Addr}(hp:H p=some o)(h0:H0 p=none):bB F0 H0 (upd F p o) H where
  base:={
    sub:=fun a u h=>by
      by_cases e:a=p
      ·subst e;rw[aL] at h;cases h;exact hp
      ·rw[aK e] at h;exact b.sub a u h
    tup:=fun a u h t=>by
      by_cases e:a=p
      ·subst e;rw[aL];rw[hp] at h;exact h
      ·rw[aK e];exact b.tup a u h t
    Fp:=b.Fp }
  jy:=fun a u h=>by
    by_cases e:a=p
    ·subst e;rw[aL];rw[b.sub a u (g.jy a u h)] at hp;exact hp.symm
    ·rw[aK e];exact g.jy a u h
  ent:=g.ent
  new:=fun a u h=>by
    by_cases e:a=p
    ·subst e;exact .inr (.inl h0)
    ·rw[aK e] at h;exact g.new a u h
theorem bB.write{F0 H0:Hp}(g:bB F0 H0 F H){p:Addr}(h0:H0 p=none)(hF:F p=none)(ho:tQ o)(ht:Rt o=false):bB F0 H0 F (upd H p o) where
  base:={
    sub:=fun a u h=>by have e:a≠p:=bO h hF;rw[aK e];exact g.base.sub a u h
    tup:=fun a u h t=>by
      by_cases e:a=p
      ·subst e;rw[aL] at h;cases h;rw[ht] at t;cases t
      ·rw[aK e] at h;exact g.base.tup a u h t
    Fp:=fun a u h=>by
      by_cases e:a=p
      ·subst e;rw[aL] at h;cases h;exact ho
      ·rw[aK e] at h;exact g.base.Fp a u h }
  jy:=g.jy
  ent:=fun a u h=>by rw[aK (bO h h0)];exact g.ent a u h
  new:=g.new
end DL
variable {g:DL.D→DL.D→Option DL.D} {d:DL.D}
namespace DL
open PySem PySem.Spec L2
open PyProof.Rows hiding St
inductive Slot where
  |sh (d:D)|br (d:D)|ol (ds:List D)|ot (aX:List (List Key×D))|ft (aX:List (List Key×D))|ok (aX:List (Key×D))|fk (aX:List (Key×D))|pr (ds rest:List D)|pn (a:Addr) (d:D)
abbrev cQ:=List (Option Slot)
def Slot.dir:Slot→Bool
  |.ol _=>true
  |.ot _=>true
  |.ok _=>true
  |_=>false
def Slot.own:Slot→Bool
  |.pr _ _=>true
  |s=>s.dir
theorem Slot.DV{s:Slot}(h:s.dir=true):s.own=true:=by cases s<;>first|rfl|cases h
structure Zc where
  F₀:Hp
  H₀:Hp
  E:Addr→Hp→Prop
def jM{κ:Type}(K:PySem.W.Frag)(F:Hp):List (κ×D)→List (κ×V)→Prop:=Paired fun p q=>p.1=q.1∧Den K F p.2 q.2
theorem jM.mono{κ:Type}{K:PySem.W.Frag}(s:cG F F'){aX:List (κ×D)}{ws:List (κ×V)}(h:jM K F aX ws):jM K F' aX ws:=Paired.Ln h fun _ _ q=>⟨q.1,cA s _ _ q.2⟩
def yd(K:PySem.W.Frag)(F:Hp):Slot→HO→Prop
  |.ol ds,o=>∃vs,o=.lst vs∧cz K F ds vs
  |.ot aX,o=>∃ws,o=.dT ws∧jM K F aX ws
  |.ok aX,o=>∃ws,o=.dK ws∧jM K F aX ws
  |.pr ds _,o=>∃vs,o=.lst vs∧cz K F ds vs
  |_,_=>False
theorem yd.Ws{K:PySem.W.Frag}{sl:Slot}(h:yd K F sl o):Rt o=false:=by
  cases sl with
  |ol _=>obtain⟨_,rfl,_⟩:=h;rfl
  |ot _=>obtain⟨_,rfl,_⟩:=h;rfl
  |ok _=>obtain⟨_,rfl,_⟩:=h;rfl
  |pr _ _=>obtain⟨_,rfl,_⟩:=h;rfl
  |_=>exact h.elim
theorem yd.own{K:PySem.W.Frag}{sl:Slot}(h:yd K F sl o):sl.own=true:=by
  cases sl with
  |ol _=>rfl
  |ot _=>rfl
  |ok _=>rfl
  |pr _ _=>rfl
  |_=>exact h.elim
theorem yd.mono{K:PySem.W.Frag}(s:cG F F'){sl:Slot}(h:yd K F sl o):yd K F' sl o:=by
  cases sl with
  |ol _=>obtain⟨vs,e,q⟩:=h;exact⟨vs,e,bE s _ _ q⟩
  |ot _=>obtain⟨vs,e,q⟩:=h;exact⟨vs,e,q.mono s⟩
  |ok _=>obtain⟨vs,e,q⟩:=h;exact⟨vs,e,q.mono s⟩
  |pr _ _=>obtain⟨vs,e,q⟩:=h;exact⟨vs,e,bE s _ _ q⟩
  |_=>exact h.elim
def eu(K:PySem.W.Frag)(F:Hp)(v:V)(sl:Slot)(p:Addr):Prop :=
  match sl with
  |.pr _ rest=>∃a ws,v=.ref a∧F a=some (.tup (.ref p::ws))∧cz K F rest ws
  |_=>v=.ref p
theorem eu.mono{K:PySem.W.Frag}(s:cG F F'){sl:Slot}{p:Addr}(h:eu K F v sl p):eu K F' v sl p:=by
  cases sl with
  |pr ds rest=>obtain⟨a,ws,e,h1,h2⟩:=h;exact⟨a,ws,e,s _ _ h1,bE s _ _ h2⟩
  |_=>exact h
theorem eu.back{K:PySem.W.Frag}(s:cG F F'){sl sl':Slot}{p q:Addr}(hd:sl.dir=sl'.dir)(ho:sl.own=true)(Fl:sl'.own=true)(h:eu K F v sl p)(h':eu K F' v sl' q):q=p:=by
  cases hc:sl.dir with
  |true =>
   have e1:v=.ref p:=by cases sl<;>first|exact h|cases hc
   have e2:v=.ref q:=by rw[hc] at hd;cases sl'<;>first|exact h'|cases hd
   rw[e1] at e2;cases e2;rfl
  |false =>
   cases sl with
   |pr ds rest =>
    cases sl' with
    |pr tF UK=>obtain⟨a,ws,e,h1,_⟩:=h;obtain⟨a',ws',e',UL,_⟩:=h';rw[e] at e';cases e';rw[s _ _ h1] at UL;cases UL;rfl
    |sh _=>cases Fl
    |br _=>cases Fl
    |ft _=>cases Fl
    |fk _=>cases Fl
    |pn _ _=>cases Fl
    |_=>cases hd
   |sh _=>cases ho
   |br _=>cases ho
   |ft _=>cases ho
   |fk _=>cases ho
   |pn _ _=>cases ho
   |_=>cases hc
def j4(K:PySem.W.Frag)(z:Zc)(F H:Hp)(v:V)(sl:Slot):Prop :=
  match sl with
  |.sh d=>Den K F d v
  |.br d=>Den K z.H₀ d v
  |.ft aX=>∃p ob ws,v=.ref p∧F p=some (.ua ob (.dT ws))∧jM K F aX ws
  |.fk aX=>∃p ob ws,v=.ref p∧F p=some (.ua ob (.dK ws))∧jM K F aX ws
  |.pn a d=>v=.ref a∧Den K z.H₀ d v
  |sl=>∃p o,eu K F v sl p∧z.H₀ p=none∧F p=none∧H p=some o∧yd K F sl o
theorem lO{K:PySem.W.Frag}{z:Zc}{sl:Slot}(h:sl.own=true):j4 K z F H v sl↔∃p o,eu K F v sl p∧z.H₀ p=none∧F p=none∧H p=some o∧yd K F sl o:=by
  cases sl with
  |ol _=>exact Iff.rfl
  |ot _=>exact Iff.rfl
  |ok _=>exact Iff.rfl
  |pr _ _=>exact Iff.rfl
  |_=>cases h
theorem wD{K:PySem.W.Frag}{z:Zc}{sl:Slot}(h:sl.own=false)(s:cG F F')(q:j4 K z F H v sl):j4 K z F' H' v sl:=by
  cases sl with
  |sh d=>exact cA s d v q
  |br d=>exact q
  |ft aX=>obtain⟨p,ob,ws,e,h1,h2⟩:=q;exact⟨p,ob,ws,e,s _ _ h1,h2.mono s⟩
  |fk aX=>obtain⟨p,ob,ws,e,h1,h2⟩:=q;exact⟨p,ob,ws,e,s _ _ h1,h2.mono s⟩
  |pn a d=>exact q
  |_=>cases h
theorem Cb{K:PySem.W.Frag}(g:bB F H F' H'){p:Addr}(hF:F p=none)(hH:H p=some o)(ht:Rt o=false):F' p=none:=by
  cases e:F' p with
  |none=>rfl
  |some u =>
   have e2:=g.base.sub p u e;rw[g.ent p o hH] at e2;cases e2;rcases g.new p _ e with q|q|q
   ·rw[hF] at q;cases q
   ·rw[hH] at q;cases q
   ·rw[ht] at q;cases q
theorem j4.grow{K:PySem.W.Frag}{z:Zc}(g:bB F H F' H'){sl:Slot}(h:j4 K z F H v sl):j4 K z F' H' v sl:=by
  cases ho:sl.own with
  |true=>rw[lO ho] at h⊢;obtain⟨p,o,e,h0,hF,hH,q⟩:=h;exact⟨p,o,e.mono g.jy,h0,Cb (K:=K) g hF hH q.Ws,g.ent _ _ hH,q.mono g.jy⟩
  |false=>exact wD ho g.jy h
structure Rel (K:PySem.W.Frag) (z:Zc) (F H:Hp) (σ:St) (η:cQ):Prop where
  mem:bB z.F₀ z.H₀ F H
  len:σ.length=η.length
  at_:∀(i:Nat) sl,η[i]?=some (some sl)→∃v,σ[i]?=some (some v)∧j4 K z F H v sl
  apart:∀(i j:Nat) si sj vi vj p,i≠j→η[i]?=some (some si)→η[j]?=some (some sj)→si.own=true→sj.own=true→σ[i]?=some (some vi)→σ[j]?=some (some vj)→eu K F vi si p→¬ eu K F vj sj p
section
variable {K:PySem.W.Frag} {z:Zc} {F H F' H':Hp} {σ:St} {η:cQ}
theorem Rel.base(r:Rel K z F H σ η):Base F H:=r.mem.base
theorem Rel.Zk(r:Rel K z F H σ η)(s:cG F F'){sl:Slot}{p:Addr}(hi:η[i]?=some (some sl))(ho:sl.own=true)(hv:σ[i]?=some (some v))(h:eu K F' v sl p):eu K F v sl p∧∃o,H p=some o∧F p=none∧Rt o=false:=by obtain⟨v',J4,hs⟩:=r.at_ i sl hi;rw[hv] at J4;cases J4;obtain⟨p0,o,e,h0,hF,hH,q⟩:=(lO ho).mp hs;have e2:=e.back s rfl ho ho h;subst e2;exact⟨e,o,hH,hF,q.Ws⟩
theorem Rel.grow(r:Rel K z F H σ η)(g:bB F H F' H'):Rel K z F' H' σ η :=
  ⟨r.mem.trans g,r.len,fun i sl e=>by obtain⟨v,h1,h2⟩:=r.at_ i sl e;exact⟨v,h1,h2.grow g⟩,fun i j si sj vi vj p wA ei ej oi oj hi hj h1 h2 =>
    r.apart i j si sj vi vj p wA ei ej oi oj hi hj (r.Zk g.jy ei oi hi h1).1 (r.Zk g.jy ej oj hj h2).1⟩
theorem Rel.idx(r:Rel K z F H σ η)(h:i<η.length):i<σ.length:=by have:=r.len;omega
theorem ri{α:Type}{l:List (Option α)}{x y:α}(h:(l.set i (some x))[j]?=some (some y)):(i=j∧i<l.length∧x=y)∨(i≠j∧l[j]?=some (some y)):=by
  by_cases e:i=j
  · subst e;by_cases hi:i<l.length
    ·rw[List.getElem?_set_self hi] at h;cases h;exact .inl ⟨rfl,hi,rfl⟩
    ·rw[Df (by rw[List.length_set];omega)] at h;cases h
  ·rw[List.getElem?_set_ne e] at h;exact .inr ⟨e,h⟩
theorem Rel.Ow(r:Rel K z F H σ η)(i:Nat){sl:Slot}(h:j4 K z F H v sl)(hn:sl.own=true→∀p,eu K F v sl p→∀(j:Nat) s w,η[j]?=some (some s)→s.own=true→σ[j]?=some (some w)→¬ eu K F w s p):Rel K z F H (σ.set i (some v)) (η.set i (some sl)) where
  mem:=r.mem
  len:=by simp[r.len]
  at_:=fun j s e=>by
    rcases ri e with⟨rfl,hi,rfl⟩|⟨hj,e⟩
    ·exact⟨v,by rw[List.getElem?_set_self (r.idx hi)],h⟩
    ·rw[List.getElem?_set_ne hj];exact r.at_ j s e
  apart:=fun j k sj sk vj vk p Rq ej ek oj ok hj hk h1 h2=>by
    rcases ri ej with⟨e1,hi,e2⟩|⟨nj,ej⟩
    · subst e1 e2;rcases ri ek with⟨e3,_,_⟩|⟨nk,ek⟩
      ·exact Rq e3
      ·rw[List.getElem?_set_self (r.idx hi)] at hj;cases hj;rw[List.getElem?_set_ne nk] at hk;exact hn oj p h1 k sk vk ek ok hk h2
    · rw[List.getElem?_set_ne nj] at hj;rcases ri ek with⟨e1,hi,e2⟩|⟨nk,ek⟩
      ·subst e1 e2;rw[List.getElem?_set_self (r.idx hi)] at hk;cases hk;exact hn ok p h2 j sj vj ej oj hj h1
      ·rw[List.getElem?_set_ne nk] at hk;exact r.apart j k sj sk vj vk p Rq ej ek oj ok hj hk h1 h2
theorem Rel.set(r:Rel K z F H σ η)(i:Nat){sl:Slot}(ho:sl.own=false)(h:j4 K z F H v sl):Rel K z F H (σ.set i (some v)) (η.set i (some sl)) :=
  r.Ow i h (fun z=>by rw[ho] at z;cases z)
theorem Rel.Wt(r:Rel K z F H σ η)(g:bB F H F' H'){p:Addr}(hp:H p=none):∀(j:Nat) s w,η[j]?=some (some s)→s.own=true→σ[j]?=some (some w)→¬ eu K F' w s p:=fun j s w e o hw h=>by obtain⟨_,o',hH,_⟩:=r.Zk g.jy e o hw h;rw[hp] at hH;cases hH
theorem Rel.HM(r:Rel K z F H σ η)(g:bB F H F' H')(i:Nat){p:Addr}{sl:Slot}(h:j4 K z F' H' v sl)(ha:eu K F' v sl p)(hp:H p=none):Rel K z F' H' (σ.set i (some v)) (η.set i (some sl)) :=
  (r.grow g).Ow i h fun ho q hq=>by have e:q=p:=ha.back (cG.refl _) rfl ho ho hq;subst e;exact r.Wt g hp
theorem Rel.writeAt(r:Rel K z F H σ η){p:Addr}{sl sl':Slot}{o':HO}(hi:η[i]?=some (some sl))(ho:sl.own=true)(hd:sl.dir=sl'.dir)(hv:σ[i]?=some (some v))(hp:eu K F v sl p)(Bn:eu K F v sl' p)(hq:yd K F sl' o')(hl:tQ o'):Rel K z F (upd H p o') σ (η.set i (some sl')):=by
  obtain⟨v',J4,hs⟩:=r.at_ i sl hi;rw[hv] at J4;cases J4;obtain⟨p',o,e,h0,hF,hH,_⟩:=(lO ho).mp hs;have e2:=e.back (cG.refl _) rfl ho ho hp;subst e2;have Fl:sl'.own=true:=hq.own;refine⟨r.mem.write h0 hF hl hq.Ws,by simp[r.len],fun j s e=>?_,fun j k sj sk vj vk q Rq ej ek oj ok hj hk h1 h2=>?_⟩
  · rcases ri e with⟨rfl,jL,rfl⟩|⟨nj,Zm⟩
    ·exact⟨_,hv,(lO Fl).mpr ⟨p,o',Bn,h0,hF,aL,hq⟩⟩
    · obtain⟨w,hw,JT⟩:=r.at_ j s Zm;refine⟨w,hw,?_⟩;cases HN:s.own with
      |false=>exact wD HN (cG.refl _) JT
      |true =>
       rw[lO HN] at JT⊢;obtain⟨p2,o2,e2,a0,aF,aH,aq⟩:=JT;have iJ:p2≠p:=fun z=>by subst z;exact r.apart i j sl s v w p2 nj hi Zm ho HN hv hw hp e2
       exact⟨p2,o2,e2,a0,aF,by rw[aK iJ];exact aH,aq⟩
  · have key:∀(j:Nat) sj vj q,(η.set i (some sl'))[j]?=some (some sj)→sj.own=true→σ[j]?=some (some vj)→eu K F vj sj q→∃s,η[j]?=some (some s)∧s.own=true∧eu K F vj s q:=fun j sj vj q ej oj hj hq'=>by
      rcases ri ej with⟨e1,jL,e2⟩|⟨nj,ej⟩
      ·subst e1 e2;rw[hv] at hj;cases hj;have e3:q=p:=hp.back (cG.refl _) hd ho Fl hq';subst e3;exact⟨sl,hi,ho,hp⟩
      ·exact⟨sj,ej,oj,hq'⟩
    obtain⟨s1,e1,o1,q1⟩:=key j sj vj q ej oj hj h1;obtain⟨s2,e2,o2,q2⟩:=key k sk vk q ek ok hk h2;exact r.apart j k s1 s2 vj vk q Rq e1 e2 o1 o2 hj hk q1 q2
theorem rj{sl:Slot}{p:Addr}(h:sl.dir=true):eu K F v sl p↔v=.ref p:=by cases sl<;>first|exact Iff.rfl|cases h
theorem Rel.write(r:Rel K z F H σ η){p:Addr}{sl sl':Slot}{o':HO}(hi:η[i]?=some (some sl))(ho:sl.dir=true)(hp:σ[i]?=some (some (.ref p)))(hq:yd K F sl' o')(hl:tQ o')(hd':sl'.dir=true:=by rfl):Rel K z F (upd H p o') σ (η.set i (some sl')) :=
  r.writeAt hi (Slot.DV ho) (ho.trans hd'.symm) hp ((rj ho).mpr rfl) ((rj hd').mpr rfl) hq hl
theorem Rel.J5(r:Rel K z F H σ η){p:Addr}{sl sl':Slot}{o':HO}(hi:η[i]?=some (some sl))(ho:sl.dir=true)(hp:σ[i]?=some (some (.ref p)))(hl:tQ o')(ht:Rt o'=false)(Fl:sl'.own=false)(JT:j4 K z (upd F p o') (upd H p o') (.ref p) sl'):Rel K z (upd F p o') (upd H p o') σ (η.set i (some sl'))∧cG F (upd F p o'):=by
  obtain⟨v,hv,hs⟩:=r.at_ i sl hi;rw[hp] at hv;cases hv;have Ss:=Slot.DV ho;obtain⟨p',o,e,h0,hF,hH,_⟩:=(lO Ss).mp hs;have ep:eu K F (.ref p) sl p:=(rj ho).mpr rfl;have e2:=e.back (cG.refl _) rfl Ss Ss ep;subst e2;have Hn:cG F (upd F p o'):=fj hF _;have g1:=r.mem.write h0 hF hl ht;refine⟨⟨g1.share g1.base aL h0,by simp[r.len],fun j s e=>?_,fun j k sj sk vj vk q Rq ej ek oj ok hj hk h1 h2=>?_⟩,Hn⟩
  · rcases ri e with⟨rfl,jL,rfl⟩|⟨nj,Zm⟩
    ·exact⟨_,hp,JT⟩
    · obtain⟨w,J4,hq⟩:=r.at_ j s Zm;refine⟨w,J4,?_⟩;cases HN:s.own with
      |false=>exact wD HN Hn hq
      |true =>
       rw[lO HN] at hq⊢;obtain⟨p2,o2,e2,a0,aF,aH,aq⟩:=hq;have iJ:p2≠p:=fun z=>by subst z;exact r.apart i j _ s _ w p2 nj hi Zm Ss HN hp J4 ep e2
       exact⟨p2,o2,e2.mono Hn,a0,by rw[aK iJ];exact aF,by rw[aK iJ];exact aH,aq.mono Hn⟩
  · have key:∀(j:Nat) sj,(η.set i (some sl'))[j]?=some (some sj)→sj.own=true→η[j]?=some (some sj):=fun j sj ej oj=>by
      rcases ri ej with⟨e1,jL,e2⟩|⟨nj,ej⟩
      ·subst e2;rw[Fl] at oj;cases oj
      ·exact ej
    have ej':=key j sj ej oj;have ek':=key k sk ek ok;exact r.apart j k sj sk vj vk q Rq ej' ek' oj ok hj hk (r.Zk Hn ej' oj hj h1).1 (r.Zk Hn ek' ok hk h2).1
theorem Ox{p:Addr}(h:H p=some o):upd H p o=H:=by
  funext b;unfold upd;by_cases e:b=p
  ·rw[az e,e,h]
  ·rw[bh e]
theorem Rel.ownAt(r:Rel K z F H σ η){sl:Slot}(hi:η[i]?=some (some sl))(ho:sl.dir=true):∃p o,σ[i]?=some (some (.ref p))∧z.H₀ p=none∧F p=none∧H p=some o∧yd K F sl o:=by obtain⟨v,hv,hs⟩:=r.at_ i sl hi;obtain⟨p,o,e,a⟩:=(lO (Slot.DV ho)).mp hs;have e2:=(rj ho).mp e;subst e2;exact⟨p,o,hv,a⟩
theorem Rel.share(r:Rel K z F H σ η){ds:List D}(hi:η[i]?=some (some (.ol ds))):∃F',Rel K z F' H σ (η.set i (some (.sh (.lst ds))))∧cG F F':=by obtain⟨p,o,hv,h0,hF,hH,vs,rfl,hq⟩:=r.ownAt hi rfl;have Hn:cG F (upd F p (.lst vs)):=fj hF _;obtain⟨h1,h2⟩:=r.J5 (sl':=.sh (.lst ds)) (o':=.lst vs) hi rfl hv (r.base.Fp _ _ hH) rfl rfl (aW.mpr ⟨p,vs,rfl,m4.of aL,bE Hn _ _ hq⟩);rw[Ox hH] at h1;exact⟨_,h1,h2⟩
def jb(nt:Nat)(fi:List Nat)(η:cQ):cQ:=List.replicate nt none++fi.map fun j=>(η[j]?).getD none
theorem uS{α:Type}{nt:Nat}{η:List (Option α)}{s:α}(h:(List.replicate nt none++fi.map fun j=>(η[j]?).getD none)[i]?=some (some s)):∃j,nt≤i∧fi[i-nt]?=some j∧η[j]?=some (some s):=by
  by_cases hi:i<nt
  ·rw[List.getElem?_append_left (by simpa using hi)] at h;rw[List.getElem?_replicate] at h;split at h<;>cases h
  · rw[Fu (by simp;omega),List.length_replicate,qG] at h;cases e:fi[i-nt]? with
    |none=>rw[e] at h;cases h
    |some j =>
     rw[e] at h;refine⟨j,by omega,rfl,?_⟩;have h':(η[j]?).getD none=some s:=oq h;cases q:η[j]? with
     |none=>rw[q] at h';cases h'
     |some o=>rw[q] at h';rw[show o=some s from h']
theorem Wu{α:Type}{nt:Nat}{η:List (Option α)}{s:α}(hi:nt≤i)(hj:fi[i-nt]?=some j)(h:η[j]?=some (some s)):(List.replicate nt none++fi.map fun j=>(η[j]?).getD none)[i]?=some (some s):=by rw[Fu (by simpa using hi),List.length_replicate,qG,hj];show some ((η[j]?).getD none)=_;rw[h];rfl
theorem Rel.block(r:Rel K z F H σ η)(nt:Nat)(hf:fi.Nodup):Rel K z F H (qW nt fi σ) (jb nt fi η) where
  mem:=r.mem
  len:=by simp[qW,jb]
  at_:=fun i sl e=>by obtain⟨j,hi,hj,h⟩:=uS e;obtain⟨v,hv,hs⟩:=r.at_ j sl h;exact⟨v,Wu hi hj hv,hs⟩
  apart:=fun i j si sj vi vj p wA ei ej oi oj h1 h2 q1 q2=>by obtain⟨a,ha,UG,ha2⟩:=uS ei;obtain⟨b,hb,Fm,Oy⟩:=uS ej;obtain⟨a1,ha1,Zn,UL⟩:=uS h1;obtain⟨b1,hb1,Zo,X1⟩:=uS h2;rw[UG] at Zn;cases Zn;rw[Fm] at Zo;cases Zo;refine r.apart a b si sj vi vj p (fun e=>wA ?_) ha2 Oy oi oj UL X1 q1 q2;subst e;have q:=(List.getElem?_inj (v9.mp UG).1 hf).mp (UG.trans Fm.symm);omega
end
inductive Out where
  |nx (η:cQ)|rt (s:Slot)|bk (η:cQ)|ct (η:cQ)
abbrev EF:=cQ→Option D
abbrev LF:=cQ→Option (List D)
abbrev TF:=cQ→Option Bool
abbrev SF:=cQ→Option Out
abbrev BF:=D→cQ→Option cQ
def vE(K:PySem.W.Frag)(z:Zc)(f:EF):TE:=fun σ H Q=>∃η F d,Rel K z F H σ η∧f η=some d∧∀v H' F',bB F H F' H'→Den K F' d v→Q v H'
def vB(K:PySem.W.Frag)(z:Zc)(f:EF):TE:=fun σ H Q=>∃η F d,Rel K z F H σ η∧f η=some d∧∀v H' F',bB F H F' H'→Den K H' d v→Q v H'
def vO(K:PySem.W.Frag)(z:Zc)(f:LF):TE:=fun σ H Q=>∃η F ds,Rel K z F H σ η∧f η=some ds∧∀p vs H' F',bB F H F' H'→H p=none→F' p=none→H' p=some (.lst vs)→cz K F' ds vs→Q (.ref p) H'
def vT(K:PySem.W.Frag)(z:Zc)(f:TF):TT:=fun σ H Q=>∃η F b,Rel K z F H σ η∧f η=some b∧∀H' F',bB F H F' H'→Q b H'
def nI(K:PySem.W.Frag)(F H:Hp):List Bool→List D→List V→Prop
  |[],[],[]=>True
  |m::ms,d::ds,v::vs=>(match m with|true=>Den K F d v|false=>Den K H d v)∧nI K F H ms ds vs
  |_,_,_=>False
def vM(K:PySem.W.Frag)(z:Zc)(ms:List Bool)(f:LF):TA:=fun σ H Q=>∃η F ds,Rel K z F H σ η∧f η=some ds∧∀vs H' F',bB F H F' H'→nI K F' H' ms ds vs→Q vs H'
def F8(K:PySem.W.Frag)(F H:Hp)(r:Slot)(Q:VK):Prop :=
  match r with
  |.sh d=>∀v H' F',bB F H F' H'→Den K F' d v→Q v H'
  |.ol ds=>∀p vs H' F',bB F H F' H'→H p=none→F' p=none→H' p=some (.lst vs)→cz K F' ds vs→Q (.ref p) H'
  |.pr ds rest=>∀a p vs ws H' F',bB F H F' H'→H p=none→F' p=none→H' p=some (.lst vs)→cz K F' ds vs→F' a=some (.tup (.ref p::ws))→cz K F' rest ws→Q (.ref a) H'
  |.ot aX=>∀p ws H' F',bB F H F' H'→H p=none→F' p=none→H' p=some (.dT ws)→jM K F' aX ws→Q (.ref p) H'
  |_=>False
def L7(K:PySem.W.Frag)(z:Zc)(r:Slot)(Q:VK):Prop :=
  match r with
  |.pn C _=>∀H' F',bB z.F₀ z.H₀ F' H'→z.E C H'
  |r=>F8 K z.F₀ z.H₀ r Q
theorem L7.of{K:PySem.W.Frag}{z:Zc}{r:Slot}{Q:VK}(h:F8 K z.F₀ z.H₀ r Q):L7 K z r Q:=by cases r<;>first|exact h|exact False.elim h
def DX(K:PySem.W.Frag)(z:Zc)(F:Hp)(o:Out)(D:Ends):Prop :=
  match o with
  |.nx η'=>∀σ' H' F',Rel K z F' H' σ' η'→cG F F'→D.nx σ' H'
  |.bk η'=>∀σ' H' F',Rel K z F' H' σ' η'→cG F F'→D.bk σ' H'
  |.ct η'=>∀σ' H' F',Rel K z F' H' σ' η'→cG F F'→D.ct σ' H'
  |.rt r=>L7 K z r D.rt
def vS(K:PySem.W.Frag)(z:Zc)(g:SF):TS:=fun D σ H=>∃η F o,Rel K z F H σ η∧g η=some o∧DX K z F o D
def DE(X:Cx)(z:Zc)(e:Expr)(f:EF):Prop:=PE X e (vE X.K z f)
def DB(X:Cx)(z:Zc)(e:Expr)(f:EF):Prop:=PE X e (vB X.K z f)
def DO(X:Cx)(z:Zc)(e:Expr)(f:LF):Prop:=PE X e (vO X.K z f)
def DT(X:Cx)(z:Zc)(e:Expr)(f:TF):Prop:=PT X e (vT X.K z f)
def DW(X:Cx)(z:Zc)(e:Expr)(f:TF):Prop:=PW X e (vT X.K z f)
def DM(X:Cx)(z:Zc)(es:List Expr)(ms:List Bool)(f:LF):Prop:=PA X es (vM X.K z ms f)
def DS(X:Cx)(z:Zc)(st:Stmt)(g:SF):Prop:=PS X st (vS X.K z g)
def L8(X:Cx)(z:Zc)(sts:List Stmt)(g:SF):Prop:=Bg X sts (vS X.K z g)
theorem PE.weak{t t':TE}(h:PE X e t)(k:∀σ H Q,t' σ H Q→t σ H Q):PE X e t':=fun pins s σ H Q I q=>h pins s σ H Q I (k σ H Q q)
theorem PT.weak{t t':TT}(h:PT X e t)(k:∀σ H Q,t' σ H Q→t σ H Q):PT X e t':=fun pins s σ H Q I q=>h pins s σ H Q I (k σ H Q q)
theorem PW.weak{t t':TT}(h:PW X e t)(k:∀σ H Q,t' σ H Q→t σ H Q):PW X e t':=fun wh pins s σ H Q I q=>h wh pins s σ H Q I (k σ H Q q)
theorem PA.weak{e:List Expr}{t t':TA}(h:PA X e t)(k:∀σ H Q,t' σ H Q→t σ H Q):PA X e t':=fun pos pins s σ H Q I q=>h pos pins s σ H Q I (k σ H Q q)
theorem PS.weak{e:Stmt}{t t':TS}(h:PS X e t)(k:∀D σ H,t' D σ H→t D σ H):PS X e t':=fun pins s σ H D I q=>h pins s σ H D I (k D σ H q)
theorem Bg.weak{e:List Stmt}{t t':TS}(h:Bg X e t)(k:∀D σ H,t' D σ H→t D σ H):Bg X e t':=fun pins s σ H D I q=>h pins s σ H D I (k D σ H q)
section
variable {X:Cx} {z:Zc} {e a b:Expr} {f fa fb:EF} {pos:Pos}
theorem DE.bo(h:DE X z e f):DB X z e f:=PE.weak h fun σ H Q ⟨η,F,d,r,e,k⟩=>⟨η,F,d,r,e,fun v H' F' g q=>k v H' F' g (cA g.base.sub d v q)⟩
def eL(f:LF):EF:=fun η=>(f η).map D.lst
theorem DO.sh{f:LF}(h:DO X z e f):DE X z e (eL f):=PE.weak h fun σ H Q ⟨η,F,d,r,e,k⟩=>by
  unfold eL at e;cases q:f η with
  |none=>rw[q] at e;cases e
  |some ds=>rw[q] at e;cases e;refine⟨η,F,ds,r,q,fun p vs H' F' g hp hF hH hd=>?_⟩;have hs:cG F' (upd F' p (.lst vs)):=fj hF _;exact k _ _ _ (g.share g.base hH hp) (aW.mpr ⟨p,vs,rfl,m4.of aL,bE hs _ _ hd⟩)
theorem DO.bo{f:LF}(h:DO X z e f):DB X z e (eL f):=h.sh.bo
def eI(f:EF):EF:=fun η=>(f η).bind fun d=>if d.A6=true then some d else none
def eV(i:Nat):EF:=fun η=>match η[i]? with
  |some (some (.sh d))=>some d
  |some (some (.br d))=>if d.A6=true then some d else none
  |_=>none
def aJ(i:Nat):EF:=fun η=>match η[i]? with
  |some (some (.sh d))=>some d
  |some (some (.br d))=>some d
  |some (some (.ol ds))=>some (.lst ds)
  |some (some (.pr ds rest))=>some (.tup (.lst ds::rest))
  |some (some (.pn _ d))=>some d
  |_=>none
theorem aG(i:Nat)(hN:X.N[i]?=some x:=by rfl)(hv:FD X.env.scope x:=by first|exact Or.inl rfl|exact Or.inr (Or.inl rfl)|exact Or.inr (Or.inr rfl))(hd:(x==("__debug__":Str))=false:=by decide)(ow:(x==("__classdict__":Str))=false:=by decide):DB X z (.Name x pos) (aJ i):=PE.weak (kJ hN hv hd ow) fun σ H Q ⟨η,F,d,r,e,k⟩=>by
  unfold aJ at e;split at e
  ·rename_i d' h;cases e;obtain⟨v,hv,hs⟩:=r.at_ i _ h;exact⟨v,hv,k v H F (bB.refl r.base) (cA r.base.sub _ _ hs)⟩
  ·rename_i d' h;cases e;obtain⟨v,hv,hs⟩:=r.at_ i _ h;exact⟨v,hv,k v H F (bB.refl r.base) (cA r.mem.ent _ _ hs)⟩
  ·rename_i ds h;cases e;obtain⟨p,o,hv,h0,hF,hH,vs,rfl,hq⟩:=r.ownAt h rfl;exact⟨_,hv,k _ H F (bB.refl r.base) (aW.mpr ⟨p,vs,rfl,m4.of hH,bE r.base.sub _ _ hq⟩)⟩
  ·rename_i ds rest h;cases e;obtain⟨v,hv,p,o,⟨a,ws,rfl,ha,hr⟩,h0,hF,hH,vs,rfl,hq⟩:=r.at_ i _ h;refine⟨_,hv,k _ H F (bB.refl r.base) (aN.mpr ⟨a,_,rfl,r.base.sub _ _ ha,aP.mpr ⟨_,_,rfl,aW.mpr ⟨p,vs,rfl,m4.of hH,bE r.base.sub _ _ hq⟩,bE r.base.sub _ _ hr⟩⟩)⟩
  ·rename_i a d' h;cases e;obtain⟨v,hv,_,hs⟩:=r.at_ i _ h;exact⟨v,hv,k v H F (bB.refl r.base) (cA r.mem.ent _ _ hs)⟩
  ·cases e
theorem aA(i:Nat)(hN:X.N[i]?=some x:=by rfl)(hv:FD X.env.scope x:=by first|exact Or.inl rfl|exact Or.inr (Or.inl rfl)|exact Or.inr (Or.inr rfl))(hd:(x==("__debug__":Str))=false:=by decide)(ow:(x==("__classdict__":Str))=false:=by decide):DE X z (.Name x pos) (eV i):=PE.weak (kJ hN hv hd ow) fun σ H Q ⟨η,F,d,r,e,k⟩=>by
  unfold eV at e;split at e
  ·rename_i d' h;cases e;obtain⟨v,hv,hs⟩:=r.at_ i _ h;exact⟨v,hv,k v H F (bB.refl r.base) hs⟩
  · rename_i d' h;by_cases hi:d'.A6=true
    ·rw[az hi] at e;cases e;obtain⟨v,hv,hs⟩:=r.at_ i _ h;exact⟨v,hv,k v H F (bB.refl r.base) (J3 r.base.tup _ _ hi (cA r.mem.ent _ _ hs))⟩
    ·rw[bh hi] at e;cases e
  ·cases e
def eC(d:D):EF:=fun _=>some d
theorem aB{i j pos}:DE X z (.Constant (.int i) j pos) (eC (.int i)):=PE.weak Vp fun σ H Q ⟨η,F,d,r,e,k⟩=>by cases e;exact k _ H F (bB.refl r.base) (aQ.mpr rfl)
theorem uT{i j pos}:DE X z (.Constant (.bool i) j pos) (eC (.bl i)):=PE.weak Yp fun σ H Q ⟨η,F,d,r,e,k⟩=>by cases e;exact k _ H F (bB.refl r.base) (bT.mpr rfl)
theorem j5{j pos}:DE X z (.Constant .none j pos) (eC .non):=PE.weak Vq fun σ H Q ⟨η,F,d,r,e,k⟩=>by cases e;exact k _ H F (bB.refl r.base) (cg.mpr rfl)
def ag(g:D→D→Option D)(fa fb:EF):EF:=fun η=>(fa η).bind fun x=>(fb η).bind fun y=>g x y
theorem wF{fa fb:EF}{η:cQ}(h:ag g fa fb η=some d):∃x y,fa η=some x∧fb η=some y∧g x y=some d:=by unfold ag at h;obtain⟨x,h1,h⟩:=eJ.mp h;obtain⟨y,h2,h⟩:=eJ.mp h;exact⟨x,y,h1,h2,h⟩
def Nq(K:PySem.W.Frag)(g:D→D→Option D)(r:R2):Prop:=∀(F H:Hp) (x y d:D) (v u:V) (Q:VK),Base F H→g x y=some d→Den K H x v→Den K H y u→(∀w,Den K F d w→Q w H)→r v u H Q
theorem zb{K:PySem.W.Frag}(hg:Nq K g r):∀σ H Q,vE K z (ag g fa fb) σ H Q→YC r (vB K z fa) (vB K z fb) σ H Q:=fun σ H Q ⟨η,F,d,rl,e,k⟩=>by obtain⟨x,y,h1,h2,h3⟩:=wF e;refine⟨η,F,x,rl,h1,fun v H1 F1 g1 q1=>⟨η,F1,y,rl.grow g1,h2,fun u H2 F2 g2 q2=>?_⟩⟩;exact hg F2 H2 x y d v u Q g2.base h3 (cA g2.ent _ _ q1) q2 fun w q=>k w H2 F2 (g1.trans g2) q
theorem rm{op:Operator}(ho:qw X (binaryOp op) r)(hg:Nq X.K g r)(ha:DB X z a fa)(hb:DB X z b fb):DE X z (.BinOp a op b pos) (ag g fa fb):=PE.weak (NK ho ha hb) (zb hg)
theorem zc(ho:qw X (compareOp op) r)(hg:Nq X.K g r)(ha:DB X z a fa)(hb:DB X z b fb)(hm:behindInMarks op b=false):DE X z (.Compare a [op] [b] pos) (ag g fa fb):=PE.weak (RN ho ha hb hm) (zb hg)
def bV(f:EF):TF:=fun η=>(f η).bind fun d=>match d with|.bl b=>some b|_=>none
theorem uU{f:EF}{η:cQ}{b:Bool}(h:bV f η=some b):f η=some (.bl b):=by
  unfold bV at h;obtain⟨d,h1,h2⟩:=eJ.mp h;cases d with
  |bl c=>cases h2;exact h1
  |_=>cases h2
theorem mh(h:DE X z e f)(he:∀whole,isTrue e X.env whole=(do let v ←whole;standAt e.pos;holding [v] (truthy v)):=by intro _;rfl):DT X z e (bV f):=PT.weak (Vr h he) fun σ H Q ⟨η,F,b,r,e,k⟩ =>
  ⟨η,F,_,r,uU e,fun v H' F' g q=>⟨b,bT.mp q,k H' F' g⟩⟩
theorem pY(ho:qw X (compareOp op) r)(hg:Nq X.K g r)(ha:DB X z a fa)(hb:DB X z b fb)(hm:behindInMarks op b=false):DT X z (.Compare a [op] [b] pos) (bV (ag g fa fb)) :=
  PT.weak (RP ho ha hb hm) fun σ H Q ⟨η,F,c,r,e,k⟩=>zb hg σ H _ ⟨η,F,_,r,uU e,fun v H' F' g q=>⟨c,bT.mp q,k H' F' g⟩⟩
variable {ta tb:TF} {rest:List Expr}
def uV(t:TF):TF:=fun η=>(t η).map (!·)
def mj(t u:TF):TF:=fun η=>(t η).bind fun c=>if c=true then some true else u η
theorem DY(ha:DT X z a ta):DT X z (.UnaryOp .Not a pos) (uV ta):=PT.weak (Vs ha) fun σ H Q ⟨η,F,c,r,e,k⟩=>by unfold uV at e;obtain⟨b,h1,h2⟩:=gZ.mp e;subst h2;exact⟨η,F,b,r,h1,k⟩
theorem Sv{K:PySem.W.Frag}:∀σ H Q,vT K z (mj ta tb) σ H Q→tOr (vT K z ta) (vT K z tb) σ H Q:=fun σ H Q ⟨η,F,c,r,e,k⟩=>by
  unfold mj at e;obtain⟨b,h1,h2⟩:=eJ.mp e;refine⟨η,F,b,r,h1,fun H1 F1 g1=>?_⟩;cases b with
  |false=>exact⟨η,F1,c,r.grow g1,h2,fun H2 F2 g2=>k H2 F2 (g1.trans g2)⟩
  |true=>have e2:some true=some c:=h2;cases e2;exact k H1 F1 g1
theorem oQ(ha:DT X z a ta):DW X z (.BoolOp .Or [a] pos) ta:=pw_or1 ha
theorem tR(ha:DT X z a ta)(hb:DW X z (.BoolOp .Or (b::rest) pos) tb):DW X z (.BoolOp .Or (a::b::rest) pos) (mj ta tb):=PW.weak (pw_or ha hb) Sv
theorem DW.t(h:DW X z e ta):DT X z e ta:=PW.pt h
def F9(fa fb:EF):EF:=fun η=>(bV fa η).bind fun c=>if c=true then fb η else some (.bl false)
def Sw(fa:EF):EF:=fun η=>(bV fa η).map fun c=>.bl (!c)
theorem DZ{op}(h:DE X z a fa):DE X z (.BoolOp op [a] pos) fa:=Vt h
theorem zf(ha:DE X z a fa)(hb:DE X z (.BoolOp .And (b::rest) pos) fb):DE X z (.BoolOp .And (a::b::rest) pos) (F9 fa fb):=PE.weak (Vu ha hb) fun σ H Q ⟨η,F,d,r,e,k⟩=>by
  unfold F9 at e;obtain⟨c,h1,h2⟩:=eJ.mp e;refine⟨η,F,_,r,uU h1,fun v H1 F1 g1 q=>⟨c,bT.mp q,?_⟩⟩;cases c with
  |true=>exact⟨η,F1,d,r.grow g1,h2,fun v H2 F2 g2 q2=>k v H2 F2 (g1.trans g2) q2⟩
  |false=>have e2:some (D.bl false)=some d:=h2;cases e2;exact k _ H1 F1 g1 (bT.mpr rfl)
theorem Wv(ha:DE X z a fa):DE X z (.UnaryOp .Not a pos) (Sw fa):=PE.weak (Vv ha) fun σ H Q ⟨η,F,d,r,e,k⟩=>by unfold Sw at e;obtain⟨c,h1,h2⟩:=gZ.mp e;subst h2;exact⟨η,F,_,r,uU h1,fun v H1 F1 g1 q=>⟨c,bT.mp q,k _ H1 F1 g1 (bT.mpr rfl)⟩⟩
variable {es:List Expr} {ms:List Bool} {fs:LF}
def ao:LF:=fun _=>some []
def ae(f:EF)(fs:LF):LF:=fun η=>(f η).bind fun d=>(fs η).map (d::·)
theorem zg{f:EF}{fs:LF}{η:cQ}{l:List D}(h:ae f fs η=some l):∃d r,f η=some d∧fs η=some r∧l=d::r:=by unfold ae at h;obtain⟨d,h1,h⟩:=eJ.mp h;obtain⟨r,h2,h⟩:=gZ.mp h;exact⟨d,r,h1,h2,h.symm⟩
theorem au:DM X z [] [] ao:=PA.weak kK fun σ H Q ⟨η,F,ds,r,e,k⟩=>by cases e;exact k [] H F (bB.refl r.base) True.intro
theorem aj(ha:DE X z e f)(hr:DM X z es ms fs)(hs:starEach (e::es) X.env=(false,eval e X.env)::starEach es X.env:=by rfl):DM X z (e::es) (true::ms) (ae f fs):=PA.weak (fh ha hr hs) fun σ H Q ⟨η,F,ds,r,e,k⟩=>by obtain⟨d,l,h1,h2,rfl⟩:=zg e;refine⟨η,F,d,r,h1,fun v H1 F1 g1 q1=>⟨η,F1,l,r.grow g1,h2,fun vs H2 F2 g2 q2=>?_⟩⟩;exact k _ H2 F2 (g1.trans g2) ⟨cA g2.jy _ _ q1,q2⟩
theorem cB(ha:DB X z e f)(hr:DM X z es ms fs)(hs:starEach (e::es) X.env=(false,eval e X.env)::starEach es X.env:=by rfl):DM X z (e::es) (false::ms) (ae f fs):=PA.weak (fh ha hr hs) fun σ H Q ⟨η,F,ds,r,e,k⟩=>by obtain⟨d,l,h1,h2,rfl⟩:=zg e;refine⟨η,F,d,r,h1,fun v H1 F1 g1 q1=>⟨η,F1,l,r.grow g1,h2,fun vs H2 F2 g2 q2=>?_⟩⟩;exact k _ H2 F2 (g1.trans g2) ⟨cA g2.ent _ _ q1,q2⟩
theorem sM{K:PySem.W.Frag}{F H:Hp}:∀{n:Nat} {ds:List D} {vs:List V},nI K F H (List.replicate n true) ds vs→cz K F ds vs
  |0,[],[],_=>bD.mpr rfl
  |0,_::_,_,h=>h.elim
  |0,[],_::_,h=>h.elim
  |n+1,d::ds,v::vs,h=>aP.mpr ⟨v,vs,rfl,h.1,sM h.2⟩
  |n+1,[],_,h=>h.elim
  |n+1,_::_,[],h=>h.elim
theorem zh{K:PySem.W.Frag}{F H:Hp}(s:cG F H):∀{ms:List Bool} {ds:List D} {vs:List V},nI K F H ms ds vs→cz K H ds vs
  |[],[],[],_=>bD.mpr rfl
  |[],_::_,_,h=>h.elim
  |[],[],_::_,h=>h.elim
  |m :: ms,d::ds,v::vs,h=>aP.mpr ⟨v,vs,rfl,by
     cases m with
     |true=>exact cA s _ _ h.1
     |false=>exact h.1,zh s h.2⟩
  |_::_,[],_,h=>h.elim
  |_::_,_::_,[],h=>h.elim
theorem nJ{K:PySem.W.Frag}{F H:Hp}:∀{ms:List Bool} {ds:List D} {vs:List V},nI K F H ms ds vs→ms.length=vs.length∧ms.length=ds.length
  |[],[],[],_=>⟨rfl,rfl⟩
  |[],_::_,_,h=>h.elim
  |[],[],_::_,h=>h.elim
  |m::ms,d::ds,v::vs,h=>by have:=nJ h.2;simp[this.1,this.2];omega
  |_::_,[],_,h=>h.elim
  |_::_,_::_,[],h=>h.elim
def fX(fs:LF):EF:=fun η=>(fs η).bind fun ds=>if ds.length≤1000 then some (.tup ds) else none
theorem gy{x1}(h:DM X z es (List.replicate n true) fs):DE X z (.Tuple es x1 pos) (fX fs):=PE.weak (NR h) fun σ H Q ⟨η,F,d,r,e,k⟩=>by
  unfold fX at e;obtain⟨ds,h1,h2⟩:=eJ.mp e;by_cases hl:ds.length≤1000
  · rw[az hl] at h2;cases h2;refine⟨η,F,ds,r,h1,fun vs H' F' g q=>?_⟩;have q:=sM q;have hz:vs.length≤sizeLine:=by rw[←bu q];exact J0 hl
    refine⟨hz,fun p hp=>?_⟩;have g2:=bB.put g.base hp (.tup vs) hz;exact k _ _ _ (g.trans g2) (aN.mpr ⟨p,vs,rfl,aL,bE g2.jy _ _ q⟩)
  ·rw[bh hl] at h2;cases h2
def oR(fs:LF):LF:=fun η=>(fs η).bind fun ds=>if ds.length≤1000 then some ds else none
theorem nK(h:DM X z es (List.replicate n true) fs):DO X z (.List es pos) (oR fs):=PE.weak (VY h) fun σ H Q ⟨η,F,d,r,e,k⟩=>by
  unfold oR at e;obtain⟨ds,h1,h2⟩:=eJ.mp e;by_cases hl:ds.length≤1000
  · rw[az hl] at h2;cases h2;refine⟨η,F,_,r,h1,fun vs H' F' g q=>?_⟩;have q:=sM q;have hz:vs.length≤sizeLine:=by rw[←bu q];exact J0 hl
    refine⟨hz,fun p hp=>?_⟩;have g2:=bB.own g.base hp (.lst vs) hz rfl;exact k p vs _ F' (g.trans g2) (g.ent.free hp) (g.base.sub.free hp) aL q
  ·rw[bh hl] at h2;cases h2
end
def cL(K:PySem.W.Frag)(ms:List Bool)(Fn:List D→Option Slot):Sp:=fun vs H Q _=>∃F ds r,Base F H∧nI K F H ms ds vs∧Fn ds=some r∧F8 K F H r Q
def eR(n:Nat)(ms:List Bool)(ds:List D):cQ:=(List.zipWith (fun m d=>some (match m with|true=>Slot.sh d|false=>Slot.br d)) ms ds)++List.replicate (n-ds.length) none
def jz(n:Nat)(ms:List Bool)(g:SF):List D→Option Slot:=fun ds=>match g (eR n ms ds) with
  |some (.rt r)=>some r
  |some (.nx _)=>some (.sh .non)
  |_=>none
section
variable {K:PySem.W.Frag} {F H:Hp}
theorem J6:∀{ms:List Bool} {ds:List D} {vs:List V},nI K F H ms ds vs→∀(i:Nat) sl,(List.zipWith (fun m d=>some (match m with|true=>Slot.sh d|false=>Slot.br d)) ms ds)[i]?=some (some sl)→sl.own=false∧∃v,(vs.map some)[i]?=some (some v)∧j4 K ⟨F,H,Ez⟩ F H v sl
  |[],[],[],_,i,sl,e=>by simp at e
  |[],_::_,_,h,_,_,_=>h.elim
  |[],[],_::_,h,_,_,_=>h.elim
  |_::_,[],_,h,_,_,_=>h.elim
  |_::_,_::_,[],h,_,_,_=>h.elim
  |m::ms,d::ds,v::vs,h,0,sl,e=>by
   simp at e;subst e;cases m with
   |true=>exact⟨rfl,v,rfl,h.1⟩
   |false=>exact⟨rfl,v,rfl,h.1⟩
  |m::ms,d::ds,v::vs,h,i+1,sl,e=>by obtain⟨h1,w,h2,h3⟩:=J6 h.2 i sl (by simpa using e);exact⟨h1,w,by simpa using h2,h3⟩
theorem sN{Ez:Addr→Hp→Prop}{ms:List Bool}{ds:List D}{vs:List V}(b:Base F H)(h:nI K F H ms ds vs):Rel K ⟨F,H,Ez⟩ F H (L2.start N vs) (eR N.length ms ds):=by
  obtain⟨l1,l2⟩:=nJ h;have lz:(List.zipWith (fun m d=>some (match m with|true=>Slot.sh d|false=>Slot.br d)) ms ds).length=ds.length:=by rw[List.length_zipWith];omega
  have key:∀(i:Nat) sl,(eR N.length ms ds)[i]?=some (some sl)→sl.own=false∧∃v,(L2.start N vs)[i]?=some (some v)∧j4 K ⟨F,H,Ez⟩ F H v sl:=fun i sl e=>by
    unfold eR at e;by_cases hi:i<ds.length
    ·rw[List.getElem?_append_left (by rw[lz];exact hi)] at e;obtain⟨h1,v,h2,h3⟩:=J6 h i sl e;refine⟨h1,v,?_,h3⟩;unfold L2.start;rw[List.getElem?_append_left (by rw[g9];omega)];exact h2
    ·rw[Fu (by rw[lz];omega),List.getElem?_replicate] at e;split at e<;>cases e
  refine⟨bB.refl b,?_,fun i sl e=>(key i sl e).2,fun i j si sj vi vj p _ e _ o _ _ _ _ _=>by rw[(key i si e).1] at o;cases o⟩;unfold L2.start eR;rw[kI,kI,lz,g9,List.length_replicate,List.length_replicate];omega
end
theorem bM{K:PySem.W.Frag}{base:Heap}{st:Stmt}{f:Addr}{ps:gq}{ms:List Bool}{g:SF}(F:kE K x qual st f fd)(S:aV N ps (ay st))(D0:ms.length=ps.length)(hb:∀(eQ:Value) (A:Around) (outer:List Env) (s:Shared) (H:Hp) (E:XK) (z:Zc),fG k (A.deeper (envOfC qual (ay st) s.heap.objs.size f eQ))→L8 (ya i7 P w K mg base N qual (ay st) f eQ A outer s H E).Hs z (dD st) g):cI P w K mg base i7 (k+1) f fd ps (cL K ms (jz N.length ms g)):=by
  refine F.ok S (fun vs H Q E h=>?_) (fun eQ A outer s H vs Q E hr h=>?_)
  ·obtain⟨F,ds,r,_,a,_⟩:=h;rw[←D0,(nJ a).1]
  · obtain⟨F,ds,r,b,a,e,q⟩:=h;refine⟨_,hb eQ A outer s H E ⟨F,H,fun _ _=>False⟩ hr,?_⟩;have rl:Rel K ⟨F,H,fun _ _=>False⟩ F H (L2.start N vs) (eR N.length ms ds):=sN b a;unfold jz at e;cases o:g (eR N.length ms ds) with
    |none=>rw[o] at e;cases e
    |some o' =>
     rw[o] at e;refine⟨_,F,o',rl,o,?_⟩;cases o' with
     |rt r'=>cases e;exact L7.of (z:=⟨F,H,fun _ _=>False⟩) q
     |nx η'=>cases e;exact fun σ' H' F' r' _=>q .non H' F' r'.mem (cg.mpr rfl)
     |bk _=>cases e
     |ct _=>cases e
section
variable {X:Cx} {z:Zc} {e a b:Expr} {f fa fb:EF} {pos p:Pos} {es:List Expr} {ms:List Bool} {fs:LF}
def ax(Fn:List D→Option Slot)(fs:LF):EF:=fun η=>(fs η).bind fun ds=>(Fn ds).bind fun r=>match r with|.sh d=>some d|.ol ds=>some (.lst ds)|.pr ds rest=>some (.tup (.lst ds::rest))|_=>none
def J7(Fn:List D→Option Slot)(fs:LF):LF:=fun η=>(fs η).bind fun ds=>(Fn ds).bind fun r=>match r with|.ol ds=>some ds|_=>none
theorem aI{ps:gq}{Fn:List D→Option Slot}(C:fV X.prog X.w X.K X.mg X.base k fn ps (cL X.K ms Fn))(hr:fG k X.A)(hg:Gl X x)(hm:X.mg x=some (.ref fn))(ha:DM X z (e::es) ms fs)(tm:(x==("__debug__":Str))=false:=by decide)(he:starEach (e::es) X.env=(false,eval e X.env)::starEach es X.env:=by rfl)(tq:(backTo pos (starEach es X.env)).any (·.1)=false:=by rfl):DE X z (.Call (.Name x p) (e::es) [] pos) (ax Fn fs):=PE.weak (DR C hr hg hm ha tm he tq) fun σ H Q ⟨η,F,d,r,e,k⟩=>by
  unfold ax at e;obtain⟨ds,h1,h⟩:=eJ.mp e;obtain⟨s,h2,h⟩:=eJ.mp h;refine⟨η,F,ds,r,h1,fun vs H1 F1 g1 q1=>?_⟩;show cL X.K ms Fn (vs++[]) H1 Q E0;rw[uH];refine⟨F1,ds,s,g1.base,q1,h2,?_⟩;cases s with
  |sh d'=>cases h;exact fun v H' F' g2 q2=>k v H' F' (g1.trans g2) q2
  |ol tF=>cases h;intro p vs H' F' g2 hp hF hH hd;have hs:cG F' (upd F' p (.lst vs)):=fj hF _;exact k _ _ _ ((g1.trans g2).share g2.base hH (g1.ent.free hp)) (aW.mpr ⟨p,vs,rfl,m4.of aL,bE hs _ _ hd⟩)
  |pr tF UK=>cases h;intro a p vs ws H' F' g2 hp hF hH hd ha hr;have hs:cG F' (upd F' p (.lst vs)):=fj hF _;exact k _ _ _ ((g1.trans g2).share g2.base hH (g1.ent.free hp)) (aN.mpr ⟨a,_,rfl,hs _ _ ha,aP.mpr ⟨_,_,rfl,aW.mpr ⟨p,vs,rfl,m4.of aL,bE hs _ _ hd⟩,bE hs _ _ hr⟩⟩)
  |_=>cases h
theorem Sx{ps:gq}{Fn:List D→Option Slot}(C:fV X.prog X.w X.K X.mg X.base k fn ps (cL X.K ms Fn))(hr:fG k X.A)(hg:Gl X x)(hm:X.mg x=some (.ref fn))(ha:DM X z (e::es) ms fs)(tm:(x==("__debug__":Str))=false:=by decide)(he:starEach (e::es) X.env=(false,eval e X.env)::starEach es X.env:=by rfl)(tq:(backTo pos (starEach es X.env)).any (·.1)=false:=by rfl):DO X z (.Call (.Name x p) (e::es) [] pos) (J7 Fn fs):=PE.weak (DR C hr hg hm ha tm he tq) fun σ H Q ⟨η,F,d,r,e,k⟩=>by
  unfold J7 at e;obtain⟨ds,h1,h⟩:=eJ.mp e;obtain⟨s,h2,h⟩:=eJ.mp h;refine⟨η,F,ds,r,h1,fun vs H1 F1 g1 q1=>?_⟩;show cL X.K ms Fn (vs++[]) H1 Q E0;rw[uH];refine⟨F1,ds,s,g1.base,q1,h2,?_⟩;cases s with
  |ol tF=>cases h;exact fun p vs H' F' g2 hp hF hH hd=>k p vs H' F' (g1.trans g2) (g1.ent.free hp) hF hH hd
  |_=>cases h
def J8(K:PySem.W.Frag)(g:List D→Option D)(r:List V→Hp→VK→Prop):Prop:=∀(F H:Hp) (ds:List D) (d:D) (vs:List V) (Q:VK),Base F H→g ds=some d→cz K H ds vs→(∀w,Den K F d w→Q w H)→r vs H Q
def jN(g:List D→Option D)(fs:LF):EF:=fun η=>(fs η).bind g
theorem bU{id:String}{g:List D→Option D}{r:List V→Hp→VK→Prop}(hc:qx X (.builtin id) r)(hgd:J8 X.K g r)(hg:Gl X x)(hm:X.mg x=none)(hv:bootBuiltins x=some (.builtin id))(ha:DM X z (e::es) ms fs)(hn:x≠"__name__":=by decide)(tm:(x==("__debug__":Str))=false:=by decide)(he:starEach (e::es) X.env=(false,eval e X.env)::starEach es X.env:=by rfl)(tq:(backTo pos (starEach es X.env)).any (·.1)=false:=by rfl):DE X z (.Call (.Name x p) (e::es) [] pos) (jN g fs):=PE.weak (qR hc hg hm hv ha hn tm he tq) fun σ H Q ⟨η,F,d,r,e,k⟩=>by
  unfold jN at e;obtain⟨ds,h1,h⟩:=eJ.mp e;exact⟨η,F,ds,r,h1,fun vs H1 F1 g1 q1=>hgd F1 H1 ds d vs Q g1.base h (zh g1.base.sub q1) fun w q=>k w H1 F1 g1 q⟩
theorem Ga{K:PySem.W.Frag}{vs:List V}(h:cz K F [d] vs):∃v,vs=[v]∧Den K F d v:=by obtain⟨v,r,rfl,h1,h2⟩:=aP.mp h;rw[bD.mp h2];exact⟨v,rfl,h1⟩
def dS:List D→Option D
  |[.lst ds]=>some (.int ds.length)
  |[.tup ds]=>some (.int ds.length)
  |_=>none
theorem fY{K:PySem.W.Frag}:J8 K dS (fun xs H Q=>∃p ys,xs=[.ref p]∧(m4 K H p ys∨kA K H p ys)∧Q (.int ys.length) H):=fun F H ds d vs Q b e h k=>by
  unfold dS at e;split at e
  ·cases e;obtain⟨v,rfl,h'⟩:=Ga h;obtain⟨a,ws,rfl,h1,h2⟩:=aW.mp h';exact⟨a,ws,rfl,.inl h1,k _ (aQ.mpr (by rw[bu h2]))⟩
  ·cases e;obtain⟨v,rfl,h'⟩:=Ga h;obtain⟨a,ws,rfl,h1,h2⟩:=aN.mp h';exact⟨a,ws,rfl,.inr (kA.of h1),k _ (aQ.mpr (by rw[bu h2]))⟩
  ·cases e
def kF:List D→Option aO
  |[]=>some []
  |.int i::ds=>(kF ds).map (i::·)
  |_::_=>none
theorem j6:∀{ds:List D} {ns:aO},kF ds=some ns→ds=ns.map D.int
  |[],ns,h=>by cases h;rfl
  |.int i::ds,ns,h=>by obtain⟨r,h1,h2⟩:=gZ.mp h;subst h2;rw[j6 h1];rfl
theorem du:∀(ns:aO),kF (ns.map D.int)=some ns
  |[]=>rfl
  |n::ns=>by show(kF (ns.map D.int)).map (n::·)=_;rw[du ns];rfl
def ye:List D→Option D
  |[.lst ds]=>(kF ds).map fun ns=>.int ns.sum
  |_=>none
theorem zi{K:PySem.W.Frag}:J8 K ye (fun xs H Q=>∃(p:Addr) (ns:aO),xs=[.ref p]∧m4 K H p (ns.map V.int)∧Q (.int ns.sum) H):=fun F H ds d vs Q b e h k=>by
  unfold ye at e;split at e
  ·obtain⟨ns,h1,rfl⟩:=gZ.mp e;obtain⟨v,rfl,h'⟩:=Ga h;obtain⟨a,ws,rfl,h2,h3⟩:=aW.mp h';rw[j6 h1] at h3;rw[iq h3] at h2;exact⟨a,ns,rfl,h2,k _ (aQ.mpr rfl)⟩
  ·cases e
def di:D→Option (List D)
  |.lst ds=>some ds
  |.tup ds=>some ds
  |_=>none
def ml(f:EF):EF:=fun η=>(f η).bind fun d=>(di d).map D.tup
theorem ro(hx:x="tuple")(hg:Gl X x)(hm:X.mg x=none)(ha:DE X z e f)(hs:starEach [e] X.env=(false,eval e X.env)::starEach [] X.env:=by rfl):DE X z (.Call (.Name x p) [e] [] pos) (ml f):=by
  subst hx;refine PE.weak (B4 Bl hg hm yV (fh ha kK hs) (by decide) (by decide) hs rfl) fun σ H Q ⟨η,F,d,r,e,k⟩=>?_;unfold ml at e;obtain⟨d',h1,h⟩:=eJ.mp e;obtain⟨ds,h2,rfl⟩:=gZ.mp h;refine⟨η,F,d',r,h1,fun v H1 F1 g1 q1=>?_⟩;cases d' with
  |lst tF =>
   cases h2;obtain⟨a,ws,rfl,h3,h4⟩:=aW.mp q1;have hz:ws.length≤sizeLine:=by
     rcases h3 with(h3|⟨o,h3⟩)|⟨o,its,n,_,_,_,_,hz,hv⟩
     ·exact g1.base.Fp _ _ (g1.base.sub _ _ h3)
     ·exact g1.base.Fp _ _ (g1.base.sub _ _ h3)
     ·rw[hv.length];simpa using hz
   refine⟨a,ws,rfl,.inl ⟨g1.base.sub.seq h3,fun l hl=>?_⟩⟩;have g2:=bB.put g1.base hl (.tup ws) hz;exact k _ _ _ (g1.trans g2) (aN.mpr ⟨l,ws,rfl,aL,bE g2.jy _ _ h4⟩)
  |tup tF=>cases h2;obtain⟨a,ws,rfl,h3,h4⟩:=aN.mp q1;exact⟨a,ws,rfl,.inr ⟨kA.of (g1.base.sub _ _ h3),k _ _ _ g1 q1⟩⟩
  |_=>cases h2
def Gb(f:EF):LF:=fun η=>(f η).bind di
theorem yA{K:PySem.W.Frag}(b:Base F H){a:Addr}{ws:List V}(h:m4 K H a ws):ws.length≤sizeLine:=by
  rcases h with(h3|⟨o,h3⟩)|⟨o,its,n,_,_,_,_,hz,hv⟩
  ·exact b.Fp _ _ h3
  ·exact b.Fp _ _ h3
  ·rw[hv.length];simpa using hz
theorem J9(hx:x="list")(hg:Gl X x)(hm:X.mg x=none)(ha:DE X z e f)(hs:starEach [e] X.env=(false,eval e X.env)::starEach [] X.env:=by rfl):DO X z (.Call (.Name x p) [e] [] pos) (Gb f):=by
  subst hx;refine PE.weak (B4 Dx hg hm DC (fh ha kK hs) (by decide) (by decide) hs rfl) fun σ H Q ⟨η,F,d,r,e,k⟩=>?_;unfold Gb at e;obtain⟨d',h1,h2⟩:=eJ.mp e;refine⟨η,F,d',r,h1,fun v H1 F1 g1 q1=>?_⟩;cases d' with
  |lst tF=>cases h2;obtain⟨a,ws,rfl,h3,h4⟩:=aW.mp q1;have UM:=g1.base.sub.seq h3;refine⟨a,ws,rfl,.inl UM,fun l hl=>?_⟩;have g2:=bB.own g1.base hl (.lst ws) (yA g1.base UM) rfl;exact k l ws _ F1 (g1.trans g2) (g1.ent.free hl) (g1.base.sub.free hl) aL h4
  |tup tF=>cases h2;obtain⟨a,ws,rfl,h3,h4⟩:=aN.mp q1;refine⟨a,ws,rfl,.inr (kA.of (g1.base.sub _ _ h3)),fun l hl=>?_⟩;have g2:=bB.own g1.base hl (.lst ws) (show ws.length≤sizeLine from g1.base.Fp _ _ (g1.base.sub _ _ h3)) rfl;exact k l ws _ F1 (g1.trans g2) (g1.ent.free hl) (g1.base.sub.free hl) aL h4
  |_=>cases h2
def iX:D→D→Option D
  |.lst ds,.int i=>qy ds i
  |.tup ds,.int i=>qy ds i
  |_,_=>none
theorem yB{K:PySem.W.Frag}{ds:List D}{vs:List V}{i:Int}(h:cz K F ds vs)(e:qy ds i=some d):∃v,qy vs i=some v∧Den K F d v:=by unfold qy at e⊢;rw[bu h] at e;obtain⟨j,h1,h2⟩:=eJ.mp e;obtain⟨v,h3,h4⟩:=F6 h h2;exact⟨v,by rw[h1];exact h3,h4⟩
theorem lP(ha:DB X z a fa)(hb:DB X z b fb)(hs:yy b:=by intro _ _;rfl):DB X z (.Subscript a b pos) (ag iX fa fb):=PE.weak (N3 (JN.or HB) ha hb hs) fun σ H Q ⟨η,F,d,r,e,k⟩=>by
  obtain⟨x,y,h1,h2,h3⟩:=wF e;refine⟨η,F,x,r,h1,fun v H1 F1 g1 q1=>⟨η,F1,y,r.grow g1,h2,fun u H2 F2 g2 q2=>?_⟩⟩;have q1:=cA g2.ent _ _ q1;unfold iX at h3;split at h3
  ·obtain⟨a,ws,rfl,h4,h5⟩:=aW.mp q1;rw[aQ.mp q2];obtain⟨v,h6,h7⟩:=yB h5 h3;exact .inl ⟨a,ws,_,v,rfl,rfl,h4,h6,k v H2 F2 (g1.trans g2) h7⟩
  ·obtain⟨a,ws,rfl,h4,h5⟩:=aN.mp q1;rw[aQ.mp q2];obtain⟨v,h6,h7⟩:=yB h5 h3;exact .inr ⟨a,ws,_,v,rfl,rfl,kA.of h4,h6,k v H2 F2 (g1.trans g2) h7⟩
  ·cases h3
theorem jO(ha:DE X z a fa)(hb:DB X z b fb)(hs:yy b:=by intro _ _;rfl):DE X z (.Subscript a b pos) (ag iX fa fb):=PE.weak (N3 (JN.or HB) ha hb hs) fun σ H Q ⟨η,F,d,r,e,k⟩=>by
  obtain⟨x,y,h1,h2,h3⟩:=wF e;refine⟨η,F,x,r,h1,fun v H1 F1 g1 q1=>⟨η,F1,y,r.grow g1,h2,fun u H2 F2 g2 q2=>?_⟩⟩;have q1:=cA g2.jy _ _ q1;unfold iX at h3;split at h3
  ·obtain⟨a,ws,rfl,h4,h5⟩:=aW.mp q1;rw[aQ.mp q2];obtain⟨v,h6,h7⟩:=yB h5 h3;exact .inl ⟨a,ws,_,v,rfl,rfl,g2.base.sub.seq h4,h6,k v H2 F2 (g1.trans g2) h7⟩
  ·obtain⟨a,ws,rfl,h4,h5⟩:=aN.mp q1;rw[aQ.mp q2];obtain⟨v,h6,h7⟩:=yB h5 h3;exact .inr ⟨a,ws,_,v,rfl,rfl,kA.of (g2.base.sub _ _ h4),h6,k v H2 F2 (g1.trans g2) h7⟩
  ·cases h3
def L9(cs:aO)(f:EF):EF:=fun η=>(f η).bind fun d=>match d with|.int i=>(qy cs i).map D.int|_=>none
theorem Ww{c:Addr}{cs:aO}(hg:Gl X x)(hm:X.mg x=some (.ref c))(hq:∀H,kA X.K H c (cs.map V.int))(hb:DB X z b fb)(hs:yy b:=by intro _ _;rfl)(hd:(x==("__debug__":Str))=false:=by decide):DE X z (.Subscript (.Name x px) b pos) (L9 cs fb):=PE.weak (N3 HB (RB (v:=.ref c) hg hm rfl hd) hb hs) fun σ H Q ⟨η,F,d,r,e,k⟩=>by
  unfold L9 at e;obtain⟨y,h1,h2⟩:=eJ.mp e;refine⟨η,F,y,r,h1,fun u H2 F2 g2 q2=>?_⟩;cases y with
  |int i=>obtain⟨c',h3,h4⟩:=gZ.mp h2;subst h4;rw[aQ.mp q2];refine⟨c,_,i,.int c',rfl,rfl,hq H2,?_,k _ H2 F2 g2 (aQ.mpr rfl)⟩;unfold qy at h3⊢;rw[g9];obtain⟨j,h5,h6⟩:=eJ.mp h3;rw[h5];show(cs.map V.int)[j]?=_;rw[qG,h6];rfl
  |_=>cases h2
abbrev PF:=cQ→Option (Option Int)
def vP(K:PySem.W.Frag)(z:Zc)(f:PF):TO:=fun σ H Q=>∃η F o,Rel K z F H σ η∧f η=some o∧∀H' F',bB F H F' H'→Q o H'
def DP(X:Cx)(z:Zc)(e:Option Expr)(f:PF):Prop:=PO X e (vP X.K z f)
def tT:PF:=fun _=>some none
def oB(f:EF):PF:=fun η=>(f η).bind fun d=>match d with|.int i=>some (some i)|_=>none
theorem PO.weak{e:Option Expr}{t t':TO}(h:PO X e t)(k:∀σ H Q,t' σ H Q→t σ H Q):PO X e t':=fun pins s σ H Q I q=>h pins s σ H Q I (k σ H Q q)
theorem uW:DP X z none tT:=PO.weak R0 fun σ H Q ⟨η,F,o,r,e,k⟩=>by cases e;exact k H F (bB.refl r.base)
theorem pZ(h:DB X z e f):DP X z (some e) (oB f):=PO.weak (R3 h) fun σ H Q ⟨η,F,o,r,e,k⟩=>by
  unfold oB at e;obtain⟨d,h1,h2⟩:=eJ.mp e;cases d with
  |int i=>cases h2;exact⟨η,F,_,r,h1,fun v H' F' g q=>⟨i,aQ.mp q,k H' F' g⟩⟩
  |_=>cases h2
def cutD(ds:List D)(lo hi:Option Int):List D:=(ds.drop (HT.uE ds.length 0 lo)).take (HT.uE ds.length ds.length hi-HT.uE ds.length 0 lo)
def kN(f:EF)(pl ph:PF):LF:=fun η=>(f η).bind fun d=>(pl η).bind fun l=>(ph η).bind fun h=>match d with|.lst ds=>some (cutD ds l h)|_=>none
theorem pH{lo hi:Option Expr}{pl ph:PF}(ha:DE X z e f)(hl:DP X z lo pl)(hh:DP X z hi ph):DO X z (.Subscript e (.Slice lo hi none p2) pos) (kN f pl ph):=PE.weak (N2 R6 ha hl hh) fun σ H Q ⟨η,F,d,r,e,k⟩=>by
  unfold kN at e;obtain⟨d',h1,e⟩:=eJ.mp e;obtain⟨l,h2,e⟩:=eJ.mp e;obtain⟨h,h3,e⟩:=eJ.mp e;cases d' with
  |lst ds=>cases e;refine⟨η,F,_,r,h1,fun v H1 F1 g1 q1=>⟨η,F1,l,r.grow g1,h2,fun H2 F2 g2=>⟨η,F2,h,(r.grow g1).grow g2,h3,fun H3 F3 g3=>?_⟩⟩⟩;obtain⟨a,ws,rfl,h4,h5⟩:=aW.mp (cA (g2.jy.trans g3.jy) _ _ q1);refine⟨a,ws,rfl,g3.base.sub.seq h4,fun p hp=>?_⟩;have hz:(Hz ws l h).length≤sizeLine:=pU (xI _ _ _) (yA g3.base (g3.base.sub.seq h4));have g4:=bB.own g3.base hp (.lst (Hz ws l h)) hz rfl;have Zq:=(g1.trans g2).trans g3;refine k p _ _ F3 (Zq.trans g4) (Zq.ent.free hp) (g3.base.sub.free hp) aL ?_;unfold cutD Hz;rw[bu h5];exact B9 _ (Ca _ h5)
  |_=>cases e
theorem Br(h:n≤10000):n≤sizeLine:=pU h (by rw[kD];decide)
def Zr(K:PySem.W.Frag):R2:=fun x y H Q=>∃l b xs zs,x=.ref l∧y=.ref b∧m4 K H l xs∧m4 K H b zs∧xs.length+zs.length≤sizeLine∧∀p,H p=none→Q (.ref p) (upd H p (.lst (xs++zs)))
theorem Sy:qw X (binaryOp .Add) (Zr X.K):=by
  intro pins s σ H x y v u Q I rx ry h;obtain⟨l,b,xs,zs,rfl,rfl,hH,hB,hz,q⟩:=h;cases rx;cases ry;obtain⟨its,r,hl,_⟩:=I.list hH;obtain⟨eK,r2,hl2,_⟩:=I.list hB;obtain⟨⟨cls,dd,data,sl⟩,ho,hc,n,hd⟩:=hl.isList;obtain⟨⟨V0,Rn,data2,Ro⟩,LJ,N1,n2,hd2⟩:=hl2.isList;simp only at hc hd N1 hd2;subst hc hd N1 hd2;have e1:=r.length;have e2:=r2.length;have ea:its.toArray++eK.toArray=(its++eK).toArray:=by simp
  refine concat_meets ⟨_,ho,rfl⟩ ⟨_,LJ,rfl⟩ noFill_list_add seq_list_add PySem.F.slot_list_add PySem.F.entry_list_add (PySem.F.args_list_add_2 _ _) (list_addW l b its.toArray eK.toArray n n2 dd Rn sl Ro (by simp;omega)) ⟨ho,LJ,?_⟩;rw[ea];exact⟨.ref _,_,I.ab2 (t':=s.toks) (r.append r2) (by rw[kI];omega),rfl,q _ I.fresh⟩
def HP:D→D→Option (List D)
  |.lst x,.lst y=>if x.length+y.length≤10000 then some (x++y) else none
  |_,_=>none
def yf(fa fb:EF):LF:=fun η=>(fa η).bind fun x=>(fb η).bind fun y=>HP x y
theorem Ma{x y:D}{l:List D}(h:HP x y=some l):∃u v,x=.lst u∧y=.lst v∧u.length+v.length≤10000∧l=u++v:=by
  unfold HP at h;split at h
  · rename_i u v;by_cases hl:u.length+v.length≤10000
    ·rw[az hl] at h;cases h;exact⟨u,v,rfl,rfl,hl,rfl⟩
    ·rw[bh hl] at h;cases h
  ·cases h
theorem D1(ha:DE X z a fa)(hb:DE X z b fb):DO X z (.BinOp a .Add b pos) (yf fa fb):=PE.weak (NK Sy ha hb) fun σ H Q ⟨η,F,d,r,e,k⟩=>by unfold yf at e;obtain⟨x,h1,e⟩:=eJ.mp e;obtain⟨y,h2,e⟩:=eJ.mp e;obtain⟨u,w,rfl,rfl,hl,rfl⟩:=Ma e;refine⟨η,F,_,r,h1,fun v1 H1 F1 g1 q1=>⟨η,F1,_,r.grow g1,h2,fun v2 H2 F2 g2 q2=>?_⟩⟩;obtain⟨a1,vs,rfl,a2,a3⟩:=aW.mp (cA g2.jy _ _ q1);obtain⟨b1,ws,rfl,b2,b3⟩:=aW.mp q2;have l1:=bu a3;have l2:=bu b3;refine⟨a1,b1,vs,ws,rfl,rfl,g2.base.sub.seq a2,g2.base.sub.seq b2,Br (by omega),fun q hq=>?_⟩;have g3:=bB.own g2.base hq (.lst (vs++ws)) (show(vs++ws).length≤sizeLine by rw[kI];exact Br (by omega)) rfl;have A7:=g1.trans g2;exact k q _ _ F2 (A7.trans g3) (A7.ent.free hq) (g2.base.sub.free hq) aL (oA a3 b3)
def Nr:D→Option V
  |.non=>some .non
  |.bl b=>some (.bl b)
  |.int i=>some (.int i)
  |.str x=>some (.str x)
  |_=>none
theorem sO{K:PySem.W.Frag}{w:V}(h:Den K F d v)(e:Nr d=some w):v=w∧tO w=true:=by
  cases d with
  |non=>cases e;exact⟨cg.mp h,rfl⟩
  |bl _=>cases e;exact⟨bT.mp h,rfl⟩
  |int _=>cases e;exact⟨aQ.mp h,rfl⟩
  |str _=>cases e;exact⟨cW.mp h,rfl⟩
  |_=>cases e
def Sz:List D→Option (List V)
  |[]=>some []
  |d::ds=>(Nr d).bind fun v=>(Sz ds).map (v::·)
theorem zj{K:PySem.W.Frag}{F:Hp}:∀{ds:List D} {vs ws:List V},cz K F ds vs→Sz ds=some ws→vs=ws∧ws.all tO=true
  |[],vs,ws,h,e=>by cases e;exact⟨bD.mp h,rfl⟩
  |d::ds,vs,ws,h,e=>by obtain⟨v,h1,e⟩:=eJ.mp e;obtain⟨r,h2,rfl⟩:=gZ.mp e;obtain⟨v',r',rfl,h3,h4⟩:=aP.mp h;obtain⟨e1,f1⟩:=sO h3 h1;obtain⟨e2,f2⟩:=zj h4 h2;subst e1 e2;exact⟨rfl,by rw[mZ,f1,f2];rfl⟩
theorem wG:∀(ns:aO),Sz (ns.map D.int)=some (ns.map V.int)
  |[]=>rfl
  |n::ns=>by show(some (V.int n)).bind _=_;simp[wG ns]
def inD(neg:Bool):D→D→Option D:=fun x y=>(Nr x).bind fun v=>(di y).bind fun ds=>(Sz ds).map fun ws=>.bl (if neg then !XU v ws else XU v ws)
theorem UN{K:PySem.W.Frag}(neg:Bool):Nq K (inD neg) (rIn K neg):=fun F H x y d v u Q b e h1 h2 k=>by
  unfold inD at e;obtain⟨v',e1,e⟩:=eJ.mp e;obtain⟨ds,e2,e⟩:=eJ.mp e;obtain⟨ws,e3,rfl⟩:=gZ.mp e;obtain⟨rfl,fv⟩:=sO h1 e1;cases y with
  |lst tF=>cases e2;obtain⟨a,us,rfl,h3,h4⟩:=aW.mp h2;obtain⟨rfl,fw⟩:=zj h4 e3;exact⟨a,us,rfl,.inl h3,fv,fw,k _ (bT.mpr rfl)⟩
  |tup tF=>cases e2;obtain⟨a,us,rfl,h3,h4⟩:=aN.mp h2;obtain⟨rfl,fw⟩:=zj h4 e3;exact⟨a,us,rfl,.inr (kA.of h3),fv,fw,k _ (bT.mpr rfl)⟩
  |_=>cases e2
def iI(C:Int→Int→Bool)(h:Int→Int→D):D→D→Option D
  |.int i,.int j=>if C i j=true then some (h i j) else none
  |_,_=>none
theorem Gd{K:PySem.W.Frag}{C:Int→Int→Bool}{C':Int→Int→Prop}{h:Int→Int→Int}(hc:∀i j,C i j=true→C' i j):Nq K (iI C fun i j=>.int (h i j)) (rI C' fun i j=>.int (h i j)):=fun F H x y d v u Q b e h1 h2 k=>by
  unfold iI at e;split at e
  · rename_i i j;by_cases Dq:C i j=true
    ·rw[az Dq] at e;cases e;exact⟨i,j,aQ.mp h1,aQ.mp h2,hc i j Dq,k _ (aQ.mpr rfl)⟩
    ·rw[bh Dq] at e;cases e
  ·cases e
theorem Oz{K:PySem.W.Frag}{h:Int→Int→Int}:Nq K (iI (fun _ _=>true) fun i j=>.int (h i j)) (Rl fun i j=>.int (h i j)):=fun F H x y d v u Q b e h1 h2 k=>by
  unfold iI at e;split at e
  ·rename_i i j;rw[az rfl] at e;cases e;exact⟨i,j,aQ.mp h1,aQ.mp h2,k _ (aQ.mpr rfl)⟩
  ·cases e
theorem Ge{K:PySem.W.Frag}{h:Int→Int→Bool}:Nq K (iI (fun _ _=>true) fun i j=>.bl (h i j)) (Rl fun i j=>.bl (h i j)):=fun F H x y d v u Q b e h1 h2 k=>by
  unfold iI at e;split at e
  ·rename_i i j;rw[az rfl] at e;cases e;exact⟨i,j,aQ.mp h1,aQ.mp h2,k _ (bT.mpr rfl)⟩
  ·cases e
def mq:=iI (fun _ _=>true) fun i j=>.int (i+j)
def HQ:=iI (fun _ _=>true) fun i j=>.int (i-j)
def mulC(i j:Int):Bool:=decide ((-(2^64)<i∧i<2^64)∨(-(2^64)<j∧j<2^64))
def uX:=iI mulC fun i j=>.int (i*j)
def divC(_ j:Int):Bool:=decide (0<j∧j<1073741824)
def Mb:=iI divC fun i j=>.int (i / j)
def qI(_ j:Int):Bool:=decide (0<j)
def oz:=iI qI fun i j=>.int (i%j)
def powC(i j:Int):Bool:=decide (0≤j∧j≤1000000∧i.natAbs<2^64)
def Wx:=iI powC fun i j=>.int (i^j.toNat)
def Wy:=iI powC fun i j=>.int (i*2^j.toNat)
def Wz(_ j:Int):Bool:=decide (0≤j)
def SD:=iI Wz fun i j=>.int (i / 2^j.toNat)
def Ka:=iI (fun _ _=>true) fun i j=>.int (Builtin.bitAnd i j)
def HR:=iI (fun _ _=>true) fun i j=>.bl (decide (i<j))
def Nt:=iI (fun _ _=>true) fun i j=>.bl (decide (j<i))
def Zt:=iI (fun _ _=>true) fun i j=>.bl (decide (j≤i))
theorem SG{i j:Int}(h:mulC i j=true):RL i j:=by unfold mulC at h;have q:=xY h;exact q
theorem SJ{i j:Int}(h:divC i j=true):YF i j:=by unfold divC at h;have q:=xY h;exact q
theorem Kc{i j:Int}(h:powC i j=true):VG i j:=by unfold powC at h;have q:=xY h;exact q
theorem fZ(ha:DB X z a fa)(hb:DB X z b fb):DE X z (.BinOp a .Add b pos) (ag mq fa fb):=rm VH Oz ha hb
theorem D2(ha:DB X z a fa)(hb:DB X z b fb):DE X z (.BinOp a .Sub b pos) (ag HQ fa fb):=rm VJ Oz ha hb
theorem rq(ha:DB X z a fa)(hb:DB X z b fb):DE X z (.BinOp a .Mult b pos) (ag uX fa fb):=rm VL (Gd fun i j h=>SG h) ha hb
theorem HS(ha:DB X z a fa)(hb:DB X z b fb):DE X z (.BinOp a .FloorDiv b pos) (ag Mb fa fb):=rm RM (Gd fun i j h=>SJ h) ha hb
theorem iZ(ha:DB X z a fa)(hb:DB X z b fb):DE X z (.BinOp a .Mod b pos) (ag oz fa fb):=rm VM (Gd fun i j h=>xY h) ha hb
theorem WB(ha:DB X z a fa)(hb:DB X z b fb):DE X z (.BinOp a .Pow b pos) (ag Wx fa fb):=rm VN (Gd fun i j h=>Kc h) ha hb
theorem WC(ha:DB X z a fa)(hb:DB X z b fb):DE X z (.BinOp a .LShift b pos) (ag Wy fa fb):=rm VP (Gd fun i j h=>Kc h) ha hb
theorem WD(ha:DB X z a fa)(hb:DB X z b fb):DE X z (.BinOp a .RShift b pos) (ag SD fa fb):=rm VQ (Gd fun i j h=>xY h) ha hb
theorem SK(ha:DB X z a fa)(hb:DB X z b fb):DE X z (.BinOp a .BitAnd b pos) (ag Ka fa fb):=rm VR Oz ha hb
def SM(f:EF):EF:=fun η=>(f η).bind fun d=>match d with|.int i=>some (.int (-i))|_=>none
theorem WG(ha:DB X z a fa):DE X z (.UnaryOp .USub a pos) (SM fa):=PE.weak (YD VW ha) fun σ H Q ⟨η,F,d,r,e,k⟩=>by
  unfold SM at e;obtain⟨d',h1,h2⟩:=eJ.mp e;cases d' with
  |int i=>cases h2;exact⟨η,F,_,r,h1,fun v H' F' g q=>⟨i,aQ.mp q,k _ H' F' g (aQ.mpr rfl)⟩⟩
  |_=>cases h2
theorem Zu(ha:DB X z a fa)(hb:DB X z b fb):DE X z (.Compare a [.Lt] [b] pos) (ag HR fa fb):=zc Uz Ge ha hb (lX _)
theorem Zv(ha:DB X z a fa)(hb:DB X z b fb):DE X z (.Compare a [.GtE] [b] pos) (ag Zt fa fb):=zc UA Ge ha hb (lX _)
theorem xK(ha:DB X z a fa)(hb:DB X z b fb):DT X z (.Compare a [.Lt] [b] pos) (bV (ag HR fa fb)):=pY Uz Ge ha hb (lX _)
theorem zk(ha:DB X z a fa)(hb:DB X z b fb):DT X z (.Compare a [.Gt] [b] pos) (bV (ag Nt fa fb)):=pY YH Ge ha hb (lX _)
theorem Zw(ha:DB X z a fa)(hb:DB X z b fb):DT X z (.Compare a [.GtE] [b] pos) (bV (ag Zt fa fb)):=pY UA Ge ha hb (lX _)
theorem Kd(ha:DB X z a fa)(hb:DB X z b fb)(hm:behindInMarks .In b=false:=by rfl):DT X z (.Compare a [.In] [b] pos) (bV (ag (inD false) fa fb)):=pY LK (UN false) ha hb hm
theorem D3(ha:DB X z a fa)(hb:DB X z b fb)(hm:behindInMarks .NotIn b=false:=by rfl):DT X z (.Compare a [.NotIn] [b] pos) (bV (ag (inD true) fa fb)):=pY Dw (UN true) ha hb hm
def pI:D→D→Option D
  |.non,.non=>some (.bl true)
  |_,.non=>some (.bl false)
  |_,_=>none
def zo:D→D→Option D
  |.non,.non=>some (.bl false)
  |_,.non=>some (.bl true)
  |_,_=>none
theorem D4{K:PySem.W.Frag}(h:Den K F d v):v=.non↔d=.non:=by
  cases d with
  |non=>simp[cg.mp h]
  |bl _=>simp[bT.mp h]
  |int _=>simp[aQ.mp h]
  |str _=>simp[cW.mp h]
  |tup _=>obtain⟨a,vs,rfl,_⟩:=aN.mp h;simp
  |lst _=>obtain⟨a,vs,rfl,_⟩:=aW.mp h;simp
  |obj _=>obtain⟨a,vs,rfl,_⟩:=hE.mp h;simp
  |exc _=>obtain⟨a,rfl,_⟩:=j3.mp h;simp
theorem OB{K:PySem.W.Frag}:Nq K pI (fun x y H Q=>y=.non∧Q (.bl (decide (x=.non))) H):=fun F H x y d v u Q b e h1 h2 k=>by
  have hy:y=.non:=by cases x<;>cases y<;>first|rfl|cases e
  subst hy;refine⟨cg.mp h2,k _ ?_⟩;have hd:d=.bl (decide (v=.non)):=by have q:=D4 h1;cases x<;>cases e<;>simp[q]
  rw[hd];exact bT.mpr rfl
theorem Ke{K:PySem.W.Frag}:Nq K zo (fun x y H Q=>y=.non∧Q (.bl (!decide (x=.non))) H):=fun F H x y d v u Q b e h1 h2 k=>by
  have hy:y=.non:=by cases x<;>cases y<;>first|rfl|cases e
  subst hy;refine⟨cg.mp h2,k _ ?_⟩;have hd:d=.bl (!decide (v=.non)):=by have q:=D4 h1;cases x<;>cases e<;>simp[q]
  rw[hd];exact bT.mpr rfl
theorem OD(ha:DB X z a fa)(hb:DB X z b fb):DE X z (.Compare a [.Is] [b] pos) (ag pI fa fb):=zc NP OB ha hb (lX _)
theorem D5(ha:DB X z a fa)(hb:DB X z b fb):DT X z (.Compare a [.Is] [b] pos) (bV (ag pI fa fb)):=pY NP OB ha hb (lX _)
theorem SQ(ha:DB X z a fa)(hb:DB X z b fb):DE X z (.Compare a [.IsNot] [b] pos) (ag zo fa fb):=zc JK Ke ha hb (lX _)
theorem SR(ha:DB X z a fa)(hb:DB X z b fb):DT X z (.Compare a [.IsNot] [b] pos) (bV (ag zo fa fb)):=pY JK Ke ha hb (lX _)
end
def HV(K:PySem.W.Frag)(z:Zc)(F:Hp)(m:Bool)(d:D)(v:V):Prop:=match m with
  |true=>Den K F d v
  |false=>Den K z.H₀ d v
structure Walk (K:PySem.W.Frag) (z:Zc) (F:Hp) (J:It) (m:Bool) (ds:List D):Prop where
  go:∀F' H',cG F F'→bB z.F₀ z.H₀ F' H'→∀i,i<ds.length→J.go i H'
  NH:∀F' H',cG F F'→bB z.F₀ z.H₀ F' H'→∀(i:Nat) d x Nu,ds[i]?=some d→J.NH i H' x Nu→∃SV,bB F' H' SV Nu∧HV K z SV m d x
  stop:∀F' H',cG F F'→bB z.F₀ z.H₀ F' H'→J.stop ds.length H'
  len:ds.length≤sizeLine
def vI(K:PySem.W.Frag)(z:Zc)(m:Bool)(f:LF):TI:=fun σ H R=>∃η F ds,Rel K z F H σ η∧f η=some ds∧∀J H' F',bB F H F' H'→Walk K z F' J m ds→R J H'
def DI(X:Cx)(z:Zc)(tg iter:Expr)(m:Bool)(f:LF):Prop:=PI X tg iter (vI X.K z m f)
theorem PI.weak{t t':TI}(h:PI X tg e t)(k:∀σ H R,t' σ H R→t σ H R):PI X tg e t':=fun pins s σ H R I q=>h pins s σ H R I (k σ H R q)
section
variable {K:PySem.W.Frag} {z:Zc} {F:Hp}
theorem Md{vs:List V}{ds:List D}(h:m4 K F a vs)(hd:cz K F ds vs)(hl:ds.length≤sizeLine):Walk K z F (Itl K a) true ds where
  go:=fun F' H' s g i hi=>⟨vs,_,(s.trans g.base.sub).seq h,mV (by rw[←bu hd];exact hi)⟩
  NH:=fun F' H' s g i d x Nu e y=>by obtain⟨rfl,y⟩:=y;have e2:=y vs ((s.trans g.base.sub).seq h);obtain⟨d',h1,h2⟩:=sJ hd e2;rw[e] at h1;cases h1;exact⟨F',bB.refl g.base,cA s _ _ h2⟩
  stop:=fun F' H' s g=>⟨vs,(s.trans g.base.sub).seq h,by rw[bu hd];exact cu _⟩
  len:=hl
theorem OG{vs:List V}{ds:List D}(h:kA K F a vs)(hd:cz K F ds vs)(hl:ds.length≤sizeLine):Walk K z F (Itt K a) true ds where
  go:=fun F' H' s g i hi=>⟨vs,_,y8 (s.trans g.base.sub) h,mV (by rw[←bu hd];exact hi)⟩
  NH:=fun F' H' s g i d x Nu e y=>by obtain⟨rfl,y⟩:=y;have e2:=y vs (y8 (s.trans g.base.sub) h);obtain⟨d',h1,h2⟩:=sJ hd e2;rw[e] at h1;cases h1;exact⟨F',bB.refl g.base,cA s _ _ h2⟩
  stop:=fun F' H' s g=>⟨vs,y8 (s.trans g.base.sub) h,by rw[bu hd];exact cu _⟩
  len:=hl
theorem HW{vs:List V}{ds:List D}(h:m4 K z.H₀ a vs)(hd:cz K z.H₀ ds vs)(hl:ds.length≤sizeLine):Walk K z F (Itl K a) false ds where
  go:=fun F' H' s g i hi=>⟨vs,_,g.ent.seq h,mV (by rw[←bu hd];exact hi)⟩
  NH:=fun F' H' s g i d x Nu e y=>by obtain⟨rfl,y⟩:=y;have e2:=y vs (g.ent.seq h);obtain⟨d',h1,h2⟩:=sJ hd e2;rw[e] at h1;cases h1;exact⟨F',bB.refl g.base,h2⟩
  stop:=fun F' H' s g=>⟨vs,g.ent.seq h,by rw[bu hd];exact cu _⟩
  len:=hl
def dk(lo:Int)(n:Nat):List D:=(List.range n).map fun(i:Nat)=>D.int (lo+(i:Int))
theorem zp{lo:Int}(hl:n≤sizeLine):Walk K z F (Yw lo n) true (dk lo n) where
  go:=fun F' H' s g i hi=>by
    have q:i<n:=by simpa[dk] using hi
    exact q
  NH:=fun F' H' s g i d x Nu e y=>by
    obtain⟨rfl,rfl⟩:=y;refine⟨F',bB.refl g.base,?_⟩;unfold dk at e;rw[qG] at e;obtain⟨j,h1,rfl⟩:=gZ.mp e;have h2:j=i:=by have h3:=v9.mp h1;obtain⟨_,h4⟩:=h3;simpa using h4.symm
    subst h2;show Den K F' _ _;exact aQ.mpr rfl
  stop:=fun F' H' s g=>by show n≤_;simp[dk]
  len:=by simpa[dk] using hl
end
section
variable {X:Cx} {z:Zc} {tg e a b:Expr} {f fa fb:EF} {pos p:Pos} {m:Bool}
def cJ(f:EF):LF:=fun η=>(f η).bind di
theorem cE(h:DE X z e f):DI X z tg e true (cJ f):=fun pins s σ H R I ⟨η,F,ds,r,e,k⟩=>by
  unfold cJ at e;obtain⟨d,h1,h2⟩:=eJ.mp e;cases d with
  |lst tF=>cases h2;refine JH h pins s σ H R I ⟨η,F,_,r,h1,fun v H' F' g q=>?_⟩;obtain⟨a,vs,rfl,h3,h4⟩:=aW.mp q;have UM:=g.base.sub.seq h3;exact⟨a,rfl,⟨vs,UM⟩,k _ H' F' g (Md h3 h4 (by rw[bu h4];exact yA g.base UM))⟩
  |tup tF=>cases h2;refine VA h pins s σ H R I ⟨η,F,_,r,h1,fun v H' F' g q=>?_⟩;obtain⟨a,vs,rfl,h3,h4⟩:=aN.mp q;have UM:=g.base.sub _ _ h3;exact⟨a,rfl,⟨vs,kA.of UM⟩,k _ H' F' g (OG (kA.of h3) h4 (by rw[bu h4];exact g.base.Fp _ _ UM))⟩
  |_=>cases h2
def HX(i:Nat):LF:=fun η=>match η[i]? with
  |some (some (.br (.lst ds)))=>some ds
  |_=>none
theorem UO(i:Nat)(hN:X.N[i]?=some x:=by rfl)(hv:FD X.env.scope x:=by first|exact Or.inl rfl|exact Or.inr (Or.inl rfl)|exact Or.inr (Or.inr rfl))(hd:(x==("__debug__":Str))=false:=by decide)(ow:(x==("__classdict__":Str))=false:=by decide):DI X z tg (.Name x pos) false (HX i):=fun pins s σ H R I ⟨η,F,ds,r,e,k⟩=>by
  unfold HX at e;split at e
  ·rename_i tF h;cases e;obtain⟨v,J4,hs⟩:=r.at_ i _ h;obtain⟨a,vs,rfl,h3,h4⟩:=aW.mp (show Den X.K z.H₀ (.lst ds) v from hs);refine JH (kJ hN hv hd ow) pins s σ H R I ⟨_,J4,a,rfl,⟨vs,r.mem.ent.seq h3⟩,?_⟩;exact k _ H F (bB.refl r.base) (HW h3 h4 (by rw[bu h4];exact yA r.base (r.mem.ent.seq h3)))
  ·cases e
def eF(f:EF):LF:=fun η=>(f η).bind fun d=>match d with|.int j=>if j≤10000∧-10000≤j then some (dk 0 j.toNat) else none|_=>none
theorem kO(hg:Gl X "range")(hm:X.mg "range"=none)(ha:DB X z a fa)(hs:starEach [a] X.env=[(false,eval a X.env)]:=by rfl):DI X z tg (.Call (.Name "range" p) [a] [] pos) true (eF fa) :=
  PI.weak (Lx hg hm (fh ha kK hs) hs) fun σ H R ⟨η,F,ds,r,e,k⟩=>by
  unfold eF at e;obtain⟨d,h1,h2⟩:=eJ.mp e;cases d with
  |int j =>
   by_cases hj:j≤10000∧-10000≤j
   ·have h2:(if j≤10000∧-10000≤j then some (dk 0 j.toNat) else none)=some ds:=h2;rw[az hj] at h2;cases h2;exact⟨η,F,_,r,h1,fun v H' F' g q=>⟨j,by rw[aQ.mp q],by omega,by omega,k _ H' F' g (zp (Br (by omega)))⟩⟩
   ·have h2:(if j≤10000∧-10000≤j then some (dk 0 j.toNat) else none)=some ds:=h2;rw[bh hj] at h2;cases h2
  |_=>cases h2
def oC(fa fb:EF):LF:=fun η=>(fa η).bind fun c=>(fb η).bind fun d=>match c,d with|.int i,.int j=>if j≤10000∧-10000≤j∧i≤10000∧-10000≤i then some (dk i (j-i).toNat) else none|_,_=>none
theorem Cd(hg:Gl X "range")(hm:X.mg "range"=none)(ha:DB X z a fa)(hb:DB X z b fb)(hs:starEach [a,b] X.env=[(false,eval a X.env),(false,eval b X.env)]:=by rfl)(Bi:starEach [b] X.env=[(false,eval b X.env)]:=by rfl):DI X z tg (.Call (.Name "range" p) [a,b] [] pos) true (oC fa fb) :=
  PI.weak (Ly hg hm (fh ha (fh hb kK Bi) (by rw[hs,Bi])) hs Bi) fun σ H R ⟨η,F,ds,r,e,k⟩=>by
  unfold oC at e;obtain⟨c,h1,e⟩:=eJ.mp e;obtain⟨d,h2,e⟩:=eJ.mp e;cases c with
  |int i =>
   cases d with
   |int j =>
    have e:(if j≤10000∧-10000≤j∧i≤10000∧-10000≤i then some (dk i (j-i).toNat) else none)=some ds:=e;by_cases hj:j≤10000∧-10000≤j∧i≤10000∧-10000≤i
    · rw[az hj] at e;cases e;refine⟨η,F,_,r,h1,fun v H1 F1 g1 q1=>⟨η,F1,_,r.grow g1,h2,fun u H2 F2 g2 q2=>?_⟩⟩;refine⟨i,j,by rw[aQ.mp q1,aQ.mp q2],⟨by omega,by omega,by omega,by omega⟩,k _ H2 F2 (g1.trans g2) (zp ?_)⟩;have:(j-i).toNat≤20000:=by omega
      exact pU this (by rw[kD];decide)
    ·rw[bh hj] at e;cases e
   |_=>cases e
  |_=>cases e
end
def vG(K:PySem.W.Frag)(z:Zc)(m:Bool)(b:BF):TG:=fun v σ H Q=>∃η F d η',Rel K z F H σ η∧HV K z F m d v∧b d η=some η'∧∀σ',Rel K z F H σ' η'→Q σ' H
def DG(X:Cx)(z:Zc)(m:Bool)(tg:Expr)(b:BF):Prop:=PG X tg (vG X.K z m b)
theorem PG.weak{t t':TG}(h:PG X tg t)(k:∀v σ H Q,t' v σ H Q→t v σ H Q):PG X tg t':=fun pins s σ H v u Q I r q=>h pins s σ H v u Q I r (k v σ H Q q)
def mkS(m:Bool)(d:D):Slot:=match m with
  |true=>.sh d
  |false=>.br d
theorem SW(m:Bool)(d:D):(mkS m d).own=false:=by cases m<;>rfl
theorem WH{K:PySem.W.Frag}{z:Zc}{m:Bool}(h:HV K z F m d v):j4 K z F H v (mkS m d):=by cases m<;>exact h
def aD(m:Bool)(i:Nat):BF:=fun d η=>some (η.set i (some (mkS m d)))
section
variable {X:Cx} {z:Zc} {m:Bool} {pos:Pos}
theorem aU(i:Nat)(hN:X.N.Nodup)(hi:X.N[i]?=some x:=by rfl)(hx:Loc X.env.scope x:=by first|exact Or.inl rfl|exact Or.inr rfl)(hf:X.fn x=true∨X.env.scope.names.lookup x=some .local:=by first|exact .inl rfl|exact .inr rfl|assumption):DG X z m (.Name x pos) (aD m i) :=
  PG.weak (RJ hN hi hx hf) fun v σ H Q ⟨η,F,d,η',r,h,e,k⟩=>by
  cases e;exact k _ (r.set i (SW m d) (WH h))
def vGs(K:PySem.W.Frag)(z:Zc)(m:Bool)(b:List D→cQ→Option cQ):RH:=fun vs σ H Q=>∃η F ds η',Rel K z F H σ η∧(match m with|true=>cz K F ds vs|false=>cz K z.H₀ ds vs)∧b ds η=some η'∧∀σ',Rel K z F H σ' η'→Q σ' H
def DGs(X:Cx)(z:Zc)(m:Bool)(tgs:List Expr)(b:List D→cQ→Option cQ):Prop:=Rk X tgs (vGs X.K z m b)
theorem Rk.weak{tg:List Expr}{t t':RH}(h:Rk X tg t)(k:∀v σ H Q,t' v σ H Q→t v σ H Q):Rk X tg t':=fun pins s σ H v u Q I r q=>h pins s σ H v u Q I r (k v σ H Q q)
def lQ:List D→cQ→Option cQ:=fun ds η=>match ds with|[]=>some η|_=>none
def cc(b:BF)(bs:List D→cQ→Option cQ):List D→cQ→Option cQ:=fun ds η=>match ds with|d::r=>(b d η).bind fun η'=>bs r η'|[]=>none
theorem j7:DGs X z m [] lQ:=Rk.weak RK fun vs σ H Q ⟨η,F,ds,η',r,h,e,k⟩=>by
  unfold lQ at e;split at e
  · cases e;refine⟨?_,k σ r⟩;cases m with
    |true=>exact bD.mp h
    |false=>exact bD.mp h
  ·cases e
theorem cC{es:List Expr}{b:BF}{bs:List D→cQ→Option cQ}(h1:DG X z m e b)(h2:DGs X z m es bs)(hs:(assignEach (e::es) X.env).map (·.2)=assign e X.env::(assignEach es X.env).map (·.2):=by rfl):DGs X z m (e::es) (cc b bs) :=
  Rk.weak (NC h1 h2 hs) fun vs σ H Q ⟨η,F,ds,η',r,h,e,k⟩=>by
  unfold cc at e;split at e
  · rename_i d rs;obtain⟨η1,e1,e2⟩:=eJ.mp e;cases m with
    |true=>obtain⟨v,vr,rfl,q1,q2⟩:=aP.mp h;exact⟨v,vr,rfl,η,F,d,η1,r,q1,e1,fun σ' r'=>⟨η1,F,rs,η',r',q2,e2,k⟩⟩
    |false=>obtain⟨v,vr,rfl,q1,q2⟩:=aP.mp h;exact⟨v,vr,rfl,η,F,d,η1,r,q1,e1,fun σ' r'=>⟨η1,F,rs,η',r',q2,e2,k⟩⟩
  ·cases e
def lR(n:Nat)(bs:List D→cQ→Option cQ):BF:=fun d η=>match d with|.tup ds=>if ds.length=n then bs ds η else none|_=>none
theorem nL{es:List Expr}{bs:List D→cQ→Option cQ}(hc:X.calm=true)(h:DGs X z m es bs)(hn:(assignEach es X.env).length=n:=by rfl)(Vx:(assignEach es X.env).findIdx? (·.1)=none:=by rfl):DG X z m (.Tuple es k pos) (lR n bs):=PG.weak (Vw hc h hn Vx) fun v σ H Q ⟨η,F,d,η',r,h,e,k⟩=>by
  unfold lR at e;split at e
  · rename_i ds;by_cases hl:ds.length=n
    · rw[az hl] at e;cases m with
      |true=>obtain⟨a,vs,rfl,q1,q2⟩:=aN.mp (show Den X.K F (.tup ds) v from h);exact⟨a,vs,rfl,kA.of (r.base.sub _ _ q1),by rw[←bu q2];exact hl,η,F,ds,η',r,q2,e,k⟩
      |false=>obtain⟨a,vs,rfl,q1,q2⟩:=aN.mp (show Den X.K z.H₀ (.tup ds) v from h);exact⟨a,vs,rfl,kA.of (r.mem.ent _ _ q1),by rw[←bu q2];exact hl,η,F,ds,η',r,q2,e,k⟩
    ·rw[bh hl] at e;cases e
  ·cases e
end
def cF(b:BF)(t:TF)(f:EF):List D→cQ→Option (List D)
  |[],_=>some []
  |d::ds,η=>(b d η).bind fun η1=>(t η1).bind fun c=>if c=true then(f η1).bind fun x=>(cF b t f ds η).map (x::·) else cF b t f ds η
def bQ(nt:Nat)(fi:List Nat)(l:LF)(b:BF)(t:TF)(f:EF):LF:=fun η=>(l η).bind fun ds=>cF b t f ds (jb nt fi η)
theorem wH{K:PySem.W.Frag}{z:Zc}{m:Bool}{nt:Nat}{l:LF}{b:BF}{t:TF}{f:EF}(hf:fi.Nodup):∀σ H Q,vO K z (bQ nt fi l b t f) σ H Q→Oj (vI K z m l) nt fi (vG K z m b) (vT K z t) (vE K z f) σ H Q:=fun σ H Q ⟨η,F,ds,r,e,k⟩=>by
  unfold bQ at e;obtain⟨xs,h1,h2⟩:=eJ.mp e;refine⟨η,F,xs,r,h1,fun J H1 F1 g1 wk=>?_⟩;have r1:=r.grow g1
  -- the word: behind i turns,the items so far are those of a beginning of ds
  refine⟨fun i n ys H'=>n=xs.length-i∧i≤xs.length∧∃F' UQ SX,bB F1 H1 F' H'∧ds=UQ++SX∧cz K F' UQ ys∧UQ.length≤i∧cF b t f (xs.drop i) (jb nt fi η)=some SX,⟨xs.length,by simp,qQ _,F1,[],ds,bB.refl g1.base,rfl,bD.mpr rfl,qQ _,by simpa using h2⟩,?_⟩;rintro i n ys H' ⟨rfl,hi,F',UQ,SX,g2,hds,q,hl,hc⟩;have A7:=(r1.mem.trans g2)
  have hyl:=bu q;by_cases jL:i<xs.length
  · refine .inr ⟨wk.go F' H' g2.jy A7 i jL,by have:=wk.len;omega,?_⟩;have ed:xs.drop i=xs[i]::xs.drop (i+1):=List.drop_eq_getElem_cons jL;rw[ed] at hc;unfold cF at hc;obtain⟨η1,c1,hc⟩:=eJ.mp hc;obtain⟨c,c2,hc⟩:=eJ.mp hc;refine⟨fun y H4=>c=true∧∃F4 x X2,bB F1 H1 F4 H4∧Den K F4 x y∧cz K F4 UQ ys∧cF b t f (xs.drop (i+1)) (jb nt fi η)=some X2∧SX=x::X2,fun H3=>c=false∧∃F3,bB F1 H1 F3 H3∧cz K F3 UQ ys,?_,?_,?_⟩
    ·rintro y H4 ⟨_,F4,x,X2,g4,q1,q2,q3,rfl⟩;exact⟨xs.length-(i+1),by omega,rfl,jL,F4,UQ++[x],X2,g4,by rw[hds];simp,wC q2 q1,by simp;omega,q3⟩
    ·rintro H3 ⟨rfl,F3,g3,q2⟩;exact⟨xs.length-(i+1),by omega,rfl,jL,F3,UQ,SX,g3,hds,q2,by omega,hc⟩
    · intro x Nu y;obtain⟨SV,g3,it⟩:=wk.NH F' H' g2.jy A7 i xs[i] x Nu (by simp[jL]) y;have rb:Rel K z SV Nu (qW nt fi σ) (jb nt fi η):=((r1.grow g2).grow g3).block nt hf;refine⟨jb nt fi η,SV,xs[i],η1,rb,it,c1,fun σ' r'=>⟨η1,SV,c,r',c2,fun H3 F3 g4=>?_⟩⟩;cases c with
      |true=>have hc:(f η1).bind (fun x=>(cF b t f (xs.drop (i+1)) (jb nt fi η)).map (x::·))=some SX:=hc;obtain⟨x',c3,hc⟩:=eJ.mp hc;obtain⟨X2,c4,c5⟩:=gZ.mp hc;refine⟨η1,F3,x',r'.grow g4,c3,fun v H4 F4 g5 q5=>⟨rfl,F4,x',X2,(((g2.trans g3).trans g4).trans g5),q5,bE ((g3.jy.trans g4.jy).trans g5.jy) _ _ q,c4,c5.symm⟩⟩
      |false=>exact⟨rfl,F3,((g2.trans g3).trans g4),bE (g3.jy.trans g4.jy) _ _ q⟩
  · have ei:i=xs.length:=by omega
    subst ei;have WK:SX=[]:=by rw[List.drop_length] at hc;unfold cF at hc;cases hc;rfl
    subst WK;rw[uH] at hds;subst hds;have hz:ys.length≤sizeLine:=by have:=wk.len;omega
    refine .inl ⟨wk.stop F' H' g2.jy A7,hz,fun p hp=>?_⟩;have g3:=bB.own g2.base hp (.lst ys) hz rfl;exact k p ys _ F' ((g1.trans g2).trans g3) ((g1.trans g2).ent.free hp) (g2.base.sub.free hp) aL q
section
variable {X:Cx} {z:Zc} {m:Bool} {pos:Pos} {tg elt iter:Expr} {ifs:List Expr} {tgs:gq} {fi:List Nat} {scope:Scope} {l:LF} {b:BF} {t:TF} {f:EF}
def OI(X:Cx)(z:Zc)(ifs:List Expr)(t:TF):Prop:=LX X ifs (vT X.K z t)
def eP:TF:=fun _=>some true
theorem jh:OI X z [] eP:=fun pins s σ H Q I ⟨η,F,c,r,e,k⟩=>by cases e;exact Oe pins s σ H Q I (k H F (bB.refl r.base))
theorem ji{c:Expr}(h:DT X z c t):OI X z [c] t:=Og h
theorem dE(hc:X.calm=true)(B:dh X tgs fi scope)(hf:fi.Nodup)(hi:DI X z tg iter m l)(hg:∀C ex s H,DG (kL X tgs fi scope C ex s H) z m tg b)(ht:∀C ex s H,OI (kL X tgs fi scope C ex s H) z ifs t)(he:∀C ex s H,DE (kL X tgs fi scope C ex s H) z elt f)(hs:∀x,foldedSetIterable iter X.env x=pure x:=by intro _;rfl):DO X z (.ListComp elt [⟨tg,iter,ifs,0⟩] scope pos) (bQ tgs.length fi l b t f) :=
  PE.weak (Sg (g:=vG X.K z m b) (tt:=vT X.K z t) (te:=vE X.K z f) hc B hi (fun C ex s H=>hg C ex s H) (fun C ex s H=>ht C ex s H) (fun C ex s H=>he C ex s H) hs) (wH hf)
end
section
variable {X:Cx} {z:Zc} {e a b:Expr} {f:EF} {fl:LF} {pos:Pos} {st:Stmt} {rest:List Stmt} {g g1 g2:SF}
def dI:SF:=fun η=>some (.nx η)
def bw(g1 g2:SF):SF:=fun η=>(g1 η).bind fun o=>match o with|.nx η'=>g2 η'|o=>some o
theorem bW:L8 X z [] dI:=Bg.weak RD fun D σ H ⟨η,F,o,r,e,k⟩=>by cases e;exact k σ H F r (cG.refl _)
theorem av(h:DS X z st g):L8 X z [st] g:=RG h
theorem DX.mono{K:PySem.W.Frag}{o:Out}{D:Ends}(h:DX K z F o D)(s:cG F F'):DX K z F' o D:=by
  cases o with
  |nx η'=>exact fun σ' H' F2 r s2=>h σ' H' F2 r (s.trans s2)
  |bk η'=>exact fun σ' H' F2 r s2=>h σ' H' F2 r (s.trans s2)
  |ct η'=>exact fun σ' H' F2 r s2=>h σ' H' F2 r (s.trans s2)
  |rt r=>exact h
theorem ai(h1:DS X z st g1)(h2:L8 X z rest g2):L8 X z (st::rest) (bw g1 g2):=Bg.weak (NB h1 h2) fun D σ H ⟨η,F,o,r,e,k⟩=>by
  unfold bw at e;obtain⟨o1,e1,e2⟩:=eJ.mp e;refine⟨η,F,o1,r,e1,?_⟩;cases o1 with
  |nx η'=>exact fun σ' H' F' r' s'=>⟨η',F',o,r',e2,k.mono s'⟩
  |rt r=>cases e2;exact k
  |bk η'=>cases e2;exact k
  |ct η'=>cases e2;exact k
def pT(t:TF)(g1 g2:SF):SF:=fun η=>(t η).bind fun c=>if c=true then g1 η else g2 η
theorem eD{c:Expr}{xs ys:List Stmt}{t:TF}(hc:DT X z c t)(h1:L8 X z xs g1)(h2:L8 X z ys g2):DS X z (.If c xs ys pos) (pT t g1 g2):=PS.weak (Yu hc h1 h2) fun D σ H ⟨η,F,o,r,e,k⟩=>by
  unfold pT at e;obtain⟨c,e1,e2⟩:=eJ.mp e;refine⟨η,F,c,r,e1,fun H1 F1 gr=>?_⟩;cases c with
  |true=>exact⟨η,F1,o,r.grow gr,e2,k.mono gr.jy⟩
  |false=>exact⟨η,F1,o,r.grow gr,e2,k.mono gr.jy⟩
def dU(f:EF):SF:=fun η=>(f η).map fun d=>.rt (.sh d)
theorem bR(h:DE X z e f):DS X z (.Return (some e) pos) (dU f):=PS.weak (yN h) fun D σ H ⟨η,F,o,r,e,k⟩=>by unfold dU at e;obtain⟨d,e1,rfl⟩:=gZ.mp e;exact⟨η,F,d,r,e1,fun v H' F' gr q=>k v H' F' (r.mem.trans gr) q⟩
def kG(f:LF):SF:=fun η=>(f η).map fun d=>.rt (.ol d)
theorem iK(h:DO X z e fl):DS X z (.Return (some e) pos) (kG fl):=PS.weak (yN h) fun D σ H ⟨η,F,o,r,e,k⟩=>by unfold kG at e;obtain⟨d,e1,rfl⟩:=gZ.mp e;exact⟨η,F,d,r,e1,fun p vs H' F' gr h1 h2 h3 h4=>k p vs H' F' (r.mem.trans gr) (r.mem.ent.free h1) h2 h3 h4⟩
def Ce(i:Nat):SF:=fun η=>match η[i]? with
  |some (some (.ol ds))=>some (.rt (.ol ds))
  |_=>none
theorem yC(i:Nat)(hN:X.N[i]?=some x:=by rfl)(hv:FD X.env.scope x:=by first|exact Or.inl rfl|exact Or.inr (Or.inl rfl)|exact Or.inr (Or.inr rfl))(hd:(x==("__debug__":Str))=false:=by decide)(ow:(x==("__classdict__":Str))=false:=by decide):DS X z (.Return (some (.Name x px)) pos) (Ce i):=PS.weak (yN (kJ hN hv hd ow)) fun D σ H ⟨η,F,o,r,e,k⟩=>by
  unfold Ce at e;split at e
  ·rename_i ds h;cases e;obtain⟨p,o,h1,h2,h3,h4,vs,rfl,h5⟩:=r.ownAt h rfl;exact⟨_,h1,k p vs H F r.mem h2 h3 h4 h5⟩
  ·cases e
def cw(i:Nat)(f:EF):SF:=fun η=>(f η).map fun d=>.nx (η.set i (some (.sh d)))
def qA(i:Nat)(f:LF):SF:=fun η=>(f η).map fun ds=>.nx (η.set i (some (.ol ds)))
theorem OJ{K:PySem.W.Frag}:∀D σ H,vS K z (cw i f) D σ H→Lv (vE K z f) (BW i) D σ H:=fun D σ H ⟨η,F,o,r,e,k⟩=>by unfold cw at e;obtain⟨d,e1,rfl⟩:=gZ.mp e;exact⟨η,F,d,r,e1,fun v H' F' gr q=>k _ H' F' ((r.grow gr).set i rfl q) gr.jy⟩
theorem Cg{K:PySem.W.Frag}:∀D σ H,vS K z (qA i fl) D σ H→Lv (vO K z fl) (BW i) D σ H:=fun D σ H ⟨η,F,o,r,e,k⟩=>by unfold qA at e;obtain⟨d,e1,rfl⟩:=gZ.mp e;refine⟨η,F,d,r,e1,fun p vs H' F' gr h1 h2 h3 h4=>k _ H' F' (r.HM gr i (sl:=.ol d) (p:=p) ⟨p,_,rfl,r.mem.ent.free h1,h2,h3,vs,rfl,h4⟩ rfl h1) gr.jy⟩
theorem bz(hN:X.N.Nodup)(h:DE X z e f)(hi:X.N[i]?=some x:=by rfl)(hx:Loc X.env.scope x:=by first|exact Or.inl rfl|exact Or.inr rfl)(hs:swapsWith e (some (.Name x pos')) pos.line X.env=pure false:=by rfl)(hf:X.fn x=true∨X.env.scope.names.lookup x=some .local:=by first|exact .inl rfl|exact .inr rfl|assumption):DS X z (.Assign [.Name x pos'] e pos) (cw i f):=PS.weak (Dr hN hi hx h hs hf) OJ
theorem uY(hN:X.N.Nodup)(h:DO X z e fl)(hi:X.N[i]?=some x:=by rfl)(hx:Loc X.env.scope x:=by first|exact Or.inl rfl|exact Or.inr rfl)(hs:swapsWith e (some (.Name x pos')) pos.line X.env=pure false:=by rfl)(hf:X.fn x=true∨X.env.scope.names.lookup x=some .local:=by first|exact .inl rfl|exact .inr rfl|assumption):DS X z (.Assign [.Name x pos'] e pos) (qA i fl):=PS.weak (Dr hN hi hx h hs hf) Cg
theorem SY{FU:Pos}{m:Bool}{elt iter:Expr}{ifs:List Expr}{tgs:gq}{l:LF}{b:BF}{t:TF}{f:EF}(hc:X.calm=true)(hN:X.N.Nodup)(B:dh X tgs fi scope)(hfi:fi.Nodup)(hit:DI X z tg iter m l)(hg:∀C ex s H,DG (kL X tgs fi scope C ex s H) z m tg b)(ht:∀C ex s H,OI (kL X tgs fi scope C ex s H) z ifs t)(he:∀C ex s H,DE (kL X tgs fi scope C ex s H) z elt f)(hi:X.N[i]?=some x:=by rfl)(hl:X.env.scope.names.lookup x=some .local:=by rfl)(Wj:swapsWith (.ListComp elt [⟨tg,iter,ifs,0⟩] scope pos) (some (.Name x pos')) FU.line X.env=pure true:=by rfl)(hs:∀x,foldedSetIterable iter X.env x=pure x:=by intro _;rfl):DS X z (.Assign [.Name x pos'] (.ListComp elt [⟨tg,iter,ifs,0⟩] scope pos) FU) (qA i (bQ tgs.length fi l b t f)) :=
  PS.weak (yU (g:=vG X.K z m b) (tt:=vT X.K z t) (te:=vE X.K z f) hc hN hi hl B hit (fun C ex s H=>hg C ex s H) (fun C ex s H=>ht C ex s H) (fun C ex s H=>he C ex s H) Wj hs) fun D σ H h=>wH hfi σ H _ (Cg D σ H h)
def D6(i:Nat)(η:cQ):Option cQ:=match η[i]? with
  |some (some (.ol ds))=>some (η.set i (some (.sh (.lst ds))))
  |_=>none
def wI(i:Nat)(g:SF):SF:=fun η=>(D6 i η).bind g
theorem Gf{K:PySem.W.Frag}{η η':cQ}(r:Rel K z F H σ η)(e:D6 i η=some η'):∃F',Rel K z F' H σ η'∧cG F F':=by
  unfold D6 at e;split at e
  ·rename_i ds h;cases e;exact r.share h
  ·cases e
theorem X3(i:Nat){sts:List Stmt}(h:L8 X z sts g):L8 X z sts (wI i g):=Bg.weak h fun D σ H ⟨η,F,o,r,e,k⟩=>by unfold wI at e;obtain⟨η',e1,e2⟩:=eJ.mp e;obtain⟨F',r',s⟩:=Gf r e1;exact⟨η',F',o,r',e2,k.mono s⟩
theorem OL(i:Nat)(h:DS X z st g):DS X z st (wI i g):=PS.weak h fun D σ H ⟨η,F,o,r,e,k⟩=>by unfold wI at e;obtain⟨η',e1,e2⟩:=eJ.mp e;obtain⟨F',r',s⟩:=Gf r e1;exact⟨η',F',o,r',e2,k.mono s⟩
def ig(b:BF)(g:SF):List D→cQ→Option Out
  |[],η=>some (.nx η)
  |d::ds,η=>(b d η).bind fun η1=>(g η1).bind fun o=>match o with
   |.nx η2=>ig b g ds η2
   |.ct η2=>ig b g ds η2
   |.bk η2=>some (.nx η2)
   |.rt r=>some (.rt r)
def kP(l:LF)(b:BF)(g:SF):SF:=fun η=>(l η).bind fun ds=>ig b g ds η
theorem fJ{m:Bool}{iter:Expr}{body:List Stmt}{l:LF}{b:BF}(hc:X.calm=true)(hi:DI X z tg iter m l)(hg:DG X z m tg b)(hb:L8 X z body g)(hp:PassesOwn (model X.prog X.w) X.A X.env X.xe:=by exact PassesOwn.never)(hs:∀x,foldedSetIterable iter X.env x=pure x:=by intro _;rfl):DS X z (.For tg iter body [] pos) (kP l b g):=PS.weak (VB hp hc hi hg hb hs) fun D σ H ⟨η,F,o,r,e,k⟩=>by
  unfold kP at e;obtain⟨ds,e1,e2⟩:=eJ.mp e;refine⟨η,F,ds,r,e1,fun J H1 F1 g1 wk=>?_⟩;have r1:=r.grow g1;have k1:=k.mono g1.jy;refine⟨fun i n σ' H'=>n=ds.length-i∧i≤ds.length∧∃η' F',Rel X.K z F' H' σ' η'∧cG F1 F'∧ig b g (ds.drop i) η'=some o,⟨ds.length,by simp,qQ _,η,F1,r1,cG.refl _,by simpa using e2⟩,?_⟩;rintro i n σ' H' ⟨rfl,hi,η',F',r',s',hf⟩;by_cases jL:i<ds.length
  · refine .inr ⟨wk.go F' H' s' r'.mem i jL,fun σ2 H2=>i+1≤ds.length∧∃η2 F2,Rel X.K z F2 H2 σ2 η2∧cG F1 F2∧ig b g (ds.drop (i+1)) η2=some o,fun σ2 H2 h=>⟨ds.length-(i+1),by omega,rfl,h⟩,fun x Nu y=>?_⟩;obtain⟨SV,g3,it⟩:=wk.NH F' H' s' r'.mem i ds[i] x Nu (by simp[jL]) y;have ed:ds.drop i=ds[i]::ds.drop (i+1):=List.drop_eq_getElem_cons jL;rw[ed] at hf;unfold ig at hf;obtain⟨η1,c1,hf⟩:=eJ.mp hf;obtain⟨o1,c2,hf⟩:=eJ.mp hf;refine⟨η',SV,ds[i],η1,r'.grow g3,it,c1,fun σ3 r3=>⟨η1,SV,o1,r3,c2,?_⟩⟩;have s3:=s'.trans g3.jy;cases o1 with
    |nx η2=>exact fun σ4 H4 F4 r4 s4=>⟨jL,η2,F4,r4,s3.trans s4,hf⟩
    |ct η2=>exact fun σ4 H4 F4 r4 s4=>⟨jL,η2,F4,r4,s3.trans s4,hf⟩
    |bk η2=>cases hf;exact fun σ4 H4 F4 r4 s4=>k1 σ4 H4 F4 r4 (s3.trans s4)
    |rt rr=>cases hf;exact k1
  · have ei:i=ds.length:=by omega
    subst ei;rw[List.drop_length] at hf;unfold ig at hf;cases hf;exact .inl ⟨wk.stop F' H' s' r'.mem,k1 σ' H' F' r' s'⟩
def iu(t:TF)(g:SF):Nat→cQ→Option Out
  |0,_=>none
  |n+1,η=>(t η).bind fun c=>if c=true then(g η).bind fun o=>(match o with
   |.nx η2=>iu t g n η2
   |.ct η2=>iu t g n η2
   |.bk η2=>some (.nx η2)
   |.rt r=>some (.rt r)) else some (.nx η)
def rA(n:Nat)(t:TF)(g:SF):SF:=iu t g n
theorem uZ(n:Nat){c:Expr}{body:List Stmt}{t:TF}(hc:DT X z c t)(hb:L8 X z body g)(hp:PassesOwn (model X.prog X.w) X.A X.env X.xe:=by exact PassesOwn.never):DS X z (.While c body [] pos) (rA n t g):=PS.weak (NF hp hc hb) fun D σ H ⟨η,F,o,r,e,k⟩=>by
  refine⟨fun m σ' H'=>∃η' F',Rel X.K z F' H' σ' η'∧cG F F'∧iu t g m η'=some o,⟨n,η,F,r,cG.refl _,e⟩,?_⟩;rintro m σ' H' ⟨η',F',r',s',hw⟩;cases m with
  |zero=>cases hw
  |succ m =>
   unfold iu at hw;obtain⟨c,c1,hw⟩:=eJ.mp hw;refine⟨η',F',c,r',c1,fun H1 F1 g1=>?_⟩;cases c with
   |true =>
    refine ab6 ?_;rw[az rfl] at hw;obtain⟨o1,c2,hw⟩:=eJ.mp hw;refine⟨fun σ2 H2=>∃η2 F2,Rel X.K z F2 H2 σ2 η2∧cG F F2∧iu t g m η2=some o,fun σ2 H2 h=>⟨m,by omega,h⟩,η',F1,o1,r'.grow g1,c2,?_⟩;have s3:=s'.trans g1.jy;cases o1 with
    |nx η2=>exact fun σ4 H4 F4 r4 s4=>⟨η2,F4,r4,s3.trans s4,hw⟩
    |ct η2=>exact fun σ4 H4 F4 r4 s4=>⟨η2,F4,r4,s3.trans s4,hw⟩
    |bk η2=>cases hw;exact fun σ4 H4 F4 r4 s4=>k σ4 H4 F4 r4 (s3.trans s4)
    |rt rr=>cases hw;exact k
   |false=>refine ab5 ?_;rw[bh lK] at hw;cases hw;exact k σ' H1 F1 (r'.grow g1) (s'.trans g1.jy)
def dF(i:Nat)(f:EF):SF:=fun η=>(f η).bind fun d=>match η[i]? with
  |some (some (.ol ds))=>if ds.length<10000 then some (.nx (η.set i (some (.ol (ds++[d]))))) else none
  |_=>none
theorem gU(i:Nat){apos jZ:Pos}(h:DE X z e f)(hN:X.N[i]?=some x:=by rfl)(hv:FD X.env.scope x:=by first|exact Or.inl rfl|exact Or.inr (Or.inl rfl)|exact Or.inr (Or.inr rfl))(hd:(x==("__debug__":Str))=false:=by decide)(ow:(x==("__classdict__":Str))=false:=by decide)(N6:attributeBase (.Name x px) "append" X.env (eval (.Name x px) X.env)=eval (.Name x px) X.env:=by rfl)(V4:((backTo jZ (starEach [e] X.env)).all (fun x=>!x.1)&&(backToKw jZ (keywordEach [] X.env)).all (fun x=>x.1.isSome)
      && decide (([e]:List Expr).length+([]:List Keyword).length+(if ([]:List Keyword).isEmpty then 0 else 1)<30))=true:=by rfl)(hline:(apos.endLine==jZ.line)=true:=by rfl)(hs:starEach [e] X.env=(false,eval e X.env)::starEach [] X.env:=by rfl)(Wj:swapsWith (.Call (.Attribute (.Name x px) "append" apos) [e] [] jZ) none pos.line X.env=pure false:=by rfl):DS X z (.Expr (.Call (.Attribute (.Name x px) "append" apos) [e] [] jZ) pos) (dF i f) :=
  PS.weak (JG (YS PySem.F.plainAttrs_list PySem.F.slot_list_append PySem.F.type_list_append LM (kJ hN hv hd ow) (fh h kK hs) N6 V4 hline hs (by rfl)) Wj) fun D σ H ⟨η,F,o,r,e,k⟩=>by
  unfold dF at e;obtain⟨d,e1,e2⟩:=eJ.mp e;split at e2
  · rename_i ds h;by_cases hl:ds.length<10000
    ·rw[az hl] at e2;cases e2;obtain⟨p,o,h1,h2,h3,h4,vs,rfl,h5⟩:=r.ownAt h rfl;refine⟨_,h1,.inl ⟨rfl,vs,m4.of h4⟩,η,F,d,r,e1,fun v H' F' g1 q=>?_⟩;have r1:=r.grow g1;have h4':=g1.ent _ _ h4;have Gg:=bu h5;refine⟨p,vs,v,rfl,rfl,h4',oN (by omega) (Br (cu _)),k _ _ F' (r1.write h rfl h1 ⟨vs++[v],rfl,wC (bE g1.jy _ _ h5) q⟩ ?_) g1.jy⟩;show(vs++[v]).length≤sizeLine;rw[kI];exact Br (by simp;omega)
    ·rw[bh hl] at e2;cases e2
  ·cases e2
end
mutual
def D.ik:D→Nat→Bool
  |.tup xs,n+1=>D.OO xs n
  |.tup _,0=>false
  |.lst xs,n+1=>D.OO xs n
  |.lst _,0=>false
  |.obj _,_=>false
  |.exc _,_=>false
  |.non,_=>true
  |.bl _,_=>true
  |.int _,_=>true
  |.str _,_=>true
def D.OO:List D→Nat→Bool
  |[],_=>true
  |d::ds,n=>D.ik d n&&D.OO ds n
end
mutual
def fQ:D→D→Bool
  |.non,.non=>true
  |.bl a,.bl b=>a==b
  |.bl a,.int b=>(if a then 1 else 0)==b
  |.int a,.bl b=>a==(if b then 1 else 0)
  |.int a,.int b=>a==b
  |.str a,.str b=>a==b
  |.tup xs,.tup ys=>Kf xs ys
  |.lst xs,.lst ys=>Kf xs ys
  |_,_=>false
def Kf:List D→List D→Bool
  |[],[]=>true
  |x::xs,y::ys=>fQ x y&&Kf xs ys
  |_,_=>false
end
theorem u0:∀{xs ys:List D},xs.length≠ys.length→Kf xs ys=false
  |[],[],h=>absurd rfl h
  |[],_::_,_=>by rw[Kf];all_goals (intros;simp_all)
  |_::_,[],_=>by rw[Kf];all_goals (intros;simp_all)
  |x::xs,y::ys,h=>by rw[Kf,u0 (xs:=xs) (ys:=ys) (fun e=>h (by simp[e])),Bool.and_false]
theorem u3:∀{xs ys:List D},xs.length=ys.length→Kf xs ys=(List.range xs.length).all fun j=>fQ (xs.getD j .non) (ys.getD j .non)
  |[],[],_=>by rw[Kf];rfl
  |[],_::_,h=>by simp at h
  |_::_,[],h=>by simp at h
  |x::xs,y::ys,h=>by rw[Kf,u3 (xs:=xs) (ys:=ys) (by simpa using h),mW,List.range_succ_eq_map,mZ,List.all_map];rfl
mutual
theorem u5:∀(d:D) (n:Nat),d.ik n=true→fQ d d=true
  |.non,_,_=>by rw[fQ]
  |.bl b,_,_=>by rw[fQ];simp
  |.int b,_,_=>by rw[fQ];simp
  |.str b,_,_=>by rw[fQ];simp
  |.tup xs,0,h=>by rw[D.ik] at h;cases h
  |.tup xs,n+1,h=>by rw[D.ik] at h;rw[fQ];exact zq xs n h
  |.lst xs,0,h=>by rw[D.ik] at h;cases h
  |.lst xs,n+1,h=>by rw[D.ik] at h;rw[fQ];exact zq xs n h
  |.obj _,_,h=>by rw[D.ik] at h;cases h
  |.exc _,_,h=>by rw[D.ik] at h;cases h
theorem zq:∀(ds:List D) (n:Nat),D.OO ds n=true→Kf ds ds=true
  |[],_,_=>by rw[Kf]
  |d::ds,n,h=>by rw[D.OO,t9] at h;rw[Kf,u5 d n h.1,zq ds n h.2];rfl
end
section
variable {X:Cx} {pins:kH} {σ:St} {H:Hp} {s:Shared}
mutual
theorem D7(I:Inv X pins σ H s):∀(x y:D) (v:V),Den X.K H x v→Den X.K H y v→x=y
  |.non,y,v,h,q=>by have:=(D4 q).mp (cg.mp h);exact this.symm
  |.bl b,y,v,h,q=>by
   rw[bT.mp h] at q;cases y with
   |bl c=>have e:=bT.mp q;injection e with e;rw[e]
   |non=>cases cg.mp q
   |int _=>cases aQ.mp q
   |str _=>cases cW.mp q
   |tup _=>obtain⟨_,_,e,_⟩:=aN.mp q;cases e
   |lst _=>obtain⟨_,_,e,_⟩:=aW.mp q;cases e
   |obj _=>obtain⟨_,_,e,_⟩:=hE.mp q;cases e
   |exc _=>obtain⟨_,e,_⟩:=j3.mp q;cases e
  |.int b,y,v,h,q=>by
   rw[aQ.mp h] at q;cases y with
   |int c=>have e:=aQ.mp q;injection e with e;rw[e]
   |non=>cases cg.mp q
   |bl _=>cases bT.mp q
   |str _=>cases cW.mp q
   |tup _=>obtain⟨_,_,e,_⟩:=aN.mp q;cases e
   |lst _=>obtain⟨_,_,e,_⟩:=aW.mp q;cases e
   |obj _=>obtain⟨_,_,e,_⟩:=hE.mp q;cases e
   |exc _=>obtain⟨_,e,_⟩:=j3.mp q;cases e
  |.str b,y,v,h,q=>by
   rw[cW.mp h] at q;cases y with
   |str c=>have e:=cW.mp q;injection e with e;rw[e]
   |non=>cases cg.mp q
   |bl _=>cases bT.mp q
   |int _=>cases aQ.mp q
   |tup _=>obtain⟨_,_,e,_⟩:=aN.mp q;cases e
   |lst _=>obtain⟨_,_,e,_⟩:=aW.mp q;cases e
   |obj _=>obtain⟨_,_,e,_⟩:=hE.mp q;cases e
   |exc _=>obtain⟨_,e,_⟩:=j3.mp q;cases e
  |.tup xs,y,v,h,q=>by
   obtain⟨a,vs,rfl,h1,h2⟩:=aN.mp h;cases y with
   |tup ys=>obtain⟨b,ws,e,h3,h4⟩:=aN.mp q;cases e;rw[h1] at h3;cases h3;rw[zr I xs ys vs h2 h4]
   |lst ys=>obtain⟨b,ws,e,h3,h4⟩:=aW.mp q;cases e;obtain⟨its,_,⟨o,n,e1,c1,_⟩,_⟩:=I.list h3;obtain⟨its',_,⟨o',e2,c2,_⟩,_⟩:=I.tuple (kA.of h1);rw[e1] at e2;cases e2;rw[c1] at c2;injection c2 with c3;exact absurd c3 (by decide)
   |obj C=>obtain⟨b,dx,e,h3,_⟩:=hE.mp q;cases e;rw[h1] at h3;cases h3
   |exc C=>obtain⟨b,e,h3⟩:=j3.mp q;cases e;rw[h1] at h3;cases h3
   |non=>cases cg.mp q
   |bl _=>cases bT.mp q
   |int _=>cases aQ.mp q
   |str _=>cases cW.mp q
  |.lst xs,y,v,h,q=>by
   obtain⟨a,vs,rfl,h1,h2⟩:=aW.mp h;cases y with
   |lst ys=>obtain⟨b,ws,e,h3,h4⟩:=aW.mp q;cases e;have e:=I.FH h1 h3;subst e;rw[zr I xs ys vs h2 h4]
   |tup ys=>obtain⟨b,ws,e,h3,h4⟩:=aN.mp q;cases e;obtain⟨its,_,⟨o,n,e1,c1,_⟩,_⟩:=I.list h1;obtain⟨its',_,⟨o',e2,c2,_⟩,_⟩:=I.tuple (kA.of h3);rw[e1] at e2;cases e2;rw[c1] at c2;injection c2 with c3;exact absurd c3 (by decide)
   |obj C =>
    obtain⟨b,dx,e,h3,_⟩:=hE.mp q;cases e;obtain⟨its,_,⟨o,n,e1,c1,_⟩,_⟩:=I.list h1;obtain⟨_,_,_,e2,_⟩:=(show cy X.prog X.w H s.heap _ (.ins C dx []) from I.cY _ _ h3)
    rw[e1] at e2;cases e2;cases c1
   |exc C =>
    obtain⟨b,e,h3⟩:=j3.mp q;cases e;obtain⟨its,_,⟨o,n,e1,c1,_⟩,_⟩:=I.list h1;obtain⟨⟨o2,e2,c2⟩,_⟩:=(show cy X.prog X.w H s.heap _ (.ext _) from I.cY _ _ h3)
    rw[e1] at e2;cases e2;rw[c1] at c2;cases c2
   |non=>cases cg.mp q
   |bl _=>cases bT.mp q
   |int _=>cases aQ.mp q
   |str _=>cases cW.mp q
  |.exc C,y,v,h,q=>by
   obtain⟨a,rfl,h1⟩:=j3.mp h;cases y with
   |exc C' =>
    obtain⟨b,e,h3⟩:=j3.mp q;cases e;obtain⟨⟨o2,e2,c2⟩,_⟩:=(show cy X.prog X.w H s.heap _ (.ext _) from I.cY _ _ h1)
    obtain⟨⟨o3,e3,c3⟩,_⟩:=(show cy X.prog X.w H s.heap _ (.ext _) from I.cY _ _ h3)
    rw[e2] at e3;cases e3;rw[c2] at c3;cases c3;rfl
   |obj C'=>obtain⟨b,dx',e,h3,_⟩:=hE.mp q;cases e;rw[h1] at h3;cases h3
   |tup ys=>obtain⟨b,ws,e,h3,h4⟩:=aN.mp q;cases e;rw[h1] at h3;cases h3
   |lst ys =>
    obtain⟨b,ws,e,h3,h4⟩:=aW.mp q;cases e;obtain⟨its,_,⟨o,n,e1,c1,_⟩,_⟩:=I.list h3;obtain⟨⟨o2,e2,c2⟩,_⟩:=(show cy X.prog X.w H s.heap _ (.ext _) from I.cY _ _ h1)
    rw[e1] at e2;cases e2;rw[c1] at c2;cases c2
   |non=>cases cg.mp q
   |bl _=>cases bT.mp q
   |int _=>cases aQ.mp q
   |str _=>cases cW.mp q
  |.obj C,y,v,h,q=>by
   obtain⟨a,dx,rfl,h1,_⟩:=hE.mp h;cases y with
   |obj C'=>obtain⟨b,dx',e,h3,_⟩:=hE.mp q;cases e;rw[h1] at h3;cases h3;rfl
   |exc C'=>obtain⟨b,e,h3⟩:=j3.mp q;cases e;rw[h1] at h3;cases h3
   |tup ys=>obtain⟨b,ws,e,h3,h4⟩:=aN.mp q;cases e;rw[h1] at h3;cases h3
   |lst ys =>
    obtain⟨b,ws,e,h3,h4⟩:=aW.mp q;cases e;obtain⟨its,_,⟨o,n,e1,c1,_⟩,_⟩:=I.list h3;obtain⟨_,_,_,e2,_⟩:=(show cy X.prog X.w H s.heap _ (.ins C dx []) from I.cY _ _ h1)
    rw[e1] at e2;cases e2;cases c1
   |non=>cases cg.mp q
   |bl _=>cases bT.mp q
   |int _=>cases aQ.mp q
   |str _=>cases cW.mp q
theorem zr(I:Inv X pins σ H s):∀(xs ys:List D) (vs:List V),cz X.K H xs vs→cz X.K H ys vs→xs=ys
  |[],ys,vs,h,q=>by
   rw[bD.mp h] at q;cases ys with
   |nil=>rfl
   |cons y ys=>obtain⟨_,_,e,_⟩:=aP.mp q;cases e
  |x::xs,ys,vs,h,q=>by
   obtain⟨v,r,rfl,h1,h2⟩:=aP.mp h;cases ys with
   |nil=>cases bD.mp q
   |cons y ys=>obtain⟨v',r',e,h3,h4⟩:=aP.mp q;cases e;rw[D7 I x y v h1 h3,zr I xs ys r h2 h4]
end
inductive At (H:Hp) (s:Shared):D→Value→Prop where
  |non:At H s .non .none
  |bl (b:Bool):At H s (.bl b) (.bool b)
  |int (i:Int) (t:Tok):At H s (.int i) (.int i t)
  |str (x:Str) (t:Tok):At H s (.str x) (.str x t)
  |tup {xs:List D} {a:Addr} {vs:List V} {its:ef} (h:s.heap.IsTuple a its.toArray) (hv:Vals vs its):At H s (.tup xs) (.ref a)
  |lst {xs:List D} {a:Addr} {vs:List V} {its:ef} (h:s.heap.IsList a its.toArray) (hv:Vals vs its):At H s (.lst xs) (.ref a)
theorem D8{xs ys:List D}{m:Nat}(h1:xs.length=n)(h2:ys.length=m):((List.range (min n m)).all (fun j=>fQ (xs.getD j .non) (ys.getD j .non))&&n==m)=Kf xs ys:=by
  subst h1 h2;by_cases e:xs.length=ys.length
  ·rw[u3 e,e,Nat.min_self];simp
  ·rw[u0 e];simp[e]
mutual
theorem WL(I:Inv X pins σ H s):∀(x y:D) (n:Nat) (A:Around) (u v:V) (uu vv:Value),x.ik n=true→y.ik n=true→Den X.K H x u→Den X.K H y v→RelV u uu→RelV v vv→A.units+n<cLine→SeqAt.EqAt A s uu vv (fQ x y)
  |x,y,n,A,u,v,uu,vv,ox,oy,hx,hy,ru,rv,hu=>by
   have u6:A.units<cLine:=by omega
   cases x with
   |obj C=>rw[D.ik] at ox;cases ox
   |exc C=>rw[D.ik] at ox;cases ox
   |non =>
    rw[cg.mp hx] at ru;cases ru;cases y with
    |obj C=>rw[D.ik] at oy;cases oy
    |exc C=>rw[D.ik] at oy;cases oy
    |non=>rw[cg.mp hy] at rv;cases rv;rw[fQ];exact SeqAt.EqAt.same _
    |bl b=>rw[bT.mp hy] at rv;cases rv;rw[fQ];exact SeqAt.EqAt.none_bool b;all_goals (intros;simp_all)
    |int b=>rw[aQ.mp hy] at rv;obtain⟨t,rfl⟩:=rv;rw[fQ];exact SeqAt.EqAt.none_int b t;all_goals (intros;simp_all)
    |str b=>rw[cW.mp hy] at rv;obtain⟨t,rfl⟩:=rv;rw[fQ];exact SeqAt.EqAt.none_str b t;all_goals (intros;simp_all)
    |tup ys=>obtain⟨b,ws,rfl,h3,h4⟩:=aN.mp hy;cases rv;obtain⟨its,_,p,_⟩:=I.tuple (kA.of h3);rw[fQ];exact SeqAt.EqAt.none_tuple p u6;all_goals (intros;simp_all)
    |lst ys=>obtain⟨b,ws,rfl,h3,h4⟩:=aW.mp hy;cases rv;obtain⟨its,_,p,_⟩:=I.list h3;rw[fQ];exact SeqAt.EqAt.none_list p.isList u6;all_goals (intros;simp_all)
   |bl a =>
    rw[bT.mp hx] at ru;cases ru;cases y with
    |obj C=>rw[D.ik] at oy;cases oy
    |exc C=>rw[D.ik] at oy;cases oy
    |non=>rw[cg.mp hy] at rv;cases rv;rw[fQ];exact SeqAt.EqAt.bool_none a;all_goals (intros;simp_all)
    |bl b=>rw[bT.mp hy] at rv;cases rv;rw[fQ];exact SeqAt.EqAt.bool_bool a b
    |int b=>rw[aQ.mp hy] at rv;obtain⟨t,rfl⟩:=rv;rw[fQ];exact SeqAt.EqAt.bool_int a b t
    |str b=>rw[cW.mp hy] at rv;obtain⟨t,rfl⟩:=rv;rw[fQ];exact SeqAt.EqAt.bool_str a b t;all_goals (intros;simp_all)
    |tup ys=>obtain⟨b,ws,rfl,h3,h4⟩:=aN.mp hy;cases rv;obtain⟨its,_,p,_⟩:=I.tuple (kA.of h3);rw[fQ];exact SeqAt.EqAt.bool_tuple a p u6;all_goals (intros;simp_all)
    |lst ys=>obtain⟨b,ws,rfl,h3,h4⟩:=aW.mp hy;cases rv;obtain⟨its,_,p,_⟩:=I.list h3;rw[fQ];exact SeqAt.EqAt.bool_list a p.isList u6;all_goals (intros;simp_all)
   |int a =>
    rw[aQ.mp hx] at ru;obtain⟨t0,rfl⟩:=ru;cases y with
    |obj C=>rw[D.ik] at oy;cases oy
    |exc C=>rw[D.ik] at oy;cases oy
    |non=>rw[cg.mp hy] at rv;cases rv;rw[fQ];exact SeqAt.EqAt.int_none a t0;all_goals (intros;simp_all)
    |bl b=>rw[bT.mp hy] at rv;cases rv;rw[fQ];exact SeqAt.EqAt.int_bool a t0 b
    |int b=>rw[aQ.mp hy] at rv;obtain⟨t,rfl⟩:=rv;rw[fQ];exact SeqAt.EqAt.int_int a t0 b t
    |str b=>rw[cW.mp hy] at rv;obtain⟨t,rfl⟩:=rv;rw[fQ];exact SeqAt.EqAt.int_str a t0 b t;all_goals (intros;simp_all)
    |tup ys=>obtain⟨b,ws,rfl,h3,h4⟩:=aN.mp hy;cases rv;obtain⟨its,_,p,_⟩:=I.tuple (kA.of h3);rw[fQ];exact SeqAt.EqAt.int_tuple a t0 p u6;all_goals (intros;simp_all)
    |lst ys=>obtain⟨b,ws,rfl,h3,h4⟩:=aW.mp hy;cases rv;obtain⟨its,_,p,_⟩:=I.list h3;rw[fQ];exact SeqAt.EqAt.int_list a t0 p.isList u6;all_goals (intros;simp_all)
   |str a =>
    rw[cW.mp hx] at ru;obtain⟨t0,rfl⟩:=ru;cases y with
    |obj C=>rw[D.ik] at oy;cases oy
    |exc C=>rw[D.ik] at oy;cases oy
    |non=>rw[cg.mp hy] at rv;cases rv;rw[fQ];exact SeqAt.EqAt.str_none a t0;all_goals (intros;simp_all)
    |bl b=>rw[bT.mp hy] at rv;cases rv;rw[fQ];exact SeqAt.EqAt.str_bool a t0 b;all_goals (intros;simp_all)
    |int b=>rw[aQ.mp hy] at rv;obtain⟨t,rfl⟩:=rv;rw[fQ];exact SeqAt.EqAt.str_int a t0 b t;all_goals (intros;simp_all)
    |str b=>rw[cW.mp hy] at rv;obtain⟨t,rfl⟩:=rv;rw[fQ];exact SeqAt.EqAt.str_str a t0 b t
    |tup ys=>obtain⟨b,ws,rfl,h3,h4⟩:=aN.mp hy;cases rv;obtain⟨its,_,p,_⟩:=I.tuple (kA.of h3);rw[fQ];exact SeqAt.EqAt.str_tuple a t0 p u6;all_goals (intros;simp_all)
    |lst ys=>obtain⟨b,ws,rfl,h3,h4⟩:=aW.mp hy;cases rv;obtain⟨its,_,p,_⟩:=I.list h3;rw[fQ];exact SeqAt.EqAt.str_list a t0 p.isList u6;all_goals (intros;simp_all)
   |tup xs =>
    obtain⟨a,vs,rfl,h1,h2⟩:=aN.mp hx;cases ru;obtain⟨its,Gh,p1,_⟩:=I.tuple (kA.of h1);have p1:s.heap.IsTuple a its.toArray:=p1;cases y with
    |obj C=>rw[D.ik] at oy;cases oy
    |exc C=>rw[D.ik] at oy;cases oy
    |non=>rw[cg.mp hy] at rv;cases rv;rw[fQ];exact SeqAt.EqAt.tuple_none p1 u6;all_goals (intros;simp_all)
    |bl b=>rw[bT.mp hy] at rv;cases rv;rw[fQ];exact SeqAt.EqAt.tuple_bool b p1 u6;all_goals (intros;simp_all)
    |int b=>rw[aQ.mp hy] at rv;obtain⟨t,rfl⟩:=rv;rw[fQ];exact SeqAt.EqAt.tuple_int b t p1 u6;all_goals (intros;simp_all)
    |str b=>rw[cW.mp hy] at rv;obtain⟨t,rfl⟩:=rv;rw[fQ];exact SeqAt.EqAt.tuple_str b t p1 u6;all_goals (intros;simp_all)
    |lst ys=>obtain⟨b,ws,rfl,h3,h4⟩:=aW.mp hy;cases rv;obtain⟨eK,_,p2,_⟩:=I.list h3;rw[fQ];exact SeqAt.EqAt.tuple_list p1 p2.isList u6;all_goals (intros;simp_all)
    |tup ys =>
     obtain⟨b,ws,rfl,h3,h4⟩:=aN.mp hy;cases rv;by_cases uN:a=b
     ·subst uN;rw[D7 I _ _ _ hx hy,u5 _ n oy];exact SeqAt.EqAt.same _
     · obtain⟨eK,Gi,p2,_⟩:=I.tuple (kA.of h3);cases n with
       |zero=>rw[D.ik] at ox;cases ox
       |succ n =>
        rw[D.ik] at ox oy;have key:=SeqAt.RcAt.tuples (A:=A) (e:=fun j=>fQ (xs.getD j .non) (ys.getD j .non)) p1 (show s.heap.IsTuple b eK.toArray from p2) u6 (fun j q1 q2 =>
          ue I xs ys n A.in1 vs ws its eK ox oy h2 h4 Gh Gi (by rw[in1_units];omega) j q1 q2)
        rw[D8 (by rw[bu h2,Gh.length];simp) (by rw[bu h4,Gi.length];simp)] at key;rw[fQ];exact SeqAt.EqAt.of_refs uN key
   |lst xs =>
    obtain⟨a,vs,rfl,h1,h2⟩:=aW.mp hx;cases ru;obtain⟨its,Gh,p1,_⟩:=I.list h1;have p1:=p1.isList;cases y with
    |obj C=>rw[D.ik] at oy;cases oy
    |exc C=>rw[D.ik] at oy;cases oy
    |non=>rw[cg.mp hy] at rv;cases rv;rw[fQ];exact SeqAt.EqAt.list_none p1 u6;all_goals (intros;simp_all)
    |bl b=>rw[bT.mp hy] at rv;cases rv;rw[fQ];exact SeqAt.EqAt.list_bool b p1 u6;all_goals (intros;simp_all)
    |int b=>rw[aQ.mp hy] at rv;obtain⟨t,rfl⟩:=rv;rw[fQ];exact SeqAt.EqAt.list_int b t p1 u6;all_goals (intros;simp_all)
    |str b=>rw[cW.mp hy] at rv;obtain⟨t,rfl⟩:=rv;rw[fQ];exact SeqAt.EqAt.list_str b t p1 u6;all_goals (intros;simp_all)
    |tup ys=>obtain⟨b,ws,rfl,h3,h4⟩:=aN.mp hy;cases rv;obtain⟨eK,_,p2,_⟩:=I.tuple (kA.of h3);rw[fQ];exact SeqAt.EqAt.list_tuple p1 (show s.heap.IsTuple b eK.toArray from p2) u6;all_goals (intros;simp_all)
    |lst ys =>
     obtain⟨b,ws,rfl,h3,h4⟩:=aW.mp hy;cases rv;by_cases uN:a=b
     ·subst uN;rw[D7 I _ _ _ hx hy,u5 _ n oy];exact SeqAt.EqAt.same _
     · obtain⟨eK,Gi,p2,_⟩:=I.list h3;have p2:=p2.isList;have l1:xs.length=its.toArray.size:=by rw[bu h2,Gh.length];simp
       have l2:ys.length=eK.toArray.size:=by rw[bu h4,Gi.length];simp
       rw[fQ];by_cases hl:its.toArray.size=eK.toArray.size
       · cases n with
         |zero=>rw[D.ik] at ox;cases ox
         |succ n =>
          rw[D.ik] at ox oy;have key:=SeqAt.RcAt.lists (A:=A) (e:=fun j=>fQ (xs.getD j .non) (ys.getD j .non)) p1 p2 hl u6 (fun j q1 q2 =>
            ue I xs ys n A.in1 vs ws its eK ox oy h2 h4 Gh Gi (by rw[in1_units];omega) j q1 q2)
          rw[u3 (by omega),l1];exact SeqAt.EqAt.of_refs uN key
       ·rw[u0 (by omega)];exact SeqAt.EqAt.of_refs uN (SeqAt.RcAt.lists_lengths p1 p2 (by simpa using hl) u6)
  termination_by x=>sizeOf x
theorem ue(I:Inv X pins σ H s):∀(xs ys:List D) (n:Nat) (A:Around) (vs ws:List V) (its eK:ef),D.OO xs n=true→D.OO ys n=true→cz X.K H xs vs→cz X.K H ys ws→Vals vs its→Vals ws eK→A.units+n<cLine→∀j (h1:j<its.toArray.size) (h2:j<eK.toArray.size),SeqAt.EqAt A s its.toArray[j] eK.toArray[j] (fQ (xs.getD j .non) (ys.getD j .non))
  |[],ys,n,A,vs,ws,its,eK,ox,oy,hx,hy,ru,rv,hu,j,h1,h2=>by rw[bD.mp hx] at ru;cases ru;simp at h1
  |x::xs,[],n,A,vs,ws,its,eK,ox,oy,hx,hy,ru,rv,hu,j,h1,h2=>by rw[bD.mp hy] at rv;cases rv;simp at h2
  |x::xs,y::ys,n,A,vs,ws,its,eK,ox,oy,hx,hy,ru,rv,hu,j,h1,h2=>by
   obtain⟨v,r,rfl,a1,a2⟩:=aP.mp hx;obtain⟨w,r',rfl,b1,b2⟩:=aP.mp hy;rw[D.OO,t9] at ox oy;cases ru with
   |cons q1 q2 =>
    cases rv with
    |cons q3 q4 =>
     cases j with
     |zero=>exact WL I x y n A v w _ _ ox.1 oy.1 a1 b1 q1 q3 hu
     |succ j=>have:=ue I xs ys n A r r' _ _ ox.2 oy.2 a2 b2 q2 q4 hu j (by simpa using h1) (by simpa using h2);simpa using this
  termination_by xs=>sizeOf xs
end
end
end DL
abbrev eO:=Option DL.Slot
abbrev dm:=List DL.D
variable {sl:DL.Slot} {η:DL.cQ} {Fn:List DL.D→Option DL.Slot}
namespace DL
open PySem PySem.Spec L2
open PyProof.Rows hiding St pairAt
def HY:D→D→Bool:=fun x y=>match Nr x,Nr y with
  |some a,some b=>NM a b
  |_,_=>false
def Mf:D→D→Bool
  |.tup _,.tup _=>true
  |.lst _,.lst _=>true
  |_,_=>false
def m5:D→D→Option D:=fun x y=>if HY x y=true then some (.bl (fQ x y)) else if Mf x y=true&&(x.ik 8&&y.ik 8) then some (.bl (fQ x y)) else none
def qJ:D→D→Option D:=fun x y=>if HY x y=true then some (.bl (!fQ x y)) else if Mf x y=true&&(x.ik 8&&y.ik 8) then some (.bl (!fQ x y)) else none
theorem OQ{x y:D}{a b:V}(ha:Nr x=some a)(hb:Nr y=some b)(h:NM a b=true):fQ x y=decide (a=b):=by
  cases x with
  |non =>
   cases ha;cases y with
   |non=>cases hb;rw[fQ];simp
   |bl c=>cases hb;rw[fQ];simp;all_goals (intros;simp_all)
   |int c=>cases hb;rw[fQ];simp;all_goals (intros;simp_all)
   |str c=>cases hb;rw[fQ];simp;all_goals (intros;simp_all)
   |_=>cases hb
  |bl d =>
   cases ha;cases y with
   |non=>cases hb;rw[fQ];simp;all_goals (intros;simp_all)
   |bl c=>cases hb;rw[fQ,Hw]
   |int c=>cases hb;cases h
   |str c=>cases hb;rw[fQ];simp;all_goals (intros;simp_all)
   |_=>cases hb
  |int d =>
   cases ha;cases y with
   |non=>cases hb;rw[fQ];simp;all_goals (intros;simp_all)
   |bl c=>cases hb;cases h
   |int c=>cases hb;rw[fQ,Ds]
   |str c=>cases hb;rw[fQ];simp;all_goals (intros;simp_all)
   |_=>cases hb
  |str d =>
   cases ha;cases y with
   |non=>cases hb;rw[fQ];simp;all_goals (intros;simp_all)
   |bl c=>cases hb;rw[fQ];simp;all_goals (intros;simp_all)
   |int c=>cases hb;rw[fQ];simp;all_goals (intros;simp_all)
   |str c=>cases hb;rw[fQ,Dt]
   |_=>cases hb
  |_=>cases ha
def S0(K:PySem.W.Frag)(neg:Bool):R2:=fun x y H Q=>∃d e,Den K H d x∧Den K H e y∧Mf d e=true∧d.ik 8=true∧e.ik 8=true∧Q (.bl (if neg then !fQ d e else fQ d e)) H
section
variable {X:Cx}
theorem OS(hu:X.A.units+64<cLine):qw X (compareOp .Eq) (S0 X.K false):=by
  intro pins s σ H x y v u Q I rx ry h;obtain⟨d,e,hd,he,hc,od,oe,q⟩:=h;have u6:X.A.units<cLine:=by omega
  cases d with
  |tup xs =>
   cases e with
   |tup ys =>
    obtain⟨a,vs,rfl,h1,h2⟩:=aN.mp hd;obtain⟨b,ws,rfl,h3,h4⟩:=aN.mp he;cases rx;cases ry;obtain⟨its,Gh,p1,_⟩:=I.tuple (kA.of h1);obtain⟨eK,Gi,p2,_⟩:=I.tuple (kA.of h3);rw[D.ik] at od oe;have key:=SeqAt.RcAt.tuples (A:=X.A) (e:=fun j=>fQ (xs.getD j .non) (ys.getD j .non)) (show s.heap.IsTuple a its.toArray from p1) (show s.heap.IsTuple b eK.toArray from p2) u6 (fun j q1 q2 =>
      ue I xs ys 7 X.A.in1 vs ws its eK od oe h2 h4 Gh Gi (by rw[in1_units];omega) j q1 q2)
    rw[D8 (by rw[bu h2,Gh.length];simp) (by rw[bu h4,Gi.length];simp)] at key;exact key _ _ _ _ (bZ I q (by rw[fQ];rfl))
   |_=>cases hc
  |lst xs =>
   cases e with
   |lst ys =>
    obtain⟨a,vs,rfl,h1,h2⟩:=aW.mp hd;obtain⟨b,ws,rfl,h3,h4⟩:=aW.mp he;cases rx;cases ry;obtain⟨its,Gh,p1,_⟩:=I.list h1;obtain⟨eK,Gi,p2,_⟩:=I.list h3;rw[D.ik] at od oe;have l1:xs.length=its.toArray.size:=by rw[bu h2,Gh.length];simp
    have l2:ys.length=eK.toArray.size:=by rw[bu h4,Gi.length];simp
    by_cases hl:its.toArray.size=eK.toArray.size
    · have key:=SeqAt.RcAt.lists (A:=X.A) (e:=fun j=>fQ (xs.getD j .non) (ys.getD j .non)) p1.isList p2.isList hl u6 (fun j q1 q2 =>
        ue I xs ys 7 X.A.in1 vs ws its eK od oe h2 h4 Gh Gi (by rw[in1_units];omega) j q1 q2)
      rw[←l1,←u3 (by omega)] at key;exact key _ _ _ _ (bZ I q (by rw[fQ];rfl))
    ·exact SeqAt.RcAt.lists_lengths p1.isList p2.isList (by simpa using hl) u6 _ _ _ _ (bZ I q (by rw[fQ,u0 (by omega)];rfl))
   |_=>cases hc
  |_=>cases e<;>cases hc
theorem WM(hu:X.A.units+64<cLine):qw X (compareOp .NotEq) (S0 X.K true):=by
  intro pins s σ H x y v u Q I rx ry h;obtain⟨d,e,hd,he,hc,od,oe,q⟩:=h;have u6:X.A.units<cLine:=by omega
  cases d with
  |tup xs =>
   cases e with
   |tup ys =>
    obtain⟨a,vs,rfl,h1,h2⟩:=aN.mp hd;obtain⟨b,ws,rfl,h3,h4⟩:=aN.mp he;cases rx;cases ry;obtain⟨its,Gh,p1,_⟩:=I.tuple (kA.of h1);obtain⟨eK,Gi,p2,_⟩:=I.tuple (kA.of h3);rw[D.ik] at od oe;have key:=SeqAt.RcNeAt.tuples (A:=X.A) (e:=fun j=>fQ (xs.getD j .non) (ys.getD j .non)) (show s.heap.IsTuple a its.toArray from p1) (show s.heap.IsTuple b eK.toArray from p2) u6 (fun j q1 q2 =>
      ue I xs ys 7 X.A.in1 vs ws its eK od oe h2 h4 Gh Gi (by rw[in1_units];omega) j q1 q2)
    rw[D8 (by rw[bu h2,Gh.length];simp) (by rw[bu h4,Gi.length];simp)] at key;exact key _ _ _ _ (bZ I q (by rw[fQ];rfl))
   |_=>cases hc
  |lst xs =>
   cases e with
   |lst ys =>
    obtain⟨a,vs,rfl,h1,h2⟩:=aW.mp hd;obtain⟨b,ws,rfl,h3,h4⟩:=aW.mp he;cases rx;cases ry;obtain⟨its,Gh,p1,_⟩:=I.list h1;obtain⟨eK,Gi,p2,_⟩:=I.list h3;rw[D.ik] at od oe;have l1:xs.length=its.toArray.size:=by rw[bu h2,Gh.length];simp
    have l2:ys.length=eK.toArray.size:=by rw[bu h4,Gi.length];simp
    by_cases hl:its.toArray.size=eK.toArray.size
    · have key:=SeqAt.RcNeAt.lists (A:=X.A) (e:=fun j=>fQ (xs.getD j .non) (ys.getD j .non)) p1.isList p2.isList hl u6 (fun j q1 q2 =>
        ue I xs ys 7 X.A.in1 vs ws its eK od oe h2 h4 Gh Gi (by rw[in1_units];omega) j q1 q2)
      rw[←l1,←u3 (by omega)] at key;exact key _ _ _ _ (bZ I q (by rw[fQ];rfl))
    ·exact SeqAt.RcNeAt.lists_lengths p1.isList p2.isList (by simpa using hl) u6 _ _ _ _ (bZ I q (by rw[fQ,u0 (by omega)];rfl))
   |_=>cases hc
  |_=>cases e<;>cases hc
theorem Gj{x y:D}(h:HY x y=true):∃a b,Nr x=some a∧Nr y=some b∧NM a b=true:=by
  unfold HY at h;split at h
  ·exact⟨_,_,by assumption,by assumption,h⟩
  ·cases h
theorem UR{K:PySem.W.Frag}:Nq K m5 (fun x y H Q=>rEq x y H Q∨S0 K false x y H Q):=fun F H x y d v u Q b e h1 h2 k=>by
  unfold m5 at e;by_cases hs:HY x y=true
  ·rw[az hs] at e;cases e;obtain⟨a,b,ha,hb,hc⟩:=Gj hs;obtain⟨rfl,_⟩:=sO h1 ha;obtain⟨rfl,_⟩:=sO h2 hb;refine .inl ⟨hc,k _ ?_⟩;rw[OQ ha hb hc];exact bT.mpr rfl
  · rw[bh hs] at e;by_cases hc:(Mf x y=true&&(x.ik 8&&y.ik 8))=true
    ·rw[az hc] at e;cases e;simp only[t9,Bb] at hc;exact .inr ⟨x,y,h1,h2,hc.1,hc.2.1,hc.2.2,k _ (bT.mpr rfl)⟩
    ·rw[bh hc] at e;cases e
theorem Zx{K:PySem.W.Frag}:Nq K qJ (fun x y H Q=>rNe x y H Q∨S0 K true x y H Q):=fun F H x y d v u Q b e h1 h2 k=>by
  unfold qJ at e;by_cases hs:HY x y=true
  ·rw[az hs] at e;cases e;obtain⟨a,b,ha,hb,hc⟩:=Gj hs;obtain⟨rfl,_⟩:=sO h1 ha;obtain⟨rfl,_⟩:=sO h2 hb;refine .inl ⟨hc,k _ ?_⟩;rw[OQ ha hb hc];exact bT.mpr rfl
  · rw[bh hs] at e;by_cases hc:(Mf x y=true&&(x.ik 8&&y.ik 8))=true
    ·rw[az hc] at e;cases e;simp only[t9,Bb] at hc;exact .inr ⟨x,y,h1,h2,hc.1,hc.2.1,hc.2.2,k _ (bT.mpr rfl)⟩
    ·rw[bh hc] at e;cases e
variable {z:Zc} {e a b:Expr} {f fa fb:EF} {fl:LF} {pos p:Pos}
theorem OU(hu:X.A.units+64<cLine)(ha:DB X z a fa)(hb:DB X z b fb):DE X z (.Compare a [.Eq] [b] pos) (ag m5 fa fb):=zc (Uy.or (OS hu)) UR ha hb (lX _)
theorem tU(hu:X.A.units+64<cLine)(ha:DB X z a fa)(hb:DB X z b fb):DT X z (.Compare a [.Eq] [b] pos) (bV (ag m5 fa fb)):=pY (Uy.or (OS hu)) UR ha hb (lX _)
theorem Ci(hu:X.A.units+64<cLine)(ha:DB X z a fa)(hb:DB X z b fb):DT X z (.Compare a [.NotEq] [b] pos) (bV (ag qJ fa fb)):=pY (YG.or (WM hu)) Zx ha hb (lX _)
def Ru:D→Option String
  |.non=>some "NoneType"
  |.bl _=>some "bool"
  |.int _=>some "int"
  |.str _=>some "str"
  |.tup _=>some "tuple"
  |.lst _=>some "list"
  |.obj _=>none
  |.exc _=>none
def OV(T t:String):Bool:=t==T||(T=="int"&&t=="bool")
def wJ(T:String)(f:EF):EF:=fun η=>(f η).bind fun d=>(Ru d).map fun t=>.bl (OV T t)
theorem WN{K:PySem.W.Frag}{t:String}(h:Den K H d v)(e:Ru d=some t):uc K H v (.type t):=by
  cases d with
  |non=>cases e;rw[cg.mp h];exact .non
  |bl b=>cases e;rw[bT.mp h];exact .bl b
  |int b=>cases e;rw[aQ.mp h];exact .int b
  |str b=>cases e;rw[cW.mp h];exact .str b
  |tup xs=>cases e;obtain⟨a,vs,rfl,h1,_⟩:=aN.mp h;exact .tup h1
  |lst xs =>
   cases e;obtain⟨a,vs,rfl,h1,_⟩:=aW.mp h;rcases h1 with(h1|⟨o,h1⟩)|⟨o,its,n,hk,hc,_⟩
   ·exact .lst h1
   ·exact .ua h1
   ·exact .kl hk hc
  |obj C=>cases e
  |exc C=>cases e
theorem Gk{T:String}(hk:∀(d:D) (t:String),Ru d=some t→kitOne X.K (.type t) (.type T)=some (OV T t))(hv:bootBuiltins x=some (.type T))(hg:Gl X "isinstance")(hm:X.mg "isinstance"=none)(OW:Gl X x)(Mg:X.mg x=none)(ha:DB X z e f)(hs:starEach [e,.Name x p] X.env=(false,eval e X.env)::starEach [.Name x p] X.env)(Bi:starEach [.Name x p] X.env=(false,eval (.Name x p) X.env)::starEach [] X.env)(tq:(backTo pos (starEach [.Name x p] X.env)).any (·.1)=false)(hn:x≠"__name__")(tm:(x==("__debug__":Str))=false):DE X z (.Call (.Name "isinstance" p2) [e,.Name x p] [] pos) (wJ T f) :=
  PE.weak (qR FW hg hm Bo (fh ha (fh (RC (v:=.ty T) OW Mg hv rfl hn tm) kK Bi) hs) (by decide) (by decide) hs tq) fun σ H Q ⟨η,F,d,r,e,k⟩=>by
  unfold wJ at e;obtain⟨d',h1,h2⟩:=eJ.mp e;obtain⟨t,h3,h4⟩:=gZ.mp h2;subst h4;exact⟨η,F,d',r,h1,fun v H' F' g q=>⟨v,T,.type t,OV T t,rfl,WN q h3,hk d' t h3,k _ H' F' g (bT.mpr rfl)⟩⟩
theorem kit_tuple{K:PySem.W.Frag}:∀(d:D) (t:String),Ru d=some t→kitOne K (.type t) (.type "tuple")=some (OV "tuple" t):=fun d t h=>by cases d<;>cases h<;>rfl
theorem OX{K:PySem.W.Frag}:∀(d:D) (t:String),Ru d=some t→kitOne K (.type t) (.type "list")=some (OV "list" t):=fun d t h=>by cases d<;>cases h<;>rfl
theorem OY{K:PySem.W.Frag}:∀(d:D) (t:String),Ru d=some t→kitOne K (.type t) (.type "bool")=some (OV "bool" t):=fun d t h=>by cases d<;>cases h<;>rfl
theorem S1{K:PySem.W.Frag}:∀(d:D) (t:String),Ru d=some t→kitOne K (.type t) (.type "int")=some (OV "int" t):=fun d t h=>by cases d<;>cases h<;>rfl
theorem S2{K:PySem.W.Frag}:∀(d:D) (t:String),Ru d=some t→kitOne K (.type t) (.type "str")=some (OV "str" t):=fun d t h=>by cases d<;>cases h<;>rfl
theorem rB(hg:Gl X "isinstance")(hm:X.mg "isinstance"=none)(Mg:X.mg "tuple"=none)(ha:DB X z e f)(OW:Gl X "tuple":=by rfl)(hs:starEach [e,.Name "tuple" p] X.env=(false,eval e X.env)::starEach [.Name "tuple" p] X.env:=by rfl):DE X z (.Call (.Name "isinstance" p2) [e,.Name "tuple" p] [] pos) (wJ "tuple" f) :=
  Gk kit_tuple yV hg hm OW Mg ha hs rfl rfl (by decide) (by decide)
theorem uf(hg:Gl X "isinstance")(hm:X.mg "isinstance"=none)(Mg:X.mg "list"=none)(ha:DB X z e f)(OW:Gl X "list":=by rfl)(hs:starEach [e,.Name "list" p] X.env=(false,eval e X.env)::starEach [.Name "list" p] X.env:=by rfl):DE X z (.Call (.Name "isinstance" p2) [e,.Name "list" p] [] pos) (wJ "list" f) :=
  Gk OX DC hg hm OW Mg ha hs rfl rfl (by decide) (by decide)
theorem ug(hg:Gl X "isinstance")(hm:X.mg "isinstance"=none)(Mg:X.mg "bool"=none)(ha:DB X z e f)(OW:Gl X "bool":=by rfl)(hs:starEach [e,.Name "bool" p] X.env=(false,eval e X.env)::starEach [.Name "bool" p] X.env:=by rfl):DE X z (.Call (.Name "isinstance" p2) [e,.Name "bool" p] [] pos) (wJ "bool" f) :=
  Gk OY Sh hg hm OW Mg ha hs rfl rfl (by decide) (by decide)
theorem Cj(hg:Gl X "isinstance")(hm:X.mg "isinstance"=none)(Mg:X.mg "int"=none)(ha:DB X z e f)(OW:Gl X "int":=by rfl)(hs:starEach [e,.Name "int" p] X.env=(false,eval e X.env)::starEach [.Name "int" p] X.env:=by rfl):DE X z (.Call (.Name "isinstance" p2) [e,.Name "int" p] [] pos) (wJ "int" f) :=
  Gk S1 Wk hg hm OW Mg ha hs rfl rfl (by decide) (by decide)
theorem Ck(hg:Gl X "isinstance")(hm:X.mg "isinstance"=none)(Mg:X.mg "str"=none)(ha:DB X z e f)(OW:Gl X "str":=by rfl)(hs:starEach [e,.Name "str" p] X.env=(false,eval e X.env)::starEach [.Name "str" p] X.env:=by rfl):DE X z (.Call (.Name "isinstance" p2) [e,.Name "str" p] [] pos) (wJ "str" f) :=
  Gk S2 Wl hg hm OW Mg ha hs rfl rfl (by decide) (by decide)
def Zy(a b:Int):Bool:=decide (a≤b)
def gK(ns:aO):aO:=ns.mergeSort Zy
theorem gA(ns:aO):(gK ns).Perm ns:=List.mergeSort_perm ns Zy
theorem zt(ns:aO):(gK ns).Pairwise (·≤·):=by have:=List.pairwise_mergeSort (le:=Zy) (fun a b c h1 h2=>by simp only[Zy,Bb] at *;omega) (fun a b=>by simp only[Zy,Bool.or_eq_true,Bb];omega) ns;exact this.imp fun h=>xY h
theorem OZ(h:ms.Perm ns)(hp:ms.Pairwise (·≤·)):gK ns=ms :=
  List.Perm.eq_of_pairwise (le:=fun a b:Int=>a≤b) (fun a b _ _ h1 h2=>by omega) (zt ns) hp ((gA ns).trans h.symm)
theorem D9:qx X (.builtin "sorted") (fun xs H Q=>∃(p:Addr) (ns:aO),xs=[.ref p]∧m4 X.K H p (ns.map V.int)∧ns.length<64∧∀l,H l=none→Q (.ref l) (upd H l (.lst ((gK ns).map V.int)))):=by
  intro pins s σ H xs us Q I r h;obtain⟨p,ns,rfl,hq,tE,h⟩:=h;obtain⟨u,rfl,ru⟩:=vals1 r;cases ru;obtain⟨its,rv,hl,_⟩:=I.list hq;have hi:=intsAre_of rv;have l1:ns.length=its.length:=by have:=rv.length;simpa using this
  refine sorted_ints (vs:=its) hl.isList hi (by omega) fun out RW ho hp hs=>?_;have e0:=OZ hp hs;subst e0;obtain⟨e,he⟩:=sortedAll_at s.heap its out;have lp:(gK ns).length=ns.length:=(gA ns).length_eq;refine⟨.ref (s.heap.objs.size+1),_,I.laid (a:=s.heap.objs.size+1) (o:=.lst ((gK ns).map V.int)) (t':=s.toks) (fun b o q=>sortedAll_old q) (by omega) ⟨?_,out.toList,e,sE ho,by simpa using he⟩,rfl,h _ (I.cY.fresh (by omega))⟩;rw[g9,lp,kD];omega
def rC(f:EF):LF:=fun η=>(f η).bind fun d=>(HZ d).bind fun ds=>(kF ds).bind fun ns=>if ns.length<64 then some ((gK ns).map D.int) else none
where HZ:D→Option dm
  |.lst ds=>some ds
  |_=>none
theorem Gm{hu:Prop}(_:hu)(hg:Gl X "sorted")(hm:X.mg "sorted"=none)(ha:DB X z e f)(hs:starEach [e] X.env=(false,eval e X.env)::starEach [] X.env:=by rfl):DO X z (.Call (.Name "sorted" p) [e] [] pos) (rC f) :=
  PE.weak (qR D9 hg hm nq (fh ha kK hs) (by decide) (by decide) hs rfl) fun σ H Q ⟨η,F,d,r,e,k⟩=>by
  unfold rC at e;obtain⟨d',h1,e⟩:=eJ.mp e;obtain⟨ds,h2,e⟩:=eJ.mp e;obtain⟨ns,h3,e⟩:=eJ.mp e;by_cases hl:ns.length<64
  · rw[az hl] at e;cases e;cases d' with
    |lst tF=>cases h2;refine⟨η,F,_,r,h1,fun v H1 F1 g1 q1=>?_⟩;obtain⟨a,ws,rfl,h4,h5⟩:=aW.mp q1;rw[j6 h3] at h5;rw[iq h5] at h4;refine⟨a,ns,rfl,h4,hl,fun l Gg=>?_⟩;have lp:(gK ns).length=ns.length:=(gA ns).length_eq;have g2:=bB.own g1.base Gg (.lst ((gK ns).map V.int)) (show((gK ns).map V.int).length≤sizeLine by rw[g9,lp,kD];omega) rfl;exact k l _ _ F1 (g1.trans g2) (g1.ent.free Gg) (g1.base.sub.free Gg) aL (fW _)
    |_=>cases h2
  ·rw[bh hl] at e;cases e
def wK:dm→Option xX
  |[]=>some []
  |.tup [.int i,.tup ts]::ds=>(kF ts).bind fun ns=>(wK ds).map ((i,ns)::·)
  |_::_=>none
def fP(p:Int×aO):D:=.tup [.int p.1,.tup (p.2.map D.int)]
theorem Mh:∀{ds:dm} {ps:xX},wK ds=some ps→ds=ps.map fP:=by
  intro ds;induction ds with
  |nil=>intro ps h;cases h;rfl
  |cons d ds ih =>
   intro ps h;unfold wK at h;split at h
   ·rename_i heq;cases heq
   ·rename_i i ts tF heq;injection heq with e1 e2;subst e1 e2;obtain⟨ns,h1,h⟩:=eJ.mp h;obtain⟨r,h2,h3⟩:=gZ.mp h;subst h3;rw[ih h2,j6 h1];rfl
   ·cases h
theorem zu:∀(ps:xX),wK (ps.map fP)=some ps
  |[]=>rfl
  |p::ps=>by show(kF (p.2.map D.int)).bind (fun ns=>(wK (ps.map fP)).map ((p.1,ns)::·))=_;rw[du,zu ps];rfl
def Mi(a b:Int×aO):Bool:=!pG b a
theorem Kg(a:Int×aO):pG a a=false:=by unfold pG;rw[az rfl];exact nH _
def hG(ps:xX):xX:=ps.mergeSort Mi
theorem iw(ps:xX):(hG ps).Perm ps:=List.mergeSort_perm ps Mi
theorem Kh(a b:Int×aO):(Mi a b||Mi b a)=true:=by
  unfold Mi;cases h:pG b a with
  |false=>rfl
  |true =>
   cases h2:pG a b with
   |false=>rfl
   |true=>have:=yZ h h2;rw[Kg] at this;cases this
theorem O0(a b c:Int×aO)(h1:Mi a b=true)(h2:Mi b c=true):Mi a c=true:=by
  unfold Mi at *;simp only[Bool.not_eq_true'] at *;cases h:pG c a with
  |false=>rfl
  |true =>
   by_cases e1:a=b
   ·subst e1;rw[h] at h2;cases h2
   ·have q1:=yz (a:=b) (b:=a) (fun z=>e1 z.symm) h1;have q2:=yZ h q1;rw[h2] at q2;cases q2
theorem zv{ps:xX}(hd:ps.Nodup):(hG ps).Pairwise (fun a b=>pG a b=true):=by
  have h:=List.pairwise_mergeSort (le:=Mi) O0 Kh ps;have hn:(hG ps).Nodup:=(iw ps).nodup_iff.mpr hd;refine List.Pairwise.imp₂ (fun a b h1 h2=>?_) h hn;have UL:pG b a=false:=by unfold Mi at h1;simpa using h1
  exact yz (fun z=>h2 z.symm) UL
theorem u9{ps qs:xX}(hd:ps.Nodup)(h:qs.Perm ps)(hp:qs.Pairwise (fun a b=>pG a b=true)):hG ps=qs :=
  List.Perm.eq_of_pairwise (le:=fun a b=>pG a b=true) (fun a b _ _ h1 h2=>by have:=yZ h1 h2;rw[Kg] at this;cases this) (zv hd) hp ((iw ps).trans h.symm)
def Ea(f:EF):LF:=fun η=>(f η).bind fun d=>match d with
  |.lst ds=>(wK ds).bind fun ps=>if ps.Nodup∧ps.length<64 then some ((hG ps).map fP) else none
  |_=>none
theorem zx{K:PySem.W.Frag}{p:Int×aO}:Den K F (fP p) v↔pairAt F v p:=by
  unfold fP pairAt;constructor
  ·intro h;obtain⟨a,vs,rfl,h1,h2⟩:=aN.mp h;obtain⟨v1,r,rfl,h3,h4⟩:=aP.mp h2;obtain⟨v2,rfl,h5⟩:=Ga h4;rw[aQ.mp h3] at h1;obtain⟨q,ws,rfl,h6,h7⟩:=aN.mp h5;rw[iq h7] at h6;exact⟨a,q,rfl,h1,h6⟩
  ·rintro⟨a,q,rfl,h1,h2⟩;exact aN.mpr ⟨a,_,rfl,h1,aP.mpr ⟨_,_,rfl,aQ.mpr rfl,F7 (aN.mpr ⟨q,_,rfl,h2,fW _⟩)⟩⟩
theorem sP{K:PySem.W.Frag}{F:Hp}:∀{ps:xX} {vs:List V},cz K F (ps.map fP) vs↔Paired (pairAt F) vs ps
  |[],vs=>by
   rw[ja,bD];constructor
   ·rintro rfl;exact .nil
   ·intro h;cases h;rfl
  |p::ps,vs=>by
   rw[bY,aP];constructor
   ·rintro⟨v,r,rfl,h1,h2⟩;exact .cons (zx.mp h1) (sP.mp h2)
   · intro h;cases h with
     |cons h1 h2=>exact⟨_,_,rfl,zx.mpr h1,sP.mpr h2⟩
theorem Mj(p:Int×aO):(fP p).A6=true:=by unfold fP;rw[uR,mZ,sL,mZ,uR,Ov];rfl
theorem O1(hu:X.A.units+5<cLine)(hg:Gl X "sorted")(hm:X.mg "sorted"=none)(ha:DB X z e f)(hs:starEach [e] X.env=(false,eval e X.env)::starEach [] X.env:=by rfl):DO X z (.Call (.Name "sorted" p) [e] [] pos) (Ea f) :=
  PE.weak (qR (DQ hu) hg hm nq (fh ha kK hs) (by decide) (by decide) hs rfl) fun σ H Q ⟨η,F,d,r,e,k⟩=>by
  unfold Ea at e;obtain⟨d',h1,e⟩:=eJ.mp e;cases d' with
  |lst ds =>
   obtain⟨ps,h2,e⟩:=eJ.mp e;by_cases hl:ps.Nodup∧ps.length<64
   ·rw[az hl] at e;cases e;refine⟨η,F,_,r,h1,fun v H1 F1 g1 q1=>?_⟩;obtain⟨a,ws,rfl,h4,h5⟩:=aW.mp q1;rw[Mh h2] at h5;have h6:=sP.mp h5;refine⟨a,ws,ps,rfl,h4,h6,hl.1,by have:=h6.length;omega,fun l Zg tF Gg p1 p2 p3=>?_⟩;have e0:=u9 hl.1 p2 p3;subst e0;have lp:(hG ps).length=ps.length:=(iw ps).length_eq;have lv:=p1.length;have g2:=bB.own g1.base Gg (.lst Zg) (show Zg.length≤sizeLine by rw[lv,lp,kD];omega) rfl;refine k l _ _ F1 (g1.trans g2) (g1.ent.free Gg) (g1.base.sub.free Gg) aL ?_;refine y9 g1.base.tup _ _ ?_ (sP.mpr p1);rw[za,List.all_map,iH];exact fun q _=>Mj q
   ·rw[bh hl] at e;cases e
  |_=>cases e
end
section
variable {X:Cx} {z:Zc} {e a b:Expr} {f fa fb fk fv:EF} {fl:LF} {pos p:Pos} {g:SF} {st:Stmt}
theorem Ml{K:PySem.W.Frag}:∀D σ H,vS K z (cw i (eL fl)) D σ H→Lv (vO K z fl) (BW i) D σ H:=fun D σ H ⟨η,F,o,r,e,k⟩=>by unfold cw eL at e;obtain⟨d,e1,rfl⟩:=gZ.mp e;obtain⟨ds,e2,rfl⟩:=gZ.mp e1;refine⟨η,F,ds,r,e2,fun p vs H' F' gr h1 h2 h3 h4=>?_⟩;have hs:cG F' (upd F' p (.lst vs)):=fj h2 _;have g2:=gr.share gr.base h3 h1;exact k _ H' _ ((r.grow g2).set i rfl (aW.mpr ⟨p,vs,rfl,m4.of aL,bE hs _ _ h4⟩)) g2.jy
theorem Gn{FU:Pos}{m:Bool}{elt iter:Expr}{ifs:List Expr}{tgs:gq}{l:LF}{b:BF}{t:TF}{f:EF}(hc:X.calm=true)(hN:X.N.Nodup)(B:dh X tgs fi scope)(hfi:fi.Nodup)(hit:DI X z tg iter m l)(hg:∀C ex s H,DG (kL X tgs fi scope C ex s H) z m tg b)(ht:∀C ex s H,OI (kL X tgs fi scope C ex s H) z ifs t)(he:∀C ex s H,DE (kL X tgs fi scope C ex s H) z elt f)(hi:X.N[i]?=some x:=by rfl)(hl:X.env.scope.names.lookup x=some .local:=by rfl)(Wj:swapsWith (.ListComp elt [⟨tg,iter,ifs,0⟩] scope pos) (some (.Name x pos')) FU.line X.env=pure true:=by rfl)(hs:∀x,foldedSetIterable iter X.env x=pure x:=by intro _;rfl):DS X z (.Assign [.Name x pos'] (.ListComp elt [⟨tg,iter,ifs,0⟩] scope pos) FU) (cw i (eL (bQ tgs.length fi l b t f))) :=
  PS.weak (yU (g:=vG X.K z m b) (tt:=vT X.K z t) (te:=vE X.K z f) hc hN hi hl B hit (fun C ex s H=>hg C ex s H) (fun C ex s H=>ht C ex s H) (fun C ex s H=>he C ex s H) Wj hs) fun D σ H h=>wH hfi σ H _ (Ml D σ H h)
def keyOf:D→Option Key
  |.int i=>some (.inl i)
  |.str x=>some (.inr x)
  |_=>none
def keysOf:dm→Option (List Key)
  |[]=>some []
  |d::ds=>(keyOf d).bind fun k=>(keysOf ds).map (k::·)
def Mm:D→Option (List Key)
  |.tup ds=>keysOf ds
  |_=>none
theorem zy{K:PySem.W.Frag}{F:Hp}:∀{ds:dm} {vs:List V} {ks:List Key},cz K F ds vs→keysOf ds=some ks→vs=ks.map kV
  |[],vs,ks,h,e=>by cases e;exact bD.mp h
  |d::ds,vs,ks,h,e=>by
   obtain⟨k,h1,e⟩:=eJ.mp e;obtain⟨r,h2,rfl⟩:=gZ.mp e;obtain⟨v,r',rfl,h3,h4⟩:=aP.mp h;rw[zy h4 h2];have:v=kV k:=by
     cases d with
     |int i=>cases h1;exact aQ.mp h3
     |str i=>cases h1;exact cW.mp h3
     |_=>cases h1
   rw[this];rfl
theorem xM:∀ns:aO,keysOf (ns.map D.int)=some (ns.map Sum.inl)
  |[]=>rfl
  |n::ns=>by show(some (Sum.inl n:Key)).bind _=_;simp[xM ns]
def Mp:Key→D
  |.inl i=>.int i
  |.inr x=>.str x
theorem zz{K:PySem.W.Frag}{F:Hp}:∀(ks:List Key),cz K F (ks.map Mp) (ks.map kV)
  |[]=>bD.mpr rfl
  |.inl i::ks=>aP.mpr ⟨_,_,rfl,aQ.mpr rfl,zz ks⟩
  |.inr x::ks=>aP.mpr ⟨_,_,rfl,cW.mpr rfl,zz ks⟩
def wL{κ:Type}[DecidableEq κ](aX:List (κ×D))(k:κ):Option D:=(aX.find? fun kv=>decide (kv.1=k)).map (·.2)
def putD{κ:Type}[DecidableEq κ](aX:List (κ×D))(k:κ)(v:D):List (κ×D) :=
  if (aX.any fun kv=>decide (kv.1=k))=true then aX.map fun kv=>if kv.1=k then(kv.1,v) else kv else aX++[(k,v)]
section
variable {κ:Type} [DecidableEq κ] {K:PySem.W.Frag} {F:Hp}
theorem zA:∀{aX:List (κ×D)} {ws:List (κ×V)} (k:κ),jM K F aX ws→(∀d,wL aX k=some d→∃v,tu ws k=some v∧Den K F d v)∧(wL aX k=none→tu ws k=none)
  |[],_,k,.nil=>⟨fun d h=>(by exact absurd h (by simp[wL])),fun _=>rfl⟩
  |p::aX,q::ws,k,.cons h t=>by
   obtain⟨ih1,ih2⟩:=zA k t;by_cases e:p.1=k
   · have e1:wL (p::aX) k=some p.2:=by simp[wL,uG,e]
     have e2:tu (q::ws) k=some q.2:=uK (by rw[←h.1];exact e);rw[e1,e2];exact⟨fun d hd=>⟨q.2,rfl,by cases hd;exact h.2⟩,fun z=>by cases z⟩
   · have e1:wL (p::aX) k=wL aX k:=by simp[wL,uG,e]
     have e2:tu (q::ws) k=tu ws k:=uL (by rw[←h.1];exact e);rw[e1,e2];exact⟨ih1,ih2⟩
theorem Ki:∀{aX:List (κ×D)} {ws:List (κ×V)} (k:κ),jM K F aX ws→(aX.any fun kv=>decide (kv.1=k))=ws.any fun kv=>decide (kv.1=k)
  |[],_,k,.nil=>rfl
  |p::aX,q::ws,k,.cons h t=>by rw[List.any_cons,List.any_cons,Ki k t,h.1]
theorem Gp{d:D}{v:V}(hd:Den K F d v):∀{aX:List (κ×D)} {ws:List (κ×V)} (k:κ),jM K F aX ws→jM K F (aX.map fun kv=>if kv.1=k then(kv.1,d) else kv) (ws.map fun kv=>if kv.1=k then(kv.1,v) else kv)
  |[],_,k,.nil=>.nil
  |p::aX,q::ws,k,.cons h t=>by
   refine .cons ?_ (Gp hd k t);dsimp only;by_cases e:p.1=k
   · have e2:q.1=k:=by rw[←h.1];exact e
     rw[az e,az e2];exact⟨h.1,hd⟩
   · have e2:¬ q.1=k:=by rw[←h.1];exact e
     rw[bh e,bh e2];exact h
theorem Gq{d:D}{v:V}(hd:Den K F d v):∀{aX:List (κ×D)} {ws:List (κ×V)} (k:κ),jM K F aX ws→jM K F (aX++[(k,d)]) (ws++[(k,v)])
  |[],_,k,.nil=>.cons ⟨rfl,hd⟩ .nil
  |p::aX,q::ws,k,.cons h t=>.cons h (Gq hd k t)
theorem O2{aX:List (κ×D)}{ws:List (κ×V)}(k:κ)(h:jM K F aX ws)(hd:Den K F d v):jM K F (putD aX k d) (putK ws k v):=by
  unfold putD putK;rw[Ki k h];by_cases e:(ws.any fun kv=>decide (kv.1=k))=true
  ·rw[az e,az e];exact Gp hd k h
  ·rw[bh e,bh e];exact Gq hd k h
theorem wM{aX:List (κ×D)}{ws:List (κ×V)}(h:jM K F aX ws):aX.length=ws.length:=wo h
end
def dT(i:Nat)(η:cQ):Option (List (List Key×D)):=match η[i]? with
  |some (some (.ot aX))=>some aX
  |some (some (.ft aX))=>some aX
  |_=>none
theorem Kj{K:PySem.W.Frag}{aX:List (List Key×D)}(r:Rel K z F H σ η)(e:dT i η=some aX):∃p ws,σ[i]?=some (some (.ref p))∧Rd H p (.dT ws)∧jM K F aX ws:=by
  unfold dT at e;split at e
  ·rename_i ack h;cases e;obtain⟨p,o,h1,h2,h3,h4,ws,rfl,h5⟩:=r.ownAt h rfl;exact⟨p,ws,h1,.inl h4,h5⟩
  ·rename_i ack h;cases e;obtain⟨v,h1,p,ob,ws,rfl,h4,h5⟩:=r.at_ i _ h;exact⟨p,ws,h1,.inr ⟨ob,r.base.sub _ _ h4⟩,h5⟩
  ·cases e
theorem Kk(s:cG H H'){p:Addr}{u:HO}(h:Rd H p u):Rd H' p u:=by
  rcases h with h|⟨o,h⟩
  ·exact .inl (s _ _ h)
  ·exact .inr ⟨o,s _ _ h⟩
theorem Kl{K:PySem.W.Frag}{F:Hp}{p:Addr}{ws:List (List Key×V)}{ks:List Key}(h:Rd H p (.dT ws))(hd:Den K H d y)(hk:Mm d=some ks):LP H p y (tu ws ks):=by
  cases d with
  |tup ds=>obtain⟨a,vs,rfl,h1,h2⟩:=aN.mp hd;rw[zy h2 hk] at h1;exact .inr ⟨ws,ks,a,h,rfl,h1,rfl⟩
  |_=>cases hk
def zB(i:Nat):SF:=fun η=>some (.nx (η.set i (some (.ot []))))
theorem Gr{dp:Pos}(hN:X.N.Nodup)(hi:X.N[i]?=some x:=by rfl)(hx:Loc X.env.scope x:=by first|exact Or.inl rfl|exact Or.inr rfl)(hs:swapsWith (.Dict [] [] dp) (some (.Name x pos')) pos.line X.env=pure false:=by rfl)(hf:X.fn x=true∨X.env.scope.names.lookup x=some .local:=by first|exact .inl rfl|exact .inr rfl|assumption):DS X z (.Assign [.Name x pos'] (.Dict [] [] dp) pos) (zB i) :=
  PS.weak (Dr hN hi hx Oa hs hf) fun D σ H ⟨η,F,o,r,e,k⟩=>by
  cases e;intro p hp;have g1:=bB.own r.base hp (.dT []) (qQ _) rfl;exact k _ _ F (r.HM g1 i (sl:=.ot []) (p:=p) ⟨p,_,rfl,r.mem.ent.free hp,r.base.sub.free hp,aL,[],rfl,.nil⟩ rfl hp) g1.jy
def wN(i:Nat)(fk fd:EF):EF:=fun η=>(dT i η).bind fun aX=>(fk η).bind fun k=>(fd η).bind fun d=>(Mm k).map fun ks=>(wL aX ks).getD d
theorem Gs(hu:X.A.units+1<cLine)(i:Nat){apos jZ:Pos}{ek ed:Expr}{fd:EF}(hk:DB X z ek fk)(hd:DE X z ed fd)(hN:X.N[i]?=some x:=by rfl)(hv:FD X.env.scope x:=by first|exact Or.inl rfl|exact Or.inr (Or.inl rfl)|exact Or.inr (Or.inr rfl))(m:M2 X (.Name x px) "get" apos ek ed jZ:=by exact⟨rfl,rfl,rfl,rfl⟩)(tm:(x==("__debug__":Str))=false:=by decide)(ow:(x==("__classdict__":Str))=false:=by decide):DE X z (.Call (.Attribute (.Name x px) "get" apos) [ek,ed] [] jZ) (wN i fk fd) :=
  PE.weak (Ob hu (kJ hN hv tm ow) hk hd m) fun σ H Q ⟨η,F,d,r,e,k⟩=>by
  unfold wN at e;obtain⟨aX,h1,e⟩:=eJ.mp e;obtain⟨kd,h2,e⟩:=eJ.mp e;obtain⟨d0,h3,e⟩:=eJ.mp e;obtain⟨ks,h4,rfl⟩:=gZ.mp e;obtain⟨p,ws,a1,a2,a3⟩:=Kj r h1;refine⟨_,a1,p,rfl,.inr ⟨ws,a2⟩,η,F,kd,r,h2,fun y H1 F1 g1 q1=>⟨η,F1,d0,r.grow g1,h3,fun w H2 F2 g2 q2=>?_⟩⟩;have A7:=g1.trans g2;refine⟨_,Kl (F:=F2) (Kk A7.ent a2) (cA g2.ent _ _ q1) h4,k _ H2 F2 A7 ?_⟩;obtain⟨b1,b2⟩:=zA ks (a3.mono A7.jy);cases hv:wL aX ks with
  |none=>rw[b2 hv];exact q2
  |some d'=>obtain⟨v,c1,c2⟩:=b1 d' hv;rw[c1];exact c2
def xN(i:Nat)(fk:EF):EF:=fun η=>(dT i η).bind fun aX=>(fk η).bind fun k=>(Mm k).bind fun ks=>wL aX ks
theorem Km(hu:X.A.units+1<cLine)(i:Nat){ek:Expr}(hk:DB X z ek fk)(hN:X.N[i]?=some x:=by rfl)(hv:FD X.env.scope x:=by first|exact Or.inl rfl|exact Or.inr (Or.inl rfl)|exact Or.inr (Or.inr rfl))(hs:V8 ek:=by intro _ _;rfl)(tm:(x==("__debug__":Str))=false:=by decide)(ow:(x==("__classdict__":Str))=false:=by decide):DE X z (.Subscript (.Name x px) ek pos) (xN i fk) :=
  PE.weak (Sb hu (kJ hN hv tm ow) hk hs) fun σ H Q ⟨η,F,d,r,e,k⟩=>by
  unfold xN at e;obtain⟨aX,h1,e⟩:=eJ.mp e;obtain⟨kd,h2,e⟩:=eJ.mp e;obtain⟨ks,h4,e⟩:=eJ.mp e;obtain⟨p,ws,a1,a2,a3⟩:=Kj r h1;refine⟨_,a1,η,F,kd,r,h2,fun y H1 F1 g1 q1=>?_⟩;obtain⟨v,c1,c2⟩:=(zA ks (a3.mono g1.jy)).1 d e;refine⟨p,v,rfl,?_,k _ H1 F1 g1 c2⟩;rw[←c1];exact Kl (F:=F1) (Kk g1.ent a2) q1 h4
def zC(i:Nat):EF:=fun η=>(dT i η).map fun aX=>.int aX.length
theorem O3(i:Nat)(hg:Gl X "len")(hm:X.mg "len"=none)(hN:X.N[i]?=some x:=by rfl)(hv:FD X.env.scope x:=by first|exact Or.inl rfl|exact Or.inr (Or.inl rfl)|exact Or.inr (Or.inr rfl))(hs:starEach [.Name x px] X.env=(false,eval (.Name x px) X.env)::starEach [] X.env:=by rfl)(tm:(x==("__debug__":Str))=false:=by decide)(ow:(x==("__classdict__":Str))=false:=by decide):DE X z (.Call (.Name "len" p) [.Name x px] [] pos) (zC i) :=
  PE.weak (qR L3 hg hm fI (fh (kJ hN hv tm ow) kK hs) (by decide) (by decide) hs rfl) fun σ H Q ⟨η,F,d,r,e,k⟩=>by
  unfold zC at e;obtain⟨aX,h1,rfl⟩:=gZ.mp e;obtain⟨q,ws,a1,a2,a3⟩:=Kj r h1;refine⟨_,a1,q,ws,rfl,a2,k _ H F (bB.refl r.base) (aQ.mpr ?_)⟩;rw[wM a3]
def rD(i:Nat)(fk fv:EF):SF:=fun η=>(fv η).bind fun v=>(fk η).bind fun k=>(Mm k).bind fun ks=>match η[i]? with
  |some (some (.ot aX))=>if aX.length<10000 then some (.nx (η.set i (some (.ot (putD aX ks v))))) else none
  |_=>none
theorem zD(hu:X.A.units+1<cLine)(i:Nat){ek ev:Expr}(hk:DB X z ek fk)(hw:DE X z ev fv)(hN:X.N[i]?=some x:=by rfl)(hv:FD X.env.scope x:=by first|exact Or.inl rfl|exact Or.inr (Or.inl rfl)|exact Or.inr (Or.inr rfl))(hs:swapsWith ev (some (.Subscript (.Name x px) ek pos')) pos.line X.env=pure false:=by rfl)(tm:(x==("__debug__":Str))=false:=by decide)(ow:(x==("__classdict__":Str))=false:=by decide):DS X z (.Assign [.Subscript (.Name x px) ek pos'] ev pos) (rD i fk fv) :=
  PS.weak (Sd hu (kJ hN hv tm ow) hk hw hs) fun D σ H ⟨η,F,o,r,e,k⟩=>by
  unfold rD at e;obtain⟨dv,h1,e⟩:=eJ.mp e;obtain⟨kd,h2,e⟩:=eJ.mp e;obtain⟨ks,h3,e⟩:=eJ.mp e;split at e
  · rename_i aX h;by_cases hl:aX.length<10000
    · rw[az hl] at e;cases e;refine⟨η,F,dv,r,h1,fun v H1 F1 g1 q1=>?_⟩;have r1:=r.grow g1;obtain⟨p,o,a1,a2,a3,a4,ws,rfl,a5⟩:=r1.ownAt h rfl;refine⟨_,a1,η,F1,kd,r1,h2,fun y H2 F2 g2 q2=>?_⟩;have r2:=r1.grow g2;have a4':=g2.ent _ _ a4;have hlw:ws.length<10000:=by rw[←wM a5];exact hl
      cases kd with
      |tup ds=>obtain⟨a,vs,rfl,b1,b2⟩:=aN.mp q2;rw[zy b2 h3] at b1;refine⟨p,_,rfl,N8.t a4' b1 (oN hlw (Br (cu _))),?_⟩;refine k _ _ F2 (r2.write h rfl a1 ⟨putK ws ks v,rfl,O2 ks (a5.mono g2.jy) (cA g2.jy _ _ q1)⟩ ?_) (g1.jy.trans g2.jy);have:=qU ws ks v;exact pU this (Br (by omega))
      |_=>cases h3
    ·rw[bh hl] at e;cases e
  ·cases e
theorem WO{t:TS}(h:PS X st t):PS X st (fun D σ H=>∃d aX,H d=some (.dT aX)∧∀o,t D σ (upd H d (.ua o (.dT aX)))):=fun pins s σ H D I ⟨d,aX,hd,k⟩=>by obtain⟨o,_,I2⟩:=I.freeze hd;exact h pins s σ _ D I2 (k o)
def O4(i:Nat)(g:SF):SF:=fun η=>match η[i]? with
  |some (some (.ot aX))=>g (η.set i (some (.ft aX)))
  |_=>none
theorem S3(i:Nat)(h:DS X z st g):DS X z st (O4 i g):=PS.weak (WO h) fun D σ H ⟨η,F,o,r,e,k⟩=>by
  unfold O4 at e;split at e
  ·rename_i aX hh;obtain⟨p,o',a1,a2,a3,a4,ws,rfl,a5⟩:=r.ownAt hh rfl;refine⟨p,ws,a4,fun ob=>?_⟩;have Hn:cG F (upd F p (.ua ob (.dT ws))):=fj a3 _;obtain⟨r1,s1⟩:=r.J5 (sl':=.ft aX) (o':=.ua ob (.dT ws)) hh rfl a1 (show tQ (.dT ws) from r.base.Fp _ _ a4) rfl rfl ⟨p,ob,ws,rfl,aL,a5.mono Hn⟩;exact⟨_,_,o,r1,e,k.mono s1⟩
  ·cases e
theorem O5{l:Expr}{tl:TE}(hl:PE X l tl):PI X (.Name x px) l (fun σ H R=>tl σ H fun v H1=>∃d o aX,v=.ref d∧H1 d=some (.ua o (.dT aX))∧R (Itd d o aX) H1):=by
  intro pins s σ H R I h;refine gT (hl pins s σ H _ I h) fun v s1 ⟨x,H1,I1,r1,q1⟩=>?_;obtain⟨d,o,aX,e,hd,q⟩:=q1;subst e;cases r1;obtain⟨h0,z,y,xs,r,o',es,ep,h1,h2,h3,h4,h5⟩:=(show cy X.prog X.w H1 s1.heap d (.ua o (.dT aX)) from I1.cY d _ hd)
  rw[h1] at h0;cases h0;have hn:es.size=aX.length:=by have e1:=g6 List.length h4;rw[g9,oo] at e1;rw[e1,wo r]
  refine qz y ⟨_,h1,h2,h3⟩ ?_;refine⟨s1.heap.objs.size,[s1.heap.objs.size],_,_,_,rfl,I1.kept (t':=s1.toks) fun b o e=>kz _ e,L1 d _ _ aX es ep h2 h3 hn,⟨_,il _ rfl,rfl,rfl⟩,fun b hb=>?_,q⟩;have e:b=s1.heap.objs.size:=by simpa using hb
  subst e;exact I1.Bh (cu _) (I1.cY.fresh (cu _))
def Eb(i:Nat):LF:=fun η=>match η[i]? with
  |some (some (.ft aX))=>some (aX.map fun kv=>.tup (kv.1.map Mp))
  |_=>none
theorem O6(i:Nat){y:Str}{py:Pos}(hN:X.N[i]?=some x:=by rfl)(hv:FD X.env.scope x:=by first|exact Or.inl rfl|exact Or.inr (Or.inl rfl)|exact Or.inr (Or.inr rfl))(tm:(x==("__debug__":Str))=false:=by decide)(ow:(x==("__classdict__":Str))=false:=by decide):DI X z (.Name y py) (.Name x px) true (Eb i):=PI.weak (O5 (kJ hN hv tm ow)) fun σ H R ⟨η,F,ds,r,e,k⟩=>by
  unfold Eb at e;split at e
  · rename_i aX h;cases e;obtain⟨v,a1,p,ob,ws,rfl,a4,a5⟩:=r.at_ i _ h;refine⟨_,a1,p,ob,ws,rfl,r.base.sub _ _ a4,k _ H F (bB.refl r.base) ?_⟩;have ll:=wM a5;have hw:ws.length≤sizeLine:=show tQ (.ua ob (.dT ws)) from r.base.Fp _ _ (r.base.sub _ _ a4)
    refine⟨fun F' H' s g i hi=>⟨g.base.sub _ _ (s _ _ a4),by rw[←ll];simpa using hi⟩,fun F' H' s g i d x Nu e y=>?_,fun F' H' s g=>⟨g.base.sub _ _ (s _ _ a4),by rw[g9,ll];exact cu _⟩,by rw[g9,ll];exact hw⟩;obtain⟨rfl,kk,v,b,h1,rfl,h2⟩:=y;refine⟨F',bB.refl g.base,?_⟩;rw[qG] at e;obtain⟨kv,e1,rfl⟩:=gZ.mp e;obtain⟨q,hq,hkv⟩:=sF a5 e1;rw[h1] at hq;cases hq;have hk:kv.1=kk:=hkv.1;rw[hk];exact aN.mpr ⟨b,_,rfl,g.base.tup _ _ h2 rfl,zz _⟩
  ·cases e
end
end DL
namespace DL
open PySem L2
theorem acm{K:PySem.W.Frag}{base:Heap}{f:Addr}{ps:gq}{ms:List Bool}:cI P w K mg base i7 k f fd ps (cL K ms (fun _=>none)) where
  len:=fun vs H Q E h=>by obtain⟨F,ds,r,_,_,e,_⟩:=h;cases e
  run:=fun A outer s H args us vs Q E hr he hb hv hs=>by obtain⟨F,ds,r,_,_,e,_⟩:=hs;cases e
theorem mv(i j:Int):mq (.int i) (.int j)=some (.int (i+j)):=rfl
theorem Ia(i j:Int):HQ (.int i) (.int j)=some (.int (i-j)):=rfl
theorem O7{i j:Int}(h:mulC i j=true):uX (.int i) (.int j)=some (.int (i*j)):=az h
theorem div_ii{i j:Int}(h:divC i j=true):Mb (.int i) (.int j)=some (.int (i / j)):=az h
theorem mw{i j:Int}(h:qI i j=true):oz (.int i) (.int j)=some (.int (i%j)):=az h
theorem WQ{i j:Int}(h:powC i j=true):Wx (.int i) (.int j)=some (.int (i^j.toNat)):=az h
theorem WR{i j:Int}(h:powC i j=true):Wy (.int i) (.int j)=some (.int (i*2^j.toNat)):=az h
theorem tV(i j:Int):HR (.int i) (.int j)=some (.bl (decide (i<j))):=rfl
theorem va(i j:Int):Nt (.int i) (.int j)=some (.bl (decide (j<i))):=rfl
theorem UT(i j:Int):Zt (.int i) (.int j)=some (.bl (decide (j≤i))):=rfl
theorem S4(ds:dm)(i:Int):iX (.lst ds) (.int i)=qy ds i:=rfl
theorem Ib(ds:dm)(i:Int):iX (.tup ds) (.int i)=qy ds i:=rfl
theorem Ic{i j:Int}(h1:-(2^64)<j)(h2:j<2^64):mulC i j=true:=by unfold mulC;exact nE (.inr ⟨h1,h2⟩)
theorem Ie{i j:Int}(h1:-(2^64)<i)(h2:i<2^64):mulC i j=true:=by unfold mulC;exact nE (.inl ⟨h1,h2⟩)
theorem Ec{i j:Int}(h:0<j):qI i j=true:=by unfold qI;exact nE h
theorem yD{n:Int}{S:D}(h:di S=some (ms.map D.int)):inD false (.int n) S=some (.bl (ms.contains n)):=by unfold inD;rw[h];simp only[Nr,bJ,wG,dN];rw[y7];rfl
theorem rE{n:Int}{S:D}(h:di S=some (ms.map D.int)):inD true (.int n) S=some (.bl (!ms.contains n)):=by unfold inD;rw[h];simp only[Nr,bJ,wG,dN];rw[y7];rfl
theorem aE{g1 g2:SF}{η':cQ}(h:g1 η=some (.nx η')):bw g1 g2 η=g2 η':=by unfold bw;rw[h];rfl
theorem uh{g1 g2:SF}{r:Slot}(h:g1 η=some (.rt r)):bw g1 g2 η=some (.rt r):=by unfold bw;rw[h];rfl
theorem bG{f:EF}(h:f η=some d):cw i f η=some (.nx (η.set i (some (.sh d)))):=by unfold cw;rw[h];rfl
theorem sQ{f:LF}{d:dm}(h:f η=some d):qA i f η=some (.nx (η.set i (some (.ol d)))):=by unfold qA;rw[h];rfl
theorem j8{f:EF}(h:f η=some d):dU f η=some (.rt (.sh d)):=by unfold dU;rw[h];rfl
theorem fR{f:LF}{d:dm}(h:f η=some d):kG f η=some (.rt (.ol d)):=by unfold kG;rw[h];rfl
theorem rF{t:TF}{g1 g2:SF}(h:t η=some true):pT t g1 g2 η=g1 η:=by unfold pT;rw[h];rfl
theorem lS{t:TF}{g1 g2:SF}(h:t η=some false):pT t g1 g2 η=g2 η:=by unfold pT;rw[h];rfl
theorem fK{l:LF}{b:BF}{g:SF}{ds:dm}(h:l η=some ds):kP l b g η=ig b g ds η:=by unfold kP;rw[h];rfl
theorem cD{ms:List Bool}{g:SF}{ds:dm}{r:Slot}(h:g (eR n ms ds)=some (.rt r)):jz n ms g ds=some r:=by unfold jz;rw[h]
theorem S5(ns:aO)(lo hi:Option Int):cutD (ns.map D.int) lo hi=((ns.drop (HT.uE ns.length 0 lo)).take (HT.uE ns.length ns.length hi-HT.uE ns.length 0 lo)).map D.int:=by unfold cutD;rw[g9,←List.map_drop,←List.map_take]
theorem zF{b:BF}{g:SF}(P:Nat→cQ→Prop):∀{ds:dm} {η:cQ} (n:Nat),P n η→(∀(i:Nat) d η,ds[i]?=some d→P (n+i) η→∃η1 η2,b d η=some η1∧(g η1=some (.nx η2)∨g η1=some (.ct η2))∧P (n+i+1) η2)→∃η',ig b g ds η=some (.nx η')∧P (n+ds.length) η'
  |[],η,n,h0,_=>⟨η,rfl,h0⟩
  |d::ds,η,n,h0,hs=>by
   obtain⟨η1,η2,h1,h2,h3⟩:=hs 0 d η rfl h0;obtain⟨η',h4,h5⟩:=zF P (ds:=ds) (η:=η2) (n+1) h3 (fun i d η hd hp=>by
     have e:n+1+i=n+(i+1):=by omega
     rw[e] at hp⊢;exact hs (i+1) d η (by simpa using hd) hp)
   refine⟨η',?_,by rw[mW,show n+(ds.length+1)=n+1+ds.length by omega];exact h5⟩;unfold ig;rw[h1];rcases h2 with h2|h2<;>(simp only[bJ,h2];exact h4)
theorem kQ{α β:Type}{b:BF}{g:SF}(q:α→D)(E:β→cQ→Prop)(step:β→α→β):∀{xs:List α} {η:cQ} (s:β),E s η→(∀x∈xs,∀s η,E s η→∃η1 η2,b (q x) η=some η1∧g η1=some (.nx η2)∧E (step s x) η2)→∃η',ig b g (xs.map q) η=some (.nx η')∧E (xs.foldl step s) η'
  |[],η,s,h0,_=>⟨η,rfl,h0⟩
  |x::xs,η,s,h0,hs=>by obtain⟨η1,η2,h1,h2,h3⟩:=hs x de s η h0;obtain⟨η',h4,h5⟩:=kQ q E step (xs:=xs) (η:=η2) (step s x) h3 (fun y hy=>hs y (lJ _ hy));refine⟨η',?_,h5⟩;rw[bY];unfold ig;rw[h1];simp only[bJ,h2];exact h4
theorem kR{α β:Type}{b:BF}{g:SF}(q:α→D)(E:Nat→β→cQ→Prop)(step:β→α→β):∀{xs:List α} {η:cQ} (n:Nat) (s:β),E n s η→(∀(i:Nat) x s η,xs[i]?=some x→E (n+i) s η→∃η1 η2,b (q x) η=some η1∧g η1=some (.nx η2)∧E (n+i+1) (step s x) η2)→∃η',ig b g (xs.map q) η=some (.nx η')∧E (n+xs.length) (xs.foldl step s) η'
  |[],η,n,s,h0,_=>⟨η,rfl,h0⟩
  |x::xs,η,n,s,h0,hs=>by
   obtain⟨η1,η2,h1,h2,h3⟩:=hs 0 x s η rfl h0;obtain⟨η',h4,h5⟩:=kR q E step (xs:=xs) (η:=η2) (n+1) (step s x) h3 (fun i y s η hy he=>by
     have e:n+1+i=n+(i+1):=by omega
     rw[e] at he⊢;exact hs (i+1) y s η (by simpa using hy) he)
   refine⟨η',?_,by rw[mW,x4,show n+(xs.length+1)=n+1+xs.length by omega];exact h5⟩;rw[bY];unfold ig;rw[h1];simp only[bJ,h2];exact h4
theorem p6{α:Type}{b:BF}{g:SF}(q:α→D)(P:cQ→Prop)(stop:α→eO):∀{xs:List α} {η:cQ},P η→(∀x∈xs,∀η,P η→∃η1,b (q x) η=some η1∧((∃r,stop x=some r∧g η1=some (.rt r))∨(stop x=none∧∃η2,g η1=some (.nx η2)∧P η2)))→(∃r,xs.findSome? stop=some r∧ig b g (xs.map q) η=some (.rt r))∨(xs.findSome? stop=none∧∃η',ig b g (xs.map q) η=some (.nx η')∧P η')
  |[],η,h0,_=>.inr ⟨rfl,η,rfl,h0⟩
  |x::xs,η,h0,hs=>by
   obtain⟨η1,h1,h2⟩:=hs x de η h0;rcases h2 with⟨r,h3,h4⟩|⟨h3,η2,h4,h5⟩
   ·refine .inl ⟨r,by rw[List.findSome?_cons,h3],?_⟩;rw[bY];unfold ig;rw[h1];simp only[bJ,h4]
   · have ih:=p6 q P stop (xs:=xs) (η:=η2) h5 (fun y hy=>hs y (lJ _ hy));have e:ig b g ((x::xs).map q) η=ig b g (xs.map q) η2:=by
       rw[bY];conv=>lhs;unfold ig
       rw[h1];simp only[bJ,h4]
     rw[List.findSome?_cons,h3,e];exact ih
theorem dw{α:Type}{b:BF}{t:TF}{f:EF}{η:cQ}(q:α→D)(p:α→Bool)(h:α→D):∀{xs:List α},(∀x∈xs,∃η1,b (q x) η=some η1∧t η1=some (p x)∧(p x=true→f η1=some (h x)))→cF b t f (xs.map q) η=some ((xs.filter p).map h)
  |[],_=>rfl
  |x::xs,hs=>by
   obtain⟨η1,h1,h2,h3⟩:=hs x de;have ih:=dw q p h (xs:=xs) (fun y hy=>hs y (lJ _ hy));rw[bY];unfold cF;rw[h1];simp only[bJ,h2];cases hp:p x with
   |true=>rw[az rfl,h3 hp,ih,Dk,az hp];rfl
   |false=>rw[bh (by simp),ih,Dk,bh (by simp[hp])]
theorem eW{α:Type}{b:BF}{t:TF}{f:EF}(q:α→D)(h:α→D){xs:List α}(hs:∀x∈xs,∃η1,b (q x) η=some η1∧t η1=some true∧f η1=some (h x)):cF b t f (xs.map q) η=some (xs.map h):=by
  have:=dw (b:=b) (t:=t) (f:=f) (η:=η) q (fun _=>true) h (xs:=xs) (fun x hx=>by
    obtain⟨η1,h1,h2,h3⟩:=hs x hx;exact⟨η1,h1,h2,fun _=>h3⟩)
  rw[this,List.filter_eq_self.mpr (fun _ _=>rfl)]
theorem jA(lo:Int)(n:Nat):dk lo n=((List.range n).map fun(i:Nat)=>lo+(i:Int)).map D.int:=by unfold dk;rw[e8];rfl
theorem Ed:∀(ds:dm) (n:Nat),D.OO ds n=ds.all fun d=>d.ik n
  |[],n=>by rw[D.OO];rfl
  |d::ds,n=>by rw[D.OO,Ed ds n,mZ]
theorem wO(ds:dm)(n:Nat):(D.tup ds).ik (n+1)=ds.all fun d=>d.ik n:=by rw[D.ik,Ed]
theorem zG(ds:dm)(n:Nat):(D.lst ds).ik (n+1)=ds.all fun d=>d.ik n:=by rw[D.ik,Ed]
theorem zH(i:Int)(n:Nat):(D.int i).ik n=true:=by rw[D.ik]
theorem S6(ns:aO)(n:Nat):(ns.map D.int).all (fun d=>d.ik n)=true:=by rw[List.all_map,iH];exact fun i _=>zH i n
theorem Gu{ds:dm}(h:(D.lst ds).ik 8=true):qJ (.lst ds) (.lst ds)=some (.bl false):=by unfold qJ;rw[bh (by simp[HY,Nr]),az (by simp[Mf,h]),u5 _ 8 h];rfl
theorem jj(a b:Int):m5 (.int a) (.int b)=some (.bl (a==b)):=by unfold m5;rw[az (by rfl),fQ]
theorem Ee(a b:Int):qJ (.int a) (.int b)=some (.bl (!(a==b))):=by unfold qJ;rw[az (by rfl),fQ]
theorem WT(a b:Bool):qJ (.bl a) (.bl b)=some (.bl (!(a==b))):=by unfold qJ;rw[az (by rfl),fQ]
end DL
namespace DL
open PySem PySem.Spec L2
open PyProof.Rows hiding St pairAt
section
variable {X:Cx} {z:Zc} {e a b:Expr} {f fa fb fk fv:EF} {fl fs:LF} {pos p:Pos} {g:SF} {st:Stmt} {es:List Expr} {ms:List Bool}
def Kn(i:Nat)(fs:LF):SF:=fun η=>(fs η).bind fun rest=>match η[i]? with
  |some (some (.ol ds))=>if rest.length≤1000 then some (.rt (.pr ds rest)) else none
  |_=>none
theorem S7(i:Nat){x1}{tp:Pos}(h:DM X z es (List.replicate n true) fs)(hN:X.N[i]?=some x:=by rfl)(hv:FD X.env.scope x:=by first|exact Or.inl rfl|exact Or.inr (Or.inl rfl)|exact Or.inr (Or.inr rfl))(hd:(x==("__debug__":Str))=false:=by decide)(ow:(x==("__classdict__":Str))=false:=by decide)(hs:starEach (.Name x px::es) X.env=(false,eval (.Name x px) X.env)::starEach es X.env:=by rfl):DS X z (.Return (some (.Tuple (.Name x px::es) x1 tp)) pos) (Kn i fs) :=
  PS.weak (yN (NR (fh (kJ hN hv hd ow) h hs))) fun D σ H ⟨η,F,o,r,e,k⟩=>by
  unfold Kn at e;obtain⟨rest,h1,e⟩:=eJ.mp e;split at e
  · rename_i ds hh;by_cases hl:rest.length≤1000
    · rw[az hl] at e;cases e;obtain⟨q,o,a1,a2,a3,a4,vs,rfl,a5⟩:=r.ownAt hh rfl;refine⟨_,a1,η,F,rest,r,h1,fun ws H' F' g1 qa=>?_⟩;have qa:=sM qa;have hz:(V.ref q::ws).length≤sizeLine:=by rw[mW,←bu qa];exact Br (by omega)
      refine⟨hz,fun t ht=>?_⟩;have g2:=bB.put g1.base ht (.tup (.ref q::ws)) hz;have A7:=g1.trans g2;have iJ:q≠t:=fun e=>by rw[←e,g1.ent _ _ a4] at ht;cases ht
      refine k t q vs ws _ _ (r.mem.trans A7) a2 ?_ (A7.ent _ _ a4) (bE A7.jy _ _ a5) aL (bE g2.jy _ _ qa);exact Cb (K:=X.K) A7 a3 a4 rfl
    ·rw[bh hl] at e;cases e
  ·cases e
end
section
variable {X:Cx} {z:Zc} {e a b:Expr} {f fa fb fk fv:EF} {fl fs:LF} {pos p:Pos} {g:SF} {st:Stmt} {es:List Expr} {ms:List Bool}
def Mq:SF:=fun _=>none
theorem zI:DS X z st Mq:=PS.weak (t:=fun _ _ _=>False) (fun _ _ _ _ _ _ q=>q.elim) fun D σ H ⟨η,F,o,r,e,k⟩=>by cases e
def O8(i:Nat):SF:=fun η=>match η[i]? with
  |some (some (.ot aX))=>some (.rt (.ot aX))
  |_=>none
theorem S8(i:Nat)(hN:X.N[i]?=some x:=by rfl)(hv:FD X.env.scope x:=by first|exact Or.inl rfl|exact Or.inr (Or.inl rfl)|exact Or.inr (Or.inr rfl))(hd:(x==("__debug__":Str))=false:=by decide)(ow:(x==("__classdict__":Str))=false:=by decide):DS X z (.Return (some (.Name x px)) pos) (O8 i) :=
  PS.weak (yN (kJ hN hv hd ow)) fun D σ H ⟨η,F,o,r,e,k⟩=>by
  unfold O8 at e;split at e
  ·rename_i aX hh;cases e;obtain⟨q,o,a1,a2,a3,a4,ws,rfl,a5⟩:=r.ownAt hh rfl;exact⟨_,a1,k q ws _ _ r.mem a2 a3 a4 a5⟩
  ·cases e
def Ko(i:Nat)(Fn:dm→eO)(fs:LF):SF:=fun η=>(fs η).bind fun ds=>(Fn ds).bind fun r=>match r with
  |.ot aX=>some (.nx (η.set i (some (.ot aX))))
  |_=>none
theorem S9{y:Str}{ap:Pos}{ps:gq}(hNd:X.N.Nodup)(C:fV X.prog X.w X.K X.mg X.base k fn ps (cL X.K ms Fn))(hr:fG k X.A)(hg:Gl X y)(hm:X.mg y=some (.ref fn))(ha:DM X z (e::es) ms fs)(tm:(y==("__debug__":Str))=false:=by decide)(he:starEach (e::es) X.env=(false,eval e X.env)::starEach es X.env:=by rfl)(tq:(backTo pos (starEach es X.env)).any (·.1)=false:=by rfl)(hi:X.N[i]?=some x:=by rfl)(hx:Loc X.env.scope x:=by first|exact Or.inl rfl|exact Or.inr rfl)(hs:swapsWith (.Call (.Name y p) (e::es) [] pos) (some (.Name x pos')) ap.line X.env=pure false:=by rfl)(hf:X.fn x=true∨X.env.scope.names.lookup x=some .local:=by first|exact .inl rfl|exact .inr rfl|assumption):DS X z (.Assign [.Name x pos'] (.Call (.Name y p) (e::es) [] pos) ap) (Ko i Fn fs) :=
  PS.weak (Dr hNd hi hx (DR C hr hg hm ha tm he tq) hs hf) fun D σ H ⟨η,F,o,r,e,k⟩=>by
  unfold Ko at e;obtain⟨ds,h1,h⟩:=eJ.mp e;obtain⟨s,h2,h⟩:=eJ.mp h;refine⟨η,F,ds,r,h1,fun vs H1 F1 g1 q1=>?_⟩;show cL X.K ms Fn (vs++[]) H1 _ E0;rw[uH];refine⟨F1,ds,s,g1.base,q1,h2,?_⟩;cases s with
  |ot aX=>cases h;intro q ws H' F' g2 hp hF hH hd;have A7:=g1.trans g2;have hp0:=g1.ent.free hp;have ho:eu X.K F' (.ref q) (.ot aX) q:=(rj rfl).mpr rfl;exact k _ _ _ (r.HM A7 i (p:=q) ⟨q,_,ho,r.mem.ent.free hp0,hF,hH,ws,rfl,hd⟩ ho hp0) A7.jy
  |_=>cases h
end
end DL
namespace NS
open PySem PySem.Spec
def tb(led:Bool)(S:List Nat):SetTable:={ mask:=if S.length<5 then 7 else 31,place:=S.toArray,dummies:=#[],finger:=0,led:=led,moves:=if S.length<5 then 0 else 1,plain:=true }
def tp(led:Bool)(S T:List Nat):SetTable:={ mask:=if S.length<5 then 7 else 31,place:=T.toArray,dummies:=#[],finger:=0,led:=led,moves:=if S.length<5 then 0 else 1,plain:=true }
def subs:List (List Nat):=(List.range 64).map fun m=>(List.range 6).filter fun k=>m.testBit k
def ins(S:List Nat)(k:Nat):List Nat:=S.filter (·<k)++k::S.filter (k<·)
def lo(S:List Nat)(k:Nat):Nat:=(S.filter (·<k)).length
def ck1:Bool:=[true,false].all fun led=>subs.all fun S=>(List.range 6).all fun k=>S.contains k ||
  (((tb led S).freeSlot (k:Int)==some (k,false))&&decide ((tb led S).put k=(tp led S (ins S k),lo S k))&&(tp led S (ins S k)).fits (S.length+1)
    && ((tp led S (ins S k)).tooFull==(S.length==4))&&subs.contains (ins S k)&&((ins S k).length==S.length+1)&&(lo S k≤S.length))
theorem O9:ck1=true:=by decide +kernel
def ck2:Bool:=[true,false].all fun led=>subs.all fun S=>(List.range 6).all fun k=>S.contains k||S.length != 4 ||
  (decide ((tp led S (ins S k)).relaid (((ins S k).map fun(i:Nat)=>(i:Int)).toArray) (SetTable.grown 5)=some (tb led (ins S k),(List.range 5).toArray))&&(tb led (ins S k)).fits 5)
theorem Pa:ck2=true:=by decide +kernel
def ck3:Bool:=[true,false].all fun led=>subs.all fun S=>(List.range 7).all fun i=>i>S.length ||
  (SetTable.below (tb led S).place (if i=0 then 0 else S.getD (i-1) 0+1)==i)
theorem Pb:ck3=true:=by decide +kernel
end NS
namespace NS
open PySem PySem.Spec PySem.Calls
open PyProof.Rows hiding St pairAt
def ck4:Bool:=subs.all fun S=>(List.range 6).all fun k=>S.contains k||(S.take (lo S k)++k::S.drop (lo S k)==ins S k)
theorem Pg:ck4=true:=by decide +kernel
def ck5:Bool:=(List.range 6).all fun k=>hashInt (k:Int)==(k:Int)
theorem Ph:ck5=true:=by decide +kernel
theorem zJ(h:k<6):hashInt (k:Int)=(k:Int):=eq_of_beq (iH.mp Ph k (mY.mpr h))
def ck6:Bool:=[true,false].all fun led=>subs.all fun S=>(tb led S).fits S.length&&S.length≤6&&S.all (·<6)&&decide S.Nodup
theorem Pj:ck6=true:=by decide +kernel
theorem yE(led:Bool):led∈[true,false]:=by cases led<;>simp
theorem pJ(h:S∈subs):(tb led S).fits S.length=true∧S.length≤6∧(∀k∈S,k<6)∧S.Nodup:=by have:=iH.mp (iH.mp Pj led (yE led)) S h;simp only[t9,Bb,iH] at this;exact⟨this.1.1.1,this.1.1.2,this.1.2,this.2⟩
theorem Mr(h:S∈subs)(hk:k<6)(hn:S.contains k=false):(tb led S).freeSlot (k:Int)=some (k,false)∧(tb led S).put k=(tp led S (ins S k),lo S k)∧(tp led S (ins S k)).fits (S.length+1)=true∧(tp led S (ins S k)).tooFull=(S.length==4)∧ins S k∈subs∧(ins S k).length=S.length+1∧lo S k≤S.length:=by
  have:=iH.mp (iH.mp (iH.mp O9 led (yE led)) S h) k (mY.mpr hk);rw[hn,Bool.false_or] at this;simp only[t9,Bb,beq_iff_eq,yJ] at this;obtain⟨⟨⟨⟨⟨⟨h1,h2⟩,h3⟩,h4⟩,h5⟩,h6⟩,h7⟩:=this;exact⟨h1,h2,h3,h4,h5,h6,h7⟩
theorem Gv(h:S∈subs)(hk:k<6)(hn:S.contains k=false)(h4:S.length=4):(tp led S (ins S k)).relaid (((ins S k).map fun(i:Nat)=>(i:Int)).toArray) (SetTable.grown 5)=some (tb led (ins S k),(List.range 5).toArray)∧(tb led (ins S k)).fits 5=true:=by
  have:=iH.mp (iH.mp (iH.mp Pa led (yE led)) S h) k (mY.mpr hk);rw[hn,h4] at this;simpa using this
theorem WU(h:S∈subs)(hk:k<6)(hn:S.contains k=false):S.take (lo S k)++k::S.drop (lo S k)=ins S k:=by have:=iH.mp (iH.mp Pg S h) k (mY.mpr hk);rw[hn,Bool.false_or] at this;exact eq_of_beq this
def Ent(l:List (Int×Value))(S:List Nat):Prop:=Paired (fun e (k:Nat)=>∃t,e=((k:Int),Value.int (k:Int) t)) l S
theorem Ent.len(h:Ent l S):l.length=S.length:=wo h
theorem Ent.ins{x:Int×Value}{k:Nat}(hx:∃t,x=((k:Int),Value.int (k:Int) t)):∀{l:List (Int×Value)} {S:List Nat} (n:Nat),Ent l S→Ent (l.take n++x::l.drop n) (S.take n++k::S.drop n)
  |_,_,0,h=>.cons hx h
  |_,_,n+1,.nil=>.cons hx .nil
  |_,_,n+1,.cons h r=>.cons h (Ent.ins hx n r)
theorem Ent.fst(h:Ent l S):l.map (·.1)=S.map fun(i:Nat)=>(i:Int):=by
  induction h with
  |nil=>rfl
  |cons a r ih=>obtain⟨t,rfl⟩:=a;simp[ih]
theorem Ent.mem(h:Ent l S):∀e∈l,∃(k:Nat) (t:Tok),k∈S∧e=((k:Int),Value.int (k:Int) t):=by
  induction h with
  |nil=>intro e he;cases he
  |cons a r ih =>
   intro e he;rcases gw.mp he with rfl|he
   ·obtain⟨t,q⟩:=a;exact⟨_,t,de,q⟩
   ·obtain⟨k,t,h1,h2⟩:=ih e he;exact⟨k,t,lJ _ h1,h2⟩
theorem Ent.acn(h:Ent l S):∀k∈S,∃t:Tok,((k:Int),Value.int (k:Int) t)∈l:=by
  induction h with
  |nil=>intro e he;cases he
  |cons a r ih =>
   intro k he;rcases gw.mp he with rfl|he
   ·obtain⟨t,q⟩:=a;exact⟨t,q▸de⟩
   ·obtain⟨t,h1⟩:=ih k he;exact⟨t,lJ _ h1⟩
def SN(h:Heap)(a:Addr)(led:Bool)(S:List Nat):Prop:=S∈subs∧∃es ep,h.get? a=some { cls:=.type "set",dict:=none,data:=.set es ep (tb led S) }∧Ent es.toList S
section
variable {prog:Program} {w:World} {A:Around} {E:lr} {s:Shared} {a:Addr}
theorem WV{t:Tok}{Q:Bool→Shared→Prop}(hk:k<6)(hS:SN s.heap a led S)(h:∀h',Heap.SameBut a s.heap h'→SN h' a led (if S.contains k=true then S else ins S k)→∀b,Q b { s with heap:=h' }):wpAny (model prog w) A (setAddHashed a (.int (k:Int) t) (hashInt (k:Int))) Q E s:=by
  obtain⟨hs,es,ep,ho,he⟩:=hS;have hlen:es.size=S.length:=by rw[←oo];exact he.len
  obtain⟨hf,h6,tD,A5⟩:=pJ (led:=led) hs;have Rv:(tb led S).fits es.size=true:=by rw[hlen];exact hf
  have hb:es.size<scanBound:=by rw[hlen];unfold scanBound;omega
  have hel:ElemsOf (intKind prog w) es.toList:=fun e q=>by obtain⟨k',t',h1,rfl⟩:=he.mem e q;exact⟨⟨(k':Int),intKind_is _ _ _ _,(zJ (tD k' h1)).symm⟩,rfl⟩
  have VX:(intKind prog w).is (k:Int) (.int (k:Int) t)=true:=intKind_is _ _ _ _;unfold setAddHashed setAddHashedIn;refine wm (bA (wpAny_setState_of ho rfl Rv ?_));dsimp only;rw[byScan_of (knd:=intKind prog w) (x:=.int (k:Int) t) rfl hb hel];simp only[↓reduceIte];unfold setAddByScan;refine bA ?_;refine bA (wpAny_rule ?_);refine bA (wpAny_setScan_of (knd:=intKind prog w) VX ho rfl Rv hel ?_);cases hr:List.findIdx? (fun e=>(intKind prog w).is (k:Int) e.2) es.toList with
  |some j =>
   dsimp only;obtain⟨hj,hpj,_⟩:=List.findIdx?_eq_some_iff_getElem.mp hr;obtain⟨k',t',h1,h2⟩:=he.mem _ (List.getElem_mem hj);rw[h2] at hpj;have hkk:k=k':=by have XW:Value.isInt (k:Int) (Value.int (k':Int) t')=true:=hpj;simp[Value.isInt] at XW;omega
   have hc:S.contains k=true:=by rw[hkk];exact yJ.mpr h1
   refine bj (bj ?_);have:=h s.heap (Heap.SameBut.refl a s.heap) (by rw[az hc];exact⟨hs,es,ep,ho,he⟩) false;exact this
  |none =>
   dsimp only;have hc:S.contains k=false:=by
     cases hc:S.contains k with
     |false=>rfl
     |true=>obtain⟨t',q⟩:=he.acn k (yJ.mp hc);have:=List.findIdx?_eq_none_iff.mp hr _ q;rw[intKind_is] at this;cases this
   rw[bh (by rw[hc];exact lK)] at h;obtain⟨l1,l2,l3,l4,l5,l6,l7⟩:=Mr (led:=led) hs hk hc;have UI:(SetTable.insertAt es (lo S k) ((k:Int),Value.int (k:Int) t)).size=S.length+1:=by rw[←oo,SetTable.toList_insertAt];have h1:=he.len;rw[kI,mW,Dj,List.length_drop,h1];omega
   have hL:layNew (tb led S) es (hashInt (k:Int)) (.int (k:Int) t)=(SetTable.insertAt es (lo S k) ((k:Int),Value.int (k:Int) t),tp led S (ins S k),false,false):=by unfold layNew;rw[zJ hk,l1];dsimp only;rw[l2];dsimp only;unfold SetTable.orStandIn;rw[UI,l3];rfl
   rw[hL];dsimp only;have he1:Ent (SetTable.insertAt es (lo S k) ((k:Int),Value.int (k:Int) t)).toList (ins S k):=by rw[SetTable.toList_insertAt,←WU hs hk hc];exact Ent.ins ⟨t,rfl⟩ _ he
   generalize SetTable.insertAt es (lo S k) ((k:Int),Value.int (k:Int) t)=Kp at UI he1⊢;refine bA (bj ?_);refine bA ?_;rw[hashByValue_scannable 8 rfl];refine bj ?_;rw[show plainKind (Value.int (k:Int) t)=true from rfl];simp only[↓reduceIte,Bool.not_false,Bool.true_and];have hz:Kp.size≤sizeLine:=by rw[UI,kD];omega
   refine bA (wpAny_storeSet_of ho rfl ?_ hz);have WW:=wc s.heap a (Obj.putSet Kp (tp led S (ins S k)));have ho1:(s.heap.update a (Obj.putSet Kp (tp led S (ins S k)))).get? a=some { cls:=.type "set",dict:=none,data:=.set Kp (ep+1) (tp led S (ins S k)) }:=by exact Ba _ ho rfl
   rw[l4];by_cases h4:S.length=4
   · rw[az (by rw[h4];rfl)];obtain⟨r1,r2⟩:=Gv (led:=led) hs hk hc h4;have h5:Kp.size=5:=by omega
     have hm:Kp.map (·.1)=((ins S k).map fun(i:Nat)=>(i:Int)).toArray:=by rw[←he1.fst,←Array.toList_map]
     have hR:relayAll (tp led S (ins S k)) Kp (SetTable.grown Kp.size)=(Kp,tb led (ins S k),false):=by
       unfold relayAll;rw[h5,hm,r1];dsimp only;have hfm:(List.range 5).toArray.filterMap (Kp[·]?)=Kp:=by have:=filterMap_getElem?_range Kp;rw[h5] at this;rw[List.filterMap_toArray,this]
       rw[hfm,h5,r2];rfl
     rw[hR];dsimp only;refine bA (bj ?_);refine bA (wpAny_storeSet_of ho1 rfl ?_ hz);refine bj (bj (h _ (WW.trans (wc _ a _)) ⟨l5,Kp,ep+1+1,?_,he1⟩ _));exact Ba _ ho1 rfl
   · rw[bh (by simpa using h4)];have e:tp led S (ins S k)=tb led (ins S k):=by
       unfold tp tb;rw[l6];by_cases h5:S.length<5
       ·rw[az h5,az (by omega:S.length+1<5),az h5,az (by omega:S.length+1<5)]
       ·rw[bh h5,bh (by omega:¬ S.length+1<5),bh h5,bh (by omega:¬ S.length+1<5)]
     rw[e] at ho1 WW⊢;exact bj (bj (h _ WW ⟨l5,Kp,ep+1,ho1,he1⟩ _))
end
def Pk(val:Nat→Nat):Nat→List Nat
  |0=>[]
  |i+1=>if (Pk val i).contains (val i)=true then Pk val i else ins (Pk val i) (val i)
def qP(w:World):Bool:=w.params.followText "set-order"
abbrev tG(led:Bool):Obj:={ cls:=.type "set",dict:=none,data:=.set #[] 0 (.fresh 0 0 led) }
abbrev X4(a:Addr)(h h':Heap):Prop:=∀b o,b≠a→h.get? b=some o→h'.get? b=some o
structure zK (prog:Program) (w:World) (U:Nat) (items:Array Value) (S:Addr) (J:Nat→Heap→Prop):Prop where
  pW:∀i I h h',S<I→J i h→X4 I h h'→J i h'
  add:∀(B:Around) i v (s:Shared) (Q:Bool→Shared→Prop) (E:lr),B.units≤U→items[i]?=some v→J i s.heap →
    (∀r h' tk,X4 S s.heap h'→J (i+1) h'→Q r { s with heap:=h',toks:=tk })→wpAny (model prog w) B (setAdd S v) Q E s
structure Pl (prog:Program) (w:World) (B:Around) (items:Array Value) (S I:Addr) (K:Nat→Heap→Prop):Prop where
  pW:∀i h h',K i h→X4 S h h'→K i h'
  item:∀i v (s:Shared) (Q:mR→Shared→Prop) (E:lr),items[i]?=some v→K i s.heap→(∀h',K (i+1) h'→X4 I s.heap h'→Q (some v) { s with heap:=h' })→wpAny (model prog w) B (pyNext (.ref I)) Q E s
  done:∀(s:Shared) (Q:mR→Shared→Prop) (E:lr),K items.size s.heap→(∀h',X4 I s.heap h'→Q none { s with heap:=h' })→wpAny (model prog w) B (pyNext (.ref I)) Q E s
section
variable {prog:Program} {w:World} {A:Around} {E:lr} {s:Shared} {items:Array Value} {S l I:Addr} {J K:Nat→Heap→Prop} {R:Result→Shared→Prop} {U:Nat}
theorem Ig{B:Around}(hh:B.handled=none)(hI:I≠S)(hl:l≠S)(hIl:l≠I):Pl prog w B items S I (fun i h=>h.IsListIter I l i∧h.IsList l items) where
  pW:=fun i h h' k e=>⟨k.1.at fun o x=>e I o hI x,k.2.at fun o x=>e l o hl x⟩
  item:=fun i v s Q E hv k hQ=>wpAny_pyNext_list_item k.1 k.2 hv fun h' it x=>hQ h' ⟨it,k.2.at fun o e=>x.extBut l o hIl e⟩ x.extBut
  done:=fun s Q E k hQ=>wpAny_pyNext_list_end hh k.1 k.2 (by simp) hQ
theorem zK.all(T:zK prog w U items S J)(D:Pl prog w A.in1 items S I K)(hU:A.in1.units≤U)(Zz:S<I)(hR:∀h tk,J items.size h→(∀b o,b≠S→b≠I→s.heap.get? b=some o→h.get? b=some o)→R (.ok (.ret .none)) { s with heap:=h,toks:=tk }):∀(k i:Nat),items.size-i=k→i≤items.size→∀(h:Heap) (tk:Nat),K i h→J i h→(∀b o,b≠S→b≠I→s.heap.get? b=some o→h.get? b=some o)→codeAny (model prog w) A (.builtin "set.update.loop" ⟨[.ref S,.ref I],[]⟩) R { s with heap:=h,toks:=tk }
  |0,i,hk,hi,h,tk,it,j,kp=>by
   have e:i=items.size:=by omega
   subst e;refine codeAny_builtin PyProof.Rows.F.entry_set_update_loop ?_;rw[Around.under_plainId PyProof.Rows.F.plain_set_update_loop _];exact bA (D.done _ _ _ it fun h' x=>bj (hR h' tk (T.pW _ _ _ _ Zz j x) fun b o n1 n2 e=>x b o n2 (kp b o n1 n2 e)))
  |k+1,i,hk,hi,h,tk,it,j,kp=>by
   have jL:i<items.size:=by omega
   have hv:items[i]?=some items[i]:=by simp[jL]
   refine codeAny_builtin PyProof.Rows.F.entry_set_update_loop ?_;rw[Around.under_plainId PyProof.Rows.F.plain_set_update_loop _];refine bA (D.item i _ _ _ _ hv it fun h1 it1 x1=>bA (wm (T.add _ i _ _ _ _ hU hv (T.pW _ _ _ _ Zz j x1) fun r h2 tk2 x2 j2=>bj ⟨plainId_quiet PyProof.Rows.F.plain_set_update_loop _,?_⟩)));exact zK.all T D hU Zz hR k (i+1) (by omega) jL h2 tk2 (D.pW _ _ _ it1 x2) j2 fun b o n1 n2 e=>x2 b o n1 (x1 b o n2 (kp b o n1 n2 e))
theorem Ta(a:Value){Q₁:lr}(h:Q₁ (.ref s.heap.objs.size) { s with heap:=s.heap.push (tG (!qP w)) }):codeAny (model prog w) A (.call (.builtin "set.__new__") ⟨[.type "set",a],[]⟩) (wants Q₁ E) s:=by
  have q:=sub_set_self;refine codeAny_of_tree (bA (wpAny_of_eq (PySem.F.newCall_set_1 a) (bj ⟨plainId_quiet PySem.F.plain_set_new _,codeAny_builtin PySem.F.entry_set_new ?_⟩)));rw[Around.under_plainId PySem.F.plain_set_new _];unfold Builtin.«set.__new__» Builtin.Frozenset.newClass
  wp_walk using wpAny_askSetting
  exact h
theorem zK.call{T:String}{it:Obj}(X:zK prog w U items s.heap.objs.size J)(n1:isSubtype (.type T) (.type "set")=pure false)(n2:isSubtype (.type T) (.type "frozenset")=pure false)(n3:(Value.type T==Value.type "dict")=false)(hT:s.TypeIs (.ref l) T)(hU:A.in1.in1.in1.units≤U)(zero:∀h,h.get? s.heap.objs.size=some (tG (!qP w))→X4 s.heap.objs.size s.heap h→J 0 h)(hit:∀(B:Around) (Q:lr) (E:lr),Q (.ref (s.heap.push (tG (!qP w))).objs.size) { s with heap:=(s.heap.push (tG (!qP w))).push it }→wpAny (model prog w) B (pyIter (.ref l)) Q E { s with heap:=s.heap.push (tG (!qP w)) })(D:Pl prog w A.in1.in1.in1 items s.heap.objs.size (s.heap.objs.size+1) K)(hK:K 0 ((s.heap.push (tG (!qP w))).push it))(hQ:∀h' tk,J items.size h'→(∀b o,s.heap.get? b=some o→h'.get? b=some o)→Q (.ref s.heap.objs.size) { s with heap:=h',toks:=tk }):wpAny (model prog w) A (call (.type "set") [.ref l]) Q E s:=by
  obtain⟨c,tl,ah1⟩:=Fw.mro;have q1:=Fw.made;have q2:=Fw.sub;have q3:=Fw.notType;have q4:=Fw.canCreate;have q5:=PySem.F.typeCall_set_1 (.ref l);have q6:=Fw.init.lookup;have q7:=Fw.init.bind (.ref s.heap.objs.size);have hS:(s.heap.push (tG (!qP w))).get? s.heap.objs.size=some (tG (!qP w)):=il _ rfl;have tS:Shared.TypeIs { s with heap:=s.heap.push (tG (!qP w)) } (.ref s.heap.objs.size) "set":=⟨_,hS,rfl⟩
  have body:wpAny (model prog w) A.in1.in1 (Builtin.«set.__init__» ⟨[.ref s.heap.objs.size,.ref l],[]⟩)
      (fun fin s'=>match fin with|.done f=>wants (fun r s₂=>r=.none∧Q (.ref s.heap.objs.size) s₂) E (.ok f) s'|.again c'=>c'.quiet=true∧codeAny (model prog w) A.in1 c' (wants (fun r s₂=>r=.none∧Q (.ref s.heap.objs.size) s₂) E) s')
      (fun e s'=>wants (fun r s₂=>r=.none∧Q (.ref s.heap.objs.size) s₂) E (.error e) s') { s with heap:=s.heap.push (tG (!qP w)) }:=by
    have tl:Shared.TypeIs { s with heap:=s.heap.push (tG (!qP w)) } (.ref l) T:=let ⟨o,e,c⟩:=hT;⟨o,kz _ e,c⟩
    have z:(s.heap.push (tG (!qP w))).objs.size=s.heap.objs.size+1:=Heap.size_push _ _;unfold Builtin.«set.__init__» noKeywords Builtin.Frozenset.updateFrom
    wp_walk using hit
    rw[z];refine X.all (s:={ s with heap:=(s.heap.push (tG (!qP w))).push it }) D hU (Nat.lt_succ_self _) (fun h tk j kp=>?_) items.size 0 (Nat.sub_zero _) (qQ _) _ _ hK (zero _ (kz _ hS) fun b o _ e=>kz _ (kz _ e)) fun _ _ _ _ e=>e;show wpAny (model prog w) A.in1.in1 (pure ()) _ _ _;refine bj ?_;show wpAny (model prog w) A.in1.in1 (ret Value.none) _ _ _;exact bj ⟨rfl,hQ h tk j fun b o e=>kp b o (fT (dg e)) (fT (Nat.lt_succ_of_lt (dg e))) (kz _ (kz _ e))⟩
  refine wpAny_call (codeAny_of_tree (bj ⟨Code.quiet_builtin _ (by decide +kernel),codeAny_builtin PySem.F.entry_type_call ?_⟩));rw[Around.under_plain (weight_type_call_type "set" [.ref l] []) rfl]
  wp_walk
  refine Ta (E:=E) (.ref l) ?_
  wp_walk
  refine codeAny_mono (codeAny_call_builtin Fw.init.plain PySem.F.entry_set_init (check_set_init_1 tS body)) fun r s₂ hr=>?_
  match r,hr with
  |.ok (.ret v),⟨e,hq⟩ =>
   subst e
   wp_walk
   exact hq
  |.error e,hr=>exact hr
theorem SN.kept{S:List Nat}(x:SN h a led S)(k:∀o,h.get? a=some o→h'.get? a=some o):SN h' a led S:=by obtain⟨h1,es,ep,ho,he⟩:=x;exact⟨h1,es,ep,k _ ho,he⟩
theorem Ih{val:Nat→Nat}(WX:∀i v,items[i]?=some v→val i<6∧∃t,v=.int (val i:Int) t):zK prog w U items S (fun i h=>SN h S (!qP w) (Pk val i)) where
  pW:=fun i I h h' Zz j k=>j.kept fun o e=>k S o (fT Zz) e
  add:=fun B i v s Q E _ hv j hQ=>by obtain⟨h6,t,e⟩:=WX i v hv;subst e;exact wm (bA ((intKind prog w).pyHash (intKind_is _ _ _ _) (WV (s:={ s with toks:=s.toks+1 }) h6 j fun h' x hS r=>hQ r h' _ (fun b o n e=>(x.2 b n).trans e) hS)))
theorem Ii{val:Nat→Nat}(e:h.get? S=some (tG (!qP w))):SN h S (!qP w) (Pk val 0):=⟨(by decide +kernel:([]:List Nat)∈subs),#[],0,e,.nil⟩
theorem Ij{val:Nat→Nat}(hh:A.handled=none)(hl:s.heap.IsList l items)(WX:∀i v,items[i]?=some v→val i<6∧∃t,v=.int (val i:Int) t)(h:∀(h':Heap) (tk:Nat),SN h' s.heap.objs.size (!qP w) (Pk val items.size)→(∀b o,b<s.heap.objs.size→s.heap.get? b=some o→h'.get? b=some o)→Q (.ref s.heap.objs.size) { s with heap:=h',toks:=tk }):wpAny (model prog w) A (call (.type "set") [.ref l]) Q E s:=by
  have lt:l<s.heap.objs.size:=let ⟨_,ho,_⟩:=hl;dg ho
  have z:(s.heap.push (tG (!qP w))).objs.size=s.heap.objs.size+1:=Heap.size_push _ _;exact zK.call (Ih WX) PySem.F.sub_list_set PySem.F.sub_list_frozenset (by decide) hl.typeIs (cu _) (fun h e _=>Ii e)
    (fun B Q E hq=>wpAny_pyIter_list (s:={ s with heap:=s.heap.push (tG (!qP w)) }) (hl.push _) hq)
    (Ig (l:=l) (by simpa using hh) (Nat.succ_ne_self _) (fT lt) (fT (Nat.lt_succ_of_lt lt))) ⟨⟨_,by rw[←z];exact il _ rfl,rfl,rfl⟩,(hl.push _).push _⟩ fun h' tk j k=>h h' tk j fun b o _ e=>k b o e
end
theorem m6:Slot "set_iterator" "__next__" "set_iterator.__next__" :=
  .of (owner:="set_iterator") (n:="__next__") (by rw[typeLookup_type,Fv];kernel_rfl) (by decide +kernel) (by decide +kernel) (by decide +kernel)
    (by first|exact .inl (by decide +kernel)|exact .inr (by decide +kernel)) (by rw[isSubtype_type];kernel_rfl)
theorem Bs:entryFor table "set_iterator.__next__"=some Builtin.«set_iterator.__next__»:=entryFor_of_tree (by kernel_rfl)
theorem Gw:Manifest.owners.lookup (String.ofList ['r','o','t','a','r','e','t','i','_','t','e','s'].reverse)=some Manifest.sig_set_iterator:=by kernel_rfl
theorem Ef(a:Value):argsOk "set_iterator.__next__" ⟨[a],[]⟩:=by unfold argsOk;rw[signature?_of (id:="set_iterator.__next__") (n:=['_','_','t','x','e','n','_','_']) (o:=['r','o','t','a','r','e','t','i','_','t','e','s']) (by kernel_rfl) Gw];kernel_rfl
theorem vb:Slot "set_iterator" "__iter__" "set_iterator.__iter__" :=
  .of (owner:="set_iterator") (n:="__iter__") (by rw[typeLookup_type,Fv];kernel_rfl) (by decide +kernel) (by decide +kernel) (by decide +kernel)
    (by first|exact .inl (by decide +kernel)|exact .inr (by decide +kernel)) (by rw[isSubtype_type];kernel_rfl)
theorem Bt:entryFor table "set_iterator.__iter__"=some Builtin.«dict_keyiterator.__iter__» :=
  entryFor_alias (id':="dict_keyiterator.__iter__") (by kernel_rfl) rfl (by decide +kernel) (by kernel_rfl)
theorem Eg(a:Value):argsOk "set_iterator.__iter__" ⟨[a],[]⟩:=by unfold argsOk;rw[signature?_of (id:="set_iterator.__iter__") (n:=['_','_','r','e','t','i','_','_']) (o:=['r','o','t','a','r','e','t','i','_','t','e','s']) (by kernel_rfl) Gw];kernel_rfl
theorem zL:entryFor table "set.__iter__"=some Builtin.«frozenset.__iter__» :=
  entryFor_alias (id':="frozenset.__iter__") (by kernel_rfl) rfl (by decide +kernel) (by kernel_rfl)
theorem zM{α:Type}:∀(l:List α) (j:Nat) (h:j<l.length),(l[j]::l.eraseIdx j).Perm l
  |x::r,0,_=>.refl _
  |x::r,j+1,h=>by
   have hj:j<r.length:=by simpa using h
   show(r[j]::x::r.eraseIdx j).Perm (x::r);exact(List.Perm.swap x r[j] (r.eraseIdx j)).trans (.cons x (zM r j hj))
theorem Kq{α:Type}(next:Nat→Nat):∀(fuel k:Nat) (left:List α) (out:Array α),left.length≤fuel→(pickOrder.go next fuel k left out).toList.Perm (out.toList++left)
  |0,k,[],out,_=>by unfold pickOrder.go;simp
  |0,k,x::r,out,h=>by simp at h
  |fuel+1,k,[],out,_=>by unfold pickOrder.go;simp
  |fuel+1,k,x::r,out,h=>by unfold pickOrder.go;have jL:next k%(x::r).length<(x::r).length:=Nat.mod_lt _ (by simp);rw[mV jL];dsimp only;refine(Kq next fuel (k+1) _ _ (by rw[List.length_eraseIdx_of_lt jL];omega)).trans ?_;rw[Array.toList_push,Dh];refine List.Perm.append_left _ ?_;exact zM _ _ jL
theorem Ms{α:Type}(next:Nat→Nat)(xs:Array α):(pickOrder next xs).toList.Perm xs.toList:=by unfold pickOrder;have:=Kq next xs.size 0 xs.toList #[] (by simp);simpa using this
def ord(w:World)(a:Addr)(es:Array (Int×Value))(ep:Nat):Array (Int×Value):=if qP w=true then pickOrder (w.params.setOrder a ep) es else es
theorem Gx(w:World)(a:Addr)(es:Array (Int×Value))(ep:Nat):(ord w a es ep).toList.Perm es.toList:=by
  unfold ord;split
  ·exact Ms _ _
  ·exact .refl _
theorem zN(w:World)(a:Addr)(es:Array (Int×Value))(ep:Nat):(ord w a es ep).size=es.size:=by rw[←oo,(Gx w a es ep).length_eq,oo]
def at'(S:List Nat)(i:Nat):Nat:=if i=0 then 0 else S.getD (i-1) 0+1
theorem below_at(h:S∈subs)(hi:i≤S.length):SetTable.below (tb led S).place (at' S i)=i:=by have h6:=(pJ (led:=led) h).2.1;have:=iH.mp (iH.mp (iH.mp Pb led (yE led)) S h) i (mY.mpr (by omega));rw[show decide (i>S.length)=false from lL (by omega),Bool.false_or] at this;exact eq_of_beq this
def Gy(h:Heap)(it a:Addr)(slot i n ep:Nat):Prop:=∃o,h.get? it=some o∧o.cls=.type "set_iterator"∧o.data=.fields #[.int slot 0,.int i 0,.ref a,.int n 0,.int ep 0]
theorem Gy.typeIs{it a slot i n ep}(x:Gy s.heap it a slot i n ep):s.TypeIs (.ref it) "set_iterator":=let ⟨o,ho,hc,_⟩:=x;⟨o,ho,hc⟩
def X5(h:Heap)(a:Addr)(led:Bool)(S:List Nat)(es:Array (Int×Value))(ep:Nat):Prop:=h.get? a=some { cls:=.type "set",dict:=none,data:=.set es ep (tb led S) }
section
variable {prog:Program} {w:World} {A:Around} {E:lr} {s:Shared} {it a:Addr} {S:List Nat} {es:Array (Int×Value)} {ep i slot:Nat}
theorem Pm{Q:Option (Value×Nat)→Shared→Prop}(hs:S∈subs)(he:Ent es.toList S)(hS:X5 s.heap a (!qP w) S es ep)(hi:i≤es.size)(hsl:qP w=false→slot=at' S i)(h:∀qB,(qP w=false→qB=at' S (i+1))→Q (((ord w a es ep)[i]?).map fun e=>(e.2,qB)) s):wpAny (model prog w) A (setNext a slot i ep) Q E s:=by
  have hlen:es.size=S.length:=by rw[←oo];exact he.len
  have Rv:(tb (!qP w) S).fits es.size=true:=by rw[hlen];exact(pJ hs).1
  unfold setNext;refine bA (wpAny_setState_of hS rfl Rv ?_);dsimp only;unfold setsByText;refine bA (bA (wpAny_askSetting (bj ?_)));dsimp only;by_cases hb:qP w=true
  ·rw[az (show(model prog w).w.params.followText "set-order"=true from hb),bh (by simp)];refine bA ?_;unfold setWalk;refine bA (wpAny_setState_of hS rfl Rv ?_);dsimp only;unfold setsByText;refine bA (bA (wpAny_askSetting (bj ?_)));dsimp only;rw[az (show(model prog w).w.params.followText "set-order"=true from hb)];refine bA (wpAny_askSetting (bj ?_));have:=h slot (fun q=>by rw[hb] at q;cases q);unfold ord at this;rw[az hb] at this;exact bj this
  · have Fm:qP w=false:=by simpa using hb
    rw[bh (show ¬ (model prog w).w.params.followText "set-order"=true from hb)];refine ti (fun uN=>absurd uN lK) (fun _=>?_);rw[Fm] at hS Rv⊢;refine bA (bj ?_);rw[hsl Fm,below_at hs (by omega)];have ZC:ord w a es ep=es:=by unfold ord;rw[bh hb]
    refine bj ?_;by_cases jL:i<es.size
    · have:=h (at' S (i+1)) (fun _=>rfl);rw[ZC,A8 jL] at this;rw[A8 jL];have hp:(tb (!false) S).place[i]?=some (S.getD i 0):=by
        show S.toArray[i]?=_;rw[List.getElem?_toArray,nD,mV (by omega)];rfl
      rw[hp];exact this
    ·have:=h (at' S (i+1)) (fun _=>rfl);rw[ZC,Array.getElem?_eq_none (by omega)] at this;rw[Array.getElem?_eq_none (by omega)];exact this
theorem Kr{Q:mR→Shared→Prop}(hh:A.handled=none)(hs:S∈subs)(he:Ent es.toList S)(hS:X5 s.heap a (!qP w) S es ep)(hi:i≤es.size)(hsl:qP w=false→slot=at' S i)(hit:Gy s.heap it a slot i es.size ep)(hQ:∀e qB h',(ord w a es ep)[i]?=some e→(qP w=false→qB=at' S (i+1))→Gy h' it a qB (i+1) es.size ep→Heap.ExtBut it s.heap h'→Q (some e.2) { s with heap:=h' })(hN:∀h',(ord w a es ep)[i]?=none→Heap.ExtBut it s.heap h'→Q none { s with heap:=h' }):wpAny (model prog w) A (pyNext (.ref it)) Q E s:=by
  have ty:=hit.typeIs;have fit:(tb (!qP w) S).fits es.size=true:=by rw[←oo,he.len];exact(pJ hs).1
  have h1:A.in1.handled=none:=by simpa using hh
  obtain⟨⟨oc,odi,oda,Hm⟩,ho,hc,hd⟩:=hit;cases hc;cases hd;refine bA (wpAny_attempt (wpAny_callSpecial?_slot ty m6 (x5 m6 ty Bs (bA (bj (bA (wpAny_fieldsOf ho rfl (bA (wpAny_setEntries_of hS rfl fit ?_)))))) (Ef _))));refine ti (fun c=>absurd c (by simp)) fun _=>bA (Pm hs he hS hi hsl fun qB q=>?_);simp only[Int.toNat_natCast] at q⊢;cases hx:(ord w a es ep)[i]? with
  |some e=>have up:=Ba (Obj.mapFields fun x=>x.setIfInBounds 0 (rawInt (qB:Int))) ho rfl;refine bA (wpAny_setField (i:=0) (x:=rawInt (qB:Int)) ho rfl (by simp) ?_);refine bA (wpAny_setField (i:=1) (x:=rawInt ((i:Int)+1)) up rfl (by simp) (bj ⟨_,rfl,bj (hQ e qB _ hx q ⟨_,Ba _ up rfl,rfl,?_⟩ ((wc ..).trans (wc ..)).extBut)⟩));simp[Obj.mapFields,rawInt]
  |none =>
   refine bA (wpAny_setField (i:=2) (x:=.none) ho rfl (by simp) ?_)
   wp_walk
   unfold raiseNew;refine bA (wpAny_handled ?_);rw[h1];refine bA (bj (wpAny_throw ?_));refine bA (wpAny_isInstance ⟨_,il _ rfl,rfl⟩ isSubtype_stop (bj (hN _ hx fun b o n e=>?_)));exact kz _ (kz _ ((wc ..).extBut b o n e))
theorem Gy.at{it a slot i n ep}(x:Gy h it a slot i n ep)(e:∀o,h.get? it=some o→h'.get? it=some o):Gy h' it a slot i n ep:=let ⟨o,ho,r⟩:=x;⟨o,e _ ho,r⟩
def StS(w:World)(it a:Addr)(S:List Nat)(es:Array (Int×Value))(ep:Nat)(i:Nat)(h:Heap):Prop:=(∃slot,(qP w=false→slot=at' S i)∧Gy h it a slot i es.size ep)∧X5 h a (!qP w) S es ep
theorem Mt(hh:A.handled=none)(it a:Addr)(iJ:a≠it)(hs:S∈subs)(he:Ent es.toList S) :
    Walks prog w A it [it,a] [it] es.size (fun i v=>∃e,(ord w a es ep)[i]?=some e∧v=e.2) (StS w it a S es ep) where
  sub:=fun b hb=>by simp at hb;simp[hb]
  frame:=fun i h h' ⟨⟨slot,h1,h2⟩,h3⟩ hk=>⟨⟨slot,h1,h2.at fun o e=>hk it (by simp) o e⟩,hk a (by simp) _ h3⟩
  item:=fun i s Q E hi ⟨⟨slot,h1,h2⟩,h3⟩ hQ=>by
    refine Kr hh hs he h3 (by omega) h1 h2 (fun e qB h' hx hsl L0 hx'=>?_) (fun h' hx _=>?_)
    ·exact hQ e.2 h' s.toks ⟨e,hx,rfl⟩ ⟨⟨qB,hsl,L0⟩,hx' a _ iJ h3⟩ fun b o hb e=>hx' b o (fun h=>hb (by simp[h])) e
    ·rw[Array.getElem?_eq_none_iff,zN] at hx;omega
  done:=fun s Q E ⟨⟨slot,h1,h2⟩,h3⟩ hQ=>by
    refine Kr hh hs he h3 (cu _) h1 h2 (fun e qB h' hx hsl L0 hx'=>?_) (fun h' hx he'=>hQ h' s.toks fun b o hb e=>he' b o (fun h=>hb (by simp[h])) e);have:(ord w a es ep)[es.size]?=none:=by rw[Array.getElem?_eq_none_iff,zN];exact cu _
    rw[this] at hx;cases hx
  self:=fun i s Q E ⟨⟨slot,h1,hit⟩,h3⟩ h=>by refine wpAny_pyIter_slot hit.typeIs vb (x5 vb hit.typeIs Bt ?_ (Eg _));show wpAny _ _ (ret (.ref it)) _ _ s;exact bj ⟨_,rfl,"set_iterator",_,hit.typeIs,m6.lookup,h⟩
theorem Pn(hs:S∈subs)(he:Ent es.toList S)(hS:X5 s.heap a (!qP w) S es ep)(hQ:Q (.ref s.heap.objs.size) { s with heap:=s.heap.push { cls:=.type "set_iterator",data:=.fields #[.int 0 0,.int 0 0,.ref a,.int es.size 0,.int ep 0] } }):wpAny (model prog w) A (pyIter (.ref a)) Q E s:=by
  have hT:s.TypeIs (.ref a) "set":=⟨_,hS,rfl⟩
  have hlen:es.size=S.length:=by rw[←oo];exact he.len
  have Rv:(tb (!qP w) S).fits es.size=true:=by rw[hlen];exact(pJ hs).1
  refine wpAny_pyIter_slot hT PySem.F.slot_set_iter (x5 PySem.F.slot_set_iter hT zL ?_ (PySem.F.args_set_iter_1 _));unfold Builtin.«frozenset.__iter__»;refine bA (bj ?_);refine bA ?_;unfold Builtin.Frozenset.sizeOf;refine bA (wpAny_setEntries_of hS rfl Rv (bj ?_));refine bA ?_;refine bA (wpAny_setState_of hS rfl Rv ?_);dsimp only;unfold setsByText;refine bA (bA (wpAny_askSetting (bj ?_)));refine bj ?_;refine ti (fun uN=>absurd uN (by show ¬ ((_&&(false&&_))=true);rw[Bool.false_and,Bool.and_false];exact lK)) (fun _=>?_);refine bA (bj ?_);refine bA (wpAny_setEpoch_of hS rfl Rv ?_);refine bA (wpAny_newObj_type (bj ⟨_,rfl,"set_iterator",_,⟨_,il _ rfl,rfl⟩,m6.lookup,?_⟩));simpa[rawInt] using hQ
end
end NS
namespace NS
open PySem PySem.Spec PySem.Calls PySem.W
open PyProof.Rows hiding St pairAt
def ck7:Bool:=subs.all fun S=>S==(List.range 6).filter S.contains
theorem Pp:ck7=true:=by decide +kernel
theorem Ik(h:S∈subs):S=(List.range 6).filter S.contains:=eq_of_beq (iH.mp Pp S h)
theorem Tb:j∈ins S k↔j=k∨j∈S:=by
  unfold ins;simp only[mX,jw,gw,Bb];constructor
  · rintro(h|h|h)
    ·exact .inr h.1
    ·exact .inl h
    ·exact .inr h.1
  · rintro(h|h)
    ·exact .inr (.inl h)
    · rcases Nat.lt_trichotomy j k with q|q|q
      ·exact .inl ⟨h,q⟩
      ·exact .inr (.inl q)
      ·exact .inr (.inr ⟨h,q⟩)
theorem Ks{val:Nat→Nat}{j:Nat}:∀{n:Nat},j∈Pk val n↔∃i,i<n∧val i=j
  |0=>by simp[Pk]
  |n+1=>by
   have ih:=Ks (val:=val) (j:=j) (n:=n);unfold Pk;split
   · rename_i h;rw[ih];constructor
     ·rintro⟨i,h1,h2⟩;exact⟨i,by omega,h2⟩
     · rintro⟨i,h1,h2⟩;by_cases e:i=n
       ·subst e;have:=yJ.mp h;rw[h2] at this;exact ih.mp this
       ·exact⟨i,by omega,h2⟩
   · rw[Tb,ih];constructor
     · rintro(h|⟨i,h1,h2⟩)
       ·exact⟨n,by omega,h.symm⟩
       ·exact⟨i,by omega,h2⟩
     · rintro⟨i,h1,h2⟩;by_cases e:i=n
       ·subst e;exact .inl h2.symm
       ·exact .inr ⟨i,by omega,h2⟩
def nameSet(ns:aO):List Nat:=(List.range 6).filter fun k=>ns.contains (k:Int)
theorem WY(hs:Pk (fun i=>(ns.getD i 0).toNat) ns.length∈subs)(h0:∀n∈ns,0≤n∧n<6):Pk (fun i=>(ns.getD i 0).toNat) ns.length=nameSet ns:=by
  rw[Ik hs];unfold nameSet;refine List.filter_congr fun k hk=>?_;rw[Be,yJ,yJ,Ks];constructor
  · rintro⟨i,h1,h2⟩;rw[nD,mV h1] at h2;have hm:=List.getElem_mem h1;have:=h0 _ hm;have e:ns[i]=(k:Int):=by simp at h2;omega
    rw[←e];exact hm
  ·intro hm;obtain⟨i,h1,h2⟩:=List.getElem_of_mem hm;refine⟨i,h1,?_⟩;rw[nD,mV h1,h2];simp
def ck8:Bool:=subs.all fun S=>decide ((S.map fun(i:Nat)=>(i:Int)).Pairwise (·≤·))
theorem Pq:ck8=true:=by decide +kernel
section
variable {prog:Program} {w:World} {A:Around} {E:lr} {s:Shared} {a:Addr} {S:List Nat} {es:Array (Int×Value)} {ep:Nat}
theorem Pr{Q:Bool→Shared→Prop}(hT:s.TypeIs (.ref a) "set")(h:Q false s):wpAny (model prog w) A (Builtin.List.listLengthHint (.ref a)) Q E s:=by
  have sp:splitId "set.__len__"=some ("set","__len__"):=by decide +kernel
  have sub:isSubtype (.type "set") (.type "set")=pure true:=by rw[isSubtype_type];kernel_rfl
  refine bA (wpAny_specialOf hT PySem.F.slot_set_len.lookup ?_);dsimp only;rw[sp];exact bA (wpAny_isInstance (b:=true) hT sub (ti (fun c=>nomatch c) fun _=>ti (fun _=>bA (wpAny_typeOf hT (bj h))) fun c=>absurd (by decide +kernel) c))
theorem Tc(hs:S∈subs)(he:Ent es.toList S):KdlSrc prog w "set" a a es.size (fun i v=>∃e,(ord w a es ep)[i]?=some e∧v=e.2) (fun h=>X5 h a (!qP w) S es ep) where
  type:=fun _ hm=>⟨_,hm,rfl⟩
  there:=fun _ hm=>⟨dg hm,dg hm⟩
  keep:=fun _ _ hm hk=>hk a (.inl rfl) _ hm
  notList:=by decide
  notTuple:=by decide
  hint:=fun _ _ _ _ hm hq=>Pr ⟨_,hm,rfl⟩ hq
  iter:=fun _ s hh hm=>⟨_,_,(fun _ _ hq=>Pn hs he hm hq),Mt hh _ a (fT (dg hm)) hs he,⟨⟨0,fun _=>rfl,_,il _ rfl,rfl,rfl⟩,kz _ hm⟩⟩
theorem Mu{l':List (Int×Value)}(hp:l'.Perm l)(he:Ent l S):∃ns:aO,IntsAre (l'.map (·.2)) ns∧ns.Perm (S.map fun(i:Nat)=>(i:Int)):=by
  have key:∀(q:List (Int×Value)),(∀e∈q,∃t:Tok,e.2=.int e.1 t)→IntsAre (q.map (·.2)) (q.map (·.1)):=by
    intro q;induction q with
    |nil=>intro _;exact .nil
    |cons x r ih=>intro h;obtain⟨t,e⟩:=h x de;rw[bY,bY,e];exact .cons _ t (ih fun e he=>h e (lJ _ he))
  refine⟨l'.map (·.1),key l' fun e hm=>?_,?_⟩
  ·obtain⟨k,t,_,rfl⟩:=he.mem e (hp.mem_iff.mp hm);exact⟨t,rfl⟩
  ·rw[←he.fst];exact hp.map _
theorem Il(hh:A.handled=none)(hs:S∈subs)(he:Ent es.toList S)(hS:X5 s.heap a (!qP w) S es ep)(h:∀(D:Addr) (h':Heap) (tk:Nat) (out:Array Value) (e:Nat),a<D→(∀b o,s.heap.get? b=some o→h'.get? b=some o)→h'.get? D=some (seqObj "list" out e)→IntsAre out.toList (S.map fun(i:Nat)=>(i:Int))→Q (.ref D) { s with heap:=h',toks:=tk }):wpAny (model prog w) A (call (.builtin "sorted") [.ref a]) Q E s:=by
  have hlen:es.size=S.length:=by rw[←oo];exact he.len
  have h6:=(pJ (led:=true) hs).2.1;refine call_function_entry kind_sorted plain_sorted entry_sorted (args_sorted1 _) ?_;unfold Builtin.«sorted»;refine bA (m:=checkCount "sorted" 1 1 _) (bj ?_);refine bA (kdu_collect (A:=A.in1) (Tc hs he) hh hS (by rw[hlen,kD];omega) fun h' tk acc hk vd=>?_);have hl:acc.toList.length=es.size:=by rw[oo];exact vd.1
  have hv:acc.toList=(ord w a es ep).toList.map (·.2):=by
    refine List.ext_getElem? fun j=>?_;rw[qG,Array.getElem?_toList,Array.getElem?_toList];cases hj:acc[j]? with
    |some v=>obtain⟨e,h1,h2⟩:=vd.2 j v hj;rw[h1,h2];rfl
    |none=>rw[Array.getElem?_eq_none_iff] at hj;rw[Array.getElem?_eq_none (by rw[zN,←vd.1];exact hj)];rfl
  obtain⟨ns,hI,hp⟩:=Mu (Gx w a es ep) he;rw[←hv] at hI;refine bA (wpAny_newList ?_ (by rw[hl,hlen,kD];omega));have Ny:(h'.push (seqObj "list" acc.toList.toArray 0)).get? h'.objs.size=some (seqObj "list" acc.toList.toArray 0):=il _ rfl;show wpAny _ _ _ _ _ { s with heap:=h'.push (seqObj "list" acc.toList.toArray 0),toks:=tk };refine bA (wm (x5 slot_list_sort ⟨_,Ny,rfl⟩ entry_list_sort (list_sort_tree (s:={ s with heap:=h'.push (seqObj "list" acc.toList.toArray 0),toks:=tk }) Ny hI (by rw[hl,hlen];omega) fun out RW a1 a2 a3=>⟨_,rfl,?_⟩) (args_list_sort _)));have e0:RW=S.map fun(i:Nat)=>(i:Int):=List.Perm.eq_of_pairwise (le:=fun a b:Int=>a≤b) (fun a b _ _ h1 h2=>by omega) a3 (xY (iH.mp Pq S hs)) (a2.trans hp);rw[e0] at a1;obtain⟨e,Rw⟩:=sortedHeap_at (out:=out) Ny;refine bj ⟨_,rfl,h h'.objs.size _ tk out e ?_ (fun b o q=>?_) Rw a1⟩
  ·exact dg (hk _ _ hS)
  ·have hb:=dg (hk _ _ q);rw[sortedHeap_old (fT hb) (by rw[size_push'];exact Nat.lt_succ_of_lt hb)];exact kz _ (hk _ _ q)
end
end NS
namespace DL
open PySem PySem.Spec L2 NS
open PyProof.Rows hiding St pairAt
section
variable {X:Cx} {z:Zc} {e a b:Expr} {f fa fb fk fv:EF} {fl fs:LF} {pos p p' pos':Pos} {g:SF} {st:Stmt} {es:List Expr} {ms:List Bool} {te:TE}
def tSS(K:PySem.W.Frag)(te:TE):TE:=fun σ H Q=>te σ H fun x H1=>∃a ns,x=.ref a∧m4 K H1 a (ns.map V.int)∧(∀n∈ns,0≤n∧n<6)∧∀l,H1 l=none→Q (.ref l) (upd H1 l (.lst ((nameSet ns).map fun(k:Nat)=>V.int (k:Int))))
theorem Gz(h:IntsAre vs ns):∀(i:Nat) (v:Value),vs[i]?=some v→ns.getD i 0∈ns∧∃t,v=.int (ns.getD i 0) t:=by
  induction h with
  |nil=>intro i v q;simp at q
  |cons n t r ih =>
   intro i v q;cases i with
   |zero=>simp at q;subst q;exact⟨by simp,t,by simp⟩
   |succ i=>obtain⟨h1,t',h2⟩:=ih i v (by simpa using q);exact⟨by simpa using Or.inr (by simpa using h1),t',by simpa using h2⟩
theorem Im(hc:X.calm=true)(Mv:Gl X "sorted")(D0:X.mg "sorted"=none)(hg:Gl X "set")(hm:X.mg "set"=none)(he:PE X e te)(hs:starEach [e] X.env=(false,eval e X.env)::starEach [] X.env:=by rfl)(Bi:starEach [Expr.Call (.Name "set" p') [e] [] pos'] X.env=(false,eval (.Call (.Name "set" p') [e] [] pos') X.env)::starEach [] X.env:=by rfl):PE X (.Call (.Name "sorted" p) [.Call (.Name "set" p') [e] [] pos'] [] pos) (tSS X.K te):=by
  intro pins s σ H Q I h;refine wd (jX I Mv D0 nq ?_ (by decide) (by decide));refine PyProof.Rows.callWith_builtin1 ?_ Bi rfl;rw[Bi];show wpAny _ _ (spliced ((false,eval (.Call (.Name "set" p') [e] [] pos') X.env)::backTo pos (starEach [] X.env))) _ _ s;refine Di ?_;refine wd (jX I hg hm Wm ?_ (by decide) (by decide));refine Ft ?_ hs rfl;rw[hs];show wpAny _ _ (spliced ((false,eval e X.env)::backTo pos' (starEach [] X.env))) _ _ s;refine Di (gT (he pins s σ H _ I h) fun u s1 ⟨x,H1,I1,r1,q1⟩=>?_);refine Calls.spliced_nil ?_;obtain⟨a,ns,rfl,hq,h0,hk⟩:=q1;cases r1;obtain⟨its,rv,hl,_⟩:=I1.list hq;have hi:=intsAre_of rv;have l1:ns.length=its.length:=by have:=rv.length;simpa using this
  have hh:X.A.handled=none:=I1.ok.hd hc;refine Ij (val:=fun i=>(ns.getD i 0).toNat) hh hl.isList (fun i v hv=>?_) fun h' tk hS ZD=>?_
  ·obtain⟨h1,t,rfl⟩:=Gz hi i v (by simpa using hv);have:=h0 _ h1;exact⟨by omega,t,by rw[show((ns.getD i 0).toNat:Int)=ns.getD i 0 from by omega]⟩
  refine Calls.spliced_nil ?_;rw[show its.toArray.size=ns.length from by rw[kC,l1]] at hS;obtain⟨Td,es,ep,Te,acv⟩:=hS;refine Il hh Td acv Te fun D h2 tk2 out e hD hk2 Rw hio=>?_;rw[WY Td h0] at hio;have tD:∀b o,s1.heap.get? b=some o→h2.get? b=some o:=fun b o q=>hk2 b o (ZD b o (dg q) q);refine⟨.ref D,_,I1.laid (a:=D) (o:=.lst ((nameSet ns).map fun(k:Nat)=>V.int (k:Int))) (t':=tk2) tD (Nat.le_of_lt hD) ⟨?_,out.toList,e,?_,by simpa using Rw⟩,rfl,hk _ (I1.cY.fresh (Nat.le_of_lt hD))⟩
  ·rw[g9];refine pU (List.length_filter_le _ _) ?_;rw[List.length_range,kD];omega
  ·have:=sE hio;rw[e8] at this;exact this
def zO(f:EF):LF:=fun η=>(f η).bind fun d=>match d with
  |.lst ds=>(kF ds).bind fun ns=>if (ns.all fun n=>decide (0≤n)&&decide (n<6))=true then some ((nameSet ns).map fun(k:Nat)=>D.int (k:Int)) else none
  |_=>none
theorem Pt(hc:X.calm=true)(Mv:Gl X "sorted")(D0:X.mg "sorted"=none)(hg:Gl X "set")(hm:X.mg "set"=none)(ha:DB X z e f)(hs:starEach [e] X.env=(false,eval e X.env)::starEach [] X.env:=by rfl)(Bi:starEach [Expr.Call (.Name "set" p') [e] [] pos'] X.env=(false,eval (.Call (.Name "set" p') [e] [] pos') X.env)::starEach [] X.env:=by rfl):DO X z (.Call (.Name "sorted" p) [.Call (.Name "set" p') [e] [] pos'] [] pos) (zO f):=PE.weak (Im hc Mv D0 hg hm ha hs Bi) fun σ H Q ⟨η,F,d,r,e,k⟩=>by
  unfold zO at e;obtain⟨d',h1,e⟩:=eJ.mp e;cases d' with
  |lst ds =>
   obtain⟨ns,h3,e⟩:=eJ.mp e;by_cases hl:(ns.all fun n=>decide (0≤n)&&decide (n<6))=true
   · rw[az hl] at e;cases e;refine⟨η,F,_,r,h1,fun v H1 F1 g1 q1=>?_⟩;obtain⟨a,ws,rfl,h4,h5⟩:=aW.mp q1;rw[j6 h3] at h5;rw[iq h5] at h4;refine⟨a,ns,rfl,h4,fun n hn=>?_,fun l Gg=>?_⟩
     ·have:=iH.mp hl n hn;simpa using this
     · have hz:((nameSet ns).map fun(k:Nat)=>V.int (k:Int)).length≤sizeLine:=by
         rw[g9];refine pU (List.length_filter_le _ _) ?_;rw[List.length_range,kD];omega
       have g4:=bB.own g1.base Gg (.lst ((nameSet ns).map fun(k:Nat)=>V.int (k:Int))) hz rfl;refine k l _ _ F1 (g1.trans g4) (g1.ent.free Gg) (g1.base.sub.free Gg) aL ?_;have:=fW (K:=X.K) (F:=F1) ((nameSet ns).map fun(k:Nat)=>(k:Int));rw[e8,e8] at this;exact this
   ·rw[bh hl] at e;cases e
  |_=>cases e
end
end DL
namespace Sj
open PySem PySem.W PyProof.Rows PySem.Calls
def Kt:Bool→Keyed→Array Keyed→Nat→Nat→Nat→StateT SortSt Sem (Option Nat):=sortPriv% PySem.Builtin.gallop
def Pu:Array Keyed→Array Keyed→StateT SortSt Sem (Array Keyed):=sortPriv% PySem.Builtin.mergeLo
def UU:List Nat:=[0,1,2,7,3,8,12,22,4,9,13,23,16,26,32,42,5,10,14,24,17,27,33,43,19,29,35,45,38,48,52,57,6,11,15,25,18,28,34,44,20,30,36,46,39,49,53,58,21,31,37,47,40,50,54,59,41,51,55,60,56,61,62,63]
def j9(i j:Nat):Bool:=Nat.blt (UU.getD i 0) (UU.getD j 0)
def GA:Array Nat:=(List.range 64).toArray
def Io:Array Nat:=#[0,1,2,4,8,16,3,5,9,17,6,10,18,12,20,24,7,11,19,13,21,25,14,22,26,28,15,23,27,29,30,31,32,33,34,35,36,37,38,39,40,41,42,43,44,45,46,47,48,49,50,51,52,53,54,55,56,57,58,59,60,61,62,63]
def gB:Array Nat:=#[0,1,2,4,8,16,3,5,9,17,6,10,18,12,20,24,7,11,19,13,21,25,14,22,26,28,15,23,27,29,30,31,32,33,34,36,40,48,35,37,41,49,38,42,50,44,52,56,39,43,51,45,53,57,46,54,58,60,47,55,59,61,62,63]
def Bu:Array Nat:=#[0,1,2,4,8,16,32,3,5,9,17,33,6,10,18,34,12,20,36,24,40,48,7,11,19,35,13,21,37,25,41,49,14,22,38,26,42,50,28,44,52,56,15,23,39,27,43,51,29,45,53,57,30,46,54,58,60,31,47,55,59,61,62,63]
def kB(κ:SortKind)(it:Array Keyed)(p:Array Nat)(pend:Array (Nat×Nat×Nat))(g:Nat):SortSt:=SortSt.mk' κ (p.map (kas_item it)) pend g none
def place(p:Array Nat)(lo k:Nat):Nat→Nat→Nat→Nat
  |0,l,_=>l
  |f+1,l,r=>if l≥r then l else if j9 (p.getD (lo+k) 0) (p.getD (lo+(l+r) / 2) 0)=true then place p lo k f l ((l+r) / 2) else place p lo k f ((l+r) / 2+1) r
theorem zP(p:Array Nat)(lo k f l r:Nat):place p lo k (f+1) l r=if l≥r then l else if j9 (p.getD (lo+k) 0) (p.getD (lo+(l+r) / 2) 0)=true then place p lo k f l ((l+r) / 2) else place p lo k f ((l+r) / 2+1) r:=rfl
def ui(lo:Nat):Nat→Array Nat→Nat→Array Nat
  |0,p,_=>p
  |f+1,p,k=>ui lo f (bubble p (lo+k) (lo+k-(lo+place p lo k k 0 k))) (k+1)
section
variable {prog:Program} {w:World} {A:Around} {E:lr} {κ:SortKind} {it:Array Keyed} {s:Shared} {σ:Type}
def yg(prog:Program)(w:World)(A:Around)(κ:SortKind)(it:Array Keyed)(s:Shared):Prop:=∀i j (C:Bool→Shared→Prop),i<64→j<64→C (j9 i j) s→kas_cmp prog w A κ it i j C s
theorem item_at(hi:i<p.size):(p.map (kas_item it))[i]?=some (kas_item it (p.getD i 0)):=by
  have e:p.getD i 0=p[i]:=by simp[Array.getD,hi]
  rw[e];simp[hi]
theorem gC{st:SortSt}{Q:Keyed→SortSt→Shared→Prop}(hi:i<p.size)(h:Q (kas_item it (p.getD i 0)) st s):kasC (model prog w) A E (elem' (p.map (kas_item it)) i) Q st s:=by rw[elem'_eq,item_at hi];exact kasC_pure h
theorem Ip{x y:Nat}{g:Nat}{Q:Option Bool→SortSt→Shared→Prop}(S:yg prog w A κ it s)(hx:x<64)(hy:y<64)(h:Q (some (j9 x y)) (kB κ it p pend g) s):kasC (model prog w) A E (lt' (kas_item it x) (kas_item it y)) Q (kB κ it p pend g) s:=by rw[lt'_eq];refine kasC_bind (kasC_get ?_);refine kasC_bind (kasC_lift (wpAny_attempt (pV (S x y (fun b s'=>b=j9 x y∧s'=s) hx hy ⟨rfl,rfl⟩) (fun c s' hc=>?_) fun _ _ hF=>hF.elim)));obtain⟨rfl,rfl⟩:=hc;exact kasC_pure h
theorem Pw{g:Nat}{Q:Option Bool→SortSt→Shared→Prop}(S:yg prog w A κ it s)(P:bp 64 p)(hi:i<64)(hj:j<64)(h:Q (some (j9 (p.getD i 0) (p.getD j 0))) (kB κ it p pend g) s):kasC (model prog w) A E (ltAt' i j) Q (kB κ it p pend g) s:=by rw[ltAt'_eq];refine kasC_bind (kasC_get ?_);refine kasC_bind (gC (by rw[P.size];exact hi) ?_);refine kasC_bind (gC (by rw[P.size];exact hj) ?_);exact Ip S (P.lt (by decide) _) (P.lt (by decide) _) h
theorem WZ{l:Nat}{g:Nat}{Q:Unit→SortSt→Shared→Prop}(h:Q () (kB κ it (bubble p k (k-l)) pend g) s):kasC (model prog w) A E (moveDown' k l) Q (kB κ it p pend g) s:=by rw[moveDown'_eq];refine kasC_modify ?_;have e1:bubble (p.map (kas_item it)) k (k-l)=(bubble p k (k-l)).map (kas_item it):=kas_swaps_map (kas_item it) (fun i=>k-i) (fun i=>k-i-1) _ p;show Q () (SortSt.mk' κ (bubble (p.map (kas_item it)) k (k-l)) pend g none) s;rw[e1];exact h
theorem dJ{β:Type}{a m:Nat}{b:β}{f:Nat→β→StateT σ Sem (ForInStep β)}{Q:β→σ→Shared→Prop}{st:σ}(e:n=m+1)(h:kasC (model prog w) A E (f a b) (fun r st' s'=>match r with|.done b'=>Q b' st' s'|.yield b'=>kasC (model prog w) A E (forIn (List.range' (a+1) m) b' f) Q st' s') st s):kasC (model prog w) A E (forIn (List.range' a n) b f) Q st s:=by
  subst e;rw[List.range'_succ];exact kasC_cons h
theorem UW{β:Type}{a:Nat}{b:β}{f:Nat→β→StateT σ Sem (ForInStep β)}{Q:β→σ→Shared→Prop}{st:σ}(e:n=0)(h:Q b st s):kasC (model prog w) A E (forIn (List.range' a n) b f) Q st s:=by subst e;exact kasC_nil h
theorem Eh{p:Array Nat}{pend:Array (Nat×Nat×Nat)}{g lo k:Nat}{body:Nat→Option Bool×Nat×Nat→StateT SortSt Sem (ForInStep (Option Bool×Nat×Nat))}(h1:∀x l r (R:ForInStep (Option Bool×Nat×Nat)→SortSt→Shared→Prop),l≥r→R (.done (none,l,r)) (kB κ it p pend g) s→kasC (model prog w) A E (body x (none,l,r)) R (kB κ it p pend g) s)(h2:∀x l r (R:ForInStep (Option Bool×Nat×Nat)→SortSt→Shared→Prop),l<r→r≤k→R (.yield (if j9 (p.getD (lo+k) 0) (p.getD (lo+(l+r) / 2) 0)=true then(none,l,(l+r) / 2) else(none,(l+r) / 2+1,r))) (kB κ it p pend g) s→kasC (model prog w) A E (body x (none,l,r)) R (kB κ it p pend g) s){R:Option Bool×Nat×Nat→SortSt→Shared→Prop}:∀(f a l r:Nat),r≤k→(∀r',R (none,place p lo k f l r,r') (kB κ it p pend g) s)→kasC (model prog w) A E (forIn (List.range' a f) (none,l,r) body) R (kB κ it p pend g) s
  |0,a,l,r,hr,h=>UW rfl (h r)
  |f+1,a,l,r,hr,h=>by
   refine dJ rfl ?_;by_cases q:l≥r
   · have e:place p lo k (f+1) l r=l:=by unfold place;rw[az q]
     rw[e] at h;exact h1 a l r _ q (h r)
   · refine h2 a l r _ (by omega) hr ?_;by_cases c:j9 (p.getD (lo+k) 0) (p.getD (lo+(l+r) / 2) 0)=true
     · rw[az c];have e:place p lo k (f+1) l r=place p lo k f l ((l+r) / 2):=by rw[zP,bh q,az c]
       rw[e] at h;exact Eh h1 h2 f (a+1) l ((l+r) / 2) (by omega) h
     · rw[bh c];have e:place p lo k (f+1) l r=place p lo k f ((l+r) / 2+1) r:=by rw[zP,bh q,bh c]
       rw[e] at h;exact Eh h1 h2 f (a+1) ((l+r) / 2+1) r hr h
theorem GB{pend:Array (Nat×Nat×Nat)}{g lo n:Nat}{body:Nat→Option Bool×Unit→StateT SortSt Sem (ForInStep (Option Bool×Unit))}(hb:∀(k:Nat) (p:Array Nat) (R:ForInStep (Option Bool×Unit)→SortSt→Shared→Prop),k<n→bp 64 p→R (.yield (none,())) (kB κ it (bubble p (lo+k) (lo+k-(lo+place p lo k k 0 k))) pend g) s→kasC (model prog w) A E (body k (none,())) R (kB κ it p pend g) s){R:Option Bool×Unit→SortSt→Shared→Prop}:∀(f k:Nat) (p:Array Nat),k+f≤n→bp 64 p→R (none,()) (kB κ it (ui lo f p k) pend g) s→kasC (model prog w) A E (forIn (List.range' k f) (none,()) body) R (kB κ it p pend g) s
  |0,k,p,_,_,h=>UW rfl h
  |f+1,k,p,hk,P,h=>by refine dJ rfl (hb k p _ (by omega) P ?_);exact GB hb f (k+1) _ (by omega) P.bub h
theorem UX{g lo ok:Nat}{Q:Bool→SortSt→Shared→Prop}(S:yg prog w A κ it s)(P:bp 64 p)(hn:lo+n≤64)(cY:max ok 1≤n)(h:Q true (kB κ it (ui lo (n-max ok 1) p (max ok 1)) pend g) s):kasC (model prog w) A E (binarySort' lo n ok) Q (kB κ it p pend g) s:=by
  rw[binarySort'_eq];refine kasC_bind (kasC_range ?_);refine GB (lo:=lo) (n:=n) (fun k p R hk P hR=>?_) (n-max ok 1) (max ok 1) p (by omega) P ?_
  · refine kasC_bind (kasC_range ?_);refine Eh (lo:=lo) (k:=k) (fun x l r R' hlr X6=>?_) (fun x l r R' hlr hr X6=>?_) (k-0) 0 0 k (cu _) (fun r'=>?_)
    ·dsimp only;rw[az hlr];exact kasC_pure X6
    · dsimp only;rw[bh (by omega)];refine kasC_bind (Pw S P (by omega) (by omega) ?_);dsimp only;by_cases c:j9 (p.getD (lo+k) 0) (p.getD (lo+(l+r) / 2) 0)=true
      ·rw[az c] at X6⊢;exact kasC_pure X6
      ·rw[bh c] at X6⊢;exact kasC_pure X6
    ·dsimp only;refine kasC_bind (WZ (kasC_pure ?_));rw[Nat.sub_zero];exact hR
  ·exact kasC_pure h
theorem rG{b:Bool}{g:Nat}{Q:Option Bool→SortSt→Shared→Prop}(S:yg prog w A κ it s)(P:bp 64 p)(hi:i<64)(hj:j<64)(e:j9 (p.getD i 0) (p.getD j 0)=b)(h:Q (some b) (kB κ it p pend g) s):kasC (model prog w) A E (ltAt' i j) Q (kB κ it p pend g) s:=by subst e;exact Pw S P hi hj h
theorem acx:ui 0 28 GA 4=Io:=by decide +kernel
theorem acy:ui 32 28 Io 4=gB:=by decide +kernel
theorem UY:bp 64 GA:=⟨Array.Perm.refl _⟩
theorem UZ:bp 64 Io:=⟨De.mpr (by decide +kernel)⟩
theorem qC:bp 64 gB:=⟨De.mpr (by decide +kernel)⟩
theorem ZE:bp 64 Bu:=⟨De.mpr (by decide +kernel)⟩
theorem Px{lo:Nat}{g:Nat}{Q:Option Nat→SortSt→Shared→Prop}(S:yg prog w A κ it s)(P:bp 64 p)(hn:lo+(n+5)≤64)(e1:j9 (p.getD (lo+1) 0) (p.getD (lo+1-1) 0)=false)(e2:j9 (p.getD (lo+(1+1)) 0) (p.getD (lo+(1+1)-1) 0)=false)(e3:j9 (p.getD (lo+(1+1+1)) 0) (p.getD (lo+(1+1+1)-1) 0)=false)(e4:j9 (p.getD (lo+(1+1+1+1)) 0) (p.getD (lo+(1+1+1+1)-1) 0)=true)(e5:j9 (p.getD lo 0) (p.getD (lo+(1+1+1+1)-1) 0)=true)(h:Q (some 4) (kB κ it p pend g) s):kasC (model prog w) A E (countRun' lo (n+5)) Q (kB κ it p pend g) s:=by
  rw[countRun'_eq];refine kasC_bind (kasC_range ?_);refine dJ (m:=n+3) (by omega) (kasC_bind (rG S P (by omega) (by omega) e1 (kasC_pure ?_)));refine dJ (m:=n+2) (by omega) (kasC_bind (rG S P (by omega) (by omega) e2 (kasC_pure ?_)));refine dJ (m:=n+1) (by omega) (kasC_bind (rG S P (by omega) (by omega) e3 (kasC_pure ?_)));refine dJ (m:=n) (by omega) (kasC_bind (rG S P (by omega) (by omega) e4 (kasC_pure ?_)));dsimp only;rw[bh (by simp),az (by decide)];refine kasC_bind (rG S P (by omega) (by omega) e5 ?_);exact kasC_pure h
end
section
variable {prog:Program} {w:World} {A:Around} {E:lr} {κ:SortKind} {it:Array Keyed} {s:Shared} {σ:Type}
theorem Cm{b:Bool}{y:Nat}{g:Nat}{Q:Option Bool→SortSt→Shared→Prop}(S:yg prog w A κ it s)(P:bp 64 p)(hi:i<64)(hy:y<64)(e:j9 y (p.getD i 0)=b)(h:Q (some (!b)) (kB κ it p pend g) s):kasC (model prog w) A E (elem' (p.map (kas_item it)) i>>=fun x=>if false=true then lt' x (kas_item it y) else lt' (kas_item it y) x>>=fun r=>pure (Option.map (fun x=>!x) r)) Q (kB κ it p pend g) s:=by
  refine kasC_bind (gC (by rw[P.size];exact hi) ?_);rw[bh (by decide)];refine kasC_bind (Ip S hy (P.lt (by decide) _) (kasC_pure ?_));subst e;exact h
theorem Cp{b:Bool}{y:Nat}{g:Nat}{Q:Option Bool→SortSt→Shared→Prop}(S:yg prog w A κ it s)(P:bp 64 p)(hi:i<64)(hy:y<64)(e:j9 (p.getD i 0) y=b)(h:Q (some b) (kB κ it p pend g) s):kasC (model prog w) A E (elem' (p.map (kas_item it)) i>>=fun x=>if true=true then lt' x (kas_item it y) else lt' (kas_item it y) x>>=fun r=>pure (Option.map (fun x=>!x) r)) Q (kB κ it p pend g) s:=by
  refine kasC_bind (gC (by rw[P.size];exact hi) ?_);rw[az rfl];refine Ip S (P.lt (by decide) _) hy ?_;subst e;exact h
theorem W0{g:Nat}{Q:Option Nat→SortSt→Shared→Prop}(S:yg prog w A κ it s)(h:Q (some 6) (kB κ it gB pend g) s):kasC (model prog w) A E (Kt false (kas_item it (gB.getD 32 0)) (gB.map (kas_item it)) 0 32 0) Q (kB κ it gB pend g) s:=by refine kasC_bind (Cm (b:=false) S qC (by decide) (by decide) (by decide) ?_);dsimp only;rw[az (by decide)];refine kasC_bind (kasC_range (dJ (m:=31) rfl ?_));dsimp only;rw[bh (by decide)];refine kasC_bind (Cm (b:=false) S qC (by decide) (by decide) (by decide) ?_);dsimp only;rw[bh (by decide)];refine kasC_pure (dJ (m:=30) rfl ?_);dsimp only;rw[bh (by decide)];refine kasC_bind (Cm (b:=false) S qC (by decide) (by decide) (by decide) ?_);dsimp only;rw[bh (by decide)];refine kasC_pure (dJ (m:=29) rfl ?_);dsimp only;rw[bh (by decide)];refine kasC_bind (Cm (b:=true) S qC (by decide) (by decide) (by decide) ?_);dsimp only;rw[az (by decide)];refine kasC_pure ?_;dsimp only;refine kasC_bind (kasC_range (dJ (m:=31) rfl ?_));dsimp only;rw[bh (by decide)];refine kasC_bind (Cm (b:=false) S qC (by decide) (by decide) (by decide) ?_);dsimp only;rw[az (by decide)];refine kasC_pure (dJ (m:=30) rfl ?_);dsimp only;rw[bh (by decide)];refine kasC_bind (Cm (b:=true) S qC (by decide) (by decide) (by decide) ?_);dsimp only;rw[bh (by decide)];refine kasC_pure (dJ (m:=29) rfl ?_);dsimp only;rw[az (by decide)];refine kasC_pure ?_;dsimp only;exact kasC_pure h
theorem W2{g:Nat}{Q:Option Nat→SortSt→Shared→Prop}(S:yg prog w A κ it s)(h:Q (some 26) (kB κ it gB pend g) s):kasC (model prog w) A E (Kt true (kas_item it (gB.getD 31 0)) (gB.map (kas_item it)) 32 32 31) Q (kB κ it gB pend g) s:=by refine kasC_bind (Cp (b:=false) S qC (by decide) (by decide) (by decide) ?_);dsimp only;rw[bh (by decide)];refine kasC_bind (kasC_range (dJ (m:=31) rfl ?_));dsimp only;rw[bh (by decide)];refine kasC_bind (Cp (b:=false) S qC (by decide) (by decide) (by decide) ?_);dsimp only;rw[bh (by decide)];refine kasC_pure (dJ (m:=30) rfl ?_);dsimp only;rw[bh (by decide)];refine kasC_bind (Cp (b:=false) S qC (by decide) (by decide) (by decide) ?_);dsimp only;rw[bh (by decide)];refine kasC_pure (dJ (m:=29) rfl ?_);dsimp only;rw[bh (by decide)];refine kasC_bind (Cp (b:=true) S qC (by decide) (by decide) (by decide) ?_);dsimp only;rw[az (by decide)];refine kasC_pure ?_;dsimp only;refine kasC_bind (kasC_range (dJ (m:=31) rfl ?_));dsimp only;rw[bh (by decide)];refine kasC_bind (Cp (b:=false) S qC (by decide) (by decide) (by decide) ?_);dsimp only;rw[bh (by decide)];refine kasC_pure (dJ (m:=30) rfl ?_);dsimp only;rw[bh (by decide)];refine kasC_bind (Cp (b:=true) S qC (by decide) (by decide) (by decide) ?_);dsimp only;rw[az (by decide)];refine kasC_pure (dJ (m:=29) rfl ?_);dsimp only;rw[az (by decide)];refine kasC_pure ?_;dsimp only;exact kasC_pure h
end
def gL:Array Nat:=#[3,5,9,17,6,10,18,12,20,24,7,11,19,13,21,25,14,22,26,28,15,23,27,29,30,31]
def gd:Array Nat:=#[32,33,34,36,40,48,35,37,41,49,38,42,50,44,52,56,39,43,51,45,53,57,46,54,58,60]
theorem Py:gB.extract 6 32=gL:=by decide +kernel
theorem Pz:gB.extract 32 58=gd:=by decide +kernel
def joined:Nat→Array Nat→Nat→Nat→Nat→Nat→Option (Array Nat)
  |0,_,_,_,_,_=>none
  |f+1,o,ia,ib,ac,bc =>
   if j9 (gd.getD ib 0) (gL.getD ia 0)=true then(if ib+1=26 then some (o.push (gd.getD ib 0)++gL.extract ia 26++gd.extract (ib+1) 26) else if bc+1≥7 then none else joined f (o.push (gd.getD ib 0)) ia (ib+1) 0 (bc+1))
   else if ia+1+1=26 then some (o.push (gL.getD ia 0)++gd.extract ib 26++gL.extract (ia+1) 26) else if ac+1≥7 then none else joined f (o.push (gL.getD ia 0)) (ia+1) ib (ac+1) 0
def ny:Array Nat:=#[32,3,5,9,17,33,6,10,18,34,12,20,36,24,40,48,7,11,19,35,13,21,37,25,41,49,14,22,38,26,42,50,28,44,52,56,15,23,39,27,43,51,29,45,53,57,30,46,54,58,60,31]
theorem Mw:joined 52 #[32] 0 1 0 0=some ny:=by decide +kernel
section
variable {prog:Program} {w:World} {A:Around} {E:lr} {κ:SortKind} {it:Array Keyed} {s:Shared} {σ:Type}
theorem zQ{st:SortSt}{body:Nat→Option (Array Keyed)×Array Keyed×Nat×Nat×Nat×Nat→StateT SortSt Sem (ForInStep (Option (Array Keyed)×Array Keyed×Nat×Nat×Nat×Nat))}(b1:∀x (o:Array Nat) ia ib ac bc (R:ForInStep (Option (Array Keyed)×Array Keyed×Nat×Nat×Nat×Nat)→SortSt→Shared→Prop),ia+1<26→ib<26→j9 (gd.getD ib 0) (gL.getD ia 0)=true→ib+1=26→(∀r,R (.done (some ((o.push (gd.getD ib 0)++gL.extract ia 26++gd.extract (ib+1) 26).map (kas_item it)),r)) st s)→kasC (model prog w) A E (body x (none,o.map (kas_item it),ia,ib,ac,bc)) R st s)(b2:∀x (o:Array Nat) ia ib ac bc (R:ForInStep (Option (Array Keyed)×Array Keyed×Nat×Nat×Nat×Nat)→SortSt→Shared→Prop),ia+1<26→ib<26→j9 (gd.getD ib 0) (gL.getD ia 0)=true→¬ ib+1=26→¬ bc+1≥7→R (.yield (none,(o.push (gd.getD ib 0)).map (kas_item it),ia,ib+1,0,bc+1)) st s→kasC (model prog w) A E (body x (none,o.map (kas_item it),ia,ib,ac,bc)) R st s)(a1:∀x (o:Array Nat) ia ib ac bc (R:ForInStep (Option (Array Keyed)×Array Keyed×Nat×Nat×Nat×Nat)→SortSt→Shared→Prop),ia+1<26→ib<26→¬ j9 (gd.getD ib 0) (gL.getD ia 0)=true→ia+1+1=26→(∀r,R (.done (some ((o.push (gL.getD ia 0)++gd.extract ib 26++gL.extract (ia+1) 26).map (kas_item it)),r)) st s)→kasC (model prog w) A E (body x (none,o.map (kas_item it),ia,ib,ac,bc)) R st s)(a2:∀x (o:Array Nat) ia ib ac bc (R:ForInStep (Option (Array Keyed)×Array Keyed×Nat×Nat×Nat×Nat)→SortSt→Shared→Prop),ia+1<26→ib<26→¬ j9 (gd.getD ib 0) (gL.getD ia 0)=true→¬ ia+1+1=26→¬ ac+1≥7→R (.yield (none,(o.push (gL.getD ia 0)).map (kas_item it),ia+1,ib,ac+1,0)) st s→kasC (model prog w) A E (body x (none,o.map (kas_item it),ia,ib,ac,bc)) R st s){R:Option (Array Keyed)×Array Keyed×Nat×Nat×Nat×Nat→SortSt→Shared→Prop}{out:Array Nat}(hR:∀r,R (some (out.map (kas_item it)),r) st s):∀(f a:Nat) (o:Array Nat) (ia ib ac bc:Nat),ia+1<26→ib<26→joined f o ia ib ac bc=some out→kasC (model prog w) A E (forIn (List.range' a f) (none,o.map (kas_item it),ia,ib,ac,bc) body) R st s
  |0,_,_,_,_,_,_,_,_,h=>nomatch h
  |f+1,a,o,ia,ib,ac,bc,h1,h2,h=>by
   refine dJ rfl ?_;unfold joined at h;by_cases c:j9 (gd.getD ib 0) (gL.getD ia 0)=true
   · rw[az c] at h;by_cases e:ib+1=26
     ·rw[az e] at h;cases h;exact b1 a o ia ib ac bc _ h1 h2 c e hR
     · rw[bh e] at h;by_cases q:bc+1≥7
       ·rw[az q] at h;cases h
       ·rw[bh q] at h;exact b2 a o ia ib ac bc _ h1 h2 c e q (zQ b1 b2 a1 a2 hR f (a+1) _ ia (ib+1) 0 (bc+1) h1 (by omega) h)
   · rw[bh c] at h;by_cases e:ia+1+1=26
     ·rw[az e] at h;cases h;exact a1 a o ia ib ac bc _ h1 h2 c e hR
     · rw[bh e] at h;by_cases q:ac+1≥7
       ·rw[az q] at h;cases h
       ·rw[bh q] at h;exact a2 a o ia ib ac bc _ h1 h2 c e q (zQ b1 b2 a1 a2 hR f (a+1) _ (ia+1) ib (ac+1) 0 (by omega) h2 h)
theorem small(hp:∀x∈p.toList,x<64)(i:Nat):p.getD i 0<64:=by
  by_cases h:i<p.size
  · have e:p.getD i 0=p[i]:=by simp[Array.getD,h]
    rw[e];exact hp _ (by simp)
  · have e:p.getD i 0=0:=by simp[Array.getD,h]
    rw[e];decide
theorem sA(i:Nat):gL.getD i 0<64:=small (by decide) i
theorem sB(i:Nat):gd.getD i 0<64:=small (by decide) i
theorem szA:(gL.map (kas_item it)).size=26:=by rw[Array.size_map];rfl
theorem szB:(gd.map (kas_item it)).size=26:=by rw[Array.size_map];rfl
end
section
variable {prog:Program} {w:World} {A:Around} {E:lr} {κ:SortKind} {it:Array Keyed} {s:Shared} {σ:Type}
theorem PB{x:Nat}:(#[kas_item it x]:Array Keyed)=(#[x]:Array Nat).map (kas_item it):=by simp
theorem Mx{Q:Array Keyed→SortSt→Shared→Prop}(S:yg prog w A κ it s)(h:Q (ny.map (kas_item it)) (kB κ it gB pend 7) s):kasC (model prog w) A E (Pu (gL.map (kas_item it)) (gd.map (kas_item it))) Q (kB κ it gB pend 7) s:=by
  refine kasC_bind (kasC_lift (wpAny_rule ?_));dsimp only;rw[szA,szB];refine kasC_bind (gC (p:=gd) (by decide) ?_);rw[bh (by decide),bh (by decide)];refine kasC_bind (kasC_get ?_);refine kasC_bind (kasC_range (dJ (m:=51) rfl ?_));dsimp only;refine kasC_bind (kasC_range ?_);rw[PB];refine zQ (st:=kB κ it gB pend 7) (out:=ny) ?b1 ?b2 ?a1 ?a2 ?fin 52 0 #[gd.getD 0 0] 0 1 0 0 (by decide) (by decide) Mw
  case fin =>
    intro r;dsimp only;exact kasC_pure (kasC_pure h)
  case b1 =>
    intro x o ia ib ac bc R h1 h2 c e hR;dsimp only;refine kasC_bind (gC (p:=gd) h2 (kasC_bind (gC (p:=gL) (Nat.lt_of_succ_lt h1) (kasC_bind (Ip S (sB _) (sA _) ?_)))));dsimp only;rw[az c];refine kasC_bind (gC (p:=gd) h2 ?_);rw[az (beq_iff_eq.mpr e)];refine kasC_pure ?_;rw[←Array.map_push,←Array.map_extract,←Array.map_extract,←Array.map_append,←Array.map_append];exact hR _
  case b2 =>
    intro x o ia ib ac bc R h1 h2 c e q hR;dsimp only;refine kasC_bind (gC (p:=gd) h2 (kasC_bind (gC (p:=gL) (Nat.lt_of_succ_lt h1) (kasC_bind (Ip S (sB _) (sA _) ?_)))));dsimp only;rw[az c];refine kasC_bind (gC (p:=gd) h2 ?_);rw[bh (fun z=>e (beq_iff_eq.mp z)),bh (show ¬ bc+1≥gallopOf (kB κ it gB pend 7) from q)];refine kasC_pure ?_;rw[←Array.map_push];exact hR
  case a1 =>
    intro x o ia ib ac bc R h1 h2 c e hR;dsimp only;refine kasC_bind (gC (p:=gd) h2 (kasC_bind (gC (p:=gL) (Nat.lt_of_succ_lt h1) (kasC_bind (Ip S (sB _) (sA _) ?_)))));dsimp only;rw[bh c];refine kasC_bind (gC (p:=gL) (Nat.lt_of_succ_lt h1) ?_);rw[az (beq_iff_eq.mpr e)];refine kasC_pure ?_;rw[←Array.map_push,←Array.map_extract,←Array.map_extract,←Array.map_append,←Array.map_append];exact hR _
  case a2 =>
    intro x o ia ib ac bc R h1 h2 c e q hR;dsimp only;refine kasC_bind (gC (p:=gd) h2 (kasC_bind (gC (p:=gL) (Nat.lt_of_succ_lt h1) (kasC_bind (Ip S (sB _) (sA _) ?_)))));dsimp only;rw[bh c];refine kasC_bind (gC (p:=gL) (Nat.lt_of_succ_lt h1) ?_);rw[bh (fun z=>e (beq_iff_eq.mp z)),bh (show ¬ ac+1≥gallopOf (kB κ it gB pend 7) from q)];refine kasC_pure ?_;rw[←Array.map_push];exact hR
end
def putAt(k:Nat)(l:List Nat)(p:Array Nat):Array Nat:=l.zipIdx.foldl (fun a x=>a.setIfInBounds (k+x.2) x.1) p
theorem W3:putAt 6 ny.toList gB=Bu:=by decide +kernel
section
variable {prog:Program} {w:World} {A:Around} {E:lr} {κ:SortKind} {it:Array Keyed} {s:Shared} {σ:Type}
theorem Ku{α β:Type}(f:α→β)(k:Nat):∀(l:List α) (n:Nat) (p:Array α),((l.map f).zipIdx n).foldl (fun(a:Array β) (x:β×Nat)=>a.setIfInBounds (k+x.2) x.1) (p.map f)=((l.zipIdx n).foldl (fun(a:Array α) (x:α×Nat)=>a.setIfInBounds (k+x.2) x.1) p).map f
  |[],n,p=>rfl
  |x::l,n,p=>by
   rw[bY,List.zipIdx_cons,List.zipIdx_cons,x4,x4];have e:(p.map f).setIfInBounds (k+n) (f x)=(p.setIfInBounds (k+n) x).map f:=by apply Array.toList_inj.mp;rw[Array.toList_setIfInBounds,Array.toList_map,Array.toList_map,Array.toList_setIfInBounds,List.map_set]
   show((l.map f).zipIdx (n+1)).foldl _ ((p.map f).setIfInBounds (k+n) (f x))=_;rw[e];exact Ku f k l (n+1) _
theorem Kv{st st':σ}{Q:PUnit→σ→Shared→Prop}(h:Q ⟨⟩ st' s):kasC (model prog w) A E (set st':StateT σ Sem PUnit) Q st s:=by unfold kasC;rw[StateT.run_set];exact bj h
theorem My{Q:Bool→SortSt→Shared→Prop}{pw:Nat}(S:yg prog w A κ it s)(h:Q true (kB κ it Bu #[(0,64,pw)] 7) s):kasC (model prog w) A E (mergeAt' 0) Q (kB κ it gB #[(0,32,pw),(32,32,0)] 7) s:=by
  refine kasC_bind (kasC_get ?_);rw[show(pendingOf (kB κ it gB #[(0,32,pw),(32,32,0)] 7))[0]?=some (0,32,pw) from rfl,show(pendingOf (kB κ it gB #[(0,32,pw),(32,32,0)] 7))[0+1]?=some (32,32,0) from rfl];dsimp only;have ep:((pendingOf (kB κ it gB #[(0,32,pw),(32,32,0)] 7)).setIfInBounds 0 (0,32+32,pw)).eraseIdxIfInBounds (0+1)=#[(0,64,pw)]:=by show((#[(0,32,pw),(32,32,0)]:Array (Nat×Nat×Nat)).setIfInBounds 0 (0,32+32,pw)).eraseIdxIfInBounds (0+1)=#[(0,64,pw)];simp
  rw[ep];refine kasC_bind (Kv (st':=kB κ it gB #[(0,64,pw)] 7) ?_);refine kasC_bind (gC (p:=gB) (by decide) ?_);refine kasC_bind (W0 S ?_);dsimp only;rw[bh (by decide)];refine kasC_bind (gC (p:=gB) (by decide) ?_);refine kasC_bind (W2 S ?_);dsimp only;rw[bh (by decide),az (by decide)];have eA:(arrOf (kB κ it gB #[(0,32,pw),(32,32,0)] 7)).extract (0+6) 32=gL.map (kas_item it):=by rw[←Py];exact Array.map_extract.symm
  have eB:(arrOf (kB κ it gB #[(0,32,pw),(32,32,0)] 7)).extract 32 (32+26)=gd.map (kas_item it):=by rw[←Pz];exact Array.map_extract.symm
  rw[eA,eB];refine kasC_bind (Mx S ?_);refine kasC_bind (kasC_modify ?_);refine kasC_bind (kasC_get ?_);refine kasC_pure ?_;have e2:(ny.map (kas_item it)).toList.zipIdx.foldl (fun(a:Array Keyed) (x:Keyed×Nat)=>a.setIfInBounds (0+6+x.2) x.1) (gB.map (kas_item it))=Bu.map (kas_item it):=by rw[Array.toList_map,Ku,←W3];rfl
  show Q true (SortSt.mk' κ ((ny.map (kas_item it)).toList.zipIdx.foldl (fun(a:Array Keyed) (x:Keyed×Nat)=>a.setIfInBounds (0+6+x.2) x.1) (gB.map (kas_item it))) #[(0,64,pw)] 7 none) s;rw[e2];exact h
theorem W4{Q:Unit→SortSt→Shared→Prop}(S:yg prog w A κ it s)(h:∀pend,Q () (kB κ it Bu pend 7) s):kasC (model prog w) A E sortRuns' Q (kB κ it GA #[] 7) s:=by
  rw[sortRuns'_eq];refine kasC_bind (kasC_get ?_);have hsz:(arrOf (kB κ it GA #[] 7)).size=64:=by show(GA.map (kas_item it)).size=64;rw[Array.size_map];rfl
  have hmr:minRun' 64 64 0=32:=rfl;dsimp only;rw[hsz,hmr];refine kasC_bind (kasC_range (dJ (m:=63) rfl ?_));dsimp only;rw[bh (by decide)];refine kasC_bind (Px (n:=59) S UY (by decide) (by decide) (by decide) (by decide) (by decide) (by decide) ?_);dsimp only;rw[az (by decide)];refine kasC_bind (kasC_lift (wpAny_rule ?_));refine kasC_bind (UX S UY (by decide) (by decide) ?_);rw[show ui 0 (min (64-0) 32-max 4 1) GA (max 4 1)=Io from acx];rw[bh (by decide)];refine kasC_bind (kasC_get ?_);rw[show(pendingOf (kB κ it Io #[] 7)).back?=none from rfl];dsimp only;refine kasC_bind (kasC_modify (kasC_pure ?_));show kasC _ _ _ (forIn (List.range' (0+1) 63) (none,32) _) _ (kB κ it Io #[(0,32,0)] 7) _;refine dJ (m:=62) rfl ?_;dsimp only;rw[bh (by decide)];refine kasC_bind (Px (n:=27) S UZ (by decide) (by decide) (by decide) (by decide) (by decide) (by decide) ?_);dsimp only;rw[az (by decide)];refine kasC_bind (kasC_lift (wpAny_rule ?_));refine kasC_bind (UX S UZ (by decide) (by decide) ?_);rw[show ui 32 (min (64-32) 32-max 4 1) Io (max 4 1)=gB from acy];rw[bh (by decide)];refine kasC_bind (kasC_get ?_);rw[show(pendingOf (kB κ it gB #[(0,32,0)] 7)).back?=some (0,32,0) from rfl];dsimp only;refine kasC_bind (kasC_range (dJ (m:=63) rfl ?_));refine kasC_bind (kasC_get ?_);rw[bh (show ¬ (pendingOf (kB κ it gB #[(0,32,0)] 7)).size>1 from by show ¬ 1>1;decide)];dsimp only;refine kasC_pure ?_;dsimp only;generalize power' 64 (2*0+32) (2*0+32+32+min (64-32) 32) 64=pw;refine kasC_bind (kasC_modify (kasC_bind (kasC_modify (kasC_pure ?_))));have ep:((pendingOf (kB κ it gB #[(0,32,0)] 7)).modify ((pendingOf (kB κ it gB #[(0,32,0)] 7)).size-1) fun x=>(x.fst,x.2.fst,pw)).push (32,min (64-32) 32,0)=#[(0,32,pw),(32,32,0)]:=by show(((#[(0,32,0)]:Array (Nat×Nat×Nat)).modify (1-1) fun x=>(x.fst,x.2.fst,pw)).push (32,min (64-32) 32,0))=#[(0,32,pw),(32,32,0)];simp[Array.modify,Array.modifyM]
  dsimp only;show kasC _ _ _ (forIn (List.range' (0+1+1) 62) (none,64) _) _ (SortSt.mk' κ (gB.map (kas_item it)) (((pendingOf (kB κ it gB #[(0,32,0)] 7)).modify ((pendingOf (kB κ it gB #[(0,32,0)] 7)).size-1) fun x=>(x.fst,x.2.fst,pw)).push (32,min (64-32) 32,0)) 7 none) _;rw[ep];refine dJ (m:=61) rfl ?_;dsimp only;rw[az (by decide)];refine kasC_pure ?_;dsimp only;refine kasC_bind (kasC_range (dJ (m:=63) rfl ?_));refine kasC_bind (kasC_get ?_);rw[bh (show ¬ (pendingOf (SortSt.mk' κ (gB.map (kas_item it)) #[(0,32,pw),(32,32,0)] 7 none)).size≤1 from by show ¬ 2≤1;decide)];refine kasC_bind ?_;show kasC _ _ _ (mergeAt' 0) _ (kB κ it gB #[(0,32,pw),(32,32,0)] 7) _;refine My S ?_;rw[bh (by decide)];refine kasC_pure ?_;dsimp only;refine dJ (m:=62) rfl ?_;refine kasC_bind (kasC_get ?_);rw[az (show(pendingOf (kB κ it Bu #[(0,64,pw)] 7)).size≤1 from cu 1)];refine kasC_pure ?_;dsimp only;exact kasC_pure (h _)
end
end Sj
namespace L2
open PySem PySem.Spec PyProof.Rows PySem.W Sj
section
variable {prog:Program} {w:World} {A:Around} {E:lr} {s:Shared}
theorem zR{kS:Addr}{st:SortSt}{e e1:Nat}{out:ef}{P:PySem.Fin→Shared→Prop}(acA:(arrOf st).map (·.2)=List.toArray out)(hz:out.length≤64)(hkz:ks.length≤64)(hf:failedOf st=none)(iJ:a≠kS)(hk:s.heap.get? kS=some (seqObj "list" ks.toArray e))(ha:s.heap.get? a=some (seqObj "list" #[] e1))(h:∀h3 h4 ck c2,Heap.SameBut kS s.heap h3→h3.get? kS=some (seqObj "list" #[] ck)→Heap.SameBut a h3 h4→h4.get? a=some (seqObj "list" out.toArray c2)→P (.done (.ret .none)) { s with heap:=h4 }):wpAny (model prog w) A (ksk_tail a false e1 (.ref kS) st) P E s:=by
  have s1:Heap.SameBut kS s.heap (s.heap.update kS (Obj.mapSeq fun _=>(#[]:Array Value))):=wc ..;have ZF:=get?_update_seq hk fun _=>(#[]:Array Value)
  have na:=(s1.2 a iJ).trans ha;have few:∀{n:Nat},n≤64→n≤sizeLine:=fun q=>by rw[kD];omega
  unfold ksk_tail;simp only[acA,hf,bne_self_eq_false,yK,pD];refine bA (listUpdate_at hk rfl (bA (wpAny_letGo (bA (seqEpoch_at na rfl (bA (listUpdate_at na rfl ?_ (qQ _) (Nat.le_succ_of_le (few (by rw[kC];omega))))))))) (few (by rw[kC];omega)) (qQ _));simp only[bne_self_eq_false,yK,pD];exact bj (h _ _ _ _ s1 ZF (wc ..) (get?_update_seq na _))
def Cq(prog:Program)(w:World)(A:Around)(E:lr)(κ:SortKind)(lt:Nat→Nat→Bool)(ks vs:ef)(s:Shared):Prop:=∀Q:Unit×SortSt→Shared→Prop,
  (∀(p:Array Nat) (st':SortSt),arrOf st'=p.map (kas_item (ks.toArray.zip vs.toArray))→failedOf st'=none→bp vs.length p→Up lt p vs.length→Q ((),st') s)→wpAny (model prog w) A (sortRuns'.run (SortSt.mk' κ (ks.toArray.zip vs.toArray) #[] 7 none)) Q E s
def W5(prog:Program)(w:World)(A:Around)(κ:SortKind)(lt:Nat→Nat→Bool)(ks:ef)(s:Shared):Prop:=∀i j (C:Bool→Shared→Prop),i<ks.length→j<ks.length→C (lt i j) s→wpAny (model prog w) A (keyLt' κ (ks.getD i Value.none) (ks.getD j Value.none)) C (fun _ _=>False) s
theorem Ct{lt:Nat→Nat→Bool}(hl:ks.length=vs.length)(h2:2≤vs.length)(tE:vs.length<64)(jL:W5 prog w A κ lt ks s)(hS:lZ vs.length lt):Cq prog w A E κ lt ks vs s:=by
  intro Q hQ;have hw:(kas_sort vs.length).kasWp (kas_ask prog w A κ ks) (fun p wx=>bp vs.length p∧Up lt p vs.length∧wx=s) s:=by
    refine Ol (S:=fun wx=>wx=s) (lt:=lt) (n:=vs.length) (P:=bp vs.length) (fun i j C wx hi hj hs hc=>?_) _ _ (FZ (by omega)) rfl (fun wx hs _=>?_)
    ·subst hs;exact jL i j C (by omega) (by omega) (hc _ rfl)
    ·obtain⟨q1,q2⟩:=JY hS h2;exact⟨q1,q2,hs⟩
  refine pV (kat_run (ks:=ks) (vs:=vs) (Q:=fun st' wx=>∃p:Array Nat,arrOf st'=p.map (kas_item (ks.toArray.zip vs.toArray))∧failedOf st'=none∧bp vs.length p∧Up lt p vs.length∧wx=s)
    hl h2 tE (fun p st' wx _ e f g=>⟨p,e,f,g.1,g.2.1,g.2.2⟩) hw) ?_ fun _ _ e=>e
  rintro⟨⟨⟩,st'⟩ s' ⟨p,har,hf,hP,hU,rfl⟩;exact hQ p st' har hf hP hU
theorem GC(hl:ks.length=vs.length)(hi:i<ks.length):(kas_item (ks.toArray.zip vs.toArray) i).1=ks.getD i Value.none:=by
  have hv:i<vs.length:=by omega
  unfold kas_item;rw[Array.getD_eq_getD_getElem?,nD];have e:(ks.toArray.zip vs.toArray)[i]?=some (ks[i],vs[i]):=by rw[List.zip_toArray,List.getElem?_toArray,mV (by rw[List.length_zip];omega),List.getElem_zip]
  rw[e,mV hi];rfl
theorem upF:Up j9 Bu 64:=by
  have h:((List.range 64).all fun i=>(List.range 64).all fun j=>!(Nat.blt i j)||j9 (Bu.getD i 0) (Bu.getD j 0))=true:=by decide +kernel
  intro i j wA hj;have q:=iH.mp (iH.mp h i (mY.mpr (by omega))) j (mY.mpr hj);have e:Nat.blt i j=true:=by rw[Nat.blt_eq];exact wA
  rw[e] at q;simpa using q
theorem W6(hl:ks.length=vs.length)(tE:vs.length=64)(jL:W5 prog w A κ j9 ks s):Cq prog w A E κ j9 ks vs s:=by
  intro Q hQ;have hsz:(ks.toArray.zip vs.toArray).size=64:=by simp;omega
  have e0:SortSt.mk' κ (ks.toArray.zip vs.toArray) #[] 7 none=kB κ (ks.toArray.zip vs.toArray) GA #[] 7:=by have:=kas_range (ks.toArray.zip vs.toArray);rw[hsz] at this;unfold kB GA;rw[this]
  rw[e0];refine(W4 (Q:=fun r st' s'=>Q (r,st') s') (fun i j C hi hj hC=>?_) (fun pend=>?_):kasC (model prog w) A E sortRuns' _ _ s)
  ·show wpAny (model prog w) A (keyLt' κ (kas_item (ks.toArray.zip vs.toArray) i).1 (kas_item (ks.toArray.zip vs.toArray) j).1) C (fun _ _=>False) s;rw[GC hl (by omega),GC hl (by omega)];exact jL i j C (by omega) (by omega) hC
  · refine hQ Bu _ rfl rfl ?_ ?_
    ·rw[tE];exact ZE
    ·rw[tE];exact upF
theorem Mz(vs ks:ef)(h:vs.length<2)(hl:ks.length=vs.length):((ks.toArray.zip vs.toArray).map (·.2)).toList=vs:=by
  cases vs with
  |nil=>simp
  |cons v t =>
   cases t with
   |nil=>match ks,hl with|[k],_=>simp
   |cons _ _=>simp only[mW] at h;omega
theorem MA{kS:Addr}{e e1:Nat}{lt:Nat→Nat→Bool}{P:PySem.Fin→Shared→Prop}(hl:ks.length=vs.length)(tE:vs.length≤64)(iJ:a≠kS)(hk:s.heap.get? kS=some (seqObj "list" ks.toArray e))(ha:s.heap.get? a=some (seqObj "list" #[] e1))(kind:2≤vs.length→∀Q:SortKind→Shared→Prop,Q κ s→wpAny (model prog w) A (keyKind' ks.toArray) Q E s)(PD:2≤vs.length→Cq prog w A E κ lt ks vs s)(fin:∀p h3 h4 ck c2,bp vs.length p→Up lt p vs.length→Heap.SameBut kS s.heap h3→h3.get? kS=some (seqObj "list" #[] ck)→Heap.SameBut a h3 h4→h4.get? a=some (seqObj "list" (List.toArray (p.toList.map fun i=>vs.getD i Value.none)) c2)→P (.done (.ret .none)) { s with heap:=h4 }):wpAny (model prog w) A (ksk_end a false vs.toArray e1 (.ref kS) (List.toArray ks)) P E s:=by
  unfold ksk_end
  try dsimp only
  simp only[yK,pD];by_cases h2:vs.toArray.size<2
  · rw[az h2,az h2];refine bA (bj ?_);rw[StateT.run_pure];refine bA (bj ?_);dsimp only;have X1:vs.length<2:=by simpa using h2
    refine zR (ks:=ks) (out:=(List.range vs.length).map fun i=>vs.getD i Value.none) ?_ (by simp;omega) (by omega) rfl iJ hk ha fun h3 h4 ck c2 a1 a2 a3 a4=>?_
    ·show(ks.toArray.zip vs.toArray).map (·.2)=_;apply Array.toList_inj.mp;rw[qY];exact Mz vs ks X1 hl
    ·refine fin (List.range vs.length).toArray h3 h4 ck c2 (bp.id _) (fun i j wA hj=>by omega) a1 a2 a3 ?_;simpa using a4
  · rw[bh h2,bh h2];have X1:2≤vs.length:=by rw[kC] at h2;omega
    refine bA (kind X1 _ ?_);refine bA (PD X1 _ fun p st' har hf hP hU=>?_);dsimp only;have Tf:p.toList.length=vs.length:=by rw[oo];exact hP.size
    refine zR (ks:=ks) (kat_snds hl har) (by rw[g9,Tf];exact tE) (by omega) hf iJ hk ha fun h3 h4 ck c2 a1 a2 a3 a4=>fin p h3 h4 ck c2 hP hU a1 a2 a3 a4
theorem Iq{kS:Addr}{e1:Nat}{f:Value}{lt:Nat→Nat→Bool}{P:PySem.Fin→Shared→Prop}{J:Addr→Nat→ef→Nat→Shared→Prop}(tE:vs.length≤64)(j0:J kS e1 [] 0 s)(get:∀kS e1 ks c s',J kS e1 ks c s'→a≠kS∧s'.heap.get? kS=some (seqObj "list" (List.toArray ks) c)∧s'.heap.get? a=some (seqObj "list" #[] e1))(step:∀kS e1 ks c s' x,J kS e1 ks c s'→vs[ks.length]?=some x→wpAny (model prog w) A (call f [x]) (fun k wx=>wx.heap.get? kS=some (seqObj "list" (List.toArray ks) c)∧∀h2 c2,Heap.SameBut kS wx.heap h2→h2.get? kS=some (seqObj "list" (List.toArray (ks++[k])) c2)→J kS e1 (ks++[k]) c2 { wx with heap:=h2 }) (fun _ _=>False) s')(kind:∀kS e1 ks c s',J kS e1 ks c s'→ks.length=vs.length→2≤vs.length→∀Q:SortKind→Shared→Prop,Q κ s'→wpAny (model prog w) A (keyKind' (List.toArray ks)) Q E s')(PD:∀kS e1 ks c s',J kS e1 ks c s'→ks.length=vs.length→2≤vs.length→Cq prog w A E κ lt ks vs s')(fin:∀kS e1 ks c s' p h3 h4 ck c2,J kS e1 ks c s'→ks.length=vs.length→bp vs.length p→Up lt p vs.length→Heap.SameBut kS s'.heap h3→h3.get? kS=some (seqObj "list" #[] ck)→Heap.SameBut a h3 h4→h4.get? a=some (seqObj "list" (List.toArray (p.toList.map fun i=>vs.getD i Value.none)) c2)→P (.done (.ret .none)) { s' with heap:=h4 }):wpAny (model prog w) A (ksk_rest a f false vs.toArray e1 (.ref kS)) P E s:=by
  have few:∀{n:Nat},n≤65→n≤sizeLine:=fun q=>by rw[kD];omega
  refine bA (wpAny_rule ?_);rw[List.forIn_toArray];refine bA (ksk_fold (fun i s'=>∃ks c,List.length ks=i∧J kS e1 ks c s') vs 0 s ⟨[],0,rfl,j0⟩ (fun j x s' hx ⟨ks,c,l,q⟩=>?_) fun s' ⟨ks,c,l,q⟩=>?_)
  ·have lj:j<vs.length:=(v9.mp hx).1;refine bA (wpAny_attempt (pV (step kS e1 ks c s' x q (by rw[l,Nat.zero_add];exact hx)) (fun k wx ⟨hk,nx⟩=>?_) fun _ _ n=>n.elim));have g:=get?_update_seq hk (·.push k);rw[List.push_toArray] at g;exact bA (listUpdate_at hk rfl (bj ⟨rfl,ks++[k],_,by rw[kI,l];rfl,nx _ _ (wc ..) g⟩) (few (by rw[kC];omega)) (Nat.le_succ_of_le (few (by rw[Array.size_push,kC];omega))))
  ·rw[Nat.zero_add] at l;obtain⟨ne,hk,ha⟩:=get _ _ _ _ _ q;exact bA (listItems_at hk rfl (MA l tE ne hk ha (fun h2=>kind _ _ _ _ _ q l h2) (PD _ _ _ _ _ q l) fun p h3 h4 ck c2 b1 b2 b3 b4 b5 b6=>fin _ _ _ _ _ p h3 h4 ck c2 q l b1 b2 b3 b4 b5 b6))
theorem zS{f:Value}{lt:Nat→Nat→Bool}{P:PySem.Fin→Shared→Prop}{J:Addr→Nat→ef→Nat→Shared→Prop}(ho:s.heap.get? a=some (seqObj "list" vs.toArray n))(tE:vs.length≤64)(init:∀kS e1 h',a≠kS→s.heap.objs.size≤kS→h'.get? kS=some (seqObj "list" #[] 0)→h'.get? a=some (seqObj "list" #[] e1)→(∀b o,b≠a→s.heap.get? b=some o→h'.get? b=some o)→J kS e1 [] 0 { s with heap:=h' })(get:∀kS e1 ks c s',J kS e1 ks c s'→a≠kS∧s'.heap.get? kS=some (seqObj "list" (List.toArray ks) c)∧s'.heap.get? a=some (seqObj "list" #[] e1))(step:∀kS e1 ks c s' x,J kS e1 ks c s'→vs[ks.length]?=some x→wpAny (model prog w) A (call f [x]) (fun k wx=>wx.heap.get? kS=some (seqObj "list" (List.toArray ks) c)∧∀h2 c2,Heap.SameBut kS wx.heap h2→h2.get? kS=some (seqObj "list" (List.toArray (ks++[k])) c2)→J kS e1 (ks++[k]) c2 { wx with heap:=h2 }) (fun _ _=>False) s')(kind:∀kS e1 ks c s',J kS e1 ks c s'→ks.length=vs.length→2≤vs.length→∀Q:SortKind→Shared→Prop,Q κ s'→wpAny (model prog w) A (keyKind' (List.toArray ks)) Q E s')(PD:∀kS e1 ks c s',J kS e1 ks c s'→ks.length=vs.length→2≤vs.length→Cq prog w A E κ lt ks vs s')(fin:∀kS e1 ks c s' p h3 h4 ck c2,J kS e1 ks c s'→ks.length=vs.length→bp vs.length p→Up lt p vs.length→Heap.SameBut kS s'.heap h3→h3.get? kS=some (seqObj "list" #[] ck)→Heap.SameBut a h3 h4→h4.get? a=some (seqObj "list" (List.toArray (p.toList.map fun i=>vs.getD i Value.none)) c2)→P (.done (.ret .none)) { s' with heap:=h4 }):wpAny (model prog w) A (ksk_tree a f false) P E s:=by
  have em:=get?_update_seq ho fun _=>(#[]:Array Value)
  have few:vs.length≤sizeLine:=by rw[kD];omega
  have z:((s.heap.update a (Obj.mapSeq fun _=>(#[]:Array Value))).push (seqObj "tuple" vs.toArray 0)).objs.size=s.heap.objs.size+1:=(size_push' ..).trans (g6 (·+1) (Heap.size_update ..));refine bA (listItems_at ho rfl (bA (listUpdate_at ho rfl (bA (seqEpoch_at em rfl (bA (wpAny_newTuple (bA (wpAny_newList (wm ?_) (qQ _))) few)))) few (qQ _))));refine Iq (J:=J) (κ:=κ) (lt:=lt) tE (init _ _ _ ?_ ?_ (il _ rfl) (kz _ (kz _ em)) fun b o n e=>kz _ (kz _ ((Heap.get?_update_ne _ _ _ _ n).trans e))) get step kind PD fin
  ·exact fun e=>fT (Nat.lt_succ_of_lt (dg ho)) (e.trans z)
  ·exact Nat.le_of_lt (z.symm▸Nat.lt_succ_self _)
end
section
variable {prog:Program} {w:World} {A:Around} {E:lr} {s:Shared} {d:Addr} {es:Array DictEntry} {ep:Nat}
theorem yc.at(x:yc h d es ep)(k:∀o,h.get? d=some o→h'.get? d=some o):yc h' d es ep:=let ⟨o,ho,r⟩:=x;⟨o,k _ ho,r⟩
theorem yc.lt(x:yc h d es ep):d<h.objs.size:=let ⟨o,ho,r⟩:=x;dg ho
theorem MB(hh:A.handled=none)(I d:Addr)(iJ:d≠I)(es:Array DictEntry)(ep:Nat) :
    Walks prog w A I [I,d] [I] es.size (fun i v=>∃e,es[i]?=some e∧v=e.key) (fun i h=>h.IsKeyIter I d i es.size ep∧yc h d es ep) where
  sub:=fun b hb=>by simp at hb;simp[hb]
  frame:=fun _ _ _ st hk=>⟨st.1.at fun o e=>hk I (by simp) o e,st.2.at fun o e=>hk d (by simp) o e⟩
  item:=fun i s Q E hi st hQ=>by refine lN st.1 st.2 hi fun h' L0 JT=>?_;exact hQ _ h' s.toks ⟨_,A8 hi,rfl⟩ ⟨L0,st.2.at fun o e=>JT.extBut d o iJ e⟩ fun b o hb e=>JT.extBut b o (fun h=>hb (by simp[h])) e
  done:=fun s Q E st hQ=>mS hh st.1 st.2 (cu _) fun h' he'=>hQ h' s.toks fun b o hb e=>he' b o (fun h=>hb (by simp[h])) e
  self:=fun _ _ _ _ st hQ=>wpAny_pyIter_keyiter st.1 hQ
theorem Tg(lo:(d==sysModules)=false):KdlSrc prog w "dict" d d es.size (fun i v=>∃e,es[i]?=some e∧v=e.key) (fun h=>yc h d es ep) where
  type:=fun _ hm=>let ⟨o,ho,hc,_⟩:=hm;⟨o,ho,hc.1⟩
  there:=fun _ hm=>⟨hm.lt,hm.lt⟩
  keep:=fun _ _ hm hk=>hm.at fun o e=>hk d (.inl rfl) o e
  notList:=by decide
  notTuple:=by decide
  hint:=fun _ _ _ _ hm hq=>kdl_hint_dict (let ⟨o,ho,hc,_⟩:=hm;⟨o,ho,hc.1⟩) hq
  iter:=fun _ _ hh hm=>⟨_,_,(fun _ _ hq=>qz lo hm hq),MB hh _ d (fT hm.lt) es ep,⟨⟨_,il _ rfl,rfl,rfl⟩,hm.at fun o e=>kz _ e⟩⟩
end
section
variable {X:Cx} {pins:kH} {σ:St} {H:Hp} {s:Shared} {D:Addr} {o:HO}
theorem Inv.adopt(I:Inv X pins σ H s)(f:ip X pins H D)(h0:X.s₀.heap.objs.size≤D)(new:cy X.prog X.w (upd H D o) s.heap D o):Inv X pins σ (upd H D o) s where
  ok:=I.ok
  os:=I.os
  bare:=I.bare
  base :=
    { keep:=I.base.keep
      slot:=I.base.slot
      free:=fun b u q n hx=>by rw[aK (fT (oN (dg q) h0))];exact I.base.free b u q n hx
      there:=I.base.there
      qH:=fun b xs q=>by have:=I.base.qH b xs q;rw[aK (bO this f.1)];exact this
      wq:=fun b u xs q=>by have:=I.base.wq b u xs q;rw[aK (bO this f.1)];exact this
      wt:=fun b ps q=>by obtain⟨m,e⟩:=I.base.wt b ps q;exact⟨m,by rw[aK (bO e f.1)];exact e⟩ }
  loc:=I.loc
  cell:=I.cell
  free:=by rw[aK (fun z=>f.2.1 z.symm)];exact I.free
  jW:=fun x c e=>by rw[aK (f.2.2.2.2.1 x c e)];exact I.jW x c e
  pin:=fun p hp=>by obtain⟨a1,a2,a3⟩:=I.pin p hp;exact⟨a1,by rw[aK (f.2.2.2.2.2 p hp)];exact a2,a3⟩
  cY:=fun b u e=>by
    by_cases hb:b=D
    ·subst hb;rw[aL] at e;cases e;exact new
    ·rw[aK hb] at e;exact(I.cY b u e).pW (fun c v _ q=>q) (fun c q=>by rw[aK (bO q f.1)];exact q) (fun c xs q=>by rw[aK (bO q f.1)];exact q) fun c q' r=>by rw[aK (bO r f.1)];exact r
  len:=I.len
theorem Inv.xO(I:Inv X pins σ H s){ob:Obj}(f:ip X pins H a)(ho:s.heap.get? a=some ob)(hc:∀v,ob.data≠.cell v):Inv X ((a,ob)::pins) σ H s:=by
  refine⟨I.ok,I.os,I.bare,I.base,I.loc,I.cell,I.free,I.jW,fun p hp=>?_,I.cY,I.len⟩;rcases mX.mp hp with q|q
  ·exact I.pin p (A9 _ q)
  · rcases gw.mp q with rfl|q
    ·exact⟨ho,f.1,f.2.1,f.2.2.1,hc⟩
    ·exact I.pin p (jV _ q)
theorem Inv.uj{q:Addr×Obj}(I:Inv X (q::pins) σ H s):Inv X pins σ H s:=by
  refine⟨I.ok,I.os,I.bare,I.base,I.loc,I.cell,I.free,I.jW,fun p hp=>I.pin p ?_,I.cY,I.len⟩;rcases mX.mp hp with z|z
  ·exact A9 _ z
  ·exact jV _ (lJ _ z)
theorem PH{f:Addr}{ps:gq}{sp:Sp}{Q:VK}{vs:List V}(C:fV X.prog X.w X.K X.mg X.base k f ps sp)(hr:fG k X.A.in1.in1)(I:Inv X pins σ H s)(r:Vals vs us)(h:sp vs H Q E0):wpAny (model X.prog X.w) X.A.in1.in1 (call (.ref f) us) (EP X pins σ Q) E s:=by
  obtain⟨fd,F,hb,kp⟩:=C.ex;have hl:us.length=ps.length:=by rw[←r.length];exact F.len _ _ _ _ h
  have e0:Hy X.prog X.w X.K X.mg X.base X.A.in1.in1 X.stack s H:={ I.NT with frames:=I.NT.frames }
  have Fm:=hb s us I.xH (by simpa using hl);rw[uH] at Fm;refine wpAny_call (codeAny_mono (F.run X.A.in1.in1 X.stack s H ⟨us,[]⟩ us vs Q E0 hr e0 Fm r h) fun r s' hq=>?_);cases r with
  |error e=>exact False.elim hq
  |ok fl =>
   cases fl with
   |ret u=>exact I.after hq
   |_=>exact False.elim hq
end
end L2
namespace DL
open PySem PySem.Spec L2 PySem.W Sj
open PyProof.Rows hiding St pairAt
section
variable {X:Cx} {pins:kH} {σ:St} {H:Hp} {s:Shared}
theorem MC{vk:List V}{Q:SortKind→Shared→Prop}(I:Inv X pins σ H s)(rv:Vals vk ks)(hp:Paired (pairAt H) vk ds)(h2:2≤ks.length)(hq:Q (tuples' true) s):wpAny (model X.prog X.w) A (keyKind' (List.toArray ks)) Q E s:=by
  have l1:vk.length=ks.length:=rv.length;have qH:∀(vl:ef),(∀v∈vl,∃a n t q,v=.ref a∧IsTup s.heap a [Value.int n t,Value.ref q].toArray)→∃fs:ef,KatTups s.heap vl fs∧fs.length=vl.length∧∀v∈fs,∃n t,v=.int n t:=by
    intro vl;induction vl with
    |nil=>intro _;exact⟨[],trivial,rfl,fun _ z=>nomatch z⟩
    |cons v r ih =>
     intro hv;obtain⟨a,n,t,q,rfl,o,e,c,m,dd⟩:=hv v de;obtain⟨fs,k1,k2,k3⟩:=ih fun y hy=>hv y (lJ _ hy);refine⟨.int n t::fs,⟨⟨a,o,_,m,rfl,e,c,dd,rfl⟩,k1⟩,by simp[k2],fun y hy=>?_⟩;rcases gw.mp hy with z|z
     ·exact⟨n,t,z⟩
     ·exact k3 y z
  obtain⟨fs,k1,k2,k3⟩:=qH ks (fun v hv=>by
    obtain⟨i,hi,rfl⟩:=List.mem_iff_getElem.mp hv;obtain⟨a,q,t,js,e1,e2,_⟩:=sI I (bq rv (by omega) V.non Value.none) (bq hp (i:=i) (by omega) V.non (0,[]));rw[nD,mV hi] at e1;exact⟨a,_,t,q,e1,e2⟩)
  refine kat_kind (T:=.type "int") k1 (by omega) (fun v hv=>?_) rfl ?_
  ·obtain⟨n,t,rfl⟩:=k3 v hv;exact Looks.of_pure rfl
  ·exact hq
theorem Ti{vk:List V}{C:Bool→Shared→Prop}(Wn:A.units<cLine)(I:Inv X pins σ H s)(rv:Vals vk ks)(hp:Paired (pairAt H) vk ds)(hi:i<ks.length)(hj:j<ks.length)(hc:C (pG (ds.getD i (0,[])) (ds.getD j (0,[]))) s):wpAny (model X.prog X.w) A (keyLt' (tuples' true) (ks.getD i Value.none) (ks.getD j Value.none)) C (fun _ _=>False) s:=by
  have l1:vk.length=ks.length:=rv.length;obtain⟨a,q,t,js,e1,e2,e3,e4⟩:=sI I (bq rv (i:=i) (by omega) V.non Value.none) (bq hp (i:=i) (by omega) V.non (0,[]));obtain⟨b,q',t',js',f1,f2,f3,f4⟩:=sI I (bq rv (i:=j) (by omega) V.non Value.none) (bq hp (i:=j) (by omega) V.non (0,[]));rw[e1,f1];obtain⟨oa,ga,_,na,da⟩:=id e2;obtain⟨ob,gb,_,nb,db⟩:=id f2;refine kat_lt ga da gb db ?_;refine kat_cons (SeqAt.EqAt.int_int _ _ _ _ _ _ _ _ (kat_go (fun e=>kat_yes ?_) (fun e=>kat_no ?_)))
  · have wA:(ds.getD i (0,[])).1=(ds.getD j (0,[])).1:=by simpa using e
    have Dq:C (HT.lexLt (ds.getD i (0,[])).2 (ds.getD j (0,[])).2) s:=by have e5:pG (ds.getD i (0,[])) (ds.getD j (0,[]))=HT.lexLt (ds.getD i (0,[])).2 (ds.getD j (0,[])).2:=az wA;rw[←e5];exact hc
    refine kat_cons (B6 e3 f3 e4 f4 Wn _ _ _ _ (kat_go (fun e'=>kat_yes (kat_nil ?_)) (fun e'=>kat_no ?_)))
    · have e6:(ds.getD i (0,[])).2=(ds.getD j (0,[])).2:=by simpa using e'
      rw[e6,nH] at Dq;exact Dq
    ·refine kat_one _ _ ?_;refine HT.yQ e3 f3 (by simpa using intsAre_of e4) (by simpa using intsAre_of f4) Wn ?_;exact Dq
  · have wA:¬ (ds.getD i (0,[])).1=(ds.getD j (0,[])).1:=by simpa using e
    refine oneLt_int ?_;have e5:pG (ds.getD i (0,[])) (ds.getD j (0,[]))=decide ((ds.getD i (0,[])).1<(ds.getD j (0,[])).1):=bh wA;rw[←e5];exact hc
def Cu(H:Hp)(v:V)(e:Int×aO):Prop:=∃b,v=.ref b∧H b=some (.tup (e.2.map V.int))
end
section
variable {X:Cx} {pins:kH} {σ:St} {H:Hp} {s:Shared}
theorem ip.re{b:Addr}(f:ip X pins H b)(hn:H' b=none):ip X pins H' b:=⟨hn,f.2⟩
theorem nz{xs:Array Value}:∀v,(seqObj "list" xs n).data≠.cell v:=fun v z=>by cases z
def rJ(ds:xX):Prop:=∀(prog:Program) (w:World) (A:Around) (E:lr) (ks vs:ef) (s:Shared),ks.length=ds.length→vs.length=ds.length→2≤ds.length→W5 prog w A (tuples' true) (fun i j=>pG (ds.getD i (0,[])) (ds.getD j (0,[]))) ks s→Cq prog w A E (tuples' true) (fun i j=>pG (ds.getD i (0,[])) (ds.getD j (0,[]))) ks vs s
theorem rK(A5:ds.Nodup)(tE:ds.length<64):rJ ds:=fun prog w A E ks vs s h1 h2 h3 jL=>by refine Ct (by omega) (by omega) (by omega) jL ?_;have:=tP A5;rw[h2];exact this
theorem ve{Q:VK}{ps:gq}{kv:List V}{acc:ef}{tk:Nat}(hu:X.A.units+5<cLine)(C:fV X.prog X.w X.K X.mg X.base k fn ps (cL X.K [true] Fn))(hr:fG k X.A.in1.in1)(I:Inv X pins σ H s)(b0:Base F H)(hF:∀e∈ds,Fn [.tup (e.2.map D.int)]=some (.sh (fP e)))(A5:ds.Nodup)(tE:ds.length≤64)(HN:rJ ds)(hk:∀b o,s.heap.get? b=some o→h'.get? b=some o)(Rx:Vals kv acc)(jc:Paired (Cu H) kv ds){P:PySem.Fin→Shared→Prop}(W7:∀v s',EP X pins σ Q v s'→P (.done (.ret v)) s')(post:∀p vs H' F',bB F H F' H'→H p=none→F' p=none→H' p=some (.lst vs)→cz X.K F' ((hG ds).map fun e=>D.tup (e.2.map D.int)) vs→Q (.ref p) H'):wpAny (model X.prog X.w) X.A.in1 (newList acc>>=fun l=>holding [l] (call (.builtin "list.sort") [l] [(Str.ofString "key",.ref fn)])>>=fun _=>ret l) P X.xe { s with heap:=h',toks:=tk }:=by
  have l1:=wo jc;have hl:acc.length=ds.length:=by rw[←l1];exact(Rx.length).symm
  have lkv:kv.length=ds.length:=l1;refine bA (wpAny_newList ?_ (by rw[hl,kD];omega));have I0:Inv X pins σ H { s with heap:=h',toks:=tk }:=I.kept (t':=tk) hk;have Ny:(h'.push (seqObj "list" acc.toArray 0)).get? h'.objs.size=some (seqObj "list" acc.toArray 0):=il _ rfl;have ZG:H h'.objs.size=none:=I0.cY.fresh (cu _);have fD:ip X pins H h'.objs.size:=I0.Bh (cu _) ZG;have hD0:X.s₀.heap.objs.size≤h'.objs.size:=I0.sz;have hold:∀b o,h'.get? b=some o→b≠h'.objs.size:=fun b o q=>fT (dg q);show wpAny _ _ _ _ _ { s with heap:=h'.push (seqObj "list" acc.toArray 0),toks:=tk };have acD:(h'.push (seqObj "list" acc.toArray 0)).objs.size=h'.objs.size+1:=size_push' ..;have I1:Inv X pins σ H { s with heap:=h'.push (seqObj "list" acc.toArray 0),toks:=tk }:=I0.kept (t':=tk) fun b o q=>kz _ q;generalize hDD:h'.objs.size=D at *;refine bA (wm (wpAny_call_entry_kw slot_list_sort ⟨_,Ny,rfl⟩ entry_list_sort ?body (ksk_l1 _ _)))
  case body =>
    show wpAny (model X.prog X.w) X.A.in1.in1 (Builtin.«list.sort» ⟨[.ref D],[(Str.ofString "key",.ref fn)]⟩) _ _ _;rw[ksk_t1];refine zS (vs:=acc) (κ:=tuples' true) (lt:=fun i j=>pG (ds.getD i (0,[])) (ds.getD j (0,[])))
      (J:=fun kS e1 ks c s'=>D≠kS∧∃H' F' vk,Inv X ((kS,seqObj "list" ks.toArray c)::(D,seqObj "list" #[] e1)::pins) σ H' s'∧bB F H F' H'∧Vals vk ks∧Paired (pairAt H') vk (ds.take ks.length) ∧
        ip X ((D,seqObj "list" #[] e1)::pins) H kS) Ny (by omega) ?init ?get ?step ?kind ?run ?fin
    case init =>
      intro kS e1 h2 iJ hsz g1 g2 keep;have I2:Inv X pins σ H { s with heap:=h2,toks:=tk }:=I0.kept (t':=tk) fun b o q=>keep b o (hold b o q) (kz _ q);have f0:ip X pins H kS:=I1.Bh hsz (I1.cY.fresh hsz);have fk:ip X ((D,seqObj "list" #[] e1)::pins) H kS:=⟨f0.1,f0.2.1,f0.2.2.1,f0.2.2.2.1,f0.2.2.2.2.1,fun p hp=>by
        rcases mX.mp hp with q|q
        ·exact f0.2.2.2.2.2 p (A9 _ q)
        · rcases gw.mp q with rfl|q
          ·exact iJ
          ·exact f0.2.2.2.2.2 p (jV _ q)⟩
      exact⟨iJ,H,F,[],(I2.xO fD g2 nz).xO fk g1 nz,bB.refl b0,.nil,by simpa using Paired.nil,fk⟩
    case get =>
      rintro kS e1 ks c s' ⟨iJ,H',F',vk,I',_⟩;exact⟨iJ,(I'.pin (kS,_) (jV _ de)).1,(I'.pin (D,_) (jV _ (lJ _ de))).1⟩
    case step =>
      rintro kS e1 ks c s' x ⟨iJ,H',F',vk,I',g,rk,hp,fk⟩ hx;have hi:ks.length<acc.length:=by
        rcases Nat.lt_or_ge ks.length acc.length with q|q
        ·exact q
        ·rw[Df q] at hx;cases hx
      have ra:=bq Rx (i:=ks.length) (by omega) V.non Value.none;obtain⟨b,q1,q2⟩:=bq jc (i:=ks.length) (by omega) V.non (0,[]);rw[q1,nD,hx] at ra;have hxb:x=.ref b:=ra;subst hxb;have Om:ks.length<ds.length:=by omega
      have hee:ds.getD ks.length (0,[])=ds[ks.length]:=by rw[nD,mV Om];rfl
      rw[hee] at q2;have den:Den X.K F' (.tup (ds[ks.length].2.map DL.D.int)) (.ref b):=aN.mpr ⟨b,_,rfl,g.base.tup _ _ (g.ent _ _ q2) rfl,fW _⟩;refine pV (PH (Q:=fun v H2=>∃F2,bB F' H' F2 H2∧Den X.K F2 (fP ds[ks.length]) v) C hr I' (vs:=[.ref b]) (.cons rfl .nil) ⟨F',[.tup (ds[ks.length].2.map DL.D.int)],.sh (fP ds[ks.length]),g.base,⟨den,trivial⟩,hF _ (List.getElem_mem Om),fun v H2 F2 g2 dn=>⟨F2,g2,dn⟩⟩) (fun k wx hq=>?_) fun _ _ x=>x;obtain⟨v,H2,I2,rv,F2,g2,dn⟩:=hq;have Tj:=I2.pin (kS,_) (jV _ de);refine⟨Tj.1,fun h2 c2 sb gk=>⟨iJ,H2,F2,vk++[v],?_,g.trans g2,rk.append (.cons rv .nil),?_,fk⟩⟩
      ·have yh:=ip.re fk Tj.2.1;have I3:=Inv.turned (t':=wx.toks) (h':=h2) (it:=kS) I2.uj (fun b o hb e=>by rw[sb.2 b hb];exact e) yh.1 yh.2.1 yh.2.2.2.1 yh.2.2.2.2.1 yh.2.2.2.2.2;exact I3.xO yh gk nz
      ·rw[kI,List.length_singleton,List.take_succ_eq_append_getElem Om];exact Paired.snoc (Paired.Ln hp fun a b q=>q.same g2.ent) ((zx.mp dn).same g2.base.sub)
    case kind =>
      rintro kS e1 ks c s' ⟨iJ,H',F',vk,I',g,rk,hp,fk⟩ hlen h2 Q' hq;exact MC I' rk hp (by omega) hq
    case run =>
      rintro kS e1 ks c s' ⟨iJ,H',F',vk,I',g,rk,hp,fk⟩ hlen h2;rw[Hq (by omega)] at hp;refine HN _ _ _ _ _ _ _ (by omega) (by omega) (by omega) (fun i j C' hi hj hC=>?_);exact Ti (by rw[in1_units,in1_units];omega) I' rk hp (by omega) (by omega) hC
    case fin =>
      rintro kS e1 ks c s' p h3 h4 ck c2 ⟨iJ,H',F',vk,I',g,rk,hp,fk⟩ hlen hP hU sb1 gk sb2 gD;have Tj:=I'.pin (kS,_) (jV _ de);have hpD:=I'.pin (D,_) (jV _ (lJ _ de));have yh:ip X pins H' kS:=⟨Tj.2.1,fk.2.1,fk.2.2.1,fk.2.2.2.1,fk.2.2.2.2.1,fun p hp=>fk.2.2.2.2.2 p (by
        rcases mX.mp hp with q|q
        ·exact A9 _ q
        ·exact jV _ (lJ _ q))⟩
      have GD:ip X pins H' D:=ip.re fD hpD.2.1;have I4:=Inv.turned (t':=s'.toks) (h':=h3) (it:=kS) I'.uj.uj (fun b o hb e=>by rw[sb1.2 b hb];exact e) yh.1 yh.2.1 yh.2.2.2.1 yh.2.2.2.2.1 yh.2.2.2.2.2;have I5:=Inv.turned (t':=s'.toks) (h':=h4) (it:=D) I4 (fun b o hb e=>by rw[sb2.2 b hb];exact e) GD.1 GD.2.1 GD.2.2.2.1 GD.2.2.2.2.1 GD.2.2.2.2.2;rw[hl] at hP hU;have hm:∀i∈p.toList,i<ds.length:=fun i hi=>by have:=(De.mp hP.perm).mem_iff.mp hi;simpa using this
      have GF:(p.toList.map fun i=>kv.getD i V.non).length≤sizeLine:=by rw[g9,oo,hP.size,kD];omega
      have I6:=Inv.adopt (o:=.lst (p.toList.map fun i=>kv.getD i V.non)) I5 GD hD0 ⟨GF,p.toList.map fun i=>acc.getD i Value.none,c2,jx _ _ fun i hi=>bq Rx (by have:=hm i hi;omega) _ _,by simpa using gD⟩;have e0:hG ds=p.toList.map fun i=>ds.getD i (0,[]):=u9 A5 (DK _ hP) (qZ (0,[]) pG hP hU);refine⟨_,rfl,bj (W7 _ _ ⟨.ref D,_,I6,rfl,post D _ _ F' (g.trans (bB.own g.base GD.1 (.lst (p.toList.map fun i=>kv.getD i V.non)) GF rfl)) ZG (g.base.sub.free GD.1) aL ?_⟩)⟩;rw[e0,e8];refine rh.mpr (jx _ _ fun i hi=>?_);obtain⟨b,q1,q2⟩:=bq jc (i:=i) (by have:=hm i hi;omega) V.non (0,[]);rw[q1];exact aN.mpr ⟨b,_,rfl,g.base.tup _ _ (g.ent _ _ q2) rfl,fW _⟩
theorem Ei{Q:VK}{d:Addr}{ps:gq}{ws:List (List Key×V)}(hc:X.calm=true)(hu:X.A.units+5<cLine)(C:fV X.prog X.w X.K X.mg X.base k fn ps (cL X.K [true] Fn))(hr:fG k X.A.in1.in1)(I:Inv X pins σ H s)(b0:Base F H)(hd:Rd H d (.dT ws))(hw:ws.map (·.1)=ds.map fun e=>e.2.map Sum.inl)(hF:∀e∈ds,Fn [.tup (e.2.map D.int)]=some (.sh (fP e)))(A5:ds.Nodup)(tE:ds.length<64)(post:∀p vs H' F',bB F H F' H'→H p=none→F' p=none→H' p=some (.lst vs)→cz X.K F' ((hG ds).map fun e=>D.tup (e.2.map D.int)) vs→Q (.ref p) H'):wpAny (model X.prog X.w) X.A (call (.builtin "sorted") [.ref d] [(Str.ofString "key",.ref fn)]) (EP X pins σ Q) X.xe s:=by
  obtain⟨z,y,xs,r,o,es,ep,h1,h2,h3,h4,h5⟩:=(show cy X.prog X.w H s.heap d (.dT ws) from N7 I.cY hd)
  have hh:X.A.handled=none:=I.ok.hd hc;have lw:ws.length=ds.length:=by have:=g6 List.length hw;simpa using this
  have lx:xs.length=ws.length:=(wo r).symm;have UI:es.size=ds.length:=by have e1:=g6 List.length h4;rw[g9,oo] at e1;omega
  -- the keys as values
  have jc:Paired (Cu H) (xs.map fun q=>V.ref q.2.1) ds:=by
    have key:∀{l:List (List Key×V)} {m:List (List Key×Addr×Value)} {e:xX},Paired (fun(p:List Key×V) (q:List Key×Addr×Value)=>p.1=q.1∧H q.2.1=some (.tup (p.1.map kV))∧RelV p.2 q.2.2) l m→l.map (·.1)=e.map (fun e=>e.2.map Sum.inl)→Paired (Cu H) (m.map fun q=>V.ref q.2.1) e:=by
      intro l m e hp;induction hp generalizing e with
      |nil=>intro q;cases e with
       |nil=>exact .nil
       |cons _ _=>cases q
      |cons a _ ih =>
       intro q;cases e with
       |nil=>cases q
       |cons e0 er=>rw[bY,bY] at q;injection q with q1 q2;refine .cons ⟨_,rfl,?_⟩ (ih q2);rw[a.2.1,q1,e8];rfl
    exact key r hw
  refine call_function_entry_kw kind_sorted plain_sorted entry_sorted (ksk_s1 _ _) ?_;unfold Builtin.«sorted»;refine bA (m:=checkCount "sorted" 1 1 _) (bj ?_);refine bA (kdu_collect (A:=X.A.in1) (Tg y) hh ⟨o,h1,h2,h3⟩ (by rw[UI,kD];omega) fun h' tk acc hk vd=>?_);have hl:acc.toList.length=ds.length:=by rw[oo,vd.1,UI]
  have hv:acc.toList=xs.map fun q=>Value.ref q.2.1:=by
    have e1:acc.toList=es.toList.map (·.key):=by
      refine List.ext_getElem? fun j=>?_;rw[qG,Array.getElem?_toList,Array.getElem?_toList];cases hj:acc[j]? with
      |some v=>obtain⟨e,q1,q2⟩:=vd.2 j v hj;rw[q1,q2];rfl
      |none=>rw[Array.getElem?_eq_none_iff,vd.1] at hj;rw[Array.getElem?_eq_none hj];rfl
    rw[e1,h4,e8];rfl
  have Rx:Vals (xs.map fun q=>V.ref q.2.1) acc.toList:=by
    rw[hv];clear hv jc h4 h5 r lx;induction xs with
    |nil=>exact .nil
    |cons x xs ih=>exact .cons rfl ih
  generalize hV:(xs.map fun q=>V.ref q.2.1)=kv at jc Rx;have lkv:kv.length=ds.length:=by rw[←hV,g9];omega
  exact ve hu C hr I b0 hF A5 (by omega) (rK A5 tE) hk Rx jc (fun v s' q=>⟨_,rfl,q⟩) post
theorem Bv{Q:VK}{d:Addr}{ps:gq}{vs:List V}(hu:X.A.units+5<cLine)(C:fV X.prog X.w X.K X.mg X.base k fn ps (cL X.K [true] Fn))(hr:fG k X.A.in1.in1)(I:Inv X pins σ H s)(b0:Base F H)(hd:m4 X.K H d vs)(jc:Paired (Cu H) vs ds)(hF:∀e∈ds,Fn [.tup (e.2.map D.int)]=some (.sh (fP e)))(A5:ds.Nodup)(tE:ds.length≤64)(HN:rJ ds)(post:∀p vs H' F',bB F H F' H'→H p=none→F' p=none→H' p=some (.lst vs)→cz X.K F' ((hG ds).map fun e=>D.tup (e.2.map D.int)) vs→Q (.ref p) H'):wpAny (model X.prog X.w) X.A (call (.builtin "sorted") [.ref d] [(Str.ofString "key",.ref fn)]) (EP X pins σ Q) X.xe s:=by
  obtain⟨its,rv,hl,_⟩:=I.list hd;have l1:vs.length=its.length:=rv.length;have l2:vs.length=ds.length:=wo jc;refine call_function_entry_kw kind_sorted plain_sorted entry_sorted (ksk_s1 _ _) ?_;unfold Builtin.«sorted»;refine bA (m:=checkCount "sorted" 1 1 _) (bj ?_);refine bA (collect_list hl.isList ?_ (by rw[kD];omega));have keep:∀b o,s.heap.get? b=some o→((s.heap.push (seqObj "list" #[] 0)).update s.heap.objs.size (Obj.mapSeq (·++its.toArray))).get? b=some o:=fun b o q=>by have jL:b<s.heap.objs.size:=dg q;rw[Heap.get?_update_ne _ _ _ _ (fT jL),Heap.get?_push_ne _ _ _ (fT jL)];exact q
  exact ve (tk:=s.toks) hu C hr I b0 hF A5 tE HN keep rv jc (fun v s' q=>⟨_,rfl,q⟩) post
end
def sR:List Key→Option aO
  |[]=>some []
  |.inl i::r=>(sR r).map (i::·)
  |_=>none
theorem zU:∀{k:List Key} {t:aO},sR k=some t→k=t.map Sum.inl
  |[],t,h=>by cases h;rfl
  |.inl i::r,t,h=>by obtain⟨u,h1,rfl⟩:=gZ.mp h;rw[zU h1];rfl
  |.inr _::_,_,h=>by cases h
def rL(Fn:dm→eO)(t:aO):Option (Int×aO):=match Fn [.tup (t.map D.int)] with
  |some (.sh (.tup [.int l,.tup us]))=>if kF us=some t then some (l,t) else none
  |_=>none
theorem Cv{t:aO}{e:Int×aO}(h:rL Fn t=some e):e.2=t∧Fn [.tup (e.2.map D.int)]=some (.sh (fP e)):=by
  unfold rL at h;split at h
  · rename_i l us heq;split at h
    ·rename_i hu;cases h;refine⟨rfl,?_⟩;show Fn [.tup (t.map D.int)]=_;rw[heq,j6 hu];rfl
    ·cases h
  ·cases h
def vf(Fn:dm→eO):List (List Key×D)→Option xX
  |[]=>some []
  |kv::r=>(sR kv.1).bind fun t=>(rL Fn t).bind fun e=>(vf Fn r).map (e::·)
theorem zV{Fn:dm→eO}:∀{aX:List (List Key×D)} {ds:xX},vf Fn aX=some ds→aX.map (·.1)=ds.map (fun e=>e.2.map Sum.inl)∧∀e∈ds,Fn [.tup (e.2.map D.int)]=some (.sh (fP e))
  |[],ds,h=>by cases h;exact⟨rfl,fun _ z=>nomatch z⟩
  |kv::r,ds,h=>by
   obtain⟨t,h1,h⟩:=eJ.mp h;obtain⟨e,h2,h⟩:=eJ.mp h;obtain⟨tF,h3,rfl⟩:=gZ.mp h;obtain⟨a1,a2⟩:=zV h3;obtain⟨b1,b2⟩:=Cv h2;refine⟨by rw[bY,bY,a1,zU h1,b1],fun x hx=>?_⟩;rcases gw.mp hx with rfl|hx
   ·exact b2
   ·exact a2 x hx
theorem Ir{κ:Type}{K:PySem.W.Frag}{aX:List (κ×D)}{ws:List (κ×V)}(h:jM K F aX ws):aX.map (·.1)=ws.map (·.1):=by
  unfold jM at h;induction h with
  |nil=>rfl
  |cons a _ ih=>rw[bY,bY,a.1,ih]
section
variable {X:Cx} {z:Zc} {pos p px py kp:Pos}
def Ej(i:Nat)(Fn:dm→eO):LF:=fun η=>(dT i η).bind fun aX=>(vf Fn aX).bind fun ds=>if ds.Nodup∧ds.length<64 then some ((hG ds).map fun e=>D.tup (e.2.map D.int)) else none
theorem PJ(i:Nat){y:Str}{ps:gq}(hc:X.calm=true)(hu:X.A.units+5<cLine)(C:fV X.prog X.w X.K X.mg X.base k fn ps (cL X.K [true] Fn))(hr:fG (k+2) X.A)(Mv:Gl X "sorted")(D0:X.mg "sorted"=none)(hg:Gl X y)(hm:X.mg y=some (.ref fn))(hN:X.N[i]?=some x:=by rfl)(hv:FD X.env.scope x:=by first|exact Or.inl rfl|exact Or.inr (Or.inl rfl)|exact Or.inr (Or.inr rfl))(tm:(x==("__debug__":Str))=false:=by decide)(ow:(x==("__classdict__":Str))=false:=by decide)(hdy:(y==("__debug__":Str))=false:=by decide)(hs:starEach [Expr.Name x px] X.env=(false,eval (.Name x px) X.env)::starEach [] X.env:=by rfl):DO X z (.Call (.Name "sorted" p) [.Name x px] [⟨some "key",.Name y py,kp⟩] pos) (Ej i Fn):=by
  intro pins s σ H Q I ⟨η,F,tF,rl,e,kk⟩;unfold Ej at e;obtain⟨aX,h1,e⟩:=eJ.mp e;obtain⟨ds,h2,e⟩:=eJ.mp e;by_cases hl:ds.Nodup∧ds.length<64
  ·rw[az hl] at e;cases e;obtain⟨q,ws,h3,h4,h5⟩:=Kj rl h1;obtain⟨a1,a2⟩:=zV h2;refine wd (jX I Mv D0 nq ?_ (by decide) (by decide));refine PyProof.Rows.callWith_kw ?_ (by rw[hs];rfl) (by rw[hs];rfl) rfl rfl;refine gT (fh (kJ hN hv tm ow) kK hs pos pins s σ H (fun vs H1=>vs=[.ref q]∧H1=H) I ⟨_,h3,⟨rfl,rfl⟩⟩) fun us s1 ⟨vs,H1,I1,r1,e1,e2⟩=>?_;subst e1 e2;obtain⟨u,rfl,ru⟩:=vals1 r1;cases ru;show wpAny _ _ (evalAll ((do let v ←eval (.Name y py) X.env;standAt pos;pure v)::[])) _ _ s1;refine wpAny_evalAll_cons (bA (sC I1 hg hm (bA (wpAny_standAt (bj ?_))) hdy));refine wpAny_evalAll_nil ?_;exact Ei hc hu C hr.in1.in1 I1 rl.base h4 ((Ir h5).symm.trans a1) a2 hl.1 hl.2 fun p vs H' F' g q1 q2 q3 q4=>kk p vs H' F' g q1 q2 q3 q4
  ·rw[bh hl] at e;cases e
end
end DL
namespace DL
open PySem PySem.Spec L2
open PyProof.Rows hiding St pairAt
section
variable {X:Cx} {z:Zc} {e:Expr} {f:EF} {pos:Pos}
def xP(f:EF):SF:=fun η=>(f η).map fun _=>.nx η
theorem Ek(h:DE X z e f)(hs:swapsWith e none pos.line X.env=pure false:=by rfl):DS X z (.Expr e pos) (xP f):=PS.weak (JG h hs) fun D σ H ⟨η,F,o,r,e,k⟩=>by unfold xP at e;obtain⟨d,h1,rfl⟩:=gZ.mp e;exact⟨η,F,d,r,h1,fun v H' F' g q=>k σ H' F' (r.grow g) g.jy⟩
theorem Tn{n:Int}(hg:Gl X x)(hm:∃t,X.mg x=some (.int n t))(hd:(x==("__debug__":Str))=false:=by decide):DE X z (.Name x pos) (eC (.int n)):=by intro pins s σ H Q I ⟨η,F,d,r,e,k⟩;cases e;obtain⟨t,hm⟩:=hm;exact sC I hg hm ⟨.int n,H,I,⟨t,rfl⟩,k _ H F (bB.refl r.base) (aQ.mpr rfl)⟩ hd
end
end DL
namespace DL
open PySem L2
def MD:D→D→Option D
  |.tup x,.tup y=>if x.length+y.length≤1000 then some (.tup (x++y)) else none
  |_,_=>none
def Kw(f:EF):EF:=fun η=>(f η).bind fun d=>match d with|.int j=>if j≤1000∧-1000≤j then some (.tup (dk 0 j.toNat)) else none|_=>none
def GH:dm→Option (List aO)
  |[]=>some []
  |.tup ts::ds=>(kF ts).bind fun ns=>(GH ds).map (ns::·)
  |_::_=>none
def cR(t:aO):D:=.tup (t.map D.int)
theorem PK:∀{ds:dm} {ts:List aO},GH ds=some ts→ds=ts.map cR:=by
  intro ds;induction ds with
  |nil=>intro ts h;cases h;rfl
  |cons d ds ih =>
   intro ts h;cases d with
   |tup us=>obtain⟨ns,h1,h⟩:=eJ.mp h;obtain⟨r,h2,h3⟩:=gZ.mp h;subst h3;rw[ih h2,j6 h1];rfl
   |_=>cases h
theorem wQ:∀(ts:List aO),GH (ts.map cR)=some ts
  |[]=>rfl
  |t::ts=>by show(kF (t.map D.int)).bind (fun ns=>(GH (ts.map cR)).map (ns::·))=_;rw[du,wQ ts];rfl
def dX:aO→List aO
  |ns=>ns.foldl (fun told n=>told++told.map fun some=>some++[n]) [[]]
def zW:List aO:=dX [0,1,2,3,4,5]
def zX(Fn:dm→eO):List aO→Option xX
  |[]=>some []
  |t::r=>(rL Fn t).bind fun e=>(zX Fn r).map (e::·)
theorem Cw{Fn:dm→eO}:∀{ts:List aO} {ds:xX},zX Fn ts=some ds→ds.map (·.2)=ts∧∀e∈ds,Fn [.tup (e.2.map D.int)]=some (.sh (fP e))
  |[],ds,h=>by cases h;exact⟨rfl,fun _ z=>nomatch z⟩
  |t::r,ds,h=>by
   obtain⟨e,h2,h⟩:=eJ.mp h;obtain⟨tF,h3,rfl⟩:=gZ.mp h;obtain⟨a1,a2⟩:=Cw h3;obtain⟨b1,b2⟩:=Cv h2;refine⟨by rw[bY,a1,b1],fun x hx=>?_⟩;rcases gw.mp hx with rfl|hx
   ·exact b2
   ·exact a2 x hx
def vg(f:EF)(Fn:dm→eO):LF:=fun η=>(f η).bind fun d=>match d with
  |.lst ds=>(GH ds).bind fun ts=>(zX Fn ts).bind fun es=>if es.Nodup∧(es.length<64∨es=zW.map fun t=>((t.length:Int),t)) then some ((hG es).map fun e=>D.tup (e.2.map D.int)) else none
  |_=>none
end DL
namespace L2
open PySem PySem.Spec PyProof.Rows PySem.W Sj
section
variable {prog:Program} {w:World} {A:Around} {E:lr} {s:Shared} {r:Addr} {b:Int} {t u v:Tok} {n:Nat}
theorem El{R:ef→Shared→Prop}(hh:A.handled=none)(hr:IsRange s.heap r 0 b 1 t u v)(Hn:Builtin.Range.small 0 b 1=true)(hn:Builtin.Range.rangeSize 0 b 1=n)(hlen:n≤2^24)(h:∀(h':Heap) (tk:Nat) (acc:Array Value),(∀b o,s.heap.get? b=some o→h'.get? b=some o)→ItemsOf (fun i v=>∃t,v=.int ((0:Int)+(i:Int)*1) t) acc n→R acc.toList { s with heap:=h',toks:=tk }):wpAny (model prog w) A (collect (.ref r)) R E s:=by
  have quiet:=plainId_quiet PySem.F.plain_list_iadd;have key:∀R':Result→Shared→Prop,(∀h' tk acc c,(∀b o,s.heap.get? b=some o→h'.get? b=some o)→h'.get? s.heap.objs.size=some { cls:=.type "list",dict:=none,data:=.seq acc c,slots:=#[] } →
      ItemsOf (fun i v=>∃t,v=.int ((0:Int)+(i:Int)*1) t) acc n→R' (.ok (.ret (.ref s.heap.objs.size))) { s with heap:=h',toks:=tk })→codeAny (model prog w) A (.builtin "proto.collect" ⟨[.ref r],[]⟩) R' s:=fun R' q=>by
    have new:(s.heap.push { cls:=.type "list",data:=.seq ([]:ef).toArray }).get? s.heap.objs.size=some _:=il _ rfl;refine codeAny_builtin entry_proto_collect' ((Around.under_plainId PySem.F.plain_proto_collect _).symm▸bA (wpAny_newObj_type (bj ⟨quiet _,codeAny_builtin entry_list_iadd' ((Around.under_plainId PySem.F.plain_list_iadd _).symm▸bA (bj ?_))⟩)));exact wpAny_extend_range (s:={ s with heap:=s.heap.push { cls:=.type "list",data:=.seq ([]:ef).toArray } }) hh (kz _ hr) Hn hn hlen _ _ 0 new fun h' tk acc c k l i=>q h' tk acc c (fun b o e=>k b o (fT (dg e)) (kz _ e)) l i
  exact bA (wpAny_runValue (key _ fun h' tk acc c k l i=>bA (wpAny_load l (bj (h h' tk acc k i)))))
theorem Iu(Hn:Builtin.Range.small 0 b 1=true)(hn:Builtin.Range.rangeSize 0 b 1=n)(hlen:n≤2^24)(hz:n≤sizeLine)(r:Addr)(t u v:Tok):Meets (Builtin.«tuple.__new__» ⟨[.type "tuple",.ref r],[]⟩) (fun A R s=>A.handled=none∧IsRange s.heap r 0 b 1 t u v∧∀(s':Shared) (acc:Array Value),(∀b o,s.heap.get? b=some o→s'.heap.get? b=some o)→s'.gens=s.gens→s'.drawn=s.drawn→s'.os=s.os→ItemsOf (fun i v=>∃t,v=.int ((0:Int)+(i:Int)*1) t) acc n→R (.ok (.ret (.ref s'.heap.objs.size))) { s' with heap:=s'.heap.push { cls:=.type "tuple",data:=.seq acc } }) :=
  .of_wp fun prog w A R s ⟨hh,hr,h⟩=>by
    have c1:=sub_tuple_self;have c2:=init_tuple_lookup;have c3:=madeHere_tuple;have ty:s.TypeIs (.ref r) "range":=⟨_,hr,rfl⟩
    have h1:A.in1.handled=none:=by simpa using hh
    wp_walk using wpAny_typeOf ty,El (n:=n) h1 hr Hn hn hlen
    intro h' tk acc k i;exact bA (bj (bA (wpAny_newObj_type (bj ⟨_,rfl,by simpa using h { s with heap:=h',toks:=tk } acc k rfl rfl rfl i⟩) (by rw[Array.toArray_toList];show acc.size≤_;rw[i.1];exact hz))))
theorem wR(hh:A.handled=none)(hr:IsRange s.heap r 0 b 1 t u v)(Hn:Builtin.Range.small 0 b 1=true)(hn:Builtin.Range.rangeSize 0 b 1=n)(hlen:n≤2^24)(hz:n≤sizeLine)(h:∀(h':Heap) (tk:Nat) (acc:Array Value),(∀b o,s.heap.get? b=some o→h'.get? b=some o)→ItemsOf (fun i v=>∃t,v=.int ((0:Int)+(i:Int)*1) t) acc n→Q (.ref h'.objs.size) { s with heap:=h'.push { cls:=.type "tuple",data:=.seq acc },toks:=tk }):wpAny (model prog w) A (call (.type "tuple") [.ref r]) Q E s:=by
  refine callType_new PySem.F.called_tuple (by decide) (PySem.F.typeCall_tuple_1 _) (PySem.F.newCall_tuple_1 _) (fun obj=>PySem.F.args_object_init_2 obj _) PySem.F.entry_tuple_new
    (Iu Hn hn hlen hz r t u v) ⟨hh,hr,fun s' acc hk hg hd hos vd=>⟨⟨_,il _ rfl,rfl⟩,?_⟩⟩
  obtain⟨h',g',d',tk',os'⟩:=s';have e1:g'=s.gens:=hg;have e2:d'=s.drawn:=hd;have e3:os'=s.os:=hos;subst e1 e2 e3;exact h h' tk' acc hk vd
end
section
variable {X:Cx}
def ZH(K:PySem.W.Frag):R2:=fun x y H Q=>∃a b ys,x=.ref a∧y=.ref b∧kA K H a []∧kA K H b ys∧Q (.ref b) H
theorem Tp:qw X (binaryOp .Add) (ZH X.K):=by
  intro pins s σ H x y v u Q I rx ry h;obtain⟨a,b,ys,rfl,rfl,ha,hb,q⟩:=h;cases rx;cases ry;obtain⟨its,r1,p1,_⟩:=I.tuple ha;obtain⟨eK,r2,p2,_⟩:=I.tuple hb;have e0:its=[]:=r1.yx.mpr rfl;subst e0;obtain⟨⟨cls,dd,data,sl⟩,ho,hc,n,hd⟩:=id p1;obtain⟨⟨V0,Rn,data2,Ro⟩,LJ,N1,n2,hd2⟩:=id p2;simp only at hc hd N1 hd2;subst hc hd N1 hd2;exact concat_meets ⟨_,ho,rfl⟩ ⟨_,LJ,rfl⟩ noFill_tuple_add seq_tuple_add PySem.F.slot_tuple_add PySem.F.entry_tuple_add (PySem.F.args_tuple_add_2 _ _)
    (tuple_addW0 a b ([]:ef).toArray eK.toArray n n2 dd Rn sl Ro rfl) ⟨ho,LJ,⟨.ref b,H,I,rfl,q⟩⟩
end
section
variable {prog:Program} {w:World} {A:Around} {E:lr} {s:Shared}
theorem GJ{fin:Bool}{Q:Bool→Shared→Prop}:∀{ns ms:aO} {xs ys:ef} (i:Nat),Vals (ns.map V.int) xs→Vals (ms.map V.int) ys→fin=decide (ns.length<ms.length)→Q (HT.lexLt ns ms) s→KatLex prog w A true fin Q (xs.zip ys) i s
  |[],[],_,_,i,.nil,.nil,hf,h=>kat_nil (by rw[hf];exact h)
  |[],m::ms,_,_,i,.nil,.cons _ _,hf,h=>kat_nil (by rw[hf];exact h)
  |n::ns,[],_,_,i,.cons _ _,.nil,hf,h=>kat_nil (by rw[hf];exact h)
  |n::ns,m::ms,_,_,i,.cons rx tx,.cons ry ty,hf,h=>by
   obtain⟨t,rfl⟩:=rx;obtain⟨u,rfl⟩:=ry;rw[HT.nF] at h;refine kat_cons (SeqAt.EqAt.int_int _ _ _ _ _ _ _ _ (kat_go (fun e=>kat_yes ?_) (fun e=>kat_no ?_)))
   · have e':n=m:=by simpa using e
     rw[az e'] at h;exact GJ (i+1) tx ty (by rw[hf];simp) h
   · have e':¬ n=m:=by simpa using e
     rw[bh e'] at h;cases hi:(true&&i==0) with
     |true=>exact oneLt_int h
     |false=>exact kat_one _ _ (PyProof.Rows.lt_int h)
end
def oD(H:Hp)(v:V)(t:aO):Prop:=∃b,v=.ref b∧H b=some (.tup (t.map V.int))
section
variable {X:Cx}
theorem Iv(hd:ts.Nodup):lZ ts.length (fun i j=>HT.lexLt (ts.getD i []) (ts.getD j [])) where
  tr:=fun i j k _ _ _ h1 h2=>uP h1 h2
  Zb:=fun i j hi hj iJ h=>sG (fun q=>iJ (by
    rw[nD,nD,mV hi,mV hj] at q;exact(List.getElem_inj hd).mp q)) h
end
end L2
namespace DL
open PySem PySem.Spec L2 PySem.W Sj
open PyProof.Rows hiding St pairAt
section
variable {X:Cx} {z:Zc} {e a b:Expr} {f fa fb:EF} {pos p p' pos' py kp:Pos}
theorem MF{x y:D}(h:MD x y=some d):∃u v,x=.tup u∧y=.tup v∧u.length+v.length≤1000∧d=.tup (u++v):=by
  unfold MD at h;split at h
  · rename_i u v;by_cases hl:u.length+v.length≤1000
    ·rw[az hl] at h;cases h;exact⟨u,v,rfl,rfl,hl,rfl⟩
    ·rw[bh hl] at h;cases h
  ·cases h
theorem Tq(ha:DE X z a fa)(hb:DE X z b fb):DE X z (.BinOp a .Add b pos) (ag MD fa fb):=PE.weak (NK (Tp.or R4) ha hb) fun σ H Q ⟨η,F,d,r,e,k⟩=>by
  unfold ag at e;obtain⟨x,h1,e⟩:=eJ.mp e;obtain⟨y,h2,e⟩:=eJ.mp e;obtain⟨u,w,rfl,rfl,hl,rfl⟩:=MF e;refine⟨η,F,_,r,h1,fun v1 H1 F1 g1 q1=>⟨η,F1,_,r.grow g1,h2,fun v2 H2 F2 g2 q2=>?_⟩⟩;obtain⟨a1,vs,rfl,a2,a3⟩:=aN.mp (cA g2.jy _ _ q1);obtain⟨b1,ws,rfl,b2,b3⟩:=aN.mp q2;have l1:=bu a3;have l2:=bu b3;have A7:=g1.trans g2;cases u with
  |nil=>have e0:vs=[]:=bD.mp a3;subst e0;exact .inl ⟨a1,b1,ws,rfl,rfl,kA.of (g2.base.sub _ _ a2),kA.of (g2.base.sub _ _ b2),k _ H2 F2 A7 q2⟩
  |cons x u =>
   refine .inr ⟨a1,b1,vs,ws,rfl,rfl,kA.of (g2.base.sub _ _ a2),kA.of (g2.base.sub _ _ b2),fun z=>?_,Br (by omega),fun z=>?_,fun _ p hp=>?_⟩
   ·rw[z] at l1;cases l1
   ·rw[z] at l2;have:w=[]:=List.eq_nil_of_length_eq_zero l2;subst this;exact k _ H2 F2 A7 (by rw[uH];exact aN.mpr ⟨a1,vs,rfl,a2,a3⟩)
   ·have g3:=bB.put g2.base hp (.tup (vs++ws)) (show(vs++ws).length≤sizeLine by rw[kI];exact Br (by omega));exact k _ _ _ (A7.trans g3) (aN.mpr ⟨p,_,rfl,aL,bE g3.jy _ _ (oA a3 b3)⟩)
theorem Iw{acc:Array Value}(h:ItemsOf (fun i v=>∃t,v=.int ((0:Int)+(i:Int)*1) t) acc n):Vals ((List.range n).map fun(i:Nat)=>V.int (0+(i:Int))) acc.toList:=by
  obtain⟨hs,ha⟩:=h;have key:∀(l:ef) (k:Nat),(∀(i:Nat) (v:Value),l[i]?=some v→∃t,v=Value.int ((0:Int)+((k+i:Nat):Int)*1) t)→Vals ((List.range' k l.length).map fun(i:Nat)=>V.int (0+(i:Int))) l:=by
    intro l;induction l with
    |nil=>intro k _;exact .nil
    |cons v l ih=>intro k hv;rw[mW,List.range'_succ,bY];obtain⟨t,e⟩:=hv 0 v rfl;refine .cons ⟨t,by rw[e];simp⟩ (ih (k+1) fun i v' hi=>?_);obtain⟨t',e'⟩:=hv (i+1) v' (by simpa using hi);exact⟨t',by rw[e',show k+(i+1)=k+1+i by omega]⟩
  have q:=key acc.toList 0 fun i v hi=>by obtain⟨t,e⟩:=ha i v (by simpa using hi);exact⟨t,by rw[e,Nat.zero_add]⟩
  rw[oo,hs,←List.range_eq_range'] at q;exact q
theorem Iy{K:PySem.W.Frag}(n:Nat):cz K F (dk 0 n) ((List.range n).map fun(i:Nat)=>V.int (0+(i:Int))):=by have:=fW (K:=K) (F:=F) ((List.range n).map fun(i:Nat)=>(0:Int)+(i:Int));rw[e8,e8] at this;exact this
theorem Tr(hc:X.calm=true)(hg:Gl X "tuple")(hm:X.mg "tuple"=none)(hmr:X.mg "range"=none)(ha:DB X z e f)(hgr:Gl X "range":=by rfl)(hs:starEach [e] X.env=(false,eval e X.env)::starEach [] X.env:=by rfl)(Bi:starEach [Expr.Call (.Name "range" p') [e] [] pos'] X.env=(false,eval (.Call (.Name "range" p') [e] [] pos') X.env)::starEach [] X.env:=by rfl):DE X z (.Call (.Name "tuple" p) [.Call (.Name "range" p') [e] [] pos'] [] pos) (Kw f):=by
  intro pins s σ H Q I ⟨η,F,d,r,e0,k⟩;unfold Kw at e0;obtain⟨d',h1,e0⟩:=eJ.mp e0;refine wd (jX I hg hm yV ?_ (by decide) (by decide));refine Ft ?_ Bi rfl;rw[Bi];show wpAny _ _ (spliced ((false,eval (.Call (.Name "range" p') [e] [] pos') X.env)::backTo pos (starEach [] X.env))) _ _ s;refine Di ?_;refine wd (jX I hgr hmr boot_range ?_ (by decide) (by decide));refine Ft ?_ hs rfl;rw[hs];show wpAny _ _ (spliced ((false,eval e X.env)::backTo pos' (starEach [] X.env))) _ _ s;cases d' with
  |int j =>
   by_cases hj:j≤1000∧-1000≤j
   · have e1:d=.tup (dk 0 j.toNat):=by
       have:=e0;simp only[az hj] at this;exact(oq this).symm
     subst e1;refine Di (gT (ha pins s σ H (fun v H'=>v=.int j∧∃F',bB F H F' H') I ⟨η,F,_,r,h1,fun v H' F' g q=>⟨aQ.mp q,F',g⟩⟩) fun u s1 ⟨x,H1,I1,r1,q1⟩=>?_);obtain⟨rfl,F1,g1⟩:=q1;obtain⟨t,rfl⟩:=r1;refine Calls.spliced_nil ?_;refine call_range_1 ?_;refine Calls.spliced_nil ?_;have hh:X.A.handled=none:=I1.ok.hd hc;have hn:Builtin.Range.rangeSize 0 j 1=((j.toNat:Nat):Int):=by rw[rangeSize_one];split<;>omega
     refine wR hh (IsRange.new ..) (small_one (by omega) (by omega) (by omega) (by omega)) hn (by omega) (by rw[kD];omega) fun h' tk acc hk vd=>?_;have hv:=Iw vd;have keep:∀b o,s1.heap.get? b=some o→h'.get? b=some o:=fun b o q=>hk b o (kz _ q);have hsz:s1.heap.objs.size≤h'.objs.size:=by have:=hk _ _ (il s1.heap (o:={ cls:=.type "range",data:=.fields #[.int 0 s1.toks,.int j t,.int 1 (s1.toks+1)] }) rfl);exact Nat.le_of_lt (dg this)
     have hlen:((List.range j.toNat).map fun(i:Nat)=>V.int (0+(i:Int))).length≤sizeLine:=by rw[g9,List.length_range,kD];omega
     have JD:=I1.cY.fresh hsz;have g2:=bB.put g1.base JD (.tup ((List.range j.toNat).map fun(i:Nat)=>V.int (0+(i:Int)))) hlen;have ea:acc=acc.toList.toArray:=by simp
     refine⟨.ref h'.objs.size,_,I1.laid (a:=h'.objs.size) (o:=.tup ((List.range j.toNat).map fun(i:Nat)=>V.int (0+(i:Int)))) (t':=tk) (fun b o q=>kz _ (keep b o q)) hsz ⟨hlen,acc.toList,hv,?_⟩,rfl,k _ _ _ (g1.trans g2) (aN.mpr ⟨_,_,rfl,aL,Iy _⟩)⟩;rw[←ea];exact IsTup.new _ _
   ·simp only[bh hj] at e0;cases e0
  |_=>cases e0
theorem zY{K:PySem.W.Frag}{F:Hp}:∀{ts:List aO} {vs:List V},cz K F (ts.map cR) vs↔Paired (oD F) vs ts
  |[],vs=>by
   rw[ja,bD];constructor
   ·rintro rfl;exact .nil
   ·intro h;cases h;rfl
  |t::ts,vs=>by
   rw[bY,aP];constructor
   ·rintro⟨v,r,rfl,h1,h2⟩;obtain⟨a,ws,rfl,h3,h4⟩:=aN.mp h1;rw[iq h4] at h3;exact .cons ⟨a,rfl,h3⟩ (zY.mp h2)
   · intro h;cases h with
     |cons h1 h2=>obtain⟨b,rfl,h3⟩:=h1;exact⟨_,_,rfl,aN.mpr ⟨b,_,rfl,h3,fW _⟩,zY.mpr h2⟩
theorem ZI{a b:aO}:pG (0,a) (0,b)=HT.lexLt a b:=az rfl
def lu:xX:=zW.map fun t=>((t.length:Int),t)
theorem ZJ:((List.range 64).all fun i=>(List.range 64).all fun j=>pG (lu.getD i (0,[])) (lu.getD j (0,[]))==j9 i j)=true:=by decide +kernel
theorem PL:lu.length=64:=by decide +kernel
theorem GK:rJ lu:=fun prog w A E ks vs s h1 h2 h3 jL Q hQ=>by have eq:∀i j,i<64→j<64→pG (lu.getD i (0,[])) (lu.getD j (0,[]))=j9 i j:=fun i j hi hj=>eq_of_beq (iH.mp (iH.mp ZJ i (mY.mpr hi)) j (mY.mpr hj));rw[PL] at h1 h2;refine W6 (by omega) h2 (fun i j C hi hj hC=>jL i j C hi hj (by show C (pG (lu.getD i (0,[])) (lu.getD j (0,[]))) s;rw[eq i j (by omega) (by omega)];exact hC)) Q fun p st' a1 a2 a3 a4=>hQ p st' a1 a2 a3 fun i j wA hj=>?_;rw[h2] at a3;show pG (lu.getD (p.getD i 0) (0,[])) (lu.getD (p.getD j 0) (0,[]))=true;rw[eq _ _ (a3.lt (by decide) _) (a3.lt (by decide) _)];exact a4 i j wA hj
theorem MG{y:Str}{ps:gq}(hc:X.calm=true)(hu:X.A.units+5<cLine)(C:fV X.prog X.w X.K X.mg X.base k fn ps (cL X.K [true] Fn))(hr:fG (k+2) X.A)(Mv:Gl X "sorted")(D0:X.mg "sorted"=none)(hg:Gl X y)(hm:X.mg y=some (.ref fn))(ha:DE X z e f)(hdy:(y==("__debug__":Str))=false:=by decide)(hs:starEach [e] X.env=(false,eval e X.env)::starEach [] X.env:=by rfl):DO X z (.Call (.Name "sorted" p) [e] [⟨some "key",.Name y py,kp⟩] pos) (vg f Fn):=by
  intro pins s σ H Q I ⟨η,F,tF,rl,e0,kk⟩;unfold vg at e0;obtain⟨d',h1,e0⟩:=eJ.mp e0;cases d' with
  |lst ds0 =>
   obtain⟨ts,h2,e0⟩:=eJ.mp e0;obtain⟨ds,h3,e0⟩:=eJ.mp e0;by_cases hl:ds.Nodup∧(ds.length<64∨ds=zW.map fun t=>((t.length:Int),t))
   · rw[az hl] at e0;cases e0;obtain⟨a1,a2⟩:=Cw h3;have HN:rJ ds∧ds.length≤64:=by
       rcases hl.2 with q|q
       ·exact⟨rK hl.1 q,by omega⟩
       ·rw[q];exact⟨GK,Nat.le_of_eq PL⟩
     refine wd (jX I Mv D0 nq ?_ (by decide) (by decide));refine PyProof.Rows.callWith_kw ?_ (by rw[hs];rfl) (by rw[hs];rfl) rfl rfl;refine gT (fh ha kK hs pos pins s σ H (fun vs H1=>∃v F1,vs=[v]∧bB F H F1 H1∧Den X.K F1 (.lst ds0) v) I ⟨η,F,_,rl,h1,fun v H1 F1 g1 q1=>⟨v,F1,rfl,g1,q1⟩⟩) fun us s1 ⟨vs,H1,I1,r1,q1⟩=>?_;obtain⟨v,F1,rfl,g1,q1⟩:=q1;obtain⟨q,ws,rfl,h4,h5⟩:=aW.mp q1;obtain⟨u,rfl,ru⟩:=vals1 r1;cases ru;rw[PK h2] at h5;have jc:Paired (Cu H1) ws ds:=by
       have h6:=zY.mp h5;rw[←a1] at h6;have key:∀{l:List V} {m:xX},Paired (oD F1) l (m.map (·.2))→Paired (Cu H1) l m:=by
         intro l m;induction m generalizing l with
         |nil=>intro h;cases h;exact .nil
         |cons x m ih =>
          intro h;cases h with
          |cons h1 h2=>obtain⟨b,rfl,h3⟩:=h1;exact .cons ⟨b,rfl,g1.base.sub _ _ h3⟩ (ih h2)
       exact key h6
     show wpAny _ _ (evalAll ((do let v ←eval (.Name y py) X.env;standAt pos;pure v)::[])) _ _ s1;refine wpAny_evalAll_cons (bA (sC I1 hg hm (bA (wpAny_standAt (bj ?_))) hdy));refine wpAny_evalAll_nil ?_;exact Bv hu C hr.in1.in1 I1 g1.base (g1.base.sub.seq h4) jc a2 hl.1 HN.2 HN.1 fun p vs H' F' g q1 q2 q3 q4=>kk p vs H' F' (g1.trans g) (g1.ent.free q1) q2 q3 q4
   ·rw[bh hl] at e0;cases e0
  |_=>cases e0
end
end DL
namespace DL
open PySem PySem.Spec L2
open PyProof.Rows hiding St pairAt
def minD:dm→Option D
  |[.int i,.int j]=>some (.int (if j<i then j else i))
  |_=>none
def Ts(f:EF)(b:BF):SF:=fun η=>(f η).bind fun d=>(b d η).map .nx
section
variable {X:Cx} {z:Zc} {e a b:Expr} {f fa fb fk:EF} {pos p:Pos} {K:PySem.W.Frag}
theorem W8:J8 K minD (fun xs H Q=>∃i j,xs=[.int i,.int j]∧Q (.int (if j<i then j else i)) H):=fun F H ds d vs Q b e h k=>by
  unfold minD at e;split at e
  ·rename_i i j;cases e;obtain⟨v,r,rfl,h1,h2⟩:=aP.mp h;obtain⟨w,rfl,h3⟩:=Ga h2;exact⟨i,j,by rw[aQ.mp h1,aQ.mp h3],k _ (aQ.mpr rfl)⟩
  ·cases e
theorem W9{bf:BF}(he:DE X z e f)(hg:DG X z true tg bf)(hs:swapsWithSole [tg] e pos.line X.env=pure false:=by rfl)(hw:swappedStores [tg] e X.env=pure none:=by rfl)(h1:(assignEach [tg] X.env).map (·.2)=[assign tg X.env]:=by rfl):DS X z (.Assign [tg] e pos) (Ts f bf):=PS.weak (Vy he hg hs hw h1) fun D σ H ⟨η,F,o,r,e,k⟩=>by
  unfold Ts at e;obtain⟨d,e1,e2⟩:=eJ.mp e;obtain⟨η',e3,rfl⟩:=gZ.mp e2;exact⟨η,F,d,r,e1,fun v H1 F1 g1 q1=>⟨η,F1,d,η',r.grow g1,q1,e3,fun σ' r'=>k σ' H1 F1 r' g1.jy⟩⟩
end
end DL
namespace RV
open PySem PySem.Spec PySem.Calls
open PyProof.Rows hiding St pairAt
theorem jd:Slot "reversed" "__next__" "reversed.__next__":=Slot.of (owner:="reversed") (n:="__next__") (by rw[typeLookup_type,Fv];kernel_rfl) (by decide +kernel) (by decide +kernel) (by decide +kernel) (.inl (by decide +kernel)) (by rw[isSubtype_type];kernel_rfl)
theorem tW:Slot "reversed" "__iter__" "reversed.__iter__":=Slot.of (owner:="reversed") (n:="__iter__") (by rw[typeLookup_type,Fv];kernel_rfl) (by decide +kernel) (by decide +kernel) (by decide +kernel) (.inl (by decide +kernel)) (by rw[isSubtype_type];kernel_rfl)
theorem oS:Slot "reversed" "__length_hint__" "reversed.__length_hint__":=Slot.of (owner:="reversed") (n:="__length_hint__") (by rw[typeLookup_type,Fv];kernel_rfl) (by decide +kernel) (by decide +kernel) (by decide +kernel) (.inr (by decide +kernel)) (by rw[isSubtype_type];kernel_rfl)
theorem Bw:Slot "reversed" "__init__" "object.__init__":=Slot.of (owner:="object") (n:="__init__") (by rw[typeLookup_type,Fv];kernel_rfl) (by decide +kernel) (by decide +kernel) (by decide +kernel) (.inl (by decide +kernel)) (by rw[isSubtype_type];kernel_rfl)
theorem rM:entryFor table "reversed.__next__"=some Builtin.«reversed.__next__»:=entryFor_of_tree (by kernel_rfl)
theorem zZ:entryFor table "reversed.__length_hint__"=some Builtin.«reversed.__length_hint__»:=entryFor_of_tree (by kernel_rfl)
theorem z0:entryFor table "reversed.__iter__"=some Builtin.«dict_keyiterator.__iter__»:=entryFor_alias (id':="dict_keyiterator.__iter__") (by kernel_rfl) (by decide +kernel) (by decide +kernel) (by kernel_rfl)
theorem tX(a:Value):argsOk "reversed.__next__" ⟨[a],[]⟩:=by unfold argsOk;kernel_rfl
theorem Bx(a:Value):argsOk "reversed.__iter__" ⟨[a],[]⟩:=by unfold argsOk;kernel_rfl
theorem By(a:Value):argsOk "reversed.__length_hint__" ⟨[a],[]⟩:=by unfold argsOk;kernel_rfl
theorem Iz:TypeCalled "reversed" "reversed.__new__" "object.__init__" :=
  ⟨by decide +kernel,by decide +kernel,⟨_,_,F.mro_reversed⟩,F.made_reversed,by decide +kernel,by rw[isSubtype_type];kernel_rfl,Bw⟩
theorem Em:typeLookup (.type "tuple") "__reversed__"=pure none:=by rw[typeLookup_type,Fv];kernel_rfl
theorem IA:typeLookup (.type "reversed") "__len__"=pure none:=by rw[typeLookup_type,Fv];kernel_rfl
theorem Bz:isSubtype (.type "tuple") (.type "dict")=pure false:=by rw[isSubtype_type];kernel_rfl
section
variable {prog:Program} {w:World} {A:Around} {E:lr} {s:Shared} {t r:Addr} {items:Array Value}
def PN(t:Addr)(i:Int):Obj:={ cls:=.type "reversed",data:=.fields #[.ref t,rawInt i] }
theorem PQ(t:Addr)(items:Array Value)(qX:(items.size:Int)<2^63):Meets (Builtin.«reversed.__new__» ⟨[.type "reversed",.ref t],[]⟩) (fun A R s=>IsTup s.heap t items∧∀tk,R (.ok (.ret (.ref s.heap.objs.size))) { s with heap:=s.heap.push (PN t ((items.size:Int)-1)),toks:=tk }) :=
  .of_wp fun prog w A R s ⟨ht,h⟩=>by have ty:=ht.typeIs;refine bA (wpAny_of_eq (newClass_reversed _) (bA (bj (bA (bj (bA (wpAny_specialOf ty Em (bA ?_))))))));refine bA (wpAny_isInstance ty Bz (bA (wpAny_specialOf ty slot_tuple_getitem.lookup ?_)));refine bj (bA (len_tuple ht qX (bA (bj (bA ?_)))));exact wpAny_newObj_type (data:=.fields #[.ref t,rawInt ((items.size:Int)-1)]) (bj ⟨_,rfl,h _⟩)
theorem tI(ht:IsTup s.heap t items)(qX:(items.size:Int)<2^63)(h:∀tk,Q (.ref s.heap.objs.size) { s with heap:=s.heap.push (PN t ((items.size:Int)-1)),toks:=tk }):wpAny (model prog w) A (call (.type "reversed") [.ref t]) Q E s :=
  callType_new Iz (by decide) (F.typeCall_reversed_1 _) (F.newCall_reversed_1 _) (fun obj=>F.args_object_init_2 obj _) F.entry_reversed_new
    (PQ t items qX) ⟨ht,fun tk=>⟨⟨_,il _ rfl,rfl⟩,h tk⟩⟩
def wU(h:Heap)(r t:Addr)(i:Int):Prop:=∃o,h.get? r=some o∧o.cls=.type "reversed"∧o.data=.fields #[.ref t,rawInt i]
theorem wU.typeIs{i:Int}(x:wU s.heap r t i):s.TypeIs (.ref r) "reversed":=let ⟨o,ho,hc,_⟩:=x;⟨o,ho,hc⟩
theorem wU.at{i:Int}(x:wU h r t i)(e:∀o,h.get? r=some o→h'.get? r=some o):wU h' r t i:=let ⟨o,ho,q⟩:=x;⟨o,e _ ho,q⟩
theorem next_item{x:Value}{Q:mR→Shared→Prop}(hit:wU s.heap r t (i:Int))(ht:IsTup s.heap t items)(hx:items[i]?=some x)(qX:(items.size:Int)<2^63)(hQ:∀h' tk,wU h' r t ((i:Int)-1)→Heap.SameBut r s.heap h'→Q (some x) { s with heap:=h',toks:=tk }):wpAny (model prog w) A (pyNext (.ref r)) Q E s:=by
  have ty:=hit.typeIs;obtain⟨⟨oc,odi,oda,Hm⟩,ho,hc,hd⟩:=hit;cases hc;cases hd;have hi:i<items.size:=(Array.getElem?_eq_some_iff.mp hx).1;have ix:seqIndex? (i:Int) items.size=some i:=by unfold seqIndex?;simp;omega
  refine bA (wpAny_attempt (wpAny_callSpecial?_slot ty jd (x5 jd ty rM (bA (bj (bA (wpAny_field ho rfl rfl (bA (wpAny_field ho rfl rfl ?_)))))) (tX _))));have ge:¬ ((i:Int)<0):=by omega
  refine ti (fun c=>absurd c ge) fun _=>bA (wpAny_specialOf ht.typeIs slot_tuple_getitem.lookup (bA (wpAny_mkInt (bA (wpAny_attempt (getItem_tuple (s:={ s with toks:=s.toks+1 }) (j:=i) ht (by omega) (by omega) ix hx ?_))))));refine bA (wpAny_field (s:={ s with toks:=s.toks+1 }) ho rfl rfl (bA (wpAny_setField (s:={ s with toks:=s.toks+1 }) ho rfl (by simp) (bj ⟨x,rfl,bj (hQ _ _ ⟨_,Ba _ ho rfl,rfl,?_⟩ (wc ..))⟩))));simp[Obj.mapFields]
theorem next_end{Q:mR→Shared→Prop}(hh:A.handled=none)(hit:wU s.heap r t (-1))(hQ:∀h',Heap.ExtBut r s.heap h'→Q none { s with heap:=h' }):wpAny (model prog w) A (pyNext (.ref r)) Q E s:=by
  have ty:=hit.typeIs;obtain⟨⟨oc,odi,oda,Hm⟩,ho,hc,hd⟩:=hit;cases hc;cases hd;have h1:A.in1.handled=none:=by simpa using hh
  refine bA (wpAny_attempt (wpAny_callSpecial?_slot ty jd (x5 jd ty rM (bA (bj (bA (wpAny_field ho rfl rfl (bA (wpAny_field ho rfl rfl ?_)))))) (tX _))));refine ti (fun _=>bA (wpAny_rule (bA ?_))) fun c=>absurd (by decide) c;have up:=Ba (Obj.mapFields fun x=>x.setIfInBounds 1 (rawInt (-1))) ho rfl;refine bA (wpAny_setField ho rfl (by simp) (wpAny_setField up rfl (by simp[Obj.mapFields]) (bA ?_)));unfold Builtin.SmallTypes.stopIteration
  wp_walk
  unfold raiseNew;refine bA (wpAny_handled ?_);rw[h1];refine bA (bj (wpAny_throw ?_));refine bA (wpAny_isInstance ⟨_,il _ rfl,rfl⟩ isSubtype_stop (bj (hQ _ fun b o n e=>?_)));exact kz _ (kz _ (((wc ..).trans (wc ..)).extBut b o n e))
theorem Cy{i:Int}(hit:wU s.heap r t i)(h:Q (.ref r) s):wpAny (model prog w) A (pyIter (.ref r)) Q E s :=
  wpAny_pyIter_slot hit.typeIs tW (x5 tW hit.typeIs z0 (bj ⟨_,rfl,"reversed",_,hit.typeIs,jd.lookup,h⟩) (Bx _))
theorem MH(hh:A.handled=none)(r t:Addr)(iJ:t≠r)(items:Array Value)(qX:(items.size:Int)<2^63) :
    Walks prog w A r [r,t] [r] items.size (fun i v=>items[items.size-1-i]?=some v) (fun i h=>i≤items.size∧wU h r t ((items.size:Int)-1-(i:Int))∧IsTup h t items) where
  sub:=fun b m=>gw.mpr (.inl (List.mem_singleton.mp m))
  frame:=fun _ _ _ ⟨l,j,o,ho,q⟩ k=>⟨l,j.at fun o e=>k r (by simp) o e,o,k t (by simp) o ho,q⟩
  self:=fun _ _ _ _ x q=>Cy x.2.1 q
  item:=fun i s Q E hi ⟨_,j,jt⟩ q=>by
    obtain⟨k,hk⟩:∃k,k=items.size-1-i:=⟨_,rfl⟩
    rw[show(items.size:Int)-1-(i:Int)=(k:Int) by omega] at j;have at':items[k]?=some (items[k]'(by omega)):=A8 (by omega);exact next_item j jt at' qX fun h' tk j' s'=>q _ h' tk (hk▸at') ⟨hi,(show(k:Int)-1=(items.size:Int)-1-((i+1:Nat):Int) by omega)▸j',jt.extBut s'.extBut iJ⟩ fun b o n e=>s'.extBut b o (fun z=>n (List.mem_singleton.mpr z)) e
  done:=fun s Q E ⟨_,j,_⟩ q=>next_end hh ((show(items.size:Int)-1-(items.size:Int)=-1 by omega)▸j) fun h' x=>q h' s.toks fun b o n e=>x b o (fun z=>n (List.mem_singleton.mpr z)) e
theorem PR{Q:Bool→Shared→Prop}(hit:wU s.heap r t ((items.size:Int)-1))(ht:IsTup s.heap t items)(hz:items.size≤sizeLine)(qX:(items.size:Int)<2^63)(h:∀b tk,Q b { s with toks:=tk }):wpAny (model prog w) A (Builtin.List.listLengthHint (.ref r)) Q E s:=by
  have ty:=hit.typeIs;obtain⟨⟨oc,odi,oda,Hm⟩,ho,hc,hd⟩:=hit;cases hc;cases hd;have f1:Builtin.List.listFitsIndex (items.size:Int)=true:=by simp only[Builtin.List.listFitsIndex,t9,Bb];omega
  have f2:Builtin.List.listTooLong items.size=false:=lL (by omega);refine bA (wpAny_specialOf ty IA ?_);refine ti (fun c=>nomatch c) fun _=>ti (fun c=>nomatch c) fun _=>?_;refine bA (wpAny_specialOf ty oS.lookup ?_);have sp:splitId "reversed.__length_hint__"=some ("reversed","__length_hint__"):=by decide +kernel
  dsimp only;rw[sp];refine bA (wpAny_isInstance (b:=true) ty F.sub_reversed_self (ti (fun c=>nomatch c) fun _=>ti (fun c=>absurd c (by decide +kernel)) fun _=>bA (wpAny_rule (bA (wpAny_of_eq (oS.bind _) (bA (wpAny_attempt (x5 oS ty zZ ?_ (By _)))))))));refine bA (bj (bA (wpAny_field ho rfl rfl (ti (fun c=>nomatch c) fun _=>bA (len_tuple ht qX (bA (bj (bA (wpAny_field (s:={ s with toks:=s.toks+1+1 }) ho rfl rfl ?_)))))))));refine ti (fun c=>absurd c (by omega)) fun _=>bA (wpAny_mkInt (bj ⟨_,rfl,bA (bj ?_)⟩));have e:(items.size:Int)-1+1=(items.size:Int):=by omega
  dsimp only;rw[e,f1,Int.toNat_natCast,f2];exact ti (fun c=>nomatch c) fun _=>ti (fun c=>absurd c (by omega)) fun _=>bj (h _ _)
theorem IB{R:Result→Shared→Prop}(hh:A.handled=none)(hit:wU s.heap r t ((items.size:Int)-1))(ht:IsTup s.heap t items)(iJ:t≠r)(hz:items.size≤sizeLine)(qX:(items.size:Int)<2^63)(S:Addr)(hSr:S≠r)(hSt:S≠t)(res:Value)(c₀:Nat)(hS:s.heap.get? S=some { cls:=.type "list",data:=.seq #[] c₀ })(hR:∀h' tk PV c',(∀b o,b≠S→b≠r→s.heap.get? b=some o→h'.get? b=some o)→h'.get? S=some { cls:=.type "list",dict:=none,data:=.seq PV c',slots:=#[] }→ItemsOf (fun i v=>items[items.size-1-i]?=some v) PV items.size→R (.ok (.ret res)) { s with heap:=h',toks:=tk }) :
    wpAny (model prog w) A.in1 (Builtin.List.listExtendWith (.ref S) (.ref r) res) (fun fin s'=>match fin with|.done f=>R (.ok f) s'|.again c'=>c'.quiet=true∧codeAny (model prog w) A c' R s') (fun e s'=>R (.error e) s') s:=by
  have W:=MH (prog:=prog) (w:=w) (A:=A.in1) (by simpa using hh) r t iJ items qX;have out:S∉[r,t]:=by simp[hSr,hSt]
  have go:∀(h:Heap) (c tk:Nat),(∀b o,b≠S→s.heap.get? b=some o→h.get? b=some o)→h.get? S=some { cls:=.type "list",data:=.seq #[] c }→codeAny (model prog w) A (.builtin "list.extend.loop" ⟨[.ref S,.ref r,res],[]⟩) R { s with heap:=h,toks:=tk }:=fun h c tk k l=>by have st:=W.frame 0 s.heap h ⟨qQ _,by simpa using hit,ht⟩ fun b m o e=>k b o (fun z=>out (z▸m)) e;refine codeAny_extend_loopS W.toS hz S out res items.size 0 _ #[] c rfl (qQ _) st l (ItemsOf.nil _) fun s' acc c' m l' i=>?_;rw[Moved.eq_with m];exact hR _ _ acc c' (fun b o n1 n2 e=>m.heap b o (by simp[n1,n2]) (k b o n1 e)) l' i
  have quiet:=plainId_quiet PySem.F.plain_extend_loop;have c1:Builtin.List.listSameRef (.ref S) (.ref r)=false:=by simp[Builtin.List.listSameRef,hSr]
  have c2:((Value.type "reversed"==Value.type "list")||(Value.type "reversed"==Value.type "tuple"))=false:=by decide
  unfold Builtin.List.listExtendWith;refine bA (wpAny_typeOf hit.typeIs ?_);simp only[c1,c2,Bool.or_false,Bool.false_or,yK,pD];refine bA (Cy hit (bA (wm (PR hit ht hz qX fun b tk=>ti (fun _=>bA (wpAny_rule (bA ?_))) fun _=>bj ⟨quiet _,go _ c₀ _ (fun _ _ _ e=>e) hS⟩))));have l2:=Ba (Obj.mapSeq (·.push Value.none)) hS rfl;refine bA (wpAny_updateSeq (s:={ s with toks:=tk }) hS rfl (wpAny_updateSeq (hz:=by seq_fits) l2 rfl (bj ⟨quiet _,go _ _ _ (fun b o n e=>?_) (Ba (Obj.mapSeq (·.pop)) l2 rfl)⟩)));rw[Heap.get?_update_other _ _ (Ne.symm n),Heap.get?_update_other _ _ (Ne.symm n)];exact e
theorem BD(hh:A.handled=none)(hit:wU s.heap r t ((items.size:Int)-1))(ht:IsTup s.heap t items)(iJ:t≠r)(hz:items.size≤sizeLine)(qX:(items.size:Int)<2^63)(hQ:∀h' tk PV c',(∀b o,b≠r→s.heap.get? b=some o→h'.get? b=some o)→h'.get? s.heap.objs.size=some { cls:=.type "list",dict:=none,data:=.seq PV c',slots:=#[] }→ItemsOf (fun i v=>items[items.size-1-i]?=some v) PV items.size→Q (.ref s.heap.objs.size) { s with heap:=h',toks:=tk }):wpAny (model prog w) A (call (.type "list") [.ref r]) Q E s:=by
  have new:(s.heap.push { cls:=.type "list",data:=.seq #[] }).get? s.heap.objs.size=some { cls:=.type "list",data:=.seq #[] }:=il _ rfl;have nr:r≠s.heap.objs.size:=let ⟨_,e,_⟩:=hit;fT (dg e)
  have nt:t≠s.heap.objs.size:=let ⟨_,e,_⟩:=ht;fT (dg e)
  have kp:∀b o,b≠s.heap.objs.size→s.heap.get? b=some o→((s.heap.push { cls:=.type "list",data:=.seq #[] }).update s.heap.objs.size (Obj.mapSeq (fun _=>(#[]:Array Value)))).get? b=some o:=fun b o n e=>(Heap.get?_update_other _ _ (Ne.symm n)).trans (kz _ e);refine callType_codes (Q₁:=fun obj s₁=>obj=.ref s.heap.objs.size∧s₁={ s with heap:=s.heap.push { cls:=.type "list",data:=.seq #[] } }) PySem.F.called_list (PySem.F.typeCall_list_1 _) PySem.F.entry_list_init (code_list_new _ ⟨rfl,rfl⟩) fun obj s₁ ⟨e1,e2⟩=>?_;subst e1 e2;refine⟨⟨_,new,rfl⟩,PySem.F.args_list_init_2 _ _,bA (bA (wpAny_seqItems new rfl (bj (bA (wpAny_updateSeq new rfl (bA (wpAny_letGo ?_)))))))⟩;exact IB (A:=A.in1) (by simpa using hh) (hit.at fun o e=>kp r o nr e) (let ⟨o,e,q⟩:=ht;⟨o,kp t o nt e,q⟩) iJ hz qX _ (Ne.symm nr) (Ne.symm nt) .none _ (Ba _ new rfl) fun h' tk acc c k l i=>⟨rfl,hQ h' tk acc c (fun b o n e=>k b o (fT (dg e)) n (kp b o (fT (dg e)) e)) l i⟩
end
end RV
namespace DL
open PySem PySem.Spec L2 NS RV
open PyProof.Rows hiding St pairAt
section
variable {X:Cx} {z:Zc} {e a b:Expr} {f fa fb fk fv:EF} {fl fs:LF} {pos p p' pos':Pos} {g:SF} {st:Stmt} {es:List Expr} {ms:List Bool} {te:TE}
theorem boot_reversed:bootBuiltins "reversed"=some (.type "reversed"):=by decide +kernel
def ZK(K:PySem.W.Frag)(te:TE):TE:=fun σ H Q=>te σ H fun x H1=>∃a ws,x=.ref a∧kA K H1 a ws∧∀l,H1 l=none→Q (.ref l) (upd H1 l (.lst ws.reverse))
theorem PX:∀{xs:List V} {us:ef},Vals xs us→Vals xs.reverse us.reverse:=fun {xs us} h=>by
  induction h with
  |nil=>exact .nil
  |cons r t ih=>rw[List.reverse_cons,List.reverse_cons];exact ih.append (.cons r .nil)
theorem MJ{acc:Array Value}{its:ef}(h:ItemsOf (fun i v=>its.toArray[its.toArray.size-1-i]?=some v) acc its.toArray.size):acc.toList=its.reverse:=by
  obtain⟨h1,h2⟩:=h;have h1:acc.size=its.length:=h1.trans kC;refine List.ext_getElem? fun i=>?_;by_cases hi:i<its.length
  · have Rp:i<acc.size:=by omega
    have:=h2 i acc[i] (A8 Rp);rw[List.getElem?_reverse hi,Array.getElem?_toList,A8 Rp,←this];simp
  ·rw[Df (by rw[oo];omega),Df (by rw[List.length_reverse];omega)]
theorem Tt(hc:X.calm=true)(Mv:Gl X "list")(D0:X.mg "list"=none)(hg:Gl X "reversed")(hm:X.mg "reversed"=none)(he:PE X e te)(hs:starEach [e] X.env=(false,eval e X.env)::starEach [] X.env:=by rfl)(Bi:starEach [Expr.Call (.Name "reversed" p') [e] [] pos'] X.env=(false,eval (.Call (.Name "reversed" p') [e] [] pos') X.env)::starEach [] X.env:=by rfl):PE X (.Call (.Name "list" p) [.Call (.Name "reversed" p') [e] [] pos'] [] pos) (ZK X.K te):=by
  intro pins s σ H Q I h;refine wd (jX I Mv D0 DC ?_ (by decide) (by decide));refine Ft ?_ Bi rfl;rw[Bi];show wpAny _ _ (spliced ((false,eval (.Call (.Name "reversed" p') [e] [] pos') X.env)::backTo pos (starEach [] X.env))) _ _ s;refine Di ?_;refine wd (jX I hg hm boot_reversed ?_ (by decide) (by decide));refine Ft ?_ hs rfl;rw[hs];show wpAny _ _ (spliced ((false,eval e X.env)::backTo pos' (starEach [] X.env))) _ _ s;refine Di (gT (he pins s σ H _ I h) fun u s1 ⟨x,H1,I1,r1,q1⟩=>?_);refine Calls.spliced_nil ?_;obtain⟨a,ws,rfl,hq,hk⟩:=q1;cases r1;obtain⟨its,rv,ht,hz⟩:=I1.tuple hq;have hh:X.A.handled=none:=I1.ok.hd hc;have hz1:its.toArray.size≤sizeLine:=by have:=rv.length;rw[kC,←this];exact hz
  have qX:(its.toArray.size:Int)<2^63:=by
    have h2:sizeLine<2^63:=by rw[kD];decide
    omega
  refine tI ht qX fun tk=>?_;refine Calls.spliced_nil ?_;have jL:a<s1.heap.objs.size:=let ⟨_,ho,_⟩:=ht;dg ho
  refine BD (t:=a) (items:=its.toArray) hh ⟨_,il _ rfl,rfl,rfl⟩ (ht.push _) (fT jL) hz1 qX fun h' tk' acc c' hk2 Rw vd=>?_;have keep:∀b o,s1.heap.get? b=some o→h'.get? b=some o:=fun b o q=>hk2 b o (fT (dg q)) (kz _ q);have hsz:s1.heap.objs.size≤(s1.heap.push (PN a ((its.toArray.size:Int)-1))).objs.size:=by rw[Heap.size_push];exact Nat.le_succ _
  have ea:acc=its.reverse.toArray:=by rw[←MJ vd]
  rw[ea] at Rw
  refine⟨.ref _,_,I1.laid (o:=.lst ws.reverse) (t':=tk') keep hsz ⟨?_,its.reverse,c',PX rv,Rw⟩,rfl,hk _ (I1.cY.fresh hsz)⟩;rw[List.length_reverse];exact hz
def Kx(f:EF):LF:=fun η=>(f η).bind fun d=>match d with|.tup ds=>some ds.reverse|_=>none
theorem Tv(hc:X.calm=true)(Mv:Gl X "list")(D0:X.mg "list"=none)(hg:Gl X "reversed")(hm:X.mg "reversed"=none)(ha:DE X z e f)(hs:starEach [e] X.env=(false,eval e X.env)::starEach [] X.env:=by rfl)(Bi:starEach [Expr.Call (.Name "reversed" p') [e] [] pos'] X.env=(false,eval (.Call (.Name "reversed" p') [e] [] pos') X.env)::starEach [] X.env:=by rfl):DO X z (.Call (.Name "list" p) [.Call (.Name "reversed" p') [e] [] pos'] [] pos) (Kx f):=PE.weak (Tt hc Mv D0 hg hm ha hs Bi) fun σ H Q ⟨η,F,d,r,e,k⟩=>by
  unfold Kx at e;obtain⟨d',h1,e⟩:=eJ.mp e;cases d' with
  |tup ds=>cases e;refine⟨η,F,_,r,h1,fun v H1 F1 g1 q1=>?_⟩;obtain⟨a,ws,rfl,h3,h4⟩:=aN.mp q1;refine⟨a,ws,rfl,kA.of (g1.base.sub _ _ h3),fun l hl=>?_⟩;have g2:=bB.own g1.base hl (.lst ws.reverse) (show ws.reverse.length≤sizeLine by rw[List.length_reverse];exact g1.base.Fp _ _ (g1.base.sub _ _ h3)) rfl;exact k l ws.reverse _ F1 (g1.trans g2) (g1.ent.free hl) (g1.base.sub.free hl) aL (uQ h4)
  |_=>cases e
end
end DL
namespace DL
open PySem PySem.Spec L2
open PyProof.Rows hiding St pairAt
structure ZL (K:PySem.W.Frag) (C:Addr):Prop where
  makes:makesIn K C=true
  init:PySem.W.findIn K (.ref C) "__init__"=some (some (.builtin "object.__init__"))
  kp:keepIn K (.ref C)=true
structure af7 (K:PySem.W.Frag) (C:Addr):Prop where
  cl:Rm K C
  ha:PySem.W.findIn K (.ref C) "__class__"=some (some (.builtin "object.__class__"))
  hn:PySem.W.specialIn K (.builtin "object.__class__") "__get__"=some (some (.builtin "getset_descriptor.__get__"))
  htk:PySem.W.takesIn K (.builtin "object.__class__")=some true
  hm:PySem.W.mroIn K C (.type "object")=some true
section
variable {X:Cx} {z:Zc} {e a b o:Expr} {f fa fb fk fv fo:EF} {fl fs:LF} {pos p p' pos' apos:Pos} {g:SF} {st:Stmt} {es:List Expr} {ms:List Bool} {te:TE} {C:Addr} {x m:Str}
theorem MK{Q:VK}(M:ZL X.K C)(I:Inv X pins σ H s)(h:∀x dx,H x=none→H dx=none→dx≠x→Q (.ref x) (upd (upd H dx (.own x)) x (.ins C dx []))):wpAny (model X.prog X.w) X.A (call (.ref C) []) (EP X pins σ Q) X.xe s:=by
  have hq:=h (s.heap.objs.size+1) s.heap.objs.size (I.cY.fresh (Nat.le_succ _)) (I.cY.fresh (cu _)) (fT (Nat.lt_succ_self _));have I2:=Inv.made (C:=C) I;have Y:=makes_of (M:=model X.prog X.w) I.xH M.makes;refine wpAny_call (LD I.xH M.makes M.init (fun self=>PySem.W.Looks.of_pure (PySem.W.oi_bind self)) ?_);have hx:((s.heap.push emptyDict).push (instObj C s.heap.objs.size)).get? (s.heap.objs.size+1)=some (instObj C s.heap.objs.size):=by have:=il (s.heap.push emptyDict) (o:=instObj C s.heap.objs.size) rfl;rwa[Heap.size_push] at this
  have t1:PySem.W.Looks (model X.prog X.w) ((s.heap.push emptyDict).push (instObj C s.heap.objs.size)) (typeOf (.ref (s.heap.objs.size+1))) (.ref C):=(PySem.W.Looks.ld hx).andThen .now;have t2:PySem.W.Looks (model X.prog X.w) ((s.heap.push emptyDict).push (instObj C s.heap.objs.size)) (isInstance (.ref (s.heap.objs.size+1)) (.type "object")) true:=t1.andThen (Y.top.keeps fun b o e=>kz _ (kz _ e));refine codeAny_call_builtin PySem.W.oi_plain PySem.W.entry_oi (@PySem.W.check_slot (model X.prog X.w) _ _ _ "object.__init__" "object" "__init__" (.ref (s.heap.objs.size+1)) [] [] _ PySem.W.oi_kind PySem.W.oi_split t2 (PySem.W.oi_args (.ref (s.heap.objs.size+1))) ?_);rw[oi_run];exact bj (And.intro rfl ⟨.ref (s.heap.objs.size+1),_,I2,rfl,hq⟩)
def Tw(C:Addr):EF:=fun _=>some (.obj C)
theorem z3(hz:kM X.K z.F₀)(M:ZL X.K C)(hg:Gl X x)(hm:X.mg x=some (.ref C))(tm:(x==("__debug__":Str))=false:=by decide):DE X z (.Call (.Name x p) [] [] pos) (Tw C):=by
  intro pins s σ H Q I ⟨η,F,d,r,e0,k⟩;cases e0;refine wd (sC I hg hm ?_ tm);refine PySem.W.callWith_K0 I.xH M.kp (MK M I fun x dx hx hdx ne=>?_);have g1:=bB.put r.base hdx (.own x) True.intro;have hx1:(upd H dx (.own x)) x=none:=by rw[aK (Ne.symm ne)];exact hx
  have g2:=bB.put g1.base hx1 (.ins C dx []) True.intro;exact k _ _ _ (g1.trans g2) (hE.mpr ⟨x,dx,rfl,aL,(hz.mono r.mem.jy).mono (g1.trans g2).jy⟩)
def lT(tb:List (Addr×(dm→eO)))(fo:EF)(fs:LF):EF:=fun η=>(fo η).bind fun d=>match d with
  |.obj C=>(tb.lookup C).bind fun Fn=>ax Fn (ae (eC d) fs) η
  |_=>none
def PY(X:Cx)(m:Str)(ms:List Bool)(C:Addr)(Fn:dm→eO):Prop :=
  ∃f k ps,Rm X.K C∧Meth X.K C m f∧fV X.prog X.w X.K X.mg X.base k f ps (cL X.K (true::ms) Fn)∧fG k X.A
def GL(X:Cx)(m:Str)(ms:List Bool)(tb:List (Addr×(dm→eO))):Prop:=∀C Fn,tb.lookup C=some Fn→PY X m ms C Fn
theorem vh:GL X m ms []:=fun _ _ h=>nomatch h
theorem eE{tb:List (Addr×(dm→eO))}(h:PY X m ms C Fn)(r:GL X m ms tb):GL X m ms ((C,Fn)::tb):=fun C' Fn' q=>by
  rw[List.lookup_cons] at q;split at q
  ·rename_i hb;cases q;rw[beq_iff_eq.mp hb];exact h
  ·exact r C' Fn' q
theorem PZ{tb:List (Addr×(dm→eO))}{Q:VK}{ds:dm}(hT:GL X m ms tb)(ho:DE X z o fo)(ha:DM X z (e::es) ms fs)(Vx:starEach (e::es) X.env=(false,eval e X.env)::starEach es X.env)(tq:(backTo pos (starEach es X.env)).any (·.1)=false)(ht:eval (.Call (.Attribute o m apos) (e::es) [] pos) X.env=(do
      let ov ←eval o X.env
      standAt apos.atName
      let (f,first) ←holding [ov] (getMethod ov m pl)
      callWith pos f first (backTo pos (starEach (e::es) X.env)) (backToKw pos (keywordEach [] X.env))))(I:Inv X pins σ H s)(r:Rel X.K z F H σ η)(h1:fo η=some (.obj C))(h2:tb.lookup C=some Fn)(h3:fs η=some ds)(h4:Fn (.obj C::ds)=some sl)(k:∀H1 F1,bB F H F1 H1→F8 X.K F1 H1 sl Q):wpAny (model X.prog X.w) X.A (eval (.Call (.Attribute o m apos) (e::es) [] pos) X.env) (EP X pins σ Q) X.xe s:=by
  obtain⟨f,n,ps,hc,hm,hC,hr⟩:=hT C Fn h2;obtain⟨fd,G,hb,kp⟩:=hC.ex;refine FJ ho I ⟨η,F,.obj C,r,h1,fun v H1 F1 g1 q1=>?_⟩ ht;obtain⟨a,dx,rfl,hF,_⟩:=hE.mp q1;refine⟨a,C,dx,[],f,rfl,g1.base.sub _ _ hF,hc,hm,rfl,fun s1 I1=>?_⟩;refine callWith_K (first:=[.ref a]) (h₀:=X.base) I.ok.mod.kin hm.kp (gT (ha pos pins s1 σ H1 (fun vs H2=>∃F2,bB F1 H1 F2 H2∧nI X.K F2 H2 ms ds vs) I1 ⟨η,F1,ds,r.grow g1,h3,fun vs H2 F2 g2 q2=>⟨F2,g2,q2⟩⟩) fun us s2 ⟨vs,H2,I2,rv,F2,g2,q2⟩=>⟨I2.xH,?_⟩) Vx tq;refine NV (us:=.ref a::us) (vs:=.ref a::vs) (dvs:=[]) (ds:=[]) G hr hb .nil UE I2 (.cons rfl rv) ?_;show cL X.K (true::ms) Fn (.ref a::vs++[]) H2 Q E0;rw[uH];refine⟨F2,.obj C::ds,sl,g2.base,⟨cA g2.jy _ _ q1,q2⟩,h4,k H2 F2 (g1.trans g2)⟩
theorem P0{fs:LF}{ds:dm}(h:(ae (eC d) fs) η=some ds):∃tF,fs η=some tF∧ds=d::tF:=by
  unfold ae eC at h;simp only[bJ] at h;cases q:fs η with
  |none=>rw[q] at h;cases h
  |some tF=>rw[q] at h;exact⟨tF,rfl,(oq h).symm⟩
theorem vm{tb:List (Addr×(dm→eO))}(hT:GL X m ms tb)(ho:DE X z o fo)(ha:DM X z (e::es) ms fs)(Vx:starEach (e::es) X.env=(false,eval e X.env)::starEach es X.env:=by rfl)(tq:(backTo pos (starEach es X.env)).any (·.1)=false:=by rfl)(ht:eval (.Call (.Attribute o m apos) (e::es) [] pos) X.env=(do
      let ov ←eval o X.env
      standAt apos.atName
      let (f,first) ←holding [ov] (getMethod ov m pl)
      callWith pos f first (backTo pos (starEach (e::es) X.env)) (backToKw pos (keywordEach [] X.env))):=by rfl):DE X z (.Call (.Attribute o m apos) (e::es) [] pos) (lT tb fo fs):=by
  intro pins s σ H Q I ⟨η,F,d,r,e0,k⟩;unfold lT at e0;obtain⟨d',h1,e0⟩:=eJ.mp e0;cases d' with
  |obj C =>
   obtain⟨Fn,h2,e0⟩:=eJ.mp e0;unfold ax at e0;obtain⟨ds,h3,e0⟩:=eJ.mp e0;obtain⟨sl,h4,e0⟩:=eJ.mp e0;obtain⟨tF,h5,rfl⟩:=P0 h3;refine PZ (pl:=pl) hT ho ha Vx tq ht I r h1 h2 h5 h4 fun H1 F1 g1=>?_;cases sl with
   |sh d'=>cases e0;exact fun v H' F' g2 q2=>k v H' F' (g1.trans g2) q2
   |ol SX=>cases e0;intro p vs H' F' g2 hp hF hH hd;have hs:cG F' (upd F' p (.lst vs)):=fj hF _;exact k _ _ _ ((g1.trans g2).share g2.base hH (g1.ent.free hp)) (aW.mpr ⟨p,vs,rfl,m4.of aL,bE hs _ _ hd⟩)
   |pr SX af8=>cases e0;intro a p vs ws H' F' g2 hp hF hH hd UG hr';have hs:cG F' (upd F' p (.lst vs)):=fj hF _;exact k _ _ _ ((g1.trans g2).share g2.base hH (g1.ent.free hp)) (aN.mpr ⟨a,_,rfl,hs _ _ UG,aP.mpr ⟨_,_,rfl,aW.mpr ⟨p,vs,rfl,m4.of aL,bE hs _ _ hd⟩,bE hs _ _ hr'⟩⟩)
   |_=>cases e0
  |_=>cases e0
end
def U0(i j:Int):Prop:=i.natAbs.log2<100000∧j.natAbs.log2<100000
def U1(_ j:Int):Prop:=0<j∧j.natAbs.log2<9000
theorem Ky{a:Int}(h:a.natAbs.log2<100000):Builtin.Int.intBits a≤2^20:=by
  have e:(2:Nat)^20=1048576:=by decide
  unfold Builtin.Int.intBits;split<;>omega
section
variable {X:Cx}
theorem Tx:qw X (binaryOp .Mult) (rI U0 fun i j=>.int (i*j)):=Ux fun _ _ _ _ _ _ _ hc q=>mul_int q (.of_bits (Ky hc.1) (Ky hc.2))
theorem P1:qw X (binaryOp .FloorDiv) (rI U1 fun i j=>.int (i / j)):=Ux fun i j _ _ _ _ _ hc q=>by have h1:(0:Int)<j:=hc.1;exact floordiv_int (by omega) (by rw[Int.fdiv_eq_ediv_of_nonneg i (by omega)];exact q) (.inl (PyProof.noPylong_of_log2 hc.2))
end
def Cz(i j:Int):Bool:=decide (i.natAbs.log2<100000∧j.natAbs.log2<100000)
def rN:=iI Cz fun i j=>.int (i*j)
def CB(_ j:Int):Bool:=decide (0<j∧j.natAbs.log2<9000)
def GN:=iI CB fun i j=>.int (i / j)
theorem P2{i j:Int}(h:Cz i j=true):U0 i j:=by unfold Cz at h;have q:=xY h;exact q
theorem P4{i j:Int}(h:CB i j=true):U1 i j:=by unfold CB at h;have q:=xY h;exact q
section
variable {X:Cx} {z:Zc} {e a b:Expr} {f fa fb fk:EF} {pos p:Pos} {K:PySem.W.Frag}
theorem p7(ha:DB X z a fa)(hb:DB X z b fb):DE X z (.BinOp a .Mult b pos) (ag rN fa fb):=rm Tx (Gd fun i j h=>P2 h) ha hb
theorem Kz(ha:DB X z a fa)(hb:DB X z b fb):DE X z (.BinOp a .FloorDiv b pos) (ag GN fa fb):=rm P1 (Gd fun i j h=>P4 h) ha hb
end
theorem IC{K:PySem.W.Frag}{f g:Addr}{oc':Value}{od':Option Addr}{x' q':Str}{ar ar':Arguments}{b b':List Stmt}{sc sc':Scope}{kV dc cd kV' dc' pm' cd' ct':Value}{an':Option Addr}{sl sl':Array mR}(hq:q≠q')(e:(some (some (Value.ref f)))=some (some (Value.ref g)))(l:K.lookup f=some ⟨oc,od,.func (fnOf x q ar b sc .none kV dc pm an cd ct),sl⟩)(l':K.lookup g=some ⟨oc',od',.func (fnOf x' q' ar' b' sc' .none kV' dc' pm' an' cd' ct'),sl'⟩):False:=by
  cases e;have h:=l.symm.trans l';injection h with h;injection h with _ _ h _;injection h with h;exact hq (g6 FuncData.qualname h)
section
variable {X:Cx} {z:Zc} {e a b:Expr} {f fa fb fk fv:EF} {fl:LF} {pos p:Pos} {g:SF} {st:Stmt}
def dK(i:Nat)(η:cQ):Option (List (Key×D)):=match η[i]? with
  |some (some (.ok aX))=>some aX
  |some (some (.fk aX))=>some aX
  |_=>none
end
end DL
namespace L2
open PySem PySem.Spec PyProof.Rows DL
theorem ML{K:PySem.W.Frag}{mb:Str→mR}{CX:LH}{fa:Addr}{sp:Sp}{s₁:Shared}{c T:Addr}(KX:K.In s₁.heap)(XX:s₁.heap.Ns mainGlobals mg)(hb:s₁.heap.Ns builtinsNs mb)(hbb:∀x:Str,x≠"__name__"→mb x=bootBuiltins x)(acO:s₁.heap.NoLimit)(hg:s₁.gens=#[])(ha:s₁.heap.get? a=some { cls:=.type "list",data:=.seq vs.toArray })(hi:IntsAre vs ns)(hl:ns.length≤sizeLine)(hr:fG k callerA)(hT:s₁.heap.TableAt c T #[])(hTK:K.lookup T=none)(hTn:∀c' P,md K=some (c',P)→P=T)(hbt:s₁.heap.BuiltinsAt mg T)(F:∀base:Heap,K.In base→base.Ns mainGlobals mg→base.BuiltinsAt mg T→cI P w K mg base CX k fa fd [x] sp)(nM:∀(s:Shared) (u:Value),BindsTo s fd ⟨[u],[]⟩ [(x,u)])(UD:∀H:Hp,Sf H→kM K H→m4 K H a (ns.map V.int)→sp [.ref a] H (fun v _=>v=.bl true) fun _ _ _=>False)(hCX:∀H e s',CX [] H s₁ (fun _ _ _=>False) e s'→False):codeAny (model P w) callerA (.call (.ref fa) ⟨[.ref a],[]⟩) (fun r s'=>r=.ok (.ret (.bool true))∧OldK s₁.heap s'.heap∧s'.os=s₁.os∧AllBare s'.gens) s₁:=by
  have rv:=sE hi;have acS:=hi.length;have aT:a≠T:=fun e=>by have:=hT.2;rw[←e,ha] at this;cases this
  have core:∀H:Hp,Sf H→m4 K H a (ns.map V.int)→ub P w H s₁.heap→(∀b,H b≠none→b=a∨b=T)→H T=some (.Fj #[.str DU 0])→(H a≠none→K.lookup a=none) →
      codeAny (model P w) callerA (.call (.ref fa) ⟨[.ref a],[]⟩) (fun r s'=>r=.ok (.ret (.bool true))∧OldK s₁.heap s'.heap∧s'.os=s₁.os∧AllBare s'.gens) s₁:=by
    intro H hO hS cY hA hHT hK;have En:∀{b:Addr} {o:Obj},s₁.heap.get? b=some o→H b=none→(Bf s₁.heap H).get? b=some o:=fun e n=>Nw e n;have YL:∀{b:Addr} {o:Obj} {es:Array DictEntry} {ep:Nat},s₁.heap.get? b=some o→o.data=.dict es ep→H b=none:=fun {b o es ep} e d=>by
      cases q:H b with
      |none=>rfl
      |some u =>
       rcases hA b (by rw[q];simp) with e'|e'
       ·subst e';rw[ha] at e;cases e;have d':Data.seq vs.toArray _=Data.dict es ep:=d;cases d'
       ·subst e';rw[hT.2] at e;cases e;have d':Data.fields #[]=Data.dict es ep:=d;cases d'
    have nsK:∀{b:Addr} {m:Str→mR},s₁.heap.Ns b m→(Bf s₁.heap H).Ns b m:=fun {b m} ⟨o,es,ep,e,d,r⟩=>⟨o,es,ep,En e (YL e d),d,r⟩
    have hKb:K.In (Bf s₁.heap H):=fun b o e=>En (KX b o e) (by
      cases q:H b with
      |none=>rfl
      |some u =>
       rcases hA b (by rw[q];simp) with e'|e'
       ·subst e';rw[hK (by rw[q];simp)] at e;cases e
       ·subst e';rw[hTK] at e;cases e)
    have hM:Mod K mg (Bf s₁.heap H):=⟨hKb,nsK XX,⟨mb,nsK hb,hbb⟩,let ⟨mc,h1,h2⟩:=acO;⟨mc,nsK h1,h2⟩⟩
    have e0:Hy P w K mg (Bf s₁.heap H) callerA [] s₁ H:=⟨rfl,hM,fun b o e=>RA e,Nat.le_of_eq (Lp _ _),trivial,fun b hb=>absurd (show b∈([]:List Addr) from hb) (by simp),cY,.of_eq hg⟩
    have hBT:(Bf s₁.heap H).BuiltinsAt mg T:=by
      obtain⟨bm,o,b1,b2,b3,b4,b5,b6,b7,b8⟩:=hbt;refine⟨bm,o,b1,b2,b3,b4,En b5 ?_,b6,b7,b8⟩;cases q:H bm with
      |none=>rfl
      |some u =>
       rcases hA bm (by rw[q];simp) with e'|e'
       ·subst e';rw[ha] at b5;cases b5;injection b6 with b6;exact absurd b6 (by decide)
       ·exact absurd e' b4
    have P5:kM K H:=fun c' P' e=>by rw[hTn c' P' e];exact hHT
    refine codeAny_mono ((F _ hKb (nsK XX) hBT).run callerA [] s₁ H ⟨[.ref a],[]⟩ [.ref a] [.ref a] _ _ hr e0 (nM s₁ (.ref a)) (.cons rfl .nil) (UD H hO P5 hS)) fun r s' h=>?_;cases r with
    |error e=>exact(hCX H e s' h).elim
    |ok fl =>
     cases fl with
     |next=>exact False.elim h
     |brk=>exact False.elim h
     |cont=>exact False.elim h
     |ret u =>
      obtain⟨v,H',os,bare,un,ZM,r',q⟩:=h;have q':v=.bl true:=q;subst q';obtain rfl:u=Value.bool true:=r';have P6:∀b o,s₁.heap.get? b=some o→∃o',s'.heap.get? b=some o':=fun b o e=>un.there b o e (by simp);refine⟨rfl,⟨fun b o e=>?_,P6⟩,os,bare⟩;cases q:H b with
      |none=>exact .inl (un.keep b o e q (by intro z;exact absurd (show b∈([]:List Addr) from z) (by simp)) (by simp))
      |some u =>
       rcases hO b with z|⟨ob,xs,z,_⟩|⟨ps,z⟩
       ·rw[q] at z;cases z
       ·have z2:=un.wq b ob _ z;obtain⟨e1,_⟩:=cY b _ z;obtain⟨e2,_⟩:=ZM b _ z2;rw[e] at e1;cases e1;exact .inl e2
       · rcases hA b (by rw[q];simp) with e'|e'
         · exfalso;subst e';obtain⟨_,_,_,e1,_⟩:=(show cy P w H s₁.heap b (.Fj ps) from cY b _ z)
           rw[ha] at e1;cases e1
         · subst e';have eo:=hT.2;rw[e] at eo;cases eo;obtain⟨more,z2⟩:=un.wt b _ z;obtain⟨_,qs,_,e2,_⟩:=(show cy P w H' s'.heap b (.Fj _) from ZM b _ z2)
           exact .inr (.inl ⟨hT.isCodeTable,rfl,#[],qs,rfl,by rw[e2];simp⟩)
  have U2:∀H:Hp,cy P w H s₁.heap T (.Fj #[.str DU 0]):=fun H=>⟨DU,#[],rfl,hT.2,trivial,fun pos v e=>by cases e⟩
  cases hk:K.lookup a with
  |some o =>
   have e:=KX a o hk;rw[ha] at e;cases e;refine core (fun b=>if b=T then some (.Fj #[.str DU 0]) else none) (fun b=>?_) (.inr ⟨_,vs.toArray,_,hk,rfl,rfl,rfl,by rw[kC,acS];exact hl,by simpa using rv⟩) (fun b u z=>?_) (fun b z=>?_) (az rfl) fun z=>absurd (bh aT) z
   · by_cases hb:b=T
     ·exact .inr (.inr ⟨_,az hb⟩)
     ·exact .inl (bh hb)
   · by_cases hb:b=T
     ·have z':=(az hb).symm.trans z;cases z';subst hb;exact U2 _
     ·have z':=(bh hb).symm.trans z;cases z'
   · by_cases hb:b=T
     ·exact .inr hb
     ·exact absurd (bh hb) z
  |none =>
   refine core (fun b=>if b=a then some (.ua { cls:=.type "list",data:=.seq vs.toArray } (.lst (ns.map V.int))) else if b=T then some (.Fj #[.str DU 0]) else none) (fun b=>?_) (.inl (.inr ⟨{ cls:=.type "list",data:=.seq vs.toArray },az rfl⟩)) (fun b u z=>?_) (fun b z=>?_) ?_ fun _=>hk
   · by_cases hb:b=a
     ·exact .inr (.inl ⟨_,_,az hb,by rw[g9];exact hl⟩)
     · by_cases Oy:b=T
       ·exact .inr (.inr ⟨_,(bh hb).trans (az Oy)⟩)
       ·exact .inl ((bh hb).trans (bh Oy))
   · by_cases hb:b=a
     ·have z':=(az hb).symm.trans z;cases z';subst hb;exact⟨ha,by rw[g9];exact hl,vs,_,rv,ha⟩
     · have z':=(bh hb).symm.trans z;by_cases Oy:b=T
       ·have z2:=(az Oy).symm.trans z';cases z2;subst Oy;exact U2 _
       ·have z2:=(bh Oy).symm.trans z';cases z2
   · by_cases hb:b=a
     ·exact .inl hb
     · by_cases Oy:b=T
       ·exact .inr Oy
       ·exact absurd ((bh hb).trans (bh Oy)) z
   ·exact(bh (Ne.symm aT)).trans (az rfl)
theorem P7{l:PySem.W.OpenLaw}{q:Program}{loose:gq}{d:DefRec}{K:Params→PySem.W.Frag}{CX:World→LH}{sp:World→Sp}(hn:l.most=some n)(hn2:n≤sizeLine)(YY:d.params.defaults=[])(hr:fG k callerA)(hY:∀(w:World) (h:Heap),YP w h→(K w.params).In h)(hYT:∀(w:World) (h:Heap),YP w h→∃c T,h.TableAt c T #[]∧(K w.params).lookup T=none∧md (K w.params)=some (c,T))(F:∀(w:World) (mg:Str→mR) (fa:Addr) (h:Heap),YP w h→(K w.params).In h→h.Ns mainGlobals mg→mg d.name=some (.ref fa)→∃fd:FuncData,(∀(s:Shared) (u:Value),BindsTo s fd ⟨[u],[]⟩ [(x,u)])∧∀(base:Heap) (c T:Addr),md (K w.params)=some (c,T)→(K w.params).In base→base.Ns mainGlobals mg→base.BuiltinsAt mg T→cI l.prog w (K w.params) mg base (CX w) k fa fd [x] (sp w))(UD:∀(w:World) (H:Hp) (a:Addr) (ns:aO),ns.length≤n→Sf H→kM (K w.params) H→m4 (K w.params) H a (ns.map V.int)→sp w [.ref a] H (fun v _=>v=.bl true) fun _ _ _=>False)(hCX:∀(w:World) (H:Hp) (s:Shared) (e:Value) (s':Shared),CX w [] H s (fun _ _ _=>False) e s'→False):PySem.W.WalkO q loose XP YP l.row.toRowW d [] (fun f vs=>PySem.call f vs):=by
  refine Att.FR hn YY fun w s₀ s₁ mg mb fa o pm cd doc a vs ns G Y ho hd ow YZ Wf hints hlen hg=>?_;have KX:=hY w _ Y;obtain⟨c,T,hT,hTK,hTn⟩:=hYT w _ Y;obtain⟨fd,hb,hF⟩:=F w mg fa _ Y KX G.T.g YZ;have hbt:s₁.heap.BuiltinsAt mg T:=by
    obtain⟨bm,ob,b1,b2,b3,b4,b5,b6⟩:=G.T.bmain;refine⟨bm,ob,b1,b2,fun q=>?_,fun q=>?_,b3,b4,b5,b6⟩
    ·obtain⟨o',es,ep,e',d',_⟩:=G.T.g;rw[←q,b3] at e';cases e';rw[b6] at d';cases d'
    ·have e':=hT.2;rw[←q,b3] at e';cases e';cases b4
  exact ML KX G.T.g G.T.b G.T.builtins G.T.nolimit hg Wf hints (pU hlen hn2) hr hT hTK (fun c' P' e=>by rw[hTn] at e;cases e;rfl) hbt (fun base h1 h2 h3=>hF base c T hTn h1 h2 h3) hb (fun H hO hTb hS=>UD w H a ns hlen hO hTb hS) fun H e s'=>hCX w H s₁ e s'
end L2
namespace DL
open PySem PySem.Spec L2
open PyProof.Rows hiding St pairAt
def GO(K:PySem.W.Frag)(ms:List Bool)(Fn:dm→eO):Sp:=fun vs H Q _=>∃F ds r,Base F H∧kM K F∧nI K F H ms ds vs∧Fn ds=some r∧F8 K F H r Q
theorem KC{K:PySem.W.Frag}{base:Heap}{st:Stmt}{f:Addr}{ps:gq}{ms:List Bool}{g:SF}(F:kE K x qual st f fd)(S:aV N ps (ay st))(D0:ms.length=ps.length)(hb:∀(eQ:Value) (A:Around) (outer:List Env) (s:Shared) (H:Hp) (E:XK) (z:Zc),kM K z.F₀→fG k (A.deeper (envOfC qual (ay st) s.heap.objs.size f eQ))→L8 (ya i7 P w K mg base N qual (ay st) f eQ A outer s H E).Hs z (dD st) g):cI P w K mg base i7 (k+1) f fd ps (GO K ms (jz N.length ms g)):=by
  refine F.ok S (fun vs H Q E h=>?_) (fun eQ A outer s H vs Q E hr h=>?_)
  ·obtain⟨F,ds,r,_,_,a,_⟩:=h;rw[←D0,(nJ a).1]
  · obtain⟨F,ds,r,b,tb,a,e,q⟩:=h;refine⟨_,hb eQ A outer s H E ⟨F,H,fun _ _=>False⟩ tb hr,?_⟩;have rl:Rel K ⟨F,H,fun _ _=>False⟩ F H (L2.start N vs) (eR N.length ms ds):=sN b a;unfold jz at e;cases o:g (eR N.length ms ds) with
    |none=>rw[o] at e;cases e
    |some o' =>
     rw[o] at e;refine⟨_,F,o',rl,o,?_⟩;cases o' with
     |rt r'=>cases e;exact L7.of (z:=⟨F,H,fun _ _=>False⟩) q
     |nx η'=>cases e;exact fun σ' H' F' r' _=>q .non H' F' r'.mem (cg.mpr rfl)
     |bk _=>cases e
     |ct _=>cases e
theorem Tz{K:PySem.W.Frag}{E:XK}(hO:Sf H)(hT:kM K H)(hS:m4 K H a (ns.map V.int))(h:Fn [.lst (ns.map D.int)]=some (.sh (.bl true))):GO K [true] Fn [.ref a] H (fun v _=>v=.bl true) E:=by
  have b:Base H H:=⟨cG.refl _,fun _ _ h _=>h,fun c o hc=>by
    rcases hO c with z|⟨ob,xs,z,hl⟩|⟨ps,z⟩
    ·rw[hc] at z;cases z
    ·rw[hc] at z;cases z;exact hl
    ·rw[hc] at z;cases z;exact True.intro⟩
  have ha:nI K H H [true] [.lst (ns.map D.int)] [.ref a]:=⟨aW.mpr ⟨a,_,rfl,hS,fW _⟩,True.intro⟩
  exact⟨H,_,_,b,hT,ha,h,fun v H' F' _ q=>bT.mp q⟩
def Xa(K:PySem.W.Frag):Sp:=fun vs H Q E=>∀Fn:dm→eO,(∀ns:aO,ns.length≤63→Fn [.lst (ns.map D.int)]=some (.sh (.bl true)))→GO K [true] Fn vs H Q E
end DL
namespace L2
open PySem PySem.Spec PyProof.Rows PySem.W
theorem IE{c v:Value}:∀(l:ef),TriplesOk l→codeAmong pos' (l++[rawInt pos.line,rawInt pos.col,c])=some v→codeAmong pos' l=some v∨v=c:=by
  intro l h
  fun_induction TriplesOk l with
  |case1 =>
   intro e;simp only[List.nil_append,codeAmong,rawInt] at e;split at e
   ·cases e;exact .inr rfl
   ·cases e
  |case2 a t b u x rest ih =>
   intro e;simp only[List.cons_append,codeAmong] at e⊢;split at e
   ·rename_i hc;rw[az hc];exact .inl e
   ·rename_i hc;rw[bh hc];exact ih h e
  |case3 l h1 h2=>exact h.elim
section
variable {X:Cx} {pins:kH} {σ:St} {H:Hp} {s:Shared}
theorem Inv.tabled{T c':Addr}{qs:Array Value}{tk:Nat}(I:Inv X pins σ H s)(hT:H T=some (.Fj #[.str q 0]))(eT:s.heap.get? T=some (tabObj qs))(ht:TriplesOk qs.toList)(hcs:∀pos v,codeAmong pos qs.toList=some v→∃c,v=.ref c∧H c=some (.Hr q))(hx:Heap.ExtBut T s.heap h')(hc:s.heap.objs.size≤c')(TB:h'.CodeRec (.ref c') q)(hg:h'.get? T=some (tabObj (qs++#[rawInt pos.line,rawInt pos.col,.ref c']))):Inv X pins σ (upd H c' (.Hr q)) { s with heap:=h',toks:=tk }:=by
  have ZN:H c'=none:=I.cY.fresh hc;have cT:c'≠T:=fun e=>by rw[e,hT] at ZN;cases ZN
  have hco:∃o,h'.get? c'=some o:=by obtain⟨c2,o2,_,_,e2,g2,_⟩:=TB;cases e2;exact⟨o2,g2⟩
  have ne:∀b u,H b=some u→b≠c':=fun b u e z=>by rw[z,ZN] at e;cases e
  have old:∀b o,s.heap.get? b=some o→b≠c':=fun b o e=>fT (oN (dg e) hc);refine I.un ⟨fun b o e n _ _=>hx b o (fun z=>by rw[z,hT] at n;cases n) e,fun b o e n _ _=>⟨o.slots,hx b o (fun z=>by rw[z,hT] at n;cases n) e⟩,fun b o e n _=>by rw[aK (old b o e)];exact n,fun b o e _=>?_,fun b xs e=>by rw[aK (ne b _ e)];exact e,fun b o u e=>by rw[aK (ne b _ e)];exact e,fun b ps e=>⟨#[],by rw[aK (ne b _ e),e];simp⟩⟩ fun b u e=>?_
  · by_cases z:b=T
    ·rw[z];exact⟨_,hg⟩
    ·exact⟨o,hx b o z e⟩
  · by_cases z:b=c'
    ·subst z;rw[aL] at e;cases e;exact TB
    · rw[aK z] at e;by_cases zT:b=T
      · subst zT;rw[hT] at e;cases e;refine⟨q,_,rfl,hg,?_,fun pos' v hv=>?_⟩
        ·have:=TriplesOk_snoc pos.line pos.col (.ref c') qs.toList ht;simpa using this
        · have J4:codeAmong pos' (qs.toList++[rawInt pos.line,rawInt pos.col,.ref c'])=some v:=by simpa using hv
          rcases IE _ ht J4 with J4|rfl
          ·obtain⟨c,e1,e2⟩:=hcs pos' v J4;exact⟨c,e1,by rw[aK (ne c _ e2)];exact e2⟩
          ·exact⟨c',rfl,aL⟩
      · refine(I.cY b u e).pW (fun c v Dq r=>hx c v ?_ r) (fun c r=>by rw[aK (ne c _ r)];exact r) (fun c xs r=>by rw[aK (ne c _ r)];exact r) fun c q' r=>by rw[aK (ne c _ r)];exact r
        rcases Dq with rfl|Dq
        ·exact zT
        ·intro z;rw[z,hT] at Dq;cases Dq
theorem P8{c T:Addr}{body:Expr}(I:Inv X pins σ H s)(KD:X.env.code=.ref c)(hc:codeHdIn X.K c T=true)(hT:H T=some (.Fj #[.str q 0]))(XY:closureFor scope X.env=pure [])(hb:X.base.BuiltinsAt X.mg T)(h:∀f c' Fq H' s',Inv X ((f,kla_obj "<lambda>" q params body scope [] ((X.mg "__name__").getD .none) c' Fq)::pins) σ H' s'→(H'=H∨H c'=none∧H'=upd H c' (.Hr q))→H' c'=some (.Hr q)→Q (.ref f) s'):wpAny (model X.prog X.w) X.A (makeFunction "<lambda>" q params (.expr body) scope X.env [] [] [] pos pos.line) Q E s:=by
  obtain⟨q',qs,e0,eT,ht,hcs⟩:=(show cy X.prog X.w H s.heap T (.Fj #[.str q 0]) from I.cY T _ hT)
  have eq:q=q':=by have:=g6 (fun a:Array Value=>a[0]?) e0;simp at this;exact this
  subst eq;have C:CodeHd s.heap c T:=codeHd_of_K I.xH hc;have hg:s.heap.Ns mainGlobals X.mg:=by obtain⟨o,es,ep,e,d,r⟩:=I.ok.mod.glob;exact⟨o,es,ep,I.bk _ _ e,d,r⟩
  have Fm:s.heap.BuiltinsAt X.mg T:=by obtain⟨bm,o,b1,b2,b3,b4,b5,b6⟩:=hb;exact⟨bm,o,b1,b2,b3,b4,I.bk _ _ b5,b6⟩
  have hgT:mainGlobals≠T:=fun z=>by obtain⟨o,es,ep,e,d,_⟩:=hg;rw[z,eT] at e;cases e;cases d
  cases hcm:codeAmong pos qs.toList with
  |none=>refine kla_makeFunction XY I.ok.glob hg KD C eT ht hcm hgT Fm fun c' Fq h' tk hx Zd jL TB acV=>?_;have I1:=I.tabled (tk:=tk) hT eT ht hcs hx Zd TB acV;have ZN:H c'=none:=I.cY.fresh Zd;have I2:Inv X pins σ (upd H c' (.Hr q)) { s with heap:=h'.push (kla_obj "<lambda>" q params body scope [] ((X.mg "__name__").getD .none) c' Fq),toks:=tk }:=I1.kept (t':=tk) fun b o e=>kz _ e;refine h _ c' Fq _ _ (I2.xO (I1.Bh (cu _) (I1.cY.fresh (cu _))) (il _ rfl) fun v z=>by cases z) (.inr ⟨ZN,rfl⟩) aL
  |some cv=>obtain⟨c',rfl,hH⟩:=hcs pos cv hcm;refine kla_makeFunctionHit XY I.ok.glob hg KD C eT ht hcm Fm fun Fq h' tk hk hsz=>?_;have I1:Inv X pins σ H { s with heap:=h',toks:=tk }:=I.kept (t':=tk) hk;have I2:Inv X pins σ H { s with heap:=h'.push (kla_obj "<lambda>" q params body scope [] ((X.mg "__name__").getD .none) c' Fq),toks:=tk }:=I1.kept (t':=tk) fun b o e=>kz _ e;exact h _ c' Fq _ _ (I2.xO (I1.Bh (cu _) (I1.cY.fresh (cu _))) (il _ rfl) fun v z=>by cases z) (.inl rfl) hH
end
theorem TC{K:PySem.W.Frag}{base:Heap}{f c':Addr}{body:Expr}{Fq:Value}{ps:gq}{t:TE}{outer:List Env}{vs:List V}{Q:VK}(hr:fG (k+1) A)(e0:Hy P w K mg base A outer s H)(ho:s.heap.get? f=some (kla_obj "<lambda>" q params body scope [] pm c' Fq))(ow:s.heap.CodeRec (.ref c') q)(S:aV N ps scope)(hb:bindArgs (kla_fn "<lambda>" q params body scope [] pm (.ref c') Fq) ⟨us,[]⟩=pure (ps.zip us))(r:Vals vs us)(hl:vs.length=ps.length)(yP:PE (ya i7 P w K mg base N q scope f (.ref c') A outer s H E0).Hs body t)(ht:t (start N vs) H Q):codeAny (model P w) A (.call (.ref f) ⟨us,[]⟩) (CR i7 outer P w H s Q E0) s:=by
  have lim:s.heap.NoLimit:=e0.mod.nolimit.keeps fun b o e=>(e0.bs b o e).1;have NW:∀y∈ps.zip us,scope.names.lookup y.1=some .local∨(scope.names.lookup y.1=some .cell∧((cellsFrom (s.heap.objs.size+1) scope.names []).lookup y.1).isSome=true):=fun⟨n,v⟩ hy=>by
    rcases S.par n (List.of_mem_zip hy).1 with q|q
    ·exact .inl q
    ·exact .inr ⟨q,cellsFrom_some _ _ _ (.inl q)⟩
  refine kla_callFunE hr.depth ho rfl S.co S.gen rfl ow ?_;rw[hb];refine bj ?_;refine wpAny_newFunctionEnv_cells S.kind NW fun env he s1 x=>?_;subst he;refine⟨lim.keeps x.toInCall.keep,kla_codeExpr ?_⟩;have I:Inv (ya i7 P w K mg base N q scope f (.ref c') A outer s H E0) [] (start N vs) H s1:=B3 S hr.hd e0 hl r x;refine pV (yP.Hs [] s1 (start N vs) H Q I ht) (fun u s' hs=>?_) fun e s' hs=>hs;obtain⟨v,H',J,rv,q⟩:=hs;exact⟨v,H',J.os,J.bare,J.base,J.cY,rv,q⟩
end L2
namespace DL
open PySem PySem.Spec L2 PySem.W Sj
open PyProof.Rows hiding St pairAt
section
variable {X:Cx} {pins:kH} {σ:St} {H:Hp} {s:Shared}
theorem z4(I:Inv X pins σ H s){t:aO}(r:RelV v u)(h:oD H v t):∃a js,u=.ref a∧IsTup s.heap a js.toArray∧Vals (t.map V.int) js:=by obtain⟨a,rfl,e⟩:=h;obtain⟨js,r1,p1,_⟩:=I.tuple (kA.of e);exact⟨a,js,r,p1,r1⟩
theorem P9{vk:List V}{Q:SortKind→Shared→Prop}(I:Inv X pins σ H s)(rv:Vals vk ks)(hp:Paired (oD H) vk ts)(iJ:∀t∈ts,t≠[])(h2:2≤ks.length)(hq:Q (tuples' true) s):wpAny (model X.prog X.w) A (keyKind' (List.toArray ks)) Q E s:=by
  have l1:vk.length=ks.length:=rv.length;have l2:vk.length=ts.length:=hp.length;have qH:∀(vl:ef),(∀v∈vl,∃a n t js,v=.ref a∧IsTup s.heap a (Value.int n t::js).toArray)→∃fs:ef,KatTups s.heap vl fs∧fs.length=vl.length∧∀v∈fs,∃n t,v=.int n t:=by
    intro vl;induction vl with
    |nil=>intro _;exact⟨[],trivial,rfl,fun _ z=>nomatch z⟩
    |cons v r ih =>
     intro hv;obtain⟨a,n,t,js,rfl,o,e,c,m,dd⟩:=hv v de;obtain⟨fs,k1,k2,k3⟩:=ih fun y hy=>hv y (lJ _ hy);refine⟨.int n t::fs,⟨⟨a,o,_,m,rfl,e,c,dd,rfl⟩,k1⟩,by simp[k2],fun y hy=>?_⟩;rcases gw.mp hy with z|z
     ·exact⟨n,t,z⟩
     ·exact k3 y z
  obtain⟨fs,k1,k2,k3⟩:=qH ks (fun v hv=>by
    obtain⟨i,hi,rfl⟩:=List.mem_iff_getElem.mp hv;obtain⟨a,js,e1,e2,e3⟩:=z4 I (bq rv (i:=i) (by omega) V.non Value.none) (bq hp (i:=i) (by omega) V.non []);rw[nD,mV hi] at e1;have hti:i<ts.length:=by omega
    have en:ts.getD i []≠[]:=by rw[nD,mV hti];exact iJ _ (List.getElem_mem hti)
    generalize ts.getD i []=tt at e3 en;cases tt with
    |nil=>exact absurd rfl en
    |cons n tt =>
     cases e3 with
     |cons r1 r2 =>
      obtain⟨t,rfl⟩:=r1;exact⟨a,n,t,_,e1,e2⟩)
  refine kat_kind (T:=.type "int") k1 (by omega) (fun v hv=>?_) rfl ?_
  ·obtain⟨n,t,rfl⟩:=k3 v hv;exact Looks.of_pure rfl
  ·exact hq
theorem Xb{vk:List V}{C:Bool→Shared→Prop}(I:Inv X pins σ H s)(rv:Vals vk ks)(hp:Paired (oD H) vk ts)(hi:i<ks.length)(hj:j<ks.length)(hc:C (HT.lexLt (ts.getD i []) (ts.getD j [])) s):wpAny (model X.prog X.w) A (keyLt' (tuples' true) (ks.getD i Value.none) (ks.getD j Value.none)) C (fun _ _=>False) s:=by
  have l1:vk.length=ks.length:=rv.length;obtain⟨a,js,e1,e2,e3⟩:=z4 I (bq rv (i:=i) (by omega) V.non Value.none) (bq hp (i:=i) (by omega) V.non []);obtain⟨b,js',f1,f2,f3⟩:=z4 I (bq rv (i:=j) (by omega) V.non Value.none) (bq hp (i:=j) (by omega) V.non []);rw[e1,f1];obtain⟨oa,ga,_,na,da⟩:=id e2;obtain⟨ob,gb,_,nb,db⟩:=id f2;refine kat_lt ga da gb db ?_;refine GJ 0 e3 f3 ?_ hc;have a1:=e3.length;have a2:=f3.length;rw[g9] at a1 a2;rw[kC,kC,a1,a2]
theorem oD.same{t:aO}(x:oD H v t)(s:cG H H'):oD H' v t:=by obtain⟨b,e,h⟩:=x;exact⟨b,e,s _ _ h⟩
def MN(a b:aO×aO):Bool:=!HT.lexLt b.1 a.1
def nO(es:List (aO×aO)):List (aO×aO):=es.mergeSort MN
theorem oE(es:List (aO×aO)):(nO es).Perm es:=List.mergeSort_perm es MN
theorem vn(a b:aO×aO):MN a b=Mi (0,a.1) (0,b.1):=by unfold MN Mi;rw[ZI]
theorem MP(hd:(es.map (·.1)).Nodup):(nO es).Pairwise (fun a b=>HT.lexLt a.1 b.1=true):=by
  have h:=List.pairwise_mergeSort (le:=MN) (fun a b c=>by rw[vn,vn,vn];exact O0 _ _ _) (fun a b=>by rw[vn,vn];exact Kh _ _) es;have hn:((nO es).map (·.1)).Nodup:=((oE es).map _).nodup_iff.mpr hd;have Yn:(nO es).Pairwise fun a b=>a.1≠b.1:=by have:=Dg.mp hn;exact this
  refine List.Pairwise.imp₂ (fun a b h1 h2=>?_) h Yn;have UL:HT.lexLt b.1 a.1=false:=by unfold MN at h1;simpa using h1
  exact sG (fun z=>h2 z.symm) UL
theorem MQ{qs:List (aO×aO)}(hd:(es.map (·.1)).Nodup)(h:qs.Perm es)(hp:qs.Pairwise (fun a b=>HT.lexLt a.1 b.1=true)):nO es=qs :=
  List.Perm.eq_of_pairwise (le:=fun a b=>HT.lexLt a.1 b.1=true) (fun a b _ _ h1 h2=>by have:=uP h1 h2;rw[nH] at this;cases this) (MP hd) hp ((oE es).trans h.symm)
structure ZO (X:Cx) (k:Nat) (q:Str) (params:Arguments) (body:Expr) (scope:Scope) (g:EF):Prop where
  ex:∃N ps,aV N ps scope∧ps.length=1∧N.length=1∧(∀(pm cd ct:Value) (us:ef),us.length=ps.length→bindArgs (kla_fn "<lambda>" q params body scope [] pm cd ct) ⟨us,[]⟩=pure (ps.zip us)) ∧
    ∀(f c':Addr) (A:Around) (outer:List Env) (s:Shared) (H:Hp) (z:Zc),fG k (A.deeper (envOfC q scope s.heap.objs.size f (.ref c')))→DE (ya i7 X.prog X.w X.K X.mg X.base N q scope f (.ref c') A outer s H E0).Hs z body g
theorem Qa{f c':Addr}{body:Expr}{Fq:Value}{g:EF}{d':D}{Q:VK}(L:ZO X k q params body scope g)(hr:fG (k+1) X.A.in1.in1)(I:Inv X pins σ H s)(Qb:(f,kla_obj "<lambda>" q params body scope [] pm c' Fq)∈X.pn++pins)(hc:H c'=some (.Hr q))(r:RelV v u)(b:Base F H)(hd:Den X.K F d v)(hg:g [some (.sh d)]=some d')(h:∀v H' F',bB F H F' H'→Den X.K F' d' v→Q v H'):wpAny (model X.prog X.w) X.A.in1.in1 (call (.ref f) [u]) (EP X pins σ Q) E s:=by
  obtain⟨N,ps,S,Tf,hN,hb,yP⟩:=L.ex;have e0:Hy X.prog X.w X.K X.mg X.base X.A.in1.in1 X.stack s H:={ I.NT with frames:=I.NT.frames }
  have ho:=(I.pin _ Qb).1;have rl:Rel X.K ⟨F,H,fun _ _=>False⟩ F H (L2.start N [v]) (eR N.length [true] [d]):=sN b ⟨hd,trivial⟩;have est:eR N.length [true] [d]=[some (.sh d)]:=by unfold eR;rw[hN];rfl
  refine wpAny_call (codeAny_mono (TC hr e0 ho (I.cY c' _ hc) S (hb _ _ _ [u] (by rw[Tf];rfl)) (.cons r .nil) (by rw[Tf];rfl) (yP f c' X.A.in1.in1 X.stack s H ⟨F,H,fun _ _=>False⟩ (hr.deeper _)) ⟨_,F,d',rl,by rw[est];exact hg,h⟩) fun r s' hq=>?_);cases r with
  |error e=>exact False.elim hq
  |ok fl =>
   cases fl with
   |ret u=>exact I.after hq
   |_=>exact False.elim hq
theorem Eo{Q:VK}{f c':Addr}{body:Expr}{Fq:Value}{g:EF}{kv:List V}{acc:ef}{tk:Nat}(hu:X.A.units+5<cLine)(L:ZO X k q params body scope g)(hr:fG (k+1) X.A.in1.in1)(I:Inv X pins σ H s)(Qb:(f,kla_obj "<lambda>" q params body scope [] pm c' Fq)∈X.pn++pins)(XR:H c'=some (.Hr q))(b0:Base F H)(hF:∀e∈es,g [some (.sh (.tup (e.2.map D.int)))]=some (.tup (e.1.map D.int)))(A5:(es.map (·.1)).Nodup)(tE:es.length<64)(iJ:∀e∈es,e.1≠[])(hk:∀b o,s.heap.get? b=some o→h'.get? b=some o)(Rx:Vals kv acc)(jc:Paired (fun v (e:aO×aO)=>oD H v e.2) kv es){P:PySem.Fin→Shared→Prop}(W7:∀v s',EP X pins σ Q v s'→P (.done (.ret v)) s')(post:∀p vs H' F',bB F H F' H'→H p=none→F' p=none→H' p=some (.lst vs)→cz X.K F' ((nO es).map fun e=>D.tup (e.2.map D.int)) vs→Q (.ref p) H'):wpAny (model X.prog X.w) X.A.in1 (newList acc>>=fun l=>holding [l] (call (.builtin "list.sort") [l] [(Str.ofString "key",.ref f)])>>=fun _=>ret l) P X.xe { s with heap:=h',toks:=tk }:=by
  have l1:=wo jc;have hl:acc.length=es.length:=by rw[←l1];exact(Rx.length).symm
  have lkv:kv.length=es.length:=l1;refine bA (wpAny_newList ?_ (by rw[hl,kD];omega));have I0:Inv X pins σ H { s with heap:=h',toks:=tk }:=I.kept (t':=tk) hk;have Ny:(h'.push (seqObj "list" acc.toArray 0)).get? h'.objs.size=some (seqObj "list" acc.toArray 0):=il _ rfl;have ZG:H h'.objs.size=none:=I0.cY.fresh (cu _);have fD:ip X pins H h'.objs.size:=I0.Bh (cu _) ZG;have hD0:X.s₀.heap.objs.size≤h'.objs.size:=I0.sz;have hold:∀b o,h'.get? b=some o→b≠h'.objs.size:=fun b o q=>fT (dg q);show wpAny _ _ _ _ _ { s with heap:=h'.push (seqObj "list" acc.toArray 0),toks:=tk };have acD:(h'.push (seqObj "list" acc.toArray 0)).objs.size=h'.objs.size+1:=size_push' ..;have I1:Inv X pins σ H { s with heap:=h'.push (seqObj "list" acc.toArray 0),toks:=tk }:=I0.kept (t':=tk) fun b o q=>kz _ q;generalize hDD:h'.objs.size=D at *;refine bA (wm (wpAny_call_entry_kw slot_list_sort ⟨_,Ny,rfl⟩ entry_list_sort ?body (ksk_l1 _ _)))
  case body =>
    show wpAny (model X.prog X.w) X.A.in1.in1 (Builtin.«list.sort» ⟨[.ref D],[(Str.ofString "key",.ref f)]⟩) _ _ _;rw[ksk_t1];refine zS (vs:=acc) (κ:=tuples' true) (lt:=fun i j=>HT.lexLt ((es.map (·.1)).getD i []) ((es.map (·.1)).getD j []))
      (J:=fun kS e1 ks c s'=>D≠kS∧∃H' F' vk,Inv X ((kS,seqObj "list" ks.toArray c)::(D,seqObj "list" #[] e1)::pins) σ H' s'∧bB F H F' H'∧Vals vk ks∧Paired (oD H') vk ((es.map (·.1)).take ks.length) ∧
        ip X ((D,seqObj "list" #[] e1)::pins) H kS) Ny (by omega) ?init ?get ?step ?kind ?run ?fin
    case init =>
      intro kS e1 h2 iJ hsz g1 g2 keep;have I2:Inv X pins σ H { s with heap:=h2,toks:=tk }:=I0.kept (t':=tk) fun b o q=>keep b o (hold b o q) (kz _ q);have f0:ip X pins H kS:=I1.Bh hsz (I1.cY.fresh hsz);have fk:ip X ((D,seqObj "list" #[] e1)::pins) H kS:=⟨f0.1,f0.2.1,f0.2.2.1,f0.2.2.2.1,f0.2.2.2.2.1,fun p hp=>by
        rcases mX.mp hp with q|q
        ·exact f0.2.2.2.2.2 p (A9 _ q)
        · rcases gw.mp q with rfl|q
          ·exact iJ
          ·exact f0.2.2.2.2.2 p (jV _ q)⟩
      exact⟨iJ,H,F,[],(I2.xO fD g2 nz).xO fk g1 nz,bB.refl b0,.nil,by simpa using Paired.nil,fk⟩
    case get =>
      rintro kS e1 ks c s' ⟨iJ,H',F',vk,I',_⟩;exact⟨iJ,(I'.pin (kS,_) (jV _ de)).1,(I'.pin (D,_) (jV _ (lJ _ de))).1⟩
    case step =>
      rintro kS e1 ks c s' x ⟨iJ,H',F',vk,I',g',rk,hp,fk⟩ hx;have hi:ks.length<acc.length:=by
        rcases Nat.lt_or_ge ks.length acc.length with q|q
        ·exact q
        ·rw[Df q] at hx;cases hx
      have ra:=bq Rx (i:=ks.length) (by omega) V.non Value.none;obtain⟨b,q1,q2⟩:=bq jc (i:=ks.length) (by omega) V.non ([],[]);rw[q1,nD,hx] at ra;have hxb:x=.ref b:=ra;subst hxb;have Om:ks.length<es.length:=by omega
      have hee:es.getD ks.length ([],[])=es[ks.length]:=by rw[nD,mV Om];rfl
      rw[hee] at q2;have den:Den X.K F' (.tup (es[ks.length].2.map DL.D.int)) (.ref b):=aN.mpr ⟨b,_,rfl,g'.base.tup _ _ (g'.ent _ _ q2) rfl,fW _⟩;have ZP:(f,kla_obj "<lambda>" q params body scope [] pm c' Fq)∈X.pn++((kS,seqObj "list" ks.toArray c)::(D,seqObj "list" #[] e1)::pins):=by
        rcases mX.mp Qb with z|z
        ·exact A9 _ z
        ·exact jV _ (lJ _ (lJ _ z))
      refine pV (Qa (Q:=fun v H2=>∃F2,bB F' H' F2 H2∧Den X.K F2 (.tup (es[ks.length].1.map DL.D.int)) v) L hr I' ZP (g'.ent _ _ XR) (v:=.ref b) rfl g'.base den (hF _ (List.getElem_mem Om)) fun v H2 F2 g2 dn=>⟨F2,g2,dn⟩) (fun k wx hq=>?_) fun _ _ x=>x;obtain⟨v,H2,I2,rv,F2,g2,dn⟩:=hq;have Tj:=I2.pin (kS,_) (jV _ de);refine⟨Tj.1,fun h2 c2 sb gk=>⟨iJ,H2,F2,vk++[v],?_,g'.trans g2,rk.append (.cons rv .nil),?_,fk⟩⟩
      ·have yh:=ip.re fk Tj.2.1;have I3:=Inv.turned (t':=wx.toks) (h':=h2) (it:=kS) I2.uj (fun b o hb e=>by rw[sb.2 b hb];exact e) yh.1 yh.2.1 yh.2.2.2.1 yh.2.2.2.2.1 yh.2.2.2.2.2;exact I3.xO yh gk nz
      · have hi3:ks.length<(es.map (·.1)).length:=by rw[g9];exact Om
        rw[kI,List.length_singleton,List.take_succ_eq_append_getElem hi3];refine Paired.snoc (Paired.Ln hp fun a b q=>DL.oD.same q g2.ent) ?_;obtain⟨a,ws,rfl,w1,w2⟩:=aN.mp dn;rw[iq w2] at w1;exact⟨a,rfl,by rw[List.getElem_map];exact g2.base.sub _ _ w1⟩
    case kind =>
      rintro kS e1 ks c s' ⟨ZQ,H',F',vk,I',g',rk,hp,fk⟩ hlen h2 Q' hq;exact P9 I' rk hp (fun t ht=>by
        have:=List.mem_of_mem_take ht;obtain⟨e,he,rfl⟩:=i9.mp this;exact iJ e he) (by omega) hq
    case run =>
      rintro kS e1 ks c s' ⟨ZQ,H',F',vk,I',g',rk,hp,fk⟩ hlen h2;rw[Hq (by rw[g9];omega)] at hp;have hS:=Iv A5;rw[g9] at hS;refine Ct (by omega) (by omega) (by omega) (fun i j C' hi hj hC=>?_) (by rw[hl];exact hS);exact Xb I' rk hp hi hj hC
    case fin =>
      rintro kS e1 ks c s' p h3 h4 ck c2 ⟨ZQ,H',F',vk,I',g',rk,hp,fk⟩ hlen hP hU sb1 gk sb2 gD;have Tj:=I'.pin (kS,_) (jV _ de);have hpD:=I'.pin (D,_) (jV _ (lJ _ de));have yh:ip X pins H' kS:=⟨Tj.2.1,fk.2.1,fk.2.2.1,fk.2.2.2.1,fk.2.2.2.2.1,fun p hp=>fk.2.2.2.2.2 p (by
        rcases mX.mp hp with q|q
        ·exact A9 _ q
        ·exact jV _ (lJ _ q))⟩
      have GD:ip X pins H' D:=ip.re fD hpD.2.1;have I4:=Inv.turned (t':=s'.toks) (h':=h3) (it:=kS) I'.uj.uj (fun b o hb e=>by rw[sb1.2 b hb];exact e) yh.1 yh.2.1 yh.2.2.2.1 yh.2.2.2.2.1 yh.2.2.2.2.2;have I5:=Inv.turned (t':=s'.toks) (h':=h4) (it:=D) I4 (fun b o hb e=>by rw[sb2.2 b hb];exact e) GD.1 GD.2.1 GD.2.2.2.1 GD.2.2.2.2.1 GD.2.2.2.2.2;rw[hl] at hP hU;have hm:∀i∈p.toList,i<es.length:=fun i hi=>by have:=(De.mp hP.perm).mem_iff.mp hi;simpa using this
      have GF:(p.toList.map fun i=>kv.getD i V.non).length≤sizeLine:=by rw[g9,oo,hP.size,kD];omega
      have I6:=Inv.adopt (o:=.lst (p.toList.map fun i=>kv.getD i V.non)) I5 GD hD0 ⟨GF,p.toList.map fun i=>acc.getD i Value.none,c2,jx _ _ fun i hi=>bq Rx (by have:=hm i hi;omega) _ _,by simpa using gD⟩;have dgm:∀i,(es.map (·.1)).getD i []=(es.getD i ([],[])).1:=fun i=>by rw[nD,nD,qG];cases es[i]?<;>rfl
      simp only[dgm] at hU;have e0:nO es=p.toList.map fun i=>es.getD i ([],[]):=MQ A5 (DK _ hP) (qZ ([],[]) (fun a b=>HT.lexLt a.1 b.1) hP hU);refine⟨_,rfl,bj (W7 _ _ ⟨.ref D,_,I6,rfl,post D _ _ F' (g'.trans (bB.own g'.base GD.1 (.lst (p.toList.map fun i=>kv.getD i V.non)) GF rfl)) ZG (g'.base.sub.free GD.1) aL ?_⟩)⟩;rw[e0,e8];refine rh.mpr (jx _ _ fun i hi=>?_);obtain⟨b,q1,q2⟩:=bq jc (i:=i) (by have:=hm i hi;omega) V.non ([],[]);rw[q1];exact aN.mpr ⟨b,_,rfl,g'.base.tup _ _ (g'.ent _ _ q2) rfl,fW _⟩
theorem Ep{Q:VK}{f c' d:Addr}{body:Expr}{Fq:Value}{g:EF}{vs:List V}(hu:X.A.units+5<cLine)(L:ZO X k q params body scope g)(hr:fG (k+1) X.A.in1.in1)(I:Inv X pins σ H s)(Qb:(f,kla_obj "<lambda>" q params body scope [] pm c' Fq)∈X.pn++pins)(XR:H c'=some (.Hr q))(b0:Base F H)(hd:m4 X.K H d vs)(jc:Paired (fun v (e:aO×aO)=>oD H v e.2) vs es)(hF:∀e∈es,g [some (.sh (.tup (e.2.map D.int)))]=some (.tup (e.1.map D.int)))(A5:(es.map (·.1)).Nodup)(tE:es.length<64)(iJ:∀e∈es,e.1≠[])(post:∀p vs H' F',bB F H F' H'→H p=none→F' p=none→H' p=some (.lst vs)→cz X.K F' ((nO es).map fun e=>D.tup (e.2.map D.int)) vs→Q (.ref p) H'):wpAny (model X.prog X.w) X.A (call (.builtin "sorted") [.ref d] [(Str.ofString "key",.ref f)]) (EP X pins σ Q) X.xe s:=by
  obtain⟨its,rv,hl,_⟩:=I.list hd;have l1:vs.length=its.length:=rv.length;have l2:vs.length=es.length:=wo jc;refine call_function_entry_kw kind_sorted plain_sorted entry_sorted (ksk_s1 _ _) ?_;unfold Builtin.«sorted»;refine bA (m:=checkCount "sorted" 1 1 _) (bj ?_);refine bA (collect_list hl.isList ?_ (by rw[kD];omega));have keep:∀b o,s.heap.get? b=some o→((s.heap.push (seqObj "list" #[] 0)).update s.heap.objs.size (Obj.mapSeq (·++its.toArray))).get? b=some o:=fun b o q=>by have jL:b<s.heap.objs.size:=dg q;rw[Heap.get?_update_ne _ _ _ _ (fT jL),Heap.get?_push_ne _ _ _ (fT jL)];exact q
  exact Eo (tk:=s.toks) hu L hr I Qb XR b0 hF A5 tE iJ keep rv jc (fun v s' q=>⟨_,rfl,q⟩) post
end
end DL
namespace DL
open PySem PySem.Spec L2 PySem.W
open PyProof.Rows hiding St pairAt
def CC(g:EF):dm→Option (List (aO×aO))
  |[]=>some []
  |.tup ts::ds=>(kF ts).bind fun ns=>match g [some (.sh (.tup ts))] with
   |some (.tup ks)=>(kF ks).bind fun kk=>(CC g ds).map ((kk,ns)::·)
   |_=>none
  |_::_=>none
theorem Qc{g:EF}:∀{ds:dm} {es:List (aO×aO)},CC g ds=some es→ds=(es.map fun e=>D.tup (e.2.map D.int))∧∀e∈es,g [some (.sh (.tup (e.2.map D.int)))]=some (.tup (e.1.map D.int)):=by
  intro ds;induction ds with
  |nil=>intro es h;cases h;exact⟨rfl,fun _ z=>nomatch z⟩
  |cons d ds ih =>
   intro es h;unfold CC at h;split at h
   ·rename_i heq;cases heq
   · rename_i ts tF heq;cases heq;obtain⟨ns,h1,h⟩:=eJ.mp h;split at h
     · rename_i ks hg;obtain⟨kk,h2,h⟩:=eJ.mp h;obtain⟨r,h3,h4⟩:=gZ.mp h;subst h4;obtain⟨i1,i2⟩:=ih h3;have e1:=j6 h1;have e2:=j6 h2;subst e1 e2;refine⟨by rw[i1];rfl,fun e he=>?_⟩;rcases gw.mp he with rfl|he
       ·exact hg
       ·exact i2 e he
     ·cases h
   ·cases h
def z5(i:Nat)(η:cQ):Bool:=match η[i]? with
  |some (some (.sh (.obj _)))=>true
  |_=>false
def rO(f g:EF):LF:=fun η=>if z5 0 η=true then((f η).bind fun d=>match d with
    |.lst ds=>(CC g ds).bind fun es=>if (es.map (·.1)).Nodup∧es.length<64∧(es.all fun e=>!e.1.isEmpty)=true then some ((nO es).map fun e=>D.tup (e.2.map D.int)) else none
    |_=>none) else none
theorem MR(h:z5 i η=true):∃C,η[i]?=some (some (.sh (.obj C))):=by
  unfold z5 at h;split at h
  ·rename_i C e;exact⟨C,e⟩
  ·cases h
section
variable {X:Cx} {z:Zc} {e:Expr} {f:EF} {pos p:Pos}
theorem IG{c T:Addr}{body:Expr}{lp kp:Pos}{g:EF}(hu:X.A.units+5<cLine)(L:ZO X k DU params body scope g)(hr:fG (k+3) X.A)(Mv:Gl X "sorted")(D0:X.mg "sorted"=none)(ha:DE X z e f)(KD:X.env.code=.ref c)(hc:codeHdIn X.K c T=true)(hT:md X.K=some (c,T))(hB:X.base.BuiltinsAt X.mg T)(XY:closureFor scope X.env=pure [])(acW:eval (.Lambda params body scope lp) X.env=(do
      let dv ←evalAll []
      let kdv ←holding dv (evalAllOpt [])
      makeFunction "<lambda>" DU params (.expr body) scope X.env dv kdv [] lp lp.line))(hs:starEach [e] X.env=(false,eval e X.env)::starEach [] X.env:=by rfl):DO X z (.Call (.Name "sorted" p) [e] [⟨some "key",.Lambda params body scope lp,kp⟩] pos) (rO f g):=by
  intro pins s σ H Q I ⟨η,F,tF,rl,e0,kk⟩;unfold rO at e0;by_cases ZR:z5 0 η=true
  · obtain⟨C,ZS⟩:=MR ZR;rw[az ZR] at e0;obtain⟨d',h1,e0⟩:=eJ.mp e0;cases d' with
    |lst ds0 =>
     obtain⟨es,h2,e0⟩:=eJ.mp e0;by_cases hl:(es.map (·.1)).Nodup∧es.length<64∧(es.all fun e=>!e.1.isEmpty)=true
     · rw[az hl] at e0;cases e0;obtain⟨a1,a2⟩:=Qc h2;have iJ:∀e∈es,e.1≠[]:=fun e he z=>by
         have:=iH.mp hl.2.2 e he;rw[z] at this;simp at this
       obtain⟨vs0,_,acX⟩:=rl.at_ 0 _ ZS;obtain⟨_,_,_,_,P5⟩:=hE.mp (show Den X.K F (.obj C) vs0 from acX);have hFT:=P5 c T hT;refine wd (jX I Mv D0 nq ?_ (by decide) (by decide));refine PyProof.Rows.callWith_kw ?_ (by rw[hs];rfl) (by rw[hs];rfl) rfl rfl;refine gT (fh ha kK hs pos pins s σ H (fun vs H1=>∃v F1,vs=[v]∧bB F H F1 H1∧Den X.K F1 (.lst ds0) v) I ⟨η,F,_,rl,h1,fun v H1 F1 g1 q1=>⟨v,F1,rfl,g1,q1⟩⟩) fun us s1 ⟨vs,H1,I1,r1,q1⟩=>?_;obtain⟨v,F1,rfl,g1,q1⟩:=q1;obtain⟨q,ws,rfl,h4,h5⟩:=aW.mp q1;obtain⟨u,rfl,ru⟩:=vals1 r1;cases ru;rw[a1] at h5;show wpAny _ _ (evalAll ((do let v ←eval (.Lambda params body scope lp) X.env;standAt pos;pure v)::[])) _ _ s1;refine wpAny_evalAll_cons (bA ?_);rw[acW];refine bA (wpAny_evalAll_nil (bA (wm (bj ?_))));refine P8 I1 KD hc (g1.base.sub _ _ (g1.jy _ _ hFT)) XY hB fun fl c' Fq H2 s2 I2 hH acY=>?_;refine bA (wpAny_standAt (bj ?_));refine wpAny_evalAll_nil ?_;have g2:bB F1 H1 F1 H2:=by
         rcases hH with rfl|⟨hn,rfl⟩
         ·exact bB.refl g1.base
         ·exact bB.own g1.base hn (.Hr DU) True.intro rfl
       have jc:Paired (fun v (e:aO×aO)=>oD H2 v e.2) ws es:=by
         have key:∀{l:List V} {m:List (aO×aO)},cz X.K F1 (m.map fun e=>D.tup (e.2.map D.int)) l→Paired (fun v (e:aO×aO)=>oD H2 v e.2) l m:=by
           intro l m;induction m generalizing l with
           |nil=>intro h;rw[bD.mp h];exact .nil
           |cons x m ih=>intro h;obtain⟨v,r,rfl,h1,h2⟩:=aP.mp h;obtain⟨a,xs,rfl,h3,h4⟩:=aN.mp h1;rw[iq h4] at h3;exact .cons ⟨a,rfl,g2.base.sub _ _ (g2.jy _ _ h3)⟩ (ih h2)
         exact key h5
       have hr2:fG (k+1) X.A.in1.in1:=hr.in1.in1;refine gT (Ep (Q:=Q) hu L hr2 I2 (jV _ de) acY g2.base (g2.base.sub.seq (cG.seq g2.jy h4)) jc a2 hl.1 hl.2.1 iJ fun p vs H' F' g q1 q2 q3 q4=>kk p vs H' F' ((g1.trans g2).trans g) ((g1.trans g2).ent.free q1) q2 q3 q4) fun u s3 ⟨v,H3,I3,r,qq⟩=>⟨v,H3,I3.uj,r,qq⟩
     ·rw[bh hl] at e0;cases e0
    |_=>cases e0
  ·rw[bh ZR] at e0;cases e0
end
theorem TH{K:PySem.W.Frag}{base:Heap}{st:Stmt}{f:Addr}{ps:gq}{ms:List Bool}{g:SF}{kV doc eQ:Value}(lk:K.lookup f=some ⟨oc,od,.func (fnOf x qual (e9 st) (dD st) (ay st) .none kV doc pm an eQ ct),Hm⟩)(ow:codeIn K eQ qual=true)(S:aV N ps (ay st))(D0:ms.length=ps.length)(hb:∀(A:Around) (outer:List Env) (s:Shared) (H:Hp) (E:XK) (z:Zc),fG k (A.deeper (envOfC qual (ay st) s.heap.objs.size f eQ))→L8 (ya i7 P w K mg base N qual (ay st) f eQ A outer s H E).Hs z (dD st) g):cI P w K mg base i7 (k+1) f (fnOf x qual (e9 st) (dD st) (ay st) .none kV doc pm an eQ ct) ps (cL K ms (jz N.length ms g)):=by
  refine UC lk ow S (fun vs H Q E h=>?_) (fun A outer s H vs Q E hr h=>?_)
  ·obtain⟨F,ds,r,_,a,_⟩:=h;rw[←D0,(nJ a).1]
  · obtain⟨F,ds,r,b,a,e,q⟩:=h;refine⟨_,Bg.Hs (hb A outer s H E ⟨F,H,fun _ _=>False⟩ hr),?_⟩;have rl:Rel K ⟨F,H,fun _ _=>False⟩ F H (L2.start N vs) (eR N.length ms ds):=sN b a;unfold jz at e;cases o:g (eR N.length ms ds) with
    |none=>rw[o] at e;cases e
    |some o' =>
     rw[o] at e;refine⟨_,F,o',rl,o,?_⟩;cases o' with
     |rt r'=>cases e;exact L7.of (z:=⟨F,H,fun _ _=>False⟩) q
     |nx η'=>cases e;exact fun σ' H' F' r' _=>q .non H' F' r'.mem (cg.mpr rfl)
     |bk _=>cases e
     |ct _=>cases e
end DL
namespace L2
open PySem PySem.Spec PyProof.Rows PySem.W
def ZT(outer:List Env)(h0:Heap)(ea:Addr)(C:Value)(H':Hp)(h':Heap):Prop :=
  ∃B a0,Heap.FlyingW B outer ea C a0 h'∧(∀b o,h0.get? b=some o→b∉Lq outer→∃o',B.get? b=some o')∧∀b o,H' b=some o→∃o',B.get? b=some o'
def CXf(P:Program)(w:World):LH:=fun outer H s E e s' =>
  ∃(ea C:Addr) (H':Hp),e=.ref ea∧s'.os=s.os∧AllBare s'.gens∧Un (Lq outer) [] H H' s.heap s'.heap∧ub P w H' s'.heap∧ZT outer s.heap ea (.ref C) H' s'.heap∧E (.ref C) none H'
section
variable {P:Program} {w:World} {K:PySem.W.Frag} {mg:Str→mR} {base:Heap} {N:gq} {qual:Str} {scope:Scope} {f:Addr} {cd:Value} {A:Around} {outer:List Env} {s₀:Shared} {H₀:Hp} {E:XK}
  {pins:kH} {σ:St} {H:Hp} {s:Shared}
end
end L2
namespace PySem.W
open PySem PySem.Spec PySem.Calls PyProof.Rows Builtin Builtin.ObjectAttr Builtin.Getset_descriptor
section
variable {prog:Program} {w:World} {A:Around} {E:lr} {s:Shared} {K:Frag} {x C D:Addr} {ox:Obj} {od:Obj} {odo:Option Obj} {name:Str}
structure agb (K:Frag) (C:Addr):Prop where
  cl:(clsIn K C).isSome=true
  ga:findIn K (.ref C) "__getattribute__"=some (some (.builtin "BaseException.__getattribute__"))
  gt:findIn K (.ref C) "__getattr__"=some none
  ha:findIn K (.ref C) "__class__"=some (some (.builtin "object.__class__"))
  hn:specialIn K (.builtin "object.__class__") "__get__"=some (some (.builtin "getset_descriptor.__get__"))
  htk:takesIn K (.builtin "object.__class__")=some true
  hm:mroIn K C (.type "object")=some true
  hb:mroIn K C (.type "BaseException")=some true
end
end PySem.W
namespace DL
open PySem PySem.Spec L2
open PyProof.Rows hiding St pairAt
structure aiF (P:Program) (w:World) (K:PySem.W.Frag) (mg:Str→mR) (base:Heap) (k:Nat) (f:Addr) (ps:gq) (sp:Sp):Prop where
  ex:∃fd,cI P w K mg base (CXf P w) k f fd ps sp∧Binds K fd ps []∧keepIn K (.ref f)=true
section
variable {X:Cx} {z:Zc} {e e2 o:Expr} {es es2:List Expr} {fs fs2:LF} {fo:EF} {ms ms2:List Bool} {pos p apos:Pos} {m:Str}
theorem GP{ps:gq}(hz:kM X.K z.F₀)(C:fV X.prog X.w X.K X.mg X.base k fn ps (GO X.K ms Fn))(hr:fG k X.A)(hg:Gl X x)(hm:X.mg x=some (.ref fn))(ha:DM X z (e::es) ms fs)(tm:(x==("__debug__":Str))=false:=by decide)(he:starEach (e::es) X.env=(false,eval e X.env)::starEach es X.env:=by rfl)(tq:(backTo pos (starEach es X.env)).any (·.1)=false:=by rfl):DE X z (.Call (.Name x p) (e::es) [] pos) (ax Fn fs):=PE.weak (DR C hr hg hm ha tm he tq) fun σ H Q ⟨η,F,d,r,e,k⟩=>by
  unfold ax at e;obtain⟨ds,h1,h⟩:=eJ.mp e;obtain⟨s,h2,h⟩:=eJ.mp h;refine⟨η,F,ds,r,h1,fun vs H1 F1 g1 q1=>?_⟩;show GO X.K ms Fn (vs++[]) H1 Q E0;rw[uH];refine⟨F1,ds,s,g1.base,(hz.mono r.mem.jy).mono g1.jy,q1,h2,?_⟩;cases s with
  |sh d'=>cases h;exact fun v H' F' g2 q2=>k v H' F' (g1.trans g2) q2
  |ol tF=>cases h;intro p vs H' F' g2 hp hF hH hd;have hs:cG F' (upd F' p (.lst vs)):=fj hF _;exact k _ _ _ ((g1.trans g2).share g2.base hH (g1.ent.free hp)) (aW.mpr ⟨p,vs,rfl,m4.of aL,bE hs _ _ hd⟩)
  |pr tF UK=>cases h;intro a p vs ws H' F' g2 hp hF hH hd ha hr;have hs:cG F' (upd F' p (.lst vs)):=fj hF _;exact k _ _ _ ((g1.trans g2).share g2.base hH (g1.ent.free hp)) (aN.mpr ⟨a,_,rfl,hs _ _ ha,aP.mpr ⟨_,_,rfl,aW.mpr ⟨p,vs,rfl,m4.of aL,bE hs _ _ hd⟩,bE hs _ _ hr⟩⟩)
  |_=>cases h
end
end DL
namespace nP
open PySem L2 DL NS
def top(i:Nat):Stmt:=PySem.Challenge.pw_fairbench_k64_whole_order_and_parts_of_h.main.body.getD i (.Pass ⟨0,0,0,0⟩)
abbrev p8:Stmt:=top 8
abbrev rP:Stmt:=top 9
abbrev z6:Stmt:=top 10
abbrev mx:Stmt:=top 11
abbrev my:Stmt:=top 12
abbrev ka:Stmt:=top 13
abbrev kT:Stmt:=top 14
abbrev wV:Stmt:=top 17
abbrev oT:Stmt:=top 18
abbrev uk:Stmt:=top 19
abbrev oU:Stmt:=top 20
abbrev oV:Stmt:=top 21
abbrev kb:Stmt:=top 22
abbrev p9:Stmt:=top 24
abbrev g7:Stmt:=top 25
abbrev nQ:Stmt:=top 26
abbrev kU:Stmt:=top 27
abbrev kc:Stmt:=top 28
abbrev iy:Stmt:=top 29
abbrev mz:Stmt:=top 30
abbrev mB:Stmt:=top 31
abbrev rQ:Stmt:=top 32
abbrev um:Stmt:=top 34
abbrev wW:Stmt:=top 35
abbrev z7:Stmt:=top 36
abbrev jB:Stmt:=top 37
abbrev jC:Stmt:=top 43
abbrev qb:Stmt:=top 44
abbrev qc:Stmt:=top 45
abbrev oW:Stmt:=top 46
abbrev oX:Stmt:=top 47
abbrev mC:Stmt:=top 48
abbrev kW:Stmt:=top 49
abbrev kX:Stmt:=top 50
abbrev wX:Stmt:=top 52
abbrev Er:Stmt:=top 53
abbrev Qd:Stmt:=top 54
abbrev Es:Stmt:=top 55
abbrev s_same:Stmt:=top 56
abbrev II:Stmt:=top 57
abbrev IJ:Stmt:=top 58
abbrev m7:Stmt:=top 59
abbrev oY:Stmt:=inClass (top 39) 2
abbrev bN:Stmt:=inClass (top 40) 0
abbrev nR:Stmt:=inClass (top 39) 1
abbrev eX:Stmt:=inClass (top 41) 0
abbrev eY:Stmt:=inClass (top 42) 0
structure yi where
  ke:Addr
  iz:Addr
  pK:Addr
  jk:Addr
  jl:Addr
  hJ:Addr
  iL:Addr
  jP:Addr
  ly:Addr
  qd:Addr
  cZ:Addr
  gW:Addr
  fq:Addr
  m8:Addr
  eG:Addr
  gf:Addr
  iM:Addr
  hW:Addr
  cS:Addr
  jm:Addr
  eZ:Addr
  jQ:Addr
  kY:Addr
  sS:Addr
  vo:Addr
  gE:Addr
  dz:Addr
  dY:Addr
  iN:Addr
  lA:Addr
  lB:Addr
  jn:Addr
  iO:Addr
  iP:Addr
  iQ:Addr
  oF:Addr
  KG:Addr
  yF:Addr
  mD:Addr
  z8:Addr
  z9:Addr
  KJ:Addr
  lC:Addr
  nS:Addr
  kf:Addr
  mE:Addr
  mF:Addr
  gs:Addr
  aZ:Addr
  aR:Addr
  aS:Addr
  Ry:Addr
  TJ:Addr
structure xQ (a:yi):Prop where
  Et:a.aZ≠a.aR
  Eu:a.aZ≠a.aS
  BE:a.aR≠a.aS
def jR:aO:=[0,60,90,110,125,137,147]
structure Txt (K:PySem.W.Frag) (mg:Str→mR) (a:yi):Prop where
  ke:mg "heaps_of"=some (.ref a.ke)
  iz:mg "ballots"=some (.ref a.iz)
  pK:mg "rank"=some (.ref a.pK)
  jk:mg "check_count"=some (.ref a.jk)
  jl:mg "check_names"=some (.ref a.jl)
  hJ:mg "check_ballots"=some (.ref a.hJ)
  iL:mg "put_together"=some (.ref a.iL)
  jP:mg "worth"=some (.ref a.jP)
  ly:mg "exchanges"=some (.ref a.ly)
  qd:mg "mended"=some (.ref a.qd)
  cZ:mg "in_common"=some (.ref a.cZ)
  gW:mg "exchanged"=some (.ref a.gW)
  fq:mg "best_exchange"=some (.ref a.fq)
  m8:mg "left_out"=some (.ref a.m8)
  eG:mg "left_out_together"=some (.ref a.eG)
  gf:mg "are_enough"=some (.ref a.gf)
  iM:mg "with_too_few"=some (.ref a.iM)
  hW:mg "with_none_but"=some (.ref a.hW)
  cS:mg "heaps_naming_all"=some (.ref a.cS)
  jm:mg "largest_few"=some (.ref a.jm)
  eZ:mg "sets_to_ask"=some (.ref a.eZ)
  jQ:mg "sets_of"=some (.ref a.jQ)
  kY:mg "lowest"=some (.ref a.kY)
  sS:mg "added"=some (.ref a.sS)
  vo:mg "less"=some (.ref a.vo)
  gE:mg "common_divisor"=some (.ref a.gE)
  dz:mg "ballots_naming"=some (.ref a.dz)
  dY:mg "names_of"=some (.ref a.dY)
  iN:mg "unseated"=some (.ref a.iN)
  lA:mg "next_turn"=some (.ref a.lA)
  lB:mg "next_load"=some (.ref a.lB)
  jn:mg "comes_ahead"=some (.ref a.jn)
  iO:mg "load_of_name"=some (.ref a.iO)
  iP:mg "load_of_heap"=some (.ref a.iP)
  iQ:mg "_law_cell_at"=some (.ref a.iQ)
  oF:mg "_law_mixed"=some (.ref a.oF)
  KG:mg "_law_set"=some (.ref a.KG)
  yF:mg "_law_heaps"=some (.ref a.yF)
  mD:mg "_law_same"=some (.ref a.mD)
  z8:mg "_law_rows"=some (.ref a.z8)
  z9:mg "_law_told"=some (.ref a.z9)
  KJ:mg "law"=some (.ref a.KJ)
  aZ:mg "Most"=some (.ref a.aZ)
  aR:mg "Turns"=some (.ref a.aR)
  aS:mg "Loads"=some (.ref a.aS)
  vp:Rm K a.aZ
  vq:ZL K a.aZ
  tY:Meth K a.aZ "bench" a.lC
  tZ:Meth K a.aZ "order" a.nS
  Aa:Meth K a.aZ "seated" a.kf
  rR:Rm K a.aR
  rS:ZL K a.aR
  rT:Meth K a.aR "bench" a.lC
  rV:Meth K a.aR "order" a.mE
  yj:Meth K a.aR "seated" a.kf
  rW:Rm K a.aS
  rX:ZL K a.aS
  rY:Meth K a.aS "bench" a.lC
  rZ:Meth K a.aS "order" a.mF
  yk:Meth K a.aS "seated" a.kf
  gs:mg "SIXTIETHS"=some (.ref a.gs)
  GQ:∀H,kA K H a.gs (jR.map V.int)
  Ew:∃t,mg "MOST_NAMES"=some (.int 6 t)
  IK:mg "bool"=none
  U3:mg "int"=none
  cx:mg "isinstance"=none
  je:mg "len"=none
  wY:mg "list"=none
  ZU:mg "min"=none
  lD:mg "range"=none
  IL:mg "reversed"=none
  ZV:mg "set"=none
  nT:mg "sorted"=none
  U4:mg "str"=none
  GR:mg "sum"=none
  m9:mg "tuple"=none
  acZ:PySem.W.codeHdIn K a.Ry a.TJ=true
  ac0:md K=some (a.Ry,a.TJ)
section
variable {P:Program} {w:World} {K:PySem.W.Frag} {mg:Str→mR} {base:Heap} {f:Addr} {fd:FuncData} {a:yi}
theorem ac1:(["names","together"]:gq).Nodup:=by decide +kernel
theorem ac2:(["heap"]:gq).Nodup:=by decide +kernel
theorem ZW:(["names","many"]:gq).Nodup:=by decide +kernel
theorem ZX:(["named","many","names"]:gq).Nodup:=by decide +kernel
theorem ac3:(["name","two"]:gq).Nodup:=by decide +kernel
theorem ac4:(["name","leaving"]:gq).Nodup:=by decide +kernel
theorem ac5:(["heap","bench","names"]:gq).Nodup:=by decide +kernel
theorem ac6:(["name","few"]:gq).Nodup:=by decide +kernel
theorem ac7:(["heap","others"]:gq).Nodup:=by decide +kernel
theorem ZY:(["heap","names"]:gq).Nodup:=by decide +kernel
theorem ZZ:(["few","size"]:gq).Nodup:=by decide +kernel
theorem Z0:(["some","name"]:gq).Nodup:=by decide +kernel
theorem U5:(["names","many","name"]:gq).Nodup:=by decide +kernel
theorem Z1:(["row"]:gq).Nodup:=by decide +kernel
theorem Z2:(["name","rows"]:gq).Nodup:=by decide +kernel
theorem Z3:(["_law_name","_law_bits"]:gq).Nodup:=by decide +kernel
theorem Z4:(["_law_name","_law_cell"]:gq).Nodup:=by decide +kernel
theorem agc:(["_law_names"]:gq).Nodup:=by decide +kernel
theorem Z5:(["_law_names"]:gq).Nodup:=by decide +kernel
theorem U6:(["_law_size","_law_names","_law_found"]:gq).Nodup:=by decide +kernel
theorem Z6:(["_law_way","_law_count","_law_heaps_here"]:gq).Nodup:=by decide +kernel
theorem Z7:(["_law_way","_law_count","_law_heaps_here","_law_some"]:gq).Nodup:=by decide +kernel
theorem U7:(["_law_names","_law_many"]:gq).Nodup:=by decide +kernel
theorem Z8:(["_law_name","_law_there"]:gq).Nodup:=by decide +kernel
theorem Z9:(["name","heaps"]:gq).Nodup:=by decide +kernel
theorem jD:aV ["rows","names","many"] ["rows"] (ay ka):=⟨rfl,rfl,rfl,by decide +kernel,rfl,by decide +kernel,by decide +kernel⟩
def i3:SF:=(pT (bV (ag HR (aJ 2) (eC (.int 0)))) Mq dI)
def kg:SF:=(bw (kP (cJ (eV 0)) (lR 2 (cc (aD true 1) (cc (aD true 2) lQ))) i3) (pT (bV (ag m5 (jN ye (ae (eL (bQ 2 [] (cJ (eV 0)) (lR 2 (cc (aD true 0) (cc (aD true 1) lQ))) eP (eV 1))) ao)) (eC (.int 0)))) Mq dI))
def hX:dm→eO:=jz 3 [true] kg
theorem uo(F:kE K "check_ballots" "check_ballots" ka f fd)(T:Txt K mg a):cI P w K mg base i7 1 f fd ["rows"] (cL K [true] hX) :=
  bM F jD rfl (fun eQ A outer s H E z hr=>by
    have hu:=hr.units;exact(ai (fJ rfl (cE (aA 0)) (nL rfl (cC (aU 1 jD.nd) (cC (aU 2 jD.nd) j7))) (av (eD (xK (aG 2) (DE.bo aB)) (av zI) bW))) (av (eD (tU hu (DE.bo (bU (q0 rfl) zi rfl T.GR yW (cB (DE.bo (DO.sh (dE rfl (tgs:=["names","many"]) (fi:=[]) (dh.of rfl) (by decide) (cE (aA 0)) (fun _ _ _ _=>(nL rfl (cC (aU 0 ZW) (cC (aU 1 ZW) j7)))) (fun _ _ _ _=>jh) (fun _ _ _ _=>(aA 1))))) au))) (DE.bo aB)) (av zI) bW))))
theorem wZ:aV ["count"] ["count"] (ay mx):=⟨rfl,rfl,rfl,by decide +kernel,rfl,by decide +kernel,by decide +kernel⟩
def mG:SF:=(pT (mj (bV (ag HR (aJ 0) (eC (.int 1)))) (bV (ag Nt (aJ 0) (eC (.int 6))))) Mq dI)
def jo:dm→eO:=jz 1 [true] mG
theorem w5(F:kE K "check_count" "check_count" mx f fd)(T:Txt K mg a):cI P w K mg base i7 1 f fd ["count"] (cL K [true] jo) :=
  bM F wZ rfl (fun eQ A outer s H E z hr=>by
    have hu:=hr.units;exact(av (eD (DW.t (tR (xK (aG 0) (DE.bo aB)) (oQ (zk (aG 0) (DE.bo (Tn rfl T.Ew)))))) (av zI) bW)))
theorem iR:aV ["count","rows","names","many","name"] ["count","rows"] (ay my):=⟨rfl,rfl,rfl,by decide +kernel,rfl,by decide +kernel,by decide +kernel⟩
def kh:SF:=(pT (mj (bV (ag HR (aJ 4) (eC (.int 0)))) (bV (ag Zt (aJ 4) (aJ 0)))) Mq dI)
def oG:SF:=(kP (cJ (eV 2)) (aD true 4) kh)
def yl:SF:=(kP (cJ (eV 1)) (lR 2 (cc (aD true 2) (cc (aD true 3) lQ))) oG)
def jq:dm→eO:=jz 5 [true,true] yl
theorem w6(F:kE K "check_names" "check_names" my f fd)(T:Txt K mg a):cI P w K mg base i7 1 f fd ["count","rows"] (cL K [true,true] jq) :=
  bM F iR rfl (fun eQ A outer s H E z hr=>by
    have hu:=hr.units;exact(av (fJ rfl (cE (aA 1)) (nL rfl (cC (aU 2 iR.nd) (cC (aU 3 iR.nd) j7))) (av (fJ rfl (cE (aA 2)) (aU 4 iR.nd) (av (eD (DW.t (tR (xK (aG 4) (DE.bo aB)) (oQ (Zw (aG 4) (aG 0))))) (av zI) bW)))))))
theorem fu:aV ["rows","together","row","many","names"] ["rows"] (ay kT):=⟨rfl,rfl,rfl,by decide +kernel,rfl,by decide +kernel,by decide +kernel⟩
def gF:SF:=(pT (bV (ag Nt (aJ 3) (eC (.int 0)))) (bw (cw 4 (ml (eL (zO (aJ 2))))) (rD 1 (aJ 4) (ag mq (wN 1 (aJ 4) (eC (.int 0))) (aJ 3)))) dI)
def kZ:SF:=(bw (zB 1) (bw (kP (cJ (eV 0)) (lR 2 (cc (aD true 2) (cc (aD true 3) lQ))) gF) (O8 1)))
def iS:dm→eO:=jz 5 [true] kZ
theorem vt(F:kE K "put_together" "put_together" kT f fd)(T:Txt K mg a):cI P w K mg base i7 1 f fd ["rows"] (cL K [true] iS) :=
  bM F fu rfl (fun eQ A outer s H E z hr=>by
    have hu:=hr.units;exact(ai (Gr (i:=1) fu.nd) (ai (fJ rfl (cE (aA 0)) (nL rfl (cC (aU 2 fu.nd) (cC (aU 3 fu.nd) j7))) (av (eD (zk (aG 3) (DE.bo aB)) (ai (bz (i:=4) fu.nd (ro rfl rfl T.m9 (DO.sh (Pt rfl rfl T.nT rfl T.ZV (aG 2))))) (av (zD (yS hr) 1 (aG 4) (fZ (DE.bo (Gs (yS hr) 1 (aG 4) aB)) (aG 3))))) bW))) (av (S8 1)))))
theorem MS:aV ["names"] ["names"] (ay z6):=⟨rfl,rfl,rfl,by decide +kernel,rfl,by decide +kernel,by decide +kernel⟩
def GU:SF:=(dU (fX (ae (jN dS (ae (aJ 0) ao)) (ae (eV 0) ao))))
def iA:dm→eO:=jz 1 [true] GU
theorem MT(F:kE K "rank" "rank" z6 f fd)(T:Txt K mg a):cI P w K mg base i7 1 f fd ["names"] (cL K [true] iA) :=
  bM F MS rfl (fun eQ A outer s H E z hr=>by
    have hu:=hr.units;exact(av (bR (gy (n:=2) (aj (bU bC fY rfl T.je fI (cB (aG 0) au)) (aj (aA 0) au))))))
theorem t4:aV ["count","rows","together"] ["count","rows"] (ay p8):=⟨rfl,rfl,rfl,by decide +kernel,rfl,by decide +kernel,by decide +kernel⟩
def qe:SF:=(bw (xP (ax jo (ae (eV 0) ao))) (bw (xP (ax jq (ae (eV 0) (ae (eV 1) ao)))) (bw (xP (ax hX (ae (eV 1) ao))) (bw (Ko 2 iS (ae (eV 1) ao)) (kG (bQ 1 [2] (cJ (eL (Ej 2 iA))) (aD true 0) eP (fX (ae (eV 0) (ae (xN 1 (aJ 0)) ao)))))))))
def iT:dm→eO:=jz 3 [true,true] qe
theorem BG(F:kE K "heaps_of" "heaps_of" p8 f fd)(T:Txt K mg a)(vw:fV P w K mg base 1 a.hJ ["rows"] (cL K [true] hX))(ym:fV P w K mg base 1 a.jk ["count"] (cL K [true] jo))(yn:fV P w K mg base 1 a.jl ["count","rows"] (cL K [true,true] jq))(xa:fV P w K mg base 1 a.iL ["rows"] (cL K [true] iS))(Ab:fV P w K mg base 1 a.pK ["names"] (cL K [true] iA)):cI P w K mg base i7 4 f fd ["count","rows"] (cL K [true,true] iT) :=
  bM F t4 rfl (fun eQ A outer s H E z hr=>by
    have hu:=hr.units;exact(ai (Ek (aI ym (hr.mono (by decide)) rfl T.jk (aj (aA 0) au))) (ai (Ek (aI yn (hr.mono (by decide)) rfl T.jl (aj (aA 0) (aj (aA 1) au)))) (ai (Ek (aI vw (hr.mono (by decide)) rfl T.hJ (aj (aA 1) au))) (ai (S9 (i:=2) t4.nd xa (hr.mono (by decide)) rfl T.iL (aj (aA 1) au)) (av (iK (dE rfl (tgs:=["names"]) (fi:=[2]) (dh.of rfl) (by decide) (cE (DO.sh (PJ 2 rfl (Fx (Nat.add_le_add_left (by decide:5≤64) _) hr.units) Ab (hr.mono (by decide)) rfl T.nT rfl T.pK))) (fun _ _ _ _=>(aU 0 ac1)) (fun _ _ _ _=>jh) (fun _ _ _ _=>(gy (n:=2) (aj (aA 0) (aj (Km (yS hr) 1 (aG 0)) au))))))))))))
theorem Ex:aV ["heaps"] ["heaps"] (ay rP):=⟨rfl,rfl,rfl,by decide +kernel,rfl,by decide +kernel,by decide +kernel⟩
def sd:SF:=(dU (jN ye (ae (eL (bQ 1 [] (cJ (eV 0)) (aD true 0) eP (ag iX (eV 0) (eC (.int 1))))) ao)))
def iB:dm→eO:=jz 1 [true] sd
theorem Ey(F:kE K "ballots" "ballots" rP f fd)(T:Txt K mg a):cI P w K mg base i7 1 f fd ["heaps"] (cL K [true] iB) :=
  bM F Ex rfl (fun eQ A outer s H E z hr=>by
    have hu:=hr.units;exact(av (bR (bU (q0 rfl) zi rfl T.GR yW (cB (DE.bo (DO.sh (dE rfl (tgs:=["heap"]) (fi:=[]) (dh.of rfl) (by decide) (cE (aA 0)) (fun _ _ _ _=>(aU 0 ac2)) (fun _ _ _ _=>jh) (fun _ _ _ _=>(jO (aA 0) (DE.bo aB)))))) au)))))
theorem Ac:aV ["one","two"] ["one","two"] (ay oU):=⟨rfl,rfl,rfl,by decide +kernel,rfl,by decide +kernel,by decide +kernel⟩
def oZ:SF:=(dU (jN dS (ae (eL (bQ 1 [1] (cJ (eV 0)) (aD true 0) (bV (ag (inD false) (aJ 0) (aJ 1))) (eV 0))) ao)))
def bP:dm→eO:=jz 2 [true,true] oZ
theorem Ad(F:kE K "in_common" "in_common" oU f fd)(T:Txt K mg a):cI P w K mg base i7 1 f fd ["one","two"] (cL K [true,true] bP) :=
  bM F Ac rfl (fun eQ A outer s H E z hr=>by
    have hu:=hr.units;exact(av (bR (bU bC fY rfl T.je fI (cB (DE.bo (DO.sh (dE rfl (tgs:=["name"]) (fi:=[1]) (dh.of rfl) (by decide) (cE (aA 0)) (fun _ _ _ _=>(aU 0 ac3)) (fun _ _ _ _=>(ji (Kd (aG 0) (aG 1)))) (fun _ _ _ _=>(aA 0))))) au)))))
theorem IQ:aV ["heaps","names"] ["heaps","names"] (ay wV):=⟨rfl,rfl,rfl,by decide +kernel,rfl,by decide +kernel,by decide +kernel⟩
def xc:SF:=(dU (jN ye (ae (eL (bQ 2 [1] (cJ (eV 0)) (lR 2 (cc (aD true 0) (cc (aD true 1) lQ))) eP (ag uX (aJ 1) (L9 jR (ax bP (ae (eV 0) (ae (eV 2) ao))))))) ao)))
def gg:dm→eO:=jz 2 [true,true] xc
theorem IU(F:kE K "worth" "worth" wV f fd)(T:Txt K mg a)(fL:fV P w K mg base 1 a.cZ ["one","two"] (cL K [true,true] bP)):cI P w K mg base i7 2 f fd ["heaps","names"] (cL K [true,true] gg) :=
  bM F IQ rfl (fun eQ A outer s H E z hr=>by
    have hu:=hr.units;exact(av (bR (bU (q0 rfl) zi rfl T.GR yW (cB (DE.bo (DO.sh (dE rfl (tgs:=["named","many"]) (fi:=[1]) (dh.of rfl) (by decide) (cE (aA 0)) (fun _ _ _ _=>(nL rfl (cC (aU 0 ZX) (cC (aU 1 ZX) j7)))) (fun _ _ _ _=>jh) (fun _ _ _ _=>(rq (aG 1) (DE.bo (Ww rfl T.gs (fun H=>T.GQ H) (DE.bo (aI fL (hr.mono (by decide)) rfl T.cZ (aj (aA 0) (aj (aA 2) au))))))))))) au)))))
theorem se:aV ["bench","leaving","coming","staying"] ["bench","leaving","coming"] (ay oV):=⟨rfl,rfl,rfl,by decide +kernel,rfl,by decide +kernel,by decide +kernel⟩
def pd:SF:=(bw (cw 3 (eL (bQ 1 [1] (cJ (eV 0)) (aD true 0) (bV (ag qJ (aJ 0) (aJ 1))) (eV 0)))) (dU (ml (eL (rC (eL (yf (eV 3) (eL (oR (ae (eV 2) ao))))))))))
def gX:dm→eO:=jz 4 [true,true,true] pd
theorem Ae(F:kE K "exchanged" "exchanged" oV f fd)(T:Txt K mg a):cI P w K mg base i7 1 f fd ["bench","leaving","coming"] (cL K [true,true,true] gX) :=
  bM F se rfl (fun eQ A outer s H E z hr=>by
    have hu:=hr.units;exact(ai (Gn (i:=3) rfl se.nd (tgs:=["name"]) (fi:=[1]) (dh.of rfl) (by decide) (cE (aA 0)) (fun _ _ _ _=>(aU 0 ac4)) (fun _ _ _ _=>(ji (Ci hu (aG 0) (aG 1)))) (fun _ _ _ _=>(aA 0))) (av (bR (ro rfl rfl T.m9 (DO.sh (Gm (Fx (Nat.add_le_add_left (by decide:5≤64) _) hr.units) rfl T.nT (DE.bo (DO.sh (D1 (aA 3) (DO.sh (nK (n:=1) (aj (aA 2) au)))))))))))))
theorem gh:aV ["count","heaps","bench","before","told","leaving","coming","after"] ["count","heaps","bench"] (ay oT):=⟨rfl,rfl,rfl,by decide +kernel,rfl,by decide +kernel,by decide +kernel⟩
def jr:SF:=(pT (bV (ag (inD true) (aJ 6) (aJ 2))) (bw (cw 7 (ax gg (ae (eV 1) (ae (ax gX (ae (eV 2) (ae (eV 5) (ae (eV 6) ao)))) ao)))) (dF 4 (fX (ae (eV 5) (ae (eV 6) (ae (ag HQ (aJ 7) (aJ 3)) ao)))))) dI)
def ju:SF:=(kP (eF (aJ 0)) (aD true 6) jr)
def pe:SF:=(bw (cw 3 (ax gg (ae (eV 1) (ae (eV 2) ao)))) (bw (qA 4 (oR ao)) (bw (kP (cJ (eV 2)) (aD true 5) ju) (Ce 4))))
def lE:dm→eO:=jz 8 [true,true,true] pe
theorem Af(F:kE K "exchanges" "exchanges" oT f fd)(T:Txt K mg a)(pf:fV P w K mg base 1 a.gW ["bench","leaving","coming"] (cL K [true,true,true] gX))(pL:fV P w K mg base 2 a.jP ["heaps","names"] (cL K [true,true] gg)):cI P w K mg base i7 3 f fd ["count","heaps","bench"] (cL K [true,true,true] lE) :=
  bM F gh rfl (fun eQ A outer s H E z hr=>by
    have hu:=hr.units;exact(ai (bz (i:=3) gh.nd (aI pL (hr.mono (by decide)) rfl T.jP (aj (aA 1) (aj (aA 2) au)))) (ai (uY (i:=4) gh.nd (nK (n:=0) au)) (ai (fJ rfl (cE (aA 2)) (aU 5 gh.nd) (av (fJ rfl (kO rfl T.lD (aG 0)) (aU 6 gh.nd) (av (eD (D3 (aG 6) (aG 2)) (ai (bz (i:=7) gh.nd (aI pL (hr.mono (by decide)) rfl T.jP (aj (aA 1) (aj (aI pf (hr.mono (by decide)) rfl T.gW (aj (aA 2) (aj (aA 5) (aj (aA 6) au)))) au)))) (av (gU 4 (gy (n:=3) (aj (aA 5) (aj (aA 6) (aj (D2 (aG 7) (aG 3)) au))))))) bW))))) (av (yC 4))))))
theorem dA:aV ["count","heaps","bench","best","most","exchange"] ["count","heaps","bench"] (ay kb):=⟨rfl,rfl,rfl,by decide +kernel,rfl,by decide +kernel,by decide +kernel⟩
def i5:SF:=(pT (bV (ag Nt (ag iX (aJ 5) (eC (.int 2))) (aJ 4))) (bw (cw 3 (eV 5)) (cw 4 (ag iX (eV 5) (eC (.int 2))))) dI)
def ki:SF:=(bw (cw 3 (eC .non)) (bw (cw 4 (eC (.int 0))) (bw (kP (cJ (ax lE (ae (eV 0) (ae (eV 1) (ae (eV 2) ao))))) (aD true 5) i5) (dU (eV 3)))))
def fz:dm→eO:=jz 6 [true,true,true] ki
theorem uq(F:kE K "best_exchange" "best_exchange" kb f fd)(T:Txt K mg a)(BH:fV P w K mg base 3 a.ly ["count","heaps","bench"] (cL K [true,true,true] lE)):cI P w K mg base i7 4 f fd ["count","heaps","bench"] (cL K [true,true,true] fz) :=
  bM F dA rfl (fun eQ A outer s H E z hr=>by
    have hu:=hr.units;exact(ai (bz (i:=3) dA.nd j5) (ai (bz (i:=4) dA.nd aB) (ai (fJ rfl (cE (aI BH (hr.mono (by decide)) rfl T.ly (aj (aA 0) (aj (aA 1) (aj (aA 2) au))))) (aU 5 dA.nd) (av (eD (zk (lP (aG 5) (DE.bo aB)) (aG 4)) (ai (bz (i:=3) dA.nd (aA 5)) (av (bz (i:=4) dA.nd (jO (aA 5) (DE.bo aB))))) bW))) (av (bR (aA 3)))))))
theorem jS:aV ["count","heaps","bench","made","left","best"] ["count","heaps","bench"] (ay uk):=⟨rfl,rfl,rfl,by decide +kernel,rfl,by decide +kernel,by decide +kernel⟩
def nc:SF:=(bw (dF 3 (eV 5)) (bw (cw 4 (ax gX (ae (eV 4) (ae (ag iX (eV 5) (eC (.int 0))) (ae (ag iX (eV 5) (eC (.int 1))) ao))))) (cw 5 (ax fz (ae (eV 0) (ae (eV 1) (ae (eV 4) ao)))))))
def kj:TF:=(bV (ag zo (aJ 5) (eC .non)))
def ur:SF:=(bw (qA 3 (oR ao)) (bw (cw 4 (eV 2)) (bw (cw 5 (ax fz (ae (eV 0) (ae (eV 1) (ae (eV 4) ao))))) (bw (rA 100 kj nc) (Kn 3 (ae (eV 4) ao))))))
def qf:dm→eO:=jz 6 [true,true,true] ur
theorem GV(F:kE K "mended" "mended" uk f fd)(T:Txt K mg a)(oH:fV P w K mg base 4 a.fq ["count","heaps","bench"] (cL K [true,true,true] fz))(pf:fV P w K mg base 1 a.gW ["bench","leaving","coming"] (cL K [true,true,true] gX)):cI P w K mg base i7 5 f fd ["count","heaps","bench"] (cL K [true,true,true] qf) :=
  bM F jS rfl (fun eQ A outer s H E z hr=>by
    have hu:=hr.units;exact(ai (uY (i:=3) jS.nd (nK (n:=0) au)) (ai (bz (i:=4) jS.nd (aA 2)) (ai (bz (i:=5) jS.nd (aI oH (hr.mono (by decide)) rfl T.fq (aj (aA 0) (aj (aA 1) (aj (aA 4) au))))) (ai (uZ 100 (SR (aG 5) (DE.bo j5)) (ai (gU 3 (aA 5)) (ai (bz (i:=4) jS.nd (aI pf (hr.mono (by decide)) rfl T.gW (aj (aA 4) (aj (jO (aA 5) (DE.bo aB)) (aj (jO (aA 5) (DE.bo aB)) au))))) (av (bz (i:=5) jS.nd (aI oH (hr.mono (by decide)) rfl T.fq (aj (aA 0) (aj (aA 1) (aj (aA 4) au))))))))) (av (S7 3 (n:=1) (aj (aA 4) au))))))))
theorem yo:aV ["some","heaps","bench","names"] ["some","heaps","bench","names"] (ay nQ):=⟨rfl,rfl,rfl,by decide +kernel,rfl,by decide +kernel,by decide +kernel⟩
def nU:SF:=(dU (ag Zt (ag uX (jN dS (ae (aJ 2) ao)) (ax iB (ae (eV 0) ao))) (ag uX (jN dS (ae (aJ 3) ao)) (ax iB (ae (eV 1) ao)))))
def dM:dm→eO:=jz 4 [true,true,true,true] nU
theorem yp(F:kE K "are_enough" "are_enough" nQ f fd)(T:Txt K mg a)(oI:fV P w K mg base 1 a.iz ["heaps"] (cL K [true] iB)):cI P w K mg base i7 2 f fd ["some","heaps","bench","names"] (cL K [true,true,true,true] dM) :=
  bM F yo rfl (fun eQ A outer s H E z hr=>by
    have hu:=hr.units;exact(av (bR (Zv (DE.bo (rq (DE.bo (bU bC fY rfl T.je fI (cB (aG 2) au))) (DE.bo (aI oI (hr.mono (by decide)) rfl T.iz (aj (aA 0) au))))) (DE.bo (rq (DE.bo (bU bC fY rfl T.je fI (cB (aG 3) au))) (DE.bo (aI oI (hr.mono (by decide)) rfl T.iz (aj (aA 1) au)))))))))
theorem ng:aV ["names","told","name"] ["names"] (ay rQ):=⟨rfl,rfl,rfl,by decide +kernel,rfl,by decide +kernel,by decide +kernel⟩
def jf:SF:=(cw 1 (eL (yf (eV 1) (eL (bQ 1 [2] (cJ (eV 1)) (aD true 0) eP (ag MD (eV 0) (fX (ae (eV 1) ao))))))))
def lU:SF:=(bw (cw 1 (eL (oR (ae (fX ao) ao)))) (bw (kP (cJ (eV 0)) (aD true 2) jf) (kG (vg (eV 1) iA))))
def iC:dm→eO:=jz 3 [true] lU
theorem EA(F:kE K "sets_of" "sets_of" rQ f fd)(T:Txt K mg a)(Ab:fV P w K mg base 1 a.pK ["names"] (cL K [true] iA)):cI P w K mg base i7 4 f fd ["names"] (cL K [true] iC) :=
  bM F ng rfl (fun eQ A outer s H E z hr=>by
    have hu:=hr.units;exact(ai (bz (i:=1) ng.nd (DO.sh (nK (n:=1) (aj (gy (n:=0) au) au)))) (ai (fJ rfl (cE (aA 0)) (aU 2 ng.nd) (av (bz (i:=1) ng.nd (DO.sh (D1 (aA 1) (DO.sh (dE rfl (tgs:=["some"]) (fi:=[2]) (dh.of rfl) (by decide) (cE (aA 1)) (fun _ _ _ _=>(aU 0 Z0)) (fun _ _ _ _=>jh) (fun _ _ _ _=>(Tq (aA 0) (gy (n:=1) (aj (aA 1) au))))))))))) (av (iK (MG rfl (Fx (Nat.add_le_add_left (by decide:5≤64) _) hr.units) Ab (hr.mono (by decide)) rfl T.nT rfl T.pK (aA 1)))))))
theorem xf:aV ["count"] ["count"] (ay mB):=⟨rfl,rfl,rfl,by decide +kernel,rfl,by decide +kernel,by decide +kernel⟩
def mH:SF:=(kG (kN (ax iC (ae (Kw (aJ 0)) ao)) (oB (eC (.int 1))) tT))
def dj:dm→eO:=jz 1 [true] mH
theorem xg(F:kE K "sets_to_ask" "sets_to_ask" mB f fd)(T:Txt K mg a)(sf:fV P w K mg base 4 a.jQ ["names"] (cL K [true] iC)):cI P w K mg base i7 5 f fd ["count"] (cL K [true] dj) :=
  bM F xf rfl (fun eQ A outer s H E z hr=>by
    have hu:=hr.units;exact(av (iK (pH (aI sf (hr.mono (by decide)) rfl T.jQ (aj (Tr rfl rfl T.m9 T.lD (aG 0)) au)) (pZ (DE.bo aB)) uW))))
theorem qK:aV ["heaps","names"] ["heaps","names"] (ay iy):=⟨rfl,rfl,rfl,by decide +kernel,rfl,by decide +kernel,by decide +kernel⟩
def iD:SF:=(kG (bQ 1 [1] (cJ (eV 0)) (aD true 0) (bV (ag m5 (ax bP (ae (ag iX (eV 0) (eC (.int 0))) (ae (eV 1) ao))) (jN dS (ae (aJ 1) ao)))) (eV 0)))
def cU:dm→eO:=jz 2 [true,true] iD
theorem qL(F:kE K "heaps_naming_all" "heaps_naming_all" iy f fd)(T:Txt K mg a)(fL:fV P w K mg base 1 a.cZ ["one","two"] (cL K [true,true] bP)):cI P w K mg base i7 2 f fd ["heaps","names"] (cL K [true,true] cU) :=
  bM F qK rfl (fun eQ A outer s H E z hr=>by
    have hu:=hr.units;exact(av (iK (dE rfl (tgs:=["heap"]) (fi:=[1]) (dh.of rfl) (by decide) (cE (aA 0)) (fun _ _ _ _=>(aU 0 ZY)) (fun _ _ _ _=>(ji (tU hu (DE.bo (aI fL (hr.mono (by decide)) rfl T.cZ (aj (jO (aA 0) (DE.bo aB)) (aj (aA 1) au)))) (DE.bo (bU bC fY rfl T.je fI (cB (aG 1) au)))))) (fun _ _ _ _=>(aA 0))))))
theorem oJ:aV ["heaps","bench","names","agreeing"] ["heaps","bench","names"] (ay kU):=⟨rfl,rfl,rfl,by decide +kernel,rfl,by decide +kernel,by decide +kernel⟩
def la:SF:=(bw (cw 3 (ax cU (ae (eV 0) (ae (eV 2) ao)))) (kG (bQ 1 [1,2] (cJ (eV 3)) (aD true 0) (bV (ag HR (ax bP (ae (ag iX (eV 0) (eC (.int 0))) (ae (eV 1) ao))) (jN dS (ae (aJ 2) ao)))) (eV 0))))
def gi:dm→eO:=jz 4 [true,true,true] la
theorem vx(F:kE K "with_too_few" "with_too_few" kU f fd)(T:Txt K mg a)(iE:fV P w K mg base 2 a.cS ["heaps","names"] (cL K [true,true] cU))(fL:fV P w K mg base 1 a.cZ ["one","two"] (cL K [true,true] bP)):cI P w K mg base i7 3 f fd ["heaps","bench","names"] (cL K [true,true,true] gi) :=
  bM F oJ rfl (fun eQ A outer s H E z hr=>by
    have hu:=hr.units;exact(ai (bz (i:=3) oJ.nd (aI iE (hr.mono (by decide)) rfl T.cS (aj (aA 0) (aj (aA 2) au)))) (av (iK (dE rfl (tgs:=["heap"]) (fi:=[1,2]) (dh.of rfl) (by decide) (cE (aA 3)) (fun _ _ _ _=>(aU 0 ac5)) (fun _ _ _ _=>(ji (xK (DE.bo (aI fL (hr.mono (by decide)) rfl T.cZ (aj (jO (aA 0) (DE.bo aB)) (aj (aA 1) au)))) (DE.bo (bU bC fY rfl T.je fI (cB (aG 2) au)))))) (fun _ _ _ _=>(aA 0)))))))
theorem t5:aV ["count","heaps","bench","names"] ["count","heaps","bench"] (ay p9):=⟨rfl,rfl,rfl,by decide +kernel,rfl,by decide +kernel,by decide +kernel⟩
def km:SF:=(pT (bV (ax dM (ae (ax gi (ae (eV 1) (ae (eV 2) (ae (eV 3) ao)))) (ae (eV 1) (ae (eV 2) (ae (eV 3) ao)))))) (dU (eV 3)) dI)
def qg:SF:=(bw (kP (cJ (ax dj (ae (eV 0) ao))) (aD true 3) km) (dU (eC .non)))
def ko:dm→eO:=jz 4 [true,true,true] qg
theorem BI(F:kE K "left_out" "left_out" p9 f fd)(T:Txt K mg a)(nV:fV P w K mg base 2 a.gf ["some","heaps","bench","names"] (cL K [true,true,true,true] dM))(mI:fV P w K mg base 5 a.eZ ["count"] (cL K [true] dj))(xi:fV P w K mg base 3 a.iM ["heaps","bench","names"] (cL K [true,true,true] gi)):cI P w K mg base i7 6 f fd ["count","heaps","bench"] (cL K [true,true,true] ko) :=
  bM F t5 rfl (fun eQ A outer s H E z hr=>by
    have hu:=hr.units;exact(ai (fJ rfl (cE (aI mI (hr.mono (by decide)) rfl T.eZ (aj (aA 0) au))) (aU 3 t5.nd) (av (eD (mh (aI nV (hr.mono (by decide)) rfl T.gf (aj (aI xi (hr.mono (by decide)) rfl T.iM (aj (aA 1) (aj (aA 2) (aj (aA 3) au)))) (aj (aA 1) (aj (aA 2) (aj (aA 3) au)))))) (av (bR (aA 3))) bW))) (av (bR j5))))
theorem pM:aV ["bench","names","size"] ["bench","names"] (ay mz):=⟨rfl,rfl,rfl,by decide +kernel,rfl,by decide +kernel,by decide +kernel⟩
def mJ:SF:=(bw (cw 2 (jN minD (ae (jN dS (ae (aJ 0) ao)) (ae (ag HQ (jN dS (ae (aJ 1) ao)) (eC (.int 1))) ao)))) (kG (bQ 1 [2] (cJ (ax iC (ae (eV 0) ao))) (aD true 0) (bV (ag m5 (jN dS (ae (aJ 0) ao)) (aJ 1))) (eV 0))))
def gN:dm→eO:=jz 3 [true,true] mJ
theorem xj(F:kE K "largest_few" "largest_few" mz f fd)(T:Txt K mg a)(sf:fV P w K mg base 4 a.jQ ["names"] (cL K [true] iC)):cI P w K mg base i7 5 f fd ["bench","names"] (cL K [true,true] gN) :=
  bM F pM rfl (fun eQ A outer s H E z hr=>by
    have hu:=hr.units;exact(ai (bz (i:=2) pM.nd (bU (LB rfl) W8 rfl T.ZU PyProof.Rows.boot_min (cB (DE.bo (bU bC fY rfl T.je fI (cB (aG 0) au))) (cB (DE.bo (D2 (DE.bo (bU bC fY rfl T.je fI (cB (aG 1) au))) (DE.bo aB))) au)))) (av (iK (dE rfl (tgs:=["few"]) (fi:=[2]) (dh.of rfl) (by decide) (cE (aI sf (hr.mono (by decide)) rfl T.jQ (aj (aA 0) au))) (fun _ _ _ _=>(aU 0 ZZ)) (fun _ _ _ _=>(ji (tU hu (DE.bo (bU bC fY rfl T.je fI (cB (aG 0) au))) (aG 1)))) (fun _ _ _ _=>(aA 0)))))))
theorem nW:aV ["heaps","bench","names","few","others"] ["heaps","bench","names","few"] (ay kc):=⟨rfl,rfl,rfl,by decide +kernel,rfl,by decide +kernel,by decide +kernel⟩
def kr:SF:=(bw (cw 4 (eL (bQ 1 [3] (cJ (eV 1)) (aD true 0) (bV (ag (inD true) (aJ 0) (aJ 1))) (eV 0)))) (kG (bQ 1 [4] (cJ (ax cU (ae (eV 0) (ae (eV 2) ao)))) (aD true 0) (bV (ag m5 (ax bP (ae (ag iX (eV 0) (eC (.int 0))) (ae (eV 1) ao))) (eC (.int 0)))) (eV 0))))
def fA:dm→eO:=jz 5 [true,true,true,true] kr
theorem uv(F:kE K "with_none_but" "with_none_but" kc f fd)(T:Txt K mg a)(iE:fV P w K mg base 2 a.cS ["heaps","names"] (cL K [true,true] cU))(fL:fV P w K mg base 1 a.cZ ["one","two"] (cL K [true,true] bP)):cI P w K mg base i7 3 f fd ["heaps","bench","names","few"] (cL K [true,true,true,true] fA) :=
  bM F nW rfl (fun eQ A outer s H E z hr=>by
    have hu:=hr.units;exact(ai (bz (i:=4) nW.nd (DO.sh (dE rfl (tgs:=["name"]) (fi:=[3]) (dh.of rfl) (by decide) (cE (aA 1)) (fun _ _ _ _=>(aU 0 ac6)) (fun _ _ _ _=>(ji (D3 (aG 0) (aG 1)))) (fun _ _ _ _=>(aA 0))))) (av (iK (dE rfl (tgs:=["heap"]) (fi:=[4]) (dh.of rfl) (by decide) (cE (aI iE (hr.mono (by decide)) rfl T.cS (aj (aA 0) (aj (aA 2) au)))) (fun _ _ _ _=>(aU 0 ac7)) (fun _ _ _ _=>(ji (tU hu (DE.bo (aI fL (hr.mono (by decide)) rfl T.cZ (aj (jO (aA 0) (DE.bo aB)) (aj (aA 1) au)))) (DE.bo aB)))) (fun _ _ _ _=>(aA 0)))))))
theorem gG:aV ["count","heaps","bench","names","few"] ["count","heaps","bench"] (ay g7):=⟨rfl,rfl,rfl,by decide +kernel,rfl,by decide +kernel,by decide +kernel⟩
def gj:SF:=(pT (bV (ax dM (ae (ax fA (ae (eV 1) (ae (eV 2) (ae (eV 3) (ae (eV 4) ao))))) (ae (eV 1) (ae (eV 2) (ae (eV 3) ao)))))) (dU (eV 3)) dI)
def dO:SF:=(kP (cJ (ax gN (ae (eV 2) (ae (eV 3) ao)))) (aD true 4) gj)
def g8:SF:=(bw (kP (cJ (ax dj (ae (eV 0) ao))) (aD true 3) dO) (dU (eC .non)))
def dr:dm→eO:=jz 5 [true,true,true] g8
theorem qh(F:kE K "left_out_together" "left_out_together" g7 f fd)(T:Txt K mg a)(nV:fV P w K mg base 2 a.gf ["some","heaps","bench","names"] (cL K [true,true,true,true] dM))(yq:fV P w K mg base 5 a.jm ["bench","names"] (cL K [true,true] gN))(mI:fV P w K mg base 5 a.eZ ["count"] (cL K [true] dj))(vy:fV P w K mg base 3 a.hW ["heaps","bench","names","few"] (cL K [true,true,true,true] fA)):cI P w K mg base i7 6 f fd ["count","heaps","bench"] (cL K [true,true,true] dr) :=
  bM F gG rfl (fun eQ A outer s H E z hr=>by
    have hu:=hr.units;exact(ai (fJ rfl (cE (aI mI (hr.mono (by decide)) rfl T.eZ (aj (aA 0) au))) (aU 3 gG.nd) (av (fJ rfl (cE (aI yq (hr.mono (by decide)) rfl T.jm (aj (aA 2) (aj (aA 3) au)))) (aU 4 gG.nd) (av (eD (mh (aI nV (hr.mono (by decide)) rfl T.gf (aj (aI vy (hr.mono (by decide)) rfl T.hW (aj (aA 1) (aj (aA 2) (aj (aA 3) (aj (aA 4) au))))) (aj (aA 1) (aj (aA 2) (aj (aA 3) au)))))) (av (bR (aA 3))) bW))))) (av (bR j5))))
theorem fS:aV ["one","two","rest"] ["one","two"] (ay jB):=⟨rfl,rfl,rfl,by decide +kernel,rfl,by decide +kernel,by decide +kernel⟩
def fB:SF:=(bw (cw 2 (ag oz (aJ 0) (aJ 1))) (bw (cw 0 (eV 1)) (cw 1 (eV 2))))
def fC:TF:=(bV (ag Nt (aJ 1) (eC (.int 0))))
def jE:SF:=(bw (rA 20000 fC fB) (dU (eV 0)))
def gH:dm→eO:=jz 3 [true,true] jE
theorem tJ(F:kE K "common_divisor" "common_divisor" jB f fd)(T:Txt K mg a):cI P w K mg base i7 1 f fd ["one","two"] (cL K [true,true] gH) :=
  bM F fS rfl (fun eQ A outer s H E z hr=>by
    have hu:=hr.units;exact(ai (uZ 20000 (zk (aG 1) (DE.bo aB)) (ai (bz (i:=2) fS.nd (iZ (aG 0) (aG 1))) (ai (bz (i:=0) fS.nd (aA 1)) (av (bz (i:=1) fS.nd (aA 2)))))) (av (bR (aA 0)))))
theorem xR:aV ["top","bottom","divisor"] ["top","bottom"] (ay um):=⟨rfl,rfl,rfl,by decide +kernel,rfl,by decide +kernel,by decide +kernel⟩
def uw:SF:=(bw (cw 2 (ax gH (ae (eV 0) (ae (eV 1) ao)))) (dU (fX (ae (ag GN (aJ 0) (aJ 2)) (ae (ag GN (aJ 1) (aJ 2)) ao)))))
def lb:dm→eO:=jz 3 [true,true] uw
theorem GW(F:kE K "lowest" "lowest" um f fd)(T:Txt K mg a)(ux:fV P w K mg base 1 a.gE ["one","two"] (cL K [true,true] gH)):cI P w K mg base i7 2 f fd ["top","bottom"] (cL K [true,true] lb) :=
  bM F xR rfl (fun eQ A outer s H E z hr=>by
    have hu:=hr.units;exact(ai (bz (i:=2) xR.nd (aI ux (hr.mono (by decide)) rfl T.gE (aj (aA 0) (aj (aA 1) au)))) (av (bR (gy (n:=2) (aj (Kz (aG 0) (aG 2)) (aj (Kz (aG 1) (aG 2)) au)))))))
theorem IV:aV ["one","two"] ["one","two"] (ay wW):=⟨rfl,rfl,rfl,by decide +kernel,rfl,by decide +kernel,by decide +kernel⟩
def xk:SF:=(dU (ax lb (ae (ag mq (ag rN (ag iX (aJ 0) (eC (.int 0))) (ag iX (aJ 1) (eC (.int 1)))) (ag rN (ag iX (aJ 1) (eC (.int 0))) (ag iX (aJ 0) (eC (.int 1))))) (ae (ag rN (ag iX (aJ 0) (eC (.int 1))) (ag iX (aJ 1) (eC (.int 1)))) ao))))
def nA:dm→eO:=jz 2 [true,true] xk
theorem IW(F:kE K "added" "added" wW f fd)(T:Txt K mg a)(uy:fV P w K mg base 2 a.kY ["top","bottom"] (cL K [true,true] lb)):cI P w K mg base i7 3 f fd ["one","two"] (cL K [true,true] nA) :=
  bM F IV rfl (fun eQ A outer s H E z hr=>by
    have hu:=hr.units;exact(av (bR (aI uy (hr.mono (by decide)) rfl T.kY (aj (fZ (DE.bo (p7 (lP (aG 0) (DE.bo aB)) (lP (aG 1) (DE.bo aB)))) (DE.bo (p7 (lP (aG 1) (DE.bo aB)) (lP (aG 0) (DE.bo aB))))) (aj (p7 (lP (aG 0) (DE.bo aB)) (lP (aG 1) (DE.bo aB))) au))))))
theorem MV:aV ["one","two"] ["one","two"] (ay z7):=⟨rfl,rfl,rfl,by decide +kernel,rfl,by decide +kernel,by decide +kernel⟩
def Ag:SF:=(dU (ag HR (ag rN (ag iX (aJ 0) (eC (.int 0))) (ag iX (aJ 1) (eC (.int 1)))) (ag rN (ag iX (aJ 1) (eC (.int 0))) (ag iX (aJ 0) (eC (.int 1))))))
def vz:dm→eO:=jz 2 [true,true] Ag
theorem MX(F:kE K "less" "less" z7 f fd)(T:Txt K mg a):cI P w K mg base i7 1 f fd ["one","two"] (cL K [true,true] vz) :=
  bM F MV rfl (fun eQ A outer s H E z hr=>by
    have hu:=hr.units;exact(av (bR (Zu (DE.bo (p7 (lP (aG 0) (DE.bo aB)) (lP (aG 1) (DE.bo aB)))) (DE.bo (p7 (lP (aG 1) (DE.bo aB)) (lP (aG 0) (DE.bo aB))))))))
theorem tK:aV ["heaps","name"] ["heaps","name"] (ay jC):=⟨rfl,rfl,rfl,by decide +kernel,rfl,by decide +kernel,by decide +kernel⟩
def jF:SF:=(dU (jN ye (ae (eL (bQ 2 [1] (cJ (eV 0)) (lR 2 (cc (aD true 0) (cc (aD true 1) lQ))) (bV (ag (inD false) (aJ 2) (aJ 0))) (eV 1))) ao)))
def cO:dm→eO:=jz 2 [true,true] jF
theorem tL(F:kE K "ballots_naming" "ballots_naming" jC f fd)(T:Txt K mg a):cI P w K mg base i7 1 f fd ["heaps","name"] (cL K [true,true] cO) :=
  bM F tK rfl (fun eQ A outer s H E z hr=>by
    have hu:=hr.units;exact(av (bR (bU (q0 rfl) zi rfl T.GR yW (cB (DE.bo (DO.sh (dE rfl (tgs:=["names","many"]) (fi:=[1]) (dh.of rfl) (by decide) (cE (aA 0)) (fun _ _ _ _=>(nL rfl (cC (aU 0 U5) (cC (aU 1 U5) j7)))) (fun _ _ _ _=>(ji (Kd (aG 2) (aG 0)))) (fun _ _ _ _=>(aA 1))))) au)))))
theorem BJ:aV ["rows"] ["rows"] (ay qb):=⟨rfl,rfl,rfl,by decide +kernel,rfl,by decide +kernel,by decide +kernel⟩
def gI:SF:=(kG (bQ 1 [] (HX 0) (aD false 0) eP (ag iX (eV 0) (eC (.int 0)))))
def bI:dm→eO:=jz 1 [false] gI
theorem BK(F:kE K "names_of" "names_of" qb f fd)(T:Txt K mg a):cI P w K mg base i7 1 f fd ["rows"] (cL K [false] bI) :=
  bM F BJ rfl (fun eQ A outer s H E z hr=>by
    have hu:=hr.units;exact(av (iK (dE rfl (tgs:=["row"]) (fi:=[]) (dh.of rfl) (by decide) (UO 0) (fun _ _ _ _=>(aU 0 Z1)) (fun _ _ _ _=>jh) (fun _ _ _ _=>(jO (aA 0) (DE.bo aB)))))))
theorem BL:aV ["count","rows"] ["count","rows"] (ay qc):=⟨rfl,rfl,rfl,by decide +kernel,rfl,by decide +kernel,by decide +kernel⟩
def ku:SF:=(kG (bQ 1 [1] (eF (aJ 0)) (aD true 0) (bV (ag (inD true) (aJ 0) (ax bI (ae (aJ 1) ao)))) (eV 0)))
def fE:dm→eO:=jz 2 [true,false] ku
theorem BM(F:kE K "unseated" "unseated" qc f fd)(T:Txt K mg a)(iU:fV P w K mg base 1 a.dY ["rows"] (cL K [false] bI)):cI P w K mg base i7 2 f fd ["count","rows"] (cL K [true,false] fE) :=
  bM F BL rfl (fun eQ A outer s H E z hr=>by
    have hu:=hr.units;exact(av (iK (dE rfl (tgs:=["name"]) (fi:=[1]) (dh.of rfl) (by decide) (kO rfl T.lD (aG 0)) (fun _ _ _ _=>(aU 0 Z2)) (fun _ _ _ _=>(ji (D3 (aG 0) (DE.bo (aI iU (hr.mono (by decide)) rfl T.dY (cB (aG 1) au)))))) (fun _ _ _ _=>(aA 0))))))
theorem gn:aV ["count","heaps","rows","before","best","name","growth"] ["count","heaps","rows"] (ay oW):=⟨rfl,rfl,rfl,by decide +kernel,rfl,by decide +kernel,by decide +kernel⟩
def cq:SF:=(bw (cw 6 (ag HQ (ax gg (ae (eV 1) (ae (eL (yf (ax bI (ae (aJ 2) ao)) (eL (oR (ae (eV 5) ao))))) ao))) (aJ 3))) (pT (mj (bV (ag pI (aJ 4) (eC .non))) (bV (ag Nt (aJ 6) (ag iX (aJ 4) (eC (.int 1)))))) (cw 4 (fX (ae (eV 5) (ae (eV 6) ao)))) dI))
def pj:SF:=(bw (cw 3 (ax gg (ae (eV 1) (ae (ax bI (ae (aJ 2) ao)) ao)))) (bw (cw 4 (eC .non)) (bw (kP (cJ (ax fE (ae (eV 0) (ae (aJ 2) ao)))) (aD true 5) cq) (dU (eV 4)))))
def lF:dm→eO:=jz 7 [true,true,false] pj
theorem Ah(F:kE K "next_turn" "next_turn" oW f fd)(T:Txt K mg a)(iU:fV P w K mg base 1 a.dY ["rows"] (cL K [false] bI))(qi:fV P w K mg base 2 a.iN ["count","rows"] (cL K [true,false] fE))(pL:fV P w K mg base 2 a.jP ["heaps","names"] (cL K [true,true] gg)):cI P w K mg base i7 3 f fd ["count","heaps","rows"] (cL K [true,true,false] lF) :=
  bM F gn rfl (fun eQ A outer s H E z hr=>by
    have hu:=hr.units;exact(ai (bz (i:=3) gn.nd (aI pL (hr.mono (by decide)) rfl T.jP (aj (aA 1) (aj (aI iU (hr.mono (by decide)) rfl T.dY (cB (aG 2) au)) au)))) (ai (bz (i:=4) gn.nd j5) (ai (fJ rfl (cE (aI qi (hr.mono (by decide)) rfl T.iN (aj (aA 0) (cB (aG 2) au)))) (aU 5 gn.nd) (ai (bz (i:=6) gn.nd (D2 (DE.bo (aI pL (hr.mono (by decide)) rfl T.jP (aj (aA 1) (aj (DO.sh (D1 (aI iU (hr.mono (by decide)) rfl T.dY (cB (aG 2) au)) (DO.sh (nK (n:=1) (aj (aA 5) au))))) au)))) (aG 3))) (av (eD (DW.t (tR (D5 (aG 4) (DE.bo j5)) (oQ (zk (aG 6) (lP (aG 4) (DE.bo aB)))))) (av (bz (i:=4) gn.nd (gy (n:=2) (aj (aA 5) (aj (aA 6) au))))) bW)))) (av (bR (aA 4)))))))
theorem xm:aV ["one","two"] ["one","two"] (ay mC):=⟨rfl,rfl,rfl,by decide +kernel,rfl,by decide +kernel,by decide +kernel⟩
def mK:SF:=(bw (pT (mj (bV (ag pI (aJ 0) (eC .non))) (bV (ag pI (aJ 1) (eC .non)))) (dU (ag zo (aJ 0) (eC .non))) dI) (dU (ax vz (ae (eV 0) (ae (eV 1) ao)))))
def gO:dm→eO:=jz 2 [true,true] mK
theorem xn(F:kE K "comes_ahead" "comes_ahead" mC f fd)(T:Txt K mg a)(Qe:fV P w K mg base 1 a.vo ["one","two"] (cL K [true,true] vz)):cI P w K mg base i7 2 f fd ["one","two"] (cL K [true,true] gO) :=
  bM F xm rfl (fun eQ A outer s H E z hr=>by
    have hu:=hr.units;exact(ai (eD (DW.t (tR (D5 (aG 0) (DE.bo j5)) (oQ (D5 (aG 1) (DE.bo j5))))) (av (bR (SQ (aG 0) (DE.bo j5)))) bW) (av (bR (aI Qe (hr.mono (by decide)) rfl T.vo (aj (aA 0) (aj (aA 1) au)))))))
theorem fF:aV ["names","rows","load","name","brought"] ["names","rows"] (ay kX):=⟨rfl,rfl,rfl,by decide +kernel,rfl,by decide +kernel,by decide +kernel⟩
def jG:SF:=(pT (bV (ag (inD false) (aJ 3) (aJ 0))) (cw 2 (eV 4)) dI)
def lg:SF:=(bw (cw 2 (fX (ae (eC (.int 0)) (ae (eC (.int 1)) ao)))) (bw (kP (HX 1) (lR 2 (cc (aD false 3) (cc (aD false 4) lQ))) jG) (dU (eV 2))))
def iV:dm→eO:=jz 5 [true,false] lg
theorem vA(F:kE K "load_of_heap" "load_of_heap" kX f fd)(T:Txt K mg a):cI P w K mg base i7 1 f fd ["names","rows"] (cL K [true,false] iV) :=
  bM F fF rfl (fun eQ A outer s H E z hr=>by
    have hu:=hr.units;exact(ai (bz (i:=2) fF.nd (gy (n:=2) (aj aB (aj aB au)))) (ai (fJ rfl (UO 1) (nL rfl (cC (aU 3 fF.nd) (cC (aU 4 fF.nd) j7))) (av (eD (Kd (aG 3) (aG 0)) (av (bz (i:=2) fF.nd (aA 4))) bW))) (av (bR (aA 2))))))
theorem df:aV ["heaps","rows","name","many_in_all","together","names","many","load"] ["heaps","rows","name"] (ay kW):=⟨rfl,rfl,rfl,by decide +kernel,rfl,by decide +kernel,by decide +kernel⟩
def dB:SF:=(pT (bV (ag (inD false) (aJ 2) (aJ 5))) (bw (cw 7 (ax iV (ae (eV 5) (ae (aJ 1) ao)))) (cw 4 (ax nA (ae (eV 4) (ae (fX (ae (ag rN (aJ 6) (ag iX (aJ 7) (eC (.int 0)))) (ae (ag iX (eV 7) (eC (.int 1))) ao))) ao))))) dI)
def lh:SF:=(bw (cw 3 (ax cO (ae (eV 0) (ae (eV 2) ao)))) (bw (pT (bV (ag m5 (aJ 3) (eC (.int 0)))) (dU (eC .non)) dI) (bw (cw 4 (fX (ae (eC (.int 1)) (ae (eC (.int 1)) ao)))) (bw (kP (cJ (eV 0)) (lR 2 (cc (aD true 5) (cc (aD true 6) lQ))) dB) (dU (ax lb (ae (ag iX (eV 4) (eC (.int 0))) (ae (ag rN (aJ 3) (ag iX (aJ 4) (eC (.int 1)))) ao))))))))
def iW:dm→eO:=jz 8 [true,false,true] lh
theorem vC(F:kE K "load_of_name" "load_of_name" kW f fd)(T:Txt K mg a)(MY:fV P w K mg base 3 a.sS ["one","two"] (cL K [true,true] nA))(jI:fV P w K mg base 1 a.dz ["heaps","name"] (cL K [true,true] cO))(xo:fV P w K mg base 1 a.iP ["names","rows"] (cL K [true,false] iV))(uy:fV P w K mg base 2 a.kY ["top","bottom"] (cL K [true,true] lb)):cI P w K mg base i7 4 f fd ["heaps","rows","name"] (cL K [true,false,true] iW) :=
  bM F df rfl (fun eQ A outer s H E z hr=>by
    have hu:=hr.units;exact(ai (bz (i:=3) df.nd (aI jI (hr.mono (by decide)) rfl T.dz (aj (aA 0) (aj (aA 2) au)))) (ai (eD (tU hu (aG 3) (DE.bo aB)) (av (bR j5)) bW) (ai (bz (i:=4) df.nd (gy (n:=2) (aj aB (aj aB au)))) (ai (fJ rfl (cE (aA 0)) (nL rfl (cC (aU 5 df.nd) (cC (aU 6 df.nd) j7))) (av (eD (Kd (aG 2) (aG 5)) (ai (bz (i:=7) df.nd (aI xo (hr.mono (by decide)) rfl T.iP (aj (aA 5) (cB (aG 1) au)))) (av (bz (i:=4) df.nd (aI MY (hr.mono (by decide)) rfl T.sS (aj (aA 4) (aj (gy (n:=2) (aj (p7 (aG 6) (lP (aG 7) (DE.bo aB))) (aj (jO (aA 7) (DE.bo aB)) au))) au)))))) bW))) (av (bR (aI uy (hr.mono (by decide)) rfl T.kY (aj (jO (aA 4) (DE.bo aB)) (aj (p7 (aG 3) (lP (aG 4) (DE.bo aB))) au))))))))))
theorem iF:aV ["count","heaps","rows","best","name","load"] ["count","heaps","rows"] (ay oX):=⟨rfl,rfl,rfl,by decide +kernel,rfl,by decide +kernel,by decide +kernel⟩
def mL:SF:=(bw (cw 5 (ax iW (ae (eV 1) (ae (aJ 2) (ae (eV 4) ao))))) (pT (mj (bV (ag pI (aJ 3) (eC .non))) (bV (ax gO (ae (eV 5) (ae (ag iX (eV 3) (eC (.int 1))) ao))))) (cw 3 (fX (ae (eV 4) (ae (eV 5) ao)))) dI))
def pk:SF:=(bw (cw 3 (eC .non)) (bw (kP (cJ (ax fE (ae (eV 0) (ae (aJ 2) ao)))) (aD true 4) mL) (dU (eV 3))))
def lG:dm→eO:=jz 6 [true,true,false] pk
theorem Ai(F:kE K "next_load" "next_load" oX f fd)(T:Txt K mg a)(yr:fV P w K mg base 2 a.jn ["one","two"] (cL K [true,true] gO))(xq:fV P w K mg base 4 a.iO ["heaps","rows","name"] (cL K [true,false,true] iW))(qi:fV P w K mg base 2 a.iN ["count","rows"] (cL K [true,false] fE)):cI P w K mg base i7 5 f fd ["count","heaps","rows"] (cL K [true,true,false] lG) :=
  bM F iF rfl (fun eQ A outer s H E z hr=>by
    have hu:=hr.units;exact(ai (bz (i:=3) iF.nd j5) (ai (fJ rfl (cE (aI qi (hr.mono (by decide)) rfl T.iN (aj (aA 0) (cB (aG 2) au)))) (aU 4 iF.nd) (ai (bz (i:=5) iF.nd (aI xq (hr.mono (by decide)) rfl T.iO (aj (aA 1) (cB (aG 2) (aj (aA 4) au))))) (av (eD (DW.t (tR (D5 (aG 3) (DE.bo j5)) (oQ (mh (aI yr (hr.mono (by decide)) rfl T.jn (aj (aA 5) (aj (jO (aA 3) (DE.bo aB)) au))))))) (av (bz (i:=3) iF.nd (gy (n:=2) (aj (aA 4) (aj (aA 5) au))))) bW)))) (av (bR (aA 3))))))
theorem IX:aV ["_law_script","_law_k"] ["_law_script","_law_k"] (ay wX):=⟨rfl,rfl,rfl,by decide +kernel,rfl,by decide +kernel,by decide +kernel⟩
def xr:SF:=(bw (pT (bV (ag HR (aJ 1) (jN dS (ae (aJ 0) ao)))) (dU (ag iX (eV 0) (aJ 1))) dI) (dU (eC (.int 0))))
def e7:dm→eO:=jz 2 [true,true] xr
theorem IY(F:kE K "_law_cell_at" "_law_cell_at" wX f fd)(T:Txt K mg a):cI P w K mg base i7 1 f fd ["_law_script","_law_k"] (cL K [true,true] e7) :=
  bM F IX rfl (fun eQ A outer s H E z hr=>by
    have hu:=hr.units;exact(ai (eD (xK (aG 1) (DE.bo (bU bC fY rfl T.je fI (cB (aG 0) au)))) (av (bR (jO (aA 0) (aG 1)))) bW) (av (bR aB))))
theorem Aj:aV ["_law_cell","_law_place","_law_number"] ["_law_cell","_law_place"] (ay Er):=⟨rfl,rfl,rfl,by decide +kernel,rfl,by decide +kernel,by decide +kernel⟩
def KL:SF:=(bw (cw 2 (ag oz (ag mq (ag mq (ag uX (ag oz (aJ 0) (eC (.int 2147483629))) (eC (.int 16807))) (ag uX (eC (.int 69621)) (aJ 1))) (eC (.int 11))) (eC (.int 2147483629)))) (bw (cw 2 (ag oz (ag mq (ag mq (ag uX (aJ 2) (aJ 2)) (ag uX (eC (.int 48271)) (aJ 1))) (eC (.int 7))) (eC (.int 2147483629)))) (dU (ag oz (ag mq (ag uX (aJ 2) (aJ 2)) (eC (.int 69621))) (eC (.int 2147483587))))))
def lH:dm→eO:=jz 3 [true,true] KL
theorem Qf(F:kE K "_law_mixed" "_law_mixed" Er f fd)(T:Txt K mg a):cI P w K mg base i7 1 f fd ["_law_cell","_law_place"] (cL K [true,true] lH) :=
  bM F Aj rfl (fun eQ A outer s H E z hr=>by
    have hu:=hr.units;exact(ai (bz (i:=2) Aj.nd (iZ (DE.bo (fZ (DE.bo (fZ (DE.bo (rq (DE.bo (iZ (aG 0) (DE.bo aB))) (DE.bo aB))) (DE.bo (rq (DE.bo aB) (aG 1))))) (DE.bo aB))) (DE.bo aB))) (ai (bz (i:=2) Aj.nd (iZ (DE.bo (fZ (DE.bo (fZ (DE.bo (rq (aG 2) (aG 2))) (DE.bo (rq (DE.bo aB) (aG 1))))) (DE.bo aB))) (DE.bo aB))) (av (bR (iZ (DE.bo (fZ (DE.bo (rq (aG 2) (aG 2))) (DE.bo aB))) (DE.bo aB)))))))
theorem Xc:aV ["_law_bits","_law_count"] ["_law_bits","_law_count"] (ay Qd):=⟨rfl,rfl,rfl,by decide +kernel,rfl,by decide +kernel,by decide +kernel⟩
def Kv:SF:=(dU (ml (eL (bQ 1 [0] (eF (aJ 1)) (aD true 0) (bV (ag m5 (ag Ka (ag SD (aJ 1) (aJ 0)) (eC (.int 1))) (eC (.int 1)))) (eV 0)))))
def CD:dm→eO:=jz 2 [true,true] Kv
theorem Xd(F:kE K "_law_set" "_law_set" Qd f fd)(T:Txt K mg a):cI P w K mg base i7 1 f fd ["_law_bits","_law_count"] (cL K [true,true] CD) :=
  bM F Xc rfl (fun eQ A outer s H E z hr=>by
    have hu:=hr.units;exact(av (bR (ro rfl rfl T.m9 (DO.sh (dE rfl (tgs:=["_law_name"]) (fi:=[0]) (dh.of rfl) (by decide) (kO rfl T.lD (aG 1)) (fun _ _ _ _=>(aU 0 Z3)) (fun _ _ _ _=>(ji (tU hu (DE.bo (SK (DE.bo (WD (aG 1) (aG 0))) (DE.bo aB))) (DE.bo aB)))) (fun _ _ _ _=>(aA 0))))))))
theorem jg:aV ["_law_script","_law_at","_law_most","_law_count","_law_kind","_law_size","_law_found","_law_cell","_law_rows_here","_law_names","_law_many"] ["_law_script","_law_at","_law_most","_law_count"] (ay Es):=⟨rfl,rfl,rfl,by decide +kernel,rfl,by decide +kernel,by decide +kernel⟩
def pO:SF:=(bw (cw 9 (ax CD (ae (ag oz (ax lH (ae (eV 7) (ae (eC (.int 1)) ao))) (ag Wy (eC (.int 1)) (aJ 3))) (ae (eV 3) ao)))) (bw (pT (bV (ag m5 (ag oz (ag Mb (aJ 4) (eC (.int 4))) (eC (.int 3))) (eC (.int 1)))) (cw 9 (ml (eL (bQ 1 [7] (cJ (eV 9)) (aD true 0) (bV (ag m5 (ag Mb (aJ 0) (eC (.int 2))) (ag oz (ax lH (ae (eV 1) (ae (eC (.int 3)) ao))) (eC (.int 3))))) (eV 0))))) dI) (bw (cw 10 (ag mq (eC (.int 1)) (ag oz (ag Mb (aJ 7) (eC (.int 7))) (aJ 5)))) (bw (pT (bV (ag m5 (ag oz (aJ 7) (eC (.int 5))) (eC (.int 1)))) (cw 10 (eC (.int 6))) dI) (rD 6 (aJ 9) (ag mq (wN 6 (aJ 9) (eC (.int 0))) (aJ 10)))))))
def KN:SF:=(bw (cw 4 (ax lH (ae (ax e7 (ae (eV 0) (ae (eV 1) ao))) (ae (eC (.int 5)) ao)))) (bw (cw 5 (ag iX (eL (oR (ae (eC (.int 3)) (ae (eC (.int 10)) (ae (eC (.int 100)) (ae (ag Wx (eC (.int 10)) (eC (.int 30))) ao)))))) (ag oz (aJ 4) (eC (.int 4))))) (bw (zB 6) (bw (kP (cJ (eL (kN (eV 0) (oB (ag mq (aJ 1) (eC (.int 1)))) (oB (ag mq (ag mq (aJ 1) (eC (.int 1))) (aJ 2)))))) (aD true 7) pO) (bw (pT (bV (ag m5 (zC 6) (eC (.int 0)))) (rD 6 (fX (ae (eC (.int 0)) ao)) (eC (.int 1))) dI) (bw (O4 6 (cw 8 (eL (Ea (eL (bQ 1 [] (Eb 6) (aD true 0) eP (fX (ae (jN dS (ae (aJ 0) ao)) (ae (eV 0) ao))))))))) (kG (bQ 2 [6] (cJ (eV 8)) (lR 2 (cc (aD true 0) (cc (aD true 1) lQ))) eP (fX (ae (eV 1) (ae (xN 2 (aJ 1)) ao)))))))))))
def yG:dm→eO:=jz 11 [true,true,true,true] KN
theorem Qg(F:kE K "_law_heaps" "_law_heaps" Es f fd)(T:Txt K mg a)(nC:fV P w K mg base 1 a.iQ ["_law_script","_law_k"] (cL K [true,true] e7))(vD:fV P w K mg base 1 a.oF ["_law_cell","_law_place"] (cL K [true,true] lH))(aac:fV P w K mg base 1 a.KG ["_law_bits","_law_count"] (cL K [true,true] CD)):cI P w K mg base i7 2 f fd ["_law_script","_law_at","_law_most","_law_count"] (cL K [true,true,true,true] yG) :=
  bM F jg rfl (fun eQ A outer s H E z hr=>by
    have hu:=hr.units;exact(ai (bz (i:=4) jg.nd (aI vD (hr.mono (by decide)) rfl T.oF (aj (aI nC (hr.mono (by decide)) rfl T.iQ (aj (aA 0) (aj (aA 1) au))) (aj aB au)))) (ai (bz (i:=5) jg.nd (jO (DO.sh (nK (n:=4) (aj aB (aj aB (aj aB (aj (WB (DE.bo aB) (DE.bo aB)) au)))))) (DE.bo (iZ (aG 4) (DE.bo aB))))) (ai (Gr (i:=6) jg.nd) (ai (fJ rfl (cE (DO.sh (pH (aA 0) (pZ (DE.bo (fZ (aG 1) (DE.bo aB)))) (pZ (DE.bo (fZ (DE.bo (fZ (aG 1) (DE.bo aB))) (aG 2))))))) (aU 7 jg.nd) (ai (bz (i:=9) jg.nd (aI aac (hr.mono (by decide)) rfl T.KG (aj (iZ (DE.bo (aI vD (hr.mono (by decide)) rfl T.oF (aj (aA 7) (aj aB au)))) (DE.bo (WC (DE.bo aB) (aG 3)))) (aj (aA 3) au)))) (ai (eD (tU hu (DE.bo (iZ (DE.bo (HS (aG 4) (DE.bo aB))) (DE.bo aB))) (DE.bo aB)) (av (bz (i:=9) jg.nd (ro rfl rfl T.m9 (DO.sh (dE rfl (tgs:=["_law_name"]) (fi:=[7]) (dh.of rfl) (by decide) (cE (aA 9)) (fun _ _ _ _=>(aU 0 Z4)) (fun _ _ _ _=>(ji (tU hu (DE.bo (HS (aG 0) (DE.bo aB))) (DE.bo (iZ (DE.bo (aI vD (hr.mono (by decide)) rfl T.oF (aj (aA 1) (aj aB au)))) (DE.bo aB)))))) (fun _ _ _ _=>(aA 0))))))) bW) (ai (bz (i:=10) jg.nd (fZ (DE.bo aB) (DE.bo (iZ (DE.bo (HS (aG 7) (DE.bo aB))) (aG 5))))) (ai (eD (tU hu (DE.bo (iZ (aG 7) (DE.bo aB))) (DE.bo aB)) (av (bz (i:=10) jg.nd aB)) bW) (av (zD (yS hr) 6 (aG 9) (fZ (DE.bo (Gs (yS hr) 6 (aG 9) aB)) (aG 10))))))))) (ai (eD (tU hu (DE.bo (O3 6 rfl T.je)) (DE.bo aB)) (av (zD (yS hr) 6 (DE.bo (gy (n:=1) (aj aB au))) aB)) bW) (ai (S3 6 (bz (i:=8) jg.nd (DO.sh (O1 (Fx (Nat.add_le_add_left (by decide:5≤64) _) hr.units) rfl T.nT (DE.bo (DO.sh (dE rfl (tgs:=["_law_names"]) (fi:=[]) (dh.of rfl) (by decide) (O6 6) (fun _ _ _ _=>(aU 0 Z5)) (fun _ _ _ _=>jh) (fun _ _ _ _=>(gy (n:=2) (aj (bU bC fY rfl T.je fI (cB (aG 0) au)) (aj (aA 0) au))))))))))) (av (iK (dE rfl (tgs:=["_law_size","_law_names"]) (fi:=[6]) (dh.of rfl) (by decide) (cE (aA 8)) (fun _ _ _ _=>(nL rfl (cC (aU 0 U6) (cC (aU 1 U6) j7)))) (fun _ _ _ _=>jh) (fun _ _ _ _=>(gy (n:=2) (aj (aA 1) (aj (Km (yS hr) 2 (aG 1)) au))))))))))))))
theorem KP:aV ["_law_found","_law_due","_law_k"] ["_law_found","_law_due"] (ay s_same):=⟨rfl,rfl,rfl,by decide +kernel,rfl,by decide +kernel,by decide +kernel⟩
def Ak(Fr:dm→eO):SF:=(pT (uV (bV (ax Fr (ae (ag iX (aJ 0) (aJ 2)) (ae (ag iX (aJ 1) (aJ 2)) ao))))) (dU (eC (.bl false))) dI)
def g_same(Fr:dm→eO):SF:=(bw (pT (mj (bV (wJ "tuple" (aJ 1))) (bV (wJ "list" (aJ 1)))) (bw (pT (mj (bV (ag qJ (wJ "tuple" (aJ 0)) (wJ "tuple" (aJ 1)))) (bV (ag qJ (wJ "list" (aJ 0)) (wJ "list" (aJ 1))))) (dU (eC (.bl false))) dI) (bw (pT (bV (ag qJ (jN dS (ae (aJ 0) ao)) (jN dS (ae (aJ 1) ao)))) (dU (eC (.bl false))) dI) (bw (kP (eF (jN dS (ae (aJ 1) ao))) (aD true 2) (Ak Fr)) (dU (eC (.bl true)))))) dI) (bw (pT (bV (wJ "bool" (aJ 1))) (dU (F9 (wJ "bool" (aJ 0)) (ag m5 (aJ 0) (aJ 1)))) dI) (bw (pT (bV (wJ "int" (aJ 1))) (dU (F9 (wJ "int" (aJ 0)) (F9 (Sw (wJ "bool" (aJ 0))) (ag m5 (aJ 0) (aJ 1))))) dI) (bw (pT (bV (wJ "str" (aJ 1))) (dU (F9 (wJ "str" (aJ 0)) (ag m5 (aJ 0) (aJ 1)))) dI) (dU (F9 (ag pI (aJ 1) (eC .non)) (ag pI (aJ 0) (eC .non))))))))
def gJ:Nat→dm→eO
  |0=>fun _=>none
  |n+1=>jz 3 [false,false] (g_same (gJ n))
theorem step_same{Fr:dm→eO}(F:kE K "_law_same" "_law_same" s_same f fd)(T:Txt K mg a)(Cr:fV P w K mg base k a.mD ["_law_found","_law_due"] (cL K [false,false] Fr)):cI P w K mg base i7 (k+1) f fd ["_law_found","_law_due"] (cL K [false,false] (jz 3 [false,false] (g_same Fr))) :=
  bM F KP rfl (fun eQ A outer s H E z hr=>by
    have hu:=hr.units;exact(ai (eD (DW.t (tR (mh (rB rfl T.cx T.m9 (aG 1))) (oQ (mh (uf rfl T.cx T.wY (aG 1)))))) (ai (eD (DW.t (tR (Ci hu (DE.bo (rB rfl T.cx T.m9 (aG 0))) (DE.bo (rB rfl T.cx T.m9 (aG 1)))) (oQ (Ci hu (DE.bo (uf rfl T.cx T.wY (aG 0))) (DE.bo (uf rfl T.cx T.wY (aG 1))))))) (av (bR uT)) bW) (ai (eD (Ci hu (DE.bo (bU bC fY rfl T.je fI (cB (aG 0) au))) (DE.bo (bU bC fY rfl T.je fI (cB (aG 1) au)))) (av (bR uT)) bW) (ai (fJ rfl (kO rfl T.lD (DE.bo (bU bC fY rfl T.je fI (cB (aG 1) au)))) (aU 2 KP.nd) (av (eD (DY (mh (aI Cr hr rfl T.mD (cB (lP (aG 0) (aG 2)) (cB (lP (aG 1) (aG 2)) au))))) (av (bR uT)) bW))) (av (bR uT))))) bW) (ai (eD (mh (ug rfl T.cx T.IK (aG 1))) (av (bR (zf (ug rfl T.cx T.IK (aG 0)) (DZ (OU hu (aG 0) (aG 1)))))) bW) (ai (eD (mh (Cj rfl T.cx T.U3 (aG 1))) (av (bR (zf (Cj rfl T.cx T.U3 (aG 0)) (zf (Wv (ug rfl T.cx T.IK (aG 0))) (DZ (OU hu (aG 0) (aG 1))))))) bW) (ai (eD (mh (Ck rfl T.cx T.U4 (aG 1))) (av (bR (zf (Ck rfl T.cx T.U4 (aG 0)) (DZ (OU hu (aG 0) (aG 1)))))) bW) (av (bR (zf (OD (aG 1) (DE.bo j5)) (DZ (OD (aG 0) (DE.bo j5)))))))))))
theorem GX(F:kE K "_law_same" "_law_same" s_same a.mD fd)(T:Txt K mg a)(b:Binds K fd ["_law_found","_law_due"] [])(kp:keepIn K (.ref a.mD)=true):∀n,fV P w K mg base (1+n) a.mD ["_law_found","_law_due"] (cL K [false,false] (gJ n))
  |0=>⟨fd,acm,b,kp⟩
  |n+1=>⟨fd,step_same F T  (GX F T b kp  n),b,kp⟩
theorem qj:aV ["_law_heaps_here","_law_cell","_law_rows_here","_law_k","_law_cut","_law_part","_law_names","_law_many"] ["_law_heaps_here","_law_cell"] (ay II):=⟨rfl,rfl,rfl,by decide +kernel,rfl,by decide +kernel,by decide +kernel⟩
def vF:SF:=(bw (Ts (ag iX (eV 0) (aJ 3)) (lR 2 (cc (aD true 6) (cc (aD true 7) lQ)))) (bw (cw 5 (ag oz (ax lH (ae (eV 1) (ae (eV 3) ao))) (ag mq (aJ 7) (eC (.int 1))))) (bw (dF 2 (fX (ae (eL (Gb (eV 6))) (ae (eV 5) ao)))) (bw (dF 2 (fX (ae (eL (Kx (eV 6))) (ae (ag HQ (aJ 7) (aJ 5)) ao)))) (dF 2 (fX (ae (eL (kN (eL (Gb (eV 6))) tT (oB (eC (.int 1))))) (ae (eC (.int 0)) ao))))))))
def IZ:SF:=(bw (qA 2 (oR ao)) (bw (kP (eF (jN dS (ae (aJ 0) ao))) (aD true 3) vF) (bw (cw 4 (ag oz (aJ 1) (ag mq (jN dS (ae (aJ 2) ao)) (eC (.int 1))))) (wI 2 (kG (yf (eL (kN (eV 2) (oB (aJ 4)) tT)) (eL (kN (eV 2) tT (oB (aJ 4))))))))))
def xt:dm→eO:=jz 8 [true,true] IZ
theorem TK(F:kE K "_law_rows" "_law_rows" II f fd)(T:Txt K mg a)(vD:fV P w K mg base 1 a.oF ["_law_cell","_law_place"] (cL K [true,true] lH)):cI P w K mg base i7 2 f fd ["_law_heaps_here","_law_cell"] (cL K [true,true] xt) :=
  bM F qj rfl (fun eQ A outer s H E z hr=>by
    have hu:=hr.units;exact(ai (uY (i:=2) qj.nd (nK (n:=0) au)) (ai (fJ rfl (kO rfl T.lD (DE.bo (bU bC fY rfl T.je fI (cB (aG 0) au)))) (aU 3 qj.nd) (ai (W9 (jO (aA 0) (aG 3)) (nL rfl (cC (aU 6 qj.nd) (cC (aU 7 qj.nd) j7)))) (ai (bz (i:=5) qj.nd (iZ (DE.bo (aI vD (hr.mono (by decide)) rfl T.oF (aj (aA 1) (aj (aA 3) au)))) (DE.bo (fZ (aG 7) (DE.bo aB))))) (ai (gU 2 (gy (n:=2) (aj (DO.sh (J9 rfl rfl T.wY (aA 6))) (aj (aA 5) au)))) (ai (gU 2 (gy (n:=2) (aj (DO.sh (Tv rfl rfl T.wY rfl T.IL (aA 6))) (aj (D2 (aG 7) (aG 5)) au)))) (av (gU 2 (gy (n:=2) (aj (DO.sh (pH (DO.sh (J9 rfl rfl T.wY (aA 6))) uW (pZ (DE.bo aB)))) (aj aB au)))))))))) (ai (bz (i:=4) qj.nd (iZ (aG 1) (DE.bo (fZ (DE.bo (bU bC fY rfl T.je fI (cB (aG 2) au))) (DE.bo aB))))) (av (OL 2 (iK (D1 (DO.sh (pH (aA 2) (pZ (aG 4)) uW)) (DO.sh (pH (aA 2) uW (pZ (aG 4))))))))))))
theorem pP:aV ["self","count","heaps","rows"] ["self","count","heaps"] (ay eY):=⟨rfl,rfl,rfl,by decide +kernel,rfl,by decide +kernel,by decide +kernel⟩
def hZ:SF:=(dF 3 (ax lG (ae (eV 1) (ae (eV 2) (ae (aJ 3) ao)))))
def dP:TF:=(bV (ag HR (jN dS (ae (aJ 3) ao)) (aJ 1)))
def mM:SF:=(bw (qA 3 (oR ao)) (bw (rA 100 dP hZ) (Ce 3)))
def bK:dm→eO:=jz 4 [true,true,true] mM
theorem xu(F:kE K "order" "Loads.order" eY f fd)(T:Txt K mg a)(BO:fV P w K mg base 5 a.lB ["count","heaps","rows"] (cL K [true,true,false] lG)):cI P w K mg base i7 6 f fd ["self","count","heaps"] (cL K [true,true,true] bK) :=
  bM F pP rfl (fun eQ A outer s H E z hr=>by
    have hu:=hr.units;exact(ai (uY (i:=3) pP.nd (nK (n:=0) au)) (ai (uZ 100 (xK (DE.bo (bU bC fY rfl T.je fI (cB (aG 3) au))) (aG 1)) (av (gU 3 (aI BO (hr.mono (by decide)) rfl T.lB (aj (aA 1) (aj (aA 2) (cB (aG 3) au))))))) (av (yC 3)))))
theorem qD:aV ["self","count","heaps","rows"] ["self","count","heaps"] (ay bN):=⟨rfl,rfl,rfl,by decide +kernel,rfl,by decide +kernel,by decide +kernel⟩
def nX:SF:=(bw (cw 3 (eL (bQ 1 [2] (eF (aJ 1)) (aD true 0) eP (fX (ae (eV 0) (ae (ax cO (ae (eV 1) (ae (eV 0) ao))) ao)))))) (kG (rO (eV 3) (fX (ae (SM (ag iX (aJ 0) (eC (.int 1)))) (ae (ag iX (eV 0) (eC (.int 0))) ao))))))
def bS:dm→eO:=jz 4 [true,true,true] nX
theorem yt{kV doc:Value}(lk:K.lookup f=some ⟨oc,od,.func (fnOf "order" "Most.order" (e9 bN) (dD bN) (ay bN) .none kV doc pm an (.ref a.Ry) ct),Hm⟩)(ow:codeIn K (.ref a.Ry) "Most.order"=true)(T:Txt K mg a)(hB:base.BuiltinsAt mg a.TJ)(jI:fV P w K mg base 1 a.dz ["heaps","name"] (cL K [true,true] cO)):cI P w K mg base i7 6 f (fnOf "order" "Most.order" (e9 bN) (dD bN) (ay bN) .none kV doc pm an (.ref a.Ry) ct) ["self","count","heaps"] (cL K [true,true,true] bS) :=
  TH lk ow qD rfl (fun A outer s H E z hr=>by
    have hu:=hr.units;exact(ai (Gn (i:=3) rfl qD.nd (tgs:=["name"]) (fi:=[2]) (dh.of rfl) (by decide) (kO rfl T.lD (aG 1)) (fun _ _ _ _=>(aU 0 Z9)) (fun _ _ _ _=>jh) (fun _ _ _ _=>(gy (n:=2) (aj (aA 0) (aj (aI jI (hr.mono (by decide)) rfl T.dz (aj (aA 1) (aj (aA 0) au))) au))))) (av (iK (IG (k:=1) (Fx (Nat.add_le_add_left (by decide:5≤64) _) hr.units) (ZO.mk ⟨["row"],["row"],⟨rfl,rfl,rfl,by decide +kernel,rfl,by decide +kernel,by decide +kernel⟩,rfl,rfl,(fun pm cd ct us hl=>match us,hl with|[_],_=>rfl),fun fl cl A outer s H z hr=>(by
      have hu:=hr.units;exact(gy (n:=2) (aj (WG (lP (aG 0) (DE.bo aB))) (aj (jO (aA 0) (DE.bo aB)) au))))⟩) (hr.mono (by decide)) rfl T.nT (aA 3) rfl T.acZ T.ac0 hB rfl rfl)))))
theorem pQ:aV ["self","count","heaps","rows"] ["self","count","heaps"] (ay eX):=⟨rfl,rfl,rfl,by decide +kernel,rfl,by decide +kernel,by decide +kernel⟩
def h8:SF:=(dF 3 (ax lF (ae (eV 1) (ae (eV 2) (ae (aJ 3) ao)))))
def dQ:TF:=(bV (ag HR (jN dS (ae (aJ 3) ao)) (aJ 1)))
def mN:SF:=(bw (qA 3 (oR ao)) (bw (rA 100 dQ h8) (Ce 3)))
def bL:dm→eO:=jz 4 [true,true,true] mN
theorem xx(F:kE K "order" "Turns.order" eX f fd)(T:Txt K mg a)(BP:fV P w K mg base 3 a.lA ["count","heaps","rows"] (cL K [true,true,false] lF)):cI P w K mg base i7 4 f fd ["self","count","heaps"] (cL K [true,true,true] bL) :=
  bM F pQ rfl (fun eQ A outer s H E z hr=>by
    have hu:=hr.units;exact(ai (uY (i:=3) pQ.nd (nK (n:=0) au)) (ai (uZ 100 (xK (DE.bo (bU bC fY rfl T.je fI (cB (aG 3) au))) (aG 1)) (av (gU 3 (aI BP (hr.mono (by decide)) rfl T.lA (aj (aA 1) (aj (aA 2) (cB (aG 3) au))))))) (av (yC 3)))))
theorem yu:aV ["self","count","heaps","places"] ["self","count","heaps","places"] (ay nR):=⟨rfl,rfl,rfl,by decide +kernel,rfl,by decide +kernel,by decide +kernel⟩
def nY(a:yi):SF:=(bw (pT (mj (bV (ag HR (aJ 3) (eC (.int 1)))) (bV (ag Nt (aJ 3) (aJ 1)))) Mq dI) (kG (J7 bI (ae (eL (kN (lT [(a.aZ,bS),(a.aR,bL),(a.aS,bK)] (eV 0) (ae (eV 1) (ae (eV 2) ao))) tT (oB (aJ 3)))) ao))))
def gp(a:yi):dm→eO:=jz 4 [true,true,true,true] (nY a)
theorem yw(F:kE K "seated" "Way.seated" nR f fd)(T:Txt K mg a)(mO:fV P w K mg base 6 a.mF ["self","count","heaps"] (cL K [true,true,true] bK))(nZ:fV P w K mg base 6 a.nS ["self","count","heaps"] (cL K [true,true,true] bS))(mP:fV P w K mg base 4 a.mE ["self","count","heaps"] (cL K [true,true,true] bL))(iU:fV P w K mg base 1 a.dY ["rows"] (cL K [false] bI)):cI P w K mg base i7 7 f fd ["self","count","heaps","places"] (cL K [true,true,true,true] (gp a)) :=
  bM F yu rfl (fun eQ A outer s H E z hr=>by
    have hu:=hr.units;exact(ai (eD (DW.t (tR (xK (aG 3) (DE.bo aB)) (oQ (zk (aG 3) (aG 1))))) (av zI) bW) (av (iK (Sx iU (hr.mono (by decide)) rfl T.dY (cB (DE.bo (DO.sh (pH (vm (eE ⟨_,_,_,T.vp,T.tZ,nZ,hr.mono (by decide)⟩ (eE ⟨_,_,_,T.rR,T.rV,mP,hr.mono (by decide)⟩ (eE ⟨_,_,_,T.rW,T.rZ,mO,hr.mono (by decide)⟩ vh))) (aA 0) (aj (aA 1) (aj (aA 2) au))) uW (pZ (aG 3))))) au))))))
theorem Al:aV ["self","count","heaps","places"] ["self","count","heaps","places"] (ay oY):=⟨rfl,rfl,rfl,by decide +kernel,rfl,by decide +kernel,by decide +kernel⟩
def pq(a:yi):SF:=(dU (ml (eL (rC (lT [(a.aZ,(gp a)),(a.aR,(gp a)),(a.aS,(gp a))] (eV 0) (ae (eV 1) (ae (eV 2) (ae (eV 3) ao))))))))
def bF(a:yi):dm→eO:=jz 4 [true,true,true,true] (pq a)
theorem Am(F:kE K "bench" "Way.bench" oY f fd)(T:Txt K mg a)(n4:fV P w K mg base 7 a.kf ["self","count","heaps","places"] (cL K [true,true,true,true] (gp a))):cI P w K mg base i7 8 f fd ["self","count","heaps","places"] (cL K [true,true,true,true] (bF a)) :=
  bM F Al rfl (fun eQ A outer s H E z hr=>by
    have hu:=hr.units;exact(av (bR (ro rfl rfl T.m9 (DO.sh (Gm (Fx (Nat.add_le_add_left (by decide:5≤64) _) hr.units) rfl T.nT (DE.bo (vm (eE ⟨_,_,_,T.vp,T.Aa,n4,hr.mono (by decide)⟩ (eE ⟨_,_,_,T.rR,T.yj,n4,hr.mono (by decide)⟩ (eE ⟨_,_,_,T.rW,T.yk,n4,hr.mono (by decide)⟩ vh))) (aA 0) (aj (aA 1) (aj (aA 2) (aj (aA 3) au)))))))))))
theorem vH:aV ["_law_count","_law_heaps_here","_law_places","_law_ways","_law_found","_law_bench","_law_some"] ["_law_count","_law_heaps_here","_law_places"] (ay IJ):=⟨rfl,rfl,rfl,by decide +kernel,rfl,by decide +kernel,by decide +kernel⟩
def vJ(a:yi):SF:=(dF 4 (eL (bQ 1 [0,1,6] (cJ (eV 3)) (aD true 0) eP (lT [(a.aZ,(bF a)),(a.aR,(bF a)),(a.aS,(bF a))] (eV 0) (ae (eV 1) (ae (eV 2) (ae (eV 3) ao)))))))
def Ja(a:yi):SF:=(bw (cw 3 (eL (oR (ae (Tw a.aZ) (ae (Tw a.aR) (ae (Tw a.aS) ao)))))) (bw (qA 4 (bQ 1 [0,1] (cJ (eV 3)) (aD true 0) eP (lT [(a.aZ,bS),(a.aR,bL),(a.aS,bK)] (eV 0) (ae (eV 1) (ae (eV 2) ao))))) (bw (cw 5 (lT [(a.aZ,(bF a)),(a.aR,(bF a)),(a.aS,(bF a))] (ag iX (eV 3) (ag oz (aJ 2) (eC (.int 3)))) (ae (eV 0) (ae (eV 1) (ae (eV 2) ao))))) (bw (dF 4 (ax qf (ae (eV 0) (ae (eV 1) (ae (eV 5) ao))))) (bw (dF 4 (eL (oR (ae (ax ko (ae (eV 0) (ae (eV 1) (ae (eV 5) ao)))) (ae (ax dr (ae (eV 0) (ae (eV 1) (ae (eV 5) ao)))) ao))))) (bw (kP (oC (eC (.int 1)) (ag mq (aJ 0) (eC (.int 1)))) (aD true 6) (vJ a)) (Ce 4)))))))
def An(a:yi):dm→eO:=jz 7 [true,true,true] (Ja a)
theorem TL(F:kE K "_law_told" "_law_told" IJ f fd)(T:Txt K mg a)(mO:fV P w K mg base 6 a.mF ["self","count","heaps"] (cL K [true,true,true] bK))(nZ:fV P w K mg base 6 a.nS ["self","count","heaps"] (cL K [true,true,true] bS))(mP:fV P w K mg base 4 a.mE ["self","count","heaps"] (cL K [true,true,true] bL))(gY:fV P w K mg base 8 a.lC ["self","count","heaps","places"] (cL K [true,true,true,true] (bF a)))(EB:fV P w K mg base 6 a.m8 ["count","heaps","bench"] (cL K [true,true,true] ko))(qM:fV P w K mg base 6 a.eG ["count","heaps","bench"] (cL K [true,true,true] dr))(Jb:fV P w K mg base 5 a.qd ["count","heaps","bench"] (cL K [true,true,true] qf)):cI P w K mg base i7 9 f fd ["_law_count","_law_heaps_here","_law_places"] (GO K [true,true,true] (An a)) :=
  KC F vH rfl (fun eQ A outer s H E z hz hr=>by
    have hu:=hr.units;exact(ai (bz (i:=3) vH.nd (DO.sh (nK (n:=3) (aj (z3 hz T.vq rfl T.aZ) (aj (z3 hz T.rS rfl T.aR) (aj (z3 hz T.rX rfl T.aS) au)))))) (ai (SY (i:=4) rfl vH.nd (tgs:=["_law_way"]) (fi:=[0,1]) (dh.of rfl) (by decide) (cE (aA 3)) (fun _ _ _ _=>(aU 0 Z6)) (fun _ _ _ _=>jh) (fun _ _ _ _=>(vm (eE ⟨_,_,_,T.vp,T.tZ,nZ,hr.mono (by decide)⟩ (eE ⟨_,_,_,T.rR,T.rV,mP,hr.mono (by decide)⟩ (eE ⟨_,_,_,T.rW,T.rZ,mO,hr.mono (by decide)⟩ vh))) (aA 0) (aj (aA 1) (aj (aA 2) au))))) (ai (bz (i:=5) vH.nd (vm (eE ⟨_,_,_,T.vp,T.tY,gY,hr.mono (by decide)⟩ (eE ⟨_,_,_,T.rR,T.rT,gY,hr.mono (by decide)⟩ (eE ⟨_,_,_,T.rW,T.rY,gY,hr.mono (by decide)⟩ vh))) (jO (aA 3) (DE.bo (iZ (aG 2) (DE.bo aB)))) (aj (aA 0) (aj (aA 1) (aj (aA 2) au))))) (ai (gU 4 (aI Jb (hr.mono (by decide)) rfl T.qd (aj (aA 0) (aj (aA 1) (aj (aA 5) au))))) (ai (gU 4 (DO.sh (nK (n:=2) (aj (aI EB (hr.mono (by decide)) rfl T.m8 (aj (aA 0) (aj (aA 1) (aj (aA 5) au)))) (aj (aI qM (hr.mono (by decide)) rfl T.eG (aj (aA 0) (aj (aA 1) (aj (aA 5) au)))) au))))) (ai (fJ rfl (Cd rfl T.lD (DE.bo aB) (DE.bo (fZ (aG 0) (DE.bo aB)))) (aU 6 vH.nd) (av (gU 4 (DO.sh (dE rfl (tgs:=["_law_way"]) (fi:=[0,1,6]) (dh.of rfl) (by decide) (cE (aA 3)) (fun _ _ _ _=>(aU 0 Z7)) (fun _ _ _ _=>jh) (fun _ _ _ _=>(vm (eE ⟨_,_,_,T.vp,T.tY,gY,hr.mono (by decide)⟩ (eE ⟨_,_,_,T.rR,T.rT,gY,hr.mono (by decide)⟩ (eE ⟨_,_,_,T.rW,T.rY,gY,hr.mono (by decide)⟩ vh))) (aA 0) (aj (aA 1) (aj (aA 2) (aj (aA 3) au)))))))))) (av (yC 4)))))))))
theorem iG:aV ["_law_script","_law_count","_law_heaps_here","_law_one","_law_two","_law_drawn","_law_told_here","_law_places","_law_k","_law_here","_law_there"] ["_law_script"] (ay m7):=⟨rfl,rfl,rfl,by decide +kernel,rfl,by decide +kernel,by decide +kernel⟩
def sU(a:yi):SF:=(bw (cw 9 (ag iX (ag iX (eV 6) (ag mq (eC (.int 4)) (aJ 7))) (aJ 8))) (bw (cw 10 (ag iX (ag iX (eV 6) (ag mq (eC (.int 5)) (aJ 7))) (aJ 8))) (pT (mj (bV (ag Nt (jN dS (ae (eL (bQ 1 [10] (cJ (eV 9)) (aD true 0) (bV (ag (inD true) (aJ 0) (aJ 1))) (eV 0))) ao)) (eC (.int 0)))) (bV (ag qJ (jN dS (ae (aJ 10) ao)) (ag mq (aJ 7) (eC (.int 1)))))) (dU (eC (.bl false))) dI)))
def sV(a:yi):SF:=(kP (eF (eC (.int 3))) (aD true 8) (sU a))
def EC(a:yi):SF:=(bw (cw 1 (ag mq (eC (.int 1)) (ag oz (ax e7 (ae (eV 0) (ae (eC (.int 0)) ao))) (eC (.int 6))))) (bw (cw 2 (ax yG (ae (eV 0) (ae (eC (.int 4)) (ae (eC (.int 12)) (ae (eV 1) ao)))))) (bw (cw 3 (ax iT (ae (eV 1) (ae (ax xt (ae (eV 2) (ae (ax e7 (ae (eV 0) (ae (eC (.int 1)) ao))) ao))) ao)))) (bw (cw 4 (ax iT (ae (eV 1) (ae (ax xt (ae (eV 2) (ae (ax e7 (ae (eV 0) (ae (eC (.int 2)) ao))) ao))) ao)))) (bw (pT (mj (uV (bV (ax (gJ 6) (ae (aJ 3) (ae (aJ 2) ao))))) (uV (bV (ax (gJ 6) (ae (aJ 4) (ae (aJ 2) ao)))))) (dU (eC (.bl false))) dI) (bw (pT (uV (bV (ax (gJ 6) (ae (ax iB (ae (eV 3) ao)) (ae (jN ye (ae (eL (bQ 2 [] (cJ (eV 2)) (lR 2 (cc (aD true 0) (cc (aD true 1) lQ))) eP (eV 1))) ao)) ao))))) (dU (eC (.bl false))) dI) (bw (cw 5 (ag mq (eC (.int 1)) (ag oz (ax e7 (ae (eV 0) (ae (eC (.int 3)) ao))) (aJ 1)))) (bw (cw 6 (ax (An a) (ae (eV 1) (ae (eV 3) (ae (eV 5) ao))))) (bw (pT (bV (ag qJ (ax (An a) (ae (eV 1) (ae (eV 4) (ae (eV 5) ao)))) (aJ 6))) (dU (eC (.bl false))) dI) (bw (kP (oC (eC (.int 1)) (aJ 1)) (aD true 7) (sV a)) (dU (eC (.bl true)))))))))))))
def ED(a:yi):dm→eO:=jz 11 [true] (EC a)
theorem Qh(F:kE K "law" "law" m7 f fd)(T:Txt K mg a)(nC:fV P w K mg base 1 a.iQ ["_law_script","_law_k"] (cL K [true,true] e7))(TN:fV P w K mg base 2 a.yF ["_law_script","_law_at","_law_most","_law_count"] (cL K [true,true,true,true] yG))(Qi:fV P w K mg base 2 a.z8 ["_law_heaps_here","_law_cell"] (cL K [true,true] xt))(Jc:fV P w K mg base 7 a.mD ["_law_found","_law_due"] (cL K [false,false] (gJ 6)))(Qj:fV P w K mg base 9 a.z9 ["_law_count","_law_heaps_here","_law_places"] (GO K [true,true,true] (An a)))(oI:fV P w K mg base 1 a.iz ["heaps"] (cL K [true] iB))(vK:fV P w K mg base 4 a.ke ["count","rows"] (cL K [true,true] iT)):cI P w K mg base i7 10 f fd ["_law_script"] (GO K [true] (ED a)) :=
  KC F iG rfl (fun eQ A outer s H E z hz hr=>by
    have hu:=hr.units;exact(ai (bz (i:=1) iG.nd (fZ (DE.bo aB) (DE.bo (iZ (DE.bo (aI nC (hr.mono (by decide)) rfl T.iQ (aj (aA 0) (aj aB au)))) (DE.bo aB))))) (ai (bz (i:=2) iG.nd (aI TN (hr.mono (by decide)) rfl T.yF (aj (aA 0) (aj aB (aj aB (aj (aA 1) au)))))) (ai (bz (i:=3) iG.nd (aI vK (hr.mono (by decide)) rfl T.ke (aj (aA 1) (aj (aI Qi (hr.mono (by decide)) rfl T.z8 (aj (aA 2) (aj (aI nC (hr.mono (by decide)) rfl T.iQ (aj (aA 0) (aj aB au))) au))) au)))) (ai (bz (i:=4) iG.nd (aI vK (hr.mono (by decide)) rfl T.ke (aj (aA 1) (aj (aI Qi (hr.mono (by decide)) rfl T.z8 (aj (aA 2) (aj (aI nC (hr.mono (by decide)) rfl T.iQ (aj (aA 0) (aj aB au))) au))) au)))) (ai (eD (DW.t (tR (DY (mh (aI Jc (hr.mono (by decide)) rfl T.mD (cB (aG 3) (cB (aG 2) au))))) (oQ (DY (mh (aI Jc (hr.mono (by decide)) rfl T.mD (cB (aG 4) (cB (aG 2) au)))))))) (av (bR uT)) bW) (ai (eD (DY (mh (aI Jc (hr.mono (by decide)) rfl T.mD (cB (DE.bo (aI oI (hr.mono (by decide)) rfl T.iz (aj (aA 3) au))) (cB (DE.bo (bU (q0 rfl) zi rfl T.GR yW (cB (DE.bo (DO.sh (dE rfl (tgs:=["_law_names","_law_many"]) (fi:=[]) (dh.of rfl) (by decide) (cE (aA 2)) (fun _ _ _ _=>(nL rfl (cC (aU 0 U7) (cC (aU 1 U7) j7)))) (fun _ _ _ _=>jh) (fun _ _ _ _=>(aA 1))))) au))) au))))) (av (bR uT)) bW) (ai (bz (i:=5) iG.nd (fZ (DE.bo aB) (DE.bo (iZ (DE.bo (aI nC (hr.mono (by decide)) rfl T.iQ (aj (aA 0) (aj aB au)))) (aG 1))))) (ai (bz (i:=6) iG.nd (GP hz Qj (hr.mono (by decide)) rfl T.z9 (aj (aA 1) (aj (aA 3) (aj (aA 5) au))))) (ai (eD (Ci hu (DE.bo (GP hz Qj (hr.mono (by decide)) rfl T.z9 (aj (aA 1) (aj (aA 4) (aj (aA 5) au))))) (aG 6)) (av (bR uT)) bW) (ai (fJ rfl (Cd rfl T.lD (DE.bo aB) (aG 1)) (aU 7 iG.nd) (av (fJ rfl (kO rfl T.lD (DE.bo aB)) (aU 8 iG.nd) (ai (bz (i:=9) iG.nd (jO (jO (aA 6) (DE.bo (fZ (DE.bo aB) (aG 7)))) (aG 8))) (ai (bz (i:=10) iG.nd (jO (jO (aA 6) (DE.bo (fZ (DE.bo aB) (aG 7)))) (aG 8))) (av (eD (DW.t (tR (zk (DE.bo (bU bC fY rfl T.je fI (cB (DE.bo (DO.sh (dE rfl (tgs:=["_law_name"]) (fi:=[10]) (dh.of rfl) (by decide) (cE (aA 9)) (fun _ _ _ _=>(aU 0 Z8)) (fun _ _ _ _=>(ji (D3 (aG 0) (aG 1)))) (fun _ _ _ _=>(aA 0))))) au))) (DE.bo aB)) (oQ (Ci hu (DE.bo (bU bC fY rfl T.je fI (cB (aG 10) au))) (DE.bo (fZ (aG 7) (DE.bo aB))))))) (av (bR uT)) bW))))))) (av (bR uT)))))))))))))
end
theorem Qk(ns:aO)(k:Nat):e7 [.lst (ns.map D.int),.int (k:Int)]=some (.sh (.int (ns.getD k 0))):=by
  by_cases h:k<ns.length
  · have h1:(k:Int)<((ns.map D.int).length:Nat):=by simp;omega
    have h2:qy (ns.map D.int) (k:Int)=some (.int ns[k]):=uI (by simp[h])
    simp[e7,jz,eR,xr,bw,pT,bV,ag,aJ,eV,jN,ae,ao,dS,dU,eC,HR,iI,iX,dI,h,h2]
  ·simp[e7,jz,eR,xr,bw,pT,bV,ag,aJ,eV,jN,ae,ao,dS,dU,eC,HR,iI,iX,dI,h]
def pR(c p:Int):Int :=
  ((((c%2147483629*16807+69621*p+11)%2147483629*((c%2147483629*16807+69621*p+11)%2147483629)+48271*p+7)%2147483629)*(((c%2147483629*16807+69621*p+11)%2147483629*((c%2147483629*16807+69621*p+11)%2147483629)+48271*p+7)%2147483629)+69621)%2147483587
theorem yH(c p:Int):lH [.int c,.int p]=some (.sh (.int (pR c p))):=by have a1:mulC (c%2147483629) 16807=true:=Ic (by decide) (by decide);have a2:mulC 69621 p=true:=Ie (by decide) (by decide);have a3:mulC 48271 p=true:=Ie (by decide) (by decide);have a4:∀x:Int,mulC (x%2147483629) (x%2147483629)=true:=fun x=>Ic (by have:=Bc x (show(2147483629:Int)≠0 by decide);omega) (by have:=Fy x (show(0:Int)<2147483629 by decide);omega);have m1:∀x:Int,qI x 2147483629=true:=fun x=>rfl;have m2:∀x:Int,qI x 2147483587=true:=fun x=>rfl;simp[lH,jz,eR,KL,bw,cw,dU,ag,aJ,eC,oz,mq,uX,iI,a1,a2,a3,a4,m1,m2,pR]
def EE(b:Int)(c:Int):aO:=((List.range c.toNat).map fun(i:Nat)=>(0:Int)+(i:Int)).filter fun z=>Builtin.bitAnd (b / 2^z.toNat) 1==1
theorem KQ(b:Int)(h0:0≤c):cP c (EE b c):=by
  have q:=F5 c.toNat (fun z=>Builtin.bitAnd (b / 2^z.toNat) 1==1)
  have e:((c.toNat:Nat):Int)=c:=by omega
  rw[e] at q;exact q
theorem aad(b:Int)(h0:0≤c)(h6:c≤6):CD [.int b,.int c]=some (.sh (.tup ((EE b c).map D.int))):=by
  have hr:(if c≤10000∧-10000≤c then some (dk 0 c.toNat) else none)=some (dk 0 c.toNat):=az ⟨by omega,by omega⟩;have hc:cF (aD true 0) (bV (ag m5 (ag Ka (ag SD (aJ 1) (aJ 0)) (eC (.int 1))) (eC (.int 1)))) (eV 0) (dk 0 c.toNat) [none,some (.sh (.int b))]=some ((EE b c).map D.int):=by
    rw[jA];refine dw D.int (fun z=>Builtin.bitAnd (b / 2^z.toNat) 1==1) D.int fun z hz=>?_;obtain⟨i,_,rfl⟩:=i9.mp hz;have hs:Wz b (0+(i:Int))=true:=by unfold Wz;exact nE (by omega)
    refine⟨[some (.sh (.int (0+(i:Int)))),some (.sh (.int b))],rfl,?_,fun _=>rfl⟩;simp only[Int.zero_add] at hs⊢;simp[bV,ag,aJ,eC,SD,Ka,iI,hs,jj]
  simp[CD,jz,eR,Kv,dU,ml,eL,bQ,eF,aJ,jb,hr,hc,di]
theorem aae(h1:1≤c)(h6:c≤6):powC 1 c=true∧(2:Int)≤2^c.toNat∧(2:Int)^c.toNat≤64:=by
  have:c=1∨c=2∨c=3∨c=4∨c=5∨c=6:=by omega
  rcases this with rfl|rfl|rfl|rfl|rfl|rfl<;>exact⟨by decide,by decide,by decide⟩
def enc(p:aO×Int):List Key×D:=(p.1.map Sum.inl,.int p.2)
theorem KR{a:aO}(h:a.map (Sum.inl:Int→Key)=b.map Sum.inl):a=b:=by have:=g6 Ou h;rwa[B8,B8] at this
def gP(ps:dq)(k:aO):Option Int:=(ps.find? fun p=>decide (p.1=k)).map (·.2)
def mQ(ps:dq)(k:aO)(m:Int):dq :=
  if (ps.any fun p=>decide (p.1=k))=true then ps.map fun p=>if p.1=k then(p.1,m) else p else ps++[(k,m)]
theorem KS(p:aO×Int)(k:aO):decide ((enc p).1=k.map Sum.inl)=decide (p.1=k):=by
  have:((enc p).1=k.map Sum.inl)↔p.1=k:=⟨fun h=>KR h,fun h=>by rw[←h];rfl⟩
  simp[this]
theorem sg(k:aO):∀ps:dq,wL (ps.map enc) (k.map Sum.inl)=(gP ps k).map D.int
  |[]=>rfl
  |p::ps=>by
   have ih:=sg k ps;unfold wL gP at *;rw[bY,uG,uG,KS];cases decide (p.1=k) with
   |true=>rfl
   |false=>exact ih
theorem KW(k:aO):∀ps:dq,((ps.map enc).any fun kv=>decide (kv.1=k.map Sum.inl))=ps.any fun p=>decide (p.1=k)
  |[]=>rfl
  |p::ps=>by rw[bY,List.any_cons,List.any_cons,KW k ps,KS]
theorem Ao(ps:dq)(k:aO)(m:Int):putD (ps.map enc) (k.map Sum.inl) (.int m)=(mQ ps k m).map enc:=by
  unfold putD mQ;rw[KW];by_cases h:(ps.any fun p=>decide (p.1=k))=true
  · rw[az h,az h,e8,e8];refine t8 fun p _=>?_;show(if (enc p).1=k.map Sum.inl then((enc p).1,D.int m) else enc p)=enc (if p.1=k then(p.1,m) else p);by_cases e:p.1=k
    ·rw[az e,az (show(enc p).1=k.map Sum.inl by rw[←e];rfl)];rfl
    ·rw[bh e,bh (show ¬ (enc p).1=k.map Sum.inl from fun z=>e (KR z))]
  ·rw[bh h,bh h,wg];rfl
structure uz (c:Int) (ps:dq):Prop where
  nd:(ps.map (·.1)).Nodup
  all:∀p∈ps,cP c p.1∧1≤p.2
theorem Ql{k:aO}{m:Int}(h:gP ps k=some m):(k,m)∈ps:=by
  unfold gP at h;obtain⟨p,h1,h2⟩:=gZ.mp h;have h3:=List.find?_some h1;have h4:=List.mem_of_find?_eq_some h1;obtain⟨a,b⟩:=p;have e1:a=k:=by simpa using h3
  have e2:b=m:=h2;subst e1 e2;exact h4
theorem EG:∀{ps:dq} {k:aO} {m:Int},(ps.map (·.1)).Nodup→(k,m)∈ps→gP ps k=some m
  |[],_,_,_,h=>nomatch h
  |p::r,k,m,nd,h=>by
   rw[bY] at nd;obtain⟨h1,h2⟩:=yL.mp nd;unfold gP;rcases gw.mp h with e|e
   ·rw[←e,uG];simp
   ·have:¬ p.1=k:=fun z=>h1 (i9.mpr ⟨(k,m),e,z.symm⟩);rw[uG];simp only[this,decide_false];exact EG h2 e
theorem MZ(ps:dq)(k:aO)(m:Int):(mQ ps k m).map (·.1)=if (ps.any fun p=>decide (p.1=k))=true then ps.map (·.1) else ps.map (·.1)++[k]:=by
  unfold mQ;by_cases h:(ps.any fun p=>decide (p.1=k))=true
  ·rw[az h,az h,e8];refine t8 fun p _=>?_;show(if p.1=k then(p.1,m) else p).1=p.1;split<;>rfl
  ·rw[bh h,bh h,wg];rfl
theorem vL(ps:dq)(k:aO)(m:Int):(mQ ps k m).length≤ps.length+1:=by unfold mQ;split<;>simp
theorem uz.put(h:uz c ps){k:aO}{m:Int}(hs:cP c k)(hm:1≤m):uz c (mQ ps k m):=by
  refine⟨?_,fun p hp=>?_⟩
  · rw[MZ];by_cases q:(ps.any fun p=>decide (p.1=k))=true
    ·rw[az q];exact h.nd
    ·rw[bh q];refine Dz h.nd fun hk=>q ?_;obtain⟨p,h1,h2⟩:=i9.mp hk;exact Dl.mpr ⟨p,h1,nE h2⟩
  · unfold mQ at hp;split at hp
    · obtain⟨p',h1,h2⟩:=i9.mp hp;by_cases e:p'.1=k
      ·rw[az e] at h2;rw[←h2,e];exact⟨hs,hm⟩
      ·rw[bh e] at h2;rw[←h2];exact h.all p' h1
    · rcases mX.mp hp with q|q
      ·exact h.all p q
      · have e:p=(k,m):=by simpa using q
        rw[e];exact⟨hs,hm⟩
theorem uz.get(h:uz c ps)(k:aO):0≤(gP ps k).getD 0:=by
  cases e:gP ps k with
  |none=>exact Int.le_refl _
  |some m=>have:=(h.all _ (Ql e)).2;simp only[tf];omega
theorem GY(o:Option Int):(o.map D.int).getD (.int 0)=.int (o.getD 0):=by cases o<;>rfl
theorem sW(k:aO):Mm (.tup (k.map D.int))=some (k.map Sum.inl):=xM k
def ah(h:aO×Int):D:=.tup [.tup (h.1.map D.int),.int h.2]
def qk(kind c z:Int):aO:=if kind / 4%3==1 then(EE (pR z 1%2^c.toNat) c).filter (fun n=>n / 2==pR z 3%3) else EE (pR z 1%2^c.toNat) c
def vN(size z:Int):Int:=if z%5==1 then 6 else 1+z / 7%size
theorem M0(kind z:Int)(h0:0≤c):cP c (qk kind c z):=by
  unfold qk;split
  ·exact(KQ _ h0).filter _
  ·exact KQ _ h0
theorem Qm{size:Int}(hs:0<size)(z:Int):1≤vN size z:=by unfold vN;have:=Bc (z / 7) (show size≠0 by omega);split<;>omega
def CF(kind size c:Int)(ps:dq)(z:Int):dq:=mQ ps (qk kind c z) ((gP ps (qk kind c z)).getD 0+vN size z)
def ak(rs:dq):Int:=(rs.map fun r=>r.2).sum
theorem Ap{a:aO}(h:a.Perm b):a.sum=b.sum:=by
  induction h with
  |nil=>rfl
  |cons x _ ih=>rw[wj,wj,ih]
  |swap x y l=>simp only[wj];omega
  |trans _ _ i j=>rw[i,j]
theorem jT(p:aO×Int)(ps:dq)(k:aO):gP (p::ps) k=if p.1=k then some p.2 else gP ps k:=by
  unfold gP;rw[uG];by_cases e:p.1=k
  ·rw[az e];simp[e]
  ·rw[bh e];simp[e]
theorem xA{k:aO}:gP ps k=none↔k∉ps.map (·.1):=by
  induction ps with
  |nil=>simp[gP]
  |cons p ps ih =>
   rw[jT];by_cases e:p.1=k
   ·simp[e]
   · rw[bh e,ih,bY,gw];constructor
     · rintro h (q|q)
       ·exact e q.symm
       ·exact h q
     ·exact fun h q=>h (.inr q)
theorem KY(hp:uz c ps)(k:aO)(m:Int):ak (mQ ps k ((gP ps k).getD 0+m))=ak ps+m:=by
  have key:∀(ps:dq),(ps.map (·.1)).Nodup→∀v,k∈ps.map (·.1)→ak (ps.map fun p=>if p.1=k then(p.1,(gP ps k).getD 0+v) else p)=ak ps+v:=by
    intro ps;induction ps with
    |nil=>intro _ v h;nomatch h
    |cons p ps ih =>
     intro nd v h;rw[bY] at nd;obtain⟨n1,n2⟩:=yL.mp nd;unfold ak at ih⊢;rw[bY,bY,bY,wj,wj,jT];by_cases e:p.1=k
     · rw[az e,az e];have:(ps.map fun x=>if x.1=k then(x.1,(some p.2:Option Int).getD 0+v) else x)=ps:=by
         refine(t8 fun x hx=>?_).trans (List.map_id _);exact bh fun z=>n1 (i9.mpr ⟨x,hx,z.trans e.symm⟩)
       rw[this];show p.2+v+_=_;omega
     · rw[bh e,bh e];have hk:k∈ps.map (·.1):=by
         rcases gw.mp h with z|z
         ·exact absurd z.symm e
         ·exact z
       have:=ih n2 v hk;omega
  by_cases h:k∈ps.map (·.1)
  · unfold mQ;have h':(ps.any fun p=>decide (p.1=k))=true:=by
      obtain⟨p,h1,h2⟩:=i9.mp h;exact Dl.mpr ⟨p,h1,nE h2⟩
    rw[az h'];exact key ps hp.nd m h
  · unfold mQ;have h':¬ (ps.any fun p=>decide (p.1=k))=true:=fun z=>h (by
      obtain⟨p,h1,h2⟩:=Dl.mp z;exact i9.mpr ⟨p,h1,xY h2⟩)
    rw[bh h',xA.mpr h];unfold ak;rw[wg,List.sum_append];simp
theorem Xe{S A M:D}{kind size:Int}(h1:1≤c)(h6:c≤6)(hs:0<size)(z:Int)(hl:ps.length<10000)(o8 o9 sm:eO):pO [some (.sh S),some (.sh A),some (.sh M),some (.sh (.int c)),some (.sh (.int kind)),some (.sh (.int size)),some (.ot (ps.map enc)),some (.sh (.int z)),o8,o9,sm]=some (.nx [some (.sh S),some (.sh A),some (.sh M),some (.sh (.int c)),some (.sh (.int kind)),some (.sh (.int size)),some (.ot ((CF kind size c ps z).map enc)),some (.sh (.int z)),o8,some (.sh (.tup ((qk kind c z).map D.int))),some (.sh (.int (vN size z)))]):=by
  obtain⟨p1,p2,p3⟩:=aae h1 h6;have hm:∀y,qI y (2^c.toNat)=true:=fun y=>by unfold qI;exact nE (by omega)
  have Mg:∀y,qI y size=true:=fun y=>by unfold qI;exact nE hs
  have d1:∀y,divC y 4=true:=fun y=>rfl;have d2:∀y,divC y 2=true:=fun y=>rfl;have d3:∀y,divC y 7=true:=fun y=>rfl;have m1:∀y,qI y 3=true:=fun y=>rfl;have m2:∀y,qI y 5=true:=fun y=>rfl;have TQ:CD [.int (pR z 1%2^c.toNat),.int c]=some (.sh (.tup ((EE (pR z 1%2^c.toNat) c).map D.int))):=aad _ (by omega) h6;have Sl:cF (aD true 0) (bV (ag m5 (ag Mb (aJ 0) (eC (.int 2))) (ag oz (ax lH (ae (eV 1) (ae (eC (.int 3)) ao))) (eC (.int 3))))) (eV 0) ((EE (pR z 1%2^c.toNat) c).map D.int) [none,some (.sh (.int z))] =
      some (((EE (pR z 1%2^c.toNat) c).filter (fun n=>n / 2==pR z 3%3)).map D.int):=by
    refine dw D.int (fun n=>n / 2==pR z 3%3) D.int fun n _=>⟨[some (.sh (.int n)),some (.sh (.int z))],rfl,?_,fun _=>rfl⟩
    simp[bV,ag,aJ,eC,eV,div_ii (d2 _),mw (m1 _),ax,ae,ao,yH,jj]
  have Xf:∀(k:aO) (m:Int),putD (ps.map enc) (k.map Sum.inl) (.int m)=(mQ ps k m).map enc:=Ao ps;by_cases q1:kind / 4%3=1<;>by_cases q2:z%5=1 <;>
    simp[pO,bw,cw,pT,dI,bV,ag,aJ,eV,eC,ax,ae,ao,yH,WR p1,mw (hm _),mw (Mg _),div_ii (d1 _),div_ii (d3 _),mw (m1 _),mw (m2 _),mv,TQ,jj,q1,q2,ml,eL,bQ,cJ,di,jb,Sl,rD,wN,dT,sW,sg,GY,hl,Xf,CF,qk,vN]
theorem Xg{S A M:D}{kind size:Int}(h1:1≤c)(h6:c≤6)(hs:0<size)(zs:aO)(hz:zs.length≤1000){B:Int}(hM:∀z,vN size z≤B):∃(ps:dq) (o7 o9 sm:eO),uz c ps∧ps.length≤zs.length∧ak ps≤(zs.length:Int)*B∧ig (aD true 7) pO (zs.map D.int) [some (.sh S),some (.sh A),some (.sh M),some (.sh (.int c)),some (.sh (.int kind)),some (.sh (.int size)),some (.ot []),none,none,none,none]=some (.nx [some (.sh S),some (.sh A),some (.sh M),some (.sh (.int c)),some (.sh (.int kind)),some (.sh (.int size)),some (.ot (ps.map enc)),o7,none,o9,sm]):=by
  obtain⟨η',e,ps,o7,o9,sm,hp,hl,hmm,rfl⟩:=zF (b:=aD true 7) (g:=pO) (ds:=zs.map D.int)
    (η:=[some (.sh S),some (.sh A),some (.sh M),some (.sh (.int c)),some (.sh (.int kind)),some (.sh (.int size)),some (.ot []),none,none,none,none])
    (fun i η=>∃(ps:dq) (o7 o9 sm:eO),uz c ps∧ps.length≤i∧ak ps≤(i:Int)*B∧η=[some (.sh S),some (.sh A),some (.sh M),some (.sh (.int c)),some (.sh (.int kind)),some (.sh (.int size)),some (.ot (ps.map enc)),o7,none,o9,sm]) 0
    ⟨[],none,none,none,⟨List.nodup_nil,fun _ h=>nomatch h⟩,qQ _,by simp[ak],rfl⟩ (fun i d η hd ⟨ps,o7,o9,sm,hp,hl,hmm,e⟩=>by
      subst e;rw[qG] at hd;obtain⟨z,hz1,rfl⟩:=gZ.mp hd;have hi:=(v9.mp hz1).1;refine⟨_,_,rfl,.inl (Xe h1 h6 hs z (by omega) none o9 sm),CF kind size c ps z,_,_,_,hp.put (M0 _ _ (by omega)) ?_,?_,?_,rfl⟩
      ·have:=hp.get (qk kind c z);have:=Qm hs z;omega
      ·have:=vL ps (qk kind c z) ((gP ps (qk kind c z)).getD 0+vN size z);show(CF kind size c ps z).length≤_;unfold CF;omega
      · unfold CF;rw[KY hp];have:=hM z;have e2:((0+i+1:Nat):Int)*B=(i:Int)*B+B:=by rw[Int.natCast_add,Int.add_mul];simp
        rw[e2];have e3:((0+i:Nat):Int)*B=(i:Int)*B:=by simp
        omega)
  exact⟨ps,o7,o9,sm,hp,by simpa using hl,by simpa using hmm,e⟩
theorem aaf{k:Int}:∃s:Int,(0<s∧s≤10^30)∧qy [D.int 3,D.int 10,D.int 100,D.int (10^30)] (k%4)=some (.int s):=by
  have h0:=Bc k (show(4:Int)≠0 by decide);have h4:=Fy k (show(0:Int)<4 by decide);have:k%4=0∨k%4=1∨k%4=2∨k%4=3:=by omega
  rcases this with e|e|e|e<;>rw[e]
  ·exact⟨3,⟨by decide,by decide⟩,rfl⟩
  ·exact⟨10,⟨by decide,by decide⟩,rfl⟩
  ·exact⟨100,⟨by decide,by decide⟩,rfl⟩
  ·exact⟨10^30,⟨by decide,by decide⟩,rfl⟩
def n5(p:aO×Int):Int×aO:=((p.1.length:Int),p.1)
def cK(ps:dq):dq:=(hG (ps.map n5)).map fun q=>(q.2,(gP ps q.2).getD 0)
theorem vQ(h:uz c ps):(ps.map n5).Nodup:=by have q:=h.nd;unfold List.Nodup at q⊢;rw[Dg] at q⊢;exact q.imp fun {a b} uN e=>uN (by injection e)
theorem n8(h:uz c ps){q:Int×aO}(hq:q∈hG (ps.map n5)):∃m,(q.2,m)∈ps∧gP ps q.2=some m∧q.1=(q.2.length:Int):=by obtain⟨p,h1,rfl⟩:=i9.mp ((iw _).mem_iff.mp hq);exact⟨p.2,h1,EG h.nd h1,rfl⟩
theorem M3(h:uz c ps)(iJ:ps≠[])(hl:ps.length≤63):J2 c (cK ps):=by
  have hlen:(hG (ps.map n5)).length=ps.length:=by rw[(iw _).length_eq,g9]
  refine⟨fun e=>iJ ?_,fun x hx=>?_,?_,?_⟩
  · have:(hG (ps.map n5)).length=0:=by
      have:=g6 List.length e;simpa[cK] using this
    exact List.eq_nil_of_length_eq_zero (by omega)
  ·obtain⟨q,hq,rfl⟩:=i9.mp hx;obtain⟨m,h1,h2,_⟩:=n8 h hq;have:=h.all _ h1;rw[h2];exact this
  ·unfold cK;rw[Dg];refine List.Pairwise.imp_of_mem (fun {a b} ha hb uN=>?_) (zv (vQ h));obtain⟨_,_,_,e1⟩:=n8 h ha;obtain⟨_,_,_,e2⟩:=n8 h hb;rw[←e1,←e2];exact uN
  ·unfold cK;rw[g9,hlen];exact hl
theorem Xh(ps:dq){η:cQ}:cF (aD true 0) eP (fX (ae (jN dS (ae (aJ 0) ao)) (ae (eV 0) ao))) ((ps.map enc).map fun kv=>.tup (kv.1.map Mp)) [none]=some ((ps.map n5).map fP):=by
  rw[e8,e8];refine eW (fun p=>.tup (((enc p).1).map Mp)) (fP∘n5) fun p _=>⟨[some (.sh (.tup (p.1.map D.int)))],?_,rfl,?_⟩
  · have:((enc p).1).map Mp=p.1.map D.int:=by
      show(p.1.map Sum.inl).map Mp=_;rw[e8];rfl
    rw[this];rfl
  ·simp[fX,ae,ao,jN,dS,aJ,eV,fP,n5]
theorem aag(h:uz c ps):cF (lR 2 (cc (aD true 0) (cc (aD true 1) lQ))) eP (fX (ae (eV 1) (ae (xN 2 (aJ 1)) ao))) ((hG (ps.map n5)).map fP) [none,none,some (.ft (ps.map enc))]=some ((cK ps).map ah):=by
  unfold cK;rw[e8];refine eW fP _ fun q hq=>⟨[some (.sh (.int q.1)),some (.sh (.tup (q.2.map D.int))),some (.ft (ps.map enc))],rfl,rfl,?_⟩
  obtain⟨m,_,h2,_⟩:=n8 h hq;simp[fX,ae,ao,eV,aJ,xN,dT,sW,sg,h2,ah]
theorem lV(hp:uz c ps):(cK ps).Perm ps:=by
  unfold cK;refine((iw _).map _).trans ?_;rw[e8];have:ps.map ((fun q:Int×aO=>(q.2,(gP ps q.2).getD 0))∘n5)=ps:=by refine(t8 fun p hm=>?_).trans (List.map_id _);show(p.1,(gP ps p.1).getD 0)=p;rw[EG hp.nd (show(p.1,p.2)∈ps from hm)];rfl
  rw[this]
theorem TR(ns:aO)(a m:Nat)(h1:1≤c)(h6:c≤6)(hn:ns.length≤63)(ha:1≤a):∃hs,yG [.lst (ns.map D.int),.int a,.int m,.int c]=some (.ol (hs.map ah))∧J2 c hs∧∃ps,uz c ps∧hs=cK ps∧ps.length≤63∧ak ps≤((m:Nat):Int)*10^30+1:=by
  obtain⟨s,⟨hs,hsM⟩,es⟩:=aaf (k:=pR (ns.getD a 0) 5);have hp:powC 10 30=true:=by decide
  have zl:((ns.drop (HT.uE ns.length 0 (some ((a:Int)+1)))).take (HT.uE ns.length ns.length (some ((a:Int)+1+(m:Int)))-HT.uE ns.length 0 (some ((a:Int)+1)))).length≤62:=by
    rw[Dj,List.length_drop];have e:((a:Int)+1)=((a+1:Nat):Int):=by omega
    rw[e,HT.sD];omega
  have zm:((ns.drop (HT.uE ns.length 0 (some ((a:Int)+1)))).take (HT.uE ns.length ns.length (some ((a:Int)+1+(m:Int)))-HT.uE ns.length 0 (some ((a:Int)+1)))).length≤m:=by
    rw[Dj,List.length_drop];have e:((a:Int)+1)=((a+1:Nat):Int):=by omega
    have e':((a:Int)+1+(m:Int))=((a+1+m:Nat):Int):=by omega
    rw[e',e,HT.sD,HT.sD];omega
  have hM:∀z,vN s z≤10^30:=fun z=>by
    unfold vN;split
    ·decide
    ·have:=Fy (z / 7) hs;omega
  obtain⟨ps,o7,o9,sm,hP,hL,hSm,e4⟩:=Xg (S:=.lst (ns.map D.int)) (A:=.int a) (M:=.int m) (kind:=pR (ns.getD a 0) 5) h1 h6 hs _ (pU zl (by decide)) hM
  -- the heap of the first name alone,where there is none
  let M4:=if ps.length=0 then mQ ps [0] 1 else ps
  have UJ:uz c M4:=by
    show uz c (if ps.length=0 then mQ ps [0] 1 else ps);split
    · exact hP.put ⟨List.pairwise_singleton _ _,fun n hn=>by have:n=0:=by simpa using hn
                                                             omega⟩ (Int.le_refl 1)
    ·exact hP
  have hN':M4≠[]:=by
    show(if ps.length=0 then mQ ps [0] 1 else ps)≠[];split
    ·rename_i e0;have:ps=[]:=List.eq_nil_of_length_eq_zero e0;subst this;simp[mQ]
    ·rename_i e0;intro e;rw[e] at e0;exact e0 rfl
  have hL':M4.length≤63:=by show(if ps.length=0 then mQ ps [0] 1 else ps).length≤63;have:=vL ps [0] 1;split<;>omega
  have hS':ak M4≤((m:Nat):Int)*10^30+1:=by
    have h1:ak ps≤((m:Nat):Int)*10^30:=Int.le_trans hSm (Int.mul_le_mul_of_nonneg_right (Int.ofNat_le.mpr zm) (by decide));show ak (if ps.length=0 then mQ ps [0] 1 else ps)≤_;split
    ·rename_i e0;have:ps=[]:=List.eq_nil_of_length_eq_zero e0;subst this;have e1:ak (mQ [] [0] 1)=1:=rfl;have e2:ak []=0:=rfl;rw[e1];omega
    ·omega
  refine⟨cK M4,cD ?_,M3 UJ hN' hL',M4,UJ,rfl,hL',hS'⟩;have hs0:eR 11 [true,true,true,true] [D.lst (ns.map D.int),.int a,.int m,.int c]=[some (.sh (.lst (ns.map D.int))),some (.sh (.int a)),some (.sh (.int m)),some (.sh (.int c)),none,none,none,none,none,none,none]:=rfl;rw[hs0];unfold KN;rw[aE (bG (d:=.int (pR (ns.getD a 0) 5)) (by simp[ax,ae,ao,eV,eC,Qk,yH]))];rw[aE (bG (d:=.int s) (by
    have e30:(30:Int).toNat=30:=rfl;have hm4:∀y,qI y 4=true:=fun y=>rfl;simp only[ag,eL,oR,ae,ao,eC,aJ,WQ hp,ic,ie,cj,cN,bJ,dN,mw (hm4 _),S4,e30];rw[az (by decide)];exact es))]
  rw[aE (show zB 6 _=some (.nx _) from rfl)];rw[aE (by
    refine(fK (ds:=_) ?_).trans e4;simp only[cJ,eL,kN,eV,oB,ag,aJ,eC,ic,ie,cj,cN,bJ,mv,dN,di,S5])]
  rw[aE (η':=[some (.sh (.lst (ns.map D.int))),some (.sh (.int a)),some (.sh (.int m)),some (.sh (.int c)),some (.sh (.int (pR (ns.getD a 0) 5))),some (.sh (.int s)),some (.ot (M4.map enc)),o7,none,o9,sm]) (by
    have hk:Mm (.tup [.int 0])=some (([0]:aO).map Sum.inl):=rfl;have Xf:putD (ps.map enc) (([0]:aO).map Sum.inl) (.int 1)=(mQ ps [0] 1).map enc:=Ao ps [0] 1;have hl:ps.length<10000:=by omega
    show _=some (Out.nx [_,_,_,_,_,_,some (.ot ((if ps.length=0 then mQ ps [0] 1 else ps).map enc)),_,_,_,_]);by_cases e0:ps.length=0
    ·rw[rF (by simp[bV,ag,zC,dT,eC,jj,e0]),az e0];simp[rD,eC,fX,ae,ao,hk,hl];exact Xf
    ·rw[lS (by simp[bV,ag,zC,dT,eC,jj];simpa using e0),bh e0];rfl)]
  have A5:=vQ UJ;have ac9:(M4.map n5).length<64:=by rw[g9];omega
  rw[aE (η':=[some (.sh (.lst (ns.map D.int))),some (.sh (.int a)),some (.sh (.int m)),some (.sh (.int c)),some (.sh (.int (pR (ns.getD a 0) 5))),some (.sh (.int s)),some (.ft (M4.map enc)),o7,some (.sh (.lst ((hG (M4.map n5)).map fP))),o9,sm]) (by
    show cw 8 _ [_,_,_,_,_,_,some (.ft (M4.map enc)),_,_,_,_]=_;rw[bG (d:=.lst ((hG (M4.map n5)).map fP)) (by
      have hk:=Xh M4 (η:=[]);simp only[eL,Ea,bQ,Eb,cj,cN,bJ,jb,ja,uH,List.replicate,hk,dN,zu,A5,ac9,and_self,gx])]
    rfl)]
  refine fR ?_;have ho:=aag UJ;simp only[bQ,cJ,eV,cj,cN,bJ,di,jb,bY,ja,tf];exact ho
theorem Jd{x:Int}(h0:0≤x)(h:x<2^n)(hn:1≤n):x.natAbs.log2<n:=by
  by_cases e:x=0
  ·subst e;have:(0:Int).natAbs.log2=0:=rfl;omega
  · have h1:x.natAbs≠0:=by omega
    refine(Nat.log2_lt h1).mpr ?_;have h2:((x.natAbs:Nat):Int)<((2^n:Nat):Int):=by rw[Int.natAbs_of_nonneg h0];simpa using h
    exact Int.ofNat_lt.mp h2
theorem Qn{a b:Int}(hb:0<b)(uN:b≤a):2*(a%b)<a:=by
  have h1:=Fy a hb;have h2:=Bc a (show b≠0 by omega);have h3:=Int.mul_ediv_add_emod a b;have h4:1≤a / b:=by rw[Int.le_ediv_iff_mul_le hb];omega
  have h5:b≤b*(a / b):=by have:=Int.mul_le_mul_of_nonneg_left h4 (show 0≤b by omega);omega
  omega
def Je:Nat→Int→Int→Option Int
  |0,_,_=>none
  |n+1,a,b=>if 0<b then Je n b (a%b) else some a
theorem GZ{a b:Int}(ha:0≤a)(hb:0≤b):Int.gcd a b=Int.gcd b (a%b):=by
  obtain⟨x,rfl⟩:∃x:Nat,a=(x:Int):=⟨a.toNat,by omega⟩
  obtain⟨y,rfl⟩:∃y:Nat,b=(y:Int):=⟨b.toNat,by omega⟩
  have e:(x:Int)%(y:Int)=((x%y:Nat):Int):=by omega
  rw[e];show Nat.gcd x y=Nat.gcd y (x%y);rw[Nat.gcd_comm x y,Nat.gcd_rec y x,Nat.gcd_comm]
theorem KZ:∀(k:Nat) (a b:Int),0≤a→0≤b→b<2^k→∀n,2*k+1≤n→Je n a b=some ((Int.gcd a b:Nat):Int)
  |0,a,b,ha,hb,hk,n,hn=>by
   have:b=0:=by have:(2:Int)^0=1:=rfl;omega
   subst this;obtain⟨m,rfl⟩:∃m,n=m+1:=⟨n-1,by omega⟩
   unfold Je;rw[bh (by decide),Int.gcd_zero_right,Int.natAbs_of_nonneg ha]
  |k+1,a,b,ha,hb,hk,n,hn=>by
   obtain⟨m,rfl⟩:∃m,n=m+1:=⟨n-1,by omega⟩
   unfold Je;by_cases h0:0<b
   · rw[az h0];obtain⟨m',rfl⟩:∃m',m=m'+1:=⟨m-1,by omega⟩
     unfold Je;have r0:=Bc a (show b≠0 by omega);have rb:=Fy a h0;have e1:=GZ ha hb;by_cases h1:0<a%b
     · rw[az h1];have s0:=Bc b (show a%b≠0 by omega);have hh:=Qn h1 (by omega:a%b≤b);have hp:(2:Int)^(k+1)=2*2^k:=by rw[Int.pow_succ];omega
       have ih:=KZ k (a%b) (b%(a%b)) r0 s0 (by omega) m' (by omega);rw[ih,e1,GZ hb r0]
     · rw[bh h1];have:a%b=0:=by omega
       rw[e1,this,Int.gcd_zero_right,Int.natAbs_of_nonneg hb]
   · rw[bh h0];have:b=0:=by omega
     subst this;rw[Int.gcd_zero_right,Int.natAbs_of_nonneg ha]
theorem U8:∀(n:Nat) (a b:Int) (o:eO) (x:Int),Je n a b=some x→∃c o',iu fC fB n [some (.sh (.int a)),some (.sh (.int b)),o]=some (.nx [some (.sh (.int x)),some (.sh (.int c)),o'])
  |0,a,b,o,x,h=>by cases h
  |n+1,a,b,o,x,h=>by
   unfold Je at h;unfold iu;by_cases h0:0<b
   · rw[az h0] at h;obtain⟨c,o',ih⟩:=U8 n b (a%b) (some (.sh (.int (a%b)))) x h;have hm:qI a b=true:=Ec h0;refine⟨c,o',?_⟩;simp only[fC,bV,ag,aJ,eC,cj,cN,bJ,va,nE h0,gx];have hb:fB [some (.sh (.int a)),some (.sh (.int b)),o]=some (.nx [some (.sh (.int b)),some (.sh (.int (a%b))),some (.sh (.int (a%b)))]):=by
       unfold fB;refine(aE (bG (d:=.int (a%b)) ?_)).trans ?_
       ·simp only[ag,aJ,cj,cN,bJ,mw hm]
       refine(aE (bG (d:=.int b) rfl)).trans ?_;exact bG (d:=.int (a%b)) rfl
     rw[hb];exact ih
   ·rw[bh h0] at h;cases h;refine⟨b,o,?_⟩;simp only[fC,bV,ag,aJ,eC,cj,cN,bJ,va,lL h0];rfl
theorem aah{a b:Int}(ha:0≤a)(hb:0≤b)(hk:b<2^8000):gH [.int a,.int b]=some (.sh (.int ((Int.gcd a b:Nat):Int))):=by obtain⟨c,o',h⟩:=U8 20000 a b none _ (KZ 8000 a b ha hb hk 20000 (by decide));refine cD ?_;show jE [some (.sh (.int a)),some (.sh (.int b)),none]=_;unfold jE;refine(aE (show rA 20000 _ _ _=some (.nx _) from h)).trans ?_;rfl
def lq(r:Rat):D:=.tup [.int r.num,.int (r.den:Int)]
theorem Jf{a b:Int}(hb:0<b):a / ((Int.gcd a b:Nat):Int)=(Rat.divInt a b).num∧b / ((Int.gcd a b:Nat):Int)=((Rat.divInt a b).den:Int):=by
  constructor
  ·rw[Rat.num_divInt,Int.sign_eq_one_of_pos hb,Int.one_mul,Int.gcd_comm]
  · rw[Rat.den_divInt,bh (by omega),Int.gcd_comm];obtain⟨y,rfl⟩:∃y:Nat,b=(y:Int):=⟨b.toNat,by omega⟩
    rw[Int.natAbs_natCast,Int.natCast_ediv]
theorem TV{a b:Int}(hb:0<b):0<((Int.gcd a b:Nat):Int):=by
  have:Int.gcd a b≠0:=fun e=>by have:=(Int.gcd_eq_zero_iff.mp e).2;omega
  omega
theorem Xi{a b:Int}(hb:0<b):((Int.gcd a b:Nat):Int)≤b:=Int.le_of_dvd hb (Int.gcd_dvd_right ..)
theorem aai{a b:Int}(h:CB a b=true):GN (.int a) (.int b)=some (.int (a / b)):=by unfold GN iI;simp only[h,gx]
theorem Aq{a b:Int}(h:Cz a b=true):rN (.int a) (.int b)=some (.int (a*b)):=by unfold rN iI;simp only[h,gx]
theorem G0{a b:Int}(ha:0≤a)(hb:0<b)(hk:b<2^8000):lb [.int a,.int b]=some (.sh (lq (Rat.divInt a b))):=by
  have hg:=aah ha (ou hb) hk;obtain⟨e1,e2⟩:=Jf (a:=a) hb;have g0:=TV (a:=a) hb;have g1:=Xi (a:=a) hb;have hc:∀y,CB y ((Int.gcd a b:Nat):Int)=true:=fun y=>by unfold CB;refine nE ⟨g0,?_⟩;have:=Jd (n:=8000) (ou g0) (wa g1 hk) (by decide);omega
  refine cD ?_;show uw [some (.sh (.int a)),some (.sh (.int b)),none]=_;unfold uw;refine(aE (bG (d:=.int ((Int.gcd a b:Nat):Int)) ?_)).trans ?_
  ·simp only[ax,ae,ao,eV,cj,cN,bJ,dN,hg]
  refine j8 ?_;simp only[fX,ae,ao,ag,aJ,ic,ie,cj,cN,bJ,dN,aai (hc _),e1,e2];rfl
theorem ql{i j:Int}(hi:0≤i)(hj:0≤j)(Om:i<2^9000)(hj2:j<2^9000):Cz i j=true:=by unfold Cz;have h1:=Jd hi Om (by decide);have h2:=Jd hj hj2 (by decide);exact nE ⟨by omega,by omega⟩
theorem eS{a b:Nat}(h:a≤b):(2:Int)^a≤2^b:=by
  have:=Nat.pow_le_pow_right (n:=2) (by decide) h;have e:∀n:Nat,(2:Int)^n=((2^n:Nat):Int):=fun n=>by simp
  rw[e,e];exact Int.ofNat_le.mpr this
theorem jJ{x y:Int}{a b:Nat}(hx:0≤x)(hy:0≤y)(h1:x<2^a)(h2:y<2^b):x*y<2^(a+b):=by rw[Int.pow_add];have p1:(0:Int)<2^a:=wa hx h1;have p2:(0:Int)<2^b:=wa hy h2;have:=Int.mul_le_mul_of_nonneg_right (ou h1) hy;have:=Int.mul_lt_mul_of_pos_left h2 p1;omega
theorem den_pos(r:Rat):(0:Int)<(r.den:Int):=by have:=r.den_nz;omega
theorem Ar(m:Int)(y:Rat):Rat.divInt (m*y.num) y.den=(m:Rat)*y:=by
  have h:=den_pos y;have e:y=Rat.divInt y.num y.den:=(Rat.num_divInt_den y).symm;have e2:(m:Rat)=Rat.divInt m 1:=by have:=Rat.num_divInt_den (m:Rat);rw[Rat.num_intCast,Rat.den_intCast] at this;exact this.symm
  conv=>rhs;rw[e,e2,Rat.divInt_mul_divInt]
  rw[Int.one_mul]
theorem Jg(x y:Rat)(m:Int):Rat.divInt (x.num*(y.den:Int)+m*y.num*(x.den:Int)) ((x.den:Int)*(y.den:Int))=x+(m:Rat)*y:=by
  rw[←Ar m y]
  conv=>rhs;rw[←Rat.num_divInt_den x]
  rw[Rat.divInt_add_divInt _ _ (by have:=den_pos x;omega) (by have:=den_pos y;omega)]
theorem TX{x y:Rat}{m:Int}(hm:0≤m)(hx0:0≤x.num)(hy0:0≤y.num)(hx1:x.num<2^3900)(hx2:(x.den:Int)<2^3900)(hy1:m*y.num<2^3900)(hy2:(y.den:Int)<2^3900):nA [lq x,.tup [.int (m*y.num),.int (y.den:Int)]]=some (.sh (lq (x+(m:Rat)*y))):=by
  have dx:=den_pos x;have dy:=den_pos y;have hmy:0≤m*y.num:=Int.mul_nonneg hm hy0;have big:∀{z:Int},z<2^3900→z<2^9000:=fun h=>qF h (eS (by decide));have m1:=ql hx0 (ou dy) (big hx1) (big hy2);have m2:=ql hmy (ou dx) (big hy1) (big hx2);have m3:=ql (ou dx) (ou dy) (big hx2) (big hy2);have hl:=G0 (a:=x.num*(y.den:Int)+m*y.num*(x.den:Int)) (b:=(x.den:Int)*(y.den:Int)) (by
    have a1:=Int.mul_nonneg hx0 (ou dy);have a2:=Int.mul_nonneg hmy (ou dx);omega) (Int.mul_pos dx dy) (qF (jJ (ou dx) (ou dy) hx2 hy2) (eS (by decide)))
  rw[Jg] at hl;refine cD ?_;show xk [some (.sh (lq x)),some (.sh (.tup [.int (m*y.num),.int (y.den:Int)]))]=_;unfold xk;refine j8 ?_;have a0:qy [D.int x.num,.int (x.den:Int)] 0=some (.int x.num):=rfl;have a1:qy [D.int x.num,.int (x.den:Int)] 1=some (.int (x.den:Int)):=rfl;have b0:qy [D.int (m*y.num),.int (y.den:Int)] 0=some (.int (m*y.num)):=rfl;have b1:qy [D.int (m*y.num),.int (y.den:Int)] 1=some (.int (y.den:Int)):=rfl;simp only[ax,ae,ao,ag,aJ,eC,lq,Ib,a0,a1,b0,b1,cj,cN,bJ,dN,Aq m1,Aq m2,Aq m3,mv];simp only[hl,lq,bJ]
def bX:Option Rat→Option Rat→Bool
  |none,_=>false
  |some _,none=>true
  |some x,some y=>decide (x<y)
def dW:Option Rat→D
  |none=>.non
  |some r=>lq r
def Bd(r:Rat):Prop:=0≤r.num∧r.num<2^3900∧(r.den:Int)<2^3900
def BdO:Option Rat→Prop
  |none=>True
  |some r=>Bd r
theorem Xj{x y:Rat}(hx:Bd x)(hy:Bd y):vz [lq x,lq y]=some (.sh (.bl (decide (x<y)))):=by obtain⟨x0,x1,x2⟩:=hx;obtain⟨y0,y1,y2⟩:=hy;have dx:=den_pos x;have dy:=den_pos y;have big:∀{z:Int},z<2^3900→z<2^9000:=fun h=>qF h (eS (by decide));have m1:=ql x0 (ou dy) (big x1) (big y2);have m2:=ql y0 (ou dx) (big y1) (big x2);refine cD ?_;show Ag [some (.sh (lq x)),some (.sh (lq y))]=_;unfold Ag;refine j8 ?_;have a0:qy [D.int x.num,.int (x.den:Int)] 0=some (.int x.num):=rfl;have a1:qy [D.int x.num,.int (x.den:Int)] 1=some (.int (x.den:Int)):=rfl;have b0:qy [D.int y.num,.int (y.den:Int)] 0=some (.int y.num):=rfl;have b1:qy [D.int y.num,.int (y.den:Int)] 1=some (.int (y.den:Int)):=rfl;simp only[ag,aJ,eC,lq,Ib,a0,a1,b0,b1,cj,cN,bJ,Aq m1,Aq m2,tV,←Rat.lt_iff]
theorem TY{x y:Option Rat}(hx:BdO x)(hy:BdO y):gO [dW x,dW y]=some (.sh (.bl (bX x y))):=by
  refine cD ?_;show mK [some (.sh (dW x)),some (.sh (dW y))]=_;unfold mK;cases x with
  |none=>exact uh ((rF rfl).trans rfl)
  |some x =>
   cases y with
   |none=>exact uh ((rF rfl).trans rfl)
   |some y=>refine(aE ((lS rfl).trans rfl)).trans ?_;refine j8 ?_;simp only[ax,ae,ao,eV,dW,cj,cN,bJ,dN,Xj hx hy,bX]
def dR(r:Int×Option Rat):D:=.tup [.int r.1,dW r.2]
def G3(names:aO)(rows:uF):Option Rat:=rows.foldl (fun x r=>if names.contains r.1=true then r.2 else x) (some 0)
theorem xB(x:Option Rat):(dW x).A6=true:=by
  cases x with
  |none=>rfl
  |some r=>unfold dW lq;rw[uR,mZ,sL,mZ,sL];rfl
theorem aaj(names:aO)(rows:uF):iV [.tup (names.map D.int),.lst (rows.map dR)]=some (.sh (dW (G3 names rows))):=by
  refine cD ?_;show lg [some (.sh (.tup (names.map D.int))),some (.br (.lst (rows.map dR))),none,none,none]=_;unfold lg;have e0:dW (some 0)=.tup [.int 0,.int 1]:=rfl;refine(aE (bG (d:=dW (some 0)) rfl)).trans ?_;obtain⟨η',e,o3,o4,rfl⟩:=kQ (b:=lR 2 (cc (aD false 3) (cc (aD false 4) lQ))) (g:=jG) dR (fun(x:Option Rat) η=>∃o3 o4,η=[some (.sh (.tup (names.map D.int))),some (.br (.lst (rows.map dR))),some (.sh (dW x)),o3,o4])
    (fun x r=>if names.contains r.1=true then r.2 else x) (xs:=rows) (η:=[some (.sh (.tup (names.map D.int))),some (.br (.lst (rows.map dR))),some (.sh (dW (some 0))),none,none]) (some 0) ⟨none,none,rfl⟩ (fun r _ x η ⟨o3,o4,e⟩=>by
      subst e;refine⟨[some (.sh (.tup (names.map D.int))),some (.br (.lst (rows.map dR))),some (.sh (dW x)),some (.br (.int r.1)),some (.br (dW r.2))],[some (.sh (.tup (names.map D.int))),some (.br (.lst (rows.map dR))),some (.sh (dW (if names.contains r.1=true then r.2 else x))),some (.br (.int r.1)),some (.br (dW r.2))],rfl,?_,_,_,rfl⟩;unfold jG;have q:=yD (n:=r.1) (S:=.tup (names.map D.int)) (ms:=names) rfl;cases hc:names.contains r.1 with
      |true =>
       rw[hc] at q;refine(rF ?_).trans ?_
       ·simp only[bV,ag,aJ,cj,cN,bJ,q]
       ·refine(bG (d:=dW r.2) ?_).trans rfl;simp only[eV,cj,cN,xB,gx]
      |false =>
       rw[hc] at q;refine(lS ?_).trans rfl;simp only[bV,ag,aJ,cj,cN,bJ,q])
  refine(aE ((fK (ds:=rows.map dR) rfl).trans e)).trans ?_;rfl
def aY(hs:dq)(n:Int):dq:=hs.filter fun h=>h.1.contains n
theorem dG(h:aO×Int)(l:dq):ak (h::l)=h.2+ak l:=by unfold ak;rw[bY,wj]
theorem aak(hs:dq)(n:Int):cO [.lst (hs.map ah),.int n]=some (.sh (.int (ak (aY hs n)))):=by
  refine cD ?_;show jF [some (.sh (.lst (hs.map ah))),some (.sh (.int n))]=_;unfold jF;refine j8 ?_;have q:cF (lR 2 (cc (aD true 0) (cc (aD true 1) lQ))) (bV (ag (inD false) (aJ 2) (aJ 0))) (eV 1) (hs.map ah) (List.replicate 2 none++[some (.sh (.int n))])=some (((aY hs n).map fun r=>r.2).map D.int):=by
    have e:((aY hs n).map fun r=>r.2).map D.int=(hs.filter fun h=>h.1.contains n).map fun h=>D.int h.2:=by unfold aY;rw[e8];rfl
    rw[e];refine dw ah (fun h=>h.1.contains n) (fun h=>D.int h.2) fun h _=>⟨[some (.sh (.tup (h.1.map D.int))),some (.sh (.int h.2)),some (.sh (.int n))],rfl,?_,fun _=>rfl⟩
    have q:=yD (n:=n) (S:=.tup (h.1.map D.int)) (ms:=h.1) rfl;simp only[bV,ag,aJ,cj,cN,bJ,q]
  simp only[jN,ae,ao,eL,bQ,cJ,eV,cj,cN,bJ,dN,di,jb,bY,ja,tf];rw[q];simp only[bJ,dN,ye,du,ak]
def h9(P:Int)(t:Rat):Prop:=∃z:Int,(P:Rat)*t=(z:Rat)
theorem h9.add{P:Int}{s t:Rat}(h:h9 P s)(h':h9 P t):h9 P (s+t):=by obtain⟨a,ha⟩:=h;obtain⟨b,hb⟩:=h';exact⟨a+b,by rw[Rat.mul_add,ha,hb,Rat.intCast_add]⟩
theorem h9.mul{P:Int}{t:Rat}(m:Int)(h:h9 P t):h9 P ((m:Rat)*t):=by obtain⟨a,ha⟩:=h;exact⟨m*a,by rw[←Rat.mul_assoc,Rat.mul_comm (P:Rat) m,Rat.mul_assoc,ha,Dm]⟩
theorem h9.one(P:Int):h9 P 1:=⟨P,by rw[Rat.mul_one]⟩
theorem h9.den{P:Int}(hP:0<P){t:Rat}(h:h9 P t):(t.den:Int)≤P:=by
  obtain⟨z,hz⟩:=h;have UJ:(P:Rat)≠0:=fun e=>by have:=Rat.intCast_eq_zero_iff.mp e;omega
  have e:t=Rat.divInt z P:=by have h1:=Ar 1 t;rw[Rat.divInt_eq_div,←hz];grind
  rw[e,Rat.den_divInt,bh (by omega)];have h2:P.natAbs / P.gcd z≤P.natAbs:=Nat.div_le_self _ _;have h3:((P.natAbs:Nat):Int)=P:=Int.natAbs_of_nonneg (by omega);have h4:((P.natAbs / P.gcd z:Nat):Int)≤((P.natAbs:Nat):Int):=Int.ofNat_le.mpr h2;omega
theorem Jh{t:Rat}{T:Int}(h:t≤(T:Rat)):t.num≤T*(t.den:Int):=by have:=(Rat.le_iff t (T:Rat)).mp h;rw[Rat.num_intCast,Rat.den_intCast] at this;simpa using this
theorem Qo{t:Rat}(h:0≤t):0≤t.num:=Rat.num_nonneg.mpr h
theorem Qp{P T:Int}{t:Rat}(hP:0<P)(Wq:P<2^3300)(hT:0≤T)(hT2:T<2^200)(h:h9 P t)(h0:0≤t)(h1:t≤(T:Rat)):Bd t:=by have hd:=h.den hP;have dp:=den_pos t;have hn:=Jh h1;refine⟨Qo h0,?_,wa hd (qF Wq (eS (by decide)))⟩;have h2:T*(t.den:Int)<2^(200+3300):=jJ hT (ou dp) hT2 (wa hd Wq);exact wa hn (qF h2 (eS (by decide)))
structure sX (hs:dq) (rows:uF) (P:Int):Prop where
  pos:0<P
  lt:P<2^3300
  heap:∀h∈hs,∃x,G3 h.1 rows=some x∧h9 P x∧0≤x∧x≤6
def xh(rows:uF)(h:aO×Int):Rat:=(G3 h.1 rows).getD 0
def qN(rows:uF)(l:dq)(t:Rat):Rat:=l.foldl (fun t h=>t+(h.2:Rat)*xh rows h) t
theorem EH{hs:dq}{rows:uF}{P:Int}(ok:sX hs rows P):∀{l:dq},(∀h∈l,h∈hs∧1≤h.2)→∀{t:Rat} {T:Int},h9 P t→0≤t→t≤(T:Rat)→h9 P (qN rows l t)∧0≤qN rows l t∧qN rows l t≤((T+6*ak l:Int):Rat)
  |[],_,t,T,h1,h2,h3=>⟨h1,h2,by show t≤_;simpa[ak] using h3⟩
  |h::l,hl,t,T,h1,h2,h3=>by
   obtain⟨hm,h5⟩:=hl h de;obtain⟨x,e,w,x0,x6⟩:=ok.heap h hm;have ex:xh rows h=x:=by unfold xh;rw[e];rfl
   have T1:(0:Rat)≤(h.2:Rat):=by have:=Ho.mpr (show(0:Int)≤h.2 by omega);simpa using this
   have p1:0≤(h.2:Rat)*x:=Rat.mul_nonneg T1 x0;have p2:(h.2:Rat)*x≤(h.2:Rat)*6:=Rat.mul_le_mul_of_nonneg_left x6 T1;have ih:=EH ok (l:=l) (fun y hy=>hl y (lJ _ hy)) (t:=t+(h.2:Rat)*x) (T:=T+6*h.2) (h1.add (w.mul h.2)) (by grind) (by
     rw[Rat.intCast_add,Dm];have:((6:Int):Rat)=6:=rfl;grind)
   have e2:qN rows (h::l) t=qN rows l (t+(h.2:Rat)*x):=by show qN rows l (t+(h.2:Rat)*xh rows h)=_;rw[ex]
   rw[e2];refine⟨ih.1,ih.2.1,?_⟩;have e3:T+6*h.2+6*ak l=T+6*ak (h::l):=by rw[dG];omega
   rw[←e3];exact ih.2.2
def dZ(hs:dq)(rows:uF)(n:Int):Option Rat:=if ak (aY hs n)=0 then none else some (qN rows (aY hs n) 1 / (ak (aY hs n):Rat))
theorem xS(h:aO×Int)(l:dq)(n:Int):aY (h::l) n=if h.1.contains n=true then h::aY l n else aY l n:=by unfold aY;rw[Dk]
theorem qm{l:dq}(h:∀x∈l,1≤x.2):0≤ak l:=by
  induction l with
  |nil=>exact Int.le_refl _
  |cons x l ih=>have:=h x de;have:=ih fun y hy=>h y (lJ _ hy);rw[dG];omega
theorem CG{l:dq}(h:∀x∈l,1≤x.2)(n:Int):ak (aY l n)≤ak l:=by
  induction l with
  |nil=>exact Int.le_refl _
  |cons x l ih =>
   have:=h x de;have:=ih fun y hy=>h y (lJ _ hy);rw[xS];split
   ·rw[dG,dG];omega
   ·rw[dG];omega
theorem As{hs:dq}{rows:uF}{P:Int}(ok:sX hs rows P)(n:Int)(A:D)(o3:eO):∀(l:dq),(∀h∈l,h∈hs∧1≤h.2)→∀(t:Rat) (T:Int),h9 P t→0≤t→t≤(T:Rat)→0≤T→T+6*ak l<2^190→(∀h∈l,h.2<2^190)→∀(o5 o6 o7:eO),∃Rz Ji Qq,ig (lR 2 (cc (aD true 5) (cc (aD true 6) lQ))) dB (l.map ah) [some (.sh A),some (.br (.lst (rows.map dR))),some (.sh (.int n)),o3,some (.sh (lq t)),o5,o6,o7]=some (.nx [some (.sh A),some (.br (.lst (rows.map dR))),some (.sh (.int n)),o3,some (.sh (lq (qN rows (aY l n) t))),Rz,Ji,Qq])
  |[],_,t,T,_,_,_,_,_,_,o5,o6,o7=>⟨o5,o6,o7,rfl⟩
  |h::l,hl,t,T,h1,h2,h3,hT,hB,hM,o5,o6,o7=>by
   obtain⟨hm,h5⟩:=hl h de;have Gg:∀y∈l,y∈hs∧1≤y.2:=fun y hy=>hl y (lJ _ hy);have hM':∀y∈l,y.2<2^190:=fun y hy=>hM y (lJ _ hy);have sn:=qm (l:=l) fun y hy=>(Gg y hy).2;rw[dG] at hB;rw[bY];unfold ig;have nM:lR 2 (cc (aD true 5) (cc (aD true 6) lQ)) (ah h) [some (.sh A),some (.br (.lst (rows.map dR))),some (.sh (.int n)),o3,some (.sh (lq t)),o5,o6,o7]=some [some (.sh A),some (.br (.lst (rows.map dR))),some (.sh (.int n)),o3,some (.sh (lq t)),some (.sh (.tup (h.1.map D.int))),some (.sh (.int h.2)),o7]:=rfl;rw[nM];have q:=yD (n:=n) (S:=.tup (h.1.map D.int)) (ms:=h.1) rfl;rw[xS];cases hc:h.1.contains n with
   |false =>
    rw[hc] at q;obtain⟨a,b,c,e⟩:=As ok n A o3 l Gg t T h1 h2 h3 hT (by omega) hM' (some (.sh (.tup (h.1.map D.int)))) (some (.sh (.int h.2))) o7;refine⟨a,b,c,?_⟩;have hg:dB [some (.sh A),some (.br (.lst (rows.map dR))),some (.sh (.int n)),o3,some (.sh (lq t)),some (.sh (.tup (h.1.map D.int))),some (.sh (.int h.2)),o7]=some (.nx [some (.sh A),some (.br (.lst (rows.map dR))),some (.sh (.int n)),o3,some (.sh (lq t)),some (.sh (.tup (h.1.map D.int))),some (.sh (.int h.2)),o7]):=by unfold dB;refine(lS ?_).trans rfl;simp only[bV,ag,aJ,cj,cN,bJ,q]
    simp only[bJ,hg];rw[bh (by decide)];exact e
   |true =>
    rw[hc] at q;obtain⟨x,ex,w,x0,x6⟩:=ok.heap h hm;have exh:xh rows h=x:=by unfold xh;rw[ex];rfl
    have T1:(0:Rat)≤(h.2:Rat):=by have:=Ho.mpr (show(0:Int)≤h.2 by omega);simpa using this
    have p1:0≤(h.2:Rat)*x:=Rat.mul_nonneg T1 x0;have p2:(h.2:Rat)*x≤(h.2:Rat)*6:=Rat.mul_le_mul_of_nonneg_left x6 T1;have hT':T<2^200:=qF (show T<2^190 by omega) (eS (by decide));have bt:=Qp ok.pos ok.lt hT hT' h1 h2 h3;have bx:=Qp (T:=6) ok.pos ok.lt (by decide) (qF (show(6:Int)<2^3 by decide) (eS (by decide))) w x0 x6;have xd:=w.den ok.pos;have hxn:x.num≤6*(x.den:Int):=Jh x6;have dp:=den_pos x;have adf:x.num<2^(3+3300):=wa hxn (jJ (by decide) (ou dp) (by decide) (wa xd ok.lt));have hmx:h.2*x.num<2^(190+3303):=jJ (by omega) bx.1 (hM h de) adf;have adg:h.2*x.num<2^3900:=qF hmx (eS (by decide));have had:=TX (x:=t) (y:=x) (m:=h.2) (by omega) bt.1 bx.1 bt.2.1 bt.2.2 adg bx.2.2;have Wd:=aaj h.1 rows;rw[ex] at Wd;have hmu:=ql (i:=h.2) (j:=x.num) (by omega) bx.1 (qF (hM h de) (eS (by decide))) (qF bx.2.1 (eS (by decide)));obtain⟨a,b,c,e⟩:=As ok n A o3 l Gg (t+(h.2:Rat)*x) (T+6*h.2) (h1.add (w.mul h.2)) (by grind) (by
      rw[Rat.intCast_add,Dm];have:((6:Int):Rat)=6:=rfl;grind) (by omega) (by omega) hM' (some (.sh (.tup (h.1.map D.int)))) (some (.sh (.int h.2))) (some (.sh (dW (some x))))
    refine⟨a,b,c,?_⟩;have a0:qy [D.int x.num,.int (x.den:Int)] 0=some (.int x.num):=rfl;have a1:qy [D.int x.num,.int (x.den:Int)] 1=some (.int (x.den:Int)):=rfl;have hg:dB [some (.sh A),some (.br (.lst (rows.map dR))),some (.sh (.int n)),o3,some (.sh (lq t)),some (.sh (.tup (h.1.map D.int))),some (.sh (.int h.2)),o7]=some (.nx [some (.sh A),some (.br (.lst (rows.map dR))),some (.sh (.int n)),o3,some (.sh (lq (t+(h.2:Rat)*x))),some (.sh (.tup (h.1.map D.int))),some (.sh (.int h.2)),some (.sh (dW (some x)))]):=by
      unfold dB;refine(rF ?_).trans ?_
      ·simp only[bV,ag,aJ,cj,cN,bJ,q]
      refine(aE (bG (d:=dW (some x)) ?_)).trans ?_
      ·simp only[ax,ae,ao,eV,aJ,cj,cN,bJ,dN,Wd]
      refine(bG (d:=lq (t+(h.2:Rat)*x)) ?_).trans rfl;have et:fX (ae (ag rN (aJ 6) (ag iX (aJ 7) (eC (.int 0)))) (ae (ag iX (eV 7) (eC (.int 1))) ao)) [some (.sh A),some (.br (.lst (rows.map dR))),some (.sh (.int n)),o3,some (.sh (lq t)),some (.sh (.tup (h.1.map D.int))),some (.sh (.int h.2)),some (.sh (dW (some x)))]=some (.tup [.int (h.2*x.num),.int (x.den:Int)]):=by simp only[fX,ae,ao,ag,aJ,eV,eC,dW,lq,Ib,a0,a1,cj,cN,bJ,dN,Aq hmu];rfl
      have key:∀{f g:EF} {η:cQ} {u v d:D},f η=some u→g η=some v→nA [u,v]=some (.sh d)→ax nA (ae f (ae g ao)) η=some d:=fun k1 k2 k3=>by simp only[ax,ae,ao,k1,k2,bJ,dN,k3]
      exact key (f:=eV 4) rfl et had
    simp only[bJ,hg];rw[az trivial];have e2:qN rows (h::aY l n) t=qN rows (aY l n) (t+(h.2:Rat)*x):=by show qN rows (aY l n) (t+(h.2:Rat)*xh rows h)=_;rw[exh]
    rw[e2];exact e
theorem aal{P:Int}(ok:sX hs rows P)(hh:∀h∈hs,1≤h.2)(hS:ak hs<2^110)(n:Int):iW [.lst (hs.map ah),.lst (rows.map dR),.int n]=some (.sh (dW (dZ hs rows n))):=by
  have sn:=qm hh;have nn:=CG hh n;have nn0:=qm (l:=aY hs n) fun x hx=>hh x (jw.mp hx).1;have hM:∀h∈hs,h.2<2^190:=fun h hm=>by
    have key:∀{l:dq},(∀x∈l,1≤x.2)→h∈l→h.2≤ak l:=by
      intro l;induction l with
      |nil=>intro _ z;nomatch z
      |cons y l ih =>
       intro hy z;have h0:=qm (l:=l) fun x hx=>hy x (lJ _ hx);have h1:=hy y de;rw[dG];rcases gw.mp z with rfl|z
       ·omega
       ·have:=ih (fun x hx=>hy x (lJ _ hx)) z;omega
    exact wa (key hh hm) (qF hS (eS (by decide)))
  have hT:(1:Int)+6*ak hs<2^190:=by
    have h1:(6:Int)*ak hs<2^(3+110):=jJ (by decide) sn (by decide) hS;have h2:(2:Int)^113+1≤2^190:=by decide
    have e:(3+110:Nat)=113:=rfl;rw[e] at h1;omega
  refine cD ?_;show lh [some (.sh (.lst (hs.map ah))),some (.br (.lst (rows.map dR))),some (.sh (.int n)),none,none,none,none,none]=_;unfold lh;refine(aE (bG (d:=.int (ak (aY hs n))) ?_)).trans ?_
  ·simp only[ax,ae,ao,eV,cj,cN,bJ,dN,aak]
  simp only[ic,ie];unfold dZ;by_cases h0:ak (aY hs n)=0
  ·rw[az h0];refine uh ((rF ?_).trans rfl);simp[bV,ag,aJ,eC,jj,h0]
  rw[bh h0];refine(aE ((lS ?_).trans rfl)).trans ?_
  ·simp[bV,ag,aJ,eC,jj,h0]
  refine(aE (bG (d:=lq 1) rfl)).trans ?_;simp only[ic,ie];obtain⟨o5,o6,o7,e⟩:=As ok n (.lst (hs.map ah)) (some (.sh (.int (ak (aY hs n))))) hs (fun h hm=>⟨hm,hh h hm⟩) 1 1 (h9.one P) (by decide) (by decide) (by decide) hT hM none none none;refine(aE ((fK (ds:=hs.map ah) rfl).trans e)).trans ?_
  -- the last step
  obtain⟨w,t0,t1⟩:=EH ok (l:=aY hs n) (fun h hm=>⟨(jw.mp hm).1,hh h (jw.mp hm).1⟩) (t:=1) (T:=1) (h9.one P) (by decide) (by decide);generalize qN rows (aY hs n) 1=t at w t0 t1;have hTT:(1:Int)+6*ak (aY hs n)<2^200:=qF (show(1:Int)+6*ak (aY hs n)<2^190 by omega) (eS (by decide));have bt:=Qp ok.pos ok.lt (by omega) hTT w t0 t1;have dp:=den_pos t;have hN2:ak (aY hs n)<2^110:=by omega
  have hmu:=ql (i:=ak (aY hs n)) (j:=(t.den:Int)) nn0 (ou dp) (qF hN2 (eS (by decide))) (qF bt.2.2 (eS (by decide)));have hl:=G0 (a:=t.num) (b:=ak (aY hs n)*(t.den:Int)) bt.1 (Int.mul_pos (by omega) dp) (qF (jJ nn0 (ou dp) hN2 bt.2.2) (eS (by decide)));have ed:Rat.divInt t.num (ak (aY hs n)*(t.den:Int))=t / (ak (aY hs n):Rat):=by
    have hN:(ak (aY hs n):Rat)≠0:=fun e=>h0 (Rat.intCast_eq_zero_iff.mp e);have hd:((t.den:Int):Rat)≠0:=fun e=>by have:=Rat.intCast_eq_zero_iff.mp e;omega
    have e1:t=((t.num:Int):Rat) / ((t.den:Int):Rat):=by rw[←Rat.divInt_eq_div,Rat.num_divInt_den]
    rw[Rat.divInt_eq_div,Dm]
    conv=>rhs;rw[e1]
    grind
  rw[ed] at hl;refine j8 ?_;have a0:qy [D.int t.num,.int (t.den:Int)] 0=some (.int t.num):=rfl;have a1:qy [D.int t.num,.int (t.den:Int)] 1=some (.int (t.den:Int)):=rfl;simp only[ax,ae,ao,ag,eV,aJ,eC,lq,Ib,a0,a1,cj,cN,bJ,dN,Aq hmu,dW];simp only[hl,lq,bJ]
theorem T2(rows:uF):bI [.lst (rows.map dR)]=some (.ol ((rows.map fun r=>r.1).map D.int)):=by
  refine cD ?_;show gI [some (.br (.lst (rows.map dR)))]=_;unfold gI;refine fR ?_;have q:cF (aD false 0) eP (ag iX (eV 0) (eC (.int 0))) (rows.map dR) (List.replicate 1 none++[])=some ((rows.map fun r=>r.1).map D.int):=by
    rw[e8];refine eW dR _ fun r _=>⟨[some (.br (dR r))],rfl,rfl,?_⟩
    have him:(dR r).A6=true:=by unfold dR;rw[uR,mZ,sL,mZ,xB];rfl
    have a0:iX (dR r) (.int 0)=some (.int r.1):=rfl;simp only[ag,eV,eC,cj,him,gx,bJ,a0,Function.comp]
  simp only[bQ,HX,cj,bJ,jb,ja,q]
def i6(c:Int)(rows:uF):aO:=((List.range c.toNat).map fun(i:Nat)=>(0:Int)+(i:Int)).filter fun n=>!(rows.map fun r=>r.1).contains n
theorem Jj(h0:0≤c)(h6:c≤6)(rows:uF):fE [.int c,.lst (rows.map dR)]=some (.ol ((i6 c rows).map D.int)):=by
  refine cD ?_;show ku [some (.sh (.int c)),some (.br (.lst (rows.map dR)))]=_;unfold ku;refine fR ?_;have hr:(if c≤10000∧-10000≤c then some (dk 0 c.toNat) else none)=some ((((List.range c.toNat).map fun(i:Nat)=>(0:Int)+(i:Int))).map D.int):=by rw[az ⟨by omega,by omega⟩,jA]
  have q:cF (aD true 0) (bV (ag (inD true) (aJ 0) (ax bI (ae (aJ 1) ao)))) (eV 0) ((((List.range c.toNat).map fun(i:Nat)=>(0:Int)+(i:Int))).map D.int) (List.replicate 1 none++[some (.br (.lst (rows.map dR)))])=some ((i6 c rows).map D.int):=by
    unfold i6;have key:=dw (b:=aD true 0) (t:=bV (ag (inD true) (aJ 0) (ax bI (ae (aJ 1) ao)))) (f:=eV 0) (η:=List.replicate 1 none++[some (.br (.lst (rows.map dR)))]) (xs:=(List.range c.toNat).map fun(i:Nat)=>(0:Int)+(i:Int)) D.int (fun n=>!(rows.map fun r=>r.1).contains n) D.int;refine key fun n _=>⟨[some (.sh (.int n)),some (.br (.lst (rows.map dR)))],rfl,?_,fun _=>rfl⟩
    have q:=rE (n:=n) (S:=.lst ((rows.map fun r=>r.1).map D.int)) (ms:=rows.map fun r=>r.1) rfl;simp only[bV,ag,aJ,ax,ae,ao,cj,cN,bJ,dN,T2,q]
  simp only[bQ,eF,aJ,cj,cN,bJ,hr,jb,bY,ja,tf,q]
def iY(f:Int→Option Rat)(best:Option (Int×Option Rat))(n:Int):Option (Int×Option Rat):=match best with
  |none=>some (n,f n)
  |some b=>if bX (f n) b.2=true then some (n,f n) else some b
def K0(f:Int→Option Rat)(l:aO):Option (Int×Option Rat):=l.foldl (iY f) none
def K1:Option (Int×Option Rat)→D
  |none=>.non
  |some b=>dR b
theorem G4(f:Int→Option Rat):∀(l:aO) (s:Option (Int×Option Rat)) {b:Int×Option Rat},(∀y,s=some y→y.2=f y.1)→l.foldl (iY f) s=some b→b.2=f b.1∧(s=some b∨b.1∈l)
  |[],s,b,hs,h=>⟨hs b h,.inl h⟩
  |n::l,s,b,hs,h=>by
   rw[x4] at h;have JT:∀y,iY f s n=some y→y.2=f y.1:=fun y hy=>by
     unfold iY at hy;split at hy
     ·cases hy;rfl
     · split at hy
       ·cases hy;rfl
       ·cases hy;exact hs _ rfl
   obtain⟨h1,h2⟩:=G4 f l (iY f s n) JT h;refine⟨h1,?_⟩;rcases h2 with h2|h2
   · unfold iY at h2;split at h2
     ·cases h2;exact .inr (by simp)
     · split at h2
       ·cases h2;exact .inr (by simp)
       ·cases h2;exact .inl rfl
   ·exact .inr (by simp[h2])
theorem Xk(h0:0≤c)(h6:c≤6){P:Int}(ok:sX hs rows P)(hh:∀h∈hs,1≤h.2)(hS:ak hs<2^110)(hB:∀n,BdO (dZ hs rows n)):lG [.int c,.lst (hs.map ah),.lst (rows.map dR)]=some (.sh (K1 (K0 (dZ hs rows) (i6 c rows)))):=by
  refine cD ?_;show pk [some (.sh (.int c)),some (.sh (.lst (hs.map ah))),some (.br (.lst (rows.map dR))),none,none,none]=_;unfold pk;refine(aE (bG (d:=.non) rfl)).trans ?_
  let st (s:Option (Int×Option Rat)) (o4 o5:eO):cQ:=[some (.sh (.int c)),some (.sh (.lst (hs.map ah))),some (.br (.lst (rows.map dR))),some (.sh (K1 s)),o4,o5]
  obtain⟨η',e,o4,o5,hb,rfl⟩:=kQ (b:=aD true 4) (g:=mL) D.int (fun(s:Option (Int×Option Rat)) η=>∃o4 o5,(∀y,s=some y→y.2=dZ hs rows y.1)∧η=st s o4 o5)
    (iY (dZ hs rows)) (xs:=i6 c rows) (η:=st none none none) none ⟨none,none,(fun _ z=>nomatch z),rfl⟩ (fun n _ s η ⟨o4,o5,hb,e⟩=>by
      subst e;refine⟨st s (some (.sh (.int n))) o5,st (iY (dZ hs rows) s n) (some (.sh (.int n))) (some (.sh (dW (dZ hs rows n)))),rfl,?_,_,_,?_,rfl⟩
      · unfold mL;have hl:=aal ok hh hS n;refine(aE (η':=st s (some (.sh (.int n))) (some (.sh (dW (dZ hs rows n))))) ((bG (d:=dW (dZ hs rows n)) ?_).trans rfl)).trans ?_
        ·simp only[st,ax,ae,ao,eV,aJ,cj,cN,bJ,dN,hl]
        have TQ:cw 3 (fX (ae (eV 4) (ae (eV 5) ao))) (st s (some (.sh (.int n))) (some (.sh (dW (dZ hs rows n)))))=some (.nx (st (some (n,dZ hs rows n)) (some (.sh (.int n))) (some (.sh (dW (dZ hs rows n)))))):=rfl;cases s with
        |none=>refine(rF ?_).trans TQ;rfl
        |some b =>
         have ha:=TY (x:=dZ hs rows n) (y:=b.2) (hB n) (by rw[hb b rfl];exact hB _);have a1:iX (dR b) (.int 1)=some (dW b.2):=rfl;have ht:mj (bV (ag pI (aJ 3) (eC .non))) (bV (ax gO (ae (eV 5) (ae (ag iX (eV 3) (eC (.int 1))) ao)))) (st (some b) (some (.sh (.int n))) (some (.sh (dW (dZ hs rows n)))))=some (bX (dZ hs rows n) b.2):=by have n0:pI (dR b) .non=some (.bl false):=rfl;simp only[st,K1,mj,bV,ag,ax,ae,ao,eV,aJ,eC,cj,cN,bJ,dN,n0,a1,ha];rfl
         cases hc:bX (dZ hs rows n) b.2 with
         |true =>
          have es:iY (dZ hs rows) (some b) n=some (n,dZ hs rows n):=by show(if bX (dZ hs rows n) b.2=true then some (n,dZ hs rows n) else some b)=_;rw[az hc]
          rw[es];rw[hc] at ht;exact(rF ht).trans TQ
         |false =>
          have es:iY (dZ hs rows) (some b) n=some b:=by show(if bX (dZ hs rows n) b.2=true then some (n,dZ hs rows n) else some b)=_;rw[bh (by rw[hc];decide)]
          rw[es];rw[hc] at ht;exact(lS ht).trans rfl
      · intro y hy;unfold iY at hy;split at hy
        ·cases hy;rfl
        · split at hy
          ·cases hy;rfl
          ·cases hy;exact hb _ rfl)
  refine(aE ((fK (ds:=(i6 c rows).map D.int) ?_).trans e)).trans ?_
  ·simp only[st,cJ,ax,ae,ao,eV,aJ,ic,ie,cj,cN,bJ,dN,Jj h0 h6,di]
  ·rfl
theorem Au{a b c:Option Rat}(h1:bX b a=false)(h2:bX c b=false):bX c a=false:=by cases a<;>cases b<;>cases c<;>simp_all [bX];grind
theorem T3{a b:Option Rat}(h1:bX a b=false)(h2:bX b a=false):a=b:=by cases a<;>cases b<;>simp_all [bX];grind
theorem T4(a:Option Rat):bX a a=false:=by cases a<;>simp[bX]
theorem Av(f:Int→Option Rat):∀(l:aO) (s:Option (Int×Option Rat)) {b:Int×Option Rat},l.foldl (iY f) s=some b→(∀m∈l,bX (f m) b.2=false)∧∀y,s=some y→bX y.2 b.2=false
  |[],s,b,h=>⟨(fun _ z=>nomatch z),fun y hy=>by
   have:s=some b:=h;rw[this] at hy;cases hy;exact T4 _⟩
  |n::l,s,b,h=>by
   obtain⟨i1,i2⟩:=Av f l (iY f s n) h;have key:bX (f n) b.2=false∧∀y,s=some y→bX y.2 b.2=false:=by
     cases s with
     |none=>exact⟨i2 _ rfl,fun _ z=>nomatch z⟩
     |some y =>
      by_cases hc:bX (f n) y.2=true
      · have:=i2 (n,f n) (az hc);refine⟨this,fun y' hy=>?_⟩;cases hy;have h3:bX y.2 (f n)=false:=by
          cases e:bX y.2 (f n) with
          |false=>rfl
          |true=>exfalso;revert hc e;cases y.2<;>cases f n<;>simp[bX];grind
        exact Au this h3
      ·have:=i2 y (bh hc);refine⟨Au this (by simpa using hc),fun y' hy=>?_⟩;cases hy;exact this
   refine⟨fun m hm=>?_,key.2⟩;rcases gw.mp hm with rfl|hm
   ·exact key.1
   ·exact i1 m hm
theorem Aw(f:Int→Option Rat):∀(l:aO) (s:Option (Int×Option Rat)) {b:Int×Option Rat},l.Pairwise (·<·)→(∀y,s=some y→∀m∈l,y.1<m)→l.foldl (iY f) s=some b→(∀m∈l,f m=b.2→b.1≤m)∧∀y,s=some y→y.2=b.2→b.1≤y.1
  |[],s,b,_,_,h=>⟨(fun _ z=>nomatch z),fun y hy _=>by
   have:s=some b:=h;rw[this] at hy;cases hy;exact Int.le_refl _⟩
  |n::l,s,b,hp,hs,h=>by
   have Bn:=List.pairwise_cons.mp hp;have JT:∀y,iY f s n=some y→∀m∈l,y.1<m:=fun y hy m hm=>by
     unfold iY at hy;split at hy
     ·cases hy;exact Bn.1 m hm
     · split at hy
       ·cases hy;exact Bn.1 m hm
       ·cases hy;exact hs _ rfl m (lJ _ hm)
   obtain⟨i1,i2⟩:=Aw f l (iY f s n) Bn.2 JT h;obtain⟨j1,j2⟩:=Av f l (iY f s n) h;cases s with
   |none =>
    refine⟨fun m hm e=>?_,fun _ z=>nomatch z⟩;rcases gw.mp hm with rfl|hm
    ·exact i2 (m,f m) rfl e
    ·exact i1 m hm e
   |some y =>
    by_cases hc:bX (f n) y.2=true
    · have e0:iY f (some y) n=some (n,f n):=az hc;have k2:=i2 (n,f n) e0;have k3:=j2 (n,f n) e0;refine⟨fun m hm e=>?_,fun y' hy e=>?_⟩
      · rcases gw.mp hm with rfl|hm
        ·exact k2 e
        ·exact i1 m hm e
      ·cases hy;rw[e] at hc;rw[hc] at k3;cases k3
    · have e0:iY f (some y) n=some y:=bh hc;have k2:=i2 y e0;have k3:=j2 y e0;refine⟨fun m hm e=>?_,fun y' hy e=>?_⟩
      · rcases gw.mp hm with rfl|hm
        ·have e2:y.2=b.2:=T3 k3 (by rw[←e];simpa using hc);have:=k2 e2;have:=hs y rfl m de;omega
        ·exact i1 m hm e
      ·cases hy;exact k2 e
theorem M5(f:Int→Option Rat){l:aO}(h:l≠[]):∃b,K0 f l=some b:=by
  have key:∀(l:aO) (y:Int×Option Rat),∃b,l.foldl (iY f) (some y)=some b:=by
    intro l;induction l with
    |nil=>intro y;exact⟨y,rfl⟩
    |cons n l ih =>
     intro y;rw[x4];unfold iY;simp only;split
     ·exact ih _
     ·exact ih _
  cases l with
  |nil=>exact absurd rfl h
  |cons n l=>exact key l (n,f n)
theorem vR(names:aO)(rows:uF)(r:Int×Option Rat):G3 names (rows++[r])=if names.contains r.1=true then r.2 else G3 names rows:=by unfold G3;rw[List.foldl_append];rfl
theorem abj{n:Int}:n∈i6 c rows↔(0≤n∧n<c)∧n∉rows.map fun r=>r.1:=by
  unfold i6;rw[jw,i9];constructor
  ·rintro⟨⟨i,hi,rfl⟩,h⟩;have:=mY.mp hi;refine⟨by omega,?_⟩;simpa using h
  ·rintro⟨⟨h0,h1⟩,h⟩;refine⟨⟨n.toNat,mY.mpr (by omega),by omega⟩,?_⟩;simpa using h
theorem Qr(c:Int)(rows:uF):(i6 c rows).Pairwise (·<·):=by unfold i6;refine List.Pairwise.filter _ ?_;rw[Dg];exact List.pairwise_lt_range.imp fun h=>by omega
theorem Xl(c:Int)(rows:uF):(i6 c rows).Nodup:=(Qr c rows).imp fun h=>by omega
theorem G5(c:Int)(rows:uF)(r:Int×Option Rat):i6 c (rows++[r])=(i6 c rows).erase r.1:=by
  rw[List.Nodup.erase_eq_filter (Xl c rows)];unfold i6;rw[List.filter_filter];refine List.filter_congr fun n _=>?_;rw[wg,Be];simp;constructor
  ·rintro⟨a,b⟩;exact⟨b,a⟩
  ·rintro⟨a,b⟩;exact⟨b,a⟩
def Jk:Option Rat→Int
  |none=>1
  |some r=>(r.den:Int)
def xT:uF→Int
  |[]=>1
  |r::l=>Jk r.2*xT l
theorem uA(r:Int×Option Rat):∀l:uF,xT (l++[r])=xT l*Jk r.2
  |[]=>by show Jk r.2*1=1*Jk r.2;omega
  |x::l=>by show Jk x.2*xT (l++[r])=Jk x.2*xT l*Jk r.2;rw[uA r l,Int.mul_assoc]
structure Sq (c:Int) (hs:dq) (rows:uF) (L:Option Rat) (P:Int):Prop where
  pr:P=xT rows
  pos:0<P
  pb:P≤2^(105*(2^rows.length-1))
  heap:∀h∈hs,∃x,G3 h.1 rows=some x∧h9 P x∧0≤x∧x≤(rows.length:Rat)∧∀l,L=some l→x≤l
  cnt:(i6 c rows).length+rows.length=c.toNat
  mn:∀m∈i6 c rows,bX (dZ hs rows m) L=false
theorem K2(h:k≤5):105*(2^k-1)≤3255:=by
  have:k=0∨k=1∨k=2∨k=3∨k=4∨k=5:=by omega
  rcases this with rfl|rfl|rfl|rfl|rfl|rfl<;>decide
theorem Sq.ok{P:Int}(s:Sq c hs rows L P)(h5:rows.length≤5):sX hs rows P:=by
  refine⟨s.pos,?_,fun h hm=>?_⟩
  · have h1:=s.pb;have h2:(2:Int)^(105*(2^rows.length-1))≤2^3255:=eS (K2 h5);have h3:(2:Int)^3255<2^3300:=by decide +kernel
    exact wa (Int.le_trans h1 h2) h3
  · obtain⟨x,e,w,x0,x1,_⟩:=s.heap h hm;refine⟨x,e,w,x0,?_⟩;have:(rows.length:Rat)≤6:=by
      have:=Ho.mpr (show((rows.length:Nat):Int)≤6 by omega);rw[Rat.intCast_natCast] at this;exact this
    grind
theorem Qs{rows:uF}{K:Rat}:∀{l:dq},(∀h∈l,1≤h.2∧xh rows h≤K)→∀t:Rat,qN rows l t≤t+K*(ak l:Rat)
  |[],_,t=>by have e:ak []=0:=rfl;rw[e];show t≤t+K*((0:Int):Rat);have:((0:Int):Rat)=0:=rfl;grind
  |h::l,hl,t=>by
   obtain⟨h1,h2⟩:=hl h de;have ih:=Qs (rows:=rows) (K:=K) (l:=l) (fun y hy=>hl y (lJ _ hy)) (t+(h.2:Rat)*xh rows h);have T1:(0:Rat)≤(h.2:Rat):=by have:=Ho.mpr (show(0:Int)≤h.2 by omega);simpa using this
   have p2:(h.2:Rat)*xh rows h≤(h.2:Rat)*K:=Rat.mul_le_mul_of_nonneg_left h2 T1;have e:qN rows (h::l) t=qN rows l (t+(h.2:Rat)*xh rows h):=rfl;rw[e,dG,Rat.intCast_add];grind
theorem G6{rows rows':uF}:∀{l:dq},(∀h∈l,1≤h.2∧xh rows h≤xh rows' h)→∀{t t':Rat},t≤t'→qN rows l t≤qN rows' l t'
  |[],_,t,t',h=>h
  |h::l,hl,t,t',ht=>by
   obtain⟨h1,h2⟩:=hl h de;have T1:(0:Rat)≤(h.2:Rat):=by have:=Ho.mpr (show(0:Int)≤h.2 by omega);simpa using this
   have p2:(h.2:Rat)*xh rows h≤(h.2:Rat)*xh rows' h:=Rat.mul_le_mul_of_nonneg_left h2 T1;have ih:=G6 (rows:=rows) (rows':=rows') (l:=l) (fun y hy=>hl y (lJ _ hy)) (t:=t+(h.2:Rat)*xh rows h) (t':=t'+(h.2:Rat)*xh rows' h) (by grind);exact ih
theorem G7{a b n:Rat}(hn:0<n)(h:a≤b):a / n≤b / n:=by rw[Rat.div_def,Rat.div_def];exact Rat.mul_le_mul_of_nonneg_right h (Rat.le_of_lt (Rat.inv_pos.mpr hn))
theorem Qt(hh:∀h∈hs,1≤h.2){rows':uF}(h:∀h∈hs,xh rows h≤xh rows' h)(n:Int):bX (dZ hs rows' n) (dZ hs rows n)=false:=by
  unfold dZ;by_cases h0:ak (aY hs n)=0
  ·rw[az h0];rfl
  · rw[bh h0,bh h0];have nn0:=qm (l:=aY hs n) fun x hx=>hh x (jw.mp hx).1;have hn:(0:Rat)<(ak (aY hs n):Rat):=by
      have:=Rat.intCast_lt_intCast.mpr (show(0:Int)<ak (aY hs n) by omega);simpa using this
    have:=G7 hn (G6 (rows:=rows) (rows':=rows') (l:=aY hs n) (fun x hx=>⟨hh x (jw.mp hx).1,h x (jw.mp hx).1⟩) (t:=1) (t':=1) Rat.le_refl);unfold bX;exact lL (Rat.not_lt.mpr this)
theorem Xm{P T:Int}{t:Rat}(hP:0<P)(Wq:P<2^3400)(hT:0≤T)(hT2:T<2^200)(h:h9 P t)(h0:0≤t)(h1:t≤(T:Rat)):Bd t:=by have hd:=h.den hP;have dp:=den_pos t;have hn:=Jh h1;refine⟨Qo h0,?_,wa hd (qF Wq (eS (by decide)))⟩;have h2:T*(t.den:Int)<2^(200+3400):=jJ hT (ou dp) hT2 (wa hd Wq);exact wa hn (qF h2 (eS (by decide)))
theorem Qu(hh:∀h∈hs,1≤h.2)(hN:ak hs≤2^105){P:Int}(s:Sq c hs rows L P)(h5:rows.length≤5)(n:Int){y:Rat}(e:dZ hs rows n=some y):0≤y∧y≤((rows.length+1:Nat):Rat)∧Bd y∧(y.den:Int)≤P*2^105:=by
  have ok:=s.ok h5;have nle:=CG hh n;have nn0:=qm (l:=aY hs n) fun x hx=>hh x (jw.mp hx).1;unfold dZ at e;by_cases h0:ak (aY hs n)=0
  ·rw[az h0] at e;cases e
  rw[bh h0] at e;have hn:(0:Rat)<(ak (aY hs n):Rat):=by have:=Rat.intCast_lt_intCast.mpr (show(0:Int)<ak (aY hs n) by omega);simpa using this
  have hn1:(1:Rat)≤(ak (aY hs n):Rat):=by have:=Ho.mpr (show(1:Int)≤ak (aY hs n) by omega);simpa using this
  obtain⟨w,t0,_⟩:=EH ok (l:=aY hs n) (fun h hm=>⟨(jw.mp hm).1,hh h (jw.mp hm).1⟩) (t:=1) (T:=1) (h9.one P) (by decide) (by decide);have tl:=Qs (rows:=rows) (K:=(rows.length:Rat)) (l:=aY hs n) (fun h hm=>⟨hh h (jw.mp hm).1,by
    obtain⟨x,e,_,_,x1,_⟩:=s.heap h (jw.mp hm).1;unfold xh;rw[e];exact x1⟩) 1
  generalize qN rows (aY hs n) 1=t at e w t0 tl;have ey:y=t / (ak (aY hs n):Rat):=(oq e).symm;have eN:y*(ak (aY hs n):Rat)=t:=by rw[ey];grind
  have y0:0≤y:=by rw[ey,Rat.div_def];exact Rat.mul_nonneg t0 (Rat.le_of_lt (Rat.inv_pos.mpr hn))
  have e1:((rows.length+1:Nat):Rat)=(rows.length:Rat)+1:=by simp
  have y1:y≤((rows.length+1:Nat):Rat):=by
    have h1:t≤((rows.length:Rat)+1)*(ak (aY hs n):Rat):=by grind
    have h2:=G7 hn h1;rw[←ey] at h2;have h3:((rows.length:Rat)+1)*(ak (aY hs n):Rat) / (ak (aY hs n):Rat)=(rows.length:Rat)+1:=by grind
    rw[h3] at h2;rw[e1];exact h2
  have wy:h9 (P*ak (aY hs n)) y:=by obtain⟨z,hz⟩:=w;refine⟨z,?_⟩;rw[Dm,←hz,←eN];grind
  have pN:0<P*ak (aY hs n):=Int.mul_pos ok.pos (by omega);have pN2:P*ak (aY hs n)≤P*2^105:=Int.mul_le_mul_of_nonneg_left (by omega) (ou ok.pos);have hP5:P≤2^3255:=Int.le_trans s.pb (eS (K2 h5));have pN3:P*2^105≤2^3360:=by have h1:P*2^105≤2^3255*2^105:=Int.mul_le_mul_of_nonneg_right hP5 (by decide +kernel);rw[←Int.pow_add] at h1;exact h1
  have h36:(2:Int)^3360<2^3400:=by decide +kernel
  refine⟨y0,y1,Xm (T:=6) pN (by omega) (by decide) (qF (show(6:Int)<2^3 by decide) (eS (by decide))) wy y0 ?_,Int.le_trans (wy.den pN) pN2⟩;have h6:((rows.length+1:Nat):Rat)≤6:=by have:=Ho.mpr (show(((rows.length+1:Nat)):Int)≤6 by omega);rw[Rat.intCast_natCast] at this;exact this
  have e6:((6:Int):Rat)=6:=rfl;grind
theorem T5(h0:0≤c)(h6:c≤6)(hh:∀h∈hs,1≤h.2)(hN:ak hs≤2^105){P:Int}(s:Sq c hs rows L P)(hl:(rows.length:Int)<c):∃n y,K0 (dZ hs rows) (i6 c rows)=some (n,y)∧y=dZ hs rows n∧n∈i6 c rows∧(∀m∈i6 c rows,bX (dZ hs rows m) y=false)∧(∀m∈i6 c rows,dZ hs rows m=y→n≤m)∧bX y L=false∧∃P',Sq c hs (rows++[(n,y)]) y P':=by
  have h5:rows.length≤5:=by omega
  have iJ:i6 c rows≠[]:=fun e=>by have:=s.cnt;rw[e] at this;simp at this;omega
  obtain⟨⟨n,y⟩,e⟩:=M5 (dZ hs rows) iJ;obtain⟨e1,e2⟩:=G4 (dZ hs rows) (i6 c rows) none (fun _ z=>nomatch z) e;have hn:n∈i6 c rows:=e2.resolve_left fun z=>nomatch z;have e1:y=dZ hs rows n:=e1;obtain⟨m1,_⟩:=Av (dZ hs rows) (i6 c rows) none e;obtain⟨f1,_⟩:=Aw (dZ hs rows) (i6 c rows) none (Qr c rows) (fun _ z=>nomatch z) e;have hL:bX y L=false:=by rw[e1];exact s.mn n hn
  refine⟨n,y,e,e1,hn,m1,f1,hL,?_⟩
  -- the new state
  have hx:∀h∈hs,xh rows h≤xh (rows++[(n,y)]) h:=fun h hm=>by
    obtain⟨x,ex,_,_,_,xl⟩:=s.heap h hm;unfold xh;rw[vR,ex];by_cases hc:h.1.contains n=true
    · rw[az hc];cases y with
      |none =>
       exfalso;have hz:ak (aY hs n)=0:=by
         unfold dZ at e1;split at e1
         ·assumption
         ·cases e1
       have hp:1≤ak (aY hs n):=by
         have X7:h∈aY hs n:=jw.mpr ⟨hm,hc⟩;have key:∀{l:dq},(∀x∈l,1≤x.2)→h∈l→1≤ak l:=by
           intro l;induction l with
           |nil=>intro _ z;nomatch z
           |cons z l ih=>intro hy hz;have a0:=qm (l:=l) fun x hx=>hy x (lJ _ hx);have a1:=hy z de;rw[dG];omega
         exact key (fun x hx=>hh x (jw.mp hx).1) X7
       omega
      |some y' =>
       show x≤y';cases L with
       |none=>exfalso;simp[bX] at hL
       |some l =>
        have:=xl l rfl;have h2:¬ y'<l:=by simpa[bX] using hL
        have:=Rat.not_lt.mp h2;grind
    ·rw[bh hc];exact Rat.le_refl
  have aao:(i6 c (rows++[(n,y)])).length+(rows++[(n,y)]).length=c.toNat:=by rw[G5,List.length_erase_of_mem hn,kI];have:=s.cnt;have:1≤(i6 c rows).length:=List.length_pos_of_mem hn;simp;omega
  have hmn:∀m∈i6 c (rows++[(n,y)]),bX (dZ hs (rows++[(n,y)]) m) y=false:=fun m hm=>by rw[G5] at hm;exact Au (m1 m (List.mem_of_mem_erase hm)) (Qt hh hx m)
  have T6:(rows++[(n,y)]).length=rows.length+1:=by simp
  cases y with
  |none =>
   refine⟨P,by rw[uA,s.pr];show xT rows=xT rows*1;omega,s.pos,?_,fun h hm=>?_,aao,hmn⟩
   ·rw[T6];refine Int.le_trans s.pb (eS ?_);have:2^rows.length≤2^(rows.length+1):=Nat.pow_le_pow_right (by decide) (by omega);omega
   · obtain⟨x,ex,w,x0,x1,xl⟩:=s.heap h hm;have hc:¬ h.1.contains n=true:=fun hc=>by
       have:=hx h hm;have hz:ak (aY hs n)=0:=by
         unfold dZ at e1;split at e1
         ·assumption
         ·cases e1
       have hp:1≤ak (aY hs n):=by
         have X7:h∈aY hs n:=jw.mpr ⟨hm,hc⟩;have key:∀{l:dq},(∀x∈l,1≤x.2)→h∈l→1≤ak l:=by
           intro l;induction l with
           |nil=>intro _ z;nomatch z
           |cons z l ih=>intro hy hz;have a0:=qm (l:=l) fun x hx=>hy x (lJ _ hx);have a1:=hy z de;rw[dG];omega
         exact key (fun x hx=>hh x (jw.mp hx).1) X7
       omega
     refine⟨x,by rw[vR,bh hc];exact ex,w,x0,?_,fun l hl=>nomatch hl⟩;rw[T6];have e1:((rows.length+1:Nat):Rat)=(rows.length:Rat)+1:=by simp
     grind
  |some y' =>
   obtain⟨y0,y1,bd,hd⟩:=Qu hh hN s h5 n e1.symm;have dp:=den_pos y';refine⟨P*(y'.den:Int),by rw[uA,s.pr];rfl,Int.mul_pos s.pos dp,?_,fun h hm=>?_,aao,hmn⟩
   · rw[T6];have h1:P*(y'.den:Int)≤P*(P*2^105):=Int.mul_le_mul_of_nonneg_left hd (ou s.pos);have h2:P*(P*2^105)≤2^(105*(2^rows.length-1))*(2^(105*(2^rows.length-1))*2^105):=by
       have aap:(0:Int)≤2^105:=by decide +kernel
       have a1:P*2^105≤2^(105*(2^rows.length-1))*2^105:=Int.mul_le_mul_of_nonneg_right s.pb aap;have a2:0≤P*2^105:=Int.mul_nonneg (ou s.pos) aap;have a3:(0:Int)≤2^(105*(2^rows.length-1)):=Int.le_trans (ou s.pos) s.pb;exact Int.le_trans (Int.mul_le_mul_of_nonneg_right s.pb a2) (Int.mul_le_mul_of_nonneg_left a1 a3)
     rw[←Int.pow_add,←Int.pow_add] at h2;have h3:105*(2^rows.length-1)+(105*(2^rows.length-1)+105)≤105*(2^(rows.length+1)-1):=by have q1:1≤2^rows.length:=Nat.one_le_two_pow;rw[Nat.pow_succ];omega
     exact Int.le_trans h1 (Int.le_trans h2 (eS h3))
   · obtain⟨x,ex,w,x0,x1,xl⟩:=s.heap h hm;have e1':((rows.length+1:Nat):Rat)=(rows.length:Rat)+1:=by simp
     rw[vR,T6];by_cases hc:h.1.contains n=true
     · rw[az hc];refine⟨y',rfl,⟨P*y'.num,?_⟩,y0,y1,fun l hl=>?_⟩
       · rw[Dm,Dm];have e2:((y'.den:Int):Rat)*y'=((y'.num:Int):Rat):=by
           have hd0:((y'.den:Int):Rat)≠0:=fun e=>by have:=Rat.intCast_eq_zero_iff.mp e;omega
           have e3:y'=((y'.num:Int):Rat) / ((y'.den:Int):Rat):=by rw[←Rat.divInt_eq_div,Rat.num_divInt_den]
           conv=>lhs;rhs;rw[e3]
           grind
         rw[Rat.mul_assoc,e2]
       ·cases hl;exact Rat.le_refl
     · rw[bh hc];refine⟨x,ex,?_,x0,by grind,fun l hl=>?_⟩
       ·obtain⟨z,hz⟩:=w;refine⟨z*(y'.den:Int),?_⟩;rw[Dm,Dm,←hz];grind
       · cases hl;have:=hx h hm;unfold xh at this;rw[vR,bh hc,ex] at this;cases L with
         |none=>exfalso;simp[bX] at hL
         |some l' =>
          have q1:=xl l' rfl;have h2:¬ y'<l':=by simpa[bX] using hL
          have:=Rat.not_lt.mp h2;grind
inductive Run (c:Int) (hs:dq):uF→Option Rat→uF→Prop
  |done {rows:uF} {L:Option Rat} (h:(rows.length:Int)=c):Run c hs rows L []
  |step {rows:uF} {L:Option Rat} {P:Int} {n:Int} {y:Option Rat} {rest:uF} (s:Sq c hs rows L P) (hl:(rows.length:Int)<c) (e:K0 (dZ hs rows) (i6 c rows)=some (n,y)) (ey:y=dZ hs rows n) (hn:n∈i6 c rows)
      (m1:∀m∈i6 c rows,bX (dZ hs rows m) y=false) (m2:∀m∈i6 c rows,dZ hs rows m=y→n≤m) (hL:bX y L=false) (t:Run c hs (rows++[(n,y)]) y rest):Run c hs rows L ((n,y)::rest)
theorem Qv{c:Int}(h0:0≤c)(h6:c≤6){hs:dq}(hh:∀h∈hs,1≤h.2)(hN:ak hs≤2^105):∀(k:Nat) {rows:uF} {L:Option Rat} {P:Int},Sq c hs rows L P→(rows.length:Int)+k=c→∃rest,Run c hs rows L rest∧rest.length=k
  |0,rows,L,P,s,h=>⟨[],.done (by omega),rfl⟩
  |k+1,rows,L,P,s,h=>by obtain⟨n,y,e,ey,hn,m1,m2,hL,P',s'⟩:=T5 h0 h6 hh hN s (by omega);obtain⟨rest,t,hl⟩:=Qv h0 h6 hh hN k s' (by simp;omega);exact⟨(n,y)::rest,.step s (by omega) e ey hn m1 m2 hL t,by simp[hl]⟩
theorem T7(hh:∀h∈hs,1≤h.2)(hN:ak hs≤2^105){P:Int}(s:Sq c hs rows L P)(h5:rows.length≤5)(n:Int):BdO (dZ hs rows n):=by
  cases e:dZ hs rows n with
  |none=>trivial
  |some y=>exact(Qu hh hN s h5 n e).2.2.1
theorem adj{x:Int}(h:x≤2^105):x<2^110:=by
  have:(2:Int)^105<2^110:=by decide +kernel
  omega
theorem T8(h0:0≤c)(h6:c≤6)(hh:∀h∈hs,1≤h.2)(hN:ak hs≤2^105)(S:D)(t:Run c hs rows L rest):∀n:Nat,rest.length<n→rows.length≤6→iu dP hZ n [some (.sh S),some (.sh (.int c)),some (.sh (.lst (hs.map ah))),some (.ol (rows.map dR))]=some (.nx [some (.sh S),some (.sh (.int c)),some (.sh (.lst (hs.map ah))),some (.ol ((rows++rest).map dR))]):=by
  induction t with
  |@done rows L h =>
   intro n hn _;obtain⟨m,rfl⟩:∃m,n=m+1:=⟨n-1,by omega⟩
   unfold iu;have ht:dP [some (.sh S),some (.sh (.int c)),some (.sh (.lst (hs.map ah))),some (.ol (rows.map dR))]=some false:=by simp only[dP,bV,ag,jN,ae,ao,aJ,dS,cj,cN,bJ,dN,tV,g9];rw[lL (by omega)]
   rw[ht];simp
  |@step rows L P nm y rest s hl e ey hn m1 m2 hL t ih =>
   intro n hn h6';obtain⟨m,rfl⟩:∃m,n=m+1:=⟨n-1,by omega⟩
   have h5:rows.length≤5:=by omega
   unfold iu;have ht:dP [some (.sh S),some (.sh (.int c)),some (.sh (.lst (hs.map ah))),some (.ol (rows.map dR))]=some true:=by simp only[dP,bV,ag,jN,ae,ao,aJ,dS,cj,cN,bJ,dN,tV,g9];rw[nE (by omega)]
   have rn:=Xk h0 h6 (s.ok h5) hh (adj hN) (T7 hh hN s h5);rw[e] at rn;have hlen:(rows.map dR).length<10000:=by rw[g9];omega
   have hg:hZ [some (.sh S),some (.sh (.int c)),some (.sh (.lst (hs.map ah))),some (.ol (rows.map dR))]=some (.nx [some (.sh S),some (.sh (.int c)),some (.sh (.lst (hs.map ah))),some (.ol ((rows++[(nm,y)]).map dR))]):=by simp only[hZ,dF,ax,ae,ao,eV,aJ,cj,cN,bJ,dN,rn,K1,hlen,gx,ic,ie,wg,bY,ja]
   rw[ht];simp only[bJ,gx,hg];have:=ih m (by simp at hn;omega) (by simp;omega);rw[this];simp
theorem T9(h0:0≤c)(h6:c≤6)(hh:∀h∈hs,1≤h.2)(hN:ak hs≤2^105)(S:D)(t:Run c hs [] L rest)(hl:rest.length≤6):bK [S,.int c,.lst (hs.map ah)]=some (.ol (rest.map dR)):=by
  refine cD ?_;show mM [some (.sh S),some (.sh (.int c)),some (.sh (.lst (hs.map ah))),none]=_;unfold mM;refine(aE (sQ (d:=[]) rfl)).trans ?_;have:=T8 h0 h6 hh hN S t 100 (by omega) (by simp);refine(aE (show rA 100 _ _ _=some (.nx _) from this)).trans ?_;rfl
theorem Qw(h0:0≤c)(hh:∀h∈hs,1≤h.2):Sq c hs [] (some 0) 1:=by
  have hp:∀h∈hs,∃x,G3 h.1 []=some x∧h9 1 x∧0≤x∧x≤6:=fun h _=>⟨0,rfl,⟨0,by rw[Rat.mul_zero];rfl⟩,Rat.le_refl,by decide⟩
  have ok:sX hs [] 1:=⟨by decide,by decide +kernel,hp⟩
  refine⟨rfl,by decide,by decide,fun h _=>⟨0,rfl,⟨0,by rw[Rat.mul_zero];rfl⟩,Rat.le_refl,by decide,fun l hl=>by cases hl;exact Rat.le_refl⟩,?_,fun m _=>?_⟩
  ·unfold i6;have e:(((List.range c.toNat).map fun(i:Nat)=>(0:Int)+(i:Int)).filter fun n=>!(([]:uF).map fun r=>r.1).contains n)=(List.range c.toNat).map fun(i:Nat)=>(0:Int)+(i:Int):=List.filter_eq_self.mpr fun _ _=>rfl;rw[e];simp
  · unfold dZ;by_cases q:ak (aY hs m)=0
    ·rw[az q];rfl
    · rw[bh q];obtain⟨_,t0,_⟩:=EH ok (l:=aY hs m) (fun h hm=>⟨(jw.mp hm).1,hh h (jw.mp hm).1⟩) (t:=1) (T:=1) (h9.one 1) (by decide) (by decide);have nn0:=qm (l:=aY hs m) fun x hx=>hh x (jw.mp hx).1;have hn:(0:Rat)<(ak (aY hs m):Rat):=by
        have:=Rat.intCast_lt_intCast.mpr (show(0:Int)<ak (aY hs m) by omega);simpa using this
      unfold bX;refine lL (Rat.not_lt.mpr ?_);rw[Rat.div_def];exact Rat.mul_nonneg t0 (Rat.le_of_lt (Rat.inv_pos.mpr hn))
theorem adk{S:D}(h:di S=some (ms.map D.int)):cF (aD true 0) (bV (ag (inD false) (aJ 0) (aJ 1))) (eV 0) (ns.map D.int) [none,some (.sh S)]=some ((ns.filter fun n=>ms.contains n).map D.int):=by
  refine dw D.int (fun n=>ms.contains n) D.int fun n _=>⟨[some (.sh (.int n)),some (.sh S)],rfl,?_,fun _=>rfl⟩
  have q:=yD (n:=n) h;simp only[bV,ag,aJ,cj,cN,bJ,q]
theorem Ua{S:D}(h:di S=some (ms.map D.int)):bP [.tup (ns.map D.int),S]=some (.sh (.int (J1 ns ms))):=by have q:=adk (ns:=ns) h;refine cD ?_;show oZ [some (.sh (.tup (ns.map D.int))),some (.sh S)]=_;unfold oZ;refine j8 ?_;simp only[jN,ae,ao,eL,bQ,cJ,eV,cj,cN,bJ,di,jb,bY,ja,tf];have q':cF (aD true 0) (bV (ag (inD false) (aJ 0) (aJ 1))) (eV 0) (ns.map D.int) (List.replicate 1 none++[some (.sh S)])=some ((ns.filter fun n=>ms.contains n).map D.int):=q;rw[q'];simp[dS,J1]
theorem vU{S:D}(h:di S=some (ms.map D.int))(h6:∀x∈hs,x.1.length≤6):gg [.lst (hs.map ah),S]=some (.sh (.int (bH hs ms))):=by
  refine cD ?_;show xc [some (.sh (.lst (hs.map ah))),some (.sh S)]=_;unfold xc;refine j8 ?_;have q:cF (lR 2 (cc (aD true 0) (cc (aD true 1) lQ))) eP (ag uX (aJ 1) (L9 jR (ax bP (ae (eV 0) (ae (eV 2) ao))))) (hs.map ah) [none,none,some (.sh S)]=some (hs.map fun x=>D.int (x.2*Bq.getD (J1 x.1 ms) 0)):=by
    refine eW ah _ fun x hx=>⟨[some (.sh (.tup (x.1.map D.int))),some (.sh (.int x.2)),some (.sh S)],rfl,rfl,?_⟩
    have hle:J1 x.1 ms≤6:=pU (Wr _ _) (h6 x hx);have Rw:qy jR ((J1 x.1 ms:Nat):Int)=some (Bq.getD (J1 x.1 ms) 0):=by refine uI ?_;have:jR=Bq:=rfl;rw[this,nD,mV (by show _<7;omega)];rfl
    obtain⟨l1,l2⟩:=Sr hle;simp only[ag,aJ,L9,ax,ae,ao,eV,cj,cN,bJ,dN,Ua h,Rw,O7 (Ic l1 l2)]
  have q':cF (lR 2 (cc (aD true 0) (cc (aD true 1) lQ))) eP (ag uX (aJ 1) (L9 jR (ax bP (ae (eV 0) (ae (eV 2) ao))))) (hs.map ah) (List.replicate 2 none++[some (.sh S)])=some (hs.map fun x=>D.int (x.2*Bq.getD (J1 x.1 ms) 0)):=q;simp only[jN,ae,ao,eL,bQ,cJ,eV,cj,cN,bJ,di,jb,bY,ja,tf,q',dN,ye];have e:(hs.map fun x=>D.int (x.2*Bq.getD (J1 x.1 ms) 0))=(hs.map fun x=>x.2*Bq.getD (J1 x.1 ms) 0).map D.int:=by rw[e8];rfl
  rw[e,du];rfl
def qE(f:Int→Int→Bool)(b:Int)(l:aO):Int:=l.foldl (fun b x=>if f b x=true then x else b) b
def U9(f:Int→Int→Bool):aO→Int
  |[]=>0
  |n::l=>qE f n l
theorem CH(f:Int→Int→Bool):∀(l:aO) (b:Int),qE f b l∈b::l
  |[],b=>de
  |x::l,b=>by
   show qE f (if f b x=true then x else b) l∈_;have:=CH f l (if f b x=true then x else b);rcases gw.mp this with e|m
   · rw[e];split
     ·simp
     ·simp
   ·simp[m]
theorem M6(f:Int→Int→Bool){l:aO}(h:l≠[]):U9 f l∈l:=by
  cases l with
  |nil=>exact absurd rfl h
  |cons n l=>exact CH f l n
def xC(c:Int)(S:aO):aO:=((List.range c.toNat).map fun(i:Nat)=>(0:Int)+(i:Int)).filter fun n=>!S.contains n
def cX(r:Int×Int):D:=.tup [.int r.1,.int r.2]
theorem Ax(rows:List (Int×Int)):bI [.lst (rows.map cX)]=some (.ol ((rows.map fun r=>r.1).map D.int)):=by
  refine cD ?_;show gI [some (.br (.lst (rows.map cX)))]=_;unfold gI;refine fR ?_;have adl:∀r:Int×Int,iX (cX r) (.int 0)=some (.int r.1):=fun _=>rfl;have key:∀(b:BF) (f:EF) (η:cQ),(∀r∈rows,∃η1,b (cX r) η=some η1∧f η1=some (.int r.1))→cF b eP f (rows.map cX) η=some (rows.map fun r=>D.int r.1):=fun b f η h=>eW cX (fun r=>D.int r.1) fun r hr=>by obtain⟨η1,h1,h2⟩:=h r hr;exact⟨η1,h1,rfl,h2⟩
  have e:((rows.map fun r=>r.1).map D.int)=rows.map fun r=>D.int r.1:=by rw[e8];rfl
  rw[e];simp only[bQ,HX,cj,bJ,jb,ja];refine key _ _ _ fun r _=>⟨_,rfl,?_⟩
  simp only[eI,ag,aJ,eV,eC,cj,bJ,adl];rfl
theorem Xn(h0:0≤c)(h6:c≤6)(rows:List (Int×Int)):fE [.int c,.lst (rows.map cX)]=some (.ol ((xC c (rows.map fun r=>r.1)).map D.int)):=by
  refine cD ?_;show ku [some (.sh (.int c)),some (.br (.lst (rows.map cX)))]=_;unfold ku;refine fR ?_;have hr:(if c≤10000∧-10000≤c then some (dk 0 c.toNat) else none)=some ((((List.range c.toNat).map fun(i:Nat)=>(0:Int)+(i:Int))).map D.int):=by rw[az ⟨by omega,by omega⟩,jA]
  have q:cF (aD true 0) (bV (ag (inD true) (aJ 0) (ax bI (ae (aJ 1) ao)))) (eV 0) ((((List.range c.toNat).map fun(i:Nat)=>(0:Int)+(i:Int))).map D.int) (List.replicate 1 none++[some (.br (.lst (rows.map cX)))])=some ((xC c (rows.map fun r=>r.1)).map D.int):=by
    unfold xC;have key:=dw (b:=aD true 0) (t:=bV (ag (inD true) (aJ 0) (ax bI (ae (aJ 1) ao)))) (f:=eV 0) (η:=List.replicate 1 none++[some (.br (.lst (rows.map cX)))]) (xs:=(List.range c.toNat).map fun(i:Nat)=>(0:Int)+(i:Int)) D.int (fun n=>!(rows.map fun r=>r.1).contains n) D.int;refine key fun n _=>⟨[some (.sh (.int n)),some (.br (.lst (rows.map cX)))],rfl,?_,fun _=>rfl⟩
    have q:=rE (n:=n) (S:=.lst ((rows.map fun r=>r.1).map D.int)) (ms:=rows.map fun r=>r.1) rfl;simp only[bV,ag,aJ,ax,ae,ao,cj,cN,bJ,dN,Ax,q]
  simp only[bQ,eF,aJ,cj,cN,bJ,hr,jb,bY,ja,tf,q]
def sY(hs:dq)(S:aO)(n:Int):Int:=bH hs (S++[n])-bH hs S
theorem G8{rows:List (Int×Int)}(h6:∀x∈hs,x.1.length≤6)(hr:rows.length≤10)(x:Int)(o4:D)(o6:eO):cw 6 (ag HQ (ax gg (ae (eV 1) (ae (eL (yf (ax bI (ae (aJ 2) ao)) (eL (oR (ae (eV 5) ao))))) ao))) (aJ 3)) [some (.sh (.int c)),some (.sh (.lst (hs.map ah))),some (.br (.lst (rows.map cX))),some (.sh (.int (bH hs (rows.map fun r=>r.1)))),some (.sh o4),some (.sh (.int x)),o6]=some (.nx [some (.sh (.int c)),some (.sh (.lst (hs.map ah))),some (.br (.lst (rows.map cX))),some (.sh (.int (bH hs (rows.map fun r=>r.1)))),some (.sh o4),some (.sh (.int x)),some (.sh (.int (sY hs (rows.map fun r=>r.1) x)))]):=by
  have hw:=vU (hs:=hs) (ms:=(rows.map fun r=>r.1)++[x]) (S:=.lst ((rows.map fun r=>r.1).map D.int++[.int x])) (by simp[di]) h6;refine(bG (d:=.int (sY hs (rows.map fun r=>r.1) x)) ?_).trans rfl;have hl:((rows.map fun r=>r.1).map D.int).length+[D.int x].length≤10000:=by simp;omega
  have adn:eL (yf (ax bI (ae (aJ 2) ao)) (eL (oR (ae (eV 5) ao)))) [some (.sh (.int c)),some (.sh (.lst (hs.map ah))),some (.br (.lst (rows.map cX))),some (.sh (.int (bH hs (rows.map fun r=>r.1)))),some (.sh o4),some (.sh (.int x)),o6]=some (.lst ((rows.map fun r=>r.1).map D.int++[.int x])):=by
    have h1k:[D.int x].length≤1000:=by simp
    simp only[eL,yf,oR,ax,ae,ao,eV,aJ,cj,cN,bJ,dN,Ax,h1k,gx,HP,hl]
  have key:∀{f g:EF} {η:cQ} {u v d:D},f η=some u→g η=some v→gg [u,v]=some (.sh d)→ax gg (ae f (ae g ao)) η=some d:=fun k1 k2 k3=>by simp only[ax,ae,ao,k1,k2,bJ,dN,k3]
  have hc:=key (f:=eV 1) rfl adn hw;unfold ag;rw[hc];rfl
theorem Jl{c:Int}{hs:dq}{rows:List (Int×Int)}(h6:∀x∈hs,x.1.length≤6)(hr:rows.length≤10):∀(l:aO) (b:Int) (o5 o6:eO),∃Rz Ji,ig (aD true 5) cq (l.map D.int) [some (.sh (.int c)),some (.sh (.lst (hs.map ah))),some (.br (.lst (rows.map cX))),some (.sh (.int (bH hs (rows.map fun r=>r.1)))),some (.sh (cX (b,sY hs (rows.map fun r=>r.1) b))),o5,o6]=some (.nx [some (.sh (.int c)),some (.sh (.lst (hs.map ah))),some (.br (.lst (rows.map cX))),some (.sh (.int (bH hs (rows.map fun r=>r.1)))),some (.sh (cX (qE (fun b x=>decide (sY hs (rows.map fun r=>r.1) b<sY hs (rows.map fun r=>r.1) x)) b l,sY hs (rows.map fun r=>r.1) (qE (fun b x=>decide (sY hs (rows.map fun r=>r.1) b<sY hs (rows.map fun r=>r.1) x)) b l)))),Rz,Ji])
  |[],b,o5,o6=>⟨o5,o6,rfl⟩
  |x::l,b,o5,o6=>by
   have hg0:=fun(o4:D)=>G8 (c:=c) h6 hr x o4 o6;rw[bY];unfold ig;have nM:aD true 5 (.int x) [some (.sh (.int c)),some (.sh (.lst (hs.map ah))),some (.br (.lst (rows.map cX))),some (.sh (.int (bH hs (rows.map fun r=>r.1)))),some (.sh (cX (b,sY hs (rows.map fun r=>r.1) b))),o5,o6]=some [some (.sh (.int c)),some (.sh (.lst (hs.map ah))),some (.br (.lst (rows.map cX))),some (.sh (.int (bH hs (rows.map fun r=>r.1)))),some (.sh (cX (b,sY hs (rows.map fun r=>r.1) b))),some (.sh (.int x)),o6]:=rfl;rw[nM];generalize hgw:sY hs (rows.map fun r=>r.1)=G at *;have hix:iX (cX (b,G b)) (.int 1)=some (.int (G b)):=rfl;have ht:mj (bV (ag pI (aJ 4) (eC .non))) (bV (ag Nt (aJ 6) (ag iX (aJ 4) (eC (.int 1))))) [some (.sh (.int c)),some (.sh (.lst (hs.map ah))),some (.br (.lst (rows.map cX))),some (.sh (.int (bH hs (rows.map fun r=>r.1)))),some (.sh (cX (b,G b))),some (.sh (.int x)),some (.sh (.int (G x)))]=some (decide (G b<G x)):=by have e1:pI (cX (b,G b)) .non=some (.bl false):=rfl;simp only[mj,bV,ag,aJ,eC,cj,cN,bJ,e1,hix,va];rfl
   by_cases hc:G b<G x
   · obtain⟨p,q,ih⟩:=Jl h6 hr l x (some (.sh (.int x))) (some (.sh (.int (G x))));rw[hgw] at ih;refine⟨p,q,?_⟩;have hg:cq [some (.sh (.int c)),some (.sh (.lst (hs.map ah))),some (.br (.lst (rows.map cX))),some (.sh (.int (bH hs (rows.map fun r=>r.1)))),some (.sh (cX (b,G b))),some (.sh (.int x)),o6]=some (.nx [some (.sh (.int c)),some (.sh (.lst (hs.map ah))),some (.br (.lst (rows.map cX))),some (.sh (.int (bH hs (rows.map fun r=>r.1)))),some (.sh (cX (x,G x))),some (.sh (.int x)),some (.sh (.int (G x)))]):=by
       unfold cq;refine(aE (hg0 _)).trans ?_;refine(rF (by rw[ht,nE hc])).trans ?_;exact(bG (d:=cX (x,G x)) rfl).trans rfl
     simp only[bJ,hg];rw[ih];have e:qE (fun b x=>decide (G b<G x)) b (x::l)=qE (fun b x=>decide (G b<G x)) x l:=by show qE _ (if decide (G b<G x)=true then x else b) l=_;rw[az (nE hc)]
     rw[e]
   · obtain⟨p,q,ih⟩:=Jl h6 hr l b (some (.sh (.int x))) (some (.sh (.int (G x))));rw[hgw] at ih;refine⟨p,q,?_⟩;have hg:cq [some (.sh (.int c)),some (.sh (.lst (hs.map ah))),some (.br (.lst (rows.map cX))),some (.sh (.int (bH hs (rows.map fun r=>r.1)))),some (.sh (cX (b,G b))),some (.sh (.int x)),o6]=some (.nx [some (.sh (.int c)),some (.sh (.lst (hs.map ah))),some (.br (.lst (rows.map cX))),some (.sh (.int (bH hs (rows.map fun r=>r.1)))),some (.sh (cX (b,G b))),some (.sh (.int x)),some (.sh (.int (G x)))]):=by
       unfold cq;refine(aE (hg0 _)).trans ?_;exact(lS (by rw[ht,lL hc])).trans rfl
     simp only[bJ,hg];rw[ih];have e:qE (fun b x=>decide (G b<G x)) b (x::l)=qE (fun b x=>decide (G b<G x)) b l:=by show qE _ (if decide (G b<G x)=true then x else b) l=_;rw[bh (by rw[lL hc];decide)]
     rw[e]
def sq(c:Int)(hs:dq)(S:aO):Int:=U9 (fun b x=>decide (sY hs S b<sY hs S x)) (xC c S)
theorem Jm(h0:0≤c)(h6c:c≤6){rows:List (Int×Int)}(h6:∀x∈hs,x.1.length≤6)(hr:rows.length≤10)(iJ:xC c (rows.map fun r=>r.1)≠[]):lF [.int c,.lst (hs.map ah),.lst (rows.map cX)]=some (.sh (cX (sq c hs (rows.map fun r=>r.1),sY hs (rows.map fun r=>r.1) (sq c hs (rows.map fun r=>r.1))))):=by
  obtain⟨n,l,en⟩:∃n l,xC c (rows.map fun r=>r.1)=n::l:=by
    cases e:xC c (rows.map fun r=>r.1) with
    |nil=>exact absurd e iJ
    |cons n l=>exact⟨n,l,rfl⟩
  have hw0:=vU (hs:=hs) (ms:=rows.map fun r=>r.1) (S:=.lst ((rows.map fun r=>r.1).map D.int)) rfl h6;have hu:=Xn h0 h6c rows;rw[en] at hu;refine cD ?_;show pj [some (.sh (.int c)),some (.sh (.lst (hs.map ah))),some (.br (.lst (rows.map cX))),none,none,none,none]=_;unfold pj;refine(aE (bG (d:=.int (bH hs (rows.map fun r=>r.1))) ?_)).trans ?_
  ·simp only[ax,ae,ao,eV,aJ,cj,cN,bJ,dN,Ax,hw0]
  refine(aE (bG (d:=.non) rfl)).trans ?_;simp only[ic,ie];have hl:cJ (ax fE (ae (eV 0) (ae (aJ 2) ao))) [some (.sh (.int c)),some (.sh (.lst (hs.map ah))),some (.br (.lst (rows.map cX))),some (.sh (.int (bH hs (rows.map fun r=>r.1)))),some (.sh .non),none,none]=some ((n::l).map D.int):=by simp only[cJ,ax,ae,ao,eV,aJ,cj,cN,bJ,dN,hu,di]
  obtain⟨p,q,hw⟩:=Jl (c:=c) h6 hr l n (some (.sh (.int n))) (some (.sh (.int (sY hs (rows.map fun r=>r.1) n))));have ado:ig (aD true 5) cq ((n::l).map D.int) [some (.sh (.int c)),some (.sh (.lst (hs.map ah))),some (.br (.lst (rows.map cX))),some (.sh (.int (bH hs (rows.map fun r=>r.1)))),some (.sh .non),none,none]=ig (aD true 5) cq (l.map D.int) [some (.sh (.int c)),some (.sh (.lst (hs.map ah))),some (.br (.lst (rows.map cX))),some (.sh (.int (bH hs (rows.map fun r=>r.1)))),some (.sh (cX (n,sY hs (rows.map fun r=>r.1) n))),some (.sh (.int n)),some (.sh (.int (sY hs (rows.map fun r=>r.1) n)))]:=by
    rw[bY]
    conv=>lhs;unfold ig
    have nM:aD true 5 (.int n) [some (.sh (.int c)),some (.sh (.lst (hs.map ah))),some (.br (.lst (rows.map cX))),some (.sh (.int (bH hs (rows.map fun r=>r.1)))),some (.sh .non),none,none]=some [some (.sh (.int c)),some (.sh (.lst (hs.map ah))),some (.br (.lst (rows.map cX))),some (.sh (.int (bH hs (rows.map fun r=>r.1)))),some (.sh .non),some (.sh (.int n)),none]:=rfl;rw[nM];have hg:cq [some (.sh (.int c)),some (.sh (.lst (hs.map ah))),some (.br (.lst (rows.map cX))),some (.sh (.int (bH hs (rows.map fun r=>r.1)))),some (.sh .non),some (.sh (.int n)),none]=some (.nx [some (.sh (.int c)),some (.sh (.lst (hs.map ah))),some (.br (.lst (rows.map cX))),some (.sh (.int (bH hs (rows.map fun r=>r.1)))),some (.sh (cX (n,sY hs (rows.map fun r=>r.1) n))),some (.sh (.int n)),some (.sh (.int (sY hs (rows.map fun r=>r.1) n)))]):=by
      unfold cq;refine(aE (G8 (c:=c) h6 hr n .non none)).trans ?_;refine(rF ?_).trans ?_
      ·rfl
      exact(bG (d:=cX (n,sY hs (rows.map fun r=>r.1) n)) rfl).trans rfl
    simp only[bJ,hg]
  refine(aE ((fK hl).trans (ado.trans hw))).trans ?_;refine j8 ?_;have e:qE (fun b x=>decide (sY hs (rows.map fun r=>r.1) b<sY hs (rows.map fun r=>r.1) x)) n l=sq c hs (rows.map fun r=>r.1):=by unfold sq;rw[en];rfl
  rw[e];rfl
def rowsOf{α:Type}(g:aO→Int→α):aO→aO→List (Int×α)
  |_,[]=>[]
  |S,n::l=>(n,g S n)::rowsOf g (S++[n]) l
theorem xU{α:Type}(g:aO→Int→α)(n:Int):∀(l S:aO),rowsOf g S (l++[n])=rowsOf g S l++[(n,g (S++l) n)]
  |[],S=>by rw[uH];rfl
  |x::l,S=>by
   show(x,g S x)::rowsOf g (S++[x]) (l++[n])=(x,g S x)::rowsOf g (S++[x]) l++[(n,g (S++x::l) n)]
   rw[xU g n l (S++[x])];simp
theorem kx{α:Type}(g:aO→Int→α):∀(l S:aO),((rowsOf g S l).map fun r=>r.1)=l
  |[],_=>rfl
  |x::l,S=>by show x::((rowsOf g (S++[x]) l).map fun r=>r.1)=_;rw[kx g l]
theorem n9{α:Type}(g:aO→Int→α)(l S:aO):(rowsOf g S l).length=l.length:=by have:=g6 List.length (kx g l S);rwa[g9] at this
theorem G9{S:aO}{n:Int}:n∈xC c S↔(0≤n∧n<c)∧n∉S:=by
  unfold xC;rw[jw,i9];constructor
  ·rintro⟨⟨i,hi,rfl⟩,h⟩;have:=mY.mp hi;exact⟨by omega,by simpa using h⟩
  ·rintro⟨⟨h1,h2⟩,h3⟩;exact⟨⟨n.toNat,mY.mpr (by omega),by omega⟩,by simpa using h3⟩
structure Jn (c:Int) (S:aO):Prop where
  nd:S.Nodup
  rg:∀n∈S,0≤n∧n<c
theorem Jn.ne{S:aO}(h:Jn c S)(hl:(S.length:Int)<c):xC c S≠[]:=fun e=>by
  have:=List.Nodup.length_le_of_subset (l₁:=(List.range c.toNat).map fun(i:Nat)=>(i:Int)) (l₂:=S) (by
    refine List.Pairwise.map (R:=fun a b:Nat=>a≠b) _ (fun a b uN e=>uN (by omega)) List.nodup_range) fun x hx=>by obtain⟨i,hi,rfl⟩:=i9.mp hx;have:=mY.mp hi;refine Classical.byContradiction fun hn=>?_;have:((i:Nat):Int)∈xC c S:=G9.mpr ⟨by omega,hn⟩;rw[e] at this;nomatch this
  simp at this;omega
theorem Jn.snoc{S:aO}(h:Jn c S){n:Int}(hn:n∈xC c S):Jn c (S++[n]):=by
  obtain⟨a,b⟩:=G9.mp hn;refine⟨List.nodup_append.mpr ⟨h.nd,by simp,fun x hx z hz=>?_⟩,fun x hx=>?_⟩
  ·simp at hz;subst hz;intro e;subst e;exact b hx
  · rcases mX.mp hx with hx|hx
    ·exact h.rg x hx
    ·simp at hx;subst hx;exact a
def M7(c:Int)(hs:dq):Nat→aO→aO
  |0,S=>S
  |k+1,S=>M7 c hs k (S++[sq c hs S])
theorem CJ{S:aO}(h:Jn c S)(hl:(S.length:Int)<c):sq c hs S∈xC c S:=M6 _ (h.ne hl)
theorem Ha{c:Int}(h0:0≤c)(c6:c≤6){hs:dq}(h6:∀x∈hs,x.1.length≤6)(A:D):∀(k:Nat) {S:aO} (n:Nat),Jn c S→(S.length:Int)+k=c→k<n→iu dQ h8 n [some (.sh A),some (.sh (.int c)),some (.sh (.lst (hs.map ah))),some (.ol ((rowsOf (sY hs) [] S).map cX))]=some (.nx [some (.sh A),some (.sh (.int c)),some (.sh (.lst (hs.map ah))),some (.ol ((rowsOf (sY hs) [] (M7 c hs k S)).map cX))])
  |0,S,n,hS,e,hn=>by
   obtain⟨m,rfl⟩:∃m,n=m+1:=⟨n-1,by omega⟩
   unfold iu;have ht:dQ [some (.sh A),some (.sh (.int c)),some (.sh (.lst (hs.map ah))),some (.ol ((rowsOf (sY hs) [] S).map cX))]=some false:=by simp only[dQ,bV,ag,jN,ae,ao,aJ,dS,cj,cN,bJ,dN,tV,g9,n9];rw[lL (by omega)]
   rw[ht];rfl
  |k+1,S,n,hS,e,hn=>by
   obtain⟨m,rfl⟩:∃m,n=m+1:=⟨n-1,by omega⟩
   have adp:=CJ (hs:=hs) hS (by omega);unfold iu;have ht:dQ [some (.sh A),some (.sh (.int c)),some (.sh (.lst (hs.map ah))),some (.ol ((rowsOf (sY hs) [] S).map cX))]=some true:=by simp only[dQ,bV,ag,jN,ae,ao,aJ,dS,cj,cN,bJ,dN,tV,g9,n9];rw[nE (by omega)]
   have rn:=Jm h0 c6 (hs:=hs) (rows:=rowsOf (sY hs) [] S) h6 (by rw[n9];omega) (by rw[kx];exact hS.ne (by omega));rw[kx] at rn;have hlen:((rowsOf (sY hs) [] S).map cX).length<10000:=by rw[g9,n9];omega
   have hsn:rowsOf (sY hs) [] (S++[sq c hs S])=rowsOf (sY hs) [] S++[(sq c hs S,sY hs S (sq c hs S))]:=xU _ _ _ _;have hg:h8 [some (.sh A),some (.sh (.int c)),some (.sh (.lst (hs.map ah))),some (.ol ((rowsOf (sY hs) [] S).map cX))]=some (.nx [some (.sh A),some (.sh (.int c)),some (.sh (.lst (hs.map ah))),some (.ol ((rowsOf (sY hs) [] (S++[sq c hs S])).map cX))]):=by rw[hsn];simp only[h8,dF,ax,ae,ao,eV,aJ,cj,cN,bJ,dN,rn,hlen,gx,ic,ie,wg,bY,ja]
   rw[ht];simp only[bJ,gx,hg];exact Ha h0 c6 h6 A k m (hS.snoc adp) (by simp;omega) (by omega)
theorem Qx(h0:0≤c)(c6:c≤6)(h6:∀x∈hs,x.1.length≤6)(A:D):bL [A,.int c,.lst (hs.map ah)]=some (.ol ((rowsOf (sY hs) [] (M7 c hs c.toNat [])).map cX)):=by refine cD ?_;show mN [some (.sh A),some (.sh (.int c)),some (.sh (.lst (hs.map ah))),none]=_;unfold mN;refine(aE (sQ (d:=[]) rfl)).trans ?_;have hw:=Ha h0 c6 h6 A c.toNat (S:=[]) 100 ⟨by simp,fun _ z=>nomatch z⟩ (by simp;omega) (by omega);refine(aE (show rA 100 _ _ _=some (.nx _) from hw)).trans ?_;rfl
abbrev nB(hs:dq)(n:Int):Int:=ak (aY hs n)
def eM(hs:dq)(n:Int):aO×aO:=([-(nB hs n),n],[n,nB hs n])
def gM:EF:=fX (ae (SM (ag iX (aJ 0) (eC (.int 1)))) (ae (ag iX (eV 0) (eC (.int 0))) ao))
theorem aar(n b:Int):gM [some (.sh (.tup ([n,b].map D.int)))]=some (.tup ([-b,n].map D.int)):=rfl
theorem Va(hs:dq):∀l:aO,CC gM (l.map fun n=>D.tup ((eM hs n).2.map D.int))=some (l.map (eM hs))
  |[]=>rfl
  |n::l=>by
   have ih:=Va hs l;rw[bY,bY];show(kF ([n,nB hs n].map D.int)).bind _=_;rw[du];show(match gM [some (.sh (.tup ([n,nB hs n].map D.int)))] with
     |some (.tup ks)=>(kF ks).bind fun kk=>(CC gM (l.map fun n=>D.tup ((eM hs n).2.map D.int))).map ((kk,[n,nB hs n])::·)
     |_=>none)=_
   rw[aar];show(kF ([-(nB hs n),n].map D.int)).bind _=_;rw[du,ih];rfl
def fN(c:Int):aO:=(List.range c.toNat).map fun(i:Nat)=>(0:Int)+(i:Int)
theorem CK(c:Int):(fN c).Nodup:=List.Pairwise.map (R:=fun a b:Nat=>a≠b) _ (fun a b uN e=>uN (by omega)) List.nodup_range
theorem Jo{n:Int}:n∈fN c↔0≤n∧n<c:=by
  unfold fN;rw[i9];constructor
  ·rintro⟨i,hi,rfl⟩;have:=mY.mp hi;omega
  ·rintro⟨h1,h2⟩;exact⟨n.toNat,mY.mpr (by omega),by omega⟩
def Jp(c:Int)(hs:dq):aO:=(nO ((fN c).map (eM hs))).map fun e=>e.1.getD 1 0
theorem aas(c:Int)(hs:dq):nO ((fN c).map (eM hs))=(Jp c hs).map (eM hs):=by unfold Jp;rw[e8];refine(List.map_id _).symm.trans (t8 fun e he=>?_);have:=(oE _).mem_iff.mp he;obtain⟨n,_,rfl⟩:=i9.mp this;rfl
theorem xD(c:Int)(hs:dq):(Jp c hs).Perm (fN c):=by
  have h1:=(oE ((fN c).map (eM hs))).map fun e=>e.1.getD 1 0;rw[e8] at h1;have e:(fN c).map ((fun e:aO×aO=>e.1.getD 1 0)∘eM hs)=fN c:=by refine(t8 fun n _=>?_).trans (List.map_id _);rfl
  rw[e] at h1;exact h1
theorem Qy(c:Int)(hs:dq):(((fN c).map (eM hs)).map (·.1)).Nodup:=by
  rw[e8];have:=CK c;unfold List.Nodup at this⊢;rw[Dg];exact this.imp fun uN e=>uN (by
    have e':[-(nB hs _),_]=[-(nB hs _),_]:=e;injection e' with _ e2;injection e2)
theorem Xo(h0:0≤c)(c6:c≤6)(hs:dq)(C:PySem.Addr):bS [.obj C,.int c,.lst (hs.map ah)]=some (.ol (((Jp c hs).map fun n=>(n,nB hs n)).map cX)):=by
  refine cD ?_;show nX [some (.sh (.obj C)),some (.sh (.int c)),some (.sh (.lst (hs.map ah))),none]=_;unfold nX;have hr:(if c≤10000∧-10000≤c then some (dk 0 c.toNat) else none)=some ((fN c).map D.int):=by rw[az ⟨by omega,by omega⟩,jA];rfl
  have q:cF (aD true 0) eP (fX (ae (eV 0) (ae (ax cO (ae (eV 1) (ae (eV 0) ao))) ao))) ((fN c).map D.int) (List.replicate 1 none++[some (.sh (.lst (hs.map ah)))])=some ((fN c).map fun n=>D.tup ((eM hs n).2.map D.int)):=by
    refine eW D.int _ fun n _=>⟨[some (.sh (.int n)),some (.sh (.lst (hs.map ah)))],rfl,rfl,?_⟩
    simp only[fX,ax,ae,ao,eV,cj,cN,bJ,dN,aak];rfl
  refine(aE (bG (d:=.lst ((fN c).map fun n=>D.tup ((eM hs n).2.map D.int))) ?_)).trans ?_
  ·simp only[eL,bQ,eF,aJ,cj,cN,bJ,dN,hr,jb,bY,ja,tf,q]
  refine fR ?_;have hl:(((fN c).map (eM hs)).map (·.1)).Nodup∧((fN c).map (eM hs)).length<64∧(((fN c).map (eM hs)).all fun e=>!e.1.isEmpty)=true:=by refine⟨Qy c hs,by rw[g9];unfold fN;rw[g9,List.length_range];omega,?_⟩;rw[List.all_map,iH];intro n _;rfl
  have ZR:z5 0 [some (.sh (.obj C)),some (.sh (.int c)),some (.sh (.lst (hs.map ah))),some (.sh (.lst ((fN c).map fun n=>D.tup ((eM hs n).2.map D.int))))]=true:=rfl;show rO (eV 3) gM [some (.sh (.obj C)),some (.sh (.int c)),some (.sh (.lst (hs.map ah))),some (.sh (.lst ((fN c).map fun n=>D.tup ((eM hs n).2.map D.int))))]=_;unfold rO;rw[az ZR];simp only[eV,cj,cN,bJ,Va];rw[az hl,aas,e8,e8];rfl
theorem Hb(c:Int)(hs:dq):∀(k:Nat) (S:aO),(M7 c hs k S).length=S.length+k
  |0,S=>rfl
  |k+1,S=>by show(M7 c hs k (S++[sq c hs S])).length=_;rw[Hb c hs k];simp;omega
theorem Qz(h0:0≤c)(hs:dq):((Jp c hs).length:Int)=c:=by rw[(xD c hs).length_eq];unfold fN;rw[g9,List.length_range];omega
theorem Hc{x:D}{xs:dm}{t:String}(hx:di x=some xs)(hix:∀i,iX x (.int i)=qy xs i)(hlen:dS [x]=some (.int xs.length))(hty:Ru x=some t)(ht:t="tuple"∨t="list")(hl:xs.length≤1000)(tD:∀y∈xs,gJ n [y,y]=some (.sh (.bl true))):gJ (n+1) [x,x]=some (.sh (.bl true)):=by
  refine cD ?_;show g_same (gJ n) [some (.br x),some (.br x),none]=_;unfold g_same;have e1:∀T o,(wJ T (aJ 1)) [some (Slot.br x),some (Slot.br x),o]=some (.bl (OV T t)):=fun T o=>by simp only[wJ,aJ,cj,cN,bJ,hty,dN]
  have e0:∀T o,(wJ T (aJ 0)) [some (Slot.br x),some (Slot.br x),o]=some (.bl (OV T t)):=fun T o=>by simp only[wJ,aJ,cj,cN,bJ,hty,dN]
  have hor:mj (bV (wJ "tuple" (aJ 1))) (bV (wJ "list" (aJ 1))) [some (Slot.br x),some (Slot.br x),none]=some true:=by simp only[mj,bV,e1,bJ];rcases ht with rfl|rfl<;>rfl
  obtain⟨η',e,o2,rfl⟩:=zF (b:=aD true 2) (g:=Ak (gJ n)) (ds:=dk 0 xs.length) (η:=[some (.br x),some (.br x),none]) (fun _ η=>∃o2,η=[some (.br x),some (.br x),o2]) 0 ⟨none,rfl⟩ (fun i d η hd ⟨o2,e⟩=>by
    subst e;rw[jA,qG,qG] at hd;obtain⟨j,hj,rfl⟩:=gZ.mp hd;obtain⟨j',XZ,rfl⟩:=gZ.mp hj;have hjl:j'<xs.length:=by have h1:=List.mem_of_getElem? XZ;simpa using h1
    refine⟨[some (.br x),some (.br x),some (.sh (.int (0+(j':Int))))],[some (.br x),some (.br x),some (.sh (.int (0+(j':Int))))],rfl,.inl ?_,_,rfl⟩;unfold Ak;have Rw:qy xs (0+(j':Int))=some xs[j']:=by rw[Int.zero_add];exact uI (by simp[hjl])
    have hc:=tD xs[j'] (by simp);refine(lS ?_).trans rfl;simp only[uV,bV,ax,ae,ao,ag,aJ,cj,cN,bJ,dN,hix,Rw,hc,Bool.not_true])
  refine uh ((rF hor).trans ?_);refine(aE (η':=[some (.br x),some (.br x),none]) ((lS ?_).trans rfl)).trans ?_
  ·simp only[mj,bV,ag,e0,e1,bJ,WT];simp
  refine(aE (η':=[some (.br x),some (.br x),none]) ((lS ?_).trans rfl)).trans ?_
  ·simp only[bV,ag,jN,ae,ao,aJ,cj,cN,bJ,dN,hlen,Ee];simp
  refine(aE ((fK (ds:=dk 0 xs.length) ?_).trans e)).trans rfl;simp only[eF,jN,ae,ao,aJ,cj,cN,bJ,dN,hlen];rw[az ⟨by omega,by omega⟩]
  congr 1
theorem same_int(n:Nat)(i:Int):gJ (n+1) [.int i,.int i]=some (.sh (.bl true)):=by refine cD ?_;show g_same (gJ n) [some (.br (.int i)),some (.br (.int i)),none]=_;unfold g_same;refine(aE (η':=[some (.br (.int i)),some (.br (.int i)),none]) ((lS rfl).trans rfl)).trans ?_;refine(aE (η':=[some (.br (.int i)),some (.br (.int i)),none]) ((lS rfl).trans rfl)).trans ?_;refine uh ((rF rfl).trans (j8 ?_));simp[F9,Sw,bV,wJ,aJ,Ru,OV,ag,jj]
theorem Hd{xs:dm}(hl:xs.length≤1000)(tD:∀y∈xs,gJ n [y,y]=some (.sh (.bl true))):gJ (n+1) [.tup xs,.tup xs]=some (.sh (.bl true)):=Hc rfl (fun _=>rfl) rfl rfl (.inl rfl) hl tD
theorem QB{xs:dm}(hl:xs.length≤1000)(tD:∀y∈xs,gJ n [y,y]=some (.sh (.bl true))):gJ (n+1) [.lst xs,.lst xs]=some (.sh (.bl true)):=Hc rfl (fun _=>rfl) rfl rfl (.inr rfl) hl tD
def mU(bench:aO)(o i:Int):aO:=gK (bench.filter (fun n=>!(n==o))++[i])
theorem aat{o:Int}:cF (aD true 0) (bV (ag qJ (aJ 0) (aJ 1))) (eV 0) (bench.map D.int) [none,some (.sh (.int o))]=some ((bench.filter fun n=>!(n==o)).map D.int):=by
  refine dw D.int (fun n=>!(n==o)) D.int fun n _=>⟨[some (.sh (.int n)),some (.sh (.int o))],rfl,?_,fun _=>rfl⟩
  simp only[bV,ag,aJ,cj,cN,bJ,Ee]
theorem xV(hb:bench.length≤6)(o i:Int):gX [.tup (bench.map D.int),.int o,.int i]=some (.sh (.tup ((mU bench o i).map D.int))):=by
  refine cD ?_;show pd [some (.sh (.tup (bench.map D.int))),some (.sh (.int o)),some (.sh (.int i)),none]=_;unfold pd;have q:cF (aD true 0) (bV (ag qJ (aJ 0) (aJ 1))) (eV 0) (bench.map D.int) (List.replicate 1 none++[some (.sh (.int o))])=some ((bench.filter fun n=>!(n==o)).map D.int):=aat;refine(aE (bG (d:=.lst ((bench.filter fun n=>!(n==o)).map D.int)) ?_)).trans ?_
  ·simp only[eL,bQ,cJ,eV,cj,cN,bJ,di,jb,bY,ja,tf,q,dN]
  · refine j8 ?_;have hl:(bench.filter fun n=>!(n==o)).length≤6:=pU (List.length_filter_le _ _) hb;have e:(bench.filter fun n=>!(n==o)).map D.int++[D.int i]=((bench.filter fun n=>!(n==o))++[i]).map D.int:=by simp
    simp only[ml,eL,rC,yf,oR,ae,ao,eV,ic,ie,cj,cN,bJ,dN,mW,List.length_nil,HP,rC.HZ];rw[az (by decide)];simp only[bJ,dN];rw[az (by simp;omega),e];simp only[bJ,dN,du];rw[az (by simp;omega)];rfl
def lI(c:Int)(bench:aO):aO:=((List.range c.toNat).map fun(i:Nat)=>(0:Int)+(i:Int)).filter fun i=>!bench.contains i
def K3(hs:dq)(bench:aO)(o i:Int):Int:=bH hs (mU bench o i)-bH hs bench
def Ay(hs:dq)(bench:aO)(o i:Int):Int×Int×Int:=(o,i,K3 hs bench o i)
def CL(c:Int)(hs:dq)(bench:aO):List (Int×Int×Int):=bench.flatMap fun o=>(lI c bench).map fun i=>Ay hs bench o i
def qo(x:Int×Int×Int):D:=.tup [.int x.1,.int x.2.1,.int x.2.2]
theorem oK{α β:Type}(p:α→Bool)(f:α→β):∀(l:List α) (acc:List β),l.foldl (fun s x=>if p x=true then s++[f x] else s) acc=acc++(l.filter p).map f
  |[],acc=>by simp
  |x::l,acc=>by
   rw[x4,oK p f l];by_cases h:p x=true
   ·rw[az h,Dk,az h,bY,Dh];rfl
   ·rw[bh h,Dk,bh h]
theorem foldl_append{α β:Type}(f:α→List β):∀(l:List α) (acc:List β),l.foldl (fun s x=>s++f x) acc=acc++l.flatMap f
  |[],acc=>by simp
  |x::l,acc=>by rw[x4,foldl_append f l,List.flatMap_cons,Dh]
theorem QC{c:Int}{hs:dq}(h6:c≤6){bench:aO}:∀(l:aO),(l.flatMap fun o=>(lI c bench).map fun i=>Ay hs bench o i).length≤6*l.length
  |[]=>by simp
  |o::l=>by
   rw[List.flatMap_cons,kI,g9,mW];have:=QC (hs:=hs) h6 (bench:=bench) l;have h2:(lI c bench).length≤6:=by unfold lI;exact pU (List.length_filter_le _ _) (by simp;omega)
   omega
theorem K4:oR ao η=some []:=rfl
theorem Xp{f:EF}(h:f η=some (.int c))(h0:0≤c)(h6:c≤6):eF f η=some ((((List.range c.toNat).map fun(i:Nat)=>(0:Int)+(i:Int))).map D.int):=by unfold eF;rw[h];show(if c≤10000∧-10000≤c then some (dk 0 c.toNat) else none)=_;rw[az ⟨by omega,by omega⟩,jA]
theorem QD(h0:0≤c)(h6:c≤6)(hh:∀x∈hs,x.1.length≤6)(hb:bench.length≤6)(o:Int)(acc:List (Int×Int×Int))(vd:acc.length≤1000)(o6 o7:eO):∃Ji Qq,ju [some (.sh (.int c)),some (.sh (.lst (hs.map ah))),some (.sh (.tup (bench.map D.int))),some (.sh (.int (bH hs bench))),some (.ol (acc.map qo)),some (.sh (.int o)),o6,o7]=some (.nx [some (.sh (.int c)),some (.sh (.lst (hs.map ah))),some (.sh (.tup (bench.map D.int))),some (.sh (.int (bH hs bench))),some (.ol ((acc++(lI c bench).map fun i=>Ay hs bench o i).map qo)),some (.sh (.int o)),Ji,Qq]):=by
  obtain⟨η',e,Ji,Qq,_,rfl⟩:=kR (b:=aD true 6) (g:=jr) D.int (fun n (s:List (Int×Int×Int)) η=>∃o6 o7,s.length≤1000+n∧η=[some (.sh (.int c)),some (.sh (.lst (hs.map ah))),some (.sh (.tup (bench.map D.int))),some (.sh (.int (bH hs bench))),some (.ol (s.map qo)),some (.sh (.int o)),o6,o7])
    (fun s i=>if (!bench.contains i)=true then s++[Ay hs bench o i] else s) (xs:=(List.range c.toNat).map fun(i:Nat)=>(0:Int)+(i:Int))
    (η:=[some (.sh (.int c)),some (.sh (.lst (hs.map ah))),some (.sh (.tup (bench.map D.int))),some (.sh (.int (bH hs bench))),some (.ol (acc.map qo)),some (.sh (.int o)),o6,o7]) 0 acc ⟨o6,o7,by omega,rfl⟩ (fun n i s η hi ⟨o6,o7,hs1,e⟩=>by
      subst e;have hn:n<6:=by have:=(v9.mp hi).1;simp at this;omega
      have X7:inD true (.int i) (.tup (bench.map D.int))=some (.bl (!bench.contains i)):=rE rfl;have hw:=vU (hs:=hs) (S:=.tup ((mU bench o i).map D.int)) (ms:=mU bench o i) rfl hh;by_cases q:(!bench.contains i)=true
      · refine⟨[some (.sh (.int c)),some (.sh (.lst (hs.map ah))),some (.sh (.tup (bench.map D.int))),some (.sh (.int (bH hs bench))),some (.ol (s.map qo)),some (.sh (.int o)),some (.sh (.int i)),o7],
          [some (.sh (.int c)),some (.sh (.lst (hs.map ah))),some (.sh (.tup (bench.map D.int))),some (.sh (.int (bH hs bench))),some (.ol ((s++[Ay hs bench o i]).map qo)),some (.sh (.int o)),some (.sh (.int i)),some (.sh (.int (bH hs (mU bench o i))))],rfl,?_,some (.sh (.int i)),some (.sh (.int (bH hs (mU bench o i)))),?_,?_⟩
        · unfold jr;refine(rF ?_).trans ?_
          ·simp only[bV,ag,aJ,cj,cN,bJ,X7,q]
          · refine(aE (bG (d:=.int (bH hs (mU bench o i))) ?_)).trans ?_
            ·simp only[ax,ae,ao,eV,cj,cN,bJ,dN,xV hb,hw]
            · have hl:(s.map qo).length<10000:=by rw[g9];omega
              simp only[dF,fX,ae,ao,eV,ag,aJ,ic,ie,cj,cN,bJ,dN,Ia,mW,List.length_nil];rw[az (by decide)];simp only[bJ];rw[az hl];simp[qo,Ay,K3]
        ·rw[az q,kI];simp;omega
        ·rw[az q]
      · refine⟨[some (.sh (.int c)),some (.sh (.lst (hs.map ah))),some (.sh (.tup (bench.map D.int))),some (.sh (.int (bH hs bench))),some (.ol (s.map qo)),some (.sh (.int o)),some (.sh (.int i)),o7],_,rfl,?_,some (.sh (.int i)),o7,?_,rfl⟩
        ·unfold jr;rw[bh q];refine(lS ?_).trans rfl;simp only[bV,ag,aJ,cj,cN,bJ,X7,Bool.eq_false_iff.mpr q]
        ·rw[bh q];omega)
  refine⟨Ji,Qq,?_⟩;unfold ju;refine(fK (Xp rfl h0 h6)).trans ?_;refine e.trans ?_;rw[oK];rfl
theorem aau(h0:0≤c)(h6:c≤6)(hh:∀x∈hs,x.1.length≤6)(hb:bench.length≤6):lE [.int c,.lst (hs.map ah),.tup (bench.map D.int)]=some (.ol ((CL c hs bench).map qo)):=by
  refine cD ?_;show pe [some (.sh (.int c)),some (.sh (.lst (hs.map ah))),some (.sh (.tup (bench.map D.int))),none,none,none,none,none]=_;unfold pe;have hw:=vU (hs:=hs) (S:=.tup (bench.map D.int)) (ms:=bench) rfl hh;refine(aE (bG (d:=.int (bH hs bench)) ?_)).trans ?_
  ·simp only[ax,ae,ao,eV,cj,cN,bJ,dN,hw]
  refine(aE (sQ K4)).trans ?_;obtain⟨η',e,o5,o6,o7,_,rfl⟩:=kR (b:=aD true 5) (g:=ju) D.int (fun n (s:List (Int×Int×Int)) η=>∃o5 o6 o7,s.length≤6*n∧η=[some (.sh (.int c)),some (.sh (.lst (hs.map ah))),some (.sh (.tup (bench.map D.int))),some (.sh (.int (bH hs bench))),some (.ol (s.map qo)),o5,o6,o7])
    (fun s o=>s++(lI c bench).map fun i=>Ay hs bench o i) (xs:=bench)
    (η:=[some (.sh (.int c)),some (.sh (.lst (hs.map ah))),some (.sh (.tup (bench.map D.int))),some (.sh (.int (bH hs bench))),some (.ol []),none,none,none]) 0 [] ⟨none,none,none,by simp,rfl⟩ (fun n o s η ho ⟨o5,o6,o7,hl,e⟩=>by
      subst e;have hn:n<6:=by have:=(v9.mp ho).1;omega
      obtain⟨Ji,Qq,e2⟩:=QD h0 h6 hh hb o s (by omega) o6 o7;refine⟨_,_,rfl,e2,some (.sh (.int o)),Ji,Qq,?_,rfl⟩;have h2:=QC (c:=c) (hs:=hs) h6 (bench:=bench) [o];simp only[List.flatMap_cons,List.flatMap_nil,uH,mW,List.length_nil] at h2;rw[kI];omega)
  refine(aE ((fK (ds:=bench.map D.int) rfl).trans e)).trans ?_;rw[foldl_append];rfl
def CM:Option (Int×Int×Int)→Int
  |none=>0
  |some x=>x.2.2
def gQ(s:Option (Int×Int×Int))(x:Int×Int×Int):Option (Int×Int×Int):=if CM s<x.2.2 then some x else s
def pS(l:List (Int×Int×Int)):Option (Int×Int×Int):=l.foldl gQ none
theorem He:∀(l:List (Int×Int×Int)) (s:Option (Int×Int×Int)) {x:Int×Int×Int},l.foldl gQ s=some x→s=some x∨x∈l
  |[],s,x,h=>.inl h
  |y::l,s,x,h=>by
   rcases He l (gQ s y) h with q|q
   · unfold gQ at q;split at q
     ·cases q;exact .inr de
     ·exact .inl q
   ·exact .inr (lJ _ q)
theorem Hf:∀(l:List (Int×Int×Int)) (s:Option (Int×Int×Int)),(∀y,s=some y→0<y.2.2)→∀x,l.foldl gQ s=some x→0<x.2.2
  |[],s,hs,x,h=>hs x h
  |y::l,s,hs,x,h=>by
   refine Hf l (gQ s y) (fun z hz=>?_) x h;unfold gQ at hz;split at hz
   · rename_i jL;cases hz;cases s with
     |none=>exact jL
     |some w=>have h1:=hs w rfl;simp only[CM] at jL;omega
   ·exact hs z hz
def uB:Option (Int×Int×Int)→D
  |none=>.non
  |some x=>qo x
theorem Xq{x:Int×Int×Int}(h:x∈CL c hs bench):x.1∈bench∧x.2.1∈lI c bench∧x.2.2=K3 hs bench x.1 x.2.1:=by unfold CL at h;obtain⟨o,ho,h⟩:=List.mem_flatMap.mp h;obtain⟨i,hi,rfl⟩:=i9.mp h;exact⟨ho,hi,rfl⟩
theorem Jq{i:Int}(h:i∈lI c bench):0≤i∧i<c∧i∉bench:=by unfold lI at h;obtain⟨h1,h2⟩:=jw.mp h;obtain⟨k,hk,rfl⟩:=i9.mp h1;have:=mY.mp hk;refine⟨by omega,by omega,fun hm=>?_⟩;have h3:bench.contains (0+(k:Int))=true:=yJ.mpr hm;rw[h3] at h2;cases h2
theorem Ub(h:cP c bench){o i:Int}(hi:i∈lI c bench):cP c (mU bench o i):=by
  obtain⟨h0,h1,hn⟩:=Jq hi;have hp:(mU bench o i).Perm (bench.filter (fun n=>!(n==o))++[i]):=gA _;refine⟨?_,fun n hm=>?_⟩
  · have A5:(bench.filter (fun n=>!(n==o))++[i]).Nodup:=by
      refine Dz ?_ fun hm=>hn (jw.mp hm).1;have:bench.Nodup:=h.1.imp fun uN=>by omega
      exact this.filter _
    have adq:=hp.nodup_iff.mpr A5;exact List.Pairwise.imp₂ (fun a b h1 h2=>by omega) (zt _) adq
  · rcases mX.mp (hp.mem_iff.mp hm) with q|q
    ·exact h.2 n (jw.mp q).1
    · have:n=i:=by simpa using q
      omega
def subs:Nat→List aO
  |0=>[[]]
  |n+1=>subs n++(subs n).map (·++[(n:Int)])
theorem Hg:∀n,(subs n).length=2^n
  |0=>rfl
  |n+1=>by rw[subs,kI,g9,Hg n,Nat.pow_succ];omega
theorem Az:∀(n:Nat) {b:aO},cP (n:Int) b→b∈subs n
  |0,b,h=>by
   cases b with
   |nil=>simp[subs]
   |cons x r=>have:=h.2 x de;omega
  |n+1,b,h=>by
   rw[subs];by_cases hl:(n:Int)∈b
   · have iJ:b≠[]:=fun e=>by rw[e] at hl;simp at hl
     obtain⟨l,x,rfl⟩:∃l x,b=l++[x]:=⟨b.dropLast,b.getLast iJ,(List.dropLast_concat_getLast iJ).symm⟩
     have hpw:=List.pairwise_append.mp h.1;have hx:x=(n:Int):=by
       rcases mX.mp hl with q|q
       ·have h1:=hpw.2.2 _ q x (by simp);have h2:=h.2 x (by simp);omega
       · have:(n:Int)=x:=by simpa using q
         omega
     subst hx;refine jV _ (i9.mpr ⟨l,Az n ⟨hpw.1,fun y hy=>?_⟩,rfl⟩);have h1:=hpw.2.2 y hy (n:Int) (by simp);have h2:=h.2 y (by simp[hy]);omega
   ·refine A9 _ (Az n ⟨h.1,fun y hy=>?_⟩);have h2:=h.2 y hy;have:y≠(n:Int):=fun e=>hl (e▸hy);omega
theorem filter_lt{α:Type}{p q:α→Bool}{x:α}:∀{l:List α},(∀y,p y=true→q y=true)→x∈l→q x=true→p x=false→(l.filter p).length<(l.filter q).length
  |y::l,hpq,hx,hq,hp=>by
   have mono:∀l:List α,(l.filter p).length≤(l.filter q).length:=by
     intro l;induction l with
     |nil=>simp
     |cons z l ih =>
      rw[Dk,Dk];by_cases h1:p z=true
      ·rw[az h1,az (hpq z h1)];simp;exact ih
      · rw[bh h1];split
        ·simp;omega
        ·exact ih
   rw[Dk,Dk];rcases gw.mp hx with e|e
   ·subst e;rw[bh (by rw[hp];simp),az hq];have:=mono l;simp;omega
   · have ih:=filter_lt hpq e hq hp;by_cases h1:p y=true
     ·rw[az h1,az (hpq y h1)];simp;exact ih
     · rw[bh h1];split
       ·simp;omega
       ·exact ih
def K5(hs:dq)(b:aO):Nat:=((subs 6).filter fun s=>decide (bH hs b<bH hs s)).length
theorem QF(hs:dq)(b:aO):K5 hs b≤64:=by have:=List.length_filter_le (fun s=>decide (bH hs b<bH hs s)) (subs 6);rw[Hg] at this;exact this
theorem QG{b':aO}(hc:c≤6)(hb:cP c b')(h:bH hs b<bH hs b'):K5 hs b'<K5 hs b:=by refine filter_lt (x:=b') (fun y hy=>?_) (Az 6 ⟨hb.1,fun n hn=>by have:=hb.2 n hn;omega⟩) (nE h) (lL (Int.lt_irrefl _));have h3:bH hs b'<bH hs y:=xY hy;exact nE (Int.lt_trans h h3)
inductive Trace (c:Int) (hs:dq):aO→List (Int×Int×Int)→aO→Prop
  |done (b:aO):Trace c hs b [] b
  |step {b:aO} {x:Int×Int×Int} {rows:List (Int×Int×Int)} {left:aO} (h:pS (CL c hs b)=some x) (t:Trace c hs (mU b x.1 x.2.1) rows left):Trace c hs b (x::rows) left
theorem CN(hb:cP c b){x:Int×Int×Int}(h:pS (CL c hs b)=some x):cP c (mU b x.1 x.2.1)∧bH hs b<bH hs (mU b x.1 x.2.1)∧x∈CL c hs b:=by
  have hm:x∈CL c hs b:=by
    rcases He _ _ h with q|q
    ·cases q
    ·exact q
  obtain⟨_,hi,hg⟩:=Xq hm;have hp:=Hf _ none (fun y hy=>by cases hy) x h;refine⟨Ub hb hi,?_,hm⟩;rw[hg] at hp;unfold K3 at hp;omega
theorem CP{c:Int}(hc:c≤6){hs:dq}:∀(n:Nat) {b:aO},cP c b→K5 hs b<n→∃rows left,Trace c hs b rows left∧pS (CL c hs left)=none∧cP c left∧rows.length<n
  |0,b,_,h=>by omega
  |n+1,b,hb,h=>by
   cases e:pS (CL c hs b) with
   |none=>exact⟨[],b,.done b,e,hb,by simp⟩
   |some x=>obtain⟨h1,h2,_⟩:=CN hb e;have h3:=QG hc h1 h2;obtain⟨rows,left,t,e2,ok,hl⟩:=CP hc (hs:=hs) n h1 (by omega);exact⟨x::rows,left,.step e t,e2,ok,by simp;omega⟩
theorem QH(x:Int×Int×Int):qy [D.int x.1,.int x.2.1,.int x.2.2] 2=some (.int x.2.2):=rfl
theorem Xr(x:Int×Int×Int):qy [D.int x.1,.int x.2.1,.int x.2.2] 0=some (.int x.1):=rfl
theorem Xs(x:Int×Int×Int):qy [D.int x.1,.int x.2.1,.int x.2.2] 1=some (.int x.2.1):=rfl
theorem QI(h0:0≤c)(h6:c≤6)(hh:∀x∈hs,x.1.length≤6)(hb:bench.length≤6):fz [.int c,.lst (hs.map ah),.tup (bench.map D.int)]=some (.sh (uB (pS (CL c hs bench)))):=by
  refine cD ?_;show ki [some (.sh (.int c)),some (.sh (.lst (hs.map ah))),some (.sh (.tup (bench.map D.int))),none,none,none]=_;unfold ki;refine(aE (bG (d:=.non) rfl)).trans ?_;refine(aE (bG (d:=.int 0) rfl)).trans ?_;obtain⟨η',e,o5,rfl⟩:=kQ (b:=aD true 5) (g:=i5) qo (fun(s:Option (Int×Int×Int)) η=>∃o5,η=[some (.sh (.int c)),some (.sh (.lst (hs.map ah))),some (.sh (.tup (bench.map D.int))),some (.sh (uB s)),some (.sh (.int (CM s))),o5])
    gQ (xs:=CL c hs bench) (η:=[some (.sh (.int c)),some (.sh (.lst (hs.map ah))),some (.sh (.tup (bench.map D.int))),some (.sh .non),some (.sh (.int 0)),none]) none ⟨none,rfl⟩ (fun x _ s η ⟨o5,e⟩=>by
      subst e;refine⟨[some (.sh (.int c)),some (.sh (.lst (hs.map ah))),some (.sh (.tup (bench.map D.int))),some (.sh (uB s)),some (.sh (.int (CM s))),some (.sh (qo x))],
        [some (.sh (.int c)),some (.sh (.lst (hs.map ah))),some (.sh (.tup (bench.map D.int))),some (.sh (uB (gQ s x))),some (.sh (.int (CM (gQ s x)))),some (.sh (qo x))],rfl,?_,_,rfl⟩
      unfold i5;by_cases q:CM s<x.2.2
      · have eb:gQ s x=some x:=az q;rw[eb];refine(rF ?_).trans ?_
        ·simp only[bV,ag,aJ,eC,cj,cN,bJ,qo,Ib,QH,va,nE q]
        ·refine(aE (bG (d:=qo x) rfl)).trans ?_;exact bG (d:=.int x.2.2) rfl
      ·have eb:gQ s x=s:=bh q;rw[eb];refine(lS ?_).trans rfl;simp only[bV,ag,aJ,eC,cj,cN,bJ,qo,Ib,QH,va,lL q])
  refine(aE ((fK (ds:=(CL c hs bench).map qo) ?_).trans e)).trans rfl;have ep:=aau (c:=c) (hs:=hs) h0 h6 hh hb;simp only[cJ,ax,ae,ao,eV,ic,ie,cj,cN,bJ,dN,ep,di]
theorem Uc(h0:0≤c)(h6:c≤6)(hh:∀x∈hs,x.1.length≤6)(B:D){left:aO}{rows:List (Int×Int×Int)}(t:Trace c hs b rows left):∀(n:Nat) (made:List (Int×Int×Int)),cP c b→pS (CL c hs left)=none→rows.length<n→made.length+rows.length≤1000→iu kj nc n [some (.sh (.int c)),some (.sh (.lst (hs.map ah))),some (.sh B),some (.ol (made.map qo)),some (.sh (.tup (b.map D.int))),some (.sh (uB (pS (CL c hs b))))]=some (.nx [some (.sh (.int c)),some (.sh (.lst (hs.map ah))),some (.sh B),some (.ol ((made++rows).map qo)),some (.sh (.tup (left.map D.int))),some (.sh .non)]):=by
  induction t with
  |done b =>
   intro n made hb he hn hm;cases n with
   |zero=>omega
   |succ n=>unfold iu;rw[he];simp[kj,bV,ag,aJ,eC,zo,uB]
  |@step b x rows left h t ih =>
   intro n made hb he hn hm;cases n with
   |zero=>omega
   |succ n =>
    obtain⟨Fm,_,_⟩:=CN hb h;have hl6:=hb.Rr h6;have adu:=Fm.Rr h6;unfold iu;have ht:kj [some (.sh (.int c)),some (.sh (.lst (hs.map ah))),some (.sh B),some (.ol (made.map qo)),some (.sh (.tup (b.map D.int))),some (.sh (uB (pS (CL c hs b))))]=some true:=by rw[h];simp[kj,bV,ag,aJ,eC,zo,uB,qo]
    have hg:nc [some (.sh (.int c)),some (.sh (.lst (hs.map ah))),some (.sh B),some (.ol (made.map qo)),some (.sh (.tup (b.map D.int))),some (.sh (uB (pS (CL c hs b))))] =
        some (.nx [some (.sh (.int c)),some (.sh (.lst (hs.map ah))),some (.sh B),some (.ol ((made++[x]).map qo)),some (.sh (.tup ((mU b x.1 x.2.1).map D.int))),some (.sh (uB (pS (CL c hs (mU b x.1 x.2.1)))))]):=by
      rw[h];unfold nc;have hlen:(made.map qo).length<10000:=by rw[g9];omega
      refine(aE (η':=[some (.sh (.int c)),some (.sh (.lst (hs.map ah))),some (.sh B),some (.ol ((made++[x]).map qo)),some (.sh (.tup (b.map D.int))),some (.sh (uB (some x)))]) ?_).trans ?_
      ·simp only[dF,eV,cj,cN,bJ];rw[az hlen];simp[uB]
      · refine(aE (bG (d:=.tup ((mU b x.1 x.2.1).map D.int)) ?_)).trans ?_
        ·simp only[ax,ae,ao,eV,ag,eC,uB,qo,Ib,Xr,Xs,cj,cN,bJ,dN,xV hl6]
        ·refine(bG (d:=uB (pS (CL c hs (mU b x.1 x.2.1)))) ?_).trans rfl;have rb:=QI (c:=c) (hs:=hs) h0 h6 hh adu;simp only[ax,ae,ao,eV,ic,ie,cj,cN,bJ,dN,rb]
    rw[ht];simp only[bJ,gx,hg];have:=ih n (made++[x]) Fm he (by simp at hn;omega) (by simp at hm⊢;omega);rw[this];simp
theorem QJ(h0:0≤c)(h6:c≤6)(hh:∀x∈hs,x.1.length≤6){left:aO}{rows:List (Int×Int×Int)}(hb:cP c b)(t:Trace c hs b rows left)(he:pS (CL c hs left)=none)(hl:rows.length<100):qf [.int c,.lst (hs.map ah),.tup (b.map D.int)]=some (.pr (rows.map qo) [.tup (left.map D.int)]):=by
  refine cD ?_;show ur [some (.sh (.int c)),some (.sh (.lst (hs.map ah))),some (.sh (.tup (b.map D.int))),none,none,none]=_;unfold ur;refine(aE (sQ K4)).trans ?_;refine(aE (bG (d:=.tup (b.map D.int)) rfl)).trans ?_;have rb:=QI (c:=c) (hs:=hs) h0 h6 hh (hb.Rr h6);refine(aE (bG (d:=uB (pS (CL c hs b))) ?_)).trans ?_
  ·simp only[ax,ae,ao,eV,ic,ie,cj,cN,bJ,dN,rb]
  refine(aE (Uc h0 h6 hh (.tup (b.map D.int)) t 100 [] hb he hl (by simp;omega))).trans ?_;simp[Kn,ae,ao,eV]
def M8(e:Int×aO):xX→xX
  |[]=>[e]
  |x::r=>if pG e x=true then e::x::r else x::M8 e r
def xE:xX→xX
  |[]=>[]
  |x::r=>M8 x (xE r)
theorem xF(e:Int×aO):∀l,(M8 e l).Perm (e::l)
  |[]=>.refl _
  |x::r=>by
   unfold M8;split
   ·exact .refl _
   ·exact((xF e r).cons x).trans (.swap e x r)
theorem sr:∀l,(xE l).Perm l
  |[]=>.refl _
  |x::r=>(xF x _).trans ((sr r).cons x)
theorem K6{e:Int×aO}:∀{l:xX},l.Pairwise (fun a b=>pG a b=true)→e∉l→(M8 e l).Pairwise (fun a b=>pG a b=true)
  |[],_,_=>List.pairwise_singleton _ _
  |x::r,h,hn=>by
   obtain⟨h1,h2⟩:=List.pairwise_cons.mp h;unfold M8;split
   · rename_i q;refine List.pairwise_cons.mpr ⟨fun y hy=>?_,h⟩;rcases gw.mp hy with rfl|hy
     ·exact q
     ·exact yZ q (h1 y hy)
   · rename_i q;have q2:pG x e=true:=yz (fun z=>hn (by rw[z];exact de)) (by simpa using q);refine List.pairwise_cons.mpr ⟨fun y hy=>?_,K6 h2 fun z=>hn (lJ _ z)⟩;rcases gw.mp ((xF e r).mem_iff.mp hy) with rfl|hy
     ·exact q2
     ·exact h1 y hy
theorem CQ:∀{l:xX},l.Nodup→(xE l).Pairwise (fun a b=>pG a b=true)
  |[],_=>List.Pairwise.nil
  |x::r,h=>by obtain⟨h1,h2⟩:=yL.mp h;exact K6 (CQ h2) fun z=>h1 ((sr r).mem_iff.mp z)
theorem QK{l:xX}(h:l.Nodup):hG l=xE l:=u9 h (sr l) (CQ h)
def rk(t:aO):Int×aO:=((t.length:Int),t)
def fO(c:Nat):aO:=(List.range c).map fun(i:Nat)=>(0:Int)+(i:Int)
def jK(c:Nat):List aO:=(xE ((dX (fO c)).map rk)).map (·.2)
def og(c:Nat):List aO:=(jK c).drop 1
def Ud(c:Nat):List aO:=(fO (2^c)).map fun b=>EE b c
def su(c:Nat)(k:Int):List aO:=(Ud c).filter fun t=>((t.length:Int)==k)
def K7(c:Nat):List aO:=(List.range c).flatMap fun(i:Nat)=>(xE ((su c (1+(i:Int))).map fun t=>(0,t))).map (·.2)
def QL(c:Nat):Bool:=decide (K7 c=og c)&&(decide ((dX (fO c)).map rk).Nodup&&(decide ((dX (fO c)).length<64∨(dX (fO c)).map rk=zW.map fun t=>((t.length:Int),t)) &&
  (((List.range c).all fun(i:Nat)=>decide (su c (1+(i:Int))).Nodup&&decide ((su c (1+(i:Int))).length<64))&&((og c).all fun t=>decide (1≤t.length∧t.Pairwise (·<·)∧∀n∈t,0≤n∧n<(c:Int))&&decide ((og c).length≤63)))))
theorem Ue:∀c:Nat,1≤c→c≤6→QL c=true:=by
  intro c h1 h6;have:c=1∨c=2∨c=3∨c=4∨c=5∨c=6:=by omega
  rcases this with rfl|rfl|rfl|rfl|rfl|rfl<;>decide +kernel
structure Xu (c:Nat):Prop where
  law:K7 c=og c
  nd:((dX (fO c)).map rk).Nodup
  few:(dX (fO c)).length<64∨(dX (fO c)).map rk=zW.map fun t=>((t.length:Int),t)
  size:∀i:Nat,i<c→(su c (1+(i:Int))).Nodup∧(su c (1+(i:Int))).length<64
  all:∀t∈og c,1≤t.length∧cP (c:Int) t
  len:(og c).length≤63
theorem EI{c:Nat}(h1:1≤c)(h6:c≤6):Xu c:=by
  have h:=Ue c h1 h6;unfold QL at h;simp only[t9,Bb,iH] at h;obtain⟨a,b,d,e,f⟩:=h;refine⟨a,b,d,fun i hi=>e i (mY.mpr hi),fun t ht=>?_,?_⟩
  ·obtain⟨⟨g1,g2,g3⟩,_⟩:=f t ht;exact⟨g1,g2,g3⟩
  · cases hz:og c with
    |nil=>simp
    |cons x r=>rw[←hz];exact(f x (by rw[hz];exact de)).2
theorem QM(t:aO):iA [.tup (t.map D.int)]=some (.sh (fP (rk t))):=by simp[iA,jz,eR,GU,dU,fX,ae,ao,jN,dS,aJ,eV,fP,rk]
theorem K8(ts:List aO):zX iA ts=some (ts.map rk):=by
  induction ts with
  |nil=>rfl
  |cons p ps ih =>
   have e2:rL iA p=some (rk p):=by unfold rL;rw[QM];simp only[fP];rw[az (show kF ((rk p).2.map D.int)=some p from du p)];rfl
   rw[bY];unfold zX;rw[e2,bJ,ih];rfl
theorem AA(told:List aO)(n:Int):(told++told.map fun some=>some++[n]).length=2*told.length:=by simp;omega
theorem CT{N:D}(told:List aO)(n:Int)(ht:∀t∈told,t.length≤100)(hl:told.length≤1000):jf [some (.sh N),some (.sh (.lst (told.map cR))),some (.sh (.int n))]=some (.nx [some (.sh N),some (.sh (.lst ((told++told.map fun some=>some++[n]).map cR))),some (.sh (.int n))]):=by
  unfold jf;have q:cF (aD true 0) eP (ag MD (eV 0) (fX (ae (eV 1) ao))) (told.map cR) (List.replicate 1 none++[some (.sh (.int n))])=some ((told.map fun some=>some++[n]).map cR):=by
    rw[e8];refine eW cR _ fun t hm=>⟨[some (.sh (cR t)),some (.sh (.int n))],rfl,rfl,?_⟩
    have hz:(t.map D.int).length+[D.int n].length≤1000:=by have:=ht t hm;rw[g9];simp;omega
    simp only[ag,eV,fX,ae,ao,cj,cN,bJ,dN];rw[az (by simp)];simp only[bJ,cR,MD,hz,gx,Function.comp,wg,bY,ja]
  refine bG (d:=.lst ((told++told.map fun some=>some++[n]).map cR)) ?_;have hz:(told.map cR).length+((told.map fun some=>some++[n]).map cR).length≤10000:=by simp only[g9];omega
  simp only[eL,yf,bQ,cJ,eV,cj,cN,bJ,dN,di,jb,bY,ja,tf,q,HP,hz,gx,wg]
theorem QN{c:Nat}(h1:1≤c)(h6:c≤6):iC [.tup ((fO c).map D.int)]=some (.ol ((jK c).map cR)):=by
  have hk:=EI h1 h6;have h00:∀t∈([[]]:List aO),t.length≤0:=fun t ht=>by
    have e:t=[]:=by simpa using ht
    rw[e];exact cu _
  obtain⟨η',e,o2,_,rfl⟩:=kR (b:=aD true 2) (g:=jf) D.int (fun i (told:List aO) η=>∃o2,(told.length=2^i∧∀t∈told,t.length≤i)∧η=[some (.sh (.tup ((fO c).map D.int))),some (.sh (.lst (told.map cR))),o2]) (fun told n=>told++told.map fun some=>some++[n]) (xs:=fO c)
    (η:=[some (.sh (.tup ((fO c).map D.int))),some (.sh (.lst (([[]]:List aO).map cR))),none]) 0 [[]] ⟨none,⟨rfl,h00⟩,rfl⟩ (fun i n told η hn ⟨o2,⟨hl,ht⟩,e⟩=>by
      subst e;have hi:i<c:=by have:=(v9.mp hn).1;simpa[fO] using this
      rw[Nat.zero_add] at hl ht⊢;have hp:2^i≤2^6:=Nat.pow_le_pow_right (by decide) (by omega);refine⟨_,_,rfl,CT told n (fun t h=>by have:=ht t h;omega) (by omega),_,⟨by rw[AA,hl,Nat.pow_succ];omega,fun t h=>?_⟩,rfl⟩;rcases mX.mp h with q|q
      ·have:=ht t q;omega
      ·obtain⟨u,hu,rfl⟩:=i9.mp q;have:=ht u hu;simp;omega)
  refine cD ?_;show lU [some (.sh (.tup ((fO c).map D.int))),none,none]=_;unfold lU;refine(aE (bG (d:=.lst (([[]]:List aO).map cR)) rfl)).trans ?_;refine(aE ((fK (ds:=(fO c).map D.int) rfl).trans e)).trans ?_;refine fR ?_;have hc:((dX (fO c)).map rk).Nodup∧(((dX (fO c)).map rk).length<64∨(dX (fO c)).map rk=zW.map fun t=>((t.length:Int),t)):=⟨hk.nd,by rw[g9];exact hk.few⟩
  have es:(fO c).foldl (fun told n=>told++told.map fun some=>some++[n]) [[]]=dX (fO c):=rfl;simp only[vg,eV,cj,cN,bJ,es,wQ,K8];rw[az hc,QK hk.nd];unfold jK;rw[e8];rfl
theorem K9{c:Nat}(h1:1≤c)(h6:c≤6):dj [.int (c:Int)]=some (.ol ((og c).map cR)):=by
  refine cD ?_;show mH [some (.sh (.int (c:Int)))]=_;unfold mH;refine fR ?_;have hr:(if (c:Int)≤1000∧-1000≤(c:Int) then some (D.tup (dk 0 (c:Int).toNat)) else none)=some (.tup ((fO c).map D.int)):=by rw[az ⟨by omega,by omega⟩,Int.toNat_natCast,jA];rfl
  simp only[kN,ax,ae,ao,Kw,aJ,cj,bJ,hr,dN,QN h1 h6,oB,eC,tT];unfold cutD og;have e1:HT.uE ((jK c).map cR).length 0 (some (1:Int))=min 1 ((jK c).map cR).length:=HT.sD _ _ 1;rw[e1,HT.yR,g9,←List.map_drop,←List.map_take]
  congr 2
  by_cases hz:(jK c).length=0
  ·have:jK c=[]:=List.eq_nil_of_length_eq_zero hz;rw[this];rfl
  ·rw[Nat.min_eq_left (by omega),Hq (by rw[List.length_drop];omega)]
theorem xG(hs:dq):iB [.lst (hs.map ah)]=some (.sh (.int (ak hs))):=by
  refine cD ?_;show sd [some (.sh (.lst (hs.map ah)))]=_;unfold sd;refine j8 ?_;have q:cF (aD true 0) eP (ag iX (eV 0) (eC (.int 1))) (hs.map ah) (List.replicate 1 none++[])=some ((hs.map fun r=>r.2).map D.int):=by rw[e8];exact eW ah (D.int∘fun r=>r.2) fun x _=>⟨[some (.sh (ah x))],rfl,rfl,rfl⟩
  simp only[jN,ae,ao,eL,bQ,cJ,eV,cj,bJ,di,jb,ja,q,dN,ye,du];rfl
def gR(T:aO)(h:aO×Int):Bool:=((J1 h.1 T:Nat):Int)==(T.length:Int)
def sZ(b T:aO)(h:aO×Int):Bool:=decide (((J1 h.1 b:Nat):Int)<(T.length:Int))
def X8(hs:dq)(b T:aO):Bool:=decide ((T.length:Int)*ak hs≤(b.length:Int)*ak ((hs.filter (gR T)).filter (sZ b T)))
theorem Hh(hs:dq)(T:aO):cU [.lst (hs.map ah),.tup (T.map D.int)]=some (.ol ((hs.filter (gR T)).map ah)):=by
  refine cD ?_;show iD [some (.sh (.lst (hs.map ah))),some (.sh (.tup (T.map D.int)))]=_;unfold iD;refine fR ?_;have q:cF (aD true 0) (bV (ag m5 (ax bP (ae (ag iX (eV 0) (eC (.int 0))) (ae (eV 1) ao))) (jN dS (ae (aJ 1) ao)))) (eV 0) (hs.map ah) (List.replicate 1 none++[some (.sh (.tup (T.map D.int)))])=some ((hs.filter (gR T)).map ah):=by
    refine dw ah (gR T) ah fun x _=>⟨[some (.sh (ah x)),some (.sh (.tup (T.map D.int)))],rfl,?_,fun _=>rfl⟩
    have hx:iX (ah x) (.int 0)=some (.tup (x.1.map D.int)):=rfl;have hi:=Ua (ns:=x.1) (ms:=T) (S:=.tup (T.map D.int)) rfl;simp only[bV,ag,ax,jN,ae,ao,eV,aJ,eC,cj,cN,bJ,dN,hx,hi,dS,g9,jj];rfl
  simp only[bQ,cJ,eV,cj,cN,bJ,di,jb,bY,ja,tf,q]
theorem aav(hs:dq)(b T:aO):gi [.lst (hs.map ah),.tup (b.map D.int),.tup (T.map D.int)]=some (.ol (((hs.filter (gR T)).filter (sZ b T)).map ah)):=by
  refine cD ?_;show la [some (.sh (.lst (hs.map ah))),some (.sh (.tup (b.map D.int))),some (.sh (.tup (T.map D.int))),none]=_;unfold la;refine(aE (bG (d:=.lst ((hs.filter (gR T)).map ah)) ?_)).trans ?_
  ·simp only[ax,ae,ao,eV,cj,cN,bJ,dN,Hh]
  refine fR ?_;have q:cF (aD true 0) (bV (ag HR (ax bP (ae (ag iX (eV 0) (eC (.int 0))) (ae (eV 1) ao))) (jN dS (ae (aJ 2) ao)))) (eV 0) ((hs.filter (gR T)).map ah) (List.replicate 1 none++[some (.sh (.tup (b.map D.int))),some (.sh (.tup (T.map D.int)))])=some (((hs.filter (gR T)).filter (sZ b T)).map ah):=by
    refine dw ah (sZ b T) ah fun x _=>⟨[some (.sh (ah x)),some (.sh (.tup (b.map D.int))),some (.sh (.tup (T.map D.int)))],rfl,?_,fun _=>rfl⟩
    have hx:iX (ah x) (.int 0)=some (.tup (x.1.map D.int)):=rfl;have hi:=Ua (ns:=x.1) (ms:=b) (S:=.tup (b.map D.int)) rfl;simp only[bV,ag,ax,jN,ae,ao,eV,aJ,eC,cj,cN,bJ,dN,hx,hi,dS,g9,tV];rfl
  simp only[bQ,cJ,eV,ic,ie,cj,cN,bJ,di,jb,bY,ja,tf,q]
theorem CV{T:aO}(h:T.length≤6)(x:Int):uX (.int ((T.length:Nat):Int)) (.int x)=some (.int ((T.length:Int)*x)):=O7 (Ie (by omega) (by omega))
theorem EJ{fa fb:EF}{x y r:D}(h1:fa η=some x)(h2:fb η=some y)(h3:g x y=some r):ag g fa fb η=some r:=by unfold ag;rw[h1,bJ,h2,bJ];exact h3
theorem La{f:EF}{S:D}(h:f η=some (.tup (ms.map D.int))):jN dS (ae f ao) η=some (.int ((ms.length:Nat):Int)):=by simp only[jN,ae,ao,h,bJ,dN,dS,g9]
theorem Hi(Lb hs:dq){T:aO}(hb:b.length≤6)(hT:T.length≤6):dM [.lst (Lb.map ah),.lst (hs.map ah),.tup (b.map D.int),.tup (T.map D.int)]=some (.sh (.bl (decide ((T.length:Int)*ak hs≤(b.length:Int)*ak Lb)))):=by
  refine cD ?_;show nU [some (.sh (.lst (Lb.map ah))),some (.sh (.lst (hs.map ah))),some (.sh (.tup (b.map D.int))),some (.sh (.tup (T.map D.int)))]=_;unfold nU;refine j8 ?_;refine EJ (EJ (La (S:=.non) (ms:=b) rfl) (y:=.int (ak Lb)) ?_ (CV hb _)) (EJ (La (S:=.non) (ms:=T) rfl) (y:=.int (ak hs)) ?_ (CV hT _)) (UT _ _)
  ·simp only[ax,ae,ao,eV,cj,bJ,dN,xG]
  ·simp only[ax,ae,ao,eV,cj,cN,bJ,dN,xG]
theorem Ug{C:D}(hs:dq){T:aO}(hb:b.length≤6)(hT:T.length≤6):km [some (.sh C),some (.sh (.lst (hs.map ah))),some (.sh (.tup (b.map D.int))),some (.sh (cR T))]=if X8 hs b T=true then some (.rt (.sh (cR T))) else some (.nx [some (.sh C),some (.sh (.lst (hs.map ah))),some (.sh (.tup (b.map D.int))),some (.sh (cR T))]):=by
  unfold km;have e:bV (ax dM (ae (ax gi (ae (eV 1) (ae (eV 2) (ae (eV 3) ao)))) (ae (eV 1) (ae (eV 2) (ae (eV 3) ao))))) [some (.sh C),some (.sh (.lst (hs.map ah))),some (.sh (.tup (b.map D.int))),some (.sh (cR T))]=some (X8 hs b T):=by simp only[bV,ax,ae,ao,eV,cj,cN,bJ,dN,cR,aav,Hi _ hs hb hT];rfl
  cases q:X8 hs b T with
  |true=>rw[q] at e;exact(rF e).trans rfl
  |false=>rw[q] at e;exact(lS e).trans rfl
def pv(c:Nat)(hs:dq)(b:aO):Option aO:=(og c).find? (X8 hs b)
def lW:Option aO→D
  |none=>.non
  |some T=>cR T
theorem find_some{α β:Type}(p:α→Bool)(f:α→β):∀l:List α,l.findSome? (fun x=>if p x=true then some (f x) else none)=(l.find? p).map f
  |[]=>rfl
  |x::l=>by
   rw[List.findSome?_cons,uG];cases h:p x with
   |true=>rfl
   |false=>exact find_some p f l
theorem M9{c:Nat}(h1:1≤c)(h6:c≤6)(hs:dq)(hb:b.length≤6):ko [.int (c:Int),.lst (hs.map ah),.tup (b.map D.int)]=some (.sh (lW (pv c hs b))):=by
  have hk:=EI h1 h6;refine cD ?_;show qg [some (.sh (.int (c:Int))),some (.sh (.lst (hs.map ah))),some (.sh (.tup (b.map D.int))),none]=_;unfold qg;have hl:cJ (ax dj (ae (eV 0) ao)) [some (.sh (.int (c:Int))),some (.sh (.lst (hs.map ah))),some (.sh (.tup (b.map D.int))),none]=some ((og c).map cR):=by simp only[cJ,ax,ae,ao,eV,cj,bJ,dN,K9 h1 h6,di]
  have key:=p6 (b:=aD true 3) (g:=km) cR (fun η=>∃o3,η=[some (.sh (.int (c:Int))),some (.sh (.lst (hs.map ah))),some (.sh (.tup (b.map D.int))),o3]) (fun T=>if X8 hs b T=true then some (Slot.sh (cR T)) else none)
    (xs:=og c) (η:=[some (.sh (.int (c:Int))),some (.sh (.lst (hs.map ah))),some (.sh (.tup (b.map D.int))),none]) ⟨none,rfl⟩ (fun T hT η ⟨o3,e⟩=>by
      subst e;refine⟨[some (.sh (.int (c:Int))),some (.sh (.lst (hs.map ah))),some (.sh (.tup (b.map D.int))),some (.sh (cR T))],rfl,?_⟩;have q:=Ug (C:=.int (c:Int)) hs hb ((hk.all T hT).2.Rr (by omega));cases e:X8 hs b T with
      |true=>rw[e] at q;exact .inl ⟨_,rfl,q⟩
      |false=>rw[e] at q;exact .inr ⟨rfl,_,q,_,rfl⟩)
  rw[find_some] at key;rcases key with⟨r,a1,a2⟩|⟨a1,η',a2,o3,rfl⟩
  ·refine uh ((fK hl).trans (a2.trans ?_));obtain⟨T,b1,rfl⟩:=gZ.mp a1;unfold pv;rw[b1];rfl
  ·refine(aE ((fK hl).trans a2)).trans ?_;unfold pv;rw[Option.map_eq_none_iff.mp a1];rfl
theorem Jr(h:cP c ns):ns.Nodup:=h.1.imp fun uN e=>by omega
theorem CW:∀{ns:aO} {told:List aO},ns.Nodup→told.Nodup→(∀t∈told,∀n∈ns,n∉t)→(ns.foldl (fun told n=>told++told.map fun some=>some++[n]) told).Nodup
  |[],told,_,h,_=>h
  |n::ns,told,hn,h,hd=>by
   obtain⟨h1,h2⟩:=yL.mp hn;rw[x4];refine CW h2 ?_ fun t ht m hm=>?_
   · refine List.nodup_append.mpr ⟨h,?_,fun a ha b hb e=>?_⟩
     ·unfold List.Nodup at h⊢;rw[Dg];exact h.imp fun uN e=>uN (by simpa using e)
     ·obtain⟨v,hv,rfl⟩:=i9.mp hb;exact hd a ha n de (by rw[e];simp)
   · rcases mX.mp ht with q|q
     ·exact hd t q m (lJ _ hm)
     · obtain⟨v,hv,rfl⟩:=i9.mp q;intro z;rcases mX.mp z with z|z
       ·exact hd v hv m (lJ _ hm) z
       · have:m=n:=by simpa using z
         exact h1 (this▸hm)
theorem AF:∀(ns:aO) (told:List aO),(ns.foldl (fun told n=>told++told.map fun some=>some++[n]) told).length=2^ns.length*told.length
  |[],told=>by simp
  |n::ns,told=>by rw[x4,AF ns,AA,mW,Nat.pow_succ,Nat.mul_assoc]
theorem Nb(c6:c≤6)(hb:cP c b)(h6:b.length=6):b=[0,1,2,3,4,5]:=by
  have key:∀(l:aO) (lo:Int) (k:Nat),l.Pairwise (·<·)→(∀n∈l,lo≤n∧n<lo+k)→l.length=k→l=(List.range k).map fun(i:Nat)=>lo+(i:Int):=by
    intro l;induction l with
    |nil=>intro lo k _ _ h;subst h;rfl
    |cons x r ih =>
     intro lo k hp hb hk;cases k with
     |zero=>simp at hk
     |succ k =>
      obtain⟨h1,h2⟩:=List.pairwise_cons.mp hp;have hx:=hb x de;have hr:∀n∈r,lo+1≤n∧n<lo+1+k:=fun n hn=>by have a:=h1 n hn;have b:=hb n (lJ _ hn);omega
      have hk':r.length=k:=by simpa using hk
      have e:=ih (lo+1) k h2 hr hk';have hx0:x=lo:=by
        cases k with
        |zero=>omega
        |succ k =>
         -- the least of the rest is lo+1
         rw[e] at h1;have:=h1 (lo+1+((0:Nat):Int)) (i9.mpr ⟨0,mY.mpr (by omega),rfl⟩);omega
      rw[e,hx0,List.range_succ_eq_map,bY,e8]
      congr 1
      ·simp
      · refine t8 fun i _=>?_;show lo+1+(i:Int)=lo+((i+1:Nat):Int)
        omega
  have:=key b 0 6 hb.1 (fun n hn=>by have:=hb.2 n hn;omega) h6;rw[this];rfl
theorem Nc(c6:c≤6)(hb:cP c b):∃L:List aO,iC [.tup (b.map D.int)]=some (.ol (L.map cR))∧L.Perm (dX b):=by
  have h6:=hb.Rr c6;have adw:=Jr hb;obtain⟨η',e,o2,_,rfl⟩:=kR (b:=aD true 2) (g:=jf) D.int (fun i (told:List aO) η=>∃o2,(told.length=2^i∧∀t∈told,t.length≤i)∧η=[some (.sh (.tup (b.map D.int))),some (.sh (.lst (told.map cR))),o2]) (fun told n=>told++told.map fun some=>some++[n]) (xs:=b)
    (η:=[some (.sh (.tup (b.map D.int))),some (.sh (.lst (([[]]:List aO).map cR))),none]) 0 [[]] ⟨none,⟨rfl,fun t ht=>by
      have e:t=[]:=by simpa using ht
      subst e;exact cu _⟩,rfl⟩ (fun i n told η hn ⟨o2,⟨hl,ht⟩,e⟩=>by
      subst e;have hi:i<b.length:=(v9.mp hn).1;rw[Nat.zero_add] at hl ht⊢;have hp:2^i≤2^6:=Nat.pow_le_pow_right (by decide) (by omega);refine⟨_,_,rfl,CT told n (fun t h=>by have:=ht t h;omega) (by omega),_,⟨by rw[AA,hl,Nat.pow_succ];omega,fun t h=>?_⟩,rfl⟩;rcases mX.mp h with q|q
      ·have:=ht t q;omega
      ·obtain⟨u,hu,rfl⟩:=i9.mp q;have:=ht u hu;simp;omega)
  have A5:((dX b).map rk).Nodup:=by
    have:=CW (ns:=b) (told:=[[]]) adw (by simp) (fun t ht m _=>by
      have e:t=[]:=by simpa using ht
      subst e;simp)
    unfold List.Nodup at this⊢;rw[Dg];exact this.imp fun uN e=>uN (by injection e)
  have hlen:(dX b).length=2^b.length:=by have:=AF b [[]];unfold dX;rw[this];simp
  have hc:((dX b).map rk).Nodup∧(((dX b).map rk).length<64∨(dX b).map rk=zW.map fun t=>((t.length:Int),t)):=by
    refine⟨A5,?_⟩;by_cases q:b.length=6
    ·right;rw[Nb c6 hb q];rfl
    ·left;rw[g9,hlen];have:2^b.length≤2^5:=Nat.pow_le_pow_right (by decide) (by omega);omega
  refine⟨(hG ((dX b).map rk)).map (·.2),cD ?_,?_⟩
  ·show lU [some (.sh (.tup (b.map D.int))),none,none]=_;unfold lU;refine(aE (bG (d:=.lst (([[]]:List aO).map cR)) rfl)).trans ?_;refine(aE ((fK (ds:=b.map D.int) rfl).trans e)).trans ?_;refine fR ?_;have es:b.foldl (fun told n=>told++told.map fun some=>some++[n]) [[]]=dX b:=rfl;simp only[vg,eV,cj,cN,bJ,es,wQ,K8];rw[az hc,e8];rfl
  ·refine((iw _).map _).trans ?_;rw[e8];have:(dX b).map ((fun x=>x.2)∘rk)=dX b:=(t8 fun _ _=>rfl).trans (List.map_id _);rw[this]
def jv(b few:aO)(h:aO×Int):Bool:=((J1 h.1 (b.filter fun n=>!few.contains n):Nat):Int)==0
def nh(hs:dq)(b T:aO)(q:aO×Int→Bool):Bool:=decide ((T.length:Int)*ak hs≤(b.length:Int)*ak ((hs.filter (gR T)).filter q))
def AG(b T:aO):Int:=if (T.length:Int)-1<(b.length:Int) then(T.length:Int)-1 else(b.length:Int)
def Vb(b T:aO):List aO:=(dX b).filter fun t=>(t.length:Int)==AG b T
def Nf(hs:dq)(b T:aO):Bool:=(Vb b T).any fun few=>nh hs b T (jv b few)
theorem Xv(hs:dq)(b T few:aO):fA [.lst (hs.map ah),.tup (b.map D.int),.tup (T.map D.int),.tup (few.map D.int)]=some (.ol (((hs.filter (gR T)).filter (jv b few)).map ah)):=by
  refine cD ?_;show kr [some (.sh (.lst (hs.map ah))),some (.sh (.tup (b.map D.int))),some (.sh (.tup (T.map D.int))),some (.sh (.tup (few.map D.int))),none]=_;unfold kr;have q1:cF (aD true 0) (bV (ag (inD true) (aJ 0) (aJ 1))) (eV 0) (b.map D.int) (List.replicate 1 none++[some (.sh (.tup (few.map D.int)))])=some ((b.filter fun n=>!few.contains n).map D.int):=by
    refine dw D.int (fun n=>!few.contains n) D.int fun n _=>⟨[some (.sh (.int n)),some (.sh (.tup (few.map D.int)))],rfl,?_,fun _=>rfl⟩
    have q:=rE (n:=n) (ms:=few) (S:=.tup (few.map D.int)) rfl;simp only[bV,ag,aJ,cj,cN,bJ,q]
  refine(aE (bG (d:=.lst ((b.filter fun n=>!few.contains n).map D.int)) ?_)).trans ?_
  ·simp only[eL,bQ,cJ,eV,cj,cN,bJ,di,jb,bY,ja,tf,q1,dN]
  refine fR ?_;have q:cF (aD true 0) (bV (ag m5 (ax bP (ae (ag iX (eV 0) (eC (.int 0))) (ae (eV 1) ao))) (eC (.int 0)))) (eV 0) ((hs.filter (gR T)).map ah) (List.replicate 1 none++[some (.sh (.lst ((b.filter fun n=>!few.contains n).map D.int)))])=some (((hs.filter (gR T)).filter (jv b few)).map ah):=by
    refine dw ah (jv b few) ah fun x _=>⟨[some (.sh (ah x)),some (.sh (.lst ((b.filter fun n=>!few.contains n).map D.int)))],rfl,?_,fun _=>rfl⟩
    have hx:iX (ah x) (.int 0)=some (.tup (x.1.map D.int)):=rfl;have hi:=Ua (ns:=x.1) (ms:=b.filter fun n=>!few.contains n) (S:=.lst ((b.filter fun n=>!few.contains n).map D.int)) rfl;simp only[bV,ag,ax,ae,ao,eV,eC,cj,cN,bJ,dN,hx,hi,jj];rfl
  simp only[bQ,cJ,ax,ae,ao,eV,ic,ie,cj,cN,bJ,dN,Hh,di,jb,bY,ja,tf,q]
theorem Ng(c6:c≤6)(hb:cP c b)(T:aO):∃L:List aO,gN [.tup (b.map D.int),.tup (T.map D.int)]=some (.ol (L.map cR))∧L.Perm (Vb b T):=by
  obtain⟨L,e,hp⟩:=Nc c6 hb;refine⟨L.filter fun t=>(t.length:Int)==AG b T,cD ?_,hp.filter _⟩;show mJ [some (.sh (.tup (b.map D.int))),some (.sh (.tup (T.map D.int))),none]=_;unfold mJ;refine(aE (bG (d:=.int (AG b T)) ?_)).trans ?_
  ·simp only[jN,ae,ao,aJ,ag,eC,dS,cj,cN,bJ,dN,g9,Ia,minD];rfl
  refine fR ?_;have q:cF (aD true 0) (bV (ag m5 (jN dS (ae (aJ 0) ao)) (aJ 1))) (eV 0) (L.map cR) (List.replicate 1 none++[some (.sh (.int (AG b T)))])=some ((L.filter fun t=>(t.length:Int)==AG b T).map cR):=by
    refine dw cR (fun t=>(t.length:Int)==AG b T) cR fun t _=>⟨[some (.sh (cR t)),some (.sh (.int (AG b T)))],rfl,?_,fun _=>rfl⟩
    simp only[bV,ag,jN,ae,ao,aJ,cj,cN,bJ,dN,cR,dS,g9,jj]
  simp only[bQ,cJ,ax,ae,ao,eV,ic,ie,cj,cN,bJ,dN,e,di,jb,bY,ja,tf,q]
theorem Xw{C:D}(c6:c≤6)(hs:dq){T:aO}(hb:cP c b)(hT:T.length≤6)(o4:eO):∃Vc,dO [some (.sh C),some (.sh (.lst (hs.map ah))),some (.sh (.tup (b.map D.int))),some (.sh (cR T)),o4]=if Nf hs b T=true then some (.rt (.sh (cR T))) else some (.nx [some (.sh C),some (.sh (.lst (hs.map ah))),some (.sh (.tup (b.map D.int))),some (.sh (cR T)),Vc]):=by
  have hb6:=hb.Rr c6;obtain⟨L,e,hp⟩:=Ng c6 hb T;have hl:cJ (ax gN (ae (eV 2) (ae (eV 3) ao))) [some (.sh C),some (.sh (.lst (hs.map ah))),some (.sh (.tup (b.map D.int))),some (.sh (cR T)),o4]=some (L.map cR):=by simp only[cJ,ax,ae,ao,eV,cj,cN,bJ,dN,cR,e,di]
  have key:=p6 (b:=aD true 4) (g:=gj) cR (fun η=>∃o4,η=[some (.sh C),some (.sh (.lst (hs.map ah))),some (.sh (.tup (b.map D.int))),some (.sh (cR T)),o4]) (fun few=>if nh hs b T (jv b few)=true then some (Slot.sh (cR T)) else none)
    (xs:=L) (η:=[some (.sh C),some (.sh (.lst (hs.map ah))),some (.sh (.tup (b.map D.int))),some (.sh (cR T)),o4]) ⟨o4,rfl⟩ (fun few hf η ⟨o4,e⟩=>by
      subst e;refine⟨[some (.sh C),some (.sh (.lst (hs.map ah))),some (.sh (.tup (b.map D.int))),some (.sh (cR T)),some (.sh (cR few))],rfl,?_⟩;unfold gj;have ht:bV (ax dM (ae (ax fA (ae (eV 1) (ae (eV 2) (ae (eV 3) (ae (eV 4) ao))))) (ae (eV 1) (ae (eV 2) (ae (eV 3) ao))))) [some (.sh C),some (.sh (.lst (hs.map ah))),some (.sh (.tup (b.map D.int))),some (.sh (cR T)),some (.sh (cR few))]=some (nh hs b T (jv b few)):=by simp only[bV,ax,ae,ao,eV,cj,cN,bJ,dN,cR,Xv,Hi _ hs hb6 hT];rfl
      cases q:nh hs b T (jv b few) with
      |true=>rw[q] at ht;exact .inl ⟨_,rfl,(rF ht).trans rfl⟩
      |false=>rw[q] at ht;exact .inr ⟨rfl,_,(lS ht).trans rfl,_,rfl⟩)
  have adx:Nf hs b T=L.any fun few=>nh hs b T (jv b few):=by unfold Nf;rw[Be,Dl,Dl];exact⟨fun⟨x,h1,h2⟩=>⟨x,hp.mem_iff.mpr h1,h2⟩,fun⟨x,h1,h2⟩=>⟨x,hp.mem_iff.mp h1,h2⟩⟩
  unfold dO;rw[adx];rcases key with⟨r,a1,a2⟩|⟨a1,η',a2,Vc,rfl⟩
  · refine⟨none,?_⟩;obtain⟨few,hf,h2⟩:=List.exists_of_findSome?_eq_some a1;have hq:nh hs b T (jv b few)=true:=by
      cases q:nh hs b T (jv b few) with
      |true=>rfl
      |false=>rw[q,bh (by decide)] at h2;cases h2
    rw[hq,az rfl] at h2;cases h2;rw[az (Dl.mpr ⟨few,hf,hq⟩)];exact(fK hl).trans a2
  · refine⟨Vc,?_⟩;have hn:(L.any fun few=>nh hs b T (jv b few))=false:=by
      cases q:L.any fun few=>nh hs b T (jv b few) with
      |false=>rfl
      |true=>obtain⟨x,h1,h2⟩:=Dl.mp q;have:=List.findSome?_eq_none_iff.mp a1 x h1;rw[h2,az rfl] at this;cases this
    rw[hn,bh (by decide)];exact(fK hl).trans a2
def pA(c:Nat)(hs:dq)(b:aO):Option aO:=(og c).find? (Nf hs b)
theorem Uh{c:Nat}(h1:1≤c)(h6:c≤6)(hs:dq)(hb:cP (c:Int) b):dr [.int (c:Int),.lst (hs.map ah),.tup (b.map D.int)]=some (.sh (lW (pA c hs b))):=by
  have hk:=EI h1 h6;refine cD ?_;show g8 [some (.sh (.int (c:Int))),some (.sh (.lst (hs.map ah))),some (.sh (.tup (b.map D.int))),none,none]=_;unfold g8;have hl:cJ (ax dj (ae (eV 0) ao)) [some (.sh (.int (c:Int))),some (.sh (.lst (hs.map ah))),some (.sh (.tup (b.map D.int))),none,none]=some ((og c).map cR):=by simp only[cJ,ax,ae,ao,eV,cj,bJ,dN,K9 h1 h6,di]
  have key:=p6 (b:=aD true 3) (g:=dO) cR (fun η=>∃o3 o4,η=[some (.sh (.int (c:Int))),some (.sh (.lst (hs.map ah))),some (.sh (.tup (b.map D.int))),o3,o4]) (fun T=>if Nf hs b T=true then some (Slot.sh (cR T)) else none)
    (xs:=og c) (η:=[some (.sh (.int (c:Int))),some (.sh (.lst (hs.map ah))),some (.sh (.tup (b.map D.int))),none,none]) ⟨none,none,rfl⟩ (fun T hT η ⟨o3,o4,e⟩=>by
      subst e;refine⟨[some (.sh (.int (c:Int))),some (.sh (.lst (hs.map ah))),some (.sh (.tup (b.map D.int))),some (.sh (cR T)),o4],rfl,?_⟩;obtain⟨Vc,q⟩:=Xw (C:=.int (c:Int)) (c:=(c:Int)) (by omega) hs hb ((hk.all T hT).2.Rr (by omega)) o4;cases e:Nf hs b T with
      |true=>rw[e,az rfl] at q;exact .inl ⟨_,rfl,q⟩
      |false=>rw[e,bh (by decide)] at q;exact .inr ⟨rfl,_,q,_,_,rfl⟩)
  rw[find_some] at key;rcases key with⟨r,a1,a2⟩|⟨a1,η',a2,o3,o4,rfl⟩
  ·refine uh ((fK hl).trans (a2.trans ?_));obtain⟨T,b1,rfl⟩:=gZ.mp a1;unfold pA;rw[b1];rfl
  ·refine(aE ((fK hl).trans a2)).trans ?_;unfold pA;rw[Option.map_eq_none_iff.mp a1];rfl
def dC(r:aO×Int):D:=.tup [.lst (r.1.map D.int),.int r.2]
def gu(ns:aO):aO:=(NS.nameSet ns).map fun(k:Nat)=>(k:Int)
def ky(c:Int)(rs:dq):Prop:=∀r∈rs,(∀n∈r.1,0≤n∧n<c)∧0≤r.2
def jU(ps:dq)(r:aO×Int):dq:=if 0<r.2 then mQ ps (gu r.1) ((gP ps (gu r.1)).getD 0+r.2) else ps
def qp(rs:dq):dq:=rs.foldl jU []
theorem AH(h0:0≤c)(h:∀n∈ns,0≤n∧n<c):cP c (gu ns):=by
  refine⟨?_,fun n hn=>?_⟩
  ·unfold gu NS.nameSet;rw[Dg];exact(List.pairwise_lt_range.filter _).imp fun h=>by omega
  ·obtain⟨k,hk,rfl⟩:=i9.mp hn;have:=(jw.mp hk).2;exact h _ (yJ.mp this)
theorem QO{ms:List Bool}{g:SF}{ds:dm}(h:g (eR n ms ds)=some (.nx η)):jz n ms g ds=some (.sh .non):=by unfold jz;rw[h]
theorem Ui(h1:1≤c)(h6:c≤6):jo [.int c]=some (.sh .non):=by refine QO (η:=[some (.sh (.int c))]) ?_;show mG [some (.sh (.int c))]=_;unfold mG;refine(lS ?_).trans rfl;have a1:decide (c<1)=false:=lL (by omega);have a2:decide (6<c)=false:=lL (by omega);simp only[mj,bV,ag,aJ,eC,cj,bJ,tV,va,a1,a2];rfl
theorem Nh(h:ky c rs):jq [.int c,.lst (rs.map dC)]=some (.sh .non):=by
  obtain⟨η',e,o2,o3,o4,rfl⟩:=kQ (b:=lR 2 (cc (aD true 2) (cc (aD true 3) lQ))) (g:=oG) dC (fun(_:Unit) η=>∃o2 o3 o4,η=[some (.sh (.int c)),some (.sh (.lst (rs.map dC))),o2,o3,o4]) (fun _ _=>()) (xs:=rs) (η:=[some (.sh (.int c)),some (.sh (.lst (rs.map dC))),none,none,none]) () ⟨_,_,_,rfl⟩ (fun x hx s η ⟨o2,o3,o4,e⟩=>by
    subst e;obtain⟨η',e,Vc,rfl⟩:=kQ (b:=aD true 4) (g:=kh) D.int (fun(_:Unit) η=>∃o4,η=[some (.sh (.int c)),some (.sh (.lst (rs.map dC))),some (.sh (.lst (x.1.map D.int))),some (.sh (.int x.2)),o4]) (fun _ _=>()) (xs:=x.1) (η:=[some (.sh (.int c)),some (.sh (.lst (rs.map dC))),some (.sh (.lst (x.1.map D.int))),some (.sh (.int x.2)),o4]) () ⟨_,rfl⟩ (fun n hn s η ⟨o4,e⟩=>by
      subst e;refine⟨[some (.sh (.int c)),some (.sh (.lst (rs.map dC))),some (.sh (.lst (x.1.map D.int))),some (.sh (.int x.2)),some (.sh (.int n))],[some (.sh (.int c)),some (.sh (.lst (rs.map dC))),some (.sh (.lst (x.1.map D.int))),some (.sh (.int x.2)),some (.sh (.int n))],rfl,?_,_,rfl⟩;unfold kh;refine(lS ?_).trans rfl;have:=(h x hx).1 n hn;have a1:decide (n<0)=false:=lL (by omega);have a2:decide (c≤n)=false:=lL (by omega);simp only[mj,bV,ag,aJ,eC,cj,cN,bJ,tV,UT,a1,a2];rfl)
    refine⟨[some (.sh (.int c)),some (.sh (.lst (rs.map dC))),some (.sh (.lst (x.1.map D.int))),some (.sh (.int x.2)),o4],_,rfl,(fK (ds:=x.1.map D.int) rfl).trans e,_,_,_,rfl⟩)
  exact QO ((fK (ds:=rs.map dC) rfl).trans e)
theorem Xx(rs:dq):cF (lR 2 (cc (aD true 0) (cc (aD true 1) lQ))) eP (eV 1) (rs.map dC) [none,none]=some ((rs.map fun r=>r.2).map D.int):=by rw[e8];exact eW dC (D.int∘fun r=>r.2) fun x _=>⟨[some (.sh (.lst (x.1.map D.int))),some (.sh (.int x.2))],rfl,rfl,rfl⟩
theorem Hj(h:ky c rs)(hs:ak rs≠0):hX [.lst (rs.map dC)]=some (.sh .non):=by
  obtain⟨η',e,o1,o2,rfl⟩:=kQ (b:=lR 2 (cc (aD true 1) (cc (aD true 2) lQ))) (g:=i3) dC (fun(_:Unit) η=>∃o1 o2,η=[some (.sh (.lst (rs.map dC))),o1,o2]) (fun _ _=>()) (xs:=rs) (η:=[some (.sh (.lst (rs.map dC))),none,none]) () ⟨_,_,rfl⟩ (fun x hx s η ⟨o1,o2,e⟩=>by
    subst e;refine⟨[some (.sh (.lst (rs.map dC))),some (.sh (.lst (x.1.map D.int))),some (.sh (.int x.2))],[some (.sh (.lst (rs.map dC))),some (.sh (.lst (x.1.map D.int))),some (.sh (.int x.2))],rfl,?_,_,_,rfl⟩;unfold i3;refine(lS ?_).trans rfl;have a1:decide (x.2<0)=false:=lL (by have:=(h x hx).2;omega);simp only[bV,ag,aJ,eC,cj,cN,bJ,tV,a1])
  refine QO (η:=[some (.sh (.lst (rs.map dC))),o1,o2]) ?_;show kg [some (.sh (.lst (rs.map dC))),none,none]=_;unfold kg;refine(aE ((fK (ds:=rs.map dC) rfl).trans e)).trans ?_;refine(lS ?_).trans rfl;have q:cF (lR 2 (cc (aD true 0) (cc (aD true 1) lQ))) eP (eV 1) (rs.map dC) (List.replicate 2 none++[])=some ((rs.map fun r=>r.2).map D.int):=Xx rs;simp only[bV,ag,jN,ae,ao,eL,bQ,cJ,eV,cj,bJ,di,jb,ja,q,dN,ye,du,eC,jj];have:((rs.map fun r=>r.2).sum==0)=false:=by unfold ak at hs;simpa using hs
  exact g6 some this
theorem yI(h0:0≤c)(h:ky c rs)(hp:uz c ps):uz c (rs.foldl jU ps)∧(rs.foldl jU ps).length≤ps.length+rs.length:=by
  induction rs generalizing ps with
  |nil=>exact⟨hp,cu _⟩
  |cons r rs ih =>
   have hr:=h r de;have h1:uz c (jU ps r):=by
     unfold jU;split
     ·exact hp.put (AH h0 hr.1) (by have:=hp.get (gu r.1);omega)
     ·exact hp
   have h2:(jU ps r).length≤ps.length+1:=by
     unfold jU;split
     ·exact vL _ _ _
     ·omega
   obtain⟨a,b⟩:=ih (fun x hx=>h x (lJ _ hx)) h1;refine⟨a,?_⟩;rw[x4,mW];omega
theorem Uj(h6:c≤6){R:D}{x:aO×Int}(hx:(∀n∈x.1,0≤n∧n<c)∧0≤x.2)(hl:ps.length<10000)(o4:eO):∃Vc,gF [some (.sh R),some (.ot (ps.map enc)),some (.sh (.lst (x.1.map D.int))),some (.sh (.int x.2)),o4]=some (.nx [some (.sh R),some (.ot ((jU ps x).map enc)),some (.sh (.lst (x.1.map D.int))),some (.sh (.int x.2)),Vc]):=by
  unfold gF;by_cases q:0<x.2
  · have hs:zO (aJ 2) [some (.sh R),some (.ot (ps.map enc)),some (.sh (.lst (x.1.map D.int))),some (.sh (.int x.2)),o4]=some ((gu x.1).map D.int):=by
      have ha:(x.1.all fun n=>decide (0≤n)&&decide (n<6))=true:=iH.mpr fun n hn=>by have:=hx.1 n hn;simp;omega
      simp only[zO,aJ,cj,cN,bJ,du,ha,gx];unfold gu;rw[e8];rfl
    refine⟨some (.sh (.tup ((gu x.1).map D.int))),?_⟩;refine(rF (by simp[bV,ag,aJ,eC,va,q])).trans ?_;refine(aE (bG (d:=.tup ((gu x.1).map D.int)) ?_)).trans ?_
    ·simp only[ml,eL,hs,dN,bJ,di]
    ·have hp:=Ao ps (gu x.1) ((gP ps (gu x.1)).getD 0+x.2);simp only[ic,ie,rD,ag,wN,dT,aJ,eC,cj,cN,bJ,sW,sg,dN,GY,mv,hp,g9,hl,gx,jU,q]
  · refine⟨o4,?_⟩;refine(lS (by simp[bV,ag,aJ,eC,va];omega)).trans ?_;have:jU ps x=ps:=by unfold jU;rw[bh q]
    rw[this];rfl
theorem Js(h0:0≤c)(h6:c≤6)(h:ky c rs)(hl:rs.length≤1000):iS [.lst (rs.map dC)]=some (.ot ((qp rs).map enc)):=by
  obtain⟨η',e,o2,o3,o4,ha,rfl⟩:=kR (b:=lR 2 (cc (aD true 2) (cc (aD true 3) lQ))) (g:=gF) dC (fun i (ps:dq) η=>∃o2 o3 o4,ps.length≤i∧η=[some (.sh (.lst (rs.map dC))),some (.ot (ps.map enc)),o2,o3,o4]) jU (xs:=rs) (η:=[some (.sh (.lst (rs.map dC))),some (.ot []),none,none,none]) 0 [] ⟨_,_,_,qQ _,rfl⟩ (fun i x ps η hx ⟨o2,o3,o4,hp,e⟩=>by
    subst e;have hi:=(v9.mp hx).1;obtain⟨Vc,q⟩:=Uj h6 (R:=.lst (rs.map dC)) (x:=x) (h x (List.mem_of_getElem? hx)) (ps:=ps) (by omega) o4;refine⟨_,_,rfl,q,_,_,_,?_,rfl⟩;unfold jU;split
    ·exact pU (vL _ _ _) (by omega)
    ·omega)
  refine cD ?_;show kZ [some (.sh (.lst (rs.map dC))),none,none,none,none]=_;unfold kZ;refine(aE (show zB 1 _=some (.nx _) from rfl)).trans ?_;refine(aE ((fK (ds:=rs.map dC) rfl).trans e)).trans ?_;rfl
theorem Hk(t:aO):sR (t.map Sum.inl)=some t:=by
  induction t with
  |nil=>rfl
  |cons x t ih=>show(sR (t.map Sum.inl)).map (x::·)=_;rw[ih];rfl
theorem QP(ps:dq):vf iA (ps.map enc)=some (ps.map n5):=by
  induction ps with
  |nil=>rfl
  |cons p ps ih =>
   have e1:sR (enc p).1=some p.1:=Hk p.1;have e2:rL iA p.1=some (n5 p):=by unfold rL;rw[QM];simp only[fP,rk];rw[az (du _)];rfl
   rw[bY];unfold vf;rw[e1,bJ,e2,bJ,ih];rfl
theorem Ni(h1:1≤c)(h6:c≤6)(h:ky c rs)(hs:ak rs≠0)(hl:rs.length≤1000)(hk:(qp rs).length<64):iT [.int c,.lst (rs.map dC)]=some (.ol ((cK (qp rs)).map ah)):=by
  have hP:uz c (qp rs):=(yI (ps:=[]) (by omega) h ⟨List.nodup_nil,fun _ h=>nomatch h⟩).1;refine cD ?_;show qe [some (.sh (.int c)),some (.sh (.lst (rs.map dC))),none]=_;unfold qe;refine(aE (η':=[some (.sh (.int c)),some (.sh (.lst (rs.map dC))),none]) ?_).trans ?_
  ·simp only[xP,ax,ae,ao,eV,cj,bJ,dN,Ui h1 h6]
  refine(aE (η':=[some (.sh (.int c)),some (.sh (.lst (rs.map dC))),none]) ?_).trans ?_
  ·simp only[xP,ax,ae,ao,eV,cj,cN,bJ,dN,Nh h]
  refine(aE (η':=[some (.sh (.int c)),some (.sh (.lst (rs.map dC))),none]) ?_).trans ?_
  ·simp only[xP,ax,ae,ao,eV,cj,cN,bJ,dN,Hj h hs]
  refine(aE (η':=[some (.sh (.int c)),some (.sh (.lst (rs.map dC))),some (.ot ((qp rs).map enc))]) ?_).trans ?_
  ·simp only[Ko,ae,ao,eV,cj,cN,bJ,dN,Js (c:=c) (by omega) h6 h hl,ic,ie]
  refine fR ?_;have hn:((qp rs).map n5).Nodup∧((qp rs).map n5).length<64:=⟨vQ hP,by rw[g9];exact hk⟩
  have hq:cF (aD true 0) eP (fX (ae (eV 0) (ae (xN 1 (aJ 0)) ao))) ((hG ((qp rs).map n5)).map fun e=>D.tup (e.2.map D.int)) [none,some (.ot ((qp rs).map enc))]=some ((cK (qp rs)).map ah):=by
    unfold cK;rw[e8];refine eW (fun e:Int×aO=>D.tup (e.2.map D.int)) _ fun q hq=>⟨[some (.sh (.tup (q.2.map D.int))),some (.ot ((qp rs).map enc))],rfl,rfl,?_⟩
    obtain⟨m,_,h2,_⟩:=n8 hP hq;simp[fX,ae,ao,eV,aJ,xN,dT,sW,sg,h2,ah]
  simp only[bQ,cJ,eL,Ej,dT,cj,cN,bJ,QP,hn,and_self,gx,dN,di,jb,bY,ja,tf];exact hq
theorem QQ(ps:dq)(k k':aO)(m:Int):gP (mQ ps k m) k'=if k'=k then some m else gP ps k':=by
  unfold mQ;by_cases h:(ps.any fun p=>decide (p.1=k))=true
  · rw[az h];have h':k∈ps.map (·.1):=by
      obtain⟨p,h1,h2⟩:=Dl.mp h;exact i9.mpr ⟨p,h1,xY h2⟩
    clear h;induction ps with
    |nil=>nomatch h'
    |cons p ps ih =>
     rw[bY,jT,jT];by_cases e:p.1=k
     · rw[az e];by_cases e':k'=k
       ·rw[az e',az (by show p.1=k';rw[e,e'])]
       · rw[bh e',bh (show ¬ p.1=k' from fun z=>e' (z.symm.trans e)),bh (show ¬ p.1=k' from fun z=>e' (z.symm.trans e))];by_cases q:k∈ps.map (·.1)
         ·rw[ih q,bh e']
         · have:(ps.map fun p=>if p.1=k then(p.1,m) else p)=ps:=by
             refine(t8 fun x hx=>?_).trans (List.map_id _);exact bh fun z=>q (i9.mpr ⟨x,hx,z⟩)
           rw[this]
     · rw[bh e];have q:k∈ps.map (·.1):=by
         rcases gw.mp h' with z|z
         ·exact absurd z.symm e
         ·exact z
       rw[ih q];by_cases e':k'=k
       ·rw[az e',bh (show ¬ p.1=k' from fun z=>e (z.trans e')),az e']
       ·rw[bh e',bh e']
  · rw[bh h];have hn:k∉ps.map (·.1):=fun z=>h (by
      obtain⟨p,h1,h2⟩:=i9.mp z;exact Dl.mpr ⟨p,h1,nE h2⟩)
    clear h;induction ps with
    |nil =>
     rw[List.nil_append,jT];by_cases e':k'=k
     ·rw[az e',az e'.symm]
     ·rw[bh e',bh (show ¬ k=k' from fun z=>e' z.symm)]
    |cons p ps ih =>
     rw[List.cons_append,jT,jT,ih fun z=>hn (lJ _ z)];by_cases e':k'=k
     ·have:¬ p.1=k':=fun z=>hn (by rw[bY,←e',←z];exact de);rw[az e',bh this,az e']
     ·rw[bh e',bh e']
def eU(rs:dq)(k:aO):Int:=(rs.map fun r=>if gu r.1=k then r.2 else 0).sum
theorem Uk(h:ky c rs)(k:aO):∀(ps:dq) (s:Int),0≤s→gP ps k=(if 0<s then some s else none)→gP (rs.foldl jU ps) k=(if 0<s+eU rs k then some (s+eU rs k) else none):=by
  induction rs with
  |nil=>intro ps s _ e;simp only[List.foldl_nil,eU,ja,List.sum_nil,Int.add_zero];exact e
  |cons r rs ih =>
   intro ps s hs e;have h2:=(h r de).2;have e0:eU (r::rs) k=(if gu r.1=k then r.2 else 0)+eU rs k:=by unfold eU;rw[bY,wj]
   rw[x4,e0,←Int.add_assoc];refine ih (fun x hx=>h x (lJ _ hx)) _ _ (by split<;>omega) ?_;unfold jU;by_cases q:0<r.2
   · rw[az q,QQ];by_cases ek:gu r.1=k
     · have hv:(gP ps k).getD 0=s:=by
         rw[e];by_cases s0:0<s
         ·rw[az s0];rfl
         ·rw[bh s0];show(0:Int)=s;omega
       rw[az ek.symm,az ek,ek,hv,az (show 0<s+r.2 by omega)]
     ·rw[bh (fun z=>ek z.symm),bh ek,Int.add_zero];exact e
   · rw[bh q];have:r.2=0:=by omega
     rw[this,ite_self,Int.add_zero];exact e
theorem QR(h:ky c rs)(k:aO):gP (qp rs) k=(if 0<eU rs k then some (eU rs k) else none):=by have:=Uk h k [] 0 (Int.le_refl _) rfl;rw[Int.zero_add] at this;exact this
theorem mem_keys{k:aO}:k∈ps.map (·.1)↔gP ps k≠none:=by rw[Ne,xA];simp
theorem keys_perm{d:Int}{qs:dq}(hp:uz c ps)(hq:uz d qs)(h:∀k,gP ps k=gP qs k):(ps.map n5).Perm (qs.map n5):=by
  have:(ps.map (·.1)).Perm (qs.map (·.1)):=(List.perm_ext_iff_of_nodup hp.nd hq.nd).mpr fun k=>by rw[mem_keys,mem_keys,h]
  have e:∀l:dq,l.map n5=(l.map (·.1)).map fun k=>((k.length:Int),k):=fun l=>by rw[e8];rfl
  rw[e,e];exact this.map _
theorem Nj{d:Int}{qs:dq}(hp:uz c ps)(hq:uz d qs)(h:∀k,gP ps k=gP qs k):cK ps=cK qs:=by unfold cK;have e:hG (ps.map n5)=hG (qs.map n5):=u9 (vQ hp) ((iw _).trans (keys_perm hp hq h).symm) (zv (vQ hq));rw[e];exact t8 fun q _=>by rw[h]
theorem Ul(h0:0≤c)(h:ky c rs):∀{ps:dq},uz c ps→ak (rs.foldl jU ps)=ak ps+ak rs:=by
  induction rs with
  |nil=>intro ps _;simp[ak]
  |cons r rs ih =>
   intro ps hp;have hr:=h r de;have hr1:ky c [r]:=fun x hx=>by
     have e:x=r:=by simpa using hx
     rw[e];exact hr
   have h1:uz c (jU ps r):=(yI (rs:=[r]) h0 hr1 hp).1;rw[x4,ih (fun x hx=>h x (lJ _ hx)) h1];have e:ak (jU ps r)=ak ps+r.2:=by
     unfold jU;by_cases q:0<r.2
     ·rw[az q];exact KY hp _ _
     ·rw[bh q];omega
   rw[e];unfold ak;rw[bY,wj];omega
theorem Nk(h0:0≤c)(h:ky c rs):ak (cK (qp rs))=ak rs:=by have hP:=(yI (ps:=[]) h0 h ⟨List.nodup_nil,fun _ h=>nomatch h⟩).1;have e1:ak (cK (qp rs))=ak (qp rs):=Ap ((lV hP).map _);rw[e1];have:=Ul h0 h (ps:=[]) ⟨List.nodup_nil,fun _ h=>nomatch h⟩;show ak (rs.foldl jU [])=_;rw[this];simp[ak]
theorem uC(a b:dq)(k:aO):eU (a++b) k=eU a k+eU b k:=by unfold eU;rw[wg,List.sum_append]
theorem sv(a:aO×Int)(b:dq)(k:aO):eU (a::b) k=(if gu a.1=k then a.2 else 0)+eU b k:=by unfold eU;rw[bY,wj]
theorem CY(h:∀n∈ns,0≤n∧n<6)(n:Int):n∈gu ns↔n∈ns:=by
  unfold gu NS.nameSet;rw[i9];constructor
  ·rintro⟨k,hk,rfl⟩;exact yJ.mp (jw.mp hk).2
  ·intro hn;have:=h n hn;refine⟨n.toNat,jw.mpr ⟨mY.mpr (by omega),yJ.mpr ?_⟩,by omega⟩;rw[Int.toNat_of_nonneg this.1];exact hn
theorem Jt(c6:c≤6)(h:cP c ns):gu ns=ns:=by
  have h6:∀n∈ns,0≤n∧n<6:=fun n hn=>⟨(h.2 n hn).1,by have:=(h.2 n hn).2;omega⟩
  have hs:=AH (c:=6) (by decide) h6;have hp:(gu ns).Perm ns:=(List.perm_ext_iff_of_nodup (Jr hs) (Jr h)).mpr fun n=>CY h6 n;exact hp.eq_of_pairwise (le:=(·<·)) (fun a b _ _ h1 h2=>absurd h1 (by omega)) hs.1 h.1
theorem Lc{c:Int}:∀{ps:dq},uz c ps→∀k,gP ps k=(if 0<(ps.map fun h=>if h.1=k then h.2 else 0).sum then some (ps.map fun h=>if h.1=k then h.2 else 0).sum else none)
  |[],_,k=>rfl
  |p::ps,h,k=>by
   have hn:=h.nd;rw[bY,yL] at hn;have h':uz c ps:=⟨hn.2,fun y hy=>h.all y (lJ _ hy)⟩
   have ih:=Lc h' k;have hp:=(h.all p de).2;rw[jT,bY,wj];by_cases q:p.1=k
   · have e0:gP ps k=none:=xA.mpr (by rw[←q];exact hn.1);have e1:(ps.map fun h=>if h.1=k then h.2 else 0).sum=0:=by
       have hz:∀y∈ps,(if y.1=k then y.2 else 0)=0:=fun y hy=>by rw[bh fun e=>hn.1 (by rw[q,←e];exact List.mem_map_of_mem (f:=(·.1)) hy)]
       rw[t8 hz];clear ih hn h' h e0 hz;induction ps with
       |nil=>rfl
       |cons _ _ ih=>rw[bY,wj,ih];rfl
     rw[az q,az q,e1,az (by omega)];simp
   ·rw[bh q,bh q,Int.zero_add];exact ih
theorem QS{α:Type}(row:α→D)(nm:α→Int)(him:∀x,(row x).A6=true)(h0:∀x,iX (row x) (.int 0)=some (.int (nm x)))(l:List α):bI [.lst (l.map row)]=some (.ol ((l.map nm).map D.int)):=by
  refine cD ?_;show gI [some (.br (.lst (l.map row)))]=_;unfold gI;refine fR ?_;have q:cF (aD false 0) eP (ag iX (eV 0) (eC (.int 0))) (l.map row) (List.replicate 1 none++[])=some ((l.map nm).map D.int):=by
    rw[e8];refine eW row _ fun r _=>⟨[some (.br (row r))],rfl,rfl,?_⟩
    simp only[ag,eV,eC,cj,him,gx,bJ,h0,Function.comp]
  simp only[bQ,HX,cj,bJ,jb,ja,q]
structure t6 (Fo:dm→eO) (C:Addr) (c:Int) (H:D) (rows:dm) (names:aO):Prop where
  len:(names.length:Int)=c
  at_:Fo [.obj C,.int c,H]=some (.ol rows)
  nm:∀k:Nat,bI [.lst (rows.take k)]=some (.ol ((names.take k).map D.int))
  sok:Jn c names
  okd:(D.lst rows).ik 7=true
theorem AI{α:Type}{Fo:dm→eO}{H:D}(row:α→D)(nm:α→Int)(him:∀x,(row x).A6=true)(h0:∀x,iX (row x) (.int 0)=some (.int (nm x)))(ho:∀x,(row x).ik 6=true)(l:List α)(hl:(l.length:Int)=c)(h:Fo [.obj C,.int c,H]=some (.ol (l.map row)))(hs:Jn c (l.map nm)):t6 Fo C c H (l.map row) (l.map nm):=by
  refine⟨by rw[g9];exact hl,h,fun k=>?_,hs,?_⟩
  ·rw[←List.map_take,←List.map_take];exact QS row nm him h0 _
  ·rw[zG,List.all_map,iH];exact fun x _=>ho x
theorem QT(r:Int×Option Rat):(dR r).A6=true:=by unfold dR;rw[uR,mZ,sL,mZ,xB];rfl
theorem Ld(r:Int×Int):(cX r).ik 6=true:=by unfold cX;rw[wO];simp only[mZ,List.all_nil,zH,Bool.and_true]
theorem QV(x:Option Rat):(dW x).ik 5=true:=by
  cases x with
  |none=>show D.non.ik 5=true;rw[D.ik]
  |some r=>show(D.tup [.int r.num,.int (r.den:Int)]).ik 5=true;rw[wO];simp only[mZ,List.all_nil,zH,Bool.and_true]
theorem Um(r:Int×Option Rat):(dR r).ik 6=true:=by unfold dR;rw[wO,mZ,zH,mZ,QV];rfl
theorem Uo(t:Run c hs rows L rest):Jn c (rows.map fun r=>r.1)→Jn c ((rows++rest).map fun r=>r.1):=by
  induction t with
  |done h=>intro s;rw[uH];exact s
  |@step rows L P n y rest s hl e ey hn m1 m2 hL t ih =>
   intro k;have h1:Jn c ((rows++[(n,y)]).map fun r=>r.1):=by rw[wg];exact k.snoc hn
   have h2:=ih h1;rw[Dh] at h2;exact h2
theorem Le{c:Int}{hs:dq}:∀(k:Nat) {S:aO},Jn c S→(S.length:Int)+k=c→Jn c (M7 c hs k S)
  |0,S,h,e=>h
  |k+1,S,h,e=>Le k (h.snoc (CJ h (by omega))) (by simp;omega)
theorem Lf(c:Int):Jn c []:=⟨by simp,fun _ z=>nomatch z⟩
def qO(a:yi)(k:Int):Addr:=if k=0 then a.aZ else if k=1 then a.aR else a.aS
def EK(k:Int):dm→eO:=if k=0 then bS else if k=1 then bL else bK
theorem Ju{α:Type}{a:yi}(hA:xQ a)(k:Int)(x y w:α):List.lookup (qO a k) [(a.aZ,x),(a.aR,y),(a.aS,w)]=some (if k=0 then x else if k=1 then y else w):=by
  have h1:(a.aR==a.aZ)=false:=by simpa using fun e=>hA.Et e.symm
  have h2:(a.aS==a.aZ)=false:=by simpa using fun e=>hA.Eu e.symm
  have h3:(a.aS==a.aR)=false:=by simpa using fun e=>hA.BE e.symm
  unfold qO;by_cases h:k=0
  ·simp[h,List.lookup]
  · by_cases h':k=1
    ·simp[h',List.lookup,h1]
    ·simp[h,h',List.lookup,h2,h3]
theorem EL{α:Type}{a:yi}(hA:xQ a)(k:Int)(x:α):List.lookup (qO a k) [(a.aZ,x),(a.aR,x),(a.aS,x)]=some x:=by
  rw[Ju hA k x x x];split
  ·rfl
  ·split<;>rfl
theorem Uq(a:yi)(h0:0≤c)(c6:c≤6)(h6:∀x∈hs,x.1.length≤6)(hh:∀h∈hs,1≤h.2)(hN:ak hs≤2^105)(k:Int):∃rows names,t6 (EK k) (qO a k) c (.lst (hs.map ah)) rows names:=by
  unfold EK;by_cases h:k=0
  · rw[az h];refine⟨_,_,AI cX (fun r=>r.1) (fun _=>rfl) (fun _=>rfl) Ld _ (by rw[g9];exact Qz h0 hs) (Xo h0 c6 hs _) ?_⟩;have e:((Jp c hs).map fun n=>(n,nB hs n)).map (fun r=>r.1)=Jp c hs:=by
      rw[e8];exact(t8 fun n _=>rfl).trans (List.map_id _)
    rw[e];exact⟨(xD c hs).nodup_iff.mpr (CK c),fun n hn=>Jo.mp ((xD c hs).mem_iff.mp hn)⟩
  · rw[bh h];by_cases h':k=1
    · rw[az h'];refine⟨_,_,AI cX (fun r=>r.1) (fun _=>rfl) (fun _=>rfl) Ld _ ?_ (Qx h0 c6 h6 _) ?_⟩
      ·rw[n9,Hb];simp;omega
      ·rw[kx];exact Le _ (Lf c) (by simp;omega)
    · rw[bh h'];obtain⟨rest,t,hrl⟩:=Qv h0 c6 hh hN c.toNat (Qw h0 hh) (by simp;omega)
      refine⟨_,_,AI dR (fun r=>r.1) QT (fun _=>rfl) Um _ (by omega) (T9 h0 c6 hh hN _ t (by omega)) ?_⟩;exact Uo t (Lf c)
theorem Jv(ds:dm)(k:Nat):cutD ds none (some (k:Int))=ds.take k:=by
  unfold cutD;rw[HT.yR,HT.sD,List.drop_zero,Nat.sub_zero];by_cases h:k≤ds.length
  ·rw[Nat.min_eq_left h]
  ·rw[Nat.min_eq_right (by omega),Hq (cu _),Hq (by omega)]
theorem QW{a:yi}(hA:xQ a){k:Int}{H:D}{rows:dm}{names:aO}(o:t6 (EK k) (qO a k) c H rows names)(n1:1≤n)(n2:(n:Int)≤c):gp a [.obj (qO a k),.int c,H,.int (n:Int)]=some (.ol ((names.take n).map D.int)):=by
  refine cD ?_;show nY a [some (.sh (.obj (qO a k))),some (.sh (.int c)),some (.sh H),some (.sh (.int (n:Int)))]=_;unfold nY;refine(aE ((lS ?_).trans rfl)).trans ?_
  ·have e1:decide ((n:Int)<1)=false:=lL (by omega);have e2:decide ((n:Int)>c)=false:=lL (by omega);simp only[mj,bV,ag,aJ,eC,cj,cN,bJ,tV,va,e1,e2];rfl
  refine fR ?_;have lk':List.lookup (qO a k) [(a.aZ,bS),(a.aR,bL),(a.aS,bK)]=some (EK k):=Ju hA k bS bL bK;simp only[J7,eL,kN,lT,ax,eV,aJ,eC,tT,oB,ae,ao,cj,cN,bJ,dN,lk',o.at_,Jv,o.nm]
def tM(names:aO)(n:Nat):D:=.tup ((gK (names.take n)).map D.int)
theorem Lg{a:yi}(hA:xQ a){k:Int}{H:D}{rows:dm}{names:aO}(o:t6 (EK k) (qO a k) c H rows names)(c6:c≤6)(n1:1≤n)(n2:(n:Int)≤c):bF a [.obj (qO a k),.int c,H,.int (n:Int)]=some (.sh (tM names n)):=by
  refine cD ?_;show pq a [some (.sh (.obj (qO a k))),some (.sh (.int c)),some (.sh H),some (.sh (.int (n:Int)))]=_;unfold pq;refine j8 ?_;have hl:(names.take n).length<64:=by have:=o.len;rw[Dj];omega
  simp only[ml,eL,rC,lT,ax,eV,eC,ae,ao,cj,cN,bJ,dN,EL hA k,QW hA o n1 n2,rC.HZ,di,du,az hl];rfl
theorem QX(nd:ns.Nodup)(h:∀n∈ns,0≤n∧n<c):cP c (gK ns):=by refine⟨?_,fun n hn=>h n ((gA ns).mem_iff.mp hn)⟩;have nd':=(gA ns).nodup_iff.mpr nd;exact((zt ns).and nd').imp fun⟨h1,h2⟩=>by omega
theorem t6.set{Fo:dm→eO}{H:D}{rows:dm}{names:aO}(o:t6 Fo C c H rows names)(n:Nat):cP c (gK (names.take n)) :=
  QX (o.sok.nd.sublist (List.take_sublist _ _)) fun x hx=>o.sok.rg x (List.mem_of_mem_take hx)
theorem ER(t:aO)(n:Nat):(cR t).ik (n+1)=true:=by show(D.tup (t.map D.int)).ik (n+1)=true;rw[wO];exact S6 _ _
theorem QY(o:Option aO)(n:Nat):(lW o).ik (n+1)=true:=by
  cases o with
  |none=>show D.non.ik (n+1)=true;rw[D.ik]
  |some T=>exact ER T n
theorem Xy(x:Int×Int×Int)(n:Nat):(qo x).ik (n+1)=true:=by unfold qo;rw[wO];simp only[mZ,List.all_nil,zH,Bool.and_true]
theorem Xz(names:aO)(n m:Nat):(tM names n).ik (m+1)=true:=ER _ m
def vV(names:Int→aO)(n:Nat):D:=.lst [tM (names 0) n,tM (names 1) n,tM (names 2) n]
def cf(names:Int→aO)(c:Nat):dm:=(List.range c).map fun i=>vV names (i+1)
theorem QZ(names:Int→aO)(n:Nat):(vV names n).ik 7=true:=by unfold vV;rw[zG];simp only[mZ,List.all_nil,Xz _ _ 5,Bool.and_true]
theorem AJ{α:Type}{b:BF}{t:TF}{f:EF}{x y z u v w:D}(g:cQ→D→cQ)(hb:∀d,b d η=some (g η d))(ht:∀d,t (g η d)=some true)(h0:f (g η x)=some u)(h1:f (g η y)=some v)(h2:f (g η z)=some w):cF b t f [x,y,z] η=some [u,v,w]:=by simp only[cF,hb,ht,h0,h1,h2,bJ,gx,dN]
theorem CZ{a:yi}(hA:xQ a){c:Int}(c6:c≤6){H:D}{rows:Int→dm}{names:Int→aO}(o:∀k,t6 (EK k) (qO a k) c H (rows k) (names k))(p5 P:D)(T0:dm)(hT:T0.length=5):∀(k j:Nat),(j:Int)+k=c→∀o6:eO,∃Ji,ig (aD true 6) (vJ a) ((List.range' (j+1) k).map fun(i:Nat)=>D.int (i:Int)) [some (.sh (.int c)),some (.sh H),some (.sh P),some (.sh (.lst [.obj a.aZ,.obj a.aR,.obj a.aS])),some (.ol (T0++cf names j)),some (.sh p5),o6]=some (.nx [some (.sh (.int c)),some (.sh H),some (.sh P),some (.sh (.lst [.obj a.aZ,.obj a.aR,.obj a.aS])),some (.ol (T0++cf names (j+k))),some (.sh p5),Ji])
  |0,j,e,o6=>⟨o6,rfl⟩
  |k+1,j,e,o6=>by
   obtain⟨Ji,ih⟩:=CZ hA c6 o p5 P T0 hT k (j+1) (by omega) (some (.sh (.int ((j+1:Nat):Int))));refine⟨Ji,?_⟩;have e1:List.range' (j+1) (k+1)=(j+1)::List.range' (j+1+1) k:=by rw[List.range'_succ]
   rw[e1,bY];unfold ig;have hg:vJ a [some (.sh (.int c)),some (.sh H),some (.sh P),some (.sh (.lst [.obj a.aZ,.obj a.aR,.obj a.aS])),some (.ol (T0++cf names j)),some (.sh p5),some (.sh (.int ((j+1:Nat):Int)))]=some (.nx [some (.sh (.int c)),some (.sh H),some (.sh P),some (.sh (.lst [.obj a.aZ,.obj a.aR,.obj a.aS])),some (.ol (T0++cf names (j+1))),some (.sh p5),some (.sh (.int ((j+1:Nat):Int)))]):=by
     unfold vJ;have hb:∀k:Int,lT [(a.aZ,bF a),(a.aR,bF a),(a.aS,bF a)] (eV 0) (ae (eV 1) (ae (eV 2) (ae (eV 3) ao))) [some (.sh (.obj (qO a k))),some (.sh (.int c)),some (.sh H),some (.sh (.int ((j+1:Nat):Int)))]=some (tM (names k) (j+1)):=fun k=>by simp only[lT,ax,eV,eC,ae,ao,cj,cN,bJ,dN,EL hA k,Lg hA (o k) c6 (n:=j+1) (by omega) (by omega)]
     have q:cF (aD true 0) eP (lT [(a.aZ,bF a),(a.aR,bF a),(a.aS,bF a)] (eV 0) (ae (eV 1) (ae (eV 2) (ae (eV 3) ao)))) [.obj a.aZ,.obj a.aR,.obj a.aS] (List.replicate 1 none++[some (.sh (.int c)),some (.sh H),some (.sh (.int ((j+1:Nat):Int)))])=some [tM (names 0) (j+1),tM (names 1) (j+1),tM (names 2) (j+1)] :=
       AJ (α:=Nat) (fun _ d=>[some (.sh d),some (.sh (.int c)),some (.sh H),some (.sh (.int ((j+1:Nat):Int)))]) (fun _=>rfl) (fun _=>rfl) (hb 0) (hb 1) (hb 2)
     have hl:(T0++cf names j).length<10000:=by unfold cf;rw[kI,g9,List.length_range,hT];omega
     have er:cf names (j+1)=cf names j++[vV names (j+1)]:=by unfold cf;rw[List.range_succ,wg];rfl
     have hx:eL (bQ 1 [0,1,6] (cJ (eV 3)) (aD true 0) eP (lT [(a.aZ,bF a),(a.aR,bF a),(a.aS,bF a)] (eV 0) (ae (eV 1) (ae (eV 2) (ae (eV 3) ao))))) [some (.sh (.int c)),some (.sh H),some (.sh P),some (.sh (.lst [.obj a.aZ,.obj a.aR,.obj a.aS])),some (.ol (T0++cf names j)),some (.sh p5),some (.sh (.int ((j+1:Nat):Int)))]=some (vV names (j+1)):=by refine(g6 (Option.map D.lst) (?_:bQ 1 [0,1,6] _ _ _ _ _=some [tM (names 0) (j+1),tM (names 1) (j+1),tM (names 2) (j+1)])).trans rfl;exact q
     rw[er,←Dh];unfold dF;rw[hx];simp only[bJ,cj,cN,hl,gx,ic,ie]
   have nM:aD true 6 (.int ((j+1:Nat):Int)) [some (.sh (.int c)),some (.sh H),some (.sh P),some (.sh (.lst [.obj a.aZ,.obj a.aR,.obj a.aS])),some (.ol (T0++cf names j)),some (.sh p5),o6]=some [some (.sh (.int c)),some (.sh H),some (.sh P),some (.sh (.lst [.obj a.aZ,.obj a.aR,.obj a.aS])),some (.ol (T0++cf names j)),some (.sh p5),some (.sh (.int ((j+1:Nat):Int)))]:=rfl;rw[nM];simp only[bJ,hg];rw[ih,show j+1+k=j+(k+1) by omega]
theorem XA{a:yi}(hA:xQ a){cn:Nat}(n1:1≤cn)(n6:cn≤6)(h6:∀x∈hs,x.1.length≤6){rows:Int→dm}(o:∀k,t6 (EK k) (qO a k) (cn:Int) (.lst (hs.map ah)) (rows k) (names k)){p:Nat}(p1:1≤p)(p2:p≤cn):∃T0:dm,T0.length=5∧An a [.int (cn:Int),.lst (hs.map ah),.int (p:Int)]=some (.ol (T0++cf names cn))∧(D.lst (T0++cf names cn)).ik 8=true:=by
  have c0:(0:Int)≤(cn:Int):=by omega
  have c6:(cn:Int)≤6:=by omega
  obtain⟨b,hb⟩:∃b,b=gK ((names ((p:Int)%3)).take p):=⟨_,rfl⟩
  have hbs:cP (cn:Int) b:=by rw[hb];exact(o ((p:Int)%3)).set p
  obtain⟨mr,left,tr,he,HN,hlen⟩:=CP c6 (hs:=hs) 65 hbs (Nat.lt_succ_of_le (QF hs b));have hm:=QJ c0 c6 h6 hbs tr he (by omega);have Wd:=M9 n1 n6 hs (b:=b) (hbs.Rr c6);have jL:=Uh n1 n6 hs hbs;refine⟨[.lst (rows 0),.lst (rows 1),.lst (rows 2),.tup [.lst (mr.map qo),.tup (left.map D.int)],.lst [lW (pv cn hs b),lW (pA cn hs b)]],rfl,?_,?_⟩
  · refine cD ?_;show Ja a [some (.sh (.int (cn:Int))),some (.sh (.lst (hs.map ah))),some (.sh (.int (p:Int))),none,none,none,none]=_;unfold Ja;refine(aE (bG (d:=.lst [.obj a.aZ,.obj a.aR,.obj a.aS]) rfl)).trans ?_;simp only[ic,ie];have hq:∀k:Int,lT [(a.aZ,bS),(a.aR,bL),(a.aS,bK)] (eV 0) (ae (eV 1) (ae (eV 2) ao)) [some (.sh (.obj (qO a k))),some (.sh (.int (cn:Int))),some (.sh (.lst (hs.map ah)))]=some (.lst (rows k)):=fun k=>by
      have lk':List.lookup (qO a k) [(a.aZ,bS),(a.aR,bL),(a.aS,bK)]=some (EK k):=Ju hA k bS bL bK;simp only[lT,ax,eV,eC,ae,ao,cj,cN,bJ,dN,lk',(o k).at_]
    have q:cF (aD true 0) eP (lT [(a.aZ,bS),(a.aR,bL),(a.aS,bK)] (eV 0) (ae (eV 1) (ae (eV 2) ao))) [.obj a.aZ,.obj a.aR,.obj a.aS] (List.replicate 1 none++[some (.sh (.int (cn:Int))),some (.sh (.lst (hs.map ah)))])=some [.lst (rows 0),.lst (rows 1),.lst (rows 2)] :=
      AJ (α:=Nat) (fun _ d=>[some (.sh d),some (.sh (.int (cn:Int))),some (.sh (.lst (hs.map ah)))]) (fun _=>rfl) (fun _=>rfl) (hq 0) (hq 1) (hq 2)
    refine(aE (sQ (d:=[.lst (rows 0),.lst (rows 1),.lst (rows 2)]) ?_)).trans ?_
    ·exact q
    simp only[ic,ie];refine(aE (bG (d:=.tup (b.map D.int)) ?_)).trans ?_
    · have hix:ag iX (eV 3) (ag oz (aJ 2) (eC (.int 3))) [some (.sh (.int (cn:Int))),some (.sh (.lst (hs.map ah))),some (.sh (.int (p:Int))),some (.sh (.lst [.obj a.aZ,.obj a.aR,.obj a.aS])),some (.ol [.lst (rows 0),.lst (rows 1),.lst (rows 2)]),none,none]=some (.obj (qO a ((p:Int)%3))):=by
        have hm3:oz (.int (p:Int)) (.int 3)=some (.int ((p:Int)%3)):=mw rfl;have h3:(p:Int)%3=0∨(p:Int)%3=1∨(p:Int)%3=2:=by omega
        simp only[ag,eV,aJ,eC,cj,cN,bJ,hm3];rcases h3 with h|h|h<;>rw[h]<;>rfl
      have hbn:=Lg hA (o ((p:Int)%3)) c6 p1 (by omega);unfold lT;rw[hix];simp only[ax,eV,eC,ae,ao,cj,cN,bJ,dN,EL hA,hbn,tM,hb]
    simp only[ic,ie];refine(aE (η':=[some (.sh (.int (cn:Int))),some (.sh (.lst (hs.map ah))),some (.sh (.int (p:Int))),some (.sh (.lst [.obj a.aZ,.obj a.aR,.obj a.aS])),some (.ol [.lst (rows 0),.lst (rows 1),.lst (rows 2),.tup [.lst (mr.map qo),.tup (left.map D.int)]]),some (.sh (.tup (b.map D.int))),none]) ?_).trans ?_
    ·simp only[dF,ax,eV,ae,ao,cj,cN,bJ,dN,hm,mW,List.length_nil];rfl
    refine(aE (η':=[some (.sh (.int (cn:Int))),some (.sh (.lst (hs.map ah))),some (.sh (.int (p:Int))),some (.sh (.lst [.obj a.aZ,.obj a.aR,.obj a.aS])),some (.ol [.lst (rows 0),.lst (rows 1),.lst (rows 2),.tup [.lst (mr.map qo),.tup (left.map D.int)],.lst [lW (pv cn hs b),lW (pA cn hs b)]]),some (.sh (.tup (b.map D.int))),none]) ?_).trans ?_
    · have hx:eL (oR (ae (ax ko (ae (eV 0) (ae (eV 1) (ae (eV 5) ao)))) (ae (ax dr (ae (eV 0) (ae (eV 1) (ae (eV 5) ao)))) ao))) [some (.sh (.int (cn:Int))),some (.sh (.lst (hs.map ah))),some (.sh (.int (p:Int))),some (.sh (.lst [.obj a.aZ,.obj a.aR,.obj a.aS])),some (.ol [.lst (rows 0),.lst (rows 1),.lst (rows 2),.tup [.lst (mr.map qo),.tup (left.map D.int)]]),some (.sh (.tup (b.map D.int))),none]=some (.lst [lW (pv cn hs b),lW (pA cn hs b)]):=by
        simp only[eL,oR,ax,eV,ae,ao,cj,cN,bJ,dN,Wd,jL];rfl
      unfold dF;rw[hx];rfl
    obtain⟨o6,hlp⟩:=CZ hA c6 o (.tup (b.map D.int)) (.int (p:Int)) [.lst (rows 0),.lst (rows 1),.lst (rows 2),.tup [.lst (mr.map qo),.tup (left.map D.int)],.lst [lW (pv cn hs b),lW (pA cn hs b)]] rfl cn 0 (by omega) none;rw[show 0+cn=cn from Nat.zero_add cn] at hlp;refine(aE (η':=[some (.sh (.int (cn:Int))),some (.sh (.lst (hs.map ah))),some (.sh (.int (p:Int))),some (.sh (.lst [.obj a.aZ,.obj a.aR,.obj a.aS])),some (.ol ([.lst (rows 0),.lst (rows 1),.lst (rows 2),.tup [.lst (mr.map qo),.tup (left.map D.int)],.lst [lW (pv cn hs b),lW (pA cn hs b)]]++cf names cn)),some (.sh (.tup (b.map D.int))),o6]) ?_).trans rfl;have hr:oC (eC (.int 1)) (ag mq (aJ 0) (eC (.int 1))) [some (.sh (.int (cn:Int))),some (.sh (.lst (hs.map ah))),some (.sh (.int (p:Int))),some (.sh (.lst [.obj a.aZ,.obj a.aR,.obj a.aS])),some (.ol [.lst (rows 0),.lst (rows 1),.lst (rows 2),.tup [.lst (mr.map qo),.tup (left.map D.int)],.lst [lW (pv cn hs b),lW (pA cn hs b)]]),some (.sh (.tup (b.map D.int))),none]=some ((List.range' (0+1) cn).map fun(i:Nat)=>D.int (i:Int)):=by
      have h4:(cn:Int)+1≤10000∧-10000≤(cn:Int)+1∧(1:Int)≤10000∧(-10000:Int)≤1:=by omega
      have e:((cn:Int)+1-1).toNat=cn:=by omega
      simp only[oC,ag,eC,aJ,cj,cN,bJ,mv,h4,and_self,gx,e];unfold dk;rw[List.range'_eq_map_range,e8];refine g6 some (t8 fun i _=>?_);show D.int (1+(i:Int))=D.int (((0+1+i:Nat)):Int)
      congr 1
    exact(g6 (Option.bind · _) hr).trans hlp
  · rw[zG,List.all_append,t9];constructor
    · have e1:(D.tup [.lst (mr.map qo),.tup (left.map D.int)]).ik 7=true:=by
        rw[wO,mZ,zG,List.all_map,mZ,List.all_nil,Bool.and_true,t9];exact⟨iH.mpr fun x _=>Xy x 4,ER left 5⟩
      have e2:(D.lst [lW (pv cn hs b),lW (pA cn hs b)]).ik 7=true:=by rw[zG];simp only[mZ,List.all_nil,QY _ 5,Bool.and_true]
      simp only[mZ,List.all_nil,(o 0).okd,(o 1).okd,(o 2).okd,e1,e2,Bool.and_true]
    ·unfold cf;rw[List.all_map,iH];exact fun i _=>QZ names (i+1)
def oM(x:Int)(i:Nat)(m:Int):Int:=pR x (i:Int)%(m+1)
def vW(x:Int)(i:Nat)(h:aO×Int):dq:=[(h.1,oM x i h.2),(h.1.reverse,h.2-oM x i h.2),(h.1.take 1,0)]
def gS(x:Int):Nat→dq→dq
  |_,[]=>[]
  |i,h::l=>vW x i h++gS x (i+1) l
theorem Q0(x:Int)(i:Nat){m:Int}(h:1≤m):0≤oM x i m∧oM x i m≤m:=by unfold oM;have h1:=Bc (pR x (i:Int)) (show m+1≠0 by omega);have h2:=Fy (pR x (i:Int)) (show 0<m+1 by omega);omega
theorem Jw(c6:c≤6)(hs:cP c ns)(hm:∀n,n∈ms↔n∈ns):gu ms=ns:=by
  have r:∀n∈ms,0≤n∧n<c:=fun n hn=>hs.2 n ((hm n).mp hn);have c0:0≤c∨c<0:=by omega
  rcases c0 with c0|c0
  · have h1:=AH c0 r;have key:∀{l l':aO},l.Pairwise (·<·)→l'.Pairwise (·<·)→(∀n,n∈l↔n∈l')→l=l':=fun {l l'} p p' e =>
      List.Perm.eq_of_pairwise (le:=fun a b:Int=>a<b) (fun a b _ _ h1 h2=>by omega) p p' ((List.perm_ext_iff_of_nodup (p.imp fun h=>by omega) (p'.imp fun h=>by omega)).mpr e)
    refine key h1.1 hs.1 fun n=>?_;rw[CY (fun n hn=>by have:=r n hn;omega),hm]
  · have e:ns=[]:=by
      cases q:ns with
      |nil=>rfl
      |cons y l=>have:=hs.2 y (by rw[q];exact de);omega
    have e2:ms=[]:=by
      cases q:ms with
      |nil=>rfl
      |cons y l=>have:=r y (by rw[q];exact de);omega
    rw[e,e2];rfl
theorem Dc{c:Int}(c6:c≤6)(x:Int):∀(l:dq) (i:Nat),(∀h∈l,cP c h.1∧1≤h.2)→ky c (gS x i l)∧(gS x i l).length=3*l.length∧∀k,eU (gS x i l) k=(l.map fun h=>if h.1=k then h.2 else 0).sum
  |[],i,_=>⟨(fun _ z=>nomatch z),rfl,fun _=>rfl⟩
  |h::l,i,hh=>by
   obtain⟨h1,h2,h3⟩:=Dc c6 x l (i+1) fun y hy=>hh y (lJ _ hy);obtain⟨hs,hm⟩:=hh h de;obtain⟨p1,p2⟩:=Q0 x i hm;refine⟨fun r hr=>?_,?_,fun k=>?_⟩
   · rcases mX.mp (show r∈vW x i h++gS x (i+1) l from hr) with hr|hr
     · unfold vW at hr;simp only[gw,List.not_mem_nil,or_false] at hr;rcases hr with rfl|rfl|rfl
       ·exact⟨hs.2,p1⟩
       ·refine⟨fun n hn=>hs.2 n (List.mem_reverse.mp hn),?_⟩;show 0≤h.2-oM x i h.2;omega
       ·exact⟨fun n hn=>hs.2 n (List.mem_of_mem_take hn),Int.le_refl _⟩
     ·exact h1 r hr
   ·show(vW x i h++gS x (i+1) l).length=_;rw[kI,h2,mW];show 3+_=_;omega
   · show eU (vW x i h++gS x (i+1) l) k=_;rw[uC,h3,bY,wj];unfold vW;have e1:gu h.1=h.1:=Jt c6 hs;have e2:gu h.1.reverse=h.1:=Jw c6 hs fun n=>List.mem_reverse;have e0:eU [] k=0:=rfl;rw[sv,sv,sv,e0];show(if gu h.1=k then oM x i h.2 else 0)+((if gu h.1.reverse=k then h.2-oM x i h.2 else 0)+((if gu (h.1.take 1)=k then(0:Int) else 0)+0))+_=_;rw[e1,e2];have e4:(if gu (h.1.take 1)=k then(0:Int) else 0)=0:=by split<;>rfl
     rw[e4];by_cases q:h.1=k
     ·rw[az q,az q,az q];omega
     ·rw[bh q,bh q,bh q];omega
theorem Nm{S:D}(x:Int){h:aO×Int}(hi:hs[i]?=some h)(hm:1≤h.2)(rs:dq)(hl:rs.length≤1000)(o4 o5 o6 o7:eO):vF [some (.sh (.lst (hs.map ah))),some (.sh (.int x)),some (.ol (rs.map dC)),some (.sh (.int (i:Int))),o4,o5,o6,o7]=some (.nx [some (.sh (.lst (hs.map ah))),some (.sh (.int x)),some (.ol ((rs++vW x i h).map dC)),some (.sh (.int (i:Int))),o4,some (.sh (.int (oM x i h.2))),some (.sh (.tup (h.1.map D.int))),some (.sh (.int h.2))]):=by
  unfold vF;have a1:qy (hs.map ah) (i:Int)=some (ah h):=uI (by rw[qG,hi];rfl)
  refine(aE (η':=[some (.sh (.lst (hs.map ah))),some (.sh (.int x)),some (.ol (rs.map dC)),some (.sh (.int (i:Int))),o4,o5,some (.sh (.tup (h.1.map D.int))),some (.sh (.int h.2))]) ?_).trans ?_
  ·simp only[Ts,ag,eV,aJ,cj,cN,bJ,S4,a1];rfl
  have adA:qI (pR x (i:Int)) (h.2+1)=true:=Ec (by omega);refine(aE (bG (d:=.int (oM x i h.2)) ?_)).trans ?_
  ·simp only[ag,ax,eV,aJ,eC,ae,ao,cj,cN,bJ,dN,yH,mv,mw adA,oM]
  simp only[ic,ie];have hap:∀{f:EF} {ds:dm} {d:D} {Rz:eO},ds.length≤9000→f [some (.sh (.lst (hs.map ah))),some (.sh (.int x)),some (.ol ds),some (.sh (.int (i:Int))),o4,Rz,some (.sh (.tup (h.1.map D.int))),some (.sh (.int h.2))]=some d→dF 2 f [some (.sh (.lst (hs.map ah))),some (.sh (.int x)),some (.ol ds),some (.sh (.int (i:Int))),o4,Rz,some (.sh (.tup (h.1.map D.int))),some (.sh (.int h.2))]=some (.nx [some (.sh (.lst (hs.map ah))),some (.sh (.int x)),some (.ol (ds++[d])),some (.sh (.int (i:Int))),o4,Rz,some (.sh (.tup (h.1.map D.int))),some (.sh (.int h.2))]):=fun {f ds d Rz} Gg hf=>by
    have adC:ds.length<10000:=by omega
    unfold dF;rw[hf];simp only[bJ,cj,cN,adC,gx,ic,ie]
  refine(aE (hap (d:=dC (h.1,oM x i h.2)) (by rw[g9];omega) rfl)).trans ?_;refine(aE (hap (d:=dC (h.1.reverse,h.2-oM x i h.2)) (by rw[kI,g9];simp;omega) ?_)).trans ?_
  ·simp only[fX,ae,ao,eL,Kx,eV,aJ,ag,cj,cN,bJ,dN,Ia];simp only[dC,List.map_reverse];rfl
  refine(hap (d:=dC (h.1.take 1,0)) (by rw[kI,kI,g9];simp;omega) ?_).trans ?_
  · have adD:cutD (h.1.map D.int) none (some 1)=(h.1.take 1).map D.int:=by
      have:=Jv (h.1.map D.int) 1;rw[←List.map_take] at this;exact this
    simp only[fX,ae,ao,eL,kN,Gb,eV,eC,tT,oB,di,cj,cN,bJ,dN,adD];rfl
  ·unfold vW;simp only[wg,bY,ja,Dh,List.cons_append,List.nil_append]
theorem Dd(x:Int){hs:dq}(hh:∀h∈hs,1≤h.2)(hl:hs.length≤63)(o4:eO):∀(post pre:dq),hs=pre++post→∀(rs:dq) (o3 o5 o6 o7:eO),rs.length=3*pre.length→∃o3' Rz Ji Qq,ig (aD true 3) vF ((List.range' pre.length post.length).map fun(i:Nat)=>D.int (i:Int)) [some (.sh (.lst (hs.map ah))),some (.sh (.int x)),some (.ol (rs.map dC)),o3,o4,o5,o6,o7]=some (.nx [some (.sh (.lst (hs.map ah))),some (.sh (.int x)),some (.ol ((rs++gS x pre.length post).map dC)),o3',o4,Rz,Ji,Qq])
  |[],pre,e,rs,o3,o5,o6,o7,_=>⟨o3,o5,o6,o7,by show _=some (Out.nx [_,_,some (.ol ((rs++[]).map dC)),_,_,_,_,_]);rw[uH];rfl⟩
  |h::post,pre,e,rs,o3,o5,o6,o7,hr=>by
   have hlen:=g6 List.length e;rw[kI,mW] at hlen;have hi:hs[pre.length]?=some h:=by rw[e,Fu (cu _),Nat.sub_self];rfl
   have hb:=Nm (S:=.non) x hi (hh h (by rw[e];simp)) rs (by omega) o4 o5 o6 o7;have e1:(pre++[h]).length=pre.length+1:=by simp
   obtain⟨a,b,d,f,ih⟩:=Dd x hh hl o4 post (pre++[h]) (by rw[e];simp) (rs++vW x pre.length h) (some (.sh (.int ((pre.length:Nat):Int)))) (some (.sh (.int (oM x pre.length h.2)))) (some (.sh (.tup (h.1.map D.int)))) (some (.sh (.int h.2))) (by rw[kI,hr,e1];show _+3=_;omega);rw[e1] at ih;refine⟨a,b,d,f,?_⟩;have e2:List.range' pre.length (h::post).length=pre.length::List.range' (pre.length+1) post.length:=by rw[mW,List.range'_succ]
   rw[e2,bY];unfold ig;have nM:aD true 3 (.int ((pre.length:Nat):Int)) [some (.sh (.lst (hs.map ah))),some (.sh (.int x)),some (.ol (rs.map dC)),o3,o4,o5,o6,o7]=some [some (.sh (.lst (hs.map ah))),some (.sh (.int x)),some (.ol (rs.map dC)),some (.sh (.int ((pre.length:Nat):Int))),o4,o5,o6,o7]:=rfl;rw[nM];simp only[bJ,hb];rw[ih,Dh];rfl
def AK{α:Type}(l:List α)(k:Nat):List α:=l.drop k++l.take k
theorem XB(x:Int)(hh:∀h∈hs,1≤h.2)(hl:hs.length≤63)(hk:(gS x 0 hs).length=3*hs.length):∃k:Nat,xt [.lst (hs.map ah),.int x]=some (.ol ((AK (gS x 0 hs) k).map dC)):=by
  obtain⟨o3,o5,o6,o7,e⟩:=Dd x hh hl none hs [] rfl [] none none none none rfl;have hmc:qI x (((gS x 0 hs).length:Int)+1)=true:=Ec (by omega);have hn:=Bc x (show((gS x 0 hs).length:Int)+1≠0 by omega);refine⟨(x%(((gS x 0 hs).length:Int)+1)).toNat,cD ?_⟩;show IZ [some (.sh (.lst (hs.map ah))),some (.sh (.int x)),none,none,none,none,none,none]=_;unfold IZ;refine(aE (sQ (d:=[]) rfl)).trans ?_;simp only[ic,ie];refine(aE (η':=[some (.sh (.lst (hs.map ah))),some (.sh (.int x)),some (.ol ((gS x 0 hs).map dC)),o3,none,o5,o6,o7]) ?_).trans ?_
  · have hr:eF (jN dS (ae (aJ 0) ao)) [some (.sh (.lst (hs.map ah))),some (.sh (.int x)),some (.ol []),none,none,none,none,none]=some ((List.range' 0 hs.length).map fun(i:Nat)=>D.int (i:Int)):=by
      have h1:((hs.length:Nat):Int)≤10000∧-10000≤((hs.length:Nat):Int):=by omega
      simp only[eF,jN,dS,aJ,ae,ao,cj,cN,bJ,dN,g9,h1,and_self,gx,Int.toNat_natCast];unfold dk;rw[←List.range_eq_range'];refine g6 some (t8 fun i _=>?_);show D.int (0+(i:Int))=_;rw[Int.zero_add]
    exact(g6 (Option.bind · _) hr).trans e
  refine(aE (bG (d:=.int (x%(((gS x 0 hs).length:Int)+1))) ?_)).trans ?_
  ·simp only[ag,jN,dS,aJ,eC,ae,ao,cj,cN,bJ,dN,g9,mv,mw hmc]
  simp only[ic,ie];obtain⟨k,hkk⟩:∃k:Nat,x%(((gS x 0 hs).length:Int)+1)=(k:Int):=⟨(x%(((gS x 0 hs).length:Int)+1)).toNat,by omega⟩
  rw[hkk,Int.toNat_natCast];have Wd:cutD ((gS x 0 hs).map dC) (some (k:Int)) none=((gS x 0 hs).drop k).map dC:=by
    unfold cutD;rw[HT.yR,HT.sD,g9,←List.map_drop,←List.map_take]
    congr 1
    by_cases hk':k≤(gS x 0 hs).length
    ·rw[Nat.min_eq_left hk'];exact Hq (by rw[List.length_drop];omega)
    ·rw[Nat.min_eq_right (by omega),List.drop_of_length_le (cu _),List.drop_of_length_le (show(gS x 0 hs).length≤k by omega)];simp
  have hhi:cutD ((gS x 0 hs).map dC) none (some (k:Int))=((gS x 0 hs).take k).map dC:=by rw[Jv,←List.map_take]
  have hz:(((gS x 0 hs).drop k).map dC).length+(((gS x 0 hs).take k).map dC).length≤10000:=by rw[g9,g9,List.length_drop,Dj];omega
  simp only[wI,D6,kG,yf,eL,kN,eV,aJ,tT,oB,cj,cN,ic,ie,bJ,dN,Wd,hhi,HP,hz,gx];unfold AK;rw[wg]
theorem Q5(l:dq)(k:Nat)(q:aO):eU (AK l k) q=eU l q:=by unfold AK;have:=uC (l.take k) (l.drop k) q;rw[List.take_append_drop] at this;rw[uC,this];omega
theorem Nn{l:dq}(h:ky c l)(k:Nat):ky c (AK l k):=fun r hr=>by
  rcases mX.mp (show r∈l.drop k++l.take k from hr) with z|z
  ·exact h r (List.mem_of_mem_drop z)
  ·exact h r (List.mem_of_mem_take z)
theorem Q6{α:Type}(l:List α)(k:Nat):(AK l k).length=l.length:=by unfold AK;rw[kI,List.length_drop,Dj];omega
theorem Jx(c0:0≤c)(hP:uz c ps)(hl:ps.length≤63)(iJ:cK ps≠[])(a:ky c rs)(d:∀k,eU rs k=((cK ps).map fun h=>if h.1=k then h.2 else 0).sum):ak rs≠0∧(qp rs).length<64∧cK (qp rs)=cK ps:=by
  have Hl:=lV hP;have tD:∀h∈cK ps,cP c h.1∧1≤h.2:=fun h hh=>hP.all h (Hl.mem_iff.mp hh);have hT:uz c (qp rs):=(yI (ps:=[]) c0 a ⟨List.nodup_nil,fun _ h=>nomatch h⟩).1;have Te:∀k,gP (qp rs) k=gP ps k:=fun k=>by
    have e:eU rs k=(ps.map fun h=>if h.1=k then h.2 else 0).sum:=by rw[d k];exact Ap (Hl.map _)
    rw[QR a k,Lc hP k,e]
  have he:=Nj hT hP Te;have hkp:=(keys_perm hT hP Te).length_eq;rw[g9,g9] at hkp;refine⟨?_,by omega,he⟩;have e:=Nk c0 a;rw[he] at e;rw[←e];have key:∀{l:dq},(∀h∈l,cP c h.1∧1≤h.2)→(l.length:Int)≤ak l:=by
    intro l;induction l with
    |nil=>intro _;exact Int.le_refl _
    |cons y l ih =>
     intro hy;have h1:=ih fun z hz=>hy z (lJ _ hz);have h2:=(hy y de).2;have e:ak (y::l)=y.2+ak l:=by unfold ak;rw[bY,wj]
     rw[mW,e];omega
  have h1:=key tD;have h2:1≤(cK ps).length:=by
    cases q:cK ps with
    |nil=>exact absurd q iJ
    |cons _ _=>simp
  omega
theorem Q7(c1:1≤c)(c6:c≤6)(hP:uz c ps)(hl:ps.length≤63)(iJ:cK ps≠[])(x:Int):∃R:dm,xt [.lst ((cK ps).map ah),.int x]=some (.ol R)∧iT [.int c,.lst R]=some (.ol ((cK ps).map ah)):=by
  have Hl:=lV hP;have tD:∀h∈cK ps,cP c h.1∧1≤h.2:=fun h hh=>hP.all h (Hl.mem_iff.mp hh);have hlen:(cK ps).length≤63:=by rw[Hl.length_eq];exact hl
  obtain⟨a,b,d⟩:=Dc c6 x (cK ps) 0 tD;obtain⟨k,hk⟩:=XB x (fun h hm=>(tD h hm).2) hlen b;have a':=Nn a k;obtain⟨m1,m2,m3⟩:=Jx (by omega) hP hl iJ a' fun q=>by rw[Q5];exact d q
  have hof:=Ni c1 c6 a' m1 (by rw[Q6,b];omega) m2;rw[m3] at hof;exact⟨_,hk,hof⟩
theorem Jy(c6:c≤6)(hh:∀x∈hs,cP c x.1)(hl:hs.length≤1000):gJ 6 [.lst (hs.map ah),.lst (hs.map ah)]=some (.sh (.bl true)):=by
  refine QB (by rw[g9];exact hl) fun y hy=>?_;obtain⟨h,hm,rfl⟩:=i9.mp hy;refine Hd (n:=4) (by simp) fun z hz=>?_;rcases gw.mp hz with rfl|hz
  ·refine Hd (n:=3) (by rw[g9];have:=(hh h hm).Rr c6;omega) fun u hu=>?_;obtain⟨n,_,rfl⟩:=i9.mp hu;exact same_int 2 n
  · have e:z=.int h.2:=by simpa using hz
    rw[e];exact same_int 3 _
theorem Np(names:Int→aO){c:Nat}(h:i<c):(cf names c)[i]?=some (vV names (i+1)):=by unfold cf;rw[qG,List.getElem?_range h];rfl
theorem Lh{T0:dm}(hT:T0.length=5){c p:Nat}(p1:1≤p)(p2:p≤c):qy (T0++cf names c) ((4+p:Nat):Int)=some (vV names p):=by refine uI ?_;rw[Fu (by omega),hT,show 4+p-5=p-1 by omega,Np names (by omega),show p-1+1=p by omega]
theorem Q8(names:Int→aO)(n:Nat){k:Int}(hk:k=0∨k=1∨k=2):qy [tM (names 0) n,tM (names 1) n,tM (names 2) n] k=some (tM (names k) n):=by rcases hk with rfl|rfl|rfl<;>rfl
def Fs(S:D)(c:Int)(hs:dq)(d:Int)(T:dm)(o7 o8 o9 sm:eO):cQ :=
  [some (.sh S),some (.sh (.int c)),some (.sh (.lst (hs.map ah))),some (.sh (.lst (hs.map ah))),some (.sh (.lst (hs.map ah))),some (.sh (.int d)),some (.sh (.lst T)),o7,o8,o9,sm]
theorem Ur{lf:LF}(h:lf η=some []):bV (ag Nt (jN dS (ae (eL lf) ao)) (eC (.int 0))) η=some false:=by simp only[bV,ag,jN,ae,ao,eL,eC,h,dN,bJ,dS];rfl
theorem Us(a:yi){Fo:Int→dm→eO}{C:Int→Addr}{c:Nat}{H:D}{rows:Int→dm}(o:∀k,t6 (Fo k) (C k) (c:Int) H (rows k) (names k)){T0:dm}(hT:T0.length=5)(S:D)(hs:dq)(d:Int){p:Nat}(p1:1≤p)(p2:p<c){k:Int}(hk:k=0∨k=1∨k=2)(o9 sm:eO):sU a (Fs S (c:Int) hs d (T0++cf names c) (some (.sh (.int (p:Int)))) (some (.sh (.int k))) o9 sm)=some (.nx (Fs S (c:Int) hs d (T0++cf names c) (some (.sh (.int (p:Int)))) (some (.sh (.int k))) (some (.sh (tM (names k) p))) (some (.sh (tM (names k) (p+1)))))):=by
  unfold sU;have t1:=Lh (names:=names) hT p1 (Nat.le_of_lt p2);have t2:=Lh (names:=names) (c:=c) hT (p:=p+1) (by omega) (by omega);have e4:(4:Int)+(p:Int)=((4+p:Nat):Int):=by omega
  have e5:(5:Int)+(p:Int)=((4+(p+1):Nat):Int):=by omega
  refine(aE (bG (d:=tM (names k) p) ?_)).trans ?_
  ·simp only[Fs,ag,eV,aJ,eC,cj,cN,bJ,mv,S4,e4,t1,vV,Q8 names p hk]
  refine(aE (bG (d:=tM (names k) (p+1)) ?_)).trans ?_
  ·simp only[Fs,ag,eV,aJ,eC,ic,ie,cj,cN,bJ,mv,S4,e5,t2,vV,Q8 names (p+1) hk]
  unfold Fs;simp only[ic,ie];refine(lS ?_).trans rfl;have Td:∀n∈gK ((names k).take p),n∈gK ((names k).take (p+1)):=fun n hn=>by
    have hn:=(gA _).mem_iff.mp hn;refine(gA _).mem_iff.mpr ?_;have e:(names k).take p=((names k).take (p+1)).take p:=by rw[List.take_take,Nat.min_eq_left (by omega)]
    rw[e] at hn;exact List.mem_of_mem_take hn
  have q:cF (aD true 0) (bV (ag (inD true) (aJ 0) (aJ 1))) (eV 0) ((gK ((names k).take p)).map D.int) (List.replicate 1 none++[some (.sh (tM (names k) (p+1)))])=some (((gK ((names k).take p)).filter fun n=>!(gK ((names k).take (p+1))).contains n).map D.int):=by
    refine dw D.int (fun n=>!(gK ((names k).take (p+1))).contains n) D.int fun n _=>⟨[some (.sh (.int n)),some (.sh (tM (names k) (p+1)))],rfl,?_,fun _=>rfl⟩
    have hi:=rE (n:=n) (S:=tM (names k) (p+1)) (ms:=gK ((names k).take (p+1))) rfl;simp only[bV,ag,aJ,cj,cN,bJ,hi]
  have WK:((gK ((names k).take p)).filter fun n=>!(gK ((names k).take (p+1))).contains n)=[]:=by rw[List.filter_eq_nil_iff];intro n hn;have:=yJ.mpr (Td n hn);rw[this];decide
  rw[WK] at q;have hlen:(((gK ((names k).take (p+1))).map D.int).length:Int)=(p:Int)+1:=by have:=(o k).len;rw[g9,(gA _).length_eq,Dj];omega
  have e1:bV (ag Nt (jN dS (ae (eL (bQ 1 [10] (cJ (eV 9)) (aD true 0) (bV (ag (inD true) (aJ 0) (aJ 1))) (eV 0))) ao)) (eC (.int 0))) [some (.sh S),some (.sh (.int (c:Int))),some (.sh (.lst (hs.map ah))),some (.sh (.lst (hs.map ah))),some (.sh (.lst (hs.map ah))),some (.sh (.int d)),some (.sh (.lst (T0++cf names c))),some (.sh (.int (p:Int))),some (.sh (.int k)),some (.sh (tM (names k) p)),some (.sh (tM (names k) (p+1)))]=some false:=by have hc:bQ 1 [10] (cJ (eV 9)) (aD true 0) (bV (ag (inD true) (aJ 0) (aJ 1))) (eV 0) [some (.sh S),some (.sh (.int (c:Int))),some (.sh (.lst (hs.map ah))),some (.sh (.lst (hs.map ah))),some (.sh (.lst (hs.map ah))),some (.sh (.int d)),some (.sh (.lst (T0++cf names c))),some (.sh (.int (p:Int))),some (.sh (.int k)),some (.sh (tM (names k) p)),some (.sh (tM (names k) (p+1)))]=some []:=q;exact Ur hc
  have e2:bV (ag qJ (jN dS (ae (aJ 10) ao)) (ag mq (aJ 7) (eC (.int 1)))) [some (.sh S),some (.sh (.int (c:Int))),some (.sh (.lst (hs.map ah))),some (.sh (.lst (hs.map ah))),some (.sh (.lst (hs.map ah))),some (.sh (.int d)),some (.sh (.lst (T0++cf names c))),some (.sh (.int (p:Int))),some (.sh (.int k)),some (.sh (tM (names k) p)),some (.sh (tM (names k) (p+1)))]=some false:=by simp only[bV,ag,jN,dS,tM,aJ,eC,ae,ao,cj,cN,bJ,dN,mv,hlen,Ee];simp
  unfold mj;rw[e1,e2];rfl
theorem Q9(a:yi)(hA:xQ a)(ns:aO)(hl:ns.length≤63):ED a [.lst (ns.map D.int)]=some (.sh (.bl true)):=by
  have hr:∀(j:Int) (k:Nat),j=(k:Int)→e7 [.lst (ns.map D.int),.int j]=some (.sh (.int (ns.getD k 0))):=fun j k e=>by rw[e];exact Qk ns k
  have hm6:∀y,qI y 6=true:=fun y=>rfl;have h1:=Bc (ns.getD 0 0) (show(6:Int)≠0 by decide);have h2:=Fy (ns.getD 0 0) (show(0:Int)<6 by decide);obtain⟨cn,hc⟩:∃cn:Nat,(cn:Int)=1+ns.getD 0 0%6:=⟨(1+ns.getD 0 0%6).toNat,by omega⟩
  have n1:1≤cn:=by omega
  have n6:cn≤6:=by omega
  have c1:(1:Int)≤(cn:Int):=by omega
  have c6:(cn:Int)≤6:=by omega
  have h0:(0:Int)≤(cn:Int):=by omega
  obtain⟨hs,eh,cY,ps,hP,Tf,tq,hSm⟩:=TR ns 4 12 c1 c6 hl (by decide);have hhs:∀x∈hs,cP (cn:Int) x.1:=fun x hx=>(cY.all x hx).1;have h6:∀x∈hs,x.1.length≤6:=fun x hx=>(cY.all x hx).1.Rr c6;have hh:∀h∈hs,1≤h.2:=fun h hm=>(cY.all h hm).2;have hsl:hs.length≤63:=by rw[Tf,(lV hP).length_eq];exact tq
  have iJ:cK ps≠[]:=by rw[←Tf];exact cY.ne
  have hN:ak hs≤2^105:=by
    have e:ak hs=ak ps:=by rw[Tf];exact Ap ((lV hP).map _)
    rw[e];refine Int.le_trans hSm ?_;decide +kernel
  have XC:=Uq a h0 c6 h6 hh hN;obtain⟨rows,names,o⟩:∃(rows:Int→dm) (names:Int→aO),∀k,t6 (EK k) (qO a k) (cn:Int) (.lst (hs.map ah)) (rows k) (names k):=⟨fun k=>(XC k).choose,fun k=>(XC k).choose_spec.choose,fun k=>(XC k).choose_spec.choose_spec⟩
  obtain⟨R1,e1,e1'⟩:=Q7 c1 c6 hP tq iJ (ns.getD 1 0);obtain⟨R2,e2,Wh⟩:=Q7 c1 c6 hP tq iJ (ns.getD 2 0);rw[←Tf] at e1 e1' e2 Wh;have hq1:=Bc (ns.getD 3 0) (show(cn:Int)≠0 by omega);have hq2:=Fy (ns.getD 3 0) (show(0:Int)<(cn:Int) by omega);obtain⟨p,hp⟩:∃p:Nat,(p:Int)=1+ns.getD 3 0%(cn:Int):=⟨(1+ns.getD 3 0%(cn:Int)).toNat,by omega⟩
  obtain⟨T0,hT,Vd,adF⟩:=XA hA n1 n6 h6 o (p:=p) (by omega) (by omega);have aaw:=Jy c6 hhs (by omega);refine cD ?_;show EC a [some (.sh (.lst (ns.map D.int))),none,none,none,none,none,none,none,none,none,none]=_;unfold EC;refine(aE (bG (d:=.int (cn:Int)) ?_)).trans ?_
  ·simp only[ag,eC,ax,ae,ao,eV,cj,bJ,dN,hr 0 0 rfl,mw (hm6 _),mv,hc]
  simp only[ic,ie];refine(aE (bG (d:=.lst (hs.map ah)) ?_)).trans ?_
  ·have e4:((4:Nat):Int)=4:=rfl;have e12:((12:Nat):Int)=12:=rfl;rw[e4,e12] at eh;simp only[ax,eC,ae,ao,eV,cj,cN,bJ,dN,eh]
  simp only[ic,ie];refine(aE (bG (d:=.lst (hs.map ah)) ?_)).trans ?_
  ·simp only[ax,eC,ae,ao,eV,cj,cN,bJ,dN,hr 1 1 rfl,e1,e1']
  simp only[ic,ie];refine(aE (bG (d:=.lst (hs.map ah)) ?_)).trans ?_
  ·simp only[ax,eC,ae,ao,eV,cj,cN,bJ,dN,hr 2 2 rfl,e2,Wh]
  simp only[ic,ie];refine(aE ((lS ?_).trans rfl)).trans ?_
  ·simp only[mj,uV,bV,ax,aJ,ae,ao,cj,cN,bJ,dN,aaw];rfl
  refine(aE ((lS ?_).trans rfl)).trans ?_
  · have q:cF (lR 2 (cc (aD true 0) (cc (aD true 1) lQ))) eP (eV 1) (hs.map ah) (List.replicate 2 none++[])=some ((hs.map fun r=>r.2).map D.int):=by
      rw[e8];exact eW ah (D.int∘fun r=>r.2) fun x _=>⟨[some (.sh (.tup (x.1.map D.int))),some (.sh (.int x.2))],rfl,rfl,rfl⟩
    have hs1:gJ 6 [.int (ak hs),.int (hs.map fun r=>r.2).sum]=some (.sh (.bl true)):=same_int 5 _;simp only[uV,bV,ax,jN,eL,bQ,cJ,eV,ae,ao,cj,cN,bJ,dN,di,jb,ja,q,ye,du,xG,hs1];rfl
  refine(aE (bG (d:=.int (p:Int)) ?_)).trans ?_
  ·have hmc:qI (ns.getD 3 0) (cn:Int)=true:=Ec (by omega);simp only[ag,eC,ax,ae,ao,eV,aJ,cj,cN,bJ,dN,hr 3 3 rfl,mw hmc,mv,hp]
  simp only[ic,ie];refine(aE (bG (d:=.lst (T0++cf names cn)) ?_)).trans ?_
  ·simp only[ax,ae,ao,eV,cj,cN,bJ,dN,Vd]
  simp only[ic,ie];refine(aE ((lS ?_).trans rfl)).trans ?_
  ·simp only[bV,ag,ax,ae,ao,eV,aJ,cj,cN,bJ,dN,Vd,Gu adF]
  -- one place more
  have inner:∀(q:Nat),1≤q→q<cn→∀(ks:aO),(∀k∈ks,k=0∨k=1∨k=2)→∀(o8 o9 sm:eO),∃o8' o9' XD,ig (aD true 8) (sU a) (ks.map D.int) (Fs (.lst (ns.map D.int)) (cn:Int) hs (p:Int) (T0++cf names cn) (some (.sh (.int (q:Int)))) o8 o9 sm)=some (.nx (Fs (.lst (ns.map D.int)) (cn:Int) hs (p:Int) (T0++cf names cn) (some (.sh (.int (q:Int)))) o8' o9' XD)):=by
    intro q q1 q2 ks;induction ks with
    |nil=>intro _ o8 o9 sm;exact⟨o8,o9,sm,rfl⟩
    |cons k ks ih=>intro hk o8 o9 sm;obtain⟨a8,a9,Ve,hi⟩:=ih (fun y hy=>hk y (lJ _ hy)) (some (.sh (.int k))) (some (.sh (tM (names k) q))) (some (.sh (tM (names k) (q+1))));refine⟨a8,a9,Ve,?_⟩;rw[bY];unfold ig;have nM:aD true 8 (.int k) (Fs (.lst (ns.map D.int)) (cn:Int) hs (p:Int) (T0++cf names cn) (some (.sh (.int (q:Int)))) o8 o9 sm)=some (Fs (.lst (ns.map D.int)) (cn:Int) hs (p:Int) (T0++cf names cn) (some (.sh (.int (q:Int)))) (some (.sh (.int k))) o9 sm):=rfl;rw[nM];simp only[bJ,Us a o hT (.lst (ns.map D.int)) hs (p:Int) q1 q2 (hk k de) o9 sm];exact hi
  have outer:∀(l:List Nat),(∀q∈l,1≤q∧q<cn)→∀(o7 o8 o9 sm:eO),∃Qq o8' o9' XD,ig (aD true 7) (sV a) (l.map fun(q:Nat)=>D.int (q:Int)) (Fs (.lst (ns.map D.int)) (cn:Int) hs (p:Int) (T0++cf names cn) o7 o8 o9 sm)=some (.nx (Fs (.lst (ns.map D.int)) (cn:Int) hs (p:Int) (T0++cf names cn) Qq o8' o9' XD)):=by
    intro l;induction l with
    |nil=>intro _ o7 o8 o9 sm;exact⟨o7,o8,o9,sm,rfl⟩
    |cons q l ih =>
     intro hq o7 o8 o9 sm;obtain⟨q1,q2⟩:=hq q de;obtain⟨a8,a9,Ve,hi⟩:=inner q q1 q2 [0,1,2] (fun k hk=>by simpa using hk) o8 o9 sm;obtain⟨b7,b8,b9,b10,hj⟩:=ih (fun y hy=>hq y (lJ _ hy)) (some (.sh (.int (q:Int)))) a8 a9 Ve;refine⟨b7,b8,b9,b10,?_⟩;rw[bY];unfold ig;have nM:aD true 7 (.int (q:Int)) (Fs (.lst (ns.map D.int)) (cn:Int) hs (p:Int) (T0++cf names cn) o7 o8 o9 sm)=some (Fs (.lst (ns.map D.int)) (cn:Int) hs (p:Int) (T0++cf names cn) (some (.sh (.int (q:Int)))) o8 o9 sm):=rfl;rw[nM];have hg:sV a (Fs (.lst (ns.map D.int)) (cn:Int) hs (p:Int) (T0++cf names cn) (some (.sh (.int (q:Int)))) o8 o9 sm)=some (.nx (Fs (.lst (ns.map D.int)) (cn:Int) hs (p:Int) (T0++cf names cn) (some (.sh (.int (q:Int)))) a8 a9 Ve)):=by unfold sV kP;exact hi
     simp only[bJ,hg];exact hj
  obtain⟨o7,o8,o9,sm,hlp⟩:=outer (List.range' 1 (cn-1)) (fun q hq=>by
    obtain⟨i,hi,rfl⟩:=List.mem_range'.mp hq;omega) none none none none
  refine(aE (η':=Fs (.lst (ns.map D.int)) (cn:Int) hs (p:Int) (T0++cf names cn) o7 o8 o9 sm) ?_).trans rfl;unfold kP;have hrg:oC (eC (.int 1)) (aJ 1) (Fs (.lst (ns.map D.int)) (cn:Int) hs (p:Int) (T0++cf names cn) none none none none)=some ((List.range' 1 (cn-1)).map fun(q:Nat)=>D.int (q:Int)):=by
    have h4:(cn:Int)≤10000∧-10000≤(cn:Int)∧(1:Int)≤10000∧(-10000:Int)≤1:=by omega
    have e:((cn:Int)-1).toNat=cn-1:=by omega
    simp only[oC,Fs,eC,aJ,cj,cN,bJ,h4,and_self,gx,e];unfold dk;rw[List.range'_eq_map_range,e8];refine g6 some (t8 fun i _=>?_);show D.int (1+(i:Int))=D.int (((1+i:Nat)):Int)
    congr 1
  exact(g6 (Option.bind · _) hrg).trans hlp
theorem ar1{P:ef→Prop}(h:∀x0:Value,P [x0]):∀us:ef,us.length=1→P us
  |[x0],_=>h x0
theorem ar2{P:ef→Prop}(h:∀x0 x1:Value,P [x0,x1]):∀us:ef,us.length=2→P us
  |[x0,x1],_=>h x0 x1
theorem ar3{P:ef→Prop}(h:∀x0 x1 x2:Value,P [x0,x1,x2]):∀us:ef,us.length=3→P us
  |[x0,x1,x2],_=>h x0 x1 x2
theorem ar4{P:ef→Prop}(h:∀x0 x1 x2 x3:Value,P [x0,x1,x2,x3]):∀us:ef,us.length=4→P us
  |[x0,x1,x2,x3],_=>h x0 x1 x2 x3
structure DN (K:PySem.W.Frag) (x:Str) (st:Stmt) (f:Addr):Prop where
  a:nsIn K mainGlobals x=some (some (.ref f))
  e:∃fd,kE K x x st f fd
structure DM (K:PySem.W.Frag) (C:Addr) (x q:Str) (st:Stmt) (f:Addr):Prop where
  a:PySem.W.findIn K (.ref C) x=some (some (.ref f))
  i:isFn K (.ref f)=true
  e:∃fd,kE K x q st f fd
section
variable {K:PySem.W.Frag} {x q:Str} {st:Stmt} {f C:Addr} {oc:Value} {od an:Option Addr} {Hm:Array mR} {kV doc pm eQ ct:Value}
theorem cV(a:nsIn K mainGlobals x=some (some (.ref f)))(l:K.lookup f=some ⟨oc,od,.func (fnOf x x (e9 st) (dD st) (ay st) .none kV doc pm an eQ ct),Hm⟩)(c:codeIn K eQ x=true)(k:keepIn K (.ref f)=true):DN K x st f:=⟨a,_,wz l c k⟩
theorem Vf(a:PySem.W.findIn K (.ref C) x=some (some (.ref f)))(i:isFn K (.ref f)=true)(l:K.lookup f=some ⟨oc,od,.func (fnOf x q (e9 st) (dD st) (ay st) .none kV doc pm an eQ ct),Hm⟩)(c:codeIn K eQ q=true)(k:keepIn K (.ref f)=true):DM K C x q st f:=⟨a,i,_,wz l c k⟩
end
theorem cm(P:Program)(w:World)(base:Heap){K:PySem.W.Frag}{f:Addr}{ps:gq}{sp:Sp}(h:cI P w K mg base i7 n f fd ps sp)(b:Binds K fd ps [])(k:keepIn K (.ref f)=true):fV P w K mg base n f ps sp:=⟨fd,h,b,k⟩
theorem Vg{ps:gq}(h:∀x0:Value,bindArgs fd ⟨[x0],[]⟩=pure (ps.zip [x0]))(us:ef)(hl:us.length=1):bindArgs fd ⟨us,[]⟩=pure (ps.zip us):=ar1 (P:=fun us=>bindArgs fd ⟨us,[]⟩=pure (ps.zip us)) h us hl
theorem EV{ps:gq}(h:∀x0 x1:Value,bindArgs fd ⟨[x0,x1],[]⟩=pure (ps.zip [x0,x1]))(us:ef)(hl:us.length=2):bindArgs fd ⟨us,[]⟩=pure (ps.zip us):=ar2 (P:=fun us=>bindArgs fd ⟨us,[]⟩=pure (ps.zip us)) h us hl
theorem Li{ps:gq}(h:∀x0 x1 x2:Value,bindArgs fd ⟨[x0,x1,x2],[]⟩=pure (ps.zip [x0,x1,x2]))(us:ef)(hl:us.length=3):bindArgs fd ⟨us,[]⟩=pure (ps.zip us):=ar3 (P:=fun us=>bindArgs fd ⟨us,[]⟩=pure (ps.zip us)) h us hl
theorem ba4{ps:gq}(h:∀x0 x1 x2 x3:Value,bindArgs fd ⟨[x0,x1,x2,x3],[]⟩=pure (ps.zip [x0,x1,x2,x3]))(us:ef)(hl:us.length=4):bindArgs fd ⟨us,[]⟩=pure (ps.zip us):=ar4 (P:=fun us=>bindArgs fd ⟨us,[]⟩=pure (ps.zip us)) h us hl
theorem all_mk{l:PySem.W.OpenLaw}{K:PySem.W.Frag}{fa f0 f1 f2 f3 f4 f5 f6 f7 f8 f9 f10 f11 f12 f13 f14 f15 f16 f17 f18 f19 f20 f21 f22 f23 f24 f25 f26 f27 f28 f29 f30 f31 f32 f33 f34 f35 f36 f37 f38 f39 f40 f41 f42 f43 f44 f45 f46 gs aZ aR aS:Addr}(X:K.In h)(G:h.Ns mainGlobals mg)(hfa:mg "law"=some (.ref fa))(d0:DN K "heaps_of" p8 f0)(d1:DN K "ballots" rP f1)(d2:DN K "rank" z6 f2)(d3:DN K "check_count" mx f3)(d4:DN K "check_names" my f4)(d5:DN K "check_ballots" ka f5)(d6:DN K "put_together" kT f6)(d7:DN K "worth" wV f7)(d8:DN K "exchanges" oT f8)(d9:DN K "mended" uk f9)(d10:DN K "in_common" oU f10)(d11:DN K "exchanged" oV f11)(d12:DN K "best_exchange" kb f12)(d13:DN K "left_out" p9 f13)(d14:DN K "left_out_together" g7 f14)(d15:DN K "are_enough" nQ f15)(d16:DN K "with_too_few" kU f16)(d17:DN K "with_none_but" kc f17)(d18:DN K "heaps_naming_all" iy f18)(d19:DN K "largest_few" mz f19)(d20:DN K "sets_to_ask" mB f20)(d21:DN K "sets_of" rQ f21)(d22:DN K "lowest" um f22)(d23:DN K "added" wW f23)(d24:DN K "less" z7 f24)(d25:DN K "common_divisor" jB f25)(d26:DN K "ballots_naming" jC f26)(d27:DN K "names_of" qb f27)(d28:DN K "unseated" qc f28)(d29:DN K "next_turn" oW f29)(d30:DN K "next_load" oX f30)(d31:DN K "comes_ahead" mC f31)(d32:DN K "load_of_name" kW f32)(d33:DN K "load_of_heap" kX f33)(d34:DN K "_law_cell_at" wX f34)(d35:DN K "_law_mixed" Er f35)(d36:DN K "_law_set" Qd f36)(d37:DN K "_law_heaps" Es f37)(d38:DN K "_law_same" s_same f38)(d39:DN K "_law_rows" II f39)(d40:DN K "_law_told" IJ f40){adK aaB:Option Addr}{adL:Array mR}{adM aaC aaD aaE XE aaF:Value}(a41:nsIn K mainGlobals "law"=some (some (.ref f41)))(l41:K.lookup f41=some ⟨adM,adK,.func (fnOf "law" "law" (e9 m7) (dD m7) (ay m7) .none aaC aaD aaE aaB XE aaF),adL⟩)(c41:codeIn K XE "law"=true)(k41:keepIn K (.ref f41)=true)(d42:DM K aZ "bench" "Way.bench" oY f42){adQ adR:Option Addr}{adS:Array mR}{adT adU adV adW XF adX:Value}(XG:PySem.W.findIn K (.ref aZ) "order"=some (some (.ref f43)))(i43:isFn K (.ref f43)=true)(X9:K.lookup f43=some ⟨adT,adQ,.func (fnOf "order" "Most.order" (e9 bN) (dD bN) (ay bN) .none adU adV adW adR XF adX),adS⟩)(c43:codeIn K XF "Most.order"=true)(k43:keepIn K (.ref f43)=true)(d44:DM K aZ "seated" "Way.seated" nR f44){adZ ad0:Option Addr}{ad1:Array mR}{ad2 ad3 ad4 ad5 aaH ad6:Value}(Yb:PySem.W.findIn K (.ref aR) "order"=some (some (.ref f45)))(i45:isFn K (.ref f45)=true)(l45:K.lookup f45=some ⟨ad2,adZ,.func (fnOf "order" "Turns.order" (e9 eX) (dD eX) (ay eX) .none ad3 ad4 ad5 ad0 aaH ad6),ad1⟩)(c45:codeIn K aaH "Turns.order"=true)(k45:keepIn K (.ref f45)=true){ad9 aea:Option Addr}{aeb:Array mR}{aec aed aee aef aaK aeg:Value}(a46:PySem.W.findIn K (.ref aS) "order"=some (some (.ref f46)))(i46:isFn K (.ref f46)=true)(l46:K.lookup f46=some ⟨aec,ad9,.func (fnOf "order" "Loads.order" (e9 eY) (dD eY) (ay eY) .none aed aee aef aea aaK aeg),aeb⟩)(c46:codeIn K aaK "Loads.order"=true)(k46:keepIn K (.ref f46)=true){EW:Option Addr}{xW:Nat}{EX:Array mR}{vX vY vZ v3 v5 v7 v8:Tok}(sx:nsIn K mainGlobals "SIXTIETHS"=some (some (.ref gs)))(sy:K.lookup gs=some ⟨.type "tuple",EW,.seq #[.int 0 vX,.int 60 vY,.int 90 vZ,.int 110 v3,.int 125 v5,.int 137 v7,.int 147 v8] xW,EX⟩){t7:Tok}(qt:nsIn K mainGlobals "MOST_NAMES"=some (some (.int 6 t7)))(Jz:nsIn K mainGlobals "bool"=some none)(Ra:nsIn K mainGlobals "int"=some none)(qu:nsIn K mainGlobals "isinstance"=some none)(Rb:nsIn K mainGlobals "len"=some none)(JA:nsIn K mainGlobals "list"=some none)(Rc:nsIn K mainGlobals "min"=some none)(EY:nsIn K mainGlobals "range"=some none)(uD:nsIn K mainGlobals "reversed"=some none)(Rf:nsIn K mainGlobals "set"=some none)(AO:nsIn K mainGlobals "sorted"=some none)(Rg:nsIn K mainGlobals "str"=some none)(Rh:nsIn K mainGlobals "sum"=some none)(EZ:nsIn K mainGlobals "tuple"=some none)(JB:nsIn K mainGlobals "Most"=some (some (.ref aZ)))(Fb:nsIn K mainGlobals "Turns"=some (some (.ref aR)))(Fc:nsIn K mainGlobals "Loads"=some (some (.ref aS)))(Fd:plainGet K aZ Str.empty=true)(Fe:hasDictIn K aZ=true)(Ff:plainOver K aZ=true)(Fg:PySem.W.findIn K (.ref aZ) "__setattr__"=some (some (.builtin "object.__setattr__")))(vq:makesIn K aZ=true)(Fh:PySem.W.findIn K (.ref aZ) "__init__"=some (some (.builtin "object.__init__")))(Fi:keepIn K (.ref aZ)=true)(AQ:plainGet K aR Str.empty=true)(AR:hasDictIn K aR=true)(AU:plainOver K aR=true)(AV:PySem.W.findIn K (.ref aR) "__setattr__"=some (some (.builtin "object.__setattr__")))(rS:makesIn K aR=true)(AW:PySem.W.findIn K (.ref aR) "__init__"=some (some (.builtin "object.__init__")))(AX:keepIn K (.ref aR)=true)(pB:PySem.W.findIn K (.ref aR) "bench"=some (some (.ref f42)))(oh:PySem.W.findIn K (.ref aR) "seated"=some (some (.ref f44)))(AY:plainGet K aS Str.empty=true)(AZ:hasDictIn K aS=true)(A0:plainOver K aS=true)(A1:PySem.W.findIn K (.ref aS) "__setattr__"=some (some (.builtin "object.__setattr__")))(rX:makesIn K aS=true)(A2:PySem.W.findIn K (.ref aS) "__init__"=some (some (.builtin "object.__init__")))(A3:keepIn K (.ref aS)=true)(pC:PySem.W.findIn K (.ref aS) "bench"=some (some (.ref f42)))(om:PySem.W.findIn K (.ref aS) "seated"=some (some (.ref f44))){Ry TJ:Addr}(XH:XF=.ref Ry)(aaO:h.get? TJ=some (PySem.W.tabObj #[]))(Ut:md K=some (Ry,TJ))(XI:PySem.W.codeHdIn K Ry TJ=true):∃fd:FuncData,(∀(s:Shared) (v:Value),BindsTo s fd ⟨[v],[]⟩ [("_law_script",v)])∧∀(base:Heap) (c T:Addr),md K=some (c,T)→K.In base→base.Ns mainGlobals mg→base.BuiltinsAt mg T→cI l.prog w K mg base i7 10 fa fd ["_law_script"] (Xa K):=by
  subst XH;have e:=hfa.symm.trans (mg_of X G a41);cases e;obtain⟨a0,_,E0⟩:=d0;obtain⟨a1,_,E1⟩:=d1;obtain⟨a2,_,E2⟩:=d2;obtain⟨a3,_,E3⟩:=d3;obtain⟨a4,_,E4⟩:=d4;obtain⟨a5,_,E5⟩:=d5;obtain⟨a6,_,E6⟩:=d6;obtain⟨a7,_,E7⟩:=d7;obtain⟨a8,_,E8⟩:=d8;obtain⟨a9,_,E9⟩:=d9;obtain⟨Ve,_,E10⟩:=d10;obtain⟨a11,_,E11⟩:=d11;obtain⟨a12,_,E12⟩:=d12;obtain⟨a13,_,E13⟩:=d13;obtain⟨a14,_,E14⟩:=d14;obtain⟨a15,_,E15⟩:=d15;obtain⟨a16,_,E16⟩:=d16;obtain⟨a17,_,E17⟩:=d17;obtain⟨a18,_,E18⟩:=d18;obtain⟨a19,_,E19⟩:=d19;obtain⟨a20,_,E20⟩:=d20;obtain⟨a21,_,E21⟩:=d21;obtain⟨a22,_,E22⟩:=d22;obtain⟨a23,_,E23⟩:=d23;obtain⟨a24,_,E24⟩:=d24;obtain⟨a25,_,E25⟩:=d25;obtain⟨a26,_,E26⟩:=d26;obtain⟨a27,_,E27⟩:=d27;obtain⟨a28,_,E28⟩:=d28;obtain⟨a29,_,E29⟩:=d29;obtain⟨a30,_,E30⟩:=d30;obtain⟨a31,_,E31⟩:=d31;obtain⟨a32,_,E32⟩:=d32;obtain⟨a33,_,E33⟩:=d33;obtain⟨a34,_,E34⟩:=d34;obtain⟨a35,_,E35⟩:=d35;obtain⟨a36,_,E36⟩:=d36;obtain⟨a37,_,E37⟩:=d37;obtain⟨a38,_,E38⟩:=d38;obtain⟨a39,_,E39⟩:=d39;obtain⟨a40,_,E40⟩:=d40;obtain⟨a42,i42,_,Yc⟩:=d42;obtain⟨a44,i44,_,Yd⟩:=d44;have m:∀{x v},nsIn K mainGlobals x=some (some v)→mg x=some v:=mg_of X G;have mn:∀{x},nsIn K mainGlobals x=some none→mg x=none:=PySem.W.mg_none_of X G
  let a:yi:=⟨f0,f1,f2,f3,f4,f5,f6,f7,f8,f9,f10,f11,f12,f13,f14,f15,f16,f17,f18,f19,f20,f21,f22,f23,f24,f25,f26,f27,f28,f29,f30,f31,f32,f33,f34,f35,f36,f37,f38,f39,f40,fa,f42,f43,f44,f45,f46,gs,aZ,aR,aS,Ry,TJ⟩
  have T:Txt K mg a:=⟨m a0,m a1,m a2,m a3,m a4,m a5,m a6,m a7,m a8,m a9,m Ve,m a11,m a12,m a13,m a14,m a15,m a16,m a17,m a18,m a19,m a20,m a21,m a22,m a23,m a24,m a25,m a26,m a27,m a28,m a29,m a30,m a31,m a32,m a33,m a34,m a35,m a36,m a37,m a38,m a39,m a40,m a41,m JB,m Fb,m Fc,⟨Fd,Fe,Ff,Fg⟩,⟨vq,Fh,Fi⟩,⟨a42,i42,Yc.kp⟩,⟨XG,i43,k43⟩,⟨a44,i44,Yd.kp⟩,⟨AQ,AR,AU,AV⟩,⟨rS,AW,AX⟩,⟨pB,i42,Yc.kp⟩,⟨Yb,i45,k45⟩,⟨oh,i44,Yd.kp⟩,⟨AY,AZ,A0,A1⟩,⟨rX,A2,A3⟩,⟨pC,i42,Yc.kp⟩,⟨a46,i46,k46⟩,⟨om,i44,Yd.kp⟩,m sx,(fun H=>.inr ⟨_,_,xW,sy,rfl,rfl,(by show 7≤sizeLine;decide),(.cons ⟨vX,rfl⟩ (.cons ⟨vY,rfl⟩ (.cons ⟨vZ,rfl⟩ (.cons ⟨v3,rfl⟩ (.cons ⟨v5,rfl⟩ (.cons ⟨v7,rfl⟩ (.cons ⟨v8,rfl⟩ .nil)))))))⟩),⟨t7,m qt⟩,mn Jz,mn Ra,mn qu,mn Rb,mn JA,mn Rc,mn EY,mn uD,mn Rf,mn AO,mn Rg,mn Rh,mn EZ,XI,Ut⟩
  have b0:=E0.binds (ps:=["count","rows"]) fun _ _ _ _ _ _=>EV fun _ _=>rfl;have b1:=E1.binds (ps:=["heaps"]) fun _ _ _ _ _ _=>Vg fun _=>rfl;have b2:=E2.binds (ps:=["names"]) fun _ _ _ _ _ _=>Vg fun _=>rfl;have b3:=E3.binds (ps:=["count"]) fun _ _ _ _ _ _=>Vg fun _=>rfl;have b4:=E4.binds (ps:=["count","rows"]) fun _ _ _ _ _ _=>EV fun _ _=>rfl;have b5:=E5.binds (ps:=["rows"]) fun _ _ _ _ _ _=>Vg fun _=>rfl;have b6:=E6.binds (ps:=["rows"]) fun _ _ _ _ _ _=>Vg fun _=>rfl;have b7:=E7.binds (ps:=["heaps","names"]) fun _ _ _ _ _ _=>EV fun _ _=>rfl;have b8:=E8.binds (ps:=["count","heaps","bench"]) fun _ _ _ _ _ _=>Li fun _ _ _=>rfl;have b9:=E9.binds (ps:=["count","heaps","bench"]) fun _ _ _ _ _ _=>Li fun _ _ _=>rfl;have b10:=E10.binds (ps:=["one","two"]) fun _ _ _ _ _ _=>EV fun _ _=>rfl;have b11:=E11.binds (ps:=["bench","leaving","coming"]) fun _ _ _ _ _ _=>Li fun _ _ _=>rfl;have b12:=E12.binds (ps:=["count","heaps","bench"]) fun _ _ _ _ _ _=>Li fun _ _ _=>rfl;have b13:=E13.binds (ps:=["count","heaps","bench"]) fun _ _ _ _ _ _=>Li fun _ _ _=>rfl;have b14:=E14.binds (ps:=["count","heaps","bench"]) fun _ _ _ _ _ _=>Li fun _ _ _=>rfl;have b15:=E15.binds (ps:=["some","heaps","bench","names"]) fun _ _ _ _ _ _=>ba4 fun _ _ _ _=>rfl;have b16:=E16.binds (ps:=["heaps","bench","names"]) fun _ _ _ _ _ _=>Li fun _ _ _=>rfl;have b17:=E17.binds (ps:=["heaps","bench","names","few"]) fun _ _ _ _ _ _=>ba4 fun _ _ _ _=>rfl;have b18:=E18.binds (ps:=["heaps","names"]) fun _ _ _ _ _ _=>EV fun _ _=>rfl;have b19:=E19.binds (ps:=["bench","names"]) fun _ _ _ _ _ _=>EV fun _ _=>rfl;have b20:=E20.binds (ps:=["count"]) fun _ _ _ _ _ _=>Vg fun _=>rfl;have b21:=E21.binds (ps:=["names"]) fun _ _ _ _ _ _=>Vg fun _=>rfl;have b22:=E22.binds (ps:=["top","bottom"]) fun _ _ _ _ _ _=>EV fun _ _=>rfl;have b23:=E23.binds (ps:=["one","two"]) fun _ _ _ _ _ _=>EV fun _ _=>rfl;have b24:=E24.binds (ps:=["one","two"]) fun _ _ _ _ _ _=>EV fun _ _=>rfl;have b25:=E25.binds (ps:=["one","two"]) fun _ _ _ _ _ _=>EV fun _ _=>rfl;have b26:=E26.binds (ps:=["heaps","name"]) fun _ _ _ _ _ _=>EV fun _ _=>rfl;have b27:=E27.binds (ps:=["rows"]) fun _ _ _ _ _ _=>Vg fun _=>rfl;have b28:=E28.binds (ps:=["count","rows"]) fun _ _ _ _ _ _=>EV fun _ _=>rfl;have b29:=E29.binds (ps:=["count","heaps","rows"]) fun _ _ _ _ _ _=>Li fun _ _ _=>rfl;have b30:=E30.binds (ps:=["count","heaps","rows"]) fun _ _ _ _ _ _=>Li fun _ _ _=>rfl;have b31:=E31.binds (ps:=["one","two"]) fun _ _ _ _ _ _=>EV fun _ _=>rfl;have b32:=E32.binds (ps:=["heaps","rows","name"]) fun _ _ _ _ _ _=>Li fun _ _ _=>rfl;have b33:=E33.binds (ps:=["names","rows"]) fun _ _ _ _ _ _=>EV fun _ _=>rfl;have b34:=E34.binds (ps:=["_law_script","_law_k"]) fun _ _ _ _ _ _=>EV fun _ _=>rfl;have b35:=E35.binds (ps:=["_law_cell","_law_place"]) fun _ _ _ _ _ _=>EV fun _ _=>rfl;have b36:=E36.binds (ps:=["_law_bits","_law_count"]) fun _ _ _ _ _ _=>EV fun _ _=>rfl;have b37:=E37.binds (ps:=["_law_script","_law_at","_law_most","_law_count"]) fun _ _ _ _ _ _=>ba4 fun _ _ _ _=>rfl;have b38:=E38.binds (ps:=["_law_found","_law_due"]) fun _ _ _ _ _ _=>EV fun _ _=>rfl;have b39:=E39.binds (ps:=["_law_heaps_here","_law_cell"]) fun _ _ _ _ _ _=>EV fun _ _=>rfl;have b40:=E40.binds (ps:=["_law_count","_law_heaps_here","_law_places"]) fun _ _ _ _ _ _=>Li fun _ _ _=>rfl;have E41:=wz (st:=m7) l41 c41 k41;have b42:=Yc.binds (ps:=["self","count","heaps","places"]) fun _ _ _ _ _ _=>ba4 fun _ _ _ _=>rfl;have E43:=wz (st:=bN) X9 c43 k43;have b43:=E43.binds (ps:=["self","count","heaps"]) fun _ _ _ _ _ _=>Li fun _ _ _=>rfl;have b44:=Yd.binds (ps:=["self","count","heaps","places"]) fun _ _ _ _ _ _=>ba4 fun _ _ _ _=>rfl;have E45:=wz (st:=eX) l45 c45 k45;have b45:=E45.binds (ps:=["self","count","heaps"]) fun _ _ _ _ _ _=>Li fun _ _ _=>rfl;have E46:=wz (st:=eY) l46 c46 k46;have b46:=E46.binds (ps:=["self","count","heaps"]) fun _ _ _ _ _ _=>Li fun _ _ _=>rfl;have BQ:aZ≠aR:=fun e=>by rw[e] at XG;exact IC (by decide) (XG.symm.trans Yb) X9 l45
  have BR:aZ≠aS:=fun e=>by rw[e] at XG;exact IC (by decide) (XG.symm.trans a46) X9 l46
  have A4:aR≠aS:=fun e=>by rw[e] at Yb;exact IC (by decide) (Yb.symm.trans a46) l45 l46
  have hA:xQ a:=⟨BQ,BR,A4⟩
  refine⟨fnOf "law" "law" (e9 m7) (dD m7) (ay m7) .none aaC aaD aaE aaB XE aaF,fun s v=>.of_eq rfl,fun base c0 T0 t0 _ _ hB=>?_⟩;have hB0:base.BuiltinsAt mg a.TJ:=by have e:=Ut.symm.trans t0;cases e;exact hB
  have C5:=cm l.prog w base (uo E5 T) b5 E5.kp;have C3:=cm l.prog w base (w5 E3 T) b3 E3.kp;have C4:=cm l.prog w base (w6 E4 T) b4 E4.kp;have C6:=cm l.prog w base (vt E6 T) b6 E6.kp;have C2:=cm l.prog w base (MT E2 T) b2 E2.kp;have C0:=cm l.prog w base (BG E0 T C5 C3 C4 C6 C2) b0 E0.kp;have C1:=cm l.prog w base (Ey E1 T) b1 E1.kp;have C10:=cm l.prog w base (Ad E10 T) b10 E10.kp;have C7:=cm l.prog w base (IU E7 T C10) b7 E7.kp;have C11:=cm l.prog w base (Ae E11 T) b11 E11.kp;have C8:=cm l.prog w base (Af E8 T C11 C7) b8 E8.kp;have C12:=cm l.prog w base (uq E12 T C8) b12 E12.kp;have C9:=cm l.prog w base (GV E9 T C12 C11) b9 E9.kp;have C15:=cm l.prog w base (yp E15 T C1) b15 E15.kp;have C21:=cm l.prog w base (EA E21 T C2) b21 E21.kp;have C20:=cm l.prog w base (xg E20 T C21) b20 E20.kp;have C18:=cm l.prog w base (qL E18 T C10) b18 E18.kp;have C16:=cm l.prog w base (vx E16 T C18 C10) b16 E16.kp;have C13:=cm l.prog w base (BI E13 T C15 C20 C16) b13 E13.kp;have C19:=cm l.prog w base (xj E19 T C21) b19 E19.kp;have C17:=cm l.prog w base (uv E17 T C18 C10) b17 E17.kp;have C14:=cm l.prog w base (qh E14 T C15 C19 C20 C17) b14 E14.kp;have C25:=cm l.prog w base (tJ E25 T) b25 E25.kp;have C22:=cm l.prog w base (GW E22 T C25) b22 E22.kp;have C23:=cm l.prog w base (IW E23 T C22) b23 E23.kp;have C24:=cm l.prog w base (MX E24 T) b24 E24.kp;have C26:=cm l.prog w base (tL E26 T) b26 E26.kp;have C27:=cm l.prog w base (BK E27 T) b27 E27.kp;have C28:=cm l.prog w base (BM E28 T C27) b28 E28.kp;have C29:=cm l.prog w base (Ah E29 T C27 C28 C7) b29 E29.kp;have C31:=cm l.prog w base (xn E31 T C24) b31 E31.kp;have C33:=cm l.prog w base (vA E33 T) b33 E33.kp;have C32:=cm l.prog w base (vC E32 T C23 C26 C33 C22) b32 E32.kp;have C30:=cm l.prog w base (Ai E30 T C31 C32 C28) b30 E30.kp;have C34:=cm l.prog w base (IY E34 T) b34 E34.kp;have C35:=cm l.prog w base (Qf E35 T) b35 E35.kp;have C36:=cm l.prog w base (Xd E36 T) b36 E36.kp;have C37:=cm l.prog w base (Qg E37 T C34 C35 C36) b37 E37.kp;have C38:fV l.prog w K mg base 7 a.mD ["_law_found","_law_due"] (cL K [false,false] (gJ 6)):=GX E38 T b38 E38.kp  6;have C39:=cm l.prog w base (TK E39 T C35) b39 E39.kp;have C46:=cm l.prog w base (xu E46 T C30) b46 k46;have C43:=cm l.prog w base (yt X9 c43 T hB0 C26) b43 k43;have C45:=cm l.prog w base (xx E45 T C29) b45 k45;have C44:=cm l.prog w base (yw Yd T C46 C43 C45 C27) b44 Yd.kp;have C42:=cm l.prog w base (Am Yc T C44) b42 Yc.kp;have C40:=cm l.prog w base (TL E40 T C46 C43 C45 C42 C13 C14 C9) b40 E40.kp;exact(Qh E41 T C34 C37 C39 C38 C40 C1 C0).imp fun vs H Q E q=>q (ED a) fun ns hl=>Q9 a hA ns hl
theorem Uu{K:PySem.W.Frag}{c T cM fM:Addr}{sl:Array mR}{kV dc:Value}(X:K.In h)(aC:nsIn K mainGlobals "Most"=some (some (.ref cM)))(aM:PySem.W.findIn K (.ref cM) "order"=some (some (.ref fM)))(lM:K.lookup fM=some ⟨oc,od,.func (fnOf "order" "Most.order" (e9 bN) (dD bN) (ay bN) .none kV dc pm an (.ref c) ct),sl⟩)(tn:md K=some (c,T))(hd:PySem.W.codeHdIn K c T=true)(ln:K.lookup T=none)(hP:h.get? T=some (PySem.W.tabObj #[])):∃c T,h.TableAt c T #[]∧K.lookup T=none∧md K=some (c,T) :=
  ⟨c,T,(PySem.W.codeHd_of_K X hd).tab hP,ln,tn⟩
theorem walk{l:PySem.W.OpenLaw}{q:Program}{loose:gq}{d:DefRec}{K:Params→PySem.W.Frag}(hn:l.most=some 63)(YY:d.params.defaults=[])(hY:∀(w:World) (h:Heap),YP w h→(K w.params).In h)(hYT:∀(w:World) (h:Heap),YP w h→∃c T,h.TableAt c T #[]∧(K w.params).lookup T=none∧md (K w.params)=some (c,T))(F:∀(w:World) (mg:Str→mR) (fa:Addr) (h:Heap),YP w h→(K w.params).In h→h.Ns mainGlobals mg→mg d.name=some (.ref fa)→∃fd:FuncData,(∀(s:Shared) (u:Value),BindsTo s fd ⟨[u],[]⟩ [("_law_script",u)])∧∀(base:Heap) (c T:Addr),md (K w.params)=some (c,T)→(K w.params).In base→base.Ns mainGlobals mg→base.BuiltinsAt mg T→cI l.prog w (K w.params) mg base i7 10 fa fd ["_law_script"] (Xa (K w.params))):PySem.W.WalkO q loose XP YP l.row.toRowW d [] (fun f vs=>PySem.call f vs) :=
  L2.P7 (n:=63) (k:=10) (x:="_law_script") (CX:=fun _=>i7) (sp:=fun w=>Xa (K w.params)) hn (by decide) YY ⟨rfl,by decide,by decide⟩ hY hYT F (fun _ H a ns hl hO hT hS=>fun Fn hF=>Tz hO hT hS (hF ns hl)) fun _ _ _ _ _ z=>z
end nP
open PySem PySem.W PyProof.Rows
set_option maxRecDepth 100000 in
set_option maxHeartbeats 0 in
theorem PySem.Challenge.cw_fairbench_k64_whole_order_and_parts_of_h_holds : PySem.Challenge.rw_fairbench_k64_whole_order_and_parts_of_h.Holds := by
  w_on;o_law
  refine holds_open (r:=PySem.Challenge.rw_fairbench_k64_whole_order_and_parts_of_h.row) (q:=HH.qv) (loose:=[]) (Xt:=fun s=>xlAt HH.qv [] s&&recOk (RowW.records PySem.Challenge.rw_fairbench_k64_whole_order_and_parts_of_h.row.toRowW) s)
    (XP:=XL HH.qv []) (Yf:=(kmHook HH.KH HH.Ri HH.Dn [280]).obs) (Ya:=(kmHook HH.KH HH.Ri HH.Dn [280]).val) (YP:=(kmHook HH.KH HH.Ri HH.Dn [280]).says) (N:=6904) HH.Yj (kmHook HH.KH HH.Ri HH.Dn [280]).of (kmHook HH.KH HH.Ri HH.Dn [280]).keeps
    (fun s h=>xl_of s (Bool.and_eq_true_iff.mp h).1) XL.keeps (by rfl) (by rfl) (by rfl)
    (fun s h=>recFacts_of (Bool.and_eq_true_iff.mp h).2) (by rfl)
    (by first|assumption|decide +kernel)
    (by decide +kernel) ⟨rfl,rfl,rfl,rfl,rfl,by decide +kernel⟩ ?hw ?hc
  (case hw=>w_witness2)
  k_fill
  refine nP.walk (l:=PySem.Challenge.rw_fairbench_k64_whole_order_and_parts_of_h) rfl rfl (fun w h Y=>km_in_of Y) ?TT ?F
  case TT =>
    intro w h Y;have KX:=km_in_of Y;refine' nP.Uu KX ?afl ?afm ?afn ?afo ?afp ?afq ?afr
    (case afl|afm|afn=>k_is)
    (case afr=>exact km_tabs_of Y _ de)
    (case afo|afp|afq=>kernel_rfl)
  case F =>
    intro w mg fa h Y KX G YZ;refine' nP.all_mk KX G YZ (nP.cV ?a0 ?l0 ?c0 ?k0) (nP.cV ?a1 ?l1 ?c1 ?k1) (nP.cV ?a2 ?l2 ?c2 ?k2) (nP.cV ?a3 ?l3 ?c3 ?k3) (nP.cV ?a4 ?l4 ?c4 ?k4) (nP.cV ?a5 ?l5 ?c5 ?k5) (nP.cV ?a6 ?l6 ?c6 ?k6) (nP.cV ?a7 ?l7 ?c7 ?k7) (nP.cV ?a8 ?l8 ?c8 ?k8) (nP.cV ?a9 ?l9 ?c9 ?k9) (nP.cV ?Ve ?l10 ?c10 ?k10) (nP.cV ?a11 ?l11 ?c11 ?k11) (nP.cV ?a12 ?l12 ?c12 ?k12) (nP.cV ?a13 ?l13 ?c13 ?k13) (nP.cV ?a14 ?l14 ?c14 ?k14) (nP.cV ?a15 ?l15 ?c15 ?k15) (nP.cV ?a16 ?l16 ?c16 ?k16) (nP.cV ?a17 ?l17 ?c17 ?k17) (nP.cV ?a18 ?l18 ?c18 ?k18) (nP.cV ?a19 ?l19 ?c19 ?k19) (nP.cV ?a20 ?l20 ?c20 ?k20) (nP.cV ?a21 ?l21 ?c21 ?k21) (nP.cV ?a22 ?l22 ?c22 ?k22) (nP.cV ?a23 ?l23 ?c23 ?k23) (nP.cV ?a24 ?l24 ?c24 ?k24) (nP.cV ?a25 ?l25 ?c25 ?k25) (nP.cV ?a26 ?l26 ?c26 ?k26) (nP.cV ?a27 ?l27 ?c27 ?k27) (nP.cV ?a28 ?l28 ?c28 ?k28) (nP.cV ?a29 ?l29 ?c29 ?k29) (nP.cV ?a30 ?l30 ?c30 ?k30) (nP.cV ?a31 ?l31 ?c31 ?k31) (nP.cV ?a32 ?l32 ?c32 ?k32) (nP.cV ?a33 ?l33 ?c33 ?k33) (nP.cV ?a34 ?l34 ?c34 ?k34) (nP.cV ?a35 ?l35 ?c35 ?k35) (nP.cV ?a36 ?l36 ?c36 ?k36) (nP.cV ?a37 ?l37 ?c37 ?k37) (nP.cV ?a38 ?l38 ?c38 ?k38) (nP.cV ?a39 ?l39 ?c39 ?k39) (nP.cV ?a40 ?l40 ?c40 ?k40) ?a41 ?l41 ?c41 ?k41 (nP.Vf ?a42 ?i42 ?l42 ?c42 ?k42) ?XG ?i43 ?X9 ?c43 ?k43 (nP.Vf ?a44 ?i44 ?l44 ?c44 ?k44) ?Yb ?i45 ?l45 ?c45 ?k45 ?a46 ?i46 ?l46 ?c46 ?k46 ?sx ?sy ?qt ?Jz ?Ra ?qu ?Rb ?JA ?Rc ?EY ?uD ?Rf ?AO ?Rg ?Rh ?EZ ?JB ?Fb ?Fc ?Fd ?Fe ?Ff ?Fg ?vq ?Fh ?Fi ?AQ ?AR ?AU ?AV ?rS ?AW ?AX ?pB ?oh ?AY ?AZ ?A0 ?A1 ?rX ?A2 ?A3 ?pC ?om ?XH ?aaO ?Ut ?XI
    (case JB|Fb|Fc|a0|l0|c0|k0|a1|l1|c1|k1|a2|l2|c2|k2|a3|l3|c3|k3|a4|l4|c4|k4|a5|l5|c5|k5|a6|l6|c6|k6|a7|l7|c7|k7|a8|l8|c8|k8|a9|l9|c9|k9|Ve|l10|c10|k10|a11|l11|c11|k11|a12|l12|c12|k12|a13|l13|c13|k13|a14|l14|c14|k14|a15|l15|c15|k15|a16|l16|c16|k16|a17|l17|c17|k17|a18|l18|c18|k18|a19|l19|c19|k19|a20|l20|c20|k20|a21|l21|c21|k21|a22|l22|c22|k22|a23|l23|c23|k23|a24|l24|c24|k24|a25|l25|c25|k25|a26|l26|c26|k26|a27|l27|c27|k27|a28|l28|c28|k28|a29|l29|c29|k29|a30|l30|c30|k30|a31|l31|c31|k31|a32|l32|c32|k32|a33|l33|c33|k33|a34|l34|c34|k34|a35|l35|c35|k35|a36|l36|c36|k36|a37|l37|c37|k37|a38|l38|c38|k38|a39|l39|c39|k39|a40|l40|c40|k40|a41|l41|c41|k41|a42|i42|l42|c42|k42|XG|i43|X9|c43|k43|a44|i44|l44|c44|k44|Yb|i45|l45|c45|k45|a46|i46|l46|c46|k46|sx|sy|qt|Jz|Ra|qu|Rb|JA|Rc|EY|uD|Rf|AO|Rg|Rh|EZ|Fd|Fe|Ff|Fg|vq|Fh|Fi|AQ|AR|AU|AV|rS|AW|AX|pB|oh|AY|AZ|A0|A1|rX|A2|A3|pC|om=>k_is)
    (case XH=>rfl)
    (case aaO=>exact km_tabs_of Y _ de)
    (case Ut|XI=>kernel_rfl)
